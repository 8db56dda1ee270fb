import PyProof.Rows.All
import Wide.All
import OpenK.AllK
import Wide.FinOn
import Lean
import PyProof.EqAt
import PyProof.EqKinds
import PyProof.TupleCall
import PySem.Challenge.RW_stemshelf_k27_drafts_laid
set_option compiler.extract_closed false
set_option Elab.async false
set_option linter.all false
set_option maxRecDepth 100000
def aS:=@List.length_map
def aT:=@List.mem_map
def aU:=@PySem.wpAny_bind
def aV:=@PySem.Heap.get?_push_of_some
def aW:=@List.getElem?_eq_getElem
def aX:=@PySem.wpAny_pure
def aY:=@List.mem_append
def aZ:=@Nat.le_refl
def a8:=@List.mem_of_getElem?
def a9:=@List.mem_cons_of_mem
def ba:=@List.mem_singleton
def bc:=@List.mem_cons_self
def bf:=@Option.some.inj
def bg:=@List.map_cons
def bh:=@decide_eq_true
def bq:=@decide_eq_true_eq
def bu:=@List.getElem?_eq_some_iff
def bw:=@List.map_map
def bx:=@List.length_append
def bz:=@List.getElem?_map
def bA:=@List.map_append
def bB:=@PySem.Heap.get?_push_size
def bC:=@Bool.false_ne_true
def bD:=@decide_eq_false
def bE:=@List.mem_cons
def bF:=@if_pos
def bG:=@PySem.Heap.lt_size
def bH:=@if_neg
def bI:=@Nat.ne_of_lt
def bJ:=@List.take_of_length_le
def bL:=@Bool.and_eq_true
def bM:=@List.mem_filter
def bN:=@List.take_add_one
def bO:=@Nat.lt_of_lt_of_le
def bP:=@of_decide_eq_true
def bQ:=@Nat.le_trans
def bR:=@List.filter_cons_of_pos
def bS:=@List.filter_cons_of_neg
def bT:=@List.length_cons
def bU:=@Nat.zero_le
def bV:=@List.size_toArray
def bW:=@List.length_filter_le
def bX:=@List.all_eq_true
def bY:=@List.length_range
def bZ:=@List.nodup_cons
def b4:=@PySem.wpAny_mono
def b5:=@PySem.PassesOwn.never
def b6:=@List.length_take
def b7:=@PySem.F.plainAttrs_list
def b8:=@List.mem_append_right
def b9:=@List.nodup_append
def cf:=@PySem.Heap.size_push
def cg:=@List.count_eq_zero
def cj:=@PySem.wpAny_holding
def cm:=@List.append_nil
def cn:=@List.append_assoc
def cq:=@Bool.eq_iff_iff
def cu:=@List.getElem?_eq_none
def cv:=@Array.length_toList
def cw:=@List.getElem?_append_left
def cy:=@Option.map_eq_some_iff
def cz:=@List.getElem?_of_mem
def cA:=@List.nodup_nil
def cB:=@PySem.Heap.get?_update_other
def cC:=@PySem.Calls.callWith_builtin
def cD:=@List.map_congr_left
def cE:=@PySem.wpAny_newObj_type
def cF:=@PySem.Calls.spliced_cons
def cG:=@PySem.Around.under_plainId
def cH:=@PySem.mem_of_lookup
def cI:=@Sum.inl.inj
def cJ:=@Nat.lt_succ_of_lt
def cL:=@PySem.W.kia_one
def cM:=@Int.emod_nonneg
def cO:=@PySem.wpAny_truthy_bool
def cP:=@PySem.Heap.get?_update_self
def cQ:=@PySem.F.plainAttrs_dict
def cR:=@List.any_eq_true
def cS:=@PySem.codeAny_builtin
def cT:=@PySem.wpAny_call_entry
def cU:=@PySem.sizeLine_eq
def cV:=@beq_iff_eq
def cW:=@Option.map_eq_none_iff
def cX:=@List.mem_range
def cY:=@List.getElem?_append_right
def cZ:=@beq_eq_false_iff_ne
def c9:=@List.filter_sublist
def dc:=@List.filter_eq_self
def df:=@List.length_singleton
def dg:=@List.find?_eq_none
def dh:=@List.filter_append
def di:=@PySem.wpAny_ite_split
def dk:=@Nat.lt_irrefl
def dm:=@List.eq_nil_of_length_eq_zero
def dq:=@List.filter_map
def dr:=@PySem.Calls.evalArgs_plain
def du:=@PySem.F.plain_max_loop
def dv:=@List.take_length
def dw:=@Int.emod_lt_of_pos
def dy:=@PySem.F.slot_dict_pop
def dA:=@PySem.F.slot_dict_get
def dB:=@List.length_replicate
def dC:=@PySem.codeAny_mono
def dD:=@PySem.plainId_quiet
def dE:=@List.drop_eq_getElem_cons
def dF:=@List.find?_cons
def dG:=@PySem.wpAny_Call_Name_kw
def dH:=@List.set_set
def dI:=@List.ext_getElem?
def dJ:=@PySem.F.type_list_append
def dM:=@PySem.F.slot_list_append
def dO:=@PySem.W.hideAll_get
def dP:=@PySem.wpAny_pyIter_list
def dQ:=@PySem.wpAny_Call_method
def dR:=@PySem.Calls.spliced_nil
def dS:=@Nat.ne_of_gt
def dW:=@List.getElem?_take
def dX:=@PySem.Heap.SameBut.update
def dY:=@List.dropLast_concat_getLast
def dZ:=@Array.getElem?_toList
def eh:=@PySem.tupleKind_room_in1
def eu:=@PySem.call_meetsIn
def eA:=@PySem.wpAny_passesOwn
def eB:=@Nat.le_succ
def eC:=@List.drop_zero
def eD:=@Nat.lt_succ_self
def eE:=@List.map_nil
def eF:=@List.getElem_mem
def eG:=@List.filter_cons
def eI:=@PySem.wpAny_setState_of
def eJ:=@List.pairwise_iff_getElem
def eK:=@PyProof.Rows.F.plain_set_update_loop
def eM:=@List.getElem_of_mem
def eO:=@PySem.F.type_list_extend
def eP:=@PySem.F.slot_list_extend
def eQ:=@PySem.Obj.data_mapDictKeys
def eR:=@List.sum_cons
def eS:=@PySem.wpAny_askSetting
def eT:=@PySem.F.entry_dict_get
def eV:=@PySem.Paired.length
def eW:=@Nat.le_of_eq
def eY:=@List.take_zero
def eZ:=@List.pairwise_map
def e8:=@List.foldl_append
def e9:=@List.filter_congr
def fb:=@List.Perm.refl
def fc:=@List.Pairwise.map
def ff:=@PySem.W.methodCall_KW
def fg:=@PySem.AutoSeq1.wpAny_loadPart'
def fh:=@List.Sublist.map
def fj:=@List.any_cons
def fk:=@PySem.F.slot_dict_setdefault
def fo:=@List.of_mem_zip
def fq:=@List.length_pos_iff
def fu:=@PyProof.Rows.callWith_type1
def fw:=@Nat.zero_add
def fA:=@PySem.Heap.size_update
def fD:=@PySem.codeAny_call_builtin
def fF:=@List.getElem?_drop
def fG:=@List.getD_eq_getElem?_getD
def fH:=@List.filter_filter
def fJ:=@PySem.wpAny_execs_nil
def fK:=@List.count_append
def fL:=@Int.le_refl
def fM:=@PySem.W.KasT.kasWp_bind
def fN:=@List.lookup_cons
def fO:=@List.length_eq_zero_iff
def fP:=@PySem.F.entry_dict_pop
def fQ:=@List.filter_eq_nil_iff
def fR:=@List.drop_of_length_le
def fS:=@PySem.Calls.call_function_entry
def fT:=@PySem.wpAny_pyIter_enum
def fU:=@PySem.fits_of_scanBound
def fV:=@PySem.WalksT.enumerateD
def fW:=@List.length_set
def fX:=@List.length_nil
def fY:=@PySem.Heap.get?_push_ne
def fZ:=@PySem.wpAny_newList
def gb:=@PySem.F.type_dict_pop
def gc:=@PySem.wpAny_callSpecial?_slot
def gf:=@List.mem_of_mem_take
def gg:=@List.length_dropLast
def gh:=@PySem.wpAny_typeOf
def gi:=@PySem.wpAny_rule
def gm:=@PySem.wpAny_call
def gn:=@PySem.W.plainGet_of
def gp:=@PySem.W.callWith_K0
def gq:=@PyProof.Rows.F.entry_set_update_loop
def gr:=@List.getElem?_range
def gu:=@List.filterMap_cons
def gv:=@PySem.wpAny_updateSeq
def gy:=@List.all_cons
def gA:=@PySem.wpAny_notOrdered_dict
def gB:=@PySem.builtinLookup_eq_fast
def gC:=@PySem.W.callWith_K
def gD:=@List.mem_filterMap
def gE:=@Int.lt_of_lt_of_le
def gF:=@PyProof.Rows.listUpdate_at
def gG:=@PySem.wpAny_tryCatch
def gH:=@PySem.wpAny_seqItems
def gI:=@PySem.wpAny_letGo
def gJ:=@PySem.wpAny_fieldsOf
def gK:=@Nat.le_of_lt
def gL:=@List.all_map
def gM:=@Int.toNat_natCast
def gN:=@PySem.Heap.get?_none_of_le
def gO:=@Bool.eq_false_iff
def gP:=@PyProof.Rows.wpS_bind
def gQ:=@PyProof.Rows.slot_tuple_getitem
def gR:=@PySem.F.args_dict_setdefault_3
def gS:=@PySem.Obj.isFreed_of_dict
def gT:=@Nat.succ_ne_self
def gU:=@Array.toList_inj
def gV:=@PySem.wpAny_standAt
def gW:=@Sum.inr.inj
def gX:=@PySem.F.entry_dict_setdefault
def gY:=@PySem.wpAny_Constant_int
def gZ:=@PySem.call_meets
def g6:=@PySem.SeqAt.EqAt.str_int
def g7:=@PySem.SeqAt.EqAt.int_str
def g8:=@Nat.not_lt_zero
def g9:=@Nat.min_eq_left
def hG:=@List.filter_nil
def hV:=@Nat.not_lt
def hX:=@List.length_eraseIdx_of_lt
def hZ:=@Array.perm_iff_toList_perm
def ia:=@PyProof.Rows.seqEpoch_at
def ib:=@PySem.F.slot_dict_delitem
def ic:=@List.findIdx?_eq_none_iff
def ie:=@List.count_singleton_self
def ig:=@PySem.wpAny_execs_cons
def ij:=@Nat.lt_succ_iff_lt_or_eq
def ik:=@List.map_take
def ip:=@PySem.wpAny_of_eq
def iq:=@decide_eq_false_iff_not
def ir:=@PySem.F.slot_list_count
def iu:=@PySem.F.slot_dict_clear
def iw:=@PySem.F.plain_list_iadd
def iy:=@PySem.F.args_dict_pop_3
def iz:=@PySem.F.args_dict_pop_2
def iA:=@PySem.F.args_dict_get_3
def iB:=@PySem.F.args_dict_get_2
def iC:=@List.eraseIdx_cons_succ
def iD:=@PySem.typeLookup_type
def iE:=@PySem.codeAny_of_tree
def iF:=@PySem.W.cellsFrom_some
def iG:=@PySem.F.plainAttrs_str
def iH:=@PySem.F.entry_max_loop
def iI:=@Nat.succ.inj
def iJ:=@List.getElem?_set_self
def iK:=@List.drop_eq_nil_of_le
def iL:=@Int.le_trans
def iM:=@Bool.not_not
def iN:=@PySem.F.type_list_pop
def iO:=@PySem.F.type_dict_get
def iP:=@PySem.F.slot_set_iter
def iQ:=@PySem.F.slot_list_pop
def iR:=@PySem.F.plain_set_new
def iS:=@List.take_append_drop
def iT:=@List.count_cons_of_ne
def iU:=@Array.getElem?_modify
def iV:=@PySem.wpAny_newTuple
def iW:=@PySem.wpAny_load
def iX:=@PySem.isSubtype_type
def iY:=@PySem.Walks.list
def iZ:=@PySem.SeqAt.RcNeAt.lists_lengths
def i6:=@List.mem_append_left
def i7:=@List.getElem?_set_ne
def i8:=@List.count_cons_self
def i9:=@PySem.Calls.Name_function_global
def ja:=@Array.toArray_toList
def jb:=@PySem.evalArgs_none
def jc:=@Nat.add_le_add_left
def jd:=@Array.toList_append
def je:=@PySem.SeqAt.RcAt.lists_lengths
namespace L2
open PySem PySem.Spec PyProof.Rows
abbrev Key:=Sum Int Str
def NA:Key->Value->Bool
 | .inl k,v=>Value.isInt k v
 | .inr x,v=>Value.isStrOf x v
def Z6 (w:World):Key->Int
 | .inl k=>hashInt k
 | .inr x=>hashStr w x
theorem Bz:∀{k:Key} {v:Value},NA k v=true->(∃i t,k=Sum.inl i/\v=Value.int i t)\/(∃x t,k=Sum.inr x/\v=Value.str x t)
 | .inl i,v,h=>by
  obtain⟨t,e⟩:=Value.isInt_shape (k:=i) (v:=v) h;exact .inl ⟨i,t,rfl,e⟩
 | .inr x,v,h=>by
  obtain⟨t,e⟩:=Value.isStrOf_shape (x:=x) (v:=v) h;exact .inr ⟨x,t,rfl,e⟩
theorem SJ (i:Int)(t:Tok):NA (.inl i) (.int i t)=true:=by simp[NA,Value.isInt]
theorem S3 (x:Str)(t:Tok):NA (.inr x) (.str x t)=true:=by simp[NA,Value.isStrOf]
theorem Yr (a b:Int):decide ((Sum.inl a:Key)=Sum.inl b)=(a == b):=by
 by_cases e:a=b
 ·subst e;simp
 ·have h:¬(Sum.inl a:Key)=Sum.inl b:=λq=>e (cI q)
  rw[bD h];exact(cZ.mpr e).symm
theorem YG (a b:Str):decide ((Sum.inr a:Key)=Sum.inr b)=decide (a=b):=by
 by_cases e:a=b
 ·subst e;simp
 ·have h:¬(Sum.inr a:Key)=Sum.inr b:=λq=>e (gW q)
  rw[bD h,bD e]
theorem Y1 (a:Int)(b:Str):decide ((Sum.inl a:Key)=Sum.inr b)=false:=bD (λq=>nomatch q)
theorem X3 (a:Str)(b:Int):decide ((Sum.inr a:Key)=Sum.inl b)=false:=bD (λq=>nomatch q)
def AO (prog:Program)(w:World):PySem.KeyKind prog w Key where
 is:=NA
 hash:=Z6 w
 inj:=λv a b ha hb=>by
  rcases Bz ha with⟨i,t,rfl,rfl⟩|⟨x,t,rfl,rfl⟩
  ·rcases Bz hb with⟨j,u,rfl,e⟩|⟨y,u,rfl,e⟩
   ·injection e with e1 _;rw[e1]
   ·exact nomatch e
  ·rcases Bz hb with⟨j,u,rfl,e⟩|⟨y,u,rfl,e⟩
   ·exact nomatch e
   ·injection e with e1 _;rw[e1]
 byValue:=λk v h=>by
  rcases Bz h with⟨i,t,rfl,rfl⟩|⟨x,t,rfl,rfl⟩<;>rfl
 pyHash:=λhv h=>by
  rcases Bz hv with⟨i,t,rfl,rfl⟩|⟨x,t,rfl,rfl⟩
  ·exact wpAny_pyHash_int h
  ·exact wpAny_pyHash_str h
 eqBool:=λhu hv h=>by
  rcases Bz hu with⟨i,t,rfl,rfl⟩|⟨x,t,rfl,rfl⟩
  ·rcases Bz hv with⟨j,u,rfl,rfl⟩|⟨y,u,rfl,rfl⟩
   ·rw[Yr] at h;exact wpAny_eqBool_int h
   ·rw[Y1] at h;exact g7 i t y u _ _ _ _ h
  ·rcases Bz hv with⟨j,u,rfl,rfl⟩|⟨y,u,rfl,rfl⟩
   ·rw[X3] at h;exact g6 x t j u _ _ _ _ h
   ·rw[YG] at h;exact wpAny_eqBool_str h
 «strs»:=λk x t v h=>by
  rcases Bz h with⟨i,u,rfl,e⟩|⟨y,u,rfl,e⟩
  ·exact nomatch e
  ·injection e with e1 _
   subst e1;cases v<;>rfl
theorem Py (prog:Program)(w:World)(i:Int)(t:Tok):(AO prog w).is (.inl i) (.int i t)=true:=SJ i t
theorem Pc (prog:Program)(w:World)(x:Str)(t:Tok):(AO prog w).is (.inr x) (.str x t)=true:=S3 x t
inductive V where
 |non|bl (b:Bool)|int (i:Int)|str (x:Str)|byt (b:Array UInt8)|flt (b:UInt64)|ref (a:Addr)|ty (n:String)
 deriving DecidableEq
def RelV:V->Value->Prop
 | .non,u=>u=Value.none
 | .bl b,u=>u=Value.bool b
 | .int i,u=>∃t,u=Value.int i t
 | .str x,u=>∃t,u=Value.str x t
 | .byt b,u=>∃t,u=Value.bytes b t
 | .flt b,u=>∃t,u=Value.float b t
 | .ref a,u=>u=Value.ref a
 | .ty n,u=>u=Value.type n
abbrev AR:List V->List Value->Prop:=Paired RelV
theorem AR.length {xs:List V}{us:List Value}(r:AR xs us):xs.length=us.length:=eV r
theorem AR.get:∀{xs:List V} {us:List Value} {i:Nat} {x:V},AR xs us->xs[i]?=some x->∃u,us[i]?=some u/\RelV x u
 |_,_,_,_,.nil,e=>by simp at e
 |_,_,0,_,.cons r _,e=>by simp at e;subst e;exact⟨_,rfl,r⟩
 |_,_,i+1,x,.cons _ t,e=>by
  obtain⟨u,h1,h2⟩:=AR.get (i:=i) (x:=x) t (by simpa using e);exact⟨u,by simpa using h1,h2⟩
theorem AR.append:∀{xs ys:List V} {us ws:List Value},AR xs us->AR ys ws->AR (xs++ys) (us++ws)
 |_,_,_,_,.nil,s=>s
 |_,_,_,_,.cons r t,s=>.cons r (AR.append t s)
theorem AR.take:∀{xs:List V} {us:List Value} (n:Nat),AR xs us->AR (xs.take n) (us.take n)
 |_,_,0,_=>.nil
 |_,_,_+1,.nil=>.nil
 |_,_,n+1,.cons r t=>.cons r (AR.take n t)
theorem AR.drop:∀{xs:List V} {us:List Value} (n:Nat),AR xs us->AR (xs.drop n) (us.drop n)
 |_,_,0,r=>r
 |_,_,_+1,.nil=>.nil
 |_,_,n+1,.cons _ t=>AR.drop n t
def Ez:Option V->Option Value->Prop
 |some v,some u=>RelV v u
 |none,none=>True
 |_,_=>False
def KV {κ:Type}:List (κ×V)->List (κ×Value)->Prop:=Paired λ(p:κ×V) (q:κ×Value)=>p.1=q.1/\RelV p.2 q.2
def kV:Key->V
 | .inl i=>.int i
 | .inr x=>.str x
inductive HO where
 |lst (xs:List V)
 |tup (xs:List V)
 |dK (kvs:List (Key×V))|dT (kvs:List (List Key×V))
 |set (S:Int->Bool) (n:Nat)
 |ins (C dx:Addr) (fs:List (Str×V))
 |own (x:Addr)
 |xd (fs:List (Str×V))
 |met (f x:Addr)
 |rng (lo hi:Int)
 |frz (o:Obj) (u:HO)
 |tbl (ps:Array Value)
 |ext (φ:Heap->Prop)
abbrev Hp:=Addr->Option HO
def upd (H:Hp)(a:Addr)(o:HO):Hp:=λb=>if b=a then some o else H b
theorem Ae {H:Hp}{a:Addr}{o:HO}:upd H a o a=some o:=by unfold upd;rw[bF rfl]
theorem Ag {H:Hp}{a b:Addr}{o:HO}(h:b≠a):upd H a o b=H b:=by unfold upd;rw[bH h]
theorem DV {H:Hp}{a:Addr}{o u:HO}:upd (upd H a o) a u=upd H a u:=by
 funext b;unfold upd;split<;>rfl
theorem AL {H:Hp}{a b:Addr}{o u:HO}(h:H a=some o)(h':H b=some u)(d:o≠u):a≠b:=by
 intro e;subst e;rw[h] at h';exact d (bf h')
theorem AG {H:Hp}{a b:Addr}{o:HO}(h:H a=some o)(h':H b=none):a≠b:=by
 intro e;subst e;rw[h] at h';cases h'
def Zv:List V->Bool
 |[.int _,_]=>true
 |_=>false
def KU (b:Bool)(h:Heap)(a:Addr)(items:Array Value):Prop:=∃o,h.get? a=some o/\o.cls=.type "tuple"/\∃n,o.data=.seq items n/\(b=false->o.dict=none)
theorem KU.is {b:Bool}{h:Heap}{a:Addr}{items:Array Value}(x:KU b h a items):IsTup h a items:=let⟨o,e,c,n,d,_⟩:=x;⟨o,e,c,n,d⟩
theorem KU.lt {b:Bool}{h:Heap}{a:Addr}{items:Array Value}(x:KU b h a items):a<h.objs.size:=x.is.lt
theorem KU.new {b:Bool}(h:Heap)(items:Array Value):KU b (h.push { cls:=.type "tuple",data:=.seq items }) h.objs.size items:=⟨_,bB _ rfl,rfl,_,rfl,λ_=>rfl⟩
section
variable (P:Program)(w:World)
def Bs (H:Hp)(h:Heap)(a:Addr):HO->Prop
 | .lst xs=>xs.length<=sizeLine/\∃(its:List Value) (n:Nat),AR xs its/\h.get? a=some { cls:=.type "list",data:=.seq its.toArray n }
 | .tup xs=>xs.length<=sizeLine/\∃its:List Value,AR xs its/\KU (Zv xs) h a its.toArray
 | .dK kvs=>kvs.length<=sizeLine/\(a == sysModules)=false/\∃vs,KV kvs vs/\h.DictOf (AO P w) a vs
 | .dT kvs=>kvs.length<=sizeLine/\(a == sysModules)=false/\∃xs:List (List Key×Addr×Value),
   Paired (λ(p:List Key×V) (q:List Key×Addr×Value)=>p.1=q.1/\H q.2.1=some (.tup (p.1.map kV))/\RelV p.2 q.2.2) kvs xs/\
   ∃o es ep,h.get? a=some o/\o.ExactDict/\o.data=.dict es ep/\es.toList=xs.map (entryOfKey (tupleKind (AO P w)))/\(xs.map (·.1)).Nodup
 | .set S n=>h.SetOf (intKind P w) a S n
 | .ins C dx fs=>H dx=some (.own a)/\fs.length<=1000/\dx≠a/\h.get? a=some (PySem.W.instObj C dx)/\
   ∃mA,h.Ns1 dx mA/\(∀f,Ez (fs.lookup f) (mA f))/\PySem.Within mA (fs.map (·.1))
 | .own _=>∃o,h.get? a=some o
 | .xd fs=>∃mA,h.Ns1 a mA/\∀f,Ez (fs.lookup f) (mA f)
 | .rng lo hi=>∃t u v,h.get? a=some { cls:=.type "range",data:=.fields #[.int lo t,.int hi u,.int 1 v] }
 | .frz o u=>h.get? a=some o/\Bs H h a u
 | .tbl ps=>h.get? a=some { cls:=.none,data:=.fields ps }
 | .met f x=>h.get? a=some (PySem.W.methodObj (.ref f) (.ref x))
 | .ext φ=>φ h/\(∃o,h.get? a=some o)/\∀h1 h2:Heap,φ h1->(∀o,h1.get? a=some o->h2.get? a=some o)->φ h2
def Hv (H:Hp)(h:Heap):Prop:=∀a o,H a=some o->Bs P w H h a o
end
section
variable {P:Program}{w:World}{H H':Hp}{h h':Heap}{a:Addr}{o:HO}
theorem Bs.lt (x:Bs P w H h a o):a<h.objs.size:=by
 cases o with
 |lst xs=>obtain⟨_,_,_,_,e⟩:=x;exact bG e
 |tup xs=>obtain⟨_,_,_,p⟩:=x;exact p.lt
 |dK kvs=>obtain⟨_,_,_,_,o,_,_,e,_⟩:=x;exact bG e
 |dT kvs=>obtain⟨_,_,_,_,o,_,_,e,_⟩:=x;exact bG e
 |set S n=>obtain⟨o,_,_,_,e,_⟩:=x;exact bG e
 |ins C dx fs=>obtain⟨_,_,_,e,_⟩:=x;exact bG e
 |own y=>obtain⟨_,e⟩:=x;exact bG e
 |xd fs=>obtain⟨_,⟨_,_,_,e,_⟩,_⟩:=x;exact bG e
 |rng lo hi=>obtain⟨_,_,_,e⟩:=x;exact bG e
 |frz ob u=>obtain⟨e,_⟩:=x;exact bG e
 |tbl ps=>exact bG (show h.get? a=some _ from x)
 |met f y=>exact bG (show h.get? a=some _ from x)
 |ext φ=>obtain⟨_,⟨_,e⟩,_⟩:=x;exact bG e
theorem Paired.mapP {α β:Type}{F G:α->β->Prop}:∀{l₁:List α} {l₂:List β},Paired F l₁ l₂->(∀a b,F a b->G a b)->Paired G l₁ l₂
 |_,_,.nil,_=>.nil
 |_,_,.cons r t,f=>.cons (f _ _ r) (Paired.mapP t f)
theorem Bs.stay (x:Bs P w H h a o) (k:∀b u,(b=a\/H b=some (.own a))->h.get? b=some u->h'.get? b=some u)
  (ho:∀b,H b=some (.own a)->H' b=some (.own a)) (ht:∀b xs,H b=some (.tup xs)->H' b=some (.tup xs)):Bs P w H' h' a o:=by
 induction o with
 |lst xs=>obtain⟨z,its,n,r,e⟩:=x;exact⟨z,its,n,r,k _ _ (.inl rfl) e⟩
 |tup xs=>obtain⟨z,its,r,ob,e,c⟩:=x;exact⟨z,its,r,ob,k _ _ (.inl rfl) e,c⟩
 |dK kvs=>obtain⟨z,y,vs,r,ob,es,ep,e,c⟩:=x;exact⟨z,y,vs,r,ob,es,ep,k _ _ (.inl rfl) e,c⟩
 |dT kvs=>
  obtain⟨z,y,xs,r,ob,es,ep,e,c⟩:=x;exact⟨z,y,xs,Paired.mapP r λp q z=>⟨z.1,ht _ _ z.2.1,z.2.2⟩,ob,es,ep,k _ _ (.inl rfl) e,c⟩
 |set S n=>obtain⟨ob,es,ep,t,e,c⟩:=x;exact⟨ob,es,ep,t,k _ _ (.inl rfl) e,c⟩
 |ins C dx fs=>
  obtain⟨d,z,ne,e,mA,⟨od,es,ep,e2,c⟩,r⟩:=x;exact⟨ho _ d,z,ne,k _ _ (.inl rfl) e,mA,⟨od,es,ep,k _ _ (.inr d) e2,c⟩,r⟩
 |own y=>obtain⟨ob,e⟩:=x;exact⟨ob,k _ _ (.inl rfl) e⟩
 |xd fs=>obtain⟨mA,⟨od,es,ep,e,c⟩,r⟩:=x;exact⟨mA,⟨od,es,ep,k _ _ (.inl rfl) e,c⟩,r⟩
 |rng lo hi=>obtain⟨t,u,v,e⟩:=x;exact⟨t,u,v,k _ _ (.inl rfl) e⟩
 |frz ob u ih=>obtain⟨e,q⟩:=x;exact⟨k _ _ (.inl rfl) e,ih q⟩
 |tbl ps=>
  have e:h.get? a=some { cls:=.none,data:=.fields ps }:=x;show h'.get? a=some { cls:=.none,data:=.fields ps };exact k a _ (.inl rfl) e
 |met f y=>
  have e:h.get? a=some (PySem.W.methodObj (.ref f) (.ref y)):=x;show h'.get? a=some (PySem.W.methodObj (.ref f) (.ref y));exact k a _ (.inl rfl) e
 |ext φ=>obtain⟨p,⟨o,e⟩,st⟩:=x;exact⟨st _ _ p λo q=>k _ _ (.inl rfl) q,⟨o,k _ _ (.inl rfl) e⟩,st⟩
theorem Hv.lt (x:Hv P w H h)(e:H a=some o):a<h.objs.size:=(x a o e).lt
theorem Hv.fresh (x:Hv P w H h)(e:h.objs.size<=a):H a=none:=by
 cases q:H a with
 |none=>rfl
 |some u=>exact absurd (bO (x.lt q) e) (dk _)
theorem Hv.kept (x:Hv P w H h)(k:∀b u,h.get? b=some u->h'.get? b=some u):Hv P w H h':=λa o e=>
 (x a o e).stay (λb u _ q=>k b u q) (λ_ q=>q) λ_ _ q=>q
theorem Hv.laid (x:Hv P w H h)(k:∀b u,h.get? b=some u->h'.get? b=some u)(hp:h.objs.size<=a)(new:Bs P w (upd H a o) h' a o):Hv P w (upd H a o) h':=λb u e=>by
 have hn:=x.fresh hp
 by_cases hb:b=a
 ·subst hb;rw[Ae] at e;cases e;exact new
 ·rw[Ag hb] at e;exact(x b u e).stay (λc v _ q=>k c v q) (λc q=>by rw[Ag (AG q hn)];exact q) λc xs q=>by rw[Ag (AG q hn)];exact q
end
def Rd (H:Hp)(a:Addr)(u:HO):Prop:=H a=some u\/∃o,H a=some (.frz o u)
theorem Rd.ok {P:Program}{w:World}{H:Hp}{h:Heap}{a:Addr}{u:HO}(r:Rd H a u)(x:Hv P w H h):Bs P w H h a u:=by
 rcases r with r|⟨o,r⟩
 ·exact x a u r
 ·obtain⟨_,q⟩:=x a _ r;exact q
def ZA:Option HO->Prop
 |some (.lst _)=>True
 |some (.dK _)=>True
 |some (.dT _)=>True
 |some (.set _ _)=>True
 |some (.ins _ _ _)=>True
 |some (.ext _)=>True
 |_=>False
section
variable {P:Program}{w:World}{H:Hp}{h h':Heap}{x e:Addr}{o':HO}
theorem Hv.write (ok:Hv P w H h) (mu:ZA (H x)) (he:e=x\/H e=some (.own x)) (k:∀b u,b≠e->h.get? b=some u->h'.get? b=some u) (heo:∃u,h'.get? e=some u)
  (new:Bs P w (upd H x o') h' x o'):Hv P w (upd H x o') h':=λb u q=>by
 have nown:∀c y,H c=some (.own y)->c≠x:=λc y r z=>by subst z;rw[r] at mu;exact mu
 have ntup:∀c xs,H c=some (.tup xs)->c≠x:=λc xs r z=>by subst z;rw[r] at mu;exact mu
 by_cases hb:b=x
 ·subst hb;rw[Ae] at q;cases q;exact new
 ·rw[Ag hb] at q
  by_cases hbe:b=e
  ·have q':H b=some (.own x):=by
    rcases he with z|z
    ·exact absurd (hbe.trans z) hb
    ·rw[hbe];exact z
   rw[q] at q';cases q';obtain⟨v,hv⟩:=heo;exact⟨v,by rw[hbe];exact hv⟩
  ·refine(ok b u q).stay (λc v hc r=>k c v ?_ r) (λc r=>by rw[Ag (nown c b r)];exact r) λc xs r=>by rw[Ag (ntup c xs r)];exact r
   rcases hc with rfl|hc
   ·exact hbe
   ·rintro rfl
    rcases he with z|z
    ·exact nown c b hc z
    ·rw[hc] at z;cases z;exact hb rfl
end
structure Un (fs ex:List Addr) (H H':Hp) (h h':Heap):Prop where
 keep:∀b o,h.get? b=some o->H b=none->b∉fs->b∉ex->h'.get? b=some o
 slot:∀b o,h.get? b=some o->H b=none->b∈fs->b∉ex->∃sl,h'.get? b=some { o with slots:=sl }
 free:∀b o,h.get? b=some o->H b=none->b∉ex->H' b=none
 there:∀b o,h.get? b=some o->b∉ex->∃o',h'.get? b=some o'
 tups:∀b xs,H b=some (.tup xs)->H' b=some (.tup xs)
 frzs:∀b o u,H b=some (.frz o u)->H' b=some (.frz o u)
 tbls:∀b ps,H b=some (.tbl ps)->∃more,H' b=some (.tbl (ps++more))
section
variable {fs fs' ex ex':List Addr}{H H1 H2:Hp}{h h1 h2 h':Heap}{a x e:Addr}{o:HO}
theorem Un.any (u:Un fs ex H H1 h h1){b:Addr}{ob:Obj}(q:h.get? b=some ob)(n:H b=none)(hx:b∉ex):∃sl,h1.get? b=some { ob with slots:=sl }:=by
 by_cases hb:b∈fs
 ·exact u.slot b ob q n hb hx
 ·exact⟨ob.slots,u.keep b ob q n hb hx⟩
theorem Un.kept (k:∀b u,h.get? b=some u->h'.get? b=some u):Un fs ex H H h h':=
 ⟨λb ob q _ _ _=>k b ob q,λb ob q _ _ _=>⟨ob.slots,k b ob q⟩,λ_ _ _ n _=>n,λb ob q _=>⟨ob,k b ob q⟩,λ_ _ q=>q,λ_ _ _ q=>q,λ_ ps q=>⟨#[],by rw[q];simp⟩⟩
theorem Un.refl:Un fs ex H H h h:=Un.kept λ_ _ q=>q
theorem Un.laid (k:∀b u,h.get? b=some u->h'.get? b=some u)(hp:h.objs.size<=a)(hn:H a=none):Un fs ex H (upd H a o) h h' where
 keep:=λb u q _ _ _=>k b u q
 slot:=λb u q _ _ _=>⟨u.slots,k b u q⟩
 free:=λb u q n _=>by rw[Ag (bI (bO (bG q) hp))];exact n
 there:=λb u q _=>⟨u,k b u q⟩
 tups:=λb xs q=>by rw[Ag (AG q hn)];exact q
 frzs:=λb u xs q=>by rw[Ag (AG q hn)];exact q
 tbls:=λb ps q=>⟨#[],by rw[Ag (AG q hn),q];simp⟩
theorem Un.write (mu:ZA (H x))(he:e=x\/H e=some (.own x))(k:∀b u,b≠e->h.get? b=some u->h'.get? b=some u)(heo:∃u,h'.get? e=some u):Un fs ex H (upd H x o) h h':=by
 have hx:∀b,H b=none->b≠x:=λb n z=>by subst z;rw[n] at mu;exact mu
 have hb:∀b,H b=none->b≠e:=λb n z=>by
  subst z;rcases he with r|r
  ·exact hx b n r
  ·rw[n] at r;cases r
 have hm:∀b u,H b=some u->¬ZA (some u)->b≠x:=λb u q nm z=>by subst z;rw[q] at mu;exact nm mu
 refine⟨λb u q n _ _=>k b u (hb b n) q,λb u q n _ _=>⟨u.slots,k b u (hb b n) q⟩,λb u q n _=>by rw[Ag (hx b n)];exact n,λb u q _=>?_,
  λb xs q=>by rw[Ag (hm b _ q λz=>z)];exact q,λb u xs q=>by rw[Ag (hm b _ q λz=>z)];exact q,λb ps q=>⟨#[],by rw[Ag (hm b _ q λz=>z),q];simp⟩⟩
 by_cases hbe:b=e
 ·subst hbe;exact heo
 ·exact⟨u,k b u hbe q⟩
end
def ZQ (h:Heap)(H:Hp):List Addr:=(List.range h.objs.size).filter λa=>(H a).isSome
def Oe (h:Heap)(H:Hp):Heap:=PySem.W.hideAll h (ZQ h H)
theorem Tc (h:Heap)(H:Hp):(Oe h H).objs.size=h.objs.size:=PySem.W.hideAll_size _ _
theorem Vv {h:Heap}{H:Hp}{b:Addr}{o:Obj}(e:h.get? b=some o)(n:H b=none):(Oe h H).get? b=some o:=
 dO _ e λhm=>by
  have q:(H b).isSome=true:=(bM.mp hm).2;rw[n] at q;simp at q
theorem WE {h:Heap}{H:Hp}{b:Addr}{o:Obj}(e:(Oe h H).get? b=some o):h.get? b=some o/\H b=none:=by
 have e':h.get? b=some o:=PySem.W.of_hideAll (ZQ h H) e;refine⟨e',?_⟩;cases q:H b with
 |none=>rfl
 |some x=>
  have hm:b∈ZQ h H:=bM.mpr ⟨cX.mpr (bG e'),by simp[q]⟩;have z:(Oe h H).get? b=none:=PySem.W.hideAll_none (ZQ h H) hm;rw[z] at e;cases e
def V8 (g h:Heap)(L:Addr):List (Addr×Obj):=(List.range h.objs.size).filterMap λa=>if a=L\/(g.get? a).isSome=true then none else(h.get? a).map λo=>(a,o)
def rest (g h:Heap)(L d:Addr):List (Addr×Obj):=(V8 g h L).filter λp=>decide (p.1≠d)
structure Mod (K:PySem.W.Frag) (mg:Str->Option Value) (base:Heap):Prop where
 kin:K.In base
 glob:base.Ns mainGlobals mg
 blt:∃mb,base.Ns builtinsNs mb/\∀x:Str,x≠"__name__"->mb x=bootBuiltins x
 nolimit:base.NoLimit
structure Cx where
 prog:Program
 w:World
 K:PySem.W.Frag
 mg:Str->Option Value
 base:Heap
 A:Around
 N:List Str
 s₀:Shared
 H₀:Hp
 env:Env
 outer:List Env
 stack:List Env
 ex:List Addr
 fn:Str->Bool
 calm:Bool
 pn:List (Addr×Obj)
 xe:Value->Shared->Prop
def JZ (l:List Env):List Addr:=l.filterMap (·.frame)
abbrev Cx.fs (X:Cx):List Addr:=JZ X.outer
def ZW (sc:Scope)(x:Str):Prop:=sc.names.lookup x=some .local\/sc.names.lookup x=some .cell\/sc.names.lookup x=some .free
def Loc (sc:Scope)(x:Str):Prop:=sc.names.lookup x=some .local\/sc.names.lookup x=some .cell
def Look (env:Env)(h:Heap)(m:Str->Option Value)(x:Str)(u:Value):Prop:=
 (env.kindOf x=some .local/\m x=some u)\/((env.kindOf x=some .cell\/env.kindOf x=some .free)/\∃c,env.cells.lookup x=some c/\h.IsCell c (some u))
structure Cx.Ok (X:Cx):Prop where
 mod:Mod X.K X.mg X.base
 kind:X.env.scope.kind=.function
 glob:X.env.globals=mainGlobals
 blt:X.env.builtins=builtinsNs
 above:X.s₀.heap.objs.size<=X.env.locals
 inj:∀x y c,X.env.cells.lookup x=some c->X.env.cells.lookup y=some c->x=y
 has:∀x,(X.env.kindOf x=some .cell\/X.env.kindOf x=some .free)->∃c,X.env.cells.lookup x=some c
 cab:∀x c,X.fn x=true->X.env.cells.lookup x=some c->X.s₀.heap.objs.size<=c
 hd:X.calm=true->X.A.handled=none
 frames:X.A.frames=some X.stack
 stk:X.stack=X.outer\/(X.stack=X.env::X.outer/\X.env.frame=some X.env.locals)
 exf:∀b∈X.ex,b≠X.env.locals/\∀x c,X.env.cells.lookup x=some c->c≠b
 bs:∀b o,X.base.get? b=some o->X.s₀.heap.get? b=some o/\X.H₀ b=none
 bsz:X.base.objs.size<=X.s₀.heap.objs.size
 noex:∀b o,X.base.get? b=some o->b∉X.ex
 exfs:∀b∈X.ex,b∉X.fs
 funs:X.s₀.heap.FunFrames X.base X.outer
 frf:∀b∈X.fs,X.H₀ b=none
structure Inv (X:Cx) (pins:List (Addr×Obj)) (σ:List (Option V)) (H:Hp) (s:Shared):Prop where
 ok:X.Ok
 os:s.os=X.s₀.os
 bare:AllBare s.gens
 base:Un X.fs X.ex X.H₀ H X.s₀.heap s.heap
 loc:∃m,s.heap.Ns X.env.locals m/\∀(i:Nat) (x:Str) (v:V),X.N[i]?=some x->σ[i]?=some (some v)->ZW X.env.scope x->∃u,RelV v u/\Look X.env s.heap m x u
 cell:∀x c,X.env.cells.lookup x=some c->∃v,s.heap.IsCell c v
 free:H X.env.locals=none
 freeC:∀x c,X.env.cells.lookup x=some c->H c=none
 pin:∀p∈X.pn++pins,s.heap.get? p.1=some p.2/\H p.1=none/\p.1≠X.env.locals/\p.1∉X.fs/\∀v,p.2.data≠.cell v
 hok:Hv X.prog X.w H s.heap
 len:σ.length=X.N.length
section
variable {X:Cx}{pins:List (Addr×Obj)}{σ:List (Option V)}{H H':Hp}{s:Shared}{h':Heap}
theorem Cx.Ok.nofr (ok:X.Ok){b:Addr}{o:Obj}(e:X.base.get? b=some o):b∉X.fs:=λhb=>by
 have:=(ok.funs.mem hb).1;rw[e] at this;cases this
theorem Inv.bs (I:Inv X pins σ H s):∀b o,X.base.get? b=some o->s.heap.get? b=some o/\H b=none:=λb o e=>
 ⟨I.base.keep b o (I.ok.bs b o e).1 (I.ok.bs b o e).2 (I.ok.nofr e) (I.ok.noex b o e),I.base.free b o (I.ok.bs b o e).1 (I.ok.bs b o e).2 (I.ok.noex b o e)⟩
theorem Inv.bk (I:Inv X pins σ H s):∀b o,X.base.get? b=some o->s.heap.get? b=some o:=λb o e=>(I.bs b o e).1
theorem Inv.mod (I:Inv X pins σ H s):Mod X.K X.mg X.base:=I.ok.mod
theorem Inv.kIn (I:Inv X pins σ H s):X.K.In s.heap:=I.ok.mod.kin.keeps I.bk
theorem Inv.lt (I:Inv X pins σ H s):X.env.locals<s.heap.objs.size:=let⟨_,hn,_⟩:=I.loc;hn.lt
theorem Inv.sz (I:Inv X pins σ H s):X.s₀.heap.objs.size<=s.heap.objs.size:=bQ I.ok.above (gK I.lt)
theorem Inv.nofs (I:Inv X pins σ H s){a:Addr}(h:s.heap.objs.size<=a):a∉X.fs:=λhb=>by
 obtain⟨_,o,ho,_⟩:=I.ok.funs.mem hb;exact absurd (bO (bG ho) (bQ I.sz h)) (dk _)
theorem Inv.cne (I:Inv X pins σ H s):∀x c,X.env.cells.lookup x=some c->c≠X.env.locals:=λx c e z=>by
 obtain⟨v,o,ho,hd⟩:=I.cell x c e;obtain⟨m,⟨o',es,ep,ho',hd',_⟩,_⟩:=I.loc;rw[z,ho'] at ho;cases ho;rw[hd'] at hd;cases hd
theorem Inv.funs (I:Inv X pins σ H s):s.heap.FunFrames X.base X.outer:=by
 have all:∀(l:List Env),(∀b∈JZ l,b∈X.fs)->X.s₀.heap.FunFrames X.base l->s.heap.FunFrames X.base l:=by
  intro l
  induction l with
  |nil=>intro _ _;trivial
  |cons env r ih=>
   intro hs hl;obtain⟨hk,⟨L,o,hf,hn,ho,hd⟩,hr⟩:=hl;have hL:L∈X.fs:=hs L (by unfold JZ;rw[gu,hf];exact bc);obtain⟨sl,e⟩:=I.base.slot L o ho (I.ok.frf L hL) hL λz=>I.ok.exfs L z hL
   exact⟨hk,⟨L,_,hf,hn,e,hd⟩,ih (λb hb=>hs b (by unfold JZ;rw[gu,hf];exact a9 _ hb)) hr⟩
 exact all X.outer (λ_ hb=>hb) I.ok.funs
theorem Inv.stack (I:Inv X pins σ H s):s.heap.FunFrames X.base X.stack:=by
 rcases I.ok.stk with e|⟨e,hf⟩
 ·rw[e];exact I.funs
 ·rw[e];obtain⟨m,hn,_⟩:=I.loc;refine .cons (by rw[I.ok.kind];decide) hf hn ?_ I.funs;exact gN (bQ I.ok.bsz I.ok.above)
theorem Inv.stkSub (I:Inv X pins σ H s):∀b∈JZ X.stack,b∈X.env.locals::X.fs:=λb hb=>by
 rcases I.ok.stk with e|⟨e,hf⟩
 ·rw[e] at hb;exact a9 _ hb
 ·rw[e] at hb;unfold JZ at hb;rw[gu,hf] at hb;exact hb
theorem Inv.stkFree (I:Inv X pins σ H s):∀b∈JZ X.stack,H b=none:=λb hb=>by
 rcases bE.mp (I.stkSub b hb) with e|hb
 ·rw[e];exact I.free
 ·obtain⟨_,o,ho,_⟩:=I.ok.funs.mem hb;exact I.base.free b o ho (I.ok.frf b hb) λz=>I.ok.exfs b z hb
theorem Inv.step {g':Array GenState} {t':Nat} {d':Drawn} {ch:List Addr} (I:Inv X pins σ H s)
  (hch:∀b∈ch,(b∈X.ex\/X.s₀.heap.objs.size<=b)/\b≠X.env.locals/\(∀x c,X.env.cells.lookup x=some c->c≠b)/\∀p∈X.pn++pins,p.1≠b)
  (keep:∀b o,b≠X.env.locals->b∉X.fs->b∉ch->s.heap.get? b=some o->H b=none->h'.get? b=some o)
  (slot:∀b o,b≠X.env.locals->b∈X.fs->b∉ch->s.heap.get? b=some o->H b=none->∃sl,h'.get? b=some { o with slots:=sl }) (free:∀b o,b∉ch->s.heap.get? b=some o->H b=none->H' b=none)
  (there:∀b o,b∉ch->s.heap.get? b=some o->∃o',h'.get? b=some o')
  (tups:∀b xs,H b=some (.tup xs)->H' b=some (.tup xs)) (frzs:∀b o u,H b=some (.frz o u)->H' b=some (.frz o u)) (tbls:∀b ps,H b=some (.tbl ps)->∃more,H' b=some (.tbl (ps++more)))
  (ns:∀m,s.heap.Ns X.env.locals m->h'.Ns X.env.locals m) (hok:Hv X.prog X.w H' h') (hg:AllBare g') :
  Inv X pins σ H' { s with heap:=h',gens:=g',drawn:=d',toks:=t' }:=by
 have neL:∀b o,X.s₀.heap.get? b=some o->b≠X.env.locals:=λb o e=>bI (bO (bG e) I.ok.above)
 have neC:∀b o,X.s₀.heap.get? b=some o->b∉X.ex->b∉ch:=λb o e hx hb=>by
  rcases(hch b hb).1 with z|z
  ·exact hx z
  ·exact absurd (bO (bG e) z) (dk _)
 have cellK:∀x c,X.env.cells.lookup x=some c->∀v,s.heap.IsCell c v->h'.IsCell c v:=λx c e v ⟨o,ho,hd⟩=>by
  have nch:c∉ch:=λz=>(hch c z).2.2.1 x c e rfl
  by_cases hc:c∈X.fs
  ·obtain⟨sl,q⟩:=slot c o (I.cne x c e) hc nch ho (I.freeC x c e);exact⟨_,q,hd⟩
  ·exact⟨o,keep c o (I.cne x c e) hc nch ho (I.freeC x c e),hd⟩
 refine⟨I.ok,I.os,hg,⟨λb o e n hb hx=>?_,λb o e n hb hx=>?_,λb o e n hx=>?_,λb o e hx=>?_,λb xs e=>tups b xs (I.base.tups b xs e),λb o xs e=>frzs b o xs (I.base.frzs b o xs e),λb ps e=>?_⟩,?_,λx c e=>?_,?_,λx c e=>?_,λp hp=>?_,hok,I.len⟩
 ·exact keep b o (neL b o e) hb (neC b o e hx) (I.base.keep b o e n hb hx) (I.base.free b o e n hx)
 ·obtain⟨sl,e1⟩:=I.base.slot b o e n hb hx;obtain⟨sl',e2⟩:=slot b _ (neL b o e) hb (neC b o e hx) e1 (I.base.free b o e n hx);exact⟨sl',e2⟩
 ·obtain⟨o',e1⟩:=I.base.there b o e hx;exact free b o' (neC b o e hx) e1 (I.base.free b o e n hx)
 ·obtain⟨o',e1⟩:=I.base.there b o e hx;exact there b o' (neC b o e hx) e1
 ·obtain⟨m1,e1⟩:=I.base.tbls b ps e;obtain⟨m2,e2⟩:=tbls b _ e1;exact⟨m1++m2,by rw[e2,Array.append_assoc]⟩
 ·obtain⟨m,hn,hl⟩:=I.loc;refine⟨m,ns m hn,λi x v e1 e2 e3=>?_⟩;obtain⟨u,r,l⟩:=hl i x v e1 e2 e3;refine⟨u,r,?_⟩;rcases l with l|⟨k,c,e,z⟩
  ·exact .inl l
  ·exact .inr ⟨k,c,e,cellK x c e _ z⟩
 ·obtain⟨v,z⟩:=I.cell x c e;exact⟨v,cellK x c e v z⟩
 ·obtain⟨m,⟨o,_,_,ho,_⟩,_⟩:=I.loc;exact free _ o (λz=>(hch _ z).2.1 rfl) ho I.free
 ·obtain⟨v,o,ho,hd⟩:=I.cell x c e;exact free c o (λz=>(hch c z).2.2.1 x c e rfl) ho (I.freeC x c e)
 ·obtain⟨e,n,ne,nf,d⟩:=I.pin p hp;have nch:p.1∉ch:=λz=>(hch p.1 z).2.2.2 p hp rfl
  exact⟨keep p.1 p.2 ne nf nch e n,free p.1 p.2 nch e n,ne,nf,d⟩
theorem Inv.un {t':Nat}(I:Inv X pins σ H s)(u:Un X.fs [] H H' s.heap h')(hok:Hv X.prog X.w H' h'):Inv X pins σ H' { s with heap:=h',toks:=t' }:=by
 obtain⟨m,⟨o,es,ep,ho,r⟩,_⟩:=id I.loc;obtain⟨sl,hL⟩:=u.any ho I.free (by simp);exact I.step (g':=s.gens) (d':=s.drawn) (ch:=[]) (λ_ z=>nomatch z) (λb o _ hb _ e n=>u.keep b o e n hb (by simp)) (λb o _ hb _ e n=>u.slot b o e n hb (by simp)) (λb o _ e n=>u.free b o e n (by simp)) (λb o _ e=>u.there b o e (by simp)) u.tups u.frzs u.tbls (λm' hm=>by
  obtain⟨o',es',ep',ho',r'⟩:=hm;rw[ho] at ho';cases ho';exact⟨_,es',ep',hL,r'⟩) hok I.bare
theorem Inv.call {g':Array GenState} {t':Nat} {d':Drawn} {ch:List Addr} (I:Inv X pins σ H s) (u:Un (JZ X.stack) ch H H' s.heap h') (hok:Hv X.prog X.w H' h') (hg:AllBare g')
  (hch:∀b∈ch,(b∈X.ex\/X.s₀.heap.objs.size<=b)/\b≠X.env.locals/\(∀x c,X.env.cells.lookup x=some c->c≠b)/\∀p∈X.pn++pins,p.1≠b) :
  Inv X pins σ H' { s with heap:=h',gens:=g',drawn:=d',toks:=t' }:=by
 obtain⟨m,⟨o,es,ep,ho,r⟩,_⟩:=id I.loc;obtain⟨sl,hL⟩:=u.any ho I.free λz=>(hch _ z).2.1 rfl
 exact I.step (ch:=ch) hch (λb o hL hb hc e n=>u.keep b o e n (λz=>(bE.mp (I.stkSub b z)).elim hL hb) hc) (λb o _ _ hc e n=>u.any e n hc) (λb o hc e n=>u.free b o e n hc) (λb o hc e=>u.there b o e hc) u.tups u.frzs u.tbls (λm' hm=>by
  obtain⟨o',es',ep',ho',r'⟩:=hm;rw[ho] at ho';cases ho';exact⟨_,es',ep',hL,r'⟩) hok hg
theorem Inv.turned {t':Nat} {it:Addr} (I:Inv X pins σ H s) (k:∀b o,b≠it->s.heap.get? b=some o->h'.get? b=some o) (hn:H it=none) (hL:it≠X.env.locals)
  (h1:it∈X.ex\/X.s₀.heap.objs.size<=it) (h2:∀x c,X.env.cells.lookup x=some c->c≠it) (h3:∀p∈X.pn++pins,p.1≠it):Inv X pins σ H { s with heap:=h',toks:=t' }:=by
 have nit:∀b u,H b=some u->b≠it:=λb u e z=>by rw[z,hn] at e;cases e
 refine I.step (g':=s.gens) (d':=s.drawn) (ch:=[it]) (λb hb=>?_) (λb o _ _ hc e _=>k b o (λz=>hc (by simp[z])) e) (λb o _ _ hc e _=>⟨o.slots,k b o (λz=>hc (by simp[z])) e⟩) (λ_ _ _ _ n=>n)
  (λb o hc e=>⟨o,k b o (λz=>hc (by simp[z])) e⟩) (λ_ _ e=>e) (λ_ _ _ e=>e) (λb ps e=>⟨#[],by rw[e];simp⟩) (λm hm=>?_) (λb u e=>?_) I.bare
 ·have e:b=it:=by simpa using hb
  subst e;exact⟨h1,hL,h2,h3⟩
 ·obtain⟨o,es,ep,ho,r⟩:=hm;exact⟨o,es,ep,k _ o (Ne.symm hL) ho,r⟩
 ·refine(I.hok b u e).stay (λc v hc q=>k c v ?_ q) (λ_ q=>q) λ_ _ q=>q
  rcases hc with z|z
  ·rw[z];exact nit b u e
  ·exact nit c _ z
theorem Inv.tok (I:Inv X pins σ H s)(t:Nat):Inv X pins σ H { s with toks:=t }:=I.un (h':=s.heap) (t':=t) Un.refl I.hok
theorem Inv.kept {t':Nat}(I:Inv X pins σ H s)(k:∀b u,s.heap.get? b=some u->h'.get? b=some u):Inv X pins σ H { s with heap:=h',toks:=t' }:=I.un (Un.kept k) (I.hok.kept k)
theorem Inv.laid {a:Addr}{o:HO}{t':Nat}(I:Inv X pins σ H s)(k:∀b u,s.heap.get? b=some u->h'.get? b=some u)(hp:s.heap.objs.size<=a)(new:Bs X.prog X.w (upd H a o) h' a o) :
  Inv X pins σ (upd H a o) { s with heap:=h',toks:=t' }:=I.un (Un.laid k hp (I.hok.fresh hp)) (I.hok.laid k hp new)
theorem Inv.write {x e:Addr} {o:HO} {t':Nat} (I:Inv X pins σ H s) (mu:ZA (H x)) (he:e=x\/H e=some (.own x)) (k:∀b u,b≠e->s.heap.get? b=some u->h'.get? b=some u) (heo:∃u,h'.get? e=some u)
  (new:Bs X.prog X.w (upd H x o) h' x o):Inv X pins σ (upd H x o) { s with heap:=h',toks:=t' }:=I.un (Un.write mu he k heo) (I.hok.write mu he k heo new)
theorem Inv.pins_of {pins':List (Addr×Obj)}(I:Inv X pins σ H s)(h:∀p∈pins',s.heap.get? p.1=some p.2/\H p.1=none/\p.1≠X.env.locals/\p.1∉X.fs/\∀v,p.2.data≠.cell v):Inv X pins' σ H s:=
 ⟨I.ok,I.os,I.bare,I.base,I.loc,I.cell,I.free,I.freeC,λp hp=>(aY.mp hp).elim (λz=>I.pin p (i6 _ z)) (h p),I.hok,I.len⟩
theorem PP {N:List Str}(hN:N.Nodup){i j:Nat}{x:Str}(a:N[i]?=some x)(b:N[j]?=some x):i=j:=by
 obtain⟨h1,e1⟩:=bu.mp a;obtain⟨h2,e2⟩:=bu.mp b;exact(List.getElem_inj hN).mp (e1.trans e2.symm)
theorem SC {M:Model} {A:Around} {E:Value->Shared->Prop} {i:Nat} {x:Str} {v:V} {u:Value} {Q:Unit->Shared->Prop} (I:Inv X pins σ H s) (hN:X.N.Nodup) (hi:X.N[i]?=some x) (hx:Loc X.env.scope x) (r:RelV v u)
  (h:∀s',Inv X pins (σ.set i (some v)) H s'->(∃a,Heap.SameBut a s.heap s'.heap/\(a=X.env.locals\/X.env.cells.lookup x=some a))->Q () s') (hf:X.fn x=true\/X.env.scope.names.lookup x=some .local:=by first|exact .inl rfl|exact .inr rfl|assumption):wpAny M A (storeName X.env x u) Q E s:=by
 obtain⟨m,hn,hl⟩:=id I.loc;have hcls:(X.env.scope.kind == .class||(X.env.scope.kind == .module&&X.env.locals != X.env.globals))=false:=by rw[I.ok.kind];rfl
 have hiσ:i<σ.length:=by rw[I.len];exact(bu.mp hi).1
 have cne:=I.cne;have tracked:∀{a:Addr} {h':Heap},(∃o,s.heap.get? a=some o/\H a=none)->Heap.SameBut a s.heap h'->Hv X.prog X.w H h':=λ{a h'} ha hs b ob e=>by
  obtain⟨_,_,hfree⟩:=ha;refine(I.hok b ob e).stay (λc w' hc q=>(hs.2 c ?_).trans q) (λ_ q=>q) λ_ _ q=>q
  rintro rfl
  rcases hc with rfl|hc
  ·rw[hfree] at e;cases e
  ·rw[hfree] at hc;cases hc
 rcases hx with hk|hk
 ·refine wpAny_storeName_local hk hn (λh' hn' hs=>?_) hcls;obtain⟨oL,_,_,hoL,_⟩:=id hn;refine h _ ⟨I.ok,I.os,I.bare,⟨λb o e n hb hx=>?_,λb o e n hb hx=>?_,I.base.free,λb o e hx=>?_,I.base.tups,I.base.frzs,I.base.tbls⟩,⟨_,hn',λj y v' e1 e2 e3=>?_⟩,λy c e=>?_,I.free,I.freeC,λp hp=>?_,tracked ⟨oL,hoL,I.free⟩ hs,by simpa using I.len⟩ ⟨_,hs,.inl rfl⟩
  ·exact(hs.2 b (bI (bO (bG e) I.ok.above))).trans (I.base.keep b o e n hb hx)
  ·obtain⟨sl,e1⟩:=I.base.slot b o e n hb hx;exact⟨sl,(hs.2 b (bI (bO (bG e) I.ok.above))).trans e1⟩
  ·obtain⟨o',e1⟩:=I.base.there b o e hx;exact⟨o',(hs.2 b (bI (bO (bG e) I.ok.above))).trans e1⟩
  ·by_cases hj:j=i
   ·subst hj;rw[hi] at e1;cases e1;rw[iJ hiσ] at e2;cases e2;exact⟨u,r,.inl ⟨hk,by simp⟩⟩
   ·rw[i7 (Ne.symm hj)] at e2;obtain⟨u',r',q⟩:=hl j y v' e1 e2 e3;refine⟨u',r',?_⟩;rcases q with⟨k,e⟩|⟨k,c,e,z⟩
    ·refine .inl ⟨k,?_⟩;have:y≠x:=λe=>hj (PP hN e1 (e▸hi))
     simp[this,e]
    ·exact .inr ⟨k,c,e,z.sameBut hs (cne y c e)⟩
  ·obtain⟨w',z⟩:=I.cell y c e;exact⟨w',z.sameBut hs (cne y c e)⟩
  ·obtain⟨e,n,ne,nf,d⟩:=I.pin p hp;exact⟨(hs.2 p.1 ne).trans e,n,ne,nf,d⟩
 ·have hfn:X.fn x=true:=by
   rcases hf with z|z
   ·exact z
   ·rw[z] at hk;cases hk
  obtain⟨c,hc⟩:=I.ok.has x (.inl hk);obtain⟨w',z⟩:=I.cell x c hc;refine wpAny_storeName_cell I.ok.kind hk hc z (λh' hc' hs=>?_);obtain⟨oc,hoc,hocd⟩:=id z;refine h { s with heap:=h' } ⟨I.ok,I.os,I.bare,⟨λb o e n hb hx=>?_,λb o e n hb hx=>?_,I.base.free,λb o e hx=>?_,I.base.tups,I.base.frzs,I.base.tbls⟩,⟨m,hn.sameBut hs (Ne.symm (cne x c hc)),λj y v' e1 e2 e3=>?_⟩,λy c' e=>?_,I.free,I.freeC,λp hp=>?_,tracked ⟨oc,hoc,I.freeC x c hc⟩ hs,by simpa using I.len⟩ ⟨c,hs,.inr hc⟩
  ·exact(hs.2 b (bI (bO (bG e) (I.ok.cab x c hfn hc)))).trans (I.base.keep b o e n hb hx)
  ·obtain⟨sl,e1⟩:=I.base.slot b o e n hb hx;exact⟨sl,(hs.2 b (bI (bO (bG e) (I.ok.cab x c hfn hc)))).trans e1⟩
  ·obtain⟨o',e1⟩:=I.base.there b o e hx;exact⟨o',(hs.2 b (bI (bO (bG e) (I.ok.cab x c hfn hc)))).trans e1⟩
  ·by_cases hj:j=i
   ·subst hj;rw[hi] at e1;cases e1;rw[iJ hiσ] at e2;cases e2;exact⟨u,r,.inr ⟨.inl hk,c,hc,hc'⟩⟩
   ·rw[i7 (Ne.symm hj)] at e2;obtain⟨u',r',q⟩:=hl j y v' e1 e2 e3;refine⟨u',r',?_⟩;rcases q with q|⟨k,c',e,z'⟩
    ·exact .inl q
    ·refine .inr ⟨k,c',e,z'.sameBut hs ?_⟩
     rintro rfl
     exact hj (PP hN e1 (I.ok.inj _ _ _ e hc▸hi))
  ·by_cases hcc:c'=c
   ·subst hcc;exact⟨_,hc'⟩
   ·obtain⟨w2,z2⟩:=I.cell y c' e;exact⟨w2,z2.sameBut hs hcc⟩
  ·obtain⟨e,n,ne,nf,d⟩:=I.pin p hp;refine⟨(hs.2 p.1 ?_).trans e,n,ne,nf,d⟩;intro q;rw[q,hoc] at e;have q':oc=p.2:=bf e;exact d w' (by rw[<-q'];exact hocd)
theorem Ms {M:Model} {A:Around} {E:Value->Shared->Prop} {i:Nat} {x:Str} {v:V} {u:Value} {Q:Unit->Shared->Prop} (I:Inv X pins σ H s) (hN:X.N.Nodup) (hi:X.N[i]?=some x) (hx:Loc X.env.scope x) (r:RelV v u)
  (h:∀s',Inv X pins (σ.set i (some v)) H s'->Q () s') (hf:X.fn x=true\/X.env.scope.names.lookup x=some .local:=by first|exact .inl rfl|exact .inr rfl|assumption):wpAny M A (storeName X.env x u) Q E s:=
 SC I hN hi hx r (λs' I' _=>h s' I') hf
theorem Inv.call' {s':Shared} {ch:List Addr} (I:Inv X pins σ H s) (ho:s'.os=s.os) (u:Un (JZ X.stack) ch H H' s.heap s'.heap) (hok:Hv X.prog X.w H' s'.heap) (hg:AllBare s'.gens)
  (hch:∀b∈ch,(b∈X.ex\/X.s₀.heap.objs.size<=b)/\b≠X.env.locals/\(∀x c,X.env.cells.lookup x=some c->c≠b)/\∀p∈X.pn++pins,p.1≠b):Inv X pins σ H' s':=by
 obtain⟨h',g',d',t',o'⟩:=s';have e:o'=s.os:=ho;subst e;exact I.call (g':=g') (t':=t') (d':=d') u hok hg hch
end
abbrev XK:=Value->Option Addr->Hp->Prop
abbrev St:=List (Option V)
abbrev VK:=V->Hp->Prop
abbrev TE:=St->Hp->VK->Prop
abbrev TT:=St->Hp->(Bool->Hp->Prop)->Prop
abbrev TA:=St->Hp->(List V->Hp->Prop)->Prop
structure Ends where
 nx:St->Hp->Prop
 rt:VK
 bk:St->Hp->Prop:=λ_ _=>False
 ct:St->Hp->Prop:=λ_ _=>False
abbrev TS:=Ends->St->Hp->Prop
def EP (X:Cx)(pins:List (Addr×Obj))(σ:St)(Q:VK)(u:Value)(s':Shared):Prop:=∃v H',Inv X pins σ H' s'/\RelV v u/\Q v H'
def TP (X:Cx)(pins:List (Addr×Obj))(σ:St)(Q:Bool->Hp->Prop)(b:Bool)(s':Shared):Prop:=∃H',Inv X pins σ H' s'/\Q b H'
def AP (X:Cx)(pins:List (Addr×Obj))(σ:St)(Q:List V->Hp->Prop)(us:List Value)(s':Shared):Prop:=∃vs H',Inv X pins σ H' s'/\AR vs us/\Q vs H'
def SP (X:Cx)(pins:List (Addr×Obj))(D:Ends)(f:Flow)(s':Shared):Prop:=
 match f with
 | .next=>∃σ' H',Inv X pins σ' H' s'/\D.nx σ' H'
 | .brk=>∃σ' H',Inv X pins σ' H' s'/\D.bk σ' H'
 | .cont=>∃σ' H',Inv X pins σ' H' s'/\D.ct σ' H'
 | .ret u=>∃v σ' H',Inv X pins σ' H' s'/\RelV v u/\D.rt v H'
def PE (X:Cx)(e:Expr)(t:TE):Prop:=
 ∀(pins:List (Addr×Obj)) (s:Shared) (σ:St) (H:Hp) (Q:VK),Inv X pins σ H s->t σ H Q->wpAny (model X.prog X.w) X.A (eval e X.env) (EP X pins σ Q) X.xe s
def PT (X:Cx)(e:Expr)(t:TT):Prop:=
 ∀(pins:List (Addr×Obj)) (s:Shared) (σ:St) (H:Hp) (Q:Bool->Hp->Prop),Inv X pins σ H s->t σ H Q->wpAny (model X.prog X.w) X.A (isTrue e X.env (eval e X.env)) (TP X pins σ Q) X.xe s
def PW (X:Cx)(e:Expr)(t:TT):Prop:=
 ∀(whole:Sem Value) (pins:List (Addr×Obj)) (s:Shared) (σ:St) (H:Hp) (Q:Bool->Hp->Prop),Inv X pins σ H s->t σ H Q->wpAny (model X.prog X.w) X.A (isTrue e X.env whole) (TP X pins σ Q) X.xe s
theorem PW.pt {X:Cx}{e:Expr}{t:TT}(h:PW X e t):PT X e t:=h _
def PA (X:Cx)(es:List Expr)(t:TA):Prop:=
 ∀(pos:Pos) (pins:List (Addr×Obj)) (s:Shared) (σ:St) (H:Hp) (Q:List V->Hp->Prop),Inv X pins σ H s->t σ H Q->wpAny (model X.prog X.w) X.A (spliced (backTo pos (starEach es X.env))) (AP X pins σ Q) X.xe s
def PS (X:Cx)(st:Stmt)(t:TS):Prop:=
 ∀(pins:List (Addr×Obj)) (s:Shared) (σ:St) (H:Hp) (D:Ends),Inv X pins σ H s->t D σ H->wpAny (model X.prog X.w) X.A (exec st X.env) (SP X pins D) X.xe s
def Qi (X:Cx)(st:List Stmt)(t:TS):Prop:=
 ∀(pins:List (Addr×Obj)) (s:Shared) (σ:St) (H:Hp) (D:Ends),Inv X pins σ H s->t D σ H->wpAny (model X.prog X.w) X.A (execs st X.env) (SP X pins D) X.xe s
theorem Bn {α:Type}{t:Sem α}{Q Q':α->Shared->Prop}{M:Model}{A:Around}{E:Value->Shared->Prop}{s:Shared}(h:wpAny M A t Q E s)(hQ:∀a s,Q a s->Q' a s):wpAny M A t Q' E s:=b4 h hQ λ_ _ x=>x
section
variable {X:Cx}
theorem bin {a b:Expr} {ta tb:TE} (ha:PE X a ta) (hb:PE X b tb) {pins:List (Addr×Obj)} {s:Shared} {σ:St} {H:Hp} {R:V->V->Hp->Prop} (I:Inv X pins σ H s) (h:ta σ H λx H1=>tb σ H1 λy H2=>R x y H2)
  {α:Type} {Q:α->Shared->Prop} {f:Value->Value->Sem α}
  (hf:∀v u s2 x y H2,Inv X pins σ H2 s2->RelV x v->RelV y u->R x y H2->wpAny (model X.prog X.w) X.A (f v u) Q X.xe s2) :
  wpAny (model X.prog X.w) X.A (eval a X.env) (λv s₁=>wpAny (model X.prog X.w) X.A (eval b X.env) (λu s₂=>wpAny (model X.prog X.w) X.A (f v u) Q X.xe s₂) X.xe s₁) X.xe s:=by
 refine Bn (ha pins s σ H _ I h) λv s1 ⟨x,H1,I1,r1,q1⟩=>?_
 refine Bn (hb pins s1 σ H1 _ I1 q1) λu s2 ⟨y,H2,I2,r2,q2⟩=>?_
 exact hf v u s2 x y H2 I2 r1 r2 q2
def Tq (i:Nat):TE:=λσ H Q=>∃v,σ[i]?=some (some v)/\Q v H
def tC (v:V):TE:=λ_ H Q=>Q v H
theorem YK {i:Nat}{x:Str}{pos:Pos}(hN:X.N[i]?=some x)(hv:ZW X.env.scope x)(hd:(x == ("__debug__":Str))=false:=by decide)(hcd:(x == ("__classdict__":Str))=false:=by decide):PE X (.Name x pos) (Tq i):=by
 intro pins s σ H Q I h;obtain⟨v,e,h⟩:=h;obtain⟨m,hn,hl⟩:=I.loc;obtain⟨u,r,l⟩:=hl i x v hN e hv;have fin:EP X pins σ Q u s:=⟨v,H,I,r,h⟩
 rcases l with⟨hk,hm⟩|⟨hk,c,hc,hcell⟩
 ·exact wpAny_Name (wpAny_loadName_local I.ok.kind hk hn hm fin) hd
 ·rcases hk with hk|hk
  ·exact wpAny_Name (wpAny_loadName_cell I.ok.kind hk hc hcell fin) hd
  ·exact wpAny_Name (wpAny_loadName_free I.ok.kind hk hc hcell fin hcd) hd
theorem Aj {i j pos}:PE X (.Constant (.int i) j pos) (tC (.int i)):=λ_ _ _ H _ I h=>gY ⟨.int i,H,I.tok _,⟨_,rfl⟩,h⟩
theorem DF {b j pos}:PE X (.Constant (.bool b) j pos) (tC (.bl b)):=λ_ _ _ H _ I h=>Constant_bool ⟨.bl b,H,I,rfl,h⟩
theorem Eb {j pos}:PE X (.Constant .none j pos) (tC .non):=λ_ _ _ H _ I h=>Constant_none ⟨.non,H,I,rfl,h⟩
theorem Lu {x j pos}:PE X (.Constant (.str x) j pos) (tC (.str x)):=λ_ _ _ H _ I h=>Calls.Constant_str ⟨.str x,H,I.tok _,⟨_,rfl⟩,h⟩
def Gl (X:Cx)(x:Str):Prop:=X.env.kindOf x=some .globalImplicit
theorem G9 {E:Value->Shared->Prop} {pins:List (Addr×Obj)} {s:Shared} {σ:St} {H:Hp} {x:Str} {u:Value} {pos:Pos} {Q:Value->Shared->Prop} (I:Inv X pins σ H s) (hg:Gl X x) (hm:X.mg x=some u) (h:Q u s)
  (hd:(x == ("__debug__":Str))=false:=by decide):wpAny (model X.prog X.w) X.A (eval (.Name x pos) X.env) Q E s:=
 i9 I.ok.kind hg (Calls.loadGlobal_global (by rw[I.ok.glob];exact I.mod.glob.keeps I.bk) hm h) hd
theorem HS {E:Value->Shared->Prop} {pins:List (Addr×Obj)} {s:Shared} {σ:St} {H:Hp} {x:Str} {u:Value} {pos:Pos} {Q:Value->Shared->Prop} (I:Inv X pins σ H s) (hg:Gl X x) (hm:X.mg x=none) (hv:bootBuiltins x=some u) (h:Q u s)
  (hn:x≠"__name__":=by decide) (hd:(x == ("__debug__":Str))=false:=by decide):wpAny (model X.prog X.w) X.A (eval (.Name x pos) X.env) Q E s:=by
 obtain⟨mb,h1,h2⟩:=I.mod.blt;exact i9 I.ok.kind hg (Calls.loadGlobal_builtin (by rw[I.ok.glob];exact I.mod.glob.keeps I.bk) hm (by rw[I.ok.blt];exact h1.keeps I.bk) ((h2 x hn).trans hv) h) hd
theorem Rw {x:Str}{v:V}{u:Value}{pos:Pos}(hg:Gl X x)(hm:X.mg x=some u)(r:RelV v u)(hd:(x == ("__debug__":Str))=false:=by decide):PE X (.Name x pos) (tC v):=
 λ_ _ _ H _ I h=>G9 I hg hm ⟨v,H,I,r,h⟩ hd
theorem WG {x:Str}{v:V}{u:Value}{pos:Pos}(hg:Gl X x)(hm:X.mg x=none)(hv:bootBuiltins x=some u)(r:RelV v u)(hn:x≠"__name__":=by decide)(hd:(x == ("__debug__":Str))=false:=by decide):PE X (.Name x pos) (tC v):=
 λ_ _ _ H _ I h=>HS I hg hm hv ⟨v,H,I,r,h⟩ hn hd
variable {a b:Expr}{ta tb:TE}{pos:Pos}
def PC (X:Cx)(op:CmpOp)(a b:Expr)(t:TE):Prop:=
 ∀(pins:List (Addr×Obj)) (s:Shared) (σ:St) (H:Hp) (Q:VK),Inv X pins σ H s->t σ H Q->
  wpAny (model X.prog X.w) X.A (eval a X.env) (λv s₁=>wpAny (model X.prog X.w) X.A (eval b X.env) (λu s₂=>wpAny (model X.prog X.w) X.A (compareOp op v u) (EP X pins σ Q) X.xe s₂) X.xe s₁) X.xe s
theorem Cn (b:Expr){op:CmpOp}(h:op≠.In)(h2:op≠.NotIn):behindInMarks op b=false:=by
 have e1:(op == CmpOp.In)=false:=by cases op<;>first|rfl|exact absurd rfl h
 have e2:(op == CmpOp.NotIn)=false:=by cases op<;>first|rfl|exact absurd rfl h2
 cases b<;>simp[behindInMarks,e1,e2]
def ZS (ta:TE):TE:=λσ H Q=>ta σ H λx H1=>Q (.bl (decide (x=.non))) H1
def Zu (ta:TE):TE:=λσ H Q=>ta σ H λx H1=>Q (.bl (!decide (x=.non))) H1
theorem RelV.none_iff {x:V}{v:Value}(r:RelV x v):(v == Value.none)=decide (x=.non):=by
 cases x with
 |non=>cases r;rfl
 |bl _=>cases r;rfl
 |int _=>obtain⟨t,rfl⟩:=r;rfl
 |str _=>obtain⟨t,rfl⟩:=r;rfl
 |byt _=>obtain⟨t,rfl⟩:=r;rfl
 |flt _=>obtain⟨t,rfl⟩:=r;rfl
 |ref _=>cases r;rfl
 |ty _=>cases r;rfl
theorem Rg {j pos'}(ha:PE X a ta):PC X .Is a (.Constant .none j pos') (ZS ta):=by
 intro pins s σ H Q I h;refine Bn (ha pins s σ H _ I h) λv s1 ⟨x,H1,I1,r1,q1⟩=>?_
 exact Constant_none (is_none_gen ⟨.bl _,H1,I1,by rw[r1.none_iff];rfl,q1⟩)
theorem K6 {j pos'}(ha:PE X a ta):PC X .IsNot a (.Constant .none j pos') (Zu ta):=by
 intro pins s σ H Q I h;refine Bn (ha pins s σ H _ I h) λv s1 ⟨x,H1,I1,r1,q1⟩=>?_
 exact Constant_none (isnot_none_gen ⟨.bl _,H1,I1,by rw[r1.none_iff];rfl,q1⟩)
def tB (t:TE):TT:=λσ H Q=>t σ H λx H1=>∃c,x=.bl c/\Q c H1
theorem EW {op:CmpOp}{t:TE}(h:PC X op a b t)(h1:behindInMarks op b=false:=by first|exact Cn _ (by decide) (by decide)|rfl):PT X (.Compare a [op] [b] pos) (tB t):=by
 intro pins s σ H Q I hw;refine wpAny_isTrue_Compare1 (Bn (h pins s σ H _ I hw) λv s1 h1=>Bn h1 λu s2 h2=>Bn h2 λc s3 ⟨x,H1,I1,r1,q1⟩=>?_) h1;obtain⟨d,rfl,q⟩:=q1;cases r1;exact cO ⟨H1,I1,q⟩
theorem BC {e:Expr}{t:TE}(h:PE X e t)(he:∀whole,isTrue e X.env whole=(do let v <-whole;standAt e.pos;holding [v] (truthy v)):=by intro _;rfl):PT X e (tB t):=by
 intro pins s σ H Q I hw;refine isTrue_plain (Bn (h pins s σ H _ I hw) λv s1 ⟨x,H1,I1,r1,q1⟩=>?_) (he _);obtain⟨d,rfl,q⟩:=q1;cases r1;exact cO ⟨H1,I1,q⟩
variable {tA tB':TT}{rest:List Expr}
def ZV (t u:TT):TT:=λσ H Q=>t σ H λc H1=>if c=true then u σ H1 Q else Q false H1
def ZR (t u:TT):TT:=λσ H Q=>t σ H λc H1=>if c=true then Q true H1 else u σ H1 Q
def az (t:TT):TT:=λσ H Q=>t σ H λc H1=>Q (!c) H1
theorem La (ha:PT X a tA):PW X (.BoolOp .And [a] pos) tA:=by
 intro wh pins s σ H Q I h;refine isTrue_and (Bn (ha pins s σ H Q I h) λc s1 e=>?_);cases c with
 |true=>exact isTrue_and_nil e
 |false=>exact e
theorem Du (ha:PT X a tA):PW X (.BoolOp .Or [a] pos) tA:=by
 intro wh pins s σ H Q I h;refine isTrue_or (Bn (ha pins s σ H Q I h) λc s1 e=>?_);cases c with
 |false=>exact isTrue_or_nil e
 |true=>exact e
theorem OO (ha:PT X a tA)(hb:PW X (.BoolOp .And (b::rest) pos) tB'):PW X (.BoolOp .And (a::b::rest) pos) (ZV tA tB'):=by
 intro wh pins s σ H Q I h;refine isTrue_and (Bn (ha pins s σ H _ I h) λc s1 ⟨H1,I1,q1⟩=>?_);cases c with
 |true=>exact hb wh pins s1 σ H1 Q I1 q1
 |false=>exact⟨H1,I1,q1⟩
theorem EU (ha:PT X a tA)(hb:PW X (.BoolOp .Or (b::rest) pos) tB'):PW X (.BoolOp .Or (a::b::rest) pos) (ZR tA tB'):=by
 intro wh pins s σ H Q I h;refine isTrue_or (Bn (ha pins s σ H _ I h) λc s1 ⟨H1,I1,q1⟩=>?_);cases c with
 |true=>exact⟨H1,I1,q1⟩
 |false=>exact hb wh pins s1 σ H1 Q I1 q1
theorem BL (ha:PT X a tA):PT X (.UnaryOp .Not a pos) (az tA):=by
 intro pins s σ H Q I h;exact isTrue_not (ha pins s σ H (λc H1=>Q (!c) H1) I h)
def XD (ta tb:TE):TE:=λσ H Q=>ta σ H λx H1=>∃c,x=.bl c/\if c=true then tb σ H1 Q else Q (.bl false) H1
def Zi (ta:TE):TE:=λσ H Q=>ta σ H λx H1=>∃c,x=.bl c/\Q (.bl (!c)) H1
theorem FP {op}{t:TE}(h:PE X a t):PE X (.BoolOp op [a] pos) t:=λpins s σ H Q I hw=>BoolOp_one (h pins s σ H Q I hw)
theorem Em (ha:PE X a ta)(hb:PE X (.BoolOp .And (b::rest) pos) tb):PE X (.BoolOp .And (a::b::rest) pos) (XD ta tb):=by
 intro pins s σ H Q I h;refine BoolOp_and (Bn (ha pins s σ H _ I h) λv s1 ⟨x,H1,I1,r1,q1⟩=>?_);obtain⟨c,rfl,q1⟩:=q1;cases r1;refine cO ?_;cases c with
 |true=>exact hb pins s1 σ H1 Q I1 q1
 |false=>exact⟨.bl false,H1,I1,rfl,q1⟩
theorem YO (ha:PE X a ta):PE X (.UnaryOp .Not a pos) (Zi ta):=by
 intro pins s σ H Q I h;refine UnaryOp_ (Bn (ha pins s σ H _ I h) λv s1 ⟨x,H1,I1,r1,q1⟩=>?_);obtain⟨c,rfl,q1⟩:=q1;cases r1;exact not_of (cO ⟨.bl (!c),H1,I1,rfl,q1⟩)
def aL (t:TT)(ta tb:TE):TE:=λσ H Q=>t σ H λc H1=>if c=true then ta σ H1 Q else tb σ H1 Q
theorem PN {c:Expr}(hc:PT X c tA)(ha:PE X a ta)(hb:PE X b tb):PE X (.IfExp c a b pos) (aL tA ta tb):=by
 intro pins s σ H Q I h;refine wpAny_IfExp (Bn (hc pins s σ H _ I h) λd s1 ⟨H1,I1,q1⟩=>?_);cases d with
 |true=>exact ha pins s1 σ H1 Q I1 q1
 |false=>exact hb pins s1 σ H1 Q I1 q1
end
def AI (K:PySem.W.Frag)(H:Hp)(a:Addr)(xs:List V):Prop:=
 Rd H a (.lst xs)\/
  ∃(o:Obj) (its:Array Value) (n:Nat),K.lookup a=some o/\o.cls=.type "list"/\o.dict=none/\o.data=.seq its n/\its.size<=sizeLine/\AR xs its.toList
def AV (K:PySem.W.Frag)(H:Hp)(a:Addr)(xs:List V):Prop:=
 Rd H a (.tup xs)\/
  ∃(o:Obj) (its:Array Value) (n:Nat),K.lookup a=some o/\o.cls=.type "tuple"/\o.data=.seq its n/\its.size<=sizeLine/\AR xs its.toList
def aa:Value->Option V
 | .none=>some .non
 | .bool b=>some (.bl b)
 | .int i _=>some (.int i)
 | .str x _=>some (.str x)
 | .bytes b _=>some (.byt b)
 | .float b _=>some (.flt b)
 | .ref a=>some (.ref a)
 | .type n=>some (.ty n)
 |_=>none
theorem RelV.abs {x:V}{u:Value}(r:RelV x u):aa u=some x:=by
 cases x with
 |non=>cases r;rfl
 |bl _=>cases r;rfl
 |int _=>obtain⟨t,rfl⟩:=r;rfl
 |str _=>obtain⟨t,rfl⟩:=r;rfl
 |byt _=>obtain⟨t,rfl⟩:=r;rfl
 |flt _=>obtain⟨t,rfl⟩:=r;rfl
 |ref _=>cases r;rfl
 |ty _=>cases r;rfl
theorem RelV.inj {x y:V}{u:Value}(r:RelV x u)(q:RelV y u):x=y:=bf (r.abs.symm.trans q.abs)
theorem AR.inj:∀{xs ys:List V} {us:List Value},AR xs us->AR ys us->xs=ys
 |_,_,_,.nil,.nil=>rfl
 |_,_,_,.cons r t,.cons r' t'=>by rw[r.inj r',AR.inj t t']
section
variable {X:Cx}{pins:List (Addr×Obj)}{σ:St}{H:Hp}{s:Shared}{a:Addr}{xs ys:List V}
theorem AI.of {K:PySem.W.Frag}(h:H a=some (.lst xs)):AI K H a xs:=.inl (.inl h)
theorem AV.of {K:PySem.W.Frag}(h:H a=some (.tup xs)):AV K H a xs:=.inl (.inl h)
theorem Inv.list (I:Inv X pins σ H s)(h:AI X.K H a xs):∃its:List Value,AR xs its/\PlainL s.heap a its.toArray/\xs.length<=sizeLine:=by
 rcases h with h|⟨o,its,n,hk,hc,hd,hs,hz,r⟩
 ·obtain⟨z,its,n,r,e⟩:=h.ok I.hok;exact⟨its,r,⟨_,n,e,rfl,rfl,rfl⟩,z⟩
 ·refine⟨its.toList,r,⟨o,n,I.kIn a o hk,hc,hd,by simpa using hs⟩,?_⟩;have e:=r.length;simp only[Array.length_toList] at e;omega
theorem Inv.tuple (I:Inv X pins σ H s)(h:AV X.K H a xs):∃its:List Value,AR xs its/\IsTup s.heap a its.toArray/\xs.length<=sizeLine:=by
 rcases h with h|⟨o,its,n,hk,hc,hs,hz,r⟩
 ·obtain⟨z,its,r,p⟩:=h.ok I.hok;exact⟨its,r,p.is,z⟩
 ·refine⟨its.toList,r,⟨o,I.kIn a o hk,hc,n,by simpa using hs⟩,?_⟩;have e:=r.length;simp only[Array.length_toList] at e;omega
theorem Inv.list_inj (I:Inv X pins σ H s)(h:AI X.K H a xs)(h':AI X.K H a ys):xs=ys:=by
 obtain⟨its,r,⟨o,n,e,_,_,d⟩,_⟩:=I.list h;obtain⟨its',r',⟨o',n',e',_,_,d'⟩,_⟩:=I.list h';rw[e] at e';cases e';rw[d] at d';injection d' with d1 _
 have:its=its':=by simpa using congrArg Array.toList d1
 subst this;exact r.inj r'
theorem Inv.tuple_inj (I:Inv X pins σ H s)(h:AV X.K H a xs)(h':AV X.K H a ys):xs=ys:=by
 obtain⟨its,r,⟨o,e,_,n,d⟩,_⟩:=I.tuple h;obtain⟨its',r',⟨o',e',_,n',d'⟩,_⟩:=I.tuple h';rw[e] at e';cases e';rw[d] at d';injection d' with d1 _
 have:its=its':=by simpa using congrArg Array.toList d1
 subst this;exact r.inj r'
end
abbrev Cx.wish (X:Cx)(E:Value->Shared->Prop):Cx:={ X with xe:=E }
abbrev Cx.nox (X:Cx):Cx:=X.wish λ_ _=>False
theorem Cx.Ok.wish {X:Cx}(ok:X.Ok)(E:Value->Shared->Prop):(X.wish E).Ok:=
 ⟨ok.mod,ok.kind,ok.glob,ok.blt,ok.above,ok.inj,ok.has,ok.cab,ok.hd,ok.frames,ok.stk,ok.exf,ok.bs,ok.bsz,ok.noex,ok.exfs,ok.funs,ok.frf⟩
theorem Cx.Ok.unwish {X:Cx}{E:Value->Shared->Prop}(ok:(X.wish E).Ok):X.Ok:=
 ⟨ok.mod,ok.kind,ok.glob,ok.blt,ok.above,ok.inj,ok.has,ok.cab,ok.hd,ok.frames,ok.stk,ok.exf,ok.bs,ok.bsz,ok.noex,ok.exfs,ok.funs,ok.frf⟩
section
variable {X:Cx}{pins:List (Addr×Obj)}{σ:St}{H:Hp}{s:Shared}{E:Value->Shared->Prop}
theorem Inv.wish (I:Inv X pins σ H s)(E:Value->Shared->Prop):Inv (X.wish E) pins σ H s:=⟨I.ok.wish E,I.os,I.bare,I.base,I.loc,I.cell,I.free,I.freeC,I.pin,I.hok,I.len⟩
theorem Inv.unwish (I:Inv (X.wish E) pins σ H s):Inv X pins σ H s:=⟨I.ok.unwish,I.os,I.bare,I.base,I.loc,I.cell,I.free,I.freeC,I.pin,I.hok,I.len⟩
theorem SP.unwish {D:Ends}{f:Flow}{s':Shared}(h:SP (X.wish E) pins D f s'):SP X pins D f s':=by
 cases f with
 |next=>obtain⟨σ',H',I,q⟩:=h;exact⟨σ',H',I.unwish,q⟩
 |brk=>obtain⟨σ',H',I,q⟩:=h;exact⟨σ',H',I.unwish,q⟩
 |cont=>obtain⟨σ',H',I,q⟩:=h;exact⟨σ',H',I.unwish,q⟩
 |ret u=>obtain⟨v,σ',H',I,r,q⟩:=h;exact⟨v,σ',H',I.unwish,r,q⟩
theorem Qi.nox {st:List Stmt}{t:TS}(h:Qi X.nox st t):Qi X st t:=λpins s σ H D I hw=>
 b4 (h pins s σ H D (I.wish _) hw) (λ_ _ q=>q.unwish) λ_ _ z=>False.elim z
end
section
variable {X:Cx}{st:Stmt}{rest:List Stmt}{t u:TS}{e:Expr}{te:TE}{pos:Pos}
def Dr:TS:=λD σ H=>D.nx σ H
def Wn (t u:TS):TS:=λD σ H=>t { D with nx:=u D } σ H
theorem Av:Qi X [] Dr:=λ_ _ σ H _ I h=>fJ ⟨σ,H,I,h⟩
theorem Ah (h1:PS X st t)(h2:Qi X rest u):Qi X (st::rest) (Wn t u):=by
 intro pins s σ H D I h;refine ig (Bn (h1 pins s σ H { D with nx:=u D } I h) λf s1 q=>?_);cases f with
 |next=>
  obtain⟨σ',H',I',q⟩:=q;exact h2 pins s1 σ' H' D I' q
 |ret v=>exact q
 |brk=>exact q
 |cont=>exact q
theorem Ak (h1:PS X st t):Qi X [st] t:=by
 intro pins s σ H D I h;refine ig (Bn (h1 pins s σ H D I h) λf s1 q=>?_);cases f with
 |next=>exact fJ q
 |ret v=>exact q
 |brk=>exact q
 |cont=>exact q
theorem Inv.quiet {pins:List (Addr×Obj)}{σ:St}{H:Hp}{s:Shared}(I:Inv X pins σ H s):interactive X.env=false:=by simp[interactive,I.ok.kind]
def ZJ (te:TE):TS:=λD σ H=>te σ H λ_ H1=>D.nx σ H1
theorem A6 (he:PE X e te)(hs:swapsWith e none pos.line X.env=pure false:=by rfl):PS X (.Expr e pos) (ZJ te):=by
 intro pins s σ H D I h;exact wpAny_Expr_any (Bn (he pins s σ H _ I h) λv s1 ⟨x,H1,I1,r1,q1⟩=>⟨σ,H1,I1,q1⟩) I.quiet hs
def ZC (te:TE):TS:=λD σ H=>te σ H D.rt
theorem Ao (he:PE X e te):PS X (.Return (some e) pos) (ZC te):=by
 intro pins s σ H D I h;exact wpAny_Return_some (Bn (he pins s σ H _ I h) λv s1 ⟨x,H1,I1,r1,q1⟩=>⟨x,σ,H1,I1,r1,q1⟩)
def Qu (c:TT)(t u:TS):TS:=λD σ H=>c σ H λb H1=>if b=true then t D σ H1 else u D σ H1
theorem AM {c:Expr}{a b:List Stmt}{tc:TT}(hc:PT X c tc)(ha:Qi X a t)(hb:Qi X b u):PS X (.If c a b pos) (Qu tc t u):=by
 intro pins s σ H D I h;refine wpAny_If (Bn (hc pins s σ H _ I h) λd s1 ⟨H1,I1,q1⟩=>?_);cases d with
 |true=>exact ha pins s1 σ H1 D I1 q1
 |false=>exact hb pins s1 σ H1 D I1 q1
def YF:TS:=λ_ _ _=>False
theorem DG:PS X st YF:=λ_ _ _ _ _ _ h=>h.elim
end
abbrev TG:=V->St->Hp->(St->Hp->Prop)->Prop
abbrev Xy:=List V->St->Hp->(St->Hp->Prop)->Prop
def PG (X:Cx)(target:Expr)(t:TG):Prop:=
 ∀(pins:List (Addr×Obj)) (s:Shared) (σ:St) (H:Hp) (v:V) (u:Value) (Q:St->Hp->Prop),Inv X pins σ H s->RelV v u->t v σ H Q->
  wpAny (model X.prog X.w) X.A (assign target X.env u) (λ_ s'=>∃σ' H',Inv X pins σ' H' s'/\Q σ' H') X.xe s
def Zh (X:Cx)(ts:List Expr)(t:Xy):Prop:=
 ∀(pins:List (Addr×Obj)) (s:Shared) (σ:St) (H:Hp) (vs:List V) (us:List Value) (Q:St->Hp->Prop),Inv X pins σ H s->AR vs us->t vs σ H Q->
  wpAny (model X.prog X.w) X.A (assignInOrder ((assignEach ts X.env).map (·.2)) us) (λ_ s'=>∃σ' H',Inv X pins σ' H' s'/\Q σ' H') X.xe s
section
variable {X:Cx}{pos:Pos}
def Bt (i:Nat):TG:=λv σ H Q=>Q (σ.set i (some v)) H
theorem An {i:Nat}{x:Str}(hN:X.N.Nodup)(hi:X.N[i]?=some x)(hx:Loc X.env.scope x)(hf:X.fn x=true\/X.env.scope.names.lookup x=some .local:=by first|exact .inl rfl|exact .inr rfl|assumption):PG X (.Name x pos) (Bt i):=by
 intro pins s σ H v u Q I r h;exact wpAny_assign_Name (Ms I hN hi hx r (λs' I'=>⟨_,H,I',h⟩) hf)
def Tx:Xy:=λvs σ H Q=>vs=[]/\Q σ H
def Fo (t:TG)(u:Xy):Xy:=λvs σ H Q=>∃v r,vs=v::r/\t v σ H λσ' H'=>u r σ' H' Q
theorem Bv:Zh X [] Tx:=by
 intro pins s σ H vs us Q I r h;obtain⟨e,h⟩:=h;subst e;cases r;exact assignInOrder_nil ⟨σ,H,I,h⟩
theorem Ax {e:Expr} {es:List Expr} {t:TG} {u:Xy} (h1:PG X e t) (h2:Zh X es u)
  (hs:(assignEach (e::es) X.env).map (·.2)=assign e X.env::(assignEach es X.env).map (·.2):=by rfl):Zh X (e::es) (Fo t u):=by
 intro pins s σ H vs us Q I r h;obtain⟨v,vr,e1,h⟩:=h;subst e1;cases r with
 |cons r rr=>
  rw[hs];refine assignInOrder_cons (Bn (h1 pins s σ H _ _ _ I r h) λ_ s1 ⟨σ1,H1,I1,q1⟩=>?_);exact h2 pins s1 σ1 H1 _ _ Q I1 rr q1
def Re (K:PySem.W.Frag)(n:Nat)(t:Xy):TG:=λv σ H Q=>∃a xs,v=.ref a/\AV K H a xs/\xs.length=n/\t xs σ H Q
theorem J3 {es:List Expr} {k:Nat} {t:Xy} {n:Nat} (hc:X.calm=true) (h:Zh X es t)
  (hn:(assignEach es X.env).length=n:=by rfl) (hst:(assignEach es X.env).findIdx? (·.1)=none:=by rfl):PG X (.Tuple es k pos) (Re X.K n t):=by
 intro pins s σ H v u Q I r hw;obtain⟨a,xs,e1,hq,hl,hw⟩:=hw;subst e1;cases r;obtain⟨its,rv,ht,hz⟩:=I.tuple hq;refine assign_Tuple_tuple (I.ok.hd hc) ht (by simp[hn,<-hl,rv.length]) hst λh' hx=>?_
 have I1:Inv X pins σ H { s with heap:=h' }:=I.kept (t':=s.toks) λb o e=>hx b o (bI (bG e)) e
 exact h pins _ σ H xs _ Q I1 (by simpa using rv) hw
def W7 (te:TE)(g:TG):TS:=λD σ H=>te σ H λx H1=>g x σ H1 D.nx
theorem AD {i:Nat}{x:Str}{e:Expr}{te:TE}{pos':Pos}(hN:X.N.Nodup)(hi:X.N[i]?=some x)(hx:Loc X.env.scope x)(he:PE X e te)(hs:swapsWith e (some (.Name x pos')) pos.line X.env=pure false:=by rfl)(hf:X.fn x=true\/X.env.scope.names.lookup x=some .local:=by first|exact .inl rfl|exact .inr rfl|assumption) :
  PS X (.Assign [.Name x pos'] e pos) (W7 te (Bt i)):=by
 intro pins s σ H D I h;refine wpAny_Assign_Name (Bn (he pins s σ H _ I h) λv s1 ⟨y,H1,I1,r1,q1⟩=>?_) hs;exact Ms I1 hN hi hx r1 (λs2 I2=>⟨_,H1,I2,q1⟩) hf
end
section
variable {X:Cx}{pos:Pos}
def YL (c:TT)(tb:TS):TS:=λD σ H=>∃W:Nat->St->Hp->Prop,(∃m,W m σ H)/\∀m σ H,W m σ H->
 c σ H λb H1=>if b=true then ∃N:St->Hp->Prop,(∀σ' H',N σ' H'->∃m',m'<m/\W m' σ' H')/\tb { D with nx:=N,ct:=N,bk:=D.nx } σ H1 else D.nx σ H1
theorem ME {c:Expr}{body:List Stmt}{tc:TT}{tb:TS}(hp:PassesOwn (model X.prog X.w) X.A X.env X.xe)(hc:PT X c tc)(hb:Qi X body tb):PS X (.While c body [] pos) (YL tc tb):=by
 intro pins s σ H D I h;obtain⟨W,⟨m0,w0⟩,turn⟩:=h;refine wpAny_While (codeAny_whileLoop (λn s'=>∃σ' H',Inv X pins σ' H' s'/\W n σ' H') ?_ m0 ⟨σ,H,I,w0⟩)
 rintro n s1 ⟨σ1,H1,I1,w1⟩
 refine eA hp (Bn (hc pins s1 σ1 H1 _ I1 (turn n σ1 H1 w1)) λb s2 ⟨H2,I2,q2⟩=>?_);cases b with
 |true=>
  obtain⟨N,hN,q2⟩:=q2;rw[bF rfl];refine eA hp (Bn (hb pins s2 σ1 H2 _ I2 q2) λf s3 q3=>?_);cases f with
  |next=>
   obtain⟨σ3,H3,I3,n3⟩:=q3;obtain⟨m',hm,w3⟩:=hN σ3 H3 n3;exact⟨m',hm,σ3,H3,I3,w3⟩
  |cont=>
   obtain⟨σ3,H3,I3,n3⟩:=q3;obtain⟨m',hm,w3⟩:=hN σ3 H3 n3;exact⟨m',hm,σ3,H3,I3,w3⟩
  |brk=>exact q3
  |ret v=>exact q3
 |false=>
  rw[bH bC];exact fJ ⟨σ1,H2,I2,q2⟩
end
structure It where
 go:Nat->Hp->Prop
 yld:Nat->Hp->V->Hp->Prop
 stop:Nat->Hp->Prop
def Jv (X:Cx)(pins:List (Addr×Obj))(H:Hp)(b:Addr):Prop:=
 H b=none/\b≠X.env.locals/\b∉X.fs/\(b∈X.ex\/X.s₀.heap.objs.size<=b)/\(∀x c,X.env.cells.lookup x=some c->c≠b)/\∀p∈X.pn++pins,p.1≠b
theorem Inv.fpOk {X:Cx}{pins:List (Addr×Obj)}{σ:St}{H H':Hp}{s:Shared}{b:Addr}(I:Inv X pins σ H s)(hb:s.heap.objs.size<=b)(hn:H' b=none):Jv X pins H' b:=by
 refine⟨hn,dS (bO I.lt hb),I.nofs hb,.inr (bQ I.sz hb),λx c e z=>?_,λp hp z=>?_⟩
 ·obtain⟨v,q⟩:=I.cell x c e;exact absurd (bO q.lt (by rw[z];exact hb)) (dk _)
 ·exact absurd (bO (bG (I.pin p hp).1) (by rw[z];exact hb)) (dk _)
structure Turn (P:Program) (w:World) (K:PySem.W.Frag) (tg:Expr) (J:It) (fp:List Addr) (it:Addr) (tn:Nat->Heap->Prop):Prop where
 mem:it∈fp
 obj:∀i h,tn i h->∀b∈fp,∃o,h.get? b=some o/\∀v,o.data≠.cell v
 keep:∀i h h',tn i h->(∀b∈fp,∀o,h.get? b=some o->h'.get? b=some o)->tn i h'
 item:∀(X:Cx),X.prog=P->X.w=w->X.K=K->X.calm=true->∀(i:Nat) (pins:List (Addr×Obj)) (s:Shared) (σ:St) (H:Hp) (E:Value->Shared->Prop),Inv X pins σ H s->(∀b∈fp,Jv X pins H b)->tn i s.heap->J.go i H->
  wpAny (model P w) X.A (pyNext (.ref it)) (λr s1=>∃u,r=some u/\
   wpAny (model P w) X.A (letOwnedTupleGo tg (.ref it) u) (λ_ s2=>∃x H',Inv X pins σ H' s2/\RelV x u/\J.yld i H x H'/\tn (i+1) s2.heap/\∀b∈fp,H' b=none) E s1) E s
 done:∀(X:Cx),X.prog=P->X.w=w->X.K=K->X.calm=true->∀(i:Nat) (pins:List (Addr×Obj)) (s:Shared) (σ:St) (H:Hp) (E:Value->Shared->Prop),Inv X pins σ H s->(∀b∈fp,Jv X pins H b)->tn i s.heap->J.stop i H->
  wpAny (model P w) X.A (pyNext (.ref it)) (λr s1=>r=none/\Inv X pins σ H s1) E s
 self:∀(A:Around) (i:Nat) (s:Shared) (Q:Value->Shared->Prop) (E:Value->Shared->Prop),tn i s.heap->Q (.ref it) s->wpAny (model P w) A (pyIter (.ref it)) Q E s
abbrev TI:=St->Hp->(It->Hp->Prop)->Prop
def aJ (X:Cx)(pins:List (Addr×Obj))(σ:St)(tg:Expr)(R:It->Hp->Prop)(itv:Value)(s2:Shared):Prop:=
 ∃(it:Addr) (fp:List Addr) (tn:Nat->Heap->Prop) (J:It) (H':Hp),itv=.ref it/\Inv X pins σ H' s2/\Turn X.prog X.w X.K tg J fp it tn/\tn 0 s2.heap/\(∀b∈fp,Jv X pins H' b)/\R J H'
def PI (X:Cx)(tg iter:Expr)(wi:TI):Prop:=
 ∀(pins:List (Addr×Obj)) (s:Shared) (σ:St) (H:Hp) (R:It->Hp->Prop),Inv X pins σ H s->wi σ H R->
  wpAny (model X.prog X.w) X.A (eval iter X.env) (λv s1=>wpAny (model X.prog X.w) X.A (pyIter v) (aJ X pins σ tg R) X.xe s1) X.xe s
theorem PB {M:Model} {A:Around} {E:Value->Shared->Prop} {s:Shared} {tg:Expr} {it:Addr} {u:Value} {o:Obj} {n:String} {vs:Array Value} {Q:Unit->Shared->Prop} (ho:s.heap.get? it=some o) (hc:o.cls=.type n) (hd:o.data=.fields vs)
  (hn:["enumerate","zip","dict_itemiterator","dict_reverseitemiterator","odict_iterator","itertools.zip_longest","itertools.pairwise"].contains n=false) (hQ:Q () s):wpAny M A (letOwnedTupleGo tg (.ref it) u) Q E s:=by
 unfold letOwnedTupleGo;cases tg<;>first
  |exact aX hQ
  |(cases u<;>first
    |exact aX hQ
    |(refine aU (iW ho ?_)
      rw[hc,hd];show wpAny M A (if(["enumerate","zip","dict_itemiterator","dict_reverseitemiterator","odict_iterator","itertools.zip_longest","itertools.pairwise"].contains n&&vs[0]? == some (rawInt _))=true then _ else _) Q E s;rw[bH (by intro h;rw[hn,Bool.false_and] at h;cases h)];exact aX hQ))
def Xr (K:PySem.W.Frag)(a:Addr):It:=
 ⟨λi H=>∃xs x,AI K H a xs/\xs[i]?=some x,λi H x H'=>H'=H/\∀xs,AI K H a xs->xs[i]?=some x,λi H=>∃xs,AI K H a xs/\xs.length<=i⟩
def Y6 (K:PySem.W.Frag)(a:Addr):It:=
 ⟨λi H=>∃xs x,AV K H a xs/\xs[i]?=some x,λi H x H'=>H'=H/\∀xs,AV K H a xs->xs[i]?=some x,λi H=>∃xs,AV K H a xs/\xs.length<=i⟩
def VV (lo:Int)(n:Nat):It:=⟨λi _=>i<n,λi H x H'=>H'=H/\x=.int (lo+i),λi _=>n<=i⟩
theorem SD {P:Program}{w:World}{K:PySem.W.Frag}{tg:Expr}(a it:Addr):Turn P w K tg (Xr K a) [it] it (λi h=>h.IsListIter it a i) where
 mem:=by simp
 obj:=λi h st b hb=>by
  have e:b=it:=by simpa using hb
  subst e;obtain⟨o,e,c,d⟩:=st;exact⟨o,e,λv z=>by rw[d] at z;cases z⟩
 keep:=λi h h' st k=>st.at λo e=>k it (by simp) o e
 item:=by
  intro X hP hw hK hc i pins s σ H E I hf st hg;subst hP hw hK;obtain⟨xs,x,hq,hx⟩:=hg;obtain⟨its,rv,p,hz⟩:=I.list hq;obtain⟨u,hu,ru⟩:=rv.get hx;obtain⟨f0,f1,f2,f3,f4,f5⟩:=hf it (by simp);refine wpAny_pyNext_list_item st p.isList (x:=u) (by simpa using hu) λh' st' sb=>?_
  have I1:Inv X pins σ H { s with heap:=h' }:=I.turned (t':=s.toks) (λb o hb e=>(sb.2 b hb).trans e) f0 f1 f3 f4 f5;obtain⟨o,e,c,d⟩:=id st';exact⟨u,rfl,PB (s:={ s with heap:=h' }) e c d (by decide) ⟨x,H,I1,ru,⟨rfl,λys hy=>by rw[I.list_inj hy hq];exact hx⟩,st',λb hb=>(hf b hb).1⟩⟩
 done:=by
  intro X hP hw hK hc i pins s σ H E I hf st hg;subst hP hw hK;obtain⟨xs,hq,hx⟩:=hg;obtain⟨its,rv,p,hz⟩:=I.list hq;obtain⟨f0,f1,f2,f3,f4,f5⟩:=hf it (by simp);have hl:=rv.length;exact wpAny_pyNext_list_end (I.ok.hd hc) st p.isList (by simp;omega) λh' eb=>⟨rfl,I.turned (t':=s.toks) (λb o hb e=>eb b o hb e) f0 f1 f3 f4 f5⟩
 self:=λ_ _ _ _ _ st h=>wpAny_pyIter_listiter st h
theorem QY {P:Program}{w:World}{K:PySem.W.Frag}{tg:Expr}(a it:Addr):Turn P w K tg (Y6 K a) [it] it (λi h=>h.IsTupleIter it a i) where
 mem:=by simp
 obj:=λi h st b hb=>by
  have e:b=it:=by simpa using hb
  subst e;obtain⟨o,e,c,d⟩:=st;exact⟨o,e,λv z=>by rw[d] at z;cases z⟩
 keep:=λi h h' st k=>st.at λo e=>k it (by simp) o e
 item:=by
  intro X hP hw hK hc i pins s σ H E I hf st hg;subst hP hw hK;obtain⟨xs,x,hq,hx⟩:=hg;obtain⟨its,rv,p,hz⟩:=I.tuple hq;obtain⟨u,hu,ru⟩:=rv.get hx;obtain⟨f0,f1,f2,f3,f4,f5⟩:=hf it (by simp);refine wpAny_pyNext_tuple_item st (show s.heap.IsTuple a its.toArray from p) (x:=u) (by simpa using hu) λh' st' sb=>?_
  have I1:Inv X pins σ H { s with heap:=h' }:=I.turned (t':=s.toks) (λb o hb e=>(sb.2 b hb).trans e) f0 f1 f3 f4 f5;obtain⟨o,e,c,d⟩:=id st';exact⟨u,rfl,PB (s:={ s with heap:=h' }) e c d (by decide) ⟨x,H,I1,ru,⟨rfl,λys hy=>by rw[I.tuple_inj hy hq];exact hx⟩,st',λb hb=>(hf b hb).1⟩⟩
 done:=by
  intro X hP hw hK hc i pins s σ H E I hf st hg;subst hP hw hK;obtain⟨xs,hq,hx⟩:=hg;obtain⟨its,rv,p,hz⟩:=I.tuple hq;obtain⟨f0,f1,f2,f3,f4,f5⟩:=hf it (by simp);have hl:=rv.length;exact wpAny_pyNext_tuple_end (I.ok.hd hc) st (show s.heap.IsTuple a its.toArray from p) (by simp;omega) λh' eb=>⟨rfl,I.turned (t':=s.toks) (λb o hb e=>eb b o hb e) f0 f1 f3 f4 f5⟩
 self:=λ_ _ _ _ _ st h=>wpAny_pyIter_tupleiter st h
theorem Q3 {P:Program}{w:World}{K:PySem.W.Frag}{tg:Expr}(it:Addr)(lo:Int)(n:Nat):Turn P w K tg (VV lo n) [it] it (λi h=>IsRangeIter h it (lo+(i:Nat)*1) ((n:Int)-(i:Nat)) 1) where
 mem:=by simp
 obj:=λi h st b hb=>by
  have e:b=it:=by simpa using hb
  subst e;exact⟨_,st,λv z=>by
   have z':Data.fields _=Data.cell v:=z;cases z'⟩
 keep:=λi h h' st k=>k it (by simp) _ st
 item:=by
  intro X hP hw hK hc i pins s σ H E I hf st hg;subst hP hw hK;obtain⟨f0,f1,f2,f3,f4,f5⟩:=hf it (by simp);have W:=Walks.range (prog:=X.prog) (w:=X.w) (I.ok.hd hc) it lo 1 n;refine W.item i s _ _ hg st λv h' tk hv st' kk=>?_
  obtain⟨t,rfl⟩:=hv;have I1:Inv X pins σ H { s with heap:=h',toks:=tk }:=I.turned (λb o hb e=>kk b o (by simpa using hb) e) f0 f1 f3 f4 f5;refine⟨_,rfl,PB (s:={ s with heap:=h',toks:=tk }) (n:="range_iterator") st' rfl rfl (by decide) ⟨.int (lo+i),H,I1,⟨t,?_⟩,⟨rfl,rfl⟩,st',λb hb=>(hf b hb).1⟩⟩;rw[Int.mul_one]
 done:=by
  intro X hP hw hK hc i pins s σ H E I hf st hg;subst hP hw hK;obtain⟨f0,f1,f2,f3,f4,f5⟩:=hf it (by simp);exact wpAny_pyNext_range_end (I.ok.hd hc) st (by have:n<=i:=hg;omega) λh' eb=>⟨rfl,I.turned (t':=s.toks) (λb o hb e=>eb b o hb e) f0 f1 f3 f4 f5⟩
 self:=λ_ _ _ _ _ st h=>wpAny_pyIter_rangeiter st h
section
variable {X:Cx}{tg:Expr}
def Zx (K:PySem.W.Frag)(tl:TE):TI:=λσ H R=>tl σ H λx H1=>∃a,x=.ref a/\(∃xs,AI K H1 a xs)/\R (Xr K a) H1
def Z5 (K:PySem.W.Frag)(tl:TE):TI:=λσ H R=>tl σ H λx H1=>∃a,x=.ref a/\(∃xs,AV K H1 a xs)/\R (Y6 K a) H1
theorem A0 {l:Expr}{tl:TE}(hl:PE X l tl):PI X tg l (Zx X.K tl):=by
 intro pins s σ H R I h;refine Bn (hl pins s σ H _ I h) λv s1 ⟨x,H1,I1,r1,q1⟩=>?_
 obtain⟨a,e,⟨xs,hq⟩,q⟩:=q1;subst e;cases r1;obtain⟨its,rv,p,hz⟩:=I1.list hq;refine dP p.isList ?_;refine⟨s1.heap.objs.size,[s1.heap.objs.size],_,_,H1,rfl,I1.kept (t':=s1.toks) λb o e=>aV _ e,SD a _,⟨_,bB _ rfl,rfl,rfl⟩,λb hb=>?_,q⟩;have e:b=s1.heap.objs.size:=by simpa using hb
 subst e;exact I1.fpOk (aZ _) (I1.hok.fresh (aZ _))
theorem Ds {l:Expr}{tl:TE}(hl:PE X l tl):PI X tg l (Z5 X.K tl):=by
 intro pins s σ H R I h;refine Bn (hl pins s σ H _ I h) λv s1 ⟨x,H1,I1,r1,q1⟩=>?_
 obtain⟨a,e,⟨xs,hq⟩,q⟩:=q1;subst e;cases r1;obtain⟨its,rv,p,hz⟩:=I1.tuple hq;refine wpAny_pyIter_tuple (show s1.heap.IsTuple a its.toArray from p) ?_;refine⟨s1.heap.objs.size,[s1.heap.objs.size],_,_,H1,rfl,I1.kept (t':=s1.toks) λb o e=>aV _ e,QY a _,⟨_,bB _ rfl,rfl,rfl⟩,λb hb=>?_,q⟩;have e:b=s1.heap.objs.size:=by simpa using hb
 subst e;exact I1.fpOk (aZ _) (I1.hok.fresh (aZ _))
theorem UA {pins:List (Addr×Obj)} {σ:St} {H:Hp} {s:Shared} {R:It->Hp->Prop} {E:Value->Shared->Prop} {lo hi:Int} {t u v:Tok} {tk:Nat} (I:Inv X pins σ H s) (h1:-(2^62)<=lo) (h2:lo<2^62) (h3:-(2^62)<=hi) (h4:hi<2^62)
  (q:R (VV lo (hi-lo).toNat) H):wpAny (model X.prog X.w) X.A (pyIter (.ref s.heap.objs.size)) (aJ X pins σ tg R) E { s with heap:=s.heap.push { cls:=.type "range",data:=.fields #[.int lo t,.int hi u,.int 1 v] },toks:=tk }:=by
 refine wpAny_pyIter_range (IsRange.new ..) (small_one h1 h2 h3 h4) ?_;have I1:Inv X pins σ H { s with heap:=s.heap.push { cls:=.type "range",data:=.fields #[.int lo t,.int hi u,.int 1 v] },toks:=tk }:=I.kept λb o e=>aV _ e
 refine⟨(s.heap.push { cls:=.type "range",data:=.fields #[.int lo t,.int hi u,.int 1 v] }).objs.size,[(s.heap.push { cls:=.type "range",data:=.fields #[.int lo t,.int hi u,.int 1 v] }).objs.size],_,_,H,rfl,
  I1.kept (t':=tk) λb o e=>aV _ e,Q3 _ lo (hi-lo).toNat,?_,λb hb=>?_,q⟩
 ·have e1:lo+((0:Nat):Int)*1=lo:=by simp
  have e2:(((hi-lo).toNat:Nat):Int)-((0:Nat):Int)=Builtin.Range.rangeSize lo hi 1:=by rw[rangeSize_one];split<;>omega
  show IsRangeIter _ _ (lo+((0:Nat):Int)*1) ((((hi-lo).toNat:Nat):Int)-((0:Nat):Int)) 1;rw[e1,e2];exact bB _ rfl
 ·have e:b=(s.heap.push { cls:=.type "range",data:=.fields #[.int lo t,.int hi u,.int 1 v] }).objs.size:=by simpa using hb
  subst e;exact I1.fpOk (aZ _) (I1.hok.fresh (aZ _))
def Zq (ta:TA):TI:=λσ H R=>ta σ H λvs H1=>∃j:Int,vs=[.int j]/\-(2^62)<=j/\j<2^62/\R (VV 0 j.toNat) H1
theorem C4 {a:Expr}{ta:TA}{p pos:Pos}(hg:Gl X "range")(hm:X.mg "range"=none)(ha:PA X [a] ta)(hs:starEach [a] X.env=[(false,eval a X.env)]:=by rfl):PI X tg (.Call (.Name "range" p) [a] [] pos) (Zq ta):=by
 intro pins s σ H R I h;refine Call_ (HS I hg hm boot_range (fu (Bn (ha pos pins s σ H _ I h) λus s1 ⟨vs,H1,I1,r1,q1⟩=>?_) hs rfl));obtain⟨j,e,q1,q2,q⟩:=q1;subst e;cases r1 with
 |cons r rr=>
  cases rr;obtain⟨t,rfl⟩:=r;exact call_range_1 (UA I1 (by omega) (by omega) q1 q2 (by simpa using q))
def aB (wi:TI)(g:TG)(tb:TS):TS:=λD σ H=>wi σ H λJ H1=>∃W:Nat->Nat->St->Hp->Prop,(∃m,W 0 m σ H1)/\∀i m σ H,W i m σ H->
 (J.stop i H/\D.nx σ H)\/(J.go i H/\∃N:St->Hp->Prop,(∀σ' H',N σ' H'->∃m',m'<m/\W (i+1) m' σ' H')/\∀x H',J.yld i H x H'->g x σ H' λσ2 H2=>tb { D with nx:=N,ct:=N,bk:=D.nx } σ2 H2)
def LK (fp:List Addr)(h:Heap):List (Addr×Obj):=fp.filterMap λb=>(h.get? b).map λo=>(b,o)
theorem FO {fp:List Addr}{h:Heap}{b:Addr}{o:Obj}(hb:b∈fp)(e:h.get? b=some o):(b,o)∈LK fp h:=gD.mpr ⟨b,hb,by rw[e];rfl⟩
theorem Sz {fp:List Addr}{h:Heap}{p:Addr×Obj}(hp:p∈LK fp h):p.1∈fp/\h.get? p.1=some p.2:=by
 obtain⟨b,hb,e⟩:=gD.mp hp;cases q:h.get? b with
 |none=>rw[q] at e;cases e
 |some o=>
  rw[q] at e;have e':(b,o)=p:=bf e;subst e';exact⟨hb,q⟩
theorem Inv.pinned {pins:List (Addr×Obj)}{σ:St}{H:Hp}{s:Shared}{fp:List Addr}(I:Inv X pins σ H s)(hf:∀b∈fp,Jv X pins H b)(ho:∀b∈fp,∃o,s.heap.get? b=some o/\∀v,o.data≠.cell v):Inv X (pins++LK fp s.heap) σ H s:=
 I.pins_of λp hp=>(aY.mp hp).elim (λz=>I.pin p (b8 _ z)) λz=>by
  obtain⟨hb,e⟩:=Sz z;obtain⟨f0,f1,f2,_⟩:=hf p.1 hb;obtain⟨o,e',d⟩:=ho p.1 hb;rw[e] at e';cases e';exact⟨e,f0,f1,f2,d⟩
theorem Inv.unpinned {pins pl:List (Addr×Obj)}{σ:St}{H:Hp}{s:Shared}(I:Inv X (pins++pl) σ H s):Inv X pins σ H s:=I.pins_of λp hp=>I.pin p (b8 _ (i6 _ hp))
theorem B2 {iter:Expr} {body:List Stmt} {wi:TI} {g:TG} {tb:TS} {pos:Pos} (hp:PassesOwn (model X.prog X.w) X.A X.env X.xe) (hc:X.calm=true) (hi:PI X tg iter wi) (hg:PG X tg g) (hb:Qi X body tb)
  (hs:∀x,foldedSetIterable iter X.env x=pure x:=by intro _;rfl):PS X (.For tg iter body [] pos) (aB wi g tb):=by
 intro pins s σ H D I h;refine wpAny_For (Bn (hi pins s σ H _ I h) λv s1 h1=>Bn h1 λitv s2 h2=>?_) hs;obtain⟨it,fp,tn,J,H2,e,I2,T,st2,f2,W,⟨m0,w0⟩,turn⟩:=h2;subst e;have stat:∀{H':Hp},(∀b∈fp,H' b=none)->∀b∈fp,Jv X pins H' b:=λhn b hb=>⟨hn b hb,(f2 b hb).2⟩
 refine codeAny_forLoop_any (λn s'=>∃i σ' H',Inv X pins σ' H' s'/\tn i s'.heap/\(∀b∈fp,H' b=none)/\W i n σ' H') ?_ m0 ⟨0,σ,H2,I2,st2,λb hb=>(f2 b hb).1,w0⟩
 rintro n s3 ⟨i,σ3,H3,I3,st3,fr3,w3⟩
 rcases turn i n σ3 H3 w3 with⟨stop,qn⟩|⟨go,N,hN,step⟩
 ·refine eA hp (Bn (T.done X rfl rfl rfl hc i pins s3 σ3 H3 X.xe I3 (stat fr3) st3 stop) λr s4 ⟨hr,I4⟩=>?_);subst hr;exact fJ ⟨σ3,H3,I4,qn⟩
 ·refine eA hp (Bn (T.item X rfl rfl rfl hc i pins s3 σ3 H3 X.xe I3 (stat fr3) st3 go) λr s4 ⟨u,hr,h4⟩=>?_);subst hr;refine eA hp (Bn h4 λ_ s5 z9=>?_);obtain⟨x,H5,I5,r5,y5,st5,fr5⟩:=z9;have I5':=I5.pinned (stat fr5) (T.obj _ _ st5);refine eA hp (Bn (hg _ s5 σ3 H5 x u _ I5' r5 (step x H5 y5)) λ_ s6 ⟨σ6,H6,I6,q6⟩=>?_);refine eA hp (Bn (hb _ s6 σ6 H6 _ I6 q6) λf s7 q7=>?_);have again:∀{σ7:St} {H7:Hp},Inv X (pins++LK fp s5.heap) σ7 H7 s7->N σ7 H7->∃m,m<n/\∃i σ' H',Inv X pins σ' H' s7/\tn i s7.heap/\(∀b∈fp,H' b=none)/\W i m σ' H':=λ{σ7 H7} I7 n7=>by
   obtain⟨m',hm,w7⟩:=hN σ7 H7 n7;refine⟨m',hm,i+1,σ7,H7,I7.unpinned,T.keep _ _ _ st5 λb hb o e=>(I7.pin (b,o) (b8 _ (b8 _ (FO hb e)))).1,λb hb=>?_,w7⟩;obtain⟨o,e,d⟩:=T.obj _ _ st5 b hb;exact(I7.pin (b,o) (b8 _ (b8 _ (FO hb e)))).2.1
  cases f with
  |next=>obtain⟨σ7,H7,I7,n7⟩:=q7;exact again I7 n7
  |cont=>obtain⟨σ7,H7,I7,n7⟩:=q7;exact again I7 n7
  |brk=>obtain⟨σ7,H7,I7,q7⟩:=q7;exact⟨σ7,H7,I7.unpinned,q7⟩
  |ret v=>obtain⟨x7,σ7,H7,I7,r7,q7⟩:=q7;exact⟨x7,σ7,H7,I7.unpinned,r7,q7⟩
end
theorem Cp {K:PySem.W.Frag} {a:Addr} {xs:List V} {g:TG} {tb:TS} {D:Ends} {σ:St} {H:Hp} (Pv:Nat->St->Hp->Prop) (h0:Pv 0 σ H) (hl:∀i σ H,i<=xs.length->Pv i σ H->AI K H a xs)
  (hs:∀i x σ H,xs[i]?=some x->Pv i σ H->g x σ H λσ2 H2=>tb { D with nx:=Pv (i+1),ct:=Pv (i+1),bk:=D.nx } σ2 H2) (hd:∀σ H,Pv xs.length σ H->D.nx σ H) :
  ∃W:Nat->Nat->St->Hp->Prop,(∃m,W 0 m σ H)/\∀i m σ H,W i m σ H->
   ((Xr K a).stop i H/\D.nx σ H)\/((Xr K a).go i H/\∃N:St->Hp->Prop,(∀σ' H',N σ' H'->∃m',m'<m/\W (i+1) m' σ' H')/\∀x H',(Xr K a).yld i H x H'->g x σ H' λσ2 H2=>tb { D with nx:=N,ct:=N,bk:=D.nx } σ2 H2):=by
 refine⟨λi m σ H=>m=xs.length-i/\i<=xs.length/\Pv i σ H,⟨xs.length,by simp,bU _,h0⟩,?_⟩
 rintro i m σ H ⟨rfl,hi,p⟩
 have q:=hl i σ H hi p
 by_cases hlt:i<xs.length
 ·refine .inr ⟨⟨xs,xs[i],q,by simp[hlt]⟩,Pv (i+1),λσ' H' p'=>⟨xs.length-(i+1),by omega,rfl,hlt,p'⟩,λx H' y=>?_⟩;obtain⟨e,y⟩:=y;subst e;exact hs i x σ _ (y xs q) p
 ·have e:i=xs.length:=by omega
  subst e;exact .inl ⟨⟨xs,q,aZ _⟩,hd σ H p⟩
theorem Lg {K:PySem.W.Frag} {a:Addr} {xs:List V} {g:TG} {tb:TS} {D:Ends} {σ:St} {H:Hp} (Pv:Nat->St->Hp->Prop) (h0:Pv 0 σ H) (hl:∀i σ H,i<=xs.length->Pv i σ H->AV K H a xs)
  (hs:∀i x σ H,xs[i]?=some x->Pv i σ H->g x σ H λσ2 H2=>tb { D with nx:=Pv (i+1),ct:=Pv (i+1),bk:=D.nx } σ2 H2) (hd:∀σ H,Pv xs.length σ H->D.nx σ H) :
  ∃W:Nat->Nat->St->Hp->Prop,(∃m,W 0 m σ H)/\∀i m σ H,W i m σ H->
   ((Y6 K a).stop i H/\D.nx σ H)\/((Y6 K a).go i H/\∃N:St->Hp->Prop,(∀σ' H',N σ' H'->∃m',m'<m/\W (i+1) m' σ' H')/\∀x H',(Y6 K a).yld i H x H'->g x σ H' λσ2 H2=>tb { D with nx:=N,ct:=N,bk:=D.nx } σ2 H2):=by
 refine⟨λi m σ H=>m=xs.length-i/\i<=xs.length/\Pv i σ H,⟨xs.length,by simp,bU _,h0⟩,?_⟩
 rintro i m σ H ⟨rfl,hi,p⟩
 have q:=hl i σ H hi p
 by_cases hlt:i<xs.length
 ·refine .inr ⟨⟨xs,xs[i],q,by simp[hlt]⟩,Pv (i+1),λσ' H' p'=>⟨xs.length-(i+1),by omega,rfl,hlt,p'⟩,λx H' y=>?_⟩;obtain⟨e,y⟩:=y;subst e;exact hs i x σ _ (y xs q) p
 ·have e:i=xs.length:=by omega
  subst e;exact .inl ⟨⟨xs,q,aZ _⟩,hd σ H p⟩
theorem J0 {lo:Int} {n:Nat} {g:TG} {tb:TS} {D:Ends} {σ:St} {H:Hp} (Pv:Nat->St->Hp->Prop) (h0:Pv 0 σ H)
  (hs:∀i σ H,i<n->Pv i σ H->g (.int (lo+i)) σ H λσ2 H2=>tb { D with nx:=Pv (i+1),ct:=Pv (i+1),bk:=D.nx } σ2 H2) (hd:∀σ H,Pv n σ H->D.nx σ H) :
  ∃W:Nat->Nat->St->Hp->Prop,(∃m,W 0 m σ H)/\∀i m σ H,W i m σ H->
   ((VV lo n).stop i H/\D.nx σ H)\/((VV lo n).go i H/\∃N:St->Hp->Prop,(∀σ' H',N σ' H'->∃m',m'<m/\W (i+1) m' σ' H')/\∀x H',(VV lo n).yld i H x H'->g x σ H' λσ2 H2=>tb { D with nx:=N,ct:=N,bk:=D.nx } σ2 H2):=by
 refine⟨λi m σ H=>m=n-i/\i<=n/\Pv i σ H,⟨n,by simp,bU _,h0⟩,?_⟩
 rintro i m σ H ⟨rfl,hi,p⟩
 by_cases hlt:i<n
 ·refine .inr ⟨hlt,Pv (i+1),λσ' H' p'=>⟨n-(i+1),by omega,rfl,hlt,p'⟩,λx H' y=>?_⟩;obtain⟨e,y⟩:=y;subst e y;exact hs i σ _ hlt p
 ·have e:i=n:=by omega
  subst e;exact .inl ⟨aZ _,hd σ H p⟩
abbrev R2:=V->V->Hp->VK->Prop
def Gw (X:Cx)(f:Value->Value->Sem Value)(r:R2):Prop:=
 ∀(pins:List (Addr×Obj)) (s:Shared) (σ:St) (H:Hp) (x y:V) (v u:Value) (Q:VK),Inv X pins σ H s->RelV x v->RelV y u->r x y H Q->
  wpAny (model X.prog X.w) X.A (f v u) (EP X pins σ Q) X.xe s
def Z9 (X:Cx)(f:Value->Sem Value)(r:V->Hp->VK->Prop):Prop:=
 ∀(pins:List (Addr×Obj)) (s:Shared) (σ:St) (H:Hp) (x:V) (v:Value) (Q:VK),Inv X pins σ H s->RelV x v->r x H Q->
  wpAny (model X.prog X.w) X.A (f v) (EP X pins σ Q) X.xe s
def CL (X:Cx)(f:Value)(r:List V->Hp->VK->Prop):Prop:=
 ∀(pins:List (Addr×Obj)) (s:Shared) (σ:St) (H:Hp) (xs:List V) (us:List Value) (Q:VK),Inv X pins σ H s->AR xs us->r xs H Q->
  wpAny (model X.prog X.w) X.A (call f us) (EP X pins σ Q) X.xe s
def XI (r:R2)(ta tb:TE):TE:=λσ H Q=>ta σ H λx H1=>tb σ H1 λy H2=>r x y H2 Q
def aP (r:V->Hp->VK->Prop)(ta:TE):TE:=λσ H Q=>ta σ H λx H1=>r x H1 Q
def rI (C:Int->Int->Prop)(g:Int->Int->V):R2:=λx y H Q=>∃i j,x=.int i/\y=.int j/\C i j/\Q (g i j) H
def UE (g:Int->Int->V):R2:=λx y H Q=>∃i j,x=.int i/\y=.int j/\Q (g i j) H
def rU (g:Int->V):V->Hp->VK->Prop:=λx H Q=>∃i,x=.int i/\Q (g i) H
section
variable {X:Cx}{a b c:Expr}{ta tb tc:TE}{pos:Pos}
theorem Yk (ha:PE X a ta) (hb:PE X b tb) {pins:List (Addr×Obj)} {s:Shared} {σ:St} {H:Hp} {R:V->V->Hp->Prop} (I:Inv X pins σ H s)
  (h:ta σ H λx H1=>tb σ H1 λy H2=>R x y H2) {Q:Value->Shared->Prop} {f:Value->Value->Sem Value}
  (hf:∀v u s2 x y H2,Inv X pins σ H2 s2->RelV x v->RelV y u->R x y H2->wpAny (model X.prog X.w) X.A (f v u) Q X.xe s2) :
  wpAny (model X.prog X.w) X.A (eval a X.env) (λv s₁=>wpAny (model X.prog X.w) X.A (eval b X.env) (λu s₂=>wpAny (model X.prog X.w) X.A (f v u) Q X.xe s₂) X.xe s₁) X.xe s:=by
 refine Bn (ha pins s σ H _ I h) λv s1 ⟨x,H1,I1,r1,q1⟩=>?_
 refine Bn (hb pins s1 σ H1 _ I1 q1) λu s2 ⟨y,H2,I2,r2,q2⟩=>?_
 exact hf v u s2 x y H2 I2 r1 r2 q2
theorem As {op:Operator}{r:R2}(ho:Gw X (binaryOp op) r)(ha:PE X a ta)(hb:PE X b tb):PE X (.BinOp a op b pos) (XI r ta tb):=by
 intro pins s σ H Q I h;exact wpAny_BinOp (Yk ha hb I h λv u s2 x y H2 I2 rx ry q=>ho pins s2 σ H2 x y v u Q I2 rx ry q)
theorem XA {op:UnaryOp}{r:V->Hp->VK->Prop}(ho:Z9 X (unaryOp op) r)(ha:PE X a ta):PE X (.UnaryOp op a pos) (aP r ta):=by
 intro pins s σ H Q I h;exact UnaryOp_ (Bn (ha pins s σ H _ I h) λv s1 ⟨x,H1,I1,r1,q1⟩=>ho pins s1 σ H1 x v Q I1 r1 q1)
theorem ZM {f:Value->Value->Sem Value} {C:Int->Int->Prop} {g:Int->Int->Int}
  (rule:∀(i j:Int) (t u:Tok) (s:Shared) (Q:Value->Shared->Prop) (E:Value->Shared->Prop),C i j->Q (.int (g i j) s.toks) { s with toks:=s.toks+1 }->wpAny (model X.prog X.w) X.A (f (.int i t) (.int j u)) Q E s) :
  Gw X f (rI C λi j=>.int (g i j)):=by
 intro pins s σ H x y v u Q I rx ry h;obtain⟨i,j,rfl,rfl,hc,q⟩:=h;obtain⟨t,rfl⟩:=rx;obtain⟨t',rfl⟩:=ry;exact rule i j t t' s _ _ hc ⟨.int (g i j),H,I.tok _,⟨_,rfl⟩,q⟩
theorem Wv {f:Value->Value->Sem Value} {g:Int->Int->Int}
  (rule:∀(i j:Int) (t u:Tok) (s:Shared) (Q:Value->Shared->Prop) (E:Value->Shared->Prop),Q (.int (g i j) s.toks) { s with toks:=s.toks+1 }->wpAny (model X.prog X.w) X.A (f (.int i t) (.int j u)) Q E s) :
  Gw X f (UE λi j=>.int (g i j)):=by
 intro pins s σ H x y v u Q I rx ry h;obtain⟨i,j,rfl,rfl,q⟩:=h;obtain⟨t,rfl⟩:=rx;obtain⟨t',rfl⟩:=ry;exact rule i j t t' s _ _ ⟨.int (g i j),H,I.tok _,⟨_,rfl⟩,q⟩
theorem X4 {f:Value->Value->Sem Value} {g:Int->Int->Bool}
  (rule:∀(i j:Int) (t u:Tok) (s:Shared) (Q:Value->Shared->Prop) (E:Value->Shared->Prop),Q (.bool (g i j)) s->wpAny (model X.prog X.w) X.A (f (.int i t) (.int j u)) Q E s) :
  Gw X f (UE λi j=>.bl (g i j)):=by
 intro pins s σ H x y v u Q I rx ry h;obtain⟨i,j,rfl,rfl,q⟩:=h;obtain⟨t,rfl⟩:=rx;obtain⟨t',rfl⟩:=ry;exact rule i j t t' s _ _ ⟨.bl (g i j),H,I,rfl,q⟩
def ao (i j:Int):Prop:=0<j/\j<1073741824
def Zm (i j:Int):Prop:=0<=j/\j<=1000000/\i.natAbs<2^64
def YR (i j:Int):Prop:=(-(2^64)<i/\i<2^64)\/(-(2^64)<j/\j<2^64)
theorem YR.ok {i j:Int}(h:YR i j):IntMulOk i j:=by
 rcases h with⟨h1,h2⟩|⟨h1,h2⟩
 ·exact .of_left (intBits_le_64 h1 h2)
 ·exact .of_right (intBits_le_64 h1 h2)
theorem Bi:Gw X (binaryOp .Add) (UE λi j=>.int (i+j)):=Wv λ_ _ _ _ _ _ _ q=>add_int q
theorem FK:Gw X (binaryOp .Sub) (UE λi j=>.int (i-j)):=Wv λ_ _ _ _ _ _ _ q=>sub_int q
theorem Eg:Gw X (binaryOp .Mult) (rI YR λi j=>.int (i*j)):=ZM λ_ _ _ _ _ _ _ hc q=>mul_int q hc.ok
theorem G6:Gw X (binaryOp .FloorDiv) (rI ao λi j=>.int (i/j)):=ZM λi j _ _ _ _ _ hc q=>by
 have h1:(0:Int)<j:=hc.1;have h2:j<1073741824:=hc.2;exact floordiv_int (by omega) (by rw[Int.fdiv_eq_ediv_of_nonneg i (by omega)];exact q) (.inl (PyProof.noPylong_small (by omega)))
theorem A3:Gw X (binaryOp .Mod) (rI (λ_ j=>0<j) λi j=>.int (i%j)):=ZM λi j _ _ _ _ _ hc q=>by
 have h1:(0:Int)<j:=hc;exact mod_int' (by omega) (by rw[Int.fmod_eq_emod_of_nonneg i (by omega)];exact q)
theorem Mj:Gw X (binaryOp .Pow) (rI Zm λi j=>.int (i^j.toNat)):=ZM λ_ _ _ _ _ _ _ hc q=>pow_int_small hc.1 hc.2.1 hc.2.2 q
theorem K8:Gw X (inplaceOp .Add) (UE λi j=>.int (i+j)):=Wv λ_ _ _ _ _ _ _ q=>iadd_int q
theorem Sd:Gw X (inplaceOp .Sub) (UE λi j=>.int (i-j)):=Wv λ_ _ _ _ _ _ _ q=>isub_int q
theorem aK {f:Value->Sem Value} {g:Int->Int}
  (rule:∀(i:Int) (t:Tok) (s:Shared) (Q:Value->Shared->Prop) (E:Value->Shared->Prop),Q (.int (g i) s.toks) { s with toks:=s.toks+1 }->wpAny (model X.prog X.w) X.A (f (.int i t)) Q E s) :
  Z9 X f (rU λi=>.int (g i)):=by
 intro pins s σ H x v Q I rx h;obtain⟨i,rfl,q⟩:=h;obtain⟨t,rfl⟩:=rx;exact rule i t s _ _ ⟨.int (g i),H,I.tok _,⟨_,rfl⟩,q⟩
theorem U1:Z9 X (unaryOp .USub) (rU λi=>.int (-i)):=aK λ_ _ _ _ _ q=>neg_int q
end
def ZE:V->V->Bool
 | .non,.non=>true | .non,.int _=>true | .int _,.non=>true | .non,.bl _=>true | .bl _,.non=>true | .non,.str _=>true | .str _,.non=>true
 | .int _,.int _=>true | .bl _,.bl _=>true | .str _,.str _=>true | .byt _,.byt _=>true
 | .int _,.str _=>true | .str _,.int _=>true | .bl _,.str _=>true | .str _,.bl _=>true
 |_,_=>false
def aQ:R2:=λx y H Q=>ZE x y=true/\Q (.bl (decide (x=y))) H
def aN:R2:=λx y H Q=>ZE x y=true/\Q (.bl (!decide (x=y))) H
theorem Hq {i j:Int}:decide (V.int i=V.int j)=(i == j):=by
 rw[cq];simp
theorem Vu {i j:Bool}:decide (V.bl i=V.bl j)=(i == j):=by
 rw[cq];simp
theorem N2 {i j:Str}:decide (V.str i=V.str j)=(i == j):=by
 rw[cq];simp
theorem R0 {i j:Array UInt8}:decide (V.byt i=V.byt j)=(i.toList == j.toList):=by
 rw[cq];cases i;cases j;simp
section
variable {X:Cx}{a b c:Expr}{ta tb tc:TE}{pos:Pos}
theorem A9 {pins:List (Addr×Obj)}{σ:St}{H:Hp}{s:Shared}{Q:VK}{k k':Bool}(I:Inv X pins σ H s)(q:Q (.bl k) H)(e:k=k'):EP X pins σ Q (.bool k') s:=by
 subst e;exact⟨.bl k,H,I,rfl,q⟩
theorem Bg:Gw X (compareOp .Eq) aQ:=by
 intro pins s σ H x y v u Q I rx ry h;obtain⟨hs,q⟩:=h;cases x with
 |non=>
  cases rx;cases y with
  |non=>cases ry;exact PySem.EqNone.eq_none_none (A9 I q (by simp))
  |bl j=>cases ry;exact PySem.EqNone.eq_none_bool (A9 I q (by simp))
  |int j=>obtain⟨t',rfl⟩:=ry;exact PySem.EqNone.eq_none_int (A9 I q (by simp))
  |str j=>obtain⟨t',rfl⟩:=ry;exact PySem.EqNone.eq_none_str (A9 I q (by simp))
  |_=>exact absurd (show false=true from hs) bC
 |bl i=>
  cases rx;cases y with
  |non=>cases ry;exact PySem.EqNone.eq_bool_none (A9 I q (by simp))
  |bl j=>cases ry;exact eq_bool (A9 I q Vu)
  |str j=>obtain⟨t',rfl⟩:=ry;exact PySem.EqMixed.eq_bool_str (A9 I q (by simp))
  |_=>exact absurd (show false=true from hs) bC
 |int i=>
  obtain⟨t,rfl⟩:=rx;cases y with
  |non=>cases ry;exact PySem.EqNone.eq_int_none (A9 I q (by simp))
  |int j=>obtain⟨t',rfl⟩:=ry;exact eq_int (A9 I q Hq)
  |str j=>obtain⟨t',rfl⟩:=ry;exact PySem.EqMixed.eq_int_str (A9 I q (by simp))
  |_=>exact absurd (show false=true from hs) bC
 |str i=>
  obtain⟨t,rfl⟩:=rx;cases y with
  |non=>cases ry;exact PySem.EqNone.eq_str_none (A9 I q (by simp))
  |bl j=>cases ry;exact PySem.EqMixed.eq_str_bool (A9 I q (by simp))
  |int j=>obtain⟨t',rfl⟩:=ry;exact PySem.EqMixed.eq_str_int (A9 I q (by simp))
  |str j=>obtain⟨t',rfl⟩:=ry;exact eq_str (A9 I q N2)
  |_=>exact absurd (show false=true from hs) bC
 |byt i=>
  obtain⟨t,rfl⟩:=rx;cases y with
  |byt j=>obtain⟨t',rfl⟩:=ry;exact PySem.W.eq_bytes (A9 I q R0)
  |_=>exact absurd (show false=true from hs) bC
 |_=>cases y<;>exact absurd (show false=true from hs) bC
theorem Ue:Gw X (compareOp .NotEq) aN:=by
 intro pins s σ H x y v u Q I rx ry h;obtain⟨hs,q⟩:=h;cases x with
 |non=>
  cases rx;cases y with
  |non=>cases ry;exact PySem.EqNone.ne_none_none (A9 I q (by simp))
  |bl j=>cases ry;exact PySem.EqNone.ne_none_bool (A9 I q (by simp))
  |int j=>obtain⟨t',rfl⟩:=ry;exact PySem.EqNone.ne_none_int (A9 I q (by simp))
  |str j=>obtain⟨t',rfl⟩:=ry;exact PySem.EqNone.ne_none_str (A9 I q (by simp))
  |_=>exact absurd (show false=true from hs) bC
 |bl i=>
  cases rx;cases y with
  |non=>cases ry;exact PySem.EqNone.ne_bool_none (A9 I q (by simp))
  |bl j=>cases ry;exact ne_bool (A9 I q (congrArg not Vu))
  |str j=>obtain⟨t',rfl⟩:=ry;exact PySem.EqMixed.ne_bool_str (A9 I q (by simp))
  |_=>exact absurd (show false=true from hs) bC
 |int i=>
  obtain⟨t,rfl⟩:=rx;cases y with
  |non=>cases ry;exact PySem.EqNone.ne_int_none (A9 I q (by simp))
  |int j=>obtain⟨t',rfl⟩:=ry;exact ne_int (A9 I q (congrArg not Hq))
  |str j=>obtain⟨t',rfl⟩:=ry;exact PySem.EqMixed.ne_int_str (A9 I q (by simp))
  |_=>exact absurd (show false=true from hs) bC
 |str i=>
  obtain⟨t,rfl⟩:=rx;cases y with
  |non=>cases ry;exact PySem.EqNone.ne_str_none (A9 I q (by simp))
  |bl j=>cases ry;exact PySem.EqMixed.ne_str_bool (A9 I q (by simp))
  |int j=>obtain⟨t',rfl⟩:=ry;exact PySem.EqMixed.ne_str_int (A9 I q (by simp))
  |str j=>obtain⟨t',rfl⟩:=ry;exact ne_str (A9 I q (congrArg not N2))
  |_=>exact absurd (show false=true from hs) bC
 |byt i=>
  obtain⟨t,rfl⟩:=rx;cases y with
  |byt j=>obtain⟨t',rfl⟩:=ry;exact PySem.W.ne_bytes (A9 I q (congrArg not R0))
  |_=>exact absurd (show false=true from hs) bC
 |_=>cases y<;>exact absurd (show false=true from hs) bC
theorem Nv:Gw X (compareOp .Lt) (UE λi j=>.bl (decide (i<j))):=X4 λ_ _ _ _ _ _ _ q=>lt_int q
theorem R1:Gw X (compareOp .LtE) (UE λi j=>.bl (decide (i<=j))):=X4 λ_ _ _ _ _ _ _ q=>le_int q
theorem NY:Gw X (compareOp .Gt) (UE λi j=>.bl (decide (j<i))):=X4 λ_ _ _ _ _ _ _ q=>gt_int q
theorem NJ:Gw X (compareOp .In) (λx y H Q=>∃i j,x=.str i/\y=.str j/\Q (.bl (!(Builtin.Str.occurrences j i 0 j.length 1).isEmpty)) H):=by
 intro pins s σ H x y v u Q I rx ry h;obtain⟨i,j,rfl,rfl,q⟩:=h;obtain⟨t,rfl⟩:=rx;obtain⟨t',rfl⟩:=ry;exact in_str (A9 I q rfl)
theorem Ay (b:Expr){op:CmpOp}(h:op≠.In:=by decide)(h2:op≠.NotIn:=by decide):behindInMarks op b=false:=by
 have e1:(op == CmpOp.In)=false:=by cases op<;>first|rfl|exact absurd rfl h
 have e2:(op == CmpOp.NotIn)=false:=by cases op<;>first|rfl|exact absurd rfl h2
 cases b<;>simp[behindInMarks,e1,e2]
theorem B9 {op:CmpOp}{r:R2}(ho:Gw X (compareOp op) r)(ha:PE X a ta)(hb:PE X b tb)(hm:behindInMarks op b=false):PE X (.Compare a [op] [b] pos) (XI r ta tb):=by
 intro pins s σ H Q I h;exact wpAny_Compare1 (Yk ha hb I h λv u s2 x y H2 I2 rx ry q=>ho pins s2 σ H2 x y v u Q I2 rx ry q) hm
def UU (t:TE):TT:=λσ H Q=>t σ H λx H'=>∃k,x=.bl k/\Q k H'
theorem Au {op:CmpOp}{r:R2}(ho:Gw X (compareOp op) r)(ha:PE X a ta)(hb:PE X b tb)(hm:behindInMarks op b=false):PT X (.Compare a [op] [b] pos) (UU (XI r ta tb)):=by
 intro pins s σ H Q I h;refine wpAny_isTrue_Compare1 (Bn (ha pins s σ H _ I h) λv s1 ⟨x,H1,I1,r1,q1⟩=>Bn (hb pins s1 σ H1 _ I1 q1) λu s2 ⟨y,H2,I2,r2,q2⟩=>
  Bn (ho pins s2 σ H2 x y v u _ I2 r1 r2 q2) λc s3 ⟨z,H3,I3,r3,k,e,q3⟩=>?_) hm
 subst e;cases r3;exact cO ⟨H3,I3,q3⟩
def Vq (r r':R2)(ta tb tc:TE):TE:=λσ H Q=>ta σ H λx H1=>tb σ H1 λy H2=>r x y H2 λz H3=>∃k,z=.bl k/\
 (if k=true then tc σ H3 λw' H4=>r' y w' H4 Q else Q (.bl false) H3)
theorem T6 {op op':CmpOp} {r r':R2} (ho:Gw X (compareOp op) r) (ho':Gw X (compareOp op') r') (ha:PE X a ta) (hb:PE X b tb) (hc:PE X c tc)
  (hm:lastMarks [op,op'] [b,c]=false:=by with_unfolding_all rfl):PE X (.Compare a [op,op'] [b,c] pos) (Vq r r' ta tb tc):=by
 intro pins s σ H Q I h;refine Compare_chain (Bn (ha pins s σ H _ I h) λv s1 ⟨x,H1,I1,r1,q1⟩=>chain_link (Bn (hb pins s1 σ H1 _ I1 q1) λu s2 ⟨y,H2,I2,r2,q2⟩=>
  Bn (ho pins s2 σ H2 x y v u _ I2 r1 r2 q2) λd s3 ⟨z,H3,I3,r3,k,e,q3⟩=>?_)) hm
 subst e;cases r3;refine cO ?_;cases k with
 |false=>exact ite_ff ⟨.bl false,H3,I3,rfl,q3⟩
 |true=>exact ite_tt (chain_last (Bn (hc pins s3 σ H3 _ I3 q3) λw' s4 ⟨z',H4,I4,r4,q4⟩=>ho' pins s4 σ H4 y z' u w' Q I4 r2 r4 q4))
theorem UG {op op':CmpOp} {r r':R2} (ho:Gw X (compareOp op) r) (ho':Gw X (compareOp op') r') (ha:PE X a ta) (hb:PE X b tb) (hc:PE X c tc)
  (hm:lastMarks [op,op'] [b,c]=false:=by with_unfolding_all rfl):PT X (.Compare a [op,op'] [b,c] pos) (UU (Vq r r' ta tb tc)):=by
 intro pins s σ H Q I h;refine isTrue_chain (Bn (ha pins s σ H _ I h) λv s1 ⟨x,H1,I1,r1,q1⟩=>test_link (Bn (hb pins s1 σ H1 _ I1 q1) λu s2 ⟨y,H2,I2,r2,q2⟩=>
  Bn (ho pins s2 σ H2 x y v u _ I2 r1 r2 q2) λd s3 ⟨z,H3,I3,r3,k,e,q3⟩=>?_)) hm
 subst e;cases r3;refine cO ?_;cases k with
 |false=>
  obtain⟨k',e',q'⟩:=q3;cases e';exact ite_ff ⟨H3,I3,q'⟩
 |true=>
  refine ite_tt (test_last (Bn (hc pins s3 σ H3 _ I3 q3) λw' s4 ⟨z',H4,I4,r4,q4⟩=>Bn (ho' pins s4 σ H4 y z' u w' _ I4 r2 r4 q4) λd' s5 z9=>?_));obtain⟨z2,H5,I5,r5,k2,e2,q5⟩:=z9;subst e2;cases r5;exact cO ⟨H5,I5,q5⟩
theorem Lr:(sizeLine:Nat)<2^63:=by rw[cU];decide
theorem QO:Gw X (binaryOp .Add) (λx y H Q=>∃i j,x=.str i/\y=.str j/\i.length+j.length<=sizeLine/\Q (.str (i++j)) H):=by
 intro pins s σ H x y v u Q I rx ry h;obtain⟨i,j,rfl,rfl,hz,q⟩:=h;obtain⟨t,rfl⟩:=rx;obtain⟨t',rfl⟩:=ry;exact add_str (λt' tk=>⟨.str (i++j),H,I.tok _,⟨_,rfl⟩,q⟩) hz
theorem vals1 {x:V}{us:List Value}(r:AR [x] us):∃u,us=[u]/\RelV x u:=by
 cases r with
 |cons r1 r2=>cases r2;exact⟨_,rfl,r1⟩
theorem vals2 {x y:V}{us:List Value}(r:AR [x,y] us):∃u w',us=[u,w']/\RelV x u/\RelV y w':=by
 cases r with
 |cons r1 r2=>
  cases r2 with
  |cons r3 r4=>cases r4;exact⟨_,_,rfl,r1,r3⟩
theorem PF:CL X (.builtin "abs") (λxs H Q=>∃i,xs=[.int i]/\Q (.int (if i<0 then -i else i)) H):=by
 intro pins s σ H xs us Q I r h;obtain⟨i,rfl,q⟩:=h;obtain⟨u,rfl,t,rfl⟩:=vals1 r;exact call_abs_int λu tk=>⟨.int (if i<0 then -i else i),H,I.tok _,⟨_,rfl⟩,q⟩
theorem TF (hc:X.calm=true):CL X (.builtin "max") (λxs H Q=>∃i j,xs=[.int i,.int j]/\Q (.int (if j>i then j else i)) H):=by
 intro pins s σ H xs us Q I r h;obtain⟨i,j,rfl,q⟩:=h;obtain⟨u,w',rfl,⟨t,rfl⟩,⟨t',rfl⟩⟩:=vals2 r;refine max_two_ints (I.ok.hd hc) λh' tk k=>⟨_,H,I.kept k,?_,q⟩
 by_cases hj:j>i
 ·rw[bF hj,bF hj];exact⟨_,rfl⟩
 ·rw[bH hj,bH hj];exact⟨_,rfl⟩
theorem Nt (hc:X.calm=true):CL X (.builtin "min") (λxs H Q=>∃i j,xs=[.int i,.int j]/\Q (.int (if j<i then j else i)) H):=by
 intro pins s σ H xs us Q I r h;obtain⟨i,j,rfl,q⟩:=h;obtain⟨u,w',rfl,⟨t,rfl⟩,⟨t',rfl⟩⟩:=vals2 r;refine min_two_ints (I.ok.hd hc) λh' tk k=>⟨_,H,I.kept k,?_,q⟩
 by_cases hj:j<i
 ·rw[bF hj,bF hj];exact⟨_,rfl⟩
 ·rw[bH hj,bH hj];exact⟨_,rfl⟩
theorem Tw:CL X (.type "int") (λxs H Q=>(∃i,xs=[.int i]/\Q (.int i) H)\/∃k,xs=[.bl k]/\Q (.int (if k then 1 else 0)) H):=by
 intro pins s σ H xs us Q I r h;rcases h with⟨i,rfl,q⟩|⟨k,rfl,q⟩
 ·obtain⟨u,rfl,t,rfl⟩:=vals1 r;exact call_int_int ⟨.int i,H,I,⟨_,rfl⟩,q⟩
 ·obtain⟨u,rfl,r1⟩:=vals1 r;cases r1;exact call_int_bool ⟨.int (if k then 1 else 0),H,I.tok _,⟨_,rfl⟩,q⟩
end
structure ObjM (h:Heap) (x dx C:Addr) (mA:Str->Option Value):Prop where
 obj:h.get? x=some (PySem.W.instObj C dx)
 ns:h.Ns1 dx mA
 ne:dx≠x
theorem S0 {h:Heap}{dx:Addr}{mA:Str->Option Value}(n:h.Ns1 dx mA):∃od,h.get? dx=some od/\∀name,PySem.W.lookIn name od=some (mA name):=by
 obtain⟨o,es,ep,ho,hd,hk,_,hm⟩:=n;refine⟨o,ho,λname=>?_⟩;have e:=hm name;unfold nsFind findBy at e;rw[<-Array.find?_toList] at e;unfold PySem.W.lookIn;rw[hd];dsimp only
 split
 ·rename_i y q
  rw[q] at e;exact congrArg some e
 ·rename_i q
  rw[q] at e;have a:es.toList.any (·.refKey)=false:=by
   rw[List.any_eq_false];intro y hy;obtain⟨z,t,hkey⟩:=hk y (Array.mem_toList_iff.mp hy);simp[DictEntry.refKey,hkey]
  have a':¬es.toList.any (·.refKey)=true:=by rw[a];exact bC
  rw[bH a'];exact congrArg some e
theorem ObjM.look {h:Heap}{x dx C:Addr}{mA:Str->Option Value}(I:ObjM h x dx C mA):∃od,PySem.W.InstAt h x (PySem.W.instObj C dx) C (some od)/\∀name,PySem.W.lookIn name od=some (mA name):=
 let⟨od,ho,hl⟩:=S0 I.ns
 ⟨od,⟨I.obj,rfl,rfl,ho⟩,hl⟩
section
variable {prog:Program}{w:World}{A:Around}{E:Value->Shared->Prop}{s:Shared}{K:PySem.W.Frag}{x dx C f:Addr}{mA:Str->Option Value}{name:Str}{v:Value}
theorem get_map {expr:Bool} {Q:Value->Shared->Prop} (X:K.In s.heap) (I:ObjM s.heap x dx C mA) (hg:PySem.W.plainGet K C name=true) (hh:PySem.W.hasDictIn K C=true)
  (ha:PySem.W.findIn K (.ref C) name=some none) (hv:mA name=some v) (hv':PySem.W.handedIn v=true) (h:Q v { s with toks:=s.toks+1 }) :
  wpAny (model prog w) A (getAttr (.ref x) name expr) Q E s:=by
 obtain⟨od,J,hl⟩:=I.look;exact PySem.W.get_value X J (gn hg).1 (PySem.W.findObj_own hh ha rfl (by rw[hl,hv])) hv' h
theorem Ux {pl:Sem Bool} {Q:Value×List Value->Shared->Prop} (X:K.In s.heap) (I:ObjM s.heap x dx C mA) (hg:PySem.W.plainGet K C name=true)
  (hf:PySem.W.findIn K (.ref C) name=some (some (.ref f))) (ht:PySem.W.isFn K (.ref f)=true) (hv:mA name=none) (h:Q (.ref f,[.ref x]) s) :
  wpAny (model prog w) A (getMethod (.ref x) name pl) Q E s:=by
 obtain⟨od,J,hl⟩:=I.look;exact PySem.W.method_fn X J (gn hg).1 (gn hg).2 hf (cV.mp ht) (by show(PySem.W.lookIn name od).map (·.isSome)=some false;rw[hl,hv];rfl) h
theorem W4 {ns:List Str} {Q:Unit->Shared->Prop} (X:K.In s.heap) (I:ObjM s.heap x dx C mA)
  (hs:PySem.W.findIn K (.ref C) "__setattr__"=some (some (.builtin "object.__setattr__"))) (hp:PySem.W.plainOver K C=true) (ht:PySem.W.takerIn K C name=some none) (hh:PySem.W.hasDictIn K C=true)
  (hw:PySem.Within mA ns) (hsz:ns.length<=sizeLine)
  (h:∀h',ObjM h' x dx C (λy=>if y=name then some v else mA y)->Heap.SameBut dx s.heap h'->Q () { s with heap:=h',toks:=s.toks+2 }) :
  wpAny (model prog w) A (setAttr (.ref x) name v) Q E s:=by
 obtain⟨od,J,hl⟩:=I.look;refine PySem.W.set_plain X J hs (PySem.W.osa_open (s:={ s with toks:=s.toks+1 }) (r:=none) X J hp ht λb=>?_);obtain⟨cd,hc,hd'⟩:=PySem.W.any_some hh;have hx:s.heap.get? x=some ⟨.ref C,some dx,.plain,#[]⟩:=I.obj;refine aU (aX (aU (aU (wpAny_loadPart hx (aU (PySem.W.Looks.here (s:={ s with toks:=s.toks+1 }) (PySem.W.looks_clsIn X hc) ?_))))));rw[hd'];refine aX (a:=some dx) (aU (aX (aU ?_)));refine wpAny_nsSet1 (s:={ s with toks:=s.toks+1 }) I.ns λh' hn2 hs2=>?_
 obtain⟨oD,esD,epD,hoD,hdD,hcD⟩:=hn2.count (PySem.Within.cons name v hw);refine aU (wpAny_lookBehind hoD (by rw[hdD];exact pastItsLine_dict (bQ hcD (by rw[bT];omega))) ?_);exact aX (h _ ⟨(hs2.2 _ (Ne.symm I.ne)).trans I.obj,hn2,I.ne⟩ hs2)
theorem TY {R:Result->Shared->Prop} {vs:List Value} {kw:List (Str×Value)} (X:K.In s.heap) (hm:PySem.W.makesIn K C=true)
  (hi:PySem.W.findIn K (.ref C) "__init__"=some (some (.ref f))) (hf:PySem.W.typeIn K (.ref f)=some (.type "function"))
  (h:codeAny (model prog w) (A.under (.builtin "type.__call__" ⟨.ref C::vs,kw⟩)) (.call (.ref f) ⟨.ref (s.heap.objs.size+1)::vs,kw⟩) (PySem.W.InitBack (s.heap.objs.size+1) R)
   { s with heap:=(s.heap.push PySem.W.emptyDict).push (PySem.W.instObj C s.heap.objs.size) }) :
  codeAny (model prog w) A (.call (.ref C) ⟨vs,kw⟩) R s:=by
 obtain⟨hh,g,d,t,os⟩:=s;exact PySem.W.make_core (PySem.W.makes_of X hm) (PySem.W.looks_findIn X hi) (λself=>PySem.W.bind_fn X self hf) (.inl rfl) h
end
def Dp (f:Str)(v:V):List (Str×V)->List (Str×V)
 |[]=>[(f,v)]
 |(g,x)::r=>if g=f then(g,v)::r else(g,x)::Dp f v r
theorem Kr (f g:Str)(v:V):∀fs:List (Str×V),(Dp f v fs).lookup g=if g=f then some v else fs.lookup g
 |[]=>by
  show List.lookup g [(f,v)]=_
  by_cases h:g=f
  ·have hb:(g == f)=true:=cV.mpr h;simp only[List.lookup,hb,if_pos h]
  ·have hb:(g == f)=false:=cZ.mpr h;simp only[List.lookup,hb,if_neg h]
 |(k,x)::r=>by
  have ih:=Kr f g v r;rw[show Dp f v ((k,x)::r)=(if k=f then(k,v)::r else(k,x)::Dp f v r) from rfl]
  by_cases hk:k=f
  ·rw[bF hk]
   by_cases h:g=k
   ·have hb:(g == k)=true:=cV.mpr h;simp only[List.lookup,hb,if_pos (h.trans hk)]
   ·have hb:(g == k)=false:=cZ.mpr h;simp only[List.lookup,hb,if_neg (λe:g=f=>h (e.trans hk.symm))]
  ·rw[bH hk]
   by_cases h:g=k
   ·have hb:(g == k)=true:=cV.mpr h;simp only[List.lookup,hb,if_neg (λe:g=f=>hk (h.symm.trans e))]
   ·have hb:(g == k)=false:=cZ.mpr h;simp only[List.lookup,hb];exact ih
theorem JJ (f:Str)(v:V):∀fs:List (Str×V),f∈(Dp f v fs).map (·.1)/\∀g,g∈fs.map (·.1)->g∈(Dp f v fs).map (·.1)
 |[]=>⟨by simp[Dp],λg h=>by simp at h⟩
 |(k,x)::r=>by
  obtain⟨i1,i2⟩:=JJ f v r;rw[show Dp f v ((k,x)::r)=(if k=f then(k,v)::r else(k,x)::Dp f v r) from rfl]
  by_cases hk:k=f
  ·rw[bF hk];subst hk;exact⟨by simp,λg h=>by simpa using h⟩
  ·rw[bH hk];refine⟨?_,λg h=>?_⟩
   ·rw[bg];exact a9 _ i1
   ·rw[bg] at h ⊢;rcases bE.mp h with e|e
    ·exact bE.mpr (.inl e)
    ·exact a9 _ (i2 g e)
theorem Kf (f:Str)(v:V):∀fs:List (Str×V),(Dp f v fs).length<=fs.length+1
 |[]=>by simp[Dp]
 |(k,x)::r=>by
  have ih:=Kf f v r;rw[show Dp f v ((k,x)::r)=(if k=f then(k,v)::r else(k,x)::Dp f v r) from rfl]
  by_cases hk:k=f
  ·rw[bF hk,bT,bT];omega
  ·rw[bH hk,bT,bT];omega
theorem Ez.some_of {v:V}{o:Option Value}(r:Ez (some v) o):∃u,o=some u/\RelV v u:=by
 cases o with
 |none=>exact(show False from r).elim
 |some u=>exact⟨u,rfl,r⟩
theorem Ez.none_of {o:Option Value}(r:Ez none o):o=none:=by
 cases o with
 |none=>rfl
 |some u=>exact(show False from r).elim
theorem SX {v:V}{u:Value}(r:RelV v u):PySem.W.handedIn u=true:=by
 cases v with
 |non=>cases(show u=Value.none from r);rfl
 |bl b=>cases(show u=Value.bool b from r);rfl
 |int i=>obtain⟨t,e⟩:=(show ∃t,u=Value.int i t from r);cases e;rfl
 |str x=>obtain⟨t,e⟩:=(show ∃t,u=Value.str x t from r);cases e;rfl
 |byt b=>obtain⟨t,e⟩:=(show ∃t,u=Value.bytes b t from r);cases e;rfl
 |flt b=>obtain⟨t,e⟩:=(show ∃t,u=Value.float b t from r);cases e;rfl
 |ref a=>cases(show u=Value.ref a from r);rfl
 |ty n=>cases(show u=Value.type n from r);rfl
section
variable {P:Program}{w:World}{H H':Hp}{h h':Heap}{a C dx:Addr}{fs fs':List (Str×V)}
theorem Ld (hok:Hv P w H h)(e:H a=some (.ins C dx fs)):∃mA,ObjM h a dx C mA/\(∀f,Ez (fs.lookup f) (mA f))/\PySem.Within mA (fs.map (·.1))/\fs.length<=1000/\H dx=some (.own a):=by
 obtain⟨d,z,ne,ob,mA,n,r,q⟩:=(show Bs P w H h a (.ins C dx fs) from hok a _ e)
 exact⟨mA,⟨ob,n,ne⟩,r,q,z,d⟩
end
structure Cls (K:PySem.W.Frag) (C:Addr):Prop where
 pg:PySem.W.plainGet K C Str.empty=true
 hd:PySem.W.hasDictIn K C=true
 po:PySem.W.plainOver K C=true
 sa:PySem.W.findIn K (.ref C) "__setattr__"=some (some (.builtin "object.__setattr__"))
theorem Cls.get {K:PySem.W.Frag}{C:Addr}(c:Cls K C)(f:Str):PySem.W.plainGet K C f=true:=c.pg
def AS (K:PySem.W.Frag)(C:Addr)(f:Str):Prop:=PySem.W.findIn K (.ref C) f=some none
theorem AS.taker {K:PySem.W.Frag}{C:Addr}{f:Str}(n:AS K C f):PySem.W.takerIn K C f=some none:=by
 unfold PySem.W.takerIn;rw[show PySem.W.findIn K (.ref C) f=some none from n];rfl
structure Meth (K:PySem.W.Frag) (C:Addr) (m:Str) (f:Addr):Prop where
 at_:PySem.W.findIn K (.ref C) m=some (some (.ref f))
 fn:PySem.W.isFn K (.ref f)=true
 kp:PySem.W.keepIn K (.ref f)=true
section
variable {X:Cx}{pins:List (Addr×Obj)}{σ:St}{H:Hp}{s:Shared}{a C dx:Addr}{fs:List (Str×V)}{f:Str}{v:V}{A:Around}{E:Value->Shared->Prop}
theorem Mr {b:Bool} {Q:Value->Shared->Prop} (I:Inv X pins σ H s) (e:H a=some (.ins C dx fs)) (c:Cls X.K C) (n:AS X.K C f) (l:fs.lookup f=some v)
  (h:∀u s',Inv X pins σ H s'->RelV v u->Q u s'):wpAny (model X.prog X.w) A (getAttr (.ref a) f b) Q E s:=by
 obtain⟨mA,O,r,_,_,_⟩:=Ld I.hok e;obtain⟨u,hu,ru⟩:=Ez.some_of (v:=v) (o:=mA f) (by rw[<-l];exact r f);exact get_map I.kIn O (c.get f) c.hd n hu (SX ru) (h u _ (I.tok _) ru)
theorem FG {m:Str} {g:Addr} {pl:Sem Bool} {Q:Value×List Value->Shared->Prop} (I:Inv X pins σ H s) (e:H a=some (.ins C dx fs)) (c:Cls X.K C) (k:Meth X.K C m g) (l:fs.lookup m=none)
  (h:Q (.ref g,[.ref a]) s):wpAny (model X.prog X.w) A (getMethod (.ref a) m pl) Q E s:=by
 obtain⟨mA,O,r,_,_,_⟩:=Ld I.hok e;have hn:mA m=none:=Ez.none_of (by rw[<-l];exact r m);exact Ux I.kIn O (c.get m) k.at_ k.fn hn h
theorem Mh {y:V} {u:Value} {Q:Unit->Shared->Prop} (I:Inv X pins σ H s) (e:H a=some (.ins C dx fs)) (c:Cls X.K C) (n:AS X.K C f) (hl:fs.length<1000) (ry:RelV y u)
  (h:∀s',Inv X pins σ (upd H a (.ins C dx (Dp f y fs))) s'->Q () s'):wpAny (model X.prog X.w) A (setAttr (.ref a) f u) Q E s:=by
 obtain⟨mA,O,r,wi,_,ho⟩:=Ld I.hok e;have hz:(fs.map (·.1)).length<=sizeLine:=by rw[aS,cU];omega
 refine W4 I.kIn O c.sa c.po n.taker c.hd wi hz λh' O' sb=>h _ ?_
 have hd:∃o,h'.get? dx=some o:=let⟨o,_,_,e',_⟩:=O'.ns;⟨o,e'⟩;refine I.write (x:=a) (e:=dx) (by rw[e];exact True.intro) (.inr ho) (λb q hb z=>(sb.2 b hb).trans z) hd ?_;refine⟨by rw[Ag O.ne];exact ho,?_,O.ne,O'.obj,_,O'.ns,λg=>?_,λg hg=>?_⟩
 ·have:=Kf f y fs;omega
 ·show Ez ((Dp f y fs).lookup g) (if g=f then some u else mA g);rw[Kr]
  by_cases q:g=f
  ·rw[bF q,bF q];exact ry
  ·rw[bH q,bH q];exact r g
 ·by_cases q:g=f
  ·rw[q];exact(JJ f y fs).1
  ·refine(JJ f y fs).2 g (wi g λz=>hg ?_);show(if g=f then some u else mA g)=none;rw[bH q];exact z
theorem Inv.made (I:Inv X pins σ H s):Inv X pins σ (upd (upd H s.heap.objs.size (.own (s.heap.objs.size+1))) (s.heap.objs.size+1) (.ins C s.heap.objs.size []))
  { s with heap:=(s.heap.push PySem.W.emptyDict).push (PySem.W.instObj C s.heap.objs.size) }:=by
 have e1:(s.heap.push PySem.W.emptyDict).get? s.heap.objs.size=some PySem.W.emptyDict:=bB s.heap rfl;have e2:((s.heap.push PySem.W.emptyDict).push (PySem.W.instObj C s.heap.objs.size)).get? (s.heap.objs.size+1)=some (PySem.W.instObj C s.heap.objs.size):=by
  have:=bB (s.heap.push PySem.W.emptyDict) (o:=PySem.W.instObj C s.heap.objs.size) rfl
  rwa [cf] at this
 have e3:(s.heap.push PySem.W.emptyDict).Ns s.heap.objs.size (λ_=>none):=⟨PySem.W.emptyDict,#[],_,e1,rfl,(λe he=>absurd he (by simp)),λ_=>rfl⟩
 have I1:=I.laid (a:=s.heap.objs.size) (o:=.own (s.heap.objs.size+1)) (h':=s.heap.push PySem.W.emptyDict) (t':=s.toks) (λb u q=>aV _ q) (aZ _) ⟨_,e1⟩;refine I1.laid (a:=s.heap.objs.size+1) (o:=.ins C s.heap.objs.size []) (t':=s.toks) (λb u q=>aV _ q) (eW (cf _ _)) ?_;have ne:s.heap.objs.size≠s.heap.objs.size+1:=bI (eD _);refine⟨by rw[Ag ne,Ae],bU _,ne,e2,λ_=>none,(Heap.Ns1.of_empty e3).at λo q=>aV _ q,λ_=>True.intro,λy hy=>absurd rfl hy⟩
theorem Wq {prog:Program} {w:World} {env:Env} {e:Expr} {f:Str} {pos:Pos} {s:Shared} {Q:Value->Shared->Prop} (hb:attributeBase e f env (eval e env)=eval e env)
  (h:wpAny (model prog w) A (eval e env) (λo s₁=>wpAny (model prog w) A (getAttr o f true) Q E s₁) E s):wpAny (model prog w) A (eval (.Attribute e f pos) env) Q E s:=
 Attribute_any_ h (by rw[arm_eval_Attribute,hb])
end
def aC (K:PySem.W.Frag)(ta:TE)(f:Str):TE:=λσ H Q=>ta σ H λx H1=>∃a C dx fs v,x=.ref a/\H1 a=some (.ins C dx fs)/\Cls K C/\AS K C f/\fs.lookup f=some v/\Q v H1
def aq (K:PySem.W.Frag)(ta tv:TE)(f:Str):TS:=λD σ H=>tv σ H λy H1=>ta σ H1 λx H2=>∃a C dx fs,x=.ref a/\H2 a=some (.ins C dx fs)/\Cls K C/\AS K C f/\fs.length<1000/\
 D.nx σ (upd H2 a (.ins C dx (Dp f y fs)))
def ZT (X:Cx)(op:Operator)(rd:V->V->Hp->VK->Prop):Prop:=
 ∀(pins:List (Addr×Obj)) (s:Shared) (σ:St) (H:Hp) (x y:V) (u v:Value) (Q:VK),Inv X pins σ H s->RelV x u->RelV y v->rd x y H Q->wpAny (model X.prog X.w) X.A (inplaceOp op u v) (EP X pins σ Q) X.xe s
def V3 (K:PySem.W.Frag)(ta tv:TE)(rd:V->V->Hp->VK->Prop)(f:Str):TS:=λD σ H=>ta σ H λx H1=>∃a C dx fs v,x=.ref a/\H1 a=some (.ins C dx fs)/\Cls K C/\AS K C f/\fs.lookup f=some v/\
 tv σ H1 λy H2=>rd v y H2 λz H3=>∃dx' fs',H3 a=some (.ins C dx' fs')/\fs'.length<1000/\D.nx σ (upd H3 a (.ins C dx' (Dp f z fs')))
section
variable {X:Cx}{o e value:Expr}{f:Str}{pos pos' tpos:Pos}{ta tv:TE}
theorem AN (he:PE X e ta)(hb:attributeBase e f X.env (eval e X.env)=eval e X.env):PE X (.Attribute e f pos) (aC X.K ta f):=by
 intro pins s σ H Q I h;refine Wq hb (Bn (he pins s σ H _ I h) λu s1 z9=>?_);obtain⟨x,H1,I1,rx,a,C,dx,fs,v,ex,ea,c,n,l,q⟩:=z9;subst ex;obtain rfl:u=Value.ref a:=rx;exact Mr I1 ea c n l λu' s2 I2 ru=>⟨v,H1,I2,ru,q⟩
theorem BU (ha:PE X o ta)(hv:PE X value tv)(hs:swapsWith value (some (.Attribute o f pos')) pos.line X.env=pure false):PS X (.Assign [.Attribute o f pos'] value pos) (aq X.K ta tv f):=by
 intro pins s σ H D I h;refine plainObj_wpAny_Assign_Attribute (Bn (hv pins s σ H _ I h) λu s1 ⟨y,H1,I1,ry,q⟩=>Bn (ha pins s1 σ H1 _ I1 q) λov s2 z9=>?_) hs;obtain⟨x,H2,I2,rx,a,C,dx,fs,ex,ea,c,n,l,q2⟩:=z9;subst ex;obtain rfl:ov=Value.ref a:=rx;exact Mh I2 ea c n l ry λs3 I3=>⟨σ,_,I3,q2⟩
theorem D3 {op:Operator}{rd:V->V->Hp->VK->Prop}(ha:PE X o ta)(hv:PE X value tv)(hop:ZT X op rd):PS X (.AugAssign (.Attribute o f tpos) op value pos) (V3 X.K ta tv rd f):=by
 intro pins s σ H D I h;refine wpAny_AugAssign_AttributeAny (Bn (ha pins s σ H _ I h) λov s1 z9=>?_);obtain⟨x,H1,I1,rx,a,C,dx,fs,v,ex,ea,c,n,l,q⟩:=z9;subst ex;obtain rfl:ov=Value.ref a:=rx;refine Mr I1 ea c n l λu s2 I2 ru=>Bn (hv pins s2 σ H1 _ I2 q) λw3 s3 ⟨y,H2,I3,ry,q3⟩=>Bn (hop pins s3 σ H2 v y u w3 _ I3 ru ry q3) λw4 s4 z9=>?_
 obtain⟨z,H3,I4,rz,dx',fs',ea',l',q4⟩:=z9;exact Mh I4 ea' c n l' rz λs5 I5=>⟨σ,_,I5,q4⟩
theorem XH {pl:Sem Bool} {m:Str} {apos:Pos} {args:List Expr} {pins:List (Addr×Obj)} {s:Shared} {σ:St} {H:Hp} {Q:Value->Shared->Prop} {te:TE} (he:PE X e te) (I:Inv X pins σ H s)
  (h:te σ H λx H1=>∃a C dx fs g,x=.ref a/\H1 a=some (.ins C dx fs)/\Cls X.K C/\Meth X.K C m g/\fs.lookup m=none/\
   ∀s1,Inv X pins σ H1 s1->wpAny (model X.prog X.w) X.A (callWith pos (.ref g) [.ref a] (backTo pos (starEach args X.env)) (backToKw pos (keywordEach [] X.env))) Q X.xe s1)
  (ht:eval (.Call (.Attribute e m apos) args [] pos) X.env=(do
   let ov <-eval e X.env
   standAt apos.atName
   let(f,first) <-holding [ov] (getMethod ov m pl)
   callWith pos f first (backTo pos (starEach args X.env)) (backToKw pos (keywordEach [] X.env)))) :
  wpAny (model X.prog X.w) X.A (eval (.Call (.Attribute e m apos) args [] pos) X.env) Q X.xe s:=by
 refine ff (pl:=pl) (Bn (he pins s σ H _ I h) λu s1 z9=>?_) ht;obtain⟨x,H1,I1,rx,a,C,dx,fs,g,ex,ea,c,k,l,q⟩:=z9;subst ex;obtain rfl:u=Value.ref a:=rx;exact FG I1 ea c k l (q s1 I1)
end
section
variable {X:Cx}{pins:List (Addr×Obj)}{σ:St}{H:Hp}{s:Shared}{A:Around}{E:Value->Shared->Prop}{Q:Value->Shared->Prop}{c:Value}{b:Bool}
inductive TyOf (K:PySem.W.Frag) (H:Hp):V->Value->Prop where
 |non:TyOf K H .non (.type "NoneType")
 |bl (x:Bool):TyOf K H (.bl x) (.type "bool")
 |int (i:Int):TyOf K H (.int i) (.type "int")
 |str (x:Str):TyOf K H (.str x) (.type "str")
 |flt (x:UInt64):TyOf K H (.flt x) (.type "float")
 |lst {a:Addr} {xs:List V} (e:H a=some (.lst xs)):TyOf K H (.ref a) (.type "list")
 |frz {a:Addr} {o:Obj} {xs:List V} (e:H a=some (.frz o (.lst xs))):TyOf K H (.ref a) (.type "list")
 |tup {a:Addr} {xs:List V} (e:H a=some (.tup xs)):TyOf K H (.ref a) (.type "tuple")
 |dK {a:Addr} {kvs:List (Key×V)} (e:H a=some (.dK kvs)):TyOf K H (.ref a) (.type "dict")
 |dT {a:Addr} {kvs:List (List Key×V)} (e:H a=some (.dT kvs)):TyOf K H (.ref a) (.type "dict")
 |ins {a C dx:Addr} {fs:List (Str×V)} (e:H a=some (.ins C dx fs)) (cl:Cls K C) (ha:PySem.W.findIn K (.ref C) "__class__"=some (some (.builtin "object.__class__")))
   (hn:PySem.W.specialIn K (.builtin "object.__class__") "__get__"=some (some (.builtin "getset_descriptor.__get__"))) (htk:PySem.W.takesIn K (.builtin "object.__class__")=some true)
   (hm:PySem.W.mroIn K C (.type "object")=some true):TyOf K H (.ref a) (.ref C)
theorem S8 {x:V}{u t:Value}(I:Inv X pins σ H s)(rx:RelV x u)(ty:TyOf X.K H x t)(e:PySem.W.kitOne X.K t c=some b)(h:∀tk,Q (.bool b) { s with toks:=tk }) :
  wpAny (model X.prog X.w) A (call (.builtin "isinstance") [u,c]) Q E s:=by
 cases ty with
 |non=>cases(show u=Value.none from rx);exact cL PySem.W.kitx_none I.kIn True.intro e (λz=>nomatch z) h
 |bl y=>cases(show u=Value.bool y from rx);exact cL PySem.W.kitx_bool I.kIn True.intro e (λz=>nomatch z) h
 |int i=>obtain⟨t,q⟩:=(show ∃t,u=Value.int i t from rx);cases q;exact cL PySem.W.kitx_int I.kIn True.intro e (λz=>nomatch z) h
 |str y=>obtain⟨t,q⟩:=(show ∃t,u=Value.str y t from rx);cases q;exact cL PySem.W.kitx_str I.kIn True.intro e (λz=>nomatch z) h
 |flt y=>obtain⟨t,q⟩:=(show ∃t,u=Value.float y t from rx);cases q;exact cL PySem.W.kitx_float I.kIn True.intro e (λz=>nomatch z) h
 |@lst a xs ea=>
  cases(show u=Value.ref a from rx);obtain⟨_,_,n,_,h1⟩:=(show Bs X.prog X.w H s.heap a (.lst xs) from I.hok a _ ea)
  exact cL PySem.W.kitx_list I.kIn ⟨_,h1,rfl⟩ e (λz=>nomatch z) h
 |@frz a ob xs ea=>
  cases(show u=Value.ref a from rx);obtain⟨_,_,_,n,_,h1⟩:=(show Bs X.prog X.w H s.heap a (.frz ob (.lst xs)) from I.hok a _ ea)
  exact cL PySem.W.kitx_list I.kIn ⟨_,h1,rfl⟩ e (λz=>nomatch z) h
 |@tup a xs ea=>
  cases(show u=Value.ref a from rx);obtain⟨_,_,_,p⟩:=(show Bs X.prog X.w H s.heap a (.tup xs) from I.hok a _ ea)
  obtain⟨o,h1,h2,_⟩:=p;exact cL PySem.W.kitx_tuple I.kIn ⟨o,h1,h2⟩ e (λz=>nomatch z) h
 |@dK a kvs ea=>
  cases(show u=Value.ref a from rx);obtain⟨_,_,vs,_,p⟩:=(show Bs X.prog X.w H s.heap a (.dK kvs) from I.hok a _ ea)
  obtain⟨o,es,ep,h1,h2,_⟩:=p;exact cL PySem.W.kitx_dict I.kIn ⟨o,h1,h2.1⟩ e (λz=>nomatch z) h
 |@dT a kvs ea=>
  cases(show u=Value.ref a from rx);obtain⟨_,_,xs,_,o,es,ep,h1,h2,_⟩:=(show Bs X.prog X.w H s.heap a (.dT kvs) from I.hok a _ ea)
  exact cL PySem.W.kitx_dict I.kIn ⟨o,h1,h2.1⟩ e (λz=>nomatch z) h
 |@ins a C dx fs ea cl ha hn htk hm=>
  cases(show u=Value.ref a from rx);obtain⟨mA,O,_⟩:=Ld I.hok ea;obtain⟨od,J,_⟩:=O.look;exact cL (PySem.W.kitx_own (cl.get _) cl.hd ha hn htk hm) I.kIn J e (λz=>nomatch z) h
end
structure Room (k:Nat) (A:Around):Prop where
 hd:A.handled=none
 dp:A.depth+3*k+5<recursionLimit
 un:A.units+16*k+200<cLine
theorem Room.mono {j k:Nat}{A:Around}(r:Room k A)(h:j<=k):Room j A:=⟨r.hd,by have:=r.dp;omega,by have:=r.un;omega⟩
theorem Room.deeper {k:Nat}{A:Around}(r:Room (k+1) A)(env:Env):Room k (A.deeper env):=
 ⟨r.hd,by have:=r.dp;show A.depth+1+3*k+5<_;omega,by have:=r.un;show A.units+3+16*k+200<_;omega⟩
theorem Qr {A:Around}{C:Addr}{us:List Value}{kw:List (Str×Value)}:(A.under (.builtin "type.__call__" ⟨.ref C::us,kw⟩)).depth=A.depth+1:=by
 first|rfl|simp[Around.under,Code.weight,Code.isCreation,Code.isGuard,Code.isCaller,Code.frames,Code.isFrame,guardIds]
theorem QN {A:Around}{C:Addr}{us:List Value}{kw:List (Str×Value)}:(A.under (.builtin "type.__call__" ⟨.ref C::us,kw⟩)).units=A.units+1:=by
 first|rfl|simp[Around.under,Code.cUnits,Code.frames,Code.isFrame]
theorem Room.make {k:Nat}{A:Around}(r:Room (k+1) A)(C:Addr)(us:List Value)(kw:List (Str×Value)):Room k (A.under (.builtin "type.__call__" ⟨.ref C::us,kw⟩)):=
 ⟨r.hd,by have:=r.dp;rw[Qr];omega,by have:=r.un;rw[QN];omega⟩
theorem Room.depth {k:Nat}{A:Around}(r:Room k A):A.depth<recursionLimit:=by have:=r.dp;omega
theorem Room.units {k:Nat}{A:Around}(r:Room k A):A.units+64<cLine:=by have:=r.un;omega
def MT:TA:=λ_ H Q=>Q [] H
def Sa (ta:TE)(tr:TA):TA:=λσ H Q=>ta σ H λx H1=>tr σ H1 λxs H2=>Q (x::xs) H2
section
variable {X:Cx}{e:Expr}{es:List Expr}{te:TE}{t:TA}{pos:Pos}
theorem Ai:PA X [] MT:=λ_ _ _ _ H Q I h=>dR ⟨[],H,I,.nil,h⟩
theorem Ac (ha:PE X e te)(hr:PA X es t)(hs:starEach (e::es) X.env=(false,eval e X.env)::starEach es X.env:=by rfl):PA X (e::es) (Sa te t):=by
 intro pos pins s σ H Q I h;rw[hs];show wpAny _ _ (spliced ((false,eval e X.env)::backTo pos (starEach es X.env))) _ _ s;refine cF (Bn (ha pins s σ H _ I h) λu s1 ⟨x,H1,I1,r1,q1⟩=>?_);exact Bn (hr pos pins s1 σ H1 _ I1 q1) λus s2 ⟨xs,H2,I2,r2,q2⟩=>⟨x::xs,H2,I2,.cons r1 r2,q2⟩
def Zr (t:TA):TE:=λσ H Q=>t σ H λxs H1=>xs.length<=sizeLine/\∀p,H1 p=none->Q (.ref p) (upd H1 p (.tup xs))
def au (t:TA):TE:=λσ H Q=>t σ H λxs H1=>xs.length<=sizeLine/\∀p,H1 p=none->Q (.ref p) (upd H1 p (.lst xs))
theorem DQ {x1}(h:PA X es t):PE X (.Tuple es x1 pos) (Zr t):=by
 intro pins s σ H Q I hq;refine wpAny_Tuple_spliced (Bn (h pos pins s σ H _ I hq) λus s1 ⟨xs,H1,I1,r,z,q⟩=>⟨by rw[<-r.length];exact z,?_⟩);have hf:H1 s1.heap.objs.size=none:=I1.hok.fresh (aZ _);refine⟨.ref s1.heap.objs.size,upd H1 s1.heap.objs.size (.tup xs),I1.laid (t':=s1.toks) (λb u e=>aV _ e) (aZ _) ?_,rfl,q _ hf⟩;exact⟨z,us,r,⟨_,bB _ rfl,rfl,_,rfl,λ_=>rfl⟩⟩
theorem BJ (h:PA X es t):PE X (.List es pos) (au t):=by
 intro pins s σ H Q I hq;refine wpAny_List_spliced (Bn (h pos pins s σ H _ I hq) λus s1 ⟨xs,H1,I1,r,z,q⟩=>⟨by rw[<-r.length];exact z,?_⟩);have hf:H1 s1.heap.objs.size=none:=I1.hok.fresh (aZ _);refine⟨.ref s1.heap.objs.size,upd H1 s1.heap.objs.size (.lst xs),I1.laid (t':=s1.toks) (λb u e=>aV _ e) (aZ _) ?_,rfl,q _ hf⟩;exact⟨z,us,0,r,bB _ rfl⟩
end
abbrev Sp:=List V->Hp->VK->XK->Prop
abbrev SM:=List Env->Hp->Shared->XK->Value->Shared->Prop
structure Env0 (P:Program) (w:World) (K:PySem.W.Frag) (mg:Str->Option Value) (base:Heap) (A:Around) (outer:List Env) (s:Shared) (H:Hp):Prop where
 frames:A.frames=some outer
 mod:Mod K mg base
 bs:∀b o,base.get? b=some o->s.heap.get? b=some o/\H b=none
 bsz:base.objs.size<=s.heap.objs.size
 funs:s.heap.FunFrames base outer
 frf:∀b∈JZ outer,H b=none
 hok:Hv P w H s.heap
 bare:AllBare s.gens
def CE (outer:List Env)(P:Program)(w:World)(H:Hp)(s:Shared)(Q:VK)(u:Value)(s':Shared):Prop:=
 ∃v H',s'.os=s.os/\AllBare s'.gens/\Un (JZ outer) [] H H' s.heap s'.heap/\Hv P w H' s'.heap/\RelV v u/\Q v H'
def CR (CX:SM)(outer:List Env)(P:Program)(w:World)(H:Hp)(s:Shared)(Q:VK)(E:XK)(r:Result)(s':Shared):Prop:=
 match r with
 | .ok (.ret u)=>CE outer P w H s Q u s'
 | .ok _=>False
 | .error e=>CX outer H s E e s'
structure FnOk (P:Program) (w:World) (K:PySem.W.Frag) (mg:Str->Option Value) (base:Heap) (CX:SM) (k:Nat) (f:Addr) (fd:FuncData) (ps:List Str) (sp:Sp):Prop where
 len:∀vs H Q E,sp vs H Q E->vs.length=ps.length
 run:∀(A:Around) (outer:List Env) (s:Shared) (H:Hp) (args:Args) (us:List Value) (vs:List V) (Q:VK) (E:XK),Room k A->Env0 P w K mg base A outer s H->BindsTo s fd args (ps.zip us)->AR vs us->sp vs H Q E->
  codeAny (model P w) A (.call (.ref f) args) (CR CX outer P w H s Q E) s
theorem Env0.make {P:Program}{w:World}{K:PySem.W.Frag}{mg:Str->Option Value}{base:Heap}{A:Around}{outer:List Env}{s:Shared}{H:Hp}(e:Env0 P w K mg base A outer s H)(C:Addr)(us:List Value)(kw:List (Str×Value)) :
  Env0 P w K mg base (A.under (.builtin "type.__call__" ⟨.ref C::us,kw⟩)) outer s H:=⟨by first|exact e.frames|(simpa [Around.under,Code.envs,Code.isFrame,pushEnvs] using e.frames),e.mod,e.bs,e.bsz,e.funs,e.frf,e.hok,e.bare⟩
section
variable {X:Cx}{pins:List (Addr×Obj)}{σ:St}{H:Hp}{s s':Shared}
theorem Inv.env0 (I:Inv X pins σ H s):Env0 X.prog X.w X.K X.mg X.base X.A X.stack s H:=
 ⟨I.ok.frames,I.ok.mod,I.bs,bQ I.ok.bsz I.sz,I.stack,I.stkFree,I.hok,I.bare⟩
theorem Inv.after {Q:VK}{u:Value}(I:Inv X pins σ H s)(h:CE X.stack X.prog X.w H s Q u s'):EP X pins σ Q u s':=by
 obtain⟨v,H',os,bare,un,hok,r,q⟩:=h;obtain⟨hh,g,d,t,os'⟩:=s';obtain rfl:os'=s.os:=os;exact⟨v,H',I.call (h':=hh) (g':=g) (d':=d) (t':=t) (ch:=[]) un hok bare (λb z=>absurd z (by simp)),r,q⟩
end
def Pk (sp:Sp)(dvs:List V)(E:XK)(t:TA):TE:=λσ H Q=>t σ H λvs H1=>sp (vs++dvs) H1 Q E
def Nl (C:Addr)(m:Str)(sp:Sp)(dvs:List V)(E:XK)(ta:TE)(t:TA):TE:=λσ H Q=>ta σ H λx H1=>∃a dx fs,x=.ref a/\H1 a=some (.ins C dx fs)/\fs.lookup m=none/\
 t σ H1 λvs H2=>sp (x::(vs++dvs)) H2 Q E
def XM (C:Addr)(sp:Sp)(dvs:List V)(E:XK)(t:TA):TE:=λσ H Q=>t σ H λvs H1=>∀x dx,H1 x=none->H1 dx=none->dx≠x->
 sp (.ref x::(vs++dvs)) (upd (upd H1 dx (.own x)) x (.ins C dx [])) (λv H2=>v=.non/\Q (.ref x) H2) E
def Binds (K:PySem.W.Frag)(fd:FuncData)(ps:List Str)(ds:List Value):Prop:=
 ∀(s:Shared) (us:List Value),K.In s.heap->(us++ds).length=ps.length->BindsTo s fd ⟨us,[]⟩ (ps.zip (us++ds))
theorem Binds.all {K:PySem.W.Frag}{fd:FuncData}{ps:List Str}(h:∀us:List Value,us.length=ps.length->bindArgs fd ⟨us,[]⟩=pure (ps.zip us)):Binds K fd ps []:=λs us _ hl=>by
 rw[cm] at hl ⊢;exact .of_eq (h us hl)
def Eo (CX:SM)(X:Cx)(E:XK):Prop:=∀(pins:List (Addr×Obj)) (σ:St) (H:Hp) (s:Shared) (e:Value) (s':Shared),Inv X pins σ H s->CX X.stack H s E e s'->X.xe e s'
section
variable {X:Cx}{CX:SM}{k:Nat}{f C:Addr}{fd:FuncData}{ps:List Str}{sp:Sp}{dvs:List V}{ds:List Value}{E:XK}{x m:Str}{p pos apos:Pos}{e o:Expr}{es:List Expr}{ta:TE}{t:TA}
theorem Oq {pins:List (Addr×Obj)} {σ:St} {H:Hp} {s:Shared} {Q:VK} {us:List Value} {vs:List V} (F:FnOk X.prog X.w X.K X.mg X.base CX k f fd ps sp) (hr:Room k X.A) (hb:Binds X.K fd ps ds) (hd:AR dvs ds) (hx:Eo CX X E)
  (I:Inv X pins σ H s) (r:AR vs us) (h:sp (vs++dvs) H Q E):wpAny (model X.prog X.w) X.A (call (.ref f) us) (EP X pins σ Q) X.xe s:=by
 have r2:AR (vs++dvs) (us++ds):=r.append hd;have hl:(us++ds).length=ps.length:=by rw[<-r2.length];exact F.len _ _ _ _ h
 refine gm (dC (F.run X.A X.stack s H ⟨us,[]⟩ (us++ds) (vs++dvs) Q E hr I.env0 (hb s us I.kIn hl) r2 h) λr s' hq=>?_);cases r with
 |error e=>exact hx pins σ H s e s' I hq
 |ok fl=>
  cases fl with
  |ret u=>exact I.after hq
  |next=>exact False.elim hq
  |brk=>exact False.elim hq
  |cont=>exact False.elim hq
theorem RN (F:FnOk X.prog X.w X.K X.mg X.base CX k f fd ps sp) (hr:Room k X.A) (hg:Gl X x) (hm:X.mg x=some (.ref f)) (hk:PySem.W.keepIn X.K (.ref f)=true) (hb:Binds X.K fd ps ds) (hd:AR dvs ds) (hx:Eo CX X E)
  (ha:PA X (e::es) t) (hdb:(x == ("__debug__":Str))=false:=by decide) (he:starEach (e::es) X.env=(false,eval e X.env)::starEach es X.env:=by rfl) (hpl:(backTo pos (starEach es X.env)).any (·.1)=false:=by rfl) :
  PE X (.Call (.Name x p) (e::es) [] pos) (Pk sp dvs E t):=by
 intro pins s σ H Q I h;refine dG (G9 I hg hm ?_ hdb);refine gC (h₀:=X.base) I.ok.mod.kin hk (Bn (ha pos pins s σ H _ I h) λus s1 ⟨vs,H1,I1,r,q⟩=>⟨I1.kIn,?_⟩) he hpl;exact Oq F hr hb hd hx I1 r q
theorem Vh (F:FnOk X.prog X.w X.K X.mg X.base CX k f fd ps sp) (hr:Room k X.A) (hg:Gl X x) (hm:X.mg x=some (.ref f)) (hk:PySem.W.keepIn X.K (.ref f)=true) (hb:Binds X.K fd ps ds) (hd:AR dvs ds) (hx:Eo CX X E)
  (hdb:(x == ("__debug__":Str))=false:=by decide):PE X (.Call (.Name x p) [] [] pos) (Pk sp dvs E MT):=by
 intro pins s σ H Q I h;refine dG (G9 I hg hm ?_ hdb);exact gp I.kIn hk (Oq (us:=[]) F hr hb hd hx I .nil h)
theorem RA {pl:Sem Bool} (he:PE X o ta) (c:Cls X.K C) (hm:Meth X.K C m f) (F:FnOk X.prog X.w X.K X.mg X.base CX k f fd ps sp) (hr:Room k X.A) (hb:Binds X.K fd ps ds) (hd:AR dvs ds) (hx:Eo CX X E) (ha:PA X (e::es) t)
  (hst:starEach (e::es) X.env=(false,eval e X.env)::starEach es X.env:=by rfl) (hpl:(backTo pos (starEach es X.env)).any (·.1)=false:=by rfl)
  (ht:eval (.Call (.Attribute o m apos) (e::es) [] pos) X.env=(do
   let ov <-eval o X.env
   standAt apos.atName
   let(f,first) <-holding [ov] (getMethod ov m pl)
   callWith pos f first (backTo pos (starEach (e::es) X.env)) (backToKw pos (keywordEach [] X.env))):=by rfl) :
  PE X (.Call (.Attribute o m apos) (e::es) [] pos) (Nl C m sp dvs E ta t):=by
 intro pins s σ H Q I h;refine ff (pl:=pl) (Bn (he pins s σ H _ I h) λu s1 z9=>?_) ht;obtain⟨x,H1,I1,rx,a,dx,fs,ex,ea,l,q⟩:=z9;subst ex;obtain rfl:u=Value.ref a:=rx;refine FG I1 ea c hm l ?_;refine gC (first:=[.ref a]) (h₀:=X.base) I.ok.mod.kin hm.kp (Bn (ha pos pins s1 σ H1 _ I1 q) λus s2 ⟨vs,H2,I2,r,q2⟩=>⟨I2.kIn,?_⟩) hst hpl;exact Oq (us:=.ref a::us) (vs:=.ref a::vs) F hr hb hd hx I2 (.cons rfl r) q2
theorem Vo {pl:Sem Bool} (he:PE X o ta) (c:Cls X.K C) (hm:Meth X.K C m f) (F:FnOk X.prog X.w X.K X.mg X.base CX k f fd ps sp) (hr:Room k X.A) (hb:Binds X.K fd ps ds) (hd:AR dvs ds) (hx:Eo CX X E)
  (ht:eval (.Call (.Attribute o m apos) [] [] pos) X.env=(do
   let ov <-eval o X.env
   standAt apos.atName
   let(f,first) <-holding [ov] (getMethod ov m pl)
   callWith pos f first (backTo pos (starEach [] X.env)) (backToKw pos (keywordEach [] X.env))):=by rfl) :
  PE X (.Call (.Attribute o m apos) [] [] pos) (Nl C m sp dvs E ta MT):=by
 intro pins s σ H Q I h;refine ff (pl:=pl) (Bn (he pins s σ H _ I h) λu s1 z9=>?_) ht;obtain⟨x,H1,I1,rx,a,dx,fs,ex,ea,l,q⟩:=z9;subst ex;obtain rfl:u=Value.ref a:=rx;refine FG I1 ea c hm l ?_;exact gp (first:=[.ref a]) I1.kIn hm.kp (Oq (us:=[.ref a]) (vs:=[.ref a]) F hr hb hd hx I1 (.cons rfl .nil) q)
structure Mk (K:PySem.W.Frag) (C f:Addr):Prop where
 makes:PySem.W.makesIn K C=true
 init:PySem.W.findIn K (.ref C) "__init__"=some (some (.ref f))
 fn:PySem.W.isFn K (.ref f)=true
 kp:PySem.W.keepIn K (.ref C)=true
theorem Vd {pins:List (Addr×Obj)} {σ:St} {H:Hp} {s:Shared} {Q:VK} {us:List Value} {vs:List V} (M:Mk X.K C f) (F:FnOk X.prog X.w X.K X.mg X.base CX k f fd ps sp) (hr:Room (k+1) X.A) (hb:Binds X.K fd ps ds) (hd:AR dvs ds)
  (hx:Eo CX X E) (I:Inv X pins σ H s) (r:AR vs us)
  (h:∀x dx,H x=none->H dx=none->dx≠x->sp (.ref x::(vs++dvs)) (upd (upd H dx (.own x)) x (.ins C dx [])) (λv H2=>v=.non/\Q (.ref x) H2) E) :
  wpAny (model X.prog X.w) X.A (call (.ref C) us) (EP X pins σ Q) X.xe s:=by
 have hq:=h (s.heap.objs.size+1) s.heap.objs.size (I.hok.fresh (eB _)) (I.hok.fresh (aZ _)) (bI (eD _));have I2:=Inv.made (C:=C) I;have r2:AR (V.ref (s.heap.objs.size+1)::(vs++dvs)) (Value.ref (s.heap.objs.size+1)::(us++ds)):=.cons rfl (r.append hd);have hl:(Value.ref (s.heap.objs.size+1)::us++ds).length=ps.length:=by
  have e:=r2.length;rw[F.len _ _ _ _ hq] at e;exact e.symm
 refine gm (TY (f:=f) I.kIn M.makes M.init (cV.mp M.fn) (dC (F.run _ X.stack _ _ ⟨Value.ref (s.heap.objs.size+1)::us,[]⟩ (Value.ref (s.heap.objs.size+1)::(us++ds)) _ _ E (hr.make C us [])
  (I2.env0.make C us []) (hb _ (Value.ref (s.heap.objs.size+1)::us) I2.kIn hl) r2 hq) λr s' hq'=>?_))
 cases r with
 |error e=>exact hx pins σ _ _ e s' I2 hq'
 |ok fl=>
  cases fl with
  |ret u=>
   obtain⟨v,H',I3,rv,ev,q3⟩:=I2.after hq';subst ev;exact⟨rv,⟨V.ref (s.heap.objs.size+1),H',I3,rfl,q3⟩⟩
  |next=>exact False.elim hq'
  |brk=>exact False.elim hq'
  |cont=>exact False.elim hq'
theorem Wf (M:Mk X.K C f) (F:FnOk X.prog X.w X.K X.mg X.base CX k f fd ps sp) (hr:Room (k+1) X.A) (hg:Gl X x) (hm:X.mg x=some (.ref C)) (hb:Binds X.K fd ps ds) (hd:AR dvs ds) (hx:Eo CX X E)
  (ha:PA X (e::es) t) (hdb:(x == ("__debug__":Str))=false:=by decide) (he:starEach (e::es) X.env=(false,eval e X.env)::starEach es X.env:=by rfl) (hpl:(backTo pos (starEach es X.env)).any (·.1)=false:=by rfl) :
  PE X (.Call (.Name x p) (e::es) [] pos) (XM C sp dvs E t):=by
 intro pins s σ H Q I h;refine dG (G9 I hg hm ?_ hdb);refine gC (h₀:=X.base) I.ok.mod.kin M.kp (Bn (ha pos pins s σ H _ I h) λus s1 ⟨vs,H1,I1,r,q⟩=>⟨I1.kIn,?_⟩) he hpl;exact Vd M F hr hb hd hx I1 r q
end
structure FnScope (N P:List Str) (sc:Scope):Prop where
 kind:sc.kind=.function
 co:sc.isCoroutine=false
 gen:sc.isGenerator=false
 nd:N.Nodup
 pre:N.take P.length=P
 par:∀x∈P,sc.names.lookup x=some .local\/sc.names.lookup x=some .cell
 nofree:∀y∈sc.names,y.2≠.free
theorem NT {kindOf:Str->Option NameKind}{x:Str}:∀{binds:List (Str×Value)} {m:Str->Option Value},(∀v,(x,v)∉binds)->bindL kindOf binds m x=m x
 |[],_,_=>rfl
 |(n,v)::r,m,h=>by
  unfold bindL;rw[NT λw hw=>h w (a9 _ hw)]
  split
  ·have:x≠n:=by rintro rfl;exact h v bc
   simp[this]
  ·rfl
theorem Nz {kindOf:Str->Option NameKind}{x:Str}:∀{binds:List (Str×Value)} {m:Str->Option Value},(∀v,(x,v)∉binds)->bindC kindOf binds m x=m x
 |[],_,_=>rfl
 |(n,v)::r,m,h=>by
  unfold bindC;rw[Nz λw hw=>h w (a9 _ hw)]
  split
  ·rfl
  ·have:x≠n:=by rintro rfl;exact h v bc
   simp[this]
theorem NM {kindOf:Str->Option NameKind}{x:Str}{v:Value}:∀{P:List Str} {vs:List Value} {i:Nat} {m:Str->Option Value},P.Nodup->P[i]?=some x->vs[i]?=some v->kindOf x=some .local->
  bindL kindOf (P.zip vs) m x=some v
 |[],_,_,_,_,h,_,_=>by simp at h
 |_::_,[],_,_,_,_,h,_=>by simp at h
 |p::P,w::vs,0,m,nd,h1,h2,hk=>by
  simp at h1 h2;subst h1;subst h2;show bindL kindOf ((p,w)::P.zip vs) m p=_;unfold bindL;rw[NT λv hv=>(bZ.mp nd).1 (fo hv).1,bF hk];simp
 |p::P,w::vs,i+1,m,nd,h1,h2,hk=>by
  show bindL kindOf ((p,w)::P.zip vs) m x=_;unfold bindL;exact NM (i:=i) (bZ.mp nd).2 (by simpa using h1) (by simpa using h2) hk
theorem NK {kindOf:Str->Option NameKind}{x:Str}{v:Value}:∀{P:List Str} {vs:List Value} {i:Nat} {m:Str->Option Value},P.Nodup->P[i]?=some x->vs[i]?=some v->kindOf x≠some .local->
  bindC kindOf (P.zip vs) m x=some v
 |[],_,_,_,_,h,_,_=>by simp at h
 |_::_,[],_,_,_,_,h,_=>by simp at h
 |p::P,w::vs,0,m,nd,h1,h2,hk=>by
  simp at h1 h2;subst h1;subst h2;show bindC kindOf ((p,w)::P.zip vs) m p=_;unfold bindC;rw[Nz λv hv=>(bZ.mp nd).1 (fo hv).1,bH hk];simp
 |p::P,w::vs,i+1,m,nd,h1,h2,hk=>by
  show bindC kindOf ((p,w)::P.zip vs) m x=_;unfold bindC;exact NK (i:=i) (bZ.mp nd).2 (by simpa using h1) (by simpa using h2) hk
def start (N:List Str)(vs:List V):St:=vs.map some++List.replicate (N.length-vs.length) none
def BB (CX:SM)(P:Program)(w:World)(K:PySem.W.Frag)(mg:Str->Option Value)(base:Heap)(N:List Str)(qual:Str)(scope:Scope)(f:Addr)(cd:Value)(A:Around)(outer:List Env)(s:Shared)(H:Hp)(E:XK):Cx where
 prog:=P
 w:=w
 K:=K
 mg:=mg
 base:=base
 A:=A.deeper (envOfC qual scope s.heap.objs.size f cd)
 N:=N
 s₀:=s
 H₀:=H
 env:=envOfC qual scope s.heap.objs.size f cd
 outer:=outer
 stack:=envOfC qual scope s.heap.objs.size f cd::outer
 ex:=[]
 calm:=true
 fn:=λ_=>true
 pn:=[]
 xe:=λe s'=>wpAny (model P w) (A.deeper (envOfC qual scope s.heap.objs.size f cd)) (leaving (envOfC qual scope s.heap.objs.size f cd) e) (λ_ s''=>CX outer H s E e s'') (λe' s''=>CX outer H s E e' s'') s'
theorem Pp {sc:Scope}{n:Nat}{x:Str}(h:sc.names.lookup x=some .cell):∃c,(cellsFrom n sc.names []).lookup x=some c:=by
 have q:=iF sc.names n [] (.inl h);exact Option.isSome_iff_exists.mp q
theorem Tb {CX:SM} {P:Program} {w:World} {K:PySem.W.Frag} {mg:Str->Option Value} {base:Heap} {N ps:List Str} {qual:Str} {scope:Scope} {f:Addr} {cd:Value} {A:Around} {outer:List Env} {s s1:Shared} {H:Hp} {E:XK} {us:List Value} {vs:List V}
  (S:FnScope N ps scope) (hd:A.handled=none) (e0:Env0 P w K mg base A outer s H) (hl:vs.length=ps.length) (r:AR vs us)
  (x:InCallC s s.heap.objs.size (bindL (envOfC qual scope s.heap.objs.size f cd).kindOf (ps.zip us) λ_=>none) (cellsFrom (s.heap.objs.size+1) scope.names []) (bindC (envOfC qual scope s.heap.objs.size f cd).kindOf (ps.zip us) λ_=>none) s1) :
  Inv (BB CX P w K mg base N qual scope f cd A outer s H E) [] (start N vs) H s1:=by
 have hpl:ps.length<=N.length:=by have:=congrArg List.length S.pre;rw[b6] at this;omega
 obtain⟨h1,tk,rfl,hk⟩:=x.done;have noA:∀b:Addr,b∉(BB CX P w K mg base N qual scope f cd A outer s H E).ex:=λb z=>absurd (show b∈([]:List Addr) from z) (by simp)
 refine⟨⟨e0.mod,S.kind,rfl,rfl,aZ _,λy z c h1 h2=>?_,λy hy=>?_,λy c _ h=>?_,λ_=>hd,Around.frames_deeper e0.frames,.inr ⟨rfl,rfl⟩,λb z=>absurd z (noA b),e0.bs,e0.bsz,λb _ _=>noA b,λb z=>absurd z (noA b),e0.funs,e0.frf⟩,
  rfl,e0.bare,Un.kept hk,⟨_,x.toInCall.ns,λi y v h1 h2 h3=>?_⟩,λy c h=>⟨_,x.cell y c h⟩,e0.hok.fresh (aZ _),λy c h=>?_,λp hp=>absurd (show p∈([]:List (Addr×Obj)) from hp) (by simp),e0.hok.kept hk,?_⟩
 ·exact name_of_addr x.apart (cH h1) (cH h2)
 ·have hy:scope.names.lookup y=some .cell\/scope.names.lookup y=some .free:=hy;rcases hy with hy|hy
  ·exact Pp hy
  ·exact absurd rfl (S.nofree _ (cH hy))
 ·exact gK (x.above y c (cH h))
 ·have hi:i<vs.length:=by
   unfold start at h2
   by_cases hi:i<vs.length
   ·exact hi
   ·rw[cY (by simpa using hi)] at h2;rw[List.getElem?_replicate] at h2
    split at h2<;>cases h2
  have ha:vs[i]?=some v:=by
   unfold start at h2;rw[cw (by simpa using hi),bz] at h2;cases e:vs[i]? with
   |none=>rw[e] at h2;cases h2
   |some a=>rw[e] at h2;cases h2;rfl
  obtain⟨u,hu,rv⟩:=r.get ha;have hp:ps[i]?=some y:=by
   rw[<-S.pre,List.getElem?_take_of_lt (by omega)];exact h1
  have ndP:ps.Nodup:=by rw[<-S.pre];exact S.nd.sublist (List.take_sublist _ _)
  refine⟨u,rv,?_⟩;rcases S.par y (a8 hp) with k|k
  ·exact .inl ⟨k,NM ndP hp hu k⟩
  ·obtain⟨c,e⟩:=Pp (n:=s.heap.objs.size+1) k;refine .inr ⟨.inl k,c,e,?_⟩;have q:=x.cell y c e;rw[NK ndP hp hu (by show scope.names.lookup y≠_;rw[k];decide)] at q;exact q
 ·exact e0.hok.fresh (gK (x.above y c (cH h)))
 ·unfold start;show _=N.length;rw[bx,aS,dB];omega
theorem XR {CX:SM} {P:Program} {w:World} {K:PySem.W.Frag} {mg:Str->Option Value} {base:Heap} {k:Nat} {f:Addr} {name qual:Str} {params:Arguments} {body:List Stmt} {scope:Scope} {dV kV doc pm cdv ct oc:Value} {an od:Option Addr}
  {osl:Array (Option Value)} {N ps:List Str} {sp:Sp} (lk:K.lookup f=some ⟨oc,od,.func (PySem.W.fnOf name qual params body scope dV kV doc pm an cdv ct),osl⟩) (hcd:PySem.W.codeIn K cdv qual=true) (S:FnScope N ps scope)
  (len:∀vs H Q E,sp vs H Q E->vs.length=ps.length)
  (hbody:∀(A:Around) (outer:List Env) (s:Shared) (H:Hp) (vs:List V) (Q:VK) (E:XK),Room k (A.deeper (envOfC qual scope s.heap.objs.size f cdv))->sp vs H Q E->
   ∃t,Qi (BB CX P w K mg base N qual scope f cdv A outer s H E) body t/\t { nx:=λ_ H'=>Q .non H',rt:=Q } (start N vs) H) :
  FnOk P w K mg base CX (k+1) f (PySem.W.fnOf name qual params body scope dV kV doc pm an cdv ct) ps sp:=by
 refine⟨len,λA outer s H args us vs Q E hr e0 hb r hsp=>?_⟩;have hl:=len _ _ _ _ hsp;have KX:K.In s.heap:=e0.mod.kin.keeps λb o e=>(e0.bs b o e).1
 have lim:s.heap.NoLimit:=e0.mod.nolimit.keeps λb o e=>(e0.bs b o e).1
 have hkind:∀y∈ps.zip us,scope.names.lookup y.1=some .local\/(scope.names.lookup y.1=some .cell/\((cellsFrom (s.heap.objs.size+1) scope.names []).lookup y.1).isSome=true):=λ⟨n,v⟩ hy=>by
  rcases S.par n (fo hy).1 with q|q
  ·exact .inl q
  ·exact .inr ⟨q,iF _ _ _ (.inl q)⟩
 refine codeAny_call_function hr.depth (KX _ _ lk) rfl S.co S.gen rfl (PySem.W.codeRec_of KX hcd) (hb _ _ _ _ ?_);refine wpAny_newFunctionEnv_cells S.kind hkind λenv he s1 x=>?_
 subst he;refine⟨lim.keeps x.toInCall.keep,codeAny_func ?_⟩;obtain⟨t,ht,hq⟩:=hbody A outer s H vs Q E (hr.deeper _) hsp;have I:Inv (BB CX P w K mg base N qual scope f cdv A outer s H E) [] (start N vs) H s1:=Tb S hr.hd e0 hl r x;refine b4 (ht [] s1 (start N vs) H _ I hq) (λfl s' hs=>?_) λe s' hs=>hs
 have fin:∀{σ':St} {H':Hp} {v:V} {u:Value},Inv (BB CX P w K mg base N qual scope f cdv A outer s H E) [] σ' H' s'->RelV v u->Q v H'->CE outer P w H s Q u s':=
  λ{σ' H' v u} J rv q=>⟨v,H',J.os,J.bare,J.base,J.hok,rv,q⟩
 cases fl with
 |ret u=>
  obtain⟨v,σ',H',J,rv,q⟩:=hs;exact fin J rv q
 |next=>
  obtain⟨σ',H',J,q⟩:=hs;exact fin (v:=V.non) (u:=Value.none) J rfl q
 |brk=>
  obtain⟨_,_,_,q⟩:=hs;exact False.elim q
 |cont=>
  obtain⟨_,_,_,q⟩:=hs;exact False.elim q
section
variable {X:Cx}{x:Str}{p pos:Pos}{e:Expr}{es:List Expr}{t:TA}{id T:String}{r:List V->Hp->VK->Prop}
def aw (r:List V->Hp->VK->Prop)(t:TA):TE:=λσ H Q=>t σ H λvs H1=>r vs H1 Q
theorem Aq (hc:CL X (.builtin id) r) (hg:Gl X x) (hm:X.mg x=none) (hv:bootBuiltins x=some (.builtin id)) (ha:PA X (e::es) t) (hn:x≠"__name__":=by decide) (hdb:(x == ("__debug__":Str))=false:=by decide)
  (he:starEach (e::es) X.env=(false,eval e X.env)::starEach es X.env:=by rfl) (hpl:(backTo pos (starEach es X.env)).any (·.1)=false:=by rfl):PE X (.Call (.Name x p) (e::es) [] pos) (aw r t):=by
 intro pins s σ H Q I h;refine dG (HS I hg hm hv ?_ hn hdb);exact PyProof.Rows.callWith_builtin1 (Bn (ha pos pins s σ H _ I h) λus s1 ⟨vs,H1,I1,r1,q1⟩=>hc pins s1 σ H1 vs us Q I1 r1 q1) he hpl
theorem BX (hc:CL X (.type T) r) (hg:Gl X x) (hm:X.mg x=none) (hv:bootBuiltins x=some (.type T)) (ha:PA X (e::es) t) (hn:x≠"__name__":=by decide) (hdb:(x == ("__debug__":Str))=false:=by decide)
  (he:starEach (e::es) X.env=(false,eval e X.env)::starEach es X.env:=by rfl) (hpl:(backTo pos (starEach es X.env)).any (·.1)=false:=by rfl):PE X (.Call (.Name x p) (e::es) [] pos) (aw r t):=by
 intro pins s σ H Q I h;refine dG (HS I hg hm hv ?_ hn hdb);exact fu (Bn (ha pos pins s σ H _ I h) λus s1 ⟨vs,H1,I1,r1,q1⟩=>hc pins s1 σ H1 vs us Q I1 r1 q1) he hpl
end
end L2
namespace HT
open PySem PyProof.Rows
section
variable {prog:Program}{w:World}{A:Around}{E:Value->Shared->Prop}{s:Shared}
def Dq (n d:Nat):Option Int->Nat
 |none=>d
 |some v=>if v<0 then(v+(n:Int)).toNat else min v.toNat n
theorem Sb (n d k:Nat):Dq n d (some (k:Int))=min k n:=by
 show(if(k:Int)<0 then((k:Int)+(n:Int)).toNat else min (k:Int).toNat n)=min k n;rw[bH (by omega),gM]
theorem YZ (n d:Nat)(hd:d<=n)(o:Option Int):Dq n d o<=n:=by
 cases o with
 |none=>exact hd
 |some v=>
  show(if v<0 then(v+(n:Int)).toNat else min v.toNat n)<=n
  by_cases hv:v<0
  ·rw[bF hv];omega
  ·rw[bH hv];exact Nat.min_le_right _ _
theorem RZ (v:Int)(n d:Nat):(if v<0 then max (v+(n:Int)) 0 else min v (n:Int))=((Dq n d (some v):Nat):Int):=by
 show(if v<0 then max (v+(n:Int)) 0 else min v (n:Int))=(((if v<0 then(v+(n:Int)).toNat else min v.toNat n):Nat):Int)
 by_cases hv:v<0
 ·simp only[if_pos hv];omega
 ·simp only[if_neg hv];omega
theorem Q0 (lo hi:Option Int)(n:Nat):Builtin.Slice.sliceAdjust lo hi 1 (n:Int)=(((Dq n 0 lo:Nat):Int),((Dq n n hi:Nat):Int)):=by
 have h1:¬((1:Int)<0):=by omega
 unfold Builtin.Slice.sliceAdjust;simp only[h1,if_false];refine Prod.ext ?_ ?_
 ·cases lo with
  |none=>rfl
  |some v=>exact RZ v n 0
 ·cases hi with
  |none=>rfl
  |some v=>exact RZ v n n
theorem Rh (i j:Nat):Builtin.Slice.slicePlaces (i:Int) (j:Int) 1=j-i:=by
 unfold Builtin.Slice.slicePlaces;have h1:(1:Int)>0:=by omega
 simp only[h1,if_true,Int.ediv_one]
 split<;>omega
theorem MG {v:Value}{o:Option Int}{Q:Option Int->Shared->Prop}(p:IsPart v o)(h:Q o s):wpAny (model prog w) A (Builtin.Slice.slicePartIndex v) Q E s:=by
 cases p with
 |none=>exact slicePart_none h
 |int i t=>exact slicePart_int h
theorem JU {sl:Addr} {vl vu:Value} {lo hi:Option Int} {n:Nat} {Q:Int×Int×Nat->Shared->Prop} (hs:s.heap.IsSliceOf sl vl vu .none) (pl:IsPart vl lo) (pu:IsPart vu hi)
  (h:Q (((Dq n 0 lo:Nat):Int),1,Dq n n hi-Dq n 0 lo) s):wpAny (model prog w) A (Builtin.Slice.sliceApplied (.ref sl) (pure (n:Int))) Q E s:=by
 obtain⟨os,hos,hcs,hds⟩:=id hs;unfold Builtin.Slice.sliceApplied Builtin.Slice.sliceFields;refine aU (aU (wpAny_field hos hds (x:=vl) rfl (aU (wpAny_field hos hds (x:=vu) rfl (aU (wpAny_field hos hds (x:=.none) rfl (aX ?_)))))));refine aU (slicePart_none ?_);show wpAny _ _ (if((1:Int) == 0)=true then _ else _) _ _ s;rw[bH (by decide)];refine aU (MG pl (aU (MG pu (aU (aX ?_)))));show wpAny _ _ (match Builtin.Slice.sliceAdjust lo hi 1 (n:Int) with|(lo,hi)=>pure (lo,(1:Int),Builtin.Slice.slicePlaces lo hi 1)) _ _ s;rw[Q0 lo hi n];show wpAny _ _ (pure (((Dq n 0 lo:Nat):Int),(1:Int),Builtin.Slice.slicePlaces ((Dq n 0 lo:Nat):Int) ((Dq n n hi:Nat):Int) 1)) _ _ s;rw[Rh];exact aX h
theorem UL (xs:Array Value)(i k:Nat):((List.range k).filterMap λ(m:Nat)=>xs[((i:Int)+(m:Int)*1).toNat]?).toArray=((xs.toList.drop i).take k).toArray:=by
 have e:(λ(m:Nat)=>xs[((i:Int)+(m:Int)*1).toNat]?)=λm=>xs[i+m]?:=by
  funext m
  have:((i:Int)+(m:Int)*1).toNat=i+m:=by omega
  rw[this]
 rw[e];have:=pick_run xs i k;rw[List.filterMap_map] at this;have e2:((λx=>xs[x]?)∘λx=>i+x)=λm=>xs[i+m]?:=rfl
 rw[e2] at this;rw[this]
theorem Ja {t sl:Addr} {items:Array Value} {vl vu:Value} {lo hi:Option Int} {Q:Value->Shared->Prop} (ht:IsTup s.heap t items) (hs:s.heap.IsSliceOf sl vl vu .none) (pl:IsPart vl lo) (pu:IsPart vu hi)
  (hw:¬(Dq items.size 0 lo=0/\Dq items.size items.size hi=items.size))
  (h:Q (.ref s.heap.objs.size) { s with heap:=s.heap.push { cls:=.type "tuple",data:=.seq ((items.toList.drop (Dq items.size 0 lo)).take (Dq items.size items.size hi-Dq items.size 0 lo)).toArray } })
  (hsz:items.size<=sizeLine):wpAny (model prog w) A (getItem (.ref t) (.ref sl)) Q E s:=by
 have htake:sizeOk (.seq ((items.toList.drop (Dq items.size 0 lo)).take (Dq items.size items.size hi-Dq items.size 0 lo)).toArray):=by
  show((items.toList.drop (Dq items.size 0 lo)).take (Dq items.size items.size hi-Dq items.size 0 lo)).toArray.size<=sizeLine;rw[bV,b6,List.length_drop,cv];omega
 have hj:Dq items.size items.size hi<=items.size:=YZ _ _ (aZ _) hi;obtain⟨os,hos,hcs,hds⟩:=id hs;have hTs:s.TypeIs (.ref sl) "slice":=⟨os,hos,hcs⟩
 unfold getItem
 try with_reducible refine cj ?_
 first|refine aU (aX ?_)|skip
 refine aU (wpAny_sequenceKey ht.typeIs (by decide) ?_);refine aU (gc (name:=Str.ofString "__getitem__") ht.typeIs gQ
  (cT gQ ht.typeIs entry_tuple_getitem ?_ (args_tuple_getitem _ _)))
 show wpAny _ _ (Builtin.Tuple.tupleItemsOf (.ref t) >>= _) _ _ s;refine aU (tupleItemsOf_ ht ?_);refine aU (gh hTs ?_);rw[bF (by decide)];refine aU (JU hs pl pu ?_);have hno:¬((((Dq items.size 0 lo:Nat):Int) == 0&&(1:Int) == 1&&(Dq items.size items.size hi-Dq items.size 0 lo) == items.size)=true):=by
  intro q;rw[bL,bL] at q;have q1:((Dq items.size 0 lo:Nat):Int)=0:=eq_of_beq q.1.1;have q2:Dq items.size items.size hi-Dq items.size 0 lo=items.size:=eq_of_beq q.2;exact hw ⟨by omega,by omega⟩
 show wpAny _ _ (if(((Dq items.size 0 lo:Nat):Int) == 0&&(1:Int) == 1&&(Dq items.size items.size hi-Dq items.size 0 lo) == items.size)=true then _ else _) _ _ s;rw[bH hno,UL]
 first
  |exact aU (m:=Builtin.Tuple.tupleExact _) (cE (aX ⟨_,rfl,aX h⟩) htake)
  |exact aU (m:=Builtin.Tuple.tupleExact _) (cE (aU (aX (aX ⟨_,rfl,aX h⟩))) htake)
  |exact aU (aU (m:=Builtin.Tuple.tupleExact _) (cE (aX (aX ⟨_,rfl,aX h⟩)) htake))
  |exact aU (aU (m:=Builtin.Tuple.tupleExact _) (cE (aX ⟨_,rfl,aX h⟩) htake))
end
end HT
namespace L2
open PySem PySem.Spec PyProof.Rows
abbrev TO:=St->Hp->(Option Int->Hp->Prop)->Prop
def PO (X:Cx)(e:Option Expr)(t:TO):Prop:=
 ∀(pins:List (Addr×Obj)) (s:Shared) (σ:St) (H:Hp) (Q:Option Int->Hp->Prop),Inv X pins σ H s->t σ H Q->
  wpAny (model X.prog X.w) X.A (evalPart e X.env) (λu s'=>∃o H',Inv X pins σ H' s'/\IsPart u o/\Q o H') X.xe s
def WZ:TO:=λ_ H Q=>Q none H
def ZG (t:TE):TO:=λσ H Q=>t σ H λx H1=>∃i,x=.int i/\Q (some i) H1
theorem intsAre_of {ns:List Int}:∀{us:List Value},AR (ns.map V.int) us->IntsAre us ns:=by
 induction ns with
 |nil=>intro us r;rw[eE] at r;cases r;exact .nil
 |cons n ns ih=>
  intro us r;rw[bg] at r;cases r with
  |cons r1 r2=>
   obtain⟨t,e⟩:=r1;subst e;exact .cons n t (ih r2)
section
variable {X:Cx}{e:Expr}{te:TE}{lo hi:Option Expr}{tl th:TO}{pos p2:Pos}
theorem Of:PO X none WZ:=by
 intro pins s σ H Q I h;rw[evalPart_none];exact aX ⟨none,H,I,.none,h⟩
theorem JD (h:PE X e te):PO X (some e) (ZG te):=by
 intro pins s σ H Q I hw;rw[evalPart_some];refine Bn (h pins s σ H _ I hw) λu s1 ⟨x,H1,I1,r1,q1⟩=>?_
 obtain⟨i,rfl,q⟩:=q1;obtain⟨t,rfl⟩:=r1;exact⟨some i,H1,I1,.int i t,q⟩
def ag (X:Cx)(r:V->Option Int->Option Int->Hp->VK->Prop):Prop:=
 ∀(pins:List (Addr×Obj)) (s:Shared) (σ:St) (H:Hp) (x:V) (v vl vu:Value) (lo hi:Option Int) (sl:Addr) (Q:VK),Inv X pins σ H s->RelV x v->s.heap.IsSliceOf sl vl vu .none->IsPart vl lo->IsPart vu hi->r x lo hi H Q->
  ∃T id,typeLookup (.type T) "__getitem__"=pure (some (.builtin id))/\s.TypeIs v T/\wpAny (model X.prog X.w) X.A (getItem v (.ref sl)) (EP X pins σ Q) X.xe s
def aM (r:V->Option Int->Option Int->Hp->VK->Prop)(te:TE)(tl th:TO):TE:=λσ H Q=>te σ H λx H1=>tl σ H1 λl H2=>th σ H2 λu H3=>r x l u H3 Q
theorem Jc {r:V->Option Int->Option Int->Hp->VK->Prop}(hr:ag X r)(he:PE X e te)(hl:PO X lo tl)(hu:PO X hi th):PE X (.Subscript e (.Slice lo hi none p2) pos) (aM r te tl th):=by
 intro pins s σ H Q I h;refine Subscript_ (Bn (he pins s σ H _ I h) λv s1 ⟨x,H1,I1,r1,q1⟩=>?_);refine wpAny_Slice (Bn (hl pins s1 σ H1 _ I1 q1) λvl s2 ⟨l,H2,I2,pl,q2⟩=>Bn (hu pins s2 σ H2 _ I2 q2) λvu s3 ⟨u,H3,I3,pu,q3⟩=>?_);rw[evalPart_none];refine aX ?_;have I4:Inv X pins σ H3 { s3 with heap:=s3.heap.push { cls:=.type "slice",data:=.fields #[vl,vu,.none] } }:=I3.kept (t':=s3.toks) λb ob q=>aV _ q
 obtain⟨T,id,hT,ht,hg⟩:=hr pins { s3 with heap:=s3.heap.push { cls:=.type "slice",data:=.fields #[vl,vu,.none] } } σ H3 x v vl vu l u s3.heap.objs.size Q I4 r1 (Heap.IsSliceOf.new ..) pl pu q3;show wpAny (model X.prog X.w) X.A (subscriptTail e (.Slice lo hi none p2) v (.ref s3.heap.objs.size)) (EP X pins σ Q) X.xe { s3 with heap:=s3.heap.push { cls:=.type "slice",data:=.fields #[vl,vu,.none] } };exact tail_any (ops:=[.ref s3.heap.objs.size,v]) ht hT hg (by with_unfolding_all rfl)
def JM (xs:List V)(lo hi:Option Int):List V:=(xs.drop (HT.Dq xs.length 0 lo)).take (HT.Dq xs.length xs.length hi-HT.Dq xs.length 0 lo)
theorem Kl (xs:List V)(lo hi:Option Int):(JM xs lo hi).length<=xs.length:=by
 unfold JM;rw[b6,List.length_drop];omega
def Z0 (K:PySem.W.Frag):V->Option Int->Option Int->Hp->VK->Prop:=λx lo hi H Q=>∃a xs,x=.ref a/\AV K H a xs/\
 ¬(HT.Dq xs.length 0 lo=0/\HT.Dq xs.length xs.length hi=xs.length)/\∀p,H p=none->Q (.ref p) (upd H p (.tup (JM xs lo hi)))
theorem Vj:ag X (Z0 X.K):=by
 intro pins s σ H x v vl vu lo hi sl Q I rx hs pl pu h;obtain⟨a,xs,rfl,hx,hw,q⟩:=h;cases rx;obtain⟨its,r,ht,hz⟩:=I.tuple hx;have hlen:its.toArray.size=xs.length:=by rw[bV];exact r.length.symm
 refine⟨"tuple",_,PyProof.Rows.slot_tuple_getitem.lookup,ht.typeIs,?_⟩;refine HT.Ja ht hs pl pu (by rw[hlen];exact hw) ?_ (by rw[hlen];exact hz);rw[hlen];refine⟨.ref s.heap.objs.size,_,I.laid (t':=s.toks) (o:=.tup (JM xs lo hi)) (λb ob q=>aV _ q) (aZ _) ?_,rfl,q _ (I.hok.fresh (aZ _))⟩;exact⟨bQ (Kl xs lo hi) hz,_,(r.drop (HT.Dq xs.length 0 lo)).take (HT.Dq xs.length xs.length hi-HT.Dq xs.length 0 lo),KU.new _ _⟩
end
def VU (n:Nat)(i:Int):Option Nat:=if 0<=i then(if i<n then some i.toNat else none) else if -(n:Int)<=i then some (i+n).toNat else none
def Kw {α:Type}(xs:List α)(i:Int):Option α:=(VU xs.length i).bind λj=>xs[j]?
theorem WO {n:Nat}{i:Int}{j:Nat}(h:VU n i=some j):seqIndex? i n=some j/\j<n/\-(n:Int)<=i/\i<n:=by
 unfold VU at h
 by_cases h0:0<=i
 ·rw[bF h0] at h
  by_cases h1:i<n
  ·rw[bF h1] at h;have e:i.toNat=j:=bf h;exact⟨by rw[seqIndex_of h0 h1,e],by omega,by omega,h1⟩
  ·rw[bH h1] at h;cases h
 ·rw[bH h0] at h
  by_cases h1:-(n:Int)<=i
  ·rw[bF h1] at h;have e:(i+n).toNat=j:=bf h;exact⟨by rw[seqIndex_neg (by omega) h1,e],by omega,h1,by omega⟩
  ·rw[bH h1] at h;cases h
theorem Os {α:Type}{xs:List α}{i:Int}{v:α}(h:Kw xs i=some v):∃j,seqIndex? i xs.length=some j/\xs[j]?=some v/\j<xs.length/\-(xs.length:Int)<=i/\i<xs.length:=by
 unfold Kw at h;cases e:VU xs.length i with
 |none=>rw[e] at h;cases h
 |some j=>
  rw[e] at h;obtain⟨h1,h2,h3,h4⟩:=WO e;exact⟨j,h1,h,h2,h3,h4⟩
theorem Jn {α:Type}{xs:List α}{j:Nat}{v:α}(h:xs[j]?=some v):Kw xs (j:Int)=some v:=by
 have hj:j<xs.length:=(bu.mp h).1;have e:VU xs.length (j:Int)=some j:=by
  unfold VU;rw[bF (by omega),bF (by omega)];simp
 unfold Kw;rw[e];exact h
theorem VL {α:Type}(xs:List α)(v:α):Kw (xs++[v]) (-1)=some v:=by
 have hl:(xs++[v]).length=xs.length+1:=by simp
 have e:VU (xs++[v]).length (-1)=some xs.length:=by
  unfold VU;rw[hl,bH (by decide),bF (by omega)]
  congr 1
  omega
 unfold Kw;rw[e];show(xs++[v])[xs.length]?=some v;simp
def Wg (b:Expr):Prop:=∀o i,subscripted b false o i=operate [o,i] (getItem o i)
def Y7 (X:Cx)(r:R2):Prop:=
 ∀(value slice:Expr) (pins:List (Addr×Obj)) (s:Shared) (σ:St) (H:Hp) (x y:V) (v u:Value) (Q:VK),Inv X pins σ H s->RelV x v->RelV y u->r x y H Q->
  subscripted slice false v u=operate [v,u] (getItem v u)->wpAny (model X.prog X.w) X.A (subscriptTail value slice v u) (EP X pins σ Q) X.xe s
def ZH (X:Cx)(id:String)(r:V->List V->Hp->VK->Prop):Prop:=
 ∀(pins:List (Addr×Obj)) (s:Shared) (σ:St) (H:Hp) (x:V) (xs:List V) (v:Value) (us:List Value) (Q:VK),Inv X pins σ H s->RelV x v->AR xs us->r x xs H Q->
  wpAny (model X.prog X.w) X.A (call (.builtin id) (v::us)) (EP X pins σ Q) X.xe s
section
variable {X:Cx}{a b:Expr}{ta tb:TE}{pos:Pos}
theorem Aw {r:R2}(hr:Y7 X r)(ha:PE X a ta)(hb:PE X b tb)(hs:Wg b):PE X (.Subscript a b pos) (XI r ta tb):=by
 intro pins s σ H Q I h;exact Subscript_ (Yk ha hb I h λv u s2 x y H2 I2 rx ry q=>hr a b pins s2 σ H2 x y v u Q I2 rx ry q (hs _ _))
def Zd (K:PySem.W.Frag):R2:=λx y H Q=>∃p xs i v,x=.ref p/\y=.int i/\AI K H p xs/\Kw xs i=some v/\Q v H
def Zb (K:PySem.W.Frag):R2:=λx y H Q=>∃p xs i v,x=.ref p/\y=.int i/\AV K H p xs/\Kw xs i=some v/\Q v H
def ar:R2:=λx y H Q=>∃z i c,x=.str z/\y=.int i/\z.length<=sizeLine/\Kw z.cps.toList i=some c/\Q (.str ⟨#[c]⟩) H
theorem A7:Y7 X (Zd X.K):=by
 intro value slice pins s σ H x y v u Q I rx ry h hs;obtain⟨p,xs,i,z,rfl,rfl,hq,he,q⟩:=h;cases rx;obtain⟨t,rfl⟩:=ry;obtain⟨its,r,pl,hz⟩:=I.list hq;obtain⟨j,h1,h2,h3,h4,h5⟩:=Os he;obtain⟨w,ew,rw'⟩:=r.get h2;have hl:=r.length;have hn:=Lr;have fin:EP X pins σ Q w s:=⟨z,H,I,rw',q⟩
 by_cases h0:0<=i
 ·have hj:i.toNat=j:=by
   rw[seqIndex_of h0 h5] at h1;exact bf h1
  exact item_listR pl.isList h0 (by omega) (by rw[hj];simpa using ew) fin hs
 ·have hj:(i+(its.toArray.size:Int)).toNat=j:=by
   rw[seqIndex_neg (by omega) h4] at h1;rw[bV,<-hl];exact bf h1
  exact subscriptTail_builtinR (x:=w) pl.isList.typeIs slot_list_getitem.lookup
   (wpAny_getItem_list_neg (Q:=λr s'=>r=w/\EP X pins σ Q r s') pl.isList (by omega) (by rw[bV]<;>omega) (by omega) (by rw[hj];simpa using ew) ⟨rfl,fin⟩) hs
theorem AF:Y7 X (Zb X.K):=by
 intro value slice pins s σ H x y v u Q I rx ry h hs;obtain⟨p,xs,i,z,rfl,rfl,hq,he,q⟩:=h;cases rx;obtain⟨t,rfl⟩:=ry;obtain⟨its,r,pl,hz⟩:=I.tuple hq;obtain⟨j,h1,h2,h3,h4,h5⟩:=Os he;obtain⟨w,ew,rw'⟩:=r.get h2;have hl:=r.length;have hn:=Lr;have fin:EP X pins σ Q w s:=⟨z,H,I,rw',q⟩
 exact subscriptTail_builtinR (x:=w) pl.typeIs slot_tuple_getitem.lookup
  (getItem_tuple (j:=j) (Q:=λr s'=>r=w/\EP X pins σ Q r s') pl (by omega) (by omega) (by rw[bV,<-hl];exact h1) (by simpa using ew) ⟨rfl,fin⟩) hs
theorem OG:Y7 X ar:=by
 intro value slice pins s σ H x y v u Q I rx ry h hs;obtain⟨z,i,c,rfl,rfl,hz,he,q⟩:=h;obtain⟨t,rfl⟩:=rx;obtain⟨t',rfl⟩:=ry;obtain⟨j,h1,h2,h3,h4,h5⟩:=Os he;have hl:z.cps.toList.length=z.length:=by simp[Str.length]
 rw[hl] at h1 h4 h5;have hn:=Lr;exact tail_any (typeIs_str s z t) slot_str_getitem.lookup (getItem_str (c:=c) (by
  have e1:decide (i < -(2^63:Int))=false:=bD (by omega);have e2:decide (i≥2^63)=false:=bD (by omega);rw[e1,e2,Bool.or_false]) (by rw[h1];simpa using h2) ⟨.str ⟨#[c]⟩,H,I.tok _,⟨_,rfl⟩,q⟩) hs
theorem Oj (lo hi:Option Int)(n:Nat):(sliceBounds lo hi none n).1=((HT.Dq n 0 lo:Nat):Int)/\(sliceBounds lo hi none n).2.1=((HT.Dq n n hi:Nat):Int)/\(sliceBounds lo hi none n).2.2=1:=by
 refine⟨?_,?_,rfl⟩
 ·cases lo with
  |none=>simp[sliceBounds,HT.Dq]
  |some i=>
   simp only[sliceBounds,HT.Dq,Option.getD_none,show(1:Int)>0 by decide,if_true]
   by_cases h:i<0
   ·simp only[h,if_true]<;>omega
   ·simp only[h,if_false]<;>omega
 ·cases hi with
  |none=>simp[sliceBounds,HT.Dq]
  |some i=>
   simp only[sliceBounds,HT.Dq,Option.getD_none,show(1:Int)>0 by decide,if_true]
   by_cases h:i<0
   ·simp only[h,if_true]<;>omega
   ·simp only[h,if_false]<;>omega
theorem Ng (its:List Value)(lo hi:Option Int):slicePick its.toArray lo hi none=((its.drop (HT.Dq its.length 0 lo)).take (HT.Dq its.length its.length hi-HT.Dq its.length 0 lo)).toArray:=by
 obtain⟨h1,h2,h3⟩:=Oj lo hi its.toArray.size;unfold slicePick;rw[h1,h2,h3];simp only[sliceRange_one,pick_run,List.size_toArray]<;>rfl
def ZU (K:PySem.W.Frag):V->Option Int->Option Int->Hp->VK->Prop:=λx lo hi H Q=>∃a xs,x=.ref a/\AI K H a xs/\∀p,H p=none->Q (.ref p) (upd H p (.lst (JM xs lo hi)))
theorem Rv:ag X (ZU X.K):=by
 intro pins s σ H x v vl vu lo hi sl Q I rx hs pl pu h;obtain⟨a,xs,rfl,hx,q⟩:=h;cases rx;obtain⟨its,r,ht,hz⟩:=I.list hx;have hlen:=r.length;refine⟨"list",_,slot_list_getitem.lookup,ht.isList.typeIs,?_⟩;refine wpAny_getItem_list_slice ht.isList hs pl pu .none (by simp) ?_ (by rw[bV]<;>omega);rw[Ng,<-hlen];refine⟨.ref s.heap.objs.size,_,I.laid (t':=s.toks) (o:=.lst (JM xs lo hi)) (λb ob q=>aV _ q) (aZ _) ?_,rfl,q _ (I.hok.fresh (aZ _))⟩;exact⟨bQ (Kl xs lo hi) hz,_,0,(r.drop (HT.Dq xs.length 0 lo)).take (HT.Dq xs.length xs.length hi-HT.Dq xs.length 0 lo),bB _ rfl⟩
def U4:V->Bool
 | .non=>true
 | .bl _=>true
 | .int _=>true
 | .str _=>true
 |_=>false
def XB:V->V->Bool
 | .non,.non=>true
 | .bl a,.bl b=>a == b
 | .bl a,.int b=>(if a then 1 else 0) == b
 | .int a,.bl b=>a == (if b then 1 else 0)
 | .int a,.int b=>a == b
 | .str a,.str b=>a == b
 |_,_=>false
theorem Ug {A:Around}{s:Shared}{y x:V}{u v:Value}(ry:RelV y u)(rx:RelV x v)(fy:U4 y=true)(fx:U4 x=true):SeqAt.EqAt A s u v (XB y x):=by
 cases y with
 |non=>
  cases ry;cases x with
  |non=>cases rx;exact SeqAt.EqAt.same _
  |bl b=>cases rx;exact SeqAt.EqAt.none_bool b
  |int b=>obtain⟨t,rfl⟩:=rx;exact SeqAt.EqAt.none_int b t
  |str b=>obtain⟨t,rfl⟩:=rx;exact SeqAt.EqAt.none_str b t
  |_=>exact absurd (show false=true from fx) bC
 |bl a=>
  cases ry;cases x with
  |non=>cases rx;exact SeqAt.EqAt.bool_none a
  |bl b=>cases rx;exact SeqAt.EqAt.bool_bool a b
  |int b=>obtain⟨t,rfl⟩:=rx;exact SeqAt.EqAt.bool_int a b t
  |str b=>obtain⟨t,rfl⟩:=rx;exact SeqAt.EqAt.bool_str a b t
  |_=>exact absurd (show false=true from fx) bC
 |int a=>
  obtain⟨t',rfl⟩:=ry;cases x with
  |non=>cases rx;exact SeqAt.EqAt.int_none a t'
  |bl b=>cases rx;exact SeqAt.EqAt.int_bool a t' b
  |int b=>obtain⟨t,rfl⟩:=rx;exact SeqAt.EqAt.int_int a t' b t
  |str b=>obtain⟨t,rfl⟩:=rx;exact g7 a t' b t
  |_=>exact absurd (show false=true from fx) bC
 |str a=>
  obtain⟨t',rfl⟩:=ry;cases x with
  |non=>cases rx;exact SeqAt.EqAt.str_none a t'
  |bl b=>cases rx;exact SeqAt.EqAt.str_bool a t' b
  |int b=>obtain⟨t,rfl⟩:=rx;exact g6 a t' b t
  |str b=>obtain⟨t,rfl⟩:=rx;exact SeqAt.EqAt.str_str a t' b t
  |_=>exact absurd (show false=true from fx) bC
 |_=>exact absurd (show false=true from fy) bC
theorem AB:CL X (.builtin "len") (λxs H Q=>∃p ys,xs=[.ref p]/\(AI X.K H p ys\/AV X.K H p ys)/\Q (.int ys.length) H):=by
 intro pins s σ H xs us Q I r h;obtain⟨p,ys,rfl,hq,q⟩:=h;obtain⟨u,rfl,rx⟩:=vals1 r;cases rx;have hn:=Lr;rcases hq with hq|hq
 ·obtain⟨its,r',pl,hz⟩:=I.list hq;have hlen:=r'.length;exact Calls.call_len_list pl.isList (by simp only[List.size_toArray]<;>omega) ⟨.int ys.length,H,I.tok _,⟨s.toks+1,by rw[bV,hlen]⟩,q⟩
 ·obtain⟨its,r',pl,hz⟩:=I.tuple hq;have hlen:=r'.length;exact len_tuple pl (by simp only[List.size_toArray]<;>omega) ⟨.int ys.length,H,I.tok _,⟨s.toks+1,by rw[bV,hlen]⟩,q⟩
theorem F6:CL X (.builtin "len") (λxs H Q=>∃z,xs=[.str z]/\z.length<=sizeLine/\Q (.int z.length) H):=by
 intro pins s σ H xs us Q I r h;obtain⟨z,rfl,hz,q⟩:=h;obtain⟨u,rfl,t,rfl⟩:=vals1 r;have hn:=Lr;exact len_str (by omega) ⟨.int z.length,H,I.tok _,⟨_,rfl⟩,q⟩
theorem De:CL X (.type "list") (λxs H Q=>∃p ys,xs=[.ref p]/\(AI X.K H p ys\/AV X.K H p ys)/\∀l,H l=none->Q (.ref l) (upd H l (.lst ys))):=by
 intro pins s σ H xs us Q I r h;obtain⟨p,ys,rfl,hq,q⟩:=h;obtain⟨u,rfl,rx⟩:=vals1 r;cases rx;have fin:∀(its:List Value),AR ys its->ys.length<=sizeLine->∀(h':Heap) (c':Nat),(∀b o',s.heap.get? b=some o'->h'.get? b=some o')->
   h'.get? s.heap.objs.size=some { cls:=.type "list",dict:=none,data:=.seq its.toArray c',slots:=#[] }->EP X pins σ Q (.ref s.heap.objs.size) { s with heap:=h' }:=λits r' hz h' c' kp e=>
  ⟨.ref s.heap.objs.size,_,I.laid (t':=s.toks) kp (aZ _) (show Bs X.prog X.w _ h' _ (.lst ys) from⟨hz,its,c',r',e⟩),rfl,q _ (I.hok.fresh (aZ _))⟩
 rcases hq with hq|hq
 ·obtain⟨its,r',pl,hz⟩:=I.list hq;have hlen:=r'.length;obtain⟨o,ho,hc,n,hd⟩:=pl.isList;exact call_list_seq p (.inl rfl) ho hc hd (λh' c' kp e=>fin its r' hz h' c' kp e) (by simp only[List.size_toArray]<;>omega)
 ·obtain⟨its,r',pl,hz⟩:=I.tuple hq;have hlen:=r'.length;obtain⟨o,ho,hc,n,hd⟩:=pl;exact call_list_seq p (.inr rfl) ho hc hd (λh' c' kp e=>fin its r' hz h' c' kp e) (by simp only[List.size_toArray]<;>omega)
theorem E5:CL X (.type "tuple") (λxs H Q=>∃p ys,xs=[.ref p]/\((AI X.K H p ys/\∀l,H l=none->Q (.ref l) (upd H l (.tup ys)))\/(AV X.K H p ys/\Q (.ref p) H))):=by
 intro pins s σ H xs us Q I r h;obtain⟨p,ys,rfl,h⟩:=h;obtain⟨u,rfl,rx⟩:=vals1 r;cases rx;rcases h with⟨hq,q⟩|⟨hq,q⟩
 ·obtain⟨its,r',pl,hz⟩:=I.list hq;have hlen:=r'.length;refine call_tuple_list pl.isList (λh' kp=>?_) (by simp only[List.size_toArray]<;>omega);have I1:Inv X pins σ H { s with heap:=h' }:=I.kept (t':=s.toks) kp;have I2:Inv X pins σ (upd H h'.objs.size (.tup ys)) { s with heap:=h'.push { cls:=.type "tuple",data:=.seq its.toArray } }:=
   I1.laid (t':=s.toks) (λb o e=>aV _ e) (aZ _) (show Bs X.prog X.w _ _ _ (.tup ys) from⟨hz,its,r',KU.new _ _⟩)
  exact⟨.ref h'.objs.size,_,I2,rfl,q _ (I1.hok.fresh (aZ _))⟩
 ·obtain⟨its,r',pl,hz⟩:=I.tuple hq;exact call_tuple_same pl ⟨.ref p,H,I,rfl,q⟩
def aj (K:PySem.W.Frag)(T:String)(x:V)(H:Hp):Prop:=match x with
 | .str _=>T="str"
 | .int _=>T="int"
 | .ref p=>(T="list"/\∃xs,AI K H p xs)\/(T="tuple"/\∃o,K.lookup p=some o/\o.cls=.type "tuple"/\o.dict=none)\/
   (T="dict"/\((∃kvs,H p=some (.dK kvs))\/∃kvs,H p=some (.dT kvs)))\/(T="set"/\∃S n,H p=some (.set S n))
 |_=>False
theorem VI {pins:List (Addr×Obj)}{σ:St}{H:Hp}{s:Shared}{T:String}{x:V}{v:Value}(I:Inv X pins σ H s)(r:RelV x v)(ty:aj X.K T x H) :
  s.TypeIs v T/\∀a,v=.ref a->∃ob,s.heap.get? a=some ob/\ob.dict=none:=by
 cases x with
 |str z=>
  obtain⟨t,rfl⟩:=r;cases(show T="str" from ty);exact⟨typeIs_str s z t,λ_ e=>nomatch e⟩
 |int i=>
  obtain⟨t,rfl⟩:=r;cases(show T="int" from ty);exact⟨typeIs_int s i t,λ_ e=>nomatch e⟩
 |ref p=>
  cases r;rcases ty with⟨rfl,xs,hq⟩|⟨rfl,o,hk,hc,hd⟩|⟨rfl,hk⟩|⟨rfl,S,n,hk⟩
  ·obtain⟨its,_,pl,_⟩:=I.list hq;refine⟨pl.isList.typeIs,λa e=>?_⟩;cases e;obtain⟨o,n,e,c,hd,_⟩:=pl;exact⟨o,e,hd⟩
  ·refine⟨⟨o,I.kIn p o hk,hc⟩,λa e=>?_⟩;cases e;exact⟨o,I.kIn _ o hk,hd⟩
  ·have z:∃o,s.heap.get? p=some o/\o.ExactDict:=by
    rcases hk with⟨kvs,hk⟩|⟨kvs,hk⟩
    ·obtain⟨_,_,_,_,o,_,_,e,ex,_⟩:=I.hok p _ hk;exact⟨o,e,ex⟩
    ·obtain⟨_,_,_,_,o,_,_,e,ex,_⟩:=I.hok p _ hk;exact⟨o,e,ex⟩
   obtain⟨o,e,ex⟩:=z;refine⟨⟨o,e,ex.1⟩,λa e2=>?_⟩;cases e2;exact⟨o,e,ex.2.1⟩
  ·obtain⟨o,_,_,_,e,ex,_⟩:=I.hok p _ hk;refine⟨⟨o,e,ex.1⟩,λa e2=>?_⟩;cases e2;exact⟨o,e,ex.2.1⟩
 |_=>exact False.elim ty
def ay (K:PySem.W.Frag)(T:String)(r:V->List V->Hp->VK->Prop)(to:TE):TE:=λσ H Q=>to σ H λx H1=>aj K T x H1/\r x [] H1 Q
def aO (K:PySem.W.Frag)(T:String)(r:V->List V->Hp->VK->Prop)(to:TE)(t:TA):TE:=λσ H Q=>to σ H λx H1=>aj K T x H1/\t σ H1 λxs H2=>r x xs H2 Q
variable {o e:Expr}{es:List Expr}{to:TE}{t:TA}{name:Str}{apos cpos:Pos}{T id:String}{r:V->List V->Hp->VK->Prop}
theorem Ud (pa:PlainAttrs T) (slot:Slot T name id) (hty:typeOf (.builtin id)=pure (.type "method_descriptor")) (hm:ZH X id r) (ho:PE X o to)
  (hbase:attributeBase o name X.env (eval o X.env)=eval o X.env:=by rfl) (hline:(apos.endLine == cpos.line)=true:=by rfl):PE X (.Call (.Attribute o name apos) [] [] cpos) (ay X.K T r to):=by
 intro pins s σ H Q I h;refine wpAny_Call_method0_late hbase hline (Bn (ho pins s σ H _ I h) λv s1 z9=>?_);obtain⟨x,H1,I1,r1,ty,q1⟩:=z9;obtain⟨h1,h2⟩:=VI I1 r1 ty;exact⟨T,id,pa,slot,hty,h1,h2,cC rfl (jb (hm pins s1 σ H1 x [] v [] Q I1 r1 .nil q1))⟩
theorem Gd (pa:PlainAttrs T) (slot:Slot T name id) (hty:typeOf (.builtin id)=pure (.type "method_descriptor")) (hm:ZH X id r) (ho:PE X o to) (ha:PA X (e::es) t)
  (hbase:attributeBase o name X.env (eval o X.env)=eval o X.env:=by rfl)
  (hfew:((backTo cpos (starEach (e::es) X.env)).all (λx=>!x.1)&&(backToKw cpos (keywordEach [] X.env)).all (λx=>x.1.isSome)
   && decide ((e::es).length+([]:List Keyword).length+(if([]:List Keyword).isEmpty then 0 else 1)<30))=true:=by rfl)
  (hline:(apos.endLine == cpos.line)=true:=by rfl) (hs:starEach (e::es) X.env=(false,eval e X.env)::starEach es X.env:=by rfl) (hplain:(backTo cpos (starEach es X.env)).any (·.1)=false:=by rfl) :
  PE X (.Call (.Attribute o name apos) (e::es) [] cpos) (aO X.K T r to t):=by
 intro pins s σ H Q I h;refine wpAny_Call_method_late hbase hfew hline rfl (Bn (ho pins s σ H _ I h) λv s1 z9=>?_);obtain⟨x,H1,I1,r1,ty,q1⟩:=z9;obtain⟨h1,h2⟩:=VI I1 r1 ty;refine⟨T,id,pa,slot,hty,h1,h2,?_⟩;have hA:=ha cpos pins s1 σ H1 _ I1 q1;rw[hs] at hA ⊢;refine cC (by show(false||(backTo cpos (starEach es X.env)).any (·.1))=false;rw[hplain]<;>rfl) (dr ?_);exact Bn hA λus s2 ⟨vs,H2,I2,r2,q2⟩=>hm pins s2 σ H2 x vs v us Q I2 r1 r2 q2
end
def aD (X:Cx)(id:String)(r:V->List V->Hp->VK->Prop):Prop:=
 ∀(pins:List (Addr×Obj)) (s:Shared) (σ:St) (H:Hp) (x:V) (xs:List V) (v:Value) (us:List Value) (Q:VK),Inv X pins σ H s->RelV x v->AR xs us->r x xs H Q->
  wpAny (model X.prog X.w) X.A (call (.builtin id) (v::us)) (EP X pins σ Q) X.xe s
theorem AR.one:∀{x:V} {us:List Value},AR [x] us->∃u,us=[u]/\RelV x u
 |_,_,.cons r .nil=>⟨_,rfl,r⟩
theorem AR.zero:∀{us:List Value},AR [] us->us=[]
 |_,.nil=>rfl
theorem AR.dropLast {xs:List V}{us:List Value}(h:AR xs us):AR xs.dropLast us.dropLast:=by
 induction h with
 |nil=>exact .nil
 |cons r t ih=>
  cases t with
  |nil=>exact .nil
  |cons q t'=>exact .cons r ih
theorem QW {α:Type}(l:List α):l.eraseIdx (l.length-1)=l.dropLast:=by
 induction l with
 |nil=>rfl
 |cons a r ih=>
  cases r with
  |nil=>rfl
  |cons b r=>
   have e:(a::b::r).length-1=((b::r).length-1)+1:=by
    have h1:(a::b::r).length=r.length+2:=rfl;have h2:(b::r).length=r.length+1:=rfl;omega
   rw[e,iC,ih]
   all_goals rfl
section
variable {X:Cx}{pins:List (Addr×Obj)}{σ:St}{H:Hp}{s:Shared}{l b:Addr}{xs ys zs:List V}
theorem Inv.lset {its its':List Value} {n:Nat} {f:Array Value->Array Value} {t':Nat} (I:Inv X pins σ H s) (hH:H l=some (.lst xs))
  (e:s.heap.get? l=some { cls:=.type "list",data:=.seq its.toArray n }) (hf:f its.toArray=its'.toArray) (hv:AR ys its') (hz:ys.length<=sizeLine) :
  Inv X pins σ (upd H l (.lst ys)) { s with heap:=s.heap.update l (Obj.mapSeq f),toks:=t' }:=by
 have q:=PySem.IsL.update e f;rw[hf] at q;refine I.write (x:=l) (e:=l) (by rw[hH];exact trivial) (.inl rfl) (λb' u hb hu=>(cB s.heap (Obj.mapSeq f) (Ne.symm hb)).trans hu) ⟨_,q⟩ ?_;exact⟨hz,its',_,hv,q⟩
theorem Inv.lnew {its:List Value}{t':Nat}(I:Inv X pins σ H s)(hv:AR ys its)(hz:ys.length<=sizeLine) :
  Inv X pins σ (upd H s.heap.objs.size (.lst ys)) { s with heap:=s.heap.push { cls:=.type "list",data:=.seq its.toArray },toks:=t' }:=
 I.laid (λ_ _ q=>aV _ q) (aZ _) ⟨hz,its,0,hv,bB _ rfl⟩
theorem Inv.fresh (I:Inv X pins σ H s):H s.heap.objs.size=none:=I.hok.fresh (aZ _)
theorem Inv.lstM (I:Inv X pins σ H s)(hH:H l=some (.lst xs)):xs.length<=sizeLine/\∃(its:List Value) (n:Nat),AR xs its/\xs.length=its.length/\s.heap.get? l=some { cls:=.type "list",data:=.seq its.toArray n }:=by
 obtain⟨z,its,n,r,e⟩:=I.hok l _ hH;exact⟨z,its,n,r,r.length,e⟩
theorem U6 {n:Nat}(h:n<=sizeLine):Builtin.List.listTooLong n=false:=by
 unfold Builtin.List.listTooLong;exact bD (by omega)
end
section
variable {X:Cx}
def WX:V->List V->Hp->VK->Prop:=λx vs H Q=>∃l xs y,x=.ref l/\vs=[y]/\H l=some (.lst xs)/\xs.length<sizeLine/\Q .non (upd H l (.lst (xs++[y])))
theorem DX:aD X "list.append" WX:=by
 intro pins s σ H x vs v us Q I rx rv h;obtain⟨l,xs,y,rfl,rfl,hH,hz,q⟩:=h;cases rx;obtain⟨u,rfl,ru⟩:=rv.one;obtain⟨z,its,n,r,hl,e⟩:=I.lstM hH;refine gZ F.slot_list_append ⟨_,e,rfl⟩ F.entry_list_append (F.args_list_append_2 _ _) (PySem.list_append l its.toArray n u (by rw[bV];omega)) ⟨e,?_⟩;refine⟨.non,_,I.lset (its':=its++[u]) hH e (by simp) (r.append (.cons ru .nil)) ?_,rfl,q⟩;rw[bx,df];omega
def Xj:V->List V->Hp->VK->Prop:=λx vs H Q=>∃l b xs zs,x=.ref l/\vs=[.ref b]/\H l=some (.lst xs)/\H b=some (.lst zs)/\xs.length+zs.length<=sizeLine/\Q .non (upd H l (.lst (xs++zs)))
theorem Hn:aD X "list.extend" Xj:=by
 intro pins s σ H x vs v us Q I rx rv h;obtain⟨l,b,xs,zs,rfl,rfl,hH,hB,hz,q⟩:=h;cases rx;obtain⟨u,rfl,ru⟩:=rv.one;cases ru;obtain⟨z,its,n,r,hl,e⟩:=I.lstM hH;obtain⟨z2,its2,n2,r2,hl2,e2⟩:=I.lstM hB;have hsz:its.toArray.size+its2.toArray.size<=sizeLine:=by rw[bV,bV];omega
 have hlong:¬(!its.toArray.isEmpty&&Builtin.List.listTooLong (its.toArray.size+its2.toArray.size))=true:=by
  rw[U6 hsz,Bool.and_false];exact bC
 refine gZ F.slot_list_extend ⟨_,e,rfl⟩ F.entry_list_extend (F.args_list_extend_2 _ _)
  (AutoSeq1.list_extend_list_list_0 l its.toArray n b its2.toArray n2 hlong (by rw[bV];omega) (by omega)) ⟨e,e2,?_⟩
 refine⟨.non,_,I.lset (its':=its++its2) hH e (by simp) (r.append r2) ?_,rfl,q⟩;rw[bx];omega
def Z8:V->List V->Hp->VK->Prop:=λx vs H Q=>∃l xs y,x=.ref l/\vs=[]/\H l=some (.lst xs)/\xs[xs.length-1]?=some y/\Q y (upd H l (.lst xs.dropLast))
theorem VC:aD X "list.pop" Z8:=by
 intro pins s σ H x vs v us Q I rx rv h;obtain⟨l,xs,y,rfl,rfl,hH,hy,q⟩:=h;cases rx;have hus:=rv.zero;subst hus;obtain⟨z,its,n,r,hl,e⟩:=I.lstM hH;obtain⟨u,hu,ru⟩:=r.get hy;have hy':its.toArray[its.toArray.size-1]?=some u:=by
  show its.toArray[its.length-1]?=some u;rw[<-dZ,<-hl];exact hu
 refine gZ F.slot_list_pop ⟨_,e,rfl⟩ F.entry_list_pop (F.args_list_pop_1 _) (MeetsSeq.list_pop_last l its.toArray n u hy' (by rw[bV];omega)) ⟨e,?_⟩;refine⟨y,_,I.lset (its':=its.dropLast) hH e ?_ r.dropLast ?_,ru,q⟩
 ·show its.toArray.eraseIdxIfInBounds (its.toArray.size-1)=its.dropLast.toArray;rw[bV,List.eraseIdxIfInBounds_toArray,QW]
 ·rw[gg];omega
end
end L2
namespace Att
open PySem PySem.W PySem.Calls PyProof.Rows
theorem KN {P:Params}{h:Heap}:∀(ns:List Int) (vs:List Value),WellAll P h vs (ns.map WData.int)->IntsAre vs ns:=by
 intro ns
 induction ns with
 |nil=>
  intro vs w;rw[eE] at w;cases w;exact .nil
 |cons n ns ih=>
  intro vs w;rw[bg] at w;cases w with
  |cons a b=>
   cases a;exact .cons _ _ (ih _ b)
theorem SO {l:OpenLaw} {n:Nat} (hn:l.most=some n) {P:Params} {h:Heap} {args:List WData} {vals:List Value}
  (hpre:l.row.toRowW.claim.pre args=true) (hwl:WellAll P h vals args) :
  ∃a vs ns,vals=[Value.ref a]/\args=[WData.list (ns.map WData.int)]/\h.get? a=some { cls:=.type "list",data:=.seq vs.toArray }/\IntsAre vs ns/\ns.length<=n:=by
 have hsh:WShape.hasAll [] args [.list .int]=true:=(pre_splitW hpre).1;have hc:l.pre.holds [] { args:=args }=true:=(pre_splitW hpre).2;obtain⟨d,r,rfl,h1,h2⟩:=hasAllW_cons hsh;obtain rfl:=hasAllW_nil h2;obtain⟨xs,rfl,h3⟩:=hasW_list h1;obtain⟨ns,rfl⟩:=items_int h3;have hlen:ns.length<=n:=by
  unfold OpenLaw.pre at hc;have h4:(WTm.not (.lt (.lit (.int (n:Int))) (.len (.arg 0)))).holds [] { args:=[.list (ns.map .int)] }=true:=by
   have h4:=(holds_andW hc).1;rw[hn] at h4;exact h4
  have h5:=condW_of h4 (w_not (w_lt w_lit (w_len_list (w_arg rfl))));rw[aS] at h5;refine Nat.le_of_not_lt λq=>?_
  have q':(n:Int)<((ns.length:Nat):Int):=by omega
  first
   |(rw[bh q'] at h5;exact absurd h5 (by decide))
   |(simp at h5;omega)
 cases hwl with
 |cons w1 w2=>
  cases w2;cases w1 with
  |list ho hall=>exact⟨_,_,ns,rfl,rfl,ho,KN ns _ hall,hlen⟩
theorem Ts (l:OpenLaw)(args:List WData):l.row.toRowW.claim.post args (.bool true) args=true:=
 postW_of (r:=l.row.toRowW) (X:=(true == true))
  (show WShape.has [] (.bool true) .bool=true by first|rfl|decide|simp[WShape.has,WShape.arms,WShape.armsAll])
  (show(WTm.eq .res (.lit (.bool true))).value [] { args:=args,res:=some (.bool true),after:=args }=some (.bool (true == true)) from w_eq_bool (w_res rfl) w_lit) rfl
theorem O3 {l:OpenLaw} {n:Nat} {q:Program} {loose:List Str} {XP:(Str->Option Value)->Heap->Prop} {YP:World->Heap->Prop} {d:DefRec}
  (hn:l.most=some n) (hdf:d.params.defaults=[])
  (call:∀(w:World) (s₀ s₁:Shared) (mg mb:Str->Option Value) (fa:Addr) (o:Obj) (pm cd doc:Value) (a:Addr) (vs:List Value) (ns:List Int),
   Ground q loose [] XP w s₀ mg mb s₁.heap->YP w s₁.heap->
   s₁.heap.get? fa=some o->o.data=.func (docDef d.name d.params d.body d.scope pm cd doc)->s₁.heap.CodeRec cd d.name->mg d.name=some (.ref fa)->
   s₁.heap.get? a=some { cls:=.type "list",data:=.seq vs.toArray }->IntsAre vs ns->ns.length<=n->s₁.gens = #[]->
   codeAny (model l.prog w) callerA (.call (.ref fa) ⟨[.ref a],[]⟩) (λr s'=>r=.ok (.ret (.bool true))/\OldK s₁.heap s'.heap/\s'.os=s₁.os/\AllBare s'.gens) s₁) :
  WalkO q loose XP YP l.row.toRowW d [] (λf vs=>PySem.call f vs):=by
 intro w s₀ s₁ mg mb G Y fa o pm cd doc dV kV ho hd hcd hD hmg hg args vals as hpre hlay hrd hwl hlo;obtain rfl:dV=.none:=Dflts.none hD hdf;obtain rfl:kV=.none:=Dflts.noKw hD;obtain⟨a,vs,ns,rfl,rfl,hobj,hints,hlen⟩:=SO hn hpre hwl;refine enter_call (dC (call w s₀ s₁ mg mb fa o pm cd doc a vs ns G Y ho (fd_plain hd) hcd hmg hobj hints hlen hg) λr s' hq=>?_);obtain⟨rfl,h2,h3,h4⟩:=hq;exact⟨.inl ⟨.bool true,.bool true,[],rfl,λ_=>rfl,.bool true,Ts l _,λ_=>⟨List.Pairwise.nil,λ_ hm=>(nomatch hm)⟩⟩,h2,h3,h4⟩
end Att
namespace L2
open PySem PySem.Spec PyProof.Rows
theorem NV:∀{vs:List Value} {ns:List Int},IntsAre vs ns->AR (ns.map V.int) vs
 |_,_,.nil=>.nil
 |_,_,.cons n t h=>.cons ⟨t,rfl⟩ (NV h)
def YT (H:Hp):Prop:=∀b,H b=none\/∃o xs,H b=some (.frz o (.lst xs))
theorem Up {P:Program} {w:World} {K:PySem.W.Frag} {mg mb:Str->Option Value} {CX:SM} {k:Nat} {fa a:Addr} {fd:FuncData} {x:Str} {sp:Sp} {s₁:Shared} {vs:List Value} {ns:List Int}
  (KX:K.In s₁.heap) (hns:s₁.heap.Ns mainGlobals mg) (hb:s₁.heap.Ns builtinsNs mb) (hbb:∀x:Str,x≠"__name__"->mb x=bootBuiltins x) (hlim:s₁.heap.NoLimit) (hg:s₁.gens = #[])
  (ha:s₁.heap.get? a=some { cls:=.type "list",data:=.seq vs.toArray }) (hi:IntsAre vs ns) (hl:ns.length<=sizeLine) (hr:Room k callerA)
  (F:∀base:Heap,K.In base->base.Ns mainGlobals mg->FnOk P w K mg base CX k fa fd [x] sp) (hbind:∀(s:Shared) (u:Value),BindsTo s fd ⟨[u],[]⟩ [(x,u)])
  (hsp:∀H:Hp,YT H->AI K H a (ns.map V.int)->sp [.ref a] H (λv _=>v=.bl true) λ_ _ _=>False)
  (hCX:∀H e s',CX [] H s₁ (λ_ _ _=>False) e s'->False) :
  codeAny (model P w) callerA (.call (.ref fa) ⟨[.ref a],[]⟩) (λr s'=>r=.ok (.ret (.bool true))/\OldK s₁.heap s'.heap/\s'.os=s₁.os/\AllBare s'.gens) s₁:=by
 have rv:=NV hi;have lenV:=hi.length;have core:∀H:Hp,YT H->AI K H a (ns.map V.int)->Hv P w H s₁.heap->(∀b,H b≠none->b=a)->(H a≠none->K.lookup a=none)->
   codeAny (model P w) callerA (.call (.ref fa) ⟨[.ref a],[]⟩) (λr s'=>r=.ok (.ret (.bool true))/\OldK s₁.heap s'.heap/\s'.os=s₁.os/\AllBare s'.gens) s₁:=by
  intro H hO hS hok hA hK;have base_of:∀{b:Addr} {o:Obj},s₁.heap.get? b=some o->H b=none->(Oe s₁.heap H).get? b=some o:=λe n=>Vv e n
  have noA:∀{b:Addr} {o:Obj} {es:Array DictEntry} {ep:Nat},s₁.heap.get? b=some o->o.data=.dict es ep->H b=none:=λ{b o es ep} e d=>by
   cases q:H b with
   |none=>rfl
   |some u=>
    have e':b=a:=hA b (by rw[q];simp);subst e';rw[ha] at e;cases e;have d':Data.seq vs.toArray _=Data.dict es ep:=d;cases d'
  have nsK:∀{b:Addr} {m:Str->Option Value},s₁.heap.Ns b m->(Oe s₁.heap H).Ns b m:=λ{b m} ⟨o,es,ep,e,d,r⟩=>⟨o,es,ep,base_of e (noA e d),d,r⟩
  have hKb:K.In (Oe s₁.heap H):=λb o e=>base_of (KX b o e) (by
   cases q:H b with
   |none=>rfl
   |some u=>
    have e':b=a:=hA b (by rw[q];simp);subst e';rw[hK (by rw[q];simp)] at e;cases e)
  have hM:Mod K mg (Oe s₁.heap H):=⟨hKb,nsK hns,⟨mb,nsK hb,hbb⟩,let⟨mc,h1,h2⟩:=hlim;⟨mc,nsK h1,h2⟩⟩
  have e0:Env0 P w K mg (Oe s₁.heap H) callerA [] s₁ H:=⟨rfl,hM,λb o e=>WE e,eW (Tc _ _),trivial,λb hb=>absurd (show b∈([]:List Addr) from hb) (by simp),hok,.of_eq hg⟩
  refine dC ((F _ hKb (nsK hns)).run callerA [] s₁ H ⟨[.ref a],[]⟩ [.ref a] [.ref a] _ _ hr e0 (hbind s₁ (.ref a)) (.cons rfl .nil) (hsp H hO hS)) λr s' h=>?_
  cases r with
  |error e=>exact(hCX H e s' h).elim
  |ok fl=>
   cases fl with
   |next=>exact False.elim h
   |brk=>exact False.elim h
   |cont=>exact False.elim h
   |ret u=>
    obtain⟨v,H',os,bare,un,hok',r',q⟩:=h;have q':v=.bl true:=q;subst q';obtain rfl:u=Value.bool true:=r';refine⟨rfl,OldK.of_keep λb o e=>?_,os,bare⟩;cases q:H b with
    |none=>exact un.keep b o e q (by intro z;exact absurd (show b∈([]:List Addr) from z) (by simp)) (by simp)
    |some u=>
     rcases hO b with z|⟨ob,xs,z⟩
     ·rw[q] at z;cases z
     ·have z2:=un.frzs b ob _ z;obtain⟨e1,_⟩:=hok b _ z;obtain⟨e2,_⟩:=hok' b _ z2;rw[e] at e1;cases e1;exact e2
 cases hk:K.lookup a with
 |some o=>
  have e:=KX a o hk;rw[ha] at e;cases e;refine core (λ_=>none) (λ_=>.inl rfl) (.inr ⟨_,vs.toArray,_,hk,rfl,rfl,rfl,by rw[bV,lenV];exact hl,by simpa using rv⟩) (λb u z=>by have z':(none:Option HO)=some u:=z;cases z') (λb z=>absurd rfl z) λz=>absurd rfl z
 |none=>
  refine core (λb=>if b=a then some (.frz { cls:=.type "list",data:=.seq vs.toArray } (.lst (ns.map V.int))) else none) (λb=>?_) (.inl (.inr ⟨{ cls:=.type "list",data:=.seq vs.toArray },bF rfl⟩)) (λb u z=>?_) (λb z=>?_) λ_=>hk
  ·by_cases hb:b=a
   ·exact .inr ⟨_,_,bF hb⟩
   ·exact .inl (bH hb)
  ·by_cases hb:b=a
   ·have z':=(bF hb).symm.trans z;cases z';subst hb;exact⟨ha,by rw[aS];exact hl,vs,_,rv,ha⟩
   ·have z':=(bH hb).symm.trans z;cases z'
  ·by_cases hb:b=a
   ·exact hb
   ·exact absurd (bH hb) z
theorem WW {l:PySem.W.OpenLaw} {n k:Nat} {q:Program} {loose:List Str} {XP:(Str->Option Value)->Heap->Prop} {YP:World->Heap->Prop} {d:DefRec} {K:Params->PySem.W.Frag} {CX:World->SM} {sp:World->Sp} {x:Str}
  (hn:l.most=some n) (hn2:n<=sizeLine) (hdf:d.params.defaults=[]) (hr:Room k callerA)
  (hY:∀(w:World) (h:Heap),YP w h->(K w.params).In h)
  (F:∀(w:World) (mg:Str->Option Value) (fa:Addr) (h:Heap),(K w.params).In h->h.Ns mainGlobals mg->mg d.name=some (.ref fa)->
   ∃fd:FuncData,(∀(s:Shared) (u:Value),BindsTo s fd ⟨[u],[]⟩ [(x,u)])/\
    ∀base:Heap,(K w.params).In base->base.Ns mainGlobals mg->FnOk l.prog w (K w.params) mg base (CX w) k fa fd [x] (sp w))
  (hsp:∀(w:World) (H:Hp) (a:Addr) (ns:List Int),ns.length<=n->YT H->AI (K w.params) H a (ns.map V.int)->sp w [.ref a] H (λv _=>v=.bl true) λ_ _ _=>False)
  (hCX:∀(w:World) (H:Hp) (s:Shared) (e:Value) (s':Shared),CX w [] H s (λ_ _ _=>False) e s'->False) :
  PySem.W.WalkO q loose XP YP l.row.toRowW d [] (λf vs=>PySem.call f vs):=by
 refine Att.O3 hn hdf λw s₀ s₁ mg mb fa o pm cd doc a vs ns G Y ho hd hcd hmg hobj hints hlen hg=>?_
 have KX:=hY w _ Y;obtain⟨fd,hb,hF⟩:=F w mg fa _ KX G.T.g hmg;exact Up KX G.T.g G.T.b G.T.builtins G.T.nolimit hg hobj hints (bQ hlen hn2) hr hF hb (λH hO hS=>hsp w H a ns hlen hO hS) λH e s'=>hCX w H s₁ e s'
def inClass (s:Stmt)(j:Nat):Stmt:=match s with
 | .ClassDef _ _ _ body _ _ _ _ _ _ _=>body.getD j (.Pass ⟨0,0,0,0⟩)
 |_=>.Pass ⟨0,0,0,0⟩
def II (s:Stmt):Arguments:=match s with
 | .FunctionDef _ a _ _ _ _ _ _ _ _=>a
 |_=>{ posonlyargs:=[],args:=[],vararg:=none,kwonlyargs:=[],kw_defaults:=[],kwarg:=none,defaults:=[] }
def FX (s:Stmt):List Stmt:=match s with
 | .FunctionDef _ _ b _ _ _ _ _ _ _=>b
 |_=>[]
def Am (s:Stmt):Scope:=match s with
 | .FunctionDef _ _ _ _ _ _ sc _ _ _=>sc
 |_=>{ kind:=.function,names:=[],isGenerator:=false,isCoroutine:=false }
abbrev BO:SM:=λ_ _ _ _ _ _=>False
abbrev E0:XK:=λ_ _ _=>False
theorem Pf {X:Cx}:Eo BO X E0:=λ_ _ _ _ _ _ _ h=>h.elim
structure Fun (K:PySem.W.Frag) (x qual:Str) (st:Stmt) (f:Addr) (fd:FuncData):Prop where
 ex:∃(oc:Value) (od:Option Addr) (kV doc pm:Value) (an:Option Addr) (cdv ct:Value) (osl:Array (Option Value)),
  fd=PySem.W.fnOf x qual (II st) (FX st) (Am st) .none kV doc pm an cdv ct/\K.lookup f=some ⟨oc,od,.func fd,osl⟩/\PySem.W.codeIn K cdv qual=true
 kp:PySem.W.keepIn K (.ref f)=true
section
variable {P:Program}{w:World}{K:PySem.W.Frag}{mg:Str->Option Value}{base:Heap}
theorem Fun.ok {x qual:Str} {st:Stmt} {f:Addr} {fd:FuncData} {N ps:List Str} {k:Nat} {sp:Sp} (F:Fun K x qual st f fd) (S:FnScope N ps (Am st)) (len:∀vs H Q E,sp vs H Q E->vs.length=ps.length)
  (hbody:∀(cdv:Value) (A:Around) (outer:List Env) (s:Shared) (H:Hp) (vs:List V) (Q:VK) (E:XK),Room k (A.deeper (envOfC qual (Am st) s.heap.objs.size f cdv))->sp vs H Q E->
   ∃t,Qi (BB BO P w K mg base N qual (Am st) f cdv A outer s H E).nox (FX st) t/\t { nx:=λ_ H'=>Q .non H',rt:=Q } (start N vs) H):FnOk P w K mg base BO (k+1) f fd ps sp:=by
 obtain⟨oc,od,kV,doc,pm,an,cdv,ct,osl,rfl,lk,hcd⟩:=F.ex;refine XR lk hcd S len λA outer s H vs Q E hr hsp=>?_
 obtain⟨t,h,q⟩:=hbody cdv A outer s H vs Q E hr hsp;exact⟨t,h.nox,q⟩
theorem Fun.binds {x qual:Str} {st:Stmt} {f:Addr} {fd:FuncData} {ps:List Str} (F:Fun K x qual st f fd)
  (h:∀(kV doc pm:Value) (an:Option Addr) (cdv ct:Value) (us:List Value),us.length=ps.length->bindArgs (PySem.W.fnOf x qual (II st) (FX st) (Am st) .none kV doc pm an cdv ct) ⟨us,[]⟩=pure (ps.zip us)):Binds K fd ps []:=by
 obtain⟨oc,od,kV,doc,pm,an,cdv,ct,osl,rfl,lk,hcd⟩:=F.ex;exact .all (h kV doc pm an cdv ct)
theorem Vx {x qual:Str} {st:Stmt} {f:Addr} {oc:Value} {od an:Option Addr} {osl:Array (Option Value)} {kV doc pm cdv ct:Value} (l:K.lookup f=some ⟨oc,od,.func (PySem.W.fnOf x qual (II st) (FX st) (Am st) .none kV doc pm an cdv ct),osl⟩)
  (c:PySem.W.codeIn K cdv qual=true) (k:PySem.W.keepIn K (.ref f)=true):Fun K x qual st f (PySem.W.fnOf x qual (II st) (FX st) (Am st) .none kV doc pm an cdv ct):=⟨⟨oc,od,kV,doc,pm,an,cdv,ct,osl,rfl,l,c⟩,k⟩
end
theorem BF {A:Around}{k:Nat}(hr:Room k A):A.units+1<cLine:=Nat.lt_of_le_of_lt (jc (by decide:1<=64) _) hr.units
theorem Sm {n:Nat}(h:n<=1000):n<sizeLine:=Nat.lt_of_le_of_lt h (by decide)
section
variable {X:Cx}
theorem pv (i:Nat) {x:Str} {pos:Pos} (hN:X.N[i]?=some x:=by rfl) (hv:ZW X.env.scope x:=by first|exact Or.inl rfl|exact Or.inr (Or.inl rfl)|exact Or.inr (Or.inr rfl)) (hd:(x == ("__debug__":Str))=false:=by decide)
  (hcd:(x == ("__classdict__":Str))=false:=by decide):PE X (.Name x pos) (Tq i):=YK hN hv hd hcd
end
theorem ZZ {A B:Prop}(h:A):if true=true then A else B:=by
 rw[bF rfl];exact h
theorem Co {c A B:Prop}[Decidable c](h1:c->A)(h2:¬c->B):if c then A else B:=by
 by_cases h:c
 ·rw[bF h];exact h1 h
 ·rw[bH h];exact h2 h
def Ap (H H':Hp):Prop:=∀b o,H b=some o->H' b=some o
theorem Ap.refl (H:Hp):Ap H H:=λ_ _ h=>h
theorem Ap.trans {H H1 H2:Hp}(a:Ap H H1)(b:Ap H1 H2):Ap H H2:=λc o h=>b c o (a c o h)
theorem Ap.free {H H':Hp}(e:Ap H H'){l:Addr}(h:H' l=Option.none):H l=Option.none:=by
 cases q:H l with
 |none=>rfl
 |some o=>
  rw[e l o q] at h;cases h
theorem Ap.seq {K:PySem.W.Frag}{H H':Hp}{a:Addr}{xs:List V}(e:Ap H H')(h:AI K H a xs):AI K H' a xs:=by
 rcases h with(h|⟨o,h⟩)|h
 ·exact .inl (.inl (e _ _ h))
 ·exact .inl (.inr ⟨o,e _ _ h⟩)
 ·exact .inr h
end L2
set_option maxHeartbeats 1000000
namespace L2
open PySem PySem.Spec PyProof.Rows
section
variable {prog:Program}{w:World}{A:Around}{env:Env}{elt target iter:Expr}{ifs:List Expr}{scope:Scope}{pos:Pos}{it acc:Value}
abbrev Wd (env:Env)(ifs:List Expr):Sem Bool:=forIn ifs true λc r=>(if r=true then(do let ok <-isTrue c env (eval c env);pure (ForInStep.yield ok)) else pure (ForInStep.yield r))
abbrev RD (prog:Program)(w:World)(A:Around)(env:Env)(elt target:Expr)(ifs:List Expr)(it acc:Value)(Ee:Value->Shared->Prop)(over on:Shared->Prop):Shared->Prop:=
 wpAny (model prog w) A (pyNext it) (fun|none,s1=>over s1|some v,s1=>wpAny (model prog w) A (letOwnedTupleGo target it v) (λ_ s2=>wpAny (model prog w) A (assign target env v) (λ_ s3=>wpAny (model prog w) A (Wd env ifs) (λok s4=>
  if ok=true then wpAny (model prog w) A (eval elt env) (λx s5=>wpAny (model prog w) A (call (.builtin "list.append") [acc,x]) (λ_=>on) (λ_ _=>False) s5) Ee s4 else on s4) Ee s3) Ee s2) (λ_ _=>False) s1) (λ_ _=>False)
theorem Pa {R:Result->Shared->Prop} {Ee:Value->Shared->Prop} (I:Nat->Shared->Prop) (hE:∀x s,Ee x s->notedBy (model prog w) A env (λx s=>R (.error x) s) x s)
  (turn:∀n s,I n s->RD prog w A env elt target ifs it acc Ee (R (.ok .next)) (λs'=>∃m,m<n/\I m s') s) (n:Nat) {s:Shared} (h:I n s) :
  codeAny (model prog w) A (.compLoop (.ListComp elt [⟨target,iter,ifs,0⟩] scope pos) 0 it acc env) R s:=by
 have none':∀{Z:Value->Shared->Prop} (x:Value) (s:Shared),False->Z x s:=λ_ _ z=>z.elim
 refine codeAny_loop rfl I (λk s1 h1=>?_) n h
 change wpAny _ A ((compTurn (.ListComp elt [⟨target,iter,ifs,0⟩] scope pos) 0 it acc env).onRaise (λx=>do noteFrame x env;theTreesLotGoes x)) _ _ s1
 refine wpAny_noted ?_;rw[compTurn_list];refine aU (gV (aU (b4 (turn k s1 h1) (λr s2 h2=>?_) none')))
 match r,h2 with
 |none,h2=>exact aX h2
 |some v,h2=>
  refine aU (b4 h2 (λ_ s3 h3=>aU (b4 h3 (λ_ s4 h4=>aU (b4 h4 (λok s5 h5=>?_) hE)) hE)) none')
  match ok,h5 with
  |false,h5=>exact aX ⟨rfl,h5⟩
  |true,h5=>exact aU (aU (b4 h5 (λx s6 h6=>aU (b4 h6 (λ_ s7 h7=>aX (aX ⟨rfl,h7⟩)) none')) hE))
theorem Ra {R:Result->Shared->Prop}(I:Nat->Shared->Prop)(turn:∀n s,I n s->RD prog w A env elt target ifs it acc (λ_ _=>False) (R (.ok .next)) (λs'=>∃m,m<n/\I m s') s)(n:Nat){s:Shared}(h:I n s) :
  codeAny (model prog w) A (.compLoop (.ListComp elt [⟨target,iter,ifs,0⟩] scope pos) 0 it acc env) R s:=Pa I (λ_ _ z=>z.elim) turn n h
end
def Qy (X:Cx)(ifs:List Expr)(t:TT):Prop:=
 ∀(pins:List (Addr×Obj)) (s:Shared) (σ:St) (H:Hp) (Q:Bool->Hp->Prop),Inv X pins σ H s->t σ H Q->
  wpAny (model X.prog X.w) X.A (forIn ifs true λc r=>if r=true then do let ok <-isTrue c X.env (eval c X.env);pure (ForInStep.yield ok) else pure (ForInStep.yield r)) (TP X pins σ Q) X.xe s
def PD:TT:=λ_ H Q=>Q true H
theorem AU {X:Cx}:Qy X [] PD:=λ_ _ _ H _ I h=>wpAny_tests_nil ⟨H,I,h⟩
theorem C7 {X:Cx}{c:Expr}{t:TT}(h:PT X c t):Qy X [c] t:=λpins s σ H Q I q=>wpAny_tests_one (h pins s σ H Q I q)
def Bw (X:Cx)(scope:Scope)(cl:List (Str×Addr))(N:List Str)(C:Addr)(s:Shared)(H:Hp)(fp:List Addr):Cx:=
 { prog:=X.prog,w:=X.w,K:=X.K,mg:=X.mg,base:=X.base,A:=X.A,N:=N,s₀:=s,H₀:=H,env:=compEnvC scope cl C X.env,outer:=X.stack,stack:=X.stack,ex:=fp,fn:=λ_=>false,calm:=X.calm,pn:=[],xe:=λ_ _=>False }
def stC (fr:List (Option Nat))(σ:St):St:=fr.map λo=>o.bind λi=>(σ[i]?).bind id
def Da (fr:List (Option Nat))(g:TG)(tt:TT)(te:TE)(σ:St)(Q:VK)(J:It)(H1:Hp):Prop:=∀l,H1 l=none->∃W:Nat->Nat->St->Hp->Prop,(∃m,W 0 m (stC fr σ) (upd H1 l (.lst [])))/\∀i m σ H,W i m σ H->
 (J.stop i H/\Q (.ref l) H)\/(J.go i H/\∀x H',J.yld i H x H'->g x σ H' λσ2 H2=>tt σ2 H2 λb H3=>if b=true then te σ2 H3 λv H4=>∃xs,H4 l=some (.lst xs)/\xs.length<sizeLine/\∃m',m'<m/\W (i+1) m' σ2 (upd H4 l (.lst (xs++[v])))
  else ∃m',m'<m/\W (i+1) m' σ2 H3)
def Nx (fr:List (Option Nat))(wi:TI)(g:TG)(tt:TT)(te:TE):TE:=λσ H Q=>wi σ H (Da fr g tt te σ Q)
def Hj (XN:List Str)(xs sc:Scope)(N:List Str)(fr:List (Option Nat)):Bool:=
 decide (sc.kind=.function)&&decide (fr.length=N.length)&&(sc.names.all λy=>!decide (y.2=.cell))&&(sc.names.all λy=>!decide (y.2=.local)||decide (sc.names.lookup y.1=some .local)) &&
 (sc.names.all λy=>!decide (y.2=.free)||(decide (xs.names.lookup y.1=some .cell)||decide (xs.names.lookup y.1=some .free))) &&
 ((N.zip fr).all λp=>match p.2 with|none=>true|some i=>decide (XN[i]?=some p.1)&&decide (sc.names.lookup p.1=some .free))
def Qz (cells:List (Str×Addr)):List (Str×Addr)->Prop
 |[]=>True
 |p::r=>cells.lookup p.1=some p.2/\Qz cells r
theorem Qz.get {cells:List (Str×Addr)}:∀{cl:List (Str×Addr)},Qz cells cl->∀{x:Str} {c:Addr},cl.lookup x=some c->cells.lookup x=some c
 |[],_,_,_,h=>by cases h
 |(y,d)::r,k,x,c,h=>by
  rw[fN] at h;cases e:x == y with
  |true=>
   rw[e] at h;cases h;rw[eq_of_beq e];exact k.1
  |false=>
   rw[e] at h;exact Qz.get k.2 h
def Jh (cl:List (Str×Addr)):List (Str×NameKind)->Prop
 |[]=>True
 |p::r=>(p.2=.free->∃c,cl.lookup p.1=some c)/\Jh cl r
theorem Jh.get {cl:List (Str×Addr)}:∀{ns:List (Str×NameKind)},Jh cl ns->∀y∈ns,y.2=.free->∃c,cl.lookup y.1=some c
 |[],_,_,h=>by cases h
 |p::r,k,y,h=>by
  rcases bE.mp h with rfl|h
  ·exact k.1
  ·exact Jh.get k.2 y h
theorem FS {env:Env}:∀{names:List (Str×NameKind)} {x:Str} {k:NameKind},(names.map λ(n,k)=>if(k == NameKind.free&&env.scope.kind == .function&&env.kindOf n == some .cell) then(n,NameKind.cell) else(n,k)).lookup x=some k->
  names.lookup x=some k\/(k=.cell/\names.lookup x=some .free)
 |[],_,_,h=>by cases h
 |(n,k0)::r,x,k,h=>by
  have ih:=@FS env r x k
  by_cases hc:(k0 == NameKind.free&&env.scope.kind == .function&&env.kindOf n == some .cell)=true
  ·simp only[List.map_cons,if_pos hc,List.lookup_cons] at h;rw[fN];cases e:x == n with
   |true=>
    rw[e] at h;cases h;simp only[Bool.and_eq_true] at hc;have:k0=.free:=by simpa using hc.1.1
    exact .inr ⟨rfl,by rw[this]⟩
   |false=>rw[e] at h;exact ih h
  ·simp only[List.map_cons,if_neg hc,List.lookup_cons] at h;rw[fN];cases e:x == n with
   |true=>rw[e] at h;exact .inl h
   |false=>rw[e] at h;exact ih h
theorem IQ {env:Env}:∀{names:List (Str×NameKind)} {x:Str},names.lookup x=some .free->
  (names.map λ(n,k)=>if(k == NameKind.free&&env.scope.kind == .function&&env.kindOf n == some .cell) then(n,NameKind.cell) else(n,k)).lookup x=some .cell\/
  (names.map λ(n,k)=>if(k == NameKind.free&&env.scope.kind == .function&&env.kindOf n == some .cell) then(n,NameKind.cell) else(n,k)).lookup x=some .free
 |[],_,h=>by cases h
 |(n,k0)::r,x,h=>by
  have ih:=@IQ env r x;rw[fN] at h
  by_cases hc:(k0 == NameKind.free&&env.scope.kind == .function&&env.kindOf n == some .cell)=true
  ·simp only[List.map_cons,if_pos hc,List.lookup_cons];cases e:x == n with
   |true=>exact .inl rfl
   |false=>rw[e] at h;exact ih h
  ·simp only[List.map_cons,if_neg hc,List.lookup_cons];cases e:x == n with
   |true=>rw[e] at h;exact .inr h
   |false=>rw[e] at h;exact ih h
section
variable {X:Cx}
theorem NH (N:List Str) (fr:List (Option Nat)) {elt tg iter:Expr} {ifs:List Expr} {scope:Scope} {pos fpos:Pos} {wi:TI} {g:TG} {tt:TT} {te:TE} {cl:List (Str×Addr)}
  (hc:X.calm=true) (hi:PI X tg iter wi) (hchk:Hj X.N X.env.scope scope N fr=true) (hclos:closureFor scope X.env=pure cl) (hcl:Qz X.env.cells cl) (hall:Jh cl scope.names)
  (hb:∀(C:Addr) (s:Shared) (H:Hp) (fp:List Addr),PG (Bw X scope cl N C s H fp) tg g/\Qy (Bw X scope cl N C s H fp) ifs tt/\PE (Bw X scope cl N C s H fp) elt te)
  (hs:∀x,foldedSetIterable iter X.env x=pure x) {pins:List (Addr×Obj)} {s:Shared} {σ:St} {H:Hp} {Q:VK} {use:Option (Value->Sem Unit)} {Qc:Value->Shared->Prop} (I:Inv X pins σ H s) (h:Nx fr wi g tt te σ H Q)
  (hfin:∀(l:Addr) (H':Hp) (s':Shared) (C:Addr),Inv X pins σ H' s'->Jv X pins H' C->(∃m,s'.heap.Ns C m)->Q (.ref l) H'->compPost (model X.prog X.w) X.A X.xe use Qc (.ref l) C (.ok .next) s') :
  wpAny (model X.prog X.w) X.A (comprehension (.ListComp elt [⟨tg,iter,ifs,0⟩] scope pos) scope X.env fpos (newList []) (firstAsync [⟨tg,iter,ifs,0⟩]) (firstIter [⟨tg,iter,ifs,0⟩] X.env) use) Qc X.xe s:=by
 simp only[Hj,Bool.and_eq_true,decide_eq_true_eq,List.all_eq_true,Bool.or_eq_true,Bool.not_eq_true',decide_eq_false_iff_not] at hchk;obtain⟨⟨⟨⟨⟨hkind,hlen⟩,hcell⟩,hnames⟩,hfree⟩,hfr⟩:=hchk;have hnames':∀x∈scope.names,x.2=.local->scope.names.lookup x.1=some .local:=λy hy e=>(hnames y hy).resolve_left λz=>z e
 have hcell':∀x∈scope.names,x.2≠.cell:=λy hy=>hcell y hy
 refine wpAny_comprehension_free (use:=use) rfl hs hclos hkind hnames' (Bn (hi pins s σ H _ I h) λv s1 h1=>Bn h1 λitv s2 h2=>?_);obtain⟨it,fp,tn,J,H2,e,I2,T,st2,f2,hQ⟩:=h2;subst e;refine cE (hd:=by size_fits) (wpAny_newFunctionEnv hcell' (by intro y hy;simp at hy) (λh₁ hns hsb=>?_) hkind);dsimp only at hns hsb ⊢;obtain⟨W,⟨m0,w0⟩,turn⟩:=hQ s2.heap.objs.size I2.fresh;have I3:Inv X pins σ (upd H2 s2.heap.objs.size (.lst [])) { s2 with heap:=s2.heap.push { cls:=.type "list",data:=.seq ([]:List Value).toArray },toks:=s2.toks }:=I2.lnew (its:=[]) .nil (bU _);generalize hh3:s2.heap.push { cls:=.type "list",dict:=none,data:=.seq ([]:List Value).toArray }=h3 at hns hsb ⊢;rw[show s2.heap.push { cls:=.type "list",data:=.seq ([]:List Value).toArray }=h3 from hh3] at I3;generalize hH3:upd H2 s2.heap.objs.size (.lst [])=H3 at I3 w0;generalize hl:s2.heap.objs.size=l at turn hH3 ⊢;have hl3:l<h3.objs.size:=by rw[<-hh3,<-hl,cf];exact eD _
 generalize hs3:({ s2 with heap:=h3,toks:=s2.toks }:Shared)=s3 at I3;have es3:s3.heap=h3:=by rw[<-hs3]
 have eos:s3.os=s2.os:=by rw[<-hs3]
 have egens:s3.gens=s2.gens:=by rw[<-hs3]
 generalize hC:h3.objs.size=C at hns hsb ⊢;have old:∀b o,h3.get? b=some o->h₁.get? b=some o:=λb o e=>
  hsb.extBut b o (by rw[<-hC];exact bI (bG e)) (aV _ e)
 have f3:∀b∈fp,Jv X pins H3 b:=λb hb=>by
  obtain⟨g0,g1⟩:=f2 b hb;refine⟨?_,g1⟩;rw[<-hH3];have:b≠l:=by
   obtain⟨o,e,_⟩:=T.obj _ _ st2 b hb;rw[<-hl];exact bI (bG e)
  rw[Ag this];exact g0
 have st3:tn 0 h₁:=T.keep _ _ _ st2 λb hb o e=>old b o (by rw[<-hh3];exact aV _ e)
 have ok:(Bw X scope cl N C s3 H3 fp).Ok:=by
  refine⟨I3.ok.mod,?_,I3.ok.glob,I3.ok.blt,?_,λx y c e1 e2=>I3.ok.inj x y c (hcl.get e1) (hcl.get e2),λx hx=>?_,λx c hx=>(by cases hx),I3.ok.hd,I3.ok.frames,.inl rfl,λb hb=>?_,λb o e=>?_,?_,λb o e hb=>?_,λb hb hb2=>?_,?_,λb hb=>?_⟩
  ·exact hkind
  ·show s3.heap.objs.size<=C;rw[es3,hC];exact aZ _
  ·have hx':(relabel scope X.env).names.lookup x=some .cell\/(relabel scope X.env).names.lookup x=some .free:=hx;have:scope.names.lookup x=some .free:=by
    rcases hx' with z|z
    ·rcases FS z with q|⟨_,q⟩
     ·exact absurd rfl (hcell' _ (cH q))
     ·exact q
    ·rcases FS z with q|⟨q,_⟩
     ·exact q
     ·cases q
   exact hall.get _ (cH this) rfl
  ·obtain⟨g0,g1,g2,g3,g4,g5⟩:=f3 b hb;obtain⟨o,e,_⟩:=T.obj _ _ st2 b hb;refine⟨?_,λx c e=>g4 x c (hcl.get e)⟩;show b≠C;rw[<-hC];exact bI (bG (by rw[<-hh3];exact aV _ e))
  ·have q:=I3.bs b o e;exact q
  ·show X.base.objs.size<=s3.heap.objs.size;exact bQ I3.ok.bsz I3.sz
  ·obtain⟨g0,g1,g2,g3,g4,g5⟩:=f3 b hb;rcases g3 with z|z
   ·exact I3.ok.noex b o e z
   ·exact absurd (bO (bG e) (bQ I3.ok.bsz z)) (dk _)
  ·obtain⟨g0,g1,g2,g3,g4,g5⟩:=f3 b hb;rcases bE.mp (I3.stkSub b hb2) with z|z
   ·exact g1 z
   ·exact g2 z
  ·show s3.heap.FunFrames X.base X.stack;exact I3.stack
  ·exact I3.stkFree b hb
 have I4:Inv (Bw X scope cl N C s3 H3 fp) [] (stC fr σ) H3 { s2 with heap:=h₁,toks:=s2.toks+([]:List (Str×Value)).length }:=by
  have hk3:∀b o,s3.heap.get? b=some o->h₁.get? b=some o:=λb o e=>old b o (by rw[<-es3];exact e)
  refine⟨ok,eos.symm▸rfl,egens▸I3.bare,Un.kept hk3,⟨_,hns,λi x v e1 e2 e3=>?_⟩,λx c e=>?_,?_,λx c e=>I3.freeC x c (hcl.get e),λp hp=>(by cases hp),I3.hok.kept hk3,?_⟩
  ·
   have e1':N[i]?=some x:=e1;have e2':(fr[i]?).map (λo=>o.bind λi=>(σ[i]?).bind id)=some (some v):=by
    have:(stC fr σ)[i]?=some (some v):=e2;rw[stC,bz] at this;exact this
   cases q:fr[i]? with
   |none=>rw[q] at e2';cases e2'
   |some o=>
    rw[q] at e2';cases o with
    |none=>cases e2'
    |some j=>
     have e2'':(σ[j]?).bind id=some v:=bf e2';obtain⟨p1,p2⟩:X.N[j]?=some x/\scope.names.lookup x=some .free:=by
      have hz:(x,some j)∈N.zip fr:=by
       have:(N.zip fr)[i]?=some (x,some j):=by
        rw[List.getElem?_zip_eq_some];exact⟨e1',q⟩
       exact a8 this
      have:=hfr _ hz;simpa using this
     have hv:X.env.scope.names.lookup x=some .cell\/X.env.scope.names.lookup x=some .free:=by
      rcases hfree _ (cH p2) with z|z
      ·exact absurd rfl z
      ·simpa using z
     have e3':σ[j]?=some (some v):=by
      cases q3:σ[j]? with
      |none=>rw[q3] at e2'';cases e2''
      |some w'=>rw[q3] at e2'';have:w'=some v:=e2'';rw[this]
     obtain⟨m,hn,hl'⟩:=I3.loc;obtain⟨u,ru,lk⟩:=hl' j x v p1 e3' (.inr hv);refine⟨u,ru,.inr ⟨IQ p2,?_⟩⟩;rcases lk with⟨lk,_⟩|⟨_,c,ec,cc⟩
     ·have lk':X.env.scope.names.lookup x=some .local:=lk;rcases hv with z|z<;>(rw[z] at lk';cases lk')
     ·obtain⟨c',ec'⟩:=hall.get _ (cH p2) rfl;have:=hcl.get ec';rw[ec] at this;cases this;obtain⟨o,ho,hd⟩:=cc;exact⟨c,ec',o,hk3 _ _ ho,hd⟩
  ·obtain⟨v,o,ho,hd⟩:=I3.cell x c (hcl.get e);exact⟨v,o,hk3 _ _ ho,hd⟩
  ·show H3 C=none;exact I3.hok.fresh (by rw[es3,hC];exact aZ _)
  ·show(stC fr σ).length=N.length;rw[stC,aS];exact hlen
 obtain⟨hg,ht,he⟩:=hb C s3 H3 fp;have fpc:∀{H':Hp},(∀b∈fp,H' b=none)->∀b∈fp,Jv (Bw X scope cl N C s3 H3 fp) [] H' b:=λhn b hb=>by
  obtain⟨q1,q2⟩:=ok.exf b hb;exact⟨hn b hb,q1,ok.exfs b hb,.inl hb,q2,λp hp=>by cases hp⟩
 have fin:∀(σ':St) (H':Hp) (s':Shared),Inv (Bw X scope cl N C s3 H3 fp) [] σ' H' s'->Q (.ref l) H'->compPost (model X.prog X.w) X.A X.xe use Qc (.ref l) C (.ok .next) s':=λσ' H' s' I' q=>by
  obtain⟨m,hn,_⟩:=I'.loc;have nC:∀b o,s3.heap.get? b=some o->b≠C:=λb o e=>by
   rw[<-hC,<-es3];exact bI (bG e)
  have fC:H' C=none:=I'.free;have u:=I'.base;refine hfin l H' s' C ?_ (I3.fpOk (by rw[es3,hC];exact aZ _) fC) ⟨m,hn⟩ q;refine I3.call' (s':=s') (ch:=fp) I'.os ⟨λb o e n hb hx=>u.keep b o e n hb hx,λb o e n hb hx=>u.slot b o e n hb hx,u.free,λb o e hx=>u.there b o e hx,u.tups,u.frzs,u.tbls⟩ (λb o e=>I'.hok b o e) I'.bare λb hb=>?_
  obtain⟨g0,g1,g2,g3,g4,g5⟩:=f3 b hb;exact⟨g3,g1,g4,g5⟩
 have loop:codeAny (model X.prog X.w) X.A (.compLoop (.ListComp elt [⟨tg,iter,ifs,0⟩] scope pos) 0 (.ref it) (.ref l) (compEnvC scope cl C X.env)) (compPost (model X.prog X.w) X.A X.xe use Qc (.ref l) C)
   { s2 with heap:=h₁,toks:=s2.toks+([]:List (Str×Value)).length }:=by
  refine Ra (λn s'=>∃i σ' H',Inv (Bw X scope cl N C s3 H3 fp) [] σ' H' s'/\tn i s'.heap/\(∀b∈fp,H' b=none)/\W i n σ' H') ?_ m0 ⟨0,_,H3,I4,st3,λb hb=>(f3 b hb).1,w0⟩
  rintro n s5 ⟨i,σ5,H5,I5,st5,fr5,w5⟩
  rcases turn i n σ5 H5 w5 with⟨stop,qn⟩|⟨go,step⟩
  ·refine Bn (T.done (Bw X scope cl N C s3 H3 fp) rfl rfl rfl hc i [] s5 σ5 H5 (λ_ _=>False) I5 (fpc fr5) st5 stop) λr s6 ⟨hr,I6⟩=>?_
   subst hr;exact fin σ5 H5 s6 I6 qn
  ·refine Bn (T.item (Bw X scope cl N C s3 H3 fp) rfl rfl rfl hc i [] s5 σ5 H5 (λ_ _=>False) I5 (fpc fr5) st5 go) λr s6 ⟨u,hr,h6⟩=>?_
   subst hr;refine Bn h6 λ_ s7 z9=>?_
   obtain⟨x,H7,I7,r7,y7,st7,fr7⟩:=z9;have I7':=I7.pinned (fpc fr7) (T.obj _ _ st7);refine Bn (hg _ s7 σ5 H7 x u _ I7' r7 (step x H7 y7)) λ_ s8 ⟨σ8,H8,I8,q8⟩=>?_
   have again:∀{σ9:St} {H9:Hp} {s9:Shared},Inv (Bw X scope cl N C s3 H3 fp) ([]++LK fp s7.heap) σ9 H9 s9->(∃m',m'<n/\W (i+1) m' σ9 H9)->∃m,m<n/\∃i σ' H',Inv (Bw X scope cl N C s3 H3 fp) [] σ' H' s9/\tn i s9.heap/\(∀b∈fp,H' b=none)/\W i m σ' H':=λ{σ9 H9 s9} I9 n9=>by
    obtain⟨m',hm,w9⟩:=n9;refine⟨m',hm,i+1,σ9,H9,I9.unpinned,T.keep _ _ _ st7 λb hb o e=>(I9.pin (b,o) (b8 _ (b8 _ (FO hb e)))).1,λb hb=>?_,w9⟩;obtain⟨o,e,d⟩:=T.obj _ _ st7 b hb;exact(I9.pin (b,o) (b8 _ (b8 _ (FO hb e)))).2.1
   refine Bn (ht _ s8 σ8 H8 _ I8 q8) λok s9 ⟨H9,I9,q9⟩=>?_
   cases ok with
   |false=>
    rw[bH bC] at q9 ⊢;exact again I9 q9
   |true=>
    rw[bF rfl] at q9 ⊢;refine Bn (he _ s9 σ8 H9 _ I9 q9) λy sa ⟨vy,Ha,Ia,ry,qa⟩=>?_
    obtain⟨xs,hla,hsz,n9⟩:=qa;refine Bn (DX _ sa σ8 Ha (.ref l) [vy] (.ref l) [y] (λ_ Hb=>∃m',m'<n/\W (i+1) m' σ8 Hb) Ia rfl (.cons ry .nil) ⟨l,xs,vy,rfl,rfl,hla,hsz,n9⟩) λ_ sb ⟨_,Hb,Ib,_,qb⟩=>?_
    exact again Ib qb
 show codeAny (model X.prog X.w) X.A (.compStart (.ListComp elt [⟨tg,iter,ifs,0⟩] scope pos) 0 (.ref it) (.ref l) (compEnvC scope cl C X.env)) (compPost (model X.prog X.w) X.A X.xe use Qc (.ref l) C) { s2 with heap:=h₁,toks:=s2.toks+([]:List (Str×Value)).length };exact codeAny_compStart_list loop (T.self _ 0 _ _ _ st3 loop)
theorem CM (N:List Str) (fr:List (Option Nat)) {elt tg iter:Expr} {ifs:List Expr} {scope:Scope} {pos:Pos} {wi:TI} {g:TG} {tt:TT} {te:TE} {cl:List (Str×Addr)}
  (hc:X.calm=true) (hi:PI X tg iter wi) (hchk:Hj X.N X.env.scope scope N fr=true) (hclos:closureFor scope X.env=pure cl) (hcl:Qz X.env.cells cl) (hall:Jh cl scope.names)
  (hb:∀(C:Addr) (s:Shared) (H:Hp) (fp:List Addr),PG (Bw X scope cl N C s H fp) tg g/\Qy (Bw X scope cl N C s H fp) ifs tt/\PE (Bw X scope cl N C s H fp) elt te)
  (hs:∀x,foldedSetIterable iter X.env x=pure x:=by intro _;rfl) :
  PE X (.ListComp elt [⟨tg,iter,ifs,0⟩] scope pos) (Nx fr wi g tt te):=by
 intro pins s σ H Q I h;rw[eval_ListComp];refine NH N fr hc hi hchk hclos hcl hall hb hs I h λl H' s' C I' fC ⟨m,hn⟩ q=>?_
 refine⟨m,hn,λh'' hs''=>⟨.ref l,H',?_,rfl,q⟩⟩;obtain⟨f0,f1,f2,f3,f4,f5⟩:=fC;exact I'.turned (t':=s'.toks) (λb o hb e=>(hs''.2 b hb).trans e) f0 f1 f3 f4 f5
theorem FE (N:List Str) (fr:List (Option Nat)) {i:Nat} {x:Str} {elt tg iter:Expr} {ifs:List Expr} {scope:Scope} {cpos pos pos':Pos} {wi:TI} {g:TG} {tt:TT} {te:TE} {cl:List (Str×Addr)}
  (hN:X.N.Nodup) (hi':X.N[i]?=some x) (hx:Loc X.env.scope x)
  (hc:X.calm=true) (hi:PI X tg iter wi) (hchk:Hj X.N X.env.scope scope N fr=true) (hclos:closureFor scope X.env=pure cl) (hcl:Qz X.env.cells cl) (hall:Jh cl scope.names)
  (hb:∀(C:Addr) (s:Shared) (H:Hp) (fp:List Addr),PG (Bw X scope cl N C s H fp) tg g/\Qy (Bw X scope cl N C s H fp) ifs tt/\PE (Bw X scope cl N C s H fp) elt te)
  (hs:∀x,foldedSetIterable iter X.env x=pure x:=by intro _;rfl)
  (hsw:swapsWith (.ListComp elt [⟨tg,iter,ifs,0⟩] scope cpos) (some (.Name x pos')) pos.line X.env=pure true:=by rfl)
  (hf:X.fn x=true\/X.env.scope.names.lookup x=some .local:=by first|exact .inl rfl|exact .inr rfl|assumption) :
  PS X (.Assign [.Name x pos'] (.ListComp elt [⟨tg,iter,ifs,0⟩] scope cpos) pos) (W7 (Nx fr wi g tt te) (Bt i)):=by
 intro pins s σ H D I h;rw[exec_Assign_arm];refine aU (gV ?_);rw[show swapsWithSole [.Name x pos'] (.ListComp elt [⟨tg,iter,ifs,0⟩] scope cpos) pos.line X.env=pure true from hsw];refine aU (aX ?_);rw[bF rfl,arm_evalThenUse_ListComp];refine aU (aU ?_);have h1:Nx fr wi g tt te σ H λv H1=>D.nx (σ.set i (some v)) H1:=h
 refine NH (use:=some _) N fr hc hi hchk hclos hcl hall hb hs I h1 λl H' s' C I' fC ⟨m,hn⟩ q=>?_
 obtain⟨f0,f1,f2,f3,f4,f5⟩:=fC;obtain⟨o,es,ep,ho,hd,hk,hm⟩:=hn;have Ip:Inv X (pins++[(C,o)]) σ H' s':=I'.pins_of λp hp=>(aY.mp hp).elim (λz=>I'.pin p (b8 _ z)) λz=>by
  rw[ba.mp z];exact⟨ho,f0,f1,f2,λv e=>by rw[hd] at e;cases e⟩
 show wpAny _ _ (assignAll (.ref l) [assign (.Name x pos') X.env]) _ _ _;rw[assignAll.eq_2];refine wpAny_assign_Name (Ms Ip hN hi' hx (v:=.ref l) rfl (λs2 I2=>?_) hf);have ho2:=(I2.pin (C,o) (b8 _ (b8 _ (List.mem_singleton_self _)))).1;refine⟨m,⟨o,es,ep,ho2,hd,hk,hm⟩,λh' hs'=>aX (aX ⟨_,H',?_,q⟩)⟩;exact I2.unpinned.turned (t':=s2.toks) (λb o hb e=>(hs'.2 b hb).trans e) f0 f1 f3 f4 f5
def Jw (sc:Scope):Bool:=
 decide (sc.kind=.function)&&(sc.names.all λy=>!decide (y.2=.cell))&&(sc.names.all λy=>!decide (y.2=.local)||decide (sc.names.lookup y.1=some .local))&&(sc.names.all λy=>!decide (y.2=.free))
theorem Br (N:List Str) {elt tg iter:Expr} {ifs:List Expr} {scope:Scope} {pos:Pos} {wi:TI} {g:TG} {tt:TT} {te:TE}
  (hc:X.calm=true) (hi:PI X tg iter wi) (hchk:Jw scope=true)
  (hb:∀(C:Addr) (s:Shared) (H:Hp) (fp:List Addr),PG (Bw X scope [] N C s H fp) tg g/\Qy (Bw X scope [] N C s H fp) ifs tt/\PE (Bw X scope [] N C s H fp) elt te)
  (hs:∀x,foldedSetIterable iter X.env x=pure x:=by intro _;rfl) :
  PE X (.ListComp elt [⟨tg,iter,ifs,0⟩] scope pos) (Nx (N.map λ_=>none) wi g tt te):=by
 simp only[Jw,Bool.and_eq_true,decide_eq_true_eq,List.all_eq_true,Bool.or_eq_true,Bool.not_eq_true',decide_eq_false_iff_not] at hchk;obtain⟨⟨⟨hkind,hcell⟩,hnames⟩,hfree⟩:=hchk;refine CM (cl:=[]) N (N.map λ_=>none) hc hi ?_ (closureFor_none λx hx=>hfree x hx) trivial ?_ hb hs
 ·simp only[Hj,Bool.and_eq_true,decide_eq_true_eq,List.all_eq_true,Bool.or_eq_true,Bool.not_eq_true',decide_eq_false_iff_not];refine⟨⟨⟨⟨⟨hkind,by simp⟩,hcell⟩,hnames⟩,λy hy=>.inl (hfree y hy)⟩,λp hp=>?_⟩;have:p.2∈N.map λ_=>(none:Option Nat):=(fo hp).2
  obtain⟨_,_,e⟩:=aT.mp this;rw[<-e]
 ·have:∀ns:List (Str×NameKind),(∀y∈ns,y.2≠.free)->Jh [] ns:=by
   intro ns
   induction ns with
   |nil=>intro _;exact trivial
   |cons p r ih=>intro h;exact⟨λe=>absurd e (h p bc),ih λy hy=>h y (a9 _ hy)⟩
  exact this _ λy hy=>hfree y hy
theorem Um (N:List Str) {i:Nat} {x:Str} {elt tg iter:Expr} {ifs:List Expr} {scope:Scope} {cpos pos pos':Pos} {wi:TI} {g:TG} {tt:TT} {te:TE}
  (hN:X.N.Nodup) (hi':X.N[i]?=some x) (hx:Loc X.env.scope x)
  (hc:X.calm=true) (hi:PI X tg iter wi) (hchk:Jw scope=true)
  (hb:∀(C:Addr) (s:Shared) (H:Hp) (fp:List Addr),PG (Bw X scope [] N C s H fp) tg g/\Qy (Bw X scope [] N C s H fp) ifs tt/\PE (Bw X scope [] N C s H fp) elt te)
  (hs:∀x,foldedSetIterable iter X.env x=pure x:=by intro _;rfl)
  (hsw:swapsWith (.ListComp elt [⟨tg,iter,ifs,0⟩] scope cpos) (some (.Name x pos')) pos.line X.env=pure true:=by rfl)
  (hf:X.fn x=true\/X.env.scope.names.lookup x=some .local:=by first|exact .inl rfl|exact .inr rfl|assumption) :
  PS X (.Assign [.Name x pos'] (.ListComp elt [⟨tg,iter,ifs,0⟩] scope cpos) pos) (W7 (Nx (N.map λ_=>none) wi g tt te) (Bt i)):=by
 simp only[Jw,Bool.and_eq_true,decide_eq_true_eq,List.all_eq_true,Bool.or_eq_true,Bool.not_eq_true',decide_eq_false_iff_not] at hchk;obtain⟨⟨⟨hkind,hcell⟩,hnames⟩,hfree⟩:=hchk;refine FE (cl:=[]) N (N.map λ_=>none) hN hi' hx hc hi ?_ (closureFor_none λx hx=>hfree x hx) trivial ?_ hb hs hsw hf
 ·simp only[Hj,Bool.and_eq_true,decide_eq_true_eq,List.all_eq_true,Bool.or_eq_true,Bool.not_eq_true',decide_eq_false_iff_not];refine⟨⟨⟨⟨⟨hkind,by simp⟩,hcell⟩,hnames⟩,λy hy=>.inl (hfree y hy)⟩,λp hp=>?_⟩;have:p.2∈N.map λ_=>(none:Option Nat):=(fo hp).2
  obtain⟨_,_,e⟩:=aT.mp this;rw[<-e]
 ·have:∀ns:List (Str×NameKind),(∀y∈ns,y.2≠.free)->Jh [] ns:=by
   intro ns
   induction ns with
   |nil=>intro _;exact trivial
   |cons p r ih=>intro h;exact⟨λe=>absurd e (h p bc),ih λy hy=>h y (a9 _ hy)⟩
  exact this _ λy hy=>hfree y hy
end
def Def (P:Program)(w:World)(K:PySem.W.Frag)(mg:Str->Option Value)(base:Heap)(k:Nat)(x:Str)(ps:List Str)(sp:Sp):Prop:=
 ∃(f:Addr) (fd:FuncData),FnOk P w K mg base BO k f fd ps sp/\mg x=some (.ref f)/\PySem.W.keepIn K (.ref f)=true/\Binds K fd ps []
section
variable {X:Cx}{k:Nat}{x:Str}{ps:List Str}{sp:Sp}{e:Expr}{es:List Expr}{t:TA}{p pos:Pos}
theorem AK (D:Def X.prog X.w X.K X.mg X.base k x ps sp) (hr:Room k X.A) (hg:Gl X x) (ha:PA X (e::es) t)
  (hdb:(x == ("__debug__":Str))=false:=by decide) (he:starEach (e::es) X.env=(false,eval e X.env)::starEach es X.env:=by rfl) (hpl:(backTo pos (starEach es X.env)).any (·.1)=false:=by rfl) :
  PE X (.Call (.Name x p) (e::es) [] pos) (Pk sp [] E0 t):=by
 obtain⟨f,fd,F,hm,hk,hb⟩:=D;exact RN F hr hg hm hk hb .nil Pf ha hdb he hpl
theorem YC (D:Def X.prog X.w X.K X.mg X.base k x ps sp) (hr:Room k X.A) (hg:Gl X x)
  (hdb:(x == ("__debug__":Str))=false:=by decide) :
  PE X (.Call (.Name x p) [] [] pos) (Pk sp [] E0 MT):=by
 obtain⟨f,fd,F,hm,hk,hb⟩:=D;exact Vh F hr hg hm hk hb .nil Pf hdb
end
section
variable {X:Cx}
theorem AH {x:Str}{i:Int}{pos:Pos}(hg:Gl X x)(hm:∃t,X.mg x=some (.int i t))(hd:(x == ("__debug__":Str))=false:=by decide):PE X (.Name x pos) (tC (.int i)):=by
 obtain⟨t,hm⟩:=hm;exact Rw hg hm ⟨_,rfl⟩ hd
theorem Ks {x:Str}{T:String}{pos:Pos}(hg:Gl X x)(hm:X.mg x=none)(hv:bootBuiltins x=some (.type T))(hn:x≠"__name__":=by decide)(hd:(x == ("__debug__":Str))=false:=by decide):PE X (.Name x pos) (tC (.ty T)):=WG hg hm hv rfl hn hd
theorem Gz {x z:Str}{pos:Pos}(hg:Gl X x)(hm:∃t,X.mg x=some (.str z t))(hd:(x == ("__debug__":Str))=false:=by decide):PE X (.Name x pos) (tC (.str z)):=by
 obtain⟨t,hm⟩:=hm;exact Rw hg hm ⟨_,rfl⟩ hd
end
theorem Bx:bootBuiltins "isinstance"=some (.builtin "isinstance"):=by decide +kernel
theorem JL:bootBuiltins "all"=some (.builtin "all"):=by decide +kernel
theorem VB:bootBuiltins "sum"=some (.builtin "sum"):=by decide +kernel
theorem Ct:bootBuiltins "sorted"=some (.builtin "sorted"):=by decide +kernel
theorem Bl:bootBuiltins "len"=some (.builtin "len"):=by decide +kernel
theorem T5:bootBuiltins "max"=some (.builtin "max"):=by decide +kernel
theorem UJ:bootBuiltins "min"=some (.builtin "min"):=by decide +kernel
theorem UK:bootBuiltins "int"=some (.type "int"):=by decide +kernel
theorem Wr:bootBuiltins "bool"=some (.type "bool"):=by decide +kernel
theorem UT:bootBuiltins "str"=some (.type "str"):=by decide +kernel
theorem Ji:bootBuiltins "list"=some (.type "list"):=by decide +kernel
theorem EG:bootBuiltins "tuple"=some (.type "tuple"):=by decide +kernel
theorem Ww:bootBuiltins "dict"=some (.type "dict"):=by decide +kernel
theorem XZ:bootBuiltins "set"=some (.type "set"):=by decide +kernel
theorem IH:bootBuiltins "enumerate"=some (.type "enumerate"):=by decide +kernel
theorem Yx {t c:String}{b:Bool}(h:(if(Value.type t == Value.type c)=true then some true else if PySem.W.kitMeta c=true then(fastBuiltinMro t).map (·.contains (.type c)) else none)=some b)(K:PySem.W.Frag) :
  PySem.W.kitOne K (.type t) (.type c)=some b:=h
section
variable {X:Cx}
def af (K:PySem.W.Frag):List V->Hp->VK->Prop:=λxs H Q=>∃x c t b,xs=[x,.ty c]/\TyOf K H x t/\PySem.W.kitOne K t (.type c)=some b/\Q (.bl b) H
theorem B0:CL X (.builtin "isinstance") (af X.K):=by
 intro pins s σ H xs us Q I r h;obtain⟨x,c,t,b,rfl,ty,e,q⟩:=h;obtain⟨u,v,rfl,ru,rv⟩:=vals2 r;have ev:v=Value.type c:=rv;subst ev;exact S8 I ru ty e λtk=>⟨.bl b,H,I.tok _,rfl,q⟩
end
def Dk:V->Bool
 | .non=>true
 | .int _=>true
 | .str _=>true
 |_=>false
theorem Hm {x:V}(h:Dk x=true):U4 x=true:=by
 cases x<;>first|rfl|exact h
theorem pure_eq {x y:V}(hx:Dk x=true)(hy:Dk y=true):XB x y=decide (x=y):=by
 cases x<;>first|exact absurd (show false=true from hx) bC|skip
 all_goals (cases y<;>first|exact absurd (show false=true from hy) bC|skip)
 ·rfl
 ·rfl
 ·rfl
 ·rfl
 ·exact Hq.symm
 ·rfl
 ·rfl
 ·rfl
 ·exact N2.symm
theorem HJ:∀(xs ys:List V),xs.length=ys.length->xs.all Dk=true->ys.all Dk=true->
  ((List.range xs.length).all λi=>XB (xs.getD i .non) (ys.getD i .non))=decide (xs=ys):=by
 intro xs
 induction xs with
 |nil=>
  intro ys hl _ _;cases ys with
  |nil=>rfl
  |cons _ _=>simp at hl
 |cons x xs ih=>
  intro ys hl hx hy;cases ys with
  |nil=>simp at hl
  |cons y ys=>
   rw[gy,bL] at hx hy;have q:=ih ys (by simpa using hl) hx.2 hy.2;rw[bT,List.range_succ_eq_map,gy,gL];have e0:((λi=>XB ((x::xs).getD i .non) ((y::ys).getD i .non))∘Nat.succ)=λi=>XB (xs.getD i .non) (ys.getD i .non):=by
    funext i;simp
   rw[e0,q];show(XB x y&&decide (xs=ys))=_;rw[pure_eq hx.1 hy.1]
   by_cases h1:x=y
   ·by_cases h2:xs=ys<;>simp[h1,h2]
   ·simp[h1]
theorem K7 {xs:List V}{us:List Value}(r:AR xs us){j:Nat}(hj:j<us.length):∃x,xs[j]?=some x/\RelV x us[j]:=by
 have hl:=r.length;obtain⟨u,e1,e2⟩:=r.get (i:=j) (x:=xs[j]'(by omega)) (by simp[show j<xs.length by omega]);refine⟨xs[j]'(by omega),by simp[show j<xs.length by omega],?_⟩;rw[aW hj] at e1;cases e1;exact e2
section
variable {X:Cx}
theorem Ul {A:Around} {s:Shared} {a b:Addr} {xs ys:List V} {its its2:List Value} (hu:A.units<cLine) (r1:AR xs its) (r2:AR ys its2) (h1:s.heap.IsList a its.toArray) (h2:s.heap.IsList b its2.toArray)
  (f1:xs.all Dk=true) (f2:ys.all Dk=true):SeqAt.RcAt A s (.ref a) (.ref b) (decide (xs=ys)):=by
 have l1:=r1.length;have l2:=r2.length
 by_cases hl:xs.length=ys.length
 ·have q:=SeqAt.RcAt.lists (A:=A) (s:=s) (e:=λi=>XB (xs.getD i .non) (ys.getD i .non)) h1 h2 (by simp;omega) hu (λj g1 g2=>by
   have g1':j<its.length:=by simpa using g1
   have g2':j<its2.length:=by simpa using g2
   obtain⟨x,e1,rx⟩:=K7 r1 g1';obtain⟨y,e2,ry⟩:=K7 r2 g2';have p1:Dk x=true:=bX.mp f1 x (a8 e1);have p2:Dk y=true:=bX.mp f2 y (a8 e2);have:=Ug (A:=A.in1) (s:=s) rx ry (Hm p1) (Hm p2);simpa [List.getD,e1,e2] using this)
  have e:(its.toArray.size)=xs.length:=by simp;omega
  rw[e,HJ xs ys hl f1 f2] at q;exact q
 ·have e:decide (xs=ys)=false:=bD λz=>hl (by rw[z])
  rw[e];exact je h1 h2 (by simp;omega) hu
def Zt (K:PySem.W.Frag)(neg:Bool):R2:=λx y H Q=>∃a b xs ys,x=.ref a/\y=.ref b/\AI K H a xs/\AI K H b ys/\xs.all Dk=true/\ys.all Dk=true/\Q (.bl (if neg then !decide (xs=ys) else decide (xs=ys))) H
theorem Qs (hu:X.A.units+1<cLine):Gw X (compareOp .Eq) (Zt X.K false):=by
 intro pins s σ H x y v u Q I rx ry h;obtain⟨a,b,xs,ys,rfl,rfl,h1,h2,f1,f2,q⟩:=h;cases rx;cases ry;obtain⟨its,r1,p1,_⟩:=I.list h1;obtain⟨its2,r2,p2,_⟩:=I.list h2;exact Ul (by omega) r1 r2 p1.isList p2.isList f1 f2 _ _ _ _ ⟨.bl _,H,I,rfl,q⟩
theorem Qn {A:Around} {s:Shared} {a b:Addr} {xs ys:List V} {its its2:List Value} (hu:A.units<cLine) (r1:AR xs its) (r2:AR ys its2) (h1:s.heap.IsList a its.toArray) (h2:s.heap.IsList b its2.toArray)
  (f1:xs.all Dk=true) (f2:ys.all Dk=true):SeqAt.RcNeAt A s (.ref a) (.ref b) (!decide (xs=ys)):=by
 have l1:=r1.length;have l2:=r2.length
 by_cases hl:xs.length=ys.length
 ·have q:=SeqAt.RcNeAt.lists (A:=A) (s:=s) (e:=λi=>XB (xs.getD i .non) (ys.getD i .non)) h1 h2 (by simp;omega) hu (λj g1 g2=>by
   have g1':j<its.length:=by simpa using g1
   have g2':j<its2.length:=by simpa using g2
   obtain⟨x,e1,rx⟩:=K7 r1 g1';obtain⟨y,e2,ry⟩:=K7 r2 g2';have p1:Dk x=true:=bX.mp f1 x (a8 e1);have p2:Dk y=true:=bX.mp f2 y (a8 e2);have:=Ug (A:=A.in1) (s:=s) rx ry (Hm p1) (Hm p2);simpa [List.getD,e1,e2] using this)
  have e:(its.toArray.size)=xs.length:=by simp;omega
  rw[e,HJ xs ys hl f1 f2] at q;exact q
 ·have e:decide (xs=ys)=false:=bD λz=>hl (by rw[z])
  rw[e];exact iZ h1 h2 (by simp;omega) hu
theorem YB (hu:X.A.units+1<cLine):Gw X (compareOp .NotEq) (Zt X.K true):=by
 intro pins s σ H x y v u Q I rx ry h;obtain⟨a,b,xs,ys,rfl,rfl,h1,h2,f1,f2,q⟩:=h;cases rx;cases ry;obtain⟨its,r1,p1,_⟩:=I.list h1;obtain⟨its2,r2,p2,_⟩:=I.list h2;exact Qn (by omega) r1 r2 p1.isList p2.isList f1 f2 _ _ _ _ ⟨.bl _,H,I,rfl,q⟩
theorem CA (ns:List Int):(ns.map V.int).all Dk=true:=by simp[List.all_map,Function.comp_def,Dk]
theorem Jb (ns:List Str):(ns.map V.str).all Dk=true:=by simp[List.all_map,Function.comp_def,Dk]
end
theorem Kz:∀{bs:List Bool} {us:List Value},AR (bs.map V.bl) us->LSm.BoolsAre us bs
 |[],_,.nil=>.nil
 |b::bs,_,.cons r t=>by
  have e:_=Value.bool b:=r;subst e;exact .cons b (Kz t)
section
variable {prog:Program}{w:World}{A:Around}{E:Value->Shared->Prop}{s:Shared}{l:Addr}{vs:List Value}
theorem U5 {bs:List Bool} {Q:Value->Shared->Prop} (hh:A.handled=none) (hl:s.heap.IsList l vs.toArray) (hb:LSm.BoolsAre vs bs)
  (h:∀h' tk,(∀b o,s.heap.get? b=some o->h'.get? b=some o)->Q (.bool (bs.all id)) { s with heap:=h',toks:=tk }):wpAny (model prog w) A (call (.builtin "all") [.ref l]) Q E s:=by
 have below:l<s.heap.objs.size:=(λ⟨_,e,_⟩=>bG e:s.heap.IsList l vs.toArray->_) hl;have whole:((List.range vs.toArray.size).all λi=>(bs[i]?).getD true)=bs.all id:=by rw[bV,hb.length,LSm.range_all]
 exact call_all_walk (dP hl ⟨s.heap.objs.size,[s.heap.objs.size,l],[s.heap.objs.size],vs.toArray.size,_,_,λi=>(bs[i]?).getD true,rfl,iY (A:=A.in1) hh _ l (bI below) vs.toArray,⟨⟨_,bB _ rfl,rfl,rfl⟩,hl.push _⟩,
  (λi v s' Q' E' hP hQ=>by
   obtain⟨b,hg,hv⟩:=hb.get i v (by simpa using hP);have hQ':Q' b s':=by simpa [hg] using hQ
   subst hv;exact cO hQ'),
  λh' tk hk=>whole▸h h' tk (LSm.kept_iter hk)⟩)
end
section
variable {X:Cx}
theorem Fu (hc:X.calm=true):CL X (.builtin "all") (λxs H Q=>∃(a:Addr) (bs:List Bool),xs=[.ref a]/\AI X.K H a (bs.map V.bl)/\Q (.bl (bs.all id)) H):=by
 intro pins s σ H xs us Q I r h;obtain⟨a,bs,rfl,h1,q⟩:=h;obtain⟨u,rfl,ru⟩:=vals1 r;cases ru;obtain⟨its,r1,p1,_⟩:=I.list h1;exact U5 (I.ok.hd hc) p1.isList (Kz r1) λh' tk hk=>⟨.bl _,H,I.kept hk,rfl,q⟩
theorem Po (hc:X.calm=true):CL X (.builtin "sum") (λxs H Q=>∃(a:Addr) (ns:List Int),xs=[.ref a]/\AI X.K H a (ns.map V.int)/\Q (.int ns.sum) H):=by
 intro pins s σ H xs us Q I r h;obtain⟨a,ns,rfl,h1,q⟩:=h;obtain⟨u,rfl,ru⟩:=vals1 r;cases ru;obtain⟨its,r1,p1,_⟩:=I.list h1;have hi:=intsAre_of r1;obtain⟨zs,hz⟩:=hi.allInts.items;have due:preSum (numAt zs) zs.size=ns.sum:=by
  have:zs.toList.map (·.1)=ns:=by rw[<-nums_intItems,<-hz];exact hi.numsOf
  rw[<-this,preSum_eq,bJ (by simp)]
 exact sum_intListG (I.ok.hd hc) (hz▸p1.isList) λh' tk t' hk=>⟨.int ns.sum,H,I.kept hk,⟨_,by rw[due]⟩,q⟩
def Zk (K:PySem.W.Frag):R2:=λx y H Q=>∃l b xs zs,x=.ref l/\y=.ref b/\AI K H l xs/\AI K H b zs/\xs.length+zs.length<=sizeLine/\∀p,H p=none->Q (.ref p) (upd H p (.lst (xs++zs)))
theorem Lj:Gw X (binaryOp .Add) (Zk X.K):=by
 intro pins s σ H x y v u Q I rx ry h;obtain⟨l,b,xs,zs,rfl,rfl,h1,h2,hz,q⟩:=h;cases rx;cases ry;obtain⟨its,r,p1,_⟩:=I.list h1;obtain⟨its2,r2,p2,_⟩:=I.list h2;have l1:=r.length;have l2:=r2.length;obtain⟨⟨cls,dd,data,sl⟩,ho,hc,n,hd⟩:=id p1.isList;obtain⟨⟨cls2,dd2,data2,sl2⟩,ho2,hc2,n2,hd2⟩:=id p2.isList;simp only at hc hd hc2 hd2;subst hc hd hc2 hd2;have e:its.toArray++its2.toArray=(its++its2).toArray:=by simp
 refine concat_meets ⟨_,ho,rfl⟩ ⟨_,ho2,rfl⟩ noFill_list_add seq_list_add PySem.F.slot_list_add PySem.F.entry_list_add (PySem.F.args_list_add_2 _ _) (list_addW l b its.toArray its2.toArray n n2 dd dd2 sl sl2 (by rw[bV,bV];omega)) ⟨ho,ho2,?_⟩;rw[e];exact⟨.ref _,_,I.lnew (t':=s.toks) (r.append r2) (by rw[bx];omega),rfl,q _ I.fresh⟩
end
theorem Al {H:Hp}{p:Addr}(h:H p=none)(o:HO):Ap H (upd H p o):=λb u q=>by rw[Ag (AG q h)];exact q
theorem AW {H H':Hp}{p:Addr}(s:Ap H H')(h:H p=none)(o:HO):Ap H (upd H' p o):=λb u q=>by rw[Ag (AG q h)];exact s b u q
theorem Ap.get {H H':Hp}{a:Addr}{o:HO}(s:Ap H H')(h:H a=some o):H' a=some o:=s a o h
theorem FN:1000000<=sizeLine:=by decide
theorem small {n:Nat}(h:n<=1000000):n<=sizeLine:=bQ h FN
theorem Bd {n:Nat}(h:n<1000000):n<sizeLine:=bO h FN
theorem WD {ns:List Int}{i:Nat}{y:V}(h:(ns.map V.int)[i]?=some y):∃z,y=V.int z/\ns[i]?=some z:=by
 rw[bz] at h;cases e:ns[i]? with
 |none=>rw[e] at h;cases h
 |some z=>rw[e] at h;exact⟨z,(bf h).symm,rfl⟩
theorem OD {ns:List Int}{i:Int}(h0:0<=i)(h1:i<ns.length):Kw (ns.map V.int) i=some (.int (ns.getD i.toNat 0)):=by
 have hk:i.toNat<ns.length:=by omega
 have ek:i=((i.toNat:Nat):Int):=by omega
 have q:Kw (ns.map V.int) ((i.toNat:Nat):Int)=some (.int (ns.getD i.toNat 0)):=Jn (by rw[bz,aW hk];simp[List.getD,List.getElem?_eq_getElem hk]);rw[<-ek] at q;exact q
theorem TV {xs:List V}{i j:Int}(hi:0<=i)(hj:0<=j):JM xs (some i) (some j)=(xs.drop i.toNat).take (j.toNat-i.toNat):=by
 unfold JM;rw[show i=((i.toNat:Nat):Int) by omega,show j=((j.toNat:Nat):Int) by omega,HT.Sb,HT.Sb,gM,gM];generalize i.toNat=a;generalize j.toNat=b;apply dI;intro k;rw[dW,dW,fF,fF]
 by_cases ha:a<=xs.length
 ·rw[g9 ha]
  by_cases hb:b<=xs.length
  ·rw[g9 hb]
  ·rw[Nat.min_eq_right (by omega)]
   by_cases h1:k<xs.length-a
   ·rw[bF h1,bF (by omega)]
   ·rw[bH h1]
    split
    ·rw[cu (by omega)]
    ·rfl
 ·rw[Nat.min_eq_right (show xs.length<=a by omega)];rw[cu (by omega),cu (by omega)]
  split<;>split<;>rfl
theorem AJ {c:Bool}{A B:Prop}(h:c=false)(b:B):if c=true then A else B:=by
 subst h;rw[bH bC];exact b
theorem BA {c:Bool}{A B:Prop}(h:c=true)(b:A):if c=true then A else B:=by
 subst h;rw[bF rfl];exact b
theorem dec_true {c:Prop}[Decidable c](h:decide c=true):c:=bP h
theorem dec_false {c:Prop}[Decidable c](h:¬decide c=true):¬c:=λz=>h (bh z)
theorem Xx {t u:TT}{σ:St}{H:Hp}{Q:Bool->Hp->Prop}(c d:Bool)(ht:∀R:Bool->Hp->Prop,R c H->t σ H R)(hu:c=false->∀R:Bool->Hp->Prop,R d H->u σ H R)(q:Q (c||d) H):ZR t u σ H Q:=by
 refine ht _ ?_;cases c with
 |true=>rw[bF rfl];exact q
 |false=>rw[bH bC];exact hu rfl _ q
def J2 (J:It)(H:Hp)(xs:List V):Prop:=∀H',Ap H H'->∀i:Nat,(i<xs.length->J.go i H')/\(∀x H'',J.yld i H' x H''->H''=H'/\(i<xs.length->xs[i]?=some x))/\(xs.length<=i->J.stop i H')
theorem C2 {K:PySem.W.Frag}{a:Addr}{H:Hp}{xs:List V}(h:AI K H a xs):J2 (Xr K a) H xs:=λH' s i=>
 ⟨λhi=>⟨xs,xs[i],s.seq h,by simp[hi]⟩,λx H'' y=>⟨y.1,λ_=>y.2 xs (s.seq h)⟩,λhi=>⟨xs,s.seq h,hi⟩⟩
theorem Lz {lo:Int}{n:Nat}{H:Hp}:J2 (VV lo n) H ((List.range n).map λ(i:Nat)=>V.int (lo+(i:Int))):=λH' s i=>
 ⟨λhi=>(by simpa using hi:i<n),λx H'' y=>⟨y.1,λhi=>by
  have hi':i<n:=by simpa using hi
  rw[bz,gr hi',y.2];rfl⟩,λhi=>(by simpa using hi:n<=i)⟩
theorem comp_map {J:It} {xs:List V} {fr:List (Option Nat)} {k:Nat} {te:TE} {Q:VK} {σ:St} {H:Hp} (f:V->V) (hJ:J2 J H xs) (hn:xs.length<=1000000)
  (helt:∀(x:V) (H':Hp) (R:VK),x∈xs->Ap H H'->(∀H'',Ap H' H''->R (f x) H'')->te ((stC fr σ).set k (some x)) H' R)
  (hQ:∀l H',H l=none->Ap H H'->H' l=some (.lst (xs.map f))->Q (.ref l) H') :
  Da fr (Bt k) PD te σ Q J H:=by
 intro l hl;refine⟨λi m σ' H'=>m=xs.length-i/\i<=xs.length/\(∀y,σ'.set k y=(stC fr σ).set k y)/\Ap H H'/\H' l=some (.lst ((xs.take i).map f)),⟨xs.length,by simp,bU _,λ_=>rfl,Al hl _,by rw[Ae,eY,eE]⟩,?_⟩
 rintro i m σ' H' ⟨rfl,hi,hσ,hs,hl'⟩
 obtain⟨h1,h2,h3⟩:=hJ H' hs i
 by_cases hlt:i<xs.length
 ·refine .inr ⟨h1 hlt,λx H'' y=>?_⟩;obtain⟨rfl,hx⟩:=h2 x H'' y;have hx:=hx hlt;show te (σ'.set k (some x)) H'' _;rw[hσ];refine helt x H'' _ (a8 hx) hs λH4 s4=>?_
  refine⟨_,s4.get hl',Bd (by rw[aS,b6];omega),xs.length-(i+1),by omega,rfl,hlt,λy=>by rw[dH],AW (hs.trans s4) hl _,?_⟩;rw[Ae,bN,hx];simp
 ·have e:i=xs.length:=by omega
  subst e;exact .inl ⟨h3 (aZ _),hQ l H' hl hs (by rw[hl',bJ (aZ _)])⟩
section
variable {X:Cx}{K:PySem.W.Frag}
theorem Ml (h:X.K=K):Y7 X (Zd K):=by subst h;exact A7
theorem DT (h:X.K=K):Y7 X (Zb K):=by subst h;exact AF
theorem Hw (h:X.K=K):CL X (.builtin "len") (λxs H Q=>∃p ys,xs=[.ref p]/\(AI K H p ys\/AV K H p ys)/\Q (.int ys.length) H):=by subst h;exact AB
end
theorem Kg {J:It} {xs:List V} {fr:List (Option Nat)} {k:Nat} {tt:TT} {te:TE} {Q:VK} {σ:St} {H:Hp} (p:V->Bool) (f:V->V) (hJ:J2 J H xs) (hn:xs.length<=1000000)
  (htest:∀(x:V) (H':Hp) (R:Bool->Hp->Prop),x∈xs->Ap H H'->R (p x) H'->tt ((stC fr σ).set k (some x)) H' R)
  (helt:∀(x:V) (H':Hp) (R:VK),x∈xs->p x=true->Ap H H'->(∀H'',Ap H' H''->R (f x) H'')->te ((stC fr σ).set k (some x)) H' R)
  (hQ:∀l H',H l=none->Ap H H'->H' l=some (.lst ((xs.filter p).map f))->Q (.ref l) H'):Da fr (Bt k) tt te σ Q J H:=by
 intro l hl;refine⟨λi m σ' H'=>m=xs.length-i/\i<=xs.length/\(∀y,σ'.set k y=(stC fr σ).set k y)/\Ap H H'/\H' l=some (.lst (((xs.take i).filter p).map f)),⟨xs.length,by simp,bU _,λ_=>rfl,Al hl _,by rw[Ae];rfl⟩,?_⟩
 rintro i m σ' H' ⟨rfl,hi,hσ,hs,hl'⟩
 obtain⟨h1,h2,h3⟩:=hJ H' hs i
 by_cases hlt:i<xs.length
 ·refine .inr ⟨h1 hlt,λx H'' y=>?_⟩;obtain⟨rfl,hx⟩:=h2 x H'' y;have hx:=hx hlt;have hm:=a8 hx;have et:(xs.take (i+1)).filter p=(xs.take i).filter p++(if p x=true then[x] else[]):=by
   rw[bN,hx,dh];cases q:p x<;>simp[q]
  show tt (σ'.set k (some x)) H'' _;rw[hσ];refine htest x H'' _ hm hs ?_;refine Co (λc=>?_) (λc=>?_)
  ·refine helt x H'' _ hm c hs λH4 s4=>?_
   refine⟨_,s4.get hl',Bd ?_,xs.length-(i+1),by omega,rfl,hlt,λy=>by rw[dH],AW (hs.trans s4) hl _,?_⟩
   ·rw[aS];have a:=bW p (xs.take i);rw[b6] at a;omega
   ·rw[Ae,et,bF c,bA];rfl
  ·exact⟨xs.length-(i+1),by omega,rfl,hlt,λy=>by rw[dH],hs,by rw[hl',et,bH c,cm]⟩
 ·have e:i=xs.length:=by omega
  subst e;exact .inl ⟨h3 (aZ _),hQ l H' hl hs (by rw[hl',bJ (aZ _)])⟩
def Ok (H:Hp):V->Prop
 | .non=>True
 | .bl _=>True
 | .int _=>True
 | .str z=>z.length<=1000
 | .ref a=>(∃xs,H a=some (.lst xs))\/∃xs,H a=some (.tup xs)
 |_=>False
def Hk (H:Hp):V->String
 | .non=>"NoneType"
 | .bl _=>"bool"
 | .int _=>"int"
 | .str _=>"str"
 | .ref a=>match H a with
  |some (.lst _)=>"list"
  |some (.tup _)=>"tuple"
  |_=>"?"
 |_=>"?"
theorem Ok.ty {H:Hp}{v:V}(h:Ok H v)(K:PySem.W.Frag):TyOf K H v (.type (Hk H v)):=by
 cases v with
 |non=>exact .non
 |bl b=>exact .bl b
 |int i=>exact .int i
 |str z=>exact .str z
 |ref a=>
  rcases h with⟨xs,e⟩|⟨xs,e⟩
  ·have q:Hk H (.ref a)="list":=by simp only[Hk,e]
   rw[q];exact .lst e
  ·have q:Hk H (.ref a)="tuple":=by simp only[Hk,e]
   rw[q];exact .tup e
 |_=>exact h.elim
def isA (t c:String):Bool:=t == c||(t == "bool"&&c == "int")
theorem Xh {t c:String}(K:PySem.W.Frag)(ht:t∈["NoneType","bool","int","str","list","tuple"])(hc:c∈["bool","int","str","list","tuple"]):PySem.W.kitOne K (.type t) (.type c)=some (isA t c):=by
 have all:∀t∈["NoneType","bool","int","str","list","tuple"],∀c∈["bool","int","str","list","tuple"],(if(Value.type t == Value.type c)=true then some true else if PySem.W.kitMeta c=true then(fastBuiltinMro t).map (·.contains (.type c)) else none)=some (isA t c):=by decide +kernel
 exact Yx (all t ht c hc) K
theorem Ok.tyMem {H:Hp}{v:V}(h:Ok H v):Hk H v∈["NoneType","bool","int","str","list","tuple"]:=by
 cases v with
 |ref a=>
  rcases h with⟨xs,e⟩|⟨xs,e⟩
  ·simp only[Hk,e];decide
  ·simp only[Hk,e];decide
 |byt _=>exact h.elim
 |flt _=>exact h.elim
 |ty _=>exact h.elim
 |_=>simp only[Hk];decide
theorem Ok.kit {H:Hp}{v:V}(h:Ok H v)(K:PySem.W.Frag){c:String}(hc:c∈["bool","int","str","list","tuple"]:=by decide):PySem.W.kitOne K (.type (Hk H v)) (.type c)=some (isA (Hk H v) c):=Xh K h.tyMem hc
theorem Lm {t u:TE}{σ:St}{H:Hp}{Q:VK}(c d:Bool)(ht:∀R:VK,R (.bl c) H->t σ H R)(hu:c=true->∀R:VK,R (.bl d) H->u σ H R)(q:Q (.bl (c&&d)) H):XD t u σ H Q:=by
 refine ht _ ⟨c,rfl,?_⟩;cases c with
 |false=>rw[bH bC];exact q
 |true=>rw[bF rfl];exact hu rfl _ q
theorem Xi {H:Hp}{a:Addr}{xs:List V}(e:H a=some (.lst xs)):Hk H (.ref a)="list":=by simp only[Hk,e]
theorem WL {H:Hp}{a:Addr}{xs:List V}(e:H a=some (.tup xs)):Hk H (.ref a)="tuple":=by simp only[Hk,e]
theorem Ok.elim {H:Hp} {v:V} (ok:Ok H v) {C:Prop} (c1:v=.non->Hk H v="NoneType"->C) (c2:∀b,v=.bl b->Hk H v="bool"->C) (c3:∀i,v=.int i->Hk H v="int"->C) (c4:∀z,v=.str z->z.length<=1000->Hk H v="str"->C)
  (c5:∀a xs,v=.ref a->H a=some (.lst xs)->Hk H v="list"->C) (c6:∀a xs,v=.ref a->H a=some (.tup xs)->Hk H v="tuple"->C):C:=by
 cases v with
 |non=>exact c1 rfl rfl
 |bl b=>exact c2 b rfl rfl
 |int i=>exact c3 i rfl rfl
 |str z=>exact c4 z rfl ok rfl
 |ref a=>
  rcases ok with⟨xs,e⟩|⟨xs,e⟩
  ·exact c5 a xs rfl e (Xi e)
  ·exact c6 a xs rfl e (WL e)
 |_=>exact(show False from ok).elim
def GW (H:Hp)(v:V):Bool:=isA (Hk H v) "int" && !isA (Hk H v) "bool"
theorem Sr (H:Hp)(i:Int):GW H (.int i)=true:=by
 show(isA "int" "int" && !isA "int" "bool")=true
 decide
theorem UV {H:Hp}{v:V}(ok:Ok H v)(h:GW H v=true):∃i,v=.int i:=by
 unfold GW at h;refine ok.elim (λ_ e=>?_) (λ_ _ e=>?_) (λi e _=>⟨i,e⟩) (λ_ _ _ e=>?_) (λ_ _ _ _ e=>?_) (λ_ _ _ _ e=>?_)
 all_goals (rw[e] at h;exact absurd h (by decide))
def JN (a b:Int):V->Bool
 | .int i=>decide (a<=i)&&decide (i<=b)
 |_=>false
theorem WT {H:Hp}{v:V}{a b:Int}(h:GW H v=false):JN a b v=false:=by
 cases v with
 |int i=>rw[Sr] at h;cases h
 |_=>rfl
theorem T4 {H:Hp}{v:V}(ok:Ok H v)(h:isA (Hk H v) "tuple"=true):∃a xs,v=.ref a/\H a=some (.tup xs):=by
 refine ok.elim (λ_ e=>?_) (λ_ _ e=>?_) (λ_ _ e=>?_) (λ_ _ _ e=>?_) (λ_ _ _ _ e=>?_) (λa xs e1 e2 _=>⟨a,xs,e1,e2⟩)
 all_goals (rw[e] at h;exact absurd h (by decide))
theorem YA {H:Hp}{v:V}(ok:Ok H v)(h:isA (Hk H v) "str"=true):∃z,v=.str z/\z.length<=1000:=by
 refine ok.elim (λ_ e=>?_) (λ_ _ e=>?_) (λ_ _ e=>?_) (λz e1 e2 _=>⟨z,e1,e2⟩) (λ_ _ _ _ e=>?_) (λ_ _ _ _ e=>?_)
 all_goals (rw[e] at h;exact absurd h (by decide))
def ZO (x:Str):It:=⟨λi _=>i<x.cps.size,λi H v H'=>H'=H/\∃c,x.cps[i]?=some c/\v=.str ⟨#[c]⟩,λi _=>x.cps.size<=i⟩
theorem QX {P:Program}{w:World}{K:PySem.W.Frag}{tg:Expr}(it:Addr)(x:Str)(t:Tok):Turn P w K tg (ZO x) [it] it (λi h=>h.IsStrIter it "str_ascii_iterator" x t i) where
 mem:=by simp
 obj:=λi h st b hb=>by
  have e:b=it:=by simpa using hb
  subst e;obtain⟨o,e,c,d⟩:=st;exact⟨o,e,λv z=>by rw[d] at z;cases z⟩
 keep:=λi h h' st k=>by
  obtain⟨o,e,c,d⟩:=st;exact⟨o,k it (by simp) o e,c,d⟩
 item:=by
  intro X hP hw hK hc i pins s σ H E I hf st hg;subst hP hw hK;have hg':i<x.cps.size:=hg;obtain⟨f0,f1,f2,f3,f4,f5⟩:=hf it (by simp);refine wpAny_pyNext_ascii_item st (c:=x.cps[i]) (by simp[hg']) λh' st' sb=>?_
  have I1:Inv X pins σ H { s with heap:=h',toks:=s.toks+1 }:=I.turned (λb o hb e=>(sb.2 b hb).trans e) f0 f1 f3 f4 f5;obtain⟨o,e,c,d⟩:=id st';exact⟨_,rfl,PB (s:={ s with heap:=h',toks:=s.toks+1 }) e c d (by decide) ⟨.str ⟨#[x.cps[i]]⟩,H,I1,⟨_,rfl⟩,⟨rfl,_,by simp[hg'],rfl⟩,st',λb hb=>(hf b hb).1⟩⟩
 done:=by
  intro X hP hw hK hc i pins s σ H E I hf st hg;subst hP hw hK;have hg':x.cps.size<=i:=hg;obtain⟨f0,f1,f2,f3,f4,f5⟩:=hf it (by simp);exact wpAny_pyNext_ascii_end (I.ok.hd hc) st (by simp[hg']) λh' eb=>⟨rfl,I.turned (t':=s.toks) (λb o hb e=>eb b o hb e) f0 f1 f3 f4 f5⟩
 self:=λ_ _ _ _ _ st h=>wpAny_pyIter_striter_ascii st h
theorem Sv {P:Program}{w:World}{K:PySem.W.Frag}{tg:Expr}(it:Addr)(x:Str)(t:Tok):Turn P w K tg (ZO x) [it] it (λi h=>h.IsStrIter it "str_iterator" x t i) where
 mem:=by simp
 obj:=λi h st b hb=>by
  have e:b=it:=by simpa using hb
  subst e;obtain⟨o,e,c,d⟩:=st;exact⟨o,e,λv z=>by rw[d] at z;cases z⟩
 keep:=λi h h' st k=>by
  obtain⟨o,e,c,d⟩:=st;exact⟨o,k it (by simp) o e,c,d⟩
 item:=by
  intro X hP hw hK hc i pins s σ H E I hf st hg;subst hP hw hK;have hg':i<x.cps.size:=hg;obtain⟨f0,f1,f2,f3,f4,f5⟩:=hf it (by simp);refine wpAny_pyNext_wide_item st (c:=x.cps[i]) (by simp[hg']) λh' st' sb=>?_
  have I1:Inv X pins σ H { s with heap:=h',toks:=s.toks+1 }:=I.turned (λb o hb e=>(sb.2 b hb).trans e) f0 f1 f3 f4 f5;obtain⟨o,e,c,d⟩:=id st';exact⟨_,rfl,PB (s:={ s with heap:=h',toks:=s.toks+1 }) e c d (by decide) ⟨.str ⟨#[x.cps[i]]⟩,H,I1,⟨_,rfl⟩,⟨rfl,_,by simp[hg'],rfl⟩,st',λb hb=>(hf b hb).1⟩⟩
 done:=by
  intro X hP hw hK hc i pins s σ H E I hf st hg;subst hP hw hK;have hg':x.cps.size<=i:=hg;obtain⟨f0,f1,f2,f3,f4,f5⟩:=hf it (by simp);exact wpAny_pyNext_wide_end (I.ok.hd hc) st (by simp[hg']) λh' eb=>⟨rfl,I.turned (t':=s.toks) (λb o hb e=>eb b o hb e) f0 f1 f3 f4 f5⟩
 self:=λ_ _ _ _ _ st h=>wpAny_pyIter_striter_wide st h
section
variable {X:Cx}{tg:Expr}
def av (tl:TE):TI:=λσ H R=>tl σ H λx H1=>∃z,x=.str z/\R (ZO z) H1
theorem MO {l:Expr}{tl:TE}(hl:PE X l tl):PI X tg l (av tl):=by
 intro pins s σ H R I h;refine Bn (hl pins s σ H _ I h) λv s1 ⟨x,H1,I1,r1,q1⟩=>?_
 obtain⟨z,e,q⟩:=q1;subst e;obtain⟨t,rfl⟩:=r1;have fp:∀b∈[s1.heap.objs.size],Jv X pins H1 b:=λb hb=>by
  have e:b=s1.heap.objs.size:=by simpa using hb
  subst e;exact I1.fpOk (aZ _) (I1.hok.fresh (aZ _))
 cases ha:z.cps.all (· < 128)
 ·exact wpAny_pyIter_wide ha ⟨s1.heap.objs.size,[s1.heap.objs.size],_,_,H1,rfl,I1.kept (t':=s1.toks) (λb o e=>aV _ e),Sv _ z t,⟨_,bB _ rfl,rfl,rfl⟩,fp,q⟩
 ·exact wpAny_pyIter_ascii ha ⟨s1.heap.objs.size,[s1.heap.objs.size],_,_,H1,rfl,I1.kept (t':=s1.toks) (λb o e=>aV _ e),QX _ z t,⟨_,bB _ rfl,rfl,rfl⟩,fp,q⟩
end
theorem GA {x:Str}{H:Hp}:J2 (ZO x) H (x.cps.toList.map λc=>V.str ⟨#[c]⟩):=λH' s i=>
 ⟨λhi=>(by simpa using hi:i<x.cps.size),λv H'' y=>⟨y.1,λhi=>by
  obtain⟨_,c,hc,e⟩:=y;rw[bz,dZ,hc,e];rfl⟩,λhi=>(by simpa using hi:x.cps.size<=i)⟩
section
variable {X:Cx}
def YM:V->List V->Hp->VK->Prop:=λx vs H Q=>∃t u,x=.str t/\vs=[.str u]/\0<=Txt.find t u/\Q (.int (Txt.find t u)) H
theorem TZ (hc:X.calm=true):ZH X "str.index" YM:=by
 intro pins s σ H x vs v us Q I rx rv h;obtain⟨t,u,rfl,rfl,h0,q⟩:=h;obtain⟨tk,rfl⟩:=rx;obtain⟨y,rfl,ry⟩:=rv.one;obtain⟨tk2,rfl⟩:=ry;refine index_or (I.ok.hd hc) (λe=>absurd e (by omega)) λ_ _=>⟨.int (Txt.find t u),H,I.tok _,⟨_,rfl⟩,q⟩
end
section
variable {X:Cx}
def ZF:R2:=λx y H Q=>∃(z:Str) (n:Int),x=.str z/\y=.int n/\n<=1000/\-1000<=n/\z.length<=1000/\Q (.str (PySem.Txt.mul z n)) H
theorem mulOk_of {z:Str}{n:Int}(h1:n<=1000)(h0:-1000<=n)(h2:z.length<=1000):MulOk z n:=by
 refine⟨?_,λh3 _=>?_,λh3 _=>?_⟩
 ·rw[bD (by omega),bD (by omega)];rfl
 ·have:(2^63-1:Int)/n≥(2^63-1:Int)/1000:=by
   have hn:0<n:=by omega
   have a:(2^63-1:Int)/1000*n<=2^63-1:=by
    have b:(2^63-1:Int)/1000*n<=(2^63-1:Int)/1000*1000:=Int.mul_le_mul_of_nonneg_left h1 (by decide);have c:(2^63-1:Int)/1000*1000<=2^63-1:=by decide
    omega
   exact(Int.le_ediv_iff_mul_le hn).mpr a
  have d:(1000:Int)<=(2^63-1:Int)/1000:=by decide
  omega
 ·have:z.length*n.toNat<=1000*1000:=Nat.mul_le_mul h2 (by omega);have e:Builtin.Str.tooLong (z.length*n.toNat)=decide (z.length*n.toNat>sizeLine):=rfl;rw[e];exact bD (by have:=FN;omega)
theorem Mz:Gw X (binaryOp .Mult) ZF:=by
 intro pins s σ H x y v u Q I rx ry h;obtain⟨z,n,rfl,rfl,h1,h0,h2,q⟩:=h;obtain⟨t,rfl⟩:=rx;obtain⟨t',rfl⟩:=ry;exact SB.mul (mulOk_of h1 h0 h2) λt' k=>⟨.str _,H,I.tok k,⟨_,rfl⟩,q⟩
theorem QP {ys:List Str}:∀{us:List Value},AR (ys.map V.str) us->StrsAre us ys:=by
 induction ys with
 |nil=>intro us r;rw[eE] at r;cases r;exact .nil
 |cons n ns ih=>
  intro us r;rw[bg] at r;cases r with
  |cons r1 r2=>
   obtain⟨t,e⟩:=r1;subst e;exact .cons n t (ih r2)
def rJoin (K:PySem.W.Frag):V->List V->Hp->VK->Prop:=λx vs H Q=>∃(a:Addr) (z:Str) (ys:List Str),x=.str z/\vs=[.ref a]/\AI K H a (ys.map V.str)/\(ys.map (·.length)).sum+ys.length*z.length<=16777216/\Q (.str (PySem.Txt.join z ys)) H
theorem Xg (_:X.calm=true):ZH X "str.join" (rJoin X.K):=by
 intro pins s σ H x vs v us Q I rx rv h;obtain⟨a,z,ys,rfl,rfl,hq,hz,q⟩:=h;obtain⟨tk,rfl⟩:=rx;obtain⟨y,rfl,ry⟩:=rv.one;cases ry;obtain⟨its,r1,p1,_⟩:=I.list hq;exact join_list p1.isList (QP (by simpa using r1)) hz λt' k=>⟨.str _,H,I.tok k,⟨_,rfl⟩,q⟩
end
end L2
namespace L2
open PySem PySem.Spec PyProof.Rows PySem.Builtin.Str
abbrev Cf (z:Str):List Nat:=z.cps.toList
theorem BP (z:Str):(Cf z).length=z.length:=by simp[Str.length]
theorem RB {x y:Str}(h:Cf x=Cf y):x=y:=by
 obtain⟨a⟩:=x;obtain⟨b⟩:=y;have:a=b:=gU.mp h;rw[this]
theorem RR (a y:Str):Cf (a++y)=Cf a++Cf y:=by
 show(a.cps++y.cps).toList=_;simp
end L2
namespace L2
open PySem PySem.Spec PyProof.Rows
theorem VR:bootBuiltins "abs"=some (.builtin "abs"):=by decide +kernel
theorem Wo (a v:Value):checkTypeCall "enumerate" ⟨[a],[("start",v)]⟩=pure ():=by kernel_rfl
theorem WS (a v:Value):checkBuiltinCall "enumerate.__new__" ⟨[.type "enumerate",a],[("start",v)]⟩=pure ():=by kernel_rfl
theorem We (obj a v:Value):argsOk "object.__init__" ⟨[obj,a],[("start",v)]⟩:=by kernel_rfl
theorem Wx (l:Addr)(items:Array Value)(m:Nat)(sl:Array (Option Value))(t:Tok):Meets (Builtin.«enumerate.__new__» ⟨[.type "enumerate",.ref l],[("start",.int 1 t)]⟩) λ_ R s=>
  s.heap.get? l=some { cls:=.type "list",dict:=none,data:=.seq items m,slots:=sl }/\R (.ok (.ret (.ref (s.heap.objs.size+1))))
   { s with heap:=(s.heap.push { cls:=.type "list_iterator",data:=.fields #[.ref l,.int 0 0] }).push { cls:=.type "enumerate",data:=.fields #[.none,.bool false,.ref s.heap.objs.size,rawInt 1,.none,.none] } }:=by
 refine .of_wp λprog w A R s h=>?_
 obtain⟨hl,h⟩:=h;have hsub:=sub_enumerate;have hL:s.heap.IsList l items:=⟨_,hl,rfl,m,rfl⟩
 obtain⟨hp,g,d,tk,os⟩:=s
 wp_walk using fg hl
 refine wpAny_stack_any λst=>aX ?_
 split
 ·rename_i c _ _ _ _ _
  cases hcc:(c == Value.type "enumerate")<;>wp_walk using fg hl,dP hL
  all_goals (refine⟨_,rfl,?_⟩;rw[cf];exact h)
 ·wp_walk using fg hl,dP hL
  refine⟨_,rfl,?_⟩;rw[cf];exact h
theorem WI {self a v:Value}:Meets (Builtin.«object.__init__» ⟨[self,a],[("start",v)]⟩) λ_ R s=>s.TypeIs self "enumerate"/\R (.ok (.ret .none)) s:=by
 have hl:=F.called_enumerate.init.lookup;have hm:=F.called_enumerate.made;have hne:(some "enumerate.__new__" != some "object.__new__")=true:=by decide
 refine .of_wp λprog w A R s h=>?_
 obtain⟨hT,hq⟩:=h
 repeat (any_goals (first|wp_step|assumption))
 all_goals exact⟨_,rfl,hq⟩
section
variable {prog:Program}{w:World}{A:Around}{E:Value->Shared->Prop}{s:Shared}
theorem Tv {l:Addr} {items:Array Value} {m:Nat} {sl:Array (Option Value)} {t:Tok} {Q:Value->Shared->Prop} (hl:s.heap.get? l=some { cls:=.type "list",dict:=none,data:=.seq items m,slots:=sl })
  (h:Q (.ref (s.heap.objs.size+1)) { s with heap:=(s.heap.push { cls:=.type "list_iterator",data:=.fields #[.ref l,.int 0 0] }).push { cls:=.type "enumerate",data:=.fields #[.none,.bool false,.ref s.heap.objs.size,rawInt 1,.none,.none] } }) :
  wpAny (model prog w) A (call (.type "enumerate") [.ref l] [("start",.int 1 t)]) Q E s:=by
 have ft:=F.called_enumerate;obtain⟨c,tl,hmro⟩:=ft.mro;have hmade:=ft.made;have hsub:=ft.sub;have hct:=Wo (.ref l) (.int 1 t);refine gm (iE (aX (?_:_/\_)));refine⟨Code.quiet_builtin _ (by decide +kernel),cS F.entry_type_call ?_⟩;rw[Around.under_plain (weight_type_call_type "enumerate" _ _) (units_type_call_type "enumerate" _ _)];have h1:=ft.notType;have h2:=ft.canCreate
 repeat (any_goals (first|wp_step|assumption))
 let s':Shared:={ s with heap:=(s.heap.push { cls:=.type "list_iterator",data:=.fields #[.ref l,.int 0 0] }).push { cls:=.type "enumerate",data:=.fields #[.none,.bool false,.ref s.heap.objs.size,rawInt 1,.none,.none] } }
 have key:codeAny (model prog w) A.in1 (.call (.builtin "enumerate.__new__") ⟨[.type "enumerate",.ref l],[("start",.int 1 t)]⟩) (λr s1=>r=.ok (.ret (.ref (s.heap.objs.size+1)))/\s1=s') s:=
  fD ft.plain F.entry_enumerate_new (ip (WS _ _) (Wx l items m sl t prog w A.in1 (λr s1=>r=.ok (.ret (.ref (s.heap.objs.size+1)))/\s1=s') s ⟨hl,rfl,rfl⟩))
 refine dC key λr s₁ hr=>?_
 obtain⟨rfl,rfl⟩:=hr;have hz:(s.heap.push { cls:=.type "list_iterator",data:=.fields #[.ref l,.int 0 0] }).objs.size=s.heap.objs.size+1:=cf ..;have hT:s'.TypeIs (.ref (s.heap.objs.size+1)) "enumerate":=⟨_,by rw[<-hz];exact bB _ rfl,rfl⟩
 have hq:Q (.ref (s.heap.objs.size+1)) s':=h
 clear_value s'
 have hli:=ft.init.lookup;have hbi:=ft.init.bind (.ref (s.heap.objs.size+1));show wpAny _ _ _ _ _ _
 repeat (any_goals (first|wp_step|assumption))
 have key2:codeAny (model prog w) A.in1 (.call (.builtin "object.__init__") ⟨[.ref (s.heap.objs.size+1),.ref l],[("start",.int 1 t)]⟩) (λr s1=>r=.ok (.ret .none)/\s1=s') s':=
  fD ft.init.plain F.entry_object_init (ft.init.check _ _ _ _ _ _ _ _ hT (We _ _ _) (WI prog w A.in1 (λr s1=>r=.ok (.ret .none)/\s1=s') s' ⟨hT,rfl,rfl⟩))
 refine dC key2 λr s₂ hr=>?_
 obtain⟨rfl,rfl⟩:=hr;show wpAny _ _ _ _ _ _
 repeat (any_goals (first|wp_step|assumption))
theorem Kj (hh:A.handled=none)(it l:Addr)(hne:l≠it)(items:Array Value) :
  Draws prog w A it [it,l] (items.size+1) (λj v=>∃i,j=i+1/\items[i]?=some v) (λj h=>∃i,j=i+1/\h.IsListIter it l i/\h.IsList l items):=by
 have D:=Draws.list (prog:=prog) (w:=w) (A:=A) hh it l hne items;refine⟨λj h ⟨i,_,st⟩=>D.live i h st,λj h h' ⟨i,e,st⟩ hk=>⟨i,e,D.frame i h h' st hk⟩,λj s Q E hj ⟨i,e,st⟩ hQ=>?_,λs Q E ⟨i,e,st⟩ hE=>?_⟩
 ·subst e;exact D.item i s Q E (by omega) st λx h' tk hx st' hs=>hQ x h' tk ⟨i,rfl,hx⟩ ⟨i+1,rfl,st'⟩ hs
 ·have e':i=items.size:=by omega
  subst e';exact D.done s Q E st hE
end
section
variable {X:Cx}{pins:List (Addr×Obj)}{σ:St}{H:Hp}{s:Shared}{h':Heap}
theorem Inv.turned2 {t':Nat} {e it T:Addr} {xs:List V} {us:List Value} (I:Inv X pins σ H s) (fe:Jv X pins H e) (fi:Jv X pins H it) (k:∀b o,b≠e->b≠it->s.heap.get? b=some o->h'.get? b=some o)
  (hT:s.heap.objs.size<=T) (r:AR xs us) (hz:xs.length<=sizeLine) (ht:KU (Zv xs) h' T us.toArray):Inv X pins σ (upd H T (.tup xs)) { s with heap:=h',toks:=t' }:=by
 obtain⟨e0,e1,e2,e3,e4,e5⟩:=fe;obtain⟨i0,i1,i2,i3,i4,i5⟩:=fi;have hn:H T=none:=I.hok.fresh hT;have nT:∀b o,s.heap.get? b=some o->b≠T:=λb o q=>bI (bO (bG q) hT)
 have kc:∀b o,b∉[e,it]->s.heap.get? b=some o->h'.get? b=some o:=λb o hb q=>k b o (λz=>hb (by simp[z])) (λz=>hb (by simp[z])) q
 have up:∀b u,H b=some u->upd H T (.tup xs) b=some u:=λb u q=>by rw[Ag (AG q hn)];exact q
 refine I.step (g':=s.gens) (d':=s.drawn) (ch:=[e,it]) (λb hb=>?_) (λb o _ _ hc q _=>kc b o hc q) (λb o _ _ hc q _=>⟨o.slots,kc b o hc q⟩) (λb o _ q n=>by rw[Ag (nT b o q)];exact n)
  (λb o hc q=>⟨o,kc b o hc q⟩) (λb ys q=>up b _ q) (λb o u q=>up b _ q) (λb ps q=>⟨#[],by rw[up b _ q];simp⟩) (λm hm=>?_) (λb u q=>?_) I.bare
 ·rcases bE.mp hb with rfl|hb
  ·exact⟨e3,e1,e4,e5⟩
  ·rw[ba.mp hb];exact⟨i3,i1,i4,i5⟩
 ·obtain⟨o,es,ep,ho,hr⟩:=hm;exact⟨o,es,ep,k _ o (Ne.symm e1) (Ne.symm i1) ho,hr⟩
 ·by_cases hb:b=T
  ·subst hb;rw[Ae] at q;cases q;exact⟨hz,us,r,ht⟩
  ·rw[Ag hb] at q;have nn:∀c v,H c=some v->c≠e/\c≠it:=λc v z=>⟨λy=>(by rw[y,e0] at z;cases z),λy=>(by rw[y,i0] at z;cases z)⟩
   refine(I.hok b u q).stay (λc v hc z=>?_) (λc z=>up c _ z) λc ys z=>up c _ z
   rcases hc with y|y
   ·subst y;exact k c v (nn c u q).1 (nn c u q).2 z
   ·exact k c v (nn c _ y).1 (nn c _ y).2 z
theorem Inv.turned2n {t':Nat}{e it:Addr}(I:Inv X pins σ H s)(fe:Jv X pins H e)(fi:Jv X pins H it)(k:∀b o,b≠e->b≠it->s.heap.get? b=some o->h'.get? b=some o):Inv X pins σ H { s with heap:=h',toks:=t' }:=by
 obtain⟨e0,e1,e2,e3,e4,e5⟩:=fe;obtain⟨i0,i1,i2,i3,i4,i5⟩:=fi;have kc:∀b o,b∉[e,it]->s.heap.get? b=some o->h'.get? b=some o:=λb o hb q=>k b o (λz=>hb (by simp[z])) (λz=>hb (by simp[z])) q
 refine I.step (g':=s.gens) (d':=s.drawn) (ch:=[e,it]) (λb hb=>?_) (λb o _ _ hc q _=>kc b o hc q) (λb o _ _ hc q _=>⟨o.slots,kc b o hc q⟩) (λb o _ q n=>n)
  (λb o hc q=>⟨o,kc b o hc q⟩) (λb ys q=>q) (λb o u q=>q) (λb ps q=>⟨#[],by rw[q];simp⟩) (λm hm=>?_) (λb u q=>?_) I.bare
 ·rcases bE.mp hb with rfl|hb
  ·exact⟨e3,e1,e4,e5⟩
  ·rw[ba.mp hb];exact⟨i3,i1,i4,i5⟩
 ·obtain⟨o,es,ep,ho,hr⟩:=hm;exact⟨o,es,ep,k _ o (Ne.symm e1) (Ne.symm i1) ho,hr⟩
 ·have nn:∀c v,H c=some v->c≠e/\c≠it:=λc v z=>⟨λy=>(by rw[y,e0] at z;cases z),λy=>(by rw[y,i0] at z;cases z)⟩
  refine(I.hok b u q).stay (λc v hc z=>?_) (λc z=>z) λc ys z=>z
  rcases hc with y|y
  ·subst y;exact k c v (nn c u q).1 (nn c u q).2 z
  ·exact k c v (nn c _ y).1 (nn c _ y).2 z
end
def ZK (K:PySem.W.Frag)(a:Addr):It:=
 ⟨λi H=>∃xs x,AI K H a xs/\xs[i]?=some x,λi H v H'=>∃T x,H T=none/\v=.ref T/\(∀xs,AI K H a xs->xs[i]?=some x)/\H'=upd H T (.tup [.int ((i:Int)+1),x]),λi H=>∃xs,AI K H a xs/\xs.length=i⟩
theorem Sx {P:Program}{w:World}{K:PySem.W.Frag}{els:List Expr}{kk:Nat}{pp:Pos}(a e it:Addr)(hei:e≠it):Turn P w K (.Tuple els kk pp) (ZK K a) [e,it] e (λi h=>(∃old,IsEnum h e it ((i:Int)+1) old)/\h.IsListIter it a i) where
 mem:=by simp
 obj:=λi h st b hb=>by
  obtain⟨⟨old,he⟩,o,ho,_,hd⟩:=st;rcases bE.mp hb with rfl|hb
  ·exact⟨_,he,λv z=>by cases z⟩
  ·rw[ba.mp hb];exact⟨o,ho,λv z=>by rw[hd] at z;cases z⟩
 keep:=λi h h' st hk=>by
  obtain⟨⟨old,he⟩,o,ho,r⟩:=st;exact⟨⟨old,hk e (by simp) _ he⟩,o,hk it (by simp) o ho,r⟩
 item:=λX hP hw hK hc i pins s σ H E I hf st hg=>by
  subst hP hw hK;obtain⟨xs,x,hq,hx⟩:=hg;obtain⟨its,rv,p,hz⟩:=I.list hq;obtain⟨⟨old,he⟩,hit⟩:=st;have fe:=hf e (by simp);have fi:=hf it (by simp);obtain⟨u,hu,ru⟩:=rv.get hx;have il:=p.isList;have nae:a≠e:=λz=>by
   obtain⟨o,ho,c1,_⟩:=il;rw[z,he] at ho;cases ho;injection c1 with y;exact absurd y (by decide)
  have nai:a≠it:=λz=>by
   obtain⟨o,ho,c1,_⟩:=il;obtain⟨o2,ho2,c2,_⟩:=hit;rw[z,ho2] at ho;cases ho;rw[c2] at c1;injection c1 with y;exact absurd y (by decide)
  have W:=fV (prog:=X.prog) (w:=X.w) (A:=X.A) (Kj (prog:=X.prog) (w:=X.w) (A:=X.A.in1) (I.ok.hd hc) it a nai its.toArray) e hei (by simp[hei,Ne.symm nae]) (by simp);refine W.item (i+1) s _ E (by have:=(bu.mp hu).1;simp;omega) ⟨⟨old,by simpa using he⟩,i,rfl,hit,il⟩ λT vals h1 tk ⟨t,y,⟨i',ei,hy⟩,ev⟩ hT htu hm hk=>?_
  refine⟨.ref T,rfl,W.go els kk pp (i+1) T _ _ E hm λh2 st2 hk2=>?_⟩;obtain⟨⟨old2,he2⟩,i2,e2,hit2,_⟩:=st2;have e3:i'=i:=by omega
  have e4:i2=i+1:=by omega
  subst e3 e4 ev;have ey:y=u:=by
   have q1:its.toArray[i']?=some u:=by simpa using hu
   exact bf (hy.symm.trans q1)
  subst ey;have hTw:T∉[e,it]:=W.apart _ _ _ hm;have ht2:KU true h2 T #[.int ((i':Int)+1) t,y]:=by
   obtain⟨o,ho,c,m,d⟩:=htu;exact⟨o,hk2 T o hTw ho,c,m,d,λz=>nomatch z⟩
  refine⟨.ref T,upd H T (.tup [.int ((i':Int)+1),x]),?_,rfl,⟨T,x,I.hok.fresh hT,rfl,λzs hzs=>(by rw[I.list_inj hzs hq];exact hx),rfl⟩,⟨⟨old2,by simpa using he2⟩,hit2⟩,λb hb=>?_⟩
  ·have I2:=I.turned2 (h':=h2) (t':=tk) (xs:=[.int ((i':Int)+1),x]) (us:=[.int ((i':Int)+1) t,y]) fe fi (λb o b1 b2 q=>hk2 b o (by simp[b1,b2]) (hk b o (by simp[b1,b2]) q)) hT (.cons ⟨_,rfl⟩ (.cons ru .nil)) (by show 2<=sizeLine;decide) ht2;exact I2
  ·have nb:b≠T:=λz=>hTw (z▸hb)
   rw[Ag nb];exact(hf b hb).1
 done:=λX hP hw hK hc i pins s σ H E I hf st hg=>by
  subst hP hw hK;obtain⟨xs,hq,hx⟩:=hg;obtain⟨its,rv,p,hz⟩:=I.list hq;obtain⟨⟨old,he⟩,hit⟩:=st;have fe:=hf e (by simp);have fi:=hf it (by simp);have il:=p.isList;have nae:a≠e:=λz=>by
   obtain⟨o,ho,c1,_⟩:=il;rw[z,he] at ho;cases ho;injection c1 with y;exact absurd y (by decide)
  have nai:a≠it:=λz=>by
   obtain⟨o,ho,c1,_⟩:=il;obtain⟨o2,ho2,c2,_⟩:=hit;rw[z,ho2] at ho;cases ho;rw[c2] at c1;injection c1 with y;exact absurd y (by decide)
  have W:=fV (prog:=X.prog) (w:=X.w) (A:=X.A) (Kj (prog:=X.prog) (w:=X.w) (A:=X.A.in1) (I.ok.hd hc) it a nai its.toArray) e hei (by simp[hei,Ne.symm nae]) (by simp);have el:its.toArray.size+1=i+1:=by rw[bV,<-rv.length,hx]
  refine W.done s _ E (by rw[el];exact⟨⟨old,by simpa using he⟩,i,rfl,hit,il⟩) λh' tk hk=>⟨rfl,?_⟩
  exact I.turned2n (h':=h') (t':=tk) fe fi λb o b1 b2 q=>hk b o (by simp[b1,b2]) q
 self:=λA i s Q E st h=>by
  obtain⟨⟨old,he⟩,_⟩:=st;exact fT he h
theorem QT {M:Model} {A:Around} {E:Value->Shared->Prop} {s:Shared} {pos:Pos} {T:String} {args:List (Bool×Sem Value)} {kws:List (Option Str×Sem Value)} {Q:Value->Shared->Prop} (hp:args.any (·.1)=false) (hk:kws.any (·.1.isNone)=false)
  (h:wpAny M A (evalArgs (.type T) true args kws) (λz sz=>wpAny M A (call (.type T) z.pos z.kw) Q E sz) E s):wpAny M A (callWith pos (.type T) [] args kws) Q E s:=by
 unfold callWith;refine aU (cj (b4 h (λz sz hz=>aU (gV ?_)) λ_ _ y=>y));simp only[hp,hk,Bool.or_false];refine aU (aX (aU (b4 hz (λv sv hv=>aU (cj (wpAny_point (aX hv)))) λ_ _ y=>y)))
section
variable {X:Cx}{els:List Expr}{kk:Nat}{pp:Pos}
def Zl (K:PySem.W.Frag)(ta:TA):TI:=λσ H R=>ta σ H λvs H1=>∃a xs,vs=[.ref a]/\AI K H1 a xs/\R (ZK K a) H1
theorem Wc {l:Expr} {ta:TA} {p pos kp cp:Pos} {j} (hg:Gl X "enumerate") (hm:X.mg "enumerate"=none) (ha:PA X [l] ta)
  (he:backTo pos (starEach [l] X.env)=(false,eval l X.env)::backTo pos (starEach [] X.env):=by rfl)
  (hpl:(backTo pos (starEach [l] X.env)).any (·.1)=false:=by rfl) :
  PI X (.Tuple els kk pp) (.Call (.Name "enumerate" p) [l] [⟨some "start",.Constant (.int 1) j cp,kp⟩] pos) (Zl X.K ta):=by
 intro pins s σ H R I h;refine dG (HS I hg hm IH (QT hpl rfl ?_));have hsp:=ha pos pins s σ H _ I h;rw[he] at hsp ⊢;refine evalArgs_kwB rfl (Bn hsp λus s1 ⟨vs,H1,I1,r1,q1⟩=>?_);refine kws_cons (gY (kws_nil ?_));obtain⟨a,xs,rfl,hq,q⟩:=q1;obtain⟨u,rfl,ru⟩:=vals1 r1;cases ru;have I2:=I1.tok (s1.toks+1);obtain⟨its,rv,⟨⟨oc,od,odt,sl⟩,m,pl,c1,c2,c3⟩,hz⟩:=I2.list hq;simp only at c1 c2 c3;subst c1 c2 c3;refine Tv (items:=its.toArray) (m:=m) (sl:=sl) pl ?_;have hs:(s1.heap.push { cls:=.type "list_iterator",data:=.fields #[.ref a,.int 0 0] }).objs.size=s1.heap.objs.size+1:=cf ..;have hE:IsEnum ((s1.heap.push { cls:=.type "list_iterator",data:=.fields #[.ref a,.int 0 0] }).push { cls:=.type "enumerate",data:=.fields #[.none,.bool false,.ref s1.heap.objs.size,rawInt 1,.none,.none] }) (s1.heap.objs.size+1) s1.heap.objs.size 1 .none:=by
  rw[<-hs];exact bB _ rfl
 refine fT hE ?_;refine⟨s1.heap.objs.size+1,[s1.heap.objs.size+1,s1.heap.objs.size],_,ZK X.K a,H1,rfl,I2.kept (t':=s1.toks+1) λb o e=>aV _ (aV _ e),Sx a (s1.heap.objs.size+1) s1.heap.objs.size (gT _),⟨⟨_,hE⟩,_,aV _ (bB _ rfl),rfl,rfl⟩,λb hb=>?_,q⟩;rcases bE.mp hb with rfl|hb
 ·exact I2.fpOk (eB _) (I2.hok.fresh (eB _))
 ·rw[ba.mp hb];exact I2.fpOk (aZ _) (I2.hok.fresh (aZ _))
end
theorem Te {K:PySem.W.Frag} {a:Addr} {xs:List V} {fr:List (Option Nat)} {i0 i1:Nat} {n:Nat} {te:TE} {Q:VK} {σ:St} {H:Hp} (f:Nat->V->V) (h1:H a=some (.lst xs)) (hn:xs.length<=1000000) (h2:n=2)
  (helt:∀(i:Nat) (x:V) (H':Hp) (R:VK),xs[i]?=some x->Ap H H'->(∀H'',Ap H' H''->R (f i x) H'')->te (((stC fr σ).set i0 (some (.int ((i:Int)+1)))).set i1 (some x)) H' R) (hne:i0≠i1)
  (hQ:∀l H',H l=none->Ap H H'->H' l=some (.lst ((List.range xs.length).map λi=>f i (xs.getD i .non)))->Q (.ref l) H') :
  Da fr (Re K n (Fo (Bt i0) (Fo (Bt i1) Tx))) PD te σ Q (ZK K a) H:=by
 intro l hl;have hal:a≠l:=AG h1 hl;refine⟨λi m σ' H'=>m=xs.length-i/\i<=xs.length/\(∀y z,(σ'.set i0 y).set i1 z=((stC fr σ).set i0 y).set i1 z)/\Ap H H'/\H' l=some (.lst ((List.range i).map λi=>f i (xs.getD i .non))),⟨xs.length,by simp,bU _,λ_ _=>rfl,Al hl _,by rw[Ae];rfl⟩,?_⟩
 rintro i m σ' H' ⟨rfl,hi,hσ,hs,hl'⟩
 have ha':=hs.get h1
 by_cases hlt:i<xs.length
 ·refine .inr ⟨⟨xs,xs[i],AI.of ha',by simp[hlt]⟩,?_⟩
  rintro x H'' ⟨T,y,hT,rfl,hy,rfl⟩
  have hyi:=hy xs (AI.of ha');have st:=Al hT (.tup [.int ((i:Int)+1),y]);subst h2;refine⟨T,_,rfl,AV.of Ae,rfl,_,_,rfl,_,_,rfl,rfl,?_⟩;show te ((σ'.set i0 (some (.int ((i:Int)+1)))).set i1 (some y)) _ _;rw[hσ];refine helt i y _ _ hyi (hs.trans st) λH4 s4=>?_
  refine⟨_,s4.get (st.get hl'),Bd (by rw[aS,bY];omega),xs.length-(i+1),by omega,rfl,hlt,λy z=>?_,AW ((hs.trans st).trans s4) hl _,?_⟩
  ·rw[List.set_comm _ _ (Ne.symm hne),dH,dH]
  ·rw[Ae,List.range_succ,bA];simp[List.getD,hyi]
 ·have e:i=xs.length:=by omega
  subst e;exact .inl ⟨⟨xs,AI.of ha',rfl⟩,hQ l H' hl hs hl'⟩
theorem B3 {X:Cx}{K:PySem.W.Frag}{pos:Pos}{es:List Expr}{k:Nat}{t:Xy}{n:Nat}(hK:X.K=K)(hc:X.calm=true)(h:Zh X es t)(hn:(assignEach es X.env).length=n:=by rfl)(hs:(assignEach es X.env).findIdx? (·.1)=none:=by rfl):PG X (.Tuple es k pos) (Re K n t):=by
 subst hK;exact J3 hc h hn hs
theorem VQ {xs:List V}:JM xs none (some (-1))=xs.dropLast:=by
 unfold JM HT.Dq;rw[List.dropLast_eq_take];simp only[List.drop_zero,Nat.sub_zero];rw[bF (by decide)]
 congr 1
 omega
section
variable {κ:Type}[DecidableEq κ]
def A4 (kvs:List (κ×V))(k:κ):Option V:=(kvs.find? λkv=>decide (kv.1=k)).map (·.2)
def putK (kvs:List (κ×V))(k:κ)(v:V):List (κ×V):=
 if(kvs.any λkv=>decide (kv.1=k))=true then kvs.map (λkv=>if kv.1=k then(kv.1,v) else kv) else kvs++[(k,v)]
def BI (kvs:List (κ×V))(k:κ):List (κ×V):=kvs.filter λkv=>decide (kv.1≠k)
theorem GH {p:κ×V}{r:List (κ×V)}{k:κ}(e:p.1=k):A4 (p::r) k=some p.2:=by simp[A4,List.find?_cons,e]
theorem GB {p:κ×V}{r:List (κ×V)}{k:κ}(e:¬p.1=k):A4 (p::r) k=A4 r k:=by simp[A4,List.find?_cons,e]
theorem GE (k:κ):∀kvs:List (κ×V),(kvs.any λkv=>decide (kv.1=k))=(A4 kvs k).isSome
 |[]=>rfl
 |p::r=>by
  rw[fj]
  by_cases e:p.1=k
  ·simp only[GH e,decide_eq_true e,Bool.true_or,Option.isSome_some]
  ·rw[GB e,bD e,Bool.false_or];exact GE k r
theorem Gv (kvs:List (κ×V))(k:κ)(v:V):(putK kvs k v).length<=kvs.length+1:=by
 unfold putK
 split
 ·rw[aS];omega
 ·rw[bx,bT,fX];omega
theorem Fm {kvs:List (κ×V)}{k:κ}(v:V)(h:A4 kvs k=none):putK kvs k v=kvs++[(k,v)]:=by
 unfold putK;rw[GE,h];exact bH (by decide)
theorem Ez.isSome_eq {o:Option V}{u:Option Value}(r:Ez o u):o.isSome=u.isSome:=by
 cases o with
 |none=>cases u with
  |none=>rfl
  |some _=>exact(show False from r).elim
 |some _=>cases u with
  |none=>exact(show False from r).elim
  |some _=>rfl
theorem Ez.getD {o:Option V}{u:Option Value}{d:V}{d':Value}(r:Ez o u)(rd:RelV d d'):RelV (o.getD d) (u.getD d'):=by
 cases o with
 |none=>cases u with
  |none=>exact rd
  |some _=>exact(show False from r).elim
 |some _=>cases u with
  |none=>exact(show False from r).elim
  |some _=>exact r
theorem KV.val {kvs:List (κ×V)}{vs:List (κ×Value)}(r:KV kvs vs)(k:κ):Ez (A4 kvs k) (valueAt vs k):=by
 unfold KV at r
 induction r with
 |nil=>exact True.intro
 |@cons p q ps qs h t ih=>
  obtain⟨h1,h2⟩:=h
  by_cases e:p.1=k
  ·have e':q.1=k:=h1.symm.trans e;have b:valueAt (q::qs) k=some q.2:=by simp[valueAt,List.find?_cons,e']
   rw[GH e,b];exact h2
  ·have e':¬q.1=k:=λz=>e (h1.trans z)
   have b:valueAt (q::qs) k=valueAt qs k:=by simp[valueAt,List.find?_cons,e']
   rw[GB e,b];exact ih
theorem KV.any {kvs:List (κ×V)}{vs:List (κ×Value)}(r:KV kvs vs)(k:κ):(kvs.any λkv=>decide (kv.1=k))=vs.any λkv=>decide (kv.1=k):=by
 unfold KV at r
 induction r with
 |nil=>rfl
 |cons h t ih=>rw[fj,fj,ih,h.1]
theorem KV.repl {kvs:List (κ×V)}{vs:List (κ×Value)}(r:KV kvs vs)(k:κ){y:V}{u:Value}(ry:RelV y u) :
  KV (kvs.map λkv=>if kv.1=k then(kv.1,y) else kv) (vs.map λkv=>if kv.1=k then(kv.1,u) else kv):=by
 unfold KV at r ⊢
 induction r with
 |nil=>exact .nil
 |@cons p q ps qs h t ih=>
  rw[bg,bg];refine .cons ?_ ih;obtain⟨h1,h2⟩:=h
  by_cases e:p.1=k
  ·rw[bF e,bF (h1.symm.trans e)];exact⟨h1,ry⟩
  ·rw[bH e,bH (λz=>e (h1.trans z))];exact⟨h1,h2⟩
theorem KV.put {kvs:List (κ×V)}{vs:List (κ×Value)}(r:KV kvs vs)(k:κ){y:V}{u:Value}(ry:RelV y u):KV (putK kvs k y) (stored vs k u):=by
 unfold putK stored;rw[r.any k]
 by_cases e:(vs.any λkv=>decide (kv.1=k))=true
 ·rw[bF e,bF e];exact r.repl k ry
 ·rw[bH e,bH e];exact Paired.snoc r ⟨rfl,ry⟩
theorem KV.drop {kvs:List (κ×V)}{vs:List (κ×Value)}(r:KV kvs vs)(k:κ):KV (BI kvs k) (without vs k):=by
 unfold KV at r ⊢;unfold BI without
 induction r with
 |nil=>exact .nil
 |@cons p q ps qs h t ih=>
  obtain⟨h1,h2⟩:=h;rw[eG,eG]
  by_cases e:p.1=k
  ·have a:¬decide (p.1≠k)=true:=by simp[e]
   have b:¬decide (q.1≠k)=true:=by simp[h1.symm.trans e]
   rw[bH a,bH b];exact ih
  ·have e':¬q.1=k:=λz=>e (h1.trans z)
   have a:decide (p.1≠k)=true:=by simp[e]
   have b:decide (q.1≠k)=true:=by simp[e']
   rw[bF a,bF b];exact .cons ⟨h1,h2⟩ ih
theorem KV.length {kvs:List (κ×V)}{vs:List (κ×Value)}(r:KV kvs vs):kvs.length=vs.length:=eV r
theorem LH (kvs:List (κ×V))(k:κ):(BI kvs k).length<=kvs.length:=bW _ _
end
theorem HF {P:Program}{w:World}{k:Key}{u:Value}(r:RelV (kV k) u):(AO P w).is k u=true:=by
 cases k with
 |inl i=>obtain⟨t,e⟩:=(show ∃t,u=Value.int i t from r);subst e;exact Py P w i t
 |inr x=>obtain⟨t,e⟩:=(show ∃t,u=Value.str x t from r);subst e;exact Pc P w x t
theorem NQ {P:Program}{w:World}:∀{ks:List Key} {us:List Value},AR (ks.map kV) us->ItemsAre (AO P w) ks us
 |[],_,r=>by rw[eE] at r;cases r;exact .nil
 |k::ks,_,r=>by
  rw[bg] at r;cases r with
  |cons h t=>exact .cons (HF h) (NQ t)
abbrev KT (H:Hp):List (List Key×V)->List (List Key×Addr×Value)->Prop:=Paired λp q=>p.1=q.1/\H q.2.1=some (.tup (p.1.map kV))/\RelV p.2 q.2.2
theorem KT.val {H:Hp}{kvs:List (List Key×V)}{xs:List (List Key×Addr×Value)}(r:KT H kvs xs)(k:List Key):Ez (A4 kvs k) ((atKey xs k).map (·.2)):=by
 induction r with
 |nil=>exact True.intro
 |@cons p q ps qs h t ih=>
  obtain⟨h1,_,h2⟩:=h
  by_cases e:p.1=k
  ·have e':q.1=k:=h1.symm.trans e;have b:atKey (q::qs) k=some q.2:=by simp[atKey,List.find?_cons,e']
   rw[GH e,b];exact h2
  ·have e':¬q.1=k:=λz=>e (h1.trans z)
   have b:atKey (q::qs) k=atKey qs k:=by simp[atKey,List.find?_cons,e']
   rw[GB e,b];exact ih
theorem KT.repl {H:Hp}{kvs:List (List Key×V)}{xs:List (List Key×Addr×Value)}(r:KT H kvs xs)(k:List Key){y:V}{u:Value}(ry:RelV y u) :
  KT H (kvs.map λkv=>if kv.1=k then(kv.1,y) else kv) (xs.map (putAt k u)):=by
 induction r with
 |nil=>exact .nil
 |@cons p q ps qs h t ih=>
  rw[bg,bg];refine .cons ?_ ih;obtain⟨h1,h2,h3⟩:=h;unfold putAt
  by_cases e:p.1=k
  ·rw[bF e,bF (h1.symm.trans e)];exact⟨h1,h2,ry⟩
  ·rw[bH e,bH (λz=>e (h1.trans z))];exact⟨h1,h2,h3⟩
theorem KT.put {H:Hp}{kvs:List (List Key×V)}{xs:List (List Key×Addr×Value)}(r:KT H kvs xs)(k:List Key){b:Addr}{y:V}{u:Value}(hb:H b=some (.tup (k.map kV)))(ry:RelV y u) :
  KT H (putK kvs k y) (storedH xs k b u):=by
 have e:(kvs.any λkv=>decide (kv.1=k))=(atKey xs k).isSome:=by
  rw[GE,(r.val k).isSome_eq,Option.isSome_map]
 unfold putK storedH;rw[e]
 by_cases q:(atKey xs k).isSome=true
 ·rw[bF q,bF q];exact r.repl k ry
 ·rw[bH q,bH q];exact Paired.snoc r ⟨rfl,hb,ry⟩
theorem KT.keeps {H H':Hp}{kvs:List (List Key×V)}{xs:List (List Key×Addr×Value)}(r:KT H kvs xs)(ht:∀b ys,H b=some (.tup ys)->H' b=some (.tup ys)):KT H' kvs xs:=
 Paired.mapP r λ_ _ z=>⟨z.1,ht _ _ z.2.1,z.2.2⟩
section
variable {P:Program}{w:World}{H:Hp}{h:Heap}{a:Addr}
theorem XE {u:HO}(ok:Hv P w H h)(e:Rd H a u):Bs P w H h a u:=e.ok ok
theorem MA {kvs:List (Key×V)}(ok:Hv P w H h)(e:Rd H a (.dK kvs)):kvs.length<=sizeLine/\(a == sysModules)=false/\∃vs,KV kvs vs/\h.DictOf (AO P w) a vs:=
 show Bs P w H h a (.dK kvs) from XE ok e
theorem Np {kvs:List (Key×V)}(ok:Hv P w H h)(e:H a=some (.dK kvs)):kvs.length<=sizeLine/\(a == sysModules)=false/\∃vs,KV kvs vs/\h.DictOf (AO P w) a vs:=MA ok (.inl e)
theorem GJ {ks:List Key}(ok:Hv P w H h)(e:H a=some (.tup (ks.map kV))):(tupleKind (AO P w)).is h ks a:=by
 obtain⟨_,its,r,o,h1,h2,n,h3⟩:=(show Bs P w H h a (.tup (ks.map kV)) from ok a _ e)
 exact⟨o,its.toArray,n,h1,h2,h3.1,by simpa using NQ r⟩
theorem Ln {kvs:List (List Key×V)}(ok:Hv P w H h)(e:Rd H a (.dT kvs)):kvs.length<=sizeLine/\(a == sysModules)=false/\
  ∃xs,KT H kvs xs/\h.DictOfH (tupleKind (AO P w)) a xs:=by
 obtain⟨z,y,xs,r,o,es,ep,h1,h2,h3,h4,h5⟩:=(show Bs P w H h a (.dT kvs) from XE ok e)
 refine⟨z,y,xs,r,o,es,ep,h1,h2,h3,h4,λx hx=>?_,h5⟩;have all:∀{l:List (List Key×V)} {m:List (List Key×Addr×Value)},KT H l m->∀x∈m,(tupleKind (AO P w)).is h x.1 x.2.1:=by
  intro l m q
  induction q with
  |nil=>intro x hx;exact nomatch hx
  |@cons p q ps qs hq t ih=>
   intro x hx;rcases bE.mp hx with e|hx
   ·subst e;exact GJ ok (by rw[<-hq.1];exact hq.2.1)
   ·exact ih x hx
 exact all r x hx
theorem XF {kvs:List (List Key×V)}(ok:Hv P w H h)(e:H a=some (.dT kvs)):kvs.length<=sizeLine/\(a == sysModules)=false/\
  ∃xs,KT H kvs xs/\h.DictOfH (tupleKind (AO P w)) a xs:=Ln ok (.inl e)
end
def BG (H:Hp)(a:Addr)(y:V)(r:Option V):Prop:=
 (∃kvs k,Rd H a (.dK kvs)/\y=kV k/\r=A4 kvs k)\/∃kvs k b,Rd H a (.dT kvs)/\y=.ref b/\H b=some (.tup (k.map kV))/\r=A4 kvs k
def IL (H:Hp)(a:Addr)(y v:V)(H':Hp):Prop:=
 (∃kvs k,H a=some (.dK kvs)/\y=kV k/\kvs.length<sizeLine/\H'=upd H a (.dK (putK kvs k v)))\/
 ∃kvs k b,H a=some (.dT kvs)/\y=.ref b/\H b=some (.tup (k.map kV))/\kvs.length<sizeLine/\H'=upd H a (.dT (putK kvs k v))
theorem BG.k {H:Hp}{a:Addr}{kvs:List (Key×V)}{k:Key}(e:H a=some (.dK kvs)):BG H a (kV k) (A4 kvs k):=.inl ⟨kvs,k,.inl e,rfl,rfl⟩
theorem BG.t {H:Hp}{a b:Addr}{kvs:List (List Key×V)}{k:List Key}(e:H a=some (.dT kvs))(eb:H b=some (.tup (k.map kV))):BG H a (.ref b) (A4 kvs k):=.inr ⟨kvs,k,b,.inl e,rfl,eb,rfl⟩
theorem IL.k {H:Hp}{a:Addr}{kvs:List (Key×V)}{k:Key}{v:V}(e:H a=some (.dK kvs))(hl:kvs.length<sizeLine):IL H a (kV k) v (upd H a (.dK (putK kvs k v))):=.inl ⟨kvs,k,e,rfl,hl,rfl⟩
theorem IL.t {H:Hp}{a b:Addr}{kvs:List (List Key×V)}{k:List Key}{v:V}(e:H a=some (.dT kvs))(eb:H b=some (.tup (k.map kV)))(hl:kvs.length<sizeLine) :
  IL H a (.ref b) v (upd H a (.dT (putK kvs k v))):=.inr ⟨kvs,k,b,e,rfl,eb,hl,rfl⟩
section
variable {X:Cx}{pins:List (Addr×Obj)}{σ:St}{H:Hp}{s:Shared}{a:Addr}{y v:V}{u r:Value}{o:Option V}{A:Around}{E:Value->Shared->Prop}
theorem Inv.big (I:Inv X pins σ H s):sysModules<s.heap.objs.size:=by
 have h:mainGlobals<s.heap.objs.size:=(I.mod.glob.keeps I.bk).lt;exact Nat.lt_trans (by decide) h
theorem To {Q:Value->Shared->Prop}(hu:A.units+1<cLine)(I:Inv X pins σ H s)(g:BG H a y (some v))(ry:RelV y u)(h:∀w' s',Inv X pins σ H s'->RelV v w'->Q w' s') :
  wpAny (model X.prog X.w) A (getItem (.ref a) u) Q E s:=by
 rcases g with⟨kvs,k,e,ey,l⟩|⟨kvs,k,b,e,ey,eb,l⟩
 ·subst ey;obtain⟨z,hd,vs,rel,dd⟩:=MA I.hok e;obtain⟨w',hw,rw'⟩:=Ez.some_of (v:=v) (o:=valueAt vs k) (by rw[l];exact rel.val k);exact wpAny_getItem_of (HF ry) dd.mapOf hw (h w' _ (I.tok _) rw')
 ·subst ey;cases(show u=Value.ref b from ry);obtain⟨z,hd,xs,rel,dd⟩:=Ln I.hok e;obtain⟨w',hw,rw'⟩:=Ez.some_of (v:=v) (o:=(atKey xs k).map (·.2)) (by rw[l];exact rel.val k);obtain⟨p,hp,hp2⟩:=cy.mp hw;refine wpAny_getItem_heap (eh hu) (GJ I.hok eb) dd hp ?_;rw[hp2];exact h w' _ (I.tok _) rw'
theorem ZX {Q:Value->Shared->Prop}(hu:A.units+1<cLine)(I:Inv X pins σ H s)(g:BG H a y o)(ry:RelV y u)(h:∀s',Inv X pins σ H s'->Q (.bool o.isSome) s') :
  wpAny (model X.prog X.w) A (compareOp .In u (.ref a)) Q E s:=by
 rcases g with⟨kvs,k,e,ey,l⟩|⟨kvs,k,b,e,ey,eb,l⟩
 ·subst ey;obtain⟨z,hd,vs,rel,dd⟩:=MA I.hok e;refine wpAny_in_of (HF ry) hd dd.mapOf ?_;rw[<-(rel.val k).isSome_eq,<-l];exact h _ (I.tok _)
 ·subst ey;cases(show u=Value.ref b from ry);obtain⟨z,hd,xs,rel,dd⟩:=Ln I.hok e;refine wpAny_in_heap (eh hu) (GJ I.hok eb) hd dd ?_;have q:=(rel.val k).isSome_eq;rw[Option.isSome_map] at q;rw[<-q,<-l];exact h _ (I.tok _)
theorem F0 {h':Heap}{t':Nat}{ob:HO}(I:Inv X pins σ H s)(mu:ZA (H a))(hs:Heap.SameBut a s.heap h')(he:∃q,h'.get? a=some q)(new:Bs X.prog X.w (upd H a ob) h' a ob) :
  Inv X pins σ (upd H a ob) { s with heap:=h',toks:=t' }:=
 I.write (x:=a) (e:=a) mu (.inl rfl) (λb q hb z=>(hs.2 b hb).trans z) he new
theorem LQ {P:Program}{w:World}{H':Hp}{h':Heap}{kvs:List (Key×V)}{vs:List (Key×Value)}(z:kvs.length<=sizeLine)(hd:(a == sysModules)=false)(rel:KV kvs vs)(dd:h'.DictOf (AO P w) a vs) :
  Bs P w H' h' a (.dK kvs):=⟨z,hd,vs,rel,dd⟩
theorem SU {H':Hp}{Q:Unit->Shared->Prop}(hu:A.units+1<cLine)(I:Inv X pins σ H s)(g:IL H a y v H')(ry:RelV y u)(rv:RelV v r)(h:∀s',Inv X pins σ H' s'->Q () s') :
  wpAny (model X.prog X.w) A (setItem (.ref a) u r) Q E s:=by
 rcases g with⟨kvs,k,e,ey,l,eH⟩|⟨kvs,k,b,e,ey,eb,l,eH⟩
 ·subst ey eH;obtain⟨z,hd,vs,rel,dd⟩:=Np I.hok e;have hz:vs.length<=sizeLine:=by rw[<-rel.length];exact z
  have hl:(putK kvs k v).length<=sizeLine:=by have:=Gv kvs k v;omega
  refine wpAny_setItem_pairs (hsz:=hz) (HF ry) dd λh' dd' hs=>h _ ?_
  have he:∃q,h'.get? a=some q:=let⟨q,_,_,hq,_⟩:=dd';⟨q,hq⟩;exact F0 I (by rw[e];exact True.intro) hs he (LQ hl hd (rel.put k rv) dd')
 ·subst ey eH;cases(show u=Value.ref b from ry);obtain⟨z,hd,xs,rel,dd⟩:=XF I.hok e;have hz:xs.length<=sizeLine:=by rw[<-eV rel];exact z
  have hl:(putK kvs k v).length<=sizeLine:=by have:=Gv kvs k v;omega
  refine wpAny_setItem_heap (hsz:=hz) (eh hu) (GJ I.hok eb) dd λh' dd' hs=>h _ ?_
  obtain⟨q,es,ep,hq,h2,h3,h4,_,h5⟩:=dd';refine F0 I (by rw[e];exact True.intro) hs ⟨q,hq⟩ ⟨hl,hd,_,(rel.put k eb rv).keeps λc ys ec=>?_,q,es,ep,hq,h2,h3,h4,h5⟩;rw[Ag (AL ec e (λz=>nomatch z))];exact ec
end
section
variable {X:Cx}{pins:List (Addr×Obj)}{σ:St}{H:Hp}{s:Shared}{a:Addr}{kvs:List (Key×V)}{k:Key}{u:Value}{A:Around}{E:Value->Shared->Prop}
theorem Y4 {Q:Unit->Shared->Prop}(I:Inv X pins σ H s)(e:H a=some (.dK kvs))(ry:RelV (kV k) u)(l:(A4 kvs k).isSome=true)(h:∀s',Inv X pins σ (upd H a (.dK (BI kvs k))) s'->Q () s') :
  wpAny (model X.prog X.w) A (delItem (.ref a) u) Q E s:=by
 obtain⟨z,hd,vs,rel,dd⟩:=Np I.hok e;refine wpAny_delItem_slot dd.typeIs (by decide) ib
  (eu ib dd.typeIs PySem.F.entry_dict_delitem (PySem.F.args_dict_delitem_2 _ _) (meets_dict_delitem_pairs (AO X.prog X.w) a (HF ry)) ⟨vs,dd,by rw[<-rel.length];exact z,by rw[<-(rel.val k).isSome_eq];exact l,λh' dd' hs=>h _ ?_⟩)
 have he:∃q,h'.get? a=some q:=let⟨q,_,_,hq,_⟩:=dd';⟨q,hq⟩;exact F0 I (by rw[e];exact True.intro) hs he (LQ (bQ (LH kvs k) z) hd (rel.drop k) dd')
theorem Xt {v:V} {more:List Value} {Q:Value->Shared->Prop} (I:Inv X pins σ H s) (e:H a=some (.dK kvs)) (ry:RelV (kV k) u) (l:A4 kvs k=some v) (hm:more=[]\/∃x,more=[x])
  (h:∀w' s',Inv X pins σ (upd H a (.dK (BI kvs k))) s'->RelV v w'->Q w' s'):wpAny (model X.prog X.w) A (call (.builtin "dict.pop") (.ref a::u::more)) Q E s:=by
 obtain⟨z,hd,vs,rel,dd⟩:=Np I.hok e;obtain⟨w',hw,rw'⟩:=Ez.some_of (v:=v) (o:=valueAt vs k) (by rw[<-l];exact rel.val k);have hp:(keyPart u).isSome=true:=by
  cases k with
  |inl i=>obtain⟨t,q⟩:=(show ∃t,u=Value.int i t from ry);subst q;rfl
  |inr x=>obtain⟨t,q⟩:=(show ∃t,u=Value.str x t from ry);subst q;rfl
 have ha:argsOk "dict.pop" ⟨.ref a::u::more,[]⟩:=by
  rcases hm with q|⟨x,q⟩
  ·subst q;exact iz _ _
  ·subst q;exact iy _ _ _
 refine eu dy dd.typeIs fP ha (meets_dict_pop_there (AO X.prog X.w) a (HF ry) more hm hp)
  ⟨vs,w',dd,by rw[<-rel.length];exact z,hw,λh' dd' hs=>h w' _ ?_ rw'⟩
 have he:∃q,h'.get? a=some q:=let⟨q,_,_,hq,_⟩:=dd';⟨q,hq⟩;exact F0 I (by rw[e];exact True.intro) hs he (LQ (bQ (LH kvs k) z) hd (rel.drop k) dd')
theorem X2 {r:Value}{Q:Value->Shared->Prop}(I:Inv X pins σ H s)(e:H a=some (.dK kvs))(ry:RelV (kV k) u)(l:A4 kvs k=none)(h:∀s',Inv X pins σ H s'->Q r s') :
  wpAny (model X.prog X.w) A (call (.builtin "dict.pop") [.ref a,u,r]) Q E s:=by
 obtain⟨z,hd,vs,rel,dd⟩:=Np I.hok e;have hn:valueAt vs k=none:=Ez.none_of (by rw[<-l];exact rel.val k);have hp:(keyPart u).isSome=true:=by
  cases k with
  |inl i=>obtain⟨t,q⟩:=(show ∃t,u=Value.int i t from ry);subst q;rfl
  |inr x=>obtain⟨t,q⟩:=(show ∃t,u=Value.str x t from ry);subst q;rfl
 exact eu dy dd.typeIs fP (iy _ _ _) (meets_dict_pop_default (AO X.prog X.w) a (HF ry) hd hp r) ⟨vs,dd,hn,h _ (I.tok _)⟩
theorem Wj {Q:Value->Shared->Prop}(I:Inv X pins σ H s)(e:H a=some (.dK kvs))(h:∀s',Inv X pins σ (upd H a (.dK [])) s'->Q .none s'):wpAny (model X.prog X.w) A (call (.builtin "dict.clear") [.ref a]) Q E s:=by
 obtain⟨z,hd,vs,rel,dd⟩:=Np I.hok e;refine eu iu dd.typeIs PySem.F.entry_dict_clear (PySem.F.args_dict_clear_1 _) (meets_dict_clear (AO X.prog X.w) a) ⟨vs,dd,by rw[<-rel.length];exact z,λh' dd' hs=>h _ ?_⟩;have he:∃q,h'.get? a=some q:=let⟨q,_,_,hq,_⟩:=dd';⟨q,hq⟩;exact F0 (t':=s.toks) I (by rw[e];exact True.intro) hs he (LQ (bU _) hd .nil dd')
end
def Zj (i:Expr):Prop:=∀ov iv,subscripted i false ov iv=operate [ov,iv] (getItem ov iv)
theorem Xc {prog:Program} {w:World} {A:Around} {E:Value->Shared->Prop} {s:Shared} {env:Env} {value slice:Expr} {pos:Pos} {T id:String} {Q:Value->Shared->Prop}
  (hl:typeLookup (.type T) "__getitem__"=pure (some (.builtin id))) (hs:Zj slice)
  (h:wpAny (model prog w) A (eval value env) (λo s₁=>wpAny (model prog w) A (eval slice env) (λi s₂=>s₂.TypeIs o T/\wpAny (model prog w) A (getItem o i) Q E s₂) E s₁) E s) :
  wpAny (model prog w) A (eval (.Subscript value slice pos) env) Q E s:=by
 refine Subscript_ (b4 h (λo s₁ h₁=>b4 h₁ (λi s₂ h₂=>?_) λ_ _ x=>x) λ_ _ x=>x);obtain⟨hT,h₂⟩:=h₂;unfold subscriptTail;refine aU ?_;rw[getitemInPython_of_ne hT.not_modules];refine aU (wpAny_specialOf hT hl ?_);have fin:wpAny (model prog w) A (subscripted slice false o i) (λr s₃=>wpAny (model prog w) A (letTemporaryGo value o r >>= λ_=>pure r) Q E s₃) E s₂:=by
  rw[hs o i];exact wpAny_operating (b4 h₂ (λr s₃ h₃=>aU (wpAny_letTemporaryGo (aX h₃))) λ_ _ x=>x)
 first
  |exact aX (aU fin)
  |exact aU (aX (aU fin))
  |exact aU fin
theorem O4 {X:Cx}{pins:List (Addr×Obj)}{σ:St}{H:Hp}{s:Shared}{a:Addr}{y:V}{o:Option V}(I:Inv X pins σ H s)(g:BG H a y o):s.TypeIs (.ref a) "dict":=by
 rcases g with⟨kvs,k,e,_,_⟩|⟨kvs,k,b,e,_,_,_⟩
 ·obtain⟨_,_,vs,_,dd⟩:=MA I.hok e;exact dd.typeIs
 ·obtain⟨_,_,xs,_,dd⟩:=Ln I.hok e;exact dd.typeIs
def Zo (td ty:TE):TE:=λσ H Q=>td σ H λx H1=>ty σ H1 λy H2=>∃a v,x=.ref a/\BG H2 a y (some v)/\Q v H2
def ZY (ty td:TE):TE:=λσ H Q=>ty σ H λy H1=>td σ H1 λx H2=>∃a o,x=.ref a/\BG H2 a y o/\Q (.bl o.isSome) H2
def Zy (td ty tv:TE):TS:=λD σ H=>tv σ H λv H1=>td σ H1 λx H2=>ty σ H2 λy H3=>∃a H4,x=.ref a/\IL H3 a y v H4/\D.nx σ H4
section
variable {X:Cx}{o i e value:Expr}{pos pos' tpos:Pos}{td ty tv:TE}
theorem B8 (hu:X.A.units+1<cLine)(ho:PE X o td)(hi:PE X i ty)(hs:Zj i):PE X (.Subscript o i pos) (Zo td ty):=by
 intro pins s σ H Q I h;refine Xc PySem.F.slot_dict_getitem.lookup hs (Bn (ho pins s σ H _ I h) λu s1 ⟨x,H1,I1,rx,q1⟩=>Bn (hi pins s1 σ H1 _ I1 q1) λiv s2 z9=>?_);obtain⟨y,H2,I2,ry,a,v,ex,g,q2⟩:=z9;subst ex;obtain rfl:u=Value.ref a:=rx;exact⟨O4 I2 g,To hu I2 g ry λw' s3 I3 rw'=>⟨v,H2,I3,rw',q2⟩⟩
theorem QC (hu:X.A.units+1<cLine)(hi:PE X i ty)(ho:PE X o td):PC X .In i o (ZY ty td):=by
 intro pins s σ H Q I h;refine Bn (hi pins s σ H _ I h) λiv s1 ⟨y,H1,I1,ry,q1⟩=>Bn (ho pins s1 σ H1 _ I1 q1) λu s2 z9=>?_
 obtain⟨x,H2,I2,rx,a,ov,ex,g,q2⟩:=z9;subst ex;obtain rfl:u=Value.ref a:=rx;exact ZX hu I2 g ry λs3 I3=>⟨.bl ov.isSome,H2,I3,rfl,q2⟩
theorem ET (hu:X.A.units+1<cLine)(ho:PE X o td)(hi:PE X i ty)(hv:PE X value tv)(hs:swapsWith value (some (.Subscript o i pos')) pos.line X.env=pure false) :
  PS X (.Assign [.Subscript o i pos'] value pos) (Zy td ty tv):=by
 intro pins s σ H D I h;refine wpAny_Assign_Subscript (Bn (hv pins s σ H _ I h) λr s1 ⟨v,H1,I1,rv,q1⟩=>Bn (ho pins s1 σ H1 _ I1 q1) λu s2 ⟨x,H2,I2,rx,q2⟩=>Bn (hi pins s2 σ H2 _ I2 q2) λiv s3 z9=>?_) hs;obtain⟨y,H3,I3,ry,a,H4,ex,g,q3⟩:=z9;subst ex;obtain rfl:u=Value.ref a:=rx;exact SU hu I3 g ry rv λs4 I4=>⟨σ,H4,I4,q3⟩
end
theorem VS {P:Program}{w:World}{H:Hp}(h:Heap)(hb:sysModules<h.objs.size):Bs P w H (h.push { cls:=.type "dict",data:=.dict #[] }) h.objs.size (.dK []):=
 ⟨bU _,cZ.mpr (Ne.symm (bI hb)),[],.nil,Heap.DictOf.new h⟩
theorem Vl {P:Program}{w:World}{H:Hp}(h:Heap)(hb:sysModules<h.objs.size):Bs P w H (h.push { cls:=.type "dict",data:=.dict #[] }) h.objs.size (.dT []):=
 ⟨bU _,cZ.mpr (Ne.symm (bI hb)),[],.nil,_,#[],0,bB _ rfl,⟨rfl,rfl,rfl⟩,rfl,rfl,cA⟩
def YX:TE:=λ_ H Q=>∀p,H p=none->Q (.ref p) (upd H p (.dK []))
def X0:TE:=λ_ H Q=>∀p,H p=none->Q (.ref p) (upd H p (.dT []))
section
variable {X:Cx}{pos:Pos}
theorem Ec:PE X (.Dict [] [] pos) YX:=λpins s σ H Q I h=>
 wpAny_Dict_empty ⟨.ref s.heap.objs.size,_,I.laid (a:=s.heap.objs.size) (o:=.dK []) (t':=s.toks) (λ_ _ q=>aV _ q) (aZ _) (VS s.heap I.big),rfl,h _ (I.hok.fresh (aZ _))⟩
theorem T9:PE X (.Dict [] [] pos) X0:=λpins s σ H Q I h=>
 wpAny_Dict_empty ⟨.ref s.heap.objs.size,_,I.laid (a:=s.heap.objs.size) (o:=.dT []) (t':=s.toks) (λ_ _ q=>aV _ q) (aZ _) (Vl s.heap I.big),rfl,h _ (I.hok.fresh (aZ _))⟩
end
structure M1 (X:Cx) (o:Expr) (m:Str) (apos:Pos) (e:Expr) (cpos:Pos):Prop where
 base:attributeBase o m X.env (eval o X.env)=eval o X.env
 few:((backTo cpos (starEach [e] X.env)).all (λx=>!x.1)&&(backToKw cpos (keywordEach [] X.env)).all (λx=>x.1.isSome)
  && decide (([e]:List Expr).length+([]:List Keyword).length+(if([]:List Keyword).isEmpty then 0 else 1)<30))=true
 line:(apos.endLine == cpos.line)=true
 trees:backTo cpos (starEach [e] X.env)=[(false,eval e X.env)]
structure M2 (X:Cx) (o:Expr) (m:Str) (apos:Pos) (e f:Expr) (cpos:Pos):Prop where
 base:attributeBase o m X.env (eval o X.env)=eval o X.env
 few:((backTo cpos (starEach [e,f] X.env)).all (λx=>!x.1)&&(backToKw cpos (keywordEach [] X.env)).all (λx=>x.1.isSome)
  && decide (([e,f]:List Expr).length+([]:List Keyword).length+(if([]:List Keyword).isEmpty then 0 else 1)<30))=true
 line:(apos.endLine == cpos.line)=true
 trees:backTo cpos (starEach [e,f] X.env)=[(false,eval e X.env),(false,eval f X.env)]
def YE (H:Hp)(a:Addr):Prop:=(∃kvs,Rd H a (.dK kvs))\/∃kvs,Rd H a (.dT kvs)
theorem IG {X:Cx}{pins:List (Addr×Obj)}{σ:St}{H:Hp}{s:Shared}{a:Addr}(I:Inv X pins σ H s)(d:YE H a) :
  s.TypeIs (.ref a) "dict"/\(∀b,Value.ref a=.ref b->∃ob,s.heap.get? b=some ob/\ob.dict=none)/\(a == sysModules)=false:=by
 rcases d with⟨kvs,e⟩|⟨kvs,e⟩
 ·obtain⟨_,hd,vs,_,dd⟩:=MA I.hok e;refine⟨dd.typeIs,λb q=>?_,hd⟩;cases q;obtain⟨ob,_,_,h1,h2,_⟩:=dd;exact⟨ob,h1,h2.2.1⟩
 ·obtain⟨_,hd,xs,_,dd⟩:=Ln I.hok e;refine⟨dd.typeIs,λb q=>?_,hd⟩;cases q;obtain⟨ob,_,_,h1,h2,_⟩:=dd;exact⟨ob,h1,h2.2.1⟩
section
variable {X:Cx}{pins:List (Addr×Obj)}{σ:St}{H:Hp}{s:Shared}{a:Addr}{y d:V}{u r:Value}{o:Option V}{A:Around}{E:Value->Shared->Prop}
theorem X7 {Q:Value->Shared->Prop}(hu:A.units+1<cLine)(I:Inv X pins σ H s)(g:BG H a y o)(ry:RelV y u)(h:∀w' s',Inv X pins σ H s'->RelV (o.getD .non) w'->Q w' s') :
  wpAny (model X.prog X.w) A (call (.builtin "dict.get") [.ref a,u]) Q E s:=by
 rcases g with⟨kvs,k,e,ey,l⟩|⟨kvs,k,b,e,ey,eb,l⟩
 ·subst ey;obtain⟨z,hd,vs,rel,dd⟩:=MA I.hok e;refine eu dA dd.typeIs eT (iB _ _) (meets_dict_get (AO X.prog X.w) a (HF ry) hd) ⟨_,dd.mapOf,h _ _ (I.tok _) ?_⟩;rw[l];exact(rel.val k).getD rfl
 ·subst ey;cases(show u=Value.ref b from ry);obtain⟨z,hd,xs,rel,dd⟩:=Ln I.hok e;refine eu dA dd.typeIs eT (iB _ _) (meetsH_dict_get (tupleKind (AO X.prog X.w)) a b hd) ⟨eh hu,k,xs,GJ I.hok eb,dd,h _ _ (I.tok _) ?_⟩;rw[l];exact(rel.val k).getD rfl
theorem Yq {Q:Value->Shared->Prop}(hu:A.units+1<cLine)(I:Inv X pins σ H s)(g:BG H a y o)(ry:RelV y u)(rd:RelV d r)(h:∀w' s',Inv X pins σ H s'->RelV (o.getD d) w'->Q w' s') :
  wpAny (model X.prog X.w) A (call (.builtin "dict.get") [.ref a,u,r]) Q E s:=by
 rcases g with⟨kvs,k,e,ey,l⟩|⟨kvs,k,b,e,ey,eb,l⟩
 ·subst ey;obtain⟨z,hd,vs,rel,dd⟩:=MA I.hok e;refine eu dA dd.typeIs eT (iA _ _ _) (meets_dict_get_default (AO X.prog X.w) a (HF ry) hd r) ⟨_,dd.mapOf,h _ _ (I.tok _) ?_⟩;rw[l];exact(rel.val k).getD rd
 ·subst ey;cases(show u=Value.ref b from ry);obtain⟨z,hd,xs,rel,dd⟩:=Ln I.hok e;refine eu dA dd.typeIs eT (iA _ _ _) (meetsH_dict_get_default (tupleKind (AO X.prog X.w)) a b hd r) ⟨eh hu,k,xs,GJ I.hok eb,dd,h _ _ (I.tok _) ?_⟩;rw[l];exact(rel.val k).getD rd
end
def X5 (td ty:TE):TE:=λσ H Q=>td σ H λx H1=>∃a,x=.ref a/\YE H1 a/\ty σ H1 λy H2=>∃o,BG H2 a y o/\Q (o.getD .non) H2
def Yv (td ty tx:TE):TE:=λσ H Q=>td σ H λx H1=>∃a,x=.ref a/\YE H1 a/\ty σ H1 λy H2=>tx σ H2 λz H3=>∃o,BG H3 a y o/\Q (o.getD z) H3
def Yu (td ty:TE):TE:=λσ H Q=>td σ H λx H1=>∃a,x=.ref a/\YE H1 a/\ty σ H1 λy H2=>∃kvs k v,H2 a=some (.dK kvs)/\y=kV k/\A4 kvs k=some v/\Q v (upd H2 a (.dK (BI kvs k)))
def YH (td ty tx:TE):TE:=λσ H Q=>td σ H λx H1=>∃a,x=.ref a/\YE H1 a/\ty σ H1 λy H2=>tx σ H2 λz H3=>∃kvs k,H3 a=some (.dK kvs)/\y=kV k/\
 (∀v,A4 kvs k=some v->Q v (upd H3 a (.dK (BI kvs k))))/\(A4 kvs k=none->Q z H3)
section
variable {X:Cx}{o e f:Expr}{apos cpos:Pos}{td ty tx:TE}
theorem U7 (hu:X.A.units+1<cLine)(ho:PE X o td)(he:PE X e ty)(m:M1 X o "get" apos e cpos):PE X (.Call (.Attribute o "get" apos) [e] [] cpos) (X5 td ty):=by
 intro pins s σ H Q I h;refine dQ m.base m.few m.line cQ dA iO (Bn (ho pins s σ H _ I h) λu s1 z9=>?_);obtain⟨x,H1,I1,rx,a,ex,d,q1⟩:=z9;subst ex;obtain rfl:u=Value.ref a:=rx;obtain⟨t1,t2,_⟩:=IG I1 d;refine⟨t1,t2,?_⟩;rw[m.trees];refine cC rfl (dr (cF (Bn (he pins s1 σ H1 _ I1 q1) λiv s2 ⟨y,H2,I2,ry,ov,g,q2⟩=>dR ?_)));exact X7 hu I2 g ry λw' s3 I3 rw'=>⟨_,H2,I3,rw',q2⟩
theorem Vy (hu:X.A.units+1<cLine)(ho:PE X o td)(he:PE X e ty)(hf:PE X f tx)(m:M2 X o "get" apos e f cpos):PE X (.Call (.Attribute o "get" apos) [e,f] [] cpos) (Yv td ty tx):=by
 intro pins s σ H Q I h;refine dQ m.base m.few m.line cQ dA iO (Bn (ho pins s σ H _ I h) λu s1 z9=>?_);obtain⟨x,H1,I1,rx,a,ex,d,q1⟩:=z9;subst ex;obtain rfl:u=Value.ref a:=rx;obtain⟨t1,t2,_⟩:=IG I1 d;refine⟨t1,t2,?_⟩;rw[m.trees];refine cC rfl (dr (cF (Bn (he pins s1 σ H1 _ I1 q1) λiv s2 ⟨y,H2,I2,ry,q2⟩=>
  cF (Bn (hf pins s2 σ H2 _ I2 q2) λfv s3 ⟨z,H3,I3,rz,ov,g,q3⟩=>dR ?_))))
 exact Yq hu I3 g ry rz λw' s4 I4 rw'=>⟨_,H3,I4,rw',q3⟩
theorem Pz (ho:PE X o td)(he:PE X e ty)(m:M1 X o "pop" apos e cpos):PE X (.Call (.Attribute o "pop" apos) [e] [] cpos) (Yu td ty):=by
 intro pins s σ H Q I h;refine dQ m.base m.few m.line cQ dy gb (Bn (ho pins s σ H _ I h) λu s1 z9=>?_);obtain⟨x,H1,I1,rx,a,ex,d,q1⟩:=z9;subst ex;obtain rfl:u=Value.ref a:=rx;obtain⟨t1,t2,_⟩:=IG I1 d;refine⟨t1,t2,?_⟩;rw[m.trees];refine cC rfl (dr (cF (Bn (he pins s1 σ H1 _ I1 q1) λiv s2 ⟨y,H2,I2,ry,kvs,k,v,ea,ey,l,q2⟩=>dR ?_)));subst ey;exact Xt I2 ea ry l (.inl rfl) λw' s3 I3 rw'=>⟨v,_,I3,rw',q2⟩
theorem US (ho:PE X o td)(he:PE X e ty)(hf:PE X f tx)(m:M2 X o "pop" apos e f cpos):PE X (.Call (.Attribute o "pop" apos) [e,f] [] cpos) (YH td ty tx):=by
 intro pins s σ H Q I h;refine dQ m.base m.few m.line cQ dy gb (Bn (ho pins s σ H _ I h) λu s1 z9=>?_);obtain⟨x,H1,I1,rx,a,ex,d,q1⟩:=z9;subst ex;obtain rfl:u=Value.ref a:=rx;obtain⟨t1,t2,_⟩:=IG I1 d;refine⟨t1,t2,?_⟩;rw[m.trees];refine cC rfl (dr (cF (Bn (he pins s1 σ H1 _ I1 q1) λiv s2 ⟨y,H2,I2,ry,q2⟩=>
  cF (Bn (hf pins s2 σ H2 _ I2 q2) λfv s3 ⟨z,H3,I3,rz,kvs,k,ea,ey,q3,q4⟩=>dR ?_))))
 subst ey;cases l:A4 kvs k with
 |some v=>exact Xt I3 ea ry l (.inr ⟨fv,rfl⟩) λw' s4 I4 rw'=>⟨v,_,I4,rw',q3 v l⟩
 |none=>exact X2 I3 ea ry l λs4 I4=>⟨z,H3,I4,rz,q4 l⟩
end
section
variable {X:Cx}
def ZD (K:PySem.W.Frag)(neg:Bool):R2:=λx y H Q=>∃a b xs,x=.ref a/\y=.ref b/\AI K H a xs/\AI K H b []/\Q (.bl (if neg then !decide (xs=[]) else decide (xs=[]))) H
theorem TR (hu:X.A.units+1<cLine):Gw X (compareOp .Eq) (ZD X.K false):=by
 intro pins s σ H x y v u Q I rx ry h;obtain⟨a,b,xs,rfl,rfl,h1,h2,q⟩:=h;cases rx;cases ry;obtain⟨its,r1,p1,_⟩:=I.list h1;obtain⟨its2,r2,p2,_⟩:=I.list h2;cases r2;cases r1 with
 |nil=>
  exact SeqAt.RcAt.lists (A:=X.A) (s:=s) (e:=λ_=>true) p1.isList p2.isList rfl (by omega) (λj g1 g2=>absurd g1 (by simp)) _ _ _ _ ⟨.bl _,H,I,rfl,q⟩
 |cons r rr=>
  exact je p1.isList p2.isList (by simp) (by omega) _ _ _ _ ⟨.bl _,H,I,rfl,q⟩
end
inductive Tr where
 |non
 |bl (b:Bool)
 |int (i:Int)
 |str (z:Str)
 |tup (ts:List Tr)
 |lst (ts:List Tr)
mutual
def Rep (F:Addr->Prop)(H:Hp):Tr->V->Prop
 | .non,v=>v=.non
 | .bl b,v=>v=.bl b
 | .int i,v=>v=.int i
 | .str z,v=>v=.str z
 | .tup ts,v=>∃a vs,v=.ref a/\H a=some (.tup vs)/\AA F H ts vs
 | .lst ts,v=>∃a vs,v=.ref a/\F a/\H a=some (.lst vs)/\AA F H ts vs
def AA (F:Addr->Prop)(H:Hp):List Tr->List V->Prop
 |[],vs=>vs=[]
 |t::ts,vs=>∃v us,vs=v::us/\Rep F H t v/\AA F H ts us
end
mutual
def Tr.dep:Tr->Nat
 | .tup ts=>1+Tr.deps ts
 | .lst ts=>1+Tr.deps ts
 |_=>1
def Tr.deps:List Tr->Nat
 |[]=>0
 |t::ts=>max (Tr.dep t) (Tr.deps ts)
end
mutual
def Tr.ok:Tr->Prop
 | .str z=>z.length<=1000
 | .tup ts=>ts.length<=1000/\Tr.oks ts
 | .lst ts=>ts.length<=1000/\Tr.oks ts
 |_=>True
def Tr.oks:List Tr->Prop
 |[]=>True
 |t::ts=>Tr.ok t/\Tr.oks ts
end
mutual
theorem Rep.same {F:Addr->Prop}{H H':Hp}(s:Ap H H'):∀(t:Tr) (v:V),Rep F H t v->Rep F H' t v
 | .non,_,h=>h
 | .bl _,_,h=>h
 | .int _,_,h=>h
 | .str _,_,h=>h
 | .tup ts,_,⟨a,vs,e,ha,hr⟩=>⟨a,vs,e,s.get ha,AA.same s ts vs hr⟩
 | .lst ts,_,⟨a,vs,e,fa,ha,hr⟩=>⟨a,vs,e,fa,s.get ha,AA.same s ts vs hr⟩
theorem AA.same {F:Addr->Prop}{H H':Hp}(s:Ap H H'):∀(ts:List Tr) (vs:List V),AA F H ts vs->AA F H' ts vs
 |[],_,h=>h
 |t::ts,_,⟨v,us,e,h1,h2⟩=>⟨v,us,e,Rep.same s t v h1,AA.same s ts us h2⟩
end
theorem AA.len {F:Addr->Prop}{H:Hp}:∀(ts:List Tr) (vs:List V),AA F H ts vs->vs.length=ts.length
 |[],_,h=>by rw[show _=[] from h];rfl
 |t::ts,_,⟨v,us,e,_,h2⟩=>by rw[e,bT,bT,AA.len ts us h2]
theorem AA.get {F:Addr->Prop}{H:Hp}:∀{ts:List Tr} {vs:List V},AA F H ts vs->∀{i:Nat} {v:V},vs[i]?=some v->∃t,ts[i]?=some t/\Rep F H t v
 |[],_,h,i,v,hv=>by rw[show _=[] from h] at hv;simp at hv
 |t::ts,_,⟨w,us,e,h1,h2⟩,0,v,hv=>by
  rw[e] at hv;cases(bf hv);exact⟨t,rfl,h1⟩
 |t::ts,_,⟨w,us,e,h1,h2⟩,i+1,v,hv=>by
  rw[e] at hv;obtain⟨t',e1,e2⟩:=AA.get h2 (i:=i) (v:=v) (by simpa using hv);exact⟨t',by simpa using e1,e2⟩
theorem AA.append {F:Addr->Prop}{H:Hp}:∀{ts us:List Tr} {vs ws:List V},AA F H ts vs->AA F H us ws->AA F H (ts++us) (vs++ws)
 |[],us,_,ws,h,h2=>by rw[show _=[] from h];exact h2
 |t::ts,us,_,ws,⟨w,vs,e,h1,hr⟩,h2=>by
  rw[e];exact⟨w,vs++ws,rfl,h1,AA.append hr h2⟩
theorem AA.one {F:Addr->Prop}{H:Hp}{t:Tr}{v:V}(h:Rep F H t v):AA F H [t] [v]:=⟨v,[],rfl,h,rfl⟩
theorem Rep.ok {F:Addr->Prop}{H:Hp}:∀{t:Tr} {v:V},Rep F H t v->t.ok->Ok H v
 | .non,_,h,_=>by rw[show _=V.non from h];trivial
 | .bl _,_,h,_=>by rw[show _=V.bl _ from h];trivial
 | .int _,_,h,_=>by rw[show _=V.int _ from h];trivial
 | .str z,_,h,o=>by rw[show _=V.str z from h];exact o
 | .tup ts,_,⟨a,vs,e,ha,_⟩,_=>by rw[e];exact .inr ⟨vs,ha⟩
 | .lst ts,_,⟨a,vs,e,_,ha,_⟩,_=>by rw[e];exact .inl ⟨vs,ha⟩
mutual
theorem Rep.mono {F G:Addr->Prop}{H:Hp}(h:∀a,F a->G a):∀(t:Tr) (v:V),Rep F H t v->Rep G H t v
 | .non,_,q=>q
 | .bl _,_,q=>q
 | .int _,_,q=>q
 | .str _,_,q=>q
 | .tup ts,_,⟨a,vs,e,ha,hr⟩=>⟨a,vs,e,ha,AA.mono h ts vs hr⟩
 | .lst ts,_,⟨a,vs,e,fa,ha,hr⟩=>⟨a,vs,e,h a fa,ha,AA.mono h ts vs hr⟩
theorem AA.mono {F G:Addr->Prop}{H:Hp}(h:∀a,F a->G a):∀(ts:List Tr) (vs:List V),AA F H ts vs->AA G H ts vs
 |[],_,q=>q
 |t::ts,_,⟨v,us,e,h1,h2⟩=>⟨v,us,e,Rep.mono h t v h1,AA.mono h ts us h2⟩
end
theorem CF {K:PySem.W.Frag}{a:Addr}{H:Hp}{xs:List V}(h:H a=some (.tup xs)):J2 (Y6 K a) H xs:=λH' s i=>
 ⟨λhi=>⟨xs,xs[i],AV.of (s.get h),by simp[hi]⟩,λx H'' y=>⟨y.1,λ_=>y.2 xs (AV.of (s.get h))⟩,λhi=>⟨xs,AV.of (s.get h),hi⟩⟩
def Tr.ty:Tr->String
 | .non=>"NoneType"
 | .bl _=>"bool"
 | .int _=>"int"
 | .str _=>"str"
 | .tup _=>"tuple"
 | .lst _=>"list"
theorem Rep.tyN {F:Addr->Prop}{H:Hp}:∀{t:Tr} {v:V},Rep F H t v->L2.Hk H v=t.ty
 | .non,_,h=>by rw[show _=V.non from h];rfl
 | .bl _,_,h=>by rw[show _=V.bl _ from h];rfl
 | .int _,_,h=>by rw[show _=V.int _ from h];rfl
 | .str z,_,h=>by rw[show _=V.str z from h];rfl
 | .tup ts,_,⟨a,vs,e,ha,_⟩=>by rw[e];simp only[L2.Hk,ha];rfl
 | .lst ts,_,⟨a,vs,e,_,ha,_⟩=>by rw[e];simp only[L2.Hk,ha];rfl
theorem FZ {A:Around}{k:Nat}(hr:Room k A):A.units+150<cLine:=by have:=hr.un;omega
def BH (P:Program)(w:World)(K:PySem.W.Frag)(mg:Str->Option Value)(base:Heap)(k:Nat)(C:Addr)(m:Str)(ps:List Str)(sp:Sp):Prop:=
 ∃(f:Addr) (fd:FuncData),FnOk P w K mg base BO k f fd ps sp/\Meth K C m f/\Binds K fd ps []
def Sl (P:Program)(w:World)(K:PySem.W.Frag)(mg:Str->Option Value)(base:Heap)(k:Nat)(C:Addr)(x:Str)(ps:List Str)(sp:Sp):Prop:=
 ∃(f:Addr) (fd:FuncData),FnOk P w K mg base BO k f fd ps sp/\Mk K C f/\mg x=some (.ref C)/\Binds K fd ps []
section
variable {X:Cx}{k:Nat}{x m:Str}{C:Addr}{ps:List Str}{sp:Sp}{e o:Expr}{es:List Expr}{t:TA}{ta:TE}{p apos pos:Pos}
theorem Om (D:Sl X.prog X.w X.K X.mg X.base k C x ps sp) (hr:Room (k+1) X.A) (hg:Gl X x) (ha:PA X (e::es) t)
  (hdb:(x == ("__debug__":Str))=false:=by decide) (he:starEach (e::es) X.env=(false,eval e X.env)::starEach es X.env:=by rfl) (hpl:(backTo pos (starEach es X.env)).any (·.1)=false:=by rfl) :
  PE X (.Call (.Name x p) (e::es) [] pos) (XM C sp [] E0 t):=by
 obtain⟨f,fd,F,M,hm,hb⟩:=D;exact Wf M F hr hg hm hb .nil Pf ha hdb he hpl
theorem A2 {pl:Sem Bool} (ho:PE X o ta) (c:Cls X.K C) (D:BH X.prog X.w X.K X.mg X.base k C m ps sp) (hr:Room k X.A) (ha:PA X (e::es) t)
  (hst:starEach (e::es) X.env=(false,eval e X.env)::starEach es X.env:=by rfl) (hpl:(backTo pos (starEach es X.env)).any (·.1)=false:=by rfl)
  (ht:eval (.Call (.Attribute o m apos) (e::es) [] pos) X.env=(do
   let ov <-eval o X.env
   standAt apos.atName
   let(f,first) <-holding [ov] (getMethod ov m pl)
   callWith pos f first (backTo pos (starEach (e::es) X.env)) (backToKw pos (keywordEach [] X.env))):=by rfl) :
  PE X (.Call (.Attribute o m apos) (e::es) [] pos) (Nl C m sp [] E0 ta t):=by
 obtain⟨f,fd,F,M,hb⟩:=D;exact RA ho c M F hr hb .nil Pf ha hst hpl ht
theorem Ce {pl:Sem Bool} (ho:PE X o ta) (c:Cls X.K C) (D:BH X.prog X.w X.K X.mg X.base k C m ps sp) (hr:Room k X.A)
  (ht:eval (.Call (.Attribute o m apos) [] [] pos) X.env=(do
   let ov <-eval o X.env
   standAt apos.atName
   let(f,first) <-holding [ov] (getMethod ov m pl)
   callWith pos f first (backTo pos (starEach [] X.env)) (backToKw pos (keywordEach [] X.env))):=by rfl) :
  PE X (.Call (.Attribute o m apos) [] [] pos) (Nl C m sp [] E0 ta MT):=by
 obtain⟨f,fd,F,M,hb⟩:=D;exact Vo ho c M F hr hb .nil Pf ht
end
def SR (K:PySem.W.Frag)(a:Addr):It:=
 ⟨λi H=>∃xs x,AI K H a xs/\xs[i]?=some x,λi H v H'=>∃T x,H T=none/\v=.ref T/\(∀xs,AI K H a xs->xs[i]?=some x)/\H'=upd H T (.tup [.int (i:Int),x]),λi H=>∃xs,AI K H a xs/\xs.length=i⟩
theorem QK {P:Program}{w:World}{K:PySem.W.Frag}{els:List Expr}{kk:Nat}{pp:Pos}(a e it:Addr)(hei:e≠it):Turn P w K (.Tuple els kk pp) (SR K a) [e,it] e (λi h=>(∃old,IsEnum h e it (i:Int) old)/\h.IsListIter it a i) where
 mem:=by simp
 obj:=λi h st b hb=>by
  obtain⟨⟨old,he⟩,o,ho,_,hd⟩:=st;rcases bE.mp hb with rfl|hb
  ·exact⟨_,he,λv z=>by cases z⟩
  ·rw[ba.mp hb];exact⟨o,ho,λv z=>by rw[hd] at z;cases z⟩
 keep:=λi h h' st hk=>by
  obtain⟨⟨old,he⟩,o,ho,r⟩:=st;exact⟨⟨old,hk e (by simp) _ he⟩,o,hk it (by simp) o ho,r⟩
 item:=λX hP hw hK hc i pins s σ H E I hf st hg=>by
  subst hP hw hK;obtain⟨xs,x,hq,hx⟩:=hg;obtain⟨its,rv,p,hz⟩:=I.list hq;obtain⟨⟨old,he⟩,hit⟩:=st;have fe:=hf e (by simp);have fi:=hf it (by simp);obtain⟨u,hu,ru⟩:=rv.get hx;have il:=p.isList;have nae:a≠e:=λz=>by
   obtain⟨o,ho,c1,_⟩:=il;rw[z,he] at ho;cases ho;injection c1 with y;exact absurd y (by decide)
  have nai:a≠it:=λz=>by
   obtain⟨o,ho,c1,_⟩:=il;obtain⟨o2,ho2,c2,_⟩:=hit;rw[z,ho2] at ho;cases ho;rw[c2] at c1;injection c1 with y;exact absurd y (by decide)
  have W:=fV (prog:=X.prog) (w:=X.w) (A:=X.A) (Draws.list (prog:=X.prog) (w:=X.w) (A:=X.A.in1) (I.ok.hd hc) it a nai its.toArray) e hei (by simp[hei,Ne.symm nae]) (by simp);refine W.item i s _ E (by have:=(bu.mp hu).1;simp;omega) ⟨⟨old,he⟩,hit,il⟩ λT vals h1 tk ⟨t,y,hy,ev⟩ hT htu hm hk=>?_
  refine⟨.ref T,rfl,W.go els kk pp i T _ _ E hm λh2 st2 hk2=>?_⟩;obtain⟨⟨old2,he2⟩,hit2,_⟩:=st2;subst ev;have ey:y=u:=by
   have q1:its.toArray[i]?=some u:=by simpa using hu
   exact bf (hy.symm.trans q1)
  subst ey;have hTw:T∉[e,it]:=W.apart _ _ _ hm;have ht2:KU true h2 T #[.int (i:Int) t,y]:=by
   obtain⟨o,ho,c,m,d⟩:=htu;exact⟨o,hk2 T o hTw ho,c,m,d,λz=>nomatch z⟩
  refine⟨.ref T,upd H T (.tup [.int (i:Int),x]),?_,rfl,⟨T,x,I.hok.fresh hT,rfl,λzs hzs=>(by rw[I.list_inj hzs hq];exact hx),rfl⟩,⟨⟨old2,by simpa using he2⟩,hit2⟩,λb hb=>?_⟩
  ·have I2:=I.turned2 (h':=h2) (t':=tk) (xs:=[.int (i:Int),x]) (us:=[.int (i:Int) t,y]) fe fi (λb o b1 b2 q=>hk2 b o (by simp[b1,b2]) (hk b o (by simp[b1,b2]) q)) hT (.cons ⟨_,rfl⟩ (.cons ru .nil)) (by show 2<=sizeLine;decide) ht2;exact I2
  ·have nb:b≠T:=λz=>hTw (z▸hb)
   rw[Ag nb];exact(hf b hb).1
 done:=λX hP hw hK hc i pins s σ H E I hf st hg=>by
  subst hP hw hK;obtain⟨xs,hq,hx⟩:=hg;obtain⟨its,rv,p,hz⟩:=I.list hq;obtain⟨⟨old,he⟩,hit⟩:=st;have fe:=hf e (by simp);have fi:=hf it (by simp);have il:=p.isList;have nae:a≠e:=λz=>by
   obtain⟨o,ho,c1,_⟩:=il;rw[z,he] at ho;cases ho;injection c1 with y;exact absurd y (by decide)
  have nai:a≠it:=λz=>by
   obtain⟨o,ho,c1,_⟩:=il;obtain⟨o2,ho2,c2,_⟩:=hit;rw[z,ho2] at ho;cases ho;rw[c2] at c1;injection c1 with y;exact absurd y (by decide)
  have W:=fV (prog:=X.prog) (w:=X.w) (A:=X.A) (Draws.list (prog:=X.prog) (w:=X.w) (A:=X.A.in1) (I.ok.hd hc) it a nai its.toArray) e hei (by simp[hei,Ne.symm nae]) (by simp);have el:its.toArray.size=i:=by rw[bV,<-rv.length,hx]
  refine W.done s _ E (by rw[el];exact⟨⟨old,he⟩,hit,il⟩) λh' tk hk=>⟨rfl,?_⟩
  exact I.turned2n (h':=h') (t':=tk) fe fi λb o b1 b2 q=>hk b o (by simp[b1,b2]) q
 self:=λA i s Q E st h=>by
  obtain⟨⟨old,he⟩,_⟩:=st;exact fT he h
section
variable {X:Cx}{els:List Expr}{kk:Nat}{pp:Pos}
def YS (K:PySem.W.Frag)(ta:TA):TI:=λσ H R=>ta σ H λvs H1=>∃a xs,vs=[.ref a]/\AI K H1 a xs/\R (SR K a) H1
theorem Vc {l:Expr}{ta:TA}{p pos:Pos}(hg:Gl X "enumerate")(hm:X.mg "enumerate"=none)(ha:PA X [l] ta)(hs:starEach [l] X.env=[(false,eval l X.env)]:=by rfl):PI X (.Tuple els kk pp) (.Call (.Name "enumerate" p) [l] [] pos) (YS X.K ta):=by
 intro pins s σ H R I h;refine Call_ (HS I hg hm IH (fu (Bn (ha pos pins s σ H _ I h) λus s1 ⟨vs,H1,I1,r1,q1⟩=>?_) hs rfl));obtain⟨a,xs,rfl,hq,q⟩:=q1;obtain⟨u,rfl,ru⟩:=vals1 r1;cases ru;obtain⟨its,rv,pl,hz⟩:=I1.list hq;refine call_enumerate_list pl.isList λh' hE hit hz' hk=>?_
 refine fT hE ?_;refine⟨s1.heap.objs.size+1,[s1.heap.objs.size+1,s1.heap.objs.size],_,SR X.K a,H1,rfl,I1.kept (t':=s1.toks) hk,QK a (s1.heap.objs.size+1) s1.heap.objs.size (gT _),⟨⟨_,hE⟩,hit⟩,λb hb=>?_,q⟩;rcases bE.mp hb with rfl|hb
 ·exact I1.fpOk (eB _) (I1.hok.fresh (eB _))
 ·rw[ba.mp hb];exact I1.fpOk (aZ _) (I1.hok.fresh (aZ _))
end
theorem SK {K:PySem.W.Frag} {a:Addr} {xs:List V} {g:TG} {tb:TS} {D:Ends} {σ:St} {H:Hp} (Pv:Nat->St->Hp->Prop) (h0:Pv 0 σ H) (hl:∀(i:Nat) (σ:St) (H:Hp),i<=xs.length->Pv i σ H->AI K H a xs)
  (turn:∀(i:Nat) (x:V) (σ:St) (H:Hp) (T:Addr),xs[i]?=some x->Pv i σ H->H T=none->g (.ref T) σ (upd H T (.tup [.int (i:Int),x])) λσ2 H2=>tb { nx:=Pv (i+1),rt:=D.rt,bk:=D.nx,ct:=Pv (i+1) } σ2 H2)
  (done:∀(σ:St) (H:Hp),Pv xs.length σ H->D.nx σ H) :
  ∃W:Nat->Nat->St->Hp->Prop,(∃m,W 0 m σ H)/\∀i m σ H,W i m σ H->
   ((SR K a).stop i H/\D.nx σ H)\/((SR K a).go i H/\∃N:St->Hp->Prop,(∀σ' H',N σ' H'->∃m',m'<m/\W (i+1) m' σ' H')/\∀x H',(SR K a).yld i H x H'->g x σ H' λσ2 H2=>tb { D with nx:=N,ct:=N,bk:=D.nx } σ2 H2):=by
 refine⟨λi m σ H=>m=xs.length-i/\i<=xs.length/\Pv i σ H,⟨_,rfl,bU _,h0⟩,?_⟩
 rintro i m σ H ⟨rfl,hi,hp⟩
 by_cases hlt:i<xs.length
 ·refine .inr ⟨⟨xs,xs[i],hl i σ H hi hp,by simp[hlt]⟩,Pv (i+1),λσ' H' hn=>⟨xs.length-(i+1),by omega,rfl,hlt,hn⟩,?_⟩
  rintro x H' ⟨T,y,hT,rfl,hy,rfl⟩
  exact turn i y σ H T (hy xs (hl i σ H hi hp)) hp hT
 ·have e:i=xs.length:=by omega
  subst e;exact .inl ⟨⟨xs,hl _ σ H hi hp,rfl⟩,done σ H hp⟩
theorem Qf {P:Program}{w:World}{k:Key}{u:Value}(h:(AO P w).is k u=true):RelV (kV k) u:=by
 rcases Bz h with⟨i,t,rfl,rfl⟩|⟨x,t,rfl,rfl⟩
 ·exact⟨t,rfl⟩
 ·exact⟨t,rfl⟩
section
variable {X:Cx}
structure M0 (X:Cx) (o:Expr) (m:Str) (apos cpos:Pos):Prop where
 base:attributeBase o m X.env (eval o X.env)=eval o X.env
 few:((backTo cpos (starEach [] X.env)).all (λx=>!x.1)&&(backToKw cpos (keywordEach [] X.env)).all (λx=>x.1.isSome)
  && decide (([]:List Expr).length+([]:List Keyword).length+(if([]:List Keyword).isEmpty then 0 else 1)<30))=true
 line:(apos.endLine == cpos.line)=true
 trees:backTo cpos (starEach [] X.env)=[]
def Wm (td:TE):TE:=λσ H Q=>td σ H λx H1=>∃a kvs,x=.ref a/\H1 a=some (.dK kvs)/\Q .non (upd H1 a (.dK []))
theorem S9 {o:Expr}{td:TE}{apos cpos:Pos}(ho:PE X o td)(m:M0 X o "clear" apos cpos):PE X (.Call (.Attribute o "clear" apos) [] [] cpos) (Wm td):=by
 intro pins s σ H Q I h;refine dQ m.base m.few m.line cQ iu PySem.F.type_dict_clear (Bn (ho pins s σ H _ I h) λu s1 z9=>?_);obtain⟨x,H1,I1,rx,a,kvs,ex,ea,q1⟩:=z9;subst ex;obtain rfl:u=Value.ref a:=rx;obtain⟨t1,t2,_⟩:=IG I1 (.inl ⟨kvs,.inl ea⟩);refine⟨t1,t2,?_⟩;rw[m.trees];exact cC rfl (jb (Wj I1 ea λs3 I3=>⟨.non,_,I3,rfl,q1⟩))
end
theorem EL {t u:TS}{D:Ends}{σ:St}{H:Hp}(M:St->Hp->Prop)(h1:∀N:St->Hp->Prop,(∀σ' H',M σ' H'->N σ' H')->t { D with nx:=N } σ H)(h2:∀σ' H',M σ' H'->u D σ' H'):Wn t u D σ H:=h1 (u D) h2
theorem OM {J:It} {xs:List V} {fr:List (Option Nat)} {k:Nat} {te:TE} {Q:VK} {σ:St} {H:Hp} (I:Nat->List V->Addr->Hp->Prop) (hn:xs.length<=1000000)
  (hJ:∀i ys l H',I i ys l H'->(i<xs.length->J.go i H')/\(∀x H'',J.yld i H' x H''->H''=H'/\(i<xs.length->xs[i]?=some x))/\(xs.length<=i->J.stop i H'))
  (h0:∀l,H l=none->I 0 [] l (upd H l (.lst [])))
  (step:∀(i:Nat) (x:V) (ys:List V) (l:Addr) (H':Hp) (R:VK),xs[i]?=some x->H l=none->H' l=some (.lst ys)->ys.length=i->I i ys l H'->(∀y H'',H'' l=some (.lst ys)->I (i+1) (ys++[y]) l (upd H'' l (.lst (ys++[y])))->R y H'')->te ((stC fr σ).set k (some x)) H' R)
  (hQ:∀l H' (ys:List V),H l=none->H' l=some (.lst ys)->ys.length=xs.length->I xs.length ys l H'->Q (.ref l) H'):Da fr (Bt k) PD te σ Q J H:=by
 intro l hl;refine⟨λi m σ' H'=>m=xs.length-i/\i<=xs.length/\(∀y,σ'.set k y=(stC fr σ).set k y)/\∃ys:List V,H' l=some (.lst ys)/\ys.length=i/\I i ys l H',⟨xs.length,by simp,bU _,λ_=>rfl,[],Ae,rfl,h0 l hl⟩,?_⟩
 rintro i m σ' H' ⟨rfl,hi,hσ,ys,hl',hlen,hI⟩
 obtain⟨h1,h2,h3⟩:=hJ i ys l H' hI
 by_cases hlt:i<xs.length
 ·refine .inr ⟨h1 hlt,λx H'' y=>?_⟩;obtain⟨rfl,hx⟩:=h2 x H'' y;have hx:=hx hlt;show te (σ'.set k (some x)) H'' _;rw[hσ];refine step i x ys l H'' _ hx hl hl' hlen hI λy H4 hl4 hI4=>?_
  exact⟨ys,hl4,Bd (by omega),xs.length-(i+1),by omega,rfl,hlt,λy=>by rw[dH],ys++[y],Ae,by rw[bx,hlen];rfl,hI4⟩
 ·have e:i=xs.length:=by omega
  subst e;exact .inl ⟨h3 (aZ _),hQ l H' ys hl hl' hlen hI⟩
theorem QQ {lo:Int}{n i:Nat}{H:Hp}:(i<((List.range n).map λ(i:Nat)=>V.int (lo+(i:Int))).length->(VV lo n).go i H)/\(∀x H'',(VV lo n).yld i H x H''->H''=H/\(i<((List.range n).map λ(i:Nat)=>V.int (lo+(i:Int))).length->((List.range n).map λ(i:Nat)=>V.int (lo+(i:Int)))[i]?=some x))/\(((List.range n).map λ(i:Nat)=>V.int (lo+(i:Int))).length<=i->(VV lo n).stop i H):=by
 rw[aS,bY];refine⟨λh=>h,λx H'' y=>⟨y.1,λh=>?_⟩,λh=>h⟩;rw[bz,gr h,y.2];rfl
end L2
namespace L2
section
open PySem
open Sem (wp wp_bind' wp_mono)
def S1 (o:Obj):Prop:=∃vs,o.data=.fields vs/\vs[2]?=some .none
def DictAt (h:Heap)(e:Addr)(d:Option Addr):Prop:=∃o,h.objs[e]?=some o/\o.dict=d/\S1 o
def DK {α:Type}(t:Sem α):Prop:=∀(M:Model) (Γ:Ctx) (Q:α->Pos->Shared->Prop) (E:Value->Pos->Shared->Prop) (p:Pos) (s:Shared) (e:Addr) (d:Option Addr),wp M Γ t Q E p s->DictAt s.heap e d->
 wp M Γ t (λa p s'=>Q a p s'/\DictAt s'.heap e d) (λv p s'=>E v p s'/\DictAt s'.heap e d) p s
variable {α β:Type}
theorem Bu (a:α):DK (pure a:Sem α):=λ_ _ _ _ _ _ _ _ h j=>⟨h,j⟩
theorem CI (w:String):DK (PySem.unsupported w:Sem α):=λ_ _ _ _ _ _ _ _ h _=>False.elim h
theorem AZ {m:Sem α}{f:α->Sem β}(h1:DK m)(h2:∀a,DK (f a)):DK (m >>= f):=by
 intro M Γ Q E p s e d h j;rw[wp_bind'] at h ⊢;exact wp_mono M Γ m (λa p' s' q=>h2 a M Γ Q E p' s' e d q.1 q.2) (λ_ _ _ q=>q) p s (h1 M Γ _ E p s e d h j)
theorem N7 (a:Addr):DK (load a):=λM Γ Q E p s e d ⟨o,q,h⟩ j=>⟨o,q,h,j⟩
theorem Mq:DK stack:=λM Γ Q E p s e d h j=>⟨h,j⟩
theorem Pi (o:Obj):DK (alloc o):=λM Γ Q E p s e d h ⟨o1,q,hd⟩=>⟨h,o1,by
 show(s.heap.objs.push o)[e]?=some o1;have hlt:e<s.heap.objs.size:=(Array.getElem?_eq_some_iff.mp q).1;rw[Array.getElem?_push,bH (bI hlt)];exact q,hd⟩
theorem NX (a:Addr){f:Obj->Obj}(hf:∀o,(f o).dict=o.dict/\(S1 o->S1 (f o))):DK (update a f):=λM Γ Q E p s e d ⟨q0,h⟩ ⟨o1,q,hd,h2⟩=>⟨q0,h,by
 by_cases ea:a=e
 ·subst ea;refine⟨f o1,?_,by rw[(hf o1).1];exact hd,(hf o1).2 h2⟩;show(s.heap.objs.modify a f)[a]?=some (f o1);rw[iU,bF rfl,q];rfl
 ·refine⟨o1,?_,hd,h2⟩;show(s.heap.objs.modify a f)[e]?=some o1;rw[iU,bH ea];exact q⟩
theorem GY {c:Prop}[Decidable c]{t u:Sem α}(h1:DK t)(h2:DK u):DK (if c then t else u):=by
 split
 ·exact h1
 ·exact h2
theorem LY {i:Nat}(hi:i≠2)(x:Value)(o:Obj):(Obj.mapFields (·.setIfInBounds i x) o).dict=o.dict/\(S1 o->S1 (Obj.mapFields (·.setIfInBounds i x) o)):=by
 constructor
 ·unfold Obj.mapFields
  split<;>rfl
 ·rintro⟨vs,h1,h2⟩
  obtain⟨c,d,dt,sl⟩:=o;dsimp only at h1;subst h1;exact⟨_,rfl,by rw[Array.getElem?_setIfInBounds_ne hi];exact h2⟩
theorem PJ (v:Value):DK (fieldsOf v):=by
 unfold fieldsOf
 split
 ·refine AZ (N7 _) λo=>?_
  split
  ·exact Bu _
  ·exact CI _
 ·exact CI _
theorem JC (v:Value)(i:Nat):DK (field v i):=by
 unfold field;refine AZ (PJ v) λvs=>?_
 split
 ·exact Bu _
 ·exact CI _
theorem Gu (v:Value){i:Nat}(hi:i≠2)(x:Value):DK (setField v i x):=by
 unfold setField updateField
 split
 ·refine AZ (N7 _) λo=>?_
  split
  ·exact GY (NX _ (LY hi x)) (CI _)
  ·exact CI _
 ·exact CI _
theorem N3 (ty:String)(vs:List Value):DK (newFields ty vs):=by
 unfold newFields newObj newObjAsIs;dsimp only
 split
 ·exact AZ (CI _) λ_=>AZ (Pi _) λ_=>Bu _
 ·exact AZ (Pi _) λ_=>Bu _
theorem Pu (a b c d e:Value)(l:List Value):DK (EntryCells.newEntry a b c d e l):=N3 _ _
theorem NZ:DK frameEnvs:=AZ Mq λ_=>Bu _
theorem O1 (env:Env)(outer:List Env):DK (behindIsImport env outer):=by
 unfold behindIsImport;refine GY (Bu _) ?_;refine GY (Bu _) ?_;exact AZ (JC _ _) λ_=>Bu _
theorem O7 (env:Env)(i:Bool)(outer:List Env):DK (keptBack env i outer):=by
 unfold keptBack
 split
 ·refine GY (Bu _) ?_;refine AZ (AZ Mq λ_=>Bu _) λ_=>Bu _
 ·exact Bu _
theorem Pe:∀l:List Env,DK (readyFrames l)
 |[]=>Bu _
 |env::outer=>by
  unfold readyFrames
  split
  ·refine AZ (N7 _) λo=>?_
   refine GY (Bu _) ?_;refine AZ (O1 _ _) λ_=>AZ (O7 _ _ _) λ_=>AZ (NX _ λ_=>⟨rfl,λh=>h⟩) λ_=>Pe outer
  ·exact CI _
theorem Rc (env:Env):DK (frameOf env):=by
 unfold frameOf;refine AZ NZ λl=>?_
 refine AZ ?_ λr=>?_
 ·unfold frameObject
  split
  ·exact Bu _
  ·exact AZ (Pe _) λ_=>Bu _
 ·split
  ·exact Bu _
  ·exact CI _
theorem MS (f:Addr)(b:Bool):DK (entryPlaceOf f b):=by
 unfold entryPlaceOf;refine AZ Mq λl=>?_
 split<;>exact Bu _
theorem Ox (e:Value)(f:Option Addr):DK (setFlight e f):=by
 unfold setFlight;exact AZ (JC _ _) λ_=>GY (Gu _ (by decide) _) (Bu _)
theorem OS (e:Value)(env:Env):DK (noteFrame e env):=by
 unfold noteFrame
 split
 ·rename_i fa _
  refine AZ (JC _ _) λhead=>?_
  have rest:DK (do setField e 1 (<-EntryCells.newEntry head (<-frameOf env) .none (rawInt fa) .none (<-entryPlaceOf fa (head != .none)))):=
   AZ (Rc _) λ_=>AZ (MS _ _) λ_=>AZ (Pu _ _ _ _ _ _) λ_=>Gu _ (by decide) _
  refine GY ?_ rest;refine AZ (JC _ _) λ_=>?_
  refine GY (Bu _) ?_;exact AZ (Gu _ (by decide) _) λ_=>rest
 ·exact CI _
theorem MC (env:Env)(e:Value):DK (leaving env e):=AZ (OS _ _) λ_=>Ox _ _
theorem DK.also {t:Sem α}(k:DK t){M:Model}{A:Around}{Q:α->Shared->Prop}{E:Value->Shared->Prop}{s:Shared}{e:Addr}{d:Option Addr}(j:DictAt s.heap e d)(h:wpAny M A t (λa s'=>DictAt s'.heap e d->Q a s') E s):wpAny M A t Q E s:=λΓ p hΓ=>
 wp_mono M Γ t (λ_ _ _ q=>q.1 q.2) (λ_ _ _ q=>q.1) p s (k M Γ _ _ p s e d (h Γ p hΓ) j)
theorem Wp {h:Heap}{e:Addr}{o:Obj}(q:h.get? e=some o)(f:S1 o):DictAt h e o.dict:=by
 unfold Heap.get? at q
 split at q
 ·cases q
 ·exact⟨o,q,rfl,f⟩
end
end L2
namespace L2
open PySem PySem.Spec PyProof.Rows
structure Fly (P:Program) (w:World) (outer:List Env) (H:Hp) (s:Shared) (ea:Addr) (cls:Value) (H':Hp) (B:Heap) (a0:Value) (s':Shared):Prop where
 os:s'.os=s.os
 bare:AllBare s'.gens
 un:Un (JZ outer) [] H H' s.heap s'.heap
 hok:Hv P w H' B
 fl:Heap.FlyingW B outer ea cls a0 s'.heap
 kp:∀b o,s.heap.get? b=some o->H b=none->b∉JZ outer->B.get? b=some o
 th:∀b o,s.heap.get? b=some o->b∉JZ outer->∃o',B.get? b=some o'
 dj:∃d,DictAt s'.heap ea d
def OT (P:Program)(w:World):SM:=λouter H s E e s'=>∃(ea:Addr) (cls:Value) (H':Hp) (B:Heap) (a0:Value),e=.ref ea/\Fly P w outer H s ea cls H' B a0 s'/\E cls none H'
section
variable {P:Program}{w:World}{outer:List Env}{H H':Hp}{s s':Shared}{ea:Addr}{cls a0:Value}{B h' base:Heap}
theorem Fly.stay (F:Fly P w outer H s ea cls H' B a0 s')(hl:s.heap.FunFrames base outer)(hn:∀b∈JZ outer,H b=none)(sB:B.StaysIn h')(up:s'.heap.UpToSlots h'):Un (JZ outer) [] H H' s.heap h':=by
 have sl:∀b o,s.heap.get? b=some o->b∈JZ outer->∃sl,h'.get? b=some { o with slots:=sl }:=λb o q hb=>by
  obtain⟨z,e⟩:=F.un.slot b o q (hn b hb) hb (by simp);obtain⟨_,o',ho',hd⟩:=hl.mem hb;rw[q] at ho';cases ho';exact up b { o with slots:=z } e hd
 refine⟨λb o q n hb _=>sB b o (F.kp b o q n hb),λb o q _ hb _=>sl b o q hb,F.un.free,λb o q _=>?_,F.un.tups,F.un.frzs,F.un.tbls⟩
 by_cases hb:b∈JZ outer
 ·obtain⟨z,e⟩:=sl b o q hb;exact⟨_,e⟩
 ·obtain⟨o',e⟩:=F.th b o q hb;exact⟨o',sB b o' e⟩
end
section
variable {X:Cx}{pins:List (Addr×Obj)}{σ:St}{H H':Hp}{s s':Shared}{ea:Addr}{cls a0:Value}{B h':Heap}
theorem Inv.landed (I:Inv X pins σ H s)(F:Fly X.prog X.w X.stack H s ea cls H' B a0 s')(sB:B.StaysIn h')(up:s'.heap.UpToSlots h'):Inv X pins σ H' { s' with heap:=h' }:=
 I.call' (s':={ s' with heap:=h' }) (ch:=[]) F.os (F.stay I.stack I.stkFree sB up) (F.hok.kept sB) F.bare (λb z=>nomatch z)
theorem Inv.hid (I:Inv X pins σ H s):Hv X.prog X.w H (PySem.W.hideAll s.heap (JZ X.stack)):=λb u e=>by
 refine(I.hok b u e).stay (λc v hc q=>dO _ q λz=>?_) (λ_ q=>q) λ_ _ q=>q
 have:=I.stkFree c z;rcases hc with rfl|hc
 ·rw[e] at this;cases this
 ·rw[hc] at this;cases this
theorem Inv.hidFrames (I:Inv X pins σ H s):s.heap.FunFrames (PySem.W.hideAll s.heap (JZ X.stack)) X.stack:=
 PySem.W.funFrames_hide I.stack λenv he a ha=>gD.mpr ⟨env,he,ha⟩
theorem Inv.made1 {h1:Heap}{vs:List Value}{l:List Env}{t':Nat}(I:Inv X pins σ H s)(hx:Heap.MadeExcOf s.heap h1 ea cls vs)(fl:Heap.FlyingW (PySem.W.hideAll s.heap (JZ X.stack)) l ea cls a0 h')(up:h1.UpToSlots h') :
  Un (JZ X.stack) [] H H s.heap h':=by
 have sl:∀b o,s.heap.get? b=some o->b∈JZ X.stack->∃sl,h'.get? b=some { o with slots:=sl }:=λb o q hb=>by
  obtain⟨_,o',ho',hd⟩:=I.stack.mem hb;rw[q] at ho';cases ho';exact up b _ (hx.keeps b o q) hd
 refine⟨λb o q _ hb _=>fl.1 b o (dO _ q hb),λb o q _ hb _=>sl b o q hb,λb o _ n _=>n,λb o q _=>?_,λ_ _ e=>e,λ_ _ _ e=>e,λb ps e=>⟨#[],by rw[e];simp⟩⟩
 by_cases hb:b∈JZ X.stack
 ·obtain⟨z,e⟩:=sl b o q hb;exact⟨_,e⟩
 ·exact⟨o,fl.1 b o (dO _ q hb)⟩
end
def aG (X:Cx)(E:XK):Prop:=∀(pins:List (Addr×Obj)) (σ:St) (H:Hp) (s:Shared) (cls:Value) (h1:Heap) (ea:Addr) (vs:List Value),Inv X pins σ H s->Heap.MadeExcOf s.heap h1 ea cls vs->E cls none H->X.xe (.ref ea) { s with heap:=h1 }
section
variable {P:Program}{w:World}{K:PySem.W.Frag}{mg:Str->Option Value}{base:Heap}{N:List Str}{qual:Str}{scope:Scope}{f:Addr}{cd:Value}{A:Around}{outer:List Env}{s:Shared}{H:Hp}{E:XK}
theorem IV {pins:List (Addr×Obj)}{σ:St}{H1:Hp}{s1:Shared}(I:Inv (BB (OT P w) P w K mg base N qual scope f cd A outer s H E) pins σ H1 s1){b:Addr}{o:Obj}(q:s.heap.get? b=some o)(hb:b∉JZ outer) :
  b∉JZ (envOfC qual scope s.heap.objs.size f cd::outer):=λz=>by
 rcases bE.mp (I.stkSub b z) with e|e
 ·have h1:s.heap.objs.size<=b:=by rw[e];exact I.ok.above
  exact absurd (bO (bG q) h1) (dk _)
 ·exact hb e
theorem RJ:Eo (OT P w) (BB (OT P w) P w K mg base N qual scope f cd A outer s H E) E:=by
 intro pins σ H1 s1 e s2 I h;obtain⟨ea,cls,H',B,a0,rfl,F,q⟩:=h;have hfr:=I.ok.frames;obtain⟨d,dj⟩:=F.dj;refine(MC _ _).also dj (wpAny_leaves_onW (L:=s.heap.objs.size) hfr rfl F.fl λh' fl' up dj'=>?_);have un:=F.stay I.stack I.stkFree fl'.1 up;have J:=I.call' (s':={ s2 with heap:=h' }) (ch:=[]) F.os un (F.hok.kept fl'.1) F.bare (λb z=>nomatch z);refine⟨ea,cls,H',B,a0,rfl,⟨J.os,F.bare,J.base,F.hok,fl',λb o e n hb=>?_,λb o e hb=>?_,⟨d,dj'⟩⟩,q⟩
 ·exact F.kp b o (I.base.keep b o e n hb (by intro z;cases z)) (I.base.free b o e n (by intro z;cases z)) (IV I e hb)
 ·obtain⟨o1,e1⟩:=I.base.there b o e (by intro z;cases z);exact F.th b o1 e1 (IV I e hb)
theorem UB:aG (BB (OT P w) P w K mg base N qual scope f cd A outer s H E) E:=by
 intro pins σ H1 s1 cls h1 ea vs I hx q;have hfr:=I.ok.frames;obtain⟨t0,ob,_⟩:=hx.there;refine(MC _ _).also (s:={ s1 with heap:=h1 }) (Wp ob ⟨_,rfl,rfl⟩) (wpAny_leaves_madeW (base:=PySem.W.hideAll s1.heap (JZ (envOfC qual scope s.heap.objs.size f cd::outer))) (h:=s1.heap) (L:=s.heap.objs.size) hfr rfl (λb o e=>PySem.W.of_hideAll _ e) I.hidFrames hx λh' t fl' _ _ up dj'=>?_);have un:=I.made1 (t':=s1.toks) hx fl' up;have J:=I.call' (s':={ s1 with heap:=h' }) (ch:=[]) rfl un (I.hid.kept fl'.1) I.bare (λb z=>nomatch z);refine⟨ea,cls,H1,_,_,rfl,⟨J.os,I.bare,J.base,I.hid,fl',λb o e n hb=>?_,λb o e hb=>?_,⟨_,dj'⟩⟩,q⟩
 ·exact dO _ (I.base.keep b o e n hb (by intro z;cases z)) (IV I e hb)
 ·obtain⟨o1,e1⟩:=I.base.there b o e (by intro z;cases z);exact⟨o1,dO _ e1 (IV I e hb)⟩
end
abbrev Ya:List Value:=[.type "ValueError",.type "Exception",.type "BaseException",.type "object"]
theorem Wu {K:PySem.W.Frag}{h:Heap}{C:Addr}(Kh:K.In h)(q:PySem.W.excIn K C Ya "ValueError.__new__"=true) :
  ∃bm N nm qn bs hd sn sub ab col dd k0 k1 k2 k3 k5 mN,h.get? C=some (excClassObj nm qn C N bs bm hd sn sub ab col dd k0 k1 k2 k3 k5 "ValueError.__new__")/\h.Ns N mN/\mN "__init__"=none/\OwnTail h Ya bm:=by
 unfold PySem.W.excIn at q
 split at q
 ·rename_i dx ck slots found
  split at q
  ·rename_i C0 tl p0 p1 p2 p3 made p5 em es
   rw[bL,bL,bL,bL,bL] at q;obtain⟨⟨⟨⟨⟨z1,z2⟩,z3⟩,z4⟩,z5⟩,z6⟩:=q;have y1:C0=C:=cV.mp z1;have y2:made="ValueError.__new__":=cV.mp z2;have y3:ck.hasDel=false:=by simpa using z3
   subst y1 y2;obtain⟨nm,bs,mro,ns,qn,hd,sn,sub,ab,col,del⟩:=ck;simp only at em y3 z5 z6;subst em y3;have es':slots = #[p0,p1,p2,p3,some (.builtin "ValueError.__new__"),p5]:=by
    obtain⟨l⟩:=slots;simp only at es;rw[es]
   subst es';exact⟨tl,ns,nm,qn,bs,hd,sn,sub,ab,col,dx,p0,p1,p2,p3,p5,_,Kh _ _ found,.of_isNs (PySem.W.isNs_of_in Kh z5),PySem.W.nsMap_none_of_in Kh z5 (cV.mp z6),PySem.W.tail_of_in Kh z4⟩
  ·cases q
 ·cases q
section
variable {X:Cx}{E:XK}{x:Str}{C:Addr}{np cpos pos:Pos}
theorem SQ (R:aG X E)(hc:X.calm=true)(hm:X.mg x=some (.ref C))(hq:PySem.W.excIn X.K C Ya "ValueError.__new__"=true)(hg:Gl X x)(hd:(x == ("__debug__":Str))=false:=by decide) :
  PS X (.Raise (some (.Call (.Name x np) [] [] cpos)) none pos) (λ_ _ H=>E (.ref C) none H):=by
 intro pins s σ H D I h;obtain⟨tl,N,nm,q,bs,hdct,sn,sub,ab,col,dd,k0,k1,k2,k3,k5,mN,hC,hN,hni,T⟩:=Wu I.kIn hq;refine wpAny_Raise_call_subT (C:=C) (nm:=nm) (q:=q) (N:=N) (bs:=bs) (bm:=tl) (hdct:=hdct) (sn:=sn) (sub:=sub) (ab:=ab) (col:=col) (dd:=dd) (k0:=k0) (k1:=k1) (k2:=k2) (k3:=k3) (k5:=k5)
  PySem.F.excBase_ValueError (mN:=mN) (T.hasType PySem.F.excBase_ValueError.hasBase) (I.ok.hd hc) rfl hni (G9 I hg hm ⟨rfl,?_⟩ hd)
 exact evalArgs_empty ⟨rfl,bU _,hC,hN,T,λh' e hx=>R pins σ H s (.ref C) h' e [] I hx h⟩
end
abbrev XS:=Value->St->Hp->Prop
abbrev TX:=Ends->XS->St->Hp->Prop
def XP (X:Cx)(pins:List (Addr×Obj))(Ex:XS)(e:Value)(s':Shared):Prop:=
 ∃(ea:Addr) (cls:Value) (σ':St) (H1 H':Hp) (s1:Shared) (B:Heap) (a0:Value),e=.ref ea/\Inv X pins σ' H1 s1/\Fly X.prog X.w X.stack H1 s1 ea cls H' B a0 s'/\Ex cls σ' H'
def PX (X:Cx)(st:Stmt)(t:TX):Prop:=
 ∀(pins:List (Addr×Obj)) (s:Shared) (σ:St) (H:Hp) (D:Ends) (Ex:XS),Inv X pins σ H s->t D Ex σ H->wpAny (model X.prog X.w) X.A (exec st X.env) (SP X pins D) (XP X pins Ex) s
def aE (X:Cx)(st:List Stmt)(t:TX):Prop:=
 ∀(pins:List (Addr×Obj)) (s:Shared) (σ:St) (H:Hp) (D:Ends) (Ex:XS),Inv X pins σ H s->t D Ex σ H->wpAny (model X.prog X.w) X.A (execs st X.env) (SP X pins D) (XP X pins Ex) s
def aH (X:Cx)(e:Expr)(t:(Value->Hp->Prop)->TE):Prop:=
 ∀(pins:List (Addr×Obj)) (s:Shared) (σ:St) (H:Hp) (Q:VK) (Ex:Value->Hp->Prop),Inv X pins σ H s->t Ex σ H Q->wpAny (model X.prog X.w) X.A (eval e X.env) (EP X pins σ Q) (XP X pins λcls σ' H'=>σ'=σ/\Ex cls H') s
section
variable {X:Cx}{st:Stmt}{rest:List Stmt}{e:Expr}{pos:Pos}
theorem RC {t:TS}(h:PS X.nox st t):PX X st (λD _=>t D):=λpins s σ H D Ex I q=>
 b4 (h pins s σ H D (I.wish _) q) (λ_ _ z=>z.unwish) λ_ _ z=>False.elim z
theorem Ow {t:TX}(h1:PX X st t):aE X [st] t:=by
 intro pins s σ H D Ex I h;refine ig (Bn (h1 pins s σ H D Ex I h) λf s1 q=>?_);cases f with
 |next=>exact fJ q
 |ret v=>exact q
 |brk=>exact q
 |cont=>exact q
theorem Zw {pins:List (Addr×Obj)}{σ:St}{Ex:XS}{v:Value}{s:Shared}(h:XP X pins (λcls σ' H'=>σ'=σ/\Ex cls σ H') v s):XP X pins Ex v s:=by
 obtain⟨ea,cls,σ',H1,H',s1,B,a0,h1,h2,h3,h4,h5⟩:=h;subst h4;exact⟨ea,cls,_,H1,H',s1,B,a0,h1,h2,h3,h5⟩
def Y8 (te:(Value->Hp->Prop)->TE):TX:=λD Ex σ H=>te (λcls H'=>Ex cls σ H') σ H λ_ H1=>D.nx σ H1
theorem Xf {te:(Value->Hp->Prop)->TE}(he:aH X e te)(hs:swapsWith e none pos.line X.env=pure false:=by rfl):PX X (.Expr e pos) (Y8 te):=by
 intro pins s σ H D Ex I h;exact wpAny_Expr_any (b4 (he pins s σ H _ _ I h) (λv s1 ⟨x,H1,I1,r1,q1⟩=>⟨σ,H1,I1,q1⟩) λ_ _ z=>Zw z) I.quiet hs
end
def Yp (P:Program)(w:World)(K:PySem.W.Frag)(mg:Str->Option Value)(base:Heap)(k:Nat)(x:Str)(ps:List Str)(sp:Sp):Prop:=
 ∃(f:Addr) (fd:FuncData),FnOk P w K mg base (OT P w) k f fd ps sp/\mg x=some (.ref f)/\PySem.W.keepIn K (.ref f)=true/\Binds K fd ps []
def Km (P:Program)(w:World)(K:PySem.W.Frag)(mg:Str->Option Value)(base:Heap)(k:Nat)(C:Addr)(m:Str)(ps:List Str)(sp:Sp):Prop:=
 ∃(f:Addr) (fd:FuncData),FnOk P w K mg base (OT P w) k f fd ps sp/\Meth K C m f/\Binds K fd ps []
theorem Fun.okX {P:Program} {w:World} {K:PySem.W.Frag} {mg:Str->Option Value} {base:Heap} {x qual:Str} {st:Stmt} {f:Addr} {fd:FuncData} {N ps:List Str} {k:Nat} {sp:Sp} (F:Fun K x qual st f fd) (S:FnScope N ps (Am st)) (len:∀vs H Q E,sp vs H Q E->vs.length=ps.length)
  (hbody:∀(cdv:Value) (A:Around) (outer:List Env) (s:Shared) (H:Hp) (vs:List V) (Q:VK) (E:XK),Room k (A.deeper (envOfC qual (Am st) s.heap.objs.size f cdv))->sp vs H Q E->
   ∃t,Qi (BB (OT P w) P w K mg base N qual (Am st) f cdv A outer s H E) (FX st) t/\t { nx:=λ_ H'=>Q .non H',rt:=Q } (start N vs) H):FnOk P w K mg base (OT P w) (k+1) f fd ps sp:=by
 obtain⟨oc,od,kV,doc,pm,an,cdv,ct,osl,rfl,lk,hcd⟩:=F.ex;exact XR lk hcd S len λA outer s H vs Q E hr hsp=>hbody cdv A outer s H vs Q E hr hsp
section
variable {X:Cx}{k:Nat}{x m:Str}{C:Addr}{ps:List Str}{sp:Sp}{E:XK}{e o:Expr}{es:List Expr}{t:TA}{ta:TE}{p pos apos:Pos}
theorem Yw (D:Yp X.prog X.w X.K X.mg X.base k x ps sp) (hr:Room k X.A) (hg:Gl X x) (hx:Eo (OT X.prog X.w) X E) (ha:PA X (e::es) t)
  (hdb:(x == ("__debug__":Str))=false:=by decide) (he:starEach (e::es) X.env=(false,eval e X.env)::starEach es X.env:=by rfl) (hpl:(backTo pos (starEach es X.env)).any (·.1)=false:=by rfl) :
  PE X (.Call (.Name x p) (e::es) [] pos) (Pk sp [] E t):=by
 obtain⟨f,fd,F,hm,hk,hb⟩:=D;exact RN F hr hg hm hk hb .nil hx ha hdb he hpl
theorem Xn {pl:Sem Bool} (ho:PE X o ta) (c:Cls X.K C) (D:Km X.prog X.w X.K X.mg X.base k C m ps sp) (hr:Room k X.A) (hx:Eo (OT X.prog X.w) X E) (ha:PA X (e::es) t)
  (hst:starEach (e::es) X.env=(false,eval e X.env)::starEach es X.env:=by rfl) (hpl:(backTo pos (starEach es X.env)).any (·.1)=false:=by rfl)
  (ht:eval (.Call (.Attribute o m apos) (e::es) [] pos) X.env=(do
   let ov <-eval o X.env
   standAt apos.atName
   let(f,first) <-holding [ov] (getMethod ov m pl)
   callWith pos f first (backTo pos (starEach (e::es) X.env)) (backToKw pos (keywordEach [] X.env))):=by rfl) :
  PE X (.Call (.Attribute o m apos) (e::es) [] pos) (Nl C m sp [] E ta t):=by
 obtain⟨f,fd,F,hm,hb⟩:=D;exact RA ho c hm F hr hb .nil hx ha hst hpl ht
theorem W0 {CX:SM} {f:Addr} {fd:FuncData} {pins:List (Addr×Obj)} {σ:St} {H:Hp} {s:Shared} {Q:VK} {us:List Value} {vs:List V} {Ex:Value->Hp->Prop} (F:FnOk X.prog X.w X.K X.mg X.base (OT X.prog X.w) k f fd ps sp) (hr:Room k X.A) (hb:Binds X.K fd ps [])
  (I:Inv X pins σ H s) (r:AR vs us) (h:sp (vs++[]) H Q λcls _ H'=>Ex cls H'):wpAny (model X.prog X.w) X.A (call (.ref f) us) (EP X pins σ Q) (XP X pins λcls σ' H'=>σ'=σ/\Ex cls H') s:=by
 rw[cm] at h;have hl:us.length=ps.length:=by rw[<-r.length];exact F.len _ _ _ _ h
 have hb':=hb s us I.kIn (by rw[cm];exact hl);rw[cm] at hb';refine gm (dC (F.run X.A X.stack s H ⟨us,[]⟩ us vs Q _ hr I.env0 hb' r h) λr s' hq=>?_);cases r with
 |error e=>
  obtain⟨ea,cls,H',B,a0,he,Fl,q⟩:=hq;exact⟨ea,cls,σ,H,H',s,B,a0,he,I,Fl,rfl,q⟩
 |ok fl=>
  cases fl with
  |ret u=>exact I.after hq
  |next=>exact False.elim hq
  |brk=>exact False.elim hq
  |cont=>exact False.elim hq
end
def Cx.held (X:Cx)(e:Value):Cx:={ X with A:=X.A.mark (some e),calm:=false,xe:=λ_ _=>False }
section
variable {X:Cx}{pins:List (Addr×Obj)}{σ:St}{H:Hp}{s:Shared}{e:Value}
theorem Inv.held (I:Inv X pins σ H s)(e:Value):Inv (X.held e) pins σ H s:=
 ⟨⟨I.ok.mod,I.ok.kind,I.ok.glob,I.ok.blt,I.ok.above,I.ok.inj,I.ok.has,I.ok.cab,(λz=>nomatch z),I.ok.frames,I.ok.stk,I.ok.exf,I.ok.bs,I.ok.bsz,I.ok.noex,I.ok.exfs,I.ok.funs,I.ok.frf⟩,I.os,I.bare,I.base,I.loc,I.cell,I.free,I.freeC,I.pin,I.hok,I.len⟩
theorem Inv.unheld (J:Inv X pins σ H s){σ':St}{H':Hp}{s':Shared}(I:Inv (X.held e) pins σ' H' s'):Inv X pins σ' H' s':=
 ⟨J.ok,I.os,I.bare,I.base,I.loc,I.cell,I.free,I.freeC,I.pin,I.hok,I.len⟩
theorem SP.unheld (J:Inv X pins σ H s){D:Ends}{f:Flow}{s':Shared}(h:SP (X.held e) pins D f s'):SP X pins D f s':=by
 cases f with
 |next=>obtain⟨σ',H',I,q⟩:=h;exact⟨σ',H',J.unheld I,q⟩
 |brk=>obtain⟨σ',H',I,q⟩:=h;exact⟨σ',H',J.unheld I,q⟩
 |cont=>obtain⟨σ',H',I,q⟩:=h;exact⟨σ',H',J.unheld I,q⟩
 |ret u=>obtain⟨v,σ',H',I,r,q⟩:=h;exact⟨v,σ',H',J.unheld I,r,q⟩
end
section
variable {X:Cx}{x:Str}{c:Value}{body orelse suite:List Stmt}{b₀:Stmt}{np hpos pos:Pos}
def ae (K:PySem.W.Frag)(c:Value)(tb:TX)(te ts:TS):TS:=λD σ H=>tb { D with nx:=te D } (λcls σ' H'=>PySem.W.exmOne K cls c=some true/\ts D σ' H') σ H
theorem Qo {tb:TX} {te ts:TS} (hst:X.stack=X.env::X.outer/\X.env.frame=some X.env.locals) (hm:X.mg x=some c) (hg:Gl X x) (hb:aE X body tb) (he:Qi X orelse te) (hs:∀e,Qi (X.held e) (b₀::suite) ts)
  (hd:(x == ("__debug__":Str))=false:=by decide):PS X (.Try body [.ExceptHandler (some (.Name x np)) none (b₀::suite) hpos] orelse [] pos) (ae X.K c tb te ts):=by
 intro pins s σ H D I h;refine wpAny_Try_except (b4 (hb pins s σ H _ _ I h) (λf s1 q=>?_) λe s1 q=>?_)
 ·cases f with
  |next=>
   obtain⟨σ',H',I',q⟩:=q;exact he pins s1 σ' H' D I' q
  |ret v=>exact q
  |brk=>exact q
  |cont=>exact q
 ·obtain⟨ea,cls,σ',H1,H',s2,B,a0,rfl,I2,F,hx,q⟩:=q;have hfr:=I.ok.frames;have fl:=F.fl;rw[hst.1] at hfr fl;refine wpAny_looks_onW hfr hst.2 fl λh4 held4 up4=>?_
  refine wpAny_landsW held4 λh5 fl5 up5=>?_
  have J5:=I2.landed F fl5.1 (up4.trans up5);refine wpAny_handleBy_cons (codeAny_handlers_test (G9 (J5.held (.ref ea)) hg hm ?_ hd)) (by intro z;cases z);obtain⟨ob,hob,hcls⟩:=fl5.there;have LT:PySem.W.Looks (model X.prog X.w) h5 (typeOf (.ref ea)) cls:=by
   subst hcls;exact(PySem.W.Looks.ld hob).andThen .now
  refine(PySem.W.exm_one J5.kIn LT hx).here ?_;refine codeAny_handlers_suite (lands_againW fl5 λh6 fl6 up6=>?_);have J6:=I2.landed F fl6.1 ((up4.trans up5).trans up6);exact b4 (hs (.ref ea) pins _ σ' H' D (J6.held (.ref ea)) q) (λf s7 z=>z.unheld J6) λ_ _ z=>False.elim z
end
theorem RO {F:Addr->Prop}{H:Hp}:∀{ts:List Tr} {vs:List V},vs.length=ts.length->(∀(i:Nat) t v,ts[i]?=some t->vs[i]?=some v->Rep F H t v)->AA F H ts vs
 |[],[],_,_=>rfl
 |[],_::_,h,_=>by simp at h
 |_::_,[],h,_=>by simp at h
 |t::ts,v::vs,h,k=>⟨v,vs,rfl,k 0 t v rfl rfl,RO (by simpa using h) λi t' v' h1 h2=>k (i+1) t' v' (by simpa using h1) (by simpa using h2)⟩
end L2
namespace L2
open PySem PySem.Spec PyProof.Rows
end L2
namespace L2
end L2
namespace L2
end L2
namespace L2
open PySem PySem.Spec PyProof.Rows
end L2
namespace L2
end L2
namespace L2
open PySem PySem.Calls PySem.Spec PyProof.Rows PySem.Builtin.Str
end L2
namespace L2
open PySem PySem.Spec PyProof.Rows
end L2
namespace L2
end L2
namespace L2
section
open PySem PySem.Calls PyProof.Rows
variable {prog:Program}{w:World}{A:Around}{E:Value->Shared->Prop}{s:Shared}
theorem Jt (h:Heap):h.get? h.objs.size=none:=by
 cases e:h.get? h.objs.size with
 |none=>rfl
 |some o=>exact absurd (bG e) (dk _)
def RU (Q:Value->Shared->Prop)(vs:List Value)(s1:Shared):Prop:=∃ss,StrsAre vs ss/\vs.length<64/\
 ∀h' p (out:List Value) ss' c,StrsAre out ss'->ss'.Perm ss->sortedS ss'=true->s1.heap.objs.size<=p->(∀b o,s1.heap.get? b=some o->h'.get? b=some o)->
  h'.get? p=some (seqObj "list" out.toArray c)->Q (.ref p) { s1 with heap:=h' }
theorem HG {x:Value}{Q:Value->Shared->Prop}(hc:wpAny (model prog w) A.in1 (collect x) (RU Q) E s):wpAny (model prog w) A (call (.builtin "sorted") [x]) Q E s:=by
 refine fS kind_sorted plain_sorted entry_sorted (args_sorted1 x) ?_;unfold Builtin.«sorted»;refine aU (m:=checkCount "sorted" 1 1 _) (aX (aU (b4 hc (λvs s1 z=>?_) λ_ _ e=>e)));obtain⟨ss,hS,few,q⟩:=z;refine aU (fZ ?_);have there:(s1.heap.push (seqObj "list" vs.toArray 0)).get? s1.heap.objs.size=some (seqObj "list" vs.toArray 0):=bB _ rfl;refine aU (cj (cT slot_list_sort ⟨_,there,rfl⟩ entry_list_sort (list_sort_treeK strKind_oneLt there hS.keysOf (λv₁ v₂ rest e=>keyKind_strs (by rw[<-e];exact hS)) few λst' pm so=>⟨_,rfl,?_⟩) (args_list_sort _)));obtain⟨ss',y1,y2,y3⟩:=sorted_out_str hS pm so;obtain⟨c,hp⟩:=sortedHeap_at (out:=(arrOf st').map (·.2)) there;refine aX ⟨_,rfl,q _ _ ((arrOf st').map (·.2)).toList ss' c y1 y2 y3 (aZ _) (λb o e=>?_) (by rw[ja];exact hp)⟩;have lt:=bG e;show Heap.get? _ b=some o;rw[sortedHeap_old (bI lt) (by rw[cf];exact cJ lt)];exact aV _ e
def Yz (S:Addr)(Q:List Value->Shared->Prop)(r:Result)(s':Shared):Prop:=∃acc c,r=.ok (.ret (.ref S))/\s'.heap.get? S=some { cls:=.type "list",dict:=none,data:=.seq acc c,slots:=#[] }/\Q acc.toList s'
theorem Ko {x:Value} {Q:List Value->Shared->Prop} (h:wpAny (model prog w) A.in1 (Builtin.List.listExtendWith (.ref s.heap.objs.size) x (.ref s.heap.objs.size))
   (λfin s'=>match fin with | .done f=>Yz s.heap.objs.size Q (.ok f) s' | .again c'=>c'.quiet=true/\codeAny (model prog w) A c' (Yz s.heap.objs.size Q) s') (λe s'=>Yz s.heap.objs.size Q (.error e) s')
   { s with heap:=s.heap.push { cls:=.type "list",data:=.seq #[] } }):wpAny (model prog w) A (collect x) Q E s:=by
 unfold collect;refine aU (wpAny_runValue (cS PySem.F.entry_proto_collect ?_));rw[cG PySem.F.plain_proto_collect _];refine aU (cE (aX ⟨dD iw _,cS PySem.F.entry_list_iadd ?_⟩));rw[cG iw _];refine b4 h (λfin s' z=>?_) (λe s' z=>?_)
 ·cases fin with
  |done f=>
   obtain⟨acc,c,e,hS,q⟩:=z;cases e;exact aU (iW hS (aX q))
  |again c'=>
   refine⟨z.1,dC z.2 λr s2 z2=>?_⟩;obtain⟨acc,c,rfl,hS,q⟩:=z2;exact aU (iW hS (aX q))
 ·obtain⟨acc,c,e,_⟩:=z;cases e
theorem Ky {T:String} {r d:Addr} {n:Nat} {P:Nat->Value->Prop} {OK:Heap->Prop} {Q:List Value->Shared->Prop} (S:PySem.W.KdlSrc prog w T r d n P OK) (hh:A.handled=none) (ok:OK s.heap) (hn:n<=sizeLine)
  (q:∀h' tk (vs:List Value),(∀b o,s.heap.get? b=some o->h'.get? b=some o)->vs.length=n->(∀j v,vs[j]?=some v->P j v)->Q vs { s with heap:=h',toks:=tk }):wpAny (model prog w) A (collect (.ref r)) Q E s:=by
 obtain⟨lr,ld⟩:=S.there _ ok;refine Ko (PySem.W.kdl_extend S hh (S.keep _ _ ok λb _ o e=>aV _ e) s.heap.objs.size (dS lr) (dS ld) (.ref s.heap.objs.size) 0 (bB _ rfl) (λh' tk acc c k hS it=>?_) hn);refine⟨acc,c,rfl,hS,q h' tk acc.toList (λb o e=>k b o (bI (bG e)) (aV _ e)) (by rw[cv];exact it.1) λj v e=>it.2 j v (by rw[<-dZ];exact e)⟩
theorem NP:Manifest.owners.lookup (String.ofList "rotareti_tes".toList.reverse)=some Manifest.sig_set_iterator:=by kernel_rfl
theorem Et:Slot "set_iterator" "__next__" "set_iterator.__next__":=
 .of (owner:="set_iterator") (n:="__next__") (by rw[iD,gB];kernel_rfl) (by decide +kernel) (by decide +kernel) (by decide +kernel) (by first|exact .inl (by decide +kernel)|exact .inr (by decide +kernel)) (by rw[iX];kernel_rfl)
theorem Hg:entryFor table "set_iterator.__next__"=some Builtin.«set_iterator.__next__»:=entryFor_of_fast (by kernel_rfl)
theorem IU (a:Value):argsOk "set_iterator.__next__" ⟨[a],[]⟩:=by
 unfold argsOk;rw[signature?_of (id:="set_iterator.__next__") (n:="__txen__".toList) (o:="rotareti_tes".toList) (by kernel_rfl) NP]
 kernel_rfl
theorem Mu:entryFor table "set.__iter__"=some Builtin.«frozenset.__iter__»:=entryFor_alias (id':="frozenset.__iter__") (by kernel_rfl) rfl (by decide +kernel) (by kernel_rfl)
theorem ML {it:Addr} {T id:String} {B:Builtin} {Q:Option Value->Shared->Prop} (slot:Slot T "__next__" id) (hT:s.TypeIs (.ref it) T) (entry:entryFor table id=some B) (args:argsOk id ⟨[.ref it],[]⟩)
  (h:wpAny (model prog w) A.in1 (B ⟨[.ref it],[]⟩) (λfin s'=>∃v,fin=.done (.ret v)/\Q (some v) s') (λ_ _=>False) s):wpAny (model prog w) A (pyNext (.ref it)) Q E s:=by
 unfold pyNext;refine aU (wpAny_attempt (gc (name:=Str.ofString "__next__") hT slot (cT slot hT entry (b4 h (λfin s' z=>?_) λ_ _ z=>z.elim) args)));obtain⟨v,rfl,q⟩:=z;exact⟨v,rfl,aX q⟩
theorem LG {it:Addr} {T id:String} {B:Builtin} {Q:Option Value->Shared->Prop} (slot:Slot T "__next__" id) (hT:s.TypeIs (.ref it) T) (entry:entryFor table id=some B) (args:argsOk id ⟨[.ref it],[]⟩)
  (h:wpAny (model prog w) A.in1 (B ⟨[.ref it],[]⟩) (λ_ _=>False) (λx s'=>∃a o,x=.ref a/\s'.heap.get? a=some o/\o.cls=.type "StopIteration"/\Q none s') s):wpAny (model prog w) A (pyNext (.ref it)) Q E s:=by
 unfold pyNext;refine aU (wpAny_attempt (gc (name:=Str.ofString "__next__") hT slot (cT slot hT entry (b4 h (λ_ _ z=>z.elim) λx s' z=>?_) args)));obtain⟨a,o,rfl,e,c,q⟩:=z;exact aU (wpAny_isInstance (T:="StopIteration") (b:=true) ⟨o,e,c⟩ isSubtype_stop (aX q))
theorem NO {α:Type} {Q:α->Shared->Prop} (hh:A.handled=none)
  (q:∀h' x,(∀b o,s.heap.get? b=some o->h'.get? b=some o)->(∃o,h'.get? x=some o/\o.cls=.type "StopIteration")->E (.ref x) { s with heap:=h' }) :
  wpAny (model prog w) A (newExc (.type "StopIteration") [] >>= raiseNew:Sem α) Q E s:=by
 refine aU ?_;simp only[newExc,newTuple];refine aU (cE ?_ (by size_fits));refine aU (m:=firstArgMember _ _) (ip (a:=Value.none) (by simp only[firstArgMember];rfl) (cE ?_ (by size_fits)));unfold raiseNew;refine aU (wpAny_handled ?_);rw[hh];exact wpAny_throw (q _ _ (λb o z=>aV _ (aV _ z)) ⟨_,bB _ rfl,rfl⟩)
theorem HA:Slot "set_iterator" "__iter__" "set_iterator.__iter__":=
 .of (owner:="set_iterator") (n:="__iter__") (by rw[iD,gB];kernel_rfl) (by decide +kernel) (by decide +kernel) (by decide +kernel) (by first|exact .inl (by decide +kernel)|exact .inr (by decide +kernel)) (by rw[iX];kernel_rfl)
theorem LB:entryFor table "set_iterator.__iter__"=some Builtin.«dict_keyiterator.__iter__»:=entryFor_alias (id':="dict_keyiterator.__iter__") (by kernel_rfl) rfl (by decide +kernel) (by kernel_rfl)
theorem MV (a:Value):argsOk "set_iterator.__iter__" ⟨[a],[]⟩:=by
 unfold argsOk;rw[signature?_of (id:="set_iterator.__iter__") (n:="__reti__".toList) (o:="rotareti_tes".toList) (by kernel_rfl) NP]
 kernel_rfl
def Fj (h:Heap)(a:Addr)(es:Array (Int×Value))(ep:Nat)(t:SetTable):Prop:=∃o,h.get? a=some o/\o.cls=.type "set"/\o.data=.set es ep t
def IR (h:Heap)(it a:Addr)(first:Value)(i n ep:Nat):Prop:=∃o,h.get? it=some o/\o.cls=.type "set_iterator"/\o.data=.fields #[first,rawInt i,.ref a,rawInt n,rawInt ep]
theorem Fj.keep {h h':Heap}{a:Addr}{es:Array (Int×Value)}{ep:Nat}{t:SetTable}(x:Fj h a es ep t)(k:∀o,h.get? a=some o->h'.get? a=some o):Fj h' a es ep t:=let⟨o,e,r⟩:=x;⟨o,k o e,r⟩
theorem IR.keep {h h':Heap}{it a:Addr}{f:Value}{i n ep:Nat}(x:IR h it a f i n ep)(k:∀o,h.get? it=some o->h'.get? it=some o):IR h' it a f i n ep:=let⟨o,e,r⟩:=x;⟨o,k o e,r⟩
theorem IR.typeIs {it a:Addr}{f:Value}{i n ep:Nat}(x:IR s.heap it a f i n ep):s.TypeIs (.ref it) "set_iterator":=let⟨o,e,c,_⟩:=x;⟨o,e,c⟩
theorem IR.self {it a:Addr}{f:Value}{i n ep:Nat}{Q:Value->Shared->Prop}(x:IR s.heap it a f i n ep)(q:Q (.ref it) s):wpAny (model prog w) A (pyIter (.ref it)) Q E s:=by
 refine wpAny_pyIter_slot x.typeIs HA (cT HA x.typeIs LB ?_ (MV _));exact aX ⟨_,rfl,"set_iterator",_,x.typeIs,Et.lookup,q⟩
theorem DD {a:Addr}{es:Array (Int×Value)}{ep:Nat}{t:SetTable}{Q:Array (Int×Value)->Shared->Prop}(x:Fj s.heap a es ep t)(f:t.fits es.size=true)(q:Q es s):wpAny (model prog w) A (setEntries a) Q E s:=
 let⟨_,e,_,d⟩:=x;wpAny_setEntries_of e d f q
end
end L2
namespace L2
section
open PySem PySem.Calls PyProof.Rows
variable {prog:Program}{w:World}{A:Around}{E:Value->Shared->Prop}{s:Shared}
theorem DY {it:Addr} {vs:Array Value} {k:Nat} {x:Value} {Q:Unit->Shared->Prop} {o:Obj} (ho:s.heap.get? it=some o) (hc:o.cls=.type "set_iterator") (hd:o.data=.fields vs) (hk:k<vs.size)
  (q:∀h' o',h'.get? it=some o'->o'.cls=.type "set_iterator"->o'.data=.fields (vs.setIfInBounds k x)->(∀b o,b∉[it]->s.heap.get? b=some o->h'.get? b=some o)->Q () { s with heap:=h' }):wpAny (model prog w) A (setField (.ref it) k x) Q E s:=
 wpAny_setField ho hd hk (q _ _ (cP _ ho (Obj.isFreed_of_fields (Obj.data_mapFields hd _))) ((Obj.cls_mapFields ..).trans hc) (Obj.data_mapFields hd _) λb o hb e=>(cB _ _ (λz=>hb (by simp[z]))).trans e)
theorem Nr (hh:A.handled=none) (I a:Addr) (hne:a≠I) (xs:List Value) (sl:Nat->Nat) (es:Array (Int×Value)) (ep:Nat) (t:SetTable) (f:t.fits es.size=true) (hn:es.size=xs.length)
  (nx:∀(i:Nat) (A:Around) (E:Value->Shared->Prop) (s:Shared) (Q:Option (Value×Nat)->Shared->Prop),i<=xs.length->Fj s.heap a es ep t->Q (xs[i]?.map λv=>(v,sl (i+1))) s->wpAny (model prog w) A (setNext a (sl i) i ep) Q E s) :
  Walks prog w A I [I,a] [I] xs.length (λi v=>xs[i]?=some v) (λi h=>IR h I a (rawInt (sl i)) i xs.length ep/\Fj h a es ep t) where
 sub:=λb z=>by simp at z;simp[z]
 frame:=λ_ _ _ st k=>⟨st.1.keep λo e=>k I (by simp) o e,st.2.keep λo e=>k a (by simp) o e⟩
 self:=λ_ _ _ _ st q=>st.1.self q
 item:=λi s Q E hi st qq=>by
  refine ML Et st.1.typeIs Hg (IU _) ?_;obtain⟨o,ho,hc,hd⟩:=st.1;unfold Builtin.«set_iterator.__next__»;refine aU (aX ?_);dsimp only;refine aU (gJ ho hd ?_);refine aU (m:=setEntries a) (DD st.2 f ?_);rw[bH (by rw[hn];simp)];refine aU (m:=setNext a (sl i) i ep) (nx i _ _ _ _ (gK hi) st.2 ?_);obtain⟨v,hv⟩:∃v,xs[i]?=some v:=⟨xs[i],by simp[hi]⟩
  rw[hv];dsimp only[Option.map];refine aU (DY ho hc hd (by simp) λh1 o1 e1 c1 d1 k1=>?_);refine aU (DY e1 c1 d1 (by simp) λh2 o2 e2 c2 d2 k2=>?_);exact aX ⟨v,rfl,qq v h2 s.toks hv ⟨⟨o2,e2,c2,d2⟩,st.2.keep λo e=>k2 a o (by simp[hne]) (k1 a o (by simp[hne]) e)⟩ λb o hb e=>k2 b o hb (k1 b o hb e)⟩
 done:=λs Q E st hQ=>by
  refine LG Et st.1.typeIs Hg (IU _) ?_;obtain⟨o,ho,hc,hd⟩:=st.1;unfold Builtin.«set_iterator.__next__»;refine aU (aX ?_);dsimp only;refine aU (gJ ho hd ?_);refine aU (m:=setEntries a) (DD st.2 f ?_);rw[bH (by rw[hn];simp)];refine aU (m:=setNext a (sl xs.length) xs.length ep) (nx xs.length _ _ _ _ (aZ _) st.2 ?_);rw[cu (aZ _)];dsimp only[Option.map];refine aU (DY ho hc hd (by simp) λh1 o1 e1 c1 d1 k1=>?_);refine NO hh λh2 x k2 ⟨ox,ex,cx⟩=>⟨x,ox,rfl,ex,cx,hQ h2 s.toks λb o hb e=>k2 b o (k1 b o hb e)⟩
def TupAt (h:Heap)(tp:Addr)(vs:List Value):Prop:=∃o n,h.get? tp=some o/\o.data=.seq vs.toArray n
theorem TupAt.keep {h h':Heap}{tp:Addr}{vs:List Value}(x:TupAt h tp vs)(k:∀o,h.get? tp=some o->h'.get? tp=some o):TupAt h' tp vs:=let⟨o,n,e,r⟩:=x;⟨o,n,k o e,r⟩
theorem Ql {a:Addr}{es:Array (Int×Value)}{ep p:Nat}{t:SetTable}{hx:Int}{v:Value}{Q:Value->Shared->Prop}(x:Fj s.heap a es ep t)(f:t.fits es.size=true)(e:es[p]?=some (hx,v))(q:Q v s):wpAny (model prog w) A (setNextDrawn a p ep) Q E s:=by
 obtain⟨o,eo,_,d⟩:=x;unfold setNextDrawn;refine aU (eI eo d f ?_);dsimp only;rw[bH (by simp),e];exact aX q
theorem QR (hh:A.handled=none) (I a tp:Addr) (hne:a≠I) (hnt:tp≠I) (xs:List Value) (ps:List Nat) (es:Array (Int×Value)) (ep:Nat) (t:SetTable) (f:t.fits es.size=true) (hn:es.size=xs.length) (hp:ps.length=xs.length)
  (at_:∀(i p:Nat),ps[i]?=some p->∃hx v,es[p]?=some (hx,v)/\xs[i]?=some v) :
  Walks prog w A I [I,a,tp] [I] xs.length (λi v=>xs[i]?=some v) (λi h=>IR h I a (.ref tp) i xs.length ep/\Fj h a es ep t/\TupAt h tp (ps.map λ(p:Nat)=>rawInt p)) where
 sub:=λb z=>by simp at z;simp[z]
 frame:=λ_ _ _ st k=>⟨st.1.keep λo e=>k I (by simp) o e,st.2.1.keep λo e=>k a (by simp) o e,st.2.2.keep λo e=>k tp (by simp) o e⟩
 self:=λ_ _ _ _ st q=>st.1.self q
 item:=λi s Q E hi st qq=>by
  refine ML Et st.1.typeIs Hg (IU _) ?_;obtain⟨o,ho,hc,hd⟩:=st.1;obtain⟨ot,nt,et,dt⟩:=st.2.2;unfold Builtin.«set_iterator.__next__»;refine aU (aX ?_);dsimp only;refine aU (gJ ho hd ?_);refine aU (m:=setEntries a) (DD st.2.1 f ?_);rw[bH (by rw[hn];simp)];obtain⟨p,hpi⟩:∃p,ps[i]?=some p:=⟨ps[i]'(by omega),by simp[hp,hi]⟩
  obtain⟨hx,v,ev,xv⟩:=at_ i p hpi;refine aU (m:=seqItems? (.ref tp)) (gH et dt ?_);have look:(ps.map λ(p:Nat)=>rawInt p).toArray[(i:Int).toNat]?=some (rawInt p):=by simp[hpi]
  dsimp only;rw[look];refine aU (m:=setNextDrawn a p ep) (Ql st.2.1 f ev ?_);refine aU (DY ho hc hd (by simp) λh1 o1 e1 c1 d1 k1=>?_);exact aX ⟨v,rfl,qq v h1 s.toks xv ⟨⟨o1,e1,c1,d1⟩,st.2.1.keep λo e=>k1 a o (by simp[hne]) e,st.2.2.keep λo e=>k1 tp o (by simp[hnt]) e⟩ k1⟩
 done:=λs Q E st hQ=>by
  refine LG Et st.1.typeIs Hg (IU _) ?_;obtain⟨o,ho,hc,hd⟩:=st.1;obtain⟨ot,nt,et,dt⟩:=st.2.2;unfold Builtin.«set_iterator.__next__»;refine aU (aX ?_);dsimp only;refine aU (gJ ho hd ?_);refine aU (m:=setEntries a) (DD st.2.1 f ?_);rw[bH (by rw[hn];simp)];refine aU (m:=seqItems? (.ref tp)) (gH et dt ?_);have look:(ps.map λ(p:Nat)=>rawInt p).toArray[(xs.length:Int).toNat]?=none:=by simp[hp]
  dsimp only;rw[look];refine aU (DY ho hc hd (by simp) λh1 o1 e1 c1 d1 k1=>?_);refine aU (DY e1 c1 d1 (by simp) λh2 o2 e2 c2 d2 k2=>?_);refine NO hh λh3 x k3 ⟨ox,ex,cx⟩=>⟨x,ox,rfl,ex,cx,hQ h3 s.toks λb o hb e=>k3 b o (k2 b o hb (k1 b o hb e))⟩
theorem QJ {src:Source}{n:Nat}{Q:Nat->Shared->Prop}(h:n≠0)(q:∀i d,i<n->Q i { s with drawn:=d }):wpAny (model prog w) A (choose src n) Q E s:=by
 intro Γ p _;unfold choose;rw[Sem.wp_choose];exact⟨h,by rw[Sem.wp_pure];exact q _ _ (Nat.mod_lt _ (Nat.pos_of_ne_zero h))⟩
theorem Mn {α:Type}:∀{l:List α} {i:Nat} (h:i<l.length),(l[i]::l.eraseIdx i).Perm l
 |x::r,0,_=>fb _
 |x::r,i+1,h=>by
  have z:=Mn (l:=r) (i:=i) (by simpa using h);exact(List.Perm.swap ..).trans (List.Perm.cons x z)
theorem Lv {α:Type}:∀(n:Nat) (xs:List α) (s:Shared) (Q:List α->Shared->Prop),n=xs.length->(∀ys d,ys.Perm xs->Q ys { s with drawn:=d })->wpAny (model prog w) A (drawOrder n xs) Q E s
 |0,xs,s,Q,h,q=>by
  have e:xs=[]:=fO.mp h.symm;subst e;exact aX (q [] s.drawn (fb _))
 |n+1,[],s,Q,h,q=>nomatch h
 |n+1,x::r,s,Q,h,q=>by
  unfold drawOrder;refine aU (QJ (by simp) λi d hi=>?_);rw[aW hi];dsimp only;refine aU (Lv n _ _ _ (by rw[hX hi];simp at h ⊢;omega) λys d2 pm=>?_);exact aX (q _ d2 ((List.Perm.cons _ pm).trans (Mn hi)))
theorem R4 {α:Type}(next:Nat->Nat):∀(fuel k:Nat) (left:List α) (out:Array α),fuel=left.length->(pickOrder.go next fuel k left out).toList.Perm (out.toList++left)
 |0,k,left,out,h=>by
  have e:left=[]:=fO.mp h.symm;subst e;unfold pickOrder.go;rw[cm]
 |fuel+1,k,left,out,h=>by
  unfold pickOrder.go;have hi:next k%left.length<left.length:=Nat.mod_lt _ (by omega);rw[aW hi];dsimp only;refine(R4 next fuel _ _ _ (by rw[hX hi];omega)).trans ?_;rw[Array.toList_push,cn];exact List.Perm.append_left _ (Mn hi)
theorem NG {α:Type}(next:Nat->Nat)(xs:Array α):(pickOrder next xs).toList.Perm xs.toList:=by
 unfold pickOrder;exact R4 next _ _ _ _ (by simp)
def BD (w:World):Bool:=w.params.followText "set-order"
theorem S4 {a:Addr} {es:Array (Int×Value)} {ep i sl:Nat} {t:SetTable} {Q:Option (Value×Nat)->Shared->Prop} (bt:BD w=true) (x:Fj s.heap a es ep t) (f:t.fits es.size=true)
  (q:Q (((pickOrder (w.params.setOrder a ep) es).toList.map (·.2))[i]?.map λv=>(v,sl)) s):wpAny (model prog w) A (setNext a sl i ep) Q E s:=by
 obtain⟨o,eo,_,d⟩:=x;unfold setNext setsByText setWalk setsByText;refine aU (eI eo d f ?_);dsimp only;simp only[bind_assoc,pure_bind];refine aU (eS ?_);refine di (λ_=>?_) (λc=>absurd bt c);rw[bH (by simp)];refine aU (eI eo d f ?_);dsimp only;refine aU (eS ?_);refine aU (di (λ_=>?_) (λc=>absurd bt c));refine aU (eS (aX ?_));have e:((pickOrder (w.params.setOrder a ep) es).toList.map (·.2))[i]?=((pickOrder (w.params.setOrder a ep) es)[i]?).map (·.2):=by rw[bz,dZ]
 rw[e,Option.map_map] at q;exact aX q
theorem VD {es:Array (Int×Value)}{t:SetTable}(f:t.fits es.size=true):t.place.size=es.size:=by
 simp only[SetTable.fits,Bool.and_eq_true,beq_iff_eq] at f;exact f.1
theorem Vs {a:Addr} {es:Array (Int×Value)} {ep i:Nat} {t:SetTable} {Q:Option (Value×Nat)->Shared->Prop} (bt:BD w=false) (hl:t.led=true) (few:es.size<=1) (hi:i<=es.size) (x:Fj s.heap a es ep t) (f:t.fits es.size=true)
  (q:Q ((es.toList.map (·.2))[i]?.map λv=>(v,if i+1=0 then 0 else t.place.getD 0 0+1)) s):wpAny (model prog w) A (setNext a (if i=0 then 0 else t.place.getD 0 0+1) i ep) Q E s:=by
 obtain⟨o,eo,_,d⟩:=x;unfold setNext setsByText;refine aU (eI eo d f ?_);dsimp only;simp only[bind_assoc,pure_bind];refine aU (eS ?_);refine di (λc=>absurd (bt.symm.trans c) (by decide)) (λ_=>?_);refine di (λc=>absurd c ?_) (λ_=>?_)
 ·show ¬(!t.plain&&decide (es.size>1))=true;rw[bD (by omega)];simp
 refine aU (?_:wpAny _ _ (if(!t.led && !es.isEmpty)=true then unsupported "set:maker-not-led" else pure ()) _ _ _);rw[hl,bH (by simp)];refine aX (aX ?_);have pz:=VD f
 clear f hl d
 revert q
 generalize t.place=pl at pz;obtain⟨l⟩:=es;obtain⟨m⟩:=pl
 match l,m,few,pz,hi with
 |[],[],_,_,hi=>
  have e:i=0:=by simpa using hi
  subst e;exact λq=>q
 |[(hx,v)],[k],_,_,hi=>
  rcases(show i=0\/i=1 by simp at hi;omega) with rfl|rfl
  ·have b:SetTable.below #[k] (if 0=0 then 0 else(#[k]:Array Nat).getD 0 0+1)=0:=by simp[SetTable.below,SetTable.below.go]
   rw[b];exact λq=>q
  ·have b:SetTable.below #[k] (if 1=0 then 0 else(#[k]:Array Nat).getD 0 0+1)=1:=by simp[SetTable.below,SetTable.below.go]
   rw[b];exact λq=>q
 |_::_::_,_,few,_,_=>exact absurd few (by simp)
 |[],_::_,_,pz,_=>exact absurd pz (by simp)
 |[_],[],_,pz,_=>exact absurd pz (by simp)
 |[_],_::_::_,_,pz,_=>exact absurd pz (by simp)
theorem Ve {a:Addr} {es:Array (Int×Value)} {ep:Nat} {t:SetTable} {Q:Value->Shared->Prop} (x:Fj s.heap a es ep t) (f:t.fits es.size=true) (hl:t.led = !BD w) (hp:1<es.size->t.plain=false) (hb:es.size<scanBound)
  (q:∀h' d I fp (xs:List Value) St,(∀b o,s.heap.get? b=some o->h'.get? b=some o)->xs.Perm (es.toList.map (·.2))->(∀A:Around,A.handled=none->Walks prog w A I fp [I] xs.length (λi v=>xs[i]?=some v) St)->St 0 h'->
   (∀b∈fp,b=a\/s.heap.get? b=none)->s.heap.get? I=none->Q (.ref I) { s with heap:=h',drawn:=d }):wpAny (model prog w) A (pyIter (.ref a)) Q E s:=by
 obtain⟨o,eo,co,dd⟩:=id x;have hT:s.TypeIs (.ref a) "set":=⟨o,eo,co⟩
 have hlt:=bG eo;refine wpAny_pyIter_slot hT iP (cT iP hT Mu ?_ (PySem.F.args_set_iter_1 _));unfold Builtin.«frozenset.__iter__» Builtin.Frozenset.slot0 slotArgs;simp only[bind_assoc,bne_self_eq_false,List.isEmpty_nil,List.length_nil,Bool.not_true,Bool.false_eq_true,↓reduceIte];refine aU (aX ?_);dsimp only;refine aU (m:=Builtin.Frozenset.addrOf (.ref a)) (aX ?_);unfold Builtin.Frozenset.sizeOf;simp only[bind_assoc,pure_bind];refine aU (DD x f ?_);unfold setDrawn setsByText;simp only[bind_assoc,pure_bind];refine aU (eI eo dd f ?_);dsimp only;refine aU (eS ?_)
 change wpAny _ _ (if(!BD w&&(!t.plain&&decide (es.size>1)))=true then _ else _) _ _ _
 refine di (λc=>?_) (λc=>?_)
 ·simp only[Bool.and_eq_true,Bool.not_eq_true',decide_eq_true_eq] at c;refine aU (Lv es.size _ _ _ (by simp) λps d pm=>?_);refine aU (iV ?_ (by rw[aS,pm.length_eq,bY];exact fU hb));refine aU (wpAny_setEpoch_of (aV _ eo) dd f ?_);refine aU (cE (aX ⟨_,rfl,"set_iterator",_,⟨_,bB _ rfl,rfl⟩,Et.lookup,?_⟩));have rg:∀p∈ps,p<es.size:=λp hp=>cX.mp (pm.mem_iff.mp hp)
  have ex:(List.range es.size).map (λp=>(es[p]?.map (·.2)).getD .none)=es.toList.map (·.2):=by
   refine List.ext_getElem (by simp) λi h1 h2=>?_
   have hi:i<es.size:=by simpa using h1
   simp[hi]
  have nt:s.heap.objs.size≠(s.heap.push { cls:=.type "tuple",data:=.seq (ps.map λ(i:Nat)=>rawInt i).toArray }).objs.size:=by rw[cf];exact bI (eD _)
  have na:a≠(s.heap.push { cls:=.type "tuple",data:=.seq (ps.map λ(i:Nat)=>rawInt i).toArray }).objs.size:=by rw[cf];exact bI (cJ hlt)
  have ln:es.size=(ps.map (λp=>(es[p]?.map (·.2)).getD Value.none)).length:=by rw[aS,pm.length_eq,bY]
  have above:s.heap.get? (s.heap.push { cls:=.type "tuple",data:=.seq (ps.map λ(i:Nat)=>rawInt i).toArray }).objs.size=none:=by
   cases z:s.heap.get? _ with
   |none=>rfl
   |some o=>exact absurd (bG z) (by rw[cf];exact hV.mpr (eB _))
  refine q _ d _ _ _ _ (λb o e=>aV _ (aV _ e)) ((pm.map (λp=>(es[p]?.map (·.2)).getD Value.none)).trans (by rw[ex])) (λA hh=>QR hh (s.heap.push { cls:=.type "tuple",data:=.seq (ps.map λ(i:Nat)=>rawInt i).toArray }).objs.size a s.heap.objs.size na nt _ ps es ep t f ln (by rw[aS]) λi p hi=>?_) ⟨⟨_,bB _ rfl,rfl,?_⟩,x.keep λo e=>aV _ (aV _ e),⟨_,_,aV _ (bB _ rfl),rfl⟩⟩ (λb hb=>?_) above
  ·have hp':=rg p (a8 hi);refine⟨es[p].1,es[p].2,by simp[hp'],?_⟩;rw[bz,hi];simp[hp']
  ·rw[<-ln];rfl
  ·simp only[List.mem_cons,List.not_mem_nil,or_false] at hb;rcases hb with rfl|rfl|rfl
   ·exact .inr above
   ·exact .inl rfl
   ·exact .inr (Jt _)
 ·refine aU (wpAny_setEpoch_of eo dd f ?_);refine aU (cE (aX ⟨_,rfl,"set_iterator",_,⟨_,bB _ rfl,rfl⟩,Et.lookup,?_⟩));have kk:∀b o,s.heap.get? b=some o->(s.heap.push { cls:=.type "set_iterator",data:=.fields [rawInt 0,rawInt 0,.ref a,rawInt es.size,rawInt ep].toArray }).get? b=some o:=λb o e=>aV _ e
  have fresh:∀b∈[s.heap.objs.size,a],b=a\/s.heap.get? b=none:=λb hb=>by
   simp only[List.mem_cons,List.not_mem_nil,or_false] at hb;rcases hb with rfl|rfl
   ·exact .inr (Jt _)
   ·exact .inl rfl
  cases bt:BD w with
  |true=>
   have ln:es.size=((pickOrder (w.params.setOrder a ep) es).toList.map (·.2)).length:=by rw[aS,(NG _ es).length_eq,cv]
   refine q _ s.drawn s.heap.objs.size _ _ _ kk ((NG _ es).map _) (λA hh=>Nr hh s.heap.objs.size a (bI hlt) ((pickOrder (w.params.setOrder a ep) es).toList.map (·.2)) (λ_=>0) es ep t f ln λi A E s Q _ x q=>S4 bt x f q) ⟨⟨_,bB _ rfl,rfl,?_⟩,x.keep λo e=>kk a o e⟩ fresh (Jt _);rw[<-ln];rfl
  |false=>
   have few:es.size<=1:=by
    rw[bt] at c
    by_cases z:es.size<=1
    ·exact z
    ·rw[hp (by omega)] at c;simpa using c
   rw[bt] at hl;refine q _ s.drawn s.heap.objs.size _ _ _ kk (fb _) (λA hh=>Nr hh s.heap.objs.size a (bI hlt) (es.toList.map (·.2)) (λi=>if i=0 then 0 else t.place.getD 0 0+1) es ep t f (by simp) λi A E s Q li x q=>Vs bt hl few (by simpa using li) x f q) ⟨⟨_,bB _ rfl,rfl,?_⟩,x.keep λo e=>kk a o e⟩ fresh (Jt _);simp
theorem Uj {a:Addr}{Q:Bool->Shared->Prop}(hT:s.TypeIs (.ref a) "set")(q:Q false s):wpAny (model prog w) A (Builtin.List.listLengthHint (.ref a)) Q E s:=by
 unfold Builtin.List.listLengthHint;refine aU (wpAny_specialOf hT PySem.F.slot_set_len.lookup ?_);generalize e0:("set.__len__":String)=d0
 wp_delta
 rw[show splitId d0=some ("set","__len__") from by subst e0;decide +kernel];subst e0;refine aU (wpAny_isInstance (T:="set") (b:=true) hT (by rw[iX];kernel_rfl) ?_);refine di (λc=>absurd c (by decide)) (λ_=>di (λ_=>?_) (λc=>absurd (by decide +kernel) c));exact aU (gh hT (aX q))
theorem Ro {xs:List Value}{acc:Array Value}(z:ItemsOf (λi v=>xs[i]?=some v) acc xs.length):acc.toList=xs:=by
 refine dI λi=>?_
 rw[dZ];cases e:acc[i]? with
 |some v=>exact(z.2 i v e).symm
 |none=>
  have:acc.size<=i:=by simpa using e
  rw[z.1] at this;exact(cu this).symm
theorem PY {a:Addr} {es:Array (Int×Value)} {ep:Nat} {t:SetTable} {Q:List Value->Shared->Prop} (hh:A.handled=none) (x:Fj s.heap a es ep t) (f:t.fits es.size=true) (hl:t.led = !BD w) (hp:1<es.size->t.plain=false) (hb:es.size<scanBound)
  (q:∀h' d tk (vs:List Value),(∀b o,s.heap.get? b=some o->h'.get? b=some o)->vs.Perm (es.toList.map (·.2))->Q vs { s with heap:=h',drawn:=d,toks:=tk }):wpAny (model prog w) A (collect (.ref a)) Q E s:=by
 refine Ko ?_;have x1:Fj (s.heap.push { cls:=.type "list",data:=.seq #[] }) a es ep t:=x.keep λo e=>aV _ e
 have lt:a<s.heap.objs.size:=let⟨_,e,_⟩:=x;bG e;unfold Builtin.List.listExtendWith;have hT:Shared.TypeIs { s with heap:=s.heap.push { cls:=.type "list",data:=.seq #[] } } (.ref a) "set":=let⟨o,e,c,_⟩:=x1;⟨o,e,c⟩;refine aU (gh hT ?_);have n1:Builtin.List.listSameRef (.ref s.heap.objs.size) (.ref a)=false:=by simp[Builtin.List.listSameRef,Nat.ne_of_gt lt]
 have n2:(Value.type "set" == Value.type "list")=false:=by decide
 have n3:(Value.type "set" == Value.type "tuple")=false:=by decide
 simp only[n1,n2,n3,Bool.or_false,Bool.false_eq_true,if_false];refine aU (Ve x1 f hl hp hb λh1 d I fp xs St k1 pm W st fr nI0=>?_);have hS1:h1.get? s.heap.objs.size=some { cls:=.type "list",data:=.seq #[] }:=k1 _ _ (bB _ rfl);have hSf:s.heap.objs.size∉fp:=λhm=>by
  rcases fr _ hm with z|z
  ·exact absurd z (dS lt)
  ·rw[show(s.heap.push { cls:=.type "list",data:=.seq #[] }).get? s.heap.objs.size=some { cls:=.type "list",data:=.seq #[] } from bB _ rfl] at z;cases z
 have nI:∀b o,s.heap.get? b=some o->b∉s.heap.objs.size::[I]:=λb o e hm=>by
  rcases bE.mp hm with z|z
  ·exact absurd (bG e) (by rw[z];exact dk _)
  ·rw[ba] at z;subst z;rw[aV _ e] at nI0;cases nI0
 refine aU (cj (Uj (let⟨o,e,c,_⟩:=x1;⟨o,k1 _ _ e,c⟩) ?_));refine di (λ_=>?_) (λc=>absurd (by decide) c);refine aU (gi ?_);refine aU ?_;show wpAny _ _ (updateSeq s.heap.objs.size (·.push .none) >>= λ_=>updateSeq s.heap.objs.size (·.pop)) _ _ _;refine aU (gv hS1 rfl ?_);have hS2:=cP (Obj.mapSeq (·.push Value.none)) hS1 rfl;refine gv (hz:=by seq_fits) hS2 rfl ?_;have hS3:=cP (Obj.mapSeq (·.pop)) hS2 rfl;have oth:∀b o,b≠s.heap.objs.size->h1.get? b=some o->((h1.update s.heap.objs.size (Obj.mapSeq (·.push Value.none))).update s.heap.objs.size (Obj.mapSeq (·.pop))).get? b=some o:=
  λb o n e=>(cB _ _ (Ne.symm n)).trans ((cB _ _ (Ne.symm n)).trans e)
 refine aX ⟨dD PySem.F.plain_extend_loop _,codeAny_extend_loopS (W A.in1 hh).toS (by rw[pm.length_eq,aS,cv];exact fU hb) s.heap.objs.size hSf (.ref s.heap.objs.size) xs.length 0 _ #[] _ rfl (bU _) ((W A hh).frame 0 _ _ st λb hb o e=>oth b o (λz=>hSf (z▸hb)) e) hS3 (ItemsOf.nil _) λs' acc c hm hS' it=>?_⟩;refine⟨acc,c,rfl,hS',?_⟩;rw[Ro it,Moved.eq_with hm];exact q _ _ _ xs (λb o e=>hm.heap b o (nI b o e) (oth b o (bI (bG e)) (k1 b o (aV _ e)))) pm
end
end L2
namespace L2
section
open PySem PySem.Calls PyProof.Rows
variable {prog:Program}{w:World}{A:Around}{E:Value->Shared->Prop}{s:Shared}
theorem Wl (t:SetTable)(es:Array (Int×Value))(h:Int)(x:Value):(layNew t es h x).2.1.led=t.led:=by
 unfold layNew
 split
 ·dsimp only[SetTable.put,SetTable.orStandIn]
  split<;>split<;>rfl
 ·rfl
theorem Tf (t:SetTable)(es:Array (Int×Value))(n:Nat):(relayAll t es n).2.1.led=t.led:=by
 unfold relayAll
 split
 ·rename_i t' order e
  unfold SetTable.relaid SetTable.laid at e;cases z:SetTable.layClean (SetTable.sizeAbove n-1) (es.map (·.1)) with
  |none=>rw[z] at e;cases e
  |some ow=>
   rw[z] at e;injection e with e
   injection e with e1 e2
   dsimp only
   split
   ·rw[<-e1]
   ·rfl
 ·rfl
theorem O2 (t:SetTable)(es:Array (Int×Value))(n:Nat)(p:t.plain=false):(relayAll t es n).2.1.plain=false:=by
 unfold relayAll
 split
 ·rename_i t' order e
  unfold SetTable.relaid SetTable.laid at e;cases z:SetTable.layClean (SetTable.sizeAbove n-1) (es.map (·.1)) with
  |none=>rw[z] at e;cases e
  |some ow=>
   rw[z] at e;injection e with e
   injection e with e1 e2
   dsimp only
   split
   ·rw[<-e1];exact p
   ·rfl
 ·rfl
def DL (prog:Program)(w:World)(h:Heap)(a:Addr)(ks:List Str):Prop:=∃o es ep t ss,h.get? a=some o/\o.ExactSet/\o.data=.set es ep t/\ElemsOf (PySem.strKind prog w) es.toList/\t.fits es.size=true/\t.led=(!BD w)/\(es.size≠0->t.plain=false)/\
 StrsAre (es.toList.map (·.2)) ss/\ss.Perm ks
theorem XX {k:Str}{v:Value}(h:Value.isStrOf k v=true):∃t,v=.str k t:=Value.isStrOf_shape h
theorem V7 (led:Bool)(hl:led = !BD w){h:Heap}{a:Addr}(e:h.get? a=some { cls:=.type "set",dict:=none,data:=.set #[] 0 (.fresh 0 0 led) }):DL prog w h a []:=
 ⟨_,#[],0,_,[],e,⟨rfl,rfl,rfl⟩,rfl,λe he=>by simp at he,by rfl,hl,λz=>absurd rfl z,.nil,fb _⟩
theorem J7 {vs us:List Value}{ss:List Str}(h:StrsAre vs ss)(p:us.Perm vs):∃ts,StrsAre us ts/\ts.Perm ss:=by
 refine⟨us.map strOf,strsAre_map us λv hv=>h.all v (p.mem_iff.mp hv),?_⟩;have:=p.map strOf;rw[h.strs] at this;exact this
theorem PQ:∀{vs us:List Value} {ss ts:List Str},StrsAre vs ss->StrsAre us ts->StrsAre (vs++us) (ss++ts)
 |_,_,_,_,.nil,h=>h
 |_,_,_,_,.cons x t g,h=>.cons x t (PQ g h)
theorem Pq {es:Array (Int×Value)}{ss:List Str}{k:Str}(hs:StrsAre (es.toList.map (·.2)) ss):k∈ss↔∃e∈es.toList,Value.isStrOf k e.2=true:=by
 rw[<-hs.strs,aT];constructor
 ·rintro⟨v,hv,rfl⟩
  obtain⟨e,he,rfl⟩:=aT.mp hv;obtain⟨x,t,ex⟩:=hs.all _ hv;refine⟨e,he,?_⟩;rw[ex];simp[Value.isStrOf,strOf]
 ·rintro⟨e,he,hk⟩
  obtain⟨t,ex⟩:=XX hk;exact⟨e.2,aT.mpr ⟨e,he,rfl⟩,by rw[ex];rfl⟩
theorem Pr {g:Bool->Sem Unit} (hg:∀(b:Bool) (s₁:Shared) (Q':Unit->Shared->Prop),Q' () s₁->wpAny (model prog w) A (g b) Q' E s₁) {a:Addr} {o:Obj} {es es1:Array (Int×Value)} {ep:Nat} {t t2:SetTable} {wd:Bool} {R:Option Bool->Shared->Prop}
  (ho:s.heap.get? a=some o) (hd:o.data=.set es ep t) (hb:es1.size<scanBound) (hf:t2.fits es1.size=true) (hp:t2.plain=false)
  (q:∀h' es' ep' t',Heap.SameBut a s.heap h'->h'.get? a=some { o with data:=.set es' ep' t' }->es'.toList.Perm es1.toList->t'.fits es'.size=true->t'.led=t2.led->t'.plain=false->R (some true) { s with heap:=h' }) :
  wpAny (model prog w) A (storeSet a es1 t2 >>= λ_=>if(!wd&&t2.tooFull)=true then g (relayAll t2 es1 (SetTable.grown es1.size)).2.2 >>= λ_=>storeSet a (relayAll t2 es1 (SetTable.grown es1.size)).1 (relayAll t2 es1 (SetTable.grown es1.size)).2.1 >>= λ_=>pure (some true) else pure (some true)) R E s:=by
 have put:∀(h:Heap) (o:Obj) (es ep t es' t'),h.get? a=some o->o.data=.set es ep t->(h.update a (Obj.putSet es' t')).get? a=some { o with data:=.set es' (ep+1) t' }:=λh o es ep t es' t' e d=>by
  have z:=cP (Obj.putSet es' t') e (by rw[putSet_of es' t' d];rfl);rw[putSet_of es' t' d] at z;exact z
 refine aU (wpAny_storeSet_of ho hd ?_ (fU hb));have h1:=put s.heap o es ep t es1 t2 ho hd;refine di (λ_=>?_) (λ_=>aX (q _ es1 (ep+1) t2 (dX ..) h1 (fb _) hf rfl hp));have pm:=relayAll_perm t2 es1 (SetTable.grown es1.size);have sz:(relayAll t2 es1 (SetTable.grown es1.size)).1.size=es1.size:=by rw[<-cv,pm.length_eq,cv]
 refine aU (hg _ _ _ (aU (wpAny_storeSet_of h1 rfl ?_ (fU (by rw[sz];exact hb)))));exact aX (q _ _ (ep+1+1) _ ((dX ..).trans (dX ..)) (put _ { o with data:=.set es1 (ep+1) t2 } es1 (ep+1) t2 _ _ h1 rfl) pm (relayAll_fits ..) (Tf ..) (O2 _ _ _ hp))
theorem PZ {a:Addr} {ks:List Str} {k:Str} {tk:Tok} {Q:Bool->Shared->Prop} (S:DL prog w s.heap a ks) (room:ks.length+1<scanBound)
  (q:∀b h',Heap.SameBut a s.heap h'->DL prog w h' a (if k∈ks then ks else ks++[k])->Q b { s with heap:=h',toks:=s.toks+1 }):wpAny (model prog w) A (setAdd a (.str k tk)) Q E s:=by
 obtain⟨o,es,ep,t,ss,ho,hex,hd,hel0,hf,hl,hp,hs,pm⟩:=S;have hel:ElemsOf (PySem.strKind prog w) es.toList:=hel0;have hkey:(PySem.strKind prog w).is k (.str k tk)=true:=by show Value.isStrOf k (.str k tk)=true;simp[Value.isStrOf]
 have ln:es.size=ks.length:=by rw[<-pm.length_eq,<-hs.length,aS,cv]
 have hb:es.size<scanBound:=by omega
 unfold setAdd;refine cj (aU ((PySem.strKind prog w).pyHash hkey ?_));unfold setAddHashed;unfold setAddHashedIn;refine cj (aU (eI (s:={ s with toks:=s.toks+1 }) ho hd hf ?_));dsimp only;rw[byScan_of rfl hb hel];simp only[↓reduceIte];unfold setAddByScan;refine aU (aU (gi (aU (wpAny_setScan_of hkey ho hd hf hel ?_))));cases hr:List.findIdx? (λe=>(PySem.strKind prog w).is k e.2) es.toList with
 |some j=>
  dsimp only;obtain⟨hj,hpj,_⟩:=List.findIdx?_eq_some_iff_getElem.mp hr;have hm:k∈ks:=pm.mem_iff.mp ((Pq hs).mpr ⟨_,eF hj,hpj⟩);refine aX (aX (q false s.heap (Heap.SameBut.refl a s.heap) ?_));rw[bF hm];exact⟨o,es,ep,t,ss,ho,hex,hd,hel,hf,hl,hp,hs,pm⟩
 |none=>
  dsimp only;have hm:k∉ks:=λz=>by
   obtain⟨e,he,hk⟩:=(Pq hs).mp (pm.mem_iff.mpr z);have:=ic.mp hr e he;exact absurd (hk.symm.trans this) (by decide)
  rw[bH hm] at q;have gw:∀(b:Bool) (s₁:Shared) (Q':Unit->Shared->Prop),Q' () s₁->wpAny (model prog w) A (match b with|true=>rule "set.scan.the-table-gave-way"|false=>pure ()) Q' E s₁:=λb s₁ Q' hq=>by
   cases b
   ·exact aX hq
   ·exact gi hq
  have lp:=layNew_perm t es ((PySem.strKind prog w).hash k) (.str k tk);have lf:=layNew_fits t es ((PySem.strKind prog w).hash k) (.str k tk);have ll:=Wl t es ((PySem.strKind prog w).hash k) (.str k tk);generalize layNew t es ((PySem.strKind prog w).hash k) (.str k tk)=L at lp lf ll;obtain⟨es1,t1,wd,gave⟩:=L;dsimp only at lp lf ll ⊢;rw[Array.toList_push] at lp;have hel1:ElemsOf (PySem.strKind prog w) es1.toList:=(hel.push hkey rfl).perm lp;have sz1:es1.size=es.size+1:=by rw[<-cv,lp.length_eq,bx,cv];rfl
  have str1:∃ts,StrsAre (es1.toList.map (·.2)) ts/\ts.Perm (ks++[k]):=by
   have h0:StrsAre ((es.toList++[((PySem.strKind prog w).hash k,Value.str k tk)]).map (·.2)) (ss++[k]):=by
    rw[bA];exact PQ hs (.cons k tk .nil)
   obtain⟨ts,y1,y2⟩:=J7 h0 (lp.map (·.2));exact⟨ts,y1,y2.trans (pm.append_right _)⟩
  have fin:∀h' es' ep' t',Heap.SameBut a s.heap h'->h'.get? a=some { o with data:=.set es' ep' t' }->es'.toList.Perm es1.toList->t'.fits es'.size=true->t'.led=t.led->t'.plain=false->DL prog w h' a (ks++[k]):=λh' es' ep' t' _ e pe fe le pl=>by
   obtain⟨ts,y1,y2⟩:=str1;obtain⟨us,z1,z2⟩:=J7 y1 (pe.map (·.2));exact⟨_,es',ep',t',us,e,hex,rfl,hel1.perm pe,fe,le.trans hl,λ_=>pl,z1,z2.trans y2⟩
  refine aU (gw _ _ _ ?_);refine di (λc=>?_) (λc=>?_)
  ·rw[hashByValue_scannable 8 rfl];refine aU (aX ?_);refine Pr gw ho hd (by rw[sz1,ln];exact room) (SetTable.fits_plain_off lf) rfl λh' es' ep' t' sb e pe fe le pl=>aX (q true h' sb (fin h' es' ep' t' sb e pe fe (le.trans ll) pl))
  ·refine aU (aX ?_);have pl1:t1.plain=false:=by simpa using c
   refine Pr gw ho hd (by rw[sz1,ln];exact room) lf pl1 λh' es' ep' t' sb e pe fe le pl=>aX (q true h' sb (fin h' es' ep' t' sb e pe fe (le.trans ll) pl))
def D9 (ss:List Str):List Str:=ss.foldl (λks k=>if k∈ks then ks else ks++[k]) []
theorem Qd (ss:List Str):(D9 ss).length<=ss.length:=by
 have z:∀(l ks:List Str),(l.foldl (λks k=>if k∈ks then ks else ks++[k]) ks).length<=ks.length+l.length:=λl=>by
  induction l with
  |nil=>intro ks;exact aZ _
  |cons k r ih=>
   intro ks;refine bQ (ih _) ?_;rw[bT];dsimp only
   split
   ·omega
   ·rw[bx,df];omega
 have:=z ss [];rw[fX,fw] at this;exact this
theorem Tn {ss:List Str}{i:Nat}{k:Str}(h:ss[i]?=some k):D9 (ss.take (i+1))=if k∈D9 (ss.take i) then D9 (ss.take i) else D9 (ss.take i)++[k]:=by
 have e:ss.take (i+1)=ss.take i++[k]:=by rw[bN,h];rfl
 unfold D9;rw[e,e8];rfl
theorem DL.keep {h h':Heap}{a:Addr}{ks:List Str}(S:DL prog w h a ks)(k:∀o,h.get? a=some o->h'.get? a=some o):DL prog w h' a ks:=let⟨o,es,ep,t,ss,e,r⟩:=S;⟨o,es,ep,t,ss,k o e,r⟩
theorem Sg:∀{vs:List Value} {ss:List Str},StrsAre vs ss->∀(i:Nat) (v:Value),vs[i]?=some v->∃k t,v=.str k t/\ss[i]?=some k
 |_,_,.nil,i,v,h=>by simp at h
 |_,_,.cons x t r,0,v,h=>⟨x,t,by simpa using h.symm,rfl⟩
 |_,_,.cons x t r,i+1,v,h=>Sg r i v h
theorem Su {R:Result->Shared->Prop}{I S:Addr}{fp:List Addr}{vs:List Value}{ss:List Str}{St:Nat->Heap->Prop}(W:Walks prog w A.in1 I fp [I] vs.length (λi v=>vs[i]?=some v) St)(nS:S∉fp)(hs:StrsAre vs ss)(hb:vs.length+1<scanBound) :
  ∀(k i:Nat) (s:Shared),vs.length-i=k->i<=vs.length->St i s.heap->DL prog w s.heap S (D9 (ss.take i))->
   (∀h' tk,(∀b o,b∉[S,I]->s.heap.get? b=some o->h'.get? b=some o)->DL prog w h' S (D9 ss)->R (.ok (.ret .none)) { s with heap:=h',toks:=tk })->codeAny (model prog w) A (.builtin "set.update.loop" ⟨[.ref S,.ref I],[]⟩) R s:=by
 have nI:S∉[I]:=λz=>nS (W.sub _ z)
 have ln:vs.length=ss.length:=hs.length;intro k
 induction k with
 |zero=>
  intro i s hk hi st T q;have e:i=vs.length:=by omega
  subst e;refine cS gq ?_;rw[cG eK _];refine aU (m:=pyNext (.ref I)) (W.done s _ _ st λh' tk k'=>?_);rw[ln,dv] at T;exact aX (q h' tk (λb o n e=>k' b o (λz=>n (a9 _ z)) e) (T.keep λo e=>k' S o nI e))
 |succ k ih=>
  intro i s hk hi st T q;have lt:i<vs.length:=by omega
  refine cS gq ?_;rw[cG eK _];refine aU (m:=pyNext (.ref I)) (W.item i s _ _ lt st λv h' tk hv st' k'=>?_);obtain⟨x,t,rfl,hx⟩:=Sg hs i v hv;refine aU (m:=holding [Value.str x t] (setAdd S (.str x t))) (cj (PZ (T.keep λo e=>k' S o nI e) ?_ λb h2 sb T2=>?_))
  ·have:=Qd (ss.take i);rw[b6] at this;omega
  rw[<-Tn hx] at T2;refine aX ⟨dD eK _,ih (i+1) _ (by omega) lt (W.frame _ _ _ st' λb hb o e=>?_) T2 λh3 tk3 k3 T3=>?_⟩
  ·rw[sb.2 b (λz=>nS (z▸hb))];exact e
  ·refine q h3 tk3 (λb o n e=>k3 b o n ?_) T3;rw[sb.2 b (λz=>n (by simp[z]))];exact k' b o (λz=>n (a9 _ z)) e
theorem Vp (x:Value){Q₁:Value->Shared->Prop}(q:Q₁ (.ref s.heap.objs.size) { s with heap:=s.heap.push { cls:=.type "set",dict:=none,data:=.set #[] 0 (.fresh 0 0 (!BD w)) } }) :
  codeAny (model prog w) A (.call (.builtin "set.__new__") ⟨[.type "set",x],[]⟩) (wants Q₁ E) s:=by
 refine iE ?_;refine aU (m:=checkBuiltinCall "set.__new__" ⟨[.type "set",x],[]⟩) (ip (PySem.F.newCall_set_1 x) (aX ⟨dD iR _,cS PySem.F.entry_set_new ?_⟩));rw[cG iR _];unfold Builtin.«set.__new__»;unfold Builtin.Frozenset.newClass;have hsub:=sub_set_self;obtain⟨hp,g,d,tk,os⟩:=s;dsimp only
 wp_walk
 refine eS (aX ?_);dsimp only;simp only[newObj];exact aU (wpAny_alloc (aX (aX q)))
end
end L2
namespace L2
section
open PySem PySem.Calls PyProof.Rows
variable {prog:Program}{w:World}{A:Around}{E:Value->Shared->Prop}{s:Shared}
theorem VG {lq:Addr} {vs:List Value} {ss:List Str} {Q:Value->Shared->Prop} (hh:A.handled=none) (hl:s.heap.IsList lq vs.toArray) (hs:StrsAre vs ss) (hb:vs.length+1<scanBound)
  (q:∀h' tk,(∀b o,s.heap.get? b=some o->h'.get? b=some o)->DL prog w h' s.heap.objs.size (D9 ss)->Q (.ref s.heap.objs.size) { s with heap:=h',toks:=tk }):wpAny (model prog w) A (call (.type "set") [.ref lq]) Q E s:=by
 obtain⟨c,tl,hmro⟩:=PySem.F.called_set.mro;have hmade:=PySem.F.called_set.made;have hsub:=PySem.F.called_set.sub;refine gm (iE (aX ⟨Code.quiet_builtin _ (by decide +kernel),cS PySem.F.entry_type_call ?_⟩));rw[Around.under_plain (weight_type_call_type "set" [.ref lq] []) rfl];have h1:=PySem.F.called_set.notType;have h2:=PySem.F.called_set.canCreate;have hct:=PySem.F.typeCall_set_1 (.ref lq)
 repeat (any_goals (first|assumption|wp_step))
 refine dC (Vp (.ref lq) (E:=E) (Q₁:=λobj s₁=>obj=.ref s.heap.objs.size/\s₁={ s with heap:=s.heap.push { cls:=.type "set",dict:=none,data:=.set #[] 0 (.fresh 0 0 (!BD w)) } }) ⟨rfl,rfl⟩) λr s₁ hr=>?_
 match r,hr with
 | .error e,hr=>exact hr
 | .ok (.ret obj),hr=>
  obtain⟨rfl,rfl⟩:=hr;have hS:(s.heap.push { cls:=.type "set",dict:=none,data:=.set #[] 0 (.fresh 0 0 (!BD w)) }).get? s.heap.objs.size=some { cls:=.type "set",dict:=none,data:=.set #[] 0 (.fresh 0 0 (!BD w)) }:=bB _ rfl;have hT:Shared.TypeIs { s with heap:=s.heap.push { cls:=.type "set",dict:=none,data:=.set #[] 0 (.fresh 0 0 (!BD w)) } } (.ref s.heap.objs.size) "set":=⟨_,hS,rfl⟩
  have hli:=PySem.F.called_set.init.lookup;have hbi:=PySem.F.called_set.init.bind (.ref s.heap.objs.size)
  repeat (any_goals (first|assumption|wp_step))
  refine dC (fD (R:=wants (λr s₂=>r=.none/\∃h' tk,s₂={ s with heap:=h',toks:=tk }/\(∀b o,s.heap.get? b=some o->h'.get? b=some o)/\DL prog w h' s.heap.objs.size (D9 ss)) E) PySem.F.called_set.init.plain PySem.F.entry_set_init (check_set_init_1 hT ?_)) λr₂ s₂ hr₂=>?_
  ·obtain⟨⟨cl,dl,tl,sl⟩,el,hcl,nl,hdl⟩:=hl;simp only at hcl hdl;subst hcl;subst hdl;have el':=aV ({ cls:=.type "set",dict:=none,data:=.set #[] 0 (.fresh 0 0 (!BD w)) }:Obj) el;have lt:lq<s.heap.objs.size:=bG el;have l1:(s.heap.push { cls:=.type "set",dict:=none,data:=.set #[] 0 (.fresh 0 0 (!BD w)) }).IsList lq vs.toArray:=⟨_,el',rfl,nl,rfl⟩
   have n1:=PySem.F.sub_list_set;have n2:=PySem.F.sub_list_frozenset;have n3:(Value.type "list" == Value.type "dict")=false:=by decide
   unfold Builtin.«set.__init__» Builtin.Frozenset.updateFrom noKeywords;generalize ePI:pyIter=PI
   wp_walk
   subst ePI;refine dP l1 (aU (wpAny_runValue ?_));have nI:lq≠(s.heap.push { cls:=.type "set",dict:=none,data:=.set #[] 0 (.fresh 0 0 (!BD w)) }).objs.size:=by rw[cf];exact bI (cJ lt)
   have nS:s.heap.objs.size∉[(s.heap.push { cls:=.type "set",dict:=none,data:=.set #[] 0 (.fresh 0 0 (!BD w)) }).objs.size,lq]:=by
    rw[cf];simp only[List.mem_cons,List.not_mem_nil,or_false,not_or];exact⟨bI (eD _),dS lt⟩
   have hA:A.in1.in1.in1.handled=none:=by simp[hh]
   have W:=iY (prog:=prog) (w:=w) hA (s.heap.push { cls:=.type "set",dict:=none,data:=.set #[] 0 (.fresh 0 0 (!BD w)) }).objs.size lq nI vs.toArray;have W2:Walks prog w A.in1.in1.in1 (s.heap.push { cls:=.type "set",dict:=none,data:=.set #[] 0 (.fresh 0 0 (!BD w)) }).objs.size [(s.heap.push { cls:=.type "set",dict:=none,data:=.set #[] 0 (.fresh 0 0 (!BD w)) }).objs.size,lq] [(s.heap.push { cls:=.type "set",dict:=none,data:=.set #[] 0 (.fresh 0 0 (!BD w)) }).objs.size] vs.length (λi v=>vs[i]?=some v) (λi h=>h.IsListIter (s.heap.push { cls:=.type "set",dict:=none,data:=.set #[] 0 (.fresh 0 0 (!BD w)) }).objs.size lq i/\h.IsList lq vs.toArray):=by
    simpa only [List.size_toArray,List.getElem?_toArray] using W
   refine Su W2 nS hs hb vs.length 0 _ (by omega) (bU _) ⟨⟨_,bB _ rfl,rfl,rfl⟩,l1.push _⟩ (V7 (!BD w) rfl (aV _ hS)) λh' tk k' T=>?_
   refine aX (aX ⟨rfl,h',tk,rfl,λb o e=>k' b o (λz=>?_) (aV _ (aV _ e)),T⟩);have lb:=bG e;rw[cf] at z;simp only[List.mem_cons,List.not_mem_nil,or_false] at z;rcases z with rfl|rfl
   ·exact absurd lb (dk _)
   ·exact absurd lb (hV.mpr (eB _))
  ·match r₂,hr₂ with
   | .error e,hr₂=>exact hr₂
   | .ok (.ret r),hr₂=>
    obtain⟨rfl,h',tk,rfl,k',T⟩:=hr₂
    repeat (any_goals (first|assumption|wp_step))
    exact q _ _ k' T
   | .ok .next,hr₂=>exact hr₂.elim
end
end L2
namespace L2
section
open PySem PySem.Calls PyProof.Rows
variable {X:Cx}{pins:List (Addr×Obj)}{σ:St}{H:Hp}{s:Shared}
theorem Inv.drew {d':Drawn}(I:Inv X pins σ H s):Inv X pins σ H { s with drawn:=d' }:=⟨I.ok,I.os,I.bare,I.base,I.loc,I.cell,I.free,I.freeC,I.pin,I.hok,I.len⟩
theorem Jm:∀{ss:List Str} {its:List Value},AR (ss.map V.str) its->StrsAre its ss
 |[],_,.nil=>.nil
 |x::r,_,.cons h t=>by
  obtain⟨k,rfl⟩:=h;exact .cons x k (Jm t)
theorem IW:∀{ss:List Str} {its:List Value},StrsAre its ss->AR (ss.map V.str) its
 |_,_,.nil=>.nil
 |_,_,.cons x t h=>.cons ⟨t,rfl⟩ (IW h)
theorem RQ:∀{us:List Value} {ss:List Str},us.length=ss.length->(∀(j:Nat) (v:Value),us[j]?=some v->∃k t,v=.str k t/\ss[j]?=some k)->StrsAre us ss
 |[],[],_,_=>.nil
 |[],_::_,h,_=>nomatch h
 |_::_,[],h,_=>nomatch h
 |u::us,k::ss,h,f=>by
  obtain⟨k',t,rfl,e⟩:=f 0 u rfl;cases e;exact .cons _ t (RQ (iI h) λj v e=>f (j+1) v e)
theorem N9:∀{kvs:List (Key×V)} {vs:List (Key×Value)},KV kvs vs->vs.map (·.1)=kvs.map (·.1)
 |_,_,.nil=>rfl
 |_,_,.cons h t=>by rw[bg,bg,N9 t,h.1]
def Us (P:Program)(w:World)(p:Addr)(ks:List Str):HO:=.ext λh=>DL P w h p ks
def Zn (P:Program)(w:World)(K:PySem.W.Frag):List V->Hp->VK->Prop:=λxs H Q=>∃(a:Addr) (ss:List Str),xs=[.ref a]/\AI K H a (ss.map V.str)/\ss.length<=1000/\∀p,H p=none->Q (.ref p) (upd H p (Us P w p (D9 ss)))
theorem Sj {P:Program}{w:World}{K:PySem.W.Frag}(hP:X.prog=P)(hw:X.w=w)(hK:X.K=K)(hc:X.calm=true):CL X (.type "set") (Zn P w K):=by
 subst hP hw hK;intro pins s σ H xs us Q I r h;obtain⟨a,ss,rfl,h1,few,q⟩:=h;obtain⟨u,rfl,ru⟩:=vals1 r;cases ru;obtain⟨its,r1,p1,_⟩:=I.list h1;have hs:=Jm r1;have ln:=hs.length;refine VG (I.ok.hd hc) p1.isList hs (by rw[ln];unfold scanBound;omega) λh' tk k T=>⟨.ref s.heap.objs.size,_,I.laid (t':=tk) k (aZ _) (?_:Bs X.prog X.w _ h' _ (Us X.prog X.w s.heap.objs.size (D9 ss))),rfl,q _ (I.hok.fresh (aZ _))⟩
 exact⟨T,let⟨o,_,_,_,_,e,_⟩:=T;⟨o,e⟩,λh1 h2 T1 kk=>T1.keep kk⟩
def Rl (H:Hp)(ks:List Str)(Q:VK):Prop:=∀ts p,ts.Perm ks->sortedS ts=true->H p=none->Q (.ref p) (upd H p (.lst (ts.map V.str)))
theorem Pm {Q:VK}{ks:List Str}{d':Drawn}{tk:Nat}{h1:Heap}{vs:List Value}{ss:List Str}(I:Inv X pins σ H s)(k:∀b o,s.heap.get? b=some o->h1.get? b=some o)(hs:StrsAre vs ss)(pm:ss.Perm ks)(few:ks.length<64)(q:Rl H ks Q) :
  RU (EP X pins σ Q) vs { s with heap:=h1,drawn:=d',toks:=tk }:=by
 have I1:Inv X pins σ H { s with heap:=h1,drawn:=d',toks:=tk }:=(I.drew (d':=d')).kept (t':=tk) k;refine⟨ss,hs,by rw[hs.length,pm.length_eq];exact few,λh' p out ss' c ho pe so lp k' e=>⟨.ref p,_,I1.laid (t':=tk) k' lp (?_:Bs X.prog X.w _ h' p (.lst (ss'.map V.str))),rfl,q ss' p (pe.trans pm) so (I1.hok.fresh lp)⟩⟩;refine⟨?_,out,c,IW ho,e⟩;rw[aS,pe.length_eq,pm.length_eq,cU];omega
def Yn (P:Program)(w:World):List V->Hp->VK->Prop:=λxs H Q=>∃(a:Addr) (ks:List Str),xs=[.ref a]/\H a=some (Us P w a ks)/\ks.length<64/\Rl H ks Q
theorem QE {P:Program}{w:World}(hP:X.prog=P)(hw:X.w=w)(hc:X.calm=true):CL X (.builtin "sorted") (Yn P w):=by
 subst hP hw;intro pins s σ H xs us Q I r h;obtain⟨a,ks,rfl,h1,few,q⟩:=h;obtain⟨u,rfl,ru⟩:=vals1 r;cases ru;obtain⟨T,_⟩:Bs X.prog X.w H s.heap a (Us X.prog X.w a ks):=I.hok a _ h1;obtain⟨o,es,ep,t,ss,e,ex,d,el,f,hl,hp,hs,pm⟩:=T;have ln:es.size=ks.length:=by rw[<-pm.length_eq,<-hs.length,aS,cv]
 refine HG (PY (by simpa using I.ok.hd hc) ⟨o,e,ex.1,d⟩ f hl (λz=>hp (by omega)) (by rw[ln];unfold scanBound;omega) λh' d' tk vs k pv=>?_);obtain⟨ts,y1,y2⟩:=J7 hs pv;exact Pm I k y1 (y2.trans pm) few q
def XY:List V->Hp->VK->Prop:=λxs H Q=>∃(d:Addr) (kvs:List (Key×V)) (ss:List Str),xs=[.ref d]/\H d=some (.dK kvs)/\kvs.map (·.1)=ss.map .inr/\ss.length<64/\Rl H ss Q
theorem QV (hc:X.calm=true):CL X (.builtin "sorted") XY:=by
 intro pins s σ H xs us Q I r h;obtain⟨d,kvs,ss,rfl,h1,hk,few,q⟩:=h;obtain⟨u,rfl,ru⟩:=vals1 r;cases ru;obtain⟨_,lo,vs,rv,o,es,ep,ho,h2,h3,h4⟩:Bs X.prog X.w H s.heap d (.dK kvs):=I.hok d _ h1;have D:s.heap.DictAt (AO X.prog X.w) d vs ep:=⟨o,es,ho,h2,h3,h4⟩
 have ln:vs.length=ss.length:=by
  have:=congrArg List.length hk;rw[aS,aS] at this;rw[<-this];exact rv.length.symm
 refine HG (Ky (PySem.W.kdl_dict (knd:=AO X.prog X.w) (kvs:=vs) (ep:=ep) lo) (by simpa using I.ok.hd hc) D (by rw[ln,cU];omega) λh' tk us k lu it=>?_);have hs:StrsAre us ss:=by
  refine RQ (by rw[lu,ln]) λj v e=>?_
  obtain⟨ky,x,e1,e2⟩:=it j v e;have e3:(kvs.map (·.1))[j]?=some ky:=by rw[<-N9 rv,bz,e1];rfl
  rw[hk,bz] at e3;cases z:ss[j]? with
  |none=>rw[z] at e3;cases e3
  |some y=>
   rw[z] at e3;injection e3 with e3
   subst e3;obtain⟨t,rfl⟩:=Qf e2;exact⟨_,t,rfl,rfl⟩
 exact Pm (d':=s.drawn) I k hs (fb _) few q
end
end L2
namespace L2
open PySem
end L2
namespace L2
open PySem PySem.Spec PyProof.Rows
section
variable {X:Cx}
theorem QL (hu:X.A.units+1<cLine):Gw X (compareOp .NotEq) (ZD X.K true):=by
 intro pins s σ H x y v u Q I rx ry h;obtain⟨a,b,xs,rfl,rfl,h1,h2,q⟩:=h;cases rx;cases ry;obtain⟨its,r1,p1,_⟩:=I.list h1;obtain⟨its2,r2,p2,_⟩:=I.list h2;cases r2;cases r1 with
 |nil=>
  exact SeqAt.RcNeAt.lists (A:=X.A) (s:=s) (e:=λ_=>true) p1.isList p2.isList rfl (by omega) (λj g1 g2=>absurd g1 (by simp)) _ _ _ _ ⟨.bl _,H,I,rfl,q⟩
 |cons r rr=>
  exact iZ p1.isList p2.isList (by simp) (by omega) _ _ _ _ ⟨.bl _,H,I,rfl,q⟩
end
theorem F7:∀{ns:List Int} {its:List Value},IntsAre its ns->AR (ns.map V.int) its
 |[],_,.nil=>.nil
 |_::_,_,.cons n t h=>.cons ⟨_,rfl⟩ (F7 h)
def YD (K:PySem.W.Frag):List V->Hp->VK->Prop:=λxs H Q=>∃(a:Addr) (ns:List Int),xs=[.ref a]/\AI K H a (ns.map V.int)/\ns.length<64/\∀(ms:List Int) (p:Addr),ms.Perm ns->ms.Pairwise (·<=·)->H p=none->Q (.ref p) (upd H p (.lst (ms.map V.int)))
theorem Iz {X:Cx}{K:PySem.W.Frag}(hK:X.K=K):CL X (.builtin "sorted") (YD K):=by
 subst hK;intro pins s σ H xs us Q I r h;obtain⟨a,ns,rfl,h1,few,q⟩:=h;obtain⟨u,rfl,ru⟩:=vals1 r;cases ru;obtain⟨its,r1,p1,_⟩:=I.list h1;have hs:=intsAre_of r1;have hl:=IntsAre.length hs;refine sorted_ints p1.isList hs (by omega) λout ns' a1 a2 a3=>?_
 obtain⟨e,he⟩:=sortedAll_at s.heap its out;have lp:s.heap.objs.size<=s.heap.objs.size+1:=eB _;refine⟨.ref (s.heap.objs.size+1),_,I.laid (t':=s.toks) (o:=.lst (ns'.map V.int)) (λb o y=>sortedAll_old y) lp ?_,rfl,q ns' _ a2 a3 (I.hok.fresh lp)⟩;refine⟨?_,out.toList,e,F7 a1,he⟩;rw[aS,a2.length_eq,cU];omega
end L2
namespace L2
end L2
namespace L2
section
open PySem PyProof.Rows
variable {prog:Program}{w:World}{A:Around}{E:Value->Shared->Prop}{s:Shared}{a₀:Array Keyed}
theorem Nw:∀(fuel n r:Nat),minRun' fuel n r<=n+r
 |0,_,_=>aZ _
 |fuel+1,n,r=>by
  rw[minRun'_succ]
  by_cases h:n<64
  ·rw[bF h];exact aZ _
  ·rw[bH h];have:=Nw fuel (n/2) (max r (n%2));omega
theorem OZ {st:SortSt}{Q:Option Nat->SortSt->Prop}(h0:IntKeys a₀)(h1:1<=a₀.size)(hB:SBase a₀ st)(up:SortedTo (arrOf st) a₀.size)(h:Q (some a₀.size) st) :
  wpS (model prog w) A E s (countRun' 0 a₀.size) Q st:=by
 rw[countRun0_eq];have one:SortedTo (arrOf st) 1:=λi j hij hj=>by
  obtain rfl:i=j:=by omega
  exact fL _
 refine gP (wpS_ascLoop h0 (aZ _) (aZ 1) h1 hB one λn hn1 hn2 _ hor=>?_);have hn:n=a₀.size:=by
  rcases hor with e|lt
  ·exact e
  ·by_cases e:n=a₀.size
   ·exact e
   ·have:=up (n-1) n (by omega) (by omega);omega
 subst hn;dsimp only;rw[bF (by simp)];exact wpS_pure h
theorem Rf {st:SortSt} {Q:Unit->SortSt->Prop} (h0:IntKeys a₀) (hB:SBase a₀ st) (h2:2<=a₀.size) (up:SortedTo (arrOf st) a₀.size)
  (h:∀st',(arrOf st').Perm a₀->failedOf st'=none->SortedTo (arrOf st') a₀.size->Q () st'):wpS (model prog w) A E s sortRuns' Q st:=by
 rw[sortRuns'_eq];refine gP (wpS_get ?_);have hm:minRun' a₀.size a₀.size 0<=a₀.size:=Nw _ _ 0;simp only[hB.size];generalize minRun' a₀.size a₀.size 0=mr at hm;have D:=hB.done up;refine gP (wpS_mono (wpS_forRange (I:=λx c st'=>(x=0/\c=(none,0)/\st'=st)\/(0<x/\c=(none,a₀.size)/\SDone a₀ st')) (Q:=λc st'=>c=(none,a₀.size)/\SDone a₀ st') (λx c st' _ hx hI=>?_) (λc st' hI=>?_) (.inl ⟨rfl,rfl,rfl⟩)) λc st' hc=>?_)
 ·rcases hI with⟨rfl,rfl,rfl⟩|⟨hx1,rfl,hD⟩
  ·dsimp only;rw[bH (by omega)];simp only[Nat.sub_zero,Nat.zero_add];refine gP (OZ h0 (by omega) hB up ?_);dsimp only;rw[bH (by omega)];refine gP (wpS_get ?_);have hb:(pendingOf st').back?=none:=by rw[hB.pend];rfl
   rw[hb];dsimp only;exact gP (wpS_modify (wpS_pure (.inr ⟨by omega,rfl,D⟩)))
  ·dsimp only;rw[bF (aZ _)];exact wpS_pure ⟨rfl,hD⟩
 ·rcases hI with⟨hx,_⟩|⟨_,hc,hD⟩
  ·omega
  ·exact⟨hc,hD⟩
 ·obtain⟨rfl,hD⟩:=hc;dsimp only;refine gP (wpS_mono (wpS_forRange (I:=λ_ c st2=>c=(none,())/\st2=st') (Q:=λc st2=>c=(none,())/\st2=st') (λx c st2 _ _ hI=>?_) (λ_ _ hh=>hh) ⟨rfl,rfl⟩) λc st2 hc=>?_)
  ·obtain⟨rfl,rfl⟩:=hI;refine gP (wpS_get ?_);rw[bF (by rw[hD.2.2.1];exact aZ 1)];exact wpS_pure ⟨rfl,rfl⟩
  ·obtain⟨rfl,rfl⟩:=hc;exact wpS_pure (h _ hD.1 hD.2.1 hD.2.2.2)
theorem UN {vs:List Value}{ns:List Int}(hI:IntsAre vs ns)(up:ns.Pairwise (·<=·)):SortedTo (pairsOf vs) (pairsOf vs).size:=by
 have en:=hI.nums;intro i j hij hj;have hjv:j<vs.length:=by rw[pairsOf_size] at hj;exact hj
 have kk:∀k,(hk:k<vs.length)->K (pairsOf vs) k=(vs.map numOf)[k]'(by rw[aS];exact hk):=λk hk=>by
  rw[K_eq (by rw[pairsOf_size];exact hk)];simp[pairsOf]
 rw[kk i (by omega),kk j hjv];subst en
 by_cases e:i=j
 ·subst e;exact fL _
 ·exact eJ.mp up i j _ _ (by omega)
theorem Wa {a:Addr} {vs:List Value} {ns:List Int} {n:Nat} {P:PySem.Fin->Shared->Prop} (ho:s.heap.get? a=some (seqObj "list" vs.toArray n)) (hI:IntsAre vs ns) (up:vs.length<64\/(vs.length<=sizeLine/\ns.Pairwise (·<=·)))
  (h:∀(out:Array Value) (ns':List Int),IntsAre out.toList ns'->ns'.Perm ns->ns'.Pairwise (·<=·)->P (.done (.ret .none)) { s with heap:=sortedHeap s.heap a vs out }) :
  wpAny (model prog w) A (Builtin.«list.sort» ⟨[.ref a],[]⟩) P E s:=by
 by_cases few:vs.length<64
 ·exact list_sort_tree ho hI few h
 have hz:=(up.resolve_left few).1;have up':=(up.resolve_left few).2;rw[list_sort_plain];have ha:a<s.heap.objs.size:=bG ho;refine aU (listItems_at ho rfl (aU (gF ho rfl ?_)));obtain⟨e1,h1⟩:∃e,(s.heap.update a (Obj.mapSeq λ_=>#[])).get? a=some (seqObj "list" #[] e):=⟨_,get?_update_seq ho (λ_=>#[])⟩
 refine aU (ia h1 rfl (aU (iV (aU (fZ (cj ?_))))));have n1:a≠(s.heap.update a (Obj.mapSeq λ_=>#[])).objs.size:=by rw[fA];exact bI ha
 have n2:a≠((s.heap.update a (Obj.mapSeq λ_=>#[])).push (seqObj "tuple" vs.toArray 0)).objs.size:=by rw[cf,fA];exact bI (cJ ha)
 have h2:(((s.heap.update a (Obj.mapSeq λ_=>#[])).push (seqObj "tuple" vs.toArray 0)).push (seqObj "list" #[] 0)).get? a=some (seqObj "list" #[] e1):=by
  rw[fY _ _ _ n2,fY _ _ _ n1];exact h1
 show wpAny (model prog w) A _ P E { s with heap:=((s.heap.update a (Obj.mapSeq λ_=>#[])).push (seqObj "tuple" vs.toArray 0)).push (seqObj "list" #[] 0) };dsimp only;have hs2:¬vs.toArray.size<2:=by simp;omega
 have ps:=pairsOf_size vs;rw[bH hs2,bH hs2];obtain⟨v1,v2,rest,rfl⟩:∃v1 v2 rest,vs=v1::v2::rest:=by
  match vs,few with
  |[],q=>exact absurd (by decide) q
  |[_],q=>exact absurd (by show 1<64;decide) q
  |v1::v2::rest,_=>exact⟨v1,v2,rest,rfl⟩
 rw[keyKind_ints hI];refine aU (aX (aU (b4 (Rf (a₀:=pairsOf (v1::v2::rest)) (st:=SortSt.mk' oneType' ((v1::v2::rest).toArray.zip (v1::v2::rest).toArray) #[] 7 none)
  (Q:=λ_ st'=>(arrOf st').Perm (pairsOf (v1::v2::rest))/\failedOf st'=none/\SortedTo (arrOf st') (pairsOf (v1::v2::rest)).size)
  hI.intKeys ⟨Array.Perm.refl _,rfl,rfl,rfl⟩ (by rw[ps];simp) (UN hI up') λst' a1 a2 a3=>⟨a1,a2,a3⟩) (λr s' hr=>?_) λ_ _ e=>e)))
 obtain⟨⟨⟩,st'⟩:=r;obtain⟨rfl,hp,hf,hs⟩:=hr;dsimp only;refine aU (ia h2 rfl (aU (gF h2 rfl ?_ (hsz2:=?_))))
 ·rw[hf];simp only[bne_self_eq_false,Bool.false_eq_true,if_false];obtain⟨ns',g1,g2,g3⟩:=sorted_out hI hp hs;exact aX (h _ ns' g1 g2 g3)
 ·rw[Array.size_map,hp.size_eq,ps];exact Nat.le_succ_of_le hz
end
end L2
namespace L2
section
open PySem PySem.Calls PyProof.Rows
variable {prog:Program}{w:World}{A:Around}{E:Value->Shared->Prop}{s:Shared}
def Vg (Q:Value->Shared->Prop)(vs:List Value)(s1:Shared):Prop:=∃ns,IntsAre vs ns/\(vs.length<64\/(vs.length<=sizeLine/\ns.Pairwise (·<=·)))/\
 ∀h' p (out:List Value) ns' c,IntsAre out ns'->ns'.Perm ns->ns'.Pairwise (·<=·)->s1.heap.objs.size<=p->(∀b o,s1.heap.get? b=some o->h'.get? b=some o)->
  h'.get? p=some (seqObj "list" out.toArray c)->Q (.ref p) { s1 with heap:=h' }
theorem Mo {x:Value}{Q:Value->Shared->Prop}(hc:wpAny (model prog w) A.in1 (collect x) (Vg Q) E s):wpAny (model prog w) A (call (.builtin "sorted") [x]) Q E s:=by
 refine fS kind_sorted plain_sorted entry_sorted (args_sorted1 x) ?_;unfold Builtin.«sorted»;refine aU (m:=checkCount "sorted" 1 1 _) (aX (aU (b4 hc (λvs s1 z=>?_) λ_ _ e=>e)));obtain⟨ns,hI,few,q⟩:=z;have there:(s1.heap.push (seqObj "list" vs.toArray 0)).get? s1.heap.objs.size=some (seqObj "list" vs.toArray 0):=bB _ rfl;refine aU (fZ (aU (cj (cT slot_list_sort ⟨_,there,rfl⟩ entry_list_sort (Wa there hI few λout ns' a1 a2 a3=>⟨_,rfl,?_⟩) (args_list_sort _)))));obtain⟨c,hp⟩:=sortedHeap_at (out:=out) there;refine aX ⟨_,rfl,q _ _ out.toList ns' c a1 a2 a3 (aZ _) (λb o e=>?_) (by rw[ja];exact hp)⟩;have lt:=bG e;show Heap.get? _ b=some o;rw[sortedHeap_old (bI lt) (by rw[cf];exact cJ lt)];exact aV _ e
end
section
open PySem PySem.Spec PyProof.Rows
variable {X:Cx}
theorem RV:∀{vs:List Value} {ns:List Int},vs.length=ns.length->(∀(j:Nat) v,vs[j]?=some v->∃n t,ns[j]?=some n/\v=.int n t)->IntsAre vs ns
 |[],[],_,_=>.nil
 |[],_::_,h,_=>by cases h
 |_::_,[],h,_=>by cases h
 |v::vs,n::ns,h,k=>by
  obtain⟨n',t,e,rfl⟩:=k 0 v rfl;cases e;exact .cons _ _ (RV (by simpa using h) λj v e=>k (j+1) v (by simpa using e))
def WC:List V->Hp->VK->Prop:=λxs H Q=>∃(d:Addr) (kvs:List (Key×V)) (ns:List Int),xs=[.ref d]/\H d=some (.dK kvs)/\kvs.map (·.1)=ns.map .inl/\(ns.length<64\/(ns.length<=100000/\ns.Pairwise (·<=·)))/\∀(ms:List Int) (p:Addr),ms.Perm ns->ms.Pairwise (·<=·)->H p=none->Q (.ref p) (upd H p (.lst (ms.map V.int)))
theorem Gs (hc:X.calm=true):CL X (.builtin "sorted") WC:=by
 intro pins s σ H xs us Q I r h;obtain⟨d,kvs,ns,rfl,h1,hk,few,q⟩:=h;obtain⟨u,rfl,ru⟩:=vals1 r;cases ru;obtain⟨_,lo,vs,rv,o,es,ep,ho,h2,h3,h4⟩:Bs X.prog X.w H s.heap d (.dK kvs):=I.hok d _ h1;have D:s.heap.DictAt (AO X.prog X.w) d vs ep:=⟨o,es,ho,h2,h3,h4⟩
 have ln:vs.length=ns.length:=by
  have:=congrArg List.length hk;rw[aS,aS] at this;rw[<-this];exact rv.length.symm
 refine Mo (Ky (PySem.W.kdl_dict (knd:=AO X.prog X.w) (kvs:=vs) (ep:=ep) lo) (by simpa using I.ok.hd hc) D (by rw[ln,cU];omega) λh' tk us k lu it=>?_);have hs:IntsAre us ns:=by
  refine RV (by rw[lu,ln]) λj v e=>?_
  obtain⟨ky,x,e1,e2⟩:=it j v e;have e3:(kvs.map (·.1))[j]?=some ky:=by rw[<-N9 rv,bz,e1];rfl
  rw[hk,bz] at e3;cases z:ns[j]? with
  |none=>rw[z] at e3;cases e3
  |some y=>
   rw[z] at e3;injection e3 with e3
   subst e3;obtain⟨t,rfl⟩:=Qf e2;exact⟨_,t,rfl,rfl⟩
 have I1:Inv X pins σ H { s with heap:=h',toks:=tk }:=I.kept (t':=tk) k;refine⟨ns,hs,by rw[lu,ln];exact few.imp id λz=>⟨by rw[cU];omega,z.2⟩,λh2 p out ns' c a1 a2 a3 lp k2 hp=>⟨.ref p,_,I1.laid (t':=tk) k2 lp (?_:Bs X.prog X.w _ h2 p (.lst (ns'.map V.int))),rfl,q ns' p a2 a3 (I1.hok.fresh lp)⟩⟩;refine⟨?_,out,c,F7 a1,hp⟩;rw[aS,a2.length_eq,cU];omega
theorem VJ {pins:List (Addr×Obj)} {σ:St} {H:Hp} {s:Shared} {a:Addr} {kvs:List (Key×V)} {k:Key} {u r:Value} {z:V} {A:Around} {E:Value->Shared->Prop} {Q:Value->Shared->Prop} (I:Inv X pins σ H s) (e:H a=some (.dK kvs)) (ry:RelV (kV k) u) (rz:RelV z r) (hl:kvs.length<sizeLine)
  (h1:∀v w' s',A4 kvs k=some v->Inv X pins σ H s'->RelV v w'->Q w' s') (h2:A4 kvs k=none->∀s',Inv X pins σ (upd H a (.dK (putK kvs k z))) s'->Q r s'):wpAny (model X.prog X.w) A (call (.builtin "dict.setdefault") [.ref a,u,r]) Q E s:=by
 obtain⟨z0,hd,vs,rel,dd⟩:=Np I.hok e;have ki:=HF (P:=X.prog) (w:=X.w) ry;cases hv:A4 kvs k with
 |some v=>
  obtain⟨w',hw,rw'⟩:=Ez.some_of (v:=v) (o:=valueAt vs k) (by rw[<-hv];exact rel.val k);refine eu fk dd.typeIs gX (gR _ _ _) (meets_dict_setdefault (AO X.prog X.w) a ki hd r) ⟨_,dd.mapOf,?_,λv' e'=>?_,λe'=>?_⟩
  ·obtain⟨o,es,ep,ho,_,hx,_,hp,_⟩:=id dd;intro o' es' ep' g1 g2;rw[ho] at g1;cases g1;rw[hx] at g2;cases g2;have:=hp.length;rw[cv] at this;rw[this,<-rel.length];exact z0
  ·rw[hw] at e';cases e';exact h1 v _ _ hv (I.tok _) rw'
  ·rw[hw] at e';cases e'
 |none=>
  have hn:valueAt vs k=none:=Ez.none_of (by rw[<-hv];exact rel.val k);obtain⟨o,es,ep,ho,hc,hx,hk,hp,nd⟩:=id dd;refine cT fk dd.typeIs gX ?_ (gR _ _ _);refine aU (aU (gA dd.typeIs (aX ?_)))
  change wpAny _ _ (if(a == sysModules)=true then _ else(dictSetDefault a u r >>= _)) _ _ s
  rw[bH (by rw[hd];exact bC)];have le:es.size<=sizeLine:=by
   have:=hp.length;rw[cv] at this;rw[this,<-rel.length];exact z0
  have nk:∀kv∈vs,decide (kv.1=k)=false:=λkv hkv=>by
   cases q:decide (kv.1=k) with
   |false=>rfl
   |true=>
    unfold valueAt at hn;rw[cW,dg] at hn;exact absurd q (hn kv hkv)
  have fi:(es.findIdx? λe=>(AO X.prog X.w).is k e.key)=none:=by
   have h3:(es.toList.findIdx? λe=>(AO X.prog X.w).is k e.key)=none:=by rw[hp.findIdx k];exact ic.mpr nk
   obtain⟨l⟩:=es;simpa using h3
  unfold dictSetDefault;refine aU (cj (aU ((AO X.prog X.w).pyHash ki (aU (wpAny_dictFind_of (s:={ s with toks:=s.toks+1 }) ki ho hx hk ?_)))));rw[fi];have est:stored vs k r=vs++[(k,r)]:=by
   unfold stored;rw[bH λq=>by obtain⟨kv,h3,h4⟩:=cR.mp q;rw[nk kv h3] at h4;cases h4]
  refine aU (gi (aU (wpAny_updateDictKeys (hz:=le) (s:={ s with toks:=s.toks+1 }) ho hx (aX (aX ⟨r,rfl,h2 hv _ ?_⟩)))));have hlp:(putK kvs k z).length<=sizeLine:=by have:=Gv kvs k z;omega
  refine F0 (I.tok _) (by rw[e];exact True.intro) (dX ..) ⟨_,cP _ ho (gS (eQ hx _))⟩ (LQ hlp hd (rel.put k rz) ?_);rw[est];refine⟨_,_,ep+1,cP _ ho (gS (eQ hx _)),hc.mapDictKeys _,eQ hx _,hk.push ki _,?_,?_⟩
  ·have:=hp.append ki ((AO X.prog X.w).hash k) r;obtain⟨l⟩:=es;simpa using this
  ·rw[bA];refine b9.mpr ⟨nd,by simp,λx hx y hy h5=>?_⟩;obtain⟨kv,h3,rfl⟩:=aT.mp hx;have h6:=nk kv h3;rw[iq] at h6;rw[bg,eE,ba] at hy;exact h6 (h5.trans hy)
def Y3 (td ty tx:TE):TE:=λσ H Q=>td σ H λx H1=>∃a,x=.ref a/\YE H1 a/\ty σ H1 λy H2=>tx σ H2 λz H3=>∃kvs k,H3 a=some (.dK kvs)/\y=kV k/\kvs.length<sizeLine/\(∀v,A4 kvs k=some v->Q v H3)/\(A4 kvs k=none->Q z (upd H3 a (.dK (putK kvs k z))))
theorem U2 {o e f:Expr}{td ty tx:TE}{apos cpos:Pos}(ho:PE X o td)(he:PE X e ty)(hf:PE X f tx)(m:M2 X o "setdefault" apos e f cpos):PE X (.Call (.Attribute o "setdefault" apos) [e,f] [] cpos) (Y3 td ty tx):=by
 intro pins s σ H Q I h;refine dQ m.base m.few m.line cQ fk PySem.F.type_dict_setdefault (Bn (ho pins s σ H _ I h) λu s1 z9=>?_);obtain⟨x,H1,I1,rx,a,ex,d,q1⟩:=z9;subst ex;obtain rfl:u=Value.ref a:=rx;obtain⟨t1,t2,_⟩:=IG I1 d;refine⟨t1,t2,?_⟩;rw[m.trees];refine cC rfl (dr (cF (Bn (he pins s1 σ H1 _ I1 q1) λiv s2 ⟨y,H2,I2,ry,q2⟩=>cF (Bn (hf pins s2 σ H2 _ I2 q2) λr s3 ⟨z,H3,I3,rz,kvs,k,hd,ey,hl,q3,q4⟩=>dR ?_))));subst ey;exact VJ I3 hd ry rz hl (λv w' s' hv I' rw'=>⟨v,H3,I',rw',q3 v hv⟩) λhv s' I'=>⟨z,_,I',rz,q4 hv⟩
end
section
open PySem PySem.Calls PyProof.Rows
variable {prog:Program}{w:World}{A:Around}{E:Value->Shared->Prop}{I S:Addr}{fp wr:List Addr}{n:Nat}{P:Nat->Value->Prop}{St:Nat->Heap->Prop}{bt:Nat->Nat->Bool}{d:Value}{R:Result->Shared->Prop}
def Yf (P:Nat->Value->Prop)(bt:Nat->Nat->Bool)(i:Nat)(arr:List Value):Prop:=(arr=[]/\i=0)\/∃v,arr=[v,v]/\0<i/\P (argBest bt (i-1)) v
theorem SS (W:Walks prog w A.in1 I fp wr n P St)(hcmp:CmpOf prog w A.in1 .Gt P bt)(hSf:S∉fp):∀(k i:Nat) (s:Shared) (arr:List Value) (c:Nat),i+k=n->St i s.heap->s.heap.get? S=some { cls:=.type "list",dict:=none,data:=.seq arr.toArray c,slots:=#[] }->Yf P bt i arr->
  (∀r h' tk,(n=0/\r=d\/0<n/\P (argBest bt (n-1)) r)->(∀b o,b∉wr->b≠S->s.heap.get? b=some o->h'.get? b=some o)->R (.ok (.ret r)) { s with heap:=h',toks:=tk })->
  codeAny (model prog w) A (.builtin "max.loop" ⟨[.ref I,.none,.ref S],[("default",d)]⟩) R s:=by
 have hSw:S∉wr:=λh=>hSf (W.sub _ h)
 intro k
 induction k with
 |zero=>
  intro i s arr c hk hst hS hb hR;cases(show i=n by omega);refine cS iH ?_;rw[cG du _];refine aU (m:=seqItems? (.ref S)) (gH hS rfl (aU (gG (W.done s _ _ hst λh' tk k'=>?_))));rcases hb with⟨rfl,i0⟩|⟨v,rfl,i0,hv⟩
  ·exact aU (gi (aX (hR d h' tk (.inl ⟨i0,rfl⟩) λb o hb _ e=>k' b o hb e)))
  ·exact aU (gv (k' S _ hSw hS) rfl (aU (gI (aX (hR v _ tk (.inr ⟨i0,hv⟩) λb o hb hS e=>(cB _ _ (Ne.symm hS)).trans (k' b o hb e))))))
 |succ k ih=>
  intro i s arr c hk hst hS hb hR;refine cS iH ?_;rw[cG du _];refine aU (m:=seqItems? (.ref S)) (gH hS rfl (aU (gG (W.item i s _ _ (by omega) hst λx h' tk hP st' k'=>?_))));have hS':=k' S _ hSw hS;have nm:(toString "max"++toString ".loop":String)="max.loop":=by decide
  have la:arr.toArray.size<=sizeLine:=by
   rw[cU];rcases hb with⟨rfl,_⟩|⟨v,rfl,_⟩
   ·exact bU _
   ·show 2<=_;omega
  have put:∀(tk':Nat),P (argBest bt i) x->wpAny (model prog w) A.in1 (updateSeq S (λ_=>#[x,x])) (λ_ s'=>codeAny (model prog w) A (.builtin "max.loop" ⟨[.ref I,.none,.ref S],[("default",d)]⟩) R s') (λe s'=>R (.error e) s') { s with heap:=h',toks:=tk' }:=λtk' hx=>by
   refine gv (hz:=la) (s:={ s with heap:=h',toks:=tk' }) hS' rfl (ih (i+1) _ [x,x] _ (by omega) (W.frame _ _ _ st' λb hb o e=>?_) (cP _ hS' rfl) (.inr ⟨x,rfl,Nat.succ_pos _,hx⟩) λr h2 tk2 hr k2=>?_)
   ·exact(cB _ _ (λz:S=b=>hSf (by rw[z];exact hb))).trans e
   ·exact hR r h2 tk2 hr λb o hb hbS e=>k2 b o hb hbS ((cB _ _ (Ne.symm hbS)).trans (k' b o hb e))
  rcases hb with⟨rfl,i0⟩|⟨v,rfl,i0,hv⟩
  ·subst i0;refine aU (aX (aU (b4 (put tk hP) (λ_ s' q=>?_) λ_ _ q=>q)));rw[nm];exact aX ⟨dD du _,q⟩
  ·refine aU (aX (aU (gG (cj (aU (hcmp i (argBest bt (i-1)) x v _ _ _ hP hv (aU (cj (cO (aU (gI (aX ?_))))))))))));have ea:argBest bt i=if bt i (argBest bt (i-1)) then i else argBest bt (i-1):=by
    obtain⟨j,rfl⟩:∃j,i=j+1:=⟨i-1,by omega⟩
    rfl
   cases q:bt i (argBest bt (i-1)) with
   |true=>
    rw[q,bF rfl] at ea;rw[bF rfl];refine aU (b4 (put tk (by rw[ea];exact hP)) (λ_ s' z=>aU (gI ?_)) λ_ _ z=>z);rw[nm];exact aX ⟨dD du _,z⟩
   |false=>
    rw[q,bH bC] at ea;rw[bH bC];refine aU (gI ?_);rw[nm];refine aX ⟨dD du _,ih (i+1) _ [v,v] _ (by omega) st' hS' (.inr ⟨v,rfl,Nat.succ_pos _,?_⟩) λr h2 tk2 hr k2=>hR r h2 tk2 hr λb o hb hbS e=>k2 b o hb hbS (k' b o hb e)⟩;show P (argBest bt i) v;rw[ea];exact hv
theorem WB (l:Addr)(d:Value):checkBuiltinCall "max" ⟨[.ref l],[("default",d)]⟩=pure ():=by kernel_rfl
theorem Ti {l:Addr} {items:Array Value} {Q:Value->Shared->Prop} {s:Shared} (hh:A.handled=none) (hl:s.heap.IsList l items) (val:Nat->Int) (hval:∀i v,items[i]?=some v->∃t,v=Value.int (val i) t)
  (q:∀r h' tk,(items.size=0/\r=d\/0<items.size/\items[argBest (λi j=>decide (val j<val i)) (items.size-1)]?=some r)->(∀b o,s.heap.get? b=some o->h'.get? b=some o)->Q r { s with heap:=h',toks:=tk }):wpAny (model prog w) A (call (.builtin "max") [.ref l] [("default",d)]) Q E s:=by
 refine gm (fD PySem.F.plain_max PySem.F.entry_max ?_);rw[WB];refine aX ?_;have nm:(toString "max"++toString ".loop":String)="max.loop":=by decide
 change wpAny _ A.in1 (Builtin.Builtins.bindParams "max" ["key","default"] 0 ⟨[],[("default",d)]⟩ >>= _) _ _ s
 refine aU (ip (show Builtin.Builtins.bindParams "max" ["key","default"] 0 ⟨[],[("default",d)]⟩=pure [none,some d] from rfl) (aU (aX (aU (dP hl ?_)))));refine aU (cE ?_);rw[nm];have ll:l<s.heap.objs.size:=let⟨_,ho,_⟩:=hl;bG ho;have sz:(s.heap.push { cls:=.type "list_iterator",data:=.fields #[.ref l,.int 0 0] }).objs.size=s.heap.objs.size+1:=cf ..;refine aX ⟨dD du _,SS (P:=λi v=>items[i]?=some v) (iY (A:=A.in1) (show A.in1.handled=none from hh) s.heap.objs.size l (bI ll) items) (CmpOf.ints_gt val hval) (S:=(s.heap.push { cls:=.type "list_iterator",data:=.fields #[.ref l,.int 0 0] }).objs.size) ?_ items.size 0 _ [] 0 (fw _) ?_ ?_ (.inl ⟨rfl,rfl⟩) λr h' tk hr k=>?_⟩
 ·rw[sz];intro z;rcases bE.mp z with z|z
  ·exact gT _ z
  ·exact dS (cJ ll) (ba.mp z)
 ·refine⟨⟨_,aV _ (bB _ rfl),rfl,rfl⟩,hl.at λo e=>aV _ (aV _ e)⟩
 ·exact bB _ rfl
 ·refine q r h' tk hr λb o e=>k b o ?_ ?_ (aV _ (aV _ e))
  ·exact λz=>bI (bG e) (ba.mp z)
  ·rw[sz];exact bI (cJ (bG e))
theorem Vt {M:Model} {A:Around} {E:Value->Shared->Prop} {s:Shared} {pos:Pos} {id:String} {args:List (Bool×Sem Value)} {kws:List (Option Str×Sem Value)} {Q:Value->Shared->Prop} (hp:args.any (·.1)=false) (hk:kws.any (·.1.isNone)=false)
  (h:wpAny M A (evalArgs (.builtin id) true args kws) (λz sz=>wpAny M A (call (.builtin id) z.pos z.kw) Q E sz) E s):wpAny M A (callWith pos (.builtin id) [] args kws) Q E s:=by
 unfold callWith;refine aU (cj (b4 h (λz sz hz=>aU (gV ?_)) λ_ _ y=>y));simp only[hp,hk,Bool.or_false];refine aU (aX (aU (b4 hz (λv sv hv=>aU (cj (wpAny_point (aX hv)))) λ_ _ y=>y)))
end
section
open PySem PySem.Spec PyProof.Rows PySem.Calls
variable {X:Cx}
def OC:List Int->Int
 |[]=>0
 |x::l=>l.foldl (λa b=>if a<b then b else a) x
theorem SA {l:List Int}(h:l≠[])(x:Int):OC (l++[x])=if OC l<x then x else OC l:=by
 cases l with
 |nil=>exact absurd rfl h
 |cons y l=>
  show(l++[x]).foldl (λa b=>if a<b then b else a) y=_;rw[e8];rfl
theorem Nn (ns:List Int):∀k,k<ns.length->argBest (λi j=>decide (ns.getD j 0<ns.getD i 0)) k<ns.length/\OC (ns.take (k+1))=ns.getD (argBest (λi j=>decide (ns.getD j 0<ns.getD i 0)) k) 0
 |0,h=>by
  cases ns with
  |nil=>exact absurd h (g8 _)
  |cons x l=>exact⟨h,rfl⟩
 |k+1,h=>by
  obtain⟨h1,h2⟩:=Nn ns k (by omega);have e:ns.take (k+1+1)=ns.take (k+1)++[ns.getD (k+1) 0]:=by
   rw[bN,fG,aW h];rfl
  have ne:ns.take (k+1)≠[]:=λz=>by
   have:=congrArg List.length z;rw[b6,fX] at this;omega
  rw[e,SA ne,h2];show(if decide (_<_)=true then k+1 else _)<_/\_=ns.getD (if decide (_<_)=true then k+1 else _) 0
  by_cases q:ns.getD (argBest (λi j=>decide (ns.getD j 0<ns.getD i 0)) k) 0<ns.getD (k+1) 0
  ·rw[bF q,bF (bh q)];exact⟨h,rfl⟩
  ·rw[bH q,bH (by rw[bD q];exact bC)];exact⟨h1,rfl⟩
theorem LZ:∀{its:List Value} {ns:List Int},IntsAre its ns->∀{i:Nat} {v:Value},its[i]?=some v->∃t,v=Value.int (ns.getD i 0) t
 |_,_,.nil,i,v,h=>by simp at h
 |_,_,.cons n t r,0,v,h=>by simp at h;exact⟨t,h.symm⟩
 |_,_,.cons n t r,i+1,v,h=>LZ r (by simpa using h)
def Zf (K:PySem.W.Frag)(ta:TA):TE:=λσ H Q=>ta σ H λvs H1=>∃(a:Addr) (ns:List Int),vs=[.ref a]/\AI K H1 a (ns.map V.int)/\Q (.int (OC ns)) H1
theorem WY {l:Expr} {ta:TA} {p pos kp cp:Pos} {j} (hc:X.calm=true) (hg:Gl X "max") (hm:X.mg "max"=none) (ha:PA X [l] ta)
  (he:backTo pos (starEach [l] X.env)=(false,eval l X.env)::backTo pos (starEach [] X.env):=by rfl)
  (hpl:(backTo pos (starEach [l] X.env)).any (·.1)=false:=by rfl) :
  PE X (.Call (.Name "max" p) [l] [⟨some "default",.Constant (.int 0) j cp,kp⟩] pos) (Zf X.K ta):=by
 intro pins s σ H Q I h;refine dG (HS I hg hm T5 (Vt hpl rfl ?_));have hsp:=ha pos pins s σ H _ I h;rw[he] at hsp ⊢;refine evalArgs_kwB rfl (Bn hsp λus s1 ⟨vs,H1,I1,r1,q1⟩=>?_);refine kws_cons (gY (kws_nil ?_));obtain⟨a,ns,rfl,hq,q⟩:=q1;obtain⟨u,rfl,ru⟩:=vals1 r1;cases ru;have I2:=I1.tok (s1.toks+1);obtain⟨its,rv,p1,hz⟩:=I2.list hq;have hi:=intsAre_of rv;have ln:its.length=ns.length:=IntsAre.length hi;refine Ti (items:=its.toArray) (d:=.int 0 s1.toks) (I2.ok.hd hc) p1.isList (λi=>ns.getD i 0) (λi v e=>LZ hi (by simpa using e)) λr h' tk hr k=>?_
 obtain⟨t,rfl⟩:∃t,r=Value.int (OC ns) t:=by
  rcases hr with⟨h0,rfl⟩|⟨h0,h1⟩
  ·have:ns=[]:=dm (by rw[<-ln];simpa using h0);subst this;exact⟨_,rfl⟩
  ·have h2:0<ns.length:=by rw[<-ln];simpa using h0
   obtain⟨t,e⟩:=LZ hi (i:=argBest (λi j=>decide (ns.getD j 0<ns.getD i 0)) (ns.length-1)) (v:=r) (by rw[<-ln];simpa using h1);have:=(Nn ns (ns.length-1) (by omega)).2;rw[show ns.length-1+1=ns.length by omega,dv] at this;exact⟨t,by rw[e,this]⟩
 exact⟨.int (OC ns),H1,I2.kept (t':=tk) k,⟨t,rfl⟩,q⟩
end
end L2
namespace L2
section
open PySem PySem.Calls PyProof.Rows
variable {prog:Program}{w:World}{A:Around}{E:Value->Shared->Prop}{s:Shared}
theorem OU:entryFor table "dict.update.loop"=some Builtin.«dict.update.loop»:=entryFor_of_tree (by kernel_rfl)
theorem JB:plainId "dict.update.loop"=true:=by decide +kernel
theorem Tt:typeLookup (.type "list") "keys"=pure none:=by rw[iD,gB];kernel_rfl
theorem N4 {a:Addr} {xs:Array Value} {k:Nat} {sl:Array (Option Value)} {Q:Option Value->Shared->Prop} (hx:s.heap.get? a=some { cls:=.type "list",dict:=none,data:=.seq xs k,slots:=sl }) (hA:A.handled=none)
  (h:∀h' tk,(∀b o,s.heap.get? b=some o->h'.get? b=some o)->Q none { s with heap:=h',toks:=tk }):wpAny (model prog w) A (getAttr? (.ref a) "keys") Q E s:=by
 obtain⟨hp,g,d,tk,os⟩:=s;have hT:∀tk',(⟨hp,g,d,tk',os⟩:Shared).TypeIs (.ref a) "list":=λ_=>⟨_,hx,rfl⟩
 have f1:=sub_AttributeError;have f3:=F.slot_list_getattribute.lookup;have f4:=F.slot_list_getattribute.bind (.ref a);have f5:=am_list_getattr_none;unfold getAttr? getAttrBy? getAttrBy
 repeat (any_goals (first|assumption|exact hT _|((with_reducible show wpAny _ _ (call (Value.builtin "list.__getattribute__") _ _) _ _ _);refine gZ F.slot_list_getattribute (hT _) am_entry_list_getattribute (F.args_list_getattribute_2 _ _) (meets_getattribute_miss_list a xs k sl "keys" _ Tt (by decide +kernel) (by decide +kernel)) ⟨hx,hA,λh' tk' e hx'=>?_⟩)|wp_step))
 obtain⟨t',u',he⟩:=hx'.there;show wpAny _ _ (getattributeRaised _ _ _ _ _ _ _) _ _ _;unfold getattributeRaised
 repeat (any_goals (first|assumption|wp_step))
 exact h _ _ λb o e=>hx'.keeps b o e
theorem pair_items {t:Addr}{k v:Value}{Q:List Value->Shared->Prop}(ht:IsTup s.heap t #[k,v])(h:Q [k,v] s):wpAny (model prog w) A (Builtin.Dict.pairItems (.ref t)) Q E s:=by
 obtain⟨o,ho,hc,n,hd⟩:=ht;have hT:s.TypeIs (.ref t) "tuple":=⟨o,ho,hc⟩
 unfold Builtin.Dict.pairItems;refine aU (gh hT ?_);rw[bF (by decide)];refine aU (m:=seqItems? (.ref t)) ?_;unfold seqItems?;refine aU (iW ho ?_);rw[hd];exact aX (aX h)
theorem Sw {R:Result->Shared->Prop} {I d:Addr} {fp:List Addr} {vs:List Value} {St:Nat->Heap->Prop} {D:Nat->Heap->Prop} {h0:Heap} (W:Walks prog w A.in1 I fp [I] vs.length (λi v=>vs[i]?=some v) St) (nd:d∉fp)
  (hI:h0.get? I=none) (hd0:h0.get? d=none) (keep:∀i h h',D i h->(∀o,h.get? d=some o->h'.get? d=some o)->D i h')
  (pr:∀i v,vs[i]?=some v->∃t x y,v=.ref t/\IsTup h0 t #[x,y]/\∀(s:Shared) (Q:Unit->Shared->Prop) (E:Value->Shared->Prop),(∀b o,h0.get? b=some o->s.heap.get? b=some o)->D i s.heap->(∀h' tk,D (i+1) h'->Heap.SameBut d s.heap h'->Q () { s with heap:=h',toks:=tk })->wpAny (model prog w) A.in1 (dictSet d x y) Q E s) :
  ∀(k i:Nat) (s:Shared),vs.length-i=k->i<=vs.length->(∀b o,h0.get? b=some o->s.heap.get? b=some o)->St i s.heap->D i s.heap->
   (∀h' tk,(∀b o,b∉[d,I]->s.heap.get? b=some o->h'.get? b=some o)->D vs.length h'->R (.ok (.ret .none)) { s with heap:=h',toks:=tk })->codeAny (model prog w) A (.builtin "dict.update.loop" ⟨[.ref d,.ref I,rawInt i,.none],[]⟩) R s:=by
 have nI:d∉[I]:=λz=>nd (W.sub _ z)
 intro k
 induction k with
 |zero=>
  intro i s hk hi old st T q;have e:i=vs.length:=by omega
  subst e;refine cS OU ?_;rw[cG JB _];refine aU (m:=pyNext (.ref I)) (W.done s _ _ st λh' tk k'=>?_);refine aU (m:=Builtin.Dict.addKeywords d []) (aX (aX ?_));exact q h' tk (λb o n e=>k' b o (λz=>n (a9 _ z)) e) (keep _ _ _ T λo e=>k' d o nI e)
 |succ k ih=>
  intro i s hk hi old st T q;have lt:i<vs.length:=by omega
  refine cS OU ?_;rw[cG JB _];refine aU (m:=pyNext (.ref I)) (W.item i s _ _ lt st λv h' tk hv st' k'=>?_);obtain⟨t,x,y,rfl,ht,step⟩:=pr i v hv;have old':∀b o,h0.get? b=some o->h'.get? b=some o:=λb o e=>k' b o (λz=>by rw[ba.mp z,hI] at e;cases e) (old b o e)
  refine aU (cj (aU (gG (pair_items (s:={ s with heap:=h',toks:=tk }) (ht.keeps old') ?_))));refine cj (step _ _ _ old' (keep _ _ _ T λo e=>k' d o nI e) λh2 tk2 T2 sb=>?_);refine aX ⟨dD JB _,ih (i+1) _ (by omega) lt (λb o e=>?_) (W.frame _ _ _ st' λb hb o e=>?_) T2 λh3 tk3 k3 T3=>?_⟩
  ·rw[sb.2 b (λz=>by rw[z,hd0] at e;cases e)];exact old' b o e
  ·rw[sb.2 b (λz=>nd (z▸hb))];exact e
  ·refine q h3 tk3 (λb o n e=>k3 b o n ?_) T3;rw[sb.2 b (λz=>n (by simp[z]))];exact k' b o (λz=>n (a9 _ z)) e
theorem S2 {l:Addr} {vs:List Value} {D:Nat->Heap->Prop} {Q:Value->Shared->Prop} (hh:A.handled=none) (hl:∃n sl,s.heap.get? l=some { cls:=.type "list",dict:=none,data:=.seq vs.toArray n,slots:=sl })
  (keep:∀i h h',D i h->(∀o,h.get? s.heap.objs.size=some o->h'.get? s.heap.objs.size=some o)->D i h')
  (d0:∀h:Heap,h.get? s.heap.objs.size=some { cls:=.type "dict",data:=.dict #[] }->D 0 h)
  (pr:∀i v,vs[i]?=some v->∃t x y,v=.ref t/\IsTup s.heap t #[x,y]/\∀(s1:Shared) (Q:Unit->Shared->Prop) (E:Value->Shared->Prop),(∀b o,s.heap.get? b=some o->s1.heap.get? b=some o)->D i s1.heap->(∀h' tk,D (i+1) h'->Heap.SameBut s.heap.objs.size s1.heap h'->Q () { s1 with heap:=h',toks:=tk })->wpAny (model prog w) A.in1.in1 (dictSet s.heap.objs.size x y) Q E s1)
  (q:∀h' tk,(∀b o,s.heap.get? b=some o->h'.get? b=some o)->D vs.length h'->Q (.ref s.heap.objs.size) { s with heap:=h',toks:=tk }):wpAny (model prog w) A (call (.type "dict") [.ref l]) Q E s:=by
 obtain⟨n,sl,el⟩:=hl;have lt:l<s.heap.objs.size:=bG el;refine callType_codes (Q₁:=λobj s₁=>obj=.ref s.heap.objs.size/\s₁={ s with heap:=s.heap.push { cls:=.type "dict",data:=.dict #[] } }) PySem.F.kt_called_dict (PySem.F.kt_typeCall_dict_1 _) PySem.F.entry_dict_init (kt_code_dict_new _ ⟨rfl,rfl⟩) ?_
 rintro obj s₁ ⟨rfl,rfl⟩
 have hS:(s.heap.push { cls:=.type "dict",data:=.dict #[] }).get? s.heap.objs.size=some { cls:=.type "dict",data:=.dict #[] }:=bB _ rfl;have hT:Shared.TypeIs { s with heap:=s.heap.push { cls:=.type "dict",data:=.dict #[] } } (.ref s.heap.objs.size) "dict":=⟨_,hS,rfl⟩
 have el':=aV ({ cls:=.type "dict",data:=.dict #[] }:Obj) el;refine⟨hT,PySem.F.args_dict_init_2 _ _,?_⟩;unfold Builtin.«dict.__init__»;refine aU ?_;unfold Builtin.Dict.selfAndRest;refine aU (gA hT ?_);show wpAny _ _ (pure (s.heap.objs.size,[Value.ref l])) _ _ _;refine aX ?_;show wpAny _ _ (Builtin.Dict.updateFrom "dict.__init__" s.heap.objs.size (.ref l) [] .none) _ _ _;unfold Builtin.Dict.updateFrom;refine aU (gh (T:="list") ⟨_,el',rfl⟩ ?_);rw[bF (by decide)];refine aU (N4 (s:={ s with heap:=s.heap.push { cls:=.type "dict",data:=.dict #[] } }) el' (by simp[hh]) λh1 tk1 k1=>?_);rw[bF (show(none:Option Value).isNone=true from rfl)];refine aU (gi ?_);have el1:=k1 _ _ el';have l1:h1.IsList l vs.toArray:=⟨_,el1,rfl,_,rfl⟩
 refine aU (dP (s:={ s with heap:=h1,toks:=tk1 }) l1 ?_);have g1:s.heap.objs.size+1<=h1.objs.size:=bG (k1 _ _ hS);have nI:l≠h1.objs.size:=bI (bO lt (Nat.le_of_succ_le g1));have W:=iY (prog:=prog) (w:=w) (A:=A.in1.in1) (by simp[hh]) h1.objs.size l nI vs.toArray;have W2:Walks prog w A.in1.in1 h1.objs.size [h1.objs.size,l] [h1.objs.size] vs.length (λi v=>vs[i]?=some v) (λi h=>h.IsListIter h1.objs.size l i/\h.IsList l vs.toArray):=by
  simpa only [List.size_toArray,List.getElem?_toArray] using W
 have old1:∀b o,s.heap.get? b=some o->h1.get? b=some o:=λb o e=>k1 b o (aV _ e)
 refine aX ⟨dD JB _,Sw (h0:=s.heap) (D:=D) W2 ?_ (gN (by omega)) (gN (aZ _)) keep pr vs.length 0 _ (by omega) (bU _) (λb o e=>aV _ (old1 b o e)) ⟨⟨_,bB _ rfl,rfl,rfl⟩,l1.push _⟩ (d0 _ (aV _ (k1 _ _ hS))) λh' tk k' T=>⟨rfl,q h' tk (λb o e=>k' b o (λz=>?_) (aV _ (old1 b o e))) T⟩⟩
 ·simp only[List.mem_cons,List.not_mem_nil,or_false,not_or];exact⟨bI (by omega),dS lt⟩
 ·have lb:=bG e;simp only[List.mem_cons,List.not_mem_nil,or_false] at z;rcases z with rfl|rfl
  ·exact absurd lb (dk _)
  ·exact absurd lb (hV.mpr (Nat.le_of_succ_le g1))
open PySem.Spec
def YU (K:PySem.W.Frag):List V->Hp->VK->Prop:=λxs H Q=>∃(a:Addr) (ps:List Addr) (kvs:List (List Key×V)),xs=[.ref a]/\AI K H a (ps.map V.ref)/\ps.length=kvs.length/\kvs.length<=100000/\(kvs.map (·.1)).Nodup/\
 (∀(i:Nat) t k v,ps[i]?=some t->kvs[i]?=some (k,v)->∃b,H t=some (.tup [.ref b,v])/\H b=some (.tup (k.map kV)))/\∀d,H d=none->Q (.ref d) (upd H d (.dT kvs))
theorem RK:∀{ps:List Addr} {its:List Value},AR (ps.map V.ref) its->∀(i:Nat) v,its[i]?=some v->∃t,ps[i]?=some t/\v=.ref t
 |[],_,.nil,i,v,e=>by simp at e
 |t::ps,_,.cons r h,0,v,e=>⟨t,rfl,by cases r;simpa using e.symm⟩
 |t::ps,_,.cons r h,i+1,v,e=>by
  obtain⟨t',a,b⟩:=RK h i v (by simpa using e);exact⟨t',by simpa using a,b⟩
theorem MP {α β:Type}{F:α->β->Prop}:∀{l:List α} {m:List β},Paired F l m->∀{y:β},y∈m->∃x,x∈l/\F x y
 |_,_,.nil,_,h=>nomatch h
 |_,_,.cons r t,y,h=>by
  rcases bE.mp h with rfl|h
  ·exact⟨_,bc,r⟩
  ·obtain⟨x,a,b⟩:=MP t h;exact⟨x,a9 _ a,b⟩
theorem PK {X:Cx}{pins:List (Addr×Obj)}{σ:St}{H:Hp}{s:Shared}(I:Inv X pins σ H s):∀(ps:List Addr) (kvs:List (List Key×V)),ps.length=kvs.length->(∀(i:Nat) t k v,ps[i]?=some t->kvs[i]?=some (k,v)->∃b,H t=some (.tup [.ref b,v])/\H b=some (.tup (k.map kV)))->
  ∃xs:List (List Key×Addr×Value),Paired (λ(p:List Key×V) (q:List Key×Addr×Value)=>p.1=q.1/\H q.2.1=some (.tup (p.1.map kV))/\RelV p.2 q.2.2) kvs xs/\∀(i:Nat) t,ps[i]?=some t->∃q,xs[i]?=some q/\IsTup s.heap t #[.ref q.2.1,q.2.2]
 |[],[],_,_=>⟨[],.nil,λi t h=>by simp at h⟩
 |[],_::_,h,_=>by cases h
 |_::_,[],h,_=>by cases h
 |t::ps,(k,v)::kvs,ln,hp=>by
  obtain⟨xs,r,a⟩:=PK I ps kvs (by simpa using ln) λi t k v e1 e2=>hp (i+1) t k v (by simpa using e1) (by simpa using e2)
  obtain⟨b,h1,h2⟩:=hp 0 t k v rfl rfl;obtain⟨_,its,rv,it⟩:=(show Bs X.prog X.w H s.heap t (.tup [.ref b,v]) from I.hok t _ h1)
  cases rv with
  |cons ra rb=>
   cases ra;cases rb with
   |@cons _ wv _ _ rb rc=>
    cases rc;refine⟨(k,b,wv)::xs,.cons ⟨rfl,h2,rb⟩ r,λi t' e=>?_⟩;cases i with
    |zero=>simp only[List.getElem?_cons_zero,Option.some.injEq] at e;subst e;exact⟨_,rfl,it.is⟩
    |succ i=>exact a i t' (by simpa using e)
theorem QH {X:Cx}{K:PySem.W.Frag}(hK:X.K=K)(hu:X.A.units+150<cLine)(hc:X.calm=true):CL X (.type "dict") (YU K):=by
 subst hK;intro pins s σ H xs us Q I r h;obtain⟨a,ps,kvs,rfl,h1,ln,hz,nd,hp,q⟩:=h;obtain⟨u,rfl,ru⟩:=vals1 r;cases ru;obtain⟨its,r1,⟨o1,n1,e1,c1,d1,s1⟩,_⟩:=I.list h1;obtain⟨xs,rx,tx⟩:=PK I ps kvs ln hp;have lx:xs.length=kvs.length:=(eV rx).symm;have kx:xs.map (·.1)=kvs.map (·.1):=by
  clear tx hp nd hz ln lx q
  induction rx with
  |nil=>rfl
  |cons hq _ ih=>rw[bg,bg,ih,hq.1]
 have ndx:(xs.map (·.1)).Nodup:=by rw[kx];exact nd
 have li:its.length=ps.length:=by have:=r1.length;rw[aS] at this;exact this.symm
 have ix:∀(i:Nat) v,its[i]?=some v->∃t,ps[i]?=some t/\v=.ref t:=RK r1;obtain⟨c,dd,da,sl⟩:=o1;simp only at c1 d1 s1;subst c1 d1 s1;refine S2 (A:=X.A) (I.ok.hd hc) ⟨n1,_,e1⟩ (D:=λi h=>∃o es ep,h.get? s.heap.objs.size=some o/\o.ExactDict/\o.data=.dict es ep/\es.toList=(xs.take i).map (entryOfKey (tupleKind (AO X.prog X.w)))) (λi h h' ⟨o,es,ep,z1,z2⟩ k=>⟨o,es,ep,k o z1,z2⟩) (λh e=>⟨_,#[],0,e,⟨rfl,rfl,rfl⟩,rfl,rfl⟩) (λi v e=>?_) λh' tk k' ⟨o,es,ep,z1,z2,z3,z4⟩=>?_
 ·obtain⟨t,et,rfl⟩:=ix i v e;obtain⟨⟨k,b,wv⟩,eq,ht⟩:=tx i t et;refine⟨t,.ref b,wv,rfl,ht,λs2 Q2 E2 old ⟨o,es,ep,z1,z2,z3,z4⟩ hQ=>?_⟩;have ky:∀x∈xs,(tupleKind (AO X.prog X.w)).is s2.heap x.1 x.2.1:=λx hx=>by
   obtain⟨p,hp,e1,e2,_⟩:=MP rx hx;rw[e1] at e2;obtain⟨o,its,n,y1,y2⟩:=GJ I.hok e2;exact⟨o,its,n,old _ _ y1,y2⟩
  have hm:s2.heap.DictOfH (tupleKind (AO X.prog X.w)) s.heap.objs.size (xs.take i):=⟨o,es,ep,z1,z2,z3,z4,λx hx=>ky x (gf hx),by rw[ik];exact ndx.sublist (List.take_sublist _ _)⟩
  have no:atKey (xs.take i) k=none:=by
   unfold atKey;rw[cW,dg];intro x hx z;have e:=bP z;obtain⟨j,hj⟩:=cz hx;rw[dW] at hj
   split at hj
   ·next lt=>
    have:=idxH_unique (k:=k) (p:=x.2) ndx (by rw[hj,<-e]) eq;omega
   ·cases hj
  have ts:xs.take (i+1)=xs.take i++[(k,b,wv)]:=by rw[bN,eq];rfl
  refine wpAny_dictSet_heap (hsz:=?_) (k:=k) ?_ (ky _ (a8 eq)) hm λh' hm' sb=>hQ _ _ ?_ sb
  ·show X.A.in1.in1.units<cLine;simp only[units_in1];omega
  ·rw[storedH_new no,<-ts] at hm';obtain⟨o,es,ep,y1,y2,y3,y4,_⟩:=hm';exact⟨o,es,ep,y1,y2,y3,y4⟩
  ·rw[b6,cU];omega
 ·have hb:=I.big;rw[li,ln,<-lx,dv] at z4;have nn:∀c ys,H c=some (.tup ys)->(upd H s.heap.objs.size (.dT kvs)) c=some (.tup ys):=λc ys e=>by rw[Ag (λz=>by rw[z,I.fresh] at e;cases e)];exact e
  refine⟨.ref s.heap.objs.size,_,I.laid (o:=.dT kvs) k' (aZ _) ⟨by rw[cU];omega,?_,xs,Paired.mapP rx λp q z=>⟨z.1,nn _ _ z.2.1,z.2.2⟩,o,es,ep,z1,z2,z3,z4,ndx⟩,rfl,q _ I.fresh⟩;rw[cZ];exact dS hb
theorem erase_filter {κ α:Type}[DecidableEq κ]:∀(xs:List (κ×α)) (j:Nat) (k:κ) (p:α),(xs.map (·.1)).Nodup->xs[j]?=some (k,p)->xs.eraseIdx j=xs.filter λx=>decide (x.1≠k)
 |[],j,k,p,_,h=>by simp at h
 |x::xs,0,k,p,nd,h=>by
  rw[bg,bZ] at nd;have e:x=(k,p):=by simpa using h
  subst e;rw[List.eraseIdx_cons_zero,bS (by simp)];have e:xs.filter (λx=>decide (x.1≠k))=xs:=dc.mpr λy hy=>by
   have n:y.1≠k:=λz=>nd.1 (aT.mpr ⟨y,hy,z⟩)
   simpa using n
  exact e.symm
 |x::xs,j+1,k,p,nd,h=>by
  rw[bg,bZ] at nd;have h':xs[j]?=some (k,p):=by simpa using h
  have n:x.1≠k:=λz=>nd.1 (by rw[z];exact aT.mpr ⟨_,a8 h',rfl⟩)
  rw[iC,bR (by simpa using n),erase_filter xs j k p nd.2 h']
theorem Nq {α β:Type}(f:α->β):∀(xs:List α) (j:Nat),(xs.map f).eraseIdx j=(xs.eraseIdx j).map f
 |[],_=>rfl
 |_::_,0=>rfl
 |x::xs,j+1=>congrArg (f x :: ·) (Nq f xs j)
theorem Vf {κ:Type} [DecidableEq κ] {knd:HeapKind prog w κ} {d a:Addr} {xs:List (κ×Addr×Value)} {k:κ} {p:Addr×Value} {Q:Option DictEntry->Shared->Prop} (hu:knd.room A) (hkey:knd.is s.heap k a) (hm:s.heap.DictOfH knd d xs) (hp:atKey xs k=some p) (hz:xs.length<=sizeLine)
  (hQ:∀h' e,e.val=p.2->h'.DictOfH knd d (xs.filter λx=>decide (x.1≠k))->Heap.SameBut d s.heap h'->Q (some e) { s with heap:=h',toks:=s.toks+knd.draws k }):wpAny (model prog w) A (Builtin.Dict.takeOut d (.ref a)) Q E s:=by
 obtain⟨o,es,ep,ho,hc,hd,he,his,hn⟩:=hm;have hes:es.size<=sizeLine:=by have e:=size_of_entries he;omega
 unfold Builtin.Dict.takeOut
 try with_reducible refine cj ?_
 refine aU (knd.pyHash hu hkey (aU (wpAny_dictFind_heap (s:={ s with toks:=s.toks+knd.draws k }) hu hkey ho hd he his hn (λno=>?_) λj q hj=>?_)))
 ·rw[atKey_none_of_get no] at hp;cases hp
 rw[atKey_of_get hn hj] at hp;cases hp;refine aU (wpAny_dictEntries (s:={ s with toks:=s.toks+knd.draws k }) ho hd ?_);rw[entry_at he j,hj];refine aU (wpAny_updateDictKeys (hz:=hes) (s:={ s with toks:=s.toks+knd.draws k }) ho hd (aX (hQ _ _ rfl ⟨_,_,ep+1,cP _ ho (gS (eQ hd _)),hc.mapDictKeys _,eQ hd _,?_,λx hx=>?_,?_⟩ (dX ..))))
 ·rw[<-erase_filter xs j k _ hn hj];simp only[Array.toList_eraseIdxIfInBounds,he];exact Nq _ xs j
 ·exact knd.keeps (his x (bM.mp hx).1) ho hd (dX ..)
 ·exact hn.sublist (fh _ c9)
theorem R7 {H:Hp}:∀{kvs:List (List Key×V)} {xs:List (List Key×Addr×Value)},KT H kvs xs->∀k,KT H (BI kvs k) (xs.filter λx=>decide (x.1≠k))
 |_,_,.nil,_=>.nil
 |p::kvs,q::xs,.cons r t,k=>by
  have ih:=R7 t k;unfold BI at ih ⊢
  by_cases h:p.1=k
  ·rw[bS (by simpa using h),bS (by rw[<-r.1];simpa using h)];exact ih
  ·rw[bR (by simpa using h),bR (by rw[<-r.1];simpa using h)];exact .cons r ih
theorem YW {X:Cx} {pins:List (Addr×Obj)} {σ:St} {H:Hp} {s:Shared} {d b:Addr} {kvs:List (List Key×V)} {k:List Key} {v:V} {Q:Value->Shared->Prop} (hu:A.units+1<cLine) (I:Inv X pins σ H s) (e:H d=some (.dT kvs)) (eb:H b=some (.tup (k.map kV))) (l:A4 kvs k=some v)
  (h:∀w' s',Inv X pins σ (upd H d (.dT (BI kvs k))) s'->RelV v w'->Q w' s'):wpAny (model X.prog X.w) A (call (.builtin "dict.pop") [.ref d,.ref b]) Q E s:=by
 obtain⟨z,hd,xs,rel,dd⟩:=XF I.hok e;obtain⟨w',hw,rw'⟩:=Ez.some_of (v:=v) (o:=(atKey xs k).map (·.2)) (by rw[<-l];exact rel.val k);obtain⟨p,hp,hp2⟩:=cy.mp hw;have hz:xs.length<=sizeLine:=by rw[<-eV rel];exact z
 refine cT dy dd.typeIs fP ?_ (iz _ _);unfold Builtin.«dict.pop»;refine aU ?_;unfold Builtin.Dict.keyAndDefault;refine aU (gA dd.typeIs ?_);show wpAny _ _ (pure (d,Value.ref b,none)) _ _ s;refine aX ?_;dsimp only;obtain⟨o,es,ep,ho,hc,hdd,he,his,hn⟩:=id dd;have hne:es.isEmpty=false:=by
  have:=size_of_entries he;rw[Array.isEmpty_eq_false_iff];intro z;subst z;have:xs=[]:=dm (by simpa using this.symm);subst this;cases hp
 rw[bH (by show ¬(keyPart (Value.ref b)).isSome=true;exact bC)];refine aU (wpAny_dictEntries ho hdd ?_);rw[hne];refine aU (aX ?_);rw[bH bC];refine aU (Vf (eh hu) (GJ I.hok eb) dd hp hz λh' en ev dd' sb=>?_);simp only[Option.isNone_some,Bool.false_eq_true,if_false];refine aU (gI (aX ⟨en.val,rfl,h en.val _ ?_ (by rw[ev,hp2];exact rw')⟩));obtain⟨q,es',ep',hq,h2,h3,h4,_,h5⟩:=dd';refine F0 I (by rw[e];exact True.intro) sb ⟨q,hq⟩ ⟨bQ (LH kvs k) z,hd,_,(R7 rel k).keeps λc ys ec=>?_,q,es',ep',hq,h2,h3,h4,h5⟩;rw[Ag (AL ec e (λz=>nomatch z))];exact ec
def Ym (td ty:TE):TE:=λσ H Q=>td σ H λx H1=>∃a,x=.ref a/\YE H1 a/\ty σ H1 λy H2=>∃kvs k v b,H2 a=some (.dT kvs)/\y=.ref b/\H2 b=some (.tup (k.map kV))/\A4 kvs k=some v/\Q v (upd H2 a (.dT (BI kvs k)))
theorem UC {X:Cx}{o e:Expr}{apos cpos:Pos}{td ty:TE}(hu:X.A.units+1<cLine)(ho:PE X o td)(he:PE X e ty)(m:M1 X o "pop" apos e cpos):PE X (.Call (.Attribute o "pop" apos) [e] [] cpos) (Ym td ty):=by
 intro pins s σ H Q I h;refine dQ m.base m.few m.line cQ dy gb (Bn (ho pins s σ H _ I h) λu s1 z9=>?_);obtain⟨x,H1,I1,rx,a,ex,d,q1⟩:=z9;subst ex;obtain rfl:u=Value.ref a:=rx;obtain⟨t1,t2,_⟩:=IG I1 d;refine⟨t1,t2,?_⟩;rw[m.trees];refine cC rfl (dr (cF (Bn (he pins s1 σ H1 _ I1 q1) λiv s2 ⟨y,H2,I2,ry,kvs,k,v,b,ea,ey,eb,l,q2⟩=>dR ?_)));subst ey;cases(show iv=Value.ref b from ry);exact YW hu I2 ea eb l λw' s3 I3 rw'=>⟨v,_,I3,rw',q2⟩
end
end L2
namespace L2
section
open PySem PySem.W PyProof.Rows
variable {n:Nat}{lt:Nat->Nat->Bool}{cmp:Nat->Nat->(Bool->Shared->Prop)->Shared->Prop}{s:Shared}
structure Ordr (n:Nat) (lt:Nat->Nat->Bool) (cmp:Nat->Nat->(Bool->Shared->Prop)->Shared->Prop) (s:Shared):Prop where
 ask:∀(i j:Nat) (C:Bool->Shared->Prop),i<n->j<n->i≠j->C (lt i j) s->cmp i j C s
 tr:∀i j k,i<n->j<n->k<n->lt i j=true->lt j k=true->lt i k=true
 tot:∀i j,i<n->j<n->i≠j->lt i j=false->lt j i=true
def MR (n:Nat)(p:Array Nat):Prop:=p.size=n/\p.toList.Perm (List.range n)
theorem MR.lo {p:Array Nat}(h:MR n p){i:Nat}(hi:i<n):p.getD i 0<n:=by
 have hs:i<p.size:=by rw[h.1];exact hi
 have e:p.getD i 0=p[i]:=by simp[Array.getD,hs]
 rw[e];exact cX.mp (h.2.mem_iff.mp (by simp))
theorem MR.ne {p:Array Nat}(h:MR n p){i j:Nat}(hi:i<n)(hj:j<n)(hij:i≠j):p.getD i 0≠p.getD j 0:=by
 have hs:i<p.size:=by rw[h.1];exact hi
 have ht:j<p.size:=by rw[h.1];exact hj
 have nd:p.toList.Nodup:=h.2.nodup_iff.mpr List.nodup_range;have e1:p.getD i 0=p.toList[i]'(by simpa using hs):=by simp[Array.getD,hs]
 have e2:p.getD j 0=p.toList[j]'(by simpa using ht):=by simp[Array.getD,ht]
 rw[e1,e2];intro z;have pw:=eJ.mp nd;rcases Nat.lt_or_gt_of_ne hij with g|g
 ·exact pw i j (by simpa using hs) (by simpa using ht) g z
 ·exact pw j i (by simpa using ht) (by simpa using hs) g z.symm
def JG (lt:Nat->Nat->Bool)(p:Array Nat)(k:Nat):Prop:=∀i j,i<j->j<k->lt (p.getD i 0) (p.getD j 0)=true
def YY (lt:Nat->Nat->Bool)(p:Array Nat)(k:Nat):Prop:=∀i j,i<j->j<k->lt (p.getD j 0) (p.getD i 0)=true
theorem Qv (O:Ordr n lt cmp s){p:Array Nat}(hp:MR n p){G:Nat->Shared->Prop}:∀(f m:Nat),1<=m->m+f<=n->JG lt p m->
  (∀m',m<=m'->m'<=m+f->JG lt p m'->(m'=m+f\/lt (p.getD m' 0) (p.getD (m'-1) 0)=true)->G m' s)->(kas_asc p f m).kasWp cmp G s
 |0,m,_,_,up,h=>h m (aZ _) (aZ _) up (.inl rfl)
 |f+1,m,h1,h2,up,h=>by
  refine O.ask _ _ _ (hp.lo (by omega)) (hp.lo (by omega)) (hp.ne (by omega) (by omega) (by omega)) ?_;cases hl:lt (p.getD m 0) (p.getD (m-1) 0) with
  |true=>exact h m (aZ _) (by omega) up (.inr hl)
  |false=>
   have hl':=O.tot _ _ (hp.lo (by omega)) (hp.lo (by omega)) (hp.ne (by omega) (by omega) (by omega)) hl;show(kas_asc p f (m+1)).kasWp cmp G s;refine Qv O hp f (m+1) (by omega) (by omega) (λi j hij hj=>?_) λm' a b c d=>h m' (by omega) (by omega) c (d.imp (by omega) id)
   by_cases e:j=m
   ·subst e
    by_cases e2:i=j-1
    ·rw[e2];exact hl'
    ·exact O.tr _ _ _ (hp.lo (by omega)) (hp.lo (by omega)) (hp.lo (by omega)) (up i (j-1) (by omega) (by omega)) hl'
   ·exact up i j hij (by omega)
theorem R5 (O:Ordr n lt cmp s){p:Array Nat}(hp:MR n p){G:Array Nat×Nat×Nat->Shared->Prop}:∀(f m:Nat),1<=m->m+f<=n->YY lt p m->
  (∀m',m<=m'->m'<=m+f->YY lt p m'->G (p,m',0) s)->(kas_desc f p m 0).kasWp cmp G s
 |0,m,_,_,dn,h=>h m (aZ _) (aZ _) dn
 |f+1,m,h1,h2,dn,h=>by
  refine O.ask _ _ _ (hp.lo (by omega)) (hp.lo (by omega)) (hp.ne (by omega) (by omega) (by omega)) ?_;cases hl:lt (p.getD m 0) (p.getD (m-1) 0) with
  |true=>
   show(kas_desc f p (m+1) 0).kasWp cmp G s;refine R5 O hp f (m+1) (by omega) (by omega) (λi j hij hj=>?_) λm' a b c=>h m' (by omega) (by omega) c
   by_cases e:j=m
   ·subst e
    by_cases e2:i=j-1
    ·rw[e2];exact hl
    ·exact O.tr _ _ _ (hp.lo (by omega)) (hp.lo (by omega)) (hp.lo (by omega)) hl (dn i (j-1) (by omega) (by omega))
   ·exact dn i j hij (by omega)
  |false=>
   have hl':=O.tot _ _ (hp.lo (by omega)) (hp.lo (by omega)) (hp.ne (by omega) (by omega) (by omega)) hl;refine O.ask _ _ _ (hp.lo (by omega)) (hp.lo (by omega)) (hp.ne (by omega) (by omega) (by omega)) ?_;rw[hl'];exact h m (aZ _) (by omega) dn
theorem D7 (p:Array Nat)(i:Nat):p.getD i 0=(p[i]?).getD 0:=by
 by_cases h:i<p.size
 ·simp[Array.getD,h]
 ·simp[Array.getD,h]
theorem Uy {p:Array Nat}{m:Nat}(hm:m<=p.size)(k:Nat):(kas_rev p 0 m).getD k 0=if k<m then p.getD (m-1-k) 0 else p.getD k 0:=by
 rw[D7];unfold kas_rev;rw[getElem?_mirror_all hm]
 by_cases h:k<m
 ·rw[bF ⟨bU _,h⟩,bF h,D7,fw]
 ·rw[bH (λz=>h z.2),bH h,D7]
theorem W8 {p:Array Nat}(hp:MR n p)(m:Nat):MR n (kas_rev p 0 m):=⟨(mirror_size ..).trans hp.1,(hZ.mp (mirror_perm ..)).trans hp.2⟩
theorem Vi (O:Ordr n lt cmp s) {p:Array Nat} (hp:MR n p) {m:Nat} (h1:1<=m) (hm:m<=n) (dn:YY lt p m) {G:Nat×Array Nat->Shared->Prop}
  (h:∀m' p',MR n p'->JG lt p' m'->1<=m'->m'<=n->G (m',p') s):(kas_tail3 m n p).kasWp cmp G s:=by
 unfold kas_tail3;rw[fM];have hr:=W8 hp m;refine Qv O hr (n-m) m h1 (by omega) (λi j hij hj=>?_) λm' a b c _=>h m' _ hr c (by omega) (by omega)
 rw[Uy (by rw[hp.1];exact hm),Uy (by rw[hp.1];exact hm),bF (by omega),bF hj];exact dn _ _ (by omega) (by omega)
theorem Vn (O:Ordr n lt cmp s) (hn:1<=n) {p:Array Nat} (hp:MR n p) {G:Nat×Array Nat->Shared->Prop}
  (h:∀m' p',MR n p'->JG lt p' m'->1<=m'->m'<=n->G (m',p') s):(kas_count n p).kasWp cmp G s:=by
 unfold kas_count;rw[fM];refine Qv O hp (n-1) 1 (aZ _) (by omega) (λi j hij hj=>by omega) λm a b up d=>?_
 by_cases e:m=n
 ·subst e;rw[bF (by simp)];exact h _ _ hp up a (aZ _)
 ·rw[bH (by simpa using e)]
  by_cases g:m>1
  ·rw[bF g];refine O.ask _ _ _ (hp.lo (by omega)) (hp.lo (by omega)) (hp.ne (by omega) (by omega) (by omega)) ?_;rw[up 0 (m-1) (by omega) (by omega)];exact h _ _ hp up a (by omega)
  ·rw[bH g];have e1:m=1:=by omega
   subst e1;have hl:=d.resolve_left (by omega);unfold kas_descPart;rw[fM];refine R5 O hp (n-(1+1)) (1+1) (by omega) (by omega) (λi j hij hj=>?_) λm' a' b' dn=>?_
   ·obtain⟨rfl,rfl⟩:i=0/\j=1:=by omega
    exact hl
   ·rw[bH (by simp)];exact Vi O hp (by omega) (by omega) dn h
theorem Mw (O:Ordr n lt cmp s) {p:Array Nat} (hp:MR n p) {k:Nat} (hk:k<n) (up:JG lt p k) {G:Nat->Shared->Prop}
  (h:∀l,l<=k->(∀i,i<l->lt (p.getD i 0) (p.getD k 0)=true)->(∀i,l<=i->i<k->lt (p.getD k 0) (p.getD i 0)=true)->G l s) :
  ∀(f l r:Nat),l<=r->r<=k->r-l<=f->(∀i,i<l->lt (p.getD i 0) (p.getD k 0)=true)->(∀i,r<=i->i<k->lt (p.getD k 0) (p.getD i 0)=true)->(kas_place p k f l r).kasWp cmp G s
 |0,l,r,h1,h2,h3,a,b=>h l (by omega) a λi hi=>b i (by omega)
 |f+1,l,r,h1,h2,h3,a,b=>by
  unfold kas_place
  by_cases g:l≥r
  ·rw[bF g];exact h l (by omega) a λi hi=>b i (by omega)
  ·rw[bH g];refine O.ask _ _ _ (hp.lo hk) (hp.lo (by omega)) (hp.ne hk (by omega) (by omega)) ?_;cases hl:lt (p.getD k 0) (p.getD ((l+r)/2) 0) with
   |true=>
    show(kas_place p k f l ((l+r)/2)).kasWp cmp G s;refine Mw O hp hk up h f l ((l+r)/2) (by omega) (by omega) (by omega) a λi hi hik=>?_
    by_cases e:i=(l+r)/2
    ·rw[e];exact hl
    ·exact O.tr _ _ _ (hp.lo hk) (hp.lo (by omega)) (hp.lo (by omega)) hl (up _ _ (by omega) hik)
   |false=>
    have hl':=O.tot _ _ (hp.lo hk) (hp.lo (by omega)) (hp.ne hk (by omega) (by omega)) hl;show(kas_place p k f ((l+r)/2+1) r).kasWp cmp G s;refine Mw O hp hk up h f ((l+r)/2+1) r (by omega) (by omega) (by omega) (λi hi=>?_) b
    by_cases e:i=(l+r)/2
    ·rw[e];exact hl'
    ·exact O.tr _ _ _ (hp.lo (by omega)) (hp.lo (by omega)) (hp.lo hk) (up _ _ (by omega) (by omega)) hl'
theorem Ui {p:Array Nat}{k l:Nat}(hk:k<p.size)(hl:l<=k)(i:Nat):(bubble p k (k-l)).getD i 0=if i=l then p.getD k 0 else if l<i/\i<=k then p.getD (i-1) 0 else p.getD i 0:=by
 rw[D7,getElem?_bubble hk _ (by omega),show k-(k-l)=l by omega]
 by_cases h:i=l
 ·rw[bF h,bF h,D7]
 ·rw[bH h,bH h]
  by_cases g:l<i/\i<=k
  ·rw[bF g,bF g,D7]
  ·rw[bH g,bH g,D7]
theorem Uk (O:Ordr n lt cmp s){G:Array Nat->Shared->Prop}(h:∀p,MR n p->JG lt p n->G p s):∀(f:Nat) (p:Array Nat) (k:Nat),k+f=n->MR n p->JG lt p k->(kas_bin f p k).kasWp cmp G s
 |0,p,k,e,hp,up=>h p hp (by rw[<-e];exact up)
 |f+1,p,k,e,hp,up=>by
  unfold kas_bin;rw[fM];refine Mw O hp (by omega) up (λl hl a b=>?_) k 0 k (bU _) (aZ _) (by omega) (λi hi=>by omega) (λi h1 h2=>by omega);have hs:k<p.size:=by rw[hp.1];omega
  refine Uk O h f _ (k+1) (by omega) ⟨(bubble_size ..).trans hp.1,(hZ.mp (bubble_perm ..)).trans hp.2⟩ λi j hij hj=>?_
  rw[Ui hs hl,Ui hs hl]
  by_cases i1:i=l
  ·rw[bF i1,bH (by omega),bF (by omega)];exact b _ (by omega) (by omega)
  ·rw[bH i1]
   by_cases j1:j=l
   ·rw[bH (by omega),bF j1];exact a _ (by omega)
   ·rw[bH j1]
    by_cases i2:l<i/\i<=k
    ·rw[bF i2,bF (by omega)];exact up _ _ (by omega) (by omega)
    ·rw[bH i2]
     by_cases j2:l<j/\j<=k
     ·rw[bF j2];exact up _ _ (by omega) (by omega)
     ·rw[bH j2];exact up _ _ (by omega) (by omega)
theorem WV (O:Ordr n lt cmp s)(hn:1<=n){G:Array Nat->Shared->Prop}(h:∀p,MR n p->JG lt p n->G p s):(kas_sort n).kasWp cmp G s:=by
 unfold kas_sort;rw[fM];refine Vn O hn ⟨by simp,by simp⟩ λm p hp up h1 h2=>?_
 by_cases e:m<n
 ·rw[bF e];exact Uk O h _ _ _ (by omega) hp (by rw[show max m 1=m by omega];exact up)
 ·rw[bH e];obtain rfl:m=n:=by omega
  exact h p hp up
end
end L2
namespace L2
section
open PySem PySem.W PySem.Calls PyProof.Rows
variable {prog:Program}{w:World}{A:Around}{E:Value->Shared->Prop}{s:Shared}
def Jq (vs:List Value)(p:Array Nat):List Value:=p.toList.map λi=>vs.getD i Value.none
theorem PL (vs:List Value):Jq vs (List.range vs.length).toArray=vs:=by
 unfold Jq;refine dI λi=>?_
 rw[bz]
 by_cases h:i<vs.length
 ·simp[h]
 ·simp[h]
theorem V4 {a:Addr} {vs:List Value} {n:Nat} {lt:Nat->Nat->Bool} {P:PySem.Fin->Shared->Prop} (ho:s.heap.get? a=some (seqObj "list" vs.toArray n)) (few:vs.length<64)
  (hk:∀h',(∀b o,b≠a->s.heap.get? b=some o->h'.get? b=some o)->2<=vs.length->wpAny (model prog w) A (keyKind' vs.toArray) (λκ s'=>s'={ s with heap:=h' }/\Ordr vs.length lt (kas_ask prog w A κ vs) s') (λ_ _=>False) { s with heap:=h' })
  (h:∀p,MR vs.length p->JG lt p vs.length->P (.done (.ret .none)) { s with heap:=sortedHeap s.heap a vs (Jq vs p).toArray }) :
  wpAny (model prog w) A (Builtin.«list.sort» ⟨[.ref a],[]⟩) P E s:=by
 rw[list_sort_plain];have ha:a<s.heap.objs.size:=bG ho;refine aU (listItems_at ho rfl (aU (gF ho rfl ?_)));obtain⟨e1,h1⟩:∃e,(s.heap.update a (Obj.mapSeq λ_=>#[])).get? a=some (seqObj "list" #[] e):=⟨_,get?_update_seq ho (λ_=>#[])⟩
 refine aU (ia h1 rfl (aU (iV (aU (fZ (cj ?_))))));have n1:a≠(s.heap.update a (Obj.mapSeq λ_=>#[])).objs.size:=by rw[fA];exact bI ha
 have n2:a≠((s.heap.update a (Obj.mapSeq λ_=>#[])).push (seqObj "tuple" vs.toArray 0)).objs.size:=by rw[cf,fA];exact bI (cJ ha)
 have h2:(((s.heap.update a (Obj.mapSeq λ_=>#[])).push (seqObj "tuple" vs.toArray 0)).push (seqObj "list" #[] 0)).get? a=some (seqObj "list" #[] e1):=by
  rw[fY _ _ _ n2,fY _ _ _ n1];exact h1
 have old:∀b o,b≠a->s.heap.get? b=some o->(((s.heap.update a (Obj.mapSeq λ_=>#[])).push (seqObj "tuple" vs.toArray 0)).push (seqObj "list" #[] 0)).get? b=some o:=λb o nb e=>
  aV _ (aV _ ((cB _ _ (Ne.symm nb)).trans e))
 show wpAny (model prog w) A _ P E { s with heap:=((s.heap.update a (Obj.mapSeq λ_=>#[])).push (seqObj "tuple" vs.toArray 0)).push (seqObj "list" #[] 0) };dsimp only;have ez:vs.toArray.size=vs.length:=by simp
 by_cases hs2:vs.toArray.size<2
 ·rw[bF hs2,bF hs2];refine aU (aX ?_);rw[StateT.run_pure];refine aU (aX ?_);dsimp only;refine aU (ia h2 rfl (aU (gF h2 rfl ?_ (hsz2:=?_))))
  ·simp only[bne_self_eq_false,Bool.false_eq_true,if_false];have hq:=h (List.range vs.length).toArray ⟨by simp,by simp⟩ (λi j hij hj=>by omega);rw[PL] at hq;have e:(vs.toArray.zip vs.toArray).map (·.2)=vs.toArray:=by
    apply gU.mp;simp;exact List.map_snd_zip (aZ _)
   refine aX ?_;show P _ { s with heap:=sortedHeap s.heap a vs ((vs.toArray.zip vs.toArray).map (·.2)) };rw[e];exact hq
  ·show((vs.toArray.zip vs.toArray).map (·.2)).size<=_;rw[Array.size_map];simp;rw[cU];omega
 ·rw[bH hs2,bH hs2];refine aU (b4 (hk _ old (by omega)) (λκ s' hs'=>?_) λ_ _ z=>z.elim);obtain⟨rfl,O⟩:=hs';refine aU (b4 (kat_run (ks:=vs) (E:=E) (Q:=λst' s'=>s'={ s with heap:=((s.heap.update a (Obj.mapSeq λ_=>#[])).push (seqObj "tuple" vs.toArray 0)).push (seqObj "list" #[] 0) }/\∃p,MR vs.length p/\JG lt p vs.length/\(arrOf st').map (·.2)=(Jq vs p).toArray/\failedOf st'=none)
   (G:=λp s'=>s'={ s with heap:=((s.heap.update a (Obj.mapSeq λ_=>#[])).push (seqObj "tuple" vs.toArray 0)).push (seqObj "list" #[] 0) }/\MR vs.length p/\JG lt p vs.length) rfl (by omega) few
   (λp st' s' _ ea ef hg=>⟨hg.1,p,hg.2.1,hg.2.2,kat_snds rfl ea,ef⟩) (WV O (by omega) λp hp up=>⟨rfl,hp,up⟩)) (λr s' hr=>?_) λ_ _ z=>z)
  obtain⟨⟨⟩,st'⟩:=r;obtain⟨rfl,p,hp,up,ea,ef⟩:=hr;dsimp only;refine aU (ia h2 rfl (aU (gF h2 rfl ?_ (hsz2:=?_))))
  ·rw[ef];simp only[bne_self_eq_false,Bool.false_eq_true,if_false];rw[ea];exact aX (h p hp up)
  ·rw[ea];unfold Jq;simp only[List.size_toArray,List.length_map,Array.length_toList,hp.1];rw[cU];omega
end
end L2
namespace L2
section
open PySem PySem.W PySem.Calls PyProof.Rows
variable {prog:Program}{w:World}{A:Around}{E:Value->Shared->Prop}{s:Shared}
def Xb (prog:Program)(w:World)(Q:Value->Shared->Prop)(vs:List Value)(s1:Shared):Prop:=∃lt,vs.length<64/\
 (∀(A':Around) h',(∀b o,s1.heap.get? b=some o->h'.get? b=some o)->2<=vs.length->wpAny (model prog w) A' (keyKind' vs.toArray) (λκ s'=>s'={ s1 with heap:=h' }/\Ordr vs.length lt (kas_ask prog w A' κ vs) s') (λ_ _=>False) { s1 with heap:=h' })/\
 ∀h' p idx c,MR vs.length idx->JG lt idx vs.length->s1.heap.objs.size<=p->(∀b o,s1.heap.get? b=some o->h'.get? b=some o)->h'.get? p=some (seqObj "list" (Jq vs idx).toArray c)->Q (.ref p) { s1 with heap:=h' }
theorem S5 {x:Value}{Q:Value->Shared->Prop}(hc:wpAny (model prog w) A.in1 (collect x) (Xb prog w Q) E s):wpAny (model prog w) A (call (.builtin "sorted") [x]) Q E s:=by
 refine fS kind_sorted plain_sorted entry_sorted (args_sorted1 x) ?_;unfold Builtin.«sorted»;refine aU (m:=checkCount "sorted" 1 1 _) (aX (aU (b4 hc (λvs s1 z=>?_) λ_ _ e=>e)));obtain⟨lt,few,hk,q⟩:=z;refine aU (fZ ?_);have there:(s1.heap.push (seqObj "list" vs.toArray 0)).get? s1.heap.objs.size=some (seqObj "list" vs.toArray 0):=bB _ rfl;refine aU (cj (cT slot_list_sort ⟨_,there,rfl⟩ entry_list_sort (V4 (lt:=lt) there few (λh' old h2=>?_) λidx hp up=>⟨_,rfl,?_⟩) (args_list_sort _)))
 ·have k':∀b o,s1.heap.get? b=some o->h'.get? b=some o:=λb o e=>old b o (bI (bG e)) (aV _ e)
  exact hk _ h' k' h2
 ·obtain⟨c,hp'⟩:=sortedHeap_at (out:=(Jq vs idx).toArray) there;refine aX ⟨_,rfl,q _ _ idx c hp up (aZ _) (λb o e=>?_) hp'⟩;have lt:=bG e;show Heap.get? _ b=some o;rw[sortedHeap_old (bI lt) (by rw[cf];exact cJ lt)];exact aV _ e
end
end L2
namespace L2
end L2
namespace L2
end L2
namespace L2
end L2
namespace L2
end L2
namespace L2
end L2
namespace L2
end L2
namespace L2
end L2
namespace L2
open PySem PySem.Spec PyProof.Rows
end L2
namespace L2
end L2
namespace L2
end L2
namespace L2
end L2
namespace L2
end L2
namespace L2
end L2
namespace L2
section
open PySem PySem.Spec PyProof.Rows
variable {X:Cx}{pins:List (Addr×Obj)}{σ:St}{H:Hp}{s:Shared}
theorem NW {α:Type}:∀{ts:List (Addr×α)} {its:List Value},AR (ts.map λt=>V.ref t.1) its->its=ts.map λt=>Value.ref t.1
 |[],_,.nil=>rfl
 |t::ts,_,.cons r h=>by
  cases r;rw[bg,NW h]
theorem Lp {α:Type}:∀(ts:List (Addr×α)),AR (ts.map λt=>V.ref t.1) (ts.map λt=>Value.ref t.1)
 |[]=>.nil
 |t::ts=>.cons rfl (Lp ts)
theorem Yg {α:Type}(d:α)(ts:List (Addr×α)){idx:Array Nat}{lt:Nat->Nat->Bool}{R:α->α->Prop}(hp:MR ts.length idx)(up:JG lt idx ts.length)(hR:∀i j,i<ts.length->j<ts.length->lt i j=true->R (ts.getD i (0,d)).2 (ts.getD j (0,d)).2) :
  ∃us:List (Addr×α),us.Perm ts/\Jq (ts.map λt=>Value.ref t.1) idx=us.map (λt=>Value.ref t.1)/\us.Pairwise λx y=>R x.2 y.2:=by
 have lt':∀i∈idx.toList,i<ts.length:=λi hi=>cX.mp (hp.2.mem_iff.mp hi)
 refine⟨idx.toList.map λi=>ts.getD i (0,d),?_,?_,?_⟩
 ·have h3:=hp.2.map λi=>ts.getD i (0,d)
  have e3:(List.range ts.length).map (λi=>ts.getD i (0,d))=ts:=by
   refine dI λi=>?_
   rw[bz]
   by_cases hi:i<ts.length
   ·simp[hi]
   ·simp[hi]
  rw[e3] at h3;exact h3
 ·unfold Jq;rw[bw];refine cD λi hi=>?_
  have hl:=lt' i hi;simp[hl]
 ·rw[eJ];intro i j hi hj hij;have hi':i<idx.size:=by simpa using hi
  have hj':j<idx.size:=by simpa using hj
  have h4:=up i j hij (by rw[<-hp.1];exact hj');have e5:idx.getD i 0=idx[i]:=by simp[Array.getD,hi']
  have e6:idx.getD j 0=idx[j]:=by simp[Array.getD,hj']
  rw[e5,e6] at h4;simp only[List.getElem_map,Array.getElem_toList];exact hR _ _ (lt' _ (by simp)) (lt' _ (by simp)) h4
theorem My {α:Type}{d:α}{l:List α}(nd:l.Nodup){i j:Nat}(hi:i<l.length)(hj:j<l.length)(hij:i≠j):l.getD i d≠l.getD j d:=by
 have e1:l.getD i d=l[i]:=by simp[hi]
 have e2:l.getD j d=l[j]:=by simp[hj]
 rw[e1,e2];have pw:=eJ.mp nd;intro z;rcases Nat.lt_or_gt_of_ne hij with q|q
 ·exact pw i j hi hj q z
 ·exact pw j i hj hi q z.symm
end
end L2
namespace L2
end L2
namespace L2
end L2
namespace L2
end L2
namespace L2
section
open PySem PySem.W PySem.Calls PyProof.Rows
variable {prog:Program}{w:World}{A:Around}{s:Shared}{X:Cx}
theorem Rx {xs:Array Value}{v:Value}(h:xs[0]?=some v):∃r,xs.toList=v::r:=by
 obtain⟨l⟩:=xs;cases l with
 |nil=>simp at h
 |cons y r=>exact⟨r,by simp at h;rw[h]⟩
theorem SV {vs:List Value}{kz:List Int}(nd:kz.Nodup)(hl:vs.length=kz.length)(hv:∀(i:Nat) x,kz[i]?=some x->∃(a:Addr) (o:Obj) (t:Tok) (xs:Array Value) (n:Nat),vs[i]?=some (.ref a)/\s.heap.get? a=some o/\o.data=.seq xs n/\xs[0]?=some (.int x t)) :
  Ordr vs.length (λi j=>decide (kz.getD i 0<kz.getD j 0)) (kas_ask prog w A (tuples' true) vs) s:=by
 have get:∀i,i<vs.length->kz[i]?=some (kz.getD i 0):=λi hi=>by
  rw[hl] at hi;simp[hi]
 refine⟨λi j C hi hj hij hC=>?_,λi j k _ _ _ h1 h2=>?_,λi j hi hj hij h1=>?_⟩
 ·obtain⟨a,o,t,xs,n,e1,e2,e3,e4⟩:=hv i _ (get i hi);obtain⟨a',o',t',xs',n',f1,f2,f3,f4⟩:=hv j _ (get j hj);unfold kas_ask;rw[show vs.getD i Value.none=.ref a by simp[e1],show vs.getD j Value.none=.ref a' by simp[f1]];obtain⟨r,er⟩:=Rx e4;obtain⟨r',er'⟩:=Rx f4;refine kat_lt e2 e3 f2 f3 ?_;rw[er,er',List.zip_cons_cons];refine kat_cons (wpAny_eqBool_int ?_);have ne:=My (d:=0) nd (by omega:i<kz.length) (by omega:j<kz.length) hij;rw[show(kz.getD i 0 == kz.getD j 0)=false from cZ.mpr ne];exact kat_no (oneLt_int hC)
 ·rw[bq] at *;omega
 ·rw[iq] at h1;rw[bq];have:=My (d:=0) nd (by omega:i<kz.length) (by omega:j<kz.length) hij;omega
def WQ (K:PySem.W.Frag):List V->Hp->VK->Prop:=λxs H Q=>∃(a:Addr) (ts:List (Addr×Int)),xs=[.ref a]/\AI K H a (ts.map λt=>V.ref t.1)/\ts.length<64/\(∀t∈ts,∃r,AV K H t.1 (.int t.2::r))/\(ts.map (·.2)).Nodup/\
 ∀(us:List (Addr×Int)) p,us.Perm ts->us.Pairwise (λx y=>x.2<y.2)->H p=none->Q (.ref p) (upd H p (.lst (us.map λt=>V.ref t.1)))
theorem RE {h':Heap}{T:Value->Prop}:∀(l:List Value),(∀v∈l,∃(b:Addr) (o:Obj) (f:Value) (xs:Array Value) (n:Nat),v=.ref b/\h'.get? b=some o/\o.cls=.type "tuple"/\o.data=.seq xs n/\xs[0]?=some f/\T f)->∃fs,KatTups h' l fs/\fs.length=l.length/\∀v∈fs,T v
 |[],_=>⟨[],.nil,rfl,λ_ h=>nomatch h⟩
 |v::l,hl=>by
  obtain⟨fs,a1,a2,a3⟩:=RE l λu hu=>hl u (a9 _ hu)
  obtain⟨b,o,f,xs,n,rfl,e1,e2,e3,e4,e5⟩:=hl v bc;refine⟨f::fs,.cons e1 e2 e3 e4 a1,by rw[bT,bT,a2],λu hu=>?_⟩;rcases bE.mp hu with rfl|hu
  ·exact e5
  ·exact a3 u hu
theorem Pb {K:PySem.W.Frag}(hK:X.K=K):CL X (.builtin "sorted") (WQ K):=by
 subst hK;intro pins s σ H xs us Q I r h;obtain⟨a,ts,rfl,h1,few,ht,nd,q⟩:=h;obtain⟨u,rfl,ru⟩:=vals1 r;cases ru;obtain⟨its,r1,p1,_⟩:=I.list h1;have ei:=NW r1;have li:its.length=ts.length:=by rw[ei,aS]
 refine S5 (collect_list p1.isList ?_ (by rw[li,cU];omega));have old:∀b o,s.heap.get? b=some o->((s.heap.push (seqObj "list" #[] 0)).update s.heap.objs.size (Obj.mapSeq λx=>x++its.toArray)).get? b=some o:=λb o e=>(cB _ _ (dS (bG e))).trans (aV _ e)
 have hsz:s.heap.objs.size<=((s.heap.push (seqObj "list" #[] 0)).update s.heap.objs.size (Obj.mapSeq λx=>x++its.toArray)).objs.size:=by rw[fA,cf];exact eB _
 generalize (s.heap.push (seqObj "list" #[] 0)).update s.heap.objs.size (Obj.mapSeq λx=>x++its.toArray)=h1 at old hsz ⊢;have gk:∀i,i<ts.length->(ts.map (·.2)).getD i 0=(ts.getD i (0,0)).2:=λi hi=>by simp[hi]
 have tup:∀(i:Nat) x,(ts.map λt=>t.2)[i]?=some x->∃(b:Addr) (o:Obj) (t:Tok) (xs:Array Value) (n:Nat),its[i]?=some (.ref b)/\s.heap.get? b=some o/\o.cls=.type "tuple"/\o.data=.seq xs n/\xs[0]?=some (.int x t):=λi x hx=>by
  rw[bz] at hx;obtain⟨y,hi,rfl⟩:=cy.mp hx;obtain⟨r,hr⟩:=ht y (a8 hi);obtain⟨ys,rv,⟨o,e1,e2,n,e3⟩,_⟩:=I.tuple hr;cases rv with
  |cons rv _=>
   obtain⟨t,rfl⟩:=rv;exact⟨y.1,o,t,_,n,by rw[ei,bz,hi];rfl,e1,e2,e3,by simp⟩
 refine⟨λi j=>decide ((ts.map (·.2)).getD i 0<(ts.map (·.2)).getD j 0),by rw[li];exact few,λA' h' k h2=>?_,λh' p idx c hp up lp k e=>?_⟩
 ·obtain⟨fs,kt,kf⟩:=RE (h':=h') (T:=λv=>∃x t,v=Value.int x t) its λv hv=>by
   obtain⟨i,hi⟩:=cz hv;have lt:i<ts.length:=by rw[<-li];exact(bu.mp hi).1
   obtain⟨b,o,t,xs,n,e1,e2,e3,e4,e5⟩:=tup i _ (aW (by rw[aS];exact lt));rw[hi] at e1;cases e1;exact⟨b,o,_,xs,n,rfl,k _ _ (old _ _ e2),e3,e4,e5,_,t,rfl⟩
  refine kat_kind (T:=.type "int") kt (by rw[kf.1];omega) (λv hv=>?_) (by decide) ⟨rfl,?_⟩
  ·obtain⟨x,t,rfl⟩:=kf.2 v hv;exact .now
  ·refine SV nd (by rw[li,aS]) λi x hx=>?_
   obtain⟨b,o,t,xs,n,e1,e2,_,e4,e5⟩:=tup i x hx;exact⟨b,o,t,xs,n,e1,k _ _ (old _ _ e2),e4,e5⟩
 ·rw[li] at hp up;obtain⟨us,u1,u2,u3⟩:=Yg (0:Int) ts (R:=λa b=>a<b) hp up λi j hi hj hlt=>by
   rw[bq,gk i hi,gk j hj] at hlt;exact hlt
  rw[ei,u2] at e;have lp':s.heap.objs.size<=p:=bQ hsz lp;refine⟨.ref p,_,I.laid (t':=s.toks) (o:=.lst (us.map λt=>V.ref t.1)) (λb o e=>k b o (old b o e)) lp' ?_,rfl,q us p u1 u3 (I.hok.fresh lp')⟩;refine⟨?_,_,c,Lp us,e⟩;rw[aS,u1.length_eq,cU];omega
end
end L2
namespace L2
section
open PySem
variable {α:Type}
theorem SL {J:It} {ps:List α} {g:α->V} {fr:List (Option Nat)} {k:Nat} {tt:TT} {te:TE} {Q:VK} {σ:St} {H:Hp} (p:α->Bool) (P:α->V->Hp->Prop) (hP:∀x y H1 H2,P x y H1->Ap H1 H2->P x y H2)
  (hU:∀x y H1 l us us',P x y H1->H1 l=some (.lst us)->P x y (upd H1 l (.lst us'))) (hJ:J2 J H (ps.map g)) (hn:ps.length<=1000000)
  (htest:∀x∈ps,∀(H':Hp) (R:Bool->Hp->Prop),Ap H H'->(∀H'',Ap H' H''->R (p x) H'')->tt ((stC fr σ).set k (some (g x))) H' R)
  (helt:∀x∈ps,p x=true->∀(H':Hp) (R:VK),Ap H H'->(∀y H'',Ap H' H''->P x y H''->R y H'')->te ((stC fr σ).set k (some (g x))) H' R)
  (hQ:∀l H' (ys:List (α×V)),H l=none->Ap H H'->H' l=some (.lst (ys.map (·.2)))->ys.map (·.1)=ps.filter p->(∀q∈ys,P q.1 q.2 H')->Q (.ref l) H'):Da fr (Bt k) tt te σ Q J H:=by
 intro l hl;refine⟨λi m σ' H'=>m=ps.length-i/\i<=ps.length/\(∀y,σ'.set k y=(stC fr σ).set k y)/\Ap H H'/\∃ys:List (α×V),H' l=some (.lst (ys.map (·.2)))/\ys.map (·.1)=(ps.take i).filter p/\∀q∈ys,P q.1 q.2 H',
  ⟨ps.length,by simp,bU _,λ_=>rfl,Al hl _,[],by rw[Ae];rfl,rfl,λ_ h=>nomatch h⟩,?_⟩
 rintro i m σ' H' ⟨rfl,hi,hσ,hs,ys,hl',e1,hys⟩
 obtain⟨h1,h2,h3⟩:=hJ H' hs i;rw[aS] at h1 h2 h3
 by_cases hlt:i<ps.length
 ·refine .inr ⟨h1 hlt,λx H'' y=>?_⟩;obtain⟨rfl,hx⟩:=h2 x H'' y;have hx:=hx hlt;rw[bz,aW hlt] at hx;cases hx;have hm:ps[i]∈ps:=eF hlt;have et:(ps.take (i+1)).filter p=(ps.take i).filter p++(if p ps[i]=true then[ps[i]] else[]):=by
   rw[bN,aW hlt,dh];cases q:p ps[i]<;>simp[q]
  have le:ys.length<=i:=by
   have a:=congrArg List.length e1;have b:=bW p (ps.take i);rw[aS] at a;rw[b6] at b;omega
  show tt (σ'.set k (some (g ps[i]))) H'' _;rw[hσ];refine htest _ hm H'' _ hs λH0 s0=>?_
  have hs0:=hs.trans s0;refine Co (λc=>?_) (λc=>?_)
  ·refine helt _ hm c H0 _ hs0 λv H4 s4' hv=>?_
   have s4:=s0.trans s4';have hl4:=s4.get hl';refine⟨_,hl4,Bd (by rw[aS];omega),ps.length-(i+1),by omega,rfl,hlt,λy=>by rw[dH],AW (hs.trans s4) hl _,ys++[(ps[i],v)],?_,?_,λq hq=>?_⟩
   ·rw[Ae,bA];rfl
   ·rw[et,bF c,bA,e1];rfl
   ·rcases aY.mp hq with h|h
    ·exact hU _ _ _ _ _ _ (hP _ _ _ _ (hys q h) s4) hl4
    ·rw[ba.mp h];exact hU _ _ _ _ _ _ hv hl4
  ·exact⟨ps.length-(i+1),by omega,rfl,hlt,λy=>by rw[dH],hs0,ys,s0.get hl',by rw[et,bH c,cm];exact e1,λq hq=>hP _ _ _ _ (hys q hq) s0⟩
 ·have e:i=ps.length:=by omega
  subst e;exact .inl ⟨h3 (aZ _),hQ l H' ys hl hs hl' (by rw[e1,bJ (aZ _)]) hys⟩
theorem Wz {ys:List (α×V)}{f:α->V}(h:∀q∈ys,q.2=f q.1):ys.map (·.2)=(ys.map (·.1)).map f:=by
 rw[bw];exact cD λq hq=>h q hq
theorem SE {J:It} {ps:List α} {g:α->V} {fr:List (Option Nat)} {k:Nat} {tt:TT} {te:TE} {Q:VK} {σ:St} {H:Hp} (p:α->Bool) (f:α->V) (hJ:J2 J H (ps.map g)) (hn:ps.length<=1000000)
  (htest:∀x∈ps,∀(H':Hp) (R:Bool->Hp->Prop),Ap H H'->(∀H'',Ap H' H''->R (p x) H'')->tt ((stC fr σ).set k (some (g x))) H' R)
  (helt:∀x∈ps,p x=true->∀(H':Hp) (R:VK),Ap H H'->(∀H'',Ap H' H''->R (f x) H'')->te ((stC fr σ).set k (some (g x))) H' R)
  (hQ:∀l H',H l=none->Ap H H'->H' l=some (.lst ((ps.filter p).map f))->Q (.ref l) H'):Da fr (Bt k) tt te σ Q J H:=by
 refine SL p (λx y _=>y=f x) (λ_ _ _ _ h _=>h) (λ_ _ _ _ _ _ h _=>h) hJ hn htest (λx hx hp H' R s' hR=>helt x hx hp H' R s' λH'' s''=>hR _ H'' s'' rfl) λl H' ys nl s' h' e hq=>hQ l H' nl s' ?_
 rw[<-e,<-Wz hq];exact h'
theorem S7 {J:It} {ps:List α} {g:α->V} {fr:List (Option Nat)} {k:Nat} {tt:TT} {te:TE} {Q:VK} {σ:St} {H:Hp} (p:α->Bool) (f:α->V) (hJ:J2 J H (ps.map g)) (hn:ps.length<=1000000)
  (htest:∀x∈ps,∀(H':Hp) (R:Bool->Hp->Prop),Ap H H'->R (p x) H'->tt ((stC fr σ).set k (some (g x))) H' R)
  (helt:∀x∈ps,p x=true->∀(H':Hp) (R:VK),Ap H H'->(∀H'',Ap H' H''->R (f x) H'')->te ((stC fr σ).set k (some (g x))) H' R)
  (hQ:∀l H',H l=none->Ap H H'->H' l=some (.lst ((ps.filter p).map f))->Q (.ref l) H'):Da fr (Bt k) tt te σ Q J H:=
 SE p f hJ hn (λx hx H' R s' hR=>htest x hx H' R s' (hR H' (Ap.refl _))) helt hQ
end
end L2
namespace L2
end L2
namespace L2
end L2
namespace L2
end L2
namespace L2
end L2
namespace L2
end L2
namespace L2
end L2
namespace L2
end L2
namespace L2
end L2
namespace L2
end L2
namespace L2
open PySem
end L2
namespace L2
end L2
namespace L2
end L2
namespace L2
end L2
namespace L2
end L2
namespace L2
end L2
namespace L2
end L2
namespace L2
end L2
namespace L2
end L2
namespace L2
open PySem PySem.Spec PyProof.Rows
end L2
namespace L2
end L2
namespace L2
noncomputable instance trDec:DecidableEq Tr:=λa b=>Classical.propDecidable (a=b)
end L2
namespace L2
end L2
namespace L2
end L2
namespace L2
end L2
namespace L2
end L2
namespace L2
open PySem
end L2
namespace L2
open PySem PySem.Spec PyProof.Rows
variable {X:Cx}
variable {X:Cx}
end L2
namespace L2
end L2
namespace L2
open PySem
end L2
namespace L2
end L2
namespace L2
end L2
namespace L2
open PySem PySem.Spec PyProof.Rows
section
variable {P:Program}{w:World}{K:PySem.W.Frag}{h:Heap}{mg:Str->Option Value}{base:Heap}{x q m p:Str}{st:Stmt}{f C:Addr}{d:FuncData}{ps:List Str}{k:Nat}{sp:Sp}
def Each:List Str->(List Value->Prop)->Prop
 |[],R=>R []
 |_::ps,R=>∀v,Each ps λus=>R (v::us)
theorem Each.all:∀{ps:List Str} {R:List Value->Prop},Each ps R->∀us:List Value,us.length=ps.length->R us
 |[],_,z,[],_=>z
 |[],_,_,_::_,e=>nomatch e
 |_::_,_,_,[],e=>nomatch e
 |_::_,_,z,v::us,e=>Each.all (z v) us (iI e)
def aR (e:Value×Value×Value×Option Addr×Value×Value)(x q:Str)(st:Stmt):FuncData:=PySem.W.fnOf x q (II st) (FX st) (Am st) .none e.1 e.2.1 e.2.2.1 e.2.2.2.1 e.2.2.2.2.1 e.2.2.2.2.2
def Ls (x q:Str)(st:Stmt)(ps:List Str):Prop:=∀e,Each ps λus=>bindArgs (aR e x q st) ⟨us,[]⟩=pure (ps.zip us)
theorem Fun.bindE (F:Fun K x q st f d)(z:Ls x q st ps):Binds K d ps []:=F.binds λkV doc pm an cdv ct=>(z ⟨kV,doc,pm,an,cdv,ct⟩).all
theorem Fun.bind1 {y:Str}(F:Fun K x q st f d)(z:Ls x q st [y]):∀(s:Shared) (v:Value),BindsTo s d ⟨[v],[]⟩ [(y,v)]:=by
 obtain⟨oc,od,kV,doc,pm,an,cdv,ct,osl,rfl,lk,hcd⟩:=F.ex;exact λs v=>.of_eq (z ⟨kV,doc,pm,an,cdv,ct⟩ v)
abbrev Xu (K:PySem.W.Frag)(x:Str)(C:Addr):Prop:=PySem.W.nsIn K mainGlobals x=some (some (.ref C))
abbrev OQ (K:PySem.W.Frag)(x:Str):Prop:=PySem.W.nsIn K mainGlobals x=some none
def KW (K:PySem.W.Frag)(x:Str)(n:Int):Prop:=∃t,PySem.W.nsIn K mainGlobals x=some (some (.int n t))
def ZN (K:PySem.W.Frag)(x:Str)(y:String):Prop:=∃t,PySem.W.nsIn K mainGlobals x=some (some (.str (PySem.Str.ofString y) t))
abbrev ah (K:PySem.W.Frag)(C D:Addr)(b:Bool):Prop:=PySem.W.exmOne K (.ref C) (.ref D)=some b
abbrev aA (K:PySem.W.Frag)(C:Addr):Prop:=PySem.W.excIn K C [.type "ValueError",.type "Exception",.type "BaseException",.type "object"] "ValueError.__new__"=true
structure Sees (P:Program) (w:World) (K:PySem.W.Frag) (mg:Str->Option Value) (base:Heap):Prop where
 v:∀{x:Str} {v:Value},PySem.W.nsIn K mainGlobals x=some (some v)->mg x=some v
 o:∀{x:Str},OQ K x->mg x=none
theorem Sees.of (X:K.In h)(G:h.Ns mainGlobals mg):Sees P w K mg base:=⟨PySem.W.mg_of X G,PySem.W.mg_none_of X G⟩
theorem Sees.i {n:Int}(N:Sees P w K mg base)(z:KW K x n):∃t,mg x=some (.int n t):=by
 obtain⟨t,e⟩:=z;exact⟨t,N.v e⟩
theorem Sees.s {y:String}(N:Sees P w K mg base)(z:ZN K x y):∃t,mg x=some (.str (PySem.Str.ofString y) t):=by
 obtain⟨t,e⟩:=z;exact⟨t,N.v e⟩
structure NsF (K:PySem.W.Frag) (x:Str) (st:Stmt) (f:Addr) (d:FuncData):Prop where
 a:Xu K x f
 F:Fun K x x st f d
structure ClF (K:PySem.W.Frag) (C:Addr) (m q:Str) (st:Stmt) (f:Addr) (d:FuncData):Prop where
 a:PySem.W.findIn K (.ref C) m=some (some (.ref f))
 i:PySem.W.isFn K (.ref f)=true
 F:Fun K m q st f d
structure NsC (K:PySem.W.Frag) (x:Str) (C:Addr):Prop where
 a:Xu K x C
 c:Cls K C
 m:PySem.W.makesIn K C=true
 k:PySem.W.keepIn K (.ref C)=true
theorem NsF.dd (D:NsF K x st f d)(N:Sees P w K mg base)(o:FnOk P w K mg base BO k f d ps sp)(z:Ls x x st ps):Def P w K mg base k x ps sp:=⟨f,d,o,N.v D.a,D.F.kp,D.F.bindE z⟩
theorem NsF.dx (D:NsF K x st f d)(N:Sees P w K mg base)(o:FnOk P w K mg base (OT P w) k f d ps sp)(z:Ls x x st ps):Yp P w K mg base k x ps sp:=⟨f,d,o,N.v D.a,D.F.kp,D.F.bindE z⟩
theorem ClF.dd (D:ClF K C m q st f d)(N:Sees P w K mg base)(o:FnOk P w K mg base BO k f d ps sp)(z:Ls m q st ps):BH P w K mg base k C m ps sp:=⟨f,d,o,⟨D.a,D.i,D.F.kp⟩,D.F.bindE z⟩
theorem ClF.dx (D:ClF K C m q st f d)(N:Sees P w K mg base)(o:FnOk P w K mg base (OT P w) k f d ps sp)(z:Ls m q st ps):Km P w K mg base k C m ps sp:=⟨f,d,o,⟨D.a,D.i,D.F.kp⟩,D.F.bindE z⟩
theorem ClF.c (D:ClF K C "__init__" q st f d)(N:Sees P w K mg base)(c:NsC K x C)(o:FnOk P w K mg base BO k f d ps sp)(z:Ls "__init__" q st ps):Sl P w K mg base k C x ps sp:=⟨f,d,o,⟨c.m,D.a,D.i,c.k⟩,N.v c.a,D.F.bindE z⟩
end
section
variable {P:Program}{w:World}{K:PySem.W.Frag}{mg:Str->Option Value}{base:Heap}{k:Nat}{C f:Addr}{fd:FuncData}{m:Str}{ps:List Str}{sp:Sp}
theorem FnOk.calm (F:FnOk P w K mg base (OT P w) k f fd ps sp):FnOk P w K mg base BO k f fd ps (λvs H Q _=>sp vs H Q E0):=
 ⟨λvs H Q _ q=>F.len vs H Q E0 q,λA outer s H args us vs Q E hr he hb hv hs=>dC (F.run A outer s H args us vs Q E0 hr he hb hv hs) λr s' z=>by
  cases r with
  |ok c=>cases c<;>exact z
  |error e=>
   obtain⟨_,_,_,_,_,_,_,z⟩:=z;exact False.elim z⟩
theorem Km.calm (D:Km P w K mg base k C m ps sp):BH P w K mg base k C m ps (λvs H Q _=>sp vs H Q E0):=by
 obtain⟨f,fd,F,r⟩:=D;exact⟨f,fd,F.calm,r⟩
variable {X:Cx}{o:Expr}{ta:TE}{p apos pos:Pos}
theorem UQ {pl:Sem Bool} (ho:PE X.nox o ta) (c:Cls X.K C) (D:Km X.prog X.w X.K X.mg X.base k C m ps sp) (hr:Room k X.A)
  (ht:eval (.Call (.Attribute o m apos) [] [] pos) X.env=(do
   let ov <-eval o X.env
   standAt apos.atName
   let(f,first) <-holding [ov] (getMethod ov m pl)
   callWith pos f first (backTo pos (starEach [] X.env)) (backToKw pos (keywordEach [] X.env))):=by rfl) :
  aH X (.Call (.Attribute o m apos) [] [] pos) (λEx=>Nl C m sp [] (λcls _ H'=>Ex cls H') ta MT):=by
 obtain⟨f,fd,F,hm,hb⟩:=D;intro pins s σ H Q Ex I h;refine ff (pl:=pl) (b4 (ho pins s σ H _ (I.wish _) h) (λu s1 z9=>?_) λ_ _ z=>False.elim z) ht;obtain⟨x,H1,I1,rx,a,dx,fs,ex,ea,l,q⟩:=z9;subst ex;obtain rfl:u=Value.ref a:=rx;refine FG I1.unwish ea c hm l ?_;exact gp (first:=[.ref a]) I1.kIn hm.kp (W0 (CX:=OT X.prog X.w) (us:=[.ref a]) (vs:=[.ref a]) F hr hb I1.unwish (.cons rfl .nil) q)
end
end L2
namespace M06
def wsum:Nat->List Int->Int
 |_,[]=>0
 |k,x::xs=>x*((k:Int)+1)+wsum (k+1) xs
def mk (ns:List Int):Int:=wsum 0 ns%2147483647
theorem Ki:∀(xs ys:List Int) (k:Nat),wsum k (xs++ys)=wsum k xs+wsum (k+xs.length) ys
 |[],ys,k=>by simp[wsum]
 |x::xs,ys,k=>by
  rw[List.cons_append,wsum,wsum,Ki xs ys (k+1),bT,show k+1+xs.length=k+(xs.length+1) by omega];omega
theorem Si {ns:List Int}{i:Nat}(h:i<ns.length):wsum 0 (ns.take (i+1))=wsum 0 (ns.take i)+ns[i]*((i:Int)+1):=by
 rw[bN,aW h,Ki,b6,g9 (by omega),fw];simp[wsum]
theorem Sk (ns:List Int):((List.range ns.length).map λi=>ns.getD i 0*((i:Int)+1)).sum=wsum 0 ns:=by
 have key:∀i,i<=ns.length->((List.range i).map λi=>ns.getD i 0*((i:Int)+1)).sum=wsum 0 (ns.take i):=by
  intro i
  induction i with
  |zero=>intro _;simp[wsum]
  |succ i ih=>
   intro hi;rw[List.range_succ,bA,List.sum_append,ih (by omega),Si (by omega)];simp[List.getD,List.getElem?_eq_getElem (show i<ns.length by omega)]
 have:=key ns.length (aZ _);rw[bJ (aZ _)] at this;exact this
def VO (x:Int):Bool:=decide (0<=x)&&decide (x<=2147483646)
def sound (ns:List Int):Bool:=(!decide (ns=[]))&&(ns.all VO&&decide (ns.getLastD 0=mk ns.dropLast))
theorem ZI (ns:List Int):0<=mk ns/\mk ns<=2147483646:=by
 unfold mk;omega
theorem WH {x:Int}:VO x=true↔0<=x/\x<=2147483646:=by simp[VO]
theorem Th {ns:List Int}:sound ns=true↔ns≠[]/\(∀x∈ns,0<=x/\x<=2147483646)/\ns.getLastD 0=mk ns.dropLast:=by
 unfold sound;simp only[Bool.and_eq_true,Bool.not_eq_true',decide_eq_false_iff_not,List.all_eq_true,WH,decide_eq_true_eq]
theorem OF {ns:List Int}(h:∀x∈ns,0<=x/\x<=2147483646):sound (ns++[mk ns])=true:=by
 rw[Th];refine⟨by simp,λx hx=>?_,by simp⟩;rcases aY.mp hx with hx|hx
 ·exact h x hx
 ·rw[ba.mp hx];exact ZI ns
end M06
namespace M10
end M10
set_option maxHeartbeats 4000000
namespace K27
local macro_rules | `(!$x) => do
  let (f, a) ← match x with | `($f:ident $a*) => pure (f, a) | `($f:ident) => pure (f, #[]) | _ => Lean.Macro.throwUnsupported
  let some (n, m, t) := ([([`Ai, `Av, `AU, `Bv, `Of], 1, 0, ""), ([`DG, `Ec, `T9], 2, 0, ""), ([`Ak, `BC, `Eb, `JD, `RC, `Ow, `C7], 3, 0, ""), ([`YO, `Ao, `BL, `Du, `DF, `MO, `Aj, `BJ, `Ds, `A0, `Lu, `La], 4, 0, ""), ([`A6, `Xf], 4, 2, "r"), ([`Gz, `AH], 4, 3, "d"), ([`Ks], 4, 5, "dd"), ([`FP, `Ah, `K6, `Rg, `DQ, `QC, `S9], 5, 0, ""), ([`AN], 5, 2, "f"), ([`Ac, `Ax], 5, 3, "r"), ([`XA, `EW, `B8, `ME], 6, 0, ""), ([`C4], 6, 4, "r"), ([`J3], 6, 4, "rr"), ([`Em, `EU, `Aw, `U7, `OO, `Pz, `UC], 7, 0, ""), ([`YC], 7, 4, "tfd"), ([`SQ], 7, 6, "fd"), ([`AM, `As, `B2, `PN], 8, 0, ""), ([`BU], 8, 3, "f"), ([`B9, `Au], 8, 4, "f"), ([`Vc], 8, 4, "r"), ([`WY], 8, 6, "rr"), ([`Vy, `U2, `US], 9, 0, ""), ([`ET], 9, 5, "f"), ([`Ud], 9, 7, "rr"), ([`Aq, `BX], 9, 9, "ddrr"), ([`Jc, `D3], 10, 0, ""), ([`AK], 10, 7, "drr"), ([`Wc], 11, 5, "rr"), ([`Ce], 11, 5, "tr"), ([`Om], 11, 7, "drr"), ([`Yw], 11, 8, "drr"), ([`T6, `UG], 12, 0, ""), ([`Gd], 12, 11, "rrrrr"), ([`Qo], 13, 7, "d"), ([`A2], 14, 8, "rrr"), ([`Xn], 15, 9, "rrr")] : List (List Lean.Name × Nat × Nat × String)).findSome? (λ(l, n) => if l.contains f.getId then some n else none) | Lean.Macro.throwUnsupported
  let u ← `(_)
  let us := Array.replicate n u
  let mut p := #[]
  for c in t.toList.drop (t.length + a.size - m) do
    let v ← if c == 'r' then `(by rfl) else if c == 'd' then `(by decide) else if c == 'f' then `(rfl) else `(by trivial)
    p := p.push v
  `(@$f $us* $a* $p*)
set_option hygiene false
local macro_rules | `(tactic| exists $t) => `(tactic| refine F.ok $t (fun vs H Q E h => ?_) (fun cdv A outer s H vs Q E hr h => ?_))
set_option hygiene true
local macro_rules | `(tactic| trivial) => `(tactic| first | exact .inl rfl | exact .inr rfl | assumption | exact ⟨rfl, rfl, rfl, by decide +kernel, rfl, by decide +kernel, by decide +kernel⟩ | exact L2.Room.mono (by assumption) (by decide))
open PySem L2 M06 M10
theorem Jo : 0 <= sizeLine := small (by decide)
theorem YI : 1 <= sizeLine := small (by decide)
theorem MH : 2 <= sizeLine := small (by decide)
theorem UH : 3 <= sizeLine := small (by decide)
theorem Ze : 4 <= sizeLine := small (by decide)
def top (i:Nat):Stmt:=PySem.Challenge.pw_stemshelf_k27_drafts_laid.main.body.getD i (.Pass ⟨0,0,0,0⟩)
abbrev HQ:Stmt:=top 2
theorem O9:FnScope ["thing"] ["thing"] (Am HQ):=by trivial
abbrev FQ:Stmt:=top 3
theorem Ni:FnScope ["thing","least","most"] ["thing","least","most"] (Am FQ):=by trivial
abbrev E9:Stmt:=top 4
theorem Me:FnScope ["thing","many"] ["thing","many"] (Am E9):=by trivial
abbrev GT:Stmt:=top 7
theorem Ov:FnScope ["sign"] ["sign"] (Am GT):=by trivial
abbrev J9:Stmt:=top 8
theorem QF:FnScope ["number"] ["number"] (Am J9):=by trivial
abbrev JV:Stmt:=top 9
theorem Qp:FnScope ["thing","least","most"] ["thing","least","most"] (Am JV):=by trivial
abbrev Eh:Stmt:=top 24
theorem EM:FnScope ["thing","words","part"] ["thing"] (Am Eh):=by trivial
abbrev Iq:Stmt:=top 25
theorem GU:FnScope ["words","reader","thing"] ["words"] (Am Iq):=by trivial
abbrev Di:Stmt:=inClass (top 26) 0
theorem Ig:FnScope ["self","words"] ["self","words"] (Am Di):=by trivial
abbrev BV:Stmt:=inClass (top 26) 1
theorem EZ:FnScope ["self"] ["self"] (Am BV):=by trivial
abbrev Cm:Stmt:=inClass (top 26) 2
theorem Gn:FnScope ["self","most"] ["self","most"] (Am Cm):=by trivial
abbrev Dh:Stmt:=top 27
theorem Dz:FnScope ["reader","deep","first","many"] ["reader","deep"] (Am Dh):=by trivial
abbrev GI:Stmt:=top 28
theorem IY:FnScope ["reader","many"] ["reader"] (Am GI):=by trivial
abbrev J4:Stmt:=top 44
theorem QA:FnScope ["thing"] ["thing"] (Am J4):=by trivial
abbrev MN:Stmt:=top 45
theorem Ss:FnScope ["thing"] ["thing"] (Am MN):=by trivial
abbrev Iv:Stmt:=top 46
theorem Qa:FnScope ["thing"] ["thing"] (Am Iv):=by trivial
abbrev EI:Stmt:=top 47
theorem KP:FnScope ["thing","level"] ["thing","level"] (Am EI):=by trivial
abbrev EV:Stmt:=top 48
theorem Gq:FnScope ["thing","names"] ["thing"] (Am EV):=by trivial
abbrev IC:Stmt:=top 49
theorem Pg:FnScope ["thing"] ["thing"] (Am IC):=by trivial
abbrev Mx:Stmt:=top 50
theorem Hd:FnScope ["block","total","number"] ["block"] (Am Mx):=by trivial
abbrev Es:Stmt:=top 51
theorem Cb:FnScope ["block","told","name","kind","tag"] ["block"] (Am Es):=by trivial
abbrev JK:Stmt:=top 52
theorem QU:FnScope ["block"] ["block"] (Am JK):=by trivial
abbrev JX:Stmt:=top 53
theorem Rm:FnScope ["block"] ["block"] (Am JX):=by trivial
abbrev JT:Stmt:=top 56
theorem Rb:FnScope ["words"] ["words"] (Am JT):=by trivial
abbrev LO:Stmt:=top 57
theorem Tj:FnScope ["words"] ["words"] (Am LO):=by trivial
abbrev HL:Stmt:=top 58
theorem Kn:FnScope ["row","words"] ["row"] (Am HL):=by trivial
abbrev TK:Stmt:=top 60
theorem Qq:FnScope ["boards","number","birth","block","row","board"] ["boards","number","birth","block"] (Am TK):=by trivial
abbrev Er:Stmt:=top 61
theorem K1:FnScope ["boards","tag"] ["boards","tag"] (Am Er):=by trivial
abbrev Ke:Stmt:=top 62
theorem HY:FnScope ["boards","tag","board","block"] ["boards","tag"] (Am Ke):=by trivial
abbrev Ie:Stmt:=top 63
theorem Ku:FnScope ["boards","board","tag","told"] ["boards","board","tag"] (Am Ie):=by trivial
abbrev Il:Stmt:=top 64
theorem GV:FnScope ["boards","board","number","row","words"] ["boards","board","number"] (Am Il):=by trivial
abbrev Dy:Stmt:=inClass (top 66) 0
theorem IZ:FnScope ["self","own_tag","block"] ["self","own_tag","block"] (Am Dy):=by trivial
abbrev G2:Stmt:=inClass (top 67) 0
theorem N0:FnScope ["self","boards"] ["self","boards"] (Am G2):=by trivial
abbrev HK:Stmt:=inClass (top 67) 1
theorem Gp:FnScope ["self","block","birth","found","tag"] ["self","block","birth"] (Am HK):=by trivial
abbrev FL:Stmt:=inClass (top 67) 2
theorem DC:FnScope ["self","block","unread","number","found"] ["self","block"] (Am FL):=by trivial
abbrev CW:Stmt:=inClass (top 67) 3
theorem Ht:FnScope ["self"] ["self"] (Am CW):=by trivial
abbrev GN:Stmt:=inClass (top 67) 4
theorem DS:FnScope ["self","tag","block","cell","same_sum","named"] ["self","tag","block"] (Am GN):=by trivial
abbrev C8:Stmt:=inClass (top 67) 5
theorem HN:FnScope ["self","folder"] ["self","folder"] (Am C8):=by trivial
abbrev DN:Stmt:=inClass (top 67) 6
theorem Fx:FnScope ["self","folder","steps"] ["self","folder"] (Am DN):=by trivial
abbrev F5:Stmt:=inClass (top 67) 7
theorem Na:FnScope ["self","tag"] ["self","tag"] (Am F5):=by trivial
abbrev GK:Stmt:=inClass (top 67) 8
theorem IK:FnScope ["self","tag","cell"] ["self","tag"] (Am GK):=by trivial
abbrev Ed:Stmt:=inClass (top 67) 9
theorem CN:FnScope ["self","tag","waiting","number","cell"] ["self","tag"] (Am Ed):=by trivial
abbrev FT:Stmt:=inClass (top 67) 10
theorem CK:FnScope ["self","unnamed","number","named","tag"] ["self"] (Am FT):=by trivial
abbrev GP:Stmt:=inClass (top 67) 11
theorem N8:FnScope ["self","number"] ["self","number"] (Am GP):=by trivial
abbrev Dw:Stmt:=inClass (top 67) 12
theorem EN:FnScope ["self","number"] ["self"] (Am Dw):=by trivial
abbrev EA:Stmt:=inClass (top 67) 13
theorem KG:FnScope ["self"] ["self"] (Am EA):=by trivial
abbrev IA:Stmt:=inClass (top 67) 14
theorem P8:FnScope ["self","number"] ["self","number"] (Am IA):=by trivial
abbrev F8:Stmt:=inClass (top 67) 16
theorem Nh:FnScope ["self","number"] ["self","number"] (Am F8):=by trivial
abbrev GD:Stmt:=inClass (top 67) 17
theorem On:FnScope ["self","number"] ["self","number"] (Am GD):=by trivial
abbrev Ej:Stmt:=inClass (top 67) 18
theorem K2:FnScope ["self","number"] ["self","number"] (Am Ej):=by trivial
abbrev G4:Stmt:=inClass (top 67) 19
theorem Oo:FnScope ["self","number"] ["self","number"] (Am G4):=by trivial
abbrev E6:Stmt:=inClass (top 71) 0
theorem MQ:FnScope ["self","many"] ["self","many"] (Am E6):=by trivial
abbrev Fb:Stmt:=inClass (top 71) 1
theorem MI:FnScope ["self"] ["self"] (Am Fb):=by trivial
abbrev D5:Stmt:=inClass (top 71) 2
theorem Ga:FnScope ["self","board","number","row","shelf"] ["self","board","number","row"] (Am D5):=by trivial
abbrev Fe:Stmt:=inClass (top 71) 3
theorem GF:FnScope ["self","board","number","row"] ["self","board","number"] (Am Fe):=by trivial
abbrev Fc:Stmt:=inClass (top 71) 6
theorem LP:FnScope ["self","many"] ["self","many"] (Am Fc):=by trivial
abbrev Dv:Stmt:=inClass (top 71) 7
theorem Jz:FnScope ["self"] ["self"] (Am Dv):=by trivial
abbrev EH:Stmt:=inClass (top 71) 8
theorem KS:FnScope ["self","number"] ["self","number"] (Am EH):=by trivial
abbrev Ep:Stmt:=inClass (top 71) 10
theorem KL:FnScope ["self","board"] ["self","board"] (Am Ep):=by trivial
abbrev Ek:Stmt:=top 73
theorem KQ:FnScope ["_law_script","_law_k"] ["_law_script","_law_k"] (Am Ek):=by trivial
abbrev HR:Stmt:=top 74
theorem Ci:FnScope ["_law_cell","_law_many","_law_found","_law_number","_law_k"] ["_law_cell","_law_many"] (Am HR):=by trivial
abbrev F9:Stmt:=top 75
theorem MU:FnScope [] [] (Am F9):=by trivial
abbrev F3:Stmt:=top 77
theorem DB:FnScope ["_law_row_here","_law_text","_law_k"] ["_law_row_here"] (Am F3):=by trivial
abbrev Fh:Stmt:=top 78
theorem Cr:FnScope ["_law_row_here","_law_some","_law_entries","_law_k","_law_rows","_law_name"] ["_law_row_here","_law_some"] (Am Fh):=by trivial
abbrev FB:Stmt:=top 79
theorem DA:FnScope ["_law_row_here","_law_some","_law_level","_law_rows"] ["_law_row_here","_law_some"] (Am FB):=by trivial
abbrev GR:Stmt:=top 80
theorem N5:FnScope ["_law_block_here"] ["_law_block_here"] (Am GR):=by trivial
abbrev FR:Stmt:=top 81
theorem Bb:FnScope ["_law_some","_law_held","_law_counts","_law_block_here","_law_tag","_law_other","_law_blocks","_law_waiting"] ["_law_some","_law_held"] (Am FR):=by trivial
abbrev GZ:Stmt:=top 82
theorem OR:FnScope ["_law_boards","_law_tag","_law_many"] ["_law_boards","_law_tag","_law_many"] (Am GZ):=by trivial
abbrev G5:Stmt:=top 83
theorem Jj:FnScope ["_law_boards","_law_pool","_law_due","_law_many","_law_ahead"] ["_law_boards","_law_pool","_law_due","_law_many"] (Am G5):=by trivial
abbrev D8:Stmt:=top 84
theorem CO:FnScope ["_law_boards","_law_pool","_law_due","_law_writes","_law_refused","_law_found"] ["_law_boards","_law_pool","_law_due","_law_writes"] (Am D8):=by trivial
abbrev Uq:Stmt:=top 85
theorem BS:FnScope ["_law_script","_law_many","_law_boards","_law_pool","_law_some","_law_held","_law_laid_here","_law_birth","_law_cell","_law_row_here","_law_way","_law_block_here","_law_tag","_law_due"] ["_law_script"] (Am Uq):=by trivial
structure Txt (K:W.Frag) (mg:Str->Option Value) (Ab:Addr) (Ad:Addr) (Aa:Addr) (Af:Addr) (XC:Nat->Addr):Prop where
 cl_WordReader:Cls K Ab
 n_WordReader_words:AS K Ab "words"
 n_WordReader_place:AS K Ab "place"
 cl_Boards:Cls K Ad
 n_Boards_shelves:AS K Ad "shelves"
 n_Boards_writes:AS K Ad "writes"
 n_Boards_writes_left:AS K Ad "writes_left"
 cl_TakenCell:Cls K Aa
 n_TakenCell_own_tag:AS K Aa "own_tag"
 n_TakenCell_own_size:AS K Aa "own_size"
 n_TakenCell_named:AS K Aa "named"
 n_TakenCell_times_named:AS K Aa "times_named"
 n_TakenCell_entries_beneath:AS K Aa "entries_beneath"
 n_TakenCell_steps_beneath:AS K Aa "steps_beneath"
 cl_Pool:Cls K Af
 n_Pool_boards:AS K Af "boards"
 n_Pool_taken:AS K Af "taken"
 n_Pool_by_sums:AS K Af "by_sums"
 n_Pool_draft:AS K Af "draft"
 n_Pool_first_maybe_free:AS K Af "first_maybe_free"
 x_Stopped:mg "Stopped"=some (.ref (XC 0))
 x_Lost:mg "Lost"=some (.ref (XC 1))
 x_NoThing:mg "NoThing"=some (.ref (XC 2))
 q_Stopped:aA K (XC 0)
 m_Stopped_Stopped:ah K (XC 0) (XC 0) true
 b_abs:mg "abs"=none
 b_all:mg "all"=none
 b_bool:mg "bool"=none
 b_dict:mg "dict"=none
 b_enumerate:mg "enumerate"=none
 b_int:mg "int"=none
 b_isinstance:mg "isinstance"=none
 b_len:mg "len"=none
 b_list:mg "list"=none
 b_max:mg "max"=none
 b_min:mg "min"=none
 b_range:mg "range"=none
 b_set:mg "set"=none
 b_sorted:mg "sorted"=none
 b_str:mg "str"=none
 b_sum:mg "sum"=none
 b_tuple:mg "tuple"=none
 c_SIGNS:∃t,mg "SIGNS"=some (.str (PySem.Str.ofString " !\"#$&'()*+,-./0123456789:;<=>?@ABCDEFGHIJKLMNOPQRSTUVWXYZ[\\]^_`abcdefghijklmnopqrstuvwxyz{|}~") t)
 c_MOST_NUMBER:∃t,mg "MOST_NUMBER"=some (.int 999999999 t)
 c_MOST_SIGNS:∃t,mg "MOST_SIGNS"=some (.int 400 t)
 c_MOST_PARTS:∃t,mg "MOST_PARTS"=some (.int 100 t)
 c_MOST_DEEP:∃t,mg "MOST_DEEP"=some (.int 8 t)
 c_NUMBER_WORD:∃t,mg "NUMBER_WORD"=some (.int 0 t)
 c_TEXT_WORD:∃t,mg "TEXT_WORD"=some (.int 1 t)
 c_TUPLE_WORD:∃t,mg "TUPLE_WORD"=some (.int 2 t)
 c_PIECE:∃t,mg "PIECE"=some (.int 0 t)
 c_ROW:∃t,mg "ROW"=some (.int 1 t)
 c_FOLDER:∃t,mg "FOLDER"=some (.int 2 t)
 c_FILE_ENTRY:∃t,mg "FILE_ENTRY"=some (.int 1 t)
 c_FOLDER_ENTRY:∃t,mg "FOLDER_ENTRY"=some (.int 2 t)
 c_NAME_SIGNS:∃t,mg "NAME_SIGNS"=some (.str (PySem.Str.ofString "0123456789abcdefghijklmnopqrstuvwxyz") t)
 c_MOST_NAME_SIGNS:∃t,mg "MOST_NAME_SIGNS"=some (.int 8 t)
 c_MOST_CELL:∃t,mg "MOST_CELL"=some (.int 999999 t)
 c_MOST_BIRTH:∃t,mg "MOST_BIRTH"=some (.int 999999999 t)
 c_SUM_RESTS:∃t,mg "SUM_RESTS"=some (.int 997 t)
 c_MOST_PIECE_SIGNS:∃t,mg "MOST_PIECE_SIGNS"=some (.int 8 t)
 c_MOST_LEVEL:∃t,mg "MOST_LEVEL"=some (.int 9 t)
 c_MOST_TAGS:∃t,mg "MOST_TAGS"=some (.int 8 t)
 c_MOST_ENTRIES:∃t,mg "MOST_ENTRIES"=some (.int 16 t)
 c_MARK_RESTS:∃t,mg "MARK_RESTS"=some (.int 2147483647 t)
 c_LEAST_BOARDS:∃t,mg "LEAST_BOARDS"=some (.int 2 t)
 c_MOST_BOARDS:∃t,mg "MOST_BOARDS"=some (.int 4 t)
theorem DI {t:TS}{D:Ends}{σ:St}{H:Hp}(h:∀E,D=E->t E σ H):t D σ H:=h _ rfl
theorem AQ {t u:TS}{D:Ends}{σ:St}{H:Hp}(h:∀N,u D=N->t { D with nx:=N } σ H):Wn t u D σ H:=h _ rfl
abbrev SG:Str:=PySem.Str.ofString " !\"#$&'()*+,-./0123456789:;<=>?@ABCDEFGHIJKLMNOPQRSTUVWXYZ[\\]^_`abcdefghijklmnopqrstuvwxyz{|}~"
theorem UI:SG.cps.toList.length=94:=by decide +kernel
theorem RS:SG.length<=sizeLine:=small (by decide +kernel)
theorem WN:∀k:Nat,k<94->PySem.Txt.find SG ⟨#[SG.cps.toList.getD k 0]⟩=(k:Int):=by decide +kernel
theorem Zz {i:Int}(h0:0<=i)(h1:i<94):Kw SG.cps.toList i=some (SG.cps.toList.getD i.toNat 0):=by
 have hk:i.toNat<SG.cps.toList.length:=by rw[UI];omega
 have q:Kw SG.cps.toList ((i.toNat:Nat):Int)=some (SG.cps.toList.getD i.toNat 0):=Jn (by rw[aW hk];simp only[List.getD,List.getElem?_eq_getElem hk,Option.getD_some]);have ek:((i.toNat:Nat):Int)=i:=by omega
 rw[ek] at q;exact q
section
variable {P:Program}{w:World}{K:W.Frag}{mg:Str->Option Value}{base:Heap}{f Ab Ad Aa Af:Addr}{XC:Nat->Addr}{fd:FuncData}
def CY (K:W.Frag):Sp:=λvs H Q _=>∃v,vs=[v]/\Ok H v/\Q (.bl (GW H v)) H
theorem Pn (T:Txt K mg Ab Ad Aa Af XC)(F:Fun K "is_whole" "is_whole" HQ f fd):FnOk P w K mg base BO 1 f fd ["thing"] (CY K):=by
 exists O9
 ·obtain⟨c,rfl,_⟩:=h;rfl
 obtain⟨v,rfl,ok,q⟩:=h;refine⟨_,(!Ak (!Ao (!Em (!Aq B0 (by rfl) T.b_isinstance Bx (!Ac (pv 0) (!Ac (!Ks rfl T.b_int UK) (!Ai)))) (!FP (!YO (!Aq B0 (by rfl) T.b_isinstance Bx (!Ac (pv 0) (!Ac (!Ks rfl T.b_bool Wr) (!Ai))))))))),?_⟩;exact Lm _ _ (λR q=>⟨_,rfl,_,_,_,_,rfl,ok.ty K,ok.kit K,q⟩) (λ_ R q=>⟨_,rfl,_,_,_,_,rfl,ok.ty K,ok.kit K,_,rfl,q⟩) q
def By (K:W.Frag):Sp:=λvs H Q _=>∃v a b,vs=[v,.int a,.int b]/\Ok H v/\Q (.bl (JN a b v)) H
theorem Nb (T:Txt K mg Ab Ad Aa Af XC)(F:Fun K "is_between" "is_between" FQ f fd)(Bf:Def P w K mg base 1 "is_whole" ["thing"] (CY K)):FnOk P w K mg base BO 2 f fd ["thing","least","most"] (By K):=by
 exists Ni
 ·obtain⟨v,a,b,rfl,_⟩:=h;rfl
 obtain⟨v,a,b,rfl,ok,q⟩:=h;refine⟨_,(!Ak (!Ao (!Em (!AK Bf (by trivial) rfl (!Ac (pv 0) (!Ai))) (!FP (!T6 R1 R1 (pv 1) (pv 0) (pv 2) (by with_unfolding_all rfl)))))),?_⟩;refine Lm (GW H v) (JN a b v) (λR q=>⟨_,rfl,v,rfl,ok,q⟩) (λhw R q=>?_) ?_
 ·obtain⟨i,rfl⟩:=UV ok hw;refine⟨_,rfl,_,rfl,_,_,rfl,rfl,_,rfl,?_⟩;refine Co (λc=>?_) (λc=>?_)
  ·have e:JN a b (.int i)=decide (i<=b):=by show(decide (a<=i)&&decide (i<=b))=_;rw[c];rfl
   rw[e] at q;exact⟨_,rfl,_,_,rfl,rfl,q⟩
  ·have e:JN a b (.int i)=false:=by show(decide (a<=i)&&decide (i<=b))=_;rw[gO.mpr c];rfl
   rw[e] at q;exact q
 ·cases hw:GW H v with
  |true=>exact q
  |false=>rw[WT hw] at q;exact q
def BE (t:Str)(z:Str):Bool:=(Cf z).all λc=>decide (c∈Cf t)
def Gh (a b:Int):V->Bool
 | .str z=>decide (a<=(z.length:Int))&&decide ((z.length:Int)<=b)&&BE SG z
 |_=>false
theorem VM {H:Hp}{v:V}{a b:Int}(h:isA (Hk H v) "str"=false):Gh a b v=false:=by
 cases v with
 |str z=>exact absurd (show isA "str" "str"=false from h) (by decide)
 |_=>rfl
def IB (K:W.Frag):Sp:=λvs H Q _=>∃v a b,vs=[v,.int a,.int b]/\Ok H v/\∀H',Ap H H'->Q (.bl (Gh a b v)) H'
theorem NR (t z:Str):((Cf z).map λc=>V.str ⟨#[c]⟩).map (λv=>match v with|V.str y=>V.bl (!(Builtin.Str.occurrences t y 0 t.length 1).isEmpty)|_=>V.non)=((Cf z).map λc=>decide (c∈Cf t)).map V.bl:=by
 rw[bw,bw];refine cD λc _=>?_
 show V.bl (!(Builtin.Str.occurrences t ⟨#[c]⟩ 0 t.length 1).isEmpty)=V.bl (decide (c∈Cf t));rw[PySem.StrLaws.found_one]
theorem Qx (T:Txt K mg Ab Ad Aa Af XC)(F:Fun K "is_text" "is_text" JV f fd):FnOk P w K mg base BO 1 f fd ["thing","least","most"] (IB K):=by
 exists Qp
 ·obtain⟨v,a,b,rfl,_⟩:=h;rfl
 obtain⟨v,a,b,rfl,ok,q⟩:=h;refine⟨_,(!Ah (!AM (@PW.pt _ _ _ (!EU (!BL (!BC (!Aq B0 (by rfl) T.b_isinstance Bx (!Ac (pv 0) (!Ac (!Ks rfl T.b_str UT) (!Ai)))) (by intro _;rfl))) (!Du (!BL (!UG R1 R1 (pv 1) (!Aq F6 (by rfl) T.b_len Bl (!Ac (pv 0) (!Ai))) (pv 2) (by with_unfolding_all rfl)))))) (!Ak (!Ao (!DF))) (!Av)) (!Ak (!Ao (!Aq (Fu rfl) (by rfl) T.b_all JL (!Ac (@Br _ ["sign"] _ _ _ _ _ _ _ _ _ _ rfl (!MO (pv 0)) (by decide +kernel) (λC s H fp=>⟨(@An _ _ (0) _ (show(["sign"]:List Str).Nodup by decide +kernel) rfl (by trivial) (by trivial)),(!AU),(!B9 NJ (pv 0) (!Gz rfl T.c_SIGNS))⟩) (by intro _;rfl)) (!Ai)))))),?_⟩;refine⟨_,rfl,_,_,_,_,rfl,ok.ty K,ok.kit K,_,rfl,?_⟩;cases hw:isA (Hk H v) "str" with
 |false=>
  refine BA rfl ?_;have:=q H (Ap.refl _);rw[VM hw] at this;exact this
 |true=>
  refine AJ rfl ?_;obtain⟨z,rfl,hz⟩:=YA ok hw;have zl:=BP z;refine⟨_,rfl,_,rfl,_,rfl,small (by omega),_,_,rfl,rfl,_,rfl,?_⟩;refine Co (λc=>?_) (λc=>?_)
  ·refine⟨_,rfl,_,_,rfl,rfl,_,rfl,?_⟩;refine Co (λd=>?_) (λd=>?_)
   ·have d':decide ((z.length:Int)<=b)=false:=by simpa using d
    have e:Gh a b (.str z)=false:=by show(decide (a<=(z.length:Int))&&decide ((z.length:Int)<=b)&&BE SG z)=_;rw[d',Bool.and_false];rfl
    have:=q H (Ap.refl _);rw[e] at this;exact this
   ·have d':decide ((z.length:Int)<=b)=true:=by simpa using d
    refine⟨_,rfl,z,rfl,?_⟩;refine comp_map (λv=>match v with | .str y=>.bl (!(Builtin.Str.occurrences SG y 0 SG.length 1).isEmpty)|_=>.non) GA (by rw[aS];exact bQ (eW zl) (by omega)) (λx H' R hx s' hR=>?_) λl H7 n7 s7 h7=>?_
    ·obtain⟨u,_,rfl⟩:=aT.mp hx;exact⟨_,rfl,_,_,rfl,rfl,hR H' (Ap.refl _)⟩
    rw[NR] at h7;refine⟨l,_,rfl,AI.of h7,?_⟩;have e:Gh a b (.str z)=((Cf z).map λc=>decide (c∈Cf SG)).all id:=by
     show(decide (a<=(z.length:Int))&&decide ((z.length:Int)<=b)&&BE SG z)=_;unfold BE;rw[c,d',gL];rfl
    have:=q H7 s7;rw[e] at this;exact this
  ·have c':decide (a<=(z.length:Int))=false:=gO.mpr c;have e:Gh a b (.str z)=false:=by show(decide (a<=(z.length:Int))&&decide ((z.length:Int)<=b)&&BE SG z)=_;rw[c',Bool.false_and];rfl
   have:=q H (Ap.refl _);rw[e] at this;exact⟨_,rfl,this⟩
abbrev NS:Str:=PySem.Str.ofString "0123456789abcdefghijklmnopqrstuvwxyz"
abbrev LN:Str:=PySem.Str.ofString "abcdefghijklmnopqrstuvwxyz0123456789"
theorem Uu:(∀c∈Cf NS,c∈Cf LN)/\∀c∈Cf LN,c∈Cf NS/\c∈Cf SG:=by decide +kernel
def Hy:V->Bool
 | .str z=>decide ((1:Int)<=z.length)&&decide ((z.length:Int)<=8)&&BE LN z
 |_=>false
theorem ND (z:Str):(BE SG z&&BE NS z)=BE LN z:=by
 unfold BE;rw[cq,bL,bX,bX,bX];simp only[decide_eq_true_eq];exact⟨λh c hc=>Uu.1 c (h.2 c hc),λh=>⟨λc hc=>(Uu.2 c (h c hc)).2,λc hc=>(Uu.2 c (h c hc)).1⟩⟩
theorem Td (v:V):Hy v=match v with | .str z=>Gh 1 8 v&&BE NS z|_=>false:=by
 cases v with
 |str z=>
  show(decide ((1:Int)<=z.length)&&decide ((z.length:Int)<=8)&&BE LN z)=((decide ((1:Int)<=(z.length:Int))&&decide ((z.length:Int)<=8)&&BE SG z)&&BE NS z);rw[<-ND z];simp only[Bool.and_assoc]
 |_=>rfl
def Lq (K:W.Frag):Sp:=λvs H Q _=>∃v,vs=[v]/\Ok H v/\∀H',Ap H H'->Q (.bl (Hy v)) H'
theorem QZ (T:Txt K mg Ab Ad Aa Af XC)(F:Fun K "is_name" "is_name" J4 f fd)(D0:Def P w K mg base 1 "is_text" ["thing","least","most"] (IB K)):FnOk P w K mg base BO 2 f fd ["thing"] (Lq K):=by
 exists QA
 ·obtain⟨v,rfl,_⟩:=h;rfl
 obtain⟨v,rfl,ok,q⟩:=h;refine⟨_,(!Ak (!Ao (!Em (!AK D0 (by trivial) rfl (!Ac (pv 0) (!Ac (!Aj) (!Ac (!AH rfl T.c_MOST_NAME_SIGNS) (!Ai))))) (!FP (!Aq (Fu rfl) (by rfl) T.b_all JL (!Ac (@Br _ ["sign"] _ _ _ _ _ _ _ _ _ _ rfl (!MO (pv 0)) (by decide +kernel) (λC s H fp=>⟨(@An _ _ (0) _ (show(["sign"]:List Str).Nodup by decide +kernel) rfl (by trivial) (by trivial)),(!AU),(!B9 NJ (pv 0) (!Gz rfl T.c_NAME_SIGNS))⟩) (by intro _;rfl)) (!Ai))))))),?_⟩;refine⟨_,rfl,v,1,8,rfl,ok,λH1 s1=>⟨_,rfl,?_⟩⟩;have en:=Td v;refine Co (λc=>?_) (λc=>?_)
 ·cases v with
  |str z=>
   have hz:z.length<=1000:=ok;have zl:=BP z;refine⟨_,rfl,z,rfl,?_⟩;refine comp_map (λv=>match v with | .str y=>.bl (!(Builtin.Str.occurrences NS y 0 NS.length 1).isEmpty)|_=>.non) GA (by rw[aS];exact bQ (eW zl) (by omega)) (λx H' R hx s' hR=>?_) λl H7 n7 s7 h7=>?_
   ·obtain⟨u,_,rfl⟩:=aT.mp hx;exact⟨_,rfl,_,_,rfl,rfl,hR H' (Ap.refl _)⟩
   rw[NR] at h7;refine⟨l,_,rfl,AI.of h7,?_⟩;have e:Hy (.str z)=((Cf z).map λc=>decide (c∈Cf NS)).all id:=by
    rw[en];show(Gh 1 8 (.str z)&&BE NS z)=_;rw[c];unfold BE;rw[gL];rfl
   have:=q H7 (s1.trans s7);rw[e] at this;exact this
  |_=>exact absurd (show false=true from c) bC
 ·have e:Hy v=false:=by
   rw[en];cases v with
   |str z=>show(Gh 1 8 (.str z)&&BE NS z)=false;rw[gO.mpr c];rfl
   |_=>rfl
  have:=q H1 s1;rw[e] at this;exact this
def SF (H:Hp)(v:V)(n:Int):Bool:=match v with
 | .ref a=>match H a with
  |some (.tup xs)=>decide ((xs.length:Int)=n)
  |_=>false
 |_=>false
theorem IP {H:Hp}{a:Addr}{xs:List V}{n:Int}(h:H a=some (.tup xs)):SF H (.ref a) n=decide ((xs.length:Int)=n):=by simp only[SF,h]
theorem W6 {H:Hp}{v:V}{n:Int}(ok:Ok H v)(h:isA (Hk H v) "tuple"=false):SF H v n=false:=by
 refine ok.elim (λe _=>?_) (λ_ e _=>?_) (λ_ e _=>?_) (λ_ e _ _=>?_) (λa xs e e2 _=>?_) (λ_ _ _ _ e=>?_)
 ·rw[e];rfl
 ·rw[e];rfl
 ·rw[e];rfl
 ·rw[e];rfl
 ·rw[e];simp only[SF,e2]
 ·rw[e] at h;exact absurd h (by decide)
def C6 (K:W.Frag):Sp:=λvs H Q _=>∃v n,vs=[v,.int n]/\Ok H v/\Q (.bl (SF H v n)) H
theorem MF (T:Txt K mg Ab Ad Aa Af XC)(F:Fun K "is_tuple_of" "is_tuple_of" E9 f fd):FnOk P w K mg base BO 1 f fd ["thing","many"] (C6 K):=by
 exists Me
 ·obtain⟨v,n,rfl,_⟩:=h;rfl
 obtain⟨v,n,rfl,ok,q⟩:=h;refine⟨_,(!Ak (!Ao (!Em (!Aq B0 (by rfl) T.b_isinstance Bx (!Ac (pv 0) (!Ac (!Ks rfl T.b_tuple EG) (!Ai)))) (!FP (!B9 Bg (!Aq AB (by rfl) T.b_len Bl (!Ac (pv 0) (!Ai))) (pv 1) (Ay _)))))),?_⟩;refine Lm (isA (Hk H v) "tuple") (SF H v n) (λR q=>⟨_,rfl,_,_,_,_,rfl,ok.ty K,ok.kit K,q⟩) (λhw R q=>?_) ?_
 ·obtain⟨a,xs,rfl,e⟩:=T4 ok hw;rw[IP e] at q;refine⟨_,rfl,a,xs,rfl,.inr (AV.of e),_,rfl,rfl,?_⟩;rw[Hq,Bool.beq_eq_decide_eq];exact q
 ·cases hw:isA (Hk H v) "tuple" with
  |true=>exact q
  |false=>rw[W6 ok hw] at q;exact q
def Df (K:W.Frag):Sp:=λvs H Q _=>∃u:Str,vs=[.str u]/\0<=PySem.Txt.find SG u/\Q (.int (PySem.Txt.find SG u)) H
theorem OI (T:Txt K mg Ab Ad Aa Af XC)(F:Fun K "number_of" "number_of" GT f fd):FnOk P w K mg base BO 1 f fd ["sign"] (Df K):=by
 exists Ov
 ·obtain⟨u,rfl,_⟩:=h;rfl
 obtain⟨u,rfl,h0,q⟩:=h;refine⟨_,(!Ak (!Ao (!Gd iG PySem.F.slot_str_index PySem.F.type_str_index (TZ rfl) (!Gz rfl T.c_SIGNS) (!Ac (pv 0) (!Ai))))),?_⟩;exact⟨rfl,_,rfl,_,_,rfl,rfl,h0,q⟩
def Lw (K:W.Frag):Sp:=λvs H Q _=>∃i:Int,vs=[.int i]/\0<=i/\i<94/\Q (.str ⟨#[SG.cps.toList.getD i.toNat 0]⟩) H
theorem QG (T:Txt K mg Ab Ad Aa Af XC)(F:Fun K "sign_of" "sign_of" J9 f fd):FnOk P w K mg base BO 1 f fd ["number"] (Lw K):=by
 exists QF
 ·obtain⟨u,rfl,_⟩:=h;rfl
 obtain⟨i,rfl,h0,h1,q⟩:=h;refine⟨_,(!Ak (!Ao (!Aw OG (!Gz rfl T.c_SIGNS) (pv 0) (λ_ _=>rfl)))),?_⟩;exact⟨_,rfl,_,_,_,rfl,rfl,RS,Zz h0 h1,q⟩
def CD:Nat->Tr->Bool
 |0,_=>false
 |_+1,.int i=>decide (0<=i)&&decide (i<=999999999)
 |_+1,.str z=>decide ((z.length:Int)<=400)&&BE SG z
 |n+1,.tup ts=>decide (ts.length<=100)&&ts.all (CD n)
 |_+1,_=>false
def All:Addr->Prop:=λ_=>True
def NL:Addr->Prop:=λ_=>False
mutual
theorem Cd {H H':Hp}(k:∀c xs,H c=some (.tup xs)->H' c=some (.tup xs)):∀(t:Tr) (v:V),Rep NL H t v->Rep NL H' t v
 | .non,_,h=>h
 | .bl _,_,h=>h
 | .int _,_,h=>h
 | .str _,_,h=>h
 | .tup ts,_,⟨a,vs,e,ha,hr⟩=>⟨a,vs,e,k a _ ha,AX k ts vs hr⟩
 | .lst _,_,⟨_,_,_,fa,_⟩=>fa.elim
theorem AX {H H':Hp}(k:∀c xs,H c=some (.tup xs)->H' c=some (.tup xs)):∀(ts:List Tr) (vs:List V),AA NL H ts vs->AA NL H' ts vs
 |[],_,h=>h
 |t::ts,_,⟨v,us,e,h1,h2⟩=>⟨v,us,e,Cd k t v h1,AX k ts us h2⟩
end
theorem Hl {H:Hp}{t:Tr}{v:V}(h:Rep NL H t v):Rep All H t v:=Rep.mono (λ_ z=>z.elim) t v h
mutual
theorem QM:∀(n:Nat) (t:Tr),CD n t=true->t.ok
 |0,_,h=>nomatch h
 |n+1,.non,h=>nomatch h
 |n+1,.bl _,h=>nomatch h
 |n+1,.int _,_=>trivial
 |n+1,.str z,h=>by
  have h':(decide ((z.length:Int)<=400)&&BE SG z)=true:=h;rw[bL,bq] at h';show z.length<=1000;omega
 |n+1,.tup ts,h=>by
  have h':(decide (ts.length<=100)&&ts.all (CD n))=true:=h;rw[bL,bq] at h';exact⟨by omega,Ru n ts h'.2⟩
 |n+1,.lst _,h=>nomatch h
theorem Ru:∀(n:Nat) (ts:List Tr),ts.all (CD n)=true->Tr.oks ts
 |_,[],_=>trivial
 |n,t::ts,h=>by
  rw[gy,bL] at h;exact⟨QM n t h.1,Ru n ts h.2⟩
end
def idx (c:Nat):Int:=PySem.Txt.find SG ⟨#[c]⟩
theorem Iy {c:Nat}(h:c∈Cf SG):0<=idx c/\idx c<94/\SG.cps.toList.getD (idx c).toNat 0=c:=by
 obtain⟨k,hk,e⟩:=eM (show c∈SG.cps.toList from h);have hk':k<94:=by rw[UI] at hk;exact hk
 have eg:SG.cps.toList.getD k 0=c:=by simp only[List.getD,List.getElem?_eq_getElem hk,Option.getD_some];exact e
 have:=WN k hk';rw[eg] at this;have ei:idx c=(k:Int):=this;rw[ei];exact⟨by omega,by omega,eg⟩
mutual
def wT:Tr->List Int
 | .int i=>[0,i]
 | .str z=>1::(z.length:Int)::(Cf z).map idx
 | .tup ts=>2::(ts.length:Int)::wTs ts
 |_=>[]
def wTs:List Tr->List Int
 |[]=>[]
 |t::ts=>wT t++wTs ts
end
theorem Lk:∀(a b:List Tr),wTs (a++b)=wTs a++wTs b
 |[],_=>rfl
 |t::a,b=>by
  show wT t++wTs (a++b)=(wT t++wTs a)++wTs b;rw[Lk a b,cn]
theorem IS {ts:List Tr}{i:Nat}{t:Tr}(h:ts[i]?=some t):wTs (ts.take (i+1))=wTs (ts.take i)++wT t:=by
 rw[bN,h,Lk];show wTs (ts.take i)++(wT t++[])=_;rw[cm]
theorem X1 {ts:List Tr}(i:Nat):(wTs (ts.take i)).length<=(wTs ts).length:=by
 have:=congrArg List.length (Lk (ts.take i) (ts.drop i));rw[iS,bx] at this;omega
theorem Xa {ts:List Tr}{i:Nat}{t:Tr}(h:ts[i]?=some t):(wTs (ts.take i)).length+(wT t).length<=(wTs ts).length:=by
 have:=X1 (ts:=ts) (i+1);rw[IS h,bx] at this;exact this
theorem Ll {n:Nat}{z:Str}(h:CD n (.str z)=true):z.length<=400/\∀c∈Cf z,c∈Cf SG:=by
 cases n with
 |zero=>cases h
 |succ n=>
  have h':(decide ((z.length:Int)<=400)&&BE SG z)=true:=h;rw[bL,bq] at h';refine⟨by omega,λc hc=>?_⟩;have:=bX.mp h'.2 c hc;simpa using this
theorem Cy {n:Nat}{ts:List Tr}(h:CD (n+1) (.tup ts)=true):ts.length<=100/\∀(i:Nat) t,ts[i]?=some t->CD n t=true:=by
 have h':(decide (ts.length<=100)&&ts.all (CD n))=true:=h;rw[bL,bq] at h';exact⟨h'.1,λi t ht=>bX.mp h'.2 t (a8 ht)⟩
theorem U9 (ts:List Tr):wT (.tup ts)=2::(ts.length:Int)::wTs ts:=rfl
theorem Yh (z:Str):wT (.str z)=1::(z.length:Int)::(Cf z).map idx:=rfl
def RL (n:Nat)(K:W.Frag):Sp:=λvs H Q _=>∃(v:V) (t:Tr),vs=[v]/\Rep NL H t v/\CD n t=true/\(wT t).length<=900000/\∀l H',Ap H H'->H l=none->H' l=some (.lst ((wT t).map V.int))->Q (.ref l) H'
def G0 (K:W.Frag):Sp:=RL 8 K
theorem WJ (T:Txt K mg Ab Ad Aa Af XC)(F:Fun K "words_of" "words_of" Eh f fd)(Bf:Def P w K mg base 1 "is_whole" ["thing"] (CY K))(Bj:Def P w K mg base 1 "number_of" ["sign"] (Df K))(n:Nat)(Cg:Def P w K mg base (1+n) "words_of" ["thing"] (RL n K)):FnOk P w K mg base BO (1+n+1) f fd ["thing"] (RL (n+1) K):=by
 exists EM
 ·obtain⟨v,t,rfl,_⟩:=h;rfl
 obtain⟨v,t,rfl,hv,ht,hw,q⟩:=h;have ok:=QM _ _ ht;have okv:=(Hl hv).ok ok;have ety:=(Hl hv).tyN;refine⟨_,(!Ah (!AM (!BC (!AK Bf (hr.mono (by omega)) rfl (!Ac (pv 0) (!Ai))) (by intro _;rfl)) (!Ak (!Ao (!BJ (!Ac (!AH rfl T.c_NUMBER_WORD) (!Ac (pv 0) (!Ai)))))) (!Av)) (!Ah (!AM (!BC (!Aq B0 (by rfl) T.b_isinstance Bx (!Ac (pv 0) (!Ac (!Ks rfl T.b_str UT) (!Ai)))) (by intro _;rfl)) (!Ak (!Ao (!As Lj (!BJ (!Ac (!AH rfl T.c_TEXT_WORD) (!Ac (!Aq F6 (by rfl) T.b_len Bl (!Ac (pv 0) (!Ai))) (!Ai)))) (@Br _ ["sign"] _ _ _ _ _ _ _ _ _ _ rfl (!MO (pv 0)) (by decide +kernel) (λC s H fp=>⟨(@An _ _ (0) _ (show(["sign"]:List Str).Nodup by decide +kernel) rfl (by trivial) (by trivial)),(!AU),(!AK Bj (hr.mono (by omega)) rfl (!Ac (pv 0) (!Ai)))⟩) (by intro _;rfl))))) (!Av)) (!Ah (@AD _ _ (1) _ _ _ _ EM.nd rfl (by trivial) (!BJ (!Ac (!AH rfl T.c_TUPLE_WORD) (!Ac (!Aq AB (by rfl) T.b_len Bl (!Ac (pv 0) (!Ai))) (!Ai)))) (by rfl) (by trivial)) (!Ah (!B2 b5 rfl (!Ds (pv 0)) (@An _ _ (2) _ EM.nd rfl (by trivial) (by trivial)) (!Ak (!A6 (!Gd b7 eP eO Hn (pv 1) (!Ac (!AK Cg (hr.mono (by omega)) rfl (!Ac (pv 2) (!Ai))) (!Ai))))) (by intro _;rfl)) (!Ak (!Ao (pv 1))))))),?_⟩;refine⟨_,rfl,v,rfl,okv,_,rfl,?_⟩;cases t with
 |int i=>
  cases(show v=V.int i from hv);refine BA rfl ?_;exact⟨_,rfl,MH,λl hl=>q l _ (Al hl _) hl Ae⟩
 |str z=>
  cases(show v=V.str z from hv);obtain⟨zl,zs⟩:=Ll ht;have zc:=BP z;refine AJ rfl ?_;refine⟨_,rfl,_,_,_,_,rfl,okv.ty K,okv.kit K,_,rfl,BA (by rw[ety];show isA "str" "str"=true;decide) ?_⟩;refine⟨_,rfl,_,rfl,small (by omega),MH,λp1 hp1=>?_⟩;refine⟨_,rfl,z,rfl,?_⟩;refine comp_map (λv=>match v with | .str y=>.int (PySem.Txt.find SG y)|_=>.non) GA (by rw[aS];exact bQ (eW zc) (by omega)) (λx H' R hx s' hR=>?_) λl H7 n7 s7 h7=>?_
  ·obtain⟨u,hu,rfl⟩:=aT.mp hx;exact⟨_,rfl,_,rfl,(Iy (zs u hu)).1,hR H' (Ap.refl _)⟩
  have e7:((z.cps.toList.map λc=>V.str ⟨#[c]⟩).map λv=>match v with|V.str y=>V.int (PySem.Txt.find SG y)|_=>V.non)=((Cf z).map idx).map V.int:=by
   rw[bw,bw];rfl
  rw[e7] at h7;have s1:=Al hp1 (.lst [V.int 1,V.int (z.length:Int)]);refine⟨p1,l,_,_,rfl,rfl,AI.of (s7.get Ae),AI.of h7,small (by rw[aS,aS];show 2+_<=_;omega),λp hp=>?_⟩;exact q p _ ((s1.trans s7).trans (Al hp _)) ((s1.trans s7).free hp) Ae
 |tup ts=>
  obtain⟨a,vs,rfl,ha,hr'⟩:=hv;have lv:=AA.len ts vs hr';obtain⟨tl,tt⟩:=Cy ht;rw[U9] at hw q;have hw2:(wTs ts).length<=899998:=by simp only[List.length_cons] at hw;omega
  refine AJ (by unfold GW;rw[ety];rfl) ?_;refine⟨_,rfl,_,_,_,_,rfl,okv.ty K,okv.kit K,_,rfl,AJ (by rw[ety];show isA "tuple" "str"=false;decide) ?_⟩;refine⟨_,rfl,a,_,rfl,.inr (AV.of ha),MH,λg hg=>?_⟩;rw[lv];refine⟨_,rfl,a,rfl,⟨_,AV.of ((Al hg _).get ha)⟩,Lg (K:=K) (a:=a) (xs:=vs) (λi σ H2=>∃(v2:Option V),σ=[some (.ref a),some (.ref g),v2]/\Ap H H2/\H2 g=some (.lst ((2::(ts.length:Int)::wTs (ts.take i)).map V.int)))
   ⟨none,rfl,Al hg _,Ae⟩ (λi σ H2 _ ⟨_,_,s2,_⟩=>AV.of (s2.get ha)) ?_ ?_⟩
  ·rintro i y σ H2 hi ⟨v2,rfl,s2,hg2⟩
   obtain⟨ty,et,ry⟩:=AA.get hr' hi;have b1:=Xa et;refine⟨_,rfl,.inl ⟨rfl,_,AI.of hg2⟩,_,rfl,y,ty,rfl,Rep.same s2 _ _ ry,tt i ty et,by omega,λl3 H3 s3 n3 h3=>?_⟩;refine⟨g,l3,_,_,rfl,rfl,s3.get hg2,h3,small (by simp only[List.length_map,List.length_cons];omega),?_⟩;refine⟨_,rfl,AW (s2.trans s3) hg _,?_⟩;rw[Ae,<-bA,IS et];rfl
  ·rintro σ H2 ⟨v2,rfl,s2,hg2⟩
   rw[lv,bJ (aZ _)] at hg2;exact⟨_,rfl,q g H2 s2 hg hg2⟩
 |non=>cases n<;>cases ht
 |bl b=>cases n<;>cases ht
 |lst ts=>cases n<;>cases ht
theorem Uc (T:Txt K mg Ab Ad Aa Af XC)(F:Fun K "words_of" "words_of" Eh f fd)(Bf:Def P w K mg base 1 "is_whole" ["thing"] (CY K))(Bj:Def P w K mg base 1 "number_of" ["sign"] (Df K))(hm:mg "words_of"=some (.ref f))(hk:W.keepIn K (.ref f)=true)(hb:Binds K fd ["thing"] []):∀n,FnOk P w K mg base BO (1+n) f fd ["thing"] (RL n K)
 |0=>by
  exists EM
  ·obtain⟨v,t,rfl,_,ht,_⟩:=h;cases ht
  ·obtain⟨v,t,rfl,_,ht,_⟩:=h;cases ht
 |n+1=>WJ T F Bf Bj n ⟨f,fd,Uc T F Bf Bj hm hk hb n,hm,hk,hb⟩
theorem Qe (T:Txt K mg Ab Ad Aa Af XC)(F:Fun K "words_of" "words_of" Eh f fd)(Bf:Def P w K mg base 1 "is_whole" ["thing"] (CY K))(Bj:Def P w K mg base 1 "number_of" ["sign"] (Df K))(hm:mg "words_of"=some (.ref f))(hk:W.keepIn K (.ref f)=true)(hb:Binds K fd ["thing"] []):FnOk P w K mg base BO 9 f fd ["thing"] (G0 K):=
 Uc T F Bf Bj hm hk hb 8
def HV (K:W.Frag):Sp:=λvs H Q _=>∃(a:Addr) (ns:List Int),vs=[.ref a]/\H a=some (.lst (ns.map V.int))/\ns.length<=1000/\∀H',Ap H H'->Q (.int (mk ns)) H'
def fI (i:Nat):V->V
 | .int x=>.int (x*((i:Int)+1))
 |v=>v
theorem Yl (ns:List Int):(List.range (ns.map V.int).length).map (λi=>fI i ((ns.map V.int).getD i .non))=((List.range ns.length).map λi=>ns.getD i 0*((i:Int)+1)).map V.int:=by
 rw[aS,bw];refine cD λi hi=>?_
 have hl:i<ns.length:=cX.mp hi;simp[List.getD,List.getElem?_eq_getElem hl,fI]
theorem QB (T:Txt K mg Ab Ad Aa Af XC)(F:Fun K "mark_of" "mark_of" JT f fd):FnOk P w K mg base BO 1 f fd ["words"] (HV K):=by
 exists Rb
 ·obtain⟨a,ns,rfl,_⟩:=h;rfl
 obtain⟨a,ns,rfl,hS,hlen,q⟩:=h;refine⟨_,(!Ak (!Ao (!As A3 (!Aq (Po rfl) (by rfl) T.b_sum VB (!Ac (@Br _ ["place","word"] _ _ _ _ _ _ _ _ _ _ rfl (!Wc rfl T.b_enumerate (!Ac (pv 0) (!Ai))) (by decide +kernel) (λC s H fp=>⟨(@B3 _ (K) _ _ _ _ (2) (by rfl) rfl (!Ax (@An _ _ (0) _ (show(["place","word"]:List Str).Nodup by decide +kernel) rfl (by trivial) (by trivial)) (!Ax (@An _ _ (1) _ (show(["place","word"]:List Str).Nodup by decide +kernel) rfl (by trivial) (by trivial)) (!Bv))) (by rfl) (by rfl)),(!AU),(!As Eg (pv 1) (pv 0))⟩) (by intro _;rfl)) (!Ai))) (!AH rfl T.c_MARK_RESTS)))),?_⟩;refine⟨_,rfl,a,_,rfl,AI.of hS,?_⟩;refine Te fI hS (by rw[aS];omega) rfl (λi x H' R hx s' hR=>?_) (by decide) λl H' nl s' hl=>?_
 ·obtain⟨z,rfl,hz⟩:=WD hx;have hil:i<ns.length:=(bu.mp hz).1;exact⟨_,rfl,_,rfl,_,_,rfl,rfl,.inr ⟨by omega,by omega⟩,hR H' (Ap.refl _)⟩
 ·rw[Yl] at hl;refine⟨l,_,rfl,AI.of hl,?_⟩;refine⟨_,_,rfl,rfl,(by show(0:Int)<2147483647;decide),?_⟩;rw[Sk];exact q _ s'
def NI (K:W.Frag):Sp:=λvs H Q _=>∃(a:Addr) (ns:List Int),vs=[.ref a]/\H a=some (.lst (ns.map V.int))/\ns.length<=1000/\
 ∀(r:Addr) (H':Hp),Ap H H'->H r=none->H' r=some (.lst ((ns++[mk ns]).map V.int))->Q (.ref r) H'
theorem SW (T:Txt K mg Ab Ad Aa Af XC)(F:Fun K "sealed" "sealed" LO f fd)(DZ:Def P w K mg base 1 "mark_of" ["words"] (HV K)):FnOk P w K mg base BO 2 f fd ["words"] (NI K):=by
 exists Tj
 ·obtain⟨a,ns,rfl,_⟩:=h;rfl
 obtain⟨a,ns,rfl,hS,hlen,q⟩:=h;refine⟨_,(!Ak (!Ao (!As Lj (pv 0) (!BJ (!Ac (!AK DZ (by trivial) rfl (!Ac (pv 0) (!Ai))) (!Ai)))))),?_⟩;refine⟨_,rfl,_,rfl,a,ns,rfl,hS,hlen,λH1 s1=>?_⟩;refine⟨YI,λg hg=>?_⟩;refine⟨a,g,_,_,rfl,rfl,AI.of ((Al hg _).get (s1.get hS)),AI.of Ae,small (by rw[aS];show ns.length+1<=1000000;omega),λp hp=>?_⟩;refine q p _ ((s1.trans (Al hg _)).trans (Al hp _)) (s1.free ((Al hg _).free hp)) ?_;rw[Ae,bA];rfl
def KE (K:W.Frag):Sp:=λvs H Q _=>∃(a:Addr) (ns:List Int),vs=[.ref a]/\H a=some (.lst (ns.map V.int))/\ns.length<=1000/\
 (sound ns=false->∀H',Ap H H'->Q .non H')/\(sound ns=true->∀(r:Addr) (H':Hp),Ap H H'->H r=none->H' r=some (.lst (ns.dropLast.map V.int))->Q (.ref r) H')
def fB:V->V
 | .int x=>.bl (VO x)
 |v=>v
theorem PH (T:Txt K mg Ab Ad Aa Af XC)(F:Fun K "unsealed" "unsealed" HL f fd)(DZ:Def P w K mg base 1 "mark_of" ["words"] (HV K))(AC:Def P w K mg base 2 "is_between" ["thing","least","most"] (By K)):FnOk P w K mg base BO 3 f fd ["row"] (KE K):=by
 exists Kn
 ·obtain⟨a,ns,rfl,_⟩:=h;rfl
 obtain⟨a,ns,rfl,hS,hlen,q0,q1⟩:=h;refine⟨_,(!Ah (!AM (@PW.pt _ _ _ (!EU (!Au Bg (!Aq AB (by rfl) T.b_len Bl (!Ac (pv 0) (!Ai))) (!Aj) (Ay _)) (!Du (!BL (!BC (!Aq (Fu rfl) (by rfl) T.b_all JL (!Ac (@Br _ ["word"] _ _ _ _ _ _ _ _ _ _ rfl (!A0 (pv 0)) (by decide +kernel) (λC s H fp=>⟨(@An _ _ (0) _ (show(["word"]:List Str).Nodup by decide +kernel) rfl (by trivial) (by trivial)),(!AU),(!AK AC (by trivial) rfl (!Ac (pv 0) (!Ac (!Aj) (!Ac (!As FK (!AH rfl T.c_MARK_RESTS) (!Aj)) (!Ai)))))⟩) (by intro _;rfl)) (!Ai))) (by intro _;rfl)))))) (!Ak (!Ao (!Eb))) (!Av)) (!Ah (@AD _ _ (1) _ _ _ _ Kn.nd rfl (by trivial) (!Jc Rv (pv 0) (!Of) (!JD (!XA U1 (!Aj)))) (by rfl) (by trivial)) (!Ah (!AM (!Au Ue (!Aw A7 (pv 0) (!XA U1 (!Aj)) (λ_ _=>rfl)) (!AK DZ (by trivial) rfl (!Ac (pv 1) (!Ai))) (Ay _)) (!Ak (!Ao (!Eb))) (!Av)) (!Ak (!Ao (pv 1)))))),?_⟩;dsimp only[BB,Cx.nox,Cx.wish];refine⟨_,rfl,a,_,rfl,.inl (AI.of hS),rfl,_,rfl,?_⟩;refine Co (λc=>?_) (λc=>?_)
 ·have hn:ns=[]:=by simpa using c
  subst hn;exact ZZ (q0 (by decide) _ (Ap.refl _))
 have hne:ns≠[]:=by simpa using c
 refine⟨_,rfl,a,rfl,⟨_,AI.of hS⟩,?_⟩;refine comp_map fB (C2 (AI.of hS)) (by rw[aS];omega) (λx H' R hx s' hR=>?_) λl H1 nl s1 hl=>?_
 ·obtain⟨u,_,rfl⟩:=aT.mp hx;exact⟨_,rfl,_,_,rfl,rfl,.int u,0,_,rfl,trivial,hR H' (Ap.refl _)⟩
 have el:(ns.map V.int).map fB=(ns.map VO).map V.bl:=by rw[bw,bw];rfl
 rw[el] at hl;refine⟨l,ns.map VO,rfl,AI.of hl,_,rfl,?_⟩;have ea:(ns.map VO).all id=ns.all VO:=by rw[gL];rfl
 rw[ea];refine Co (λc2=>?_) (λc2=>?_)
 ·have hf:sound ns=false:=by
   unfold sound;have:ns.all VO=false:=by simpa using c2
   rw[this];simp
  exact q0 hf _ s1
 have hal:ns.all VO=true:=by
  cases e:ns.all VO with
  |true=>rfl
  |false=>rw[e] at c2;exact absurd rfl c2
 refine⟨_,rfl,_,rfl,_,rfl,a,_,rfl,AI.of (s1.get hS),λp hp=>?_⟩;have ec:JM (ns.map V.int) none (some (-1))=ns.dropLast.map V.int:=by rw[VQ,List.map_dropLast]
 have s2:=s1.trans (Al hp (.lst (ns.dropLast.map V.int)));have eH:upd H1 p (.lst (JM (ns.map V.int) none (some (-1))))=upd H1 p (.lst (ns.dropLast.map V.int)):=by rw[ec]
 rw[show(-(1:Int)) = -1 from rfl,eH];have at1:Kw (ns.map V.int) (-1)=some (.int (ns.getLastD 0)):=by
  have e1:ns=ns.dropLast++[ns.getLast hne]:=(dY hne).symm;have e2:ns.getLastD 0=ns.getLast hne:=by rw[List.getLastD_eq_getLast?,List.getLast?_eq_some_getLast hne];rfl
  rw[e2]
  conv=>lhs;rw[e1]
  rw[bA];exact VL _ _
 refine⟨_,rfl,_,rfl,a,_,_,_,rfl,rfl,AI.of (s2.get hS),at1,_,rfl,p,_,rfl,Ae,by rw[gg];omega,λH3 s3=>?_⟩;refine⟨rfl,_,rfl,?_⟩;refine Co (λc3=>?_) (λc3=>?_)
 ·have hf:sound ns=false:=by
   unfold sound;have:¬ns.getLastD 0=mk ns.dropLast:=by simpa using c3
   rw[bD this];simp
  exact q0 hf _ (s2.trans s3)
 ·have he:ns.getLastD 0=mk ns.dropLast:=by simpa using c3
  have ht:sound ns=true:=by
   unfold sound;rw[hal,bh he,bD hne];rfl
  exact⟨_,rfl,q1 ht p _ (s2.trans s3) (s1.free hp) (s3.get Ae)⟩
theorem LM {g:Array Nat}(hg:g.toList=[]):∀(xs:List Str) (acc:Array Nat),(xs.foldl (λacc p=>acc++g++p.cps) acc).toList=acc.toList++(xs.map Cf).flatten
 |[],acc=>by simp
 |x::xs,acc=>by
  rw[List.foldl_cons,LM hg xs,jd,jd,hg,cm,bg,List.flatten_cons,cn]
theorem Ut {g:Str}(hg:Cf g=[])(ys:List Str):Cf (PySem.Txt.join g ys)=(ys.map Cf).flatten:=by
 unfold PySem.Txt.join PySem.Builtin.Str.glued
 change Array.toList (List.foldl _ _ _)=_
 rw[LM (g:=g.cps) hg];cases ys with
 |nil=>rfl
 |cons y ys=>simp
abbrev Yj:Str:=PySem.Str.ofString ""
def Kp (H H':Hp)(p:Addr):Prop:=∀b o,H b=some o->b≠p->H' b=some o
theorem Kp.refl (H:Hp)(p:Addr):Kp H H p:=λ_ _ e _=>e
theorem Kp.trans {H H1 H2:Hp}{p:Addr}(a:Kp H H1 p)(b:Kp H1 H2 p):Kp H H2 p:=λc o e n=>b c o (a c o e n) n
theorem Kp.put {H:Hp}{p:Addr}(o:HO):Kp H (upd H p o) p:=λc u e n=>by rw[Ag n];exact e
theorem Ap.kp {H H':Hp}(s:Ap H H')(p:Addr):Kp H H' p:=λc o e _=>s c o e
theorem Kp.new {H H':Hp}{p l:Addr}(a:Kp H H' p)(h:H l=none)(o:HO):Kp H (upd H' l o) p:=λc u e n=>by rw[Ag (AG e h)];exact a c u e n
def Ta (wl:Addr)(k:Int):List (Str×V):=[("words",.ref wl),("place",.int k)]
def Ef (K:W.Frag)(Ab:Addr):Sp:=λvs H Q _=>∃(p dx wl:Addr),vs=[.ref p,.ref wl]/\H p=some (.ins Ab dx [])/\Q .non (upd H p (.ins Ab dx (Ta wl 0)))
def BN (K:W.Frag)(Ab:Addr):Sp:=λvs H Q _=>∃(p dx wl:Addr) (ws:List Int) (k:Nat),vs=[.ref p]/\H p=some (.ins Ab dx (Ta wl k))/\H wl=some (.lst (ws.map V.int))/\Q (.bl (decide (k=ws.length))) H
theorem HU (T:Txt K mg Ab Ad Aa Af XC)(F:Fun K "__init__" "WordReader.__init__" Di f fd):FnOk P w K mg base BO 1 f fd ["self","words"] (Ef K Ab):=by
 exists Ig
 ·obtain⟨p,dx,wl,rfl,_⟩:=h;rfl
 obtain⟨p,dx,wl,rfl,h1,q⟩:=h;refine⟨_,(!Ah (!BU (pv 0) (pv 1)) (!Ak (!BU (pv 0) (!Aj)))),?_⟩;refine⟨_,rfl,_,rfl,p,Ab,dx,[],rfl,h1,T.cl_WordReader,T.n_WordReader_words,(by show 0<1000;decide),?_⟩;refine⟨_,rfl,p,Ab,dx,_,rfl,Ae,T.cl_WordReader,T.n_WordReader_place,(by show 1<1000;decide),?_⟩;rw[DV];exact q
theorem E4 (T:Txt K mg Ab Ad Aa Af XC)(F:Fun K "is_through" "WordReader.is_through" BV f fd):FnOk P w K mg base BO 1 f fd ["self"] (BN K Ab):=by
 exists EZ
 ·obtain⟨p,dx,wl,ws,k,rfl,_⟩:=h;rfl
 obtain⟨p,dx,wl,ws,k,rfl,h1,h2,q⟩:=h;refine⟨_,(!Ak (!Ao (!B9 Bg (!AN (pv 0)) (!Aq AB (by rfl) T.b_len Bl (!Ac (!AN (pv 0)) (!Ai))) (Ay _)))),?_⟩;refine⟨_,rfl,p,Ab,dx,_,_,rfl,h1,T.cl_WordReader,T.n_WordReader_place,rfl,_,rfl,p,Ab,dx,_,_,rfl,h1,T.cl_WordReader,T.n_WordReader_words,rfl,wl,_,rfl,.inl (AI.of h2),rfl,?_⟩;have e:decide (V.int (k:Int)=V.int ((ws.map V.int).length:Int))=decide (k=ws.length):=by
  rw[Hq,aS];rw[cq];simp;omega
 rw[e];exact q
theorem Fv {ws:List Int}{k:Nat}{x:Int}{r:List Int}(h:ws.drop k=x::r):ws[k]?=some x/\ws.drop (k+1)=r:=by
 constructor
 ·have:(ws.drop k)[0]?=some x:=by rw[h];rfl
  rw[fF] at this;simpa using this
 ·have:(ws.drop k).drop 1=r:=by rw[h];rfl
  rw[List.drop_drop] at this;exact this
def Bm (K:W.Frag)(Ab:Addr):Sp:=λvs H Q _=>∃(p dx wl:Addr) (ws:List Int) (k:Nat) (x m:Int),vs=[.ref p,.int m]/\H p=some (.ins Ab dx (Ta wl k))/\H wl=some (.lst (ws.map V.int))/\ws[k]?=some x/\0<=x/\x<=m/\
 Q (.int x) (upd H p (.ins Ab dx (Ta wl ((k+1:Nat):Int))))
theorem Gm (T:Txt K mg Ab Ad Aa Af XC)(F:Fun K "word_to" "WordReader.word_to" Cm f fd)(AY:BH P w K mg base 1 Ab "is_through" ["self"] (BN K Ab))(AC:Def P w K mg base 2 "is_between" ["thing","least","most"] (By K)):FnOk P w K mg base BO 3 f fd ["self","most"] (Bm K Ab):=by
 exists Gn
 ·obtain⟨p,dx,wl,ws,k,x,m,rfl,_⟩:=h;rfl
 obtain⟨p,dx,wl,ws,k,x,m,rfl,h1,h2,hx,x0,x1,q⟩:=h;have hk:k<ws.length:=(bu.mp hx).1;have ax:Kw (ws.map V.int) (k:Int)=some (V.int x):=Jn (by rw[bz,hx];rfl);have nwp:wl≠p:=AL h2 h1 (by intro z;cases z);refine⟨_,(!Ah (!AM (@PW.pt _ _ _ (!EU (!BC (!Ce (pv 0) T.cl_WordReader AY) (by intro _;rfl)) (!Du (!BL (!BC (!AK AC (by trivial) rfl (!Ac (!Aw A7 (!AN (pv 0)) (!AN (pv 0)) (λ_ _=>rfl)) (!Ac (!Aj) (!Ac (pv 1) (!Ai))))) (by intro _;rfl)))))) (!Ak (!DG)) (!Av)) (!Ah (!D3 (pv 0) (!Aj) K8) (!Ak (!Ao (!Aw A7 (!AN (pv 0)) (!As FK (!AN (pv 0)) (!Aj)) (λ_ _=>rfl)))))),?_⟩;refine Xx false false (λR q=>⟨_,rfl,p,dx,_,rfl,h1,rfl,p,dx,wl,ws,k,rfl,h1,h2,_,rfl,?_⟩) (λ_ R q=>?_) ?_
 ·rw[bD (by omega)];exact q
 ·refine⟨_,rfl,p,Ab,dx,_,_,rfl,h1,T.cl_WordReader,T.n_WordReader_words,rfl,_,rfl,p,Ab,dx,_,_,rfl,h1,T.cl_WordReader,T.n_WordReader_place,rfl,wl,_,_,_,rfl,rfl,AI.of h2,ax,_,rfl,V.int x,0,m,rfl,trivial,_,rfl,?_⟩;have:JN 0 m (V.int x)=true:=by show(decide (0<=x)&&decide (x<=m))=true;rw[bh x0,bh x1];rfl
  rw[this];exact q
 refine AJ rfl ?_;refine⟨_,rfl,p,Ab,dx,_,_,rfl,h1,T.cl_WordReader,T.n_WordReader_place,rfl,_,_,rfl,rfl,dx,_,h1,(by show 2<1000;decide),?_⟩;have q':Q (.int x) (upd H p (.ins Ab dx (Dp "place" (V.int ((k:Int)+1)) (Ta wl k)))):=q;refine⟨_,rfl,p,Ab,dx,_,_,rfl,Ae,T.cl_WordReader,T.n_WordReader_words,rfl,_,rfl,p,Ab,dx,_,_,rfl,Ae,T.cl_WordReader,T.n_WordReader_place,rfl,_,_,rfl,rfl,wl,_,_,_,rfl,rfl,AI.of (by rw[Ag nwp];exact h2),?_,q'⟩;have:(k:Int)+1-1=(k:Int):=by omega
 show Kw (ws.map V.int) ((k:Int)+1-1)=_;rw[this];exact ax
def DU (K:W.Frag)(Ab:Addr):Sp:=λvs H Q _=>∃(p dx wl:Addr) (ws:List Int) (k:Nat) (z:Str) (r:List Int),vs=[.ref p]/\H p=some (.ins Ab dx (Ta wl k))/\H wl=some (.lst (ws.map V.int))/\ws.drop k=(z.length:Int)::((Cf z).map idx++r)/\z.length<=400/\(∀c∈Cf z,c∈Cf SG)/\
 ∀H',Kp H H' p->H' p=some (.ins Ab dx (Ta wl ((k+1+z.length:Nat):Int)))->Q (.str z) H'
theorem Xm:(SG.length:Int)-1=93:=by decide +kernel
theorem OJ (T:Txt K mg Ab Ad Aa Af XC)(F:Fun K "read_text" "read_text" GI f fd)(Az:BH P w K mg base 3 Ab "word_to" ["self","most"] (Bm K Ab))(JY:Def P w K mg base 1 "sign_of" ["number"] (Lw K)):FnOk P w K mg base BO 4 f fd ["reader"] (DU K Ab):=by
 exists IY
 ·obtain⟨p,dx,wl,ws,k,z,r,rfl,_⟩:=h;rfl
 obtain⟨p,dx,wl,ws,k,z,r,rfl,h1,h2,hd,zl,zs,q⟩:=h;obtain⟨g1,g2⟩:=Fv hd;have zc:=BP z;have nwp:wl≠p:=AL h2 h1 (by intro z;cases z);refine⟨_,(!Ah (@AD _ _ (1) _ _ _ _ IY.nd rfl (by trivial) (!A2 (pv 0) T.cl_WordReader Az (by trivial) (!Ac (!AH rfl T.c_MOST_SIGNS) (!Ai))) (by rfl) (by trivial)) (!Ak (!Ao (!Gd iG PySem.F.slot_str_join PySem.F.type_str_join (Xg rfl) (!Lu) (!Ac (@CM _ ["sign","reader"] [none,some 0] _ _ _ _ _ _ _ _ _ _ _ rfl (!C4 rfl T.b_range (!Ac (pv 1) (!Ai))) (by rfl) rfl (by repeat (first|exact trivial|refine⟨rfl,?_⟩)) (by repeat (first|exact trivial|refine⟨λh=>(by first|exact⟨_,rfl⟩|cases h),?_⟩)) (λC s H fp=>⟨(@An _ _ (0) _ (show(["sign","reader"]:List Str).Nodup by decide +kernel) rfl (by trivial) (by trivial)),(!AU),(!AK JY (by trivial) rfl (!Ac (!A2 (pv 1) T.cl_WordReader Az (by trivial) (!Ac (!As FK (!Aq F6 (by rfl) T.b_len Bl (!Ac (!Gz rfl T.c_SIGNS) (!Ai))) (!Aj)) (!Ai))) (!Ai)))⟩) (by intro _;rfl)) (!Ai)))))),?_⟩;refine⟨_,rfl,p,dx,_,rfl,h1,rfl,p,dx,wl,ws,k,_,400,rfl,h1,h2,g1,by omega,by omega,?_⟩;refine⟨rfl,_,rfl,(z.length:Int),rfl,by omega,by omega,?_⟩;refine OM (xs:=(List.range ((z.length:Int)).toNat).map λ(i:Nat)=>V.int (0+(i:Int))) (λi ys l H'=>Kp (upd H p (.ins Ab dx (Ta wl ((k+1:Nat):Int)))) H' p/\H' p=some (.ins Ab dx (Ta wl ((k+1+i:Nat):Int)))/\ys=((Cf z).take i).map λc=>V.str ⟨#[c]⟩) (by rw[aS,bY];omega) (λi ys l H' _=>QQ) (λl hl=>⟨(Kp.refl _ p).new hl _,by rw[Ag (AG Ae hl)];exact Ae,rfl⟩) (λi x ys l H' R hx hl hl' hlen hI hR=>?_) λl H1 ys n1 hl1 ly hI=>?_
 ·obtain⟨kp,hp,hy⟩:=hI;have hi:i<z.length:=by
   have:=(bu.mp hx).1;rw[aS,bY] at this;omega
  obtain⟨c,hc⟩:∃c,(Cf z)[i]?=some c:=⟨(Cf z)[i]'(by omega),aW _⟩
  obtain⟨i0,i1,i2⟩:=Iy (zs c (a8 hc));have hw':H' wl=some (.lst (ws.map V.int)):=kp wl _ (by rw[Ag nwp];exact h2) nwp;have gx:ws[k+1+i]?=some (idx c):=by
   have:(ws.drop (k+1))[i]?=some (idx c):=by
    rw[g2,cw (by rw[aS];omega),bz,hc];rfl
   rw[fF] at this;exact this
  have npl:l≠p:=AL hl' hp (by intro z;cases z);refine⟨_,rfl,p,dx,_,rfl,hp,rfl,SG,rfl,RS,_,_,rfl,rfl,p,dx,wl,ws,k+1+i,idx c,_,rfl,hp,hw',gx,i0,?_,?_⟩
  ·rw[Xm];omega
  refine⟨idx c,rfl,i0,i1,hR _ _ (by rw[Ag npl];exact hl') ⟨?_,?_,?_⟩⟩
  ·exact(kp.trans (Kp.put _)).new hl _
  ·rw[Ag npl.symm,Ae];rfl
  ·rw[hy,bN,hc,i2];simp
 ·obtain⟨kp,hp,hy⟩:=hI;have ez:z.length=((List.range ((z.length:Int)).toNat).map λ(i:Nat)=>V.int (0+(i:Int))).length:=by rw[aS,bY];omega
  rw[<-ez] at hp hy;rw[bJ (by omega)] at hy;have hy':ys=((Cf z).map λc=>(⟨#[c]⟩:Str)).map V.str:=by rw[hy,bw];rfl
  rw[hy'] at hl1;refine⟨l,Yj,_,rfl,rfl,AI.of hl1,?_,?_⟩
  ·have:(((Cf z).map λc=>(⟨#[c]⟩:Str)).map (·.length)).sum<=(Cf z).length:=by
    generalize Cf z=l
    induction l with
    |nil=>exact aZ _
    |cons c l ih=>
     simp only[List.map_cons,List.sum_cons,List.length_cons];have:(⟨#[c]⟩:Str).length=1:=rfl;omega
   have e0:Yj.length=0:=rfl;rw[e0];omega
  ·have ej:PySem.Txt.join Yj ((Cf z).map λc=>(⟨#[c]⟩:Str))=z:=by
    refine RB ?_;rw[Ut rfl,bw];show((Cf z).map λc=>[c]).flatten=_;generalize Cf z=l
    induction l with
    |nil=>rfl
    |cons c l ih=>rw[bg,List.flatten_cons,ih];rfl
   rw[ej];exact q H1 ((Kp.put _).trans kp) hp
def Sh (n:Nat)(K:W.Frag)(Ab:Addr):Sp:=λvs H Q _=>∃(p dx wl:Addr) (ws:List Int) (k:Nat) (t:Tr) (r:List Int),vs=[.ref p,.int (n:Int)]/\H p=some (.ins Ab dx (Ta wl k))/\H wl=some (.lst (ws.map V.int))/\ws.drop k=wT t++r/\CD n t=true/\
 ∀v H',Kp H H' p->H' p=some (.ins Ab dx (Ta wl ((k+(wT t).length:Nat):Int)))->Rep NL H' t v->Q v H'
def HI (K:W.Frag)(Ab:Addr):Sp:=Sh 8 K Ab
theorem Ws (T:Txt K mg Ab Ad Aa Af XC)(F:Fun K "read_thing" "read_thing" Dh f fd)(Az:BH P w K mg base 3 Ab "word_to" ["self","most"] (Bm K Ab))(BZ:Def P w K mg base 4 "read_text" ["reader"] (DU K Ab))(n:Nat)(Dl:Def P w K mg base (4+n) "read_thing" ["reader","deep"] (Sh n K Ab)):FnOk P w K mg base BO (4+n+1) f fd ["reader","deep"] (Sh (n+1) K Ab):=by
 exists Dz
 ·obtain⟨p,dx,wl,ws,k,t,r,rfl,_⟩:=h;rfl
 obtain⟨p,dx,wl,ws,k,t,r,rfl,h1,h2,hd,ht,q⟩:=h;have nwp:wl≠p:=AL h2 h1 (by intro z;cases z);refine⟨_,(!Ah (!AM (!Au Bg (pv 1) (!Aj) (Ay _)) (!Ak (!DG)) (!Av)) (!Ah (@AD _ _ (2) _ _ _ _ Dz.nd rfl (by trivial) (!A2 (pv 0) T.cl_WordReader Az (hr.mono (by omega)) (!Ac (!AH rfl T.c_TUPLE_WORD) (!Ai))) (by rfl) (by trivial)) (!Ah (!AM (!Au Bg (pv 2) (!AH rfl T.c_NUMBER_WORD) (Ay _)) (!Ak (!Ao (!A2 (pv 0) T.cl_WordReader Az (hr.mono (by omega)) (!Ac (!AH rfl T.c_MOST_NUMBER) (!Ai))))) (!Av)) (!Ah (!AM (!Au Bg (pv 2) (!AH rfl T.c_TEXT_WORD) (Ay _)) (!Ak (!Ao (!AK BZ (hr.mono (by omega)) rfl (!Ac (pv 0) (!Ai))))) (!Av)) (!Ah (@AD _ _ (3) _ _ _ _ Dz.nd rfl (by trivial) (!A2 (pv 0) T.cl_WordReader Az (hr.mono (by omega)) (!Ac (!AH rfl T.c_MOST_PARTS) (!Ai))) (by rfl) (by trivial)) (!Ak (!Ao (!BX E5 (by rfl) T.b_tuple EG (!Ac (@CM _ ["part","reader","deep"] [none,some 0,some 1] _ _ _ _ _ _ _ _ _ _ _ rfl (!C4 rfl T.b_range (!Ac (pv 3) (!Ai))) (by rfl) rfl (by repeat (first|exact trivial|refine⟨rfl,?_⟩)) (by repeat (first|exact trivial|refine⟨λh=>(by first|exact⟨_,rfl⟩|cases h),?_⟩)) (λC s H fp=>⟨(@An _ _ (0) _ (show(["part","reader","deep"]:List Str).Nodup by decide +kernel) rfl (by trivial) (by trivial)),(!AU),(!AK Dl (hr.mono (by omega)) rfl (!Ac (pv 1) (!Ac (!As FK (pv 2) (!Aj)) (!Ai))))⟩) (by intro _;rfl)) (!Ai)))))))))),?_⟩;refine⟨_,rfl,rfl,_,rfl,AJ ?_ ?_⟩
 ·rw[Hq];simp;omega
 have hw1:∀o,upd H p o wl=some (.lst (ws.map V.int)):=λo=>by rw[Ag nwp];exact h2
 cases t with
 |int i=>
  have i01:(decide (0<=i)&&decide (i<=999999999))=true:=ht;rw[bL,bq,bq] at i01;obtain⟨g1,g2⟩:=Fv (r:=i::r) hd;obtain⟨g3,_⟩:=Fv g2;refine⟨_,rfl,p,dx,_,rfl,h1,rfl,p,dx,wl,ws,k,0,2,rfl,h1,h2,g1,by omega,by omega,?_⟩;refine⟨_,rfl,rfl,_,rfl,BA rfl ?_⟩;refine⟨_,rfl,p,dx,_,rfl,Ae,rfl,p,dx,wl,ws,k+1,i,999999999,rfl,Ae,hw1 _,g3,i01.1,i01.2,?_⟩;exact q _ _ ((Kp.put _).trans (Kp.put _)) Ae rfl
 |str z=>
  obtain⟨zl,zs⟩:=Ll ht;obtain⟨g1,g2⟩:=Fv (r:=(z.length:Int)::((Cf z).map idx++r)) hd;refine⟨_,rfl,p,dx,_,rfl,h1,rfl,p,dx,wl,ws,k,1,2,rfl,h1,h2,g1,by omega,by omega,?_⟩;refine⟨_,rfl,rfl,_,rfl,AJ rfl ?_⟩;refine⟨_,rfl,rfl,_,rfl,BA rfl ?_⟩;refine⟨_,rfl,p,dx,wl,ws,k+1,z,r,rfl,Ae,hw1 _,g2,zl,zs,λH' kp hp=>?_⟩;refine q _ _ ((Kp.put _).trans kp) ?_ rfl;rw[hp,Yh];have:k+1+1+z.length=k+(1::(z.length:Int)::(Cf z).map idx).length:=by
   simp only[List.length_cons,List.length_map,BP];omega
  rw[this]
 |tup ts=>
  obtain⟨tl,tt⟩:=Cy ht;rw[U9] at hd q;obtain⟨g1,g2⟩:=Fv (r:=(ts.length:Int)::(wTs ts++r)) hd;obtain⟨g3,g4⟩:=Fv (r:=wTs ts++r) g2;refine⟨_,rfl,p,dx,_,rfl,h1,rfl,p,dx,wl,ws,k,2,2,rfl,h1,h2,g1,by omega,by omega,?_⟩;refine⟨_,rfl,rfl,_,rfl,AJ rfl ?_⟩;refine⟨_,rfl,rfl,_,rfl,AJ rfl ?_⟩;refine⟨_,rfl,p,dx,_,rfl,Ae,rfl,p,dx,wl,ws,k+1,_,100,rfl,Ae,hw1 _,g3,by omega,by omega,?_⟩;rw[DV];refine⟨_,rfl,(ts.length:Int),rfl,by omega,by omega,?_⟩;refine OM (xs:=(List.range ((ts.length:Int)).toNat).map λ(i:Nat)=>V.int (0+(i:Int))) (λi ys l H'=>Kp (upd H p (.ins Ab dx (Ta wl ((k+1+1:Nat):Int)))) H' p/\H' p=some (.ins Ab dx (Ta wl ((k+2+(wTs (ts.take i)).length:Nat):Int)))/\AA NL H' (ts.take i) ys) (by rw[aS,bY];omega) (λi ys l H' _=>QQ) (λl hl=>⟨(Kp.refl _ p).new hl _,by rw[Ag (AG Ae hl)];exact Ae,rfl⟩) (λi x ys l H' R hx hl hl' hlen hI hR=>?_) λl H1 ys n1 hl1 ly hI=>?_
  ·obtain⟨kp,hp,hrs⟩:=hI;have hi:i<ts.length:=by
    have:=(bu.mp hx).1;rw[aS,bY] at this;omega
   obtain⟨ti,eti⟩:∃ti,ts[i]?=some ti:=⟨ts[i],aW _⟩
   have hw':H' wl=some (.lst (ws.map V.int)):=kp wl _ (hw1 _) nwp;have npl:l≠p:=AL hl' hp (by intro z;cases z);have gd:ws.drop (k+2+(wTs (ts.take i)).length)=wT ti++(wTs (ts.drop (i+1))++r):=by
    have e1:wTs ts=wTs (ts.take i)++(wT ti++wTs (ts.drop (i+1))):=by
     have:=Lk (ts.take (i+1)) (ts.drop (i+1));rw[iS,IS eti,cn] at this;exact this
    have e2:(ws.drop (k+1+1)).drop (wTs (ts.take i)).length=wT ti++(wTs (ts.drop (i+1))++r):=by
     rw[g4,e1,cn,cn,List.drop_left]
    rw[List.drop_drop] at e2;exact e2
   have ed:((n+1:Nat):Int)-1=(n:Int):=by omega
   refine⟨_,rfl,_,rfl,_,_,rfl,rfl,p,dx,wl,ws,_,ti,_,?_,hp,hw',gd,tt i ti eti,λv H'' kp2 hp2 rv=>?_⟩
   ·show[V.ref p,V.int (((n+1:Nat):Int)-1)]=_;rw[ed]
   have hl2:H'' l=some (.lst ys):=kp2 l _ hl' npl;have keepT:∀c xs,H'' c=some (.tup xs)->upd H'' l (.lst (ys++[v])) c=some (.tup xs):=λc xs e=>by rw[Ag (AL e hl2 (by intro z;cases z))];exact e
   refine hR v H'' hl2 ⟨(kp.trans kp2).new hl _,?_,?_⟩
   ·rw[Ag npl.symm,hp2,IS eti,bx,Nat.add_assoc]
   ·rw[bN,eti];refine AA.append (AX keepT _ _ (AX (λc xs e=>kp2 c _ e (AL e hp (by intro z;cases z))) _ _ hrs)) (AA.one (Cd keepT _ _ rv))
  ·obtain⟨kp,hp,hrs⟩:=hI;have ez:ts.length=((List.range ((ts.length:Int)).toNat).map λ(i:Nat)=>V.int (0+(i:Int))).length:=by rw[aS,bY];omega
   rw[<-ez,bJ (aZ _)] at hp hrs;refine⟨l,ys,rfl,.inl ⟨AI.of hl1,λu hu=>?_⟩⟩;have su:=Al hu (.tup ys);refine q _ _ (((Kp.put _).trans kp).trans (Ap.kp su p)) ?_ ⟨u,ys,rfl,Ae,AA.same su _ _ hrs⟩;rw[su _ _ hp];have:k+2+(wTs ts).length=k+(2::(ts.length:Int)::wTs ts).length:=by simp only[List.length_cons];omega
   rw[this]
 |non=>cases n<;>cases ht
 |bl b=>cases n<;>cases ht
 |lst ts=>cases n<;>cases ht
theorem Uz (T:Txt K mg Ab Ad Aa Af XC)(F:Fun K "read_thing" "read_thing" Dh f fd)(Az:BH P w K mg base 3 Ab "word_to" ["self","most"] (Bm K Ab))(BZ:Def P w K mg base 4 "read_text" ["reader"] (DU K Ab))(hm:mg "read_thing"=some (.ref f))(hk:W.keepIn K (.ref f)=true)(hb:Binds K fd ["reader","deep"] []):∀n,FnOk P w K mg base BO (4+n) f fd ["reader","deep"] (Sh n K Ab)
 |0=>by
  exists Dz
  ·obtain⟨p,dx,wl,ws,k,t,r,rfl,_,_,_,ht,_⟩:=h;cases ht
  ·obtain⟨p,dx,wl,ws,k,t,r,rfl,_,_,_,ht,_⟩:=h;cases ht
 |n+1=>Ws T F Az BZ n ⟨f,fd,Uz T F Az BZ hm hk hb n,hm,hk,hb⟩
theorem M9 (T:Txt K mg Ab Ad Aa Af XC)(F:Fun K "read_thing" "read_thing" Dh f fd)(Az:BH P w K mg base 3 Ab "word_to" ["self","most"] (Bm K Ab))(BZ:Def P w K mg base 4 "read_text" ["reader"] (DU K Ab))(hm:mg "read_thing"=some (.ref f))(hk:W.keepIn K (.ref f)=true)(hb:Binds K fd ["reader","deep"] []):FnOk P w K mg base BO 12 f fd ["reader","deep"] (HI K Ab):=
 Uz T F Az BZ hm hk hb 8
def KC (K:W.Frag):Sp:=λvs H Q _=>∃(wl:Addr) (t:Tr),vs=[.ref wl]/\H wl=some (.lst ((wT t).map V.int))/\CD 8 t=true/\∀v H',Ap H H'->Rep NL H' t v->Q v H'
theorem Pt (T:Txt K mg Ab Ad Aa Af XC)(F:Fun K "thing_of" "thing_of" Iq f fd)(Dm:Sl P w K mg base 1 Ab "WordReader" ["self","words"] (Ef K Ab))(Dl:Def P w K mg base 12 "read_thing" ["reader","deep"] (HI K Ab))(AY:BH P w K mg base 1 Ab "is_through" ["self"] (BN K Ab)):FnOk P w K mg base BO 13 f fd ["words"] (KC K):=by
 exists GU
 ·obtain⟨wl,t,rfl,_⟩:=h;rfl
 obtain⟨wl,t,rfl,hw,ht,q⟩:=h;refine⟨_,(!Ah (@AD _ _ (1) _ _ _ _ GU.nd rfl (by trivial) (!Om Dm (by trivial) rfl (!Ac (pv 0) (!Ai))) (by rfl) (by trivial)) (!Ah (@AD _ _ (2) _ _ _ _ GU.nd rfl (by trivial) (!AK Dl (by trivial) rfl (!Ac (pv 1) (!Ac (!AH rfl T.c_MOST_DEEP) (!Ai)))) (by rfl) (by trivial)) (!Ah (!AM (!BL (!BC (!Ce (pv 1) T.cl_WordReader AY) (by intro _;rfl))) (!Ak (!DG)) (!Av)) (!Ak (!Ao (pv 2)))))),?_⟩;refine⟨_,rfl,?_⟩;intro x dx nx ndx _;have nwx:wl≠x:=AG hw nx;have nwd:wl≠dx:=AG hw ndx;refine⟨x,dx,wl,rfl,Ae,rfl,?_⟩;rw[DV];have hw1:∀o,upd (upd H dx (.own x)) x o wl=some (.lst ((wT t).map V.int)):=λo=>by rw[Ag nwx,Ag nwd];exact hw
 refine⟨_,rfl,x,dx,wl,wT t,0,t,[],rfl,Ae,hw1 _,by simp,ht,λv H' kp hp rv=>?_⟩;have hw':H' wl=some (.lst ((wT t).map V.int)):=kp wl _ (hw1 _) nwx;refine⟨_,rfl,x,dx,_,rfl,hp,rfl,x,dx,wl,wT t,_,rfl,hp,hw',_,rfl,AJ ?_ ?_⟩
 ·simp
 refine⟨_,rfl,q v H' (λb o e=>?_) rv⟩;have n1:=AG e nx;exact kp b o (by rw[Ag n1,Ag (AG e ndx)];exact e) n1
def ZP (g:List Int->Option (Tr×List Int)):Nat->List Int->Option (List Tr×List Int)
 |0,ws=>some ([],ws)
 |i+1,ws=>match ZP g i ws with
  |none=>none
  |some (ts,r)=>match g r with
   |none=>none
   |some (t,r')=>some (ts++[t],r')
def U8 (x:Int):Nat:=SG.cps.toList.getD x.toNat 0
def ZL:Nat->List Int->Option (List Nat×List Int)
 |0,ws=>some ([],ws)
 |i+1,ws=>match ZL i ws with
  |some (cs,x::r)=>if 0<=x/\x<=93 then some (cs++[U8 x],r) else none
  |_=>none
def rd:Nat->List Int->Option (Tr×List Int)
 |0,_=>none
 |n+1,ws=>match ws with
  |[]=>none
  |x::ws1=>if 0<=x/\x<=2 then match ws1 with
    |[]=>none
    |m::r=>if x=0 then(if 0<=m/\m<=999999999 then some (.int m,r) else none)
     else if x=1 then(if 0<=m/\m<=400 then(match ZL m.toNat r with|some (cs,r')=>some (.str ⟨cs.toArray⟩,r')|none=>none) else none)
     else(if 0<=m/\m<=100 then(match ZP (rd n) m.toNat r with|some (ts,r')=>some (.tup ts,r')|none=>none) else none)
   else none
theorem Qt {c:Nat}(h:c∈Cf SG):U8 (idx c)=c:=(Iy h).2.2
theorem O8:∀(cs:List Nat) (r:List Int),(∀c∈cs,c∈Cf SG)->∀i,i<=cs.length->ZL i (cs.map idx++r)=some (cs.take i,(cs.drop i).map idx++r)
 |cs,r,h,0,_=>rfl
 |cs,r,h,i+1,hi=>by
  have ih:=O8 cs r h i (by omega);obtain⟨c,hc⟩:∃c,cs[i]?=some c:=⟨cs[i],aW _⟩
  have hd:cs.drop i=c::cs.drop (i+1):=by rw[dE (by omega)];congr 1;rw[aW (by omega)] at hc;exact bf hc
  obtain⟨b1,b2,b3⟩:=Iy (h c (a8 hc));unfold ZL;rw[ih,hd];show(if 0<=idx c/\idx c<=93 then _ else _)=_;rw[bF ⟨b1,by omega⟩,bN,hc,Qt (h c (a8 hc))];rfl
theorem Qb {g:List Int->Option (Tr×List Int)}(ts:List Tr)(r:List Int)(hg:∀t∈ts,∀r,g (wT t++r)=some (t,r)):∀i,i<=ts.length->ZP g i (wTs ts++r)=some (ts.take i,wTs (ts.drop i)++r)
 |0,_=>rfl
 |i+1,hi=>by
  have ih:=Qb ts r hg i (by omega);obtain⟨t,ht⟩:∃t,ts[i]?=some t:=⟨ts[i],aW _⟩
  have hd:ts.drop i=t::ts.drop (i+1):=by rw[dE (by omega)];congr 1;rw[aW (by omega)] at ht;exact bf ht
  unfold ZP;rw[ih,hd];show(match g ((wT t++wTs (ts.drop (i+1)))++r) with|none=>none|some (t,r')=>some (ts.take i++[t],r'))=_;rw[cn,hg t (a8 ht),bN,ht];rfl
theorem Ot:∀(n:Nat) (t:Tr) (r:List Int),CD n t=true->rd n (wT t++r)=some (t,r)
 |0,_,_,h=>nomatch h
 |n+1,.non,_,h=>nomatch h
 |n+1,.bl _,_,h=>nomatch h
 |n+1,.lst _,_,h=>nomatch h
 |n+1,.int i,r,h=>by
  have h':(decide (0<=i)&&decide (i<=999999999))=true:=h;rw[bL,bq,bq] at h';show rd (n+1) (0::i::r)=_;unfold rd;dsimp only;rw[bF ⟨by decide,by decide⟩,bF rfl,bF h']
 |n+1,.str z,r,h=>by
  obtain⟨zl,zs⟩:=Ll h;have zc:=BP z;show rd (n+1) (1::(z.length:Int)::((Cf z).map idx++r))=_;unfold rd;dsimp only;rw[bF ⟨by decide,by decide⟩];rw[bH (by decide),bF rfl,bF ⟨by omega,by omega⟩,O8 (Cf z) r zs _ (by omega),bJ (by omega),iK (by omega)];have:(⟨(Cf z).toArray⟩:Str)=z:=RB rfl;show some (Tr.str ⟨(Cf z).toArray⟩,r)=_;rw[this]
 |n+1,.tup ts,r,h=>by
  obtain⟨tl,tt⟩:=Cy h;have hg:∀t∈ts,∀r,rd n (wT t++r)=some (t,r):=λt ht r=>by
   obtain⟨i,hi⟩:=cz ht;exact Ot n t r (tt i t hi)
  show rd (n+1) (2::(ts.length:Int)::(wTs ts++r))=_;unfold rd;dsimp only;rw[bF ⟨by decide,by decide⟩];rw[bH (by decide),bH (by decide),bF ⟨by omega,by omega⟩,Qb ts r hg _ (by omega),bJ (by omega),iK (by omega)];rfl
theorem LJ {n:Nat}{t u:Tr}(ht:CD n t=true)(hu:CD n u=true)(h:wT t=wT u):t=u:=by
 have e1:=Ot n t [] ht;rw[h,Ot n u [] hu] at e1;exact(Prod.mk.inj (bf e1)).1.symm
theorem Oz {H:Hp}:∀(n:Nat) (t u:Tr) (v:V),CD n t=true->CD n u=true->Rep NL H t v->Rep NL H u v->t=u
 |0,_,_,_,h,_,_,_=>nomatch h
 |n+1,.int i,.int j,v,_,_,h1,h2=>by
  have e1:v=V.int i:=h1;have e2:v=V.int j:=h2;rw[e1] at e2;cases e2;rfl
 |n+1,.int i,.str z,v,_,_,h1,h2=>by
  have e1:v=V.int i:=h1;have e2:v=V.str z:=h2;rw[e1] at e2;cases e2
 |n+1,.int i,.tup ts,v,_,_,h1,⟨a,vs,e2,_⟩=>by
  have e1:v=V.int i:=h1;rw[e1] at e2;cases e2
 |n+1,.str z,.int j,v,_,_,h1,h2=>by
  have e1:v=V.str z:=h1;have e2:v=V.int j:=h2;rw[e1] at e2;cases e2
 |n+1,.str z,.str y,v,_,_,h1,h2=>by
  have e1:v=V.str z:=h1;have e2:v=V.str y:=h2;rw[e1] at e2;cases e2;rfl
 |n+1,.str z,.tup ts,v,_,_,h1,⟨a,vs,e2,_⟩=>by
  have e1:v=V.str z:=h1;rw[e1] at e2;cases e2
 |n+1,.tup ts,.int j,v,_,_,⟨a,vs,e1,_⟩,h2=>by
  have e2:v=V.int j:=h2;rw[e1] at e2;cases e2
 |n+1,.tup ts,.str y,v,_,_,⟨a,vs,e1,_⟩,h2=>by
  have e2:v=V.str y:=h2;rw[e1] at e2;cases e2
 |n+1,.tup ts,.tup us,v,ht,hu,⟨a,vs,e1,ha,r1⟩,⟨b,ws,e2,hb,r2⟩=>by
  subst e1;cases e2;rw[ha] at hb;cases hb;obtain⟨_,tt⟩:=Cy ht;obtain⟨_,tu⟩:=Cy hu;have l1:=AA.len ts vs r1;have l2:=AA.len us vs r2;have:ts=us:=by
   refine dI λi=>?_
   by_cases hi:i<vs.length
   ·obtain⟨t1,g1,p1⟩:=AA.get r1 (aW hi);obtain⟨t2,g2,p2⟩:=AA.get r2 (aW hi);rw[g1,g2,Oz n t1 t2 _ (tt i t1 g1) (tu i t2 g2) p1 p2]
   ·rw[cu (by omega),cu (by omega)]
  rw[this]
 |n+1,.non,_,_,h,_,_,_=>nomatch h
 |n+1,.bl _,_,_,h,_,_,_=>nomatch h
 |n+1,.lst _,_,_,h,_,_,_=>nomatch h
 |n+1,.int _,.non,_,_,h,_,_=>nomatch h
 |n+1,.int _,.bl _,_,_,h,_,_=>nomatch h
 |n+1,.int _,.lst _,_,_,h,_,_=>nomatch h
 |n+1,.str _,.non,_,_,h,_,_=>nomatch h
 |n+1,.str _,.bl _,_,_,h,_,_=>nomatch h
 |n+1,.str _,.lst _,_,_,h,_,_=>nomatch h
 |n+1,.tup _,.non,_,_,h,_,_=>nomatch h
 |n+1,.tup _,.bl _,_,_,h,_,_=>nomatch h
 |n+1,.tup _,.lst _,_,_,h,_,_=>nomatch h
theorem Cc {n:Nat}{t u:Tr}(ht:CD n t=true)(hu:CD n u=true){b:Bool}(h:b=true↔t=u):decide (wT t=wT u)=b:=by
 rw[cq,bq,h];exact⟨LJ ht hu,λe=>by rw[e]⟩
theorem LX {n:Nat}{ts us:List Tr}(ht:CD (n+1) (.tup ts)=true)(hu:CD (n+1) (.tup us)=true):decide (wT (.tup ts)=wT (.tup us))=((List.range (min ts.length us.length)).all (λj=>decide (wT (ts.getD j .non)=wT (us.getD j .non)))&&ts.length == us.length):=by
 obtain⟨_,tt⟩:=Cy ht;obtain⟨_,tu⟩:=Cy hu;refine Cc ht hu ?_;rw[bL,bX,cV];constructor
 ·rintro⟨h1,h2⟩
  congr 1
  refine dI λi=>?_
  by_cases hi:i<ts.length
  ·have e:=h1 i (cX.mpr (by omega));obtain⟨t1,g1⟩:∃t1,ts[i]?=some t1:=⟨ts[i],aW hi⟩
   obtain⟨t2,g2⟩:∃t2,us[i]?=some t2:=⟨us[i]'(by omega),aW _⟩
   simp only[List.getD,g1,g2,Option.getD_some,decide_eq_true_eq] at e;rw[g1,g2,LJ (tt i t1 g1) (tu i t2 g2) e]
  ·rw[cu (by omega),cu (by omega)]
 ·intro h;cases h;exact⟨λi _=>bh rfl,rfl⟩
section
variable {X:Cx}{pins:List (Addr×Obj)}{σ:St}{H:Hp}{s:Shared}
theorem Q1 (I:Inv X pins σ H s):∀(n:Nat) (t u:Tr) (A:Around) (v w:V) (vv ww:Value),CD n t=true->CD n u=true->A.units+n<cLine->Rep NL H t v->Rep NL H u w->RelV v vv->RelV w ww->SeqAt.EqAt A s vv ww (decide (wT t=wT u))
 |0,_,_,_,_,_,_,_,h,_,_,_,_,_,_=>nomatch h
 |n+1,t,u,A,v,w,vv,ww,ht,hu,hA,h1,h2,r1,r2=>by
  cases t with
  |int i=>
   cases(show v=V.int i from h1);obtain⟨t1,rfl⟩:=r1;cases u with
   |int j=>
    cases(show w=V.int j from h2);obtain⟨t2,rfl⟩:=r2;rw[Cc ht hu (b:=i == j) (by rw[cV];exact⟨λe=>by rw[e],λe=>by cases e;rfl⟩)];exact SeqAt.EqAt.int_int i t1 j t2
   |str z=>
    cases(show w=V.str z from h2);obtain⟨t2,rfl⟩:=r2;rw[Cc ht hu (b:=false) ⟨(λe=>nomatch e),(λe=>nomatch e)⟩];exact g7 i t1 z t2
   |tup us=>
    obtain⟨b,ws,rfl,hb,_⟩:=h2;cases r2;obtain⟨its,_,p,_⟩:=I.tuple (AV.of (K:=X.K) hb);rw[Cc ht hu (b:=false) ⟨(λe=>nomatch e),(λe=>nomatch e)⟩];exact SeqAt.EqAt.int_tuple i t1 p (by omega)
   |non=>cases hu
   |bl _=>cases hu
   |lst _=>cases hu
  |str y=>
   cases(show v=V.str y from h1);obtain⟨t1,rfl⟩:=r1;cases u with
   |int j=>
    cases(show w=V.int j from h2);obtain⟨t2,rfl⟩:=r2;rw[Cc ht hu (b:=false) ⟨(λe=>nomatch e),(λe=>nomatch e)⟩];exact g6 y t1 j t2
   |str z=>
    cases(show w=V.str z from h2);obtain⟨t2,rfl⟩:=r2;rw[Cc ht hu (b:=y == z) (by rw[cV];exact⟨λe=>by rw[e],λe=>by cases e;rfl⟩)];exact SeqAt.EqAt.str_str y t1 z t2
   |tup us=>
    obtain⟨b,ws,rfl,hb,_⟩:=h2;cases r2;obtain⟨its,_,p,_⟩:=I.tuple (AV.of (K:=X.K) hb);rw[Cc ht hu (b:=false) ⟨(λe=>nomatch e),(λe=>nomatch e)⟩];exact SeqAt.EqAt.str_tuple y t1 p (by omega)
   |non=>cases hu
   |bl _=>cases hu
   |lst _=>cases hu
  |tup ts=>
   obtain⟨a,vs,rfl,ha,hr1⟩:=h1;cases r1;obtain⟨its,rv1,p1,_⟩:=I.tuple (AV.of (K:=X.K) ha);cases u with
   |int j=>
    cases(show w=V.int j from h2);obtain⟨t2,rfl⟩:=r2;rw[Cc ht hu (b:=false) ⟨(λe=>nomatch e),(λe=>nomatch e)⟩];exact SeqAt.EqAt.tuple_int j t2 p1 (by omega)
   |str z=>
    cases(show w=V.str z from h2);obtain⟨t2,rfl⟩:=r2;rw[Cc ht hu (b:=false) ⟨(λe=>nomatch e),(λe=>nomatch e)⟩];exact SeqAt.EqAt.tuple_str z t2 p1 (by omega)
   |tup us=>
    obtain⟨b,ws,rfl,hb,hr2⟩:=h2;cases r2;obtain⟨its2,rv2,p2,_⟩:=I.tuple (AV.of (K:=X.K) hb)
    by_cases hab:a=b
    ·subst hab;have:=Oz (n+1) (.tup ts) (.tup us) (.ref a) ht hu ⟨a,vs,rfl,ha,hr1⟩ ⟨a,ws,rfl,hb,hr2⟩;rw[this,bh rfl];exact SeqAt.EqAt.same _
    obtain⟨_,tt⟩:=Cy ht;obtain⟨_,tu⟩:=Cy hu;have l1:=rv1.length.symm.trans (AA.len ts vs hr1);have l2:=rv2.length.symm.trans (AA.len us ws hr2);have q:=SeqAt.RcAt.tuples (A:=A) (s:=s) (e:=λj=>decide (wT (ts.getD j .non)=wT (us.getD j .non))) p1 p2 (by omega) (λj g1 g2=>by
     have g1':j<its.length:=by simpa using g1
     have g2':j<its2.length:=by simpa using g2
     have lv1:=rv1.length;have lv2:=rv2.length;obtain⟨x1,hx1⟩:∃x1,vs[j]?=some x1:=⟨vs[j]'(by omega),aW _⟩
     obtain⟨x2,hx2⟩:∃x2,ws[j]?=some x2:=⟨ws[j]'(by omega),aW _⟩
     obtain⟨y1,hy1,ry1⟩:=rv1.get hx1;obtain⟨y2,hy2,ry2⟩:=rv2.get hx2;obtain⟨t1,e1,p1'⟩:=AA.get hr1 hx1;obtain⟨t2,e2,p2'⟩:=AA.get hr2 hx2;have:=Q1 I n t1 t2 A.in1 x1 x2 y1 y2 (tt j t1 e1) (tu j t2 e2) (by show A.units+1+n<cLine;omega) p1' p2' ry1 ry2;rw[aW g1'] at hy1;rw[aW g2'] at hy2;cases hy1;cases hy2;simp only[List.getD,e1,e2,Option.getD_some];simpa using this)
    rw[LX ht hu];simp only[List.size_toArray,l1,l2] at q;exact SeqAt.EqAt.of_refs hab q
   |non=>cases hu
   |bl _=>cases hu
   |lst _=>cases hu
  |non=>cases ht
  |bl _=>cases ht
  |lst _=>cases ht
end
section
variable {X:Cx}
def Zc (neg:Bool):R2:=λx y H Q=>∃t u,CD 8 t=true/\CD 8 u=true/\Rep NL H t x/\Rep NL H u y/\Q (.bl (if neg then !decide (wT t=wT u) else decide (wT t=wT u))) H
theorem Ph {pins:List (Addr×Obj)} {σ:St} {H:Hp} {s:Shared} (I:Inv X pins σ H s) {n:Nat} {A:Around} {ts us:List Tr} {vs ws:List V} {its its2:List Value} (hA:A.units+1+n<cLine) (tt:∀(i:Nat) t,ts[i]?=some t->CD n t=true) (tu:∀(i:Nat) t,us[i]?=some t->CD n t=true)
  (hr1:AA NL H ts vs) (hr2:AA NL H us ws) (rv1:AR vs its) (rv2:AR ws its2) (j:Nat) (g1:j<its.toArray.size) (g2:j<its2.toArray.size):SeqAt.EqAt A.in1 s its.toArray[j] its2.toArray[j] (decide (wT (ts.getD j .non)=wT (us.getD j .non))):=by
 have g1':j<its.length:=by simpa using g1
 have g2':j<its2.length:=by simpa using g2
 have lv1:=rv1.length;have lv2:=rv2.length;obtain⟨x1,hx1⟩:∃x1,vs[j]?=some x1:=⟨vs[j]'(by omega),aW _⟩
 obtain⟨x2,hx2⟩:∃x2,ws[j]?=some x2:=⟨ws[j]'(by omega),aW _⟩
 obtain⟨y1,hy1,ry1⟩:=rv1.get hx1;obtain⟨y2,hy2,ry2⟩:=rv2.get hx2;obtain⟨t1,e1,p1'⟩:=AA.get hr1 hx1;obtain⟨t2,e2,p2'⟩:=AA.get hr2 hx2;have:=Q1 I n t1 t2 A.in1 x1 x2 y1 y2 (tt j t1 e1) (tu j t2 e2) (by show A.units+1+n<cLine;omega) p1' p2' ry1 ry2;rw[aW g1'] at hy1;rw[aW g2'] at hy2;cases hy1;cases hy2;simp only[List.getD,e1,e2,Option.getD_some];simpa using this
theorem Yi (hu9:X.A.units+150<cLine):Gw X (compareOp .Eq) (Zc false):=by
 intro pins s σ H x y v u Q I rx ry h;obtain⟨t,w,ht,hw,h1,h2,q⟩:=h;have fin:∀b:Bool,decide (wT t=wT w)=b->SeqAt.RcAt X.A s v u b->wpAny (model X.prog X.w) X.A (compareOp .Eq v u) (EP X pins σ Q) X.xe s:=λb e r=>by
  rw[e] at q;exact r _ _ _ _ ⟨.bl _,H,I,rfl,q⟩
 cases t with
 |int i=>
  cases(show x=V.int i from h1);obtain⟨t1,rfl⟩:=rx;cases w with
  |int j=>
   cases(show y=V.int j from h2);obtain⟨t2,rfl⟩:=ry;exact fin (i == j) (Cc ht hw (by rw[cV];exact⟨λe=>by rw[e],λe=>by cases e;rfl⟩)) (SeqAt.RcAt.int_int i t1 j t2)
  |str z=>
   cases(show y=V.str z from h2);obtain⟨t2,rfl⟩:=ry;exact fin false (Cc ht hw ⟨(λe=>nomatch e),(λe=>nomatch e)⟩) (SeqAt.RcAt.int_str i t1 z t2)
  |tup us=>
   obtain⟨b,ws,rfl,hb,_⟩:=h2;cases ry;obtain⟨its,_,p,_⟩:=I.tuple (AV.of (K:=X.K) hb);exact fin false (Cc ht hw ⟨(λe=>nomatch e),(λe=>nomatch e)⟩) (SeqAt.RcAt.int_tuple i t1 p (by omega))
  |non=>cases hw
  |bl _=>cases hw
  |lst _=>cases hw
 |str a=>
  cases(show x=V.str a from h1);obtain⟨t1,rfl⟩:=rx;cases w with
  |int j=>
   cases(show y=V.int j from h2);obtain⟨t2,rfl⟩:=ry;exact fin false (Cc ht hw ⟨(λe=>nomatch e),(λe=>nomatch e)⟩) (SeqAt.RcAt.str_int a t1 j t2)
  |str z=>
   cases(show y=V.str z from h2);obtain⟨t2,rfl⟩:=ry;exact fin (a == z) (Cc ht hw (by rw[cV];exact⟨λe=>by rw[e],λe=>by cases e;rfl⟩)) (SeqAt.RcAt.str_str a t1 z t2)
  |tup us=>
   obtain⟨b,ws,rfl,hb,_⟩:=h2;cases ry;obtain⟨its,_,p,_⟩:=I.tuple (AV.of (K:=X.K) hb);exact fin false (Cc ht hw ⟨(λe=>nomatch e),(λe=>nomatch e)⟩) (SeqAt.RcAt.str_tuple a t1 p (by omega))
  |non=>cases hw
  |bl _=>cases hw
  |lst _=>cases hw
 |tup ts=>
  obtain⟨a,vs,rfl,ha,hr1⟩:=h1;cases rx;obtain⟨its,rv1,p1,_⟩:=I.tuple (AV.of (K:=X.K) ha);cases w with
  |int j=>
   cases(show y=V.int j from h2);obtain⟨t2,rfl⟩:=ry;exact fin false (Cc ht hw ⟨(λe=>nomatch e),(λe=>nomatch e)⟩) (SeqAt.RcAt.tuple_int j t2 p1 (by omega))
  |str z=>
   cases(show y=V.str z from h2);obtain⟨t2,rfl⟩:=ry;exact fin false (Cc ht hw ⟨(λe=>nomatch e),(λe=>nomatch e)⟩) (SeqAt.RcAt.tuple_str z t2 p1 (by omega))
  |tup us=>
   obtain⟨b,ws,rfl,hb,hr2⟩:=h2;cases ry;obtain⟨its2,rv2,p2,_⟩:=I.tuple (AV.of (K:=X.K) hb);have l1:=rv1.length.symm.trans (AA.len ts vs hr1);have l2:=rv2.length.symm.trans (AA.len us ws hr2);have r:=SeqAt.RcAt.tuples (A:=X.A) (s:=s) (e:=λj=>decide (wT (ts.getD j .non)=wT (us.getD j .non))) p1 p2 (by omega) (λj g1 g2=>Ph I (n:=7) (by omega) (Cy ht).2 (Cy hw).2 hr1 hr2 rv1 rv2 j g1 g2);simp only[List.size_toArray,l1,l2] at r;exact fin _ (LX ht hw) r
  |non=>cases hw
  |bl _=>cases hw
  |lst _=>cases hw
 |non=>cases ht
 |bl _=>cases ht
 |lst _=>cases ht
theorem Q7 (hu9:X.A.units+150<cLine):Gw X (compareOp .NotEq) (Zc true):=by
 intro pins s σ H x y v u Q I rx ry h;obtain⟨t,w,ht,hw,h1,h2,q⟩:=h;have fin:∀b:Bool,decide (wT t=wT w)=b->SeqAt.RcNeAt X.A s v u (!b)->wpAny (model X.prog X.w) X.A (compareOp .NotEq v u) (EP X pins σ Q) X.xe s:=λb e r=>by
  rw[e] at q;exact r _ _ _ _ ⟨.bl _,H,I,rfl,q⟩
 cases t with
 |int i=>
  cases(show x=V.int i from h1);obtain⟨t1,rfl⟩:=rx;cases w with
  |int j=>
   cases(show y=V.int j from h2);obtain⟨t2,rfl⟩:=ry;exact fin (i == j) (Cc ht hw (by rw[cV];exact⟨λe=>by rw[e],λe=>by cases e;rfl⟩)) (SeqAt.RcNeAt.int_int i t1 j t2)
  |str z=>
   cases(show y=V.str z from h2);obtain⟨t2,rfl⟩:=ry;exact fin false (Cc ht hw ⟨(λe=>nomatch e),(λe=>nomatch e)⟩) (SeqAt.RcNeAt.int_str i t1 z t2)
  |tup us=>
   obtain⟨b,ws,rfl,hb,_⟩:=h2;cases ry;obtain⟨its,_,p,_⟩:=I.tuple (AV.of (K:=X.K) hb);exact fin false (Cc ht hw ⟨(λe=>nomatch e),(λe=>nomatch e)⟩) (SeqAt.RcNeAt.int_tuple i t1 p (by omega))
  |non=>cases hw
  |bl _=>cases hw
  |lst _=>cases hw
 |str a=>
  cases(show x=V.str a from h1);obtain⟨t1,rfl⟩:=rx;cases w with
  |int j=>
   cases(show y=V.int j from h2);obtain⟨t2,rfl⟩:=ry;exact fin false (Cc ht hw ⟨(λe=>nomatch e),(λe=>nomatch e)⟩) (SeqAt.RcNeAt.str_int a t1 j t2)
  |str z=>
   cases(show y=V.str z from h2);obtain⟨t2,rfl⟩:=ry;exact fin (a == z) (Cc ht hw (by rw[cV];exact⟨λe=>by rw[e],λe=>by cases e;rfl⟩)) (SeqAt.RcNeAt.str_str a t1 z t2)
  |tup us=>
   obtain⟨b,ws,rfl,hb,_⟩:=h2;cases ry;obtain⟨its,_,p,_⟩:=I.tuple (AV.of (K:=X.K) hb);exact fin false (Cc ht hw ⟨(λe=>nomatch e),(λe=>nomatch e)⟩) (SeqAt.RcNeAt.str_tuple a t1 p (by omega))
  |non=>cases hw
  |bl _=>cases hw
  |lst _=>cases hw
 |tup ts=>
  obtain⟨a,vs,rfl,ha,hr1⟩:=h1;cases rx;obtain⟨its,rv1,p1,_⟩:=I.tuple (AV.of (K:=X.K) ha);cases w with
  |int j=>
   cases(show y=V.int j from h2);obtain⟨t2,rfl⟩:=ry;exact fin false (Cc ht hw ⟨(λe=>nomatch e),(λe=>nomatch e)⟩) (SeqAt.RcNeAt.tuple_int j t2 p1 (by omega))
  |str z=>
   cases(show y=V.str z from h2);obtain⟨t2,rfl⟩:=ry;exact fin false (Cc ht hw ⟨(λe=>nomatch e),(λe=>nomatch e)⟩) (SeqAt.RcNeAt.tuple_str z t2 p1 (by omega))
  |tup us=>
   obtain⟨b,ws,rfl,hb,hr2⟩:=h2;cases ry;obtain⟨its2,rv2,p2,_⟩:=I.tuple (AV.of (K:=X.K) hb);have l1:=rv1.length.symm.trans (AA.len ts vs hr1);have l2:=rv2.length.symm.trans (AA.len us ws hr2);have r:=SeqAt.RcNeAt.tuples (A:=X.A) (s:=s) (e:=λj=>decide (wT (ts.getD j .non)=wT (us.getD j .non))) p1 p2 (by omega) (λj g1 g2=>Ph I (n:=7) (by omega) (Cy ht).2 (Cy hw).2 hr1 hr2 rv1 rv2 j g1 g2);simp only[List.size_toArray,l1,l2] at r;exact fin _ (LX ht hw) r
  |non=>cases hw
  |bl _=>cases hw
  |lst _=>cases hw
 |non=>cases ht
 |bl _=>cases ht
 |lst _=>cases ht
end
end
section
variable {P:Program}{w:World}{K:W.Frag}{mg:Str->Option Value}{base:Heap}{f Ab Ad Aa Af:Addr}{XC:Nat->Addr}{fd:FuncData}
abbrev Cv:=List (Int×List Int)
def F2 (b:Cv)(k:Int)(row:List Int):Cv:=if(b.any λx=>decide (x.1=k))=true then b.map (λx=>if x.1=k then(x.1,row) else x) else b++[(k,row)]
def Ca (b:Cv)(k:Int):Option (List Int):=(b.find? λx=>decide (x.1=k)).map (·.2)
def Z3 (H:Hp):Key×V->Int×List Int->Prop:=λkv x=>kv.1=Sum.inl x.1/\∃r,kv.2=.ref r/\H r=some (.lst (x.2.map V.int))
def Cs (H:Hp)(kvs:List (Key×V))(b:Cv):Prop:=Paired (Z3 H) kvs b
theorem Cs.same {H H':Hp}{kvs:List (Key×V)}{b:Cv}(r:Cs H kvs b)(s:∀a xs,H a=some (.lst xs)->H' a=some (.lst xs)):Cs H' kvs b:=Paired.mapP r λ_ _ ⟨h1,a,h2,h3⟩=>⟨h1,a,h2,s _ _ h3⟩
theorem WU (a k:Int):decide ((Sum.inl a:Key)=Sum.inl k)=decide (a=k):=by
 by_cases e:a=k
 ·rw[e];simp
 ·rw[bD e,bD λz=>e (cI z)]
theorem Cs.any {H:Hp}{kvs:List (Key×V)}{b:Cv}(r:Cs H kvs b)(k:Int):(kvs.any λkv=>decide (kv.1=Sum.inl k))=(b.any λx=>decide (x.1=k)):=by
 unfold Cs at r
 induction r with
 |nil=>rfl
 |cons h t ih=>rw[fj,fj,ih,h.1,WU]
theorem Cs.put {H:Hp}{kvs:List (Key×V)}{b:Cv}(r:Cs H kvs b)(k:Int){l:Addr}{row:List Int}(hl:H l=some (.lst (row.map V.int))):Cs H (putK kvs (Sum.inl k) (.ref l)) (F2 b k row):=by
 unfold putK F2;rw[r.any k]
 by_cases hc:(b.any λx=>decide (x.1=k))=true
 ·rw[bF hc,bF hc]
  clear hc
  unfold Cs at r ⊢
  induction r with
  |nil=>exact .nil
  |@cons kv x ps qs h t ih=>
   rw[bg,bg];refine .cons ?_ ih
   by_cases e:x.1=k
   ·rw[bF (by rw[h.1,e]),bF e];exact⟨h.1,l,rfl,hl⟩
   ·rw[bH (by rw[h.1];exact λz=>e (cI z)),bH e];exact h
 ·rw[bH hc,bH hc];exact Paired.snoc r ⟨rfl,l,rfl,hl⟩
theorem Cs.get {H:Hp}{kvs:List (Key×V)}{b:Cv}(r:Cs H kvs b)(k:Int):(A4 kvs (Sum.inl k)=none/\Ca b k=none)\/∃a row,A4 kvs (Sum.inl k)=some (.ref a)/\Ca b k=some row/\H a=some (.lst (row.map V.int)):=by
 unfold Cs at r
 induction r with
 |nil=>exact .inl ⟨rfl,rfl⟩
 |@cons kv x ps qs h t ih=>
  obtain⟨h1,a,h2,h3⟩:=h
  by_cases e:x.1=k
  ·refine .inr ⟨a,x.2,?_,?_,h3⟩
   ·rw[GH (by rw[h1,e]),h2]
   ·unfold Ca;rw[dF,bh e];rfl
  ·have g1:Ca (x::qs) k=Ca qs k:=by unfold Ca;rw[dF,bD e]
   have g2:A4 (kv::ps) (Sum.inl k)=A4 ps (Sum.inl k):=GB (by rw[h1];exact λz=>e (cI z));rw[g1,g2];exact ih
theorem Cs.len {H:Hp}{kvs:List (Key×V)}{b:Cv}(r:Cs H kvs b):kvs.length=b.length:=eV r
theorem Ua (b:Cv)(k:Int)(row:List Int):(F2 b k row).length<=b.length+1:=by
 unfold F2
 split
 ·rw[aS];omega
 ·rw[bx];show b.length+1<=_;omega
theorem Mf {α β:Type}{F G:α->β->Prop}:∀{l₁:List α} {l₂:List β},Paired F l₁ l₂->(∀a∈l₁,∀b,F a b->G a b)->Paired G l₁ l₂
 |_,_,.nil,_=>.nil
 |_,_,.cons r t,f=>.cons (f _ bc _ r) (Mf t λa ha=>f a (a9 _ ha))
theorem D1 {α β:Type}{F:α->β->Prop}:∀{l₁:List α} {l₂:List β} {i:Nat} {a:α},Paired F l₁ l₂->l₁[i]?=some a->∃b,l₂[i]?=some b/\F a b
 |_,_,_,_,.nil,e=>by simp at e
 |_,_,0,_,.cons r _,e=>by simp at e;subst e;exact⟨_,rfl,r⟩
 |_,_,i+1,a,.cons _ t,e=>by
  obtain⟨b,h1,h2⟩:=D1 (i:=i) (a:=a) t (by simpa using e);exact⟨b,by simpa using h1,h2⟩
theorem Sn {b:Cv}{k:Int}{row:List Int}(h:(b.any λx=>decide (x.1=k))=true):(F2 b k row).map (·.1)=b.map (·.1):=by
 unfold F2;rw[bF h,bw];refine cD λx _=>?_
 show(if x.1=k then(x.1,row) else x).1=x.1
 split<;>rfl
theorem U0 {b:Cv}{k:Int}{row:List Int}(h:k∉b.map (·.1)):F2 b k row=b++[(k,row)]:=by
 unfold F2;rw[bH];intro z;obtain⟨x,hx,e⟩:=cR.mp z;exact h (aT.mpr ⟨x,hx,bP e⟩)
theorem Rk {b:Cv}{k:Int}{row:List Int}(h:(b.map (·.1)).Nodup):((F2 b k row).map (·.1)).Nodup:=by
 by_cases c:k∈b.map (·.1)
 ·rw[Sn]
  ·exact h
  ·obtain⟨x,hx,e⟩:=aT.mp c;exact cR.mpr ⟨x,hx,bh e⟩
 ·rw[U0 c,bA,b9];refine⟨h,by simp,λe he g hg=>?_⟩;rw[show g=k by simpa using hg];intro z;exact c (z▸he)
def TJ (H:Hp)(ds:List Addr)(bs:List Cv):Prop:=Paired (λd b=>∃kvs,H d=some (.dK kvs)/\Cs H kvs b/\(b.map (·.1)).Nodup) ds bs
theorem TJ.same {H H':Hp}{ds:List Addr}{bs:List Cv}(r:TJ H ds bs)(s:∀a xs,H a=some (.lst xs)->H' a=some (.lst xs))(k:∀d∈ds,∀kvs,H d=some (.dK kvs)->H' d=some (.dK kvs)):TJ H' ds bs:=
 Mf r λd hd _ ⟨kvs,h1,h2,h3⟩=>⟨kvs,k d hd kvs h1,h2.same s,h3⟩
theorem TJ.set {H H':Hp}{d:Addr}{b':Cv}(s:∀a xs,H a=some (.lst xs)->H' a=some (.lst xs))(hd:∃kvs,H' d=some (.dK kvs)/\Cs H' kvs b'/\(b'.map (·.1)).Nodup):∀{ds:List Addr} {bs:List Cv},TJ H ds bs->ds.Nodup->(∀e∈ds,e≠d->∀kvs,H e=some (.dK kvs)->H' e=some (.dK kvs))->∀{i:Nat},ds[i]?=some d->TJ H' ds (bs.set i b')
 |_,_,.nil,_,_,i,hi=>by simp at hi
 |_,_,.cons h t,nd,k,0,hi=>by
  simp at hi;subst hi;refine .cons hd (Mf t λe he _ ⟨kvs,h1,h2,h3⟩=>⟨kvs,k e (a9 _ he) (λz=>(bZ.mp nd).1 (z▸he)) kvs h1,h2.same s,h3⟩)
 |e::es,_,.cons h t,nd,k,i+1,hi=>by
  have hi':es[i]?=some d:=by simpa using hi
  obtain⟨kvs,h1,h2,h3⟩:=h;refine .cons ⟨kvs,k e bc (λz=>(bZ.mp nd).1 (by rw[z];exact a8 hi')) kvs h1,h2.same s,h3⟩ ?_;exact TJ.set s hd t (bZ.mp nd).2 (λe' he'=>k e' (a9 _ he')) hi'
def Gb (s:Addr)(n:Int)(lf:V):List (Str×V):=[("shelves",.ref s),("writes",.int n),("writes_left",lf)]
theorem Yo (s:Addr)(n y:Int)(lf:V):Dp "writes" (.int y) (Gb s n lf)=Gb s y lf:=by
 unfold Gb;simp only[Dp];rfl
theorem UW (s:Addr)(n:Int)(lf v:V):Dp "writes_left" v (Gb s n lf)=Gb s n v:=by
 unfold Gb;simp only[Dp];rfl
def DE (Ad:Addr)(H:Hp)(p:Addr)(ds:List Addr)(bs:List Cv)(n:Int)(lf:V):Prop:=∃dx s,H p=some (.ins Ad dx (Gb s n lf))/\H s=some (.lst (ds.map V.ref))/\ds.Nodup/\TJ H ds bs
theorem DE.len {Ad:Addr}{H:Hp}{p:Addr}{ds:List Addr}{bs:List Cv}{n:Int}{lf:V}(h:DE Ad H p ds bs n lf):ds.length=bs.length:=by
 obtain⟨_,_,_,_,_,r⟩:=h;exact eV r
def Kb (H H':Hp)(p:Addr)(ds:List Addr):Prop:=∀b o,H b=some o->b≠p->b∉ds->H' b=some o
theorem DE.same {Ad:Addr}{H H':Hp}{p:Addr}{ds:List Addr}{bs:List Cv}{n:Int}{lf:V}(h:DE Ad H p ds bs n lf)(s:Ap H H'):DE Ad H' p ds bs n lf:=by
 obtain⟨dx,s0,h1,h2,h3,h4⟩:=h;exact⟨dx,s0,s.get h1,s.get h2,h3,h4.same (λa xs e=>s.get e) λd _ kvs e=>s.get e⟩
theorem Ap.kb {H H':Hp}(s:Ap H H')(p:Addr)(ds:List Addr):Kb H H' p ds:=λb o e _ _=>s b o e
theorem Kb.trans {H H1 H2:Hp}{p:Addr}{ds:List Addr}(a:Kb H H1 p ds)(b:Kb H1 H2 p ds):Kb H H2 p ds:=λc o e h1 h2=>b c o (a c o e h1 h2) h1 h2
theorem DE.notin {Ad:Addr}{H:Hp}{p:Addr}{ds:List Addr}{bs:List Cv}{n:Int}{lf:V}(g:DE Ad H p ds bs n lf){b:Addr}{o:HO}(e:H b=some o)(z:∀kvs,o≠.dK kvs):b∉ds:=λhb=>by
 obtain⟨_,_,_,_,_,g4⟩:=g;obtain⟨i,hi,ei⟩:=eM hb;obtain⟨c,_,kvs,q1,_⟩:=D1 (i:=i) g4 (by rw[aW hi,ei]);rw[e] at q1;exact z kvs (bf q1)
theorem DE.there {Ad:Addr}{H:Hp}{p:Addr}{ds:List Addr}{bs:List Cv}{n:Int}{lf:V}(g:DE Ad H p ds bs n lf):∀d∈ds,∃kvs,H d=some (.dK kvs):=λd hb=>by
 obtain⟨_,_,_,_,_,g4⟩:=g;obtain⟨i,hi,ei⟩:=eM hb;obtain⟨c,_,kvs,q1,_⟩:=D1 (i:=i) g4 (by rw[aW hi,ei]);exact⟨kvs,q1⟩
def GS (K:W.Frag)(Ad:Addr):Sp:=λvs H Q _=>∃(p dx:Addr) (m:Nat),vs=[.ref p,.int m]/\2<=m/\m<=4/\H p=some (.ins Ad dx [])/\∀H' ds,DE Ad H' p ds (List.replicate m []) 0 .non->(∀d∈ds,H d=none)->(∀b o,H b=some o->b≠p->H' b=some o)->Q .non H'
def Eu (K:W.Frag)(Ad:Addr):Sp:=λvs H Q _=>∃p ds bs n lf,vs=[.ref p]/\DE Ad H p ds bs n lf/\Q (.int (bs.length:Int)) H
def DO (K:W.Frag)(Ad:Addr):Sp:=λvs H Q _=>∃p ds bs n lf,∃(b:Nat),vs=[.ref p,.int (b:Int)]/\DE Ad H p ds bs n lf/\b<bs.length/\∀d,ds[b]?=some d->Q (.ref d) H
def GQ:V->V
 | .int k=>.int (k-1)
 |v=>v
def OW (lf:V):Prop:=lf=.non\/∃k:Nat,lf=.int (k:Int)
def Gi (K:W.Frag)(Ad:Addr)(XC:Nat->Addr):Sp:=λvs H Q E=>∃p ds bs n lf,∃(b:Nat) (z:Int) (a:Addr) (row:List Int),vs=[.ref p,.int (b:Int),.int z,.ref a]/\DE Ad H p ds bs n lf/\OW lf/\b<bs.length/\(∀c∈bs,c.length<1000)/\H a=some (.lst (row.map V.int))/\
 (lf=.int 0->E (.ref (XC 0)) none H)/\(lf≠.int 0->∀H',DE Ad H' p ds (bs.set b (F2 (bs.getD b []) z row)) (n+1) (GQ lf)->Kb H H' p ds->Q .non H')
def GO (K:W.Frag)(Ad:Addr):Sp:=λvs H Q _=>∃p ds bs n lf,∃(b:Nat) (z:Int),vs=[.ref p,.int (b:Int),.int z]/\DE Ad H p ds bs n lf/\b<bs.length/\(Ca (bs.getD b []) z=none->Q .non H)/\
 ∀row,Ca (bs.getD b []) z=some row->∀l,H l=none->Q (.ref l) (upd H l (.lst (row.map V.int)))
def GM (K:W.Frag)(Ad:Addr):Sp:=λvs H Q _=>∃p ds bs n lf v,vs=[.ref p,v]/\DE Ad H p ds bs n lf/\∀H',DE Ad H' p ds bs n v->Kb H H' p ds->Q .non H'
theorem LW (T:Txt K mg Ab Ad Aa Af XC)(F:Fun K "many" "Boards.many" Fb f fd):FnOk P w K mg base BO 1 f fd ["self"] (Eu K Ad):=by
 exists MI
 ·obtain⟨p,ds,bs,n,lf,rfl,_⟩:=h;rfl
 obtain⟨p,ds,bs,n,lf,rfl,hB,q⟩:=h;have hl:=hB.len;obtain⟨dx,s0,h1,h2,h3,h4⟩:=hB;refine⟨_,(!Ak (!Ao (!Aq AB (by rfl) T.b_len Bl (!Ac (!AN (pv 0)) (!Ai))))),?_⟩;refine⟨_,rfl,p,Ad,dx,_,_,rfl,h1,T.cl_Boards,T.n_Boards_shelves,rfl,s0,_,rfl,.inl (AI.of h2),?_⟩;rw[aS,hl];exact q
theorem KI (T:Txt K mg Ab Ad Aa Af XC)(F:Fun K "shelf" "Boards.shelf" Ep f fd)(AC:Def P w K mg base 2 "is_between" ["thing","least","most"] (By K))(BM:BH P w K mg base 1 Ad "many" ["self"] (Eu K Ad)):FnOk P w K mg base BO 3 f fd ["self","board"] (DO K Ad):=by
 exists KL
 ·obtain⟨p,ds,bs,n,lf,b,rfl,_⟩:=h;rfl
 obtain⟨p,ds,bs,n,lf,b,rfl,hB,b1,q⟩:=h;have hl:=hB.len;obtain⟨dx,s0,h1,h2,h3,h4⟩:=id hB;refine⟨_,(!Ah (!AM (!BL (!BC (!AK AC (by trivial) rfl (!Ac (pv 1) (!Ac (!Aj) (!Ac (!As FK (!Ce (pv 0) T.cl_Boards BM) (!Aj)) (!Ai))))) (by intro _;rfl))) (!Ak (!DG)) (!Av)) (!Ak (!Ao (!Aw A7 (!AN (pv 0)) (pv 1) (λ_ _=>rfl))))),?_⟩;refine⟨_,rfl,_,rfl,p,dx,_,rfl,h1,rfl,p,ds,bs,n,lf,rfl,hB,_,_,rfl,rfl,.int (b:Int),0,_,rfl,trivial,_,rfl,AJ ?_ ?_⟩
 ·show(!(decide ((0:Int)<=(b:Int))&&decide ((b:Int)<=(bs.length:Int)-1)))=false;rw[bh (show(0:Int)<=(b:Int) by omega),bh (show(b:Int)<=(bs.length:Int)-1 by omega)];rfl
 have hk:b<ds.length:=by omega
 exact⟨_,rfl,p,Ad,dx,_,_,rfl,h1,T.cl_Boards,T.n_Boards_shelves,rfl,_,rfl,s0,_,_,_,rfl,rfl,AI.of h2,Jn (j:=b) (by rw[bz,aW hk];rfl),q _ (aW hk)⟩
theorem Wh {H H':Hp} {p dx s0 l:Addr} {ds:List Addr} {bs:List Cv} {n y:Int} {lf lf2:V} {b:Nat} {d:Addr} {z:Int} {row:List Int} {kvs:List (Key×V)} (h1:H p=some (.ins Ad dx (Gb s0 n lf))) (h2:H s0=some (.lst (ds.map V.ref))) (h3:ds.Nodup) (h4:TJ H ds bs) (hb:ds[b]?=some d) (hd:H d=some (.dK kvs))
  (hl:H l=none) (e:H'=upd (upd (upd H p (.ins Ad dx (Gb s0 y lf2))) l (.lst (row.map V.int))) d (.dK (putK kvs (Sum.inl z) (.ref l)))):DE Ad H' p ds (bs.set b (F2 (bs.getD b []) z row)) y lf2/\Kb H H' p ds:=by
 have npd:p≠d:=AL h1 hd (by intro z;cases z);have nld:l≠d:=λz=>by rw[z,hd] at hl;cases hl
 have nlp:l≠p:=λz=>by rw[z,h1] at hl;cases hl
 have lists:∀a xs,H a=some (.lst xs)->H' a=some (.lst xs):=λa xs q=>by
  rw[e,Ag (AL q hd (by intro z;cases z)),Ag (AG q hl),Ag (AL q h1 (by intro z;cases z))];exact q
 have hl':H' l=some (.lst (row.map V.int)):=by rw[e,Ag nld,Ae]
 obtain⟨b0,g1,kvs0,g2,g3,g5⟩:=D1 h4 hb;rw[hd] at g2;cases g2;have eb:bs.getD b []=b0:=by simp[List.getD,g1]
 refine⟨⟨dx,s0,?_,lists _ _ h2,h3,?_⟩,λc o q hc hcd=>?_⟩
 ·rw[e,Ag npd,Ag nlp.symm,Ae]
 ·rw[eb];refine TJ.set lists ⟨_,by rw[e,Ae],(g3.same lists).put z hl',Rk g5⟩ h4 h3 (λe' he' ne' kvs' q=>?_) hb;rw[e,Ag ne',Ag (AG q hl),Ag (AL q h1 (by intro z;cases z))];exact q
 ·rw[e,Ag (λz=>hcd (by rw[z];exact a8 hb)),Ag (AG q hl),Ag hc];exact q
theorem K4 (T:Txt K mg Ab Ad Aa Af XC)(F:Fun K "write" "Boards.write" D5 f fd)(BQ:BH P w K mg base 3 Ad "shelf" ["self","board"] (DO K Ad)):FnOk P w K mg base (OT P w) 4 f fd ["self","board","number","row"] (Gi K Ad XC):=by
 refine F.okX Ga (λvs H Q E h=>?_) (λcdv A outer s H vs Q E hr h=>?_)
 ·obtain⟨p,ds,bs,n,lf,b,z,a,row,rfl,_⟩:=h;rfl
 obtain⟨p,ds,bs,n,lf,b,z,a,row,rfl,hB,lok,b1,b2,ha,qE,q⟩:=h;have hl:=hB.len;obtain⟨dx,s0,h1,h2,h3,h4⟩:=id hB;have hu:=BF hr;refine⟨_,(!Ah (@AD _ _ (4) _ _ _ _ Ga.nd rfl (by trivial) (!A2 (pv 0) T.cl_Boards BQ (by trivial) (!Ac (pv 1) (!Ai))) (by rfl) (by trivial)) (!Ah (!AM (!Au Bg (!AN (pv 0)) (!Aj) (Ay _)) (!Ak (!SQ UB rfl T.x_Stopped T.q_Stopped)) (!Av)) (!Ah (!AM (!EW (!K6 (!AN (pv 0))) (by first|exact Cn _ (by decide) (by decide)|rfl)) (!Ak (!D3 (pv 0) (!Aj) Sd)) (!Av)) (!Ah (!D3 (pv 0) (!Aj) K8) (!Ak (!ET hu (pv 4) (pv 2) (!BX De (by rfl) T.b_list Ji (!Ac (pv 3) (!Ai))))))))),?_⟩;dsimp only[BB];refine⟨_,rfl,p,dx,_,rfl,h1,rfl,_,rfl,p,ds,bs,n,lf,b,rfl,hB,b1,λd hd=>?_⟩;obtain⟨c0,g1,kvs,e1,g3,g5⟩:=D1 h4 hd;have npd:p≠d:=AL h1 e1 (by intro z;cases z);have npa:a≠p:=AL ha h1 (by intro z;cases z);have kl:kvs.length<1000:=by rw[g3.len];exact b2 _ (a8 g1)
 dsimp only;refine EL (λσ' H'=>σ'=[some (.ref p),some (.int (b:Int)),some (.int z),some (.ref a),some (.ref d)]/\H'=H/\lf≠.int 0) (λN hN=>?_) ?_
 ·refine⟨_,rfl,p,Ad,dx,_,_,rfl,h1,T.cl_Boards,T.n_Boards_writes_left,rfl,?_⟩;rcases lok with rfl|⟨k,rfl⟩
  ·exact⟨rfl,_,rfl,AJ rfl (hN _ _ ⟨rfl,rfl,by intro z;cases z⟩)⟩
  ·refine⟨rfl,_,rfl,Co (λc=>?_) (λc=>?_)⟩
   ·have c':V.int (k:Int)=V.int 0:=dec_true c;exact qE c'
   ·exact hN _ _ ⟨rfl,rfl,dec_false c⟩
 rintro σ' H' ⟨rfl,rfl,lne⟩
 refine EL (λσ' H2=>σ'=[some (.ref p),some (.int (b:Int)),some (.int z),some (.ref a),some (.ref d)]/\H2=upd H' p (.ins Ad dx (Gb s0 n (GQ lf)))) (λN hN=>?_) ?_
 ·refine⟨_,rfl,p,Ad,dx,_,_,rfl,h1,T.cl_Boards,T.n_Boards_writes_left,rfl,?_⟩;rcases lok with rfl|⟨k,rfl⟩
  ·refine⟨_,rfl,AJ rfl (hN _ _ ⟨rfl,?_⟩)⟩
   funext c
   by_cases e:c=p
   ·rw[e,Ae];exact h1
   ·rw[Ag e]
  ·refine⟨_,rfl,BA rfl ?_⟩;refine⟨_,rfl,p,Ad,dx,_,_,rfl,h1,T.cl_Boards,T.n_Boards_writes_left,rfl,_,_,rfl,rfl,dx,_,h1,(by show 3<1000;decide),hN _ _ ⟨rfl,?_⟩⟩;rw[UW];rfl
 rintro σ' H2 ⟨rfl,rfl⟩
 have ap:upd H' p (.ins Ad dx (Gb s0 n (GQ lf))) p=some (.ins Ad dx (Gb s0 n (GQ lf))):=Ae;refine⟨_,rfl,p,Ad,dx,_,_,rfl,ap,T.cl_Boards,T.n_Boards_writes,rfl,_,_,rfl,rfl,dx,_,ap,(by show 3<1000;decide),?_⟩;rw[DV,Yo];refine⟨_,rfl,a,_,rfl,.inl (AI.of (by rw[Ag npa];exact ha)),λl hl0=>?_⟩;have nlp:l≠p:=λz=>by rw[z,Ae] at hl0;cases hl0
 have hlH:H' l=none:=by rw[Ag nlp] at hl0;exact hl0
 have ndl:d≠l:=AG e1 hlH;refine⟨_,rfl,_,rfl,d,_,rfl,IL.k (k:=Sum.inl z) (by rw[Ag ndl,Ag npd.symm];exact e1) (Sm (by omega)),?_⟩;obtain⟨x1,x2⟩:=Wh (Ad:=Ad) (y:=n+1) (lf2:=GQ lf) (row:=row) (z:=z) h1 h2 h3 h4 hd e1 hlH rfl;exact q lne _ x1 x2
def ER (K:W.Frag)(Ad:Addr):Sp:=λvs H Q _=>∃p ds bs n lf,vs=[.ref p]/\DE Ad H p ds bs n lf/\Q (.int n) H
theorem Jp (T:Txt K mg Ab Ad Aa Af XC)(F:Fun K "written" "Boards.written" Dv f fd):FnOk P w K mg base BO 1 f fd ["self"] (ER K Ad):=by
 exists Jz
 ·obtain⟨p,ds,bs,n,lf,rfl,_⟩:=h;rfl
 obtain⟨p,ds,bs,n,lf,rfl,hB,q⟩:=h;obtain⟨dx,s0,h1,h2,h3,h4⟩:=hB;refine⟨_,(!Ak (!Ao (!AN (pv 0)))),?_⟩;exact⟨_,rfl,p,Ad,dx,_,_,rfl,h1,T.cl_Boards,T.n_Boards_writes,rfl,q⟩
theorem Lo (T:Txt K mg Ab Ad Aa Af XC)(F:Fun K "cell" "Boards.cell" Fe f fd)(BQ:BH P w K mg base 3 Ad "shelf" ["self","board"] (DO K Ad)):FnOk P w K mg base BO 4 f fd ["self","board","number"] (GO K Ad):=by
 exists GF
 ·obtain⟨p,ds,bs,n,lf,b,z,rfl,_⟩:=h;rfl
 obtain⟨p,ds,bs,n,lf,b,z,rfl,hB,b1,q0,q1⟩:=h;obtain⟨dx,s0,h1,h2,h3,h4⟩:=id hB;have hu:=BF hr;refine⟨_,(!Ah (@AD _ _ (3) _ _ _ _ GF.nd rfl (by trivial) (!U7 hu (!A2 (pv 0) T.cl_Boards BQ (by trivial) (!Ac (pv 1) (!Ai))) (pv 2) ⟨rfl,rfl,rfl,rfl⟩) (by rfl) (by trivial)) (!Ah (!AM (!EW (!Rg (pv 3)) (by first|exact Cn _ (by decide) (by decide)|rfl)) (!Ak (!Ao (!Eb))) (!Av)) (!Ak (!Ao (!BX De (by rfl) T.b_list Ji (!Ac (pv 3) (!Ai))))))),?_⟩
 try dsimp only[BB,Cx.nox,Cx.wish]
 refine⟨_,rfl,p,dx,_,rfl,h1,rfl,_,rfl,p,ds,bs,n,lf,b,rfl,hB,b1,λd hd=>?_⟩;obtain⟨c0,g1,kvs,e1,g3,g5⟩:=D1 h4 hd;have eb:bs.getD b []=c0:=by simp[List.getD,g1]
 rw[eb] at q0 q1;refine⟨d,rfl,.inl ⟨kvs,.inl e1⟩,_,rfl,_,BG.k (k:=Sum.inl z) e1,?_⟩;rcases g3.get z with⟨v1,v2⟩|⟨a,row,v1,v2,v3⟩
 ·rw[v1];exact⟨_,rfl,_,rfl,BA rfl (q0 v2)⟩
 ·rw[v1];refine⟨_,rfl,_,rfl,AJ rfl ?_⟩;exact⟨_,rfl,a,_,rfl,.inl (AI.of v3),λl hl=>q1 row v2 l hl⟩
theorem Mi (T:Txt K mg Ab Ad Aa Af XC)(F:Fun K "stop" "Boards.stop" Fc f fd):FnOk P w K mg base BO 1 f fd ["self","many"] (GM K Ad):=by
 exists LP
 ·obtain⟨p,ds,bs,n,lf,v,rfl,_⟩:=h;rfl
 obtain⟨p,ds,bs,n,lf,v,rfl,hB,q⟩:=h;obtain⟨dx,s0,h1,h2,h3,h4⟩:=id hB;refine⟨_,(!Ak (!BU (pv 0) (pv 1))),?_⟩;refine⟨_,rfl,_,rfl,p,Ad,dx,_,rfl,h1,T.cl_Boards,T.n_Boards_writes_left,(by show 3<1000;decide),?_⟩;rw[UW];refine q _ ⟨dx,s0,Ae,by rw[Ag (AL h2 h1 (by intro z;cases z))];exact h2,h3,h4.same (λa xs e=>by rw[Ag (AL e h1 (by intro z;cases z))];exact e) λd _ kvs e=>by rw[Ag (AL e h1 (by intro z;cases z))];exact e⟩ λc o e hc _=>by rw[Ag hc];exact e
theorem LU (T:Txt K mg Ab Ad Aa Af XC)(F:Fun K "__init__" "Boards.__init__" E6 f fd)(AC:Def P w K mg base 2 "is_between" ["thing","least","most"] (By K)):FnOk P w K mg base BO 3 f fd ["self","many"] (GS K Ad):=by
 exists MQ
 ·obtain⟨p,dx,m,rfl,_⟩:=h;rfl
 obtain⟨p,dx,m,rfl,m1,m2,h1,q⟩:=h;refine⟨_,(!Ah (!AM (!BL (!BC (!AK AC (by trivial) rfl (!Ac (pv 1) (!Ac (!AH rfl T.c_LEAST_BOARDS) (!Ac (!AH rfl T.c_MOST_BOARDS) (!Ai))))) (by intro _;rfl))) (!Ak (!DG)) (!Av)) (!Ah (!BU (pv 0) (@Br _ ["board"] _ _ _ _ _ _ _ _ _ _ rfl (!C4 rfl T.b_range (!Ac (pv 1) (!Ai))) (by decide +kernel) (λC s H fp=>⟨(@An _ _ (0) _ (show(["board"]:List Str).Nodup by decide +kernel) rfl (by trivial) (by trivial)),(!AU),(!Ec)⟩) (by intro _;rfl))) (!Ah (!BU (pv 0) (!Aj)) (!Ak (!BU (pv 0) (!Eb)))))),?_⟩
 try dsimp only[BB,Cx.nox,Cx.wish]
 refine⟨_,rfl,.int m,2,4,rfl,trivial,_,rfl,AJ ?_ ?_⟩
 ·show(!(decide ((2:Int)<=(m:Int))&&decide ((m:Int)<=4)))=false;rw[bh (show(2:Int)<=(m:Int) by omega),bh (show(m:Int)<=4 by omega)];rfl
 refine⟨_,rfl,m,rfl,by omega,by omega,?_⟩;refine OM (xs:=(List.range (m:Int).toNat).map λ(i:Nat)=>V.int (0+(i:Int))) (λi ys l H'=>Ap H H'/\∃ds:List Addr,ys=ds.map V.ref/\ds.Nodup/\∀d∈ds,H' d=some (.dK [])/\H d=none) (by rw[aS,bY];omega) (λi ys l H' _=>QQ) (λl hl=>⟨Al hl _,[],rfl,cA,λ_ h=>nomatch h⟩) (λi x ys l H' R hx hl hl' hlen hI hR d hd=>?_) λl H1 ys hl hl1 ly hI=>?_
 ·obtain⟨s',ds,rfl,nd,hds⟩:=hI;have nld:l≠d:=AG hl' hd;refine hR _ _ (by rw[Ag nld];exact hl') ⟨AW (AW s' (s'.free hd) _) hl _,ds++[d],by rw[bA];rfl,?_,λe he=>?_⟩
  ·rw[b9];refine⟨nd,by simp,λe he g hg=>?_⟩;rw[ba.mp hg];intro z;have:=(hds e he).1;rw[z,hd] at this;cases this
  ·have nel:∀{o},H' e=some (.dK o)->e≠l:=λq=>AL q hl' (by intro z;cases z)
   rcases aY.mp he with he|he
   ·obtain⟨g1,g2⟩:=hds e he;exact⟨by rw[Ag (nel g1),Ag (AG g1 hd)];exact g1,g2⟩
   ·rw[ba.mp he];exact⟨by rw[Ag nld.symm,Ae],s'.free hd⟩
 obtain⟨s1,ds,rfl,nd,hds⟩:=hI;have lds:ds.length=m:=by rw[aS,aS,bY] at ly;omega
 have p1:=s1.get h1;have npl:l≠p:=AL hl1 p1 (by intro z;cases z);refine⟨_,rfl,p,Ad,dx,[],rfl,p1,T.cl_Boards,T.n_Boards_shelves,(by show 0<1000;decide),?_⟩;refine⟨_,rfl,p,Ad,dx,_,rfl,Ae,T.cl_Boards,T.n_Boards_writes,(by show 1<1000;decide),?_⟩;refine⟨_,rfl,p,Ad,dx,_,rfl,Ae,T.cl_Boards,T.n_Boards_writes_left,(by show 2<1000;decide),?_⟩;rw[DV,DV];refine q _ ds ⟨dx,l,Ae,by rw[Ag npl];exact hl1,nd,?_⟩ (λd hd=>(hds d hd).2) λb o e hb=>?_
 ·have all:∀(es:List Addr),(∀d∈es,d∈ds)->TJ (upd H1 p (.ins Ad dx (Dp "writes_left" V.non (Dp "writes" (V.int 0) (Dp "shelves" (V.ref l) []))))) es (List.replicate es.length []):=by
   intro es
   induction es with
   |nil=>intro _;exact .nil
   |cons d es ih=>
    intro hm;refine .cons ⟨[],?_,.nil,cA⟩ (ih λe he=>hm e (a9 _ he));have:=(hds d (hm d bc)).1;rw[Ag (AL this p1 (by intro z;cases z))];exact this
  have:=all ds λ_ h=>h
  rw[lds] at this;exact this
 ·rw[Ag hb];exact s1.get e
abbrev Tg:=Int×Int×Int
structure En where
 nm:Str
 kd:Int
 tg:Tg
inductive Bk where
 |piece (z:Str)
 |row (lv:Int) (ts:List Tg)
 |folder (es:List En)
def CC (t:Tg):Tr:=.tup [.int t.1,.int t.2.1,.int t.2.2]
def K0 (e:En):Tr:=.tup [.str e.nm,.int e.kd,CC e.tg]
def BW:Bk->Tr
 | .piece z=>.tup [.int 0,.str z]
 | .row lv ts=>.tup [.int 1,.int lv,.tup (ts.map CC)]
 | .folder es=>.tup [.int 2,.tup (es.map K0)]
def Q6 (t:Tg):Prop:=(1<=t.1/\t.1<=999999)/\(0<=t.2.1/\t.2.1<=999999999)/\0<=t.2.2/\t.2.2<=996
def Tu (e:En):Prop:=Hy (.str e.nm)=true/\(1<=e.kd/\e.kd<=2)/\Q6 e.tg
def TU (lv:Int)(ts:List Tg):Prop:=ts.length<=8/\(1<lv->ts≠[])/\∀t∈ts,Q6 t
def Y9 (es:List En):Prop:=es.length<=16/\(∀e∈es,Tu e)/\PyProof.Rows.sortedS (es.map (·.nm))=true/\(es.map (·.nm)).Nodup
def Cu:Bk->Prop
 | .piece z=>Gh 1 8 (.str z)=true
 | .row lv ts=>(1<=lv/\lv<=9)/\TU lv ts
 | .folder es=>Y9 es
theorem F1 {H:Hp}{t:Tg}{v:V}(h:Rep NL H (CC t) v):∃a,v=.ref a/\H a=some (.tup [.int t.1,.int t.2.1,.int t.2.2]):=by
 obtain⟨a,vs,rfl,e,x1,u1,rfl,rfl,x2,u2,rfl,rfl,x3,u3,rfl,rfl,rfl⟩:=h;exact⟨a,rfl,e⟩
theorem EF {H:Hp}{t:Tg}{a:Addr}(e:H a=some (.tup [.int t.1,.int t.2.1,.int t.2.2])):Rep NL H (CC t) (.ref a):=⟨a,_,rfl,e,_,_,rfl,rfl,_,_,rfl,rfl,_,_,rfl,rfl,rfl⟩
theorem DM {H:Hp}{x:En}{v:V}(h:Rep NL H (K0 x) v):∃a b,v=.ref a/\H a=some (.tup [.str x.nm,.int x.kd,.ref b])/\H b=some (.tup [.int x.tg.1,.int x.tg.2.1,.int x.tg.2.2]):=by
 obtain⟨a,vs,rfl,e,x1,u1,rfl,rfl,x2,u2,rfl,rfl,x3,u3,rfl,r3,rfl⟩:=h;obtain⟨b,rfl,e2⟩:=F1 r3;exact⟨a,b,rfl,e,e2⟩
theorem X9 {H:Hp}{x:En}{a b:Addr}(e:H a=some (.tup [.str x.nm,.int x.kd,.ref b]))(e2:H b=some (.tup [.int x.tg.1,.int x.tg.2.1,.int x.tg.2.2])):Rep NL H (K0 x) (.ref a):=⟨a,_,rfl,e,_,_,rfl,rfl,_,_,rfl,rfl,_,_,rfl,EF e2,rfl⟩
theorem D2 {H:Hp}{z:Str}{v:V}(h:Rep NL H (BW (.piece z)) v):∃a,v=.ref a/\H a=some (.tup [.int 0,.str z]):=by
 obtain⟨a,vs,rfl,e,x1,u1,rfl,rfl,x2,u2,rfl,rfl,rfl⟩:=h;exact⟨a,rfl,e⟩
theorem Hh {H:Hp}{lv:Int}{ts:List Tg}{v:V}(h:Rep NL H (BW (.row lv ts)) v):∃a b vs,v=.ref a/\H a=some (.tup [.int 1,.int lv,.ref b])/\H b=some (.tup vs)/\AA NL H (ts.map CC) vs:=by
 obtain⟨a,vs,rfl,e,x1,u1,rfl,rfl,x2,u2,rfl,rfl,x3,u3,rfl,⟨b,us,rfl,e2,r⟩,rfl⟩:=h;exact⟨a,b,us,rfl,e,e2,r⟩
theorem Ck {H:Hp}{es:List En}{v:V}(h:Rep NL H (BW (.folder es)) v):∃a b vs,v=.ref a/\H a=some (.tup [.int 2,.ref b])/\H b=some (.tup vs)/\AA NL H (es.map K0) vs:=by
 obtain⟨a,vs,rfl,e,x1,u1,rfl,rfl,x2,u2,rfl,⟨b,us,rfl,e2,r⟩,rfl⟩:=h;exact⟨a,b,us,rfl,e,e2,r⟩
theorem C5 {α:Type}{g:α->Tr}{H:Hp}{xs:List α}{vs:List V}(h:AA NL H (xs.map g) vs){v:V}(hv:v∈vs):∃x∈xs,Rep NL H (g x) v:=by
 obtain⟨i,hi,e⟩:=eM hv;obtain⟨t,ht,r⟩:=AA.get h (show vs[i]?=some v by rw[aW hi,e]);rw[bz] at ht;cases z:xs[i]? with
 |none=>rw[z] at ht;cases ht
 |some x=>
  rw[z] at ht;cases ht;exact⟨x,a8 z,r⟩
theorem HX {t:Tg}(h:Q6 t)(n:Nat):CD (n+2) (CC t)=true:=by
 obtain⟨⟨a1,a2⟩,⟨b1,b2⟩,c1,c2⟩:=h;simp only[CC,CD,List.all_cons,List.all_nil,List.length_cons,List.length_nil,Bool.and_true,Bool.and_eq_true,decide_eq_true_eq];omega
theorem EE {z:Str}(h:Hy (.str z)=true):1<=z.length/\z.length<=8/\BE SG z=true/\∀c∈Cf z,c∈Cf SG:=by
 have h':(decide ((1:Int)<=z.length)&&decide ((z.length:Int)<=8)&&BE LN z)=true:=h;simp only[Bool.and_eq_true,decide_eq_true_eq] at h';have a:BE SG z=true:=by
  have:=h'.2;rw[<-ND,bL] at this;exact this.1
 refine⟨by omega,by omega,a,λc hc=>?_⟩;have:=bX.mp a c hc;simpa using this
theorem LD {x:En}(h:Tu x)(n:Nat):CD (n+3) (K0 x)=true:=by
 obtain⟨a,b,c⟩:=h;obtain⟨n1,n2,n3,_⟩:=EE a;have d:=HX c n;simp only[K0,CD,List.all_cons,List.all_nil,List.length_cons,List.length_nil,Bool.and_true,Bool.and_eq_true,decide_eq_true_eq,n3,d,and_true];omega
theorem Cq {b:Bk}(h:Cu b):CD 8 (BW b)=true:=by
 cases b with
 |piece z=>
  have h':(decide ((1:Int)<=(z.length:Int))&&decide ((z.length:Int)<=8)&&BE SG z)=true:=h;simp only[Bool.and_eq_true,decide_eq_true_eq] at h';simp only[BW,CD,List.all_cons,List.all_nil,List.length_cons,List.length_nil,Bool.and_true,Bool.and_eq_true,decide_eq_true_eq,h'.2,and_true];omega
 |row lv ts=>
  obtain⟨l,n,_,o⟩:=h;have d:(ts.map CC).all (CD 6)=true:=bX.mpr λt ht=>by
   obtain⟨x,hx,rfl⟩:=aT.mp ht;exact HX (o x hx) 4
  simp only[BW,CD,List.all_cons,List.all_nil,List.length_cons,List.length_nil,List.length_map,Bool.and_true,Bool.and_eq_true,decide_eq_true_eq,d,and_true];omega
 |folder es=>
  obtain⟨n,o,_⟩:=h;have d:(es.map K0).all (CD 6)=true:=bX.mpr λt ht=>by
   obtain⟨x,hx,rfl⟩:=aT.mp ht;exact LD (o x hx) 3
  simp only[BW,CD,List.all_cons,List.all_nil,List.length_cons,List.length_nil,List.length_map,Bool.and_true,Bool.and_eq_true,decide_eq_true_eq,d,and_true];omega
theorem MD {H:Hp}{t:Tr}{v:V}{n:Nat}(h:Rep NL H t v)(i:CD n t=true):Ok H v:=(Hl h).ok (QM _ _ i)
theorem VY {a b:List Nat}(h1:¬b<a)(h2:¬a<b):a=b:=List.le_antisymm h1 h2
theorem Io:∀{p:Str} {l:List Str},PyProof.Rows.risingS p l=true->∀x∈l,¬x.cps.toList<p.cps.toList
 |p,y::r,h,x,hx=>by
  have h':=h;rw[PyProof.Rows.risingS,bL,PyProof.Rows.ltCps_eq] at h';have h1:¬y.cps.toList<p.cps.toList:=by simpa using h'.1
  rcases bE.mp hx with rfl|hx
  ·exact h1
  ·exact List.le_trans h1 (Io h'.2 x hx)
theorem Kv {x:Str}{l:List Str}(h:PyProof.Rows.sortedS (x::l)=true):PyProof.Rows.sortedS l=true:=by
 cases l with
 |nil=>rfl
 |cons y r=>
  have h':=h;rw[PyProof.Rows.sortedS,PyProof.Rows.risingS,bL] at h';exact h'.2
theorem LR:∀{a b:List Str},a.Perm b->PyProof.Rows.sortedS a=true->PyProof.Rows.sortedS b=true->a=b
 |[],b,p,_,_=>(List.nil_perm.mp p).symm
 |x::a,[],p,_,_=>absurd p.length_eq (by simp)
 |x::a,y::b,p,ha,hb=>by
  have e:x=y:=by
   have m1:x∈y::b:=p.mem_iff.mp bc;have m2:y∈x::a:=p.mem_iff.mpr bc;rcases bE.mp m1 with e|m1
   ·exact e
   rcases bE.mp m2 with e|m2
   ·exact e.symm
   have l1:=Io (p:=x) (l:=a) ha y m2;have l2:=Io (p:=y) (l:=b) hb x m1;have:=VY l1 l2;cases x;cases y;simp only[PySem.Str.mk.injEq];exact gU.mp this
  subst e;rw[LR p.cons_inv (Kv ha) (Kv hb)]
theorem P0:∀(l ks:List Str),(ks++l).Nodup->l.foldl (λks k=>if k∈ks then ks else ks++[k]) ks=ks++l
 |[],ks,_=>(cm _).symm
 |k::r,ks,h=>by
  have nk:k∉ks:=λz=>by
   have:=(b9.mp h).2.2 k z k bc;exact this rfl
  have e:(if k∈ks then ks else ks++[k])=ks++[k]:=bH nk;rw[List.foldl_cons,e,P0 r (ks++[k]) (by rw[cn];exact h),cn];rfl
theorem Wy {a:List Str}(h:a.Nodup):D9 a=a:=P0 a [] h
theorem OY:∀{es:List En} {us:List V} {H:Hp},AA NL H (es.map K0) us->(us.map λv=>match v with | .ref x=>(match H x with|some (.tup (y::_))=>y|_=>.non)|_=>.non)=(es.map (·.nm)).map V.str
 |[],us,H,r=>by rw[show us=[] from r];rfl
 |e::es,us,H,r=>by
  obtain⟨v,us',rfl,r1,r2⟩:=r;obtain⟨a,b,rfl,e1,_⟩:=DM r1;rw[bg,bg,bg,OY r2];simp only[e1]
theorem Uh {H:Hp}{l:Addr}{us:List V}(h:H l=some (.lst (us.map λ_=>V.bl true))):H l=some (.lst ((us.map λ_=>true).map V.bl)):=by rw[h,bw];rfl
theorem Ny (us:List V):(us.map λ_=>true).all id=true:=by simp
theorem XG {Q:VK}{H:Hp}{us:List V}(q:Q (.bl true) H):Q (.bl ((us.map λ_=>true).all id)) H:=by rw[Ny];exact q
theorem JQ {J:It} {xs:List V} {te:TE} {Q:VK} {σ:St} {H:Hp} (f:V->V) (hJ:J2 J H xs) (hn:xs.length<=1000000) (htg:∀x∈xs,∃a x1 x2 x3,x=.ref a/\H a=some (.tup [x1,x2,x3]))
  (helt:∀a x1 x2 x3 (H':Hp) (R:VK),V.ref a∈xs->H a=some (.tup [x1,x2,x3])->Ap H H'->(∀H'',Ap H' H''->R (f (.ref a)) H'')->te [some x1,some x2,some x3] H' R)
  (hQ:∀l H',H l=none->Ap H H'->H' l=some (.lst (xs.map f))->Q (.ref l) H') :
  Da [none,none,none] (Re K 3 (Fo (Bt 0) (Fo (Bt 1) (Fo (Bt 2) Tx)))) PD te σ Q J H:=by
 intro l hl;refine⟨λi m σ' H'=>m=xs.length-i/\i<=xs.length/\(∃y0 y1 y2,σ'=[y0,y1,y2])/\Ap H H'/\H' l=some (.lst ((xs.take i).map f)),⟨xs.length,by simp,bU _,⟨_,_,_,rfl⟩,Al hl _,by rw[Ae,eY,eE]⟩,?_⟩
 rintro i m σ' H' ⟨rfl,hi,⟨y0,y1,y2,rfl⟩,hs,hl'⟩
 obtain⟨h1,h2,h3⟩:=hJ H' hs i
 by_cases hlt:i<xs.length
 ·refine .inr ⟨h1 hlt,λx H'' y=>?_⟩;obtain⟨rfl,hx⟩:=h2 x H'' y;have hx:=hx hlt;obtain⟨a,x1,x2,x3,rfl,ha⟩:=htg x (a8 hx);refine⟨a,_,rfl,AV.of (hs.get ha),rfl,_,_,rfl,_,_,rfl,_,_,rfl,rfl,?_⟩;refine helt a x1 x2 x3 H'' _ (a8 hx) ha hs λH4 s4=>?_
  refine⟨_,s4.get hl',Bd (by rw[aS,b6];omega),xs.length-(i+1),by omega,rfl,hlt,⟨_,_,_,rfl⟩,AW (hs.trans s4) hl _,?_⟩;rw[Ae,bN,hx];simp
 ·have e:i=xs.length:=by omega
  subst e;exact .inl ⟨h3 (aZ _),hQ l H' hl hs (by rw[hl',bJ (aZ _)])⟩
def JI (K:W.Frag):Sp:=λvs H Q _=>∃v t,vs=[v]/\Rep NL H (CC t) v/\Q6 t/\Q (.bl true) H
theorem SZ (T:Txt K mg Ab Ad Aa Af XC)(F:Fun K "is_tag" "is_tag" MN f fd)(AC:Def P w K mg base 2 "is_between" ["thing","least","most"] (By K))(Bq:Def P w K mg base 1 "is_tuple_of" ["thing","many"] (C6 K)):FnOk P w K mg base BO 3 f fd ["thing"] (JI K):=by
 exists Ss
 ·obtain⟨v,t,rfl,_⟩:=h;rfl
 obtain⟨v,t,rfl,hv,ok,q⟩:=h;have okv:=MD hv (HX ok 0);obtain⟨a,rfl,e⟩:=F1 hv;obtain⟨⟨a1,a2⟩,⟨b1,b2⟩,c1,c2⟩:=ok;refine⟨_,(!Ah (!AM (!BL (!BC (!AK Bq (by trivial) rfl (!Ac (pv 0) (!Ac (!Aj) (!Ai)))) (by intro _;rfl))) (!Ak (!Ao (!DF))) (!Av)) (!Ah (!AM (@PW.pt _ _ _ (!EU (!BL (!BC (!AK AC (by trivial) rfl (!Ac (!Aw AF (pv 0) (!Aj) (λ_ _=>rfl)) (!Ac (!Aj) (!Ac (!AH rfl T.c_MOST_CELL) (!Ai))))) (by intro _;rfl))) (!Du (!BL (!BC (!AK AC (by trivial) rfl (!Ac (!Aw AF (pv 0) (!Aj) (λ_ _=>rfl)) (!Ac (!Aj) (!Ac (!AH rfl T.c_MOST_BIRTH) (!Ai))))) (by intro _;rfl)))))) (!Ak (!Ao (!DF))) (!Av)) (!Ak (!Ao (!AK AC (by trivial) rfl (!Ac (!Aw AF (pv 0) (!Aj) (λ_ _=>rfl)) (!Ac (!Aj) (!Ac (!As FK (!AH rfl T.c_SUM_RESTS) (!Aj)) (!Ai))))))))),?_⟩;refine⟨_,rfl,_,3,rfl,okv,_,rfl,AJ (by rw[IP e];rfl) ?_⟩;dsimp only[Dr,Wn,Qu];have w1:JN 1 999999 (.int t.1)=true:=by show(decide (1<=t.1)&&decide (t.1<=999999))=true;simp;omega
 have w2:JN 0 999999999 (.int t.2.1)=true:=by show(decide (0<=t.2.1)&&decide (t.2.1<=999999999))=true;simp;omega
 have w3:JN 0 996 (.int t.2.2)=true:=by show(decide (0<=t.2.2)&&decide (t.2.2<=996))=true;simp;omega
 refine Xx (!JN 1 999999 (.int t.1)) (!JN 0 999999999 (.int t.2.1)) (λR q=>⟨_,rfl,a,_,_,_,rfl,rfl,AV.of e,rfl,_,1,999999,rfl,trivial,_,rfl,q⟩) (λ_ R q=>⟨_,rfl,a,_,_,_,rfl,rfl,AV.of e,rfl,_,0,999999999,rfl,trivial,_,rfl,q⟩) ?_;rw[w1,w2];refine AJ rfl ?_;refine⟨_,rfl,a,_,_,_,rfl,rfl,AV.of e,rfl,_,_,rfl,rfl,_,0,996,rfl,trivial,?_⟩;rw[w3];exact q
def Gk (K:W.Frag):Sp:=λvs H Q _=>∃v lv ts,vs=[v,.int lv]/\Rep NL H (.tup (ts.map CC)) v/\TU lv ts/\∀H',Ap H H'->Q (.bl true) H'
theorem KJ (T:Txt K mg Ab Ad Aa Af XC)(F:Fun K "are_row_tags" "are_row_tags" EI f fd)(Fz:Def P w K mg base 3 "is_tag" ["thing"] (JI K)):FnOk P w K mg base BO 4 f fd ["thing","level"] (Gk K):=by
 exists KP
 ·obtain⟨v,lv,ts,rfl,_⟩:=h;rfl
 obtain⟨v,lv,ts,rfl,hv,ok,q⟩:=h;have okv:Ok H v:=MD (n:=3) hv (by
  show(decide ((ts.map CC).length<=100)&&(ts.map CC).all (CD 2))=true;rw[bL,bq,aS];refine⟨by have:=ok.1;omega,bX.mpr λt ht=>?_⟩;obtain⟨x,hx,rfl⟩:=aT.mp ht;exact HX (ok.2.2 x hx) 0)
 have ety:=(Hl hv).tyN;obtain⟨a,us,rfl,e,r⟩:=hv;have lu:=AA.len _ _ r;rw[aS] at lu;obtain⟨o1,o2,o3⟩:=ok;have alls:∀(te:TE) (l0:Nat),True:=λ_ _=>trivial
 clear alls
 refine⟨_,(!Ah (!AM (@PW.pt _ _ _ (!EU (!BL (!BC (!Aq B0 (by rfl) T.b_isinstance Bx (!Ac (pv 0) (!Ac (!Ks rfl T.b_tuple EG) (!Ai)))) (by intro _;rfl))) (!Du (!Au NY (!Aq AB (by rfl) T.b_len Bl (!Ac (pv 0) (!Ai))) (!AH rfl T.c_MOST_TAGS) (Ay _))))) (!Ak (!Ao (!DF))) (!Av)) (!Ah (!AM (@PW.pt _ _ _ (!OO (!Au Bg (!Aq AB (by rfl) T.b_len Bl (!Ac (pv 0) (!Ai))) (!Aj) (Ay _)) (!La (!Au NY (pv 1) (!Aj) (Ay _))))) (!Ak (!Ao (!DF))) (!Av)) (!Ak (!Ao (!Aq (Fu rfl) (by rfl) T.b_all JL (!Ac (@Br _ ["tag"] _ _ _ _ _ _ _ _ _ _ rfl (!Ds (pv 0)) (by decide +kernel) (λC s H fp=>⟨(@An _ _ (0) _ (show(["tag"]:List Str).Nodup by decide +kernel) rfl (by trivial) (by trivial)),(!AU),(!AK Fz (by trivial) rfl (!Ac (pv 0) (!Ai)))⟩) (by intro _;rfl)) (!Ai))))))),?_⟩;refine⟨_,rfl,_,_,_,_,rfl,okv.ty K,okv.kit K,_,rfl,AJ (by rw[ety];show(!isA "tuple" "tuple")=false;decide) ?_⟩;refine⟨_,rfl,a,_,rfl,.inr (AV.of e),_,_,rfl,rfl,_,rfl,AJ (bD (by omega)) ?_⟩;refine⟨_,rfl,a,_,rfl,.inr (AV.of e),rfl,_,rfl,Co (λc=>?_) (λc=>?_)⟩
 ·have c':V.int (us.length:Int)=V.int 0:=dec_true c;have z:us.length=0:=by injection c' with c';omega
  have lz:¬1<lv:=λy=>o2 y (fO.mp (by omega))
  refine⟨_,rfl,_,_,rfl,rfl,_,rfl,AJ (bD lz) ?_⟩;refine⟨_,rfl,a,rfl,⟨_,AV.of e⟩,comp_map (λ_=>V.bl true) (CF e) (by omega) (λx H' R hx s' hR=>?_) λl H7 n7 s7 h7=>?_⟩
  ·obtain⟨t,ht,rt⟩:=C5 r hx;exact⟨_,rfl,x,t,rfl,Rep.same s' _ _ rt,o3 t ht,hR H' (Ap.refl _)⟩
  ·exact⟨l,us.map λ_=>true,rfl,AI.of (Uh h7),XG (q H7 s7)⟩
 ·refine AJ rfl ?_;refine⟨_,rfl,a,rfl,⟨_,AV.of e⟩,comp_map (λ_=>V.bl true) (CF e) (by omega) (λx H' R hx s' hR=>?_) λl H7 n7 s7 h7=>?_⟩
  ·obtain⟨t,ht,rt⟩:=C5 r hx;exact⟨_,rfl,x,t,rfl,Rep.same s' _ _ rt,o3 t ht,hR H' (Ap.refl _)⟩
  ·exact⟨l,us.map λ_=>true,rfl,AI.of (Uh h7),XG (q H7 s7)⟩
def KB (K:W.Frag):Sp:=λvs H Q _=>∃v x,vs=[v]/\Rep NL H (K0 x) v/\Tu x/\∀H',Ap H H'->Q (.bl true) H'
theorem PR (T:Txt K mg Ab Ad Aa Af XC)(F:Fun K "is_entry" "is_entry" IC f fd)(AC:Def P w K mg base 2 "is_between" ["thing","least","most"] (By K))(Fz:Def P w K mg base 3 "is_tag" ["thing"] (JI K))(Bq:Def P w K mg base 1 "is_tuple_of" ["thing","many"] (C6 K))(J1:Def P w K mg base 2 "is_name" ["thing"] (Lq K)):FnOk P w K mg base BO 4 f fd ["thing"] (KB K):=by
 exists Pg
 ·obtain⟨v,x,rfl,_⟩:=h;rfl
 obtain⟨v,x,rfl,hv,ok,q⟩:=h;have okv:=MD hv (LD ok 0);obtain⟨a,b,rfl,e,e2⟩:=DM hv;obtain⟨o1,⟨k1,k2⟩,o3⟩:=ok;have nl:=(EE o1).2.1;have w2:JN 1 2 (.int x.kd)=true:=by show(decide (1<=x.kd)&&decide (x.kd<=2))=true;simp;omega
 refine⟨_,(!Ah (!AM (@PW.pt _ _ _ (!EU (!BL (!BC (!AK Bq (by trivial) rfl (!Ac (pv 0) (!Ac (!Aj) (!Ai)))) (by intro _;rfl))) (!Du (!BL (!BC (!AK J1 (by trivial) rfl (!Ac (!Aw AF (pv 0) (!Aj) (λ_ _=>rfl)) (!Ai))) (by intro _;rfl)))))) (!Ak (!Ao (!DF))) (!Av)) (!Ak (!Ao (!Em (!AK AC (by trivial) rfl (!Ac (!Aw AF (pv 0) (!Aj) (λ_ _=>rfl)) (!Ac (!AH rfl T.c_FILE_ENTRY) (!Ac (!AH rfl T.c_FOLDER_ENTRY) (!Ai))))) (!FP (!AK Fz (by trivial) rfl (!Ac (!Aw AF (pv 0) (!Aj) (λ_ _=>rfl)) (!Ai)))))))),?_⟩;refine⟨_,rfl,_,3,rfl,okv,_,rfl,AJ (by rw[IP e];rfl) ?_⟩;refine⟨_,rfl,a,_,_,_,rfl,rfl,AV.of e,rfl,_,rfl,(show x.nm.length<=1000 by omega),λH1 s1=>⟨_,rfl,AJ (by rw[o1];rfl) ?_⟩⟩;dsimp only[Dr,ZC];refine Lm true true (λR q=>⟨_,rfl,a,_,_,_,rfl,rfl,AV.of (s1.get e),rfl,_,1,2,rfl,trivial,by rw[w2];exact q⟩) (λ_ R q=>?_) (q H1 s1);exact⟨_,rfl,a,_,_,_,rfl,rfl,AV.of (s1.get e),rfl,_,x.tg,rfl,EF (s1.get e2),o3,q⟩
def Xz (es:List En):Prop:=es.length<=16/\∀e∈es,Tu e
def N1 (es:List En):Bool:=decide (PyProof.Rows.sortedS (es.map (·.nm))=true/\(es.map (·.nm)).Nodup)
def Ri:Bk->Prop
 | .piece z=>Gh 1 8 (.str z)=true
 | .row lv ts=>(1<=lv/\lv<=9)/\TU lv ts
 | .folder es=>Xz es
def aF:Bk->Bool
 | .folder es=>N1 es
 |_=>true
theorem W9 {b:Bk}(h:Cu b):Ri b/\aF b=true:=by
 cases b with
 |piece z=>exact⟨h,rfl⟩
 |row lv ts=>exact⟨h,rfl⟩
 |folder es=>exact⟨⟨h.1,h.2.1⟩,bh ⟨h.2.2.1,h.2.2.2⟩⟩
theorem UD {b:Bk}(h:Ri b):CD 8 (BW b)=true:=by
 cases b with
 |piece z=>exact Cq (b:=.piece z) h
 |row lv ts=>exact Cq (b:=.row lv ts) h
 |folder es=>
  obtain⟨n,o⟩:=h;have d:(es.map K0).all (CD 6)=true:=bX.mpr λt ht=>by
   obtain⟨x,hx,rfl⟩:=aT.mp ht;exact LD (o x hx) 3
  simp only[BW,CD,List.all_cons,List.all_nil,List.length_cons,List.length_nil,List.length_map,Bool.and_true,Bool.and_eq_true,decide_eq_true_eq,d,and_true];omega
theorem O6:∀{a b:List Str},a.map V.str=b.map V.str->a=b
 |[],[],_=>rfl
 |[],_::_,h=>nomatch h
 |_::_,[],h=>nomatch h
 |x::a,y::b,h=>by
  rw[bg,bg] at h;injection h with h1 h2
  injection h1 with h1
  rw[h1,O6 h2]
theorem Qm (a:List Str):(D9 a).Nodup:=by
 have z:∀(l ks:List Str),ks.Nodup->(l.foldl (λks k=>if k∈ks then ks else ks++[k]) ks).Nodup:=λl=>by
  induction l with
  |nil=>intro ks h;exact h
  |cons k r ih=>
   intro ks h;refine ih _ ?_;dsimp only
   split
   ·exact h
   ·rename_i nk
    refine b9.mpr ⟨h,by simp,λa ha b hb=>?_⟩;rw[ba] at hb;subst hb;intro e;subst e;exact nk ha
 exact z a [] cA
def G3 (K:W.Frag):Sp:=λvs H Q _=>∃v es,vs=[v]/\Rep NL H (.tup (es.map K0)) v/\Xz es/\∀H',Ap H H'->Q (.bl (N1 es)) H'
theorem LL (T:Txt K mg Ab Ad Aa Af XC)(F:Fun K "are_entries" "are_entries" EV f fd)(HZ:Def P w K mg base 4 "is_entry" ["thing"] (KB K)):FnOk P w K mg base BO 5 f fd ["thing"] (G3 K):=by
 exists Gq
 ·obtain⟨v,es,rfl,_⟩:=h;rfl
 obtain⟨v,es,rfl,hv,ok,q⟩:=h;have okv:Ok H v:=MD (n:=4) hv (by
  show(decide ((es.map K0).length<=100)&&(es.map K0).all (CD 3))=true;rw[bL,bq,aS];refine⟨by have:=ok.1;omega,bX.mpr λt ht=>?_⟩;obtain⟨x,hx,rfl⟩:=aT.mp ht;exact LD (ok.2 x hx) 0)
 have ety:=(Hl hv).tyN;obtain⟨a,us,rfl,e,r⟩:=hv;have lu:=AA.len _ _ r;rw[aS] at lu;obtain⟨o1,o2⟩:=ok;have hu:=BF hr;refine⟨_,(!Ah (!AM (@PW.pt _ _ _ (!EU (!BL (!BC (!Aq B0 (by rfl) T.b_isinstance Bx (!Ac (pv 0) (!Ac (!Ks rfl T.b_tuple EG) (!Ai)))) (by intro _;rfl))) (!Du (!Au NY (!Aq AB (by rfl) T.b_len Bl (!Ac (pv 0) (!Ai))) (!AH rfl T.c_MOST_ENTRIES) (Ay _))))) (!Ak (!Ao (!DF))) (!Av)) (!Ah (!AM (!BL (!BC (!Aq (Fu rfl) (by rfl) T.b_all JL (!Ac (@Br _ ["entry"] _ _ _ _ _ _ _ _ _ _ rfl (!Ds (pv 0)) (by decide +kernel) (λC s H fp=>⟨(@An _ _ (0) _ (show(["entry"]:List Str).Nodup by decide +kernel) rfl (by trivial) (by trivial)),(!AU),(!AK HZ (by trivial) rfl (!Ac (pv 0) (!Ai)))⟩) (by intro _;rfl)) (!Ai))) (by intro _;rfl))) (!Ak (!Ao (!DF))) (!Av)) (!Ah (@Um _ ["name","kind","tag"] (1) _ _ _ _ _ _ _ _ _ _ _ _ _ Gq.nd rfl (by trivial) rfl (!Ds (pv 0)) (by decide +kernel) (λC s H fp=>⟨(@B3 _ (K) _ _ _ _ (3) (by rfl) rfl (!Ax (@An _ _ (0) _ (show(["name","kind","tag"]:List Str).Nodup by decide +kernel) rfl (by trivial) (by trivial)) (!Ax (@An _ _ (1) _ (show(["name","kind","tag"]:List Str).Nodup by decide +kernel) rfl (by trivial) (by trivial)) (!Ax (@An _ _ (2) _ (show(["name","kind","tag"]:List Str).Nodup by decide +kernel) rfl (by trivial) (by trivial)) (!Bv)))) (by rfl) (by rfl)),(!AU),(pv 0)⟩) (by intro _;rfl) (by rfl) (by trivial)) (!Ak (!Ao (!B9 (Qs hu) (pv 1) (!Aq (QE (P:=P) (w:=w) (by rfl) (by rfl) rfl) (by rfl) T.b_sorted Ct (!Ac (!BX (Sj (P:=P) (w:=w) (K:=K) (by rfl) (by rfl) (by rfl) rfl) (by rfl) T.b_set XZ (!Ac (pv 1) (!Ai))) (!Ai))) (Ay _))))))),?_⟩;refine⟨_,rfl,_,_,_,_,rfl,okv.ty K,okv.kit K,_,rfl,AJ (by rw[ety];show(!isA "tuple" "tuple")=false;decide) ?_⟩;refine⟨_,rfl,a,_,rfl,.inr (AV.of e),_,_,rfl,rfl,_,rfl,AJ (bD (by omega)) ?_⟩;refine⟨_,rfl,a,rfl,⟨_,AV.of e⟩,comp_map (λ_=>V.bl true) (CF e) (by omega) (λx H' R hx s' hR=>?_) λl H7 n7 s7 h7=>?_⟩
 ·obtain⟨t,ht,rt⟩:=C5 r hx;exact⟨_,rfl,x,t,rfl,Rep.same s' _ _ rt,o2 t ht,λH'' s''=>hR H'' s''⟩
 refine⟨l,us.map λ_=>true,rfl,AI.of (Uh h7),_,rfl,AJ (by rw[Ny];rfl) ?_⟩;have e7:=s7.get e;have r7:=AA.same s7 _ _ r;refine⟨_,rfl,a,rfl,⟨_,AV.of e7⟩,JQ (λv=>match v with | .ref x=>(match H7 x with|some (.tup (y::_))=>y|_=>.non)|_=>.non) (CF e7) (by omega) (λx hx=>?_) (λx x1 x2 x3 H' R hx hx2 s' hR=>?_) λl2 H8 n8 s8 h8=>?_⟩
 ·obtain⟨t,ht,rt⟩:=C5 r7 hx;obtain⟨c,d,rfl,ec,_⟩:=DM rt;exact⟨c,_,_,_,rfl,ec⟩
 ·refine⟨_,rfl,?_⟩;have:=hR H' (Ap.refl _);simp only[hx2] at this;exact this
 have nm:(us.map λv=>match v with | .ref x=>(match H7 x with|some (.tup (y::_))=>y|_=>.non)|_=>.non)=(es.map (·.nm)).map V.str:=OY r7;rw[nm] at h8;have ln:(es.map (·.nm)).length<=16:=by rw[aS];exact o1
 refine⟨_,rfl,_,rfl,l2,_,rfl,AI.of h8,by omega,λp hp=>?_⟩;have sp:=Al hp (Us P w p (D9 (es.map (·.nm))));have lo:=Qd (es.map (·.nm));refine⟨p,_,rfl,Ae,by omega,λts p2 pt st hp2=>?_⟩;have s2:=Al hp2 (.lst (ts.map V.str));refine⟨l2,p2,_,_,rfl,rfl,AI.of (s2.get (sp.get h8)),AI.of Ae,Jb _,Jb _,?_⟩;rw[bH bC];have eq:decide ((es.map (·.nm)).map V.str=ts.map V.str)=N1 es:=by
  unfold N1;rw[cq,bq,bq];constructor
  ·intro e;have e':es.map (·.nm)=ts:=O6 e;rw[e'];exact⟨st,pt.nodup_iff.mpr (Qm _)⟩
  ·rintro⟨h1,h2⟩
   rw[Wy h2] at pt;rw[LR pt st h1]
 have:=q _ (((s7.trans s8).trans sp).trans s2);rw[<-eq] at this;exact this
def Kx (K:W.Frag):Sp:=λvs H Q _=>∃v b,vs=[v]/\Rep NL H (BW b) v/\Ri b/\∀H',Ap H H'->Q (.bl (aF b)) H'
theorem Pw (T:Txt K mg Ab Ad Aa Af XC)(F:Fun K "is_block" "is_block" Iv f fd)(Ff:Def P w K mg base 5 "are_entries" ["thing"] (G3 K))(Bf:Def P w K mg base 1 "is_whole" ["thing"] (CY K))(D0:Def P w K mg base 1 "is_text" ["thing","least","most"] (IB K))(AC:Def P w K mg base 2 "is_between" ["thing","least","most"] (By K))(D6:Def P w K mg base 4 "are_row_tags" ["thing","level"] (Gk K)):FnOk P w K mg base BO 6 f fd ["thing"] (Kx K):=by
 exists Qa
 ·obtain⟨v,b,rfl,_⟩:=h;rfl
 obtain⟨v,b,rfl,hv,ok,q⟩:=h;have okv:Ok H v:=MD hv (UD ok);have ety:=(Hl hv).tyN;have tyt:Hk H v="tuple":=by rw[ety];cases b<;>rfl
 refine⟨_,(!Ah (!AM (@PW.pt _ _ _ (!EU (!BL (!BC (!Aq B0 (by rfl) T.b_isinstance Bx (!Ac (pv 0) (!Ac (!Ks rfl T.b_tuple EG) (!Ai)))) (by intro _;rfl))) (!EU (!Au Bg (!Aq AB (by rfl) T.b_len Bl (!Ac (pv 0) (!Ai))) (!Aj) (Ay _)) (!Du (!BL (!BC (!AK Bf (by trivial) rfl (!Ac (!Aw AF (pv 0) (!Aj) (λ_ _=>rfl)) (!Ai))) (by intro _;rfl))))))) (!Ak (!Ao (!DF))) (!Av)) (!Ah (!AM (!Au Bg (!Aw AF (pv 0) (!Aj) (λ_ _=>rfl)) (!AH rfl T.c_PIECE) (Ay _)) (!Ak (!Ao (!Em (!B9 Bg (!Aq AB (by rfl) T.b_len Bl (!Ac (pv 0) (!Ai))) (!Aj) (Ay _)) (!FP (!AK D0 (by trivial) rfl (!Ac (!Aw AF (pv 0) (!Aj) (λ_ _=>rfl)) (!Ac (!Aj) (!Ac (!AH rfl T.c_MOST_PIECE_SIGNS) (!Ai))))))))) (!Av)) (!Ah (!AM (!Au Bg (!Aw AF (pv 0) (!Aj) (λ_ _=>rfl)) (!AH rfl T.c_ROW) (Ay _)) (!Ak (!Ao (!Em (!B9 Bg (!Aq AB (by rfl) T.b_len Bl (!Ac (pv 0) (!Ai))) (!Aj) (Ay _)) (!Em (!AK AC (by trivial) rfl (!Ac (!Aw AF (pv 0) (!Aj) (λ_ _=>rfl)) (!Ac (!Aj) (!Ac (!AH rfl T.c_MOST_LEVEL) (!Ai))))) (!FP (!AK D6 (by trivial) rfl (!Ac (!Aw AF (pv 0) (!Aj) (λ_ _=>rfl)) (!Ac (!Aw AF (pv 0) (!Aj) (λ_ _=>rfl)) (!Ai))))))))) (!Av)) (!Ak (!Ao (!Em (!B9 Bg (!Aw AF (pv 0) (!Aj) (λ_ _=>rfl)) (!AH rfl T.c_FOLDER) (Ay _)) (!Em (!B9 Bg (!Aq AB (by rfl) T.b_len Bl (!Ac (pv 0) (!Ai))) (!Aj) (Ay _)) (!FP (!AK Ff (by trivial) rfl (!Ac (!Aw AF (pv 0) (!Aj) (λ_ _=>rfl)) (!Ai))))))))))),?_⟩;refine AQ λNF eNF=>?_
 refine⟨_,rfl,_,_,_,_,rfl,okv.ty K,okv.kit K,_,rfl,AJ (by rw[tyt];decide) ?_⟩;cases b with
 |piece z=>
  obtain⟨a,rfl,e⟩:=D2 hv;refine⟨_,rfl,a,_,rfl,.inr (AV.of e),rfl,_,rfl,AJ rfl ?_⟩;refine⟨_,rfl,a,_,_,_,rfl,rfl,AV.of e,rfl,_,rfl,trivial,_,rfl,AJ rfl ?_⟩;subst eNF
  try dsimp only[Dr]
  refine AQ λNF eNF=>?_
  have ok':Gh 1 8 (.str z)=true:=ok;have zl:z.length<=1000:=by
   have h':(decide ((1:Int)<=(z.length:Int))&&decide ((z.length:Int)<=8)&&BE SG z)=true:=ok;simp only[Bool.and_eq_true,decide_eq_true_eq] at h';omega
  refine⟨_,rfl,a,_,_,_,rfl,rfl,AV.of e,rfl,rfl,_,rfl,BA rfl ?_⟩;refine⟨_,rfl,a,_,rfl,.inr (AV.of e),rfl,_,rfl,BA rfl ?_⟩;exact⟨_,rfl,a,_,_,_,rfl,rfl,AV.of e,rfl,_,1,8,rfl,zl,λH1 s1=>by rw[ok'];exact q H1 s1⟩
 |row lv ts=>
  obtain⟨a,b,us,rfl,e,e2,r⟩:=Hh hv;obtain⟨⟨l1,l2⟩,ok2⟩:=ok;have w2:JN 1 9 (.int lv)=true:=by show(decide (1<=lv)&&decide (lv<=9))=true;simp;omega
  refine⟨_,rfl,a,_,rfl,.inr (AV.of e),rfl,_,rfl,AJ rfl ?_⟩;refine⟨_,rfl,a,_,_,_,rfl,rfl,AV.of e,rfl,_,rfl,trivial,_,rfl,AJ rfl ?_⟩;subst eNF
  try dsimp only[Dr]
  refine AQ λNF eNF=>?_
  refine⟨_,rfl,a,_,_,_,rfl,rfl,AV.of e,rfl,rfl,_,rfl,AJ rfl ?_⟩;subst eNF
  try dsimp only[Dr]
  refine AQ λNF eNF=>?_
  refine⟨_,rfl,a,_,_,_,rfl,rfl,AV.of e,rfl,rfl,_,rfl,BA rfl ?_⟩;refine⟨_,rfl,a,_,rfl,.inr (AV.of e),rfl,_,rfl,BA rfl ?_⟩;refine⟨_,rfl,a,_,_,_,rfl,rfl,AV.of e,rfl,_,1,9,rfl,trivial,_,rfl,BA w2 ?_⟩;exact⟨_,rfl,a,_,_,_,rfl,rfl,AV.of e,rfl,_,rfl,a,_,_,_,rfl,rfl,AV.of e,rfl,_,lv,ts,rfl,⟨b,us,rfl,e2,r⟩,ok2,q⟩
 |folder es=>
  obtain⟨a,b,us,rfl,e,e2,r⟩:=Ck hv;refine⟨_,rfl,a,_,rfl,.inr (AV.of e),rfl,_,rfl,AJ rfl ?_⟩;refine⟨_,rfl,a,_,_,_,rfl,rfl,AV.of e,rfl,_,rfl,trivial,_,rfl,AJ rfl ?_⟩;subst eNF
  try dsimp only[Dr]
  refine AQ λNF eNF=>?_
  refine⟨_,rfl,a,_,_,_,rfl,rfl,AV.of e,rfl,rfl,_,rfl,AJ rfl ?_⟩;subst eNF
  try dsimp only[Dr]
  refine AQ λNF eNF=>?_
  refine⟨_,rfl,a,_,_,_,rfl,rfl,AV.of e,rfl,rfl,_,rfl,AJ rfl ?_⟩;subst eNF
  try dsimp only[Dr]
  refine⟨_,rfl,a,_,_,_,rfl,rfl,AV.of e,rfl,rfl,_,rfl,BA rfl ?_⟩;refine⟨_,rfl,a,_,rfl,.inr (AV.of e),rfl,_,rfl,BA rfl ?_⟩;exact⟨_,rfl,a,_,_,_,rfl,rfl,AV.of e,rfl,_,es,rfl,⟨b,us,rfl,e2,r⟩,ok,q⟩
def DP (x:En):List Int:=(Cf x.nm).map idx++[x.kd,x.tg.2.2]
def told:Bk->List Int
 | .piece z=>(Cf z).map idx
 | .row lv ts=>lv::ts.map (·.2.2)
 | .folder es=>es.flatMap DP
theorem idx_map (z:Str):((z.cps.toList.map λc=>V.str ⟨#[c]⟩).map λv=>match v with|V.str y=>V.int (PySem.Txt.find SG y)|_=>V.non)=((Cf z).map idx).map V.int:=by
 rw[bw,bw];rfl
theorem PU:∀{ts:List Tg} {us:List V} {H:Hp},AA NL H (ts.map CC) us->(us.map λv=>match v with | .ref x=>(match H x with|some (.tup [_,_,y])=>y|_=>.non)|_=>.non)=(ts.map (·.2.2)).map V.int
 |[],us,H,r=>by rw[show us=[] from r];rfl
 |e::es,us,H,r=>by
  obtain⟨v,us',rfl,r1,r2⟩:=r;obtain⟨a,rfl,e1⟩:=F1 r1;rw[bg,bg,bg,PU r2];simp only[e1]
theorem TB {es:List En}{i:Nat}{x:En}(h:es[i]?=some x):(es.take (i+1)).flatMap DP=(es.take i).flatMap DP++DP x:=by
 rw[bN,h,List.flatMap_append];simp
theorem Vb {es:List En}(h:∀x∈es,(DP x).length<=10):(es.flatMap DP).length<=10*es.length:=by
 induction es with
 |nil=>exact aZ _
 |cons x r ih=>
  rw[List.flatMap_cons,bx,bT];have:=h x bc;have:=ih λy hy=>h y (a9 _ hy)
  omega
theorem Yy {x:En}(h:Tu x):(DP x).length<=10:=by
 have:=(EE h.1).2.1;unfold DP;rw[bx,aS,BP];show x.nm.length+2<=10;omega
def Gg (K:W.Frag):Sp:=λvs H Q _=>∃v b,vs=[v]/\Rep NL H (BW b) v/\Cu b/\∀l H',Ap H H'->H l=none->H' l=some (.lst ((told b).map V.int))->Q (.ref l) H'
theorem KR (T:Txt K mg Ab Ad Aa Af XC)(F:Fun K "numbers_told" "numbers_told" Es f fd)(Bj:Def P w K mg base 1 "number_of" ["sign"] (Df K)):FnOk P w K mg base BO 2 f fd ["block"] (Gg K):=by
 exists Cb
 ·obtain⟨v,b,rfl,_⟩:=h;rfl
 obtain⟨v,b,rfl,hv,ok,q⟩:=h;refine⟨_,(!Ah (!AM (!Au Bg (!Aw AF (pv 0) (!Aj) (λ_ _=>rfl)) (!AH rfl T.c_PIECE) (Ay _)) (!Ak (!Ao (@Br _ ["sign"] _ _ _ _ _ _ _ _ _ _ rfl (!MO (!Aw AF (pv 0) (!Aj) (λ_ _=>rfl))) (by decide +kernel) (λC s H fp=>⟨(@An _ _ (0) _ (show(["sign"]:List Str).Nodup by decide +kernel) rfl (by trivial) (by trivial)),(!AU),(!AK Bj (by trivial) rfl (!Ac (pv 0) (!Ai)))⟩) (by intro _;rfl)))) (!Av)) (!Ah (!AM (!Au Bg (!Aw AF (pv 0) (!Aj) (λ_ _=>rfl)) (!AH rfl T.c_ROW) (Ay _)) (!Ak (!Ao (!As Lj (!BJ (!Ac (!Aw AF (pv 0) (!Aj) (λ_ _=>rfl)) (!Ai))) (@Br _ ["tag"] _ _ _ _ _ _ _ _ _ _ rfl (!Ds (!Aw AF (pv 0) (!Aj) (λ_ _=>rfl))) (by decide +kernel) (λC s H fp=>⟨(@An _ _ (0) _ (show(["tag"]:List Str).Nodup by decide +kernel) rfl (by trivial) (by trivial)),(!AU),(!Aw (DT (K:=K) (by rfl)) (pv 0) (!Aj) (λ_ _=>rfl))⟩) (by intro _;rfl))))) (!Av)) (!Ah (@AD _ _ (1) _ _ _ _ Cb.nd rfl (by trivial) (!BJ (!Ai)) (by rfl) (by trivial)) (!Ah (!B2 b5 rfl (!Ds (!Aw AF (pv 0) (!Aj) (λ_ _=>rfl))) (!J3 rfl (!Ax (@An _ _ (2) _ Cb.nd rfl (by trivial) (by trivial)) (!Ax (@An _ _ (3) _ Cb.nd rfl (by trivial) (by trivial)) (!Ax (@An _ _ (4) _ Cb.nd rfl (by trivial) (by trivial)) (!Bv))))) (!Ah (!A6 (!Gd b7 eP eO Hn (pv 1) (!Ac (@Br _ ["sign"] _ _ _ _ _ _ _ _ _ _ rfl (!MO (pv 2)) (by decide +kernel) (λC s H fp=>⟨(@An _ _ (0) _ (show(["sign"]:List Str).Nodup by decide +kernel) rfl (by trivial) (by trivial)),(!AU),(!AK Bj (by trivial) rfl (!Ac (pv 0) (!Ai)))⟩) (by intro _;rfl)) (!Ai)))) (!Ak (!A6 (!Gd b7 eP eO Hn (pv 1) (!Ac (!BJ (!Ac (pv 3) (!Ac (!Aw AF (pv 4) (!Aj) (λ_ _=>rfl)) (!Ai)))) (!Ai)))))) (by intro _;rfl)) (!Ak (!Ao (pv 1))))))),?_⟩;refine AQ λNF eNF=>?_
 cases b with
 |piece z=>
  obtain⟨a,rfl,e⟩:=D2 hv;have h':(decide ((1:Int)<=(z.length:Int))&&decide ((z.length:Int)<=8)&&BE SG z)=true:=ok;simp only[Bool.and_eq_true,decide_eq_true_eq] at h';have zs:∀c∈Cf z,c∈Cf SG:=λc hc=>by simpa using bX.mp h'.2 c hc
  refine⟨_,rfl,a,_,_,_,rfl,rfl,AV.of e,rfl,rfl,_,rfl,BA rfl ?_⟩;refine⟨_,rfl,a,_,_,_,rfl,rfl,AV.of e,rfl,z,rfl,?_⟩;refine comp_map (λv=>match v with | .str y=>.int (PySem.Txt.find SG y)|_=>.non) GA (by rw[aS];exact bQ (eW (BP z)) (by omega)) (λx H' R hx s' hR=>?_) λl H7 n7 s7 h7=>?_
  ·obtain⟨u,hu,rfl⟩:=aT.mp hx;exact⟨_,rfl,_,rfl,(Iy (zs u hu)).1,hR H' (Ap.refl _)⟩
  rw[idx_map] at h7;exact q l H7 s7 n7 h7
 |row lv ts=>
  obtain⟨a,b,us,rfl,e,e2,r⟩:=Hh hv;have lu:=AA.len _ _ r;rw[aS] at lu;have l8:=ok.2.1;refine⟨_,rfl,a,_,_,_,rfl,rfl,AV.of e,rfl,rfl,_,rfl,AJ rfl ?_⟩;subst eNF
  try dsimp only[Dr]
  refine AQ λNF eNF=>?_
  refine⟨_,rfl,a,_,_,_,rfl,rfl,AV.of e,rfl,rfl,_,rfl,BA rfl ?_⟩;refine⟨_,rfl,a,_,_,_,rfl,rfl,AV.of e,rfl,YI,λp1 hp1=>?_⟩;have s1:=Al hp1 (.lst [V.int lv]);have e2':=s1.get e2;have r':=AA.same s1 _ _ r;refine⟨_,rfl,a,_,_,_,rfl,rfl,AV.of (s1.get e),rfl,b,rfl,⟨_,AV.of e2'⟩,comp_map (λv=>match v with | .ref x=>(match(upd H p1 (.lst [V.int lv])) x with|some (.tup [_,_,y])=>y|_=>.non)|_=>.non) (CF e2') (by omega) (λx H' R hx s' hR=>?_) λl H7 n7 s7 h7=>?_⟩
  ·obtain⟨t,ht,rt⟩:=C5 r' hx;obtain⟨c,rfl,ec⟩:=F1 rt;have:=hR H' (Ap.refl _);simp only[ec] at this;exact⟨_,rfl,c,_,_,_,rfl,rfl,AV.of (s'.get ec),rfl,this⟩
  rw[PU r'] at h7;refine⟨p1,l,_,_,rfl,rfl,AI.of (s7.get Ae),AI.of h7,small (by rw[aS,aS];show 1+ts.length<=1000000;omega),λp hp=>?_⟩;exact q p _ ((s1.trans s7).trans (Al hp _)) ((s1.trans s7).free hp) Ae
 |folder es=>
  obtain⟨a,b,us,rfl,e,e2,r⟩:=Ck hv;have lu:=AA.len _ _ r;rw[aS] at lu;obtain⟨o1,o2,_⟩:=ok;refine⟨_,rfl,a,_,_,_,rfl,rfl,AV.of e,rfl,rfl,_,rfl,AJ rfl ?_⟩;subst eNF
  try dsimp only[Dr]
  refine AQ λNF eNF=>?_
  refine⟨_,rfl,a,_,_,_,rfl,rfl,AV.of e,rfl,rfl,_,rfl,AJ rfl ?_⟩;subst eNF
  try dsimp only[Dr]
  refine⟨Jo,λg hg=>?_⟩;have sg:=Al hg (.lst []);refine⟨_,rfl,a,_,_,_,rfl,rfl,AV.of (sg.get e),rfl,b,rfl,⟨_,AV.of (sg.get e2)⟩,Lg (K:=K) (a:=b) (xs:=us) (λi σ H2=>∃v2 v3 v4,σ=[some (.ref a),some (.ref g),v2,v3,v4]/\Ap H H2/\H2 g=some (.lst (((es.take i).flatMap DP).map V.int))) ⟨none,none,none,rfl,sg,Ae⟩ (by rintro i σ H2 _ ⟨_,_,_,_,s2,_⟩;exact AV.of (s2.get e2)) ?_ ?_⟩
  ·rintro i y σ H2 hi ⟨v2,v3,v4,rfl,s2,hg2⟩
   obtain⟨t,ht,ry⟩:=AA.get r hi;rw[bz] at ht;cases z:es[i]? with
   |none=>rw[z] at ht;cases ht
   |some x=>
    rw[z] at ht;cases ht;obtain⟨c,d,rfl,ec,ed⟩:=DM ry;have ox:=o2 x (a8 z);obtain⟨n1,n2,_,n4⟩:=EE ox.1;have tl:((es.take i).flatMap DP).length<=160:=by
     have:=Vb (es:=es.take i) λy hy=>Yy (o2 y (gf hy))
     rw[b6] at this;omega
    refine⟨c,_,rfl,AV.of (s2.get ec),rfl,_,_,rfl,_,_,rfl,_,_,rfl,rfl,?_⟩;refine DI λEB eEB=>?_
    refine AQ λNB eNB=>?_
    refine⟨_,rfl,.inl ⟨rfl,_,AI.of hg2⟩,_,rfl,x.nm,rfl,?_⟩;refine comp_map (λv=>match v with | .str y=>.int (PySem.Txt.find SG y)|_=>.non) GA (by rw[aS];exact bQ (eW (BP x.nm)) (by omega)) (λu H' R hu s' hR=>?_) λl H7 n7 s7 h7=>?_
    ·obtain⟨k,hk,rfl⟩:=aT.mp hu;exact⟨_,rfl,_,rfl,(Iy (n4 k hk)).1,hR H' (Ap.refl _)⟩
    rw[idx_map] at h7;refine⟨g,l,_,_,rfl,rfl,s7.get hg2,h7,small (by rw[aS,aS,aS,BP];omega),?_⟩;subst eNB
    try dsimp only
    have t7:=AW (s2.trans s7) hg (.lst (((es.take i).flatMap DP).map V.int++((Cf x.nm).map idx).map V.int));refine⟨_,rfl,.inl ⟨rfl,_,AI.of Ae⟩,_,rfl,_,rfl,d,_,_,_,rfl,rfl,AV.of (t7.get ed),rfl,MH,λp hp=>?_⟩;have t8:=Al hp (.lst [V.int x.kd,V.int x.tg.2.2]);refine⟨g,p,_,_,rfl,rfl,t8.get Ae,Ae,small (by rw[bx,aS,aS,aS,BP];show _+_+2<=_;omega),?_⟩;subst eEB;refine⟨_,_,_,rfl,AW (t7.trans t8) hg _,?_⟩;rw[Ae,TB z,bA];unfold DP;rw[bA,cn];rfl
  ·rintro σ H2 ⟨v2,v3,v4,rfl,s2,hg2⟩
   rw[lu,bJ (aZ _)] at hg2;exact⟨_,rfl,q g H2 s2 hg hg2⟩
def kindB:Bk->Int
 | .piece _=>0
 | .row _ _=>1
 | .folder _=>2
def A8 (b:Bk):Int:=(told b).foldl (λt n=>(31*t+n+1)%997) (1+kindB b)
theorem Fn {H:Hp}{b:Bk}{v:V}(h:Rep NL H (BW b) v):∃a xs,v=.ref a/\H a=some (.tup (.int (kindB b)::xs)):=by
 cases b with
 |piece z=>obtain⟨a,rfl,e⟩:=D2 h;exact⟨a,_,rfl,e⟩
 |row lv ts=>obtain⟨a,b,us,rfl,e,_⟩:=Hh h;exact⟨a,_,rfl,e⟩
 |folder es=>obtain⟨a,b,us,rfl,e,_⟩:=Ck h;exact⟨a,_,rfl,e⟩
theorem G1 {x:V}{xs:List V}:Kw (x::xs) 0=some x:=by
 unfold Kw VU;simp
theorem ints_get {ns:List Int}{i:Nat}{y:V}(h:(ns.map V.int)[i]?=some y):∃n,y=.int n/\ns[i]?=some n:=by
 rw[bz] at h;cases z:ns[i]? with
 |none=>rw[z] at h;cases h
 |some n=>rw[z] at h;cases h;exact⟨n,rfl,rfl⟩
theorem SY {f:Int->Int->Int}{z:Int}{ns:List Int}{i:Nat}{n:Int}(h:ns[i]?=some n):(ns.take (i+1)).foldl f z=f ((ns.take i).foldl f z) n:=by
 rw[bN,h,e8];rfl
def Hi (K:W.Frag):Sp:=λvs H Q _=>∃v b,vs=[v]/\Rep NL H (BW b) v/\Cu b/\∀H',Ap H H'->Q (.int (A8 b)) H'
theorem SI (T:Txt K mg Ab Ad Aa Af XC)(F:Fun K "sum_of" "sum_of" Mx f fd)(Ew:Def P w K mg base 2 "numbers_told" ["block"] (Gg K)):FnOk P w K mg base BO 3 f fd ["block"] (Hi K):=by
 exists Hd
 ·obtain⟨v,b,rfl,_⟩:=h;rfl
 obtain⟨v,b,rfl,hv,ok,q⟩:=h;obtain⟨a,xs,rfl,e⟩:=Fn hv;refine⟨_,(!Ah (@AD _ _ (1) _ _ _ _ Hd.nd rfl (by trivial) (!As Bi (!Aj) (!Aw AF (pv 0) (!Aj) (λ_ _=>rfl))) (by rfl) (by trivial)) (!Ah (!B2 b5 rfl (!A0 (!AK Ew (by trivial) rfl (!Ac (pv 0) (!Ai)))) (@An _ _ (2) _ Hd.nd rfl (by trivial) (by trivial)) (!Ak (@AD _ _ (1) _ _ _ _ Hd.nd rfl (by trivial) (!As A3 (!As Bi (!As Bi (!As Eg (!Aj) (pv 1)) (pv 2)) (!Aj)) (!AH rfl T.c_SUM_RESTS)) (by rfl) (by trivial))) (by intro _;rfl)) (!Ak (!Ao (pv 1))))),?_⟩;refine⟨_,rfl,a,_,_,_,rfl,rfl,AV.of e,G1,_,_,rfl,rfl,?_⟩;refine⟨_,rfl,_,b,rfl,hv,ok,λl H1 s1 n1 h1=>?_⟩;refine⟨l,rfl,⟨_,AI.of h1⟩,Cp (K:=K) (a:=l) (xs:=(told b).map V.int) (λi σ H2=>∃v2,σ=[some (.ref a),some (.int (((told b).take i).foldl (λt n=>(31*t+n+1)%997) (1+kindB b))),v2]/\Ap H1 H2) ⟨none,rfl,Ap.refl _⟩ (λi σ H2 _ ⟨_,_,s2⟩=>AI.of (s2.get h1)) ?_ ?_⟩
 ·rintro i y σ H2 hi ⟨v2,rfl,s2⟩
  obtain⟨n,rfl,hn⟩:=ints_get hi;refine⟨_,rfl,_,_,rfl,rfl,.inl ⟨by decide,by decide⟩,_,rfl,_,_,rfl,rfl,_,_,rfl,rfl,_,_,rfl,rfl,(show(0:Int)<997 by decide),?_⟩;refine⟨some (.int n),?_,s2⟩;rw[SY hn];rfl
 ·rintro σ H2 ⟨v2,rfl,s2⟩
  rw[aS,dv];exact⟨_,rfl,q H2 (s1.trans s2)⟩
theorem Tp (ts:List Tg):(wTs (ts.map CC)).length=8*ts.length:=by
 induction ts with
 |nil=>rfl
 |cons t r ih=>
  rw[bg];show(wT (CC t)++wTs (r.map CC)).length=_;rw[bx,ih,bT];have:(wT (CC t)).length=8:=rfl;omega
def Xs:Bk->Nat
 | .piece z=>6+z.length
 | .row _ ts=>8+8*ts.length
 | .folder es=>6+(es.map λx=>14+x.nm.length).sum
theorem VH (es:List En):(wTs (es.map K0)).length=(es.map λx=>14+x.nm.length).sum:=by
 induction es with
 |nil=>rfl
 |cons x r ih=>
  rw[bg,bg,eR,<-ih];show(wT (K0 x)++wTs (r.map K0)).length=_;rw[bx];have:(wT (K0 x)).length=14+x.nm.length:=by
   show(2::((3:Int))::((1::(x.nm.length:Int)::(Cf x.nm).map idx)++([0,x.kd]++(wT (CC x.tg)++[])))).length=_;have t8:(wT (CC x.tg)).length=8:=rfl;simp only[List.length_cons,List.length_append,List.length_map,BP,List.length_nil,t8];omega
  omega
theorem RP (b:Bk):(wT (BW b)).length=Xs b:=by
 cases b with
 |piece z=>
  show(2::(2:Int)::([0,0]++((1::(z.length:Int)::(Cf z).map idx)++[]))).length=6+z.length;simp only[List.length_cons,List.length_append,List.length_map,BP,List.length_nil];omega
 |row lv ts=>
  show(2::(3:Int)::([0,1]++([0,lv]++((2::((ts.map CC).length:Int)::wTs (ts.map CC))++[])))).length=8+8*ts.length;simp only[List.length_cons,List.length_append,List.length_nil,Tp];omega
 |folder es=>
  show(2::(2:Int)::([0,2]++((2::((es.map K0).length:Int)::wTs (es.map K0))++[]))).length=6+(es.map λx=>14+x.nm.length).sum;simp only[List.length_cons,List.length_append,List.length_nil,VH];omega
theorem size_le {b:Bk}(h:Cu b):Xs b<=500:=by
 cases b with
 |piece z=>
  have h':(decide ((1:Int)<=(z.length:Int))&&decide ((z.length:Int)<=8)&&BE SG z)=true:=h;simp only[Bool.and_eq_true,decide_eq_true_eq] at h';show 6+z.length<=500;omega
 |row lv ts=>
  have:=h.2.1;show 8+8*ts.length<=500;omega
 |folder es=>
  have n:=h.1;have s0:∀l:List En,(∀x∈l,Tu x)->(l.map λx=>14+x.nm.length).sum<=22*l.length:=λl=>by
   induction l with
   |nil=>intro _;exact aZ _
   |cons x r ih=>
    intro hx;rw[bg,eR,bT];have:=ih λy hy=>hx y (a9 _ hy)
    have:=(EE (hx x bc).1).2.1;omega
  have:=s0 es h.2.1;show 6+_<=500;omega
end
open M06 M10
section
variable {P:Program}{w:World}{K:W.Frag}{mg:Str->Option Value}{base:Heap}{f Ab Ad Aa Af:Addr}{XC:Nat->Addr}{fd:FuncData}
def CS (K:W.Frag)(C:Addr):Sp:=λvs H Q _=>∃p ds bs n lf z,vs=[.ref p,.int z]/\DE C H p ds bs n lf/\0<bs.length/\∀a,H a=none->Q (.ref a) (upd H a (.tup [.int (z%(bs.length:Int)),.int ((z+1)%(bs.length:Int))]))
theorem KH (T:Txt K mg Ab Ad Aa Af XC)(F:Fun K "twins" "Boards.twins" EH f fd)(BM:BH P w K mg base 1 Ad "many" ["self"] (Eu K Ad)):FnOk P w K mg base BO 2 f fd ["self","number"] (CS K Ad):=by
 exists KS
 ·obtain⟨p,ds,bs,n,lf,z,rfl,_⟩:=h;rfl
 obtain⟨p,ds,bs,n,lf,z,rfl,hB,b0,q⟩:=h;obtain⟨dx,s0,h1,h2,h3,h4⟩:=id hB;refine⟨_,(!Ak (!Ao (!DQ (!Ac (!As A3 (pv 1) (!Ce (pv 0) T.cl_Boards BM)) (!Ac (!As A3 (!As Bi (pv 1) (!Aj)) (!Ce (pv 0) T.cl_Boards BM)) (!Ai)))))),?_⟩;refine⟨_,rfl,_,rfl,p,dx,_,rfl,h1,rfl,p,ds,bs,n,lf,rfl,hB,_,_,rfl,rfl,(by omega),_,rfl,_,_,rfl,rfl,_,rfl,p,dx,_,rfl,h1,rfl,p,ds,bs,n,lf,rfl,hB,_,_,rfl,rfl,(by omega),MH,λa ha=>q a ha⟩
def C3 (t:Tr):List Int:=wT t++[mk (wT t)]
def Fq (z y:Int)(b:Bk):Tr:=.tup [.int z,.int y,BW b]
theorem Xl {b:Bk}(h:Cu b):CD 7 (BW b)=true:=by
 cases b with
 |piece z=>
  have h':(decide ((1:Int)<=(z.length:Int))&&decide ((z.length:Int)<=8)&&BE SG z)=true:=h;simp only[Bool.and_eq_true,decide_eq_true_eq] at h';simp only[BW,CD,List.all_cons,List.all_nil,List.length_cons,List.length_nil,Bool.and_true,Bool.and_eq_true,decide_eq_true_eq,h'.2,and_true];omega
 |row lv ts=>
  obtain⟨l,n,_,o⟩:=h;have d:(ts.map CC).all (CD 5)=true:=bX.mpr λt ht=>by
   obtain⟨x,hx,rfl⟩:=aT.mp ht;exact HX (o x hx) 3
  simp only[BW,CD,List.all_cons,List.all_nil,List.length_cons,List.length_nil,List.length_map,Bool.and_true,Bool.and_eq_true,decide_eq_true_eq,d,and_true];omega
 |folder es=>
  obtain⟨n,o,_⟩:=h;have d:(es.map K0).all (CD 5)=true:=bX.mpr λt ht=>by
   obtain⟨x,hx,rfl⟩:=aT.mp ht;exact LD (o x hx) 2
  simp only[BW,CD,List.all_cons,List.all_nil,List.length_cons,List.length_nil,List.length_map,Bool.and_true,Bool.and_eq_true,decide_eq_true_eq,d,and_true];omega
def FD (z y:Int):Prop:=(0<=z/\z<=999999999)/\0<=y/\y<=999999999
theorem Lh {z y:Int}{b:Bk}(n:FD z y)(h:Cu b):CD 8 (Fq z y b)=true:=by
 have d:=Xl h;obtain⟨⟨a1,a2⟩,a3,a4⟩:=n;show(decide (3<=100)&&((decide (0<=z)&&decide (z<=999999999))&&((decide (0<=y)&&decide (y<=999999999))&&(CD 7 (BW b)&&true))))=true;simp only[d,Bool.and_true,Bool.and_eq_true,decide_eq_true_eq];omega
theorem RI {z y:Int}{b:Bk}(h:Cu b):(wT (Fq z y b)).length<=600:=by
 have l:=RP b;have s:=size_le h;show(2::(3:Int)::([0,z]++([0,y]++(wT (BW b)++[])))).length<=600;simp only[List.length_cons,List.length_append,List.length_nil];omega
mutual
theorem Xv:∀(n:Nat) (t:Tr),CD n t=true->∀x∈wT t,0<=x/\x<=2147483646
 |0,_,h=>nomatch h
 |n+1,.non,h=>nomatch h
 |n+1,.bl _,h=>nomatch h
 |n+1,.int i,h=>λx hx=>by
  have h':(decide (0<=i)&&decide (i<=999999999))=true:=h;simp only[Bool.and_eq_true,decide_eq_true_eq] at h';rcases bE.mp hx with rfl|hx
  ·omega
  ·rw[ba.mp hx];omega
 |n+1,.str z,h=>λx hx=>by
  obtain⟨zl,zs⟩:=Ll h;rcases bE.mp hx with rfl|hx
  ·omega
  rcases bE.mp hx with rfl|hx
  ·omega
  obtain⟨c,hc,rfl⟩:=aT.mp hx;have:=Iy (zs c hc);omega
 |n+1,.tup ts,h=>λx hx=>by
  have h':(decide (ts.length<=100)&&ts.all (CD n))=true:=h;rw[bL,bq] at h';rcases bE.mp hx with rfl|hx
  ·omega
  rcases bE.mp hx with rfl|hx
  ·omega
  exact TN n ts h'.2 x hx
 |n+1,.lst _,h=>nomatch h
theorem TN:∀(n:Nat) (ts:List Tr),ts.all (CD n)=true->∀x∈wTs ts,0<=x/\x<=2147483646
 |_,[],_=>λx hx=>nomatch hx
 |n,t::ts,h=>λx hx=>by
  rw[gy,bL] at h;rcases aY.mp hx with hx|hx
  ·exact Xv n t h.1 x hx
  ·exact TN n ts h.2 x hx
end
theorem P9 {t:Tr}{n:Nat}(h:CD n t=true):sound (C3 t)=true:=OF (Xv n t h)
theorem Ih (t:Tr):(C3 t).dropLast=wT t:=by unfold C3;rw[List.dropLast_concat]
theorem SN (t:Tr):(C3 t).length=(wT t).length+1:=by unfold C3;rw[bx];rfl
def KA (K:W.Frag)(C:Addr):Sp:=λvs H Q _=>∃p ds bs n lf,∃(b:Nat) (z:Int),vs=[.ref p,.int (b:Int),.int z]/\DE C H p ds bs n lf/\b<bs.length/\((Ca (bs.getD b []) z=none/\Q .non H)\/∃t,Ca (bs.getD b []) z=some (C3 t)/\CD 8 t=true/\(wT t).length<=900/\∀v H',Ap H H'->Rep NL H' t v->Q v H')
theorem P4 (T:Txt K mg Ab Ad Aa Af XC)(F:Fun K "thing_on" "thing_on" Il f fd)(EY:BH P w K mg base 4 Ad "cell" ["self","board","number"] (GO K Ad))(HM:Def P w K mg base 3 "unsealed" ["row"] (KE K))(IE:Def P w K mg base 13 "thing_of" ["words"] (KC K)):FnOk P w K mg base BO 14 f fd ["boards","board","number"] (KA K Ad):=by
 exists GV
 ·obtain⟨p,ds,bs,n,lf,b,z,rfl,_⟩:=h;rfl
 obtain⟨p,ds,bs,n,lf,b,z,rfl,hB,b1,q⟩:=h;obtain⟨dx,s0,h1,h2,h3,h4⟩:=id hB;refine⟨_,(!Ah (@AD _ _ (3) _ _ _ _ GV.nd rfl (by trivial) (!A2 (pv 0) T.cl_Boards EY (by trivial) (!Ac (pv 1) (!Ac (pv 2) (!Ai)))) (by rfl) (by trivial)) (!Ah (!AM (!EW (!Rg (pv 3)) (by first|exact Cn _ (by decide) (by decide)|rfl)) (!Ak (!Ao (!Eb))) (!Av)) (!Ah (@AD _ _ (4) _ _ _ _ GV.nd rfl (by trivial) (!AK HM (by trivial) rfl (!Ac (pv 3) (!Ai))) (by rfl) (by trivial)) (!Ah (!AM (!EW (!Rg (pv 4)) (by first|exact Cn _ (by decide) (by decide)|rfl)) (!Ak (!Ao (!Eb))) (!Av)) (!Ak (!Qo ⟨rfl,rfl⟩ T.x_NoThing rfl (!Ow (!RC (!Ao (!AK IE (by trivial) rfl (!Ac (pv 4) (!Ai)))))) (!Av) (λe=>(!Ak (!Ao (!Eb)))))))))),?_⟩;refine⟨_,rfl,p,dx,_,rfl,h1,rfl,_,rfl,_,rfl,p,ds,bs,n,lf,b,z,rfl,hB,b1,?_⟩;rcases q with⟨g,q⟩|⟨t,g,it,wl,q⟩
 ·refine⟨λ_=>⟨_,rfl,_,rfl,BA rfl q⟩,λrow e=>?_⟩;rw[g] at e;cases e
 ·refine⟨(λe=>by rw[g] at e;cases e),λrow e l hl=>?_⟩;rw[g] at e;cases e;have s1:=Al hl (.lst ((C3 t).map V.int));refine⟨_,rfl,_,rfl,AJ rfl ?_⟩;refine⟨_,rfl,l,C3 t,rfl,Ae,by rw[SN];omega,(λz=>by rw[P9 it] at z;cases z),λ_ r H2 s2 nr hr2=>?_⟩;rw[Ih] at hr2;refine⟨_,rfl,_,rfl,AJ rfl ?_⟩;exact⟨_,rfl,r,t,rfl,hr2,it,λv H3 s3 rv=>q v H3 ((s1.trans s2).trans s3) rv⟩
theorem LC (z y:Int)(b:Bk):(C3 (Fq z y b))[5]?=some y:=rfl
theorem Rz {z y:Int}(n:FD z y):CD 8 (.tup [.int z,.int y])=true:=by
 obtain⟨⟨a1,a2⟩,a3,a4⟩:=n;show(decide (2<=100)&&((decide (0<=z)&&decide (z<=999999999))&&((decide (0<=y)&&decide (y<=999999999))&&true)))=true;simp only[Bool.and_true,Bool.and_eq_true,decide_eq_true_eq];omega
def EK (K:W.Frag)(C:Addr):Sp:=λvs H Q _=>∃p ds bs n lf,∃(b:Nat) (ta:Addr) (z y k:Int),vs=[.ref p,.int (b:Int),.ref ta]/\DE C H p ds bs n lf/\b<bs.length/\H ta=some (.tup [.int z,.int y,.int k])/\
 ((Ca (bs.getD b []) z=none/\Q .non H)\/∃y' bk,Ca (bs.getD b []) z=some (C3 (Fq z y' bk))/\Cu bk/\FD z y'/\FD z y/\(y'=y->A8 bk=k)/\(y'=y->∀v H',Ap H H'->Rep NL H' (BW bk) v->Q v H')/\(y'≠y->∀H',Ap H H'->Q .non H'))
theorem Px (T:Txt K mg Ab Ad Aa Af XC)(F:Fun K "block_on" "block_on" Ie f fd)(Iu:Def P w K mg base 14 "thing_on" ["boards","board","number"] (KA K Ad))(Bq:Def P w K mg base 1 "is_tuple_of" ["thing","many"] (C6 K))(Ir:Def P w K mg base 6 "is_block" ["thing"] (Kx K))(C9:Def P w K mg base 3 "sum_of" ["block"] (Hi K)):FnOk P w K mg base BO 15 f fd ["boards","board","tag"] (EK K Ad):=by
 exists Ku
 ·obtain⟨p,ds,bs,n,lf,b,ta,z,y,k,rfl,_⟩:=h;rfl
 obtain⟨p,ds,bs,n,lf,b,ta,z,y,k,rfl,hB,b1,ht,q⟩:=h;have hu9:=FZ hr;refine⟨_,(!Ah (@AD _ _ (3) _ _ _ _ Ku.nd rfl (by trivial) (!AK Iu (by trivial) rfl (!Ac (pv 0) (!Ac (pv 1) (!Ac (!Aw AF (pv 2) (!Aj) (λ_ _=>rfl)) (!Ai))))) (by rfl) (by trivial)) (!Ah (!AM (@PW.pt _ _ _ (!EU (!BL (!BC (!AK Bq (by trivial) rfl (!Ac (pv 3) (!Ac (!Aj) (!Ai)))) (by intro _;rfl))) (!Du (!Au (Q7 hu9) (!Jc Vj (pv 3) (!Of) (!JD (!Aj))) (!Jc Vj (pv 2) (!Of) (!JD (!Aj))) (Ay _))))) (!Ak (!Ao (!Eb))) (!Av)) (!Ah (!AM (@PW.pt _ _ _ (!EU (!BL (!BC (!AK Ir (by trivial) rfl (!Ac (!Aw AF (pv 3) (!Aj) (λ_ _=>rfl)) (!Ai))) (by intro _;rfl))) (!Du (!Au Ue (!AK C9 (by trivial) rfl (!Ac (!Aw AF (pv 3) (!Aj) (λ_ _=>rfl)) (!Ai))) (!Aw AF (pv 2) (!Aj) (λ_ _=>rfl)) (Ay _))))) (!Ak (!Ao (!Eb))) (!Av)) (!Ak (!Ao (!Aw AF (pv 3) (!Aj) (λ_ _=>rfl))))))),?_⟩;refine⟨_,rfl,_,rfl,_,rfl,ta,_,_,_,rfl,rfl,AV.of ht,rfl,p,ds,bs,n,lf,b,z,rfl,hB,b1,?_⟩;rcases q with⟨g,q⟩|⟨y',bk,g,ok,nb,nb',es,q,qn⟩
 ·refine .inl ⟨g,?_⟩;exact⟨_,rfl,.non,3,rfl,trivial,_,rfl,BA rfl q⟩
 ·refine .inr ⟨Fq z y' bk,g,Lh nb ok,by have:=RI (z:=z) (y:=y') ok;omega,λv H1 s1 rv=>?_⟩;obtain⟨a,us,rfl,e,u1,us,rfl,r1,u2,us,rfl,r2,u3,us,rfl,r3,rfl⟩:=rv;cases(show u1=V.int z from r1);cases(show u2=V.int y' from r2);have okv:Ok H1 (.ref a):=.inr ⟨_,e⟩;have ht1:=s1.get ht;refine⟨_,rfl,.ref a,3,rfl,okv,_,rfl,AJ (by rw[IP e];rfl) ?_⟩;refine⟨_,rfl,2,rfl,a,_,rfl,AV.of e,(show ¬(HT.Dq 3 0 none=0/\HT.Dq 3 3 (some 2)=3) by decide),λp1 hp1=>?_⟩;have s2:=Al hp1 (.tup [V.int z,V.int y']);refine⟨_,rfl,2,rfl,ta,_,rfl,AV.of (s2.get ht1),(show ¬(HT.Dq 3 0 none=0/\HT.Dq 3 3 (some 2)=3) by decide),λp2 hp2=>?_⟩;have s3:=Al hp2 (.tup [V.int z,V.int y]);have s13:=s2.trans s3;refine⟨.tup [.int z,.int y'],.tup [.int z,.int y],Rz nb,Rz nb',⟨p1,_,rfl,s3.get Ae,_,_,rfl,rfl,_,_,rfl,rfl,rfl⟩,⟨p2,_,rfl,Ae,_,_,rfl,rfl,_,_,rfl,rfl,rfl⟩,?_⟩;rw[bF rfl]
  by_cases ey:y'=y
  ·subst ey;refine⟨_,rfl,AJ (by rw[bh rfl];rfl) ?_⟩;have r3':=Rep.same s13 _ _ r3;have e3:=s13.get e;obtain⟨wok,wb⟩:=W9 ok;refine⟨_,rfl,a,_,_,_,rfl,rfl,AV.of e3,rfl,u3,bk,rfl,r3',wok,λH4 s4=>⟨_,rfl,AJ (by rw[wb];rfl) ?_⟩⟩;refine⟨_,rfl,a,_,_,_,rfl,rfl,AV.of (s4.get e3),rfl,u3,bk,rfl,Rep.same s4 _ _ r3',ok,λH5 s5=>?_⟩;have s45:=s4.trans s5;refine⟨_,rfl,ta,_,_,_,rfl,rfl,AV.of (s45.get (s13.get ht1)),rfl,rfl,_,rfl,AJ (by rw[es rfl];simp) ?_⟩;exact⟨_,rfl,a,_,_,_,rfl,rfl,AV.of (s45.get e3),rfl,q rfl u3 H5 ((s1.trans s13).trans s45) (Rep.same s45 _ _ r3')⟩
  ·have ne:¬wT (.tup [.int z,.int y'])=wT (.tup [.int z,.int y]):=λh=>by
    have:some y'=some y:=congrArg (λl:List Int=>l[5]?) h;exact ey (bf this)
   exact⟨_,rfl,BA (by rw[bD ne];rfl) (qn ey _ (s1.trans s13))⟩
theorem SH {J:It} {xs:List V} {fr:List (Option Nat)} {k:Nat} {tt:TT} {te:TE} {Q:VK} {σ:St} {H:Hp} (p:V->Bool) (hJ:J2 J H xs) (hn:xs.length<=1000000)
  (htest:∀(x:V) (H':Hp) (R:Bool->Hp->Prop),x∈xs->Ap H H'->(∀H'',Ap H' H''->R (p x) H'')->tt ((stC fr σ).set k (some x)) H' R)
  (helt:∀(x:V) (H':Hp) (R:VK),Ap H H'->(∀H'',Ap H' H''->R x H'')->te ((stC fr σ).set k (some x)) H' R)
  (hQ:∀l H',H l=none->Ap H H'->H' l=some (.lst (xs.filter p))->Q (.ref l) H'):Da fr (Bt k) tt te σ Q J H:=by
 intro l hl;refine⟨λi m σ' H'=>m=xs.length-i/\i<=xs.length/\(∀y,σ'.set k y=(stC fr σ).set k y)/\Ap H H'/\H' l=some (.lst ((xs.take i).filter p)),⟨xs.length,by simp,bU _,λ_=>rfl,Al hl _,Ae⟩,?_⟩
 rintro i m σ' H' ⟨rfl,hi,hσ,hs,hl'⟩
 obtain⟨h1,h2,h3⟩:=hJ H' hs i
 by_cases hlt:i<xs.length
 ·refine .inr ⟨h1 hlt,λx H'' y=>?_⟩;obtain⟨rfl,hx⟩:=h2 x H'' y;have hx:=hx hlt;have hf:(xs.take i).filter p++[x].filter p=(xs.take (i+1)).filter p:=by rw[bN,hx,dh];rfl
  have hle:((xs.take i).filter p).length<=i:=bQ (bW ..) (by rw[b6];omega);show tt (σ'.set k (some x)) H'' _;rw[hσ];refine htest x H'' _ (a8 hx) hs λH3 s3=>Co (λc=>?_) (λc=>?_)
  ·refine helt x H3 _ (hs.trans s3) λH4 s4=>?_
   refine⟨_,s4.get (s3.get hl'),Bd (by omega),xs.length-(i+1),by omega,rfl,hlt,λy=>by rw[dH],AW ((hs.trans s3).trans s4) hl _,?_⟩;rw[Ae,<-hf,bR c];rfl
  ·refine⟨xs.length-(i+1),by omega,rfl,hlt,λy=>by rw[dH],hs.trans s3,?_⟩;rw[s3.get hl',<-hf,bS c,hG,cm]
 ·have e:i=xs.length:=by omega
  subst e;exact .inl ⟨h3 (aZ _),hQ l H' hl hs (by rw[hl',bJ (aZ _)])⟩
def Lies (bs:List Cv)(z y:Int)(bk:Bk):Prop:=∀b,b<bs.length->Ca (bs.getD b []) z=none\/∃y' bk',Ca (bs.getD b []) z=some (C3 (Fq z y' bk'))/\Cu bk'/\FD z y'/\(y'=y->bk'=bk)
def hasB (bs:List Cv)(z y:Int)(b:Int):Bool:=match Ca (bs.getD b.toNat []) z with
 |some row=>decide (row[5]?=some y)
 |none=>false
def DW (bs:List Cv)(z:Int):List Int:=[z%(bs.length:Int),(z+1)%(bs.length:Int)]
theorem Lx {bs:List Cv}{z:Int}(h:0<bs.length):∀x∈DW bs z,0<=x/\x<(bs.length:Int):=λx hx=>by
 have e:x=z%(bs.length:Int)\/x=(z+1)%(bs.length:Int):=by simpa [DW] using hx
 rcases e with rfl|rfl
 ·exact⟨cM _ (by omega),dw _ (by omega)⟩
 ·exact⟨cM _ (by omega),dw _ (by omega)⟩
theorem VE {H:Hp} {p ta:Addr} {ds:List Addr} {bs:List Cv} {n:Int} {lf:V} {z y:Int} {bk:Bk} {x:Int} {Q:VK} (hB:DE Ad H p ds bs n lf) (x0:0<=x) (x1:x<(bs.length:Int)) (ht:H ta=some (.tup [.int z,.int y,.int (A8 bk)])) (hl:Lies bs z y bk) (nb:FD z y)
  (q0:hasB bs z y x=false->∀H',Ap H H'->Q .non H') (q1:hasB bs z y x=true->∀v H',Ap H H'->Rep NL H' (BW bk) v->Q v H'):EK K Ad [.ref p,.int x,.ref ta] H Q E0:=by
 have ex:((x.toNat:Nat):Int)=x:=by omega
 refine⟨p,ds,bs,n,lf,x.toNat,ta,z,y,A8 bk,by rw[ex],hB,by omega,ht,?_⟩;rcases hl x.toNat (by omega) with e|⟨y',bk',e,ok,nb',h⟩
 ·exact .inl ⟨e,q0 (by unfold hasB;rw[e]) H (Ap.refl _)⟩
 ·refine .inr ⟨y',bk',e,ok,nb',nb,λz=>by rw[h z],λz v H' s rv=>q1 ?_ v H' s (by rw[<-h z];exact rv),λz=>q0 ?_⟩
  ·unfold hasB;rw[e];exact bh (by rw[LC,z])
  ·unfold hasB;rw[e];exact bD (by rw[LC];exact λh=>z (bf h))
def CQ (K:W.Frag)(C:Addr):Sp:=λvs H Q _=>∃p ds bs n lf,∃(ta:Addr) (z y:Int) (bk:Bk),vs=[.ref p,.ref ta]/\DE C H p ds bs n lf/\0<bs.length/\H ta=some (.tup [.int z,.int y,.int (A8 bk)])/\Lies bs z y bk/\FD z y/\
 ∀(l:Addr) (H':Hp) (ms:List Int),Ap H H'->H l=none->H' l=some (.lst (ms.map V.int))->ms.Perm ((DW bs z).filter (hasB bs z y))->ms.Pairwise (·<=·)->Q (.ref l) H'
theorem KO (T:Txt K mg Ab Ad Aa Af XC)(F:Fun K "right_copies" "right_copies" Er f fd)(Bc:BH P w K mg base 2 Ad "twins" ["self","number"] (CS K Ad))(Dt:Def P w K mg base 15 "block_on" ["boards","board","tag"] (EK K Ad)):FnOk P w K mg base BO 16 f fd ["boards","tag"] (CQ K Ad):=by
 exists K1
 ·obtain⟨p,ds,bs,n,lf,ta,z,y,bk,rfl,_⟩:=h;rfl
 obtain⟨p,ds,bs,n,lf,ta,z,y,bk,rfl,hB,b0,ht,hl,nb,q⟩:=h;obtain⟨dx,s0,h1,h2,h3,h4⟩:=id hB;refine⟨_,(!Ak (!Ao (!Aq (Iz (K:=K) (by rfl)) (by rfl) T.b_sorted Ct (!Ac (@CM _ ["board","boards","tag"] [none,some 0,some 1] _ _ _ _ _ _ _ _ _ _ _ rfl (!Ds (!A2 (pv 0) T.cl_Boards Bc (by trivial) (!Ac (!Aw AF (pv 1) (!Aj) (λ_ _=>rfl)) (!Ai)))) (by rfl) rfl (by repeat (first|exact trivial|refine⟨rfl,?_⟩)) (by repeat (first|exact trivial|refine⟨λh=>(by first|exact⟨_,rfl⟩|cases h),?_⟩)) (λC s H fp=>⟨(@An _ _ (0) _ (show(["board","boards","tag"]:List Str).Nodup by decide +kernel) rfl (by trivial) (by trivial)),(!C7 (!EW (!K6 (!AK Dt (by trivial) rfl (!Ac (pv 1) (!Ac (pv 0) (!Ac (pv 2) (!Ai)))))) (by first|exact Cn _ (by decide) (by decide)|rfl))),(pv 0)⟩) (by intro _;rfl)) (!Ai))))),?_⟩;refine⟨_,rfl,p,dx,_,rfl,h1,rfl,_,rfl,ta,_,_,_,rfl,rfl,AV.of ht,rfl,p,ds,bs,n,lf,z,rfl,hB,b0,λtp htp=>?_⟩;have s1:=Al htp (.tup [V.int (z%(bs.length:Int)),V.int ((z+1)%(bs.length:Int))]);refine⟨tp,rfl,⟨_,AV.of Ae⟩,SH (xs:=(DW bs z).map V.int) (λv=>match v with | .int x=>hasB bs z y x|_=>false) (CF Ae) (by show 2<=1000000;decide) (λx H' R hx s' hR=>?_) (λx H' R s' hR=>⟨_,rfl,hR H' (Ap.refl _)⟩) λl H7 n7 s7 h7=>?_⟩
 ·obtain⟨k,hk,rfl⟩:=aT.mp hx;obtain⟨k0,k1⟩:=Lx b0 k hk;have u:=s1.trans s';refine⟨_,rfl,_,rfl,_,rfl,?_⟩;dsimp only[MT,List.append_nil];refine VE (hB.same u) k0 k1 (u.get ht) hl nb (λe H2 s2=>⟨_,rfl,?_⟩) (λe v H2 s2 rv=>⟨_,rfl,?_⟩)
  ·have:=hR H2 s2;have e':(match V.int k with|V.int x=>hasB bs z y x|_=>false)=false:=e;rw[e'] at this;exact this
  ·have:=hR H2 s2;have e':(match V.int k with|V.int x=>hasB bs z y x|_=>false)=true:=e;rw[e'] at this;have nv:v≠.non:=by
    obtain⟨a,xs,rfl,_⟩:=Fn rv;intro z;cases z
   rw[bD nv];exact this
 ·have ef:((DW bs z).map V.int).filter (λv=>match v with|V.int x=>hasB bs z y x|_=>false)=((DW bs z).filter (hasB bs z y)).map V.int:=by rw[dq];rfl
  rw[ef] at h7;have lf:((DW bs z).filter (hasB bs z y)).length<=2:=bW _ _;refine⟨l,_,rfl,AI.of h7,by omega,λms g pm so hg=>?_⟩;exact q g _ ms ((s1.trans s7).trans (Al hg _)) ((s1.trans s7).free hg) Ae pm so
def IF (K:W.Frag)(C:Addr):Sp:=λvs H Q _=>∃p ds bs n lf,∃(ta:Addr) (z y:Int) (bk:Bk),vs=[.ref p,.ref ta]/\DE C H p ds bs n lf/\0<bs.length/\H ta=some (.tup [.int z,.int y,.int (A8 bk)])/\Lies bs z y bk/\FD z y/\(DW bs z).filter (hasB bs z y)≠[]/\∀v H',Ap H H'->Rep NL H' (BW bk) v->Q v H'
theorem QI (T:Txt K mg Ab Ad Aa Af XC)(F:Fun K "fetched" "fetched" Ke f fd)(Bc:BH P w K mg base 2 Ad "twins" ["self","number"] (CS K Ad))(Dt:Def P w K mg base 15 "block_on" ["boards","board","tag"] (EK K Ad)):FnOk P w K mg base BO 16 f fd ["boards","tag"] (IF K Ad):=by
 exists HY
 ·obtain⟨p,ds,bs,n,lf,ta,z,y,bk,rfl,_⟩:=h;rfl
 obtain⟨p,ds,bs,n,lf,ta,z,y,bk,rfl,hB,b0,ht,hl,nb,q0,q⟩:=h;obtain⟨dx,s0,h1,h2,h3,h4⟩:=id hB;refine⟨_,(!Ah (!B2 b5 rfl (!Ds (!A2 (pv 0) T.cl_Boards Bc (by trivial) (!Ac (!Aw AF (pv 1) (!Aj) (λ_ _=>rfl)) (!Ai)))) (@An _ _ (2) _ HY.nd rfl (by trivial) (by trivial)) (!Ah (@AD _ _ (3) _ _ _ _ HY.nd rfl (by trivial) (!AK Dt (by trivial) rfl (!Ac (pv 0) (!Ac (pv 2) (!Ac (pv 1) (!Ai))))) (by rfl) (by trivial)) (!Ak (!AM (!EW (!K6 (pv 3)) (by first|exact Cn _ (by decide) (by decide)|rfl)) (!Ak (!Ao (pv 3))) (!Av)))) (by intro _;rfl)) (!Ak (!DG))),?_⟩;dsimp only[BB];refine⟨_,rfl,p,dx,_,rfl,h1,rfl,_,rfl,ta,_,_,_,rfl,rfl,AV.of ht,rfl,p,ds,bs,n,lf,z,rfl,hB,b0,λtp htp=>?_⟩;have s1:=Al htp (.tup [V.int (z%(bs.length:Int)),V.int ((z+1)%(bs.length:Int))]);have etp:(upd H tp (.tup [V.int (z%(bs.length:Int)),V.int ((z+1)%(bs.length:Int))])) tp=some (.tup ((DW bs z).map V.int)):=Ae;generalize upd H tp (.tup [V.int (z%(bs.length:Int)),V.int ((z+1)%(bs.length:Int))])=H0 at s1 etp;refine⟨tp,rfl,⟨_,AV.of etp⟩,Lg (K:=K) (a:=tp) (xs:=(DW bs z).map V.int) (λi σ H2=>∃v2 v3,σ=[some (.ref p),some (.ref ta),v2,v3]/\Ap H0 H2/\((DW bs z).take i).filter (hasB bs z y)=[]) ⟨none,none,rfl,Ap.refl _,rfl⟩ (λi σ H2 _ ⟨_,_,_,s2,_⟩=>AV.of (s2.get etp)) ?_ ?_⟩
 ·rintro i x σ H2 hi ⟨v2,v3,rfl,s2,hf⟩
  obtain⟨k,rfl,hk⟩:=ints_get hi;obtain⟨k0,k1⟩:=Lx b0 k (a8 hk);have u:=s1.trans s2;refine⟨_,rfl,_,rfl,_,rfl,?_⟩;dsimp only[MT,List.append_nil];refine VE (hB.same u) k0 k1 (u.get ht) hl nb (λe H3 s3=>?_) (λe v H3 s3 rv=>?_)
  ·refine⟨_,rfl,_,rfl,AJ rfl ?_⟩;refine⟨_,_,rfl,s2.trans s3,?_⟩;rw[bN,hk,dh,hf];show[k].filter (hasB bs z y)=[];rw[bS (by rw[e];exact bC),hG]
  ·have nv:v≠.non:=by
    obtain⟨a,xs,rfl,_⟩:=Fn rv;intro z;cases z
   refine⟨_,rfl,_,rfl,BA (by rw[bD nv];rfl) ?_⟩;exact⟨_,rfl,q v H3 (u.trans s3) rv⟩
 ·rintro σ H2 ⟨v2,v3,rfl,s2,hf⟩
  rw[bJ (by rw[aS];exact aZ _)] at hf;exact absurd hf q0
def wr (bs:List Cv)(z:Int)(row:List Int)(l:List Int):List Cv:=l.foldl (λbs x=>bs.set x.toNat (F2 (bs.getD x.toNat []) z row)) bs
theorem UZ (z:Int)(row:List Int):∀(l:List Int) (bs:List Cv),(wr bs z row l).length=bs.length
 |[],_=>rfl
 |x::l,bs=>by
  show(wr (bs.set _ _) z row l).length=_;rw[UZ z row l,fW]
theorem W3 (bs:List Cv)(z:Int)(row:List Int)(l:List Int)(x:Int):wr bs z row (l++[x])=(wr bs z row l).set x.toNat (F2 ((wr bs z row l).getD x.toNat []) z row):=by
 unfold wr;rw[e8];rfl
theorem MJ {z:Int}{row:List Int}{M:Nat}:∀(l:List Int) {bs:List Cv},(∀c∈bs,c.length<=M)->∀c∈wr bs z row l,c.length<=M+l.length:=λl=>by
 induction l generalizing M with
 |nil=>intro bs h;exact h
 |cons x l ih=>
  intro bs h c hc;have:∀c∈bs.set x.toNat (F2 (bs.getD x.toNat []) z row),c.length<=M+1:=λc hc=>by
   rcases List.mem_or_eq_of_mem_set hc with hc|rfl
   ·have:=h c hc;omega
   ·have:=Ua (bs.getD x.toNat []) z row;have:(bs.getD x.toNat []).length<=M:=by
     unfold List.getD;cases e:bs[x.toNat]? with
     |none=>exact bU _
     |some c=>exact h c (a8 e)
    omega
  have:=ih this c hc;rw[bT];omega
def JE (lf:V):Nat->V
 |0=>lf
 |i+1=>GQ (JE lf i)
theorem PM {lf:V}(h:OW lf)(n:lf≠.int 0):OW (GQ lf):=by
 rcases h with rfl|⟨k,rfl⟩
 ·exact .inl rfl
 ·have:k≠0:=λz=>n (by rw[z];rfl)
  exact .inr ⟨k-1,by show V.int ((k:Int)-1)=_;rw[show(k:Int)-1=((k-1:Nat):Int) by omega]⟩
def VP (K:W.Frag)(C:Addr)(XC:Nat->Addr):Sp:=λvs H Q E=>∃p ds bs n lf,∃(z y:Int) (bv:V) (bk:Bk),vs=[.ref p,.int z,.int y,bv]/\DE C H p ds bs n lf/\OW lf/\0<bs.length/\(∀c∈bs,c.length<=900)/\Rep NL H (BW bk) bv/\Cu bk/\FD z y/\
 (∀i,i<2->(∀j,j<i->JE lf j≠.int 0)->JE lf i=.int 0->∀H',DE C H' p ds (wr bs z (C3 (Fq z y bk)) ((DW bs z).take i)) (n+(i:Int)) (JE lf i)->Kb H H' p ds->E (.ref (XC 0)) none H')/\
 ((∀j,j<2->JE lf j≠.int 0)->∀H',DE C H' p ds (wr bs z (C3 (Fq z y bk)) (DW bs z)) (n+2) (JE lf 2)->Kb H H' p ds->Q .non H')
theorem Y2 (T:Txt K mg Ab Ad Aa Af XC)(F:Fun K "lay" "lay" TK f fd)(Mm:Def P w K mg base 2 "sealed" ["words"] (NI K))(Bc:BH P w K mg base 2 Ad "twins" ["self","number"] (CS K Ad))(Cg:Def P w K mg base 9 "words_of" ["thing"] (G0 K))(El:Km P w K mg base 4 Ad "write" ["self","board","number","row"] (Gi K Ad XC)):FnOk P w K mg base (OT P w) 10 f fd ["boards","number","birth","block"] (VP K Ad XC):=by
 refine F.okX Qq (λvs H Q E h=>?_) (λcdv A outer s H vs Q E hr h=>?_)
 ·obtain⟨p,ds,bs,n,lf,z,y,bv,bk,rfl,_⟩:=h;rfl
 obtain⟨p,ds,bs,n,lf,z,y,bv,bk,rfl,hB,lok,b0,bb,hv,ok,nb,qE,q⟩:=h;refine⟨_,(!Ah (@AD _ _ (4) _ _ _ _ Qq.nd rfl (by trivial) (!AK Mm (by trivial) rfl (!Ac (!AK Cg (by trivial) rfl (!Ac (!DQ (!Ac (pv 1) (!Ac (pv 2) (!Ac (pv 3) (!Ai))))) (!Ai))) (!Ai))) (by rfl) (by trivial)) (!Ak (!B2 PassesOwn.leaving rfl (!Ds (!A2 (pv 0) T.cl_Boards Bc (by trivial) (!Ac (pv 1) (!Ai)))) (@An _ _ (5) _ Qq.nd rfl (by trivial) (by trivial)) (!Ak (!A6 (!Xn (pv 0) T.cl_Boards El (by trivial) RJ (!Ac (pv 5) (!Ac (pv 1) (!Ac (pv 4) (!Ai))))))) (by intro _;rfl)))),?_⟩;dsimp only[BB];refine⟨_,rfl,_,rfl,_,rfl,UH,λtr htr=>?_⟩;have s1:=Al htr (.tup [V.int z,V.int y,bv]);have hrec:Rep NL (upd H tr (.tup [V.int z,V.int y,bv])) (Fq z y bk) (.ref tr):=⟨tr,_,rfl,Ae,_,_,rfl,rfl,_,_,rfl,rfl,_,_,rfl,Rep.same s1 _ _ hv,rfl⟩
 have rl:=RI (z:=z) (y:=y) ok;refine⟨.ref tr,Fq z y bk,rfl,hrec,Lh nb ok,by omega,λwl H2 s2 nw hw=>?_⟩;refine⟨wl,_,rfl,hw,by omega,λrw_ H3 s3 nr hrw=>?_⟩;have s03:=(s1.trans s2).trans s3;have hB3:=hB.same s03;obtain⟨dx,sh,h1,h2,h3,h4⟩:=id hB3;refine⟨_,rfl,p,dx,_,rfl,h1,rfl,_,rfl,p,ds,bs,n,lf,z,rfl,hB3,b0,λtp htp=>?_⟩;have s4:=Al htp (.tup [V.int (z%(bs.length:Int)),V.int ((z+1)%(bs.length:Int))]);have etp:(upd H3 tp (.tup [V.int (z%(bs.length:Int)),V.int ((z+1)%(bs.length:Int))])) tp=some (.tup ((DW bs z).map V.int)):=Ae;have hB4:=hB3.same s4;have hrw4:=s4.get hrw;have s04:=s03.trans s4;generalize upd H3 tp (.tup [V.int (z%(bs.length:Int)),V.int ((z+1)%(bs.length:Int))])=H4 at s4 etp hB4 hrw4 s04;obtain⟨dx4,sh4,g1,_,_,_⟩:=id hB4;have ntp:tp≠p:=AL etp g1 (by intro z;cases z);have ndp:tp∉ds:=hB4.notin etp (by intro kvs z;cases z);have nrp:rw_≠p:=AL hrw4 g1 (by intro z;cases z);have ndr:rw_∉ds:=hB4.notin hrw4 (by intro kvs z;cases z);refine⟨tp,rfl,⟨_,AV.of etp⟩,Lg (K:=K) (a:=tp) (xs:=(DW bs z).map V.int) (λi σ H2=>∃v5,σ=[some (.ref p),some (.int z),some (.int y),some bv,some (.ref rw_),v5]/\DE Ad H2 p ds (wr bs z (C3 (Fq z y bk)) ((DW bs z).take i)) (n+(i:Int)) (JE lf i)/\Kb H4 H2 p ds/\OW (JE lf i)/\∀j,j<i->JE lf j≠.int 0) ⟨none,rfl,by rw[eY,show n+((0:Nat):Int)=n by omega];exact hB4,λ_ _ e _ _=>e,lok,λ_ h=>nomatch h⟩ (λi σ H2 _ ⟨_,_,_,k2,_⟩=>AV.of (k2 _ _ etp ntp ndp)) ?_ ?_⟩
 ·rintro i x σ H5 hi ⟨v5,rfl,hB5,k5,l5,nz⟩
  obtain⟨k,rfl,hk⟩:=ints_get hi;obtain⟨k0,k1⟩:=Lx b0 k (a8 hk);have i2:i<2:=(bu.mp hk).1;have ek:((k.toNat:Nat):Int)=k:=by omega
  obtain⟨dx5,sh5,e1,e2,e3,e4⟩:=id hB5;refine⟨_,rfl,p,dx5,_,rfl,e1,rfl,_,rfl,_,rfl,_,rfl,p,ds,_,_,_,k.toNat,z,rw_,C3 (Fq z y bk),by rw[ek];rfl,hB5,l5,by rw[UZ];omega,λc hc=>?_,k5 _ _ hrw4 nrp ndr,λe0=>?_,λne H6 hB6 k6=>?_⟩
  ·have:=MJ _ bb c hc;have:((DW bs z).take i).length<=2:=by rw[b6];exact bQ (Nat.min_le_right _ _) (aZ 2)
   omega
  ·exact qE i i2 nz e0 H5 hB5 ((Ap.kb s04 p ds).trans k5)
  ·refine⟨_,rfl,?_,k5.trans k6,PM l5 ne,λj hj=>?_⟩
   ·rw[bN,hk];show DE _ _ _ _ (wr bs z _ ((DW bs z).take i++[k])) _ _;rw[W3,show n+((i+1:Nat):Int)=n+(i:Int)+1 by omega];exact hB6
   ·rcases ij.mp hj with hj|rfl
    ·exact nz j hj
    ·exact ne
 ·rintro σ H5 ⟨v5,rfl,hB5,k5,l5,nz⟩
  rw[bJ (by rw[aS];exact aZ _)] at hB5;exact q nz H5 hB5 ((Ap.kb s04 p ds).trans k5)
end
open M06 M10
section
variable {P:Program}{w:World}{K:W.Frag}{mg:Str->Option Value}{base:Heap}{f Ab Ad Aa Af:Addr}{XC:Nat->Addr}{fd:FuncData}
def LF (K:W.Frag):Sp:=λvs H Q _=>∃v b,vs=[v]/\Rep NL H (BW b) v/\Cu b/\∀H',Ap H H'->Q (.int ((wT (BW b)).length:Int)) H'
theorem Q4 (T:Txt K mg Ab Ad Aa Af XC)(F:Fun K "size_of" "size_of" JK f fd)(Cg:Def P w K mg base 9 "words_of" ["thing"] (G0 K)):FnOk P w K mg base BO 10 f fd ["block"] (LF K):=by
 exists QU
 ·obtain⟨v,b,rfl,_⟩:=h;rfl
 obtain⟨v,b,rfl,hv,ok,q⟩:=h;refine⟨_,(!Ak (!Ao (!Aq AB (by rfl) T.b_len Bl (!Ac (!AK Cg (by trivial) rfl (!Ac (pv 0) (!Ai))) (!Ai))))),?_⟩
 try dsimp only[BB,Cx.nox,Cx.wish]
 have:=RP b;have:=size_le ok;refine⟨_,rfl,v,BW b,rfl,hv,Cq ok,by omega,λwl H2 s2 nw hw=>⟨wl,_,rfl,.inl (AI.of hw),?_⟩⟩;rw[aS];exact q _ s2
def Ar:Bk->List Tg
 | .piece _=>[]
 | .row _ ts=>ts
 | .folder es=>es.map (·.tg)
def OL (H:Hp):V->V
 | .ref a=>match H a with
  |some (.tup [_,_,t])=>t
  |_=>.non
 |_=>.non
theorem MB {H:Hp}{a:Addr}{x y z:V}(h:H a=some (.tup [x,y,z])):OL H (.ref a)=z:=by
 show(match H a with|some (.tup [_,_,t])=>t|_=>V.non)=z;rw[h]
theorem Ij {H:Hp}:∀{es:List En} {us:List V},AA NL H (es.map K0) us->AA NL H ((es.map (·.tg)).map CC) (us.map (OL H))
 |[],us,h=>by cases h;exact rfl
 |e::es,us,h=>by
  obtain⟨v,vs,rfl,h1,h2⟩:=h;obtain⟨a,b,rfl,e1,e2⟩:=DM h1;refine⟨_,_,rfl,?_,Ij h2⟩;rw[MB e1];exact EF e2
def Ly (K:W.Frag):Sp:=λvs H Q _=>∃v b,vs=[v]/\Rep NL H (BW b) v/\Cu b/\∀l us H',Ap H H'->H l=none->H' l=some (.lst us)->AA NL H' ((Ar b).map CC) us->Q (.ref l) H'
theorem Rn (T:Txt K mg Ab Ad Aa Af XC)(F:Fun K "tags_in" "tags_in" JX f fd):FnOk P w K mg base BO 1 f fd ["block"] (Ly K):=by
 exists Rm
 ·obtain⟨v,b,rfl,_⟩:=h;rfl
 obtain⟨v,b,rfl,hv,ok,q⟩:=h;refine⟨_,(!Ah (!AM (!Au Bg (!Aw AF (pv 0) (!Aj) (λ_ _=>rfl)) (!AH rfl T.c_PIECE) (Ay _)) (!Ak (!Ao (!BJ (!Ai)))) (!Av)) (!Ah (!AM (!Au Bg (!Aw AF (pv 0) (!Aj) (λ_ _=>rfl)) (!AH rfl T.c_ROW) (Ay _)) (!Ak (!Ao (!BX De (by rfl) T.b_list Ji (!Ac (!Aw AF (pv 0) (!Aj) (λ_ _=>rfl)) (!Ai))))) (!Av)) (!Ak (!Ao (@Br _ ["name","kind","tag"] _ _ _ _ _ _ _ _ _ _ rfl (!Ds (!Aw AF (pv 0) (!Aj) (λ_ _=>rfl))) (by decide +kernel) (λC s H fp=>⟨(@B3 _ (K) _ _ _ _ (3) (by rfl) rfl (!Ax (@An _ _ (0) _ (show(["name","kind","tag"]:List Str).Nodup by decide +kernel) rfl (by trivial) (by trivial)) (!Ax (@An _ _ (1) _ (show(["name","kind","tag"]:List Str).Nodup by decide +kernel) rfl (by trivial) (by trivial)) (!Ax (@An _ _ (2) _ (show(["name","kind","tag"]:List Str).Nodup by decide +kernel) rfl (by trivial) (by trivial)) (!Bv)))) (by rfl) (by rfl)),(!AU),(pv 2)⟩) (by intro _;rfl)))))),?_⟩
 try dsimp only[BB,Cx.nox,Cx.wish]
 cases b with
 |piece z=>
  obtain⟨a,rfl,e⟩:=D2 hv;refine⟨_,rfl,a,_,_,_,rfl,rfl,AV.of e,rfl,rfl,_,rfl,BA rfl ?_⟩;exact⟨Jo,λl hl=>q l [] _ (Al hl _) hl Ae rfl⟩
 |row lv ts=>
  obtain⟨a,d,us,rfl,e,e2,r⟩:=Hh hv;refine⟨_,rfl,a,_,_,_,rfl,rfl,AV.of e,rfl,rfl,_,rfl,AJ rfl ?_⟩;refine⟨_,rfl,a,_,_,_,rfl,rfl,AV.of e,rfl,rfl,_,rfl,BA rfl ?_⟩;exact⟨_,rfl,a,_,_,_,rfl,rfl,AV.of e,rfl,d,_,rfl,.inr (AV.of e2),λl hl=>q l us _ (Al hl _) hl Ae (AA.same (Al hl _) _ _ r)⟩
 |folder es=>
  obtain⟨a,d,us,rfl,e,e2,r⟩:=Ck hv;refine⟨_,rfl,a,_,_,_,rfl,rfl,AV.of e,rfl,rfl,_,rfl,AJ rfl ?_⟩;refine⟨_,rfl,a,_,_,_,rfl,rfl,AV.of e,rfl,rfl,_,rfl,AJ rfl ?_⟩;refine⟨_,rfl,a,_,_,_,rfl,rfl,AV.of e,rfl,d,rfl,⟨_,AV.of e2⟩,?_⟩;have lu:us.length=es.length:=by rw[AA.len _ _ r,aS]
  have l16:es.length<=16:=ok.1;refine JQ (xs:=us) (OL H) (CF e2) (by omega) (λx hx=>?_) (λb x1 x2 x3 H' R hx hb s' hR=>⟨_,rfl,?_⟩) λl H' nl s' hl=>q l _ H' s' nl hl (AA.same s' _ _ (Ij r))
  ·obtain⟨en,_,hr⟩:=C5 r hx;obtain⟨b,c,rfl,e3,_⟩:=DM hr;exact⟨b,_,_,_,rfl,e3⟩
  ·have:=hR H' (Ap.refl _);rw[MB hb] at this;exact this
def CJ (t:Addr)(n:Int)(l:Addr)(k e s:Int):List (Str×V):=[("own_tag",.ref t),("own_size",.int n),("named",.ref l),("times_named",.int k),("entries_beneath",.int e),("steps_beneath",.int s)]
def EO (K:W.Frag)(C:Addr):Sp:=λvs H Q _=>∃(x dx ta:Addr) (v:V) (b:Bk),vs=[.ref x,.ref ta,v]/\H x=some (.ins C dx [])/\Rep NL H (BW b) v/\Cu b/\
 ∀l us H',(∀c o,H c=some o->c≠x->H' c=some o)->H l=none->H' l=some (.lst us)->AA NL H' ((Ar b).map CC) us->H' x=some (.ins C dx (CJ ta ((wT (BW b)).length:Int) l 0 0 0))->Q .non H'
theorem IT (T:Txt K mg Ab Ad Aa Af XC)(F:Fun K "__init__" "TakenCell.__init__" Dy f fd)(JW:Def P w K mg base 10 "size_of" ["block"] (LF K))(J8:Def P w K mg base 1 "tags_in" ["block"] (Ly K)):FnOk P w K mg base BO 11 f fd ["self","own_tag","block"] (EO K Aa):=by
 exists IZ
 ·obtain⟨x,dx,ta,v,b,rfl,_⟩:=h;rfl
 obtain⟨x,dx,ta,v,b,rfl,hx,hv,ok,q⟩:=h;refine⟨_,(!Ah (!BU (pv 0) (pv 1)) (!Ah (!BU (pv 0) (!AK JW (by trivial) rfl (!Ac (pv 2) (!Ai)))) (!Ah (!BU (pv 0) (!AK J8 (by trivial) rfl (!Ac (pv 2) (!Ai)))) (!Ah (!BU (pv 0) (!Aj)) (!Ah (!BU (pv 0) (!Aj)) (!Ak (!BU (pv 0) (!Aj)))))))),?_⟩
 try dsimp only[BB,Cx.nox,Cx.wish]
 have tp:∀(o:HO) c ys,H c=some (.tup ys)->(upd H x o) c=some (.tup ys):=λo c ys h=>by rw[Ag (AL h hx (by intro z;cases z))];exact h
 refine⟨_,rfl,_,rfl,x,Aa,dx,[],rfl,hx,T.cl_TakenCell,T.n_TakenCell_own_tag,(by show 0<1000;decide),?_⟩;refine⟨_,rfl,v,b,rfl,Cd (tp _) _ _ hv,ok,λH1 s1=>⟨_,rfl,x,Aa,dx,_,rfl,s1.get Ae,T.cl_TakenCell,T.n_TakenCell_own_size,(by show 1<1000;decide),?_⟩⟩;have hx1:∀o,(upd H1 x o) x=some o:=λo=>Ae
 have k1:∀o c u,H c=some u->c≠x->(upd H1 x o) c=some u:=λo c u h n=>by rw[Ag n];exact s1.get (by rw[Ag n];exact h)
 refine⟨_,rfl,v,b,rfl,Cd (λc ys h=>k1 _ c _ h (AL h hx (by intro z;cases z))) _ _ hv,ok,λl us H2 s2 nl hl r=>⟨_,rfl,x,Aa,dx,_,rfl,s2.get (hx1 _),T.cl_TakenCell,T.n_TakenCell_named,(by show 2<1000;decide),?_⟩⟩;have nlx:l≠x:=λz=>by rw[z,hx1] at nl;cases nl
 refine⟨_,rfl,x,Aa,dx,_,rfl,Ae,T.cl_TakenCell,T.n_TakenCell_times_named,(by show 3<1000;decide),?_⟩;refine⟨_,rfl,x,Aa,dx,_,rfl,Ae,T.cl_TakenCell,T.n_TakenCell_entries_beneath,(by show 4<1000;decide),?_⟩;refine⟨_,rfl,x,Aa,dx,_,rfl,Ae,T.cl_TakenCell,T.n_TakenCell_steps_beneath,(by show 5<1000;decide),?_⟩;rw[DV,DV,DV];have nlH:H l=none:=by
  cases h:H l with
  |none=>rfl
  |some o=>rw[k1 _ l o h nlx] at nl;cases nl
 refine q l us _ (λc o h n=>by rw[Ag n];exact s2.get (k1 _ c o h n)) nlH (by rw[Ag nlx];exact hl) (AX (λc ys h=>?_) _ _ r) Ae;rw[Ag (λz=>by have:=s2.get (hx1 (.ins Aa dx (Dp "own_size" (V.int ((wT (BW b)).length:Int)) (Dp "own_tag" (V.ref ta) []))));rw[z,this] at h;cases h)];exact h
def Hz (bo dt dz dd:Addr)(n:Int):List (Str×V):=[("boards",.ref bo),("taken",.ref dt),("by_sums",.ref dz),("draft",.ref dd),("first_maybe_free",.int n)]
def IM (K:W.Frag)(C:Addr):Sp:=λvs H Q _=>∃(x dx bo:Addr),vs=[.ref x,.ref bo]/\H x=some (.ins C dx [])/\
 ∀dt dz dd H',(∀c o,H c=some o->c≠x->H' c=some o)->dt≠dz->dt≠dd->dz≠dd->H' dt=some (.dK [])->H' dz=some (.dK [])->H' dd=some (.dK [])->H' x=some (.ins C dx (Hz bo dt dz dd 1))->(H dt=none/\H dz=none/\H dd=none)->Q .non H'
theorem OA (T:Txt K mg Ab Ad Aa Af XC)(F:Fun K "__init__" "Pool.__init__" G2 f fd):FnOk P w K mg base BO 1 f fd ["self","boards"] (IM K Af):=by
 exists N0
 ·obtain⟨x,dx,bo,rfl,_⟩:=h;rfl
 obtain⟨x,dx,bo,rfl,hx,q⟩:=h;refine⟨_,(!Ah (!BU (pv 0) (pv 1)) (!Ah (!BU (pv 0) (!Ec)) (!Ah (!BU (pv 0) (!Ec)) (!Ah (!BU (pv 0) (!Ec)) (!Ak (!BU (pv 0) (!Aj))))))),?_⟩
 try dsimp only[BB,Cx.nox,Cx.wish]
 refine⟨_,rfl,_,rfl,x,Af,dx,[],rfl,hx,T.cl_Pool,T.n_Pool_boards,(by show 0<1000;decide),?_⟩;refine λdt hdt=>?_
 have n1:dt≠x:=λz=>by rw[z,Ae] at hdt;cases hdt
 refine⟨_,rfl,x,Af,dx,_,rfl,(Al hdt _).get Ae,T.cl_Pool,T.n_Pool_taken,(by show 1<1000;decide),?_⟩;refine λdz hdz=>?_
 have n2:dz≠x:=λz=>by rw[z,Ae] at hdz;cases hdz
 have e1:dz≠dt:=λz=>by rw[z,Ag n1,Ae] at hdz;cases hdz
 refine⟨_,rfl,x,Af,dx,_,rfl,(Al hdz _).get Ae,T.cl_Pool,T.n_Pool_by_sums,(by show 2<1000;decide),?_⟩;refine λdd hdd=>?_
 have n3:dd≠x:=λz=>by rw[z,Ae] at hdd;cases hdd
 have e2:dd≠dz:=λz=>by rw[z,Ag n2,Ae] at hdd;cases hdd
 have e3:dd≠dt:=λz=>by rw[z,Ag n1,Ag (Ne.symm e1),Ag n1,Ae] at hdd;cases hdd
 refine⟨_,rfl,x,Af,dx,_,rfl,(Al hdd _).get Ae,T.cl_Pool,T.n_Pool_draft,(by show 3<1000;decide),?_⟩;refine⟨_,rfl,x,Af,dx,_,rfl,Ae,T.cl_Pool,T.n_Pool_first_maybe_free,(by show 4<1000;decide),?_⟩;refine q dt dz dd _ (λc o h n=>?_) (Ne.symm e1) (Ne.symm e3) (Ne.symm e2) ?_ ?_ ?_ Ae ⟨by rw[Ag n1] at hdt;exact hdt,by rw[Ag n2,Ag e1,Ag n2] at hdz;exact hdz,by rw[Ag n3,Ag e2,Ag n3,Ag e3,Ag n3] at hdd;exact hdd⟩
 ·have a1:c≠dt:=λz=>by rw[<-z,Ag n,h] at hdt;cases hdt
  have b1:=h;have a2:c≠dz:=λz=>by rw[<-z,Ag n,Ag a1,Ag n,h] at hdz;cases hdz
  have a3:c≠dd:=λz=>by rw[<-z,Ag n,Ag a2,Ag n,Ag a1,Ag n,h] at hdd;cases hdd
  rw[Ag n,Ag n,Ag a3,Ag n,Ag a2,Ag n,Ag a1,Ag n];exact h
 ·rw[Ag n1,Ag n1,Ag (Ne.symm e3),Ag n1,Ag (Ne.symm e1),Ag n1,Ae]
 ·rw[Ag n2,Ag n2,Ag (Ne.symm e2),Ag n2,Ae]
 ·rw[Ag n3,Ag n3,Ae]
structure Cl where
 z:Int
 y:Int
 bk:Bk
 v:V
 c:Addr
 dx:Addr
 ta:Addr
 l:Addr
 k:Int
 en:Int
 st:Int
structure Pl where
 dp:Addr
 bo:Addr
 dt:Addr
 dz:Addr
 dd:Addr
 n:Int
 D:List Int
def Im (C:Addr)(H:Hp)(e:Cl):Prop:=H e.c=some (.ins C e.dx (CJ e.ta ((wT (BW e.bk)).length:Int) e.l e.k e.en e.st))/\H e.ta=some (.tup [.int e.z,.int e.y,.int (A8 e.bk)])/\Rep NL H (BW e.bk) e.v/\Cu e.bk
def JP (cs:List Cl):List (Key×V):=cs.map λe=>(Sum.inl e.z,.ref e.c)
def Ik (D:List Int)(cs:List Cl):List (Key×V):=(cs.filter λe=>decide (e.z∈D)).map λe=>(Sum.inl e.z,e.v)
def EX (CP CT:Addr)(H:Hp)(p:Addr)(q:Pl)(cs:List Cl):Prop:=H p=some (.ins CP q.dp (Hz q.bo q.dt q.dz q.dd q.n))/\H q.dt=some (.dK (JP cs))/\(∀e∈cs,Im CT H e)/\(cs.map (·.z)).Nodup
theorem FU {κ:Type}[DecidableEq κ]:∀{kvs:List (κ×V)} (_:(kvs.map (·.1)).Nodup) {k:κ} {v:V},(k,v)∈kvs->A4 kvs k=some v
 |[],_,_,_,h=>nomatch h
 |x::kvs,nd,k,v,h=>by
  rw[bg,bZ] at nd;rcases bE.mp h with rfl|h
  ·exact GH rfl
  ·rw[GB (λe=>nd.1 (by rw[e];exact aT.mpr ⟨_,h,rfl⟩))];exact FU nd.2 h
theorem Kc {g:Cl->V}:∀{cs:List Cl},(cs.map (·.z)).Nodup->((cs.map λe=>((Sum.inl e.z:Key),g e)).map (·.1)).Nodup
 |[],_=>cA
 |e::cs,h=>by
  rw[bg,bZ] at h;rw[bg,bg,bZ];refine⟨λq=>h.1 ?_,Kc h.2⟩;obtain⟨x,hx,e1⟩:=aT.mp q;obtain⟨u,hu,rfl⟩:=aT.mp hx;exact aT.mpr ⟨u,hu,cI e1⟩
theorem FM {cs:List Cl}(nd:(cs.map (·.z)).Nodup){e:Cl}(h:e∈cs):A4 (JP cs) (Sum.inl e.z)=some (.ref e.c):=FU (Kc nd) (aT.mpr ⟨e,h,rfl⟩)
theorem UX {D:List Int}{cs:List Cl}(nd:(cs.map (·.z)).Nodup){e:Cl}(h:e∈cs)(hD:e.z∈D):A4 (Ik D cs) (Sum.inl e.z)=some e.v:=FU (Kc ((List.filter_sublist.map _).nodup nd)) (aT.mpr ⟨e,bM.mpr ⟨h,bh hD⟩,rfl⟩)
theorem Xe {D:List Int}{cs:List Cl}{z:Int}(hD:z∉D):A4 (Ik D cs) (Sum.inl z)=none:=by
 unfold A4;rw[cW,dg];intro x hx y;obtain⟨e,he,rfl⟩:=aT.mp hx;have:=cI (bP y);exact hD (this▸bP (bM.mp he).2)
def YV (CB:Addr)(H:Hp)(q:Pl)(cs:List Cl):Prop:=∃ds bs n lf,DE CB H q.bo ds bs n lf/\0<bs.length/\∀e∈cs,e.z∉q.D->Lies bs e.z e.y e.bk/\FD e.z e.y/\(DW bs e.z).filter (hasB bs e.z e.y)≠[]
theorem YV.same {CB:Addr}{H H':Hp}{q:Pl}{cs:List Cl}(s:Ap H H')(h:YV CB H q cs):YV CB H' q cs:=by
 obtain⟨ds,bs,n,lf,hB,r⟩:=h;exact⟨ds,bs,n,lf,hB.same s,r⟩
def EJ (K:W.Frag)(CP CT:Addr):Sp:=λvs H Q _=>∃p q cs e,vs=[.ref p,.int e.z]/\EX CP CT H p q cs/\e∈cs/\Q (.ref e.ta) H
theorem Qg (T:Txt K mg Ab Ad Aa Af XC)(F:Fun K "tag" "Pool.tag" IA f fd):FnOk P w K mg base BO 1 f fd ["self","number"] (EJ K Af Aa):=by
 exists P8
 ·obtain⟨p,q,cs,e,rfl,_⟩:=h;rfl
 obtain⟨p,q,cs,e,rfl,⟨h1,h2,h4,nd⟩,he,hq⟩:=h;have hu:=BF hr;refine⟨_,(!Ak (!Ao (!AN (!B8 hu (!AN (pv 0)) (pv 1) (λ_ _=>rfl))))),?_⟩
 try dsimp only[BB,Cx.nox,Cx.wish]
 have g:BG H q.dt (.int e.z) (some (.ref e.c)):=by
  have:=BG.k (k:=Sum.inl e.z) h2;rw[FM nd he] at this;exact this
 exact⟨_,rfl,p,Af,q.dp,_,_,rfl,h1,T.cl_Pool,T.n_Pool_taken,rfl,_,rfl,q.dt,_,rfl,g,e.c,Aa,e.dx,_,_,rfl,(h4 e he).1,T.cl_TakenCell,T.n_TakenCell_own_tag,rfl,hq⟩
def Gf (K:W.Frag)(CP CT:Addr):Sp:=λvs H Q _=>∃p q cs e,vs=[.ref p,.int e.z]/\EX CP CT H p q cs/\e∈cs/\Q (.int e.en) H
theorem K5 (T:Txt K mg Ab Ad Aa Af XC)(F:Fun K "entries" "Pool.entries" Ej f fd):FnOk P w K mg base BO 1 f fd ["self","number"] (Gf K Af Aa):=by
 exists K2
 ·obtain⟨p,q,cs,e,rfl,_⟩:=h;rfl
 obtain⟨p,q,cs,e,rfl,⟨h1,h2,h4,nd⟩,he,hq⟩:=h;have hu:=BF hr;refine⟨_,(!Ak (!Ao (!AN (!B8 hu (!AN (pv 0)) (pv 1) (λ_ _=>rfl))))),?_⟩
 try dsimp only[BB,Cx.nox,Cx.wish]
 have g:BG H q.dt (.int e.z) (some (.ref e.c)):=by
  have:=BG.k (k:=Sum.inl e.z) h2;rw[FM nd he] at this;exact this
 exact⟨_,rfl,p,Af,q.dp,_,_,rfl,h1,T.cl_Pool,T.n_Pool_taken,rfl,_,rfl,q.dt,_,rfl,g,e.c,Aa,e.dx,_,_,rfl,(h4 e he).1,T.cl_TakenCell,T.n_TakenCell_entries_beneath,rfl,hq⟩
def IX (K:W.Frag)(CP CT:Addr):Sp:=λvs H Q _=>∃p q cs e,vs=[.ref p,.int e.z]/\EX CP CT H p q cs/\e∈cs/\Q (.int e.st) H
theorem Ol (T:Txt K mg Ab Ad Aa Af XC)(F:Fun K "deep" "Pool.deep" G4 f fd):FnOk P w K mg base BO 1 f fd ["self","number"] (IX K Af Aa):=by
 exists Oo
 ·obtain⟨p,q,cs,e,rfl,_⟩:=h;rfl
 obtain⟨p,q,cs,e,rfl,⟨h1,h2,h4,nd⟩,he,hq⟩:=h;have hu:=BF hr;refine⟨_,(!Ak (!Ao (!AN (!B8 hu (!AN (pv 0)) (pv 1) (λ_ _=>rfl))))),?_⟩
 try dsimp only[BB,Cx.nox,Cx.wish]
 have g:BG H q.dt (.int e.z) (some (.ref e.c)):=by
  have:=BG.k (k:=Sum.inl e.z) h2;rw[FM nd he] at this;exact this
 exact⟨_,rfl,p,Af,q.dp,_,_,rfl,h1,T.cl_Pool,T.n_Pool_taken,rfl,_,rfl,q.dt,_,rfl,g,e.c,Aa,e.dx,_,_,rfl,(h4 e he).1,T.cl_TakenCell,T.n_TakenCell_steps_beneath,rfl,hq⟩
def E7 (K:W.Frag)(CP CT CB:Addr):Sp:=λvs H Q _=>∃p q cs e,∃(ta:Addr),vs=[.ref p,.ref ta]/\EX CP CT H p q cs/\H q.dd=some (.dK (Ik q.D cs))/\YV CB H q cs/\e∈cs/\H ta=some (.tup [.int e.z,.int e.y,.int (A8 e.bk)])/\∀v H',Ap H H'->Rep NL H' (BW e.bk) v->Q v H'
theorem MW (T:Txt K mg Ab Ad Aa Af XC)(F:Fun K "block" "Pool.block" F5 f fd)(D4:Def P w K mg base 16 "fetched" ["boards","tag"] (IF K Ad)):FnOk P w K mg base BO 17 f fd ["self","tag"] (E7 K Af Aa Ad):=by
 exists Na
 ·obtain⟨p,q,cs,e,ta,rfl,_⟩:=h;rfl
 have hu:=BF hr;refine⟨_,(!Ah (!AM (!EW (!QC hu (!Aw AF (pv 1) (!Aj) (λ_ _=>rfl)) (!AN (pv 0))) (by first|exact Cn _ (by decide) (by decide)|rfl)) (!Ak (!Ao (!B8 hu (!AN (pv 0)) (!Aw AF (pv 1) (!Aj) (λ_ _=>rfl)) (λ_ _=>rfl)))) (!Av)) (!Ak (!Ao (!AK D4 (by trivial) rfl (!Ac (!AN (pv 0)) (!Ac (pv 1) (!Ai))))))),?_⟩
 try dsimp only[BB,Cx.nox,Cx.wish]
 obtain⟨p,q,cs,e,ta,rfl,⟨h1,h2,h4,nd⟩,h3,⟨ds,bs,n,lf,hB,b0,br⟩,he,ht,hq⟩:=h
 by_cases hD:e.z∈q.D
 ·have g:BG H q.dd (.int e.z) (some e.v):=by
   have:=BG.k (k:=Sum.inl e.z) h3;rw[UX nd he hD] at this;exact this
  refine⟨_,rfl,ta,_,_,_,rfl,rfl,AV.of ht,rfl,_,rfl,p,Af,q.dp,_,_,rfl,h1,T.cl_Pool,T.n_Pool_draft,rfl,q.dd,_,rfl,g,?_⟩;refine⟨_,rfl,BA rfl ?_⟩;exact⟨_,rfl,p,Af,q.dp,_,_,rfl,h1,T.cl_Pool,T.n_Pool_draft,rfl,_,rfl,ta,_,_,_,rfl,rfl,AV.of ht,rfl,q.dd,_,rfl,g,hq _ H (Ap.refl _) (h4 e he).2.2.1⟩
 ·obtain⟨li,nb,ha⟩:=br e he hD;have g:BG H q.dd (.int e.z) none:=by
   have:=BG.k (k:=Sum.inl e.z) h3;rw[Xe hD] at this;exact this
  refine⟨_,rfl,ta,_,_,_,rfl,rfl,AV.of ht,rfl,_,rfl,p,Af,q.dp,_,_,rfl,h1,T.cl_Pool,T.n_Pool_draft,rfl,q.dd,_,rfl,g,?_⟩;refine⟨_,rfl,AJ rfl ?_⟩;exact⟨_,rfl,p,Af,q.dp,_,_,rfl,h1,T.cl_Pool,T.n_Pool_boards,rfl,_,rfl,q.bo,ds,bs,n,lf,ta,e.z,e.y,e.bk,rfl,hB,b0,ht,li,nb,ha,hq⟩
def F4 (K:W.Frag)(CP CT:Addr):Sp:=λvs H Q _=>∃p q cs e,∃(ta:Addr) (y k:V),vs=[.ref p,.ref ta]/\EX CP CT H p q cs/\e∈cs/\H ta=some (.tup [.int e.z,y,k])/\Q .non (upd H e.c (.ins CT e.dx (CJ e.ta ((wT (BW e.bk)).length:Int) e.l (e.k+1) e.en e.st)))
theorem Oc (T:Txt K mg Ab Ad Aa Af XC)(F:Fun K "hold" "Pool.hold" GK f fd):FnOk P w K mg base BO 1 f fd ["self","tag"] (F4 K Af Aa):=by
 exists IK
 ·obtain⟨p,q,cs,e,ta,y,k,rfl,_⟩:=h;rfl
 obtain⟨p,q,cs,e,ta,y,k,rfl,⟨h1,h2,h4,nd⟩,he,ht,hq⟩:=h;have hu:=BF hr;refine⟨_,(!Ah (@AD _ _ (2) _ _ _ _ IK.nd rfl (by trivial) (!B8 hu (!AN (pv 0)) (!Aw AF (pv 1) (!Aj) (λ_ _=>rfl)) (λ_ _=>rfl)) (by rfl) (by trivial)) (!Ak (!D3 (pv 2) (!Aj) K8))),?_⟩
 try dsimp only[BB,Cx.nox,Cx.wish]
 have g:BG H q.dt (.int e.z) (some (.ref e.c)):=by
  have:=BG.k (k:=Sum.inl e.z) h2;rw[FM nd he] at this;exact this
 have hc:=(h4 e he).1;refine⟨_,rfl,p,Af,q.dp,_,_,rfl,h1,T.cl_Pool,T.n_Pool_taken,rfl,_,rfl,ta,_,_,_,rfl,rfl,AV.of ht,rfl,q.dt,_,rfl,g,?_⟩;exact⟨_,rfl,e.c,Aa,e.dx,_,_,rfl,hc,T.cl_TakenCell,T.n_TakenCell_times_named,rfl,_,_,rfl,rfl,e.dx,_,hc,(by show 6<1000;decide),hq⟩
theorem Fp {α:Type}[DecidableEq α]:∀{l m:List α},l.Nodup->(∀x∈l,x∈m)->l.length<=m.length
 |[],_,_,_=>bU _
 |a::l,m,nd,h=>by
  rw[bZ] at nd;have ha:=h a bc;have:=Fp (m:=m.erase a) nd.2 λx hx=>(List.mem_erase_of_ne (λz=>nd.1 (by rw[<-z];exact hx))).mpr (h x (a9 _ hx))
  rw[List.length_erase_of_mem ha] at this;have:0<m.length:=List.length_pos_of_mem ha;rw[bT];omega
theorem WA {n:Nat}{l:List Int}(h:∀i:Int,1<=i->i<=n->i∈l):n<=l.length:=by
 have nd:((List.range n).map λi:Nat=>(i:Int)+1).Nodup:=fc _ (λa b (h:a≠b) e=>h (by omega)) List.nodup_range;have:=Fp (m:=l) nd λx hx=>by
  obtain⟨i,hi,rfl⟩:=aT.mp hx;have:=cX.mp hi;exact h _ (by omega) (by omega)
 rw[aS,bY] at this;exact this
def Below (cs:List Cl)(m:Int):Prop:=∀i:Int,1<=i->i<m->∃e∈cs,e.z=i
def DR (K:W.Frag)(CP CT:Addr):Sp:=λvs H Q _=>∃p q cs,vs=[.ref p]/\EX CP CT H p q cs/\Below cs q.n/\1<=q.n/\
 ∀(m:Int) H',1<=m->m<=(cs.length:Int)+1->Below cs m->(∀e∈cs,e.z≠m)->H' p=some (.ins CP q.dp (Hz q.bo q.dt q.dz q.dd m))->(∀b,b≠p->H' b=H b)->Q (.int m) H'
theorem Below.le {cs:List Cl}{m:Int}(h:Below cs m)(h1:1<=m):m<=(cs.length:Int)+1:=by
 have:=WA (n:=(m-1).toNat) (l:=cs.map (·.z)) λi i1 i2=>by
  obtain⟨e,he,rfl⟩:=h i i1 (by omega);exact aT.mpr ⟨e,he,rfl⟩
 rw[aS] at this;omega
theorem Hu (T:Txt K mg Ab Ad Aa Af XC)(F:Fun K "free_number" "Pool.free_number" CW f fd):FnOk P w K mg base BO 1 f fd ["self"] (DR K Af Aa):=by
 exists Ht
 ·obtain⟨p,q,cs,rfl,_⟩:=h;rfl
 obtain⟨p,q,cs,rfl,⟨h1,h2,h4,nd⟩,bl,n1,hq⟩:=h;have hu:=BF hr;refine⟨_,(!Ah (!ME b5 (!EW (!QC hu (!AN (pv 0)) (!AN (pv 0))) (by first|exact Cn _ (by decide) (by decide)|rfl)) (!Ak (!D3 (pv 0) (!Aj) K8))) (!Ak (!Ao (!AN (pv 0))))),?_⟩
 try dsimp only[BB,Cx.nox,Cx.wish]
 have nt:q.dt≠p:=AL h2 h1 (by intro z;cases z);refine⟨λm σ H2=>∃j:Int,m=((cs.length:Int)+1-j).toNat/\1<=j/\Below cs j/\σ=[some (.ref p)]/\H2 p=some (.ins Af q.dp (Hz q.bo q.dt q.dz q.dd j))/\∀b,b≠p->H2 b=H b,⟨_,q.n,rfl,n1,bl,rfl,h1,λ_ _=>rfl⟩,?_⟩
 rintro m σ H2 ⟨j,rfl,j1,bj,rfl,hp,ho⟩
 have hdt:H2 q.dt=some (.dK (JP cs)):=by rw[ho _ nt];exact h2
 refine⟨_,rfl,p,Af,q.dp,_,_,rfl,hp,T.cl_Pool,T.n_Pool_first_maybe_free,rfl,_,rfl,p,Af,q.dp,_,_,rfl,hp,T.cl_Pool,T.n_Pool_taken,rfl,q.dt,_,rfl,BG.k (k:=Sum.inl j) hdt,_,rfl,Co (λc=>?_) (λc=>?_)⟩
 ·have ex:∃e∈cs,e.z=j:=Classical.byContradiction λz=>by
   have:A4 (JP cs) (Sum.inl j)=none:=by
    unfold A4;rw[cW,dg];intro x hx;obtain⟨e,he,rfl⟩:=aT.mp hx;intro y;exact z ⟨e,he,cI (bP y)⟩
   rw[this] at c;cases c
  have bj1:Below cs (j+1):=λi i1 i2=>by
   by_cases hi:i=j
   ·rw[hi];exact ex
   ·exact bj i i1 (by omega)
  have:=bj1.le (by omega);refine⟨λσ H'=>σ=[some (.ref p)]/\H' p=some (.ins Af q.dp (Hz q.bo q.dt q.dz q.dd (j+1)))/\∀b,b≠p->H' b=H b,?_,?_⟩
  ·rintro σ' H' ⟨rfl,a1,a2⟩
   exact⟨((cs.length:Int)+1-(j+1)).toNat,by omega,j+1,rfl,by omega,bj1,rfl,a1,a2⟩
  ·refine⟨_,rfl,p,Af,q.dp,_,_,rfl,hp,T.cl_Pool,T.n_Pool_first_maybe_free,rfl,_,_,rfl,rfl,q.dp,_,hp,(by show 5<1000;decide),rfl,Ae,λb hb=>?_⟩;rw[Ag hb];exact ho b hb
 ·refine⟨_,rfl,p,Af,q.dp,_,_,rfl,hp,T.cl_Pool,T.n_Pool_first_maybe_free,rfl,hq j H2 j1 (bj.le j1) bj (λe he z=>c ?_) hp ho⟩;subst z;rw[FM nd he];rfl
theorem Mp {J:It} {xs:List V} {te:TE} {Q:VK} {s0:Option V} {σ:St} {H:Hp} (f:V->V) (hJ:J2 J H xs) (hn:xs.length<=1000000) (htg:∀x∈xs,∃a x1 x2 x3,x=.ref a/\H a=some (.tup [x1,x2,x3]))
  (helt:∀a x1 x2 x3 (H':Hp) (R:VK),V.ref a∈xs->H a=some (.tup [x1,x2,x3])->Ap H H'->(∀H'',Ap H' H''->R (f (.ref a)) H'')->te [some x1,some x2,some x3,s0] H' R)
  (hQ:∀l H',H l=none->Ap H H'->H' l=some (.lst (xs.map f))->Q (.ref l) H') :
  Da [none,none,none,some 0] (Re K 3 (Fo (Bt 0) (Fo (Bt 1) (Fo (Bt 2) Tx)))) PD te (s0::σ) Q J H:=by
 intro l hl;refine⟨λi m σ' H'=>m=xs.length-i/\i<=xs.length/\(∃y0 y1 y2,σ'=[y0,y1,y2,s0])/\Ap H H'/\H' l=some (.lst ((xs.take i).map f)),⟨xs.length,by simp,bU _,⟨_,_,_,rfl⟩,Al hl _,by rw[Ae,eY,eE]⟩,?_⟩
 rintro i m σ' H' ⟨rfl,hi,⟨y0,y1,y2,rfl⟩,hs,hl'⟩
 obtain⟨h1,h2,h3⟩:=hJ H' hs i
 by_cases hlt:i<xs.length
 ·refine .inr ⟨h1 hlt,λx H'' y=>?_⟩;obtain⟨rfl,hx⟩:=h2 x H'' y;have hx:=hx hlt;obtain⟨a,x1,x2,x3,rfl,ha⟩:=htg x (a8 hx);refine⟨a,_,rfl,AV.of (hs.get ha),rfl,_,_,rfl,_,_,rfl,_,_,rfl,rfl,?_⟩;refine helt a x1 x2 x3 H'' _ (a8 hx) ha hs λH4 s4=>?_
  refine⟨_,s4.get hl',Bd (by rw[aS,b6];omega),xs.length-(i+1),by omega,rfl,hlt,⟨_,_,_,rfl⟩,AW (hs.trans s4) hl _,?_⟩;rw[Ae,bN,hx];simp
 ·have e:i=xs.length:=by omega
  subst e;exact .inl ⟨h3 (aZ _),hQ l H' hl hs (by rw[hl',bJ (aZ _)])⟩
theorem Im.tup {C:Addr}{H H':Hp}{e:Cl}(hc:H' e.c=H e.c)(ht:∀c ys,H c=some (.tup ys)->H' c=some (.tup ys))(h:Im C H e):Im C H' e:=⟨by rw[hc];exact h.1,ht _ _ h.2.1,Cd ht _ _ h.2.2.1,h.2.2.2⟩
theorem EX.same {CP CT:Addr}{H H':Hp}{p:Addr}{q:Pl}{cs:List Cl}(s:Ap H H')(h:EX CP CT H p q cs):EX CP CT H' p q cs:=
 ⟨s.get h.1,s.get h.2.1,λe he=>(h.2.2.1 e he).tup ((s.get (h.2.2.1 e he).1).trans (h.2.2.1 e he).1.symm) (λc ys h=>s.get h),h.2.2.2⟩
def W5 (cs:List Cl)(z:Int):Int:=match cs.find? (λe=>decide (e.z=z)) with
 |some e=>e.en
 |none=>0
def Xo (cs:List Cl)(z:Int):Int:=match cs.find? (λe=>decide (e.z=z)) with
 |some e=>e.st
 |none=>0
def Z4 (cs:List Cl)(x:En):Int:=1+if x.kd=2 then W5 cs x.tg.1 else 0
def ai (cs:List Cl)(x:En):Int:=1+if x.kd=2 then Xo cs x.tg.1 else 0
theorem Va {cs:List Cl}(nd:(cs.map (·.z)).Nodup){e:Cl}(h:e∈cs):cs.find? (λx=>decide (x.z=e.z))=some e:=by
 induction cs with
 |nil=>nomatch h
 |cons x cs ih=>
  rw[bg,bZ] at nd;rcases bE.mp h with rfl|h
  ·exact List.find?_cons_of_pos (by simp)
  ·have n:x.z≠e.z:=λz=>nd.1 (by rw[z];exact aT.mpr ⟨_,h,rfl⟩)
   rw[List.find?_cons_of_neg (by simpa using n)];exact ih nd.2 h
theorem V5 {cs:List Cl}(nd:(cs.map (·.z)).Nodup){e:Cl}(h:e∈cs):W5 cs e.z=e.en:=by unfold W5;rw[Va nd h]
theorem VW {cs:List Cl}(nd:(cs.map (·.z)).Nodup){e:Cl}(h:e∈cs):Xo cs e.z=e.st:=by unfold Xo;rw[Va nd h]
def Vm (H:Hp)(g:Int->Int->Int):V->V
 | .ref a=>match H a with
  |some (.tup [_,.int k,.ref b])=>(match H b with
   |some (.tup (.int z::_))=>.int (g k z)
   |_=>.non)
  |_=>.non
 |_=>.non
theorem Q8 {H:Hp}{g:Int->Int->Int}{a b:Addr}{x:V}{k z:Int}{xs:List V}(h:H a=some (.tup [x,.int k,.ref b]))(h2:H b=some (.tup (.int z::xs))):Vm H g (.ref a)=.int (g k z):=by
 unfold Vm;simp only[h,h2]
theorem LI {H:Hp}{g:Int->Int->Int}:∀{es:List En} {us:List V},AA NL H (es.map K0) us->us.map (Vm H g)=(es.map λx=>g x.kd x.tg.1).map V.int
 |[],us,h=>by cases h;exact rfl
 |e::es,us,h=>by
  obtain⟨v,vs,rfl,h1,h2⟩:=h;obtain⟨a,b,rfl,e1,e2⟩:=DM h1;rw[bg,Q8 e1 e2,LI h2];rfl
def ED (K:W.Frag)(CP CT:Addr):Sp:=λvs H Q _=>∃p q cs v es,vs=[.ref p,v]/\EX CP CT H p q cs/\Rep NL H (BW (.folder es)) v/\es.length<=16/\(∀x∈es,x.kd=2->∃e∈cs,e.z=x.tg.1)/\∀H',Ap H H'->Q (.int (es.map (Z4 cs)).sum) H'
theorem Ii (T:Txt K mg Ab Ad Aa Af XC)(F:Fun K "entries_of" "Pool.entries_of" C8 f fd)(Ey:BH P w K mg base 1 Af "entries" ["self","number"] (Gf K Af Aa)):FnOk P w K mg base BO 2 f fd ["self","folder"] (ED K Af Aa):=by
 exists HN
 ·obtain⟨p,q,cs,v,es,rfl,_⟩:=h;rfl
 obtain⟨p,q,cs,v,es,rfl,pa,hv,l16,kn,hq⟩:=h;have hu:=BF hr;refine⟨_,(!Ak (!Ao (!Aq (Po rfl) (by rfl) T.b_sum VB (!Ac (@CM _ ["name","kind","tag","self"] [none,none,none,some 0] _ _ _ _ _ _ _ _ _ _ _ rfl (!Ds (!Aw AF (pv 1) (!Aj) (λ_ _=>rfl))) (by rfl) rfl (by repeat (first|exact trivial|refine⟨rfl,?_⟩)) (by repeat (first|exact trivial|refine⟨λh=>(by first|exact⟨_,rfl⟩|cases h),?_⟩)) (λC s H fp=>⟨(@B3 _ (K) _ _ _ _ (3) (by rfl) rfl (!Ax (@An _ _ (0) _ (show(["name","kind","tag","self"]:List Str).Nodup by decide +kernel) rfl (by trivial) (by trivial)) (!Ax (@An _ _ (1) _ (show(["name","kind","tag","self"]:List Str).Nodup by decide +kernel) rfl (by trivial) (by trivial)) (!Ax (@An _ _ (2) _ (show(["name","kind","tag","self"]:List Str).Nodup by decide +kernel) rfl (by trivial) (by trivial)) (!Bv)))) (by rfl) (by rfl)),(!AU),(!As Bi (!Aj) (!PN (!Au Bg (pv 1) (!AH rfl T.c_FOLDER_ENTRY) (Ay _)) (!A2 (pv 3) T.cl_Pool Ey (by trivial) (!Ac (!Aw (DT (K:=K) (by rfl)) (pv 2) (!Aj) (λ_ _=>rfl)) (!Ai))) (!Aj)))⟩) (by intro _;rfl)) (!Ai))))),?_⟩
 try dsimp only[BB,Cx.nox,Cx.wish]
 obtain⟨a,b,us,rfl,e1,e2,r⟩:=Ck hv;have lu:us.length=es.length:=by rw[AA.len _ _ r,aS]
 have nd:=pa.2.2.2;refine⟨_,rfl,a,_,_,_,rfl,rfl,AV.of e1,rfl,b,rfl,⟨_,AV.of e2⟩,?_⟩;refine Mp (xs:=us) (Vm H λk z=>1+if k=2 then W5 cs z else 0) (CF e2) (by omega) (λx hx=>?_) (λc x1 x2 x3 H' R hx hb s' hR=>?_) λl H' nl s' hl=>⟨l,es.map (Z4 cs),rfl,AI.of (by rw[hl,LI r];rfl),hq H' s'⟩
 ·obtain⟨en,_,hr⟩:=C5 r hx;obtain⟨c,d,rfl,e3,_⟩:=DM hr;exact⟨c,_,_,_,rfl,e3⟩
 ·obtain⟨en,hen,hr⟩:=C5 r hx;obtain⟨c',d,z,e3,e4⟩:=DM hr;cases z;rw[hb] at e3;cases e3;have hR:=hR H' (Ap.refl _);rw[Q8 hb e4] at hR;refine⟨_,rfl,rfl,_,rfl,Co (λhk=>?_) (λhk=>?_)⟩
  ·have hk:=bP hk;have hk:en.kd=2:=V.int.inj hk;obtain⟨e,he,hz⟩:=kn en hen hk;rw[bF hk,<-hz,V5 nd he] at hR;rw[<-hz] at e4;exact⟨_,rfl,p,q.dp,_,rfl,(pa.same s').1,rfl,_,rfl,d,_,_,_,rfl,rfl,AV.of (s'.get e4),rfl,p,q,cs,e,rfl,pa.same s',he,_,_,rfl,rfl,hR⟩
  ·have hk:¬en.kd=2:=λz=>hk (bh (congrArg V.int z))
   rw[bH hk] at hR;exact⟨_,_,rfl,rfl,hR⟩
def Fk (K:W.Frag)(CP CT:Addr):Sp:=λvs H Q _=>∃p q cs v es,vs=[.ref p,v]/\EX CP CT H p q cs/\Rep NL H (BW (.folder es)) v/\es.length<=16/\(∀x∈es,x.kd=2->∃e∈cs,e.z=x.tg.1)/\∀H',Ap H H'->Q (.int (OC (es.map (ai cs)))) H'
theorem Ka (T:Txt K mg Ab Ad Aa Af XC)(F:Fun K "steps_of" "Pool.steps_of" DN f fd)(Gx:BH P w K mg base 1 Af "deep" ["self","number"] (IX K Af Aa)):FnOk P w K mg base BO 2 f fd ["self","folder"] (Fk K Af Aa):=by
 exists Fx
 ·obtain⟨p,q,cs,v,es,rfl,_⟩:=h;rfl
 obtain⟨p,q,cs,v,es,rfl,pa,hv,l16,kn,hq⟩:=h;have hu:=BF hr;refine⟨_,(!Ah (@FE _ ["name","kind","tag","self"] [none,none,none,some 0] (2) _ _ _ _ _ _ _ _ _ _ _ _ _ _ Fx.nd rfl (by trivial) rfl (!Ds (!Aw AF (pv 1) (!Aj) (λ_ _=>rfl))) (by rfl) rfl (by repeat (first|exact trivial|refine⟨rfl,?_⟩)) (by repeat (first|exact trivial|refine⟨λh=>(by first|exact⟨_,rfl⟩|cases h),?_⟩)) (λC s H fp=>⟨(@B3 _ (K) _ _ _ _ (3) (by rfl) rfl (!Ax (@An _ _ (0) _ (show(["name","kind","tag","self"]:List Str).Nodup by decide +kernel) rfl (by trivial) (by trivial)) (!Ax (@An _ _ (1) _ (show(["name","kind","tag","self"]:List Str).Nodup by decide +kernel) rfl (by trivial) (by trivial)) (!Ax (@An _ _ (2) _ (show(["name","kind","tag","self"]:List Str).Nodup by decide +kernel) rfl (by trivial) (by trivial)) (!Bv)))) (by rfl) (by rfl)),(!AU),(!As Bi (!Aj) (!PN (!Au Bg (pv 1) (!AH rfl T.c_FOLDER_ENTRY) (Ay _)) (!A2 (pv 3) T.cl_Pool Gx (by trivial) (!Ac (!Aw (DT (K:=K) (by rfl)) (pv 2) (!Aj) (λ_ _=>rfl)) (!Ai))) (!Aj)))⟩) (by intro _;rfl) (by rfl) (by trivial)) (!Ak (!Ao (!WY rfl (by rfl) T.b_max (!Ac (pv 2) (!Ai)))))),?_⟩
 try dsimp only[BB,Cx.nox,Cx.wish]
 obtain⟨a,b,us,rfl,e1,e2,r⟩:=Ck hv;have lu:us.length=es.length:=by rw[AA.len _ _ r,aS]
 have nd:=pa.2.2.2;refine⟨_,rfl,a,_,_,_,rfl,rfl,AV.of e1,rfl,b,rfl,⟨_,AV.of e2⟩,?_⟩;refine Mp (xs:=us) (Vm H λk z=>1+if k=2 then Xo cs z else 0) (CF e2) (by omega) (λx hx=>?_) (λc x1 x2 x3 H' R hx hb s' hR=>?_) λl H' nl s' hl=>⟨_,rfl,l,es.map (ai cs),rfl,AI.of (by rw[hl,LI r];rfl),hq H' s'⟩
 ·obtain⟨en,_,hr⟩:=C5 r hx;obtain⟨c,d,rfl,e3,_⟩:=DM hr;exact⟨c,_,_,_,rfl,e3⟩
 ·obtain⟨en,hen,hr⟩:=C5 r hx;obtain⟨c',d,z,e3,e4⟩:=DM hr;cases z;rw[hb] at e3;cases e3;have hR:=hR H' (Ap.refl _);rw[Q8 hb e4] at hR;refine⟨_,rfl,rfl,_,rfl,Co (λhk=>?_) (λhk=>?_)⟩
  ·have hk:=bP hk;have hk:en.kd=2:=V.int.inj hk;obtain⟨e,he,hz⟩:=kn en hen hk;rw[bF hk,<-hz,VW nd he] at hR;rw[<-hz] at e4;exact⟨_,rfl,p,q.dp,_,rfl,(pa.same s').1,rfl,_,rfl,d,_,_,_,rfl,rfl,AV.of (s'.get e4),rfl,p,q,cs,e,rfl,pa.same s',he,_,_,rfl,rfl,hR⟩
  ·have hk:¬en.kd=2:=λz=>hk (bh (congrArg V.int z))
   rw[bH hk] at hR;exact⟨_,_,rfl,rfl,hR⟩
theorem map_one {α β:Type}{g:α->β}(hg:∀a b,g a=g b->a=b):∀{l l':List α},l.map g=l'.map g->l=l'
 |[],[],_=>rfl
 |[],_::_,h=>nomatch h
 |_::_,[],h=>nomatch h
 |x::l,y::l',h=>by
  rw[bg,bg] at h;injection h with h1 h2
  rw[hg x y h1,map_one hg h2]
theorem Rp (a b:Tg)(h:CC a=CC b):a=b:=by
 obtain⟨a1,a2,a3⟩:=a;obtain⟨b1,b2,b3⟩:=b;injection h with h
 injection h with h1 h
 injection h with h2 h
 injection h with h3 _
 injection h1 with h1
 injection h2 with h2
 injection h3 with h3
 dsimp only at h1 h2 h3;rw[h1,h2,h3]
theorem WR (a b:En)(h:K0 a=K0 b):a=b:=by
 obtain⟨a1,a2,a3⟩:=a;obtain⟨b1,b2,b3⟩:=b;injection h with h
 injection h with h1 h
 injection h with h2 h
 injection h with h3 _
 injection h1 with h1
 injection h2 with h2
 have h3:=Rp _ _ h3;dsimp only at h1 h2 h3;rw[h1,h2,h3]
theorem OH {a b:Bk}(h:BW a=BW b):a=b:=by
 cases a with
 |piece z=>
  cases b with
  |piece z'=>injection h with h;injection h with _ h;injection h with h _;injection h with h;rw[h]
  |row lv ts=>injection h with h;injection h with h _;injection h with h;cases h
  |folder es=>injection h with h;injection h with h _;injection h with h;cases h
 |row lv ts=>
  cases b with
  |piece z'=>injection h with h;injection h with h _;injection h with h;cases h
  |row lv' ts'=>
   injection h with h;injection h with _ h;injection h with h1 h;injection h with h2 _
   injection h1 with h1
   injection h2 with h2
   rw[h1,map_one Rp h2]
  |folder es=>injection h with h;injection h with h _;injection h with h;cases h
 |folder es=>
  cases b with
  |piece z'=>injection h with h;injection h with h _;injection h with h;cases h
  |row lv ts=>injection h with h;injection h with h _;injection h with h;cases h
  |folder es'=>injection h with h;injection h with _ h;injection h with h _;injection h with h;rw[map_one WR h]
theorem AE {α β:Type}{g:α->β}:∀{l:List α},(l.map g).Nodup->∀{x y:α},x∈l->y∈l->g x=g y->x=y
 |[],_,_,_,h,_,_=>nomatch h
 |a::l,nd,x,y,hx,hy,e=>by
  rw[bg,bZ] at nd;rcases bE.mp hx with hx|hx
  ·rcases bE.mp hy with hy|hy
   ·rw[hx,hy]
   ·exact(nd.1 (by rw[<-hx,e];exact aT.mpr ⟨_,hy,rfl⟩)).elim
  ·rcases bE.mp hy with hy|hy
   ·exact(nd.1 (by rw[<-hy,<-e];exact aT.mpr ⟨_,hx,rfl⟩)).elim
   ·exact AE nd.2 hx hy e
def bump (zs:List Int)(e:Cl):Cl:={ e with k:=e.k+(zs.count e.z:Int) }
theorem Sy (zs ys:List Int)(e:Cl):bump ys (bump zs e)=bump (zs++ys) e:=by
 unfold bump;rw[fK];simp only[Int.natCast_add,Int.add_assoc]
theorem UM (e:Cl):bump [] e=e:=by
 unfold bump;simp
theorem TC (cs:List Cl):cs.map (bump [])=cs:=by
 rw[show(bump []:Cl->Cl)=id from funext UM];simp
theorem Q5 (zs ys:List Int)(cs:List Cl):(cs.map (bump zs)).map (bump ys)=cs.map (bump (zs++ys)):=by
 rw[bw];exact cD λe _=>Sy zs ys e
theorem Vz (zs:List Int)(cs:List Cl):JP (cs.map (bump zs))=JP cs:=by unfold JP;rw[bw];rfl
theorem Ur (D zs:List Int)(cs:List Cl):Ik D (cs.map (bump zs))=Ik D cs:=by unfold Ik;rw[dq,bw];rfl
theorem V0 (D:List Int)(cs:List Cl):(Ik D cs).length<=cs.length:=by unfold Ik;rw[aS];exact bW _ _
theorem Wi (zs:List Int)(cs:List Cl):(cs.map (bump zs)).map (·.z)=cs.map (·.z):=by rw[bw];rfl
theorem R8 (zs:List Int)(cs:List Cl):(cs.map (bump zs)).map (·.c)=cs.map (·.c):=by rw[bw];rfl
def Cj (cs:List Cl)(s:Int):List Int:=(cs.filter (λe=>decide (A8 e.bk=s))).map (·.z)
theorem Nu (zs:List Int)(s:Int):∀cs:List Cl,Cj (cs.map (bump zs)) s=Cj cs s
 |[]=>rfl
 |e::cs=>by
  have ih:=Nu zs s cs;unfold Cj at ih ⊢;rw[bg,eG,eG];have:decide (A8 (bump zs e).bk=s)=decide (A8 e.bk=s):=rfl;rw[this];cases decide (A8 e.bk=s)
  ·exact ih
  ·show(bump zs e).z::_=e.z::_;rw[ih];rfl
theorem NC (cs:List Cl)(e:Cl)(s:Int):Cj (cs++[e]) s=Cj cs s++if A8 e.bk=s then[e.z] else[]:=by
 unfold Cj;rw[dh,bA]
 by_cases h:A8 e.bk=s
 ·rw[bF h,bR (by simpa using h)];rfl
 ·rw[bH h,bS (by simpa using h)];rfl
theorem Fw {cs:List Cl}{s z:Int}:z∈Cj cs s↔∃e∈cs,A8 e.bk=s/\e.z=z:=by
 unfold Cj;rw[aT];constructor
 ·rintro⟨e,he,rfl⟩
  rw[bM,bq] at he;exact⟨e,he.1,he.2,rfl⟩
 ·rintro⟨e,he,hs,rfl⟩
  exact⟨e,bM.mpr ⟨he,by simpa using hs⟩,rfl⟩
theorem OX (cs:List Cl)(s:Int):(Cj cs s).length<=cs.length:=by
 unfold Cj;rw[aS];exact bW _ _
def KZ (ns:List Int):List (Key×V):=ns.map λz=>(Sum.inl z,V.bl true)
def UO (bs:List (Int×Addr)):List (Key×V):=bs.map λx=>(Sum.inl x.1,V.ref x.2)
theorem Ft {κ:Type}[DecidableEq κ]{kvs:List (κ×V)}{k:κ}(h:∀x∈kvs,x.1≠k):A4 kvs k=none:=by
 unfold A4;rw[cW,dg];intro x hx z;exact h x hx (bP z)
theorem V2 {κ:Type}[DecidableEq κ]{kvs:List (κ×V)}{k:κ}{v:V}(h:A4 kvs k=some v):(k,v)∈kvs:=by
 unfold A4 at h;rw[cy] at h;obtain⟨x,hx,rfl⟩:=h;have:=List.mem_of_find?_eq_some hx;have e:x.1=k:=by simpa using List.find?_some hx
 rw[<-e];exact this
theorem WM (b:Bk):0<=A8 b/\A8 b<997:=by
 have key:∀(l:List Int) (t:Int),0<=t/\t<997->0<=l.foldl (λt n=>(31*t+n+1)%997) t/\l.foldl (λt n=>(31*t+n+1)%997) t<997:=by
  intro l
  induction l with
  |nil=>intro t h;exact h
  |cons n l ih=>intro t _;exact ih _ ⟨cM _ (by decide),dw _ (by decide)⟩
 unfold A8;refine key _ _ ?_;cases b with
 |piece _=>exact⟨by show(0:Int)<=1+0;decide,by show(1:Int)+0<997;decide⟩
 |row _ _=>exact⟨by show(0:Int)<=1+1;decide,by show(1:Int)+1<997;decide⟩
 |folder _=>exact⟨by show(0:Int)<=1+2;decide,by show(1:Int)+2<997;decide⟩
theorem Yc {bs:List (Int×Addr)}(nd:(bs.map (·.1)).Nodup)(h:∀x∈bs,0<=x.1/\x.1<997):bs.length<=997:=by
 have:=Fp (m:=(List.range 997).map λi:Nat=>(i:Int)) nd λx hx=>by
  obtain⟨y,hy,rfl⟩:=aT.mp hx;have:=h y hy;exact aT.mpr ⟨y.1.toNat,cX.mpr (by omega),by omega⟩
 rw[aS,aS,bY] at this;exact this
structure BsAt (H:Hp) (q:Pl) (cs:List Cl) (bs:List (Int×Addr)):Prop where
 h:H q.dz=some (.dK (UO bs))
 k:(bs.map (·.1)).Nodup
 a:(bs.map (·.2)).Nodup
 d:∀x∈bs,H x.2=some (.dK (KZ (Cj cs x.1)))/\x.2≠q.dt/\x.2≠q.dz/\x.2≠q.dd
 all:∀e∈cs,∃x∈bs,x.1=A8 e.bk
theorem Qw {bs:List (Int×Addr)}(nd:(bs.map (·.1)).Nodup){x:Int×Addr}(h:x∈bs):A4 (UO bs) (Sum.inl x.1)=some (.ref x.2):=by
 refine FU ?_ (aT.mpr ⟨x,h,rfl⟩);unfold UO;rw[bw,show((λy:Key×V=>y.1)∘λx:Int×Addr=>((Sum.inl x.1:Key),V.ref x.2))=(λz:Int=>(Sum.inl z:Key))∘(λx:Int×Addr=>x.1) from rfl,<-bw];exact fc _ (λa b n e=>n (cI e)) nd
theorem Vw {bs:List (Int×Addr)}{s:Int}{v:V}(h:A4 (UO bs) (Sum.inl s)=some v):∃x∈bs,x.1=s/\v=.ref x.2:=by
 obtain⟨x,hx,e⟩:=aT.mp (V2 h);exact⟨x,hx,cI (congrArg Prod.fst e),(congrArg Prod.snd e).symm⟩
theorem BsAt.no {H:Hp}{q:Pl}{cs:List Cl}{bs:List (Int×Addr)}(B:BsAt H q cs bs){s:Int}(h:A4 (UO bs) (Sum.inl s)=none):Cj cs s=[]:=by
 rw[List.eq_nil_iff_forall_not_mem];intro z hz;obtain⟨e,he,rfl,rfl⟩:=Fw.mp hz;obtain⟨x,hx,hs⟩:=B.all e he;rw[<-hs,Qw B.k hx] at h;cases h
structure PAt (CP CT:Addr) (H:Hp) (p:Addr) (q:Pl) (cs:List Cl) (bs:List (Int×Addr)):Prop where
 t:EX CP CT H p q cs
 d:H q.dd=some (.dK (Ik q.D cs))
 b:BsAt H q cs bs
 n1:q.dt≠q.dz
 n2:q.dt≠q.dd
 n3:q.dz≠q.dd
 c:(cs.map (·.c)).Nodup
 z:∀e∈cs,1<=e.z
 w:∀x∈bs,0<=x.1/\x.1<997
 f1:1<=q.n
 f2:Below cs q.n
def A5 (p:Addr)(q:Pl)(cs:List Cl)(bs:List (Int×Addr)):List Addr:=p::q.dt::q.dz::q.dd::(bs.map (·.2)++cs.map (·.c))
def Nc (L:List Addr)(H H':Hp):Prop:=∀a o,H a=some o->a∉L->H' a=some o
theorem Ap.frm {L:List Addr}{H H':Hp}(s:Ap H H'):Nc L H H':=λ_ _ h _=>s.get h
theorem PAt.same {CP CT:Addr}{H H':Hp}{p:Addr}{q:Pl}{cs:List Cl}{bs:List (Int×Addr)}(s:Ap H H')(h:PAt CP CT H p q cs bs):PAt CP CT H' p q cs bs:=
 { h with t:=h.t.same s,d:=s.get h.d,b:={ h.b with h:=s.get h.b.h,d:=λx hx=>⟨s.get (h.b.d x hx).1,(h.b.d x hx).2⟩ } }
theorem PAt.apart {CP CT:Addr}{H:Hp}{p:Addr}{q:Pl}{cs:List Cl}{bs:List (Int×Addr)}(h:PAt CP CT H p q cs bs){a:Addr}{o:HO}(e:H a=some o)(n1:∀C d fs,o≠.ins C d fs)(n2:∀kvs,o≠.dK kvs):a∉A5 p q cs bs:=by
 have no:∀{b u},H b=some u->u≠o->a≠b:=λ{b u} hb hn z=>hn (by rw[z,hb] at e;exact bf e)
 unfold A5;simp only[List.mem_cons,List.mem_append,List.mem_map,not_or];refine⟨no h.t.1 (Ne.symm (n1 _ _ _)),no h.t.2.1 (Ne.symm (n2 _)),no h.b.h (Ne.symm (n2 _)),no h.d (Ne.symm (n2 _)),?_,?_⟩
 ·rintro⟨x,hx,z⟩
  exact no (h.b.d x hx).1 (Ne.symm (n2 _)) z.symm
 ·rintro⟨x,hx,z⟩
  exact no (h.t.2.2.1 x hx).1 (Ne.symm (n1 _ _ _)) z.symm
theorem EX.hold {CP CT:Addr}{H:Hp}{p:Addr}{q:Pl}{cs:List Cl}(h:EX CP CT H p q cs)(nc:(cs.map (·.c)).Nodup){e:Cl}(he:e∈cs):EX CP CT (upd H e.c (.ins CT e.dx (CJ e.ta ((wT (BW e.bk)).length:Int) e.l (e.k+1) e.en e.st))) p q (cs.map (bump [e.z])):=by
 obtain⟨h1,h2,h4,nd⟩:=h;have hc:=(h4 e he).1;have n1:p≠e.c:=λz=>by
  rw[z,hc] at h1;have:=bf h1;injection this with _ _ this
  injection this with this _
  injection this with this _
  revert this
  decide
 refine⟨by rw[Ag n1];exact h1,by rw[Ag (AL h2 hc (by intro z;cases z)),Vz];exact h2,λx hx=>?_,by rw[Wi];exact nd⟩;obtain⟨y,hy,rfl⟩:=aT.mp hx;have ht:∀c ys,H c=some (.tup ys)->(upd H e.c (.ins CT e.dx (CJ e.ta ((wT (BW e.bk)).length:Int) e.l (e.k+1) e.en e.st))) c=some (.tup ys):=λc ys h=>by rw[Ag (AL h hc (by intro z;cases z))];exact h
 obtain⟨a1,a2,a3,a4⟩:=h4 y hy
 by_cases hz:y.z=e.z
 ·obtain rfl:=AE nd hy he hz;refine⟨?_,ht _ _ a2,Cd ht _ _ a3,a4⟩;show upd H y.c _ y.c=some (.ins CT y.dx (CJ y.ta ((wT (BW y.bk)).length:Int) y.l (y.k+(([y.z].count y.z:Nat):Int)) y.en y.st));rw[Ae,ie];rfl
 ·have nn:y.c≠e.c:=λz=>hz (by rw[AE nc hy he z])
  refine⟨?_,ht _ _ a2,Cd ht _ _ a3,a4⟩;show upd H e.c _ y.c=some (.ins CT y.dx (CJ y.ta ((wT (BW y.bk)).length:Int) y.l (y.k+(([e.z].count y.z:Nat):Int)) y.en y.st));rw[Ag nn,a1,cg.mpr (by simpa using hz)];simp
def YQ (cs:List Cl):Bk->Int×Int
 | .folder es=>((es.map (Z4 cs)).sum,OC (es.map (ai cs)))
 |_=>(0,0)
def HH (K:W.Frag)(CP CT CB:Addr):Sp:=λvs H Q _=>∃p q cs bs v b,vs=[.ref p,v]/\PAt CP CT H p q cs bs/\YV CB H q cs/\cs.length<=60/\Rep NL H (BW b) v/\Cu b/\(∀e∈cs,e.bk=b->∀H',Ap H H'->Q (.ref e.ta) H')/\((∀e∈cs,e.bk≠b)->∀H',Ap H H'->Q .non H')
theorem MY (T:Txt K mg Ab Ad Aa Af XC)(F:Fun K "alike" "Pool.alike" FL f fd)(C9:Def P w K mg base 3 "sum_of" ["block"] (Hi K))(Cw:BH P w K mg base 17 Af "block" ["self","tag"] (E7 K Af Aa Ad))(BK:BH P w K mg base 1 Af "tag" ["self","number"] (EJ K Af Aa)):FnOk P w K mg base BO 18 f fd ["self","block"] (HH K Af Aa Ad):=by
 exists DC
 ·obtain⟨p,q,cs,bs,v,b,rfl,_⟩:=h;rfl
 obtain⟨p,q,cs,bs,v,b,rfl,pa,brd,few,hv,ok,hq1,hq2⟩:=h;have hu:=BF hr;have hu9:=FZ hr;refine⟨_,(!Ah (@AD _ _ (2) _ _ _ _ DC.nd rfl (by trivial) (!BJ (!Ai)) (by rfl) (by trivial)) (!Ah (!B2 b5 rfl (!A0 (!Aq (Gs rfl) (by rfl) T.b_sorted Ct (!Ac (!Vy hu (!AN (pv 0)) (!AK C9 (by trivial) rfl (!Ac (pv 1) (!Ai))) (!Ec) ⟨rfl,rfl,rfl,rfl⟩) (!Ai)))) (@An _ _ (3) _ DC.nd rfl (by trivial) (by trivial)) (!Ak (!Qo ⟨rfl,rfl⟩ T.x_Lost rfl (!Ow (!RC (@AD _ _ (4) _ _ _ _ DC.nd rfl (by trivial) (!A2 (pv 0) T.cl_Pool Cw (by trivial) (!Ac (!A2 (pv 0) T.cl_Pool BK (by trivial) (!Ac (pv 3) (!Ai))) (!Ai))) (by rfl) (by trivial)))) (!Ak (!AM (!Au (Yi hu9) (pv 4) (pv 1) (Ay _)) (!Ak (!Ao (!A2 (pv 0) T.cl_Pool BK (by trivial) (!Ac (pv 3) (!Ai))))) (!Av))) (λe=>(!Ak (!DG))))) (by intro _;rfl)) (!Ah (!AM (!Au NY (!Aq AB (by rfl) T.b_len Bl (!Ac (pv 2) (!Ai))) (!Aj) (Ay _)) (!Ak (!DG)) (!Av)) (!Ak (!Ao (!Eb)))))),?_⟩
 try dsimp only[BB,Cx.nox,Cx.wish]
 refine⟨Jo,λun hun=>?_⟩;have s1:=Al hun (.lst []);have pa1:=pa.same s1;refine⟨_,rfl,p,Af,q.dp,_,_,rfl,pa1.t.1,T.cl_Pool,T.n_Pool_by_sums,rfl,q.dz,rfl,.inl ⟨_,.inl pa1.b.h⟩,?_⟩;refine⟨_,rfl,v,b,rfl,Rep.same s1 _ _ hv,ok,λH2 s2 dn hdn=>?_⟩;have s3:=(s1.trans s2).trans (Al hdn (.dK []));have pa3:=pa.same s3;obtain⟨d,hd,hd2⟩:∃d,(((A4 (UO bs) (Sum.inl (A8 b))).getD (.ref dn))=.ref d)/\(upd H2 dn (.dK [])) d=some (.dK (KZ (Cj cs (A8 b)))):=by
  cases hc:A4 (UO bs) (Sum.inl (A8 b)) with
  |none=>exact⟨dn,rfl,by rw[pa.b.no hc];exact Ae⟩
  |some u=>
   obtain⟨x,hx,hs,rfl⟩:=Vw hc;exact⟨x.2,rfl,by rw[(pa3.b.d x hx).1,hs]⟩
 refine⟨_,BG.k (k:=Sum.inl (A8 b)) pa3.b.h,d,_,Cj cs (A8 b),?_,hd2,?_,?_,λms pl pm so hpl=>?_⟩
 ·rw[hd]
 ·unfold KZ;rw[bw];rfl
 ·have:=OX cs (A8 b);exact .inl (by omega)
 have s4:=s3.trans (Al hpl (.lst (ms.map V.int)));have pa4:=pa.same s4;have hun4:(upd (upd H2 dn (.dK [])) pl (.lst (ms.map V.int))) un=some (.lst []):=(Al hpl _).get ((Al hdn _).get (s2.get Ae));have hpl4:(upd (upd H2 dn (.dK [])) pl (.lst (ms.map V.int))) pl=some (.lst (ms.map V.int)):=Ae;generalize (upd (upd H2 dn (.dK [])) pl (.lst (ms.map V.int)))=H4 at s4 pa4 hun4 hpl4;have brd4:=brd.same s4;refine⟨pl,rfl,⟨_,AI.of hpl4⟩,Cp (K:=K) (a:=pl) (xs:=ms.map V.int) (λi σ H'=>Ap H4 H'/\(∃v3 v4,σ=[some (.ref p),some v,some (.ref un),v3,v4])/\∀(j:Nat) n,j<i->ms[j]?=some n->∀e∈cs,e.z=n->e.bk≠b) ⟨Ap.refl _,⟨_,_,rfl⟩,λj _ h=>absurd h (g8 j)⟩ ?_ ?_ ?_⟩
 ·rintro i σ H' _ ⟨s5,_⟩
  exact AI.of (s5.get hpl4)
 ·rintro i x σ H' hx ⟨s5,⟨v3,v4,rfl⟩,hb⟩
  obtain⟨n,rfl,hn⟩:=ints_get hx;obtain⟨e,he,hs,hz⟩:=Fw.mp (pm.mem_iff.mp (a8 hn));subst hz;have pa5:=pa4.same s5;have ce:=pa5.t.2.2.1 e he;refine⟨_,rfl,p,q.dp,_,rfl,pa5.t.1,rfl,_,rfl,p,q.dp,_,rfl,pa5.t.1,rfl,_,rfl,p,q,cs,e,rfl,pa5.t,he,?_⟩;refine⟨p,q,cs,e,e.ta,rfl,pa5.t,pa5.d,brd4.same s5,he,ce.2.1,λbv H6 s6 rv=>?_⟩;have pa6:=pa5.same s6;refine⟨_,rfl,_,rfl,BW e.bk,BW b,Cq ce.2.2.2,Cq ok,rv,Rep.same ((s4.trans s5).trans s6) _ _ hv,_,rfl,Co (λhk=>?_) (λhk=>?_)⟩
  ·have hk:decide (wT (BW e.bk)=wT (BW b))=true:=hk;have eb:e.bk=b:=OH (LJ (Cq ce.2.2.2) (Cq ok) (bP hk));exact⟨_,rfl,p,q.dp,_,rfl,pa6.t.1,rfl,_,rfl,p,q,cs,e,rfl,pa6.t,he,hq1 e he eb _ ((s4.trans s5).trans s6)⟩
  ·have hk:¬decide (wT (BW e.bk)=wT (BW b))=true:=hk;refine⟨s5.trans s6,⟨_,_,rfl⟩,λj n hj hm e' he' hz=>?_⟩
   by_cases hji:j<i
   ·exact hb j n hji hm e' he' hz
   ·obtain rfl:j=i:=by omega
    rw[hn] at hm;obtain rfl:=AE pa4.t.2.2.2 he he' ((bf hm).trans hz.symm);intro z;exact hk (by rw[z];exact bh rfl)
 ·rintro σ H' ⟨s5,⟨v3,v4,rfl⟩,hb⟩
  refine⟨_,rfl,un,_,rfl,.inl (AI.of (s5.get hun4)),_,_,rfl,rfl,_,rfl,AJ rfl ?_⟩;refine hq2 (λe he z=>?_) _ (s4.trans s5);have:e.z∈ms:=pm.mem_iff.mpr (Fw.mpr ⟨e,he,by rw[z],rfl⟩);obtain⟨j,hj,hje⟩:=eM this;exact hb j e.z (by rw[aS];exact hj) (by rw[aW hj,hje]) e he rfl z
theorem BsAt.same {H H':Hp}{q:Pl}{cs:List Cl}{bs:List (Int×Addr)}(s:Ap H H')(h:BsAt H q cs bs):BsAt H' q cs bs:={ h with h:=s.get h.h,d:=λx hx=>⟨s.get (h.d x hx).1,(h.d x hx).2⟩ }
theorem BsAt.ins {H:Hp}{q:Pl}{cs:List Cl}{bs:List (Int×Addr)}{x C d:Addr}{fs:List (Str×V)}{o:HO}(hx:H x=some (.ins C d fs))(h:BsAt H q cs bs):BsAt (upd H x o) q cs bs:=
 { h with h:=by rw[Ag (AL h.h hx (by intro z;cases z))];exact h.h,d:=λy hy=>⟨by rw[Ag (AL (h.d y hy).1 hx (by intro z;cases z))];exact(h.d y hy).1,(h.d y hy).2⟩ }
theorem BsAt.bump {H:Hp}{q:Pl}{cs:List Cl}{bs:List (Int×Addr)}(zs:List Int)(h:BsAt H q cs bs):BsAt H q (cs.map (bump zs)) bs:=
 { h with d:=λx hx=>by rw[Nu];exact h.d x hx,all:=λe he=>(aT.mp he).elim λy hy=>(by rw[<-hy.2];exact h.all y hy.1) }
theorem V1 {ns:List Int}{z:Int}(h:z∉ns):putK (KZ ns) (Sum.inl z) (.bl true)=KZ (ns++[z]):=by
 rw[Fm _ (Ft λx hx=>?_)]
 ·unfold KZ;rw[bA];rfl
 ·obtain⟨y,hy,rfl⟩:=aT.mp hx;intro e;exact h (by rw[<-cI e];exact hy)
theorem BsAt.snoc {H:Hp}{q:Pl}{cs:List Cl}{bs:List (Int×Addr)}{d:Addr}{e:Cl}(h:BsAt H q cs bs)(hd:(A8 e.bk,d)∈bs)(hz:e.z∉Cj cs (A8 e.bk)):BsAt (upd H d (.dK (putK (KZ (Cj cs (A8 e.bk))) (Sum.inl e.z) (.bl true)))) q (cs++[e]) bs where
 h:=by rw[Ag (Ne.symm (h.d _ hd).2.2.1)];exact h.h
 k:=h.k
 a:=h.a
 d:=λx hx=>by
  by_cases hs:x.1=A8 e.bk
  ·obtain rfl:x=(A8 e.bk,d):=AE h.k hx hd hs;exact⟨by rw[Ae,V1 hz,NC,bF rfl],(h.d _ hx).2⟩
  ·have n:x.2≠d:=λz=>hs (congrArg Prod.fst (AE h.a hx hd z))
   rw[Ag n,NC,bH (λz=>hs z.symm),cm];exact h.d x hx
 all:=λx hx=>by
  rcases aY.mp hx with hx|hx
  ·exact h.all x hx
  ·rw[ba.mp hx];exact⟨_,hd,rfl⟩
theorem BsAt.fresh {H:Hp}{q:Pl}{cs:List Cl}{bs:List (Int×Addr)}{dn:Addr}{s:Int}(h:BsAt H q cs bs)(hv:A4 (UO bs) (Sum.inl s)=none)(hd:H dn=none)(n1:dn≠q.dt)(n2:dn≠q.dd):BsAt (upd (upd H dn (.dK [])) q.dz (.dK (putK (UO bs) (Sum.inl s) (.ref dn)))) q cs (bs++[(s,dn)]):=by
 have nz:dn≠q.dz:=λz=>by rw[z,h.h] at hd;cases hd
 have nb:∀x∈bs,x.2≠dn:=λx hx z=>by have:=(h.d x hx).1;rw[z,hd] at this;cases this
 refine⟨?_,?_,?_,λx hx=>?_,λe he=>?_⟩
 ·rw[Ae,Fm _ hv];unfold UO;rw[bA];rfl
 ·rw[bA,b9];refine⟨h.k,by simp,λa ha b hb=>?_⟩;obtain⟨x,hx,rfl⟩:=aT.mp ha;have:b=s:=by simpa using hb
  rw[this];intro z;rw[<-z,Qw h.k hx] at hv;cases hv
 ·rw[bA,b9];refine⟨h.a,by simp,λa ha b hb=>?_⟩;obtain⟨x,hx,rfl⟩:=aT.mp ha;have:b=dn:=by simpa using hb
  rw[this];exact nb x hx
 ·rcases aY.mp hx with hx|hx
  ·rw[Ag (h.d x hx).2.2.1,Ag (nb x hx)];exact h.d x hx
  ·rw[ba.mp hx];refine⟨?_,n1,nz,n2⟩;show upd _ _ _ dn=some (.dK (KZ (Cj cs s)));rw[Ag nz,Ae,h.no hv];rfl
 ·obtain⟨x,hx,e1⟩:=h.all e he;exact⟨x,aY.mpr (.inl hx),e1⟩
structure Md (CP CT:Addr) (H H':Hp) (p:Addr) (q:Pl) (cs:List Cl) (own:List Addr) (e:Cl) (us:List V) (dtk:List (Key×V)):Prop where
 f:Nc own H H'
 p:H' p=some (.ins CP q.dp (Hz q.bo q.dt q.dz q.dd q.n))
 t:H' q.dt=some (.dK dtk)
 d:H' q.dd=some (.dK (Ik q.D cs))
 c:∀x∈cs,Im CT H' x
 n:Im CT H' e
 l:H' e.l=some (.lst us)
 u:AA NL H' ((Ar e.bk).map CC) us
theorem Md.put {CP CT:Addr}{H H':Hp}{p:Addr}{q:Pl}{cs:List Cl}{own:List Addr}{e:Cl}{us:List V}{dtk:List (Key×V)}(M:Md CP CT H H' p q cs own e us dtk){x:Addr}{o:HO}(hx:x∈own\/H x=none)(nt:x≠q.dt)(nd:x≠q.dd)(k:∀u,H' x=some u->∃kvs,u=.dK kvs):Md CP CT H (upd H' x o) p q cs own e us dtk:=by
 have no:∀{a u},H' a=some u->(∀kvs,u≠.dK kvs)->a≠x:=λ{a u} h n z=>by
  rw[z] at h;obtain⟨kvs,e⟩:=k _ h;exact n kvs e
 have ht:∀c ys,H' c=some (.tup ys)->(upd H' x o) c=some (.tup ys):=λc ys h=>by rw[Ag (no h (by intro kvs z;cases z))];exact h
 refine⟨λa u h n=>?_,?_,?_,?_,λy hy=>?_,?_,?_,AX ht _ _ M.u⟩
 ·have:a≠x:=λz=>by
   rcases hx with hx|hx
   ·exact n (by rw[z];exact hx)
   ·rw[z,hx] at h;cases h
  rw[Ag this];exact M.f a u h n
 ·rw[Ag (no M.p (by intro kvs z;cases z))];exact M.p
 ·rw[Ag (Ne.symm nt)];exact M.t
 ·rw[Ag (Ne.symm nd)];exact M.d
 ·exact(M.c y hy).tup (Ag (no (M.c y hy).1 (by intro kvs z;cases z))) ht
 ·exact M.n.tup (Ag (no M.n.1 (by intro kvs z;cases z))) ht
 ·rw[Ag (no M.l (by intro kvs z;cases z))];exact M.l
theorem Md.putT {CP CT:Addr}{H H':Hp}{p:Addr}{q:Pl}{cs:List Cl}{own:List Addr}{e:Cl}{us:List V}{dtk dt2:List (Key×V)}(M:Md CP CT H H' p q cs own e us dtk)(hx:q.dt∈own)(nd:q.dt≠q.dd):Md CP CT H (upd H' q.dt (.dK dt2)) p q cs own e us dt2:=by
 have no:∀{a u},H' a=some u->(∀kvs,u≠.dK kvs)->a≠q.dt:=λ{a u} h n z=>by
  rw[z,M.t] at h;exact n _ (bf h).symm
 have ht:∀c ys,H' c=some (.tup ys)->(upd H' q.dt (.dK dt2)) c=some (.tup ys):=λc ys h=>by rw[Ag (no h (by intro kvs z;cases z))];exact h
 refine⟨λa u h n=>?_,?_,Ae,?_,λy hy=>?_,?_,?_,AX ht _ _ M.u⟩
 ·rw[Ag (λz=>n (by rw[z];exact hx))];exact M.f a u h n
 ·rw[Ag (no M.p (by intro kvs z;cases z))];exact M.p
 ·rw[Ag (Ne.symm nd)];exact M.d
 ·exact(M.c y hy).tup (Ag (no (M.c y hy).1 (by intro kvs z;cases z))) ht
 ·exact M.n.tup (Ag (no M.n.1 (by intro kvs z;cases z))) ht
 ·rw[Ag (no M.l (by intro kvs z;cases z))];exact M.l
def Dd (z y:Int)(b:Bk)(v:V)(c dx ta l:Addr)(cs:List Cl):Cl:=⟨z,y,b,v,c,dx,ta,l,0,(YQ cs b).1,(YQ cs b).2⟩
def IJ (K:W.Frag)(CP CT:Addr):Sp:=λvs H Q _=>∃p q cs bs v b,∃(ta:Addr) (z y:Int),vs=[.ref p,.ref ta,v]/\PAt CP CT H p q cs bs/\cs.length<=60/\Rep NL H (BW b) v/\Cu b/\H ta=some (.tup [.int z,.int y,.int (A8 b)])/\(∀e∈cs,e.z≠z)/\(∀t∈Ar b,∃e∈cs,e.z=t.1)/\
 ∀H' c dx l bs',H c=none->H l=none->(∃us,H' l=some (.lst us)/\AA NL H' ((Ar b).map CC) us)->EX CP CT H' p q ((cs++[Dd z y b v c dx ta l cs]).map (bump ((Ar b).map (·.1))))->BsAt H' q ((cs++[Dd z y b v c dx ta l cs]).map (bump ((Ar b).map (·.1)))) bs'->H' q.dd=some (.dK (Ik q.D cs))->Nc (A5 p q cs bs) H H'->(∀x∈bs',x∈bs\/(x.1=A8 b/\H x.2=none))->Q .non H'
theorem Oi (T:Txt K mg Ab Ad Aa Af XC)(F:Fun K "take" "Pool.take" GN f fd)(Dx:Sl P w K mg base 11 Aa "TakenCell" ["self","own_tag","block"] (EO K Aa))(Dc:BH P w K mg base 2 Af "entries_of" ["self","folder"] (ED K Af Aa))(DH:BH P w K mg base 2 Af "steps_of" ["self","folder"] (Fk K Af Aa))(CZ:BH P w K mg base 1 Af "hold" ["self","tag"] (F4 K Af Aa)):FnOk P w K mg base BO 13 f fd ["self","tag","block"] (IJ K Af Aa):=by
 exists DS
 ·obtain⟨p,q,cs,bs,v,b,ta,z,y,rfl,_⟩:=h;rfl
 obtain⟨p,q,cs,bs,v,b,ta,z,y,rfl,pa,few,hv,ok,hta,hz,hn,hq⟩:=h;have hu:=BF hr;refine⟨_,(!Ah (@AD _ _ (3) _ _ _ _ DS.nd rfl (by trivial) (!Om Dx (by trivial) rfl (!Ac (pv 1) (!Ac (pv 2) (!Ai)))) (by rfl) (by trivial)) (!Ah (!AM (!Au Bg (!Aw AF (pv 2) (!Aj) (λ_ _=>rfl)) (!AH rfl T.c_FOLDER) (Ay _)) (!Ah (!BU (pv 3) (!A2 (pv 0) T.cl_Pool Dc (by trivial) (!Ac (pv 2) (!Ai)))) (!Ak (!BU (pv 3) (!A2 (pv 0) T.cl_Pool DH (by trivial) (!Ac (pv 2) (!Ai)))))) (!Av)) (!Ah (!ET hu (!AN (pv 0)) (!Aw AF (pv 1) (!Aj) (λ_ _=>rfl)) (pv 3)) (!Ah (@AD _ _ (4) _ _ _ _ DS.nd rfl (by trivial) (!U2 (!AN (pv 0)) (!Aw AF (pv 1) (!Aj) (λ_ _=>rfl)) (!Ec) ⟨rfl,rfl,rfl,rfl⟩) (by rfl) (by trivial)) (!Ah (!ET hu (pv 4) (!Aw AF (pv 1) (!Aj) (λ_ _=>rfl)) (!DF)) (!Ak (!B2 b5 rfl (!A0 (!AN (pv 3))) (@An _ _ (5) _ DS.nd rfl (by trivial) (by trivial)) (!Ak (!A6 (!A2 (pv 0) T.cl_Pool CZ (by trivial) (!Ac (pv 5) (!Ai))))) (by intro _;rfl)))))))),?_⟩
 try dsimp only[BB,Cx.nox,Cx.wish]
 refine⟨_,rfl,_,rfl,λc dx hc hdx hcd=>?_⟩;have hH1:∀a o,H a=some o->(upd (upd H dx (.own c)) c (.ins Aa dx [])) a=some o:=λa o h=>by
  rw[Ag (λz=>by rw[z,hc] at h;cases h),Ag (λz=>by rw[z,hdx] at h;cases h)];exact h
 refine⟨c,dx,ta,v,b,rfl,Ae,Cd (λc ys h=>hH1 c _ h) _ _ hv,ok,λl us H2 f2 nl hl r hc2=>⟨rfl,?_⟩⟩;have s2:Ap H H2:=λa o h=>f2 a o (hH1 a o h) (λz=>by rw[z,hc] at h;cases h)
 have nlH:H l=none:=by
  cases h:H l with
  |none=>rfl
  |some o=>rw[hH1 l o h] at nl;cases nl
 dsimp only[Bt];refine EL (λσ' H'=>σ'=[some (.ref p),some (.ref ta),some v,some (.ref c),none,none]/\Ap H H'/\H' c=some (.ins Aa dx (CJ ta ((wT (BW b)).length:Int) l 0 (YQ cs b).1 (YQ cs b).2))/\H' l=some (.lst us)/\AA NL H' ((Ar b).map CC) us) (λN hN=>?_) ?_
 ·obtain⟨va,xs,rfl,hva⟩:=Fn hv;refine⟨_,rfl,va,_,_,_,rfl,rfl,AV.of (s2.get hva),G1,rfl,_,rfl,Co (λhk=>?_) (λhk=>?_)⟩
  ·cases b with
   |folder es=>
    have kn:∀x∈es,x.kd=2->∃e∈cs,e.z=x.tg.1:=λx hx _=>hn x.tg (aT.mpr ⟨x,hx,rfl⟩)
    refine⟨_,rfl,p,q.dp,_,rfl,(pa.same s2).t.1,rfl,_,rfl,p,q,cs,_,es,rfl,(pa.same s2).t,Rep.same s2 _ _ hv,ok.1,kn,λH4 s4=>?_⟩;refine⟨_,rfl,c,Aa,dx,_,rfl,s4.get hc2,T.cl_TakenCell,T.n_TakenCell_entries_beneath,(by show 6<1000;decide),?_⟩;have s5:Ap H (upd H4 c (.ins Aa dx (CJ ta ((wT (BW (.folder es))).length:Int) l 0 (YQ cs (.folder es)).1 0))):=AW (s2.trans s4) hc _;refine⟨_,rfl,p,q.dp,_,rfl,(pa.same s5).t.1,rfl,_,rfl,p,q,cs,_,es,rfl,(pa.same s5).t,Rep.same s5 _ _ hv,ok.1,kn,λH6 s6=>?_⟩;refine⟨_,rfl,c,Aa,dx,_,rfl,s6.get Ae,T.cl_TakenCell,T.n_TakenCell_steps_beneath,(by show 6<1000;decide),?_⟩;have nlc:l≠c:=AL hl hc2 (by intro z;cases z);have tp:∀a ys,H2 a=some (.tup ys)->(upd H6 c (.ins Aa dx (CJ ta ((wT (BW (.folder es))).length:Int) l 0 (YQ cs (.folder es)).1 (YQ cs (.folder es)).2))) a=some (.tup ys):=λa ys h=>by
     have na:a≠c:=AL h hc2 (by intro z;cases z);rw[Ag na];exact s6.get (by rw[Ag na];exact s4.get h)
    refine hN _ _ ⟨rfl,AW (s5.trans s6) hc _,Ae,?_,AX tp _ _ r⟩;rw[Ag nlc];exact s6.get (by rw[Ag nlc];exact s4.get hl)
   |piece _=>cases hk
   |row _ _=>cases hk
  ·refine hN _ _ ⟨rfl,s2,?_,hl,r⟩;cases b with
   |folder es=>exact absurd rfl hk
   |piece _=>exact hc2
   |row _ _=>exact hc2
 rintro σ' H3 ⟨rfl,s3,hc3,hl3,r3⟩
 have pa3:=pa.same s3;have M3:Md Af Aa H H3 p q cs (A5 p q cs bs) (Dd z y b v c dx ta l cs) us (JP cs):=⟨Ap.frm s3,pa3.t.1,pa3.t.2.1,pa3.d,pa3.t.2.2.1,⟨hc3,s3.get hta,Rep.same s3 _ _ hv,ok⟩,hl3,r3⟩
 have fz:∀e∈cs,e.z≠z:=hz;have tkl:(JP cs).length<100000:=by unfold JP;rw[aS];omega
 have ht3:=s3.get hta;refine⟨_,rfl,_,rfl,p,Af,q.dp,_,_,rfl,M3.p,T.cl_Pool,T.n_Pool_taken,rfl,_,rfl,ta,_,_,_,rfl,rfl,AV.of ht3,rfl,q.dt,_,rfl,IL.k (k:=Sum.inl z) M3.t (Bd (by omega)),?_⟩;have etk:putK (JP cs) (Sum.inl z) (.ref c)=JP (cs++[Dd z y b v c dx ta l cs]):=by
  rw[Fm _ (Ft λx hx=>?_)]
  ·unfold JP;rw[bA];rfl
  ·obtain⟨e,he,rfl⟩:=aT.mp hx;intro z;exact fz e he (cI z)
 rw[etk];have ot:q.dt∈A5 p q cs bs:=by unfold A5;simp
 have oz:q.dz∈A5 p q cs bs:=by unfold A5;simp
 have M4:=M3.putT (dt2:=JP (cs++[Dd z y b v c dx ta l cs])) ot pa.n2;have B4:BsAt (upd H3 q.dt (.dK (JP (cs++[Dd z y b v c dx ta l cs])))) q cs bs:={ pa3.b with h:=by rw[Ag (Ne.symm pa.n1)];exact pa3.b.h,d:=λx hx=>⟨by rw[Ag (pa3.b.d x hx).2.1];exact(pa3.b.d x hx).1,(pa3.b.d x hx).2⟩ }
 have hz4:∀a,(upd H3 q.dt (.dK (JP (cs++[Dd z y b v c dx ta l cs])))) a=none->H a=none:=λa h=>by
  cases ha:H a with
  |none=>rfl
  |some o=>
   have:=s3.get ha
   by_cases e:a=q.dt
   ·rw[e,Ae] at h;cases h
   ·rw[Ag e,this] at h;cases h
 generalize (upd H3 q.dt (.dK (JP (cs++[Dd z y b v c dx ta l cs]))))=H4 at M4 B4 hz4;have bl:bs.length<=997:=Yc pa.b.k pa.w;dsimp only;refine EL (λσ' H'=>∃d bs',σ'=[some (.ref p),some (.ref ta),some v,some (.ref c),some (.ref d),none]/\Md Af Aa H H' p q cs (A5 p q cs bs) (Dd z y b v c dx ta l cs) us (JP (cs++[Dd z y b v c dx ta l cs]))/\BsAt H' q cs bs'/\(A8 b,d)∈bs'/\(∀x∈bs',x∈bs\/(x.1=A8 b/\H x.2=none))/\(d∈A5 p q cs bs\/H d=none)) (λN hN=>?_) ?_
 ·refine⟨_,rfl,p,Af,q.dp,_,_,rfl,M4.p,T.cl_Pool,T.n_Pool_by_sums,rfl,q.dz,rfl,.inl ⟨_,.inl B4.h⟩,_,rfl,ta,_,_,_,rfl,rfl,AV.of M4.n.2.1,rfl,λdn hdn=>?_⟩;have ndn:∀{a o},H4 a=some o->dn≠a:=λ{a o} h z=>by rw[z,h] at hdn;cases hdn
  have M5:=M4.put (x:=dn) (o:=.dK []) (.inr (hz4 _ hdn)) (ndn M4.t) (ndn M4.d) (λu h=>by rw[hdn] at h;cases h);have B5:=B4.same (Al hdn (.dK []));refine⟨_,Sum.inl (A8 b),B5.h,rfl,Bd (by unfold UO;rw[aS];omega),λu hv=>?_,λhv=>?_⟩
  ·obtain⟨x,hx,hs,rfl⟩:=Vw hv;refine hN _ _ ⟨x.2,bs,rfl,M5,B5,by rw[<-hs];exact hx,(λ_ h=>.inl h),.inl ?_⟩;unfold A5;simp only[List.mem_cons,List.mem_append];exact .inr (.inr (.inr (.inr (.inl (aT.mpr ⟨x,hx,rfl⟩)))))
  ·refine hN _ _ ⟨dn,bs++[(A8 b,dn)],rfl,M5.put (.inl oz) (Ne.symm pa.n1) pa.n3 (λu h=>⟨_,by rw[B5.h] at h;exact(bf h).symm⟩),B4.fresh hv hdn (ndn M4.t) (ndn M4.d),by simp,(λx hx=>(aY.mp hx).imp id λh=>by rw[ba.mp h];exact⟨rfl,hz4 _ hdn⟩),.inr (hz4 _ hdn)⟩
 rintro σ' H5 ⟨d,bs',rfl,M5,B5,hd5,bfr,od⟩
 have hd6:=B5.d _ hd5;refine⟨_,rfl,_,rfl,ta,_,_,_,rfl,rfl,AV.of M5.n.2.1,rfl,d,_,rfl,IL.k (k:=Sum.inl z) hd6.1 (Bd (by unfold KZ;rw[aS];have:=OX cs (A8 b);show(Cj cs (A8 b)).length<1000000;omega)),?_⟩;have B6:=B5.snoc (e:=Dd z y b v c dx ta l cs) hd5 (λh=>by
  obtain⟨e,he,_,hz'⟩:=Fw.mp h;exact fz e he hz')
 have M6:=M5.put (x:=d) (o:=.dK (putK (KZ (Cj cs (A8 b))) (Sum.inl z) (.bl true))) od hd6.2.1 hd6.2.2.2 (λu h=>⟨_,by rw[hd6.1] at h;exact(bf h).symm⟩);have e6:(upd H5 d (.dK (putK (KZ (Cj cs (A8 b))) (Sum.inl z) (.bl true))))=(upd H5 d (.dK (putK (KZ (Cj cs (A8 (Dd z y b v c dx ta l cs).bk))) (Sum.inl (Dd z y b v c dx ta l cs).z) (.bl true)))):=rfl;rw[<-e6] at B6;dsimp only;generalize (upd H5 d (.dK (putK (KZ (Cj cs (A8 b))) (Sum.inl z) (.bl true))))=H6 at M6 B6;have nc6:((cs++[Dd z y b v c dx ta l cs]).map (·.c)).Nodup:=by
  rw[bA,b9];refine⟨pa.c,by simp,λa ha b' hb=>?_⟩;obtain⟨x,hx,rfl⟩:=aT.mp ha;have:b'=c:=ba.mp hb;rw[this];intro zz;have:=(pa.t.2.2.1 x hx).1;rw[zz,hc] at this;cases this
 have P6:EX Af Aa H6 p q (cs++[Dd z y b v c dx ta l cs]):=by
  refine⟨M6.p,M6.t,λe he=>?_,?_⟩
  ·rcases aY.mp he with he|he
   ·exact M6.c e he
   ·rw[ba.mp he];exact M6.n
  ·rw[bA,b9];refine⟨pa.t.2.2.2,by simp,λa ha b' hb=>?_⟩;obtain⟨x,hx,rfl⟩:=aT.mp ha;have:b'=z:=ba.mp hb;rw[this];exact fz x hx
 refine⟨_,rfl,c,Aa,dx,_,_,rfl,M6.n.1,T.cl_TakenCell,T.n_TakenCell_named,rfl,l,rfl,⟨_,AI.of M6.l⟩,?_⟩;refine Cp (K:=K) (a:=l) (xs:=us) (λi σ H'=>(∃v5,σ=[some (.ref p),some (.ref ta),some v,some (.ref c),some (.ref d),v5])/\EX Af Aa H' p q ((cs++[Dd z y b v c dx ta l cs]).map (bump (((Ar b).map (·.1)).take i)))/\BsAt H' q (cs++[Dd z y b v c dx ta l cs]) bs'/\H' q.dd=some (.dK (Ik q.D cs))/\H' l=some (.lst us)/\AA NL H' ((Ar b).map CC) us/\Nc (A5 p q cs bs) H H') ⟨⟨_,rfl⟩,by rw[eY,TC];exact P6,B6,M6.d,M6.l,M6.u,M6.f⟩ ?_ ?_ ?_
 ·rintro i σ H' _ ⟨_,_,_,_,h,_⟩
  exact AI.of h
 ·rintro i x σ H' hx ⟨⟨v5,rfl⟩,P7,B7,d7,l7,u7,f7⟩
  obtain⟨t,ht,rt⟩:=AA.get u7 hx;rw[bz] at ht;obtain⟨g,hg,rfl⟩:=cy.mp ht;obtain⟨tx,rfl,htx⟩:=F1 rt;obtain⟨e,he,hze⟩:=hn g (a8 hg);have he7:bump (((Ar b).map (·.1)).take i) e∈(cs++[Dd z y b v c dx ta l cs]).map (bump (((Ar b).map (·.1)).take i)):=aT.mpr ⟨e,aY.mpr (.inl he),rfl⟩;have hz7:(bump (((Ar b).map (·.1)).take i) e).z=g.1:=hze;have H7:=P7.hold (by rw[R8];exact nc6) he7;have c7:=(P7.2.2.1 _ he7).1;rw[<-hz7] at htx;dsimp only[Bt];refine DI λEB eEB=>?_
  refine⟨_,rfl,p,q.dp,_,rfl,P7.1,rfl,_,rfl,p,q,_,_,tx,_,_,rfl,P7,he7,htx,?_⟩;have tp:∀a ys,H' a=some (.tup ys)->(upd H' (bump (((Ar b).map (·.1)).take i) e).c (.ins Aa (bump (((Ar b).map (·.1)).take i) e).dx (CJ (bump (((Ar b).map (·.1)).take i) e).ta ((wT (BW (bump (((Ar b).map (·.1)).take i) e).bk)).length:Int) (bump (((Ar b).map (·.1)).take i) e).l ((bump (((Ar b).map (·.1)).take i) e).k+1) (bump (((Ar b).map (·.1)).take i) e).en (bump (((Ar b).map (·.1)).take i) e).st))) a=some (.tup ys):=λa ys h=>by rw[Ag (AL h c7 (by intro z;cases z))];exact h
  subst eEB;refine⟨⟨_,rfl⟩,?_,B7.ins c7,by rw[Ag (AL d7 c7 (by intro z;cases z))];exact d7,by rw[Ag (AL l7 c7 (by intro z;cases z))];exact l7,AX tp _ _ u7,λa o h n=>?_⟩
  ·rw[Q5,hz7] at H7;rw[bN,bz,hg];exact H7
  ·rw[Ag (λzz=>n (by rw[zz];unfold A5;simp only[List.mem_cons,List.mem_append];exact .inr (.inr (.inr (.inr (.inr (aT.mpr ⟨e,he,rfl⟩)))))))];exact f7 a o h n
 ·rintro σ H' ⟨⟨v5,rfl⟩,P7,B7,d7,l7,u7,f7⟩
  have lu:us.length=((Ar b).map (·.1)).length:=by rw[AA.len _ _ u7,aS,aS]
  rw[lu,dv] at P7;exact hq H' c dx l bs' hc nlH ⟨us,l7,u7⟩ P7 (B7.bump _) d7 f7 bfr
theorem PAt.lst {CP CT:Addr}{H:Hp}{p:Addr}{q:Pl}{cs:List Cl}{bs:List (Int×Addr)}{l:Addr}{us us':List V}(h:PAt CP CT H p q cs bs)(hl:H l=some (.lst us)):PAt CP CT (upd H l (.lst us')) p q cs bs:=by
 have no:∀{a o},H a=some o->(∀ys,o≠.lst ys)->(upd H l (.lst us')) a=some o:=λ{a o} h1 n=>by rw[Ag (λz=>by rw[z,hl] at h1;exact n _ (bf h1).symm)];exact h1
 have nk:∀{a kvs},H a=some (.dK kvs)->(upd H l (.lst us')) a=some (.dK kvs):=λ{a kvs} h1=>no h1 (by intro ys z;cases z)
 refine⟨⟨no h.t.1 (by intro ys z;cases z),nk h.t.2.1,λe he=>?_,h.t.2.2.2⟩,nk h.d,{ h.b with h:=nk h.b.h,d:=λx hx=>⟨nk (h.b.d x hx).1,(h.b.d x hx).2⟩ },h.n1,h.n2,h.n3,h.c,h.z,h.w,h.f1,h.f2⟩;have hc:=(h.t.2.2.1 e he).1;exact(h.t.2.2.1 e he).tup ((no hc (by intro ys z;cases z)).trans hc.symm) λc ys h1=>no h1 (by intro ys z;cases z)
theorem PAt.setn {CP CT:Addr}{H H':Hp}{p:Addr}{q:Pl}{cs:List Cl}{bs:List (Int×Addr)}{m:Int}(h:PAt CP CT H p q cs bs)(hp:H' p=some (.ins CP q.dp (Hz q.bo q.dt q.dz q.dd m)))(ho:∀b,b≠p->H' b=H b)(m1:1<=m)(m2:Below cs m):PAt CP CT H' p { q with n:=m } cs bs:=by
 have no:∀{a o},H a=some o->(∀C d fs,o≠.ins C d fs)->H' a=some o:=λ{a o} h1 n=>by rw[ho a (λz=>by rw[z,h.t.1] at h1;exact n _ _ _ (bf h1).symm)];exact h1
 have nk:∀{a kvs},H a=some (.dK kvs)->H' a=some (.dK kvs):=λ{a kvs} h1=>no h1 (by intro C d fs z;cases z)
 refine⟨⟨hp,nk h.t.2.1,λe he=>?_,h.t.2.2.2⟩,nk h.d,{ h.b with h:=nk h.b.h,d:=λx hx=>⟨nk (h.b.d x hx).1,(h.b.d x hx).2⟩ },h.n1,h.n2,h.n3,h.c,h.z,h.w,m1,m2⟩;have hc:=(h.t.2.2.1 e he).1;refine(h.t.2.2.1 e he).tup (ho _ λz=>?_) λc ys h1=>no h1 (by intro C d fs z;cases z)
 rw[z,h.t.1] at hc;have:=bf hc;injection this with _ _ this
 injection this with this _
 injection this with this _
 revert this
 decide
def Kk (K:W.Frag)(CP CT CB:Addr):Sp:=λvs H Q _=>∃p q cs bs v b,∃(y:Int),vs=[.ref p,v,.int y]/\PAt CP CT H p q cs bs/\YV CB H q cs/\cs.length<=60/\Rep NL H (BW b) v/\Cu b/\(∀t∈Ar b,∃e∈cs,e.z=t.1)/\
 (∀e∈cs,e.bk=b->∀H',Ap H H'->Q (.ref e.ta) H')/\
 ((∀e∈cs,e.bk≠b)->∀(m:Int) H' c dx l ta bs',1<=m->m<=(cs.length:Int)+1->(∀e∈cs,e.z≠m)->H c=none->H l=none->H ta=none->(∃us,H' l=some (.lst us)/\AA NL H' ((Ar b).map CC) us)->PAt CP CT H' p { q with n:=m,D:=m::q.D } ((cs++[Dd m y b v c dx ta l cs]).map (bump ((Ar b).map (·.1)))) bs'->Nc (A5 p q cs bs) H H'->(∀x∈bs',x∈bs\/H x.2=none)->Q (.ref ta) H')
theorem P3 (T:Txt K mg Ab Ad Aa Af XC)(F:Fun K "put" "Pool.put" HK f fd)(FJ:BH P w K mg base 18 Af "alike" ["self","block"] (HH K Af Aa Ad))(Gr:BH P w K mg base 13 Af "take" ["self","tag","block"] (IJ K Af Aa))(CV:BH P w K mg base 1 Af "free_number" ["self"] (DR K Af Aa))(C9:Def P w K mg base 3 "sum_of" ["block"] (Hi K)):FnOk P w K mg base BO 19 f fd ["self","block","birth"] (Kk K Af Aa Ad):=by
 exists Gp
 ·obtain⟨p,q,cs,bs,v,b,y,rfl,_⟩:=h;rfl
 obtain⟨p,q,cs,bs,v,b,y,rfl,pa,brd,few,hv,ok,hn,hq1,hq2⟩:=h;have hu:=BF hr;refine⟨_,(!Ah (@AD _ _ (3) _ _ _ _ Gp.nd rfl (by trivial) (!A2 (pv 0) T.cl_Pool FJ (by trivial) (!Ac (pv 1) (!Ai))) (by rfl) (by trivial)) (!Ah (!AM (!EW (!K6 (pv 3)) (by first|exact Cn _ (by decide) (by decide)|rfl)) (!Ak (!Ao (pv 3))) (!Av)) (!Ah (@AD _ _ (4) _ _ _ _ Gp.nd rfl (by trivial) (!DQ (!Ac (!Ce (pv 0) T.cl_Pool CV) (!Ac (pv 2) (!Ac (!AK C9 (by trivial) rfl (!Ac (pv 1) (!Ai))) (!Ai))))) (by rfl) (by trivial)) (!Ah (!A6 (!A2 (pv 0) T.cl_Pool Gr (by trivial) (!Ac (pv 4) (!Ac (pv 1) (!Ai))))) (!Ah (!ET hu (!AN (pv 0)) (!Aw AF (pv 4) (!Aj) (λ_ _=>rfl)) (pv 1)) (!Ak (!Ao (pv 4)))))))),?_⟩
 try dsimp only[BB,Cx.nox,Cx.wish]
 refine⟨_,rfl,p,q.dp,_,rfl,pa.t.1,rfl,_,rfl,p,q,cs,bs,v,b,rfl,pa,brd,few,hv,ok,λe he eb H1 s1=>?_,λhne H1 s1=>?_⟩
 ·exact⟨_,rfl,_,rfl,BA rfl ⟨_,rfl,hq1 e he eb H1 s1⟩⟩
 refine⟨_,rfl,_,rfl,AJ rfl ?_⟩;have pa1:=pa.same s1;refine⟨_,rfl,p,q.dp,_,rfl,pa1.t.1,rfl,p,q,cs,rfl,pa1.t,pa.f2,pa.f1,λm H2 m1 m2 bm fm hp2 ho2=>?_⟩;have pa2:PAt Af Aa H2 p { q with n:=m } cs bs:=pa1.setn hp2 ho2 m1 bm;have tp2:∀a ys,H1 a=some (.tup ys)->H2 a=some (.tup ys):=λa ys h=>by rw[ho2 a (AL h pa1.t.1 (by intro z;cases z))];exact h
 have k2:∀a o,H a=some o->∃o',H2 a=some o':=λa o h=>by
  by_cases e:a=p
  ·exact⟨_,by rw[e];exact hp2⟩
  ·exact⟨o,by rw[ho2 a e];exact s1.get h⟩
 refine⟨_,rfl,_,rfl,v,b,rfl,Cd tp2 _ _ (Rep.same s1 _ _ hv),ok,λH3 s3=>?_⟩;refine⟨UH,λta hta=>?_⟩;have s4:=s3.trans (Al hta (.tup [.int m,.int y,.int (A8 b)]));have pa4:=pa2.same s4;have t4:(upd H3 ta (.tup [.int m,.int y,.int (A8 b)])) ta=some (.tup [.int m,.int y,.int (A8 b)]):=Ae;have hv4:=Rep.same s4 _ _ (Cd tp2 _ _ (Rep.same s1 _ _ hv));generalize (upd H3 ta (.tup [.int m,.int y,.int (A8 b)]))=H4 at s4 pa4 t4 hv4;refine⟨_,rfl,p,q.dp,_,rfl,pa4.t.1,rfl,_,rfl,_,rfl,p,_,cs,bs,v,b,ta,_,y,rfl,pa4,few,hv4,ok,t4,fm,hn,λH5 c dx l bs' hc hl4 ⟨us,l5,u5⟩ P5 B5 d5 f5 bfr=>?_⟩;have t5:=f5 ta _ t4 (pa4.apart t4 (by intro C d fs z;cases z) (by intro kvs z;cases z));refine⟨_,rfl,_,rfl,p,Af,q.dp,_,_,rfl,P5.1,T.cl_Pool,T.n_Pool_draft,rfl,_,rfl,ta,_,_,_,rfl,rfl,AV.of t5,rfl,q.dd,_,rfl,IL.k (k:=Sum.inl m) d5 (Bd (by have:=V0 q.D cs;show(Ik q.D cs).length<1000000;omega)),?_⟩;have fr:∀a,H4 a=none->H a=none:=λa hc=>by
  cases h:H a with
  |none=>rfl
  |some o=>
   obtain⟨o',h'⟩:=k2 a o h;rw[s4.get h'] at hc;cases hc
 have hcH:=fr c hc;have fr3:∀a,H3 a=none->H a=none:=λa hc=>by
  cases h:H a with
  |none=>rfl
  |some o=>
   obtain⟨o',h'⟩:=k2 a o h;rw[s3.get h'] at hc;cases hc
 have edr:putK (Ik q.D cs) (Sum.inl m) v=Ik (m::q.D) ((cs++[Dd m y b v c dx ta l cs]).map (bump ((Ar b).map (·.1)))):=by
  rw[Ur,Fm _ (Ft λx hx=>?_)]
  ·unfold Ik;rw[dh,bA]
   congr 1
   ·refine congrArg _ (e9 λe he=>?_);rw[cq,bq,bq,bE];exact⟨.inr,λh=>h.resolve_left (fm e he)⟩
   ·rw[bR (by show decide (m∈m::q.D)=true;exact bh bc)];rfl
  ·obtain⟨e,he,rfl⟩:=aT.mp hx;intro zz;exact fm e (bM.mp he).1 (cI zz)
 have d5:H5 q.dd=some (.dK (Ik q.D cs)):=d5;rw[edr];have nt0:∀{a u},H5 a=some u->(∀kvs,u≠.dK kvs)->a≠q.dd:=λ{a u} h n zz=>by
  rw[zz,d5] at h;exact n _ (bf h).symm
 refine⟨_,rfl,hq2 hne m _ c dx l ta bs' m1 m2 fm hcH (fr l hl4) (fr3 ta hta) ⟨us,by rw[Ag (nt0 l5 (by intro kvs z;cases z))];exact l5,AX (λa ys h=>by rw[Ag (nt0 h (by intro kvs z;cases z))];exact h) _ _ u5⟩ ?_ (λa o h n=>?_) λx hx=>(bfr x hx).imp id λh=>fr x.2 h.2⟩
 ·have nt:∀{a u},H5 a=some u->(∀kvs,u≠.dK kvs)->a≠q.dd:=λ{a u} h n zz=>by
   rw[zz,d5] at h;exact n _ (bf h).symm
  refine⟨⟨?_,?_,λe he=>?_,P5.2.2.2⟩,Ae,{ B5 with h:=?_,d:=λx hx=>⟨?_,(B5.d x hx).2⟩ },pa.n1,pa.n2,pa.n3,?_,λe h=>?_,?_,?_,?_⟩
  ·rw[Ag (nt P5.1 (by intro kvs z;cases z))];exact P5.1
  ·rw[Ag pa.n2];exact P5.2.1
  ·exact(P5.2.2.1 e he).tup (Ag (nt (P5.2.2.1 e he).1 (by intro kvs z;cases z))) λa ys h=>by rw[Ag (nt h (by intro kvs z;cases z))];exact h
  ·rw[Ag pa.n3];exact B5.h
  ·rw[Ag (B5.d x hx).2.2.2];exact(B5.d x hx).1
  ·rw[R8,bA,b9];refine⟨pa.c,by simp,λa ha b' hb=>?_⟩;obtain⟨x,hx,rfl⟩:=aT.mp ha;have:b'=c:=ba.mp hb;rw[this];intro zz;have:=(pa.t.2.2.1 x hx).1;rw[zz,hcH] at this;cases this
  ·obtain⟨x,hx,rfl⟩:=aT.mp h;show 1<=x.z;rcases aY.mp hx with hx|hx
   ·exact pa.z x hx
   ·rw[ba.mp hx];exact m1
  ·intro x hx;rcases bfr x hx with h|h
   ·exact pa.w x h
   ·rw[h.1];exact WM b
  ·exact m1
  ·intro i i1 i2;obtain⟨e,he,rfl⟩:=bm i i1 i2;exact⟨bump _ e,aT.mpr ⟨e,aY.mpr (.inl he),rfl⟩,rfl⟩
 ·have na:a≠q.dd:=λzz=>n (by rw[zz];unfold A5;simp)
  have np:a≠p:=λzz=>n (by rw[zz];unfold A5;simp)
  rw[Ag na];exact f5 a o (s4.get (by rw[ho2 a np];exact s1.get h)) n
end
open M06 M10
section
variable {P:Program}{w:World}{K:W.Frag}{mg:Str->Option Value}{base:Heap}{f Ab Ad Aa Af:Addr}{XC:Nat->Addr}{fd:FuncData}
def Zp (neg:Bool):R2:=λx y H Q=>∃(p:Addr) (xs:List V) (t:Tr) (ts:List Tr),y=.ref p/\H p=some (.lst xs)/\Rep NL H t x/\CD 8 t=true/\AA NL H ts xs/\(∀u∈ts,CD 8 u=true)/\
 Q (.bl (if neg then !(ts.any λu=>decide (wT u=wT t)) else ts.any λu=>decide (wT u=wT t))) H
section
variable {X:Cx}
theorem O0:∀{xs:List V} {its:List Value},AR xs its->∀(i:Nat) u,its[i]?=some u->∃v,xs[i]?=some v/\RelV v u
 |_,_,.nil,i,u,e=>by simp at e
 |v::xs,_,.cons r h,0,u,e=>⟨v,rfl,by simp at e;rw[<-e];exact r⟩
 |v::xs,_,.cons r h,i+1,u,e=>by
  obtain⟨w,a,b⟩:=O0 h i u (by simpa using e);exact⟨w,by simpa using a,b⟩
theorem VA {v w:V}{u:Value}(h1:RelV v u)(h2:RelV w u){H:Hp}{t t':Tr}{n:Nat}(ht:CD n t=true)(ht':CD n t'=true)(r1:Rep NL H t v)(r2:Rep NL H t' w):t=t':=by
 have e:v=w:=by
  cases n with
  |zero=>cases ht
  |succ n=>
   cases t with
   |int i=>
    cases(show v=V.int i from r1);obtain⟨k,rfl⟩:=h1;cases t' with
    |int j=>cases(show w=V.int j from r2);obtain⟨k',e⟩:=h2;cases e;rfl
    |str z=>cases(show w=V.str z from r2);obtain⟨k',e⟩:=h2;cases e
    |tup us=>obtain⟨b,ws,rfl,_⟩:=r2;cases h2
    |non=>cases ht'
    |bl _=>cases ht'
    |lst _=>cases ht'
   |str y=>
    cases(show v=V.str y from r1);obtain⟨k,rfl⟩:=h1;cases t' with
    |int j=>cases(show w=V.int j from r2);obtain⟨k',e⟩:=h2;cases e
    |str z=>cases(show w=V.str z from r2);obtain⟨k',e⟩:=h2;cases e;rfl
    |tup us=>obtain⟨b,ws,rfl,_⟩:=r2;cases h2
    |non=>cases ht'
    |bl _=>cases ht'
    |lst _=>cases ht'
   |tup ts=>
    obtain⟨a,vs,rfl,_⟩:=r1;cases h1;cases t' with
    |int j=>cases(show w=V.int j from r2);obtain⟨k',e⟩:=h2;cases e
    |str z=>cases(show w=V.str z from r2);obtain⟨k',e⟩:=h2;cases e
    |tup us=>obtain⟨b,ws,rfl,_⟩:=r2;cases h2;rfl
    |non=>cases ht'
    |bl _=>cases ht'
    |lst _=>cases ht'
   |non=>cases ht
   |bl _=>cases ht
   |lst _=>cases ht
 subst e;exact Oz n t t' v ht ht' r1 r2
theorem NN {α β:Type}{e:α->Bool}{f:β->Bool}:∀{l:List α} {m:List β},l.length=m.length->(∀(i:Nat) u t,l[i]?=some u->m[i]?=some t->e u=f t)->l.countP e=m.countP f
 |[],[],_,_=>rfl
 |[],_::_,h,_=>nomatch h
 |_::_,[],h,_=>nomatch h
 |u::l,t::m,h,k=>by
  rw[List.countP_cons,List.countP_cons,NN (iI h) λi u t=>k (i+1) u t,k 0 u t rfl rfl]
theorem Od {pins:List (Addr×Obj)}{σ:St}{H:Hp}{s:Shared}{xs:List V}{t:Tr}{ts:List Tr}{x:V}{v:Value}{its:List Value}(hu:X.A.units+150<cLine)(I:Inv X pins σ H s)(hx:Rep NL H t x)(ht:CD 8 t=true)(r:AA NL H ts xs)(hts:∀u∈ts,CD 8 u=true)(rx:RelV x v)(rv:AR xs its) :
  ∃e:Value->Bool,(∀y∈its.toArray,SeqAt.EqAt X.A.in1 s y v (e y))/\its.toArray.any e=(ts.any λu=>decide (wT u=wT t))/\its.countP e=ts.countP λu=>decide (wT u=wT t):=by
 have gt:∀(i:Nat) u,its[i]?=some u->∃t' v',ts[i]?=some t'/\RelV v' u/\Rep NL H t' v':=λi u e=>by
  obtain⟨v',a,b⟩:=O0 rv i u e;obtain⟨t',c,d⟩:=AA.get r a;exact⟨t',v',c,b,d⟩
 have li:its.length=ts.length:=rv.length.symm.trans (AA.len _ _ r);obtain⟨e,hE⟩:∃e:Value->Bool,∀u,e u=true↔∃(i:Nat) (t':Tr),its[i]?=some u/\ts[i]?=some t'/\wT t'=wT t:=⟨λu=>@decide _ (Classical.propDecidable (∃(i:Nat) (t':Tr),its[i]?=some u/\ts[i]?=some t'/\wT t'=wT t)),λu=>@decide_eq_true_iff _ (Classical.propDecidable _)⟩
 have ee:∀(i:Nat) u t',its[i]?=some u->ts[i]?=some t'->e u=decide (wT t'=wT t):=λi u t' e1 e2=>by
  rw[cq,hE,decide_eq_true_iff];constructor
  ·rintro⟨j,t2,e3,e4,e5⟩
   obtain⟨a1,v1,b1,c1,d1⟩:=gt i u e1;obtain⟨a2,v2,b2,c2,d2⟩:=gt j u e3;rw[e2] at b1;cases b1;rw[e4] at b2;cases b2;rw[VA c1 c2 (hts _ (a8 e2)) (hts _ (a8 e4)) d1 d2];exact e5
  ·intro h;exact⟨i,t',e1,e2,h⟩
 refine⟨e,λy hy=>?_,?_,NN li ee⟩
 ·obtain⟨i,hi⟩:=cz (by simpa using hy);obtain⟨t',v',b1,c1,d1⟩:=gt i y hi;rw[ee i y t' hi b1];exact Q1 I 8 t' t X.A.in1 v' x y v (hts _ (a8 b1)) ht (by show X.A.units+1+8<cLine;omega) d1 hx c1 rx
 ·rw[show its.toArray.any e=its.any e by simp,cq,cR,cR];constructor
  ·rintro⟨u,hu,h⟩
   obtain⟨i,hi⟩:=cz hu;obtain⟨t',v',b1,_⟩:=gt i u hi;rw[ee i u t' hi b1] at h;exact⟨t',a8 b1,h⟩
  ·rintro⟨t',ht',h⟩
   obtain⟨i,hi⟩:=cz ht';have l:=(bu.mp hi).1;have e1:its[i]?=some (its[i]'(by omega)):=aW _;exact⟨_,a8 e1,by rw[ee i _ t' e1 hi];exact h⟩
theorem Ys (hu:X.A.units+150<cLine):Gw X (compareOp .In) (Zp false):=by
 intro pins s σ H x y v u Q I rx ry h;obtain⟨p,xs,t,ts,rfl,hp,hx,ht,r,hts,q⟩:=h;cases ry;obtain⟨its,rv,pl,_⟩:=I.list (AI.of (K:=X.K) hp);obtain⟨e,he,ea,_⟩:=Od hu I hx ht r hts rx rv;refine SeqAt.in_listAt e pl.isList he ⟨.bl _,H,I,rfl,?_⟩;rw[ea];exact q
theorem He (hu:X.A.units+150<cLine):Gw X (compareOp .NotIn) (Zp true):=by
 intro pins s σ H x y v u Q I rx ry h;obtain⟨p,xs,t,ts,rfl,hp,hx,ht,r,hts,q⟩:=h;cases ry;obtain⟨its,rv,pl,_⟩:=I.list (AI.of (K:=X.K) hp);obtain⟨e,he,ea,_⟩:=Od hu I hx ht r hts rx rv;refine SeqAt.notIn_listAt e pl.isList he ⟨.bl _,H,I,rfl,?_⟩;rw[ea];exact q
def Zg:V->List V->Hp->VK->Prop:=λy vs H Q=>∃(p:Addr) (xs:List V) (x:V) (t:Tr) (ts:List Tr),y=.ref p/\vs=[x]/\H p=some (.lst xs)/\Rep NL H t x/\CD 8 t=true/\AA NL H ts xs/\(∀u∈ts,CD 8 u=true)/\Q (.int (ts.countP (λu=>decide (wT u=wT t)):Nat)) H
theorem TH (hu:X.A.units+150<cLine):ZH X "list.count" Zg:=by
 intro pins s σ H x vs v us Q I rx rv h;obtain⟨l,xs,y,t,ts,rfl,rfl,hl,hx,ht,r,hts,q⟩:=h;cases rx;obtain⟨u,rfl,ru⟩:=rv.one;obtain⟨its,rv1,⟨⟨c,dd,da,sl⟩,n1,e1,c1,d1,s1⟩,_⟩:=I.list (AI.of (K:=X.K) hl);simp only at c1 d1 s1;subst c1 d1 s1;obtain⟨e,he,_,ea⟩:=Od hu I hx ht r hts ru rv1;refine gZ ir ⟨_,e1,rfl⟩ PySem.F.entry_list_count (PySem.F.args_list_count_2 _ _) (SeqAt.list_countAt l its.toArray n1 _ sl u e) ⟨e1,he,?_⟩;refine⟨.int _,H,I.tok _,⟨_,rfl⟩,?_⟩;rw[show its.toArray.toList=its from rfl,ea];exact q
end
def Fi (K:W.Frag)(CP CT:Addr):Sp:=λvs H Q _=>∃p q cs e,vs=[.ref p,.int e.z]/\EX CP CT H p q cs/\e∈cs/\Q (.int e.k) H
theorem MZ (T:Txt K mg Ab Ad Aa Af XC)(F:Fun K "count" "Pool.count" F8 f fd):FnOk P w K mg base BO 1 f fd ["self","number"] (Fi K Af Aa):=by
 exists Nh
 ·obtain⟨p,q,cs,e,rfl,_⟩:=h;rfl
 obtain⟨p,q,cs,e,rfl,⟨h1,h2,h4,nd⟩,he,hq⟩:=h;have hu:=BF hr;refine⟨_,(!Ak (!Ao (!AN (!B8 hu (!AN (pv 0)) (pv 1) (λ_ _=>rfl))))),?_⟩
 try dsimp only[BB,Cx.nox,Cx.wish]
 have g:BG H q.dt (.int e.z) (some (.ref e.c)):=by
  have:=BG.k (k:=Sum.inl e.z) h2;rw[FM nd he] at this;exact this
 exact⟨_,rfl,p,Af,q.dp,_,_,rfl,h1,T.cl_Pool,T.n_Pool_taken,rfl,_,rfl,q.dt,_,rfl,g,e.c,Aa,e.dx,_,_,rfl,(h4 e he).1,T.cl_TakenCell,T.n_TakenCell_times_named,rfl,hq⟩
def JA (K:W.Frag)(CP CT:Addr):Sp:=λvs H Q _=>∃p q cs e us,vs=[.ref p,.int e.z]/\EX CP CT H p q cs/\e∈cs/\H e.l=some (.lst us)/\∀l,H l=none->Q (.ref l) (upd H l (.lst us))
theorem Oy (T:Txt K mg Ab Ad Aa Af XC)(F:Fun K "tags" "Pool.tags" GD f fd):FnOk P w K mg base BO 1 f fd ["self","number"] (JA K Af Aa):=by
 exists On
 ·obtain⟨p,q,cs,e,us,rfl,_⟩:=h;rfl
 obtain⟨p,q,cs,e,us,rfl,⟨h1,h2,h4,nd⟩,he,hl,hq⟩:=h;have hu:=BF hr;have hu9:=FZ hr;refine⟨_,(!Ak (!Ao (!BX De (by rfl) T.b_list Ji (!Ac (!AN (!B8 hu (!AN (pv 0)) (pv 1) (λ_ _=>rfl))) (!Ai))))),?_⟩
 try dsimp only[BB,Cx.nox,Cx.wish]
 have g:BG H q.dt (.int e.z) (some (.ref e.c)):=by
  have:=BG.k (k:=Sum.inl e.z) h2;rw[FM nd he] at this;exact this
 exact⟨_,rfl,p,Af,q.dp,_,_,rfl,h1,T.cl_Pool,T.n_Pool_taken,rfl,_,rfl,q.dt,_,rfl,g,e.c,Aa,e.dx,_,_,rfl,(h4 e he).1,T.cl_TakenCell,T.n_TakenCell_named,rfl,e.l,_,rfl,.inl (AI.of hl),λl nl=>hq l nl⟩
def DJ (K:W.Frag)(CP CT:Addr):Sp:=λvs H Q _=>∃p q cs,vs=[.ref p]/\EX CP CT H p q cs/\cs.length<=60/\∀(ms:List Int) l,ms.Perm (cs.map (·.z))->ms.Pairwise (·<=·)->H l=none->Q (.ref l) (upd H l (.lst (ms.map V.int)))
theorem KM (T:Txt K mg Ab Ad Aa Af XC)(F:Fun K "numbers" "Pool.numbers" EA f fd):FnOk P w K mg base BO 1 f fd ["self"] (DJ K Af Aa):=by
 exists KG
 ·obtain⟨p,q,cs,rfl,_⟩:=h;rfl
 obtain⟨p,q,cs,rfl,pa,few,hq⟩:=h;have hu:=BF hr;refine⟨_,(!Ak (!Ao (!Aq (Gs rfl) (by rfl) T.b_sorted Ct (!Ac (!AN (pv 0)) (!Ai))))),?_⟩
 try dsimp only[BB,Cx.nox,Cx.wish]
 exact⟨_,rfl,p,Af,q.dp,_,_,rfl,pa.1,T.cl_Pool,T.n_Pool_taken,rfl,q.dt,_,cs.map (·.z),rfl,pa.2.1,by unfold JP;rw[bw,bw];rfl,.inl (by rw[aS];omega),λms l pm so nl=>hq ms l pm so nl⟩
def Ba (z:Int)(cs:List Cl):List Cl:=cs.filter λe=>decide (e.z≠z)
theorem Be {z:Int}{cs:List Cl}{e:Cl}:e∈Ba z cs↔e∈cs/\e.z≠z:=by
 unfold Ba;rw[bM,bq]
theorem LA {g:Cl->V}(z:Int):∀cs:List Cl,BI (cs.map λe=>((Sum.inl e.z:Key),g e)) (Sum.inl z)=(Ba z cs).map λe=>((Sum.inl e.z:Key),g e)
 |[]=>rfl
 |e::cs=>by
  have ih:=LA (g:=g) z cs;unfold BI Ba at ih ⊢;rw[bg]
  by_cases h:e.z=z
  ·rw[bS (by simp[h]),bS (by simp[h])];exact ih
  ·rw[bR (by simp[h]),bR (by simp[h]),bg,ih]
theorem RH (z:Int):∀ns:List Int,BI (KZ ns) (Sum.inl z)=KZ (ns.filter λn=>decide (n≠z))
 |[]=>rfl
 |n::ns=>by
  have ih:=RH z ns;unfold BI KZ at ih ⊢;rw[bg]
  by_cases h:n=z
  ·rw[bS (by simp[h]),bS (by simp[h])];exact ih
  ·rw[bR (by simp[h]),bR (by simp[h]),bg,ih]
theorem OV (z s:Int)(cs:List Cl):Cj (Ba z cs) s=(Cj cs s).filter λn=>decide (n≠z):=by
 unfold Cj Ba;rw[dq,fH,fH]
 congr 1
 exact e9 λe _=>Bool.and_comm _ _
theorem V9 {CP CT:Addr} {H H':Hp} {p:Addr} {q:Pl} {cs:List Cl} {bs:List (Int×Addr)} {e:Cl} {x:Int×Addr} (pa:PAt CP CT H p q cs bs) (he:e∈cs) (hx:x∈bs) (hs:x.1=A8 e.bk) (hp:H' p=some (.ins CP q.dp (Hz q.bo q.dt q.dz q.dd (if e.z<q.n then e.z else q.n))))
  (ht:H' q.dt=some (.dK (JP (Ba e.z cs)))) (hd:H' q.dd=some (.dK (Ik q.D (Ba e.z cs)))) (hz:H' x.2=some (.dK (KZ (Cj (Ba e.z cs) x.1)))) (g:∀a,a≠p->a≠q.dt/\a≠q.dd/\a≠x.2->H' a=H a):PAt CP CT H' p { q with n:=if e.z<q.n then e.z else q.n } (Ba e.z cs) bs:=by
 have no:∀{a o},H a=some o->a≠p->(∀kvs,o≠.dK kvs)->H' a=some o:=λ{a o} h n1 n=>(g a n1 ⟨(λz=>by rw[z,pa.t.2.1] at h;exact n _ (bf h).symm),(λz=>by rw[z,pa.d] at h;exact n _ (bf h).symm),λz=>by rw[z,(pa.b.d x hx).1] at h;exact n _ (bf h).symm⟩).trans h
 have nt:∀a ys,H a=some (.tup ys)->H' a=some (.tup ys):=λa ys h=>no h (AL h pa.t.1 (by intro z;cases z)) (by intro kvs z;cases z)
 have npk:∀{a kvs},H a=some (.dK kvs)->a≠p:=λ{a kvs} h=>AL h pa.t.1 (by intro z;cases z)
 have z1:=pa.z e he;have f1:=pa.f1;refine⟨⟨hp,ht,λy hy=>?_,pa.t.2.2.2.sublist (fh _ c9)⟩,hd,⟨?_,pa.b.k,pa.b.a,λy hy=>?_,λy hy=>pa.b.all y (Be.mp hy).1⟩,pa.n1,pa.n2,pa.n3,pa.c.sublist (fh _ c9),λy hy=>pa.z y (Be.mp hy).1,pa.w,?_,λi i1 i2=>?_⟩
 ·have hc:=pa.t.2.2.1 y (Be.mp hy).1;have ncp:y.c≠p:=λz=>by
   have h1:=hc.1;rw[z,pa.t.1] at h1;have:=bf h1;injection this with _ _ this
   injection this with this _
   injection this with this _
   revert this
   decide
  exact hc.tup ((no hc.1 ncp (by intro kvs z;cases z)).trans hc.1.symm) nt
 ·show H' q.dz=_;rw[g q.dz (npk pa.b.h) ⟨Ne.symm pa.n1,pa.n3,Ne.symm (pa.b.d x hx).2.2.1⟩];exact pa.b.h
 ·refine⟨?_,(pa.b.d y hy).2⟩
  by_cases hyx:y=x
  ·subst hyx;exact hz
  ·have n2:y.2≠x.2:=λz=>hyx (AE pa.b.a hy hx z)
   have n1:y.1≠x.1:=λz=>hyx (AE pa.b.k hy hx z)
   rw[g y.2 (npk (pa.b.d y hy).1) ⟨(pa.b.d y hy).2.1,(pa.b.d y hy).2.2.2,n2⟩,(pa.b.d y hy).1,OV]
   congr 2
   refine(congrArg KZ (dc.mpr λn hn=>?_)).symm;rw[bq];intro z;obtain⟨e',he',hs',hz'⟩:=Fw.mp hn;obtain rfl:=AE pa.t.2.2.2 he' he (hz'.trans z);exact n1 (hs'.symm.trans hs.symm)
 ·show 1<=if e.z<q.n then e.z else q.n
  split<;>omega
 ·have i2:i<if e.z<q.n then e.z else q.n:=i2;obtain⟨y,hy,rfl⟩:=pa.f2 i i1 (by split at i2<;>omega);refine⟨y,Be.mpr ⟨hy,λz=>?_⟩,rfl⟩
  split at i2<;>omega
theorem Xd {kvs:List (Key×V)}{k:Key}(h:A4 kvs k=none):BI kvs k=kvs:=by
 unfold A4 at h;rw[cW,dg] at h;unfold BI;refine dc.mpr λx hx=>bh λe=>h x hx (bh e)
theorem Wt (D:List Int)(z:Int)(cs:List Cl):BI (Ik D cs) (Sum.inl z)=Ik D (Ba z cs):=by
 unfold Ik;rw[LA]
 congr 1
 unfold Ba;rw[fH,fH];exact e9 λe _=>Bool.and_comm _ _
def FF (K:W.Frag)(CP CT:Addr):Sp:=λvs H Q _=>∃p q cs bs e,vs=[.ref p,.int e.z]/\PAt CP CT H p q cs bs/\e∈cs/\∀(m:Int) H',PAt CP CT H' p { q with n:=m } (Ba e.z cs) bs->(∀a o,H a=some o->a≠p->(∀kvs,o≠.dK kvs)->H' a=some o)->Nc (A5 p q cs bs) H H'->Q .non H'
theorem Og (T:Txt K mg Ab Ad Aa Af XC)(F:Fun K "free" "Pool.free" GP f fd)(BK:BH P w K mg base 1 Af "tag" ["self","number"] (EJ K Af Aa)):FnOk P w K mg base BO 2 f fd ["self","number"] (FF K Af Aa):=by
 exists N8
 ·obtain⟨p,q,cs,bs,e,rfl,_⟩:=h;rfl
 obtain⟨p,q,cs,bs,e,rfl,pa,he,hq⟩:=h;have hu:=BF hr;refine⟨_,(!Ah (!A6 (!Pz (!B8 hu (!AN (pv 0)) (!Aw AF (!A2 (pv 0) T.cl_Pool BK (by trivial) (!Ac (pv 1) (!Ai))) (!Aj) (λ_ _=>rfl)) (λ_ _=>rfl)) (pv 1) ⟨rfl,rfl,rfl,rfl⟩)) (!Ah (!A6 (!US (!AN (pv 0)) (pv 1) (!Eb) ⟨rfl,rfl,rfl,rfl⟩)) (!Ah (!A6 (!Pz (!AN (pv 0)) (pv 1) ⟨rfl,rfl,rfl,rfl⟩)) (!Ak (!BU (pv 0) (!Aq (Nt rfl) (by rfl) T.b_min UJ (!Ac (!AN (pv 0)) (!Ac (pv 1) (!Ai))))))))),?_⟩
 try dsimp only[BB,Cx.nox,Cx.wish]
 have ce:=pa.t.2.2.1 e he;obtain⟨x,hx,hs⟩:=pa.b.all e he;have gz:BG H q.dz (.int (A8 e.bk)) (some (.ref x.2)):=by
  have:=BG.k (k:=Sum.inl (A8 e.bk)) pa.b.h;rw[<-hs,Qw pa.b.k hx,hs] at this;exact this
 refine⟨_,rfl,p,Af,q.dp,_,_,rfl,pa.t.1,T.cl_Pool,T.n_Pool_by_sums,rfl,_,rfl,p,q.dp,_,rfl,pa.t.1,rfl,_,rfl,p,q,cs,e,rfl,pa.t,he,e.ta,_,_,_,rfl,rfl,AV.of ce.2.1,rfl,q.dz,_,rfl,gz,x.2,rfl,.inl ⟨_,.inl (pa.b.d x hx).1⟩,_,rfl,_,Sum.inl e.z,.bl true,(pa.b.d x hx).1,rfl,?_,?_⟩
 ·refine FU ?_ (aT.mpr ⟨e.z,Fw.mpr ⟨e,he,hs.symm,rfl⟩,rfl⟩);unfold KZ;rw[bw];refine fc _ (λa b (n:a≠b) e=>n (cI e)) ?_;exact List.Nodup.sublist (fh _ c9) pa.t.2.2.2
 have hdd:(upd H x.2 (.dK (BI (KZ (Cj cs x.1)) (Sum.inl e.z)))) q.dd=some (.dK (Ik q.D cs)):=by rw[Ag (Ne.symm (pa.b.d x hx).2.2.2)];exact pa.d
 have hdt:(upd H x.2 (.dK (BI (KZ (Cj cs x.1)) (Sum.inl e.z)))) q.dt=some (.dK (JP cs)):=by rw[Ag (Ne.symm (pa.b.d x hx).2.1)];exact pa.t.2.1
 have nd:∀{a o},H a=some o->(∀kvs,o≠.dK kvs)->a≠x.2:=λ{a o} h n z=>by rw[z,(pa.b.d x hx).1] at h;exact n _ (bf h).symm
 have hp:(upd H x.2 (.dK (BI (KZ (Cj cs x.1)) (Sum.inl e.z)))) p=_:=(Ag (nd pa.t.1 (by intro kvs z;cases z))).trans pa.t.1;have g1:∀a,a≠x.2->(upd H x.2 (.dK (BI (KZ (Cj cs x.1)) (Sum.inl e.z)))) a=H a:=λa n=>Ag n
 have gx:(upd H x.2 (.dK (BI (KZ (Cj cs x.1)) (Sum.inl e.z)))) x.2=_:=Ae;generalize (upd H x.2 (.dK (BI (KZ (Cj cs x.1)) (Sum.inl e.z))))=H1 at hdd hdt hp g1 gx;have eH:A4 (Ik q.D cs) (Sum.inl e.z)=none->H1=upd H1 q.dd (.dK (BI (Ik q.D cs) (Sum.inl e.z))):=λhv=>by
  rw[Xd hv]
  funext a
  by_cases ha:a=q.dd
  ·rw[ha,Ae];exact hdd
  ·rw[Ag ha]
 refine⟨_,rfl,p,Af,q.dp,_,_,rfl,hp,T.cl_Pool,T.n_Pool_draft,rfl,q.dd,rfl,.inl ⟨_,.inl hdd⟩,_,rfl,_,Sum.inl e.z,hdd,rfl,λv hv=>?_,λhv=>?_⟩
 all_goals
  try rw[eH hv]
  dsimp only;generalize e1:upd H1 q.dd (.dK (BI (Ik q.D cs) (Sum.inl e.z)))=H2;have npd:p≠q.dd:=AL pa.t.1 pa.d (by intro z;cases z);have npt:p≠q.dt:=AL pa.t.1 pa.t.2.1 (by intro z;cases z);have hp2:H2 p=some (.ins Af q.dp (Hz q.bo q.dt q.dz q.dd q.n)):=by rw[<-e1,Ag npd];exact hp
  have ht2:H2 q.dt=some (.dK (JP cs)):=by rw[<-e1,Ag pa.n2];exact hdt
  refine⟨_,rfl,p,Af,q.dp,_,_,rfl,hp2,T.cl_Pool,T.n_Pool_taken,rfl,q.dt,rfl,.inl ⟨_,.inl ht2⟩,_,rfl,_,Sum.inl e.z,_,ht2,rfl,FM pa.t.2.2.2 he,?_⟩;generalize e2:upd H2 q.dt (.dK (BI (JP cs) (Sum.inl e.z)))=H3;have hp3:H3 p=some (.ins Af q.dp (Hz q.bo q.dt q.dz q.dd q.n)):=by rw[<-e2,Ag npt];exact hp2
  refine⟨_,rfl,p,Af,q.dp,_,_,rfl,hp3,T.cl_Pool,T.n_Pool_first_maybe_free,rfl,_,rfl,_,_,rfl,?_⟩;refine⟨_,rfl,p,Af,q.dp,_,rfl,hp3,T.cl_Pool,T.n_Pool_first_maybe_free,(by show 5<1000;decide),?_⟩;have nx:∀{a o},H a=some o->(∀kvs,o≠.dK kvs)->a≠q.dt/\a≠q.dd/\a≠x.2:=λ{a o} h n=>⟨(λz=>by rw[z,pa.t.2.1] at h;exact n _ (bf h).symm),(λz=>by rw[z,pa.d] at h;exact n _ (bf h).symm),nd h n⟩
  have g:∀{a},a≠p->a≠q.dt/\a≠q.dd/\a≠x.2->∀o,(upd H3 p o) a=H a:=λ{a} n1 n2 o=>by rw[Ag n1,<-e2,Ag n2.1,<-e1,Ag n2.2.1,g1 _ n2.2.2]
  have npx:p≠x.2:=nd pa.t.1 (by intro kvs z;cases z);refine hq (if e.z<q.n then e.z else q.n) _ (V9 pa he hx hs Ae ?_ ?_ ?_ λa n1 n2=>g n1 n2 _) (λa o h n1 n2=>(g n1 (nx h n2) _).trans h) λa o h n=>?_
  ·rw[Ag (Ne.symm npt),<-e2,Ae];unfold JP;rw[LA]
  ·rw[Ag (Ne.symm npd),<-e2,Ag (Ne.symm pa.n2),<-e1,Ae,Wt]
  ·rw[Ag (Ne.symm npx),<-e2,Ag (pa.b.d x hx).2.1,<-e1,Ag (pa.b.d x hx).2.2.2,gx,RH,OV]
  ·unfold A5 at n;simp only[List.mem_cons,List.mem_append,not_or] at n;exact(g n.1 ⟨n.2.1,n.2.2.2.1,λz=>n.2.2.2.2.1 (by rw[z];exact aT.mpr ⟨x,hx,rfl⟩)⟩ _).trans h
def Nf (L:List (Int×List Int))(X:List Int)(z:Int):Prop:=(∀x∈L,z∉x.2)/\z∉X
def Mv (z:Int)(L:List (Int×List Int)):List (Int×List Int):=L.filter λx=>decide (x.1≠z)
theorem CH {z:Int}{L:List (Int×List Int)}{x:Int×List Int}:x∈Mv z L↔x∈L/\x.1≠z:=by
 unfold Mv;rw[bM,bq]
theorem Nf.sub {L M:List (Int×List Int)}{X Y:List Int}{z:Int}(h:Nf L X z)(hs:∀x∈M,x∈L)(hx:∀x∈Y,x∈X):Nf M Y z:=⟨λx hx=>h.1 x (hs x hx),λhz=>h.2 (hx z hz)⟩
inductive Cas (X:List Int) (Z:Int->Prop):List (Int×List Int)->List (Int×List Int)->Prop
 |refl (L:List (Int×List Int)):Cas X Z L L
 |step {L M:List (Int×List Int)} (z:Int) (h:Nf L X z) (hz:¬Z z) (t:Cas X Z (Mv z L) M):Cas X Z L M
theorem Cas.trans {X:List Int}{Z:Int->Prop}{L M N:List (Int×List Int)}(a:Cas X Z L M)(b:Cas X Z M N):Cas X Z L N:=by
 induction a with
 |refl=>exact b
 |step z h hz _ ih=>exact .step z h hz (ih b)
theorem Cas.weak {X Y:List Int}{Z W:Int->Prop}{L M:List (Int×List Int)}(a:Cas X Z L M)(hx:∀x∈Y,x∈X)(hz:∀z,W z->Z z):Cas Y W L M:=by
 induction a with
 |refl=>exact .refl _
 |step z h hn _ ih=>exact .step z (h.sub (λ_ h=>h) hx) (λw=>hn (hz z w)) ih
theorem Cas.sub {X:List Int}{Z:Int->Prop}{L M:List (Int×List Int)}(a:Cas X Z L M):∀x∈M,x∈L:=by
 induction a with
 |refl=>exact λ_ h=>h
 |step z h hn _ ih=>exact λx hx=>(CH.mp (ih x hx)).1
theorem Cas.keep {X:List Int}{Z:Int->Prop}{L M:List (Int×List Int)}(a:Cas X Z L M){x:Int×List Int}(hx:x∈L)(hz:Z x.1):x∈M:=by
 induction a with
 |refl=>exact hx
 |step z h hn _ ih=>exact ih (CH.mpr ⟨hx,λe=>hn (by rw[<-e];exact hz)⟩)
theorem Cas.conf {X:List Int}{Z:Int->Prop}{L M N:List (Int×List Int)}(a:Cas X Z L M)(hs:∀x∈N,x∈L)(hc:∀x∈N,Nf N X x.1->Z x.1):∀x∈N,x∈M:=by
 induction a with
 |refl=>exact hs
 |step z h hn _ ih=>exact ih λx hx=>CH.mpr ⟨hs x hx,λe=>hn (by rw[<-e];exact hc x hx (by rw[e];exact h.sub hs λ_ h=>h))⟩
def Lc (cs:List Cl):List (Int×List Int):=cs.map λe=>(e.z,(Ar e.bk).map (·.1))
theorem E3 (z:Int)(cs:List Cl):Lc (Ba z cs)=Mv z (Lc cs):=by
 unfold Lc Ba Mv;rw[dq];rfl
theorem CU {cs:List Cl}{e:Cl}(h:e∈cs):(e.z,(Ar e.bk).map (·.1))∈Lc cs:=aT.mpr ⟨e,h,rfl⟩
def Fd (L:List (Int×List Int))(z:Int):Nat:=(L.map λx=>x.2.count z).sum
theorem Fy (x:Int×List Int)(L:List (Int×List Int))(z:Int):Fd (x::L) z=x.2.count z+Fd L z:=by unfold Fd;rw[bg,eR]
theorem RY (L M:List (Int×List Int))(z:Int):Fd (L++M) z=Fd L z+Fd M z:=by unfold Fd;rw[bA,List.sum_append]
theorem CG {z:Int}:∀{L:List (Int×List Int)},Fd L z=0↔∀x∈L,z∉x.2
 |[]=>⟨(λ_ _ h=>nomatch h),λ_=>rfl⟩
 |x::L=>by
  rw[Fy,Nat.add_eq_zero_iff,cg,CG];exact⟨λh y hy=>(bE.mp hy).elim (λe=>by rw[e];exact h.1) (h.2 y),λh=>⟨h x bc,λy hy=>h y (a9 _ hy)⟩⟩
theorem RW {L:List (Int×List Int)}(nd:(L.map (·.1)).Nodup){x:Int×List Int}(hx:x∈L)(z:Int):Fd L z=x.2.count z+Fd (Mv x.1 L) z:=by
 induction L with
 |nil=>nomatch hx
 |cons y L ih=>
  rw[bg,bZ] at nd;rcases bE.mp hx with rfl|hx
  ·have e:Mv x.1 (x::L)=L:=by
    unfold Mv;rw[bS (by simp)];exact dc.mpr λy hy=>by
     have n:y.1≠x.1:=λz=>nd.1 (aT.mpr ⟨y,hy,z⟩)
     simpa using n
   rw[e,Fy]
  ·have n:y.1≠x.1:=λz=>nd.1 (by rw[z];exact aT.mpr ⟨x,hx,rfl⟩)
   have e:Mv x.1 (y::L)=y::Mv x.1 L:=by
    unfold Mv;rw[bR (by simpa using n)]
   rw[e,Fy,Fy,ih nd.2 hx];omega
structure Rt (cs:List Cl) (X:List Int):Prop where
 k:∀e∈cs,e.k=(Fd (Lc cs) e.z:Int)+(X.count e.z:Int)
 x:∀z∈X,∃e∈cs,e.z=z
 n:∀e∈cs,∀t∈Ar e.bk,∃c∈cs,c.z=t.1
def kf (g:Cl->Int)(e:Cl):Cl:={ e with k:=g e }
theorem Ye (g:Cl->Int)(cs:List Cl):JP (cs.map (kf g))=JP cs:=by unfold JP;rw[bw];rfl
theorem YJ (D:List Int)(g:Cl->Int)(cs:List Cl):Ik D (cs.map (kf g))=Ik D cs:=by unfold Ik;rw[dq,bw];rfl
theorem Zs (g:Cl->Int)(cs:List Cl):(cs.map (kf g)).map (·.z)=cs.map (·.z):=by rw[bw];rfl
theorem XO (g:Cl->Int)(cs:List Cl):(cs.map (kf g)).map (·.c)=cs.map (·.c):=by rw[bw];rfl
theorem Kt (g:Cl->Int)(cs:List Cl):Lc (cs.map (kf g))=Lc cs:=by unfold Lc;rw[bw];rfl
theorem Wb (g:Cl->Int)(s:Int)(cs:List Cl):Cj (cs.map (kf g)) s=Cj cs s:=by
 unfold Cj;rw[dq,bw];rfl
theorem PAt.setK {CP CT:Addr}{H H':Hp}{p:Addr}{q:Pl}{cs:List Cl}{bs:List (Int×Addr)}{g:Cl->Int}(h:PAt CP CT H p q cs bs)(hc:∀e∈cs,H' e.c=some (.ins CT e.dx (CJ e.ta ((wT (BW e.bk)).length:Int) e.l (g e) e.en e.st)))(ho:∀a,a∉cs.map (·.c)->H' a=H a):PAt CP CT H' p q (cs.map (kf g)) bs:=by
 have nc:∀{a o},H a=some o->(∀C d fs,o≠.ins C d fs)->H' a=some o:=λ{a o} h1 n=>(ho a λhm=>by
  obtain⟨e,he,rfl⟩:=aT.mp hm;rw[(h.t.2.2.1 e he).1] at h1;exact n _ _ _ (bf h1).symm).trans h1
 have np:p∉cs.map (·.c):=λhm=>by
  obtain⟨e,he,z⟩:=aT.mp hm;have h1:=(h.t.2.2.1 e he).1;rw[z,h.t.1] at h1;have:=bf h1;injection this with _ _ this
  injection this with this _
  injection this with this _
  revert this
  decide
 have nt:∀a ys,H a=some (.tup ys)->H' a=some (.tup ys):=λa ys h1=>nc h1 (by intro C d fs z;cases z)
 refine⟨⟨(ho p np).trans h.t.1,by rw[Ye];exact nc h.t.2.1 (by intro C d fs z;cases z),λe he=>?_,by rw[Zs];exact h.t.2.2.2⟩,by rw[YJ];exact nc h.d (by intro C d fs z;cases z),⟨nc h.b.h (by intro C d fs z;cases z),h.b.k,h.b.a,λx hx=>⟨by rw[Wb];exact nc (h.b.d x hx).1 (by intro C d fs z;cases z),(h.b.d x hx).2⟩,λe he=>?_⟩,h.n1,h.n2,h.n3,by rw[XO];exact h.c,λe he=>?_,h.w,h.f1,λi i1 i2=>?_⟩
 ·obtain⟨y,hy,rfl⟩:=aT.mp he;obtain⟨a1,a2,a3,a4⟩:=h.t.2.2.1 y hy;exact⟨hc y hy,nt _ _ a2,Cd nt _ _ a3,a4⟩
 ·obtain⟨y,hy,rfl⟩:=aT.mp he;exact h.b.all y hy
 ·obtain⟨y,hy,rfl⟩:=aT.mp he;exact h.z y hy
 ·obtain⟨y,hy,rfl⟩:=h.f2 i i1 i2;exact⟨kf g y,aT.mpr ⟨y,hy,rfl⟩,rfl⟩
theorem Rt.congr {cs:List Cl}{X Y:List Int}(h:Rt cs X)(e:∀z,X.count z=Y.count z):Rt cs Y:=
 ⟨λc hc=>by rw[<-e];exact h.k c hc,λz hz=>h.x z (by rw[<-List.count_pos_iff,e,List.count_pos_iff];exact hz),h.n⟩
def minus (e x:Cl):Int:=if x.z=e.z then e.k-1 else x.k
theorem Rt.dec {cs:List Cl}{X:List Int}{e:Cl}(h:Rt cs (e.z::X))(nd:(cs.map (·.z)).Nodup)(he:e∈cs):Rt (cs.map (kf (minus e))) X:=by
 have up:∀z:Int,(∃c∈cs,c.z=z)->∃c∈cs.map (kf (minus e)),c.z=z:=λz ⟨c,hc,hz⟩=>⟨_,aT.mpr ⟨c,hc,rfl⟩,hz⟩
 refine⟨λc hc=>?_,λz hz=>up z (h.x z (a9 _ hz)),λc hc t ht=>?_⟩
 ·obtain⟨y,hy,rfl⟩:=aT.mp hc;rw[Kt];show minus e y=(Fd (Lc cs) y.z:Int)+(X.count y.z:Int);have hk:=h.k y hy;unfold minus
  by_cases hz:y.z=e.z
  ·obtain rfl:=AE nd hy he hz;rw[bF rfl,hk,i8];omega
  ·rw[bH hz,hk,iT (λz=>hz z.symm)]
 ·obtain⟨y,hy,rfl⟩:=aT.mp hc;exact up _ (h.n y hy t ht)
theorem Jk {cs:List Cl}(nd:(cs.map (·.z)).Nodup):((Lc cs).map (·.1)).Nodup:=by
 unfold Lc;rw[bw];exact nd
theorem Rt.none {cs:List Cl}{X:List Int}{e:Cl}(h:Rt cs X)(he:e∈cs)(hk:e.k=0):Nf (Lc cs) X e.z:=by
 have:=h.k e he;exact⟨CG.mp (by omega),cg.mp (by omega)⟩
theorem Rt.out {cs:List Cl}{X:List Int}{e:Cl}(h:Rt cs X)(nd:(cs.map (·.z)).Nodup)(he:e∈cs)(hk:e.k=0):Rt (Ba e.z cs) ((Ar e.bk).map (·.1)++X):=by
 have nf:=h.none he hk;have ex:∀z:Int,z≠e.z->(∃c∈cs,c.z=z)->∃c∈Ba e.z cs,c.z=z:=λz n ⟨c,hc,hz⟩=>⟨c,Be.mpr ⟨hc,by rw[hz];exact n⟩,hz⟩
 refine⟨λc hc=>?_,λz hz=>?_,λc hc t ht=>?_⟩
 ·have hc':=(Be.mp hc).1;rw[h.k c hc',RW (Jk nd) (CU he) c.z,E3,fK];simp only[Int.natCast_add];omega
 ·rcases aY.mp hz with hz|hz
  ·obtain⟨t,ht,rfl⟩:=aT.mp hz;exact ex _ (λz=>nf.1 _ (CU he) (by rw[<-z];exact aT.mpr ⟨t,ht,rfl⟩)) (h.n e he t ht)
  ·exact ex z (λe1=>nf.2 (by rw[<-e1];exact hz)) (h.x z hz)
 ·have hc':=(Be.mp hc).1;exact ex _ (λz=>nf.1 _ (CU hc') (by rw[<-z];exact aT.mpr ⟨t,ht,rfl⟩)) (h.n c hc' t ht)
def R3 (H:Hp)(cs:List Cl):Prop:=∀e∈cs,∃us,H e.l=some (.lst us)/\AA NL H ((Ar e.bk).map CC) us
def Qj (H:Hp)(zs:List Int)(us:List V):Prop:=us.length=zs.length/\∀(i:Nat) z,zs[i]?=some z->∃a r,us[i]?=some (.ref a)/\H a=some (.tup (.int z::r))
theorem Nm {b:Bk}(ok:Cu b):(Ar b).length<=16:=by
 cases b with
 |piece z=>exact bU _
 |row lv ts=>
  have:=ok.2.1;show ts.length<=16;omega
 |folder es=>
  show(es.map _).length<=16;rw[aS];exact ok.1
def Qh (cs:List Cl):Nat:=(cs.map λe=>(Ar e.bk).length).sum
theorem RX {cs:List Cl}(nd:(cs.map (·.z)).Nodup){e:Cl}(he:e∈cs):Qh cs=(Ar e.bk).length+Qh (Ba e.z cs):=by
 unfold Qh
 induction cs with
 |nil=>nomatch he
 |cons y L ih=>
  rw[bg,bZ] at nd;rcases bE.mp he with rfl|hx
  ·have e1:Ba e.z (e::L)=L:=by
    unfold Ba;rw[bS (by simp)];exact dc.mpr λy hy=>by
     have n:y.z≠e.z:=λz=>nd.1 (aT.mpr ⟨y,hy,z⟩)
     simpa using n
   rw[e1,bg,eR]
  ·have n:y.z≠e.z:=λz=>nd.1 (by rw[z];exact aT.mpr ⟨e,hx,rfl⟩)
   have e1:Ba e.z (y::L)=y::Ba e.z L:=by
    unfold Ba;rw[bR (by simpa using n)]
   rw[e1,bg,bg,eR,eR,ih nd.2 hx];omega
theorem Y0 {cs:List Cl}(h:∀e∈cs,(Ar e.bk).length<=16):Qh cs<=16*cs.length:=by
 unfold Qh
 induction cs with
 |nil=>exact bU _
 |cons y L ih=>
  rw[bg,eR,bT];have:=h y bc;have:=ih λe he=>h e (a9 _ he)
  omega
theorem Vk (g:Cl->Int)(cs:List Cl):Qh (cs.map (kf g))=Qh cs:=by unfold Qh;rw[bw];rfl
theorem PAt.cp {CP CT:Addr}{H:Hp}{p:Addr}{q:Pl}{cs:List Cl}{bs:List (Int×Addr)}(h:PAt CP CT H p q cs bs){e:Cl}(he:e∈cs):e.c≠p:=λz=>by
 have h1:=(h.t.2.2.1 e he).1;rw[z,h.t.1] at h1;have:=bf h1;injection this with _ _ this
 injection this with this _
 injection this with this _
 revert this
 decide
theorem Qj.app {H:Hp}{zs ys:List Int}{us vs:List V}(h1:Qj H zs us)(h2:Qj H ys vs):Qj H (zs++ys) (us++vs):=by
 refine⟨by rw[bx,bx,h1.1,h2.1],λi z h=>?_⟩
 by_cases hi:i<zs.length
 ·rw[cw hi] at h;rw[cw (by rw[h1.1];exact hi)];exact h1.2 i z h
 ·rw[cY (by omega)] at h;rw[cY (by rw[h1.1];omega),h1.1];exact h2.2 _ z h
theorem Qj.reps {H:Hp}{ts:List Tg}{us:List V}(h:AA NL H (ts.map CC) us):Qj H (ts.map (·.1)) us:=by
 refine⟨by rw[AA.len _ _ h,aS,aS],λi z hz=>?_⟩;have hi:i<ts.length:=by have:=(bu.mp hz).1;rwa [aS] at this
 have lu:=AA.len _ _ h;rw[aS] at lu;obtain⟨t,e1,e2⟩:=AA.get h (aW (by omega:i<us.length));rw[bz,aW hi] at e1 hz;cases e1;cases hz;obtain⟨a,ea,ha⟩:=F1 e2;exact⟨a,_,by rw[aW (by omega),ea],ha⟩
theorem Qj.keep {H H':Hp}{zs:List Int}{us:List V}(h:Qj H zs us)(k:∀a ys,H a=some (.tup ys)->H' a=some (.tup ys)):Qj H' zs us:=⟨h.1,λi z hz=>by
 obtain⟨a,r,h1,h2⟩:=h.2 i z hz;exact⟨a,r,h1,k _ _ h2⟩⟩
def Ge (K:W.Frag)(CP CT:Addr):Sp:=λvs H Q _=>∃p q cs bs,∃(ta:Addr) (z:Int) (r:List V) (X:List Int),vs=[.ref p,.ref ta]/\PAt CP CT H p q cs bs/\cs.length<=60/\H ta=some (.tup (.int z::r))/\R3 H cs/\Rt cs (z::X)/\
 ∀(m:Int) H' cs',PAt CP CT H' p { q with n:=m } cs' bs->R3 H' cs'->Rt cs' X->Cas X (λu=>Nf (Lc cs) X u/\u≠z) (Lc cs) (Lc cs')->(∀x∈Lc cs',Nf (Lc cs') X x.1->Nf (Lc cs) X x.1/\x.1≠z)->(∀e∈cs',∃k,{ e with k:=k }∈cs)->Nc (A5 p q cs bs) H H'->Q .non H'
theorem KY (T:Txt K mg Ab Ad Aa Af XC)(F:Fun K "release" "Pool.release" Ed f fd)(C1:BH P w K mg base 2 Af "free" ["self","number"] (FF K Af Aa)):FnOk P w K mg base BO 3 f fd ["self","tag"] (Ge K Af Aa):=by
 exists CN
 ·obtain⟨p,q,cs,bs,ta,z,r,X,rfl,_⟩:=h;rfl
 obtain⟨p,q,cs,bs,ta,z,r,X,rfl,pa,few,hta,na,rt,hq⟩:=h;have hu:=BF hr;refine⟨_,(!Ah (@AD _ _ (2) _ _ _ _ CN.nd rfl (by trivial) (!BJ (!Ac (pv 1) (!Ai))) (by rfl) (by trivial)) (!Ak (!ME b5 (!Au NY (!Aq AB (by rfl) T.b_len Bl (!Ac (pv 2) (!Ai))) (!Aj) (Ay _)) (!Ah (@AD _ _ (3) _ _ _ _ CN.nd rfl (by trivial) (!Aw AF (!Ud b7 iQ iN VC (pv 2)) (!Aj) (λ_ _=>rfl)) (by rfl) (by trivial)) (!Ah (@AD _ _ (4) _ _ _ _ CN.nd rfl (by trivial) (!B8 hu (!AN (pv 0)) (pv 3) (λ_ _=>rfl)) (by rfl) (by trivial)) (!Ah (!D3 (pv 4) (!Aj) Sd) (!Ak (!AM (!Au Bg (!AN (pv 4)) (!Aj) (Ay _)) (!Ah (!A6 (!A2 (pv 0) T.cl_Pool C1 (by trivial) (!Ac (pv 3) (!Ai)))) (!Ak (!A6 (!Gd b7 eP eO Hn (pv 2) (!Ac (!AN (pv 4)) (!Ai)))))) (!Av))))))))),?_⟩
 try dsimp only[BB,Cx.nox,Cx.wish]
 have hwl0:∀{wl:Addr},H wl=none->∀e∈cs,e.l≠wl:=λh e he z=>by
  obtain⟨us,h1,_⟩:=na e he;rw[z,h] at h1;cases h1
 refine⟨_,rfl,YI,λwl hwl=>?_⟩;have nwl:=hwl0 hwl;have s1:=Al hwl (.lst [.ref ta]);refine⟨λm σ H2=>∃(cs1:List Cl) (m1:Int) (W:List Int) (us:List V) (v3 v4:Option V),m=Qh cs1+W.length/\m<=10000/\σ=[some (.ref p),some (.ref ta),some (.ref wl),v3,v4]/\PAt Af Aa H2 p { q with n:=m1 } cs1 bs/\R3 H2 cs1/\H2 wl=some (.lst us)/\Qj H2 W us/\Rt cs1 (W++X)/\
  Cas X (λu=>Nf (Lc cs) X u/\u≠z) (Lc cs) (Lc cs1)/\(∀u∈W,¬(Nf (Lc cs) X u/\u≠z))/\(∀x∈Lc cs1,Nf (Lc cs1) (W++X) x.1->Nf (Lc cs) X x.1/\x.1≠z)/\(∀e∈cs1,∃k,{ e with k:=k }∈cs)/\Nc (A5 p q cs bs) H H2,⟨_,cs,q.n,[z],[.ref ta],none,none,rfl,?_,rfl,pa.same s1,?_,Ae,⟨rfl,λi z' h=>?_⟩,rt,.refl _,?_,?_,λe he=>⟨e.k,he⟩,Ap.frm s1⟩,?_⟩
 ·have:=Y0 λe he=>Nm (pa.t.2.2.1 e he).2.2.2
  show Qh cs+1<=10000;omega
 ·intro e he;obtain⟨us,h1,h2⟩:=na e he;exact⟨us,s1.get h1,AA.same s1 _ _ h2⟩
 ·cases i with
  |zero=>cases h;exact⟨ta,r,rfl,s1.get hta⟩
  |succ i=>simp at h
 ·intro u hu;rw[ba.mp hu];exact λh=>h.2 rfl
 ·intro x hx h;exact⟨h.sub (λ_ h=>h) (λy hy=>a9 _ hy),λe=>h.2 (by rw[e];exact bc)⟩
 rintro m σ H2 ⟨cs1,m1,W,us,v3,v4,rfl,hm,rfl,pa1,na1,hw,wa,rt1,ca,nz,cl,sb,fr⟩
 refine⟨_,rfl,wl,_,rfl,.inl (AI.of hw),_,_,rfl,rfl,_,rfl,Co (λc=>?_) (λc=>?_)⟩
 ·have c:0<us.length:=by have:=bP c;omega
  refine⟨λσ' H'=>∃(cs1':List Cl) (m1:Int) (W':List Int) (us:List V) (v3 v4:Option V),Qh cs1'+W'.length<Qh cs1+W.length/\σ'=[some (.ref p),some (.ref ta),some (.ref wl),v3,v4]/\PAt Af Aa H' p { q with n:=m1 } cs1' bs/\R3 H' cs1'/\H' wl=some (.lst us)/\Qj H' W' us/\Rt cs1' (W'++X)/\
   Cas X (λu=>Nf (Lc cs) X u/\u≠z) (Lc cs) (Lc cs1')/\(∀u∈W',¬(Nf (Lc cs) X u/\u≠z))/\(∀x∈Lc cs1',Nf (Lc cs1') (W'++X) x.1->Nf (Lc cs) X x.1/\x.1≠z)/\(∀e∈cs1',∃k,{ e with k:=k }∈cs)/\Nc (A5 p q cs bs) H H',(by rintro σ' H' ⟨c1,c2,c3,c4,c5,c6,c7,c8⟩;exact⟨_,c7,c1,c2,c3,c4,c5,c6,rfl,by omega,c8⟩),?_⟩
  have wn:W≠[]:=λz=>by rw[z] at wa;have:=wa.1;rw[fX] at this;omega
  obtain⟨W',n,rfl⟩:∃W' n,W=W'++[n]:=⟨W.dropLast,W.getLast wn,(dY wn).symm⟩
  have lw:=wa.1;rw[bx,df] at lw;obtain⟨a,ra,hla,ha⟩:=wa.2 W'.length n (by simp);have hl2:us[us.length-1]?=some (.ref a):=by rw[show us.length-1=W'.length by omega];exact hla
  have s3:∀b o,H2 b=some o->b≠wl->(upd H2 wl (.lst us.dropLast)) b=some o:=λb o h n=>by rw[Ag n];exact h
  have t3:∀b ys,H2 b=some (.tup ys)->(upd H2 wl (.lst us.dropLast)) b=some (.tup ys):=λb ys h=>s3 b _ h (AL h hw (by intro z;cases z))
  have kp:∀(b:Addr) o,H2 b=some o->(∀ys,o≠.lst ys)->(upd H2 wl (.lst us.dropLast)) b=some o:=λb o h n=>s3 b o h (λz=>by rw[z,hw] at h;exact n _ (bf h).symm)
  have pa3:PAt Af Aa (upd H2 wl (.lst us.dropLast)) p { q with n:=m1 } cs1 bs:=pa1.lst hw;obtain⟨e,he,hze⟩:=rt1.x n (by simp);subst hze;have ce:=pa3.t.2.2.1 e he;have g:BG (upd H2 wl (.lst us.dropLast)) q.dt (.int e.z) (some (.ref e.c)):=by
   have:=BG.k (k:=Sum.inl e.z) pa3.t.2.1;rw[FM pa3.t.2.2.2 he] at this;exact this
  refine DI λEB eEB=>?_
  refine⟨_,rfl,.inl ⟨rfl,_,AI.of hw⟩,wl,us,_,rfl,rfl,hw,hl2,a,_,_,_,rfl,rfl,AV.of (t3 a _ ha),G1,?_⟩;refine⟨_,rfl,p,Af,q.dp,_,_,rfl,pa3.t.1,T.cl_Pool,T.n_Pool_taken,rfl,_,rfl,q.dt,_,rfl,g,?_⟩;refine⟨_,rfl,e.c,Aa,e.dx,_,_,rfl,ce.1,T.cl_TakenCell,T.n_TakenCell_times_named,rfl,_,_,rfl,rfl,e.dx,_,ce.1,(by show 6<1000;decide),?_⟩;have rt2:Rt (cs1.map (kf (minus e))) (W'++X):=(rt1.congr (Y:=e.z::(W'++X)) λz=>by simp only[List.count_append,List.count_cons,List.count_nil];omega).dec pa3.t.2.2.2 he;generalize e4:upd (upd H2 wl (.lst us.dropLast)) e.c (.ins Aa e.dx (CJ e.ta ((wT (BW e.bk)).length:Int) e.l (e.k-1) e.en e.st))=H4;have e4':upd (upd H2 wl (.lst us.dropLast)) e.c (.ins Aa e.dx (Dp "times_named" (V.int (e.k-1)) (CJ e.ta ((wT (BW e.bk)).length:Int) e.l e.k e.en e.st)))=H4:=e4;rw[e4'];have k4:∀(b:Addr) o,H2 b=some o->b≠wl->(∀C d fs,o≠.ins C d fs)->H4 b=some o:=λb o h n1 n2=>by
   have h3:=s3 b o h n1;rw[<-e4,Ag (λz=>by rw[z,ce.1] at h3;exact n2 _ _ _ (bf h3).symm)];exact h3
  have t4:∀b ys,H2 b=some (.tup ys)->H4 b=some (.tup ys):=λb ys h=>k4 b _ h (AL h hw (by intro z;cases z)) (by intro C d fs z;cases z)
  have pa4:PAt Af Aa H4 p { q with n:=m1 } (cs1.map (kf (minus e))) bs:=by
   refine pa3.setK (λx hx=>?_) λa ha=>?_
   ·unfold minus
    by_cases hz:x.z=e.z
    ·obtain rfl:=AE pa3.t.2.2.2 hx he hz;rw[bF rfl,<-e4,Ae]
    ·rw[bH hz,<-e4,Ag (λz=>hz (by rw[AE pa3.c hx he z]))];exact(pa3.t.2.2.1 x hx).1
   ·rw[<-e4,Ag (λz=>ha (by rw[z];exact aT.mpr ⟨e,he,rfl⟩))]
  have nl1:∀x∈cs1,x.l≠wl:=λx hx=>by
   obtain⟨k,hk⟩:=sb x hx;have:=nwl _ hk;exact this
  have na4:R3 H4 (cs1.map (kf (minus e))):=λx hx=>by
   obtain⟨y,hy,rfl⟩:=aT.mp hx;obtain⟨ys,h1,h2⟩:=na1 y hy;exact⟨ys,k4 _ _ h1 (nl1 y hy) (by intro C d fs z;cases z),AX t4 _ _ h2⟩
  have hw4:H4 wl=some (.lst us.dropLast):=by rw[<-e4,Ag (λz=>by have:=ce.1;rw[<-z,Ae] at this;cases this),Ae]
  have wa4:Qj H4 W' us.dropLast:=⟨by rw[gg];omega,λi z' h=>by
   have hi:i<W'.length:=(bu.mp h).1;obtain⟨b,rb,h1,h2⟩:=wa.2 i z' (by rw[cw hi];exact h);exact⟨b,rb,by rw[List.getElem?_dropLast,bF (by omega)];exact h1,t4 _ _ h2⟩⟩
  have sb4:∀x∈cs1.map (kf (minus e)),∃k,{ x with k:=k }∈cs:=λx hx=>by
   obtain⟨y,hy,rfl⟩:=aT.mp hx;exact sb y hy
  have mc:e.c∈A5 p q cs bs:=by
   obtain⟨k,hk⟩:=sb e he;unfold A5;simp only[List.mem_cons,List.mem_append];exact .inr (.inr (.inr (.inr (.inr (aT.mpr ⟨_,hk,rfl⟩)))))
  have fr4:Nc (A5 p q cs bs) H H4:=λa o h n=>by
   rw[<-e4,Ag (λz=>n (by rw[z];exact mc)),Ag (λz=>by rw[z,hwl] at h;cases h)];exact fr a o h n
  have he4:kf (minus e) e∈cs1.map (kf (minus e)):=aT.mpr ⟨e,he,rfl⟩;have hc4:=(pa4.t.2.2.1 _ he4).1;have ek:minus e e=e.k-1:=by unfold minus;rw[bF rfl]
  have hc4':H4 e.c=some (.ins Aa e.dx (CJ e.ta ((wT (BW e.bk)).length:Int) e.l (e.k-1) e.en e.st)):=by rw[<-ek];exact hc4
  refine⟨_,rfl,e.c,Aa,e.dx,_,_,rfl,hc4',T.cl_TakenCell,T.n_TakenCell_times_named,rfl,rfl,_,rfl,Co (λc0=>?_) (λc0=>?_)⟩
  ·have c0:e.k-1=0:=V.int.inj (bP c0);have ek0:(kf (minus e) e).k=0:=ek.trans c0;refine⟨_,rfl,p,q.dp,_,rfl,pa4.t.1,rfl,_,rfl,p,_,_,bs,kf (minus e) e,rfl,pa4,he4,λm5 H5 pa5 kp5 fr5=>?_⟩;obtain⟨zs,hz1,hz2⟩:=na4 _ he4;have kt5:∀a ys,H4 a=some (.tup ys)->H5 a=some (.tup ys):=λa ys h=>kp5 a _ h (AL h pa4.t.1 (by intro z;cases z)) (by intro kvs z;cases z)
   have kl5:∀a ys,H4 a=some (.lst ys)->H5 a=some (.lst ys):=λa ys h=>kp5 a _ h (AL h pa4.t.1 (by intro z;cases z)) (by intro kvs z;cases z)
   have l5:H5 e.l=some (.lst zs):=kl5 _ _ hz1;have w5:=kl5 _ _ hw4;have c5:=kp5 _ _ hc4' (pa3.cp he) (by intro kvs z;cases z);have z5:AA NL H5 ((Ar e.bk).map CC) zs:=AX kt5 _ _ hz2;have lz:zs.length=(Ar e.bk).length:=by rw[AA.len _ _ z5,aS]
   have mo:=RX pa3.t.2.2.2 he;have lw4:=wa4.1;have hm2:Qh cs1+(W'.length+1)<=10000:=by simpa using hm
   refine⟨_,rfl,.inl ⟨rfl,_,AI.of w5⟩,_,rfl,e.c,Aa,e.dx,_,_,rfl,c5,T.cl_TakenCell,T.n_TakenCell_named,rfl,wl,e.l,_,_,rfl,rfl,w5,l5,small (by show us.dropLast.length+zs.length<=1000000;omega),?_⟩;have k6:∀a ys,H5 a=some (.tup ys)->(upd H5 wl (.lst (us.dropLast++zs))) a=some (.tup ys):=λa ys h=>by rw[Ag (AL h w5 (by intro z;cases z))];exact h
   subst eEB;refine⟨Ba e.z (cs1.map (kf (minus e))),m5,W'++(Ar e.bk).map (·.1),us.dropLast++zs,_,_,?_,rfl,pa5.lst w5,λx hx=>?_,Ae,(wa4.app (Qj.reps hz2)).keep λa ys h=>k6 a ys (kt5 a ys h),?_,?_,λu hu=>?_,λx hx hn=>?_,λx hx=>sb4 x (Be.mp hx).1,λa o h n=>?_⟩
   ·have:Qh (cs1.map (kf (minus e)))=_:=RX (pa4.t.2.2.2) he4;rw[Vk] at this;have this:Qh cs1=(Ar e.bk).length+Qh (Ba e.z (cs1.map (kf (minus e)))):=this;rw[bx,bx,aS,df];omega
   ·have hx':=(Be.mp hx).1;obtain⟨ys,h1,h2⟩:=na4 x hx';obtain⟨y,hy,rfl⟩:=aT.mp hx';refine⟨ys,by rw[Ag (show(kf (minus e) y).l≠wl from nl1 y hy)];exact kl5 _ _ h1,AX (λa ys h=>k6 a ys (kt5 a ys h)) _ _ h2⟩
   ·exact(rt2.out pa4.t.2.2.2 he4 ek0).congr λz=>by
     show((Ar e.bk).map (·.1)++(W'++X)).count z=_;simp only[List.count_append];omega
   ·refine ca.trans (.step e.z ?_ (nz e.z (by simp)) ?_)
    ·have:=rt2.none he4 ek0;rw[Kt] at this;exact this.sub (λ_ h=>h) λy hy=>aY.mpr (.inr hy)
    ·rw[E3,Kt];exact .refl _
   ·rcases aY.mp hu with hu|hu
    ·exact nz u (aY.mpr (.inl hu))
    ·obtain⟨k,hk⟩:=sb e he;exact λh=>h.1.1 _ (CU hk) hu
   ·rw[E3,Kt] at hx hn;have hx':=CH.mp hx;refine cl x hx'.1 ⟨λy hy=>?_,λhm=>?_⟩
    ·by_cases hy1:y.1=e.z
     ·have:y=(e.z,(Ar e.bk).map (·.1)):=AE (Jk pa3.t.2.2.2) hy (CU he) hy1;rw[this];exact λh=>hn.2 (aY.mpr (.inl (aY.mpr (.inr h))))
     ·exact hn.1 y (CH.mpr ⟨hy,hy1⟩)
    ·rcases aY.mp hm with hm|hm
     ·rcases aY.mp hm with hm|hm
      ·exact hn.2 (aY.mpr (.inl (aY.mpr (.inl hm))))
      ·exact hx'.2 (ba.mp hm)
     ·exact hn.2 (aY.mpr (.inr hm))
   ·rw[Ag (λz=>by rw[z,hwl] at h;cases h)];refine fr5 a o (fr4 a o h n) λhm=>n ?_
    unfold A5 at hm ⊢;simp only[List.mem_cons,List.mem_append] at hm ⊢;rcases hm with hm|hm|hm|hm|hm|hm
    ·exact .inl hm
    ·exact .inr (.inl hm)
    ·exact .inr (.inr (.inl hm))
    ·exact .inr (.inr (.inr (.inl hm)))
    ·exact .inr (.inr (.inr (.inr (.inl hm))))
    ·refine .inr (.inr (.inr (.inr (.inr ?_))));rw[XO] at hm;obtain⟨x,hx,rfl⟩:=aT.mp hm;obtain⟨k,hk⟩:=sb x hx;exact aT.mpr ⟨_,hk,rfl⟩
  ·have c0:e.k-1≠0:=λz=>c0 (bh (by rw[z]))
   subst eEB;refine⟨cs1.map (kf (minus e)),m1,W',us.dropLast,_,_,?_,rfl,pa4,na4,hw4,wa4,rt2,by rw[Kt];exact ca,λu hu=>nz u (aY.mpr (.inl hu)),λx hx hn=>?_,sb4,fr4⟩
   ·rw[Vk,bx,df];omega
   ·rw[Kt] at hx hn;refine cl x hx ⟨hn.1,λhm=>?_⟩;rcases aY.mp hm with hm|hm
    ·rcases aY.mp hm with hm|hm
     ·exact hn.2 (aY.mpr (.inl hm))
     ·have xe:=ba.mp hm;have h1:=rt2.k _ he4;rw[Kt] at h1;have h1:e.k-1=(Fd (Lc cs1) e.z:Int)+((W'++X).count e.z:Int):=ek.symm.trans h1;rw[xe] at hn;have:=CG.mpr hn.1;have:=cg.mpr hn.2;omega
    ·exact hn.2 (aY.mpr (.inr hm))
 ·have c:¬0<us.length:=λz=>c (bh (by omega))
  have:W=[]:=dm (by have:=wa.1;omega);subst this;exact hq m1 H2 cs1 pa1 na1 rt1 ca cl sb fr
theorem sub_len {cs cs':List Cl}(nd:(cs'.map (·.z)).Nodup)(h:∀e∈cs',∃k,{ e with k:=k }∈cs):cs'.length<=cs.length:=by
 have:=Fp (m:=cs.map (·.z)) nd λx hx=>by
  obtain⟨e,he,rfl⟩:=aT.mp hx;obtain⟨k,hk⟩:=h e he;exact aT.mpr ⟨_,hk,rfl⟩
 rw[aS,aS] at this;exact this
theorem Hf {p:Addr}{q:Pl}{m:Int}{cs cs':List Cl}{bs:List (Int×Addr)}(h:∀e∈cs',∃k,{ e with k:=k }∈cs){a:Addr}(hm:a∈A5 p { q with n:=m } cs' bs):a∈A5 p q cs bs:=by
 unfold A5 at hm ⊢;simp only[List.mem_cons,List.mem_append] at hm ⊢;rcases hm with hm|hm|hm|hm|hm|hm
 ·exact .inl hm
 ·exact .inr (.inl hm)
 ·exact .inr (.inr (.inl hm))
 ·exact .inr (.inr (.inr (.inl hm)))
 ·exact .inr (.inr (.inr (.inr (.inl hm))))
 ·refine .inr (.inr (.inr (.inr (.inr ?_))));obtain⟨x,hx,rfl⟩:=aT.mp hm;obtain⟨k,hk⟩:=h x hx;exact aT.mpr ⟨_,hk,rfl⟩
theorem Tz {cs cs' cs'':List Cl}(h:∀e∈cs',∃k,{ e with k:=k }∈cs)(h':∀e∈cs'',∃k,{ e with k:=k }∈cs'):∀e∈cs'',∃k,{ e with k:=k }∈cs:=λe he=>by
 obtain⟨k,hk⟩:=h' e he;have:=h _ hk;exact this
def zk (cs:List Cl):V->Bool
 | .int n=>cs.any λe=>decide (e.z=n)&&decide (e.k=0)
 |_=>false
theorem Vr {cs:List Cl}(nd:(cs.map (·.z)).Nodup){e:Cl}(he:e∈cs):zk cs (.int e.z)=decide (e.k=0):=by
 rw[cq,bq];show(cs.any λx=>decide (x.z=e.z)&&decide (x.k=0))=true↔_;rw[cR];constructor
 ·rintro⟨x,hx,h⟩
  rw[bL,bq,bq] at h;rw[<-AE nd hx he h.1];exact h.2
 ·exact λh=>⟨e,he,by rw[bL,bq,bq];exact⟨rfl,h⟩⟩
theorem JH (f:V->Bool):∀ms:List Int,(ms.map V.int).filter f=(ms.filter λn=>f (.int n)).map V.int
 |[]=>rfl
 |n::ms=>by
  rw[bg];cases h:f (.int n) with
  |true=>rw[bR h,bR (p:=λn=>f (.int n)) h,bg,JH f ms]
  |false=>rw[bS (by rw[h];exact bC),bS (p:=λn=>f (.int n)) (by rw[h];exact bC),JH f ms]
def HB (K:W.Frag)(CP CT:Addr):Sp:=λvs H Q _=>∃p q cs bs,∃(X:List Int),vs=[.ref p]/\PAt CP CT H p q cs bs/\cs.length<=60/\R3 H cs/\Rt cs X/\
 ∀(m:Int) H' cs',PAt CP CT H' p { q with n:=m } cs' bs->R3 H' cs'->Rt cs' X->Cas X (λ_=>False) (Lc cs) (Lc cs')->(∀x∈Lc cs',¬Nf (Lc cs') X x.1)->(∀e∈cs',∃k,{ e with k:=k }∈cs)->Nc (A5 p q cs bs) H H'->Q .non H'
theorem Nk (T:Txt K mg Ab Ad Aa Af XC)(F:Fun K "sweep" "Pool.sweep" FT f fd)(GX:BH P w K mg base 1 Af "tags" ["self","number"] (JA K Af Aa))(C1:BH P w K mg base 2 Af "free" ["self","number"] (FF K Af Aa))(BR:BH P w K mg base 1 Af "numbers" ["self"] (DJ K Af Aa))(Ea:BH P w K mg base 3 Af "release" ["self","tag"] (Ge K Af Aa))(Dg:BH P w K mg base 1 Af "count" ["self","number"] (Fi K Af Aa)):FnOk P w K mg base BO 4 f fd ["self"] (HB K Af Aa):=by
 exists CK
 ·obtain⟨p,q,cs,bs,X,rfl,_⟩:=h;rfl
 obtain⟨p,q,cs,bs,X,rfl,pa,few,na,rt,hq⟩:=h;have hu:=BF hr;refine⟨_,(!Ah (@FE _ ["number","self"] [none,some 0] (1) _ _ _ _ _ _ _ _ _ _ _ _ _ _ CK.nd rfl (by trivial) rfl (!A0 (!Ce (pv 0) T.cl_Pool BR)) (by rfl) rfl (by repeat (first|exact trivial|refine⟨rfl,?_⟩)) (by repeat (first|exact trivial|refine⟨λh=>(by first|exact⟨_,rfl⟩|cases h),?_⟩)) (λC s H fp=>⟨(@An _ _ (0) _ (show(["number","self"]:List Str).Nodup by decide +kernel) rfl (by trivial) (by trivial)),(!C7 (!Au Bg (!A2 (pv 1) T.cl_Pool Dg (by trivial) (!Ac (pv 0) (!Ai))) (!Aj) (Ay _))),(pv 0)⟩) (by intro _;rfl) (by rfl) (by trivial)) (!Ak (!B2 b5 rfl (!A0 (pv 1)) (@An _ _ (2) _ CK.nd rfl (by trivial) (by trivial)) (!Ah (@AD _ _ (3) _ _ _ _ CK.nd rfl (by trivial) (!A2 (pv 0) T.cl_Pool GX (by trivial) (!Ac (pv 2) (!Ai))) (by rfl) (by trivial)) (!Ah (!A6 (!A2 (pv 0) T.cl_Pool C1 (by trivial) (!Ac (pv 2) (!Ai)))) (!Ak (!B2 b5 rfl (!A0 (pv 3)) (@An _ _ (4) _ CK.nd rfl (by trivial) (by trivial)) (!Ak (!A6 (!A2 (pv 0) T.cl_Pool Ea (by trivial) (!Ac (pv 4) (!Ai))))) (by intro _;rfl))))) (by intro _;rfl)))),?_⟩
 try dsimp only[BB,Cx.nox,Cx.wish]
 refine⟨_,rfl,p,q.dp,_,rfl,pa.t.1,rfl,p,q,cs,rfl,pa.t,few,λms l pm so nl=>?_⟩;have s1:=Al nl (.lst (ms.map V.int));refine⟨l,rfl,⟨_,AI.of Ae⟩,?_⟩;refine Kg (xs:=ms.map V.int) (zk cs) (λv=>v) (C2 (AI.of Ae)) (by rw[aS,pm.length_eq,aS];omega) (λx H2 R hx s2 hR=>?_) (λx H2 R hx hb s2 hR=>?_) λul H2 nl2 s2 hl2=>?_
 ·obtain⟨n,hn,rfl⟩:=aT.mp hx;obtain⟨e,he,rfl⟩:=aT.mp (pm.mem_iff.mp hn);have pa2:=pa.same (s1.trans s2);refine⟨_,rfl,p,q.dp,_,rfl,pa2.t.1,rfl,_,rfl,p,q,cs,e,rfl,pa2.t,he,rfl,_,rfl,?_⟩;rw[Vr pa.t.2.2.2 he] at hR;have e0:decide (V.int e.k=V.int 0)=decide (e.k=0):=by rw[cq,bq,bq];exact⟨V.int.inj,λh=>by rw[h]⟩
  rw[e0];exact hR
 ·exact⟨x,rfl,hR H2 (Ap.refl _)⟩
 have s3:=s1.trans s2;rw[JH,List.map_id'' (λ_=>rfl)] at hl2;generalize eU:ms.filter (λn=>zk cs (.int n))=U at hl2;have inU:∀u,u∈U↔∃e∈cs,e.z=u/\e.k=0:=λu=>by
  rw[<-eU,bM];constructor
  ·rintro⟨h1,h2⟩
   obtain⟨e,he,rfl⟩:=aT.mp (pm.mem_iff.mp h1);rw[Vr pa.t.2.2.2 he] at h2;exact⟨e,he,rfl,bP h2⟩
  ·rintro⟨e,he,rfl,hk⟩
   exact⟨pm.mem_iff.mpr (aT.mpr ⟨e,he,rfl⟩),by rw[Vr pa.t.2.2.2 he];exact bh hk⟩
 have ndU:U.Nodup:=by rw[<-eU];exact((pm.nodup_iff).mpr pa.t.2.2.2).sublist c9
 have nulH:H ul=none:=by
  cases h:H ul with
  |none=>rfl
  |some o=>rw[s1.get h] at nl2;cases nl2
 refine⟨_,rfl,ul,rfl,⟨_,AI.of hl2⟩,Cp (K:=K) (a:=ul) (xs:=U.map V.int) (λi σ H'=>∃(cs1:List Cl) (m1:Int) (v2 v3 v4:Option V),σ=[some (.ref p),some (.ref ul),v2,v3,v4]/\PAt Af Aa H' p { q with n:=m1 } cs1 bs/\R3 H' cs1/\Rt cs1 X/\H' ul=some (.lst (U.map V.int))/\
  Cas X (λ_=>False) (Lc cs) (Lc cs1)/\(∀x∈Lc cs1,Nf (Lc cs1) X x.1->x.1∈U.drop i)/\(∀u∈U.drop i,∃e∈cs1,e.z=u/\Nf (Lc cs1) X u)/\(∀e∈cs1,∃k,{ e with k:=k }∈cs)/\Nc (A5 p q cs bs) H H') ⟨cs,q.n,_,_,_,rfl,pa.same s3,λe he=>?_,rt,hl2,.refl _,λx hx h=>?_,λu hu=>?_,λe he=>⟨e.k,he⟩,Ap.frm s3⟩ ?_ ?_ ?_⟩
 ·obtain⟨us,h1,h2⟩:=na e he;exact⟨us,s3.get h1,AA.same s3 _ _ h2⟩
 ·rw[eC];obtain⟨e,he,rfl⟩:=aT.mp hx;have hk:=rt.k e he;have h1:Fd (Lc cs) e.z=0:=CG.mpr h.1;have h2:X.count e.z=0:=cg.mpr h.2;exact(inU _).mpr ⟨e,he,rfl,by omega⟩
 ·rw[eC] at hu;obtain⟨e,he,rfl,hk⟩:=(inU u).mp hu;exact⟨e,he,rfl,rt.none he hk⟩
 ·rintro i σ H' _ ⟨_,_,_,_,_,_,_,_,_,h,_⟩
  exact AI.of h
 ·rintro i x σ H' hx ⟨cs1,m1,v2,v3,v4,rfl,pa1,na1,rt1,hul,ca,cl,un,sb,fr⟩
  obtain⟨u,rfl,hu⟩:=ints_get hx;have ui:i<U.length:=(bu.mp hu).1;have dU:U.drop i=u::U.drop (i+1):=by rw[dE ui,(bu.mp hu).2]
  obtain⟨e,he,rfl,nf⟩:=un u (by rw[dU];exact bc);have hk:e.k=0:=by
   have:=rt1.k e he;have:=CG.mpr nf.1;have:=cg.mpr nf.2;omega
  obtain⟨zs,hz1,hz2⟩:=na1 e he;dsimp only[Bt];refine DI λEB eEB=>?_
  refine⟨_,rfl,p,q.dp,_,rfl,pa1.t.1,rfl,_,rfl,p,_,cs1,e,zs,rfl,pa1.t,he,hz1,λnl hnl=>?_⟩;have s4:=Al hnl (.lst zs);have pa4:=pa1.same s4;refine⟨_,rfl,p,q.dp,_,rfl,pa4.t.1,rfl,_,rfl,p,_,cs1,bs,e,rfl,pa4,he,λm5 H5 pa5 kp5 fr5=>?_⟩;have kl5:∀a ys,(upd H' nl (.lst zs)) a=some (.lst ys)->H5 a=some (.lst ys):=λa ys h=>kp5 a _ h (AL h pa4.t.1 (by intro z;cases z)) (by intro kvs z;cases z)
  have kt5:∀a ys,(upd H' nl (.lst zs)) a=some (.tup ys)->H5 a=some (.tup ys):=λa ys h=>kp5 a _ h (AL h pa4.t.1 (by intro z;cases z)) (by intro kvs z;cases z)
  have rt5:=rt1.out pa1.t.2.2.2 he hk;have fz:∀a,(upd H' nl (.lst zs)) a=none->True:=λ_ _=>trivial
  have nlH:H nl=none\/nl∈A5 p q cs bs:=by
   cases h:H nl with
   |none=>exact .inl rfl
   |some o=>
    by_cases hm:nl∈A5 p q cs bs
    ·exact .inr hm
    ·rw[fr _ _ h hm] at hnl;cases hnl
  have ulH:H ul=none:=nulH;generalize eN:(Ar e.bk).map (·.1)=N at rt5;have wa5:Qj H5 N zs:=by rw[<-eN];exact(Qj.reps hz2).keep λa ys h=>kt5 a ys (s4.get h)
  have sb5:∀x∈Ba e.z cs1,∃k,{ x with k:=k }∈cs:=λx hx=>sb x (Be.mp hx).1
  have fr5':Nc (A5 p q cs bs) H H5:=λa o h n=>fr5 a o (s4.get (fr a o h n)) λhm=>n (Hf sb hm)
  refine⟨_,rfl,nl,rfl,⟨_,AI.of (kl5 nl zs Ae)⟩,Cp (K:=K) (a:=nl) (xs:=zs) (λj σ H'=>∃(cs3:List Cl) (m3:Int) (v4:Option V),σ=[some (.ref p),some (.ref ul),some (.int e.z),some (.ref nl),v4]/\PAt Af Aa H' p { q with n:=m3 } cs3 bs/\R3 H' cs3/\Rt cs3 (N.drop j++X)/\H' ul=some (.lst (U.map V.int))/\H' nl=some (.lst zs)/\Qj H' N zs/\
   Cas X (λ_=>False) (Lc cs) (Lc cs3)/\(∀x∈Lc cs3,Nf (Lc cs3) (N.drop j++X) x.1->x.1∈U.drop (i+1))/\(∀u∈U.drop (i+1),∃e∈cs3,e.z=u/\Nf (Lc cs3) (N.drop j++X) u)/\(∀e∈cs3,∃k,{ e with k:=k }∈cs)/\Nc (A5 p q cs bs) H H') ⟨Ba e.z cs1,m5,_,rfl,pa5,λx hx=>?_,by rw[eC];exact rt5,kl5 _ _ (s4.get hul),kl5 nl zs Ae,wa5,ca.trans (.step e.z nf (λh=>h) (by rw[E3];exact .refl _)),λx hx h=>?_,λu' hu'=>?_,sb5,fr5'⟩ ?_ ?_ ?_⟩
  ·obtain⟨ys,h1,h2⟩:=na1 x (Be.mp hx).1;exact⟨ys,kl5 _ _ (s4.get h1),AX (λa ys h=>kt5 a ys (s4.get h)) _ _ h2⟩
  ·rw[E3] at hx h;have hx':=CH.mp hx;rw[eC] at h;have:=cl x hx'.1 ⟨λy hy=>?_,λhm=>h.2 (aY.mpr (.inr hm))⟩
   ·rw[dU] at this;exact(bE.mp this).resolve_left hx'.2
   ·by_cases hy1:y.1=e.z
    ·have:y=(e.z,(Ar e.bk).map (·.1)):=AE (Jk pa1.t.2.2.2) hy (CU he) hy1;rw[this,eN];exact λhm=>h.2 (aY.mpr (.inl hm))
    ·exact h.1 y (CH.mpr ⟨hy,hy1⟩)
  ·obtain⟨c,hc,rfl,nc⟩:=un u' (by rw[dU];exact a9 _ hu');have ne:c.z≠e.z:=λz=>by
    have:=ndU.sublist (List.drop_sublist i U);rw[dU,bZ] at this;exact this.1 (by rw[<-z];exact hu')
   refine⟨c,Be.mpr ⟨hc,ne⟩,rfl,?_⟩;rw[E3,eC];refine⟨λy hy=>nc.1 y (CH.mp hy).1,λhm=>?_⟩;rcases aY.mp hm with hm|hm
   ·exact nc.1 _ (CU he) (by rw[eN];exact hm)
   ·exact nc.2 hm
  ·rintro j σ H' _ ⟨_,_,_,_,_,_,_,_,h,_⟩
   exact AI.of h
  ·rintro j x σ H6 hx6 ⟨cs3,m3,v4,rfl,pa6,na6,rt6,hul6,hnl6,wa6,ca6,cl6,un6,sb6,fr6⟩
   have jz:j<zs.length:=(bu.mp hx6).1;have jN:j<N.length:=by have:=wa6.1;omega
   obtain⟨a,r,ha1,ha2⟩:=wa6.2 j N[j] (aW jN);rw[hx6] at ha1;cases ha1;have dN:N.drop j=N[j]::N.drop (j+1):=dE jN;rw[dN] at rt6 cl6 un6;have len6:cs3.length<=60:=bQ (sub_len pa6.t.2.2.2 sb6) few;dsimp only[Bt];refine DI λEC eEC=>?_
   refine⟨_,rfl,p,q.dp,_,rfl,pa6.t.1,rfl,_,rfl,p,_,cs3,bs,a,N[j],r,N.drop (j+1)++X,rfl,pa6,len6,ha2,na6,rt6,λm7 H7 cs7 pa7 na7 rt7 ca7 cl7 sb7 fr7=>?_⟩;have nla:∀{b o},H6 b=some o->(∀C d fs,o≠.ins C d fs)->(∀kvs,o≠.dK kvs)->H7 b=some o:=λ{b o} h n1 n2=>fr7 b o h (pa6.apart h n1 n2)
   have kl7:∀b ys,H6 b=some (.lst ys)->H7 b=some (.lst ys):=λb ys h=>nla h (by intro C d fs z;cases z) (by intro kvs z;cases z)
   have kt7:∀b ys,H6 b=some (.tup ys)->H7 b=some (.tup ys):=λb ys h=>nla h (by intro C d fs z;cases z) (by intro kvs z;cases z)
   subst eEC;refine⟨cs7,m7,_,rfl,pa7,na7,rt7,kl7 _ _ hul6,kl7 _ _ hnl6,wa6.keep kt7,ca6.trans (ca7.weak (λy hy=>aY.mpr (.inr hy)) (λ_ h=>h.elim)),λy hy h=>?_,λu' hu'=>?_,Tz sb6 sb7,λb o h n=>fr7 b o (fr6 b o h n) λhm=>n (Hf sb6 hm)⟩
   ·obtain⟨h1,h2⟩:=cl7 y hy h;refine cl6 y (ca7.sub y hy) ⟨h1.1,λhm=>?_⟩;rcases bE.mp hm with hm|hm
    ·exact h2 hm
    ·exact h1.2 hm
   ·obtain⟨c,hc,rfl,nc⟩:=un6 u' hu';have kp:=ca7.keep (CU hc) ⟨nc.sub (λ_ h=>h) (λy hy=>a9 _ hy),λz=>nc.2 (by rw[show c.z=N[j] from z];exact bc)⟩;obtain⟨c',hc',ec⟩:=aT.mp kp;refine⟨c',hc',congrArg Prod.fst ec,nc.sub ca7.sub (λy hy=>a9 _ hy)⟩
  ·rintro σ H6 ⟨cs3,m3,v4,rfl,pa6,na6,rt6,hul6,hnl6,wa6,ca6,cl6,un6,sb6,fr6⟩
   have e0:N.drop zs.length=[]:=fR (by have:=wa6.1;omega);rw[e0] at rt6 cl6 un6;subst eEB;exact⟨cs3,m3,_,_,_,rfl,pa6,na6,rt6,hul6,ca6,cl6,un6,sb6,fr6⟩
 ·rintro σ H' ⟨cs1,m1,v2,v3,v4,rfl,pa1,na1,rt1,hul,ca,cl,un,sb,fr⟩
  have e0:U.drop (U.map V.int).length=[]:=fR (by rw[aS];exact aZ _);rw[e0] at cl;exact hq m1 H' cs1 pa1 na1 rt1 ca (λx hx h=>nomatch cl x hx h) sb fr
end
open M06 M10
section
variable {P:Program}{w:World}{K:W.Frag}{mg:Str->Option Value}{base:Heap}{f Ab Ad Aa Af:Addr}{XC:Nat->Addr}{fd:FuncData}
theorem PAt.keep {CP CT:Addr}{H H':Hp}{p:Addr}{q:Pl}{cs:List Cl}{bs:List (Int×Addr)}(h:PAt CP CT H p q cs bs)(ko:∀a o,a∈A5 p q cs bs->H a=some o->H' a=some o)(kt:∀c ys,H c=some (.tup ys)->H' c=some (.tup ys)):PAt CP CT H' p q cs bs:=by
 have m1:p∈A5 p q cs bs:=by unfold A5;simp
 have m2:q.dt∈A5 p q cs bs:=by unfold A5;simp
 have m3:q.dz∈A5 p q cs bs:=by unfold A5;simp
 have m4:q.dd∈A5 p q cs bs:=by unfold A5;simp
 have m5:∀x∈bs,x.2∈A5 p q cs bs:=λx hx=>by
  unfold A5;simp only[List.mem_cons,List.mem_append];exact .inr (.inr (.inr (.inr (.inl (aT.mpr ⟨x,hx,rfl⟩)))))
 have m6:∀x∈cs,x.c∈A5 p q cs bs:=λx hx=>by
  unfold A5;simp only[List.mem_cons,List.mem_append];exact .inr (.inr (.inr (.inr (.inr (aT.mpr ⟨x,hx,rfl⟩)))))
 refine{ h with t:=⟨ko _ _ m1 h.t.1,ko _ _ m2 h.t.2.1,λe he=>?_,h.t.2.2.2⟩,d:=ko _ _ m4 h.d,b:={ h.b with h:=ko _ _ m3 h.b.h,d:=λx hx=>⟨ko _ _ (m5 x hx) (h.b.d x hx).1,(h.b.d x hx).2⟩ } };have hc:=(h.t.2.2.1 e he).1;exact(h.t.2.2.1 e he).tup ((ko _ _ (m6 e he) hc).trans hc.symm) kt
def Y5 (p:Addr)(q:Pl)(cs:List Cl)(bs:List (Int×Addr))(bo:Addr)(ds:List Addr):Prop:=bo∉A5 p q cs bs/\∀d∈ds,d∉A5 p q cs bs
theorem PAt.kb {CP CT CB:Addr}{H H':Hp}{p:Addr}{q:Pl}{cs:List Cl}{bs:List (Int×Addr)}{bo:Addr}{ds:List Addr}{b0:List Cv}{n:Int}{lf:V}(h:PAt CP CT H p q cs bs)(hB:DE CB H bo ds b0 n lf)(ap:Y5 p q cs bs bo ds)(k:Kb H H' bo ds):PAt CP CT H' p q cs bs:=by
 obtain⟨dx,s0,h1,_⟩:=id hB;exact h.keep (λa o ha e=>k a o e (λz=>ap.1 (by rw[<-z];exact ha)) λz=>ap.2 a z ha) λc ys e=>k c _ e (AL e h1 (by intro z;cases z)) (hB.notin e (by intro kvs z;cases z))
theorem G7:∀{l m:List Int},l.Perm m->l.Pairwise (·<=·)->m.Pairwise (·<=·)->l=m
 |[],m,p,_,_=>by rw[List.nil_perm.mp p]
 |a::l,[],p,_,_=>by have:=p.length_eq;cases this
 |a::l,b::m,p,h1,h2=>by
  rw[List.pairwise_cons] at h1 h2;have e:a=b:=by
   have ha:=p.mem_iff.mp (bc (a:=a) (l:=l));have hb:=p.mem_iff.mpr (bc (a:=b) (l:=m));rcases bE.mp ha with ha|ha
   ·exact ha
   rcases bE.mp hb with hb|hb
   ·exact hb.symm
   have:=h1.1 b hb;have:=h2.1 a ha;omega
  subst e;rw[G7 p.cons_inv h1.2 h2.2]
def HP (e:Cl):List Int:=C3 (Fq e.z e.y e.bk)
def MX (m:Int)(e:Cl):List (Int×Int×List Int):=[(e.z%m,e.z,HP e),((e.z+1)%m,e.z,HP e)]
def ops (m:Int):List Cl->List (Int×Int×List Int)
 |[]=>[]
 |e::ss=>MX m e++ops m ss
def FA (bs:List Cv)(l:List (Int×Int×List Int)):List Cv:=l.foldl (λbs x=>bs.set x.1.toNat (F2 (bs.getD x.1.toNat []) x.2.1 x.2.2)) bs
theorem Wk (bs:List Cv)(l m:List (Int×Int×List Int)):FA bs (l++m)=FA (FA bs l) m:=e8
theorem Cz:∀(l:List (Int×Int×List Int)) (bs:List Cv),(FA bs l).length=bs.length
 |[],_=>rfl
 |x::l,bs=>by
  show(FA (bs.set _ _) l).length=_;rw[Cz l,fW]
theorem XW (bs:List Cv)(z:Int)(row:List Int)(l:List Int):wr bs z row l=FA bs (l.map λx=>(x,z,row)):=by
 unfold wr FA;rw[List.foldl_map]
theorem Jx (m:Int):∀ss:List Cl,(ops m ss).length=2*ss.length
 |[]=>rfl
 |e::ss=>by
  show(MX m e++ops m ss).length=_;rw[bx,Jx m ss,bT];show 2+_=_;omega
theorem Mc {m:Int}:∀{ss:List Cl} {i:Nat} {e:Cl},ss[i]?=some e->∀k,k<=2->(ops m ss).take (2*i+k)=ops m (ss.take i)++(MX m e).take k
 |[],_,_,h,_,_=>nomatch h
 |x::ss,0,e,h,k,hk=>by
  cases h;show(MX m x++ops m ss).take (0+k)=[]++_;rw[fw,List.nil_append,List.take_append_of_le_length hk]
 |x::ss,i+1,e,h,k,hk=>by
  have ih:=Mc (m:=m) (ss:=ss) (i:=i) (e:=e) h k hk;show(MX m x++ops m ss).take (2*(i+1)+k)=(MX m x++ops m (ss.take i))++_;rw[show 2*(i+1)+k=(MX m x).length+(2*i+k) by show _=2+_;omega,List.take_length_add_append,ih,cn]
theorem G8 (lf:V)(a:Nat):∀b,JE (JE lf a) b=JE lf (a+b)
 |0=>rfl
 |b+1=>by show GQ (JE (JE lf a) b)=GQ (JE lf (a+b));rw[G8 lf a b]
theorem UP {lf:V}(h:OW lf):∀{i:Nat},(∀j,j<i->JE lf j≠.int 0)->OW (JE lf i)
 |0,_=>h
 |i+1,n=>PM (UP h λj hj=>n j (cJ hj)) (n i (eD i))
def Kd (H H':Hp):Prop:=∀c o,H c=some o->(∀C d fs,o≠.ins C d fs)->(∀kvs,o≠.dK kvs)->H' c=some o
theorem Kd.t {H H':Hp}(k:Kd H H'):∀c ys,H c=some (.tup ys)->H' c=some (.tup ys):=λc ys h=>k c _ h (by intro C d fs z;cases z) (by intro kvs z;cases z)
theorem Kd.l {H H':Hp}(k:Kd H H'):∀c ys,H c=some (.lst ys)->H' c=some (.lst ys):=λc ys h=>k c _ h (by intro C d fs z;cases z) (by intro kvs z;cases z)
theorem Kd.of {H H':Hp}(s:Ap H H'):Kd H H':=λ_ _ h _ _=>s.get h
theorem Kd.trans {H H1 H2:Hp}(k:Kd H H1)(l:Kd H1 H2):Kd H H2:=λc o h a b=>l c o (k c o h a b) a b
def JS (q:Pl)(cs:List Cl):List Cl:=cs.filter λe=>decide (e.z∈q.D)
def Dn (K:W.Frag)(CP CT CB:Addr)(XC:Nat->Addr):Sp:=λvs H Q E=>∃p q cs bs ds b0 n lf ss,vs=[.ref p]/\PAt CP CT H p q cs bs/\cs.length<=60/\DE CB H q.bo ds b0 n lf/\OW lf/\Y5 p q cs bs q.bo ds/\2<=b0.length/\(∀c∈b0,c.length<=700)/\(∀e∈cs,FD e.z e.y)/\ss.Perm (JS q cs)/\(ss.map (·.z)).Pairwise (·<=·)/\
 (∀i,i<2*ss.length->(∀j,j<i->JE lf j≠.int 0)->JE lf i=.int 0->∀H',DE CB H' q.bo ds (FA b0 ((ops b0.length ss).take i)) (n+(i:Int)) (JE lf i)->Kb H H' q.bo ds->E (.ref (XC 0)) none H')/\
 ((∀j,j<2*ss.length->JE lf j≠.int 0)->∀H',PAt CP CT H' p { q with D:=[] } cs bs->DE CB H' q.bo ds (FA b0 (ops b0.length ss)) (n+2*(ss.length:Int)) (JE lf (2*ss.length))->Kd H H'->Q .non H')
theorem Jf (T:Txt K mg Ab Ad Aa Af XC)(F:Fun K "lay_draft" "Pool.lay_draft" Dw f fd)(VT:Yp P w K mg base 10 "lay" ["boards","number","birth","block"] (VP K Ad XC))(BK:BH P w K mg base 1 Af "tag" ["self","number"] (EJ K Af Aa)):FnOk P w K mg base (OT P w) 11 f fd ["self"] (Dn K Af Aa Ad XC):=by
 refine F.okX EN (λvs H Q E h=>?_) (λcdv A outer s H vs Q E hr h=>?_)
 ·obtain⟨p,q,cs,bs,ds,b0,n,lf,ss,rfl,_⟩:=h;rfl
 obtain⟨p,q,cs,bs,ds,b0,n,lf,ss,rfl,pa,few,hB,lok,ap,b2,be,nbs,pss,sss,hE,hq⟩:=h;have hu:=BF hr;refine⟨_,(!Ah (!B2 PassesOwn.leaving rfl (!A0 (!Aq (Gs rfl) (by rfl) T.b_sorted Ct (!Ac (!AN (pv 0)) (!Ai)))) (@An _ _ (1) _ EN.nd rfl (by trivial) (by trivial)) (!Ak (!A6 (!Yw VT (by trivial) rfl RJ (!Ac (!AN (pv 0)) (!Ac (pv 1) (!Ac (!Aw AF (!A2 (pv 0) T.cl_Pool BK (by trivial) (!Ac (pv 1) (!Ai))) (!Aj) (λ_ _=>rfl)) (!Ac (!B8 hu (!AN (pv 0)) (pv 1) (λ_ _=>rfl)) (!Ai)))))))) (by intro _;rfl)) (!Ak (!A6 (!S9 (!AN (pv 0)) ⟨rfl,rfl,rfl,rfl⟩)))),?_⟩;dsimp only[BB];have dl:(JS q cs).length<=cs.length:=bW _ _;have lss:ss.length<=60:=by rw[pss.length_eq];omega
 refine⟨_,rfl,p,Af,q.dp,_,_,rfl,pa.t.1,T.cl_Pool,T.n_Pool_draft,rfl,q.dd,_,(JS q cs).map (·.z),rfl,pa.d,by unfold Ik;rw[bw,bw];rfl,.inl (by rw[aS];omega),λms l pm so nl=>?_⟩;obtain rfl:ms=ss.map (·.z):=G7 (pm.trans (pss.map _).symm) so sss;have s1:=Al nl (.lst ((ss.map (·.z)).map V.int));have hB1:=hB.same s1;have sm:∀{i:Nat} {e:Cl},ss[i]?=some e->e∈cs/\e.z∈q.D:=λ{i e} h=>by
  have:=bM.mp (pss.mem_iff.mp (a8 h));exact⟨this.1,bP this.2⟩
 refine⟨l,rfl,⟨_,AI.of Ae⟩,?_⟩;refine Cp (K:=K) (a:=l) (xs:=(ss.map (·.z)).map V.int) (λi σ H'=>∃v1,σ=[some (.ref p),v1]/\PAt Af Aa H' p q cs bs/\DE Ad H' q.bo ds (FA b0 (ops b0.length (ss.take i))) (n+2*(i:Int)) (JE lf (2*i))/\(∀c∈FA b0 (ops b0.length (ss.take i)),c.length<=700+2*i)/\H' l=some (.lst ((ss.map (·.z)).map V.int))/\Kb H H' q.bo ds/\∀j,j<2*i->JE lf j≠.int 0)
  ⟨none,rfl,pa.same s1,by rw[eY,show n+2*((0:Nat):Int)=n by omega];exact hB1,be,Ae,Ap.kb s1 _ _,λj h=>absurd h (by omega)⟩ ?_ ?_ ?_
 ·rintro i σ H' _ ⟨_,_,_,_,_,h,_⟩
  exact AI.of h
 ·rintro i x σ H' hx ⟨v1,rfl,pa',hB',cb,hl',kb,nz⟩
  rw[bz,bz] at hx;obtain⟨zz,hz,rfl⟩:=cy.mp hx;obtain⟨e,hss,rfl⟩:=cy.mp hz;obtain⟨he,hD⟩:=sm hss;have il:i<ss.length:=(bu.mp hss).1;have ce:=pa'.t.2.2.1 e he;have g:BG H' q.dd (.int e.z) (some e.v):=by
   have:=BG.k (k:=Sum.inl e.z) pa'.d;rw[UX pa'.t.2.2.2 he hD] at this;exact this
  have lb:(FA b0 (ops b0.length (ss.take i))).length=b0.length:=Cz _ _;have ek:∀k,k<=2->wr (FA b0 (ops b0.length (ss.take i))) e.z (C3 (Fq e.z e.y e.bk)) ((DW (FA b0 (ops b0.length (ss.take i))) e.z).take k)=FA b0 ((ops b0.length ss).take (2*i+k)):=λk hk=>by
   rw[Mc hss k hk,Wk,XW,ik];unfold DW;rw[lb];rfl
  dsimp only[Bt];refine DI λEB eEB=>?_
  refine⟨_,rfl,p,Af,q.dp,_,_,rfl,pa'.t.1,T.cl_Pool,T.n_Pool_boards,rfl,_,rfl,_,rfl,p,q.dp,_,rfl,pa'.t.1,rfl,_,rfl,p,q,cs,e,rfl,pa'.t,he,e.ta,_,_,_,rfl,rfl,AV.of ce.2.1,rfl,_,rfl,p,Af,q.dp,_,_,rfl,pa'.t.1,T.cl_Pool,T.n_Pool_draft,rfl,_,rfl,q.dd,_,rfl,g,q.bo,ds,_,_,_,e.z,e.y,e.v,e.bk,rfl,hB',UP lok nz,by rw[lb];omega,λc hc=>?_,ce.2.2.1,ce.2.2.2,nbs e he,λk hk ne e0 H2 hB2 k2=>?_,λne H2 hB2 k2=>?_⟩
  ·have:=cb c hc;omega
  ·rw[ek k (by omega),G8] at hB2;rw[G8] at e0;refine hE (2*i+k) (by omega) (λj hj=>?_) e0 H2 (by rw[show n+((2*i+k:Nat):Int)=n+2*(i:Int)+(k:Int) by omega];exact hB2) (kb.trans k2)
   by_cases h:j<2*i
   ·exact nz j h
   ·have:=ne (j-2*i) (by omega);rw[G8,show 2*i+(j-2*i)=j by omega] at this;exact this
  ·have e2:=ek 2 (aZ 2);rw[bJ (show(DW _ e.z).length<=2 from aZ 2)] at e2;have e3:FA b0 (ops b0.length (ss.take (i+1)))=FA b0 ((ops b0.length ss).take (2*i+2)):=by
    rw[Mc hss 2 (aZ 2),bN,hss]
    congr 1
    have:∀a:List Cl,ops (b0.length:Int) (a++[e])=ops b0.length a++MX b0.length e:=λa=>by
     induction a with
     |nil=>show MX _ e++[]=_;rw[cm];rfl
     |cons x a ih=>show MX _ x++ops _ (a++[e])=(MX _ x++ops _ a)++_;rw[ih,cn]
    exact this _
   have nll:l≠q.bo:=by
    obtain⟨dx,s0,h1,_⟩:=id hB';exact AL hl' h1 (by intro z;cases z)
   rw[G8] at hB2;subst eEB;refine⟨_,rfl,pa'.kb hB' ap k2,?_,λc hc=>?_,k2 _ _ hl' nll (hB'.notin hl' (by intro kvs z;cases z)),kb.trans k2,λj hj=>?_⟩
   ·rw[e3,<-e2,show n+2*((i+1:Nat):Int)=n+2*(i:Int)+2 by omega];exact hB2
   ·rw[e3,<-e2] at hc;have:=MJ _ cb c hc;have:(DW (FA b0 (ops b0.length (ss.take i))) e.z).length=2:=rfl;omega
   ·by_cases h:j<2*i
    ·exact nz j h
    ·have:=ne (j-2*i) (by omega);rw[G8,show 2*i+(j-2*i)=j by omega] at this;exact this
 ·rintro σ H' ⟨v1,rfl,pa',hB',cb,hl',kb,nz⟩
  rw[aS,aS] at hB' nz;rw[dv] at hB';refine⟨_,rfl,p,Af,q.dp,_,_,rfl,pa'.t.1,T.cl_Pool,T.n_Pool_draft,rfl,q.dd,_,rfl,pa'.d,?_⟩;have mdd:q.dd∈A5 p q cs bs:=by unfold A5;simp
  have no:∀{a u},H' a=some u->(∀kvs,u≠.dK kvs)->a≠q.dd:=λ{a u} h n zz=>by
   rw[zz,pa'.d] at h;exact n _ (bf h).symm
  obtain⟨dx,s0,h1,h2,h3,h4⟩:=id hB';have tp:∀c ys,H' c=some (.tup ys)->(upd H' q.dd (.dK [])) c=some (.tup ys):=λc ys h=>by rw[Ag (no h (by intro kvs z;cases z))];exact h
  have lp:∀c ys,H' c=some (.lst ys)->(upd H' q.dd (.dK [])) c=some (.lst ys):=λc ys h=>by rw[Ag (no h (by intro kvs z;cases z))];exact h
  obtain⟨dxb,sb,hb1,_⟩:=id hB;refine hq nz _ ⟨⟨?_,?_,λe he=>?_,pa'.t.2.2.2⟩,?_,{ pa'.b with h:=?_,d:=λx hx=>⟨?_,(pa'.b.d x hx).2⟩ },pa'.n1,pa'.n2,pa'.n3,pa'.c,pa'.z,pa'.w,pa'.f1,pa'.f2⟩ ⟨dx,s0,?_,lp _ _ h2,h3,?_⟩ (λc o h n1 n2=>?_)
  ·rw[Ag (no pa'.t.1 (by intro kvs z;cases z))];exact pa'.t.1
  ·show(upd H' q.dd (.dK [])) q.dt=_;rw[Ag pa'.n2];exact pa'.t.2.1
  ·have hc:=(pa'.t.2.2.1 e he).1;exact(pa'.t.2.2.1 e he).tup (Ag (no hc (by intro kvs z;cases z))) tp
  ·show(upd H' q.dd (.dK [])) q.dd=some (.dK (Ik [] cs));rw[Ae];have:cs.filter (λe=>decide (e.z∈([]:List Int)))=[]:=fQ.mpr λe _ h=>nomatch bP h
   unfold Ik;rw[this];rfl
  ·show(upd H' q.dd (.dK [])) q.dz=_;rw[Ag pa'.n3];exact pa'.b.h
  ·show(upd H' q.dd (.dK [])) x.2=_;rw[Ag (pa'.b.d x hx).2.2.2];exact(pa'.b.d x hx).1
  ·rw[Ag (no h1 (by intro kvs z;cases z))];exact h1
  ·exact h4.same lp λd hd kvs h=>by rw[Ag (λz=>ap.2 d hd (by rw[z];exact mdd))];exact h
  ·have h5:=kb c _ h (AL h hb1 (n1 _ _ _)) (hB.notin h n2);rw[Ag (no h5 n2)];exact h5
def KD (K:W.Frag):Sp:=λvs H Q _=>∃(c m:Int),vs=[.int c,.int m]/\0<=m/\m<=1000/\
 ∀(r:Addr) (H':Hp) (ns:List Int),Ap H H'->H r=none->H' r=some (.lst (ns.map V.int))->ns.length=m.toNat->(∀x∈ns,0<=x/\x<1000000)->Q (.ref r) H'
theorem O5 (T:Txt K mg Ab Ad Aa Af XC)(F:Fun K "_law_row" "_law_row" HR f fd):FnOk P w K mg base BO 1 f fd ["_law_cell","_law_many"] (KD K):=by
 exists Ci
 ·obtain⟨c,m,rfl,_⟩:=h;rfl
 obtain⟨c,m,rfl,hm0,hm1,q⟩:=h;refine⟨_,(!Ah (@AD _ _ (2) _ _ _ _ Ci.nd rfl (by trivial) (!BJ (!Ai)) (by rfl) (by trivial)) (!Ah (@AD _ _ (3) _ _ _ _ Ci.nd rfl (by trivial) (pv 0) (by rfl) (by trivial)) (!Ah (!AM (!Au Nv (!Aq PF (by rfl) T.b_abs VR (!Ac (pv 0) (!Ai))) (!As Mj (!Aj) (!Aj)) (Ay _)) (!Ak (@AD _ _ (3) _ _ _ _ Ci.nd rfl (by trivial) (!As Bi (!As A3 (pv 0) (!Aj)) (!Aj)) (by rfl) (by trivial))) (!Av)) (!Ah (!B2 b5 rfl (!C4 rfl T.b_range (!Ac (pv 1) (!Ai))) (@An _ _ (4) _ Ci.nd rfl (by trivial) (by trivial)) (!Ak (!AM (!Au Nv (!Aq PF (by rfl) T.b_abs VR (!Ac (pv 0) (!Ai))) (!As Mj (!Aj) (!Aj)) (Ay _)) (!Ah (@AD _ _ (3) _ _ _ _ Ci.nd rfl (by trivial) (!As A3 (!As Eg (pv 3) (!Aj)) (!Aj)) (by rfl) (by trivial)) (!Ak (!A6 (!Gd b7 dM dJ DX (pv 2) (!Ac (!As A3 (!As G6 (!As A3 (!As Bi (!As Bi (!As Eg (pv 3) (pv 3)) (!As Eg (!Aj) (pv 3))) (pv 4)) (!Aj)) (!Aj)) (!As Mj (!Aj) (!Aj))) (!Ai)))))) (!Ah (!A6 (!Gd b7 dM dJ DX (pv 2) (!Ac (!As A3 (pv 3) (!As Mj (!Aj) (!Aj))) (!Ai)))) (!Ak (@AD _ _ (3) _ _ _ _ Ci.nd rfl (by trivial) (!As G6 (pv 3) (!As Mj (!Aj) (!Aj))) (by rfl) (by trivial)))))) (by intro _;rfl)) (!Ak (!Ao (pv 2))))))),?_⟩;refine⟨Jo,λg hg=>?_⟩;refine⟨_,rfl,?_⟩;have z1:∀(N:St->Hp->Prop),(∀z:Int,N [some (.int c),some (.int m),some (.ref g),some (.int z),none] (upd H g (.lst [])))->Qu (UU (XI (UE λi j=>V.bl (decide (i<j))) (aw (λxs H Q=>∃i,xs=[V.int i]/\Q (V.int (if i<0 then -i else i)) H) (Sa (Tq 0) MT)) (XI (rI Zm λi j=>V.int (i^j.toNat)) (tC (V.int 10)) (tC (V.int 18))))) (W7 (XI (UE λi j=>V.int (i+j)) (XI (rI (λx j=>0<j) λi j=>V.int (i%j)) (Tq 0) (tC (V.int 2147483647))) (tC (V.int 1))) (Bt 3)) Dr { nx:=N,rt:=Q } [some (.int c),some (.int m),some (.ref g),some (.int c),none] (upd H g (.lst [])):=λN hN=>by
  refine⟨_,rfl,_,rfl,_,_,rfl,rfl,⟨by decide,by decide,by decide⟩,_,_,rfl,rfl,_,rfl,Co (λ_=>?_) (λ_=>?_)⟩
  ·exact⟨_,rfl,_,_,rfl,rfl,(by show(0:Int)<2147483647;decide),_,_,rfl,rfl,hN _⟩
  ·exact hN _
 refine z1 _ λz0=>?_
 refine⟨_,rfl,m,rfl,by omega,by omega,J0 (lo:=0) (n:=m.toNat) (λi σ H2=>∃(ns:List Int) (z:Int) (v:Option V),σ=[some (.int c),some (.int m),some (.ref g),some (.int z),v]/\Ap H H2/\H2 g=some (.lst (ns.map V.int))/\ns.length=i/\∀x∈ns,0<=x/\x<1000000)
  ⟨[],_,none,rfl,Al hg _,Ae,rfl,λ_ h=>nomatch h⟩ ?_ ?_⟩
 ·rintro i σ H2 hi ⟨ns,z,v,rfl,s2,hg2,hl,hb⟩
  refine⟨_,rfl,_,rfl,_,_,rfl,rfl,⟨by decide,by decide,by decide⟩,_,_,rfl,rfl,_,rfl,Co (λ_=>?_) (λ_=>?_)⟩
  ·refine⟨_,rfl,_,_,rfl,rfl,.inr ⟨by decide,by decide⟩,_,_,rfl,rfl,(by show(0:Int)<2147483647;decide),?_⟩;have b0:=cM (z*48271) (show(2147483647:Int)≠0 by decide);have b1:=dw (z*48271) (show(0:Int)<2147483647 by decide);dsimp only;generalize z*48271%2147483647=y at b0 b1;refine⟨_,rfl,.inl ⟨rfl,_,AI.of hg2⟩,_,rfl,_,rfl,_,_,rfl,rfl,.inl ⟨by omega,by omega⟩,_,rfl,_,_,rfl,rfl,.inl ⟨by decide,by decide⟩,_,_,rfl,rfl,_,rfl,_,_,rfl,rfl,_,_,rfl,rfl,(by show(0:Int)<2147483629;decide),_,_,rfl,rfl,⟨by decide,by decide⟩,_,_,rfl,rfl,⟨by decide,by decide,by decide⟩,_,_,rfl,rfl,(by show(0:Int)<10^(6:Int).toNat;decide),?_⟩;refine⟨g,_,_,rfl,rfl,hg2,Bd (by rw[aS];omega),?_⟩;refine⟨ns++[_],_,_,rfl,AW s2 hg _,by rw[Ae,bA];rfl,by rw[bx,hl];rfl,λx hx=>?_⟩;rcases aY.mp hx with hx|hx
   ·exact hb x hx
   ·rw[ba.mp hx];exact⟨cM _ (by decide),dw _ (by decide)⟩
  ·refine⟨_,rfl,.inl ⟨rfl,_,AI.of hg2⟩,_,rfl,_,_,rfl,rfl,⟨by decide,by decide,by decide⟩,_,_,rfl,rfl,(by show(0:Int)<10^(6:Int).toNat;decide),g,_,_,rfl,rfl,hg2,Bd (by rw[aS];omega),?_⟩;refine⟨_,rfl,_,_,rfl,rfl,⟨by decide,by decide,by decide⟩,_,_,rfl,rfl,⟨by decide,by decide⟩,?_⟩;refine⟨ns++[_],_,_,rfl,AW s2 hg _,by rw[Ae,bA];rfl,by rw[bx,hl];rfl,λx hx=>?_⟩;rcases aY.mp hx with hx|hx
   ·exact hb x hx
   ·rw[ba.mp hx];exact⟨cM _ (by decide),dw _ (by decide)⟩
 ·rintro σ H2 ⟨ns,z,v,rfl,s2,hg2,hl,hb⟩
  exact⟨_,rfl,q g _ ns s2 hg hg2 hl hb⟩
def HD (K:W.Frag):Sp:=λvs H Q _=>vs=[]/\Q (.str SG) H
theorem Nd (T:Txt K mg Ab Ad Aa Af XC)(F:Fun K "_law_signs" "_law_signs" F9 f fd):FnOk P w K mg base BO 1 f fd [] (HD K):=by
 exists MU
 ·obtain⟨rfl,_⟩:=h;rfl
 obtain⟨rfl,q⟩:=h;refine⟨_,(!Ak (!Ao (!Lu))),?_⟩;have e:PySem.Str.ofString " !\"#$&'()*+,-./0123456789:;<=>?@ABCDEFGHIJKLMNOPQRSTUVWXYZ[\\]^_`abcdefghijklmnopqrstuvwxyz{|}~"=SG:=by decide +kernel
 rw[<-e] at q;exact q
def Jl (K:W.Frag):Sp:=λvs H Q _=>∃v b,vs=[v]/\Rep NL H (BW b) v/\Cu b/\∀l H' us,Ap H H'->H l=none->H' l=some (.lst us)->AA NL H' ((Ar b).map CC) us->Q (.ref l) H'
theorem N6 (T:Txt K mg Ab Ad Aa Af XC)(F:Fun K "_law_tags" "_law_tags" GR f fd):FnOk P w K mg base BO 1 f fd ["_law_block_here"] (Jl K):=by
 exists N5
 ·obtain⟨v,b,rfl,_⟩:=h;rfl
 obtain⟨v,b,rfl,hv,ok,q⟩:=h;have hu:=BF hr;have hu9:=FZ hr;refine⟨_,(!Ah (!AM (!Au Bg (!Aw AF (pv 0) (!Aj) (λ_ _=>rfl)) (!Aj) (Ay _)) (!Ak (!Ao (!BJ (!Ai)))) (!Av)) (!Ah (!AM (!Au Bg (!Aw AF (pv 0) (!Aj) (λ_ _=>rfl)) (!Aj) (Ay _)) (!Ak (!Ao (!BX De (by rfl) T.b_list Ji (!Ac (!Aw AF (pv 0) (!Aj) (λ_ _=>rfl)) (!Ai))))) (!Av)) (!Ak (!Ao (@Br _ ["_law_name","_law_kind","_law_tag"] _ _ _ _ _ _ _ _ _ _ rfl (!Ds (!Aw AF (pv 0) (!Aj) (λ_ _=>rfl))) (by decide +kernel) (λC s H fp=>⟨(@B3 _ (K) _ _ _ _ (3) (by rfl) rfl (!Ax (@An _ _ (0) _ (show(["_law_name","_law_kind","_law_tag"]:List Str).Nodup by decide +kernel) rfl (by trivial) (by trivial)) (!Ax (@An _ _ (1) _ (show(["_law_name","_law_kind","_law_tag"]:List Str).Nodup by decide +kernel) rfl (by trivial) (by trivial)) (!Ax (@An _ _ (2) _ (show(["_law_name","_law_kind","_law_tag"]:List Str).Nodup by decide +kernel) rfl (by trivial) (by trivial)) (!Bv)))) (by rfl) (by rfl)),(!AU),(pv 2)⟩) (by intro _;rfl)))))),?_⟩
 try dsimp only[BB,Cx.nox,Cx.wish]
 cases b with
 |piece z=>
  obtain⟨a,rfl,e⟩:=D2 hv;refine⟨_,rfl,a,_,_,_,rfl,rfl,AV.of e,rfl,rfl,_,rfl,BA rfl ?_⟩;exact⟨Jo,λl hl=>q l _ [] (Al hl _) hl Ae rfl⟩
 |row lv ts=>
  obtain⟨a,d,us,rfl,e,e2,r⟩:=Hh hv;refine⟨_,rfl,a,_,_,_,rfl,rfl,AV.of e,rfl,rfl,_,rfl,AJ rfl ?_⟩;refine⟨_,rfl,a,_,_,_,rfl,rfl,AV.of e,rfl,rfl,_,rfl,BA rfl ?_⟩;exact⟨_,rfl,a,_,_,_,rfl,rfl,AV.of e,rfl,d,_,rfl,.inr (AV.of e2),λl hl=>q l _ us (Al hl _) hl Ae (AA.same (Al hl _) _ _ r)⟩
 |folder es=>
  obtain⟨a,d,us,rfl,e,e2,r⟩:=Ck hv;refine⟨_,rfl,a,_,_,_,rfl,rfl,AV.of e,rfl,rfl,_,rfl,AJ rfl ?_⟩;refine⟨_,rfl,a,_,_,_,rfl,rfl,AV.of e,rfl,rfl,_,rfl,AJ rfl ?_⟩;refine⟨_,rfl,a,_,_,_,rfl,rfl,AV.of e,rfl,d,rfl,⟨_,AV.of e2⟩,?_⟩;have lu:us.length=es.length:=by rw[AA.len _ _ r,aS]
  have l16:es.length<=16:=ok.1;refine JQ (xs:=us) (OL H) (CF e2) (by omega) (λx hx=>?_) (λb x1 x2 x3 H' R hx hb s' hR=>⟨_,rfl,?_⟩) λl H' nl s' hl=>q l H' _ s' nl hl (AA.same s' _ _ (Ij r))
  ·obtain⟨en,_,hr⟩:=C5 r hx;obtain⟨b,c,rfl,e3,_⟩:=DM hr;exact⟨b,_,_,_,rfl,e3⟩
  ·have:=hR H' (Ap.refl _);rw[MB hb] at this;exact this
theorem QS {z:Str}{i:Int}(h0:0<=i)(h1:i<(Cf z).length):∃c,Kw z.cps.toList i=some c/\c∈Cf z:=by
 obtain⟨k,rfl⟩:=Int.eq_ofNat_of_zero_le h0;have hk:k<z.cps.toList.length:=by have:((k:Nat):Int)<(Cf z).length:=h1;exact_mod_cast this
 refine⟨z.cps.toList[k],?_,eF hk⟩;have hk2:k<z.cps.size:=by simpa using hk
 unfold Kw VU;rw[bF h0];simp[hk2]
theorem VF {c:Nat}{n:Int}(hc:c∈Cf (PySem.Str.ofString "ab0z"))(h1:1<=n)(h8:n<=8):Hy (.str (PySem.Txt.mul ⟨#[c]⟩ n))=true:=by
 have all:∀c∈Cf (PySem.Str.ofString "ab0z"),∀m∈List.range 8,Hy (.str (PySem.Txt.mul ⟨#[c]⟩ ((m:Nat)+1:Int)))=true:=by decide +kernel
 have:=all c hc (n-1).toNat (cX.mpr (by omega));rw[show(((n-1).toNat:Nat):Int)+1=n by omega] at this;exact this
theorem T8 {c:Nat}{n:Int}(hc:c∈Cf (PySem.Str.ofString "abcb"))(h1:1<=n)(h8:n<=8):Cu (.piece (PySem.Txt.mul ⟨#[c]⟩ n)):=by
 have all:∀c∈Cf (PySem.Str.ofString "abcb"),∀m∈List.range 8,Gh 1 8 (.str (PySem.Txt.mul ⟨#[c]⟩ ((m:Nat)+1:Int)))=true:=by decide +kernel
 have:=all c hc (n-1).toNat (cX.mpr (by omega));rw[show(((n-1).toNat:Nat):Int)+1=n by omega] at this;exact this
def HE (K:W.Frag):Sp:=λvs H Q _=>∃(rl:Addr) (row:List Int),vs=[.ref rl]/\H rl=some (.lst (row.map V.int))/\row.length=12/\(∀x∈row,0<=x/\x<1000000)/\∀v z H',Ap H H'->Rep NL H' (BW (.piece z)) v->Cu (.piece z)->Q v H'
theorem Nj (T:Txt K mg Ab Ad Aa Af XC)(F:Fun K "_law_piece" "_law_piece" F3 f fd)(FV:Def P w K mg base 1 "_law_signs" [] (HD K)):FnOk P w K mg base BO 2 f fd ["_law_row_here"] (HE K):=by
 exists DB
 ·obtain⟨rl,row,rfl,_⟩:=h;rfl
 obtain⟨rl,row,rfl,hrl,lr,br,q⟩:=h;have hu:=BF hr;have hu9:=FZ hr;refine⟨_,(!Ah (!AM (!Au Bg (!As A3 (!Aw A7 (pv 0) (!Aj) (λ_ _=>rfl)) (!Aj)) (!Aj) (Ay _)) (!Ak (!Ao (!DQ (!Ac (!Aj) (!Ac (!As Mz (!Aw OG (!Lu) (!As A3 (!Aw A7 (pv 0) (!Aj) (λ_ _=>rfl)) (!Aj)) (λ_ _=>rfl)) (!As Bi (!Aj) (!As A3 (!Aw A7 (pv 0) (!Aj) (λ_ _=>rfl)) (!Aj)))) (!Ai)))))) (!Av)) (!Ah (@AD _ _ (1) _ _ _ _ DB.nd rfl (by trivial) (!Lu) (by rfl) (by trivial)) (!Ah (!B2 b5 rfl (!C4 rfl T.b_range (!Ac (!As Bi (!Aj) (!As A3 (!Aw A7 (pv 0) (!Aj) (λ_ _=>rfl)) (!Aj))) (!Ai))) (@An _ _ (2) _ DB.nd rfl (by trivial) (by trivial)) (!Ak (@AD _ _ (1) _ _ _ _ DB.nd rfl (by trivial) (!As QO (pv 1) (!Aw OG (!YC FV) (!As A3 (!Aw A7 (pv 0) (!As Bi (!Aj) (pv 2)) (λ_ _=>rfl)) (!Aj)) (λ_ _=>rfl))) (by rfl) (by trivial))) (by intro _;rfl)) (!Ak (!Ao (!DQ (!Ac (!Aj) (!Ac (pv 1) (!Ai))))))))),?_⟩
 try dsimp only[BB,Cx.nox,Cx.wish]
 have gx:∀k:Int,0<=k->k<12->Kw (row.map V.int) k=some (.int (row.getD k.toNat 0))/\0<=row.getD k.toNat 0:=λk h0 h1=>by
  have hk:k.toNat<row.length:=by omega
  refine⟨OD h0 (by omega),?_⟩;rw[fG,aW hk];exact(br _ (eF hk)).1
 have g2:=gx 2 (by decide) (by decide);have g3:=gx 3 (by decide) (by decide);refine⟨_,rfl,rl,_,_,_,rfl,rfl,AI.of hrl,(gx 1 (by decide) (by decide)).1,_,_,rfl,rfl,(by show(0:Int)<2;decide),rfl,_,rfl,Co (λ_=>?_) (λ_=>?_)⟩
 ·obtain⟨c,hc,mc⟩:=QS (z:=PySem.Str.ofString "abcb") (i:=row.getD (2:Int).toNat 0%4) (cM _ (by decide)) (by show _%4<(4:Int);omega);refine⟨_,rfl,rl,_,_,_,rfl,rfl,AI.of hrl,g2.1,_,_,rfl,rfl,(by show(0:Int)<4;decide),_,_,c,rfl,rfl,Ze,hc,?_⟩;refine⟨_,rfl,rl,_,_,_,rfl,rfl,AI.of hrl,g3.1,_,_,rfl,rfl,(by show(0:Int)<8;decide),_,_,rfl,rfl,_,_,rfl,rfl,by omega,by omega,(by show 1<=1000;decide),MH,λt ht=>?_⟩;refine q _ (PySem.Txt.mul ⟨#[c]⟩ (1+row.getD (3:Int).toNat 0%8)) _ (Al ht _) ⟨t,_,rfl,Ae,_,_,rfl,rfl,_,_,rfl,rfl,rfl⟩ ?_;exact T8 mc (by omega) (by omega)
 ·refine⟨_,rfl,rl,_,_,_,rfl,rfl,AI.of hrl,g2.1,_,_,rfl,rfl,(by show(0:Int)<8;decide),_,_,rfl,rfl,_,rfl,by omega,by omega,?_⟩;refine J0 (lo:=0) (λi σ H'=>∃(z:Str) (v2:Option V),σ=[some (.ref rl),some (.str z),v2]/\Ap H H'/\z.length=i/\∀c∈Cf z,c∈Cf SG) ⟨_,none,rfl,Ap.refl _,rfl,(λc hc=>by cases hc)⟩ ?_ ?_
  ·rintro i σ H' hi ⟨z,v2,rfl,s',lz,hz⟩
   have g:=gx (3+(0+(i:Int))) (by omega) (by omega);obtain⟨c,hc,mc⟩:=QS (z:=SG) (i:=row.getD (3+(0+(i:Int))).toNat 0%94) (cM _ (by decide)) (by rw[show(Cf SG).length=94 by decide +kernel];omega);refine⟨_,rfl,rfl,_,rfl,_,rfl,_,_,rfl,rfl,rl,_,_,_,rfl,rfl,AI.of (s'.get hrl),g.1,_,_,rfl,rfl,(by show(0:Int)<94;decide),_,_,c,rfl,rfl,small (by show SG.length<=1000000;decide +kernel),hc,_,_,rfl,rfl,small (by show z.length+1<=1000000;omega),?_⟩;have lz':(z++(⟨#[c]⟩:Str)).length=z.length+1:=by rw[<-BP,RR,bx,BP,BP];rfl
   refine⟨z++⟨#[c]⟩,_,rfl,s',by omega,λu hu=>?_⟩;rw[RR] at hu;rcases aY.mp hu with hu|hu
   ·exact hz u hu
   ·have:u=c:=by simpa [Cf] using hu
    rw[this];exact mc
  ·rintro σ H' ⟨z,v2,rfl,s',lz,hz⟩
   refine⟨_,rfl,MH,λt ht=>?_⟩;refine q _ z _ (s'.trans (Al ht _)) ⟨t,_,rfl,Ae,_,_,rfl,rfl,_,_,rfl,rfl,rfl⟩ ?_;show(decide ((1:Int)<=(z.length:Int))&&decide ((z.length:Int)<=8)&&BE SG z)=true;unfold BE;rw[bL,bL,bq,bq,bX];exact⟨⟨by omega,by omega⟩,λc hc=>bh (hz c hc)⟩
def Xq (H:Hp)(e:Cl)(v:V):Prop:=∃a,v=.ref a/\H a=some (.tup [e.v,.ref e.ta])
def Ma (H:Hp):List Cl->List V->Prop
 |[],us=>us=[]
 |e::cs,us=>∃v vs,us=v::vs/\Xq H e v/\Ma H cs vs
theorem Ho {H:Hp}:∀{cs:List Cl} {us:List V},Ma H cs us->us.length=cs.length
 |[],us,h=>by rw[show us=[] from h];rfl
 |s::so,us,h=>by
  obtain⟨v,vs,rfl,_,h2⟩:=h;rw[bT,bT,Ho h2]
theorem FC {H:Hp}:∀{cs:List Cl} {us:List V},Ma H cs us->∀{i:Nat} {v:V},us[i]?=some v->∃e,cs[i]?=some e/\Xq H e v
 |[],us,h,i,v,hv=>by rw[show us=[] from h] at hv;cases hv
 |s::so,us,h,i,v,hv=>by
  obtain⟨u,vs,rfl,h1,h2⟩:=h;cases i with
  |zero=>cases hv;exact⟨s,rfl,h1⟩
  |succ i=>exact FC h2 hv
theorem Ma.tup {H H':Hp}(ht:∀c ys,H c=some (.tup ys)->H' c=some (.tup ys)):∀{cs:List Cl} {us:List V},Ma H cs us->Ma H' cs us
 |[],_,h=>h
 |s::so,us,h=>by
  obtain⟨v,vs,rfl,⟨a,e1,e2⟩,h2⟩:=h;exact⟨v,vs,rfl,⟨a,e1,ht _ _ e2⟩,Ma.tup ht h2⟩
theorem Ma.snoc {H:Hp}{e:Cl}{v:V}(h1:Xq H e v):∀{cs:List Cl} {us:List V},Ma H cs us->Ma H (cs++[e]) (us++[v])
 |[],us,h=>by rw[show us=[] from h];exact⟨v,[],rfl,h1,rfl⟩
 |x::so,us,h=>by
  obtain⟨u,vs,rfl,h2,h3⟩:=h;exact⟨u,vs++[v],rfl,h2,Ma.snoc h1 h3⟩
theorem Dj {cs:List Cl} {us:List V} {sl:Addr} {fr:List (Option Nat)} {tt:TT} {te:TE} {Q:VK} {σ:St} {H:Hp} (pr:Ma H cs us) (hsl:H sl=some (.lst us)) (hn:cs.length<=1000) (p:Cl->Bool) (g:Cl->V)
  (htest:∀e∈cs,∀(H':Hp) (R:Bool->Hp->Prop),Ap H H'->R (p e) H'->tt (some e.v::some (.ref e.ta)::stC fr σ) H' R)
  (helt:∀e∈cs,∀(H':Hp) (R:VK),Ap H H'->R (g e) H'->te (some e.v::some (.ref e.ta)::stC fr σ) H' R)
  (hQ:∀l H',H l=none->Ap H H'->H' l=some (.lst ((cs.filter p).map g))->Q (.ref l) H'):Da (none::none::fr) (Re K 2 (Fo (Bt 0) (Fo (Bt 1) Tx))) tt te σ Q (Xr K sl) H:=by
 have lu:=Ho pr;intro l hl;refine⟨λi m σ' H'=>m=us.length-i/\i<=us.length/\(∃y0 y1,σ'=y0::y1::stC fr σ)/\Ap H H'/\H' l=some (.lst (((cs.take i).filter p).map g)),⟨us.length,by simp,bU _,⟨_,_,rfl⟩,Al hl _,by rw[Ae];rfl⟩,?_⟩
 rintro i m σ' H' ⟨rfl,hi,⟨y0,y1,rfl⟩,hs,hl'⟩
 obtain⟨h1,h2,h3⟩:=C2 (K:=K) (AI.of hsl) H' hs i
 by_cases hlt:i<us.length
 ·refine .inr ⟨h1 hlt,λx H'' y=>?_⟩;obtain⟨rfl,hx⟩:=h2 x H'' y;obtain⟨e,he,a,rfl,ha⟩:=FC pr (hx hlt);have hm:=a8 he;have et:(cs.take (i+1)).filter p=(cs.take i).filter p++(if p e=true then[e] else[]):=by
   rw[bN,he,dh];cases q:p e<;>simp[q]
  refine⟨a,_,rfl,AV.of (hs.get ha),rfl,_,_,rfl,_,_,rfl,rfl,?_⟩;refine htest e hm H'' _ hs ?_;refine Co (λc=>?_) (λc=>?_)
  ·refine helt e hm H'' _ hs ?_;refine⟨_,hl',Bd ?_,us.length-(i+1),by omega,rfl,hlt,⟨_,_,rfl⟩,AW hs hl _,?_⟩
   ·rw[aS];have a:=bW p (cs.take i);rw[b6] at a;omega
   ·rw[Ae,et,bF c,bA];rfl
  ·exact⟨us.length-(i+1),by omega,rfl,hlt,⟨_,_,rfl⟩,hs,by rw[hl',et,bH c,cm]⟩
 ·have e:i=us.length:=by omega
  subst e;exact .inl ⟨h3 (aZ _),hQ l H' hl hs (by rw[hl',lu,bJ (aZ _)])⟩
def Pd (H:Hp)(cs:List Cl):Prop:=∀e∈cs,H e.ta=some (.tup [.int e.z,.int e.y,.int (A8 e.bk)])/\Rep NL H (BW e.bk) e.v/\Q6 (e.z,e.y,A8 e.bk)
theorem Pd.tup {H H':Hp}(ht:∀c ys,H c=some (.tup ys)->H' c=some (.tup ys)){cs:List Cl}(h:Pd H cs):Pd H' cs:=λe he=>⟨ht _ _ (h e he).1,Cd ht _ _ (h e he).2.1,(h e he).2.2⟩
def XQ (H:Hp)(rl sl:Addr)(row:List Int)(cs:List Cl)(us:List V):Prop:=H rl=some (.lst (row.map V.int))/\row.length=12/\(∀x∈row,0<=x/\x<1000000)/\H sl=some (.lst us)/\Ma H cs us/\cs.length<=100/\Pd H cs
structure So where
 kd:Int
 e:Cl
structure Rr where
 nm:Str
 so:So
 a:Addr
def Rr.en (r:Rr):En:=⟨r.nm,r.so.kd,(r.so.e.z,r.so.e.y,A8 r.so.e.bk)⟩
def Yb (H:Hp)(r:Rr):Prop:=H r.a=some (.tup [.str r.nm,.int r.so.kd,.ref r.so.e.ta])
def Qk (rs:List Rr):List (Key×V):=rs.map λr=>(Sum.inr r.nm,.ref r.a)
theorem X8 (rs:List Rr)(n:Rr)(nd:(rs.map (·.nm)).Nodup):∃rs':List Rr,Qk rs'=putK (Qk rs) (Sum.inr n.nm) (.ref n.a)/\(∀r∈rs',r=n\/r∈rs)/\(rs'.map (·.nm)).Nodup/\rs'.length<=rs.length+1:=by
 by_cases h:n.nm∈rs.map (·.nm)
 ·refine⟨rs.map λr=>if r.nm=n.nm then n else r,?_,λr hr=>?_,?_,by rw[aS];omega⟩
  ·unfold putK;rw[GE];obtain⟨r0,h0,e0⟩:=aT.mp h;have hv:A4 (Qk rs) (Sum.inr n.nm)≠none:=λz=>by
    unfold A4 at z;rw[cW,dg] at z;exact z _ (aT.mpr ⟨r0,h0,rfl⟩) (bh (congrArg Sum.inr e0))
   have hv':(A4 (Qk rs) (Sum.inr n.nm)).isSome=true:=by
    cases hh:A4 (Qk rs) (Sum.inr n.nm) with
    |none=>exact absurd hh hv
    |some _=>rfl
   rw[bF hv'];unfold Qk;rw[bw,bw];refine cD λr _=>?_
   show(Sum.inr (if r.nm=n.nm then n else r).nm,V.ref (if r.nm=n.nm then n else r).a)=if(Sum.inr r.nm:Key)=Sum.inr n.nm then _ else _
   by_cases e:r.nm=n.nm
   ·rw[bF e,bF (congrArg Sum.inr e)];show(Sum.inr n.nm,V.ref n.a)=(Sum.inr r.nm,V.ref n.a);rw[e]
   ·rw[bH e,bH (λz=>e (gW z))]
  ·obtain⟨x,hx,rfl⟩:=aT.mp hr
   by_cases e:x.nm=n.nm
   ·rw[bF e];exact .inl rfl
   ·rw[bH e];exact .inr hx
  ·rw[bw];have:((λr:Rr=>r.nm)∘λr=>if r.nm=n.nm then n else r)=λr=>r.nm:=funext λr=>by
    show(if r.nm=n.nm then n else r).nm=r.nm
    by_cases e:r.nm=n.nm
    ·rw[bF e,e]
    ·rw[bH e]
   rw[this];exact nd
 ·refine⟨rs++[n],?_,λr hr=>?_,?_,by simp⟩
  ·rw[Fm _ (Ft λx hx=>?_)]
   ·unfold Qk;rw[bA];rfl
   ·obtain⟨r,hr,rfl⟩:=aT.mp hx;intro z;exact h (aT.mpr ⟨r,hr,gW z⟩)
  ·rcases aY.mp hr with hr|hr
   ·exact .inr hr
   ·exact .inl (ba.mp hr)
  ·rw[bA,b9];refine⟨nd,by simp,λa ha b hb=>?_⟩;have:b=n.nm:=ba.mp hb;rw[this];intro z;rw[z] at ha;exact h ha
def fE (rs:List Rr):V->V
 | .str z=>(A4 (Qk rs) (Sum.inr z)).getD .non
 |_=>.non
theorem Q9 {rs:List Rr}(nd:(rs.map (·.nm)).Nodup){r:Rr}(h:r∈rs):A4 (Qk rs) (Sum.inr r.nm)=some (.ref r.a):=by
 refine FU ?_ (aT.mpr ⟨r,h,rfl⟩);unfold Qk;rw[bw,show((λy:Key×V=>y.1)∘λr:Rr=>((Sum.inr r.nm:Key),V.ref r.a))=(λz:Str=>(Sum.inr z:Key))∘(λr:Rr=>r.nm) from rfl,<-bw];exact fc _ (λa b n e=>n (gW e)) nd
theorem Se {rs:List Rr}(nd:(rs.map (·.nm)).Nodup):∀{ts:List Str},(∀t∈ts,t∈rs.map (·.nm))->∃rs':List Rr,rs'.map (·.nm)=ts/\(∀r∈rs',r∈rs)/\(ts.map V.str).map (fE rs)=rs'.map λr=>V.ref r.a
 |[],_=>⟨[],rfl,(λ_ h=>nomatch h),rfl⟩
 |t::ts,h=>by
  obtain⟨rs',e1,e2,e3⟩:=Se nd (λu hu=>h u (a9 _ hu));obtain⟨r,hr,e⟩:=aT.mp (h t bc);refine⟨r::rs',by rw[bg,e1,e],λx hx=>?_,?_⟩
  ·rcases bE.mp hx with rfl|hx
   ·exact hr
   ·exact e2 x hx
  ·rw[bg,bg,e3,bg,<-e];show(A4 (Qk rs) (Sum.inr r.nm)).getD .non::_=_;rw[Q9 nd hr];rfl
theorem RT {H:Hp}{cs:List Cl}(tg:Pd H cs):∀{rs:List Rr},(∀r∈rs,Yb H r/\r.so.e∈cs)->AA NL H ((rs.map Rr.en).map K0) (rs.map λr=>V.ref r.a)
 |[],_=>rfl
 |r::rs,h=>⟨_,_,rfl,X9 (x:=r.en) (h r bc).1 (tg _ (h r bc).2).1,RT tg λx hx=>h x (a9 _ hx)⟩
theorem HW {row:List Int}(lr:row.length=12)(br:∀x∈row,0<=x/\x<1000000)(k:Int)(h0:0<=k)(h1:k<12):∃x,Kw (row.map V.int) k=some (.int x)/\0<=x/\x<1000000:=by
 have hk:k.toNat<row.length:=by omega
 refine⟨_,OD h0 (by omega),?_⟩;rw[fG,aW hk];exact br _ (eF hk)
theorem Lf {α:Type}{xs:List α}(ne:xs≠[]){x:Int}:∃y∈xs,Kw xs (x%(xs.length:Int))=some y:=by
 have hp:0<xs.length:=fq.mpr ne;have h1:=dw x (show(0:Int)<(xs.length:Int) by omega);have h2:=cM x (show(xs.length:Int)≠0 by omega);have hk:(x%(xs.length:Int)).toNat<xs.length:=by omega
 refine⟨xs[(x%(xs.length:Int)).toNat],eF hk,?_⟩;have:=Jn (aW hk);rw[show(((x%(xs.length:Int)).toNat:Nat):Int)=x%(xs.length:Int) by omega] at this;exact this
def GG (K:W.Frag):Sp:=λvs H Q _=>∃rl sl row cs us,vs=[.ref rl,.ref sl]/\XQ H rl sl row cs us/\∀v b H',Ap H H'->Rep NL H' (BW b) v->Cu b->(∀t∈Ar b,∃e∈cs,t=(e.z,e.y,A8 e.bk))->Q v H'
theorem LV (T:Txt K mg Ab Ad Aa Af XC)(F:Fun K "_law_folder" "_law_folder" Fh f fd):FnOk P w K mg base BO 1 f fd ["_law_row_here","_law_some"] (GG K):=by
 exists Cr
 ·obtain⟨rl,sl,row,cs,us,rfl,_⟩:=h;rfl
 obtain⟨rl,sl,row,cs,us,rfl,⟨hrl,lr,br,hsl,pr,few,tg⟩,q⟩:=h;have hu:=BF hr;have hu9:=FZ hr;refine⟨_,(!Ah (@AD _ _ (2) _ _ _ _ Cr.nd rfl (by trivial) (!Ec) (by rfl) (by trivial)) (!Ah (!B2 b5 rfl (!C4 rfl T.b_range (!Ac (!As A3 (!Aw A7 (pv 0) (!Aj) (λ_ _=>rfl)) (!Aj)) (!Ai))) (@An _ _ (3) _ Cr.nd rfl (by trivial) (by trivial)) (!Ah (@FE _ ["_law_block_here","_law_tag","_law_row_here","_law_k"] [none,none,some 0,some 3] (4) _ _ _ _ _ _ _ _ _ _ _ _ _ _ Cr.nd rfl (by trivial) rfl (!A0 (pv 1)) (by rfl) rfl (by repeat (first|exact trivial|refine⟨rfl,?_⟩)) (by repeat (first|exact trivial|refine⟨λh=>(by first|exact⟨_,rfl⟩|cases h),?_⟩)) (λC s H fp=>⟨(@B3 _ (K) _ _ _ _ (2) (by rfl) rfl (!Ax (@An _ _ (0) _ (show(["_law_block_here","_law_tag","_law_row_here","_law_k"]:List Str).Nodup by decide +kernel) rfl (by trivial) (by trivial)) (!Ax (@An _ _ (1) _ (show(["_law_block_here","_law_tag","_law_row_here","_law_k"]:List Str).Nodup by decide +kernel) rfl (by trivial) (by trivial)) (!Bv))) (by rfl) (by rfl)),(!C7 (!Au Bg (!Aw (DT (K:=K) (by rfl)) (pv 0) (!Aj) (λ_ _=>rfl)) (!As Bi (!Aj) (!As A3 (!Aw (Ml (K:=K) (by rfl)) (pv 2) (!As Bi (!Aj) (pv 3)) (λ_ _=>rfl)) (!Aj))) (Ay _))),(pv 1)⟩) (by intro _;rfl) (by rfl) (by trivial)) (!Ak (!AM (!Au (QL hu) (pv 4) (!BJ (!Ai)) (Ay _)) (!Ah (@AD _ _ (5) _ _ _ _ Cr.nd rfl (by trivial) (!As Mz (!Aw OG (!Lu) (!As A3 (!Aw A7 (pv 0) (!As Bi (!Aj) (pv 3)) (λ_ _=>rfl)) (!Aj)) (λ_ _=>rfl)) (!As Bi (!Aj) (!As A3 (!As G6 (!Aw A7 (pv 0) (!As Bi (!Aj) (pv 3)) (λ_ _=>rfl)) (!Aj)) (!Aj)))) (by rfl) (by trivial)) (!Ak (!ET hu (pv 2) (pv 5) (!DQ (!Ac (pv 5) (!Ac (!As Bi (!Aj) (!As A3 (!Aw A7 (pv 0) (!As Bi (!Aj) (pv 3)) (λ_ _=>rfl)) (!Aj))) (!Ac (!Aw A7 (pv 4) (!As A3 (!As G6 (!Aw A7 (pv 0) (!As Bi (!Aj) (pv 3)) (λ_ _=>rfl)) (!Aj)) (!Aq AB (by rfl) T.b_len Bl (!Ac (pv 4) (!Ai)))) (λ_ _=>rfl)) (!Ai)))))))) (!Av)))) (by intro _;rfl)) (!Ak (!Ao (!DQ (!Ac (!Aj) (!Ac (!BX E5 (by rfl) T.b_tuple EG (!Ac (@CM _ ["_law_name","_law_entries"] [none,some 2] _ _ _ _ _ _ _ _ _ _ _ rfl (!A0 (!Aq (QV rfl) (by rfl) T.b_sorted Ct (!Ac (pv 2) (!Ai)))) (by rfl) rfl (by repeat (first|exact trivial|refine⟨rfl,?_⟩)) (by repeat (first|exact trivial|refine⟨λh=>(by first|exact⟨_,rfl⟩|cases h),?_⟩)) (λC s H fp=>⟨(@An _ _ (0) _ (show(["_law_name","_law_entries"]:List Str).Nodup by decide +kernel) rfl (by trivial) (by trivial)),(!AU),(!B8 hu (pv 1) (pv 0) (λ_ _=>rfl))⟩) (by intro _;rfl)) (!Ai))) (!Ai)))))))),?_⟩
 try dsimp only[BB,Cx.nox,Cx.wish]
 refine λde hde=>?_
 have s1:=Al hde (.dK []);obtain⟨x1,a1,x10,x11⟩:=HW lr br 1 (by decide) (by decide);refine⟨_,rfl,rl,_,_,_,rfl,rfl,AI.of (s1.get hrl),a1,_,_,rfl,rfl,(by show(0:Int)<5;decide),_,rfl,by omega,by omega,?_⟩;refine J0 (lo:=0) (λi σ H'=>∃(rs:List Rr) (v3 v4 v5:Option V),σ=[some (.ref rl),some (.ref sl),some (.ref de),v3,v4,v5]/\Ap H H'/\H' de=some (.dK (Qk rs))/\(rs.map (·.nm)).Nodup/\rs.length<=i/\∀r∈rs,Yb H' r/\Hy (.str r.nm)=true/\r.so.e∈cs/\1<=r.so.kd/\r.so.kd<=2) ⟨[],none,none,none,rfl,s1,Ae,cA,aZ _,λ_ h=>nomatch h⟩ ?_ ?_
 ·rintro i σ H' hi ⟨rs,v3,v4,v5,rfl,s',hd',nd,lrs,hrs⟩
  have i5:(i:Int)<5:=by omega
  obtain⟨x2,a2,x20,x21⟩:=HW lr br (2+(0+(i:Int))) (by omega) (by omega);obtain⟨x7,a7,x70,x71⟩:=HW lr br (7+(0+(i:Int))) (by omega) (by omega);have hrl':=s'.get hrl;have hsl':=s'.get hsl;dsimp only[Bt];refine DI λEB eEB=>?_
  refine⟨_,rfl,sl,rfl,⟨_,AI.of hsl'⟩,?_⟩;refine Dj (fr:=[some 0,some 3]) (pr.tup λc ys h=>s'.get h) hsl' (by omega) (λe=>decide (V.int (kindB e.bk)=V.int (1+x2%2))) (λe=>.ref e.ta) (λe he H2 R s2 hR=>?_) (λe he H2 R s2 hR=>⟨_,rfl,hR⟩) λl H2 nl s2 hl=>?_
  ·obtain⟨va,xs,ev,hva⟩:=Fn (Rep.same (s'.trans s2) _ _ (tg e he).2.1);rw[ev];exact⟨_,rfl,va,_,_,_,rfl,rfl,AV.of hva,G1,_,rfl,_,rfl,_,_,rfl,rfl,rl,_,_,_,rfl,rfl,AI.of (s2.get hrl'),a2,_,_,rfl,rfl,(by show(0:Int)<2;decide),_,_,rfl,rfl,rfl,_,rfl,hR⟩
  refine⟨_,rfl,Jo,λl0 hl0=>?_⟩;have s3:=Al hl0 (.lst []);have s13:=(s'.trans s2).trans s3;have hd3:=s3.get (s2.get hd');have hrs3:∀r∈rs,Yb (upd H2 l0 (.lst [])) r/\Hy (.str r.nm)=true/\r.so.e∈cs/\1<=r.so.kd/\r.so.kd<=2:=λr hr=>⟨s3.get (s2.get (hrs r hr).1),(hrs r hr).2⟩
  have hl3:=s3.get hl;refine⟨l,l0,_,rfl,rfl,AI.of hl3,AI.of Ae,_,rfl,?_⟩;generalize (upd H2 l0 (.lst []))=H3 at s3 s13 hd3 hrs3 hl3;refine Co (λhc=>?_) (λhc=>?_)
  ·have ne:(cs.filter λe=>decide (V.int (kindB e.bk)=V.int (1+x2%2))).map (λe=>V.ref e.ta)≠[]:=λz=>by
    rw[z] at hc;exact absurd hc (by decide)
   obtain⟨c,hc',mc⟩:=QS (z:=PySem.Str.ofString "ab0z") (i:=x7%4) (cM _ (by decide)) (by show x7%4<4;omega);refine⟨_,rfl,_,rfl,_,_,rfl,rfl,rl,_,_,_,rfl,rfl,AI.of (s13.get hrl),a7,_,_,rfl,rfl,(by show(0:Int)<4;decide),_,_,c,rfl,rfl,Ze,hc',?_⟩;refine⟨_,rfl,_,rfl,_,_,rfl,rfl,rl,_,_,_,rfl,rfl,AI.of (s13.get hrl),a7,_,_,rfl,rfl,⟨by decide,by decide⟩,_,_,rfl,rfl,(by show(0:Int)<8;decide),_,_,rfl,rfl,_,_,rfl,rfl,by omega,by omega,(by show 1<=1000;decide),?_⟩;have nb:=VF mc (n:=1+x7/4%8) (by omega) (by omega);generalize PySem.Txt.mul ⟨#[c]⟩ (1+x7/4%8)=nm at nb;obtain⟨u,hu',hat⟩:=Lf ne (x:=x2/2);obtain⟨e,he,rfl⟩:=aT.mp hu';have hec:=(bM.mp he).1;have hp:=fq.mpr ne;refine⟨_,rfl,_,rfl,_,rfl,_,_,rfl,rfl,rl,_,_,_,rfl,rfl,AI.of (s13.get hrl),a2,_,_,rfl,rfl,(by show(0:Int)<2;decide),_,_,rfl,rfl,?_⟩;refine⟨_,rfl,_,rfl,_,rfl,_,_,rfl,rfl,rl,_,_,_,rfl,rfl,AI.of (s13.get hrl),a2,_,_,rfl,rfl,⟨by decide,by decide⟩,_,rfl,l,_,rfl,.inl (AI.of hl3),_,_,rfl,rfl,(by show(0:Int)<((_:List V).length:Int);omega),l,_,_,_,rfl,rfl,AI.of hl3,hat,UH,λb hb=>?_⟩;have s4:=Al hb (.tup [.str nm,.int (1+x2%2),.ref e.ta]);refine⟨_,rfl,_,rfl,de,_,rfl,IL.k (k:=Sum.inr nm) (s4.get hd3) (Bd (by unfold Qk;rw[aS];omega)),?_⟩;obtain⟨rs',e1,e2,e3,e4⟩:=X8 rs ⟨nm,⟨1+x2%2,e⟩,b⟩ nd;have tp:∀c ys,H3 c=some (.tup ys)->(upd (upd H3 b (.tup [.str nm,.int (1+x2%2),.ref e.ta])) de (.dK (putK (Qk rs) (Sum.inr nm) (.ref b)))) c=some (.tup ys):=λc ys h=>by
    rw[Ag (AL h hd3 (by intro z;cases z))];exact s4.get h
   have nbd:b≠de:=λz=>by rw[z,hd3] at hb;cases hb
   subst eEB;refine⟨rs',_,_,_,rfl,AW (s13.trans s4) hde _,by rw[Ae,<-e1],e3,by omega,λr hr=>?_⟩;rcases e2 r hr with rfl|hr
   ·refine⟨?_,nb,hec,by show(1:Int)<=1+x2%2;omega,by show 1+x2%2<=(2:Int);omega⟩;show upd _ de _ b=_;rw[Ag nbd,Ae]
   ·obtain⟨q1,q2⟩:=hrs3 r hr;exact⟨tp _ _ q1,q2⟩
  ·subst eEB;exact⟨rs,_,_,_,rfl,s13,hd3,nd,by omega,hrs3⟩
 ·rintro σ H' ⟨rs,v3,v4,v5,rfl,s',hd',nd,lrs,hrs⟩
  have l4:rs.length<=5:=by omega
  refine⟨_,rfl,de,_,rs.map (·.nm),rfl,hd',by unfold Qk;rw[bw,bw];rfl,by rw[aS];omega,λts pl pm srt hpl=>?_⟩;have s2:=Al hpl (.lst (ts.map V.str));have lts:ts.length=rs.length:=by rw[pm.length_eq,aS]
  refine⟨pl,rfl,⟨_,AI.of Ae⟩,?_⟩;refine comp_map (xs:=ts.map V.str) (fE rs) (C2 (AI.of Ae)) (by rw[aS];omega) (λx H2 R hx s3 hR=>?_) λl H3 nl s3 hl=>?_
  ·obtain⟨t,ht,rfl⟩:=aT.mp hx;obtain⟨r,hr,rfl⟩:=aT.mp (pm.mem_iff.mp ht);have g:=BG.k (k:=Sum.inr r.nm) (s3.get (s2.get hd'));rw[Q9 nd hr] at g;have hR:=hR H2 (Ap.refl _);have e:fE rs (V.str r.nm)=.ref r.a:=by show(A4 (Qk rs) (Sum.inr r.nm)).getD .non=_;rw[Q9 nd hr];rfl
   rw[e] at hR;exact⟨_,rfl,_,rfl,de,_,rfl,g,hR⟩
  obtain⟨rs',e1,e2,e3⟩:=Se nd (ts:=ts) (λt ht=>pm.mem_iff.mp ht);rw[e3] at hl;have s5:=(s'.trans s2).trans s3;have lr':rs'.length=rs.length:=by rw[<-aS (f:=(·.nm)),e1,lts]
  refine⟨l,_,rfl,.inl ⟨AI.of hl,λl5 hl5=>⟨MH,λl6 hl6=>?_⟩⟩⟩;have s7:=Al hl5 (.tup (rs'.map λr=>V.ref r.a));have s8:=Al hl6 (.tup [.int 2,.ref l5]);have s9:=(s5.trans s7).trans s8;have r9:=RT (tg.tup λc ys h=>s9.get h) (rs:=rs') (λr hr=>⟨((s2.trans s3).trans (s7.trans s8)).get (hrs r (e2 r hr)).1,(hrs r (e2 r hr)).2.2.1⟩);refine q (.ref l6) (.folder (rs'.map Rr.en)) _ s9 ⟨l6,_,rfl,Ae,_,_,rfl,rfl,_,_,rfl,⟨l5,_,rfl,s8.get Ae,r9⟩,rfl⟩ ⟨by rw[aS];omega,λe he=>?_,?_,?_⟩ λt ht=>?_
  ·obtain⟨r,hr,rfl⟩:=aT.mp he;obtain⟨_,q2,q3,q4⟩:=hrs r (e2 r hr);exact⟨q2,q4,(tg _ q3).2.2⟩
  ·rw[bw];show PyProof.Rows.sortedS (rs'.map λr=>r.nm)=true;rw[e1];exact srt
  ·rw[bw];show(rs'.map λr=>r.nm).Nodup;rw[e1];exact pm.nodup_iff.mpr nd
  ·obtain⟨en,hen,rfl⟩:=aT.mp ht;obtain⟨r,hr,rfl⟩:=aT.mp hen;exact⟨r.so.e,(hrs r (e2 r hr)).2.2.1,rfl⟩
def Hr (e:Cl):Tg:=(e.z,e.y,A8 e.bk)
theorem Jr {H:Hp}{cs:List Cl}(tg:Pd H cs):∀{es:List Cl},(∀e∈es,e∈cs)->AA NL H ((es.map Hr).map CC) (es.map λe=>V.ref e.ta)
 |[],_=>rfl
 |e::es,h=>⟨_,_,rfl,EF (t:=Hr e) (tg _ (h e bc)).1,Jr tg λx hx=>h x (a9 _ hx)⟩
theorem U3 {cs:List Cl}:∀{ys:List V},(∀y∈ys,∃e∈cs,y=V.ref e.ta)->∃es:List Cl,ys=es.map (λe=>V.ref e.ta)/\∀e∈es,e∈cs
 |[],_=>⟨[],rfl,λ_ h=>nomatch h⟩
 |y::ys,h=>by
  obtain⟨es,e1,e2⟩:=U3 λx hx=>h x (a9 _ hx)
  obtain⟨e,he,rfl⟩:=h y bc;refine⟨e::es,by rw[e1];rfl,λx hx=>?_⟩;rcases bE.mp hx with rfl|hx
  ·exact he
  ·exact e2 x hx
def aI (lv:Int)(e:Cl):Bool:=match e.bk with
 | .row l _=>decide (V.int l=V.int (lv-1))
 |_=>false
def UR (row:List Int)(ls:List V):V->V
 | .int k=>(Kw ls (row.getD (2+k).toNat 0%(ls.length:Int))).getD .non
 |_=>.non
def HC (K:W.Frag):Sp:=λvs H Q _=>∃rl sl row cs us,vs=[.ref rl,.ref sl]/\XQ H rl sl row cs us/\∀v b H',Ap H H'->Rep NL H' (BW b) v->Cu b->(∀t∈Ar b,∃e∈cs,t=(e.z,e.y,A8 e.bk))->Q v H'
theorem M7 (T:Txt K mg Ab Ad Aa Af XC)(F:Fun K "_law_block" "_law_block" FB f fd)(FI:Def P w K mg base 2 "_law_piece" ["_law_row_here"] (HE K))(E1:Def P w K mg base 1 "_law_folder" ["_law_row_here","_law_some"] (GG K)):FnOk P w K mg base BO 3 f fd ["_law_row_here","_law_some"] (HC K):=by
 exists DA
 ·obtain⟨rl,sl,row,cs,us,rfl,_⟩:=h;rfl
 obtain⟨rl,sl,row,cs,us,rfl,rs,q⟩:=h;have hu:=BF hr;have hu9:=FZ hr;refine⟨_,(!Ah (!AM (!Au Nv (!As A3 (!Aw A7 (pv 0) (!Aj) (λ_ _=>rfl)) (!Aj)) (!Aj) (Ay _)) (!Ak (!Ao (!AK FI (by trivial) rfl (!Ac (pv 0) (!Ai))))) (!Av)) (!Ah (!AM (!Au Bg (!As A3 (!Aw A7 (pv 0) (!Aj) (λ_ _=>rfl)) (!Aj)) (!Aj) (Ay _)) (!Ak (!Ao (!AK E1 (by trivial) rfl (!Ac (pv 0) (!Ac (pv 1) (!Ai)))))) (!Av)) (!Ah (@AD _ _ (2) _ _ _ _ DA.nd rfl (by trivial) (!As Bi (!Aj) (!As Eg (!As A3 (!As G6 (!Aw A7 (pv 0) (!Aj) (λ_ _=>rfl)) (!Aj)) (!Aj)) (!BX Tw (by rfl) T.b_int UK (!Ac (!B9 Bg (!As A3 (!Aw A7 (pv 0) (!Aj) (λ_ _=>rfl)) (!Aj)) (!Aj) (Ay _)) (!Ai))))) (by rfl) (by trivial)) (!Ah (@AD _ _ (3) _ _ _ _ DA.nd rfl (by trivial) (@Br _ ["_law_block_here","_law_tag"] _ _ _ _ _ _ _ _ _ _ rfl (!A0 (pv 1)) (by decide +kernel) (λC s H fp=>⟨(@B3 _ (K) _ _ _ _ (2) (by rfl) rfl (!Ax (@An _ _ (0) _ (show(["_law_block_here","_law_tag"]:List Str).Nodup by decide +kernel) rfl (by trivial) (by trivial)) (!Ax (@An _ _ (1) _ (show(["_law_block_here","_law_tag"]:List Str).Nodup by decide +kernel) rfl (by trivial) (by trivial)) (!Bv))) (by rfl) (by rfl)),(!C7 (!Au Bg (!Aw (DT (K:=K) (by rfl)) (pv 0) (!Aj) (λ_ _=>rfl)) (!Aj) (Ay _))),(pv 1)⟩) (by intro _;rfl)) (by rfl) (by trivial)) (!Ah (!AM (!Au NY (pv 2) (!Aj) (Ay _)) (!Ak (@AD _ _ (3) _ _ _ _ DA.nd rfl (by trivial) (@CM _ ["_law_block_here","_law_tag","_law_level"] [none,none,some 2] _ _ _ _ _ _ _ _ _ _ _ rfl (!A0 (pv 1)) (by rfl) rfl (by repeat (first|exact trivial|refine⟨rfl,?_⟩)) (by repeat (first|exact trivial|refine⟨λh=>(by first|exact⟨_,rfl⟩|cases h),?_⟩)) (λC s H fp=>⟨(@B3 _ (K) _ _ _ _ (2) (by rfl) rfl (!Ax (@An _ _ (0) _ (show(["_law_block_here","_law_tag","_law_level"]:List Str).Nodup by decide +kernel) rfl (by trivial) (by trivial)) (!Ax (@An _ _ (1) _ (show(["_law_block_here","_law_tag","_law_level"]:List Str).Nodup by decide +kernel) rfl (by trivial) (by trivial)) (!Bv))) (by rfl) (by rfl)),(!C7 (@PW.pt _ _ _ (!OO (!Au Bg (!Aw (DT (K:=K) (by rfl)) (pv 0) (!Aj) (λ_ _=>rfl)) (!Aj) (Ay _)) (!La (!Au Bg (!Aw (DT (K:=K) (by rfl)) (pv 0) (!Aj) (λ_ _=>rfl)) (!As FK (pv 2) (!Aj)) (Ay _)))))),(pv 1)⟩) (by intro _;rfl)) (by rfl) (by trivial))) (!Av)) (!Ah (!AM (!Au (TR hu) (pv 3) (!BJ (!Ai)) (Ay _)) (!Ak (!Ao (!DQ (!Ac (!Aj) (!Ac (!Aj) (!Ac (!DQ (!Ai)) (!Ai))))))) (!Av)) (!Ak (!Ao (!DQ (!Ac (!Aj) (!Ac (pv 2) (!Ac (!BX E5 (by rfl) T.b_tuple EG (!Ac (@CM _ ["_law_k","_law_rows","_law_row_here"] [none,some 3,some 0] _ _ _ _ _ _ _ _ _ _ _ rfl (!C4 rfl T.b_range (!Ac (!As Bi (!Aj) (!As A3 (!Aw A7 (pv 0) (!Aj) (λ_ _=>rfl)) (!Aj))) (!Ai))) (by rfl) rfl (by repeat (first|exact trivial|refine⟨rfl,?_⟩)) (by repeat (first|exact trivial|refine⟨λh=>(by first|exact⟨_,rfl⟩|cases h),?_⟩)) (λC s H fp=>⟨(@An _ _ (0) _ (show(["_law_k","_law_rows","_law_row_here"]:List Str).Nodup by decide +kernel) rfl (by trivial) (by trivial)),(!AU),(!Aw (Ml (K:=K) (by rfl)) (pv 1) (!As A3 (!Aw (Ml (K:=K) (by rfl)) (pv 2) (!As Bi (!Aj) (pv 0)) (λ_ _=>rfl)) (!Aq (Hw (K:=K) (by rfl)) (by rfl) T.b_len Bl (!Ac (pv 1) (!Ai)))) (λ_ _=>rfl))⟩) (by intro _;rfl)) (!Ai))) (!Ai))))))))))))),?_⟩
 try dsimp only[BB,Cx.nox,Cx.wish]
 obtain⟨hrl,lr,br,hsl,pr,few,tg⟩:=id rs;obtain⟨x0,a0,x00,x01⟩:=HW lr br 0 (by decide) (by decide);refine⟨_,rfl,rl,_,_,_,rfl,rfl,AI.of hrl,a0,_,_,rfl,rfl,(by show(0:Int)<6;decide),_,_,rfl,rfl,_,rfl,Co (λ_=>?_) (λ_=>?_)⟩
 ·exact⟨_,rfl,rl,row,rfl,hrl,lr,br,λv z H' s' hv ok=>q v (.piece z) H' s' hv ok λ_ h=>nomatch h⟩
 refine⟨_,rfl,rl,_,_,_,rfl,rfl,AI.of hrl,a0,_,_,rfl,rfl,(by show(0:Int)<6;decide),rfl,_,rfl,Co (λ_=>?_) (λ_=>?_)⟩
 ·exact⟨_,rfl,_,rfl,rl,sl,row,cs,us,rfl,rs,q⟩
 refine⟨_,rfl,rl,_,_,_,rfl,rfl,AI.of hrl,a0,_,_,rfl,rfl,⟨by decide,by decide⟩,_,_,rfl,rfl,(by show(0:Int)<3;decide),_,rfl,rl,_,_,_,rfl,rfl,AI.of hrl,a0,_,_,rfl,rfl,(by show(0:Int)<6;decide),rfl,.inr ⟨_,rfl,_,_,rfl,rfl,.inl ⟨by omega,by omega⟩,_,_,rfl,rfl,?_⟩⟩;obtain⟨lv,elv,lv1,lv3⟩:∃lv:Int,1+x0/6%3*(if decide (V.int (x0%6)=V.int 4)=true then 1 else 0)=lv/\1<=lv/\lv<=3:=⟨_,rfl,by split<;>omega,by split<;>omega⟩
 dsimp only[Bt];rw[elv];refine⟨_,rfl,sl,rfl,⟨_,AI.of hsl⟩,?_⟩;refine Dj (fr:=[]) pr hsl (by omega) (λe=>decide (V.int (kindB e.bk)=V.int 0)) (λe=>.ref e.ta) (λe he H2 R s2 hR=>?_) (λe he H2 R s2 hR=>⟨_,rfl,hR⟩) λl H2 nl s2 hl=>?_
 ·obtain⟨va,xs,ev,hva⟩:=Fn (Rep.same s2 _ _ (tg e he).2.1);rw[ev];exact⟨_,rfl,va,_,_,_,rfl,rfl,AV.of hva,G1,rfl,_,rfl,hR⟩
 dsimp only[Bt];refine EL (λσ' H'=>∃(l:Addr) (cs':List Cl),σ'=[some (.ref rl),some (.ref sl),some (.int lv),some (.ref l)]/\Ap H H'/\H' l=some (.lst (cs'.map λe=>V.ref e.ta))/\(∀e∈cs',e∈cs)) (λN hN=>?_) ?_
 ·refine⟨_,rfl,_,_,rfl,rfl,_,rfl,Co (λ_=>?_) (λ_=>?_)⟩
  ·refine⟨_,rfl,sl,rfl,⟨_,AI.of (s2.get hsl)⟩,?_⟩;refine Dj (fr:=[some 2]) (pr.tup λc ys h=>s2.get h) (s2.get hsl) (by omega) (aI lv) (λe=>.ref e.ta) (λe he H3 R s3 hR=>?_) (λe he H3 R s3 hR=>⟨_,rfl,hR⟩) λl3 H3 nl3 s3 hl3=>?_
   ·have rp:=Rep.same (s2.trans s3) _ _ (tg e he).2.1;unfold aI at hR;cases hb:e.bk with
    |piece z=>
     rw[hb] at rp hR;obtain⟨va,ev,hva⟩:=D2 rp;rw[ev];exact⟨_,rfl,va,_,_,_,rfl,rfl,AV.of hva,rfl,rfl,_,rfl,AJ rfl hR⟩
    |row l ts=>
     rw[hb] at rp hR;obtain⟨va,d,us,ev,hva,_⟩:=Hh rp;rw[ev];exact⟨_,rfl,va,_,_,_,rfl,rfl,AV.of hva,rfl,rfl,_,rfl,BA rfl ⟨_,rfl,va,_,_,_,rfl,rfl,AV.of hva,rfl,_,rfl,_,_,rfl,rfl,rfl,_,rfl,hR⟩⟩
    |folder es=>
     rw[hb] at rp hR;obtain⟨va,d,us,ev,hva,_⟩:=Ck rp;rw[ev];exact⟨_,rfl,va,_,_,_,rfl,rfl,AV.of hva,rfl,rfl,_,rfl,AJ rfl hR⟩
   exact hN _ _ ⟨l3,_,rfl,s2.trans s3,hl3,λe he=>(bM.mp he).1⟩
  ·exact hN _ _ ⟨l,_,rfl,s2,hl,λe he=>(bM.mp he).1⟩
 rintro σ' H3 ⟨l3,cs',rfl,s3,hl3,sub⟩
 refine⟨_,rfl,Jo,λl0 hl0=>?_⟩;have s4:=s3.trans (Al hl0 (.lst []));have hl4:=(Al hl0 (.lst [])).get hl3;refine⟨l3,l0,_,rfl,rfl,AI.of hl4,AI.of Ae,_,rfl,?_⟩;generalize (upd H3 l0 (.lst []))=H4 at s4 hl4;refine Co (λhc=>?_) (λhc=>?_)
 ·refine⟨Jo,λt1 ht1=>⟨UH,λt2 ht2=>?_⟩⟩;have s5:=Al ht1 (.tup []);have s6:=Al ht2 (.tup [.int 1,.int 1,.ref t1]);exact q (.ref t2) (.row 1 []) _ ((s4.trans s5).trans s6) ⟨t2,_,rfl,Ae,_,_,rfl,rfl,_,_,rfl,rfl,_,_,rfl,⟨t1,_,rfl,s6.get Ae,rfl⟩,rfl⟩ ⟨⟨by decide,by decide⟩,by show 0<=8;decide,λh=>by omega,λ_ h=>nomatch h⟩ λ_ h=>nomatch h
 have ne:cs'.map (λe=>V.ref e.ta)≠[]:=λz=>hc (by rw[z];rfl)
 have hp:=fq.mpr ne;obtain⟨x1,a1,x10,x11⟩:=HW lr br 1 (by decide) (by decide);refine⟨_,rfl,_,rfl,rl,_,_,_,rfl,rfl,AI.of (s4.get hrl),a1,_,_,rfl,rfl,(by show(0:Int)<8;decide),_,_,rfl,rfl,_,rfl,by omega,by omega,?_⟩;have lx:((List.range (1+x1%8).toNat).map λ(i:Nat)=>V.int (0+(i:Int))).length<=8:=by rw[aS,bY];omega
 refine comp_map (xs:=(List.range (1+x1%8).toNat).map λ(i:Nat)=>V.int (0+(i:Int))) (UR row (cs'.map λe=>V.ref e.ta)) Lz (by omega) (λx H5 R hx s5 hR=>?_) λl5 H5 nl5 s5 hl5=>?_
 ·obtain⟨k,hk,rfl⟩:=aT.mp hx;have hk8:k<(1+x1%8).toNat:=cX.mp hk;have ak:=OD (ns:=row) (i:=2+(0+(k:Int))) (by omega) (by omega);obtain⟨u,hu',hat⟩:=Lf ne (x:=row.getD (2+(0+(k:Int))).toNat 0);have hR:=hR H5 (Ap.refl _);have e:UR row (cs'.map λe=>V.ref e.ta) (V.int (0+(k:Int)))=u:=by
   show(Kw _ _).getD V.non=u;rw[hat];rfl
  rw[e] at hR;exact⟨_,rfl,_,rfl,_,rfl,_,_,rfl,rfl,rl,_,_,_,rfl,rfl,AI.of (s5.get (s4.get hrl)),ak,_,rfl,l3,_,rfl,.inl (AI.of (s5.get hl4)),_,_,rfl,rfl,(by show(0:Int)<((_:List V).length:Int);omega),l3,_,_,_,rfl,rfl,AI.of (s5.get hl4),hat,hR⟩
 obtain⟨es,ees,hes⟩:=U3 (cs:=cs') (ys:=((List.range (1+x1%8).toNat).map λ(i:Nat)=>V.int (0+(i:Int))).map (UR row (cs'.map λe=>V.ref e.ta))) λy hy=>by
  obtain⟨x,hx,rfl⟩:=aT.mp hy;obtain⟨k,hk,rfl⟩:=aT.mp hx;obtain⟨u,hu',hat⟩:=Lf ne (x:=row.getD (2+(0+(k:Int))).toNat 0);obtain⟨e,he,rfl⟩:=aT.mp hu';refine⟨e,he,?_⟩;show(Kw _ _).getD V.non=_;rw[hat];rfl
 have les:es.length=(1+x1%8).toNat:=by
  have:=congrArg List.length ees;rw[aS,aS,aS,bY] at this;exact this.symm
 rw[ees] at hl5;refine⟨l5,_,rfl,.inl ⟨AI.of hl5,λl6 hl6=>⟨UH,λl7 hl7=>?_⟩⟩⟩;have s6:=Al hl6 (.tup (es.map λe=>V.ref e.ta));have s7:=Al hl7 (.tup [.int 1,.int lv,.ref l6]);have s8:=((s4.trans s5).trans s6).trans s7;have r8:=Jr (tg.tup λc ys h=>s8.get h) (es:=es) λe he=>sub e (hes e he)
 refine q (.ref l7) (.row lv (es.map Hr)) _ s8 ⟨l7,_,rfl,Ae,_,_,rfl,rfl,_,_,rfl,rfl,_,_,rfl,⟨l6,_,rfl,s7.get Ae,r8⟩,rfl⟩ ⟨⟨lv1,by omega⟩,by rw[aS];omega,λ_ z=>?_,λt ht=>?_⟩ λt ht=>?_
 ·have:=congrArg List.length z;rw[aS] at this;simp only[List.length_nil] at this;omega
 ·obtain⟨e,he,rfl⟩:=aT.mp ht;exact(tg e (sub e (hes e he))).2.2
 ·obtain⟨e,he,rfl⟩:=aT.mp ht;exact⟨e,sub e (hes e he),rfl⟩
theorem JF (cs:List Cl):cs.filter (λ_=>true)=cs:=dc.mpr λ_ _=>rfl
theorem made {C:Addr}{H1 H2:Hp}{x dx:Addr}(nx:H1 x=none)(ndx:H1 dx=none)(k:∀b o,(upd (upd H1 dx (.own x)) x (.ins C dx [])) b=some o->b≠x->H2 b=some o):Ap H1 H2:=λb o e=>by
 have n1:b≠x:=AG e nx;have n2:b≠dx:=AG e ndx;exact k b o (by rw[Ag n1,Ag n2];exact e) n1
end
open M06 M10
section
variable {P:Program}{w:World}{K:W.Frag}{mg:Str->Option Value}{base:Heap}{f Ab Ad Aa Af:Addr}{XC:Nat->Addr}{fd:FuncData}
def Hs (e:Cl):List Key:=[Sum.inl e.z,Sum.inl e.y,Sum.inl (A8 e.bk)]
def cK (ps:List Cl)(c:Int->Int):List (List Key×V):=ps.map λe=>(Hs e,V.int (c e.z))
structure SoAt (H:Hp) (sl:Addr) (us:List V) (ps:List Cl):Prop where
 l:H sl=some (.lst us)
 pr:Ma H ps us
 tg:Pd H ps
 nd:(ps.map (·.z)).Nodup
 kn:∀e∈ps,∀t∈Ar e.bk,∃c∈ps,t=Hr c
 ok:∀e∈ps,Cu e.bk
 few:ps.length<=60
def XT (H:Hp)(hl:Addr)(hs ps:List Cl):Prop:=H hl=some (.lst (hs.map λe=>V.ref e.ta))/\hs.length<=60/\∀e∈hs,e∈ps
theorem SoAt.same {H H':Hp}{sl:Addr}{us:List V}{ps:List Cl}(s:Ap H H')(h:SoAt H sl us ps):SoAt H' sl us ps:={ h with l:=s.get h.l,pr:=h.pr.tup λc ys e=>s.get e,tg:=h.tg.tup λc ys e=>s.get e }
theorem Oh {ps:List Cl}(nd:(ps.map (·.z)).Nodup):((ps.map Hs)).Nodup:=by
 have:(ps.map Hs).map (λl=>l.headD (Sum.inl 0))=(ps.map (·.z)).map λz=>(Sum.inl z:Key):=by rw[bw,bw];rfl
 have h2:((ps.map Hs).map (λl:List Key=>l.headD (Sum.inl 0))).Nodup:=by
  rw[this];exact fc _ (λa b (n:a≠b) e=>n (cI e)) nd
 exact List.Pairwise.imp (λn e=>n (by rw[e])) (eZ.mp h2)
theorem OP {ps:List Cl}{c:Int->Int}(nd:(ps.map (·.z)).Nodup){e:Cl}(he:e∈ps):A4 (cK ps c) (Hs e)=some (.int (c e.z)):=by
 refine FU ?_ (aT.mpr ⟨e,he,rfl⟩);unfold cK;rw[bw];exact Oh nd
theorem Xp {κ:Type}[DecidableEq κ]{g:Cl->κ}{f:Cl->V}{w:V}{e:Cl}:∀{ps:List Cl},(ps.map g).Nodup->e∈ps->putK (ps.map λx=>(g x,f x)) (g e) w=ps.map λx=>(g x,if g x=g e then w else f x):=λ{ps} nd he=>by
 have hv:A4 (ps.map λx=>(g x,f x)) (g e)=some (f e):=FU (by rw[bw];exact nd) (aT.mpr ⟨e,he,rfl⟩);unfold putK;rw[GE,hv,bF (show(some (f e)).isSome=true from rfl),bw];refine cD λx _=>?_
 show(if g x=g e then _ else _)=_
 by_cases h:g x=g e
 ·rw[bF h,bF h]
 ·rw[bH h,bH h]
theorem Uw {ps:List Cl}{c:Int->Int}{w:Int}(nd:(ps.map (·.z)).Nodup){e:Cl}(he:e∈ps):putK (cK ps c) (Hs e) (.int w)=cK ps λz=>if z=e.z then w else c z:=by
 unfold cK;rw[Xp (Oh nd) he];refine cD λx hx=>?_
 by_cases h:x.z=e.z
 ·obtain rfl:=AE nd hx he h;rw[bF rfl];show _=(Hs x,V.int (if x.z=x.z then w else c x.z));rw[bF rfl]
 ·show _=(Hs x,V.int (if x.z=e.z then w else c x.z));rw[bH (λz=>h (by have:=congrArg (λl:List Key=>l.headD (Sum.inl 0)) z;exact cI this)),bH h]
theorem UF {cs:List Cl} {us:List V} {sl:Addr} {Q:VK} {σ:St} {H:Hp} (pr:Ma H cs us) (hsl:H sl=some (.lst us)) (hn:cs.length<=1000)
  (hQ:∀l H' (ts:List Addr),H l=none->Ap H H'->H' l=some (.lst (ts.map V.ref))->ts.length=cs.length->(∀(i:Nat) t e,ts[i]?=some t->cs[i]?=some e->H' t=some (.tup [.ref e.ta,e.v]))->Q (.ref l) H') :
  Da [none,none] (Re K 2 (Fo (Bt 0) (Fo (Bt 1) Tx))) PD (Zr (Sa (Tq 1) (Sa (Tq 0) MT))) σ Q (Xr K sl) H:=by
 have lu:=Ho pr;intro l hl;refine⟨λi m σ' H'=>m=us.length-i/\i<=us.length/\(∃y0 y1,σ'=[y0,y1])/\Ap H H'/\∃ts:List Addr,H' l=some (.lst (ts.map V.ref))/\ts.length=i/\∀(j:Nat) t e,ts[j]?=some t->cs[j]?=some e->H' t=some (.tup [.ref e.ta,e.v]),⟨us.length,by simp,bU _,⟨_,_,rfl⟩,Al hl _,[],Ae,rfl,λj t e h=>by simp at h⟩,?_⟩
 rintro i m σ' H' ⟨rfl,hi,⟨y0,y1,rfl⟩,hs,ts,hl',lt,ht⟩
 obtain⟨h1,h2,h3⟩:=C2 (K:=K) (AI.of hsl) H' hs i
 by_cases hlt:i<us.length
 ·refine .inr ⟨h1 hlt,λx H'' y=>?_⟩;obtain⟨rfl,hx⟩:=h2 x H'' y;obtain⟨e,he,a,rfl,ha⟩:=FC pr (hx hlt);refine⟨a,_,rfl,AV.of (hs.get ha),rfl,_,_,rfl,_,_,rfl,rfl,?_⟩;refine⟨_,rfl,_,rfl,MH,λt nt=>?_⟩;have s4:=Al nt (.tup [.ref e.ta,e.v]);have hl4:=s4.get hl';have ntl:∀b ys,(upd H'' t (.tup [.ref e.ta,e.v])) b=some (.tup ys)->b≠l:=λb ys h=>AL h hl4 (by intro z;cases z)
  refine⟨_,hl4,Bd (by rw[aS];omega),us.length-(i+1),by omega,rfl,hlt,⟨_,_,rfl⟩,AW (hs.trans s4) hl _,ts++[t],?_,by rw[bx,lt];rfl,λj t' e' g1 g2=>?_⟩
  ·rw[Ae,bA];rfl
  ·by_cases hj:j<ts.length
   ·rw[cw hj] at g1;have:=s4.get (ht j t' e' g1 g2);rw[Ag (ntl _ _ this)];exact this
   ·rw[cY (by omega)] at g1;have hj':j-ts.length<1:=(bu.mp g1).1;have:j=i:=by omega
    subst this;rw[he] at g2;cases g2;rw[lt,Nat.sub_self] at g1;cases g1;have:(upd H'' t (.tup [.ref e.ta,e.v])) t=some (.tup [.ref e.ta,e.v]):=Ae;rw[Ag (ntl _ _ this)];exact this
 ·have e:i=us.length:=by omega
  subst e;exact .inl ⟨h3 (aZ _),hQ l H' ts hl hs hl' (by omega) ht⟩
def bK (rs:List Cl):List (List Key×V):=rs.map λe=>(Hs e,e.v)
theorem TM {ps:List Cl}(nd:(ps.map (·.z)).Nodup){e:Cl}(he:e∈ps):A4 (bK ps) (Hs e)=some e.v:=by
 refine FU ?_ (aT.mpr ⟨e,he,rfl⟩);unfold bK;rw[bw];exact Oh nd
theorem YN {c e:Cl}(h:Hs c=Hs e):c.z=e.z:=by have:=congrArg (λl:List Key=>l.headD (Sum.inl 0)) h;exact cI this
theorem Xk {ps:List Cl}{e:Cl}(he:∀c∈ps,c.z≠e.z):A4 (bK ps) (Hs e)=none:=Ft λx hx z=>by
 obtain⟨c,hc,rfl⟩:=aT.mp hx;exact he c hc (YN z)
theorem W1 {cs:List Cl}{e:Cl}(h:e∈cs):(Ba e.z cs).length<cs.length:=by
 unfold Ba;rw[List.length_filter_lt_length_iff_exists];exact⟨e,h,by simp⟩
theorem VX {ps rs:List Cl}(nd:(ps.map (·.z)).Nodup)(hs:∀e∈rs,e∈ps){e:Cl}(he:e∈ps):BI (bK rs) (Hs e)=bK (Ba e.z rs):=by
 unfold bK BI Ba;rw[dq]
 congr 1
 refine e9 λc hc=>?_
 show decide (Hs c≠Hs e)=decide (c.z≠e.z);rw[cq,bq,bq];exact⟨λh z=>h (by rw[AE nd (hs c hc) he z]),λh z=>h (YN z)⟩
def RM (H:Hp)(zs:List Int):V->Bool
 | .ref a=>match H a with
  |some (.tup [_,.ref t])=>(match H t with
   |some (.tup [.int z,_,_])=>decide (z∈zs)
   |_=>false)
  |_=>false
 |_=>false
theorem Pj {H:Hp}{zs:List Int}{e:Cl}{v:V}(h:Xq H e v)(ht:H e.ta=some (.tup [.int e.z,.int e.y,.int (A8 e.bk)])):RM H zs v=decide (e.z∈zs):=by
 obtain⟨a,rfl,ha⟩:=h;unfold RM;simp only[ha,ht]
theorem Mb {H:Hp}{zs:List Int}:∀{ps:List Cl} {us:List V},Ma H ps us->(∀e∈ps,H e.ta=some (.tup [.int e.z,.int e.y,.int (A8 e.bk)]))->Ma H (ps.filter λe=>decide (e.z∈zs)) (us.filter (RM H zs))
 |[],us,h,_=>by cases h;exact rfl
 |e::ps,us,h,ht=>by
  obtain⟨v,vs,rfl,h1,h2⟩:=h;have ih:=Mb (zs:=zs) h2 λc hc=>ht c (a9 _ hc)
  have er:=Pj (zs:=zs) h1 (ht e bc)
  by_cases hz:e.z∈zs
  ·rw[bR (by simpa using hz),bR (by rw[er];simpa using hz)];exact⟨v,_,rfl,h1,ih⟩
  ·rw[bS (by simpa using hz),bS (by rw[er];simpa using hz)];exact ih
theorem Z7 {c e:Cl}(h:wT (CC (Hr c))=wT (CC (Hr e))):c.z=e.z:=by
 have:some c.z=some e.z:=congrArg (λl:List Int=>l[3]?) h;exact bf this
theorem Yd {ps:List Cl}(nd:(ps.map (·.z)).Nodup){e:Cl}(he:e∈ps){hs:List Cl}(hh:∀c∈hs,c∈ps):((hs.map Hr).map CC).countP (λu=>decide (wT u=wT (CC (Hr e))))=(hs.map (·.z)).count e.z:=by
 rw[bw,List.countP_map,List.count,List.countP_map];refine List.countP_congr λc hc=>?_
 show decide (wT (CC (Hr c))=wT (CC (Hr e)))=true↔(c.z == e.z)=true;rw[bq,cV];exact⟨Z7,λh=>by rw[AE nd (hh c hc) he h]⟩
def Hx (K:W.Frag):Sp:=λvs H Q _=>∃sl us ps hl hs,vs=[.ref sl,.ref hl]/\SoAt H sl us ps/\XT H hl hs ps/\
 ∀l us' ps' rs H',Ap H H'->H l=none->H' l=some (.lst us')->Ma H' ps' us'->ps'.Sublist ps->(∀e,e∈ps'↔e∈rs)->Cas (hs.map (·.z)) (λ_=>False) (Lc ps) (Lc rs)->(∀x∈Lc rs,¬Nf (Lc rs) (hs.map (·.z)) x.1)->Q (.ref l) H'
theorem M8 (T:Txt K mg Ab Ad Aa Af XC)(F:Fun K "_law_swept" "_law_swept" FR f fd)(Dg:BH P w K mg base 1 Af "count" ["self","number"] (Fi K Af Aa))(ES:Def P w K mg base 1 "_law_tags" ["_law_block_here"] (Jl K)):FnOk P w K mg base BO 2 f fd ["_law_some","_law_held"] (Hx K):=by
 exists Bb
 ·obtain⟨sl,us,ps,hl,hs,rfl,_⟩:=h;rfl
 obtain⟨sl,us,ps,hl,hs,rfl,so,he,hq⟩:=h;have hu:=BF hr;have hu9:=FZ hr;refine⟨_,(!Ah (@AD _ _ (2) _ _ _ _ Bb.nd rfl (by trivial) (!T9) (by rfl) (by trivial)) (!Ah (!B2 b5 rfl (!A0 (pv 0)) (!J3 rfl (!Ax (@An _ _ (3) _ Bb.nd rfl (by trivial) (by trivial)) (!Ax (@An _ _ (4) _ Bb.nd rfl (by trivial) (by trivial)) (!Bv)))) (!Ak (!ET hu (pv 2) (pv 4) (!Gd b7 ir PySem.F.type_list_count (TH hu9) (pv 1) (!Ac (pv 4) (!Ai))))) (by intro _;rfl)) (!Ah (!B2 b5 rfl (!A0 (pv 0)) (!J3 rfl (!Ax (@An _ _ (3) _ Bb.nd rfl (by trivial) (by trivial)) (!Ax (@An _ _ (4) _ Bb.nd rfl (by trivial) (by trivial)) (!Bv)))) (!Ak (!B2 b5 rfl (!A0 (!AK ES (by trivial) rfl (!Ac (pv 3) (!Ai)))) (@An _ _ (5) _ Bb.nd rfl (by trivial) (by trivial)) (!Ak (!ET hu (pv 2) (pv 5) (!As Bi (!B8 hu (pv 2) (pv 5) (λ_ _=>rfl)) (!Aj)))) (by intro _;rfl))) (by intro _;rfl)) (!Ah (@AD _ _ (6) _ _ _ _ Bb.nd rfl (by trivial) (!BX (QH (K:=K) (by rfl) hu9 rfl) (by rfl) T.b_dict Ww (!Ac (@Br _ ["_law_block_here","_law_tag"] _ _ _ _ _ _ _ _ _ _ rfl (!A0 (pv 0)) (by decide +kernel) (λC s H fp=>⟨(@B3 _ (K) _ _ _ _ (2) (by rfl) rfl (!Ax (@An _ _ (0) _ (show(["_law_block_here","_law_tag"]:List Str).Nodup by decide +kernel) rfl (by trivial) (by trivial)) (!Ax (@An _ _ (1) _ (show(["_law_block_here","_law_tag"]:List Str).Nodup by decide +kernel) rfl (by trivial) (by trivial)) (!Bv))) (by rfl) (by rfl)),(!AU),(!DQ (!Ac (pv 1) (!Ac (pv 0) (!Ai))))⟩) (by intro _;rfl)) (!Ai))) (by rfl) (by trivial)) (!Ah (@FE _ ["_law_block_here","_law_tag","_law_counts"] [none,none,some 2] (7) _ _ _ _ _ _ _ _ _ _ _ _ _ _ Bb.nd rfl (by trivial) rfl (!A0 (pv 0)) (by rfl) rfl (by repeat (first|exact trivial|refine⟨rfl,?_⟩)) (by repeat (first|exact trivial|refine⟨λh=>(by first|exact⟨_,rfl⟩|cases h),?_⟩)) (λC s H fp=>⟨(@B3 _ (K) _ _ _ _ (2) (by rfl) rfl (!Ax (@An _ _ (0) _ (show(["_law_block_here","_law_tag","_law_counts"]:List Str).Nodup by decide +kernel) rfl (by trivial) (by trivial)) (!Ax (@An _ _ (1) _ (show(["_law_block_here","_law_tag","_law_counts"]:List Str).Nodup by decide +kernel) rfl (by trivial) (by trivial)) (!Bv))) (by rfl) (by rfl)),(!C7 (!Au Bg (!B8 hu (pv 2) (pv 1) (λ_ _=>rfl)) (!Aj) (Ay _))),(pv 1)⟩) (by intro _;rfl) (by rfl) (by trivial)) (!Ah (!ME b5 (!Au (QL hu) (pv 7) (!BJ (!Ai)) (Ay _)) (!Ak (!B2 b5 rfl (!A0 (!AK ES (by trivial) rfl (!Ac (!UC hu (pv 6) (!Ud b7 iQ iN VC (pv 7)) ⟨rfl,rfl,rfl,rfl⟩) (!Ai)))) (@An _ _ (4) _ Bb.nd rfl (by trivial) (by trivial)) (!Ah (!ET hu (pv 2) (pv 4) (!As FK (!B8 hu (pv 2) (pv 4) (λ_ _=>rfl)) (!Aj))) (!Ak (!AM (!Au Bg (!B8 hu (pv 2) (pv 4) (λ_ _=>rfl)) (!Aj) (Ay _)) (!Ak (!A6 (!Gd b7 dM dJ DX (pv 7) (!Ac (pv 4) (!Ai))))) (!Av)))) (by intro _;rfl)))) (!Ak (!Ao (@CM _ ["_law_row_here","_law_blocks"] [none,some 6] _ _ _ _ _ _ _ _ _ _ _ rfl (!A0 (pv 0)) (by rfl) rfl (by repeat (first|exact trivial|refine⟨rfl,?_⟩)) (by repeat (first|exact trivial|refine⟨λh=>(by first|exact⟨_,rfl⟩|cases h),?_⟩)) (λC s H fp=>⟨(@An _ _ (0) _ (show(["_law_row_here","_law_blocks"]:List Str).Nodup by decide +kernel) rfl (by trivial) (by trivial)),(!C7 (!EW (!QC hu (!Aw (DT (K:=K) (by rfl)) (pv 0) (!Aj) (λ_ _=>rfl)) (pv 1)) (by first|exact Cn _ (by decide) (by decide)|rfl))),(pv 0)⟩) (by intro _;rfl)))))))))),?_⟩
 try dsimp only[BB,Cx.nox,Cx.wish]
 refine λd hd=>?_
 have few:=so.few;have s1:=Al hd (.dT []);have tp:∀{H':Hp},Ap H H'->∀kvs,Ap H (upd H' d (.dT kvs)):=λs kvs=>AW s hd _
 have lu:us.length=ps.length:=Ho so.pr
 try dsimp only
 refine AQ λNF eNF=>?_
 refine⟨_,rfl,sl,rfl,⟨_,AI.of (s1.get so.l)⟩,?_⟩;refine Cp (K:=K) (a:=sl) (xs:=us) (λi σ H'=>∃v3 v4 v5 v6 v7,σ=[some (.ref sl),some (.ref hl),some (.ref d),v3,v4,v5,v6,v7]/\Ap H H'/\H' d=some (.dT (cK (ps.take i) λz=>((hs.map (·.z)).count z:Int)))) ⟨_,_,_,_,_,rfl,s1,Ae⟩ ?_ ?_ ?_
 ·rintro i σ H' _ ⟨_,_,_,_,_,_,s',_⟩
  exact AI.of (s'.get so.l)
 ·rintro i x σ H' hx ⟨v3,v4,v5,v6,v7,rfl,s',hd'⟩
  obtain⟨e,he',ya,rfl,hya⟩:=FC so.pr hx;have hm:=a8 he';have so':=so.same s';have t':=(so'.tg e hm).1;have no:A4 (cK (ps.take i) λz=>((hs.map (·.z)).count z:Int)) (Hs e)=none:=Ft λx hx z=>by
   obtain⟨c,hc,rfl⟩:=aT.mp hx;have e1:c.z=e.z:=YN z;obtain⟨j,hj⟩:=cz hc;rw[dW] at hj
   split at hj
   ·next lt=>
    have h1:(ps.map (·.z))[j]?=some e.z:=by rw[bz,hj];exact congrArg some e1
    have h2:(ps.map (·.z))[i]?=some e.z:=by rw[bz,he'];rfl
    have:=(List.getElem?_inj (bu.mp h1).1 so.nd).mp (h1.trans h2.symm);omega
   ·cases hj
  have isg:∀c∈ps,CD 8 (CC (Hr c))=true:=λc hc=>HX (so.tg c hc).2.2 6
  refine⟨ya,_,rfl,AV.of (s'.get hya),rfl,_,_,rfl,_,_,rfl,rfl,?_⟩;refine⟨_,rfl,.inl ⟨rfl,_,AI.of (s'.get he.1)⟩,_,rfl,hl,_,.ref e.ta,CC (Hr e),(hs.map Hr).map CC,rfl,rfl,s'.get he.1,EF t',isg e hm,Jr so'.tg λc hc=>he.2.2 c hc,λu hu=>?_,?_⟩
  ·obtain⟨g,hg,rfl⟩:=aT.mp hu;obtain⟨c,hc,rfl⟩:=aT.mp hg;exact isg c (he.2.2 c hc)
  rw[Yd so.nd hm he.2.2];refine⟨_,rfl,_,rfl,d,_,rfl,IL.t (k:=Hs e) hd' t' (Bd (by unfold cK;rw[aS,b6];omega)),_,_,_,_,_,rfl,tp s' _,?_⟩;rw[Ae,Fm _ no,bN,he'];unfold cK;rw[bA];rfl
 rintro σ H' ⟨v3,v4,v5,v6,v7,rfl,s',hd'⟩
 rw[lu,dv] at hd';subst eNF
 try dsimp only
 refine AQ λNF eNF=>?_
 refine⟨_,rfl,sl,rfl,⟨_,AI.of (s'.get so.l)⟩,?_⟩;refine Cp (K:=K) (a:=sl) (xs:=us) (λi σ H'=>∃v3 v4 v5 v6 v7,σ=[some (.ref sl),some (.ref hl),some (.ref d),v3,v4,v5,v6,v7]/\Ap H H'/\H' d=some (.dT (cK ps λz=>(Fd (Lc (ps.take i)) z:Int)+((hs.map (·.z)).count z:Int)))) ⟨_,_,_,_,_,rfl,s',by rw[hd'];congr 3;funext z;show _=((0:Nat):Int)+_;omega⟩ ?_ ?_ ?_
 ·rintro i σ H' _ ⟨_,_,_,_,_,_,s',_⟩
  exact AI.of (s'.get so.l)
 ·rintro i x σ H2 hx ⟨v3,v4,v5,v6,v7,rfl,s2,hd2⟩
  obtain⟨e,he',ya,rfl,hya⟩:=FC so.pr hx;have hm:=a8 he';refine⟨ya,_,rfl,AV.of (s2.get hya),rfl,_,_,rfl,_,_,rfl,rfl,?_⟩;refine DI λEB eEB=>?_
  refine⟨_,rfl,e.v,e.bk,rfl,Rep.same s2 _ _ (so.tg e hm).2.1,so.ok e hm,λtl H3 tus s3 ntl htl rtl=>?_⟩;have ntd:tl≠d:=λz=>by rw[z,hd2] at ntl;cases ntl
  have lt3:tus.length=(Ar e.bk).length:=by rw[AA.len _ _ rtl,aS]
  refine⟨tl,rfl,⟨_,AI.of htl⟩,?_⟩;refine Cp (K:=K) (a:=tl) (xs:=tus) (λj σ H'=>∃v5,σ=[some (.ref sl),some (.ref hl),some (.ref d),some e.v,some (.ref e.ta),v5,v6,v7]/\Ap H H'/\H' tl=some (.lst tus)/\AA NL H' ((Ar e.bk).map CC) tus/\H' d=some (.dT (cK ps λz=>(Fd (Lc (ps.take i)) z:Int)+((hs.map (·.z)).count z:Int)+((((Ar e.bk).map (·.1)).take j).count z:Int)))) ⟨_,rfl,s2.trans s3,htl,rtl,by rw[s3.get hd2];simp⟩ ?_ ?_ ?_
  ·rintro j σ H' _ ⟨_,_,_,h,_⟩
   exact AI.of h
  ·rintro j y σ H4 hy ⟨v5,rfl,s4,htl4,rtl4,hd4⟩
   obtain⟨t,ht,rt⟩:=AA.get rtl4 hy;rw[bz] at ht;obtain⟨g,hg,rfl⟩:=cy.mp ht;obtain⟨ta,rfl,hta⟩:=F1 rt;obtain⟨c,hc,rfl⟩:=so.kn e hm g (a8 hg);have gd:BG H4 d (.ref ta) (some (.int ((Fd (Lc (ps.take i)) c.z:Int)+((hs.map (·.z)).count c.z:Int)+((((Ar e.bk).map (·.1)).take j).count c.z:Int)))):=by
    have:=BG.t (k:=Hs c) hd4 hta;rw[OP so.nd hc] at this;exact this
   refine⟨_,rfl,_,rfl,d,_,rfl,gd,_,_,rfl,rfl,_,rfl,_,rfl,d,_,rfl,IL.t (k:=Hs c) hd4 hta (Bd (by unfold cK;rw[aS];have:=so.few;omega)),_,rfl,tp s4 _,by rw[Ag ntd];exact htl4,AX (λa ys h=>by rw[Ag (AL h hd4 (by intro z;cases z))];exact h) _ _ rtl4,?_⟩;rw[Ae,Uw so.nd hc]
   congr 3
   funext z
   rw[bN,bz,hg];show _=(Fd (Lc (ps.take i)) z:Int)+((hs.map (·.z)).count z:Int)+((((Ar e.bk).map (·.1)).take j++[c.z]).count z:Int);rw[fK,List.count_singleton]
   by_cases hz:z=c.z
   ·rw[bF hz,hz];simp only[beq_self_eq_true,if_true];omega
   ·rw[bH hz,bH (by simpa using λh:c.z=z=>hz h.symm)];simp
  ·rintro σ H4 ⟨v5,rfl,s4,htl4,rtl4,hd4⟩
   subst eEB;refine⟨_,_,_,_,_,rfl,s4,?_⟩;rw[hd4]
   congr 3
   funext z
   have e1:((Ar e.bk).map (·.1)).take tus.length=(Ar e.bk).map (·.1):=bJ (by rw[aS];omega);have e2:Lc (ps.take (i+1))=Lc (ps.take i)++[(e.z,(Ar e.bk).map (·.1))]:=by rw[bN,he'];unfold Lc;rw[bA];rfl
   rw[e1,e2,RY,Fy];have:Fd [] z=0:=rfl;simp only[this,Nat.add_zero,Int.natCast_add];omega
 rintro σ H1 ⟨w3,w4,w5,w6,w7,rfl,s1,hd1⟩
 rw[lu,dv] at hd1;subst eNF
 try dsimp only
 refine AQ λNF eNF=>?_
 generalize eX:hs.map (·.z)=X at hd1 hq;have so1:=so.same s1;refine⟨_,rfl,sl,rfl,⟨_,AI.of so1.l⟩,?_⟩;refine UF so1.pr so1.l (by omega) λpl H2 ts nl2 s2 hpl lts hts=>?_
 have so2:=so1.same s2;refine⟨pl,ts,bK ps,rfl,AI.of hpl,by unfold bK;rw[aS];exact lts,by unfold bK;rw[aS];omega,by unfold bK;rw[bw];exact Oh so.nd,λi t k v h1 h2=>?_,λbd hbd=>?_⟩
 ·unfold bK at h2;rw[bz] at h2;obtain⟨e,he',e2⟩:=cy.mp h2;cases e2;exact⟨e.ta,hts i t e h1 he',(so2.tg e (a8 he')).1⟩
 have s3:=(s1.trans s2).trans (Al hbd (.dT (bK ps)));have hbdH:H bd=none:=by
  cases h:H bd with
  |none=>rfl
  |some o=>rw[(s1.trans s2).get h] at hbd;cases hbd
 have hd3:(upd H2 bd (.dT (bK ps))) d=some _:=(Al hbd _).get (s2.get hd1);have ndb:d≠bd:=λz=>by rw[<-z,s2.get hd1] at hbd;cases hbd
 have hb3:(upd H2 bd (.dT (bK ps))) bd=some (.dT (bK ps)):=Ae;generalize (upd H2 bd (.dT (bK ps)))=H3 at s3 hd3 hb3;have so3:=so.same s3;subst eNF
 try dsimp only
 refine AQ λNF eNF=>?_
 refine⟨_,rfl,sl,rfl,⟨_,AI.of so3.l⟩,?_⟩;refine Dj (fr:=[some 2]) so3.pr so3.l (by omega) (λe=>decide (V.int ((Fd (Lc ps) e.z:Int)+(X.count e.z:Int))=V.int 0)) (λe=>.ref e.ta) (λe he H' R s' hR=>?_) (λe he H' R s' hR=>⟨_,rfl,hR⟩) λwl H4 nwl s4 hw4=>?_
 ·have gd:=BG.t (k:=Hs e) (s'.get hd3) (s'.get (so3.tg e he).1);rw[OP so.nd he] at gd;exact⟨_,rfl,_,rfl,d,_,rfl,gd,rfl,_,rfl,hR⟩
 have hwlH:H wl=none:=by
  cases h:H wl with
  |none=>rfl
  |some o=>rw[s3.get h] at nwl;cases nwl
 have s34:=s3.trans s4;have hd4:=s4.get hd3;have hb4:=s4.get hb3;have hz:∀{e:Cl},decide (V.int ((Fd (Lc ps) e.z:Int)+(X.count e.z:Int))=V.int 0)=true↔Nf (Lc ps) X e.z:=λ{e}=>by
  rw[bq];constructor
  ·intro h;have h:(Fd (Lc ps) e.z:Int)+(X.count e.z:Int)=0:=by injection h
   exact⟨CG.mp (by omega),cg.mp (by omega)⟩
  ·intro h;rw[CG.mpr h.1,cg.mpr h.2];rfl
 generalize egs:ps.filter (λe=>decide (V.int ((Fd (Lc ps) e.z:Int)+(X.count e.z:Int))=V.int 0))=gs at hw4;have hg:∀c,c∈gs↔c∈ps/\Nf (Lc ps) X c.z:=λc=>by rw[<-egs,bM,hz]
 have ndg:(gs.map (·.z)).Nodup:=by rw[<-egs];exact((c9).map _).nodup so.nd
 have hgr:AA NL H4 ((gs.map Hr).map CC) (gs.map λe=>V.ref e.ta):=Jr (so.same s34).tg λc hc=>((hg c).mp hc).1
 subst eNF
 try dsimp only
 refine AQ λNF eNF=>?_
 refine⟨λm σ H'=>∃(rs W:List Cl) (wus:List V) (v6:Option V),m=rs.length/\σ=[some (.ref sl),some (.ref hl),some (.ref d),w3,v6,w5,some (.ref bd),some (.ref wl)]/\Ap H H'/\H' d=some (.dT (cK ps λz=>(Fd (Lc rs) z:Int)+(X.count z:Int)))/\H' bd=some (.dT (bK rs))/\H' wl=some (.lst wus)/\AA NL H' ((W.map Hr).map CC) wus/\
  (∀e∈rs,e∈ps)/\(rs.map (·.z)).Nodup/\(W.map (·.z)).Nodup/\(∀e∈W,e∈rs/\Nf (Lc rs) X e.z)/\(∀e∈rs,Nf (Lc rs) X e.z->e∈W)/\Cas X (λ_=>False) (Lc ps) (Lc rs)/\(∀e∈rs,∀t∈Ar e.bk,∃c∈rs,t=Hr c),⟨_,ps,gs,_,_,rfl,rfl,s34,hd4,hb4,hw4,hgr,(λ_ h=>h),so.nd,ndg,λe he'=>(hg e).mp he',λe he' hn=>(hg e).mpr ⟨he',hn⟩,.refl _,so.kn⟩,?_⟩
 rintro m σ H5 ⟨rs,W,wus,v6,rfl,rfl,s5,hd5,hb5,hw5,hwr,hrs,ndr,ndw,hW,hcl,hca,knr⟩
 have lw:wus.length=W.length:=by rw[AA.len _ _ hwr,aS,aS]
 refine⟨_,rfl,Jo,λel hel=>⟨wl,el,_,rfl,rfl,AI.of ((Al hel _).get hw5),AI.of Ae,_,rfl,Co (λc=>?_) (λc=>?_)⟩⟩
 ·have c:wus≠[]:=by simpa using c
  have wn:W≠[]:=λz=>by
   rw[z] at lw;exact c (dm (by simpa using lw))
  obtain⟨W',e,rfl⟩:∃W' e,W=W'++[e]:=⟨W.dropLast,W.getLast wn,(dY wn).symm⟩
  have s6:=Al hel (.lst []);have hd6:=s6.get hd5;have hb6:=s6.get hb5;have hw6:=s6.get hw5;have hwr6:=AA.same s6 _ _ hwr;have s56:=s5.trans s6;generalize (upd H5 el (.lst []))=H6 at s6 hd6 hb6 hw6 hwr6 s56;obtain⟨heR,heN⟩:=hW e (by simp);have heP:=hrs e heR;have lw':wus.length=W'.length+1:=by rw[lw];simp
  obtain⟨wus',y,rfl⟩:∃wus' y,wus=wus'++[y]:=⟨wus.dropLast,wus.getLast c,(dY c).symm⟩
  have lw2:wus'.length=W'.length:=by simpa using lw'
  rw[bA,bA] at hwr6;have hwl6:AA NL H6 ((W'.map Hr).map CC) wus'/\Rep NL H6 (CC (Hr e)) y:=by
   refine⟨RO (by rw[aS,aS];exact lw2) λi t v h1 h2=>?_,?_⟩
   ·have hi:i<wus'.length:=(bu.mp h2).1;obtain⟨t',a1,a2⟩:=AA.get hwr6 (i:=i) (v:=v) (by rw[cw hi];exact h2);rw[cw (by rw[aS,aS];omega),h1] at a1;cases a1;exact a2
   ·obtain⟨t',a1,a2⟩:=AA.get hwr6 (i:=wus'.length) (v:=y) (by simp);rw[cY (by rw[aS,aS];omega)] at a1;simp only[List.length_map,lw2,Nat.sub_self,List.map_cons,List.map_nil,List.getElem?_cons_zero,Option.some.injEq] at a1;rw[a1];exact a2
  obtain⟨a,rfl,ha⟩:=F1 hwl6.2;have nbw:bd≠wl:=AL hb6 hw6 (by intro z;cases z);have ndw2:d≠wl:=AL hd6 hw6 (by intro z;cases z);have hb7:(upd H6 wl (.lst wus')) bd=some (.dT (bK rs)):=by rw[Ag nbw];exact hb6
  have ha7:(upd H6 wl (.lst wus')) a=some (.tup ((Hs e).map kV)):=by rw[Ag (AL ha hw6 (by intro z;cases z))];exact ha
  have edl:(wus'++[V.ref a]).dropLast=wus':=by simp
  refine⟨λσ' H'=>∃(rs' W:List Cl) (wus:List V) (v6:Option V),rs'.length<rs.length/\σ'=[some (.ref sl),some (.ref hl),some (.ref d),w3,v6,w5,some (.ref bd),some (.ref wl)]/\Ap H H'/\H' d=some (.dT (cK ps λz=>(Fd (Lc rs') z:Int)+(X.count z:Int)))/\H' bd=some (.dT (bK rs'))/\H' wl=some (.lst wus)/\AA NL H' ((W.map Hr).map CC) wus/\
   (∀e∈rs',e∈ps)/\(rs'.map (·.z)).Nodup/\(W.map (·.z)).Nodup/\(∀e∈W,e∈rs'/\Nf (Lc rs') X e.z)/\(∀e∈rs',Nf (Lc rs') X e.z->e∈W)/\Cas X (λ_=>False) (Lc ps) (Lc rs')/\(∀e∈rs',∀t∈Ar e.bk,∃c∈rs',t=Hr c),(by rintro σ' H' ⟨a1,a2,a3,a4,a5,a6⟩;exact⟨_,a5,a1,a2,a3,a4,rfl,a6⟩),?_⟩
  refine DI λEB eEB=>?_
  refine⟨_,rfl,bd,rfl,.inr ⟨_,.inl hb6⟩,_,rfl,.inl ⟨rfl,_,AI.of hw6⟩,wl,_,_,rfl,rfl,hw6,by simp,bK rs,Hs e,e.v,a,by rw[edl];exact hb7,rfl,by rw[edl];exact ha7,TM ndr heR,?_⟩;rw[edl,VX so.nd hrs heP];have s7:Ap H (upd (upd H6 wl (.lst wus')) bd (.dT (bK (Ba e.z rs)))):=AW (AW s56 hwlH _) hbdH _;have hd7:(upd (upd H6 wl (.lst wus')) bd (.dT (bK (Ba e.z rs)))) d=_:=(Ag ndb).trans ((Ag ndw2).trans hd6);have hb7':(upd (upd H6 wl (.lst wus')) bd (.dT (bK (Ba e.z rs)))) bd=some (.dT (bK (Ba e.z rs))):=Ae;have hw7:(upd (upd H6 wl (.lst wus')) bd (.dT (bK (Ba e.z rs)))) wl=some (.lst wus'):=(Ag (Ne.symm nbw)).trans Ae;have kt7:∀b ys,H6 b=some (.tup ys)->(upd (upd H6 wl (.lst wus')) bd (.dT (bK (Ba e.z rs)))) b=some (.tup ys):=λb ys h=>by
   rw[Ag (AL h hb6 (by intro z;cases z)),Ag (AL h hw6 (by intro z;cases z))];exact h
  have hwr7:=AX kt7 _ _ hwl6.1;generalize (upd (upd H6 wl (.lst wus')) bd (.dT (bK (Ba e.z rs))))=H7 at s7 hd7 hb7' hw7 hwr7;refine⟨e.v,e.bk,rfl,Rep.same s7 _ _ (so.tg e heP).2.1,so.ok e heP,λtl H8 tus s8 ntl htl rtl=>?_⟩;have nN:∀c∈rs,Nf (Lc rs) X c.z->∀e'∈rs,c.z∉(Ar e'.bk).map (·.1):=λc _ h e' he'=>h.1 _ (CU he')
  have kn':∀e'∈rs,∀t∈Ar e'.bk,∃c∈Ba e.z rs,t=Hr c:=λe' he' t ht=>by
   obtain⟨c,hc,rfl⟩:=knr e' he' t ht;exact⟨c,Be.mpr ⟨hc,λz=>heN.1 _ (CU he') (by rw[<-z];exact aT.mpr ⟨_,ht,rfl⟩)⟩,rfl⟩
  have nsub:∀z,Nf (Lc rs) X z->Nf (Lc (Ba e.z rs)) X z:=λz h=>h.sub (λx hx=>by rw[E3] at hx;exact(CH.mp hx).1) λ_ h=>h
  have nback:∀z,Nf (Lc (Ba e.z rs)) X z->z∉(Ar e.bk).map (·.1)->Nf (Lc rs) X z:=λz h hn=>⟨λx hx=>by
   by_cases hx1:x.1=e.z
   ·have:x=(e.z,(Ar e.bk).map (·.1)):=AE (Jk ndr) hx (CU heR) hx1;rw[this];exact hn
   ·exact h.1 x (by rw[E3];exact CH.mpr ⟨hx,hx1⟩),h.2⟩
  have ltus:tus.length=(Ar e.bk).length:=by rw[AA.len _ _ rtl,aS]
  have ntd:tl≠d:=λz=>by rw[z,hd7] at ntl;cases ntl
  have ntb:tl≠bd:=λz=>by rw[z,hb7'] at ntl;cases ntl
  have ntw:tl≠wl:=λz=>by rw[z,hw7] at ntl;cases ntl
  refine⟨tl,rfl,⟨_,AI.of htl⟩,?_⟩;refine Cp (K:=K) (a:=tl) (xs:=tus) (λj σ H'=>∃(A:List Cl) (wus:List V) (v6:Option V),σ=[some (.ref sl),some (.ref hl),some (.ref d),w3,v6,w5,some (.ref bd),some (.ref wl)]/\Ap H H'/\H' tl=some (.lst tus)/\AA NL H' ((Ar e.bk).map CC) tus/\
   H' d=some (.dT (cK ps λz=>(Fd (Lc (Ba e.z rs)) z:Int)+(X.count z:Int)+((((Ar e.bk).map (·.1)).drop j).count z:Int)))/\H' bd=some (.dT (bK (Ba e.z rs)))/\H' wl=some (.lst wus)/\AA NL H' (((W'++A).map Hr).map CC) wus/\(A.map (·.z)).Nodup/\
   (∀c∈A,c∈Ba e.z rs/\Nf (Lc (Ba e.z rs)) X c.z/\c.z∈(Ar e.bk).map (·.1)/\c.z∉((Ar e.bk).map (·.1)).drop j)/\(∀c∈Ba e.z rs,Nf (Lc (Ba e.z rs)) X c.z->c.z∉((Ar e.bk).map (·.1)).drop j->c∈W'++A)/\A.length<=j) ⟨[],wus',_,rfl,s7.trans s8,htl,rtl,?_,s8.get hb7',s8.get hw7,by rw[cm];exact AA.same s8 _ _ hwr7,cA,(λ_ h=>nomatch h),λc hc hn hd=>?_,aZ _⟩ ?_ ?_ ?_
  ·rw[s8.get hd7]
   congr 3
   funext z
   rw[eC,RW (Jk ndr) (CU heR) z,E3];simp only[Int.natCast_add];omega
  ·rw[eC] at hd;have hc':=Be.mp hc;rcases aY.mp (hcl c hc'.1 (nback _ hn hd)) with h|h
   ·rw[cm];exact h
   ·exact absurd (by rw[ba.mp h]) hc'.2
  ·rintro j σ H' _ ⟨_,_,_,_,_,h,_⟩
   exact AI.of h
  ·rintro j y σ H9 hy ⟨A1,wus1,v6,rfl,s9,htl9,rtl9,hd9,hb9,hw9,hwr9,ndA,hA,hcl9,lA⟩
   obtain⟨t,ht,rt⟩:=AA.get rtl9 hy;rw[bz] at ht;obtain⟨g,hg',rfl⟩:=cy.mp ht;obtain⟨ta,rfl,hta⟩:=F1 rt;obtain⟨c,hc,rfl⟩:=kn' e heR g (a8 hg');have hcP:=hrs c (Be.mp hc).1;have hta:H9 ta=some (.tup ((Hs c).map kV)):=hta;have gj:((Ar e.bk).map (·.1))[j]?=some c.z:=by rw[bz,hg'];rfl
   have jN:j<((Ar e.bk).map (·.1)).length:=(bu.mp gj).1;have dN:((Ar e.bk).map (·.1)).drop j=c.z::((Ar e.bk).map (·.1)).drop (j+1):=by rw[dE jN,(bu.mp gj).2]
   have cN:c.z∈(Ar e.bk).map (·.1):=a8 gj;have gd:=BG.t (k:=Hs c) hd9 hta;rw[OP so.nd hcP] at gd;dsimp only[Bt];refine DI λEC eEC=>?_
   refine⟨_,rfl,_,rfl,d,_,rfl,gd,_,_,rfl,rfl,_,rfl,_,rfl,d,_,rfl,IL.t (k:=Hs c) hd9 hta (Bd (by unfold cK;rw[aS];omega)),?_⟩;have hd10:(upd H9 d (.dT (putK (cK ps λz=>(Fd (Lc (Ba e.z rs)) z:Int)+(X.count z:Int)+((((Ar e.bk).map (·.1)).drop j).count z:Int)) (Hs c) (V.int ((Fd (Lc (Ba e.z rs)) c.z:Int)+(X.count c.z:Int)+((((Ar e.bk).map (·.1)).drop j).count c.z:Int)-1))))) d=some (.dT (cK ps λz=>(Fd (Lc (Ba e.z rs)) z:Int)+(X.count z:Int)+((((Ar e.bk).map (·.1)).drop (j+1)).count z:Int))):=by
    rw[Ae,Uw so.nd hcP]
    congr 3
    funext z
    rw[dN]
    by_cases hz:z=c.z
    ·rw[bF hz,hz,i8];omega
    ·rw[bH hz,iT (λh=>hz h.symm)]
   have nod:∀{b o},H9 b=some o->(∀kvs,o≠.dT kvs)->b≠d:=λ{b o} h n z=>by rw[z,hd9] at h;exact n _ (bf h).symm
   have k10:∀{b o},H9 b=some o->b≠d->(upd H9 d (.dT (putK (cK ps λz=>(Fd (Lc (Ba e.z rs)) z:Int)+(X.count z:Int)+((((Ar e.bk).map (·.1)).drop j).count z:Int)) (Hs c) (V.int ((Fd (Lc (Ba e.z rs)) c.z:Int)+(X.count c.z:Int)+((((Ar e.bk).map (·.1)).drop j).count c.z:Int)-1))))) b=some o:=λ{b o} h n=>by rw[Ag n];exact h
   have s10:Ap H (upd H9 d (.dT (putK (cK ps λz=>(Fd (Lc (Ba e.z rs)) z:Int)+(X.count z:Int)+((((Ar e.bk).map (·.1)).drop j).count z:Int)) (Hs c) (V.int ((Fd (Lc (Ba e.z rs)) c.z:Int)+(X.count c.z:Int)+((((Ar e.bk).map (·.1)).drop j).count c.z:Int)-1))))):=AW s9 hd _;generalize (upd H9 d (.dT (putK (cK ps λz=>(Fd (Lc (Ba e.z rs)) z:Int)+(X.count z:Int)+((((Ar e.bk).map (·.1)).drop j).count z:Int)) (Hs c) (V.int ((Fd (Lc (Ba e.z rs)) c.z:Int)+(X.count c.z:Int)+((((Ar e.bk).map (·.1)).drop j).count c.z:Int)-1)))))=H10 at hd10 k10 s10;have kt10:∀b ys,H9 b=some (.tup ys)->H10 b=some (.tup ys):=λb ys h=>k10 h (nod h (by intro kvs z;cases z))
   have hta10:=kt10 _ _ hta;have htl10:=k10 htl9 ntd;have rtl10:=AX kt10 _ _ rtl9;have hb10:=k10 hb9 (Ne.symm ndb);have hw10:=k10 hw9 (nod hw9 (by intro kvs z;cases z));have hwr10:=AX kt10 _ _ hwr9;have gd2:=BG.t (k:=Hs c) hd10 hta10;rw[OP so.nd hcP] at gd2;have dsub:∀z,z∉((Ar e.bk).map (·.1)).drop j->z∉((Ar e.bk).map (·.1)).drop (j+1):=λz h hm=>h (by rw[dN];exact a9 _ hm)
   have lw9:wus1.length=W'.length+A1.length:=by rw[AA.len _ _ hwr9,aS,aS,bx]
   have lW:W'.length+1<=60:=by
    have:=Fp (m:=ps.map (·.z)) ndw λx hx=>by
     obtain⟨c1,h1,rfl⟩:=aT.mp hx;exact aT.mpr ⟨c1,hrs c1 (hW c1 h1).1,rfl⟩
    rw[aS,aS,bx,df] at this;omega
   have lT:=Nm (so.ok e heP);rw[aS] at jN;refine⟨_,rfl,_,rfl,d,_,rfl,gd2,rfl,_,rfl,Co (λc0=>?_) (λc0=>?_)⟩
   ·have c0:(Fd (Lc (Ba e.z rs)) c.z:Int)+(X.count c.z:Int)+((((Ar e.bk).map (·.1)).drop (j+1)).count c.z:Int)=0:=V.int.inj (bP c0);have z1:Fd (Lc (Ba e.z rs)) c.z=0:=by omega
    have z2:X.count c.z=0:=by omega
    have z3:(((Ar e.bk).map (·.1)).drop (j+1)).count c.z=0:=by omega
    have nfc:Nf (Lc (Ba e.z rs)) X c.z:=⟨CG.mp z1,cg.mp z2⟩
    subst eEC;refine⟨_,rfl,.inl ⟨rfl,_,AI.of hw10⟩,_,rfl,wl,wus1,_,rfl,rfl,hw10,Bd (by omega),A1++[c],wus1++[.ref ta],_,rfl,AW s10 hwlH _,by rw[Ag ntw];exact htl10,AX (λb ys h=>by rw[Ag (AL h hw10 (by intro z;cases z))];exact h) _ _ rtl10,by rw[Ag ndw2];exact hd10,by rw[Ag nbw];exact hb10,Ae,?_,?_,λc1 h1=>?_,λc1 h1 h2 h3=>?_,by rw[bx,df];omega⟩
    ·have:=AA.append (AX (λb ys h=>by rw[Ag (AL h hw10 (by intro z;cases z))];exact h) _ _ hwr10) (AA.one (F:=NL) (H:=upd H10 wl (.lst (wus1++[.ref ta]))) (t:=CC (Hr c)) (v:=.ref ta) (EF (t:=Hr c) (by rw[Ag (AL hta10 hw10 (by intro z;cases z))];exact hta10)));rw[<-cn,bA,bA];exact this
    ·rw[bA,b9];refine⟨ndA,by simp,λx hx y hy z=>?_⟩;obtain⟨c1,h1,rfl⟩:=aT.mp hx;have:y=c.z:=by simpa using hy
     exact(hA c1 h1).2.2.2 (by rw[z,this,dN];exact bc)
    ·rcases aY.mp h1 with h1|h1
     ·obtain⟨a1,a2,a3,a4⟩:=hA c1 h1;exact⟨a1,a2,a3,dsub _ a4⟩
     ·rw[ba.mp h1];exact⟨hc,nfc,cN,cg.mp z3⟩
    ·by_cases hz:c1.z=c.z
     ·obtain rfl:=AE so.nd (hrs c1 (Be.mp h1).1) hcP hz;simp
     ·rw[<-cn];exact aY.mpr (.inl (hcl9 c1 h1 h2 (by rw[dN];exact λhm=>(bE.mp hm).elim hz h3)))
   ·have c0:¬(Fd (Lc (Ba e.z rs)) c.z:Int)+(X.count c.z:Int)+((((Ar e.bk).map (·.1)).drop (j+1)).count c.z:Int)=0:=λz=>c0 (bh (by rw[z]))
    subst eEC;refine⟨A1,wus1,_,rfl,s10,htl10,rtl10,hd10,hb10,hw10,hwr10,ndA,λc1 h1=>?_,λc1 h1 h2 h3=>?_,by omega⟩
    ·obtain⟨a1,a2,a3,a4⟩:=hA c1 h1;exact⟨a1,a2,a3,dsub _ a4⟩
    ·by_cases hz:c1.z=c.z
     ·rw[hz] at h2 h3;have z1:=CG.mpr h2.1;have z2:=cg.mpr h2.2;have z3:=cg.mpr h3;exact absurd (by omega) c0
     ·exact hcl9 c1 h1 h2 (by rw[dN];exact λhm=>(bE.mp hm).elim hz h3)
  ·rintro σ H9 ⟨A1,wus1,v6,rfl,s9,htl9,rtl9,hd9,hb9,hw9,hwr9,ndA,hA,hcl9,lA⟩
   have e0:((Ar e.bk).map (·.1)).drop tus.length=[]:=fR (by rw[aS];omega);rw[e0] at hd9 hA hcl9;subst eEB;refine⟨Ba e.z rs,W'++A1,wus1,_,W1 heR,rfl,s9,by rw[hd9];simp,hb9,hw9,hwr9,λc hc=>hrs c (Be.mp hc).1,ndr.sublist (fh _ c9),?_,λc hc=>?_,λc hc hn=>hcl9 c hc hn (λh=>nomatch h),hca.trans (.step e.z heN id (by rw[E3];exact .refl _)),λc hc t ht=>kn' c (Be.mp hc).1 t ht⟩
   ·rw[bA] at ndw ⊢;rw[b9] at ndw ⊢;refine⟨ndw.1,ndA,λx hx y hy z=>?_⟩;obtain⟨c1,h1,rfl⟩:=aT.mp hx;obtain⟨c2,h2,rfl⟩:=aT.mp hy;have:=(hW c1 (aY.mpr (.inl h1))).2;exact this.1 _ (CU heR) (by rw[z];exact(hA c2 h2).2.2.1)
   ·rcases aY.mp hc with hc|hc
    ·obtain⟨h1,h2⟩:=hW c (aY.mpr (.inl hc));refine⟨Be.mpr ⟨h1,λz=>?_⟩,nsub _ h2⟩;rw[bA,b9] at ndw;exact ndw.2.2 c.z (aT.mpr ⟨c,hc,rfl⟩) e.z (by simp) z
    ·obtain⟨h1,h2,h3,_⟩:=hA c hc;exact⟨h1,h2⟩
 ·have c:wus=[]:=by simpa using c
  have wn:W=[]:=dm (by rw[<-lw,c];rfl);subst wn;have s6:=s5.trans (Al hel (.lst []));have hb6:=(Al hel (.lst [])).get hb5;generalize (upd H5 el (.lst []))=H6 at s6 hb6;have so6:=so.same s6;have ev:∀e∈ps,(A4 (bK rs) (Hs e)).isSome=decide (e.z∈rs.map (·.z)):=λe he'=>by
   by_cases hm:e.z∈rs.map (·.z)
   ·obtain⟨c1,h1,hz⟩:=aT.mp hm;have e1:=AE so.nd (hrs c1 h1) he' hz;rw[bh hm,TM ndr (by rw[<-e1];exact h1)];rfl
   ·rw[bD hm,Xk λc1 h1 z=>hm (aT.mpr ⟨c1,h1,z⟩)];rfl
  subst eNF
  try dsimp only
  refine⟨_,rfl,sl,rfl,⟨_,AI.of so6.l⟩,?_⟩;refine Kg (xs:=us) (RM H6 (rs.map (·.z))) (λv=>v) (C2 (AI.of so6.l)) (by rw[Ho so.pr];omega) (λx H7 R hx s7 hR=>?_) (λx H7 R hx hb s7 hR=>⟨_,rfl,hR H7 (Ap.refl _)⟩) λl H7 nl s7 hl7=>?_
  ·obtain⟨i,hi⟩:=cz hx;obtain⟨e,he',pe⟩:=FC so6.pr hi;have hm:=a8 he';have er:=Pj (zs:=rs.map (·.z)) pe (so6.tg e hm).1;obtain⟨ya,rfl,hya⟩:=pe;have gd:=BG.t (k:=Hs e) (s7.get hb6) (s7.get (so6.tg e hm).1);refine⟨_,rfl,ya,_,_,_,rfl,rfl,AV.of (s7.get hya),rfl,_,rfl,bd,_,rfl,gd,?_⟩;rw[ev e hm,<-er];exact⟨_,rfl,hR⟩
  ·rw[List.map_id'' (λ_=>rfl)] at hl7;have nlH:H l=none:=by
    cases h:H l with
    |none=>rfl
    |some o=>rw[s6.get h] at nl;cases nl
   refine hq l _ (ps.filter λe=>decide (e.z∈rs.map (·.z))) rs H7 (s6.trans s7) nlH hl7 ((Mb so6.pr λe he'=>(so6.tg e he').1).tup λb ys h=>s7.get h) c9 (λe=>?_) hca λx hx hn=>?_
   ·rw[bM,bq];constructor
    ·rintro⟨h1,h2⟩
     obtain⟨c1,h3,hz⟩:=aT.mp h2;rw[<-AE so.nd (hrs c1 h3) h1 hz];exact h3
    ·exact λh=>⟨hrs e h,aT.mpr ⟨e,h,rfl⟩⟩
   ·obtain⟨e,he',rfl⟩:=aT.mp hx;exact nomatch hcl e he' hn
end
open M06 M10
section
variable {P:Program}{w:World}{K:W.Frag}{mg:Str->Option Value}{base:Heap}{f Ab Ad Aa Af:Addr}{XC:Nat->Addr}{fd:FuncData}
theorem TL (c:Cv)(k:Int)(row:List Int)(z:Int):Ca (F2 c k row) z=if z=k then some row else Ca c z:=by
 unfold F2
 by_cases h:(c.any λx=>decide (x.1=k))=true
 ·rw[bF h];unfold Ca
  induction c with
  |nil=>cases h
  |cons x c ih=>
   rw[bg,dF,dF]
   by_cases e:x.1=k
   ·rw[bF e]
    by_cases ez:z=k
    ·rw[bF ez,bh (show(x.1,row).1=z by rw[ez];exact e)];rfl
    ·rw[bH ez,bD (show ¬(x.1,row).1=z from λy=>ez (y.symm.trans e))]
     by_cases h':(c.any λx=>decide (x.1=k))=true
     ·have:=ih h';rw[bH ez] at this;exact this
     ·have same:c.map (λx=>if x.1=k then(x.1,row) else x)=c:=by
       have:∀x∈c,(if x.1=k then(x.1,row) else x)=x:=λx hx=>bH λy=>h' (cR.mpr ⟨x,hx,bh y⟩)
       calc c.map (λx=>if x.1=k then(x.1,row) else x)=c.map (λx=>x):=cD this
        _=c:=List.map_id' c
      rw[same]
   ·rw[bH e];have h':(c.any λx=>decide (x.1=k))=true:=by
     rw[fj,bD e,Bool.false_or] at h;exact h
    by_cases ex:x.1=z
    ·rw[bh ex,bH (λy=>e (ex.trans y))]
    ·rw[bD ex];exact ih h'
 ·rw[bH h];unfold Ca;rw[List.find?_append]
  by_cases ez:z=k
  ·have:c.find? (λx=>decide (x.1=z))=none:=dg.mpr λx hx y=>h (cR.mpr ⟨x,hx,by rw[<-ez];exact y⟩)
   rw[this,bF ez,dF,bh ez.symm];rfl
  ·rw[bH ez,dF,bD (show ¬(k,row).1=z from λy=>ez y.symm),List.find?_nil];cases c.find? (λx=>decide (x.1=z))<;>rfl
theorem UY {bs:List Cv}{i b:Nat}{c:Cv}(hb:b<bs.length):(bs.set i c).getD b []=if i=b then c else bs.getD b []:=by
 unfold List.getD;rw[List.getElem?_set]
 by_cases e:i=b
 ·rw[bF e,bF e,bF (by omega)];rfl
 ·rw[bH e,bH e]
theorem QD {bs:List Cv}{z:Int}(h:0<bs.length):∀y∈DW bs z,0<=y:=λy hy=>(Lx h y hy).1
theorem RF {b:List Cv}{a:Int×Int×List Int}{j:Nat}{z:Int}(hj:j<b.length)(h0:0<=a.1):Ca ((b.set a.1.toNat (F2 (b.getD a.1.toNat []) a.2.1 a.2.2)).getD j []) z=if a.1=(j:Int)/\z=a.2.1 then some a.2.2 else Ca (b.getD j []) z:=by
 rw[UY hj]
 by_cases h:a.1.toNat=j
 ·rw[bF h,TL]
  by_cases hz:z=a.2.1
  ·rw[bF hz,bF ⟨by omega,hz⟩]
  ·rw[bH hz,bH (λw=>hz w.2),h]
 ·rw[bH h,bH (λw=>h (by omega))]
theorem Rj {z:Int}{j:Nat}:∀{l:List (Int×Int×List Int)} {b:List Cv},j<b.length->(∀x∈l,0<=x.1)->(∀x∈l,¬(x.1=(j:Int)/\z=x.2.1))->Ca ((FA b l).getD j []) z=Ca (b.getD j []) z
 |[],_,_,_,_=>rfl
 |a::l,b,hj,h0,h=>by
  show Ca ((FA (b.set _ _) l).getD j []) z=_;rw[Rj (by rw[fW];exact hj) (λx hx=>h0 x (a9 _ hx)) λx hx=>h x (a9 _ hx),RF hj (h0 a bc),bH (h a bc)]
theorem VN {z:Int}{j:Nat}{row:List Int}:∀{l:List (Int×Int×List Int)} {b:List Cv},j<b.length->(∀x∈l,0<=x.1)->(∀x∈l,x.1=(j:Int)->z=x.2.1->x.2.2=row)->(∃x∈l,x.1=(j:Int)/\z=x.2.1)->Ca ((FA b l).getD j []) z=some row
 |[],_,_,_,_,h=>nomatch h.choose_spec.1
 |a::l,b,hj,h0,hr,h=>by
  have hj':j<(b.set a.1.toNat (F2 (b.getD a.1.toNat []) a.2.1 a.2.2)).length:=by rw[fW];exact hj
  have h0':∀x∈l,0<=x.1:=λx hx=>h0 x (a9 _ hx)
  show Ca ((FA (b.set _ _) l).getD j []) z=_
  by_cases hl:∃x∈l,x.1=(j:Int)/\z=x.2.1
  ·exact VN hj' h0' (λx hx=>hr x (a9 _ hx)) hl
  ·have ha:a.1=(j:Int)/\z=a.2.1:=by
    obtain⟨x,hx,e⟩:=h;rcases bE.mp hx with rfl|hx
    ·exact e
    ·exact absurd ⟨x,hx,e⟩ hl
   rw[Rj hj' h0' (λx hx e=>hl ⟨x,hx,e⟩),RF hj (h0 a bc),bF ha,hr a bc ha.1 ha.2]
theorem Le {m:Int}{x:Int×Int×List Int}:∀{ss:List Cl},x∈ops m ss↔∃e∈ss,x∈MX m e
 |[]=>⟨(λh=>nomatch h),λ⟨_,h,_⟩=>nomatch h⟩
 |e::ss=>by
  show x∈MX m e++ops m ss↔_;rw[aY,Le (ss:=ss)];constructor
  ·rintro(h|⟨c,hc,h⟩)
   ·exact⟨e,bc,h⟩
   ·exact⟨c,a9 _ hc,h⟩
  ·rintro⟨c,hc,h⟩
   rcases bE.mp hc with rfl|hc
   ·exact .inl h
   ·exact .inr ⟨c,hc,h⟩
theorem Hc {b:List Cv}{x:Int×Int×List Int}{e:Cl}(h:x∈MX (b.length:Int) e):x.1∈DW b e.z/\x.2.1=e.z/\x.2.2=HP e:=by
 rcases bE.mp h with rfl|h
 ·exact⟨bc,rfl,rfl⟩
 ·rw[ba.mp h];exact⟨a9 _ bc,rfl,rfl⟩
theorem X6 {b:List Cv}{e:Cl}{x:Int}(h:x∈DW b e.z):(x,e.z,HP e)∈MX (b.length:Int) e:=by
 rcases bE.mp h with rfl|h
 ·exact bc
 ·rw[ba.mp h];exact a9 _ bc
structure Bo (b:List Cv) (cs:List Cl) (D:List Int) (i:Int):Prop where
 two:2<=b.length
 four:b.length<=4
 st:∀(z:Int) (j:Nat) (row:List Int),j<b.length->Ca (b.getD j []) z=some row->(j:Int)∈DW b z/\∃y bk,row=C3 (Fq z y bk)/\Cu bk/\FD z y/\y<i
 un:∀e∈cs,e.z∈D->∀(j:Nat) (row:List Int),j<b.length->Ca (b.getD j []) e.z=some row->row[5]?≠some e.y
 la:∀e∈cs,e.z∉D->∀j:Nat,j<b.length->(j:Int)∈DW b e.z->Ca (b.getD j []) e.z=some (HP e)
variable {b:List Cv}{cs cs':List Cl}{D:List Int}{i:Int}
theorem Bo.sub (h:Bo b cs D i)(s:∀e∈cs',∃c∈cs,c.z=e.z/\c.y=e.y/\c.bk=e.bk):Bo b cs' D i:=by
 refine⟨h.two,h.four,h.st,λe he hD j row hj g=>?_,λe he hD j hj hm=>?_⟩
 ·obtain⟨c,hc,e1,e2,e3⟩:=s e he;rw[<-e2];exact h.un c hc (by rw[e1];exact hD) j row hj (by rw[e1];exact g)
 ·obtain⟨c,hc,e1,e2,e3⟩:=s e he;have:=h.la c hc (by rw[e1];exact hD) j hj (by rw[e1];exact hm);unfold HP at this ⊢;rw[<-e1,<-e2,<-e3];exact this
theorem Bo.later (h:Bo b cs D i){k:Int}(hk:i<=k):Bo b cs D k:=⟨h.two,h.four,λz j row hj g=>by
 obtain⟨h1,y,bk,h2,h3,h4,h5⟩:=h.st z j row hj g;exact⟨h1,y,bk,h2,h3,h4,gE h5 hk⟩,h.un,h.la⟩
theorem VZ {z y:Int}{a c:Bk}(oa:Cu a)(oc:Cu c)(n:FD z y)(h:C3 (Fq z y a)=C3 (Fq z y c)):a=c:=by
 have h:wT (Fq z y a)=wT (Fq z y c):=by rw[<-Ih,<-Ih (Fq z y c),h]
 have:=LJ (Lh n oa) (Lh n oc) h;injection this with this
 injection this with _ this
 injection this with _ this
 injection this with this _
 exact OH this
theorem Bo.lies (h:Bo b cs D i){e:Cl}(he:e∈cs)(ok:Cu e.bk):Lies b e.z e.y e.bk:=λj hj=>by
 cases g:Ca (b.getD j []) e.z with
 |none=>exact .inl rfl
 |some row=>
  obtain⟨h1,y,bk,rfl,h3,h4,_⟩:=h.st _ j _ hj g;refine .inr ⟨y,bk,rfl,h3,h4,λey=>?_⟩
  by_cases hD:e.z∈D
  ·exact absurd (by rw[LC,ey]) (h.un e he hD j _ hj g)
  ·have:=h.la e he hD j hj h1;rw[g] at this;have:=bf this;unfold HP at this;subst ey;exact VZ h3 ok h4 this
theorem K9 {b:List Cv}{z x:Int}(h2:2<=b.length)(h:x∈DW b z):x.toNat<b.length/\((x.toNat:Nat):Int)=x:=by
 obtain⟨h0,h1⟩:=Lx (bs:=b) (z:=z) (by omega) x h;exact⟨by omega,by omega⟩
theorem Li {b:List Cv}{z y x:Int}{row:List Int}(h:Ca (b.getD x.toNat []) z=some row):hasB b z y x=decide (row[5]?=some y):=by unfold hasB;rw[h]
theorem Bo.laid (h:Bo b cs D i){e:Cl}(he:e∈cs)(hD:e.z∉D):(DW b e.z).filter (hasB b e.z e.y)=DW b e.z:=dc.mpr λx hx=>by
 obtain⟨h1,h2⟩:=K9 h.two hx;rw[Li (h.la e he hD x.toNat h1 (by rw[h2];exact hx))];exact bh (LC e.z e.y e.bk)
theorem Bo.unlaid (h:Bo b cs D i){e:Cl}(he:e∈cs)(hD:e.z∈D):(DW b e.z).filter (hasB b e.z e.y)=[]:=fQ.mpr λx hx hb=>by
 obtain⟨h1,h2⟩:=K9 h.two hx;cases g:Ca (b.getD x.toNat []) e.z with
 |none=>unfold hasB at hb;rw[g] at hb;cases hb
 |some row=>
  rw[Li g] at hb;exact h.un e he hD x.toNat row h1 g (bP hb)
structure Wrt (b:List Cv) (l:List (Int×Int×List Int)) (ss:List Cl):Prop where
 m:∀x∈l,∃e∈ss,x∈MX (b.length:Int) e
theorem Wrt.take (b:List Cv)(ss:List Cl)(k:Nat):Wrt b ((ops b.length ss).take k) ss:=⟨λ_ hx=>Le.mp (gf hx)⟩
theorem Wrt.pos {l:List (Int×Int×List Int)}{ss:List Cl}(w:Wrt b l ss)(h2:2<=b.length):∀x∈l,0<=x.1:=λx hx=>by
 obtain⟨e,_,h⟩:=w.m x hx;exact QD (by omega) _ (Hc h).1
theorem Wrt.on {l:List (Int×Int×List Int)}{ss:List Cl}(w:Wrt b l ss)(h2:2<=b.length)(nd:(ss.map (·.z)).Nodup){e:Cl}(he:e∈ss){x:Int}(hx:x∈DW b e.z)(hl:(x,e.z,HP e)∈l):Ca ((FA b l).getD x.toNat []) e.z=some (HP e):=by
 obtain⟨h1,h3⟩:=K9 h2 hx;refine VN h1 (w.pos h2) (λy hy e1 e2=>?_) ⟨_,hl,h3.symm,rfl⟩;obtain⟨c,hc,h⟩:=w.m y hy;obtain⟨_,g2,g3⟩:=Hc h;rw[g3,AE nd hc he (g2.symm.trans e2.symm)]
theorem Wrt.off {l:List (Int×Int×List Int)}{ss:List Cl}(w:Wrt b l ss)(h2:2<=b.length){z:Int}{j:Nat}(hj:j<b.length)(h:∀e∈ss,e.z=z->((j:Int),e.z,HP e)∉l):Ca ((FA b l).getD j []) z=Ca (b.getD j []) z:=
 Rj hj (w.pos h2) λy hy ⟨e1,e2⟩=>by
  obtain⟨c,hc,g⟩:=w.m y hy;obtain⟨_,g2,g3⟩:=Hc g;refine h c hc (g2.symm.trans e2.symm) ?_;have:y=((j:Int),c.z,HP c):=by rw[<-e1,<-g2,<-g3]
  rw[<-this];exact hy
theorem OB (b:List Cv)(l:List (Int×Int×List Int))(z:Int):DW (FA b l) z=DW b z:=by unfold DW;rw[Cz]
theorem Bo.lay (h:Bo b cs D i){ss:List Cl}(hs:∀e,e∈ss↔e∈cs/\e.z∈D)(nd:(cs.map (·.z)).Nodup)(ns:(ss.map (·.z)).Nodup)(ok:∀e∈cs,Cu e.bk/\FD e.z e.y/\e.y<i):Bo (FA b (ops b.length ss)) cs [] i:=by
 have w:Wrt b (ops b.length ss) ss:=⟨λ_ hx=>Le.mp hx⟩
 have two:=h.two;have on:∀e∈ss,∀j:Nat,j<b.length->(j:Int)∈DW b e.z->Ca ((FA b (ops b.length ss)).getD j []) e.z=some (HP e):=λe he j hj hm=>by
  have:=w.on two ns he hm (Le.mpr ⟨e,he,X6 hm⟩);rw[show((j:Int)).toNat=j by omega] at this;exact this
 refine⟨by rw[Cz];exact two,by rw[Cz];exact h.four,λz j row hj g=>?_,(λ_ _ h=>nomatch h),λe he _ j hj hm=>?_⟩
 ·rw[Cz] at hj;rw[OB]
  by_cases hz:∃e∈ss,e.z=z/\(j:Int)∈DW b e.z
  ·obtain⟨e,he,rfl,hm⟩:=hz;rw[on e he j hj hm] at g;obtain⟨o1,o2,o3⟩:=ok e ((hs e).mp he).1;exact⟨hm,e.y,e.bk,(bf g).symm,o1,o2,o3⟩
  ·rw[w.off two hj λe he ez hl=>hz ⟨e,he,ez,by
    obtain⟨c,_,g⟩:=w.m _ hl;obtain⟨g1,g2,_⟩:=Hc g;have g2:e.z=c.z:=g2;rw[g2];exact g1⟩] at g
   exact h.st z j row hj g
 ·rw[Cz] at hj;rw[OB] at hm
  by_cases hD:e.z∈D
  ·exact on e ((hs e).mpr ⟨he,hD⟩) j hj hm
  ·rw[w.off two hj λc hc ez _=>hD (by rw[<-ez];exact((hs c).mp hc).2)];exact h.la e he hD j hj hm
theorem Bo.put (h:Bo b cs D i){N:Cl}(hN:∀e∈cs,e.z≠N.z)(hy:i<=N.y):Bo b (cs++[N]) (N.z::D) i:=by
 refine⟨h.two,h.four,h.st,λe he hD j row hj g=>?_,λe he hD j hj hm=>?_⟩
 ·rcases aY.mp he with he|he
  ·exact h.un e he ((bE.mp hD).resolve_left (hN e he)) j row hj g
  ·have e1:=ba.mp he;subst e1;obtain⟨_,y,bk,rfl,_,_,hi⟩:=h.st _ j row hj g;rw[LC];intro z;have:=bf z;omega
 ·rcases aY.mp he with he|he
  ·exact h.la e he (λz=>hD (a9 _ z)) j hj hm
  ·exact absurd (by rw[ba.mp he];exact bc) hD
theorem Bo.lies_part (h:Bo b cs D i){ss:List Cl}(hs:∀e,e∈ss↔e∈cs/\e.z∈D)(ns:(ss.map (·.z)).Nodup)(ok:∀e∈cs,Cu e.bk/\FD e.z e.y)(n:Nat){e:Cl}(he:e∈ss):Lies (FA b ((ops b.length ss).take n)) e.z e.y e.bk:=λj hj=>by
 have w:=Wrt.take b ss n;rw[Cz] at hj;obtain⟨o1,o2⟩:=ok e ((hs e).mp he).1
 by_cases hm:((j:Int),e.z,HP e)∈(ops b.length ss).take n
 ·obtain⟨c,hc,g⟩:=w.m _ hm;obtain⟨g1,g2,_⟩:=Hc g;have g2:e.z=c.z:=g2;rw[<-g2] at g1;have:=w.on h.two ns he g1 hm;rw[show((j:Int)).toNat=j by omega] at this;exact .inr ⟨e.y,e.bk,this,o1,o2,λ_=>rfl⟩
 ·rw[w.off h.two hj λc hc ez hl=>hm (by rw[<-AE ns hc he ez];exact hl)];exact h.lies ((hs e).mp he).1 o1 j hj
theorem OE {m:Int}:∀{ss:List Cl} {k:Nat} {e:Cl},ss[k]?=some e->∀c,c<2->(ops m ss)[2*k+c]?=(MX m e)[c]?
 |[],_,_,h,_,_=>nomatch h
 |x::ss,0,e,h,c,hc=>by
  cases h;show(MX m x++ops m ss)[0+c]?=_;rw[fw,cw (show c<2 from hc)]
 |x::ss,k+1,e,h,c,hc=>by
  have ih:=OE (m:=m) (ss:=ss) (k:=k) (e:=e) h c hc;show(MX m x++ops m ss)[2*(k+1)+c]?=_;rw[cY (show 2<=2*(k+1)+c by omega),show 2*(k+1)+c-(MX m x).length=2*k+c by show _-2=_;omega];exact ih
theorem Bo.part (h:Bo b cs D i){ss:List Cl}(hs:∀e,e∈ss↔e∈cs/\e.z∈D)(ns:(ss.map (·.z)).Nodup)(n:Nat){k:Nat}{e:Cl}(hk:ss[k]?=some e) :
  ((DW (FA b ((ops b.length ss).take n)) e.z).filter (hasB (FA b ((ops b.length ss).take n)) e.z e.y)).length=min 2 (n-2*k):=by
 have w:=Wrt.take b ss n;have two:=h.two;have he:=a8 hk;obtain⟨hc,hD⟩:=(hs e).mp he;have key:∀(c:Nat) (x:Int),c<2->(MX (b.length:Int) e)[c]?=some (x,e.z,HP e)->x∈DW b e.z->hasB (FA b ((ops b.length ss).take n)) e.z e.y x=decide (2*k+c<n):=λc x c2 hx hm=>by
  obtain⟨h1,h3⟩:=K9 two hm
  by_cases lt:2*k+c<n
  ·rw[Li (w.on two ns he hm (a8 (i:=2*k+c) (by rw[dW,bF lt,OE hk c c2,hx]))),bh lt];exact bh (LC e.z e.y e.bk)
  ·rw[bD lt];have off:=w.off two (z:=e.z) h1 λc' hc' ez hl=>by
    have:=AE ns hc' he ez;subst this;rw[h3] at hl;obtain⟨j,hj⟩:=cz hl;rw[dW] at hj
    split at hj
    ·next jn=>
     have inj:∀j',(ops (b.length:Int) ss)[j']?=some (x,c'.z,HP c')->j'=2*k+c:=λj' hj'=>by
      have jl:j'<2*ss.length:=by rw[<-Jx (b.length:Int) ss];exact(bu.mp hj').1
      have hq:j'=2*(j'/2)+j'%2:=by omega
      have hl2:j'/2<ss.length:=by omega
      have e1:=OE (m:=(b.length:Int)) (aW hl2) (j'%2) (by omega);rw[<-hq,hj'] at e1;have m1:=Hc (b:=b) (a8 e1.symm);have ek:j'/2=k:=by
       have z1:(ss.map (·.z))[j'/2]?=some c'.z:=by rw[bz,aW hl2];exact congrArg some m1.2.1.symm
       have z2:(ss.map (·.z))[k]?=some c'.z:=by rw[bz,hk];rfl
       exact(List.getElem?_inj (bu.mp z1).1 ns).mp (z1.trans z2.symm)
      have ee:ss[j'/2]=c':=by
       have:ss[j'/2]?=some c':=by rw[ek];exact hk
       rw[aW hl2] at this;exact bf this
      rw[ee] at e1;have ne:c'.z%(b.length:Int)≠(c'.z+1)%(b.length:Int):=λz=>by
       have:((c'.z+1)-c'.z)%(b.length:Int)=0:=by rw[Int.sub_emod,z,Int.sub_self];rfl
       rw[show c'.z+1-c'.z=1 by omega,Int.emod_eq_of_lt (by omega) (by omega)] at this;cases this
      have hm2:j'%2=c:=by
       rcases Nat.mod_two_eq_zero_or_one j' with h0|h0<;>rcases ij.mp c2 with c0|c0
       ·omega
       ·rw[h0] at e1;subst c0;have a1:x=c'.z%(b.length:Int):=congrArg (·.1) (bf e1);have a2:(c'.z+1)%(b.length:Int)=x:=congrArg (·.1) (bf hx);exact absurd (a1.symm.trans a2.symm) ne
       ·rw[h0] at e1;have c00:c=0:=by omega
        subst c00;have a1:x=(c'.z+1)%(b.length:Int):=congrArg (·.1) (bf e1);have a2:c'.z%(b.length:Int)=x:=congrArg (·.1) (bf hx);exact absurd (a2.trans a1) ne
       ·omega
      omega
     have:=inj j hj;omega
    ·cases hj
   cases g:Ca (b.getD x.toNat []) e.z with
   |none=>unfold hasB;rw[off,g]
   |some row=>
    rw[Li (off.trans g)];exact bD (h.un e hc hD x.toNat row h1 g)
 rw[OB];have k0:=key 0 (e.z%(b.length:Int)) (by omega) rfl bc;have k1:=key 1 ((e.z+1)%(b.length:Int)) (by omega) rfl (a9 _ bc);show(List.filter _ [_,_]).length=_;rw[eG,eG,hG,k0,k1]
 by_cases a0:2*k+0<n<;>by_cases a1:2*k+1<n
 ·rw[bh a0,bh a1];show 2=_;omega
 ·rw[bh a0,bD a1];show 1=_;omega
 ·omega
 ·rw[bD a0,bD a1];show 0=_;omega
end
open M06 M10
section
variable {P:Program}{w:World}{K:W.Frag}{mg:Str->Option Value}{base:Heap}{f Ab Ad Aa Af:Addr}{XC:Nat->Addr}{fd:FuncData}
def Js (K:W.Frag)(C:Addr):Sp:=λvs H Q _=>∃p ds bs n lf,∃(ta:Addr) (z y:Int) (bk:Bk),vs=[.ref p,.ref ta,.int (bs.length:Int)]/\DE C H p ds bs n lf/\0<bs.length/\H ta=some (.tup [.int z,.int y,.int (A8 bk)])/\Lies bs z y bk/\FD z y/\(DW bs z).filter (hasB bs z y)=DW bs z/\∀H',Ap H H'->Q (.bl true) H'
theorem Ou (T:Txt K mg Ab Ad Aa Af XC)(F:Fun K "_law_laid" "_law_laid" GZ f fd)(Bh:Def P w K mg base 16 "right_copies" ["boards","tag"] (CQ K Ad)):FnOk P w K mg base BO 17 f fd ["_law_boards","_law_tag","_law_many"] (Js K Ad):=by
 exists OR
 ·obtain⟨p,ds,bs,n,lf,ta,z,y,bk,rfl,_⟩:=h;rfl
 obtain⟨p,ds,bs,n,lf,ta,z,y,bk,rfl,hB,b0,ht,li,nb,ef,hq⟩:=h;have hu:=BF hr;refine⟨_,(!Ak (!Ao (!B9 (Qs hu) (!AK Bh (by trivial) rfl (!Ac (pv 0) (!Ac (pv 1) (!Ai)))) (!Aq (Iz (K:=K) (by rfl)) (by rfl) T.b_sorted Ct (!Ac (!BJ (!Ac (!As A3 (!Aw AF (pv 1) (!Aj) (λ_ _=>rfl)) (pv 2)) (!Ac (!As A3 (!As Bi (!Aw AF (pv 1) (!Aj) (λ_ _=>rfl)) (!Aj)) (pv 2)) (!Ai)))) (!Ai))) (Ay _)))),?_⟩
 try dsimp only[BB,Cx.nox,Cx.wish]
 refine⟨_,rfl,_,rfl,p,ds,bs,n,lf,ta,z,y,bk,rfl,hB,b0,ht,li,nb,λl H1 ms s1 nl hl pm so=>?_⟩;rw[ef] at pm;have t1:=s1.get ht;have bp:(0:Int)<(bs.length:Int):=by omega
 refine⟨_,rfl,ta,_,_,_,rfl,rfl,AV.of t1,rfl,_,rfl,_,_,rfl,rfl,bp,_,rfl,ta,_,_,_,rfl,rfl,AV.of t1,rfl,_,_,rfl,rfl,_,rfl,_,_,rfl,rfl,bp,MH,λg hg=>?_⟩;have s2:=Al hg (.lst [V.int (z%(bs.length:Int)),V.int ((z+1)%(bs.length:Int))]);refine⟨g,DW bs z,rfl,AI.of Ae,(by show 2<64;decide),λms2 l2 pm2 so2 nl2=>?_⟩;have s3:=Al nl2 (.lst (ms2.map V.int));obtain rfl:ms=ms2:=G7 (pm.trans pm2.symm) so so2;refine⟨l,l2,_,_,rfl,rfl,AI.of (s3.get (s2.get hl)),AI.of Ae,CA _,CA _,?_⟩;rw[bh rfl];exact hq _ ((s1.trans s2).trans s3)
end
open M06 M10
section
variable {P:Program}{w:World}{K:W.Frag}{mg:Str->Option Value}{base:Heap}{f Ab Ad Aa Af:Addr}{XC:Nat->Addr}{fd:FuncData}
theorem MM {α:Type} {J:It} {ps:List α} {g:α->V} {fr:List (Option Nat)} {k:Nat} {te:TE} {Q:VK} {σ:St} {H:Hp} (f:α->V) (hJ:J2 J H (ps.map g)) (hn:ps.length<=1000000)
  (helt:∀x∈ps,∀(H':Hp) (R:VK),Ap H H'->(∀H'',Ap H' H''->R (f x) H'')->te ((stC fr σ).set k (some (g x))) H' R)
  (hQ:∀l H',H l=none->Ap H H'->H' l=some (.lst (ps.map f))->Q (.ref l) H'):Da fr (Bt k) PD te σ Q J H:=
 S7 (λ_=>true) f hJ hn (λx hx H' R s' hR=>hR) (λx hx _=>helt x hx) λl H' nl s' hl=>hQ l H' nl s' (by rw[hl,dc.mpr λ_ _=>rfl])
theorem JO:∀(l:List (Int×Int×List Int)) {b:List Cv} {M:Nat},(∀c∈b,c.length<=M)->∀c∈FA b l,c.length<=M+l.length
 |[],_,_,h=>h
 |a::l,b,M,h=>λc hc=>by
  have:=JO l (M:=M+1) (MJ (z:=a.2.1) (row:=a.2.2) [a.1] h) c hc;rw[bT];omega
theorem Lb:∀i,JE .non i=.non
 |0=>rfl
 |i+1=>by show GQ (JE .non i)=.non;rw[Lb i];rfl
theorem TQ (l:List Cl):∃ss:List Cl,ss.Perm l/\(ss.map (·.z)).Pairwise (·<=·):=
 ⟨l.mergeSort λa c=>decide (a.z<=c.z),List.mergeSort_perm _ _,by
  rw[eZ];refine(List.pairwise_mergeSort (λa c d h1 h2=>?_) (λa c=>?_) l).imp λh=>bP h
  ·exact bh (iL (bP h1) (bP h2))
  ·rw[Bool.or_eq_true,bq,bq];exact Int.le_total _ _⟩
theorem Ry (q:Pl)(cs:List Cl):JS { q with D:=[] } cs=[]:=fQ.mpr λ_ _ h=>nomatch bP h
def Jy (K:W.Frag)(CB CT CP:Addr):Sp:=λvs H Q _=>∃p q cs bs ds b0,∃(n:Int) (dl:Addr) (due:List Cl) (i:Int),vs=[.ref q.bo,.ref p,.ref dl,.int (b0.length:Int)]/\PAt CP CT H p q cs bs/\cs.length<=60/\DE CB H q.bo ds b0 n .non/\Y5 p q cs bs q.bo ds/\Bo b0 cs q.D i/\(∀c∈b0,c.length<=500)/\(∀e∈cs,FD e.z e.y/\e.y<i)/\H dl=some (.lst (due.map λe=>V.ref e.ta))/\due.length=(JS q cs).length/\(∀e∈due,∃c∈cs,c.ta=e.ta)/\
 ∀ss H',ss.Perm (JS q cs)->PAt CP CT H' p { q with D:=[] } cs bs->DE CB H' q.bo ds (FA b0 (ops b0.length ss)) (n+2*(due.length:Int)) .non->Bo (FA b0 (ops b0.length ss)) cs [] i->Kd H H'->Q (.bl true) H'
theorem Oa (T:Txt K mg Ab Ad Aa Af XC)(F:Fun K "_law_lays" "_law_lays" G5 f fd)(BY:BH P w K mg base 1 Ad "written" ["self"] (ER K Ad))(Bp:Km P w K mg base 11 Af "lay_draft" ["self"] (Dn K Af Aa Ad XC))(GC:Def P w K mg base 17 "_law_laid" ["_law_boards","_law_tag","_law_many"] (Js K Ad)):FnOk P w K mg base BO 18 f fd ["_law_boards","_law_pool","_law_due","_law_many"] (Jy K Ad Aa Af):=by
 exists Jj
 ·obtain⟨p,q,cs,bs,ds,b0,n,dl,due,i,rfl,_⟩:=h;rfl
 obtain⟨p,q,cs,bs,ds,b0,n,dl,due,i,rfl,pa,few,hB,ap,bo,bnd,nby,hdl,ldue,hdue,hq⟩:=h;have hu:=BF hr;refine⟨_,(!Ah (@AD _ _ (4) _ _ _ _ Jj.nd rfl (by trivial) (!Ce (pv 0) T.cl_Boards BY) (by rfl) (by trivial)) (!Ah (!A6 (!Ce (pv 1) T.cl_Pool Bp.calm)) (!Ah (!AM (@PW.pt _ _ _ (!EU (!Au Ue (!Ce (pv 0) T.cl_Boards BY) (!As Bi (pv 4) (!As Eg (!Aj) (!Aq AB (by rfl) T.b_len Bl (!Ac (pv 2) (!Ai))))) (Ay _)) (!Du (!BL (!BC (!Aq (Fu rfl) (by rfl) T.b_all JL (!Ac (@CM _ ["_law_tag","_law_boards","_law_many"] [none,some 0,some 3] _ _ _ _ _ _ _ _ _ _ _ rfl (!A0 (pv 2)) (by rfl) rfl (by repeat (first|exact trivial|refine⟨rfl,?_⟩)) (by repeat (first|exact trivial|refine⟨λh=>(by first|exact⟨_,rfl⟩|cases h),?_⟩)) (λC s H fp=>⟨(@An _ _ (0) _ (show(["_law_tag","_law_boards","_law_many"]:List Str).Nodup by decide +kernel) rfl (by trivial) (by trivial)),(!AU),(!AK GC (by trivial) rfl (!Ac (pv 1) (!Ac (pv 0) (!Ac (pv 2) (!Ai)))))⟩) (by intro _;rfl)) (!Ai))) (by intro _;rfl)))))) (!Ak (!Ao (!DF))) (!Av)) (!Ah (!A6 (!Ce (pv 1) T.cl_Pool Bp.calm)) (!Ak (!Ao (!B9 Bg (!Ce (pv 0) T.cl_Boards BY) (!As Bi (pv 4) (!As Eg (!Aj) (!Aq AB (by rfl) T.b_len Bl (!Ac (pv 2) (!Ai))))) (Ay _)))))))),?_⟩
 try dsimp only[BB,Cx.nox,Cx.wish]
 obtain⟨ss,pss,sss⟩:=TQ (JS q cs);have two:=bo.two;have lss:ss.length=due.length:=by rw[ldue,pss.length_eq]
 have l60:due.length<=60:=by rw[ldue];exact bQ (bW _ _) few
 have hs:∀e,e∈ss↔e∈cs/\e.z∈q.D:=λe=>by rw[pss.mem_iff];unfold JS;rw[bM,bq]
 have ns:(ss.map (·.z)).Nodup:=(pss.map _).nodup_iff.mpr ((List.filter_sublist.map _).nodup pa.t.2.2.2);have bo1:=bo.lay hs pa.t.2.2.2 ns λe he=>⟨(pa.t.2.2.1 e he).2.2.2,nby e he⟩
 obtain⟨dx,s0,h1,_⟩:=id hB;refine AQ λNF eNF=>?_
 refine⟨_,rfl,q.bo,dx,_,rfl,h1,rfl,q.bo,ds,b0,n,.non,rfl,hB,?_⟩;subst eNF
 try dsimp only
 refine AQ λNF eNF=>?_
 refine⟨_,rfl,p,q.dp,_,rfl,pa.t.1,rfl,p,q,cs,bs,ds,b0,n,.non,ss,rfl,pa,few,hB,.inl rfl,ap,two,(λc hc=>bQ (bnd c hc) (by decide)),(λe he=>(nby e he).1),pss,sss,(λk _ _ e0=>by rw[Lb] at e0;cases e0),λ_ H1 pa1 hB1 kd1=>?_⟩;have kl1:=kd1.l;rw[Lb,lss] at hB1;obtain⟨dx1,s1,g1,_⟩:=id hB1;have hdl1:=kl1 _ _ hdl;subst eNF
 try dsimp only
 refine AQ λNF eNF=>?_
 try dsimp only[Dr,Qu]
 refine⟨_,rfl,q.bo,dx1,_,rfl,g1,rfl,q.bo,ds,_,_,.non,rfl,hB1,_,rfl,_,rfl,dl,_,rfl,.inl (AI.of hdl1),_,_,rfl,rfl,.inl ⟨by decide,by decide⟩,_,_,rfl,rfl,rfl,_,rfl,AJ ?_ ?_⟩
 ·rw[aS];show(!decide (V.int (n+2*(due.length:Int))=V.int (n+2*(due.length:Int))))=false;rw[bh rfl];rfl
 refine⟨_,rfl,dl,rfl,⟨_,AI.of hdl1⟩,?_⟩;refine MM (g:=λe:Cl=>V.ref e.ta) (λ_=>.bl true) (C2 (AI.of hdl1)) (by omega) (λe he H2 R s2 hR=>?_) λl2 H2 nl2 s2 hl2=>⟨l2,due.map λ_=>true,rfl,AI.of (by rw[hl2,bw];rfl),?_⟩
 ·obtain⟨c,hc,ec⟩:=hdue e he;have hcc:=pa1.t.2.2.1 c hc;have ht:=s2.get hcc.2.1;rw[ec] at ht;refine⟨_,rfl,_,rfl,_,rfl,q.bo,ds,_,_,.non,e.ta,c.z,c.y,c.bk,by rw[Cz];rfl,hB1.same s2,by rw[Cz];omega,ht,bo1.lies hc hcc.2.2.2,(nby c hc).1,bo1.laid hc (λh=>nomatch h),λH3 s3=>hR H3 s3⟩
 have e1:(due.map λ_=>true).all id=true:=by simp
 rw[e1];refine⟨_,rfl,AJ rfl ?_⟩;subst eNF
 try dsimp only
 refine AQ λNF eNF=>?_
 have pa2:=pa1.same s2;have hB2:=hB1.same s2;refine⟨_,rfl,p,q.dp,_,rfl,pa2.t.1,rfl,p,{ q with D:=[] },cs,bs,ds,_,_,.non,[],rfl,pa2,few,hB2,.inl rfl,ap,by rw[Cz];exact two,?_,(λe he=>(nby e he).1),by rw[Ry],List.Pairwise.nil,(λk h=>absurd h (g8 k)),λ_ H4 pa4 hB4 kd4=>?_⟩
 ·intro c hc;have:=JO _ bnd c hc;rw[Jx] at this;omega
 rw[Lb] at hB4;have hB4:DE Ad H4 q.bo ds (FA b0 (ops b0.length ss)) (n+2*(due.length:Int)) .non:=by
  have e0:n+2*(due.length:Int)+2*((([]:List Cl).length:Nat):Int)=n+2*(due.length:Int):=by show _+2*((0:Nat):Int)=_;omega
  rw[e0] at hB4;exact hB4
 subst eNF
 try dsimp only
 obtain⟨dx4,s4,g4,_⟩:=id hB4;have hdl4:=kd4.l _ _ (s2.get hdl1);refine⟨_,rfl,q.bo,dx4,_,rfl,g4,rfl,q.bo,ds,_,_,.non,rfl,hB4,_,rfl,_,rfl,dl,_,rfl,.inl (AI.of hdl4),_,_,rfl,rfl,.inl ⟨by decide,by decide⟩,_,_,rfl,rfl,rfl,?_⟩;rw[aS];show Q (.bl (decide (V.int (n+2*(due.length:Int))=V.int (n+2*(due.length:Int))))) H4;rw[bh rfl];exact hq ss H4 pss pa4 hB4 bo1 ((kd1.trans (.of s2)).trans kd4)
end
open M06 M10
section
variable {P:Program}{w:World}{K:W.Frag}{mg:Str->Option Value}{base:Heap}{f Ab Ad Aa Af:Addr}{XC:Nat->Addr}{fd:FuncData}
theorem Ob (w:Nat):∀k:Nat,JE (.int (w:Int)) k=.int ((w:Int)-(k:Int))
 |0=>by show V.int (w:Int)=_;rw[show(w:Int)-((0:Nat):Int)=w by omega]
 |k+1=>by
  show GQ (JE (.int (w:Int)) k)=_;rw[Ob w k];show V.int ((w:Int)-(k:Int)-1)=_;rw[show(w:Int)-((k+1:Nat):Int)=(w:Int)-(k:Int)-1 by omega]
def Gj (K:W.Frag)(CB CT CP:Addr):Sp:=λvs H Q _=>∃p q cs bs ds b0,∃(n:Int) (dl:Addr) (ss:List Cl) (i:Int) (w:Nat),vs=[.ref q.bo,.ref p,.ref dl,.int (w:Int)]/\PAt CP CT H p q cs bs/\cs.length<=60/\DE CB H q.bo ds b0 n .non/\Y5 p q cs bs q.bo ds/\Bo b0 cs q.D i/\(∀c∈b0,c.length<=500)/\(∀e∈cs,FD e.z e.y/\e.y<i)/\H dl=some (.lst (ss.map λe=>V.ref e.ta))/\ss.Perm (JS q cs)/\(ss.map (·.z)).Pairwise (·<=·)/\∀H',Q (.bl true) H'
theorem KF (T:Txt K mg Ab Ad Aa Af XC)(F:Fun K "_law_stopped" "_law_stopped" D8 f fd)(Fg:BH P w K mg base 1 Ad "stop" ["self","many"] (GM K Ad))(Bp:Km P w K mg base 11 Af "lay_draft" ["self"] (Dn K Af Aa Ad XC))(Bh:Def P w K mg base 16 "right_copies" ["boards","tag"] (CQ K Ad)):FnOk P w K mg base BO 17 f fd ["_law_boards","_law_pool","_law_due","_law_writes"] (Gj K Ad Aa Af):=by
 exists CO
 ·obtain⟨p,q,cs,bs,ds,b0,n,dl,ss,i,w,rfl,_⟩:=h;rfl
 obtain⟨p,q,cs,bs,ds,b0,n,dl,ss,i,w,rfl,pa,few,hB,ap,bo,bnd,nby,hdl,pss,sss,hq⟩:=h;have hu:=BF hr;refine⟨_,(!Ah (@AD _ _ (4) _ _ _ _ CO.nd rfl (by trivial) (!DF) (by rfl) (by trivial)) (!Ah (!A6 (!A2 (pv 0) T.cl_Boards Fg (by trivial) (!Ac (pv 3) (!Ai)))) (!Ah (!Qo ⟨rfl,rfl⟩ T.x_Stopped rfl (!Ow (!Xf (UQ (pv 1) T.cl_Pool Bp (by trivial)))) (!Av) (λe=>(!Ak (@AD _ _ (4) _ _ _ _ CO.nd rfl (by trivial) (!DF) (by rfl) (by trivial))))) (!Ah (@FE _ ["_law_tag","_law_boards"] [none,some 0] (5) _ _ _ _ _ _ _ _ _ _ _ _ _ _ CO.nd rfl (by trivial) rfl (!A0 (pv 2)) (by rfl) rfl (by repeat (first|exact trivial|refine⟨rfl,?_⟩)) (by repeat (first|exact trivial|refine⟨λh=>(by first|exact⟨_,rfl⟩|cases h),?_⟩)) (λC s H fp=>⟨(@An _ _ (0) _ (show(["_law_tag","_law_boards"]:List Str).Nodup by decide +kernel) rfl (by trivial) (by trivial)),(!AU),(!Aq (Hw (K:=K) (by rfl)) (by rfl) T.b_len Bl (!Ac (!AK Bh (by trivial) rfl (!Ac (pv 1) (!Ac (pv 0) (!Ai)))) (!Ai)))⟩) (by intro _;rfl) (by rfl) (by trivial)) (!Ak (!Ao (!Em (!B9 Bg (pv 4) (!B9 Nv (pv 3) (!As Eg (!Aj) (!Aq AB (by rfl) T.b_len Bl (!Ac (pv 2) (!Ai)))) (Ay _)) (Ay _)) (!FP (!B9 (Qs hu) (pv 5) (@CM _ ["_law_k","_law_writes"] [none,some 3] _ _ _ _ _ _ _ _ _ _ _ rfl (!C4 rfl T.b_range (!Ac (!Aq AB (by rfl) T.b_len Bl (!Ac (pv 2) (!Ai))) (!Ai))) (by rfl) rfl (by repeat (first|exact trivial|refine⟨rfl,?_⟩)) (by repeat (first|exact trivial|refine⟨λh=>(by first|exact⟨_,rfl⟩|cases h),?_⟩)) (λC s H fp=>⟨(@An _ _ (0) _ (show(["_law_k","_law_writes"]:List Str).Nodup by decide +kernel) rfl (by trivial) (by trivial)),(!AU),(!Aq (TF rfl) (by rfl) T.b_max T5 (!Ac (!Aj) (!Ac (!Aq (Nt rfl) (by rfl) T.b_min UJ (!Ac (!Aj) (!Ac (!As FK (pv 1) (!As Eg (!Aj) (pv 0))) (!Ai)))) (!Ai))))⟩) (by intro _;rfl)) (Ay _)))))))))),?_⟩
 try dsimp only[BB,Cx.nox,Cx.wish]
 have two:=bo.two;have l60:ss.length<=60:=by rw[pss.length_eq];exact bQ (bW _ _) few
 have hs:∀e,e∈ss↔e∈cs/\e.z∈q.D:=λe=>by rw[pss.mem_iff];unfold JS;rw[bM,bq]
 have ns:(ss.map (·.z)).Nodup:=(pss.map _).nodup_iff.mpr ((List.filter_sublist.map _).nodup pa.t.2.2.2);obtain⟨dx,s0,h1,_⟩:=id hB;refine⟨_,rfl,q.bo,dx,_,rfl,h1,rfl,_,rfl,q.bo,ds,b0,n,.non,_,rfl,hB,λH1 hB1 k1=>?_⟩;have pa1:=pa.kb hB ap k1;have hdl1:H1 dl=some (.lst (ss.map λe=>V.ref e.ta)):=k1 _ _ hdl (AL hdl h1 (by intro z;cases z)) (hB.notin hdl (by intro kvs z;cases z));obtain⟨dx1,s1,g1,_⟩:=id hB1
 try dsimp only
 refine EL (λσ' H'=>σ'=[some (.ref q.bo),some (.ref p),some (.ref dl),some (.int (w:Int)),some (.bl (decide (w<2*ss.length))),none]/\(∃n' lf',DE Ad H' q.bo ds (FA b0 ((ops b0.length ss).take w)) n' lf')/\H' dl=some (.lst (ss.map λe=>V.ref e.ta))/\∀e∈cs,Im Aa H1 e->H' e.ta=some (.tup [.int e.z,.int e.y,.int (A8 e.bk)])) (λN hN=>?_) ?_
 ·refine⟨_,rfl,p,q.dp,_,rfl,pa1.t.1,rfl,p,q,cs,bs,ds,b0,n,.int (w:Int),ss,rfl,pa1,few,hB1,.inr ⟨w,rfl⟩,ap,two,(λc hc=>bQ (bnd c hc) (by decide)),(λe he=>(nby e he).1),pss,sss,λk hk _ e0 H2 hB2 k2=>?_,λne H2 pa2 hB2 kd2=>?_⟩
  ·rw[Ob] at e0;have e0:(w:Int)-(k:Int)=0:=by injection e0
   have:w=k:=by omega
   subst this;refine⟨T.m_Stopped_Stopped,hN _ _ ⟨?_,⟨_,_,hB2⟩,?_,λe he hc=>?_⟩⟩
   ·rw[bh hk];rfl
   ·exact k2 _ _ hdl1 (AL hdl1 g1 (by intro z;cases z)) (hB1.notin hdl1 (by intro kvs z;cases z))
   ·exact k2 _ _ hc.2.1 (AL hc.2.1 g1 (by intro z;cases z)) (hB1.notin hc.2.1 (by intro kvs z;cases z))
  ·have hw:2*ss.length<=w:=Nat.le_of_not_lt λlt=>ne w lt (by rw[Ob,Int.sub_self])
   rw[<-bJ (show(ops b0.length ss).length<=w by rw[Jx];exact hw)] at hB2;refine hN _ _ ⟨?_,⟨_,_,hB2⟩,kd2.l _ _ hdl1,λe he hc=>kd2.t _ _ hc.2.1⟩;rw[bD (hV.mpr hw)];rfl
 rintro σ' H2 ⟨rfl,⟨n2,lf2,hB2⟩,hdl2,tg2⟩
 have cnt:=λ{k:Nat} {e:Cl} (h:ss[k]?=some e)=>bo.part hs ns w h
 have lis:=λ{e:Cl} (he:e∈ss)=>bo.lies_part hs ns (λe he=>⟨(pa1.t.2.2.1 e he).2.2.2,(nby e he).1⟩) w he
 generalize eb:FA b0 ((ops b0.length ss).take w)=b2 at hB2 cnt lis;have l2:b2.length=b0.length:=by rw[<-eb,Cz]
 try dsimp only
 refine AQ λNF eNF=>?_
 refine⟨_,rfl,dl,rfl,⟨_,AI.of hdl2⟩,?_⟩;refine MM (g:=λe:Cl=>V.ref e.ta) (λe=>.int (((DW b2 e.z).filter (hasB b2 e.z e.y)).length:Int)) (C2 (AI.of hdl2)) (by omega) (λe he H3 R s3 hR=>?_) λl3 H3 nl3 s3 hl3=>?_
 ·have hc:=((hs e).mp he).1;have ce:=pa1.t.2.2.1 e hc;have ht:=s3.get (tg2 e hc ce);refine⟨_,rfl,_,rfl,q.bo,ds,b2,n2,lf2,e.ta,e.z,e.y,e.bk,rfl,hB2.same s3,by omega,ht,lis he,(nby e hc).1,λl4 H4 ms s4 nl4 hl4 pm so=>?_⟩;refine⟨l4,_,rfl,.inl (AI.of hl4),?_⟩;rw[aS,pm.length_eq];exact hR H4 s4
 have hdl3:=s3.get hdl2;subst eNF
 try dsimp only
 refine⟨_,rfl,_,rfl,_,rfl,dl,_,rfl,.inl (AI.of hdl3),_,_,rfl,rfl,.inl ⟨by decide,by decide⟩,_,_,rfl,rfl,rfl,_,rfl,BA ?_ ?_⟩
 ·refine bh ?_;rw[aS];show V.bl _=V.bl _
  congr 1
  rw[cq,bq,bq];omega
 refine⟨_,rfl,_,rfl,dl,_,rfl,.inl (AI.of hdl3),ss.length,by rw[aS],by omega,by omega,?_⟩;refine MM (ps:=List.range ((ss.length:Nat):Int).toNat) (g:=λk:Nat=>V.int (0+(k:Int))) (λk=>.int (if(if(w:Int)-2*(0+(k:Int))<2 then(w:Int)-2*(0+(k:Int)) else 2)>0 then(if(w:Int)-2*(0+(k:Int))<2 then(w:Int)-2*(0+(k:Int)) else 2) else 0)) Lz (by rw[bY];omega) (λk hk H4 R s4 hR=>?_) λl5 H5 nl5 s5 hl5=>?_
 ·exact⟨_,rfl,_,rfl,_,_,rfl,rfl,.inl ⟨by decide,by decide⟩,_,_,rfl,rfl,_,_,rfl,_,_,rfl,hR H4 (Ap.refl _)⟩
 have em:(List.range ((ss.length:Nat):Int).toNat).map (λk:Nat=>V.int (if(if(w:Int)-2*(0+(k:Int))<2 then(w:Int)-2*(0+(k:Int)) else 2)>0 then(if(w:Int)-2*(0+(k:Int))<2 then(w:Int)-2*(0+(k:Int)) else 2) else 0))=(ss.map λe=>(((DW b2 e.z).filter (hasB b2 e.z e.y)).length:Int)).map V.int:=by
  refine dI λk=>?_
  rw[bz,bz,bz]
  by_cases hk:k<ss.length
  ·rw[gr (by omega),aW hk];have:=cnt (aW hk);show some _=some (V.int (((DW b2 ss[k].z).filter (hasB b2 ss[k].z ss[k].y)).length:Int));rw[this]
   try dsimp only
   congr 2
   split<;>split<;>omega
  ·rw[cu (by rw[bY];omega),cu (by omega)];rfl
 rw[em] at hl5;refine⟨l3,l5,_,_,rfl,rfl,AI.of (s5.get (show H3 l3=some (.lst ((ss.map λe=>(((DW b2 e.z).filter (hasB b2 e.z e.y)).length:Int)).map V.int)) by rw[hl3,bw];rfl)),AI.of hl5,CA _,CA _,?_⟩;rw[bh rfl];exact hq H5
end
open M06 M10
section
variable {P:Program}{w:World}{K:W.Frag}{mg:Str->Option Value}{base:Heap}{f Ab Ad Aa Af:Addr}{XC:Nat->Addr}{fd:FuncData}
structure Mt (ps cs:List Cl):Prop where
 a:∀e∈ps,∃k,{ e with k:=k }∈cs
 b:∀e∈cs,∃k,{ e with k:=k }∈ps
theorem Rq {α:Type}{l m:List α}(d1:l.Nodup)(d2:m.Nodup)(h:∀a,a∈l↔a∈m):l.Perm m:=(List.perm_ext_iff_of_nodup d1 d2).mpr h
theorem Mt.z {ps cs:List Cl}(h:Mt ps cs)(nd:(ps.map (·.z)).Nodup)(nc:(cs.map (·.z)).Nodup):(ps.map (·.z)).Perm (cs.map (·.z)):=Rq nd nc λz=>by
 rw[aT,aT];constructor
 ·rintro⟨e,he,rfl⟩
  obtain⟨k,hk⟩:=h.a e he;exact⟨_,hk,rfl⟩
 ·rintro⟨e,he,rfl⟩
  obtain⟨k,hk⟩:=h.b e he;exact⟨_,hk,rfl⟩
theorem Mt.l {ps cs:List Cl}(h:Mt ps cs)(x:Int×List Int):x∈Lc ps↔x∈Lc cs:=by
 unfold Lc;rw[aT,aT];constructor
 ·rintro⟨e,he,rfl⟩
  obtain⟨k,hk⟩:=h.a e he;exact⟨_,hk,rfl⟩
 ·rintro⟨e,he,rfl⟩
  obtain⟨k,hk⟩:=h.b e he;exact⟨_,hk,rfl⟩
theorem RG:∀(l:List Int) (t:Int),0<=t->t<=996->0<=l.foldl (λt n=>(31*t+n+1)%997) t/\l.foldl (λt n=>(31*t+n+1)%997) t<=996
 |[],t,h0,h1=>⟨h0,h1⟩
 |x::l,t,_,_=>RG l ((31*t+x+1)%997) (by omega) (by omega)
theorem sum_in (b:Bk):0<=A8 b/\A8 b<=996:=by
 have k:0<=kindB b/\kindB b<=2:=by cases b<;>simp[kindB]
 exact RG _ _ (by omega) (by omega)
theorem both {X:List Int}{Z1 Z2:Int->Prop}{cs cs' ps rs:List Cl}(mt:Mt ps cs)(c1:Cas X Z1 (Lc cs) (Lc cs'))(h1:∀x∈Lc cs',Nf (Lc cs') X x.1->Z2 x.1)(c2:Cas X Z2 (Lc ps) (Lc rs))(h2:∀x∈Lc rs,Nf (Lc rs) X x.1->Z1 x.1)(x:Int×List Int):x∈Lc rs↔x∈Lc cs':=
 ⟨c1.conf (λx hx=>(mt.l x).mp (c2.sub x hx)) h2 x,c2.conf (λx hx=>(mt.l x).mpr (c1.sub x hx)) h1 x⟩
theorem Mt.left {ps cs cs' ps' rs:List Cl}(mt:Mt ps cs)(nd:(ps.map (·.z)).Nodup)(nc:(cs.map (·.z)).Nodup)(sb:∀e∈cs',∃k,{ e with k:=k }∈cs)(sl:∀e∈ps',e∈ps)(pr:∀e,e∈ps'↔e∈rs)(b:∀x,x∈Lc rs↔x∈Lc cs'):Mt ps' cs':=by
 refine⟨λe he=>?_,λc hc=>?_⟩
 ·obtain⟨c,hc,ec⟩:=aT.mp ((b _).mp (CU ((pr e).mp he)));obtain⟨k,hk⟩:=sb c hc;obtain⟨k2,hk2⟩:=mt.a e (sl e he);have h:=AE nc hk hk2 (congrArg Prod.fst ec);have h2:c={ e with k:=c.k }:=congrArg (λx:Cl=>{ x with k:=c.k }) h;exact⟨c.k,by rw[<-h2];exact hc⟩
 ·obtain⟨k,hk⟩:=sb c hc;obtain⟨k2,hk2⟩:=mt.b _ hk;obtain⟨e,he,ee⟩:=aT.mp ((b _).mpr (CU hc));have he':=(pr e).mpr he;have h:=AE nd (sl e he') hk2 (congrArg Prod.fst ee);exact⟨k2,by rw[h] at he';exact he'⟩
theorem SoAt.tup {H H':Hp}{sl:Addr}{us:List V}{ps:List Cl}(h:SoAt H sl us ps)(ht:∀c ys,H c=some (.tup ys)->H' c=some (.tup ys))(hl:H' sl=some (.lst us)):SoAt H' sl us ps:={ h with l:=hl,pr:=h.pr.tup ht,tg:=h.tg.tup ht }
theorem SoAt.left {H:Hp}{sl l:Addr}{us us':List V}{ps ps' cs':List Cl}{X:List Int}(so:SoAt H sl us ps)(hl:H l=some (.lst us'))(pr:Ma H ps' us')(sb:ps'.Sublist ps)(mt:Mt ps' cs')(rt:Rt cs' X):SoAt H l us' ps':=by
 refine⟨hl,pr,λe he=>so.tg e (sb.subset he),(sb.map _).nodup so.nd,λe he t ht=>?_,λe he=>so.ok e (sb.subset he),bQ sb.length_le so.few⟩;obtain⟨c,hc,rfl⟩:=so.kn e (sb.subset he) t ht;obtain⟨k,hk⟩:=mt.a e he;obtain⟨c',hc',ez⟩:=rt.n _ hk _ ht;obtain⟨k',hk'⟩:=mt.b c' hc';have h:=AE so.nd (sb.subset hk') hc ez;exact⟨c,by rw[<-h];exact hk',rfl⟩
theorem Je {α β γ:Type}{f:α->β}{g:α->γ}:∀{l:List α},(l.map g).Nodup->(∀a∈l,∀b∈l,f a=f b->g a=g b)->(l.map f).Nodup
 |[],_,_=>cA
 |a::l,nd,h=>by
  rw[bg,bZ] at nd ⊢;refine⟨λhm=>nd.1 ?_,Je nd.2 λx hx y hy=>h x (a9 _ hx) y (a9 _ hy)⟩;obtain⟨b,hb,e⟩:=aT.mp hm;exact aT.mpr ⟨b,hb,h b (a9 _ hb) a bc e⟩
structure Iw (CB CP CT:Addr) (H:Hp) (x cl:Addr) (ms:List Int) (ds:List Addr) (b:List Cv) (n:Int) (q:Pl) (cs:List Cl) (bs:List (Int×Addr)) (sl:Addr) (us:List V) (ps:List Cl) (hl:Addr) (hs:List Cl) (ll:Addr) (LS:List (Addr×Tg)) (i:Int):Prop where
 pa:PAt CP CT H x q cs bs
 na:R3 H cs
 rt:Rt cs (hs.map (·.z))
 so:SoAt H sl us ps
 he:XT H hl hs ps
 mt:Mt ps cs
 nb:(cs.map (·.bk)).Nodup
 m:H cl=some (.lst (ms.map V.int))
 B:DE CB H q.bo ds b n .non
 ap:Y5 x q cs bs q.bo ds
 ls:∀e∈cs,e.l≠sl/\e.l≠hl
 ne:cl≠sl/\cl≠hl/\sl≠hl/\ll≠sl/\ll≠hl
 bo:Bo b cs q.D i
 bn:∀c∈b,c.length<=2*LS.length
 yi:∀e∈cs,e.y<i
 lw:H ll=some (.lst (LS.map λt=>V.ref t.1))
 lg:∀t∈LS,H t.1=some (.tup [.int t.2.1,.int t.2.2.1,.int t.2.2.2])/\Q6 t.2/\t.2.2.1<i
 lz:∀e∈cs,e.z∉q.D↔(e.z,e.y,A8 e.bk)∈LS.map (·.2)
section
variable {CB CP CT:Addr}{H H' H2 H3:Hp}{x xb cl:Addr}{ms:List Int}{ds:List Addr}{b:List Cv}{n:Int}{q:Pl}{cs cs':List Cl}{bs:List (Int×Addr)}{sl:Addr}{us:List V}{ps ps':List Cl}{hl:Addr}{hs hs':List Cl}{ll:Addr}{LS:List (Addr×Tg)}{i:Int}
theorem R3.same {H H':Hp}{cs:List Cl}(s:Ap H H')(h:R3 H cs):R3 H' cs:=λe he=>(h e he).elim λus hu=>⟨us,s.get hu.1,AA.same s _ _ hu.2⟩
theorem Iw.same (s:Ap H H')(h:Iw CB CP CT H x cl ms ds b n q cs bs sl us ps hl hs ll LS i):Iw CB CP CT H' x cl ms ds b n q cs bs sl us ps hl hs ll LS i:=
 { h with pa:=h.pa.same s,na:=h.na.same s,so:=h.so.same s,he:=⟨s.get h.he.1,h.he.2⟩,m:=s.get h.m,B:=h.B.same s,lw:=s.get h.lw,lg:=λt ht=>⟨s.get (h.lg t ht).1,(h.lg t ht).2⟩ }
theorem Iw.later (h:Iw CB CP CT H x cl ms ds b n q cs bs sl us ps hl hs ll LS i){k:Int}(hk:i<=k):Iw CB CP CT H x cl ms ds b n q cs bs sl us ps hl hs ll LS k:=
 { h with bo:=h.bo.later hk,yi:=λe he=>gE (h.yi e he) hk,lg:=λt ht=>⟨(h.lg t ht).1,(h.lg t ht).2.1,gE (h.lg t ht).2.2 hk⟩ }
theorem JR {α β:Type}{F G:α->β->Prop}:∀{l₁:List α} {l₂:List β},Paired F l₁ l₂->(∀a∈l₁,∀b∈l₂,F a b->G a b)->Paired G l₁ l₂
 |_,_,.nil,_=>.nil
 |_,_,.cons r t,f=>.cons (f _ bc _ bc r) (JR t λa ha b hb=>f a (a9 _ ha) b (a9 _ hb))
theorem T7 {c:Cv}(nd:(c.map (·.1)).Nodup){y:Int×List Int}(hy:y∈c):Ca c y.1=some y.2:=by
 induction c with
 |nil=>cases hy
 |cons u c ih=>
  rw[bg,bZ] at nd;unfold Ca;rcases bE.mp hy with rfl|hy
  ·rw[dF,bh rfl];rfl
  ·rw[dF,bD (λz=>nd.1 (by rw[z];exact aT.mpr ⟨y,hy,rfl⟩))];exact ih nd.2 hy
theorem DE.app {D:List Int}{l:Addr}{us us':List V}(h:DE CB H xb ds b n .non)(bo:Bo b cs D i)(hl:H l=some (.lst us))(hu:us=[]\/∃a r ys,us=.ref a::r/\H a=some (.tup ys)):DE CB (upd H l (.lst us')) xb ds b n .non:=by
 have hlen:=h.len;obtain⟨dx,s0,h1,h2,h3,h4⟩:=h;have two:=bo.two;have ns:s0≠l:=λz=>by
  rw[z,hl] at h2;have e:us=ds.map V.ref:=by injection h2 with h2;injection h2
  cases ds with
  |nil=>rw[<-hlen] at two;exact absurd two (by decide)
  |cons d ds=>
   rcases hu with rfl|⟨a,r,ys,rfl,ha⟩
   ·cases e
   ·have ed:a=d:=by injection e with e _;injection e
    have:TJ H (d::ds) b:=h4;cases b with
    |nil=>cases this
    |cons c b=>
     cases this with
     |cons g _=>
      obtain⟨kvs,g1,_⟩:=g;rw[<-ed,ha] at g1;cases g1
 have nx:∀{a o},H a=some o->(∀ys,o≠.lst ys)->(upd H l (.lst us')) a=some o:=λ{a o} h1 n=>by rw[Ag (λz=>by rw[z,hl] at h1;exact n _ (bf h1).symm)];exact h1
 refine⟨dx,s0,nx h1 (by intro ys z;cases z),by rw[Ag ns];exact h2,h3,JR h4 λd hd c hc ⟨kvs,g1,g2,g3⟩=>⟨kvs,nx g1 (by intro ys z;cases z),JR g2 λkv hkv y hy ⟨k1,r,k2,k3⟩=>⟨k1,r,k2,?_⟩,g3⟩⟩;have nr:r≠l:=λz=>by
  rw[z,hl] at k3;have e:us=y.2.map V.int:=by injection k3 with k3;injection k3
  obtain⟨j,hj⟩:=cz hc;have hj':=(bu.mp hj).1;have eg:b.getD j []=c:=by simp[List.getD,hj]
  obtain⟨_,y',bk',e2,_⟩:=bo.st y.1 j y.2 hj' (by rw[eg];exact T7 g3 hy);have e5:=LC y.1 y' bk';rw[<-e2] at e5;rcases hu with rfl|⟨a,r',ys,rfl,ha⟩
  ·cases hy2:y.2 with
   |nil=>rw[hy2] at e5;cases e5
   |cons _ _=>rw[hy2] at e;cases e
  ·cases hy2:y.2 with
   |nil=>rw[hy2] at e;cases e
   |cons _ _=>rw[hy2] at e;injection e with e _;cases e
 rw[Ag nr];exact k3
theorem DE.frm {lf:V}(h:DE CB H q.bo ds b n lf)(pa:PAt CP CT H x q cs bs)(ap:Y5 x q cs bs q.bo ds)(f:Nc (A5 x q cs bs) H H'):DE CB H' q.bo ds b n lf:=by
 obtain⟨dx,s0,h1,h2,h3,h4⟩:=h;have l:∀a xs,H a=some (.lst xs)->H' a=some (.lst xs):=λa xs h=>f a _ h (pa.apart h (by intro C d fs z;cases z) (by intro kvs z;cases z))
 exact⟨dx,s0,f _ _ h1 ap.1,l _ _ h2,h3,h4.same l λd hd kvs e=>f d _ e (ap.2 d hd)⟩
structure Kq (CB:Addr) (H H':Hp) (xb:Addr) (ds:List Addr) (b:List Cv) (n:Int):Prop where
 t:∀c ys,H c=some (.tup ys)->H' c=some (.tup ys)
 l:∀c ys,H c=some (.lst ys)->H' c=some (.lst ys)
 B:DE CB H' xb ds b n .non
theorem Iw.kq (I:Iw CB CP CT H x cl ms ds b n q cs bs sl us ps hl hs ll LS i)(f:Nc (A5 x q cs bs) H H'):Kq CB H H' q.bo ds b n:=
 ⟨λc ys h=>f c _ h (I.pa.apart h (by intro C d fs z;cases z) (by intro kvs z;cases z)),λc ys h=>f c _ h (I.pa.apart h (by intro C d fs z;cases z) (by intro kvs z;cases z)),I.B.frm I.pa I.ap f⟩
theorem R9 (sb:∀e∈cs',∃k,{ e with k:=k }∈cs):∀e∈cs',∃c∈cs,c.z=e.z/\c.y=e.y/\c.bk=e.bk:=λe he=>by
 obtain⟨k,hk⟩:=sb e he;exact⟨_,hk,rfl,rfl,rfl⟩
theorem Iw.after {m:Int} {sl':Addr} {us':List V} (I:Iw CB CP CT H x cl ms ds b n q cs bs sl us ps hl hs ll LS i) (k:Kq CB H H2 q.bo ds b n) (pa2:PAt CP CT H2 x { q with n:=m } cs' bs) (na2:R3 H2 cs') (rt2:Rt cs' (hs.map (·.z))) (sb:∀e∈cs',∃k,{ e with k:=k }∈cs)
  (mt':Mt ps' cs') (sub:ps'.Sublist ps) (s:Ap H2 H3) (hsl:H3 sl'=some (.lst us')) (pr:Ma H3 ps' us') (new:H2 sl'=none):Iw CB CP CT H3 x cl ms ds b n { q with n:=m } cs' bs sl' us' ps' hl hs ll LS i:=by
 have so3:SoAt H3 sl us ps:=(I.so.tup k.t (k.l _ _ I.so.l)).same s;have nw:∀{a ys},H a=some (.lst ys)->a≠sl':=λ{a ys} h z=>by
  have:=k.l _ _ h;rw[z,new] at this;cases this
 have nl:∀e∈cs',e.l≠sl'/\e.l≠hl:=λe he=>by
  obtain⟨k',hk'⟩:=sb e he;have n:=I.ls _ hk';obtain⟨us1,h1,_⟩:=I.na _ hk';exact⟨nw h1,n.2⟩
 have si:=R9 sb;refine⟨pa2.same s,na2.same s,rt2,so3.left hsl pr sub mt' rt2,⟨s.get (k.l _ _ I.he.1),I.he.2.1,λe he=>?_⟩,mt',?_,s.get (k.l _ _ I.m),k.B.same s,⟨λh=>I.ap.1 (Hf sb h),λd hd h=>I.ap.2 d hd (Hf sb h)⟩,nl,⟨nw I.m,I.ne.2.1,(nw I.he.1).symm,nw I.lw,I.ne.2.2.2.2⟩,I.bo.sub si,I.bn,λe he=>?_,s.get (k.l _ _ I.lw),λt ht=>⟨s.get (k.t _ _ (I.lg t ht).1),(I.lg t ht).2⟩,λe he=>?_⟩
 ·obtain⟨c,hc,ez⟩:=rt2.x e.z (aT.mpr ⟨e,he,rfl⟩);obtain⟨k',hk'⟩:=mt'.b c hc;have h:=AE I.so.nd (sub.subset hk') (I.he.2.2 e he) ez;rw[<-h];exact hk'
 ·refine Je pa2.t.2.2.2 λa ha b hb e=>?_
  obtain⟨k1,h1⟩:=sb a ha;obtain⟨k2,h2⟩:=sb b hb;have h:=AE I.nb h1 h2 e;have h3:=congrArg (λc:Cl=>c.z) h;exact h3
 ·obtain⟨c,hc,_,e2,_⟩:=si e he;rw[<-e2];exact I.yi c hc
 ·obtain⟨c,hc,e1,e2,e3⟩:=si e he;have:=I.lz c hc;rw[e1,e2,e3] at this;exact this
end
section
variable {CB CP CT:Addr}{H H' H2 H3:Hp}{x xb cl:Addr}{ms:List Int}{ds:List Addr}{b:List Cv}{n:Int}{q:Pl}{cs cs':List Cl}{bs:List (Int×Addr)}{sl:Addr}{us:List V}{ps ps':List Cl}{hl:Addr}{hs hs':List Cl}{ll:Addr}{LS:List (Addr×Tg)}{i:Int}
theorem R6 (zs:List Int)(cs:List Cl):Lc (cs.map (bump zs))=Lc cs:=Kt (λe=>e.k+(zs.count e.z:Int)) cs
theorem Rt.hold {X:List Int}{e:Cl}(h:Rt cs X)(he:e∈cs):Rt (cs.map (bump [e.z])) (X++[e.z]):=by
 refine⟨λc hc=>?_,λz hz=>?_,λc hc t ht=>?_⟩
 ·obtain⟨d,hd,rfl⟩:=aT.mp hc;rw[R6];show d.k+(([e.z].count d.z:Nat):Int)=(Fd (Lc cs) d.z:Int)+(((X++[e.z]).count d.z:Nat):Int);rw[h.k d hd,fK];omega
 ·rcases aY.mp hz with hz|hz
  ·obtain⟨d,hd,rfl⟩:=h.x z hz;exact⟨_,aT.mpr ⟨d,hd,rfl⟩,rfl⟩
  ·rw[ba.mp hz];exact⟨_,aT.mpr ⟨e,he,rfl⟩,rfl⟩
 ·obtain⟨d,hd,rfl⟩:=aT.mp hc;obtain⟨c,hc,ez⟩:=h.n d hd t ht;exact⟨_,aT.mpr ⟨c,hc,rfl⟩,ez⟩
theorem PAt.hold (h:PAt CP CT H x q cs bs){e:Cl}(he:e∈cs):PAt CP CT (upd H e.c (.ins CT e.dx (CJ e.ta ((wT (BW e.bk)).length:Int) e.l (e.k+1) e.en e.st))) x q (cs.map (bump [e.z])) bs:=by
 refine h.setK (g:=λd=>d.k+(([e.z].count d.z:Nat):Int)) (λd hd=>?_) (λa ha=>Ag λz=>ha (aT.mpr ⟨e,he,z.symm⟩))
 by_cases hz:d.z=e.z
 ·obtain rfl:=AE h.t.2.2.2 hd he hz;rw[Ae,ie];rfl
 ·rw[Ag (λz=>hz (by rw[AE h.c hd he z])),(h.t.2.2.1 d hd).1,cg.mpr (by simpa using hz)];simp
theorem XJ {e:Cl}(h:e∈cs):e.c∈A5 x q cs bs:=by
 unfold A5;simp only[List.mem_cons,List.mem_append];exact .inr (.inr (.inr (.inr (.inr (aT.mpr ⟨e,h,rfl⟩)))))
theorem Iw.hold {e:Cl}{k:Int}(I:Iw CB CP CT H x cl ms ds b n q cs bs sl us ps hl hs ll LS i)(h0:e∈ps)(hk:{ e with k:=k }∈cs)(few:hs.length<60):Iw CB CP CT (upd (upd H e.c (.ins CT e.dx (CJ e.ta ((wT (BW e.bk)).length:Int) e.l (k+1) e.en e.st))) hl (.lst ((hs.map λe=>V.ref e.ta)++[.ref e.ta]))) x cl ms ds b n q (cs.map (bump [e.z])) bs sl us ps hl (hs++[e]) ll LS i:=by
 have pa1:=I.pa.hold hk;have f:Nc (A5 x q cs bs) H (upd H e.c (.ins CT e.dx (CJ e.ta ((wT (BW e.bk)).length:Int) e.l (k+1) e.en e.st))):=λa o h n=>by
  rw[Ag (λz=>n (by rw[z];exact XJ (e:={ e with k:=k }) hk))];exact h
 have rt1:=I.rt.hold hk;have pa1:PAt CP CT (upd H e.c (.ins CT e.dx (CJ e.ta ((wT (BW e.bk)).length:Int) e.l (k+1) e.en e.st))) x q (cs.map (bump [e.z])) bs:=pa1;generalize (upd H e.c (.ins CT e.dx (CJ e.ta ((wT (BW e.bk)).length:Int) e.l (k+1) e.en e.st)))=H1 at pa1 f;have kq:=I.kq f;have hh:=kq.l _ _ I.he.1;have no:∀{a o},H1 a=some o->(∀ys,o≠.lst ys)->(upd H1 hl (.lst ((hs.map λe=>V.ref e.ta)++[.ref e.ta]))) a=some o:=λ{a o} h1 n=>by rw[Ag (λz=>by rw[z,hh] at h1;exact n _ (bf h1).symm)];exact h1
 have kt:∀c ys,H c=some (.tup ys)->(upd H1 hl (.lst ((hs.map λe=>V.ref e.ta)++[.ref e.ta]))) c=some (.tup ys):=λc ys h=>no (kq.t _ _ h) (by intro ys z;cases z)
 have kl:∀{c ys},H c=some (.lst ys)->c≠hl->(upd H1 hl (.lst ((hs.map λe=>V.ref e.ta)++[.ref e.ta]))) c=some (.lst ys):=λ{c ys} h n=>by rw[Ag n];exact kq.l _ _ h
 have sb:∀c∈cs.map (bump [e.z]),∃k,{ c with k:=k }∈cs:=λc hc=>by
  obtain⟨d,hd,rfl⟩:=aT.mp hc;exact⟨d.k,hd⟩
 have si:=R9 sb;have B1:DE CB (upd H1 hl (.lst ((hs.map λe=>V.ref e.ta)++[.ref e.ta]))) q.bo ds b n .non:=kq.B.app I.bo hh (by
  cases hs with
  |nil=>exact .inl rfl
  |cons c hs=>exact .inr ⟨c.ta,_,_,rfl,kq.t _ _ (I.so.tg c (I.he.2.2 c bc)).1⟩)
 refine⟨pa1.lst hh,λc hc=>?_,by rw[bA];exact rt1,I.so.tup kt (kl I.so.l I.ne.2.2.1),⟨by rw[Ae,bA];rfl,by rw[bx];show hs.length+1<=60;omega,λc hc=>?_⟩,⟨λc hc=>?_,λc hc=>?_⟩,?_,kl I.m I.ne.2.1,B1,⟨λh=>I.ap.1 (Hf (m:=q.n) sb h),λd hd h=>I.ap.2 d hd (Hf (m:=q.n) sb h)⟩,λc hc=>?_,I.ne,I.bo.sub si,I.bn,λc hc=>?_,kl I.lw I.ne.2.2.2.2,λt ht=>⟨kt _ _ (I.lg t ht).1,(I.lg t ht).2⟩,λc hc=>?_⟩
 ·obtain⟨d,hd,rfl⟩:=aT.mp hc;obtain⟨us1,h1,h2⟩:=I.na d hd;exact⟨us1,kl h1 (I.ls d hd).2,AX kt _ _ h2⟩
 ·rcases aY.mp hc with hc|hc
  ·exact I.he.2.2 c hc
  ·rw[ba.mp hc];exact h0
 ·obtain⟨k',hk'⟩:=I.mt.a c hc;exact⟨_,aT.mpr ⟨_,hk',rfl⟩⟩
 ·obtain⟨d,hd,rfl⟩:=aT.mp hc;exact I.mt.b d hd
 ·rw[bw];exact I.nb
 ·obtain⟨d,hd,rfl⟩:=aT.mp hc;exact I.ls d hd
 ·obtain⟨d,hd,rfl⟩:=aT.mp hc;exact I.yi d hd
 ·obtain⟨d,hd,rfl⟩:=aT.mp hc;exact I.lz d hd
theorem Rt.put {X:List Int}{N:Cl}(h:Rt cs X)(hm:∀e∈cs,e.z≠N.z)(hk:N.k=0)(hn:∀t∈Ar N.bk,∃e∈cs,e.z=t.1):Rt ((cs++[N]).map (bump ((Ar N.bk).map (·.1)))) X:=by
 have eL:Lc (cs++[N])=Lc cs++[(N.z,(Ar N.bk).map (·.1))]:=by unfold Lc;rw[bA];rfl
 refine⟨λc hc=>?_,λz hz=>?_,λc hc t ht=>?_⟩
 ·obtain⟨d,hd,rfl⟩:=aT.mp hc;rw[R6,eL,RY,Fy];show d.k+((((Ar N.bk).map (·.1)).count d.z:Nat):Int)=((Fd (Lc cs) d.z+(((Ar N.bk).map (·.1)).count d.z+Fd [] d.z):Nat):Int)+((X.count d.z:Nat):Int);rw[show Fd [] d.z=0 from rfl];rcases aY.mp hd with hd|hd
  ·rw[h.k d hd];omega
  ·have z1:Fd (Lc cs) N.z=0:=CG.mpr λy hy hz=>by
    obtain⟨e,he,rfl⟩:=aT.mp hy;obtain⟨t,ht,ez⟩:=aT.mp hz;obtain⟨c,hc,ec⟩:=h.n e he t ht;exact hm c hc (ec.trans ez)
   have z2:X.count N.z=0:=cg.mpr λhx=>by
    obtain⟨e,he,ez⟩:=h.x _ hx;exact hm e he ez
   rw[ba.mp hd,hk,z1,z2];omega
 ·obtain⟨d,hd,rfl⟩:=h.x z hz;exact⟨_,aT.mpr ⟨d,aY.mpr (.inl hd),rfl⟩,rfl⟩
 ·obtain⟨d,hd,rfl⟩:=aT.mp hc;have up:(∃c∈cs,c.z=t.1)->∃c∈(cs++[N]).map (bump ((Ar N.bk).map (·.1))),c.z=t.1:=λ⟨c0,h0,z0⟩=>⟨_,aT.mpr ⟨c0,aY.mpr (.inl h0),rfl⟩,z0⟩
  rcases aY.mp hd with hd|hd
  ·exact up (h.n d hd t ht)
  ·rw[ba.mp hd] at ht;exact up (hn t ht)
theorem Sf {m:Int}{zs:List Int}{N:Cl}{bs':List (Int×Addr)}(hc:H N.c=none)(hb:∀x∈bs',x∈bs\/H x.2=none){a:Addr}{o:HO}(ho:H a=some o)(hm:a∈A5 x { q with n:=m,D:=m::q.D } ((cs++[N]).map (bump zs)) bs'):a∈A5 x q cs bs:=by
 unfold A5 at hm ⊢;simp only[List.mem_cons,List.mem_append] at hm ⊢;rcases hm with hm|hm|hm|hm|hm|hm
 ·exact .inl hm
 ·exact .inr (.inl hm)
 ·exact .inr (.inr (.inl hm))
 ·exact .inr (.inr (.inr (.inl hm)))
 ·obtain⟨y,hy,rfl⟩:=aT.mp hm;rcases hb y hy with h|h
  ·exact .inr (.inr (.inr (.inr (.inl (aT.mpr ⟨y,h,rfl⟩)))))
  ·rw[ho] at h;cases h
 ·refine .inr (.inr (.inr (.inr (.inr ?_))));obtain⟨y,hy,rfl⟩:=aT.mp hm;obtain⟨d,hd,rfl⟩:=aT.mp hy;rcases aY.mp hd with h|h
  ·exact aT.mpr ⟨d,h,rfl⟩
  ·have e:=ba.mp h;have ho:H d.c=some o:=ho;rw[e,hc] at ho;cases ho
theorem Iw.put {m:Int} {b:Bk} {b0:List Cv} {bv:V} {c dxc ta l t:Addr} {bs':List (Int×Addr)} (I:Iw CB CP CT H x cl ms ds b0 n q cs bs sl us ps hl hs ll LS i) (few:cs.length<60) (hne:∀e∈cs,e.bk≠b) (m1:1<=m) (m2:m<=(cs.length:Int)+1) (hm:∀e∈cs,e.z≠m) (hc:H c=none) (hlN:H l=none) (hlR:∃us,H' l=some (.lst us)/\AA NL H' ((Ar b).map CC) us)
  (pa':PAt CP CT H' x { q with n:=m,D:=m::q.D } ((cs++[Dd m i b bv c dxc ta l cs]).map (bump ((Ar b).map (·.1)))) bs') (f:Nc (A5 x q cs bs) H H') (hb:∀x∈bs',x∈bs\/H x.2=none) (okb:Cu b) (y0:0<=i) (y1:i<=999999999) (hn:∀t∈Ar b,∃e∈ps,t=Hr e) (s:Ap H' H2) (ht:H2 t=some (.tup [bv,.ref ta])) :
  Iw CB CP CT (upd H2 sl (.lst (us++[.ref t]))) x cl ms ds b0 n { q with n:=m,D:=m::q.D } ((cs++[Dd m i b bv c dxc ta l cs]).map (bump ((Ar b).map (·.1)))) bs' sl (us++[.ref t]) (ps++[bump ((Ar b).map (·.1)) (Dd m i b bv c dxc ta l cs)]) hl hs ll LS (i+1):=by
 have kt0:∀a ys,H a=some (.tup ys)->H' a=some (.tup ys):=(I.kq f).t;have kl0:∀a ys,H a=some (.lst ys)->H' a=some (.lst ys):=λa ys h=>f a _ h (I.pa.apart h (by intro C d fs z;cases z) (by intro kvs z;cases z))
 have hsl2:=s.get (kl0 _ _ I.so.l);have no:∀{a o},H2 a=some o->(∀ys,o≠.lst ys)->(upd H2 sl (.lst (us++[.ref t]))) a=some o:=λ{a o} h1 n=>by rw[Ag (λz=>by rw[z,hsl2] at h1;exact n _ (bf h1).symm)];exact h1
 have kt2:∀a ys,H2 a=some (.tup ys)->(upd H2 sl (.lst (us++[.ref t]))) a=some (.tup ys):=λa ys h=>no h (by intro ys z;cases z)
 have kt:∀a ys,H a=some (.tup ys)->(upd H2 sl (.lst (us++[.ref t]))) a=some (.tup ys):=λa ys h=>kt2 _ _ (s.get (kt0 _ _ h))
 have kl:∀{a ys},H a=some (.lst ys)->a≠sl->(upd H2 sl (.lst (us++[.ref t]))) a=some (.lst ys):=λ{a ys} h n=>by rw[Ag n];exact s.get (kl0 _ _ h)
 have mN:bump ((Ar b).map (·.1)) (Dd m i b bv c dxc ta l cs)∈(cs++[Dd m i b bv c dxc ta l cs]).map (bump ((Ar b).map (·.1))):=aT.mpr ⟨_,aY.mpr (.inr (ba.mpr rfl)),rfl⟩;have cN:=pa'.t.2.2.1 _ mN;have hn':∀t∈Ar b,∃e∈cs,e.z=t.1:=λt ht=>by
  obtain⟨e,he,rfl⟩:=hn t ht;obtain⟨k,hk⟩:=I.mt.a e he;exact⟨_,hk,rfl⟩
 have lp:=(I.mt.z I.so.nd I.pa.t.2.2.2).length_eq;rw[aS,aS] at lp;have sb:=sum_in b;obtain⟨dxb,s0,xbH,_⟩:=id I.B;have B1:DE CB (upd H2 sl (.lst (us++[.ref t]))) q.bo ds b0 n .non:=((I.kq f).B.same s).app I.bo hsl2 (by
  cases us with
  |nil=>exact .inl rfl
  |cons u us=>
   obtain⟨_,_,a,rfl,ha⟩:=FC I.so.pr (i:=0) rfl;exact .inr ⟨a,_,_,rfl,s.get (kt0 _ _ ha)⟩)
 refine⟨(pa'.same s).lst hsl2,λe he=>?_,I.rt.put (N:=Dd m i b bv c dxc ta l cs) hm rfl hn',⟨Ae,Ma.snoc ⟨t,rfl,kt2 _ _ ht⟩ (I.so.pr.tup kt),λe he=>?_,?_,λe he u hu=>?_,λe he=>?_,?_⟩,⟨kl I.he.1 (Ne.symm I.ne.2.2.1),I.he.2.1,λe he=>aY.mpr (.inl (I.he.2.2 e he))⟩,⟨λe he=>?_,λe he=>?_⟩,?_,kl I.m I.ne.1,B1,⟨λh=>I.ap.1 (Sf (H:=H) (m:=m) hc hb xbH h),λd hd h=>(I.B.there d hd).elim λkvs g=>I.ap.2 d hd (Sf (H:=H) (m:=m) hc hb g h)⟩,λe he=>?_,I.ne,?_,I.bn,λe he=>?_,kl I.lw I.ne.2.2.2.1,λt' ht'=>⟨kt _ _ (I.lg t' ht').1,(I.lg t' ht').2.1,by have:=(I.lg t' ht').2.2;omega⟩,λe he=>?_⟩
 ·obtain⟨d,hd,rfl⟩:=aT.mp he;rcases aY.mp hd with h|h
  ·obtain⟨us1,h1,h2⟩:=I.na d h;exact⟨us1,kl h1 (I.ls d h).1,AX kt _ _ h2⟩
  ·rw[ba.mp h];obtain⟨us1,h1,h2⟩:=hlR;have nl:l≠sl:=λz=>by rw[z,I.so.l] at hlN;cases hlN
   exact⟨us1,by show(upd H2 sl _) l=_;rw[Ag nl];exact s.get h1,AX (λa ys h=>kt2 _ _ (s.get h)) _ _ h2⟩
 ·rcases aY.mp he with h|h
  ·exact(I.so.tg.tup kt) e h
  ·rw[ba.mp h];exact⟨kt2 _ _ (s.get cN.2.1),Cd (λa ys h=>kt2 _ _ (s.get h)) _ _ cN.2.2.1,⟨m1,by show m<=999999;omega⟩,⟨y0,y1⟩,sb.1,sb.2⟩
 ·rw[bA,b9];refine⟨I.so.nd,by simp,λu hu v hv=>?_⟩;obtain⟨e,he,rfl⟩:=aT.mp hu;have ev:v=m:=ba.mp hv;obtain⟨k,hk⟩:=I.mt.a e he;rw[ev];have h9:=hm _ hk;exact h9
 ·rcases aY.mp he with h|h
  ·obtain⟨c0,h0,e0⟩:=I.so.kn e h u hu;exact⟨c0,aY.mpr (.inl h0),e0⟩
  ·rw[ba.mp h] at hu;obtain⟨c0,h0,e0⟩:=hn u hu;exact⟨c0,aY.mpr (.inl h0),e0⟩
 ·rcases aY.mp he with h|h
  ·exact I.so.ok e h
  ·rw[ba.mp h];exact okb
 ·rw[bx];show ps.length+1<=60;omega
 ·rcases aY.mp he with h|h
  ·obtain⟨k,hk⟩:=I.mt.a e h;exact⟨_,aT.mpr ⟨_,aY.mpr (.inl hk),rfl⟩⟩
  ·rw[ba.mp h];exact⟨_,mN⟩
 ·obtain⟨d,hd,rfl⟩:=aT.mp he;rcases aY.mp hd with h|h
  ·obtain⟨k,hk⟩:=I.mt.b d h;exact⟨k,aY.mpr (.inl hk)⟩
  ·rw[ba.mp h];exact⟨_,aY.mpr (.inr (ba.mpr rfl))⟩
 ·rw[bw];show((cs++[Dd m i b bv c dxc ta l cs]).map λe=>e.bk).Nodup;rw[bA,b9];refine⟨I.nb,by simp,λu hu' w hw=>?_⟩;obtain⟨e0,h0,rfl⟩:=aT.mp hu';have:w=b:=ba.mp hw;rw[this];exact hne e0 h0
 ·obtain⟨d,hd,rfl⟩:=aT.mp he;rcases aY.mp hd with h|h
  ·exact I.ls d h
  ·rw[ba.mp h];exact⟨λz=>(by rw[show l=sl from z,I.so.l] at hlN;cases hlN),λz=>(by rw[show l=hl from z,I.he.1] at hlN;cases hlN)⟩
 ·have b1:=I.bo.put (N:=Dd m i b bv c dxc ta l cs) hm (fL _);refine(b1.sub λe he=>?_).later (by omega);obtain⟨d,hd,rfl⟩:=aT.mp he;exact⟨d,hd,rfl,rfl,rfl⟩
 ·obtain⟨d,hd,rfl⟩:=aT.mp he;rcases aY.mp hd with h|h
  ·have:=I.yi d h;show d.y<i+1;omega
  ·rw[ba.mp h];show i<i+1;omega
 ·obtain⟨d,hd,rfl⟩:=aT.mp he;rcases aY.mp hd with h|h
  ·have h1:=I.lz d h;have h2:d.z∉m::q.D↔d.z∉q.D:=⟨λz w=>z (a9 _ w),λz w=>(bE.mp w).elim (hm d h) z⟩
   exact h2.trans h1
  ·rw[ba.mp h];refine⟨λz=>absurd bc z,λz=>?_⟩;obtain⟨t',h1,h2⟩:=aT.mp z;have h3:=(I.lg t' h1).2.2;rw[h2] at h3;exact absurd h3 (Int.lt_irrefl _)
theorem Mg {H:Hp}{cs:List Cl}(tg:Pd H cs):∀{es:List Cl},(∀e∈es,e∈cs)->AA NL H (es.map λe=>BW e.bk) (es.map λe=>e.v)
 |[],_=>rfl
 |e::es,h=>⟨_,_,rfl,(tg _ (h e bc)).2.1,Mg tg λx hx=>h x (a9 _ hx)⟩
theorem Za {t u:TT}{σ:St}{H:Hp}{Q:Bool->Hp->Prop}(M:Bool->Prop)(h:∀R:Bool->Hp->Prop,(∀c H',Ap H H'->M c->R c H')->ZR t u σ H R)(q:∀c H',Ap H H'->M c->Q c H'):ZR t u σ H Q:=h Q q
end
theorem Uv {ps:List Cl}{b:Bk}(ok:∀e∈ps,Cu e.bk)(okb:Cu b):((ps.map λe=>BW e.bk).any λu=>decide (wT u=wT (BW b)))=true↔∃e∈ps,e.bk=b:=by
 rw[cR];constructor
 ·rintro⟨u,hu,h⟩
  obtain⟨e,he,rfl⟩:=aT.mp hu;exact⟨e,he,OH (LJ (Cq (ok e he)) (Cq okb) (bP h))⟩
 ·rintro⟨e,he,rfl⟩
  exact⟨_,aT.mpr ⟨e,he,rfl⟩,bh rfl⟩
theorem Ma.ne {H:Hp}{ps:List Cl}{us:List V}(h:Ma H ps us)(n:us≠[]):ps≠[]:=λz=>n (by rw[z] at h;exact h)
end
open M06 M10
section
variable {P:Program}{w:World}{K:W.Frag}{mg:Str->Option Value}{base:Heap}{f Ab Ad Aa Af:Addr}{XC:Nat->Addr}{fd:FuncData}
def Gc (K:W.Frag):Sp:=λvs H Q _=>∃(a:Addr) (ns:List Int) (k:Int),vs=[.ref a,.int k]/\0<=k/\AI K H a (ns.map V.int)/\∀z:Int,Q (.int z) H
theorem K3 (T:Txt K mg Ab Ad Aa Af XC)(F:Fun K "_law_cell_at" "_law_cell_at" Ek f fd):FnOk P w K mg base BO 1 f fd ["_law_script","_law_k"] (Gc K):=by
 exists KQ
 ·obtain⟨a,ns,k,rfl,_⟩:=h;rfl
 obtain⟨a,ns,k,rfl,hk,hS,q⟩:=h;refine⟨_,(!Ah (!AM (!Au Nv (pv 1) (!Aq AB (by rfl) T.b_len Bl (!Ac (pv 0) (!Ai))) (Ay _)) (!Ak (!Ao (!Aw A7 (pv 0) (pv 1) (λ_ _=>rfl)))) (!Av)) (!Ak (!Ao (!Aj)))),?_⟩;refine⟨_,rfl,_,rfl,a,_,rfl,.inl hS,_,_,rfl,rfl,_,rfl,Co (λc=>?_) (λc=>q 0)⟩;have c':=dec_true c;rw[aS] at c';exact⟨_,rfl,_,rfl,a,_,_,_,rfl,rfl,hS,OD hk c',q _⟩
section
variable {CB CP CT:Addr}{H H':Hp}{x cl:Addr}{ms:List Int}{ds:List Addr}{b:List Cv}{n:Int}{q:Pl}{cs cs':List Cl}{bs:List (Int×Addr)}{sl:Addr}{us:List V}{ps:List Cl}{hl:Addr}{hs:List Cl}{ll l2:Addr}{LS:List (Addr×Tg)}{i:Int}
def Jg (q:Pl)(ps:List Cl):List Cl:=ps.filter λe=>decide (e.z∈q.D)
theorem Xw {D:List Int}(l:List Cl):(l.filter λe=>decide (e.z∈D)).map (·.z)=(l.map (·.z)).filter λz=>decide (z∈D):=by rw[dq];rfl
theorem Iw.due (I:Iw CB CP CT H x cl ms ds b n q cs bs sl us ps hl hs ll LS i):((Jg q ps).map (·.z)).Perm ((JS q cs).map (·.z)):=by
 unfold Jg JS;rw[Xw,Xw];exact(I.mt.z I.so.nd I.pa.t.2.2.2).filter _
theorem Iw.lays {ss:List Cl} (I:Iw CB CP CT H x cl ms ds b n q cs bs sl us ps hl hs ll LS i) (pss:ss.Perm (JS q cs)) (hll:H l2=some (.lst ((LS.map λt=>V.ref t.1)++(Jg q ps).map λe=>V.ref e.ta))) (n1:l2≠sl) (n2:l2≠hl)
  (pa':PAt CP CT H' x { q with D:=[] } cs bs) (B':DE CB H' q.bo ds (FA b (ops b.length ss)) (n+2*((Jg q ps).length:Int)) .non) (bo':Bo (FA b (ops b.length ss)) cs [] i) (kt:∀c ys,H c=some (.tup ys)->H' c=some (.tup ys)) (kl:∀c ys,H c=some (.lst ys)->H' c=some (.lst ys)) :
  Iw CB CP CT H' x cl ms ds (FA b (ops b.length ss)) (n+2*((Jg q ps).length:Int)) { q with D:=[] } cs bs sl us ps hl hs l2 (LS++(Jg q ps).map λe=>(e.ta,Hr e)) i:=by
 have ld:(Jg q ps).length=ss.length:=by
  have:=I.due.length_eq;rw[aS,aS] at this;rw[this,pss.length_eq]
 refine⟨pa',λe he=>?_,I.rt,I.so.tup kt (kl _ _ I.so.l),⟨kl _ _ I.he.1,I.he.2⟩,I.mt,I.nb,kl _ _ I.m,B',I.ap,I.ls,⟨I.ne.1,I.ne.2.1,I.ne.2.2.1,n1,n2⟩,bo',λc hc=>?_,I.yi,by rw[kl _ _ hll,bA,bw];rfl,λt ht=>?_,λe he=>?_⟩
 ·obtain⟨us1,h1,h2⟩:=I.na e he;exact⟨us1,kl _ _ h1,AX kt _ _ h2⟩
 ·have:=JO _ I.bn c hc;rw[Jx] at this;rw[bx,aS];omega
 ·rcases aY.mp ht with ht|ht
  ·obtain⟨h1,h2⟩:=I.lg t ht;exact⟨kt _ _ h1,h2⟩
  ·obtain⟨e,he,rfl⟩:=aT.mp ht;have hp:=(bM.mp he).1;obtain⟨h1,_,h3⟩:=I.so.tg e hp;obtain⟨k,hk⟩:=I.mt.a e hp;exact⟨kt _ _ h1,h3,I.yi { e with k:=k } hk⟩
 ·refine⟨λ_=>?_,λ_ h=>nomatch h⟩;rw[bA,aY]
  by_cases hD:e.z∈q.D
  ·obtain⟨k,hk⟩:=I.mt.b e he;refine .inr (aT.mpr ⟨_,aT.mpr ⟨{ e with k:=k },bM.mpr ⟨hk,bh hD⟩,rfl⟩,rfl⟩)
  ·exact .inl ((I.lz e he).mp hD)
theorem WK {m:Int}(nd:(cs'.map (·.z)).Nodup)(sb:∀e∈cs',∃k,{ e with k:=k }∈cs):(JS { q with n:=m } cs').length<=(JS q cs).length:=by
 have:=Fp (l:=(JS { q with n:=m } cs').map (·.z)) (m:=(JS q cs).map (·.z)) ((List.filter_sublist.map _).nodup nd) λz hz=>by
  obtain⟨e,he,rfl⟩:=aT.mp hz;obtain⟨h1,h2⟩:=bM.mp he;obtain⟨k,hk⟩:=sb e h1;exact aT.mpr ⟨_,bM.mpr ⟨hk,h2⟩,rfl⟩
 rw[aS,aS] at this;exact this
theorem PV (zs:List Int):(JS q (cs.map (bump zs))).length=(JS q cs).length:=by unfold JS;rw[dq,aS];rfl
theorem V6 {N:Cl}{m:Int}(zs:List Int)(hm:∀e∈cs,e.z≠m):(JS { q with n:=m,D:=m::q.D } ((cs++[N]).map (bump zs))).length<=(JS q cs).length+1:=by
 rw[PV];unfold JS;rw[dh,bx];have:cs.filter (λe=>decide (e.z∈m::q.D))=cs.filter λe=>decide (e.z∈q.D):=e9 λe he=>by
  rw[cq,bq,bq,bE];exact⟨λh=>h.resolve_left (hm e he),.inr⟩
 rw[this];exact jc (bW _ _) _
end
def ON (K:W.Frag):Sp:=λvs H Q _=>∃(a:Addr) (ns:List Int),vs=[.ref a]/\AI K H a (ns.map V.int)/\ns.length<=63/\∀H',Q (.bl true) H'
def Sq (K:W.Frag)(H:Hp)(a:Addr)(xs:List V)(sl hl:Addr):Prop:=(Rd H a (.lst xs)/\a≠sl/\a≠hl)\/∃(o:Obj) (its:Array Value) (n:Nat),K.lookup a=some o/\o.cls=.type "list"/\o.dict=none/\o.data=.seq its n/\its.size<=sizeLine/\AR xs its.toList
theorem Sq.to {K:W.Frag}{H:Hp}{a sl hl:Addr}{xs:List V}(h:Sq K H a xs sl hl):AI K H a xs:=h.imp (·.1) id
theorem Sq.kd {K:W.Frag}{H H':Hp}{a sl hl:Addr}{xs:List V}(h:Sq K H a xs sl hl)(k:Kd H H'):Sq K H' a xs sl hl:=by
 rcases h with⟨h|⟨o,h⟩,n⟩|h
 ·exact .inl ⟨.inl (k.l _ _ h),n⟩
 ·exact .inl ⟨.inr ⟨o,k _ _ h (by intro C d fs z;cases z) (by intro kvs z;cases z)⟩,n⟩
 ·exact .inr h
theorem Sq.same {K:W.Frag}{H H':Hp}{a sl hl:Addr}{xs:List V}(h:Sq K H a xs sl hl)(s:Ap H H'):Sq K H' a xs sl hl:=h.kd (.of s)
theorem Sq.upd {K:W.Frag}{H:Hp}{a sl hl l:Addr}{xs:List V}{o:HO}(h:Sq K H a xs sl hl)(n:l=sl\/l=hl):Sq K (upd H l o) a xs sl hl:=by
 rcases h with⟨h,n1,n2⟩|h
 ·have ne:a≠l:=λz=>n.elim (λe=>n1 (z.trans e)) λe=>n2 (z.trans e)
  refine .inl ⟨?_,n1,n2⟩;rcases h with h|⟨o,h⟩
  ·exact .inl (by rw[Ag ne];exact h)
  ·exact .inr ⟨o,by rw[Ag ne];exact h⟩
 ·exact .inr h
theorem Sq.new {K:W.Frag}{H:Hp}{a sl hl l:Addr}{xs:List V}(h:Sq K H a xs sl hl)(n:H l=none):Sq K H a xs l hl:=by
 rcases h with⟨h,n1,n2⟩|h
 ·refine .inl ⟨h,λz=>?_,n2⟩;subst z;rcases h with h|⟨o,h⟩<;>rw[n] at h<;>cases h
 ·exact .inr h
theorem Sq.of {K:W.Frag}{H H':Hp}{a sl hl:Addr}{xs:List V}(h:AI K H a xs)(s:Ap H H')(n1:H sl=none)(n2:H hl=none):Sq K H' a xs sl hl:=by
 rcases h with h|h
 ·refine Sq.same (.inl ⟨h,λz=>?_,λz=>?_⟩) s
  ·subst z;rcases h with h|⟨o,h⟩<;>rw[n1] at h<;>cases h
  ·subst z;rcases h with h|⟨o,h⟩<;>rw[n2] at h<;>cases h
 ·exact .inr h
theorem Nc.kd {CP CT:Addr}{H H':Hp}{x:Addr}{q:Pl}{cs:List Cl}{bs:List (Int×Addr)}(f:Nc (A5 x q cs bs) H H')(pa:PAt CP CT H x q cs bs):Kd H H':=λc o h n1 n2=>f c o h (pa.apart h n1 n2)
theorem XU {s t:Tg}(h:wT (CC s)=wT (CC t)):s=t:=by
 obtain⟨a,c,d⟩:=s;obtain⟨a',c',d'⟩:=t;have h1:some a=some a':=congrArg (λl:List Int=>l[3]?) h;have h2:some c=some c':=congrArg (λl:List Int=>l[5]?) h;have h3:some d=some d':=congrArg (λl:List Int=>l[7]?) h;rw[bf h1,bf h2,bf h3]
theorem Iw.in_ll {CB CP CT:Addr}{H:Hp}{x cl:Addr}{ms:List Int}{ds:List Addr}{b:List Cv}{n:Int}{q:Pl}{cs:List Cl}{bs:List (Int×Addr)}{sl:Addr}{us:List V}{ps:List Cl}{hl:Addr}{hs:List Cl}{ll:Addr}{LS:List (Addr×Tg)}{i:Int}(I:Iw CB CP CT H x cl ms ds b n q cs bs sl us ps hl hs ll LS i){e:Cl}(he:e∈ps):((LS.map λt=>CC t.2).any λu=>decide (wT u=wT (CC (Hr e)))) = !decide (e.z∈q.D):=by
 obtain⟨k,hk⟩:=I.mt.a e he;have lz:e.z∉q.D↔Hr e∈LS.map (·.2):=I.lz { e with k:=k } hk
 by_cases hD:e.z∈q.D
 ·rw[bh hD];refine List.any_eq_false.mpr λu hu h=>?_
  obtain⟨t,ht,rfl⟩:=aT.mp hu;exact lz.mpr (by rw[<-show t.2=Hr e from XU (bP h)];exact aT.mpr ⟨t,ht,rfl⟩) hD
 ·rw[bD hD];obtain⟨t,ht,e1⟩:=aT.mp (lz.mp hD);exact cR.mpr ⟨CC t.2,aT.mpr ⟨t,ht,rfl⟩,bh (by rw[e1])⟩
theorem Ju {H:Hp}:∀{LS:List (Addr×Tg)},(∀t∈LS,H t.1=some (.tup [.int t.2.1,.int t.2.2.1,.int t.2.2.2]))->AA NL H (LS.map λt=>CC t.2) (LS.map λt=>V.ref t.1)
 |[],_=>rfl
 |t::LS,h=>⟨_,_,rfl,EF (t:=t.2) (h t bc),Ju λt ht=>h t (a9 _ ht)⟩
theorem Jd {t:Tg}(h:Q6 t):CD 8 (CC t)=true:=HX h 6
theorem Iw.isl {CB CP CT:Addr}{H:Hp}{x cl:Addr}{ms:List Int}{ds:List Addr}{b:List Cv}{n:Int}{q:Pl}{cs:List Cl}{bs:List (Int×Addr)}{sl:Addr}{us:List V}{ps:List Cl}{hl:Addr}{hs:List Cl}{ll:Addr}{LS:List (Addr×Tg)}{i:Int}(I:Iw CB CP CT H x cl ms ds b n q cs bs sl us ps hl hs ll LS i):∀u∈LS.map λt=>CC t.2,CD 8 u=true:=λu hu=>by
 obtain⟨t,ht,rfl⟩:=aT.mp hu;exact Jd (I.lg t ht).2.1
theorem Iw.nbs {CB CP CT:Addr}{H:Hp}{x cl:Addr}{ms:List Int}{ds:List Addr}{b:List Cv}{n:Int}{q:Pl}{cs:List Cl}{bs:List (Int×Addr)}{sl:Addr}{us:List V}{ps:List Cl}{hl:Addr}{hs:List Cl}{ll:Addr}{LS:List (Addr×Tg)}{i:Int}(I:Iw CB CP CT H x cl ms ds b n q cs bs sl us ps hl hs ll LS i):∀e∈cs,FD e.z e.y:=λe he=>by
 obtain⟨k,hk⟩:=I.mt.b e he;obtain⟨_,_,t1,t2,_⟩:=I.so.tg _ hk;exact⟨⟨by have:=t1.1;exact iL (by decide) this,by have:=t1.2;exact iL this (by decide)⟩,t2⟩
theorem Uo (b:List Cv)(z:Int):DW b z≠[]:=λh=>nomatch h
theorem Iw.brd {CB CP CT:Addr}{H:Hp}{x cl:Addr}{ms:List Int}{ds:List Addr}{b:List Cv}{n:Int}{q:Pl}{cs:List Cl}{bs:List (Int×Addr)}{sl:Addr}{us:List V}{ps:List Cl}{hl:Addr}{hs:List Cl}{ll:Addr}{LS:List (Addr×Tg)}{i:Int}(I:Iw CB CP CT H x cl ms ds b n q cs bs sl us ps hl hs ll LS i):YV CB H q cs:=
 ⟨ds,b,n,.non,I.B,bO (by decide) I.bo.two,λe he hD=>⟨I.bo.lies he (I.pa.t.2.2.1 e he).2.2.2,I.nbs e he,by rw[I.bo.laid he hD];exact Uo b e.z⟩⟩
theorem Yt (T:Txt K mg Ab Ad Aa Af XC)(F:Fun K "law" "law" Uq f fd)(E8:Sl P w K mg base 3 Ad "Boards" ["self","many"] (GS K Ad))(GL:Sl P w K mg base 1 Af "Pool" ["self","boards"] (IM K Af))(Ei:Def P w K mg base 17 "_law_stopped" ["_law_boards","_law_pool","_law_due","_law_writes"] (Gj K Ad Aa Af))(ID:Def P w K mg base 1 "_law_row" ["_law_cell","_law_many"] (KD K))(BR:BH P w K mg base 1 Af "numbers" ["self"] (DJ K Af Aa))(Do:Def P w K mg base 1 "_law_cell_at" ["_law_script","_law_k"] (Gc K))(FW:Def P w K mg base 3 "_law_block" ["_law_row_here","_law_some"] (HC K))(Ic:BH P w K mg base 19 Af "put" ["self","block","birth"] (Kk K Af Aa Ad))(CZ:BH P w K mg base 1 Af "hold" ["self","tag"] (F4 K Af Aa))(FH:BH P w K mg base 4 Af "sweep" ["self"] (HB K Af Aa))(FY:Def P w K mg base 2 "_law_swept" ["_law_some","_law_held"] (Hx K))(Cw:BH P w K mg base 17 Af "block" ["self","tag"] (E7 K Af Aa Ad))(Bh:Def P w K mg base 16 "right_copies" ["boards","tag"] (CQ K Ad))(Gy:Def P w K mg base 18 "_law_lays" ["_law_boards","_law_pool","_law_due","_law_many"] (Jy K Ad Aa Af))(D4:Def P w K mg base 16 "fetched" ["boards","tag"] (IF K Ad)):FnOk P w K mg base BO 20 f fd ["_law_script"] (ON K):=by
 exists BS
 ·obtain⟨a,ns,rfl,_⟩:=h;rfl
 obtain⟨a,ns,rfl,hS,hlen,hq⟩:=h;have hu:=BF hr;have hu9:=FZ hr;refine⟨_,(!Ah (@AD _ _ (1) _ _ _ _ BS.nd rfl (by trivial) (!As Bi (!Aj) (!As A3 (!AK Do (by trivial) rfl (!Ac (pv 0) (!Ac (!Aj) (!Ai)))) (!Aj))) (by rfl) (by trivial)) (!Ah (@AD _ _ (2) _ _ _ _ BS.nd rfl (by trivial) (!Om E8 (by trivial) rfl (!Ac (pv 1) (!Ai))) (by rfl) (by trivial)) (!Ah (@AD _ _ (3) _ _ _ _ BS.nd rfl (by trivial) (!Om GL (by trivial) rfl (!Ac (pv 2) (!Ai))) (by rfl) (by trivial)) (!Ah (@AD _ _ (4) _ _ _ _ BS.nd rfl (by trivial) (!BJ (!Ai)) (by rfl) (by trivial)) (!Ah (@AD _ _ (5) _ _ _ _ BS.nd rfl (by trivial) (!BJ (!Ai)) (by rfl) (by trivial)) (!Ah (@AD _ _ (6) _ _ _ _ BS.nd rfl (by trivial) (!BJ (!Ai)) (by rfl) (by trivial)) (!Ah (!B2 b5 rfl (!Vc rfl T.b_enumerate (!Ac (!Jc Rv (pv 0) (!JD (!Aj)) (!JD (!Aj))) (!Ai))) (!J3 rfl (!Ax (@An _ _ (7) _ BS.nd rfl (by trivial) (by trivial)) (!Ax (@An _ _ (8) _ BS.nd rfl (by trivial) (by trivial)) (!Bv)))) (!Ah (@AD _ _ (9) _ _ _ _ BS.nd rfl (by trivial) (!AK ID (by trivial) rfl (!Ac (pv 8) (!Ac (!Aj) (!Ai)))) (by rfl) (by trivial)) (!Ah (@AD _ _ (10) _ _ _ _ BS.nd rfl (by trivial) (!As A3 (!Aw A7 (pv 9) (!Aj) (λ_ _=>rfl)) (!Aj)) (by rfl) (by trivial)) (!Ah (!AM (@PW.pt _ _ _ (!EU (!Au Nv (pv 10) (!Aj) (Ay _)) (!Du (!Au (TR hu) (pv 4) (!BJ (!Ai)) (Ay _))))) (!Ah (@AD _ _ (11) _ _ _ _ BS.nd rfl (by trivial) (!AK FW (by trivial) rfl (!Ac (pv 9) (!Ac (pv 4) (!Ai)))) (by rfl) (by trivial)) (!Ah (@AD _ _ (12) _ _ _ _ BS.nd rfl (by trivial) (!A2 (pv 3) T.cl_Pool Ic (by trivial) (!Ac (pv 11) (!Ac (pv 7) (!Ai)))) (by rfl) (by trivial)) (!Ak (!AM (!Au (He hu9) (pv 11) (@Br _ ["_law_other","_law_elder"] _ _ _ _ _ _ _ _ _ _ rfl (!A0 (pv 4)) (by decide +kernel) (λC s H fp=>⟨(@B3 _ (K) _ _ _ _ (2) (by rfl) rfl (!Ax (@An _ _ (0) _ (show(["_law_other","_law_elder"]:List Str).Nodup by decide +kernel) rfl (by trivial) (by trivial)) (!Ax (@An _ _ (1) _ (show(["_law_other","_law_elder"]:List Str).Nodup by decide +kernel) rfl (by trivial) (by trivial)) (!Bv))) (by rfl) (by rfl)),(!AU),(pv 0)⟩) (by intro _;rfl))) (!Ak (!A6 (!Gd b7 dM dJ DX (pv 4) (!Ac (!DQ (!Ac (pv 11) (!Ac (pv 12) (!Ai)))) (!Ai))))) (!Av))))) (!Ak (!AM (!Au Bg (pv 10) (!Aj) (Ay _)) (!Ah (@AD _ _ (12) _ _ _ _ BS.nd rfl (by trivial) (!Aw AF (!Aw A7 (pv 4) (!As A3 (!Aw A7 (pv 9) (!Aj) (λ_ _=>rfl)) (!Aq AB (by rfl) T.b_len Bl (!Ac (pv 4) (!Ai)))) (λ_ _=>rfl)) (!Aj) (λ_ _=>rfl)) (by rfl) (by trivial)) (!Ah (!A6 (!A2 (pv 3) T.cl_Pool CZ (by trivial) (!Ac (pv 12) (!Ai)))) (!Ak (!A6 (!Gd b7 dM dJ DX (pv 5) (!Ac (pv 12) (!Ai))))))) (!Ak (!AM (!Au Bg (pv 10) (!Aj) (Ay _)) (!Ah (!A6 (!Ce (pv 3) T.cl_Pool FH)) (!Ak (@AD _ _ (4) _ _ _ _ BS.nd rfl (by trivial) (!AK FY (by trivial) rfl (!Ac (pv 4) (!Ac (pv 5) (!Ai)))) (by rfl) (by trivial)))) (!Ah (@FE _ ["_law_block_here","_law_tag","_law_laid_here"] [none,none,some 6] (13) _ _ _ _ _ _ _ _ _ _ _ _ _ _ BS.nd rfl (by trivial) rfl (!A0 (pv 4)) (by rfl) rfl (by repeat (first|exact trivial|refine⟨rfl,?_⟩)) (by repeat (first|exact trivial|refine⟨λh=>(by first|exact⟨_,rfl⟩|cases h),?_⟩)) (λC s H fp=>⟨(@B3 _ (K) _ _ _ _ (2) (by rfl) rfl (!Ax (@An _ _ (0) _ (show(["_law_block_here","_law_tag","_law_laid_here"]:List Str).Nodup by decide +kernel) rfl (by trivial) (by trivial)) (!Ax (@An _ _ (1) _ (show(["_law_block_here","_law_tag","_law_laid_here"]:List Str).Nodup by decide +kernel) rfl (by trivial) (by trivial)) (!Bv))) (by rfl) (by rfl)),(!C7 (!Au (He hu9) (pv 1) (pv 2))),(pv 1)⟩) (by intro _;rfl) (by rfl) (by trivial)) (!Ah (@AD _ _ (6) _ _ _ _ BS.nd rfl (by trivial) (!As Lj (pv 6) (pv 13)) (by rfl) (by trivial)) (!Ak (!AM (!BL (!BC (!AK Gy (by trivial) rfl (!Ac (pv 2) (!Ac (pv 3) (!Ac (pv 13) (!Ac (pv 1) (!Ai)))))) (by intro _;rfl))) (!Ak (!Ao (!DF))) (!Av)))))))))) (!Ak (!B2 b5 rfl (!A0 (pv 4)) (!J3 rfl (!Ax (@An _ _ (11) _ BS.nd rfl (by trivial) (by trivial)) (!Ax (@An _ _ (12) _ BS.nd rfl (by trivial) (by trivial)) (!Bv)))) (!Ah (!AM (@PW.pt _ _ _ (!EU (!Au (Q7 hu9) (!A2 (pv 3) T.cl_Pool Cw (by trivial) (!Ac (pv 12) (!Ai))) (pv 11) (Ay _)) (!Du (@PW.pt _ _ _ (!OO (!Au (Ys hu9) (pv 12) (pv 6)) (!La (!Au (Q7 hu9) (!AK D4 (by trivial) rfl (!Ac (pv 2) (!Ac (pv 12) (!Ai)))) (pv 11) (Ay _)))))))) (!Ak (!Ao (!DF))) (!Av)) (!Ak (!AM (@PW.pt _ _ _ (!OO (!Au (He hu9) (pv 12) (pv 6)) (!La (!Au (QL hu) (!AK Bh (by trivial) rfl (!Ac (pv 2) (!Ac (pv 12) (!Ai)))) (!BJ (!Ai)) (Ay _))))) (!Ak (!Ao (!DF))) (!Av)))) (by intro _;rfl)))))) (by intro _;rfl)) (!Ah (!AM (!Au (YB hu) (!Ce (pv 3) T.cl_Pool BR) (!Aq (Iz (K:=K) (by rfl)) (by rfl) T.b_sorted Ct (!Ac (@Br _ ["_law_block_here","_law_tag"] _ _ _ _ _ _ _ _ _ _ rfl (!A0 (pv 4)) (by decide +kernel) (λC s H fp=>⟨(@B3 _ (K) _ _ _ _ (2) (by rfl) rfl (!Ax (@An _ _ (0) _ (show(["_law_block_here","_law_tag"]:List Str).Nodup by decide +kernel) rfl (by trivial) (by trivial)) (!Ax (@An _ _ (1) _ (show(["_law_block_here","_law_tag"]:List Str).Nodup by decide +kernel) rfl (by trivial) (by trivial)) (!Bv))) (by rfl) (by rfl)),(!AU),(!Aw (DT (K:=K) (by rfl)) (pv 1) (!Aj) (λ_ _=>rfl))⟩) (by intro _;rfl)) (!Ai))) (Ay _)) (!Ak (!Ao (!DF))) (!Av)) (!Ah (@AD _ _ (13) _ _ _ _ BS.nd rfl (by trivial) (!Aq (Pb (K:=K) (by rfl)) (by rfl) T.b_sorted Ct (!Ac (@CM _ ["_law_block_here","_law_tag","_law_laid_here"] [none,none,some 6] _ _ _ _ _ _ _ _ _ _ _ rfl (!A0 (pv 4)) (by rfl) rfl (by repeat (first|exact trivial|refine⟨rfl,?_⟩)) (by repeat (first|exact trivial|refine⟨λh=>(by first|exact⟨_,rfl⟩|cases h),?_⟩)) (λC s H fp=>⟨(@B3 _ (K) _ _ _ _ (2) (by rfl) rfl (!Ax (@An _ _ (0) _ (show(["_law_block_here","_law_tag","_law_laid_here"]:List Str).Nodup by decide +kernel) rfl (by trivial) (by trivial)) (!Ax (@An _ _ (1) _ (show(["_law_block_here","_law_tag","_law_laid_here"]:List Str).Nodup by decide +kernel) rfl (by trivial) (by trivial)) (!Bv))) (by rfl) (by rfl)),(!C7 (!Au (He hu9) (pv 1) (pv 2))),(pv 1)⟩) (by intro _;rfl)) (!Ai))) (by rfl) (by trivial)) (!Ak (!Ao (!AK Ei (by trivial) rfl (!Ac (pv 2) (!Ac (pv 3) (!Ac (pv 13) (!Ac (!As A3 (!As G6 (!AK Do (by trivial) rfl (!Ac (pv 0) (!Ac (!Aj) (!Ai)))) (!Aj)) (!As Bi (!As Eg (!Aj) (!Aq AB (by rfl) T.b_len Bl (!Ac (pv 13) (!Ai)))) (!Aj))) (!Ai))))))))))))))))),?_⟩
 try dsimp only[BB,Cx.nox,Cx.wish]
 refine⟨_,rfl,a,ns,0,rfl,fL 0,hS,λz0=>⟨_,_,rfl,rfl,(by show(0:Int)<3;decide),_,_,rfl,rfl,?_⟩⟩
 try dsimp only
 obtain⟨m,em,m2,m4⟩:∃m:Nat,2+z0%3=(m:Int)/\2<=m/\m<=4:=⟨(2+z0%3).toNat,by omega,by omega,by omega⟩
 rw[em];refine AQ λN eN=>?_
 refine⟨_,rfl,?_⟩;intro xb dxb nxb ndxb _;refine⟨xb,dxb,m,rfl,m2,m4,Ae,λH1 ds B1 n1 k1=>⟨rfl,?_⟩⟩;have s1:=made nxb ndxb k1;have lds:=B1.len;rw[dB] at lds;obtain⟨dxb',sh,hxb1,_⟩:=id B1;subst eN
 try dsimp only
 refine AQ λN eN=>?_
 refine⟨_,rfl,?_⟩;intro x dx nx ndx _;refine⟨x,dx,xb,rfl,Ae,λdt dz dd H2 k2 e1 e2 e3 hdt hdz hdd hx hnw=>⟨rfl,?_⟩⟩;have s2:=made nx ndx k2;have hS2:=s2.seq (s1.seq hS);have hB2:=B1.same s2;have pa2:PAt Af Aa H2 x ⟨dx,xb,dt,dz,dd,1,[]⟩ [] []:=⟨⟨hx,hdt,(λ_ h=>nomatch h),cA⟩,hdd,⟨hdz,cA,cA,(λ_ h=>nomatch h),(λ_ h=>nomatch h)⟩,e1,e2,e3,cA,(λe h=>nomatch h),(λe h=>nomatch h),fL _,(λi h1 h2=>absurd h2 (by show ¬i<1;omega))⟩
 have old:∀{c o},H1 c=some o->c∉A5 x ⟨dx,xb,dt,dz,dd,1,[]⟩ [] []:=λ{c o} h=>by
  have hN:∀{d},(upd (upd H1 dx (.own x)) x (.ins Af dx [])) d=none->c≠d:=λ{d} hd z=>by
   have n1:c≠x:=AG h nx;have n2:c≠dx:=AG h ndx;rw[<-z,Ag n1,Ag n2,h] at hd;cases hd
  unfold A5;simp only[List.mem_cons,List.mem_append,List.map_nil,List.not_mem_nil,or_false,not_or];exact⟨AG h nx,hN hnw.1,hN hnw.2.1,hN hnw.2.2⟩
 subst eN
 try dsimp only
 refine⟨Jo,λsl hsl=>?_⟩;refine⟨Jo,λhl hhl=>?_⟩;refine⟨Jo,λll hll=>?_⟩;have s4:=((Al hsl (.lst [])).trans (Al hhl (.lst []))).trans (Al hll (.lst []));have hS4:=s4.seq hS2;have hsl4:(upd (upd (upd H2 sl (.lst [])) hl (.lst [])) ll (.lst [])) sl=some (.lst []):=(Al hll _).get ((Al hhl _).get Ae);have hhl4:(upd (upd (upd H2 sl (.lst [])) hl (.lst [])) ll (.lst [])) hl=some (.lst []):=(Al hll _).get Ae;have hll4:(upd (upd (upd H2 sl (.lst [])) hl (.lst [])) ll (.lst [])) ll=some (.lst []):=Ae;have nsh:sl≠hl:=λz=>by rw[<-z,Ae] at hhl;cases hhl
 have nls:ll≠sl:=λz=>by rw[z,(Al hhl (.lst [])).get (Ae)] at hll;cases hll
 have nlh:ll≠hl:=λz=>by rw[z,Ae] at hll;cases hll
 have hhlH:H2 hl=none:=by rw[Ag nsh.symm] at hhl;exact hhl
 have sq4:Sq K (upd (upd (upd H2 sl (.lst [])) hl (.lst [])) ll (.lst [])) a (ns.map V.int) sl hl:=Sq.of hS2 s4 hsl hhlH;generalize (upd (upd (upd H2 sl (.lst [])) hl (.lst [])) ll (.lst []))=H4 at s4 hS4 hsl4 hhl4 hll4 sq4
 try dsimp only
 refine AQ λNF eNF=>?_
 refine⟨_,rfl,1,rfl,41,rfl,a,_,rfl,hS4,λcl hcl=>?_⟩;obtain⟨ms,ems,lms⟩:∃ms:List Int,JM (ns.map V.int) (some 1) (some 41)=ms.map V.int/\ms.length<=40:=by
  refine⟨(ns.drop 1).take 40,?_,?_⟩
  ·rw[TV (by decide) (by decide),<-List.map_drop,<-ik];rfl
  ·rw[b6];omega
 rw[ems];have ncl1:cl≠sl:=λz=>by rw[z,hsl4] at hcl;cases hcl
 have ncl2:cl≠hl:=λz=>by rw[z,hhl4] at hcl;cases hcl
 have s5:=Al hcl (.lst (ms.map V.int));have s6:=s4.trans s5;have bo0:Bo (List.replicate m []) [] [] 0:=by
  refine⟨by rw[dB];exact m2,by rw[dB];exact m4,λz j row hj g=>?_,(λ_ h=>nomatch h),(λ_ h=>nomatch h)⟩;rw[dB] at hj;have:(List.replicate m ([]:Cv)).getD j []=[]:=by simp[List.getD,List.getElem?_replicate,hj]
  rw[this] at g;cases g
 have I0:Iw Ad Af Aa (upd H4 cl (.lst (ms.map V.int))) x cl ms ds (List.replicate m []) 0 ⟨dx,xb,dt,dz,dd,1,[]⟩ [] [] sl [] [] hl [] ll [] 0:=⟨pa2.same s6,(λ_ h=>nomatch h),⟨(λ_ h=>nomatch h),(λ_ h=>nomatch h),(λ_ h=>nomatch h)⟩,⟨s5.get hsl4,rfl,(λ_ h=>nomatch h),cA,(λ_ h=>nomatch h),(λ_ h=>nomatch h),bU _⟩,⟨s5.get hhl4,bU _,(λ_ h=>nomatch h)⟩,⟨(λ_ h=>nomatch h),(λ_ h=>nomatch h)⟩,cA,Ae,hB2.same s6,⟨old hxb1,λd hd=>(B1.there d hd).elim λkvs g=>old g⟩,(λ_ h=>nomatch h),⟨ncl1,ncl2,nsh,nls,nlh⟩,bo0,(λc hc=>by rw[List.eq_of_mem_replicate hc];exact bU _),(λ_ h=>nomatch h),s5.get hll4,(λ_ h=>nomatch h),(λ_ h=>nomatch h)⟩
 have sq6:=sq4.same s5;generalize (upd H4 cl (.lst (ms.map V.int)))=H6 at I0 sq6;refine⟨cl,_,rfl,AI.of I0.m,?_⟩;refine SK (K:=K) (a:=cl) (xs:=ms.map V.int) (λi σ H'=>∃b n q cs bs us ps hs LS,∃(sl ll:Addr) (v7 v8 v9 v10 v11 v12 v13:Option V),σ=[some (.ref a),some (.int (m:Int)),some (.ref xb),some (.ref x),some (.ref sl),some (.ref hl),some (.ref ll),v7,v8,v9,v10,v11,v12,v13]/\q.bo=xb/\b.length=m/\Iw Ad Af Aa H' x cl ms ds b n q cs bs sl us ps hl hs ll LS (i:Int)/\cs.length<=i/\hs.length<=i/\LS.length+(JS q cs).length<=i/\Sq K H' a (ns.map V.int) sl hl) ⟨_,_,_,[],[],[],[],[],[],sl,ll,none,none,none,none,none,none,none,rfl,rfl,dB,I0,aZ _,aZ _,aZ _,sq6⟩ ?_ ?_ ?_
 ·rintro i σ H' _ ⟨b,n,q,cs,bs,us,ps,hs,LS,sl,ll,v7,v8,v9,v10,v11,v12,v13,_,_,_,I,_⟩
  exact AI.of I.m
 ·rintro i y σ H' T hy ⟨b,n,q',cs,bs,us,ps,hs,LS,sl,ll,v7,v8,v9,v10,v11,v12,v13,rfl,ebo,lb,I,lcs,lhs,lLS,sq⟩ hT
  obtain⟨nn,rfl,hn⟩:=ints_get hy;have hi:i<ms.length:=(bu.mp hn).1;have lp:=(I.mt.z I.so.nd I.pa.t.2.2.2).length_eq;rw[aS,aS] at lp;have sT:=Al hT (.tup [V.int (i:Int),V.int nn]);refine⟨T,_,rfl,AV.of Ae,rfl,_,_,rfl,_,_,rfl,rfl,?_⟩
  replace I:=I.same sT
  replace sq:=sq.same sT
  clear hT sT
  generalize upd H' T (.tup [V.int (i:Int),V.int nn])=H'' at I sq
  try dsimp only
  refine DI λEB eEB=>?_
  refine AQ λNB eNB=>?_
  refine⟨_,rfl,nn,12,rfl,by decide,by decide,λr H1 row s1' nr hr lr br=>?_⟩;subst eNB
  try dsimp only
  refine AQ λNB eNB=>?_
  have I1:=I.same s1';obtain⟨x11,a11,x110,x111⟩:=HW lr br 11 (by decide) (by decide);obtain⟨x10,a10,x100,x101⟩:=HW lr br 10 (by decide) (by decide);refine⟨_,rfl,r,_,_,_,rfl,rfl,AI.of hr,a11,_,_,rfl,rfl,(by show(0:Int)<6;decide),?_⟩;dsimp only[Bt];subst eNB
  try dsimp only
  generalize x11%6=way;refine EL (λσ' H'=>∃b n q cs bs us ps hs LS,∃(sl ll:Addr) (v7 v8 v9 v10 v11 v12 v13:Option V),σ'=[some (.ref a),some (.int (m:Int)),some (.ref xb),some (.ref x),some (.ref sl),some (.ref hl),some (.ref ll),v7,v8,v9,v10,v11,v12,v13]/\q.bo=xb/\b.length=m/\Iw Ad Af Aa H' x cl ms ds b n q cs bs sl us ps hl hs ll LS ((i+1:Nat):Int)/\cs.length<=i+1/\hs.length<=i+1/\LS.length+(JS q cs).length<=i+1/\Sq K H' a (ns.map V.int) sl hl) (λN hN=>?_) ?_
  ·dsimp only[Dr,Qu];refine Za (λc=>c=false->us≠[]) (λR hR=>?_) (λc H2 s2' hM=>?_)
   ·refine⟨_,rfl,_,_,rfl,rfl,_,rfl,Co (λh=>hR true _ (Ap.refl _) (λz=>nomatch z)) (λh=>?_)⟩;refine⟨_,rfl,Jo,λl0 hl0=>⟨sl,l0,_,rfl,rfl,AI.of ((Al hl0 _).get I1.so.l),AI.of Ae,_,rfl,hR _ _ (Al hl0 _) λz=>?_⟩⟩;exact of_decide_eq_false z
   have I2:=I1.same s2';have sq2:=(sq.same s1').same s2';have hr2:=s2'.get hr;have few2:=I2.so.few;have ei:(i:Int)<=((i+1:Nat):Int):=by omega
   refine Co (λhc=>?_) (λhc=>?_)
   ·refine⟨_,rfl,_,rfl,r,sl,row,ps,us,rfl,⟨hr2,lr,br,I2.so.l,I2.so.pr,by omega,I2.so.tg⟩,λbv b0 H3 s3' hbv okb hnb=>?_⟩;have I3:=I2.same s3';have hn3:∀t∈Ar b0,∃e∈cs,e.z=t.1:=λt ht=>by
     obtain⟨e,he,rfl⟩:=hnb t ht;obtain⟨k,hk⟩:=I.mt.a e he;exact⟨_,hk,rfl⟩
    refine⟨_,rfl,x,q'.dp,_,rfl,I3.pa.t.1,rfl,_,rfl,_,rfl,x,q',cs,bs,bv,b0,(i:Int),rfl,I3.pa,I3.brd,by omega,hbv,okb,hn3,λe he eb H4 s4'=>?_,λhne mm H4 c dxc l ta bs' m1 m2 hm hcN hlN _ hlR pa' f' hb'=>?_⟩
    ·have I4:=I3.same s4';refine⟨_,rfl,_,rfl,sl,rfl,⟨_,AI.of I4.so.l⟩,?_⟩;refine Dj (fr:=[]) I4.so.pr I4.so.l (by omega) (λ_=>true) (λe=>e.v) (λe he H' R s' hR=>hR) (λe he H' R s' hR=>⟨_,rfl,hR⟩) λl7 H7 nl7 s7' hl7=>?_
     rw[JF] at hl7;have I7:=I4.same s7';refine⟨l7,_,BW b0,_,rfl,hl7,Rep.same (s4'.trans s7') _ _ hbv,Cq okb,Mg I7.so.tg λ_ h=>h,λu hu=>?_,_,rfl,AJ ?_ ?_⟩
     ·obtain⟨c,hc,rfl⟩:=aT.mp hu;exact Cq (I.so.ok c hc)
     ·rw[bF rfl,(Uv I.so.ok okb).mpr ?_]
      ·rfl
      ·obtain⟨k,hk⟩:=I.mt.b e he;exact⟨_,hk,eb⟩
     ·exact hN _ _ ⟨_,_,_,_,_,_,_,_,_,_,_,_,_,_,_,_,_,_,rfl,ebo,lb,I7.later ei,by omega,by omega,by omega,((sq2.same s3').same s4').same s7'⟩
    ·have kq:=I3.kq f';have so4:SoAt H4 sl us ps:=I3.so.tup kq.t (kq.l _ _ I3.so.l);refine⟨_,rfl,_,rfl,sl,rfl,⟨_,AI.of so4.l⟩,?_⟩;refine Dj (fr:=[]) so4.pr so4.l (by omega) (λ_=>true) (λe=>e.v) (λe he H' R s' hR=>hR) (λe he H' R s' hR=>⟨_,rfl,hR⟩) λl7 H7 nl7 s7' hl7=>?_
     rw[JF] at hl7;have so7:=so4.same s7';refine⟨l7,_,BW b0,_,rfl,hl7,Rep.same s7' _ _ (Cd kq.t _ _ hbv),Cq okb,Mg so7.tg λ_ h=>h,λu hu=>?_,_,rfl,BA ?_ ?_⟩
     ·obtain⟨c,hc,rfl⟩:=aT.mp hu;exact Cq (I.so.ok c hc)
     ·rw[bF rfl];cases hA:((ps.map λe=>BW e.bk).any λu=>decide (wT u=wT (BW b0))) with
      |false=>rfl
      |true=>
       obtain⟨e,he,eb⟩:=(Uv I.so.ok okb).mp hA;obtain⟨k,hk⟩:=I.mt.a e he;have hz:=hne _ hk;exact absurd eb hz
     ·refine⟨_,rfl,.inl ⟨rfl,_,AI.of so7.l⟩,_,rfl,_,rfl,MH,λt8 ht8=>?_⟩;have s8':=Al ht8 (.tup [bv,.ref ta]);have lus:=Ho I.so.pr;refine⟨sl,us,_,rfl,rfl,s8'.get so7.l,Bd (by omega),?_⟩;have I9:=I3.put (by omega) hne m1 m2 hm hcN hlN hlR pa' f' hb' okb (by omega) (by omega) hnb (s7'.trans s8') (t:=t8) Ae;rw[show(i:Int)+1=((i+1:Nat):Int) by omega] at I9;refine hN _ _ ⟨_,_,{ q' with n:=mm,D:=mm::q'.D },_,_,_,_,_,_,_,_,_,_,_,_,_,_,_,rfl,ebo,lb,I9,?_,by omega,?_,(((((sq2.same s3').kd (f'.kd I3.pa)).same s7').same s8').upd (.inl rfl))⟩
      ·rw[aS,bx];show cs.length+1<=i+1;omega
      have:=V6 (q:=q') (N:=Dd mm (i:Int) b0 bv c dxc ta l cs) ((Ar b0).map (·.1)) hm;omega
   ·have us0:us≠[]:=hM (by cases c with
     |false=>rfl
     |true=>exact absurd rfl hc)
    have ps0:=I.so.pr.ne us0;refine⟨_,rfl,rfl,_,rfl,?_⟩
    try dsimp only
    refine Co (λh3=>?_) (λh3=>?_)
    ·obtain⟨yv,hyv,hat⟩:=Lf us0 (x:=x10);obtain⟨j,hj⟩:=cz hyv;obtain⟨e,he',ya,rfl,hya⟩:=FC I2.so.pr hj;have he:=a8 he';obtain⟨k,hk⟩:=I.mt.a e he;have hta:=(I2.so.tg e he).1;refine⟨_,rfl,_,rfl,r,_,_,_,rfl,rfl,AI.of hr2,a10,_,rfl,sl,_,rfl,.inl (AI.of I2.so.l),_,_,rfl,rfl,?_,sl,_,_,_,rfl,rfl,AI.of I2.so.l,hat,ya,_,_,_,rfl,rfl,AV.of hya,rfl,?_⟩
     ·have:=fq.mpr us0;show(0:Int)<(us.length:Int);omega
     refine⟨_,rfl,x,q'.dp,_,rfl,I2.pa.t.1,rfl,_,rfl,x,q',cs,{ e with k:=k },e.ta,_,_,rfl,I2.pa.t,hk,hta,?_⟩;have f9:Nc (A5 x q' cs bs) H2 (upd H2 e.c (.ins Aa e.dx (CJ e.ta ((wT (BW e.bk)).length:Int) e.l (k+1) e.en e.st))):=λa o h n=>by
      rw[Ag (λz=>n (by rw[z];exact XJ (e:={ e with k:=k }) hk))];exact h
     have hh9:=(I2.kq f9).l _ _ I2.he.1;refine⟨_,rfl,.inl ⟨rfl,_,AI.of hh9⟩,_,rfl,hl,_,_,rfl,rfl,hh9,Bd (by rw[aS];omega),?_⟩;exact hN _ _ ⟨_,_,_,_,_,_,_,_,_,_,_,_,_,_,_,_,_,_,rfl,ebo,lb,(I2.hold (e:=e) (k:=k) he hk (by omega)).later ei,by rw[aS];omega,by rw[bx];show hs.length+1<=i+1;omega,by rw[PV];omega,(sq2.kd (f9.kd I2.pa)).upd (.inr rfl)⟩
    refine⟨_,rfl,rfl,_,rfl,?_⟩
    try dsimp only
    refine Co (λh4=>?_) (λh4=>?_)
    ·refine⟨_,rfl,x,q'.dp,_,rfl,I2.pa.t.1,rfl,x,q',cs,bs,hs.map (·.z),rfl,I2.pa,by omega,I2.na,I2.rt,λmm H5 cs' pa5 na5 rt5 c5 cl5 sb5 f5=>?_⟩;have kq5:=I2.kq f5;have so5:SoAt H5 sl us ps:=I2.so.tup kq5.t (kq5.l _ _ I2.so.l);have he5:XT H5 hl hs ps:=⟨kq5.l _ _ I2.he.1,I.he.2⟩
     have lc5:=sub_len pa5.t.2.2.2 sb5;refine⟨_,rfl,_,rfl,sl,us,ps,hl,hs,rfl,so5,he5,λl us' ps' rs H8 s8' nl8 hl8 pr8 sub8 pr8' c8 cl8=>?_⟩;have bb:=both I.mt c5 (λy hy hn=>absurd hn (cl5 y hy)) c8 (λy hy hn=>absurd hn (cl8 y hy));have I9:=I2.after kq5 pa5 na5 rt5 sb5 (I.mt.left I.so.nd I.pa.t.2.2.2 sb5 (λc hc=>sub8.subset hc) pr8' bb) sub8 s8' hl8 pr8 nl8;have:=WK (q:=q') (m:=mm) pa5.t.2.2.2 sb5;exact hN _ _ ⟨_,_,{ q' with n:=mm },_,_,_,_,_,_,_,_,_,_,_,_,_,_,_,rfl,ebo,lb,I9.later ei,by omega,by omega,by omega,((sq2.kd (f5.kd I2.pa)).new nl8).same s8'⟩
    ·refine⟨_,rfl,sl,rfl,⟨_,AI.of I2.so.l⟩,?_⟩;refine Dj (fr:=[some 6]) I2.so.pr I2.so.l (by omega) (λe=>decide (e.z∈q'.D)) (λe=>.ref e.ta) (λe he H' R s' hR=>?_) (λe he H' R s' hR=>⟨_,rfl,hR⟩) λdl H5 ndl s5' hdl=>?_
     ·have I':=I2.same s';refine⟨_,rfl,_,rfl,ll,_,CC (Hr e),_,rfl,I'.lw,EF (I'.so.tg e he).1,Jd (I'.so.tg e he).2.2,Ju λt ht=>(I'.lg t ht).1,I'.isl,_,rfl,?_⟩;rw[bF rfl,I'.in_ll he,iM];exact hR
     have I5:=I2.same s5';refine⟨_,rfl,_,rfl,ll,dl,_,_,rfl,rfl,AI.of I5.lw,AI.of hdl,small (by rw[aS,aS];have:(Jg q' ps).length<=ps.length:=bW _ _;show LS.length+(Jg q' ps).length<=1000000;omega),λl6 hl6=>?_⟩;have s6':=Al hl6 (.lst ((LS.map λt=>V.ref t.1)++(Jg q' ps).map λe=>V.ref e.ta));have I6:=I5.same s6';have nls6:l6≠sl:=λz=>by rw[z,I5.so.l] at hl6;cases hl6
     have nlh6:l6≠hl:=λz=>by rw[z,I5.he.1] at hl6;cases hl6
     have hl66:(upd H5 l6 (.lst ((LS.map λt=>V.ref t.1)++(Jg q' ps).map λe=>V.ref e.ta))) l6=_:=Ae;have hdl6:=s6'.get hdl;have ldue:=I6.due.length_eq;rw[aS,aS] at ldue;refine⟨_,rfl,_,rfl,_,rfl,_,rfl,x,q',cs,bs,ds,b,n,dl,Jg q' ps,(i:Int),by rw[ebo,lb];rfl,I6.pa,by omega,I6.B,I6.ap,I6.bo,(λc hc=>bQ (I6.bn c hc) (by omega)),(λe he=>⟨I6.nbs e he,I6.yi e he⟩),hdl6,ldue,(λe he=>by
      obtain⟨k,hk⟩:=I6.mt.a e (bM.mp he).1;exact⟨_,hk,rfl⟩),λss H7 pss pa7 B7 bo7 kd7=>?_⟩
     have I7:=I6.lays pss hl66 nls6 nlh6 pa7 B7 bo7 kd7.t kd7.l;refine⟨_,rfl,AJ rfl ?_⟩;refine hN _ _ ⟨_,_,{ q' with D:=[] },_,_,_,_,_,_,_,_,_,_,_,_,_,_,_,rfl,ebo,by rw[Cz];exact lb,I7.later ei,by omega,by omega,?_,((sq2.same s5').same s6').kd kd7⟩;rw[Ry,bx,aS,ldue];show LS.length+(JS q' cs).length+0<=i+1;omega
  ·rintro σ' H4 ⟨b,n,q,cs,bs,us,ps,hs,LS,sl,ll,v7,v8,v9,v10,v11,v12,v13,rfl,ebo,lb,I,lcs,lhs,lLS,sq⟩
   have lp4:=(I.mt.z I.so.nd I.pa.t.2.2.2).length_eq;rw[aS,aS] at lp4;refine⟨_,rfl,sl,rfl,⟨_,AI.of I.so.l⟩,?_⟩;refine Cp (K:=K) (a:=sl) (xs:=us) (λj σ H'=>∃v11 v12,σ=[some (.ref a),some (.int (m:Int)),some (.ref xb),some (.ref x),some (.ref sl),some (.ref hl),some (.ref ll),v7,v8,v9,v10,v11,v12,v13]/\Ap H4 H') ⟨_,_,rfl,Ap.refl _⟩ ?_ ?_ ?_
   ·rintro j σ H' _ ⟨_,_,_,s'⟩
    exact AI.of (s'.get I.so.l)
   ·rintro j y σ H5 hy ⟨v11,v12,rfl,s5⟩
    obtain⟨e,he',ya,rfl,hya⟩:=FC I.so.pr hy;have he:=a8 he';obtain⟨k,hk⟩:=I.mt.a e he;have okb:=I.so.ok e he;have nb:=I.nbs { e with k:=k } hk;refine⟨ya,_,rfl,AV.of (s5.get hya),rfl,_,_,rfl,_,_,rfl,rfl,?_⟩;refine DI λEC eEC=>?_
    refine EL (λσ' H'=>σ'=[some (.ref a),some (.int (m:Int)),some (.ref xb),some (.ref x),some (.ref sl),some (.ref hl),some (.ref ll),v7,v8,v9,v10,some e.v,some (.ref e.ta),v13]/\Ap H4 H') (λN hN=>?_) ?_
    ·dsimp only[Dr,Qu];have I5:=I.same s5;refine⟨_,rfl,x,q.dp,_,rfl,I5.pa.t.1,rfl,_,rfl,x,q,cs,{ e with k:=k },e.ta,rfl,I5.pa.t,I5.pa.d,I5.brd,hk,(I5.so.tg e he).1,λv H6 s6 rv=>?_⟩;have I6:=I5.same s6;have S6:=s5.trans s6;refine⟨_,rfl,BW e.bk,BW e.bk,Cq okb,Cq okb,rv,(I6.so.tg e he).2.1,?_⟩;refine⟨_,rfl,AJ (by rw[bF rfl,bh rfl];rfl) ?_⟩;refine⟨_,rfl,_,rfl,ll,_,CC (Hr e),_,rfl,I6.lw,EF (I6.so.tg e he).1,Jd (I6.so.tg e he).2.2,Ju λt ht=>(I6.lg t ht).1,I6.isl,_,rfl,?_⟩;rw[I6.in_ll he]
     by_cases hD:e.z∈q.D
     ·exact AJ (by rw[bh hD];rfl) (hN _ _ ⟨rfl,S6⟩)
     refine BA (by rw[bD hD];rfl) ?_;refine⟨_,rfl,_,rfl,q.bo,ds,b,n,.non,e.ta,e.z,e.y,e.bk,by rw[ebo];rfl,I6.B,bO (by decide) I6.bo.two,(I6.so.tg e he).1,I6.bo.lies (e:={ e with k:=k }) hk okb,nb,by rw[I6.bo.laid (e:={ e with k:=k }) hk hD];exact Uo b e.z,λv7' H7 s7 rv7=>?_⟩;have I7:=I6.same s7;refine⟨_,rfl,BW e.bk,BW e.bk,Cq okb,Cq okb,rv7,(I7.so.tg e he).2.1,?_⟩;exact⟨_,rfl,AJ (by rw[bF rfl,bh rfl];rfl) (hN _ _ ⟨rfl,S6.trans s7⟩)⟩
    rintro σ' H6 ⟨rfl,s6⟩
    dsimp only[Dr,Qu];have I6:=I.same s6;refine⟨_,rfl,_,rfl,ll,_,CC (Hr e),_,rfl,I6.lw,EF (I6.so.tg e he).1,Jd (I6.so.tg e he).2.2,Ju λt ht=>(I6.lg t ht).1,I6.isl,_,rfl,?_⟩;rw[bF rfl,I6.in_ll he,iM]
    by_cases hD:e.z∈q.D
    ·refine BA (bh hD) ?_;refine⟨_,rfl,_,rfl,q.bo,ds,b,n,.non,e.ta,e.z,e.y,e.bk,by rw[ebo];rfl,I6.B,bO (by decide) I6.bo.two,(I6.so.tg e he).1,I6.bo.lies (e:={ e with k:=k }) hk okb,nb,λl7 H7 ms7 s7 nl7 hl7 pm7 so7=>?_⟩;have un:=I6.bo.unlaid (e:={ e with k:=k }) hk hD;have un:(DW b e.z).filter (hasB b e.z e.y)=[]:=un;rw[un] at pm7;obtain rfl:=List.perm_nil.mp pm7;refine⟨Jo,λl8 hl8=>⟨l7,l8,_,rfl,rfl,AI.of ((Al hl8 _).get hl7),AI.of Ae,_,rfl,AJ rfl ?_⟩⟩;subst eEC;exact⟨_,_,rfl,(s6.trans s7).trans (Al hl8 _)⟩
    ·subst eEC;exact AJ (bD hD) ⟨_,_,rfl,s6⟩
   ·rintro σ H5 ⟨v11,v12,rfl,s5⟩
    subst eEB;exact⟨_,_,q,_,_,_,_,_,_,_,_,_,_,_,_,_,_,_,rfl,ebo,lb,I.same s5,lcs,lhs,lLS,sq.same s5⟩
 ·rintro σ H' ⟨b,n,q,cs,bs,us,ps,hs,LS,sl,ll,v7,v8,v9,v10,v11,v12,v13,rfl,ebo,lb,I,lcs,lhs,lLS,sq⟩
  rw[aS] at lcs lLS;subst eNF
  try dsimp only
  refine AQ λNF eNF=>?_
  have lp:=(I.mt.z I.so.nd I.pa.t.2.2.2).length_eq;rw[aS,aS] at lp;have few:=I.so.few;refine⟨_,rfl,x,q.dp,_,rfl,I.pa.t.1,rfl,x,q,cs,rfl,I.pa.t,by omega,λms5 l5 pm5 so5 nl5=>?_⟩;have s5:=Al nl5 (.lst (ms5.map V.int));have hl5:(upd H' l5 (.lst (ms5.map V.int))) l5=some (.lst (ms5.map V.int)):=Ae;generalize (upd H' l5 (.lst (ms5.map V.int)))=H5 at s5 hl5;have I5:=I.same s5;refine⟨_,rfl,sl,rfl,⟨_,AI.of I5.so.l⟩,?_⟩;refine Dj (fr:=[]) I5.so.pr I5.so.l (by omega) (λ_=>true) (λe=>.int e.z) (λe he H' R s' hR=>hR) (λe he H' R s' hR=>⟨_,rfl,e.ta,_,_,_,rfl,rfl,AV.of (s'.get (I5.so.tg e he).1),rfl,hR⟩) λl7 H7 nl7 s7 hl7=>?_
  rw[JF,show ps.map (λe=>V.int e.z)=(ps.map (·.z)).map V.int by rw[bw];rfl] at hl7;refine⟨l7,ps.map (·.z),rfl,AI.of hl7,by rw[aS];omega,λms8 l8 pm8 so8 nl8=>?_⟩;have em8:ms5=ms8:=G7 (pm5.trans ((I.mt.z I.so.nd I.pa.t.2.2.2).symm.trans pm8.symm)) so5 so8;subst em8;have s8:=Al nl8 (.lst (ms5.map V.int));refine⟨l5,l8,_,_,rfl,rfl,AI.of (s8.get (s7.get hl5)),AI.of Ae,CA _,CA _,_,rfl,AJ (by rw[bF rfl,bh rfl];rfl) ?_⟩;have s58:=(s5.trans s7).trans s8;generalize (upd H7 l8 (.lst (ms5.map V.int)))=H8 at s58;have I8:=I.same s58;subst eNF;dsimp only[Dr];refine AQ λNF eNF=>?_
  refine⟨_,rfl,sl,rfl,⟨_,AI.of I8.so.l⟩,?_⟩;refine Dj (fr:=[some 6]) I8.so.pr I8.so.l (by omega) (λe=>decide (e.z∈q.D)) (λe=>.ref e.ta) (λe he H' R s' hR=>?_) (λe he H' R s' hR=>⟨_,rfl,hR⟩) λdl H9 ndl s9 hdl=>?_
  ·have I':=I8.same s';refine⟨_,rfl,_,rfl,ll,_,CC (Hr e),_,rfl,I'.lw,EF (I'.so.tg e he).1,Jd (I'.so.tg e he).2.2,Ju λt ht=>(I'.lg t ht).1,I'.isl,_,rfl,?_⟩;rw[bF rfl,I'.in_ll he,iM];exact hR
  have I9:=I8.same s9;have ld:(Jg q ps).length<=ps.length:=bW _ _;refine⟨dl,(Jg q ps).map λe=>(e.ta,e.z),rfl,AI.of (by rw[hdl,bw];rfl),by rw[aS];omega,λt ht=>?_,?_,λts p10 pts sts np=>?_⟩
  ·obtain⟨e,he,rfl⟩:=aT.mp ht;exact⟨_,AV.of (I9.so.tg e (bM.mp he).1).1⟩
  ·rw[bw];exact(List.filter_sublist.map _).nodup I.so.nd
  obtain⟨ss,pss,sss⟩:=TQ (JS q cs);have nds:(ss.map (·.z)).Nodup:=(pss.map _).nodup_iff.mpr ((List.filter_sublist.map _).nodup I.pa.t.2.2.2);have ets:ts=ss.map λe=>(e.ta,e.z):=by
   refine List.Perm.eq_of_pairwise (le:=λa c=>a.2<c.2) (λa c _ _ h1 h2=>absurd (Int.lt_trans h1 h2) (Int.lt_irrefl _)) sts ?_ (pts.trans (Rq ?_ ?_ λy=>?_))
   ·rw[eZ];exact(eZ.mp sss).imp₂ (λa c h1 h2=>Int.lt_iff_le_and_ne.mpr ⟨h1,h2⟩) (eZ.mp nds)
   ·exact Je (g:=λe:Cl=>e.z) ((List.filter_sublist.map _).nodup I.so.nd) λa _ c _ h=>congrArg (·.2) h
   ·exact Je (g:=λe:Cl=>e.z) nds λa _ c _ h=>congrArg (·.2) h
   ·rw[aT,aT];constructor
    ·rintro⟨e,he,rfl⟩
     obtain⟨h1,h2⟩:=bM.mp he;obtain⟨k,hk⟩:=I.mt.a e h1;exact⟨{ e with k:=k },pss.mem_iff.mpr (bM.mpr ⟨hk,h2⟩),rfl⟩
    ·rintro⟨e,he,rfl⟩
     obtain⟨h1,h2⟩:=bM.mp (pss.mem_iff.mp he);obtain⟨k,hk⟩:=I.mt.b e h1;exact⟨{ e with k:=k },bM.mpr ⟨hk,h2⟩,rfl⟩
  subst ets;have s10:=Al np (.lst ((ss.map λe=>(e.ta,e.z)).map λt=>V.ref t.1));have hp10:(upd H9 p10 (.lst ((ss.map λe=>(e.ta,e.z)).map λt=>V.ref t.1))) p10=some (.lst (ss.map λe=>V.ref e.ta)):=by rw[Ae,bw];rfl
  have I10:=I9.same s10;have sq10:=((sq.same s58).same s9).same s10;generalize (upd H9 p10 (.lst ((ss.map λe=>(e.ta,e.z)).map λt=>V.ref t.1)))=H10 at I10 sq10 hp10;have l60:ss.length<=60:=by rw[pss.length_eq];exact bQ (bW _ _) (by omega)
  subst eNF
  try dsimp only
  refine⟨_,rfl,_,rfl,_,rfl,_,rfl,a,ns,0,rfl,fL 0,sq10.to,λz1=>?_⟩;refine⟨_,_,rfl,rfl,⟨by decide,by decide⟩,_,rfl,p10,_,rfl,.inl (AI.of hp10),_,_,rfl,rfl,.inl ⟨by decide,by decide⟩,_,_,rfl,rfl,_,_,rfl,rfl,?_,?_⟩
  ·rw[aS];show(0:Int)<2*(ss.length:Int)+2;omega
  rw[aS];obtain⟨w',ew⟩:∃w':Nat,z1/3%(2*(ss.length:Int)+2)=(w':Int):=⟨(z1/3%(2*(ss.length:Int)+2)).toNat,by have:=cM (z1/3) (show 2*(ss.length:Int)+2≠0 by omega);omega⟩
  refine⟨x,q,cs,bs,ds,b,n,p10,ss,_,w',?_,I10.pa,by omega,I10.B,I10.ap,I10.bo,(λc hc=>bQ (I10.bn c hc) (by omega)),(λe he=>⟨I10.nbs e he,I10.yi e he⟩),hp10,pss,sss,hq⟩;rw[ebo];show[V.ref xb,V.ref x,V.ref p10,V.int (z1/3%(2*(ss.length:Int)+2))]=_;rw[ew]
end
theorem all_mk {l:W.OpenLaw} {w:World} {K:W.Frag} {h:Heap} {mg:Str->Option Value} {fa:Addr} (X:K.In h) (G:h.Ns mainGlobals mg) (hfa:mg "law"=some (.ref fa))
  {Ab Ad Aa Af Fs Ub NU f0 f1 f2 f3 f4 f5 f6 f7 f8 f9 f10 f11 f12 f13 f14 f15 f16 f17 f18 f19 f20 f21 f22 f23 f24 f25 f26 f27 f28 f29 f30 f31 f32 f33 f34 f35 f36 f37 f38 f39 f40 f41 f42 f43 f44 f45 f46 f47 f48 f49 f50 f51 f52 f53 f54 f55 f56 f57 f58 f59 f60 f61 f62 f63 f64 f65 f66 f67 f68 f69 f70:Addr}
  {d0 d1 d2 d3 d4 d5 d6 d7 d8 d9 d10 d11 d12 d13 d14 d15 d16 d17 d18 d19 d20 d21 d22 d23 d24 d25 d26 d27 d28 d29 d30 d31 d32 d33 d34 d35 d36 d37 d38 d39 d40 d41 d42 d43 d44 d45 d46 d47 d48 d49 d50 d51 d52 d53 d54 d55 d56 d57 d58 d59 d60 d61 d62 d63 d64 d65 d66 d67 d68 d69 d70:FuncData}
  (J_WordReader:NsC K "WordReader" Ab)
  (n_WordReader_words:AS K Ab "words")
  (n_WordReader_place:AS K Ab "place")
  (J_Boards:NsC K "Boards" Ad)
  (n_Boards_shelves:AS K Ad "shelves")
  (n_Boards_writes:AS K Ad "writes")
  (n_Boards_writes_left:AS K Ad "writes_left")
  (J_TakenCell:NsC K "TakenCell" Aa)
  (n_TakenCell_own_tag:AS K Aa "own_tag")
  (n_TakenCell_own_size:AS K Aa "own_size")
  (n_TakenCell_named:AS K Aa "named")
  (n_TakenCell_times_named:AS K Aa "times_named")
  (n_TakenCell_entries_beneath:AS K Aa "entries_beneath")
  (n_TakenCell_steps_beneath:AS K Aa "steps_beneath")
  (J_Pool:NsC K "Pool" Af)
  (n_Pool_boards:AS K Af "boards")
  (n_Pool_taken:AS K Af "taken")
  (n_Pool_by_sums:AS K Af "by_sums")
  (n_Pool_draft:AS K Af "draft")
  (n_Pool_first_maybe_free:AS K Af "first_maybe_free")
  (x_Stopped:Xu K "Stopped" Fs)
  (x_Lost:Xu K "Lost" Ub)
  (x_NoThing:Xu K "NoThing" NU)
  (L0:NsF K "is_whole" HQ f0 d0)
  (L1:NsF K "is_between" FQ f1 d1)
  (L2:NsF K "is_tuple_of" E9 f2 d2)
  (L3:NsF K "number_of" GT f3 d3)
  (L4:NsF K "sign_of" J9 f4 d4)
  (L5:NsF K "is_text" JV f5 d5)
  (L6:NsF K "words_of" Eh f6 d6)
  (L7:NsF K "thing_of" Iq f7 d7)
  (L8:ClF K Ab "__init__" "WordReader.__init__" Di f8 d8)
  (L9:ClF K Ab "is_through" "WordReader.is_through" BV f9 d9)
  (L10:ClF K Ab "word_to" "WordReader.word_to" Cm f10 d10)
  (L11:NsF K "read_thing" Dh f11 d11)
  (L12:NsF K "read_text" GI f12 d12)
  (L13:NsF K "is_name" J4 f13 d13)
  (L14:NsF K "is_tag" MN f14 d14)
  (L15:NsF K "is_block" Iv f15 d15)
  (L16:NsF K "are_row_tags" EI f16 d16)
  (L17:NsF K "are_entries" EV f17 d17)
  (L18:NsF K "is_entry" IC f18 d18)
  (L19:NsF K "sum_of" Mx f19 d19)
  (L20:NsF K "numbers_told" Es f20 d20)
  (L21:NsF K "size_of" JK f21 d21)
  (L22:NsF K "tags_in" JX f22 d22)
  (L23:NsF K "mark_of" JT f23 d23)
  (L24:NsF K "sealed" LO f24 d24)
  (L25:NsF K "unsealed" HL f25 d25)
  (L26:NsF K "lay" TK f26 d26)
  (L27:NsF K "right_copies" Er f27 d27)
  (L28:NsF K "fetched" Ke f28 d28)
  (L29:NsF K "block_on" Ie f29 d29)
  (L30:NsF K "thing_on" Il f30 d30)
  (L31:ClF K Aa "__init__" "TakenCell.__init__" Dy f31 d31)
  (L32:ClF K Af "__init__" "Pool.__init__" G2 f32 d32)
  (L33:ClF K Af "put" "Pool.put" HK f33 d33)
  (L34:ClF K Af "alike" "Pool.alike" FL f34 d34)
  (L35:ClF K Af "free_number" "Pool.free_number" CW f35 d35)
  (L36:ClF K Af "take" "Pool.take" GN f36 d36)
  (L37:ClF K Af "entries_of" "Pool.entries_of" C8 f37 d37)
  (L38:ClF K Af "steps_of" "Pool.steps_of" DN f38 d38)
  (L39:ClF K Af "block" "Pool.block" F5 f39 d39)
  (L40:ClF K Af "hold" "Pool.hold" GK f40 d40)
  (L41:ClF K Af "release" "Pool.release" Ed f41 d41)
  (L42:ClF K Af "sweep" "Pool.sweep" FT f42 d42)
  (L43:ClF K Af "free" "Pool.free" GP f43 d43)
  (L44:ClF K Af "lay_draft" "Pool.lay_draft" Dw f44 d44)
  (L45:ClF K Af "numbers" "Pool.numbers" EA f45 d45)
  (L46:ClF K Af "tag" "Pool.tag" IA f46 d46)
  (L47:ClF K Af "count" "Pool.count" F8 f47 d47)
  (L48:ClF K Af "tags" "Pool.tags" GD f48 d48)
  (L49:ClF K Af "entries" "Pool.entries" Ej f49 d49)
  (L50:ClF K Af "deep" "Pool.deep" G4 f50 d50)
  (L51:ClF K Ad "__init__" "Boards.__init__" E6 f51 d51)
  (L52:ClF K Ad "many" "Boards.many" Fb f52 d52)
  (L53:ClF K Ad "write" "Boards.write" D5 f53 d53)
  (L54:ClF K Ad "cell" "Boards.cell" Fe f54 d54)
  (L55:ClF K Ad "stop" "Boards.stop" Fc f55 d55)
  (L56:ClF K Ad "written" "Boards.written" Dv f56 d56)
  (L57:ClF K Ad "twins" "Boards.twins" EH f57 d57)
  (L58:ClF K Ad "shelf" "Boards.shelf" Ep f58 d58)
  (L59:NsF K "_law_cell_at" Ek f59 d59)
  (L60:NsF K "_law_row" HR f60 d60)
  (L61:NsF K "_law_signs" F9 f61 d61)
  (L62:NsF K "_law_piece" F3 f62 d62)
  (L63:NsF K "_law_folder" Fh f63 d63)
  (L64:NsF K "_law_block" FB f64 d64)
  (L65:NsF K "_law_tags" GR f65 d65)
  (L66:NsF K "_law_swept" FR f66 d66)
  (L67:NsF K "_law_laid" GZ f67 d67)
  (L68:NsF K "_law_lays" G5 f68 d68)
  (L69:NsF K "_law_stopped" D8 f69 d69)
  (L70:NsF K "law" Uq f70 d70)
  (q_Stopped:aA K Fs)
  (m_Stopped_Stopped:ah K Fs Fs true)
  (z_abs:OQ K "abs")
  (z_all:OQ K "all")
  (z_bool:OQ K "bool")
  (z_dict:OQ K "dict")
  (z_enumerate:OQ K "enumerate")
  (z_int:OQ K "int")
  (z_isinstance:OQ K "isinstance")
  (z_len:OQ K "len")
  (z_list:OQ K "list")
  (z_max:OQ K "max")
  (z_min:OQ K "min")
  (z_range:OQ K "range")
  (z_set:OQ K "set")
  (z_sorted:OQ K "sorted")
  (z_str:OQ K "str")
  (z_sum:OQ K "sum")
  (z_tuple:OQ K "tuple")
  (w_SIGNS:ZN K "SIGNS" " !\"#$&'()*+,-./0123456789:;<=>?@ABCDEFGHIJKLMNOPQRSTUVWXYZ[\\]^_`abcdefghijklmnopqrstuvwxyz{|}~")
  (w_MOST_NUMBER:KW K "MOST_NUMBER" 999999999)
  (w_MOST_SIGNS:KW K "MOST_SIGNS" 400)
  (w_MOST_PARTS:KW K "MOST_PARTS" 100)
  (w_MOST_DEEP:KW K "MOST_DEEP" 8)
  (w_NUMBER_WORD:KW K "NUMBER_WORD" 0)
  (w_TEXT_WORD:KW K "TEXT_WORD" 1)
  (w_TUPLE_WORD:KW K "TUPLE_WORD" 2)
  (w_PIECE:KW K "PIECE" 0)
  (w_ROW:KW K "ROW" 1)
  (w_FOLDER:KW K "FOLDER" 2)
  (w_FILE_ENTRY:KW K "FILE_ENTRY" 1)
  (w_FOLDER_ENTRY:KW K "FOLDER_ENTRY" 2)
  (w_NAME_SIGNS:ZN K "NAME_SIGNS" "0123456789abcdefghijklmnopqrstuvwxyz")
  (w_MOST_NAME_SIGNS:KW K "MOST_NAME_SIGNS" 8)
  (w_MOST_CELL:KW K "MOST_CELL" 999999)
  (w_MOST_BIRTH:KW K "MOST_BIRTH" 999999999)
  (w_SUM_RESTS:KW K "SUM_RESTS" 997)
  (w_MOST_PIECE_SIGNS:KW K "MOST_PIECE_SIGNS" 8)
  (w_MOST_LEVEL:KW K "MOST_LEVEL" 9)
  (w_MOST_TAGS:KW K "MOST_TAGS" 8)
  (w_MOST_ENTRIES:KW K "MOST_ENTRIES" 16)
  (w_MARK_RESTS:KW K "MARK_RESTS" 2147483647)
  (w_LEAST_BOARDS:KW K "LEAST_BOARDS" 2)
  (w_MOST_BOARDS:KW K "MOST_BOARDS" 4) :
  ∃fd:FuncData,(∀(s:Shared) (v:Value),BindsTo s fd ⟨[v],[]⟩ [("_law_script",v)])/\∀base:Heap,K.In base->base.Ns mainGlobals mg->FnOk l.prog w K mg base BO 20 fa fd ["_law_script"] (ON K):=by
 cases hfa.symm.trans (W.mg_of X G L70.a);refine⟨d70,L70.F.bind1 λ_ _=>rfl,λbase _ _=>?_⟩;have N:Sees l.prog w K mg base:=.of X G;have T:Txt K mg Ab Ad Aa Af (λn=>match n with|0=>Fs|1=>Ub|2=>NU|_=>0):=⟨J_WordReader.c,n_WordReader_words,n_WordReader_place,J_Boards.c,n_Boards_shelves,n_Boards_writes,n_Boards_writes_left,J_TakenCell.c,n_TakenCell_own_tag,n_TakenCell_own_size,n_TakenCell_named,n_TakenCell_times_named,n_TakenCell_entries_beneath,n_TakenCell_steps_beneath,J_Pool.c,n_Pool_boards,n_Pool_taken,n_Pool_by_sums,n_Pool_draft,n_Pool_first_maybe_free,N.v x_Stopped,N.v x_Lost,N.v x_NoThing,q_Stopped,m_Stopped_Stopped,N.o z_abs,N.o z_all,N.o z_bool,N.o z_dict,N.o z_enumerate,N.o z_int,N.o z_isinstance,N.o z_len,N.o z_list,N.o z_max,N.o z_min,N.o z_range,N.o z_set,N.o z_sorted,N.o z_str,N.o z_sum,N.o z_tuple,N.s w_SIGNS,N.i w_MOST_NUMBER,N.i w_MOST_SIGNS,N.i w_MOST_PARTS,N.i w_MOST_DEEP,N.i w_NUMBER_WORD,N.i w_TEXT_WORD,N.i w_TUPLE_WORD,N.i w_PIECE,N.i w_ROW,N.i w_FOLDER,N.i w_FILE_ENTRY,N.i w_FOLDER_ENTRY,N.s w_NAME_SIGNS,N.i w_MOST_NAME_SIGNS,N.i w_MOST_CELL,N.i w_MOST_BIRTH,N.i w_SUM_RESTS,N.i w_MOST_PIECE_SIGNS,N.i w_MOST_LEVEL,N.i w_MOST_TAGS,N.i w_MOST_ENTRIES,N.i w_MARK_RESTS,N.i w_LEAST_BOARDS,N.i w_MOST_BOARDS⟩
 have Bf:=L0.dd N (Pn T L0.F) (λ_ _=>rfl);have Bq:=L2.dd N (MF T L2.F) (λ_ _ _=>rfl);have Bj:=L3.dd N (OI T L3.F) (λ_ _=>rfl);have JY:=L4.dd N (QG T L4.F) (λ_ _=>rfl);have D0:=L5.dd N (Qx T L5.F) (λ_ _ _ _=>rfl);have Dm:=L8.c N J_WordReader (HU T L8.F) (λ_ _ _=>rfl);have AY:=L9.dd N (E4 T L9.F) (λ_ _=>rfl);have J8:=L22.dd N (Rn T L22.F) (λ_ _=>rfl);have DZ:=L23.dd N (QB T L23.F) (λ_ _=>rfl);have GL:=L32.c N J_Pool (OA T L32.F) (λ_ _ _=>rfl);have CV:=L35.dd N (Hu T L35.F) (λ_ _=>rfl);have CZ:=L40.dd N (Oc T L40.F) (λ_ _ _=>rfl);have BR:=L45.dd N (KM T L45.F) (λ_ _=>rfl);have BK:=L46.dd N (Qg T L46.F) (λ_ _ _=>rfl);have Dg:=L47.dd N (MZ T L47.F) (λ_ _ _=>rfl);have GX:=L48.dd N (Oy T L48.F) (λ_ _ _=>rfl);have Ey:=L49.dd N (K5 T L49.F) (λ_ _ _=>rfl);have Gx:=L50.dd N (Ol T L50.F) (λ_ _ _=>rfl);have BM:=L52.dd N (LW T L52.F) (λ_ _=>rfl);have Fg:=L55.dd N (Mi T L55.F) (λ_ _ _=>rfl);have BY:=L56.dd N (Jp T L56.F) (λ_ _=>rfl);have Do:=L59.dd N (K3 T L59.F) (λ_ _ _=>rfl);have ID:=L60.dd N (O5 T L60.F) (λ_ _ _=>rfl);have FV:=L61.dd N (Nd T L61.F) (λ_=>rfl);have E1:=L63.dd N (LV T L63.F) (λ_ _ _=>rfl);have ES:=L65.dd N (N6 T L65.F) (λ_ _=>rfl);have AC:=L1.dd N (Nb T L1.F Bf) (λ_ _ _ _=>rfl);have J1:=L13.dd N (QZ T L13.F D0) (λ_ _=>rfl);have Ew:=L20.dd N (KR T L20.F Bj) (λ_ _=>rfl);have Mm:=L24.dd N (SW T L24.F DZ) (λ_ _=>rfl);have Dc:=L37.dd N (Ii T L37.F Ey) (λ_ _ _=>rfl);have DH:=L38.dd N (Ka T L38.F Gx) (λ_ _ _=>rfl);have C1:=L43.dd N (Og T L43.F BK) (λ_ _ _=>rfl);have Bc:=L57.dd N (KH T L57.F BM) (λ_ _ _=>rfl);have FI:=L62.dd N (Nj T L62.F FV) (λ_ _=>rfl);have FY:=L66.dd N (M8 T L66.F Dg ES) (λ_ _ _=>rfl);have Az:=L10.dd N (Gm T L10.F AY AC) (λ_ _ _=>rfl);have Fz:=L14.dd N (SZ T L14.F AC Bq) (λ_ _=>rfl);have C9:=L19.dd N (SI T L19.F Ew) (λ_ _=>rfl);have HM:=L25.dd N (PH T L25.F DZ AC) (λ_ _=>rfl);have Ea:=L41.dd N (KY T L41.F C1) (λ_ _ _=>rfl);have E8:=L51.c N J_Boards (LU T L51.F AC) (λ_ _ _=>rfl);have BQ:=L58.dd N (KI T L58.F AC BM) (λ_ _ _=>rfl);have FW:=L64.dd N (M7 T L64.F FI E1) (λ_ _ _=>rfl);have BZ:=L12.dd N (OJ T L12.F Az JY) (λ_ _=>rfl);have D6:=L16.dd N (KJ T L16.F Fz) (λ_ _ _=>rfl);have HZ:=L18.dd N (PR T L18.F AC Fz Bq J1) (λ_ _=>rfl);have FH:=L42.dd N (Nk T L42.F GX C1 BR Ea Dg) (λ_ _=>rfl);have El:=L53.dx N (K4 T L53.F BQ) (λ_ _ _ _ _=>rfl);have EY:=L54.dd N (Lo T L54.F BQ) (λ_ _ _ _=>rfl);have Ff:=L17.dd N (LL T L17.F HZ) (λ_ _=>rfl);have Ir:=L15.dd N (Pw T L15.F Ff Bf D0 AC D6) (λ_ _=>rfl);have Cg:=L6.dd N (Qe T L6.F Bf Bj (N.v L6.a) L6.F.kp (L6.F.bindE (λ_ _=>rfl))) (λ_ _=>rfl);have JW:=L21.dd N (Q4 T L21.F Cg) (λ_ _=>rfl);have VT:=L26.dx N (Y2 T L26.F Mm Bc Cg El) (λ_ _ _ _ _=>rfl);have Dx:=L31.c N J_TakenCell (IT T L31.F JW J8) (λ_ _ _ _=>rfl);have Bp:=L44.dx N (Jf T L44.F VT BK) (λ_ _=>rfl);have Dl:=L11.dd N (M9 T L11.F Az BZ (N.v L11.a) L11.F.kp (L11.F.bindE (λ_ _ _=>rfl))) (λ_ _ _=>rfl);have IE:=L7.dd N (Pt T L7.F Dm Dl AY) (λ_ _=>rfl);have Gr:=L36.dd N (Oi T L36.F Dx Dc DH CZ) (λ_ _ _ _=>rfl);have Iu:=L30.dd N (P4 T L30.F EY HM IE) (λ_ _ _ _=>rfl);have Dt:=L29.dd N (Px T L29.F Iu Bq Ir C9) (λ_ _ _ _=>rfl);have Bh:=L27.dd N (KO T L27.F Bc Dt) (λ_ _ _=>rfl);have D4:=L28.dd N (QI T L28.F Bc Dt) (λ_ _ _=>rfl);have Cw:=L39.dd N (MW T L39.F D4) (λ_ _ _=>rfl);have GC:=L67.dd N (Ou T L67.F Bh) (λ_ _ _ _=>rfl);have Ei:=L69.dd N (KF T L69.F Fg Bp Bh) (λ_ _ _ _ _=>rfl);have FJ:=L34.dd N (MY T L34.F C9 Cw BK) (λ_ _ _=>rfl);have Gy:=L68.dd N (Oa T L68.F BY Bp GC) (λ_ _ _ _ _=>rfl);have Ic:=L33.dd N (P3 T L33.F FJ Gr CV C9) (λ_ _ _ _=>rfl);exact Yt T L70.F E8 GL Ei ID BR Do FW Ic CZ FH FY Cw Bh Gy D4
theorem walk {l:W.OpenLaw} {q:Program} {loose:List Str} {XP:(Str->Option Value)->Heap->Prop} {YP:World->Heap->Prop} {d:DefRec} {K:Params->W.Frag} (hn:l.most=some 63) (hdf:d.params.defaults=[])
  (hY:∀(w:World) (h:Heap),YP w h->(K w.params).In h)
  (F:∀(w:World) (mg:Str->Option Value) (fa:Addr) (h:Heap),(K w.params).In h->h.Ns mainGlobals mg->mg d.name=some (.ref fa)->
   ∃fd:FuncData,(∀(s:Shared) (u:Value),BindsTo s fd ⟨[u],[]⟩ [("_law_script",u)])/\∀base:Heap,(K w.params).In base->base.Ns mainGlobals mg->FnOk l.prog w (K w.params) mg base BO 20 fa fd ["_law_script"] (ON (K w.params))) :
  W.WalkO q loose XP YP l.row.toRowW d [] (λf vs=>PySem.call f vs):=
 L2.WW (n:=63) (k:=20) (x:="_law_script") (CX:=λ_=>BO) (sp:=λw=>ON (K w.params)) hn (by decide) hdf ⟨rfl,by decide,by decide⟩ hY F (λ_ _ a ns hl _ hS=>⟨a,ns,rfl,hS,hl,λ_=>rfl⟩) λ_ _ _ _ _ z=>z
end K27
def PySem.W.Fast.tw15641715125113993005:Type:=PySem.Expr
theorem PySem.W.Fast.te15641715125113993005:PySem.Expr = PySem.W.Fast.tw15641715125113993005:=rfl
def PySem.W.Fast.tw90343872475197607:Type:=PySem.Params
theorem PySem.W.Fast.te90343872475197607:PySem.Params = PySem.W.Fast.tw90343872475197607:=rfl
open PySem PySem.W PyProof.Rows
set_option maxRecDepth 100000 in
set_option maxHeartbeats 0 in
theorem PySem.Challenge.cw_stemshelf_k27_drafts_laid_holds : PySem.Challenge.rw_stemshelf_k27_drafts_laid.Holds := by
 w_on;o_law;k_head;(case hw=>w_witness2)
 k_fill
 refine K27.walk (l:=PySem.Challenge.rw_stemshelf_k27_drafts_laid) rfl rfl (λw h Y=>W.kIn_of Y) ?F
 case F=>
  intro w mg fa h KX G hmg;apply K27.all_mk KX G hmg
  all_goals first
   |exact L2.NsF.mk (by delta L2.Xu;k_is) (L2.Vx (by k_is) (by k_is) (by k_is))
   |exact L2.ClF.mk (by k_is) (by k_is) (L2.Vx (by k_is) (by k_is) (by k_is))
   |exact L2.NsC.mk (by delta L2.Xu;k_is) ⟨by k_is,by k_is,by k_is,by k_is⟩ (by k_is) (by k_is)
   |(delta L2.KW;exact⟨_,by k_is⟩)
   |(delta L2.ZN;exact⟨_,by k_is⟩)
   |(delta L2.aA;k_exc)
   |(delta L2.ah;kts_exm)
   |(delta L2.AS;k_is)
   |(delta L2.Xu;k_is)
   |(delta L2.OQ;k_is)
