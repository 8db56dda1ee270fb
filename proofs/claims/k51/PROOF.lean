import PyProof.Rows.All
import Wide.All
import OpenK.AllK
import Wide.FinOn
import Lean
import PyProof.EqAt
import PyProof.EqKinds
import PyProof.TupleCall
import PySem.Challenge.RW_stemshelf_k51_puts_beside_lost_blocks
set_option Elab.async false
set_option linter.all false
set_option maxRecDepth 100000
def bD:=@PySem.wpAny_bind
def bE:=@List.length_map
def bF:=@List.getElem?_eq_getElem
def bG:=@PySem.wpAny_pure
def bH:=@PySem.Heap.get?_push_of_some
def bI:=@Nat.le_refl
def bJ:=@List.mem_of_getElem?
def bK:=@List.mem_map
def bL:=@decide_eq_false
def bM:=@decide_eq_true
def bN:=@Bool.false_ne_true
def bO:=@Option.some.inj
def bP:=@if_neg
def bQ:=@List.getElem?_map
def bR:=@PySem.Heap.get?_push_size
def bS:=@List.mem_singleton
def bT:=@List.getElem?_eq_some_iff
def bU:=@PySem.Heap.lt_size
def bV:=@if_pos
def bW:=@List.length_append
def bX:=@List.map_cons
def bY:=@List.mem_cons_of_mem
def bZ:=@List.mem_cons_self
def cf:=@List.mem_cons
def cg:=@List.map_append
def cj:=@List.mem_append
def cm:=@Option.map_eq_some_iff
def cn:=@Nat.ne_of_lt
def cq:=@List.size_toArray
def cu:=@Bool.and_eq_true
def cw:=@List.map_map
def cz:=@decide_eq_true_eq
def cA:=@Nat.le_trans
def cB:=@Nat.lt_of_lt_of_le
def cD:=@PySem.wpAny_mono
def cE:=@Nat.zero_le
def cF:=@PySem.PassesOwn.never
def cG:=@List.length_take
def cH:=@List.getElem?_eq_none
def cI:=@List.take_of_length_le
def cJ:=@List.take_add_one
def cK:=@PySem.wpAny_holding
def cL:=@List.getElem?_of_mem
def cM:=@List.mem_append_right
def cN:=@List.length_cons
def cO:=@List.all_eq_true
def cP:=@List.find?_cons
def cQ:=@PySem.Heap.get?_update_other
def cR:=@Array.getElem?_toList
def cS:=@List.getElem_of_mem
def cT:=@PySem.Heap.size_push
def cU:=@PySem.Heap.get?_update_self
def cV:=@List.nodup_cons
def cW:=@List.append_nil
def cX:=@of_decide_eq_true
def cY:=@PySem.wpAny_newObj_type
def cZ:=@beq_iff_eq
def da:=@PySem.W.kia_one
def dc:=@Array.getElem?_eq_getElem
def de:=@PySem.mem_of_lookup
def df:=@List.length_range
def dh:=@PySem.wpAny_truthy_bool
def di:=@Int.emod_lt_of_pos
def dk:=@PySem.F.plainAttrs_list
def dm:=@List.mem_of_mem_take
def dq:=@PySem.wpAny_call_entry
def dw:=@PySem.codeAny_call_builtin
def dA:=@List.nodup_append
def dB:=@List.map_congr_left
def dC:=@Array.length_toList
def dD:=@Bool.eq_iff_iff
def dE:=@Sum.inl.inj
def dF:=@PySem.wpAny_Call_Name_kw
def dG:=@PySem.Calls.spliced_cons
def dH:=@List.ext_getElem?
def dI:=@List.mem_filter
def dJ:=@Int.emod_nonneg
def dM:=@beq_eq_false_iff_ne
def dN:=@PySem.F.plain_max_loop
def dO:=@List.any_cons
def dP:=@PySem.codeAny_builtin
def dQ:=@List.take_length
def dR:=@List.any_eq_true
def dS:=@List.nodup_nil
def dU:=@PySem.F.slot_dict_get
def dW:=@PySem.codeAny_mono
def dX:=@PySem.Calls.callWith_builtin
def dY:=@PySem.Paired.length
def dZ:=@List.length_set
def d4:=@Nat.lt_succ_of_lt
def d6:=@List.append_assoc
def d8:=@Nat.lt_irrefl
def d9:=@PyProof.Rows.slot_tuple_getitem
def ef:=@PySem.wpAny_pyIter_list
def eu:=@PySem.F.plainAttrs_dict
def eB:=@PySem.Around.under_plainId
def eC:=@Nat.le_succ
def eD:=@Option.map_eq_none_iff
def eE:=@List.find?_eq_none
def eF:=@List.length_replicate
def eG:=@List.length_filter_le
def eI:=@PySem.wpAny_typeNameOfWhole_keyiter
def eJ:=@PySem.sizeLine_eq
def eK:=@PySem.wpAny_call
def eL:=@PySem.call_meetsIn
def eM:=@PySem.wpAny_passesOwn
def eO:=@PySem.wpAny_ite_split
def eP:=@PySem.wpAny_execs_nil
def eQ:=@PySem.SeqAt.EqAt.same
def eR:=@List.getElem?_append_right
def eS:=@List.length_drop
def eT:=@List.getElem_mem
def eU:=@List.getElem_map
def eV:=@List.filter_cons
def eW:=@List.pairwise_iff_getElem
def eX:=@List.getElem?_append_left
def eY:=@PySem.F.type_list_append
def eZ:=@PySem.F.slot_list_append
def e8:=@PySem.Calls.evalArgs_plain
def fb:=@Nat.not_lt_zero
def fc:=@PySem.W.callWith_K
def fg:=@PySem.wpAny_standAt
def fh:=@PySem.plainId_quiet
def fj:=@PySem.F.plainAttrs_str
def fk:=@PySem.F.entry_dict_get
def fm:=@List.set_set
def fo:=@PySem.tupleKind_room_in1
def fq:=@PySem.Code.quiet_builtin
def fu:=@PySem.wpAny_getItem_str_slice
def fw:=@PySem.wpAny_callSpecial?_slot
def fA:=@PySem.W.methodCall_KW
def fD:=@List.length_singleton
def fE:=@PySem.AutoSeq1.wpAny_loadPart'
def fF:=@Nat.lt_succ_self
def fG:=@List.lookup_cons
def fH:=@List.all_cons
def fJ:=@PySem.wpAny_Call_method
def fK:=@PySem.SeqAt.RcAt.tuples
def fL:=@List.getElem?_set_ne
def fM:=@PySem.Calls.spliced_nil
def fN:=@PySem.F.slot_dict_setdefault
def fO:=@List.of_mem_zip
def fP:=@Array.toList_append
def fQ:=@PySem.wpAny_execs_cons
def fR:=@PySem.wpAny_askSetting
def fS:=@PyProof.Rows.callWith_type1
def fT:=@Nat.le_of_eq
def fU:=@List.map_nil
def fV:=@PySem.Txt.slice_le
def fW:=@List.take_zero
def fX:=@List.mem_range
def fY:=@List.mem_filterMap
def fZ:=@List.getD_eq_getElem?_getD
def gb:=@PySem.Heap.get?_none_of_le
def gc:=@PySem.wpAny_specialOf
def gf:=@List.mem_or_eq_of_mem_set
def gh:=@List.getElem?_zip_eq_some
def gi:=@List.drop_eq_getElem_cons
def gk:=@List.foldl_append
def gn:=@PySem.F.type_list_extend
def gp:=@PySem.F.slot_list_extend
def gq:=@List.eq_of_mem_replicate
def gr:=@PySem.W.looks_findIn
def gu:=@PySem.SeqAt.EqAt.str_int
def gv:=@PySem.SeqAt.EqAt.of_refs
def gw:=@PySem.SeqAt.EqAt.int_str
def gy:=@PySem.Obj.data_mapFields
def gA:=@List.filter_cons_of_pos
def gB:=@List.filter_cons_of_neg
def gC:=@PySem.F.type_str_index
def gD:=@PySem.F.slot_str_index
def gE:=@Nat.sub_self
def gF:=@Nat.ne_of_gt
def gG:=@Nat.le_of_lt
def gH:=@List.getElem?_set_self
def gI:=@Array.getElem?_eq_none
def gJ:=@PySem.wpAny_setState_of
def gK:=@PySem.wpAny_pyIter_enum
def gL:=@PySem.wpAny_loadPart_at
def gM:=@PySem.WalksT.enumerateD
def gN:=@PySem.wpAny_attempt
def gO:=@PySem.F.slot_dict_pop
def gP:=@List.take_append_drop
def gQ:=@Int.le_refl
def gR:=@PySem.wpAny_typeOf
def gS:=@PySem.wpAny_rule
def gT:=@PySem.W.plainGet_of
def gU:=@PySem.W.hideAll_get
def gV:=@PySem.F.args_dict_keyiterator_next_1
def gW:=@List.filterMap_cons
def gX:=@PySem.wpAny_updateSeq
def gY:=@PySem.post_val_or_str
def gZ:=@PySem.codeAny_of_tree
def g7:=@PySem.F.entry_dict_keyiterator_next
def g9:=@List.map_take
def hG:=@List.map_drop
def hV:=@PySem.F.slot_dict_keyiterator_next
def hW:=@Nat.lt_of_le_of_lt
def hX:=@PySem.W.Looks.here
def hZ:=@List.filter_append
def h8:=@PySem.wpAny_pyIter_keyiter
def ia:=@PySem.wpAny_of_eq
def ib:=@PySem.wpAny_fieldsOf
def ic:=@PySem.Obj.data_mapDictKeys
def ie:=@Nat.succ.inj
def ig:=@PyProof.Rows.wpS_bind
def ij:=@PySem.F.args_dict_setdefault_3
def ik:=@Nat.succ_ne_self
def ip:=@Nat.min_le_right
def iq:=@PySem.F.entry_dict_setdefault
def ir:=@List.eq_nil_of_length_eq_zero
def iu:=@PySem.wpAny_Constant_int
def iw:=@PySem.SeqAt.EqAt.str_str
def ix:=@PySem.SeqAt.EqAt.int_int
def iy:=@PySem.wpAny_pyIter_slot
def iz:=@PySem.wpAny_dictEntries
def iA:=@List.drop_zero
def iB:=@PySem.plainObj_wpAny_Assign_Attribute
def iC:=@PySem.F.slot_dict_delitem
def iD:=@Classical.byContradiction
def iE:=@PySem.wpAny_isInstance
def iF:=@PySem.wpAny_letGo
def iG:=@PySem.F.slot_tuple_hash
def iH:=@PySem.F.slot_dict_clear
def iI:=@PySem.F.plain_list_iadd
def iJ:=@PySem.F.args_dict_pop_3
def iK:=@PySem.F.args_dict_get_3
def iL:=@PySem.F.args_dict_get_2
def iM:=@PySem.Paired.snoc
def iN:=@List.length_eq_zero_iff
def iO:=@List.getElem?_replicate
def iP:=@PySem.wpAny_dictEpoch
def iQ:=@PySem.W.cellsFrom_some
def iR:=@PySem.F.slot_dict_iter
def iS:=@PySem.F.entry_max_loop
def iT:=@PySem.F.entry_dict_pop
def iU:=@List.map_id'
def iV:=@List.drop_eq_nil_of_le
def iW:=@List.all_map
def iX:=@Bool.or_true
def iY:=@PySem.F.type_dict_get
def iZ:=@PySem.F.slot_set_iter
def i7:=@PySem.F.plain_set_new
def i8:=@List.set_append_right
def ja:=@List.Pairwise.sublist
def jb:=@Int.emod_add_mul_ediv
def jc:=@Array.getElem?_modify
def jd:=@PySem.wpAny_tryCatch
def je:=@PySem.wpAny_seqItems
def jf:=@PySem.wpAny_loadPart
def jg:=@PySem.isSubtype_type
def jh:=@PySem.Walks.list
def ji:=@PySem.W.hideAll_none
def jj:=@List.mem_of_mem_drop
def jk:=@List.mem_append_left
def jm:=@List.dropLast_concat
def jn:=@PySem.Calls.Name_function_global
def jo:=@PySem.W.findObj_own
def jq:=@PySem.W.callWith_K0
def jr:=@List.length_pos_iff
def js:=@List.filter_sublist
namespace L2
open PySem PySem.Spec PyProof.Rows
abbrev Key:=Sum Int Str
def N1:Key->Value->Bool
 | .inl k,v=>Value.isInt k v
 | .inr x,v=>Value.isStrOf x v
def ZW (w:World):Key->Int
 | .inl k=>hashInt k
 | .inr x=>hashStr w x
theorem BB:∀{k:Key} {v:Value},N1 k v=true->(∃i t,k=Sum.inl i/\v=Value.int i t)\/(∃x t,k=Sum.inr x/\v=Value.str x t)
 | .inl i,v,h=>by
  obtain⟨t,e⟩:=Value.isInt_shape (k:=i) (v:=v) h;exact .inl ⟨i,t,rfl,e⟩
 | .inr x,v,h=>by
  obtain⟨t,e⟩:=Value.isStrOf_shape (x:=x) (v:=v) h;exact .inr ⟨x,t,rfl,e⟩
theorem S5 (i:Int)(t:Tok):N1 (.inl i) (.int i t)=true:=by simp[N1,Value.isInt]
theorem S9 (x:Str)(t:Tok):N1 (.inr x) (.str x t)=true:=by simp[N1,Value.isStrOf]
theorem YI (a b:Int):decide ((Sum.inl a:Key)=Sum.inl b)=(a == b):=by
 by_cases e:a=b
 ·subst e;simp
 ·have h:¬(Sum.inl a:Key)=Sum.inl b:=λq=>e (dE q)
  rw[bL h];exact(dM.mpr e).symm
theorem XY (a b:Str):decide ((Sum.inr a:Key)=Sum.inr b)=decide (a=b):=by
 by_cases e:a=b
 ·subst e;simp
 ·have h:¬(Sum.inr a:Key)=Sum.inr b:=λq=>e (Sum.inr.inj q)
  rw[bL h,bL e]
theorem XO (a:Int)(b:Str):decide ((Sum.inl a:Key)=Sum.inr b)=false:=bL (λq=>nomatch q)
theorem Yr (a:Str)(b:Int):decide ((Sum.inr a:Key)=Sum.inl b)=false:=bL (λq=>nomatch q)
def AJ (prog:Program)(w:World):PySem.KeyKind prog w Key where
 is:=N1
 hash:=ZW w
 inj:=λv a b ha hb=>by
  rcases BB ha with⟨i,t,rfl,rfl⟩|⟨x,t,rfl,rfl⟩
  ·rcases BB hb with⟨j,u,rfl,e⟩|⟨y,u,rfl,e⟩
   ·injection e with e1 _;rw[e1]
   ·exact nomatch e
  ·rcases BB hb with⟨j,u,rfl,e⟩|⟨y,u,rfl,e⟩
   ·exact nomatch e
   ·injection e with e1 _;rw[e1]
 byValue:=λk v h=>by
  rcases BB h with⟨i,t,rfl,rfl⟩|⟨x,t,rfl,rfl⟩<;>rfl
 pyHash:=λhv h=>by
  rcases BB hv with⟨i,t,rfl,rfl⟩|⟨x,t,rfl,rfl⟩
  ·exact wpAny_pyHash_int h
  ·exact wpAny_pyHash_str h
 eqBool:=λhu hv h=>by
  rcases BB hu with⟨i,t,rfl,rfl⟩|⟨x,t,rfl,rfl⟩
  ·rcases BB hv with⟨j,u,rfl,rfl⟩|⟨y,u,rfl,rfl⟩
   ·rw[YI] at h;exact wpAny_eqBool_int h
   ·rw[XO] at h;exact gw i t y u _ _ _ _ h
  ·rcases BB hv with⟨j,u,rfl,rfl⟩|⟨y,u,rfl,rfl⟩
   ·rw[Yr] at h;exact gu x t j u _ _ _ _ h
   ·rw[XY] at h;exact wpAny_eqBool_str h
 «strs»:=λk x t v h=>by
  rcases BB h with⟨i,u,rfl,e⟩|⟨y,u,rfl,e⟩
  ·exact nomatch e
  ·injection e with e1 _
   subst e1;cases v<;>rfl
theorem K1 (prog:Program)(w:World)(i:Int)(t:Tok):(AJ prog w).is (.inl i) (.int i t)=true:=S5 i t
theorem La (prog:Program)(w:World)(x:Str)(t:Tok):(AJ prog w).is (.inr x) (.str x t)=true:=S9 x t
inductive V where
 |non|bl (b:Bool)|int (i:Int)|str (x:Str)|byt (b:Array UInt8)|flt (b:UInt64)|ref (a:Addr)|ty (n:String)
 deriving DecidableEq
def RelV:V->Value->Prop
 | .non,u=>u=Value.none
 | .bl b,u=>u=Value.bool b
 | .int i,u=>∃t,u=Value.int i t
 | .str x,u=>∃t,u=Value.str x t
 | .byt b,u=>∃t,u=Value.bytes b t
 | .flt b,u=>∃t,u=Value.float b t
 | .ref a,u=>u=Value.ref a
 | .ty n,u=>u=Value.type n
abbrev AF:List V->List Value->Prop:=Paired RelV
theorem AF.length {xs:List V}{us:List Value}(r:AF xs us):xs.length=us.length:=dY r
theorem AF.get:∀{xs:List V} {us:List Value} {i:Nat} {x:V},AF xs us->xs[i]?=some x->∃u,us[i]?=some u/\RelV x u
 |_,_,_,_,.nil,e=>by simp at e
 |_,_,0,_,.cons r _,e=>by simp at e;subst e;exact⟨_,rfl,r⟩
 |_,_,i+1,x,.cons _ t,e=>by
  obtain⟨u,h1,h2⟩:=AF.get (i:=i) (x:=x) t (by simpa using e);exact⟨u,by simpa using h1,h2⟩
theorem AF.set {x:V}{u:Value}(r:RelV x u):∀{xs:List V} {us:List Value} (i:Nat),AF xs us->AF (xs.set i x) (us.set i u)
 |_,_,_,.nil=>.nil
 |_,_,0,.cons _ t=>.cons r t
 |_,_,i+1,.cons q t=>.cons q (AF.set r i t)
theorem AF.append:∀{xs ys:List V} {us ws:List Value},AF xs us->AF ys ws->AF (xs++ys) (us++ws)
 |_,_,_,_,.nil,s=>s
 |_,_,_,_,.cons r t,s=>.cons r (AF.append t s)
theorem AF.take:∀{xs:List V} {us:List Value} (n:Nat),AF xs us->AF (xs.take n) (us.take n)
 |_,_,0,_=>.nil
 |_,_,_+1,.nil=>.nil
 |_,_,n+1,.cons r t=>.cons r (AF.take n t)
theorem AF.drop:∀{xs:List V} {us:List Value} (n:Nat),AF xs us->AF (xs.drop n) (us.drop n)
 |_,_,0,r=>r
 |_,_,_+1,.nil=>.nil
 |_,_,n+1,.cons _ t=>AF.drop n t
def FB:Option V->Option Value->Prop
 |some v,some u=>RelV v u
 |none,none=>True
 |_,_=>False
def KV {κ:Type}:List (κ×V)->List (κ×Value)->Prop:=Paired λ(p:κ×V) (q:κ×Value)=>p.1=q.1/\RelV p.2 q.2
def kV:Key->V
 | .inl i=>.int i
 | .inr x=>.str x
inductive HO where
 |lst (xs:List V)
 |tup (xs:List V)
 |dK (kvs:List (Key×V))|dT (kvs:List (List Key×V))
 |set (S:Int->Bool) (n:Nat)
 |ins (C dx:Addr) (fs:List (Str×V))
 |own (x:Addr)
 |xd (fs:List (Str×V))
 |met (f x:Addr)
 |rng (lo hi:Int)
 |frz (o:Obj) (u:HO)
 |tbl (ps:Array Value)
 |ext (φ:Heap->Prop)
abbrev Hp:=Addr->Option HO
def upd (H:Hp)(a:Addr)(o:HO):Hp:=λb=>if b=a then some o else H b
theorem Ae {H:Hp}{a:Addr}{o:HO}:upd H a o a=some o:=by unfold upd;rw[bV rfl]
theorem Ag {H:Hp}{a b:Addr}{o:HO}(h:b≠a):upd H a o b=H b:=by unfold upd;rw[bP h]
theorem EL {H:Hp}{a:Addr}{o u:HO}:upd (upd H a o) a u=upd H a u:=by
 funext b;unfold upd;split<;>rfl
theorem AK {H:Hp}{a b:Addr}{o u:HO}(h:H a=some o)(h':H b=some u)(d:o≠u):a≠b:=by
 intro e;subst e;rw[h] at h';exact d (bO h')
theorem Ar {H:Hp}{a b:Addr}{o:HO}(h:H a=some o)(h':H b=none):a≠b:=by
 intro e;subst e;rw[h] at h';cases h'
def ZA:List V->Bool
 |[.int _,_]=>true
 |_=>false
def Lx (b:Bool)(h:Heap)(a:Addr)(items:Array Value):Prop:=∃o,h.get? a=some o/\o.cls=.type "tuple"/\∃n,o.data=.seq items n/\(b=false->o.dict=none)
theorem Lx.is {b:Bool}{h:Heap}{a:Addr}{items:Array Value}(x:Lx b h a items):IsTup h a items:=let⟨o,e,c,n,d,_⟩:=x;⟨o,e,c,n,d⟩
theorem Lx.lt {b:Bool}{h:Heap}{a:Addr}{items:Array Value}(x:Lx b h a items):a<h.objs.size:=x.is.lt
theorem Lx.new {b:Bool}(h:Heap)(items:Array Value):Lx b (h.push { cls:=.type "tuple",data:=.seq items }) h.objs.size items:=⟨_,bR _ rfl,rfl,_,rfl,λ_=>rfl⟩
section
variable (P:Program)(w:World)
def AX (H:Hp)(h:Heap)(a:Addr):HO->Prop
 | .lst xs=>xs.length<=sizeLine/\∃(its:List Value) (n:Nat),AF xs its/\h.get? a=some { cls:=.type "list",data:=.seq its.toArray n }
 | .tup xs=>xs.length<=sizeLine/\∃its:List Value,AF xs its/\Lx (ZA xs) h a its.toArray
 | .dK kvs=>kvs.length<=sizeLine/\(a == sysModules)=false/\∃vs,KV kvs vs/\h.DictOf (AJ P w) a vs
 | .dT kvs=>kvs.length<=sizeLine/\(a == sysModules)=false/\∃xs:List (List Key×Addr×Value),
   Paired (λ(p:List Key×V) (q:List Key×Addr×Value)=>p.1=q.1/\H q.2.1=some (.tup (p.1.map kV))/\RelV p.2 q.2.2) kvs xs/\
   ∃o es ep,h.get? a=some o/\o.ExactDict/\o.data=.dict es ep/\es.toList=xs.map (entryOfKey (tupleKind (AJ P w)))/\(xs.map (·.1)).Nodup
 | .set S n=>h.SetOf (intKind P w) a S n
 | .ins C dx fs=>H dx=some (.own a)/\fs.length<=1000/\dx≠a/\h.get? a=some (PySem.W.instObj C dx)/\
   ∃mA,h.Ns1 dx mA/\(∀f,FB (fs.lookup f) (mA f))/\PySem.Within mA (fs.map (·.1))
 | .own _=>∃o,h.get? a=some o
 | .xd fs=>∃mA,h.Ns1 a mA/\∀f,FB (fs.lookup f) (mA f)
 | .rng lo hi=>∃t u v,h.get? a=some { cls:=.type "range",data:=.fields #[.int lo t,.int hi u,.int 1 v] }
 | .frz o u=>h.get? a=some o/\AX H h a u
 | .tbl ps=>h.get? a=some { cls:=.none,data:=.fields ps }
 | .met f x=>h.get? a=some (PySem.W.methodObj (.ref f) (.ref x))
 | .ext φ=>φ h/\(∃o,h.get? a=some o)/\∀h1 h2:Heap,φ h1->(∀o,h1.get? a=some o->h2.get? a=some o)->φ h2
def Jc (H:Hp)(h:Heap):Prop:=∀a o,H a=some o->AX P w H h a o
end
section
variable {P:Program}{w:World}{H H':Hp}{h h':Heap}{a:Addr}{o:HO}
theorem AX.lt (x:AX P w H h a o):a<h.objs.size:=by
 cases o with
 |lst xs=>obtain⟨_,_,_,_,e⟩:=x;exact bU e
 |tup xs=>obtain⟨_,_,_,p⟩:=x;exact p.lt
 |dK kvs=>obtain⟨_,_,_,_,o,_,_,e,_⟩:=x;exact bU e
 |dT kvs=>obtain⟨_,_,_,_,o,_,_,e,_⟩:=x;exact bU e
 |set S n=>obtain⟨o,_,_,_,e,_⟩:=x;exact bU e
 |ins C dx fs=>obtain⟨_,_,_,e,_⟩:=x;exact bU e
 |own y=>obtain⟨_,e⟩:=x;exact bU e
 |xd fs=>obtain⟨_,⟨_,_,_,e,_⟩,_⟩:=x;exact bU e
 |rng lo hi=>obtain⟨_,_,_,e⟩:=x;exact bU e
 |frz ob u=>obtain⟨e,_⟩:=x;exact bU e
 |tbl ps=>exact bU (show h.get? a=some _ from x)
 |met f y=>exact bU (show h.get? a=some _ from x)
 |ext φ=>obtain⟨_,⟨_,e⟩,_⟩:=x;exact bU e
theorem Paired.mapP {α β:Type}{F G:α->β->Prop}:∀{l₁:List α} {l₂:List β},Paired F l₁ l₂->(∀a b,F a b->G a b)->Paired G l₁ l₂
 |_,_,.nil,_=>.nil
 |_,_,.cons r t,f=>.cons (f _ _ r) (Paired.mapP t f)
theorem AX.stay (x:AX P w H h a o) (k:∀b u,(b=a\/H b=some (.own a))->h.get? b=some u->h'.get? b=some u)
  (ho:∀b,H b=some (.own a)->H' b=some (.own a)) (ht:∀b xs,H b=some (.tup xs)->H' b=some (.tup xs)):AX P w H' h' a o:=by
 induction o with
 |lst xs=>obtain⟨z,its,n,r,e⟩:=x;exact⟨z,its,n,r,k _ _ (.inl rfl) e⟩
 |tup xs=>obtain⟨z,its,r,ob,e,c⟩:=x;exact⟨z,its,r,ob,k _ _ (.inl rfl) e,c⟩
 |dK kvs=>obtain⟨z,y,vs,r,ob,es,ep,e,c⟩:=x;exact⟨z,y,vs,r,ob,es,ep,k _ _ (.inl rfl) e,c⟩
 |dT kvs=>
  obtain⟨z,y,xs,r,ob,es,ep,e,c⟩:=x;exact⟨z,y,xs,Paired.mapP r λp q z=>⟨z.1,ht _ _ z.2.1,z.2.2⟩,ob,es,ep,k _ _ (.inl rfl) e,c⟩
 |set S n=>obtain⟨ob,es,ep,t,e,c⟩:=x;exact⟨ob,es,ep,t,k _ _ (.inl rfl) e,c⟩
 |ins C dx fs=>
  obtain⟨d,z,ne,e,mA,⟨od,es,ep,e2,c⟩,r⟩:=x;exact⟨ho _ d,z,ne,k _ _ (.inl rfl) e,mA,⟨od,es,ep,k _ _ (.inr d) e2,c⟩,r⟩
 |own y=>obtain⟨ob,e⟩:=x;exact⟨ob,k _ _ (.inl rfl) e⟩
 |xd fs=>obtain⟨mA,⟨od,es,ep,e,c⟩,r⟩:=x;exact⟨mA,⟨od,es,ep,k _ _ (.inl rfl) e,c⟩,r⟩
 |rng lo hi=>obtain⟨t,u,v,e⟩:=x;exact⟨t,u,v,k _ _ (.inl rfl) e⟩
 |frz ob u ih=>obtain⟨e,q⟩:=x;exact⟨k _ _ (.inl rfl) e,ih q⟩
 |tbl ps=>
  have e:h.get? a=some { cls:=.none,data:=.fields ps }:=x;show h'.get? a=some { cls:=.none,data:=.fields ps };exact k a _ (.inl rfl) e
 |met f y=>
  have e:h.get? a=some (PySem.W.methodObj (.ref f) (.ref y)):=x;show h'.get? a=some (PySem.W.methodObj (.ref f) (.ref y));exact k a _ (.inl rfl) e
 |ext φ=>obtain⟨p,⟨o,e⟩,st⟩:=x;exact⟨st _ _ p λo q=>k _ _ (.inl rfl) q,⟨o,k _ _ (.inl rfl) e⟩,st⟩
theorem Jc.lt (x:Jc P w H h)(e:H a=some o):a<h.objs.size:=(x a o e).lt
theorem Jc.fresh (x:Jc P w H h)(e:h.objs.size<=a):H a=none:=by
 cases q:H a with
 |none=>rfl
 |some u=>exact absurd (cB (x.lt q) e) (d8 _)
theorem Jc.kept (x:Jc P w H h)(k:∀b u,h.get? b=some u->h'.get? b=some u):Jc P w H h':=λa o e=>
 (x a o e).stay (λb u _ q=>k b u q) (λ_ q=>q) λ_ _ q=>q
theorem Jc.laid (x:Jc P w H h)(k:∀b u,h.get? b=some u->h'.get? b=some u)(hp:h.objs.size<=a)(new:AX P w (upd H a o) h' a o):Jc P w (upd H a o) h':=λb u e=>by
 have hn:=x.fresh hp
 by_cases hb:b=a
 ·subst hb;rw[Ae] at e;cases e;exact new
 ·rw[Ag hb] at e;exact(x b u e).stay (λc v _ q=>k c v q) (λc q=>by rw[Ag (Ar q hn)];exact q) λc xs q=>by rw[Ag (Ar q hn)];exact q
end
def Rd (H:Hp)(a:Addr)(u:HO):Prop:=H a=some u\/∃o,H a=some (.frz o u)
theorem Rd.ok {P:Program}{w:World}{H:Hp}{h:Heap}{a:Addr}{u:HO}(r:Rd H a u)(x:Jc P w H h):AX P w H h a u:=by
 rcases r with r|⟨o,r⟩
 ·exact x a u r
 ·obtain⟨_,q⟩:=x a _ r;exact q
def Zw:Option HO->Prop
 |some (.lst _)=>True
 |some (.dK _)=>True
 |some (.dT _)=>True
 |some (.set _ _)=>True
 |some (.ins _ _ _)=>True
 |some (.ext _)=>True
 |_=>False
section
variable {P:Program}{w:World}{H:Hp}{h h':Heap}{x e:Addr}{o':HO}
theorem Jc.write (ok:Jc P w H h) (mu:Zw (H x)) (he:e=x\/H e=some (.own x)) (k:∀b u,b≠e->h.get? b=some u->h'.get? b=some u) (heo:∃u,h'.get? e=some u)
  (new:AX P w (upd H x o') h' x o'):Jc P w (upd H x o') h':=λb u q=>by
 have nown:∀c y,H c=some (.own y)->c≠x:=λc y r z=>by subst z;rw[r] at mu;exact mu
 have ntup:∀c xs,H c=some (.tup xs)->c≠x:=λc xs r z=>by subst z;rw[r] at mu;exact mu
 by_cases hb:b=x
 ·subst hb;rw[Ae] at q;cases q;exact new
 ·rw[Ag hb] at q
  by_cases hbe:b=e
  ·have q':H b=some (.own x):=by
    rcases he with z|z
    ·exact absurd (hbe.trans z) hb
    ·rw[hbe];exact z
   rw[q] at q';cases q';obtain⟨v,hv⟩:=heo;exact⟨v,by rw[hbe];exact hv⟩
  ·refine(ok b u q).stay (λc v hc r=>k c v ?_ r) (λc r=>by rw[Ag (nown c b r)];exact r) λc xs r=>by rw[Ag (ntup c xs r)];exact r
   rcases hc with rfl|hc
   ·exact hbe
   ·rintro rfl
    rcases he with z|z
    ·exact nown c b hc z
    ·rw[hc] at z;cases z;exact hb rfl
end
structure Un (fs ex:List Addr) (H H':Hp) (h h':Heap):Prop where
 keep:∀b o,h.get? b=some o->H b=none->b∉fs->b∉ex->h'.get? b=some o
 slot:∀b o,h.get? b=some o->H b=none->b∈fs->b∉ex->∃sl,h'.get? b=some { o with slots:=sl }
 free:∀b o,h.get? b=some o->H b=none->b∉ex->H' b=none
 there:∀b o,h.get? b=some o->b∉ex->∃o',h'.get? b=some o'
 tups:∀b xs,H b=some (.tup xs)->H' b=some (.tup xs)
 frzs:∀b o u,H b=some (.frz o u)->H' b=some (.frz o u)
 tbls:∀b ps,H b=some (.tbl ps)->∃more,H' b=some (.tbl (ps++more))
section
variable {fs fs' ex ex':List Addr}{H H1 H2:Hp}{h h1 h2 h':Heap}{a x e:Addr}{o:HO}
theorem Un.any (u:Un fs ex H H1 h h1){b:Addr}{ob:Obj}(q:h.get? b=some ob)(n:H b=none)(hx:b∉ex):∃sl,h1.get? b=some { ob with slots:=sl }:=by
 by_cases hb:b∈fs
 ·exact u.slot b ob q n hb hx
 ·exact⟨ob.slots,u.keep b ob q n hb hx⟩
theorem Un.kept (k:∀b u,h.get? b=some u->h'.get? b=some u):Un fs ex H H h h':=
 ⟨λb ob q _ _ _=>k b ob q,λb ob q _ _ _=>⟨ob.slots,k b ob q⟩,λ_ _ _ n _=>n,λb ob q _=>⟨ob,k b ob q⟩,λ_ _ q=>q,λ_ _ _ q=>q,λ_ ps q=>⟨#[],by rw[q];simp⟩⟩
theorem Un.refl:Un fs ex H H h h:=Un.kept λ_ _ q=>q
theorem Un.laid (k:∀b u,h.get? b=some u->h'.get? b=some u)(hp:h.objs.size<=a)(hn:H a=none):Un fs ex H (upd H a o) h h' where
 keep:=λb u q _ _ _=>k b u q
 slot:=λb u q _ _ _=>⟨u.slots,k b u q⟩
 free:=λb u q n _=>by rw[Ag (cn (cB (bU q) hp))];exact n
 there:=λb u q _=>⟨u,k b u q⟩
 tups:=λb xs q=>by rw[Ag (Ar q hn)];exact q
 frzs:=λb u xs q=>by rw[Ag (Ar q hn)];exact q
 tbls:=λb ps q=>⟨#[],by rw[Ag (Ar q hn),q];simp⟩
theorem Un.write (mu:Zw (H x))(he:e=x\/H e=some (.own x))(k:∀b u,b≠e->h.get? b=some u->h'.get? b=some u)(heo:∃u,h'.get? e=some u):Un fs ex H (upd H x o) h h':=by
 have hx:∀b,H b=none->b≠x:=λb n z=>by subst z;rw[n] at mu;exact mu
 have hb:∀b,H b=none->b≠e:=λb n z=>by
  subst z;rcases he with r|r
  ·exact hx b n r
  ·rw[n] at r;cases r
 have hm:∀b u,H b=some u->¬Zw (some u)->b≠x:=λb u q nm z=>by subst z;rw[q] at mu;exact nm mu
 refine⟨λb u q n _ _=>k b u (hb b n) q,λb u q n _ _=>⟨u.slots,k b u (hb b n) q⟩,λb u q n _=>by rw[Ag (hx b n)];exact n,λb u q _=>?_,
  λb xs q=>by rw[Ag (hm b _ q λz=>z)];exact q,λb u xs q=>by rw[Ag (hm b _ q λz=>z)];exact q,λb ps q=>⟨#[],by rw[Ag (hm b _ q λz=>z),q];simp⟩⟩
 by_cases hbe:b=e
 ·subst hbe;exact heo
 ·exact⟨u,k b u hbe q⟩
end
def ah (h:Heap)(H:Hp):List Addr:=(List.range h.objs.size).filter λa=>(H a).isSome
def OO (h:Heap)(H:Hp):Heap:=PySem.W.hideAll h (ah h H)
theorem SE (h:Heap)(H:Hp):(OO h H).objs.size=h.objs.size:=PySem.W.hideAll_size _ _
theorem Ud {h:Heap}{H:Hp}{b:Addr}{o:Obj}(e:h.get? b=some o)(n:H b=none):(OO h H).get? b=some o:=
 gU _ e λhm=>by
  have q:(H b).isSome=true:=(dI.mp hm).2;rw[n] at q;simp at q
theorem V8 {h:Heap}{H:Hp}{b:Addr}{o:Obj}(e:(OO h H).get? b=some o):h.get? b=some o/\H b=none:=by
 have e':h.get? b=some o:=PySem.W.of_hideAll (ah h H) e;refine⟨e',?_⟩;cases q:H b with
 |none=>rfl
 |some x=>
  have hm:b∈ah h H:=dI.mpr ⟨fX.mpr (bU e'),by simp[q]⟩;have z:(OO h H).get? b=none:=ji (ah h H) hm;rw[z] at e;cases e
structure Mod (K:PySem.W.Frag) (mg:Str->Option Value) (base:Heap):Prop where
 kin:K.In base
 glob:base.Ns mainGlobals mg
 blt:∃mb,base.Ns builtinsNs mb/\∀x:Str,x≠"__name__"->mb x=bootBuiltins x
 nolimit:base.NoLimit
structure Cx where
 prog:Program
 w:World
 K:PySem.W.Frag
 mg:Str->Option Value
 base:Heap
 A:Around
 N:List Str
 s₀:Shared
 H₀:Hp
 env:Env
 outer:List Env
 stack:List Env
 ex:List Addr
 fn:Str->Bool
 calm:Bool
 pn:List (Addr×Obj)
 xe:Value->Shared->Prop
def I0 (l:List Env):List Addr:=l.filterMap (·.frame)
abbrev Cx.fs (X:Cx):List Addr:=I0 X.outer
def ar (sc:Scope)(x:Str):Prop:=sc.names.lookup x=some .local\/sc.names.lookup x=some .cell\/sc.names.lookup x=some .free
def Loc (sc:Scope)(x:Str):Prop:=sc.names.lookup x=some .local\/sc.names.lookup x=some .cell
def Look (env:Env)(h:Heap)(m:Str->Option Value)(x:Str)(u:Value):Prop:=
 (env.kindOf x=some .local/\m x=some u)\/((env.kindOf x=some .cell\/env.kindOf x=some .free)/\∃c,env.cells.lookup x=some c/\h.IsCell c (some u))
structure Cx.Ok (X:Cx):Prop where
 mod:Mod X.K X.mg X.base
 kind:X.env.scope.kind=.function
 glob:X.env.globals=mainGlobals
 blt:X.env.builtins=builtinsNs
 above:X.s₀.heap.objs.size<=X.env.locals
 inj:∀x y c,X.env.cells.lookup x=some c->X.env.cells.lookup y=some c->x=y
 has:∀x,(X.env.kindOf x=some .cell\/X.env.kindOf x=some .free)->∃c,X.env.cells.lookup x=some c
 cab:∀x c,X.fn x=true->X.env.cells.lookup x=some c->X.s₀.heap.objs.size<=c
 hd:X.calm=true->X.A.handled=none
 frames:X.A.frames=some X.stack
 stk:X.stack=X.outer\/(X.stack=X.env::X.outer/\X.env.frame=some X.env.locals)
 exf:∀b∈X.ex,b≠X.env.locals/\∀x c,X.env.cells.lookup x=some c->c≠b
 bs:∀b o,X.base.get? b=some o->X.s₀.heap.get? b=some o/\X.H₀ b=none
 bsz:X.base.objs.size<=X.s₀.heap.objs.size
 noex:∀b o,X.base.get? b=some o->b∉X.ex
 exfs:∀b∈X.ex,b∉X.fs
 funs:X.s₀.heap.FunFrames X.base X.outer
 frf:∀b∈X.fs,X.H₀ b=none
structure Inv (X:Cx) (pins:List (Addr×Obj)) (σ:List (Option V)) (H:Hp) (s:Shared):Prop where
 ok:X.Ok
 os:s.os=X.s₀.os
 bare:AllBare s.gens
 base:Un X.fs X.ex X.H₀ H X.s₀.heap s.heap
 loc:∃m,s.heap.Ns X.env.locals m/\∀(i:Nat) (x:Str) (v:V),X.N[i]?=some x->σ[i]?=some (some v)->ar X.env.scope x->∃u,RelV v u/\Look X.env s.heap m x u
 cell:∀x c,X.env.cells.lookup x=some c->∃v,s.heap.IsCell c v
 free:H X.env.locals=none
 freeC:∀x c,X.env.cells.lookup x=some c->H c=none
 pin:∀p∈X.pn++pins,s.heap.get? p.1=some p.2/\H p.1=none/\p.1≠X.env.locals/\p.1∉X.fs/\∀v,p.2.data≠.cell v
 hok:Jc X.prog X.w H s.heap
 len:σ.length=X.N.length
section
variable {X:Cx}{pins:List (Addr×Obj)}{σ:List (Option V)}{H H':Hp}{s:Shared}{h':Heap}
theorem Cx.Ok.nofr (ok:X.Ok){b:Addr}{o:Obj}(e:X.base.get? b=some o):b∉X.fs:=λhb=>by
 have:=(ok.funs.mem hb).1;rw[e] at this;cases this
theorem Inv.bs (I:Inv X pins σ H s):∀b o,X.base.get? b=some o->s.heap.get? b=some o/\H b=none:=λb o e=>
 ⟨I.base.keep b o (I.ok.bs b o e).1 (I.ok.bs b o e).2 (I.ok.nofr e) (I.ok.noex b o e),I.base.free b o (I.ok.bs b o e).1 (I.ok.bs b o e).2 (I.ok.noex b o e)⟩
theorem Inv.bk (I:Inv X pins σ H s):∀b o,X.base.get? b=some o->s.heap.get? b=some o:=λb o e=>(I.bs b o e).1
theorem Inv.mod (I:Inv X pins σ H s):Mod X.K X.mg X.base:=I.ok.mod
theorem Inv.kIn (I:Inv X pins σ H s):X.K.In s.heap:=I.ok.mod.kin.keeps I.bk
theorem Inv.lt (I:Inv X pins σ H s):X.env.locals<s.heap.objs.size:=let⟨_,hn,_⟩:=I.loc;hn.lt
theorem Inv.sz (I:Inv X pins σ H s):X.s₀.heap.objs.size<=s.heap.objs.size:=cA I.ok.above (gG I.lt)
theorem Inv.nofs (I:Inv X pins σ H s){a:Addr}(h:s.heap.objs.size<=a):a∉X.fs:=λhb=>by
 obtain⟨_,o,ho,_⟩:=I.ok.funs.mem hb;exact absurd (cB (bU ho) (cA I.sz h)) (d8 _)
theorem Inv.cne (I:Inv X pins σ H s):∀x c,X.env.cells.lookup x=some c->c≠X.env.locals:=λx c e z=>by
 obtain⟨v,o,ho,hd⟩:=I.cell x c e;obtain⟨m,⟨o',es,ep,ho',hd',_⟩,_⟩:=I.loc;rw[z,ho'] at ho;cases ho;rw[hd'] at hd;cases hd
theorem Inv.funs (I:Inv X pins σ H s):s.heap.FunFrames X.base X.outer:=by
 have all:∀(l:List Env),(∀b∈I0 l,b∈X.fs)->X.s₀.heap.FunFrames X.base l->s.heap.FunFrames X.base l:=by
  intro l
  induction l with
  |nil=>intro _ _;trivial
  |cons env r ih=>
   intro hs hl;obtain⟨hk,⟨L,o,hf,hn,ho,hd⟩,hr⟩:=hl;have hL:L∈X.fs:=hs L (by unfold I0;rw[gW,hf];exact bZ);obtain⟨sl,e⟩:=I.base.slot L o ho (I.ok.frf L hL) hL λz=>I.ok.exfs L z hL
   exact⟨hk,⟨L,_,hf,hn,e,hd⟩,ih (λb hb=>hs b (by unfold I0;rw[gW,hf];exact bY _ hb)) hr⟩
 exact all X.outer (λ_ hb=>hb) I.ok.funs
theorem Inv.stack (I:Inv X pins σ H s):s.heap.FunFrames X.base X.stack:=by
 rcases I.ok.stk with e|⟨e,hf⟩
 ·rw[e];exact I.funs
 ·rw[e];obtain⟨m,hn,_⟩:=I.loc;refine .cons (by rw[I.ok.kind];decide) hf hn ?_ I.funs;exact gb (cA I.ok.bsz I.ok.above)
theorem Inv.stkSub (I:Inv X pins σ H s):∀b∈I0 X.stack,b∈X.env.locals::X.fs:=λb hb=>by
 rcases I.ok.stk with e|⟨e,hf⟩
 ·rw[e] at hb;exact bY _ hb
 ·rw[e] at hb;unfold I0 at hb;rw[gW,hf] at hb;exact hb
theorem Inv.stkFree (I:Inv X pins σ H s):∀b∈I0 X.stack,H b=none:=λb hb=>by
 rcases cf.mp (I.stkSub b hb) with e|hb
 ·rw[e];exact I.free
 ·obtain⟨_,o,ho,_⟩:=I.ok.funs.mem hb;exact I.base.free b o ho (I.ok.frf b hb) λz=>I.ok.exfs b z hb
theorem Inv.step {g':Array GenState} {t':Nat} {d':Drawn} {ch:List Addr} (I:Inv X pins σ H s)
  (hch:∀b∈ch,(b∈X.ex\/X.s₀.heap.objs.size<=b)/\b≠X.env.locals/\(∀x c,X.env.cells.lookup x=some c->c≠b)/\∀p∈X.pn++pins,p.1≠b)
  (keep:∀b o,b≠X.env.locals->b∉X.fs->b∉ch->s.heap.get? b=some o->H b=none->h'.get? b=some o)
  (slot:∀b o,b≠X.env.locals->b∈X.fs->b∉ch->s.heap.get? b=some o->H b=none->∃sl,h'.get? b=some { o with slots:=sl }) (free:∀b o,b∉ch->s.heap.get? b=some o->H b=none->H' b=none)
  (there:∀b o,b∉ch->s.heap.get? b=some o->∃o',h'.get? b=some o')
  (tups:∀b xs,H b=some (.tup xs)->H' b=some (.tup xs)) (frzs:∀b o u,H b=some (.frz o u)->H' b=some (.frz o u)) (tbls:∀b ps,H b=some (.tbl ps)->∃more,H' b=some (.tbl (ps++more)))
  (ns:∀m,s.heap.Ns X.env.locals m->h'.Ns X.env.locals m) (hok:Jc X.prog X.w H' h') (hg:AllBare g') :
  Inv X pins σ H' { s with heap:=h',gens:=g',drawn:=d',toks:=t' }:=by
 have neL:∀b o,X.s₀.heap.get? b=some o->b≠X.env.locals:=λb o e=>cn (cB (bU e) I.ok.above)
 have neC:∀b o,X.s₀.heap.get? b=some o->b∉X.ex->b∉ch:=λb o e hx hb=>by
  rcases(hch b hb).1 with z|z
  ·exact hx z
  ·exact absurd (cB (bU e) z) (d8 _)
 have cellK:∀x c,X.env.cells.lookup x=some c->∀v,s.heap.IsCell c v->h'.IsCell c v:=λx c e v ⟨o,ho,hd⟩=>by
  have nch:c∉ch:=λz=>(hch c z).2.2.1 x c e rfl
  by_cases hc:c∈X.fs
  ·obtain⟨sl,q⟩:=slot c o (I.cne x c e) hc nch ho (I.freeC x c e);exact⟨_,q,hd⟩
  ·exact⟨o,keep c o (I.cne x c e) hc nch ho (I.freeC x c e),hd⟩
 refine⟨I.ok,I.os,hg,⟨λb o e n hb hx=>?_,λb o e n hb hx=>?_,λb o e n hx=>?_,λb o e hx=>?_,λb xs e=>tups b xs (I.base.tups b xs e),λb o xs e=>frzs b o xs (I.base.frzs b o xs e),λb ps e=>?_⟩,?_,λx c e=>?_,?_,λx c e=>?_,λp hp=>?_,hok,I.len⟩
 ·exact keep b o (neL b o e) hb (neC b o e hx) (I.base.keep b o e n hb hx) (I.base.free b o e n hx)
 ·obtain⟨sl,e1⟩:=I.base.slot b o e n hb hx;obtain⟨sl',e2⟩:=slot b _ (neL b o e) hb (neC b o e hx) e1 (I.base.free b o e n hx);exact⟨sl',e2⟩
 ·obtain⟨o',e1⟩:=I.base.there b o e hx;exact free b o' (neC b o e hx) e1 (I.base.free b o e n hx)
 ·obtain⟨o',e1⟩:=I.base.there b o e hx;exact there b o' (neC b o e hx) e1
 ·obtain⟨m1,e1⟩:=I.base.tbls b ps e;obtain⟨m2,e2⟩:=tbls b _ e1;exact⟨m1++m2,by rw[e2,Array.append_assoc]⟩
 ·obtain⟨m,hn,hl⟩:=I.loc;refine⟨m,ns m hn,λi x v e1 e2 e3=>?_⟩;obtain⟨u,r,l⟩:=hl i x v e1 e2 e3;refine⟨u,r,?_⟩;rcases l with l|⟨k,c,e,z⟩
  ·exact .inl l
  ·exact .inr ⟨k,c,e,cellK x c e _ z⟩
 ·obtain⟨v,z⟩:=I.cell x c e;exact⟨v,cellK x c e v z⟩
 ·obtain⟨m,⟨o,_,_,ho,_⟩,_⟩:=I.loc;exact free _ o (λz=>(hch _ z).2.1 rfl) ho I.free
 ·obtain⟨v,o,ho,hd⟩:=I.cell x c e;exact free c o (λz=>(hch c z).2.2.1 x c e rfl) ho (I.freeC x c e)
 ·obtain⟨e,n,ne,nf,d⟩:=I.pin p hp;have nch:p.1∉ch:=λz=>(hch p.1 z).2.2.2 p hp rfl
  exact⟨keep p.1 p.2 ne nf nch e n,free p.1 p.2 nch e n,ne,nf,d⟩
theorem Inv.un {t':Nat}(I:Inv X pins σ H s)(u:Un X.fs [] H H' s.heap h')(hok:Jc X.prog X.w H' h'):Inv X pins σ H' { s with heap:=h',toks:=t' }:=by
 obtain⟨m,⟨o,es,ep,ho,r⟩,_⟩:=id I.loc;obtain⟨sl,hL⟩:=u.any ho I.free (by simp);exact I.step (g':=s.gens) (d':=s.drawn) (ch:=[]) (λ_ z=>nomatch z) (λb o _ hb _ e n=>u.keep b o e n hb (by simp)) (λb o _ hb _ e n=>u.slot b o e n hb (by simp)) (λb o _ e n=>u.free b o e n (by simp)) (λb o _ e=>u.there b o e (by simp)) u.tups u.frzs u.tbls (λm' hm=>by
  obtain⟨o',es',ep',ho',r'⟩:=hm;rw[ho] at ho';cases ho';exact⟨_,es',ep',hL,r'⟩) hok I.bare
theorem Inv.call {g':Array GenState} {t':Nat} {d':Drawn} {ch:List Addr} (I:Inv X pins σ H s) (u:Un (I0 X.stack) ch H H' s.heap h') (hok:Jc X.prog X.w H' h') (hg:AllBare g')
  (hch:∀b∈ch,(b∈X.ex\/X.s₀.heap.objs.size<=b)/\b≠X.env.locals/\(∀x c,X.env.cells.lookup x=some c->c≠b)/\∀p∈X.pn++pins,p.1≠b) :
  Inv X pins σ H' { s with heap:=h',gens:=g',drawn:=d',toks:=t' }:=by
 obtain⟨m,⟨o,es,ep,ho,r⟩,_⟩:=id I.loc;obtain⟨sl,hL⟩:=u.any ho I.free λz=>(hch _ z).2.1 rfl
 exact I.step (ch:=ch) hch (λb o hL hb hc e n=>u.keep b o e n (λz=>(cf.mp (I.stkSub b z)).elim hL hb) hc) (λb o _ _ hc e n=>u.any e n hc) (λb o hc e n=>u.free b o e n hc) (λb o hc e=>u.there b o e hc) u.tups u.frzs u.tbls (λm' hm=>by
  obtain⟨o',es',ep',ho',r'⟩:=hm;rw[ho] at ho';cases ho';exact⟨_,es',ep',hL,r'⟩) hok hg
theorem Inv.turned {t':Nat} {it:Addr} (I:Inv X pins σ H s) (k:∀b o,b≠it->s.heap.get? b=some o->h'.get? b=some o) (hn:H it=none) (hL:it≠X.env.locals)
  (h1:it∈X.ex\/X.s₀.heap.objs.size<=it) (h2:∀x c,X.env.cells.lookup x=some c->c≠it) (h3:∀p∈X.pn++pins,p.1≠it):Inv X pins σ H { s with heap:=h',toks:=t' }:=by
 have nit:∀b u,H b=some u->b≠it:=λb u e z=>by rw[z,hn] at e;cases e
 refine I.step (g':=s.gens) (d':=s.drawn) (ch:=[it]) (λb hb=>?_) (λb o _ _ hc e _=>k b o (λz=>hc (by simp[z])) e) (λb o _ _ hc e _=>⟨o.slots,k b o (λz=>hc (by simp[z])) e⟩) (λ_ _ _ _ n=>n)
  (λb o hc e=>⟨o,k b o (λz=>hc (by simp[z])) e⟩) (λ_ _ e=>e) (λ_ _ _ e=>e) (λb ps e=>⟨#[],by rw[e];simp⟩) (λm hm=>?_) (λb u e=>?_) I.bare
 ·have e:b=it:=by simpa using hb
  subst e;exact⟨h1,hL,h2,h3⟩
 ·obtain⟨o,es,ep,ho,r⟩:=hm;exact⟨o,es,ep,k _ o (Ne.symm hL) ho,r⟩
 ·refine(I.hok b u e).stay (λc v hc q=>k c v ?_ q) (λ_ q=>q) λ_ _ q=>q
  rcases hc with z|z
  ·rw[z];exact nit b u e
  ·exact nit c _ z
theorem Inv.tok (I:Inv X pins σ H s)(t:Nat):Inv X pins σ H { s with toks:=t }:=I.un (h':=s.heap) (t':=t) Un.refl I.hok
theorem Inv.kept {t':Nat}(I:Inv X pins σ H s)(k:∀b u,s.heap.get? b=some u->h'.get? b=some u):Inv X pins σ H { s with heap:=h',toks:=t' }:=I.un (Un.kept k) (I.hok.kept k)
theorem Inv.laid {a:Addr}{o:HO}{t':Nat}(I:Inv X pins σ H s)(k:∀b u,s.heap.get? b=some u->h'.get? b=some u)(hp:s.heap.objs.size<=a)(new:AX X.prog X.w (upd H a o) h' a o) :
  Inv X pins σ (upd H a o) { s with heap:=h',toks:=t' }:=I.un (Un.laid k hp (I.hok.fresh hp)) (I.hok.laid k hp new)
theorem Inv.write {x e:Addr} {o:HO} {t':Nat} (I:Inv X pins σ H s) (mu:Zw (H x)) (he:e=x\/H e=some (.own x)) (k:∀b u,b≠e->s.heap.get? b=some u->h'.get? b=some u) (heo:∃u,h'.get? e=some u)
  (new:AX X.prog X.w (upd H x o) h' x o):Inv X pins σ (upd H x o) { s with heap:=h',toks:=t' }:=I.un (Un.write mu he k heo) (I.hok.write mu he k heo new)
theorem Inv.pins_of {pins':List (Addr×Obj)}(I:Inv X pins σ H s)(h:∀p∈pins',s.heap.get? p.1=some p.2/\H p.1=none/\p.1≠X.env.locals/\p.1∉X.fs/\∀v,p.2.data≠.cell v):Inv X pins' σ H s:=
 ⟨I.ok,I.os,I.bare,I.base,I.loc,I.cell,I.free,I.freeC,λp hp=>(cj.mp hp).elim (λz=>I.pin p (jk _ z)) (h p),I.hok,I.len⟩
theorem MD {N:List Str}(hN:N.Nodup){i j:Nat}{x:Str}(a:N[i]?=some x)(b:N[j]?=some x):i=j:=by
 obtain⟨h1,e1⟩:=bT.mp a;obtain⟨h2,e2⟩:=bT.mp b;exact(List.getElem_inj hN).mp (e1.trans e2.symm)
theorem SF {M:Model} {A:Around} {E:Value->Shared->Prop} {i:Nat} {x:Str} {v:V} {u:Value} {Q:Unit->Shared->Prop} (I:Inv X pins σ H s) (hN:X.N.Nodup) (hi:X.N[i]?=some x) (hx:Loc X.env.scope x) (r:RelV v u)
  (h:∀s',Inv X pins (σ.set i (some v)) H s'->(∃a,Heap.SameBut a s.heap s'.heap/\(a=X.env.locals\/X.env.cells.lookup x=some a))->Q () s') (hf:X.fn x=true\/X.env.scope.names.lookup x=some .local:=by first|exact .inl rfl|exact .inr rfl|assumption):wpAny M A (storeName X.env x u) Q E s:=by
 obtain⟨m,hn,hl⟩:=id I.loc;have hcls:(X.env.scope.kind == .class||(X.env.scope.kind == .module&&X.env.locals != X.env.globals))=false:=by rw[I.ok.kind];rfl
 have hiσ:i<σ.length:=by rw[I.len];exact(bT.mp hi).1
 have cne:=I.cne;have tracked:∀{a:Addr} {h':Heap},(∃o,s.heap.get? a=some o/\H a=none)->Heap.SameBut a s.heap h'->Jc X.prog X.w H h':=λ{a h'} ha hs b ob e=>by
  obtain⟨_,_,hfree⟩:=ha;refine(I.hok b ob e).stay (λc w' hc q=>(hs.2 c ?_).trans q) (λ_ q=>q) λ_ _ q=>q
  rintro rfl
  rcases hc with rfl|hc
  ·rw[hfree] at e;cases e
  ·rw[hfree] at hc;cases hc
 rcases hx with hk|hk
 ·refine wpAny_storeName_local hk hn (λh' hn' hs=>?_) hcls;obtain⟨oL,_,_,hoL,_⟩:=id hn;refine h _ ⟨I.ok,I.os,I.bare,⟨λb o e n hb hx=>?_,λb o e n hb hx=>?_,I.base.free,λb o e hx=>?_,I.base.tups,I.base.frzs,I.base.tbls⟩,⟨_,hn',λj y v' e1 e2 e3=>?_⟩,λy c e=>?_,I.free,I.freeC,λp hp=>?_,tracked ⟨oL,hoL,I.free⟩ hs,by simpa using I.len⟩ ⟨_,hs,.inl rfl⟩
  ·exact(hs.2 b (cn (cB (bU e) I.ok.above))).trans (I.base.keep b o e n hb hx)
  ·obtain⟨sl,e1⟩:=I.base.slot b o e n hb hx;exact⟨sl,(hs.2 b (cn (cB (bU e) I.ok.above))).trans e1⟩
  ·obtain⟨o',e1⟩:=I.base.there b o e hx;exact⟨o',(hs.2 b (cn (cB (bU e) I.ok.above))).trans e1⟩
  ·by_cases hj:j=i
   ·subst hj;rw[hi] at e1;cases e1;rw[gH hiσ] at e2;cases e2;exact⟨u,r,.inl ⟨hk,by simp⟩⟩
   ·rw[fL (Ne.symm hj)] at e2;obtain⟨u',r',q⟩:=hl j y v' e1 e2 e3;refine⟨u',r',?_⟩;rcases q with⟨k,e⟩|⟨k,c,e,z⟩
    ·refine .inl ⟨k,?_⟩;have:y≠x:=λe=>hj (MD hN e1 (e▸hi))
     simp[this,e]
    ·exact .inr ⟨k,c,e,z.sameBut hs (cne y c e)⟩
  ·obtain⟨w',z⟩:=I.cell y c e;exact⟨w',z.sameBut hs (cne y c e)⟩
  ·obtain⟨e,n,ne,nf,d⟩:=I.pin p hp;exact⟨(hs.2 p.1 ne).trans e,n,ne,nf,d⟩
 ·have hfn:X.fn x=true:=by
   rcases hf with z|z
   ·exact z
   ·rw[z] at hk;cases hk
  obtain⟨c,hc⟩:=I.ok.has x (.inl hk);obtain⟨w',z⟩:=I.cell x c hc;refine wpAny_storeName_cell I.ok.kind hk hc z (λh' hc' hs=>?_);obtain⟨oc,hoc,hocd⟩:=id z;refine h { s with heap:=h' } ⟨I.ok,I.os,I.bare,⟨λb o e n hb hx=>?_,λb o e n hb hx=>?_,I.base.free,λb o e hx=>?_,I.base.tups,I.base.frzs,I.base.tbls⟩,⟨m,hn.sameBut hs (Ne.symm (cne x c hc)),λj y v' e1 e2 e3=>?_⟩,λy c' e=>?_,I.free,I.freeC,λp hp=>?_,tracked ⟨oc,hoc,I.freeC x c hc⟩ hs,by simpa using I.len⟩ ⟨c,hs,.inr hc⟩
  ·exact(hs.2 b (cn (cB (bU e) (I.ok.cab x c hfn hc)))).trans (I.base.keep b o e n hb hx)
  ·obtain⟨sl,e1⟩:=I.base.slot b o e n hb hx;exact⟨sl,(hs.2 b (cn (cB (bU e) (I.ok.cab x c hfn hc)))).trans e1⟩
  ·obtain⟨o',e1⟩:=I.base.there b o e hx;exact⟨o',(hs.2 b (cn (cB (bU e) (I.ok.cab x c hfn hc)))).trans e1⟩
  ·by_cases hj:j=i
   ·subst hj;rw[hi] at e1;cases e1;rw[gH hiσ] at e2;cases e2;exact⟨u,r,.inr ⟨.inl hk,c,hc,hc'⟩⟩
   ·rw[fL (Ne.symm hj)] at e2;obtain⟨u',r',q⟩:=hl j y v' e1 e2 e3;refine⟨u',r',?_⟩;rcases q with q|⟨k,c',e,z'⟩
    ·exact .inl q
    ·refine .inr ⟨k,c',e,z'.sameBut hs ?_⟩
     rintro rfl
     exact hj (MD hN e1 (I.ok.inj _ _ _ e hc▸hi))
  ·by_cases hcc:c'=c
   ·subst hcc;exact⟨_,hc'⟩
   ·obtain⟨w2,z2⟩:=I.cell y c' e;exact⟨w2,z2.sameBut hs hcc⟩
  ·obtain⟨e,n,ne,nf,d⟩:=I.pin p hp;refine⟨(hs.2 p.1 ?_).trans e,n,ne,nf,d⟩;intro q;rw[q,hoc] at e;have q':oc=p.2:=bO e;exact d w' (by rw[<-q'];exact hocd)
theorem HS {M:Model} {A:Around} {E:Value->Shared->Prop} {i:Nat} {x:Str} {v:V} {u:Value} {Q:Unit->Shared->Prop} (I:Inv X pins σ H s) (hN:X.N.Nodup) (hi:X.N[i]?=some x) (hx:Loc X.env.scope x) (r:RelV v u)
  (h:∀s',Inv X pins (σ.set i (some v)) H s'->Q () s') (hf:X.fn x=true\/X.env.scope.names.lookup x=some .local:=by first|exact .inl rfl|exact .inr rfl|assumption):wpAny M A (storeName X.env x u) Q E s:=
 SF I hN hi hx r (λs' I' _=>h s' I') hf
theorem Inv.call' {s':Shared} {ch:List Addr} (I:Inv X pins σ H s) (ho:s'.os=s.os) (u:Un (I0 X.stack) ch H H' s.heap s'.heap) (hok:Jc X.prog X.w H' s'.heap) (hg:AllBare s'.gens)
  (hch:∀b∈ch,(b∈X.ex\/X.s₀.heap.objs.size<=b)/\b≠X.env.locals/\(∀x c,X.env.cells.lookup x=some c->c≠b)/\∀p∈X.pn++pins,p.1≠b):Inv X pins σ H' s':=by
 obtain⟨h',g',d',t',o'⟩:=s';have e:o'=s.os:=ho;subst e;exact I.call (g':=g') (t':=t') (d':=d') u hok hg hch
end
abbrev XK:=Value->Option Addr->Hp->Prop
abbrev St:=List (Option V)
abbrev VK:=V->Hp->Prop
abbrev TE:=St->Hp->VK->Prop
abbrev TT:=St->Hp->(Bool->Hp->Prop)->Prop
abbrev TA:=St->Hp->(List V->Hp->Prop)->Prop
structure Ends where
 nx:St->Hp->Prop
 rt:VK
 bk:St->Hp->Prop:=λ_ _=>False
 ct:St->Hp->Prop:=λ_ _=>False
abbrev TS:=Ends->St->Hp->Prop
def EP (X:Cx)(pins:List (Addr×Obj))(σ:St)(Q:VK)(u:Value)(s':Shared):Prop:=∃v H',Inv X pins σ H' s'/\RelV v u/\Q v H'
def TP (X:Cx)(pins:List (Addr×Obj))(σ:St)(Q:Bool->Hp->Prop)(b:Bool)(s':Shared):Prop:=∃H',Inv X pins σ H' s'/\Q b H'
def AP (X:Cx)(pins:List (Addr×Obj))(σ:St)(Q:List V->Hp->Prop)(us:List Value)(s':Shared):Prop:=∃vs H',Inv X pins σ H' s'/\AF vs us/\Q vs H'
def SP (X:Cx)(pins:List (Addr×Obj))(D:Ends)(f:Flow)(s':Shared):Prop:=
 match f with
 | .next=>∃σ' H',Inv X pins σ' H' s'/\D.nx σ' H'
 | .brk=>∃σ' H',Inv X pins σ' H' s'/\D.bk σ' H'
 | .cont=>∃σ' H',Inv X pins σ' H' s'/\D.ct σ' H'
 | .ret u=>∃v σ' H',Inv X pins σ' H' s'/\RelV v u/\D.rt v H'
def PE (X:Cx)(e:Expr)(t:TE):Prop:=
 ∀(pins:List (Addr×Obj)) (s:Shared) (σ:St) (H:Hp) (Q:VK),Inv X pins σ H s->t σ H Q->wpAny (model X.prog X.w) X.A (eval e X.env) (EP X pins σ Q) X.xe s
def PT (X:Cx)(e:Expr)(t:TT):Prop:=
 ∀(pins:List (Addr×Obj)) (s:Shared) (σ:St) (H:Hp) (Q:Bool->Hp->Prop),Inv X pins σ H s->t σ H Q->wpAny (model X.prog X.w) X.A (isTrue e X.env (eval e X.env)) (TP X pins σ Q) X.xe s
def PW (X:Cx)(e:Expr)(t:TT):Prop:=
 ∀(whole:Sem Value) (pins:List (Addr×Obj)) (s:Shared) (σ:St) (H:Hp) (Q:Bool->Hp->Prop),Inv X pins σ H s->t σ H Q->wpAny (model X.prog X.w) X.A (isTrue e X.env whole) (TP X pins σ Q) X.xe s
theorem PW.pt {X:Cx}{e:Expr}{t:TT}(h:PW X e t):PT X e t:=h _
def PA (X:Cx)(es:List Expr)(t:TA):Prop:=
 ∀(pos:Pos) (pins:List (Addr×Obj)) (s:Shared) (σ:St) (H:Hp) (Q:List V->Hp->Prop),Inv X pins σ H s->t σ H Q->wpAny (model X.prog X.w) X.A (spliced (backTo pos (starEach es X.env))) (AP X pins σ Q) X.xe s
def PS (X:Cx)(st:Stmt)(t:TS):Prop:=
 ∀(pins:List (Addr×Obj)) (s:Shared) (σ:St) (H:Hp) (D:Ends),Inv X pins σ H s->t D σ H->wpAny (model X.prog X.w) X.A (exec st X.env) (SP X pins D) X.xe s
def Pb (X:Cx)(st:List Stmt)(t:TS):Prop:=
 ∀(pins:List (Addr×Obj)) (s:Shared) (σ:St) (H:Hp) (D:Ends),Inv X pins σ H s->t D σ H->wpAny (model X.prog X.w) X.A (execs st X.env) (SP X pins D) X.xe s
theorem A7 {α:Type}{t:Sem α}{Q Q':α->Shared->Prop}{M:Model}{A:Around}{E:Value->Shared->Prop}{s:Shared}(h:wpAny M A t Q E s)(hQ:∀a s,Q a s->Q' a s):wpAny M A t Q' E s:=cD h hQ λ_ _ x=>x
section
variable {X:Cx}
theorem bin {a b:Expr} {ta tb:TE} (ha:PE X a ta) (hb:PE X b tb) {pins:List (Addr×Obj)} {s:Shared} {σ:St} {H:Hp} {R:V->V->Hp->Prop} (I:Inv X pins σ H s) (h:ta σ H λx H1=>tb σ H1 λy H2=>R x y H2)
  {α:Type} {Q:α->Shared->Prop} {f:Value->Value->Sem α}
  (hf:∀v u s2 x y H2,Inv X pins σ H2 s2->RelV x v->RelV y u->R x y H2->wpAny (model X.prog X.w) X.A (f v u) Q X.xe s2) :
  wpAny (model X.prog X.w) X.A (eval a X.env) (λv s₁=>wpAny (model X.prog X.w) X.A (eval b X.env) (λu s₂=>wpAny (model X.prog X.w) X.A (f v u) Q X.xe s₂) X.xe s₁) X.xe s:=by
 refine A7 (ha pins s σ H _ I h) λv s1 ⟨x,H1,I1,r1,q1⟩=>?_
 refine A7 (hb pins s1 σ H1 _ I1 q1) λu s2 ⟨y,H2,I2,r2,q2⟩=>?_
 exact hf v u s2 x y H2 I2 r1 r2 q2
def WS (i:Nat):TE:=λσ H Q=>∃v,σ[i]?=some (some v)/\Q v H
def tC (v:V):TE:=λ_ H Q=>Q v H
theorem XB {i:Nat}{x:Str}{pos:Pos}(hN:X.N[i]?=some x)(hv:ar X.env.scope x)(hd:(x == ("__debug__":Str))=false:=by decide)(hcd:(x == ("__classdict__":Str))=false:=by decide):PE X (.Name x pos) (WS i):=by
 intro pins s σ H Q I h;obtain⟨v,e,h⟩:=h;obtain⟨m,hn,hl⟩:=I.loc;obtain⟨u,r,l⟩:=hl i x v hN e hv;have fin:EP X pins σ Q u s:=⟨v,H,I,r,h⟩
 rcases l with⟨hk,hm⟩|⟨hk,c,hc,hcell⟩
 ·exact wpAny_Name (wpAny_loadName_local I.ok.kind hk hn hm fin) hd
 ·rcases hk with hk|hk
  ·exact wpAny_Name (wpAny_loadName_cell I.ok.kind hk hc hcell fin) hd
  ·exact wpAny_Name (wpAny_loadName_free I.ok.kind hk hc hcell fin hcd) hd
theorem Ak {i j pos}:PE X (.Constant (.int i) j pos) (tC (.int i)):=λ_ _ _ H _ I h=>iu ⟨.int i,H,I.tok _,⟨_,rfl⟩,h⟩
theorem Hv {b j pos}:PE X (.Constant (.bool b) j pos) (tC (.bl b)):=λ_ _ _ H _ I h=>Constant_bool ⟨.bl b,H,I,rfl,h⟩
theorem EB {j pos}:PE X (.Constant .none j pos) (tC .non):=λ_ _ _ H _ I h=>Constant_none ⟨.non,H,I,rfl,h⟩
theorem HI {x j pos}:PE X (.Constant (.str x) j pos) (tC (.str x)):=λ_ _ _ H _ I h=>Calls.Constant_str ⟨.str x,H,I.tok _,⟨_,rfl⟩,h⟩
def Gl (X:Cx)(x:Str):Prop:=X.env.kindOf x=some .globalImplicit
theorem GS {E:Value->Shared->Prop} {pins:List (Addr×Obj)} {s:Shared} {σ:St} {H:Hp} {x:Str} {u:Value} {pos:Pos} {Q:Value->Shared->Prop} (I:Inv X pins σ H s) (hg:Gl X x) (hm:X.mg x=some u) (h:Q u s)
  (hd:(x == ("__debug__":Str))=false:=by decide):wpAny (model X.prog X.w) X.A (eval (.Name x pos) X.env) Q E s:=
 jn I.ok.kind hg (Calls.loadGlobal_global (by rw[I.ok.glob];exact I.mod.glob.keeps I.bk) hm h) hd
theorem Jt {E:Value->Shared->Prop} {pins:List (Addr×Obj)} {s:Shared} {σ:St} {H:Hp} {x:Str} {u:Value} {pos:Pos} {Q:Value->Shared->Prop} (I:Inv X pins σ H s) (hg:Gl X x) (hm:X.mg x=none) (hv:bootBuiltins x=some u) (h:Q u s)
  (hn:x≠"__name__":=by decide) (hd:(x == ("__debug__":Str))=false:=by decide):wpAny (model X.prog X.w) X.A (eval (.Name x pos) X.env) Q E s:=by
 obtain⟨mb,h1,h2⟩:=I.mod.blt;exact jn I.ok.kind hg (Calls.loadGlobal_builtin (by rw[I.ok.glob];exact I.mod.glob.keeps I.bk) hm (by rw[I.ok.blt];exact h1.keeps I.bk) ((h2 x hn).trans hv) h) hd
theorem Og {x:Str}{v:V}{u:Value}{pos:Pos}(hg:Gl X x)(hm:X.mg x=some u)(r:RelV v u)(hd:(x == ("__debug__":Str))=false:=by decide):PE X (.Name x pos) (tC v):=
 λ_ _ _ H _ I h=>GS I hg hm ⟨v,H,I,r,h⟩ hd
theorem Wv {x:Str}{v:V}{u:Value}{pos:Pos}(hg:Gl X x)(hm:X.mg x=none)(hv:bootBuiltins x=some u)(r:RelV v u)(hn:x≠"__name__":=by decide)(hd:(x == ("__debug__":Str))=false:=by decide):PE X (.Name x pos) (tC v):=
 λ_ _ _ H _ I h=>Jt I hg hm hv ⟨v,H,I,r,h⟩ hn hd
variable {a b:Expr}{ta tb:TE}{pos:Pos}
def PC (X:Cx)(op:CmpOp)(a b:Expr)(t:TE):Prop:=
 ∀(pins:List (Addr×Obj)) (s:Shared) (σ:St) (H:Hp) (Q:VK),Inv X pins σ H s->t σ H Q->
  wpAny (model X.prog X.w) X.A (eval a X.env) (λv s₁=>wpAny (model X.prog X.w) X.A (eval b X.env) (λu s₂=>wpAny (model X.prog X.w) X.A (compareOp op v u) (EP X pins σ Q) X.xe s₂) X.xe s₁) X.xe s
theorem CH (b:Expr){op:CmpOp}(h:op≠.In)(h2:op≠.NotIn):behindInMarks op b=false:=by
 have e1:(op == CmpOp.In)=false:=by cases op<;>first|rfl|exact absurd rfl h
 have e2:(op == CmpOp.NotIn)=false:=by cases op<;>first|rfl|exact absurd rfl h2
 cases b<;>simp[behindInMarks,e1,e2]
def au (ta:TE):TE:=λσ H Q=>ta σ H λx H1=>Q (.bl (decide (x=.non))) H1
def ZD (ta:TE):TE:=λσ H Q=>ta σ H λx H1=>Q (.bl (!decide (x=.non))) H1
theorem RelV.none_iff {x:V}{v:Value}(r:RelV x v):(v == Value.none)=decide (x=.non):=by
 cases x with
 |non=>cases r;rfl
 |bl _=>cases r;rfl
 |int _=>obtain⟨t,rfl⟩:=r;rfl
 |str _=>obtain⟨t,rfl⟩:=r;rfl
 |byt _=>obtain⟨t,rfl⟩:=r;rfl
 |flt _=>obtain⟨t,rfl⟩:=r;rfl
 |ref _=>cases r;rfl
 |ty _=>cases r;rfl
theorem Mv {j pos'}(ha:PE X a ta):PC X .Is a (.Constant .none j pos') (au ta):=by
 intro pins s σ H Q I h;refine A7 (ha pins s σ H _ I h) λv s1 ⟨x,H1,I1,r1,q1⟩=>?_
 exact Constant_none (is_none_gen ⟨.bl _,H1,I1,by rw[r1.none_iff];rfl,q1⟩)
theorem O0 {j pos'}(ha:PE X a ta):PC X .IsNot a (.Constant .none j pos') (ZD ta):=by
 intro pins s σ H Q I h;refine A7 (ha pins s σ H _ I h) λv s1 ⟨x,H1,I1,r1,q1⟩=>?_
 exact Constant_none (isnot_none_gen ⟨.bl _,H1,I1,by rw[r1.none_iff];rfl,q1⟩)
def tB (t:TE):TT:=λσ H Q=>t σ H λx H1=>∃c,x=.bl c/\Q c H1
theorem FE {op:CmpOp}{t:TE}(h:PC X op a b t)(h1:behindInMarks op b=false:=by first|exact CH _ (by decide) (by decide)|rfl):PT X (.Compare a [op] [b] pos) (tB t):=by
 intro pins s σ H Q I hw;refine wpAny_isTrue_Compare1 (A7 (h pins s σ H _ I hw) λv s1 h1=>A7 h1 λu s2 h2=>A7 h2 λc s3 ⟨x,H1,I1,r1,q1⟩=>?_) h1;obtain⟨d,rfl,q⟩:=q1;cases r1;exact dh ⟨H1,I1,q⟩
theorem Bz {e:Expr}{t:TE}(h:PE X e t)(he:∀whole,isTrue e X.env whole=(do let v <-whole;standAt e.pos;holding [v] (truthy v)):=by intro _;rfl):PT X e (tB t):=by
 intro pins s σ H Q I hw;refine isTrue_plain (A7 (h pins s σ H _ I hw) λv s1 ⟨x,H1,I1,r1,q1⟩=>?_) (he _);obtain⟨d,rfl,q⟩:=q1;cases r1;exact dh ⟨H1,I1,q⟩
variable {tA tB':TT}{rest:List Expr}
def Z5 (t u:TT):TT:=λσ H Q=>t σ H λc H1=>if c=true then u σ H1 Q else Q false H1
def bp (t u:TT):TT:=λσ H Q=>t σ H λc H1=>if c=true then Q true H1 else u σ H1 Q
def ay (t:TT):TT:=λσ H Q=>t σ H λc H1=>Q (!c) H1
theorem Oa (ha:PT X a tA):PW X (.BoolOp .And [a] pos) tA:=by
 intro wh pins s σ H Q I h;refine isTrue_and (A7 (ha pins s σ H Q I h) λc s1 e=>?_);cases c with
 |true=>exact isTrue_and_nil e
 |false=>exact e
theorem Fq (ha:PT X a tA):PW X (.BoolOp .Or [a] pos) tA:=by
 intro wh pins s σ H Q I h;refine isTrue_or (A7 (ha pins s σ H Q I h) λc s1 e=>?_);cases c with
 |false=>exact isTrue_or_nil e
 |true=>exact e
theorem RH (ha:PT X a tA)(hb:PW X (.BoolOp .And (b::rest) pos) tB'):PW X (.BoolOp .And (a::b::rest) pos) (Z5 tA tB'):=by
 intro wh pins s σ H Q I h;refine isTrue_and (A7 (ha pins s σ H _ I h) λc s1 ⟨H1,I1,q1⟩=>?_);cases c with
 |true=>exact hb wh pins s1 σ H1 Q I1 q1
 |false=>exact⟨H1,I1,q1⟩
theorem GG (ha:PT X a tA)(hb:PW X (.BoolOp .Or (b::rest) pos) tB'):PW X (.BoolOp .Or (a::b::rest) pos) (bp tA tB'):=by
 intro wh pins s σ H Q I h;refine isTrue_or (A7 (ha pins s σ H _ I h) λc s1 ⟨H1,I1,q1⟩=>?_);cases c with
 |true=>exact⟨H1,I1,q1⟩
 |false=>exact hb wh pins s1 σ H1 Q I1 q1
theorem BZ (ha:PT X a tA):PT X (.UnaryOp .Not a pos) (ay tA):=by
 intro pins s σ H Q I h;exact isTrue_not (ha pins s σ H (λc H1=>Q (!c) H1) I h)
def Xm (ta tb:TE):TE:=λσ H Q=>ta σ H λx H1=>∃c,x=.bl c/\if c=true then tb σ H1 Q else Q (.bl false) H1
def Zu (ta:TE):TE:=λσ H Q=>ta σ H λx H1=>∃c,x=.bl c/\Q (.bl (!c)) H1
theorem Gf {op}{t:TE}(h:PE X a t):PE X (.BoolOp op [a] pos) t:=λpins s σ H Q I hw=>BoolOp_one (h pins s σ H Q I hw)
theorem EF (ha:PE X a ta)(hb:PE X (.BoolOp .And (b::rest) pos) tb):PE X (.BoolOp .And (a::b::rest) pos) (Xm ta tb):=by
 intro pins s σ H Q I h;refine BoolOp_and (A7 (ha pins s σ H _ I h) λv s1 ⟨x,H1,I1,r1,q1⟩=>?_);obtain⟨c,rfl,q1⟩:=q1;cases r1;refine dh ?_;cases c with
 |true=>exact hb pins s1 σ H1 Q I1 q1
 |false=>exact⟨.bl false,H1,I1,rfl,q1⟩
theorem YZ (ha:PE X a ta):PE X (.UnaryOp .Not a pos) (Zu ta):=by
 intro pins s σ H Q I h;refine UnaryOp_ (A7 (ha pins s σ H _ I h) λv s1 ⟨x,H1,I1,r1,q1⟩=>?_);obtain⟨c,rfl,q1⟩:=q1;cases r1;exact not_of (dh ⟨.bl (!c),H1,I1,rfl,q1⟩)
def bA (t:TT)(ta tb:TE):TE:=λσ H Q=>t σ H λc H1=>if c=true then ta σ H1 Q else tb σ H1 Q
theorem Qa {c:Expr}(hc:PT X c tA)(ha:PE X a ta)(hb:PE X b tb):PE X (.IfExp c a b pos) (bA tA ta tb):=by
 intro pins s σ H Q I h;refine wpAny_IfExp (A7 (hc pins s σ H _ I h) λd s1 ⟨H1,I1,q1⟩=>?_);cases d with
 |true=>exact ha pins s1 σ H1 Q I1 q1
 |false=>exact hb pins s1 σ H1 Q I1 q1
end
def AQ (K:PySem.W.Frag)(H:Hp)(a:Addr)(xs:List V):Prop:=
 Rd H a (.lst xs)\/
  ∃(o:Obj) (its:Array Value) (n:Nat),K.lookup a=some o/\o.cls=.type "list"/\o.dict=none/\o.data=.seq its n/\its.size<=sizeLine/\AF xs its.toList
def AS (K:PySem.W.Frag)(H:Hp)(a:Addr)(xs:List V):Prop:=
 Rd H a (.tup xs)\/
  ∃(o:Obj) (its:Array Value) (n:Nat),K.lookup a=some o/\o.cls=.type "tuple"/\o.data=.seq its n/\its.size<=sizeLine/\AF xs its.toList
def aw:Value->Option V
 | .none=>some .non
 | .bool b=>some (.bl b)
 | .int i _=>some (.int i)
 | .str x _=>some (.str x)
 | .bytes b _=>some (.byt b)
 | .float b _=>some (.flt b)
 | .ref a=>some (.ref a)
 | .type n=>some (.ty n)
 |_=>none
theorem RelV.abs {x:V}{u:Value}(r:RelV x u):aw u=some x:=by
 cases x with
 |non=>cases r;rfl
 |bl _=>cases r;rfl
 |int _=>obtain⟨t,rfl⟩:=r;rfl
 |str _=>obtain⟨t,rfl⟩:=r;rfl
 |byt _=>obtain⟨t,rfl⟩:=r;rfl
 |flt _=>obtain⟨t,rfl⟩:=r;rfl
 |ref _=>cases r;rfl
 |ty _=>cases r;rfl
theorem RelV.inj {x y:V}{u:Value}(r:RelV x u)(q:RelV y u):x=y:=bO (r.abs.symm.trans q.abs)
theorem AF.inj:∀{xs ys:List V} {us:List Value},AF xs us->AF ys us->xs=ys
 |_,_,_,.nil,.nil=>rfl
 |_,_,_,.cons r t,.cons r' t'=>by rw[r.inj r',AF.inj t t']
section
variable {X:Cx}{pins:List (Addr×Obj)}{σ:St}{H:Hp}{s:Shared}{a:Addr}{xs ys:List V}
theorem AQ.of {K:PySem.W.Frag}(h:H a=some (.lst xs)):AQ K H a xs:=.inl (.inl h)
theorem AS.of {K:PySem.W.Frag}(h:H a=some (.tup xs)):AS K H a xs:=.inl (.inl h)
theorem Inv.list (I:Inv X pins σ H s)(h:AQ X.K H a xs):∃its:List Value,AF xs its/\PlainL s.heap a its.toArray/\xs.length<=sizeLine:=by
 rcases h with h|⟨o,its,n,hk,hc,hd,hs,hz,r⟩
 ·obtain⟨z,its,n,r,e⟩:=h.ok I.hok;exact⟨its,r,⟨_,n,e,rfl,rfl,rfl⟩,z⟩
 ·refine⟨its.toList,r,⟨o,n,I.kIn a o hk,hc,hd,by simpa using hs⟩,?_⟩;have e:=r.length;simp only[Array.length_toList] at e;omega
theorem Inv.tuple (I:Inv X pins σ H s)(h:AS X.K H a xs):∃its:List Value,AF xs its/\IsTup s.heap a its.toArray/\xs.length<=sizeLine:=by
 rcases h with h|⟨o,its,n,hk,hc,hs,hz,r⟩
 ·obtain⟨z,its,r,p⟩:=h.ok I.hok;exact⟨its,r,p.is,z⟩
 ·refine⟨its.toList,r,⟨o,I.kIn a o hk,hc,n,by simpa using hs⟩,?_⟩;have e:=r.length;simp only[Array.length_toList] at e;omega
theorem Inv.list_inj (I:Inv X pins σ H s)(h:AQ X.K H a xs)(h':AQ X.K H a ys):xs=ys:=by
 obtain⟨its,r,⟨o,n,e,_,_,d⟩,_⟩:=I.list h;obtain⟨its',r',⟨o',n',e',_,_,d'⟩,_⟩:=I.list h';rw[e] at e';cases e';rw[d] at d';injection d' with d1 _
 have:its=its':=by simpa using congrArg Array.toList d1
 subst this;exact r.inj r'
theorem Inv.tuple_inj (I:Inv X pins σ H s)(h:AS X.K H a xs)(h':AS X.K H a ys):xs=ys:=by
 obtain⟨its,r,⟨o,e,_,n,d⟩,_⟩:=I.tuple h;obtain⟨its',r',⟨o',e',_,n',d'⟩,_⟩:=I.tuple h';rw[e] at e';cases e';rw[d] at d';injection d' with d1 _
 have:its=its':=by simpa using congrArg Array.toList d1
 subst this;exact r.inj r'
end
abbrev Cx.wish (X:Cx)(E:Value->Shared->Prop):Cx:={ X with xe:=E }
abbrev Cx.nox (X:Cx):Cx:=X.wish λ_ _=>False
theorem Cx.Ok.wish {X:Cx}(ok:X.Ok)(E:Value->Shared->Prop):(X.wish E).Ok:=
 ⟨ok.mod,ok.kind,ok.glob,ok.blt,ok.above,ok.inj,ok.has,ok.cab,ok.hd,ok.frames,ok.stk,ok.exf,ok.bs,ok.bsz,ok.noex,ok.exfs,ok.funs,ok.frf⟩
theorem Cx.Ok.unwish {X:Cx}{E:Value->Shared->Prop}(ok:(X.wish E).Ok):X.Ok:=
 ⟨ok.mod,ok.kind,ok.glob,ok.blt,ok.above,ok.inj,ok.has,ok.cab,ok.hd,ok.frames,ok.stk,ok.exf,ok.bs,ok.bsz,ok.noex,ok.exfs,ok.funs,ok.frf⟩
section
variable {X:Cx}{pins:List (Addr×Obj)}{σ:St}{H:Hp}{s:Shared}{E:Value->Shared->Prop}
theorem Inv.wish (I:Inv X pins σ H s)(E:Value->Shared->Prop):Inv (X.wish E) pins σ H s:=⟨I.ok.wish E,I.os,I.bare,I.base,I.loc,I.cell,I.free,I.freeC,I.pin,I.hok,I.len⟩
theorem Inv.unwish (I:Inv (X.wish E) pins σ H s):Inv X pins σ H s:=⟨I.ok.unwish,I.os,I.bare,I.base,I.loc,I.cell,I.free,I.freeC,I.pin,I.hok,I.len⟩
theorem SP.unwish {D:Ends}{f:Flow}{s':Shared}(h:SP (X.wish E) pins D f s'):SP X pins D f s':=by
 cases f with
 |next=>obtain⟨σ',H',I,q⟩:=h;exact⟨σ',H',I.unwish,q⟩
 |brk=>obtain⟨σ',H',I,q⟩:=h;exact⟨σ',H',I.unwish,q⟩
 |cont=>obtain⟨σ',H',I,q⟩:=h;exact⟨σ',H',I.unwish,q⟩
 |ret u=>obtain⟨v,σ',H',I,r,q⟩:=h;exact⟨v,σ',H',I.unwish,r,q⟩
theorem Pb.nox {st:List Stmt}{t:TS}(h:Pb X.nox st t):Pb X st t:=λpins s σ H D I hw=>
 cD (h pins s σ H D (I.wish _) hw) (λ_ _ q=>q.unwish) λ_ _ z=>False.elim z
end
section
variable {X:Cx}{st:Stmt}{rest:List Stmt}{t u:TS}{e:Expr}{te:TE}{pos:Pos}
def L1:TS:=λD σ H=>D.nx σ H
def OI (t u:TS):TS:=λD σ H=>t { D with nx:=u D } σ H
theorem Ay:Pb X [] L1:=λ_ _ σ H _ I h=>eP ⟨σ,H,I,h⟩
theorem Ai (h1:PS X st t)(h2:Pb X rest u):Pb X (st::rest) (OI t u):=by
 intro pins s σ H D I h;refine fQ (A7 (h1 pins s σ H { D with nx:=u D } I h) λf s1 q=>?_);cases f with
 |next=>
  obtain⟨σ',H',I',q⟩:=q;exact h2 pins s1 σ' H' D I' q
 |ret v=>exact q
 |brk=>exact q
 |cont=>exact q
theorem Al (h1:PS X st t):Pb X [st] t:=by
 intro pins s σ H D I h;refine fQ (A7 (h1 pins s σ H D I h) λf s1 q=>?_);cases f with
 |next=>exact eP q
 |ret v=>exact q
 |brk=>exact q
 |cont=>exact q
theorem Inv.quiet {pins:List (Addr×Obj)}{σ:St}{H:Hp}{s:Shared}(I:Inv X pins σ H s):interactive X.env=false:=by simp[interactive,I.ok.kind]
def Zg (te:TE):TS:=λD σ H=>te σ H λ_ H1=>D.nx σ H1
theorem BN (he:PE X e te)(hs:swapsWith e none pos.line X.env=pure false:=by rfl):PS X (.Expr e pos) (Zg te):=by
 intro pins s σ H D I h;exact wpAny_Expr_any (A7 (he pins s σ H _ I h) λv s1 ⟨x,H1,I1,r1,q1⟩=>⟨σ,H1,I1,q1⟩) I.quiet hs
def aC (te:TE):TS:=λD σ H=>te σ H D.rt
theorem Aq (he:PE X e te):PS X (.Return (some e) pos) (aC te):=by
 intro pins s σ H D I h;exact wpAny_Return_some (A7 (he pins s σ H _ I h) λv s1 ⟨x,H1,I1,r1,q1⟩=>⟨x,σ,H1,I1,r1,q1⟩)
def P8 (c:TT)(t u:TS):TS:=λD σ H=>c σ H λb H1=>if b=true then t D σ H1 else u D σ H1
theorem AR {c:Expr}{a b:List Stmt}{tc:TT}(hc:PT X c tc)(ha:Pb X a t)(hb:Pb X b u):PS X (.If c a b pos) (P8 tc t u):=by
 intro pins s σ H D I h;refine wpAny_If (A7 (hc pins s σ H _ I h) λd s1 ⟨H1,I1,q1⟩=>?_);cases d with
 |true=>exact ha pins s1 σ H1 D I1 q1
 |false=>exact hb pins s1 σ H1 D I1 q1
def YD:TS:=λ_ _ _=>False
theorem Fs:PS X st YD:=λ_ _ _ _ _ _ h=>h.elim
end
abbrev TG:=V->St->Hp->(St->Hp->Prop)->Prop
abbrev Xr:=List V->St->Hp->(St->Hp->Prop)->Prop
def PG (X:Cx)(target:Expr)(t:TG):Prop:=
 ∀(pins:List (Addr×Obj)) (s:Shared) (σ:St) (H:Hp) (v:V) (u:Value) (Q:St->Hp->Prop),Inv X pins σ H s->RelV v u->t v σ H Q->
  wpAny (model X.prog X.w) X.A (assign target X.env u) (λ_ s'=>∃σ' H',Inv X pins σ' H' s'/\Q σ' H') X.xe s
def Y6 (X:Cx)(ts:List Expr)(t:Xr):Prop:=
 ∀(pins:List (Addr×Obj)) (s:Shared) (σ:St) (H:Hp) (vs:List V) (us:List Value) (Q:St->Hp->Prop),Inv X pins σ H s->AF vs us->t vs σ H Q->
  wpAny (model X.prog X.w) X.A (assignInOrder ((assignEach ts X.env).map (·.2)) us) (λ_ s'=>∃σ' H',Inv X pins σ' H' s'/\Q σ' H') X.xe s
abbrev X7:=V->V->V->Hp->(Hp->Prop)->Prop
def ZO (X:Cx)(t:X7):Prop:=
 ∀(pins:List (Addr×Obj)) (s:Shared) (σ:St) (H:Hp) (o i v:V) (ov iv u:Value) (Q:Hp->Prop),Inv X pins σ H s->RelV o ov->RelV i iv->RelV v u->t o i v H Q->
  wpAny (model X.prog X.w) X.A (setItem ov iv u) (λ_ s'=>∃H',Inv X pins σ H' s'/\Q H') X.xe s
section
variable {X:Cx}{pos:Pos}
def FA (i:Nat):TG:=λv σ H Q=>Q (σ.set i (some v)) H
theorem As {i:Nat}{x:Str}(hN:X.N.Nodup)(hi:X.N[i]?=some x)(hx:Loc X.env.scope x)(hf:X.fn x=true\/X.env.scope.names.lookup x=some .local:=by first|exact .inl rfl|exact .inr rfl|assumption):PG X (.Name x pos) (FA i):=by
 intro pins s σ H v u Q I r h;exact wpAny_assign_Name (HS I hN hi hx r (λs' I'=>⟨_,H,I',h⟩) hf)
def Z9:Xr:=λvs σ H Q=>vs=[]/\Q σ H
def Ub (t:TG)(u:Xr):Xr:=λvs σ H Q=>∃v r,vs=v::r/\t v σ H λσ' H'=>u r σ' H' Q
theorem FS:Y6 X [] Z9:=by
 intro pins s σ H vs us Q I r h;obtain⟨e,h⟩:=h;subst e;cases r;exact assignInOrder_nil ⟨σ,H,I,h⟩
theorem AZ {e:Expr} {es:List Expr} {t:TG} {u:Xr} (h1:PG X e t) (h2:Y6 X es u)
  (hs:(assignEach (e::es) X.env).map (·.2)=assign e X.env::(assignEach es X.env).map (·.2):=by rfl):Y6 X (e::es) (Ub t u):=by
 intro pins s σ H vs us Q I r h;obtain⟨v,vr,e1,h⟩:=h;subst e1;cases r with
 |cons r rr=>
  rw[hs];refine assignInOrder_cons (A7 (h1 pins s σ H _ _ _ I r h) λ_ s1 ⟨σ1,H1,I1,q1⟩=>?_);exact h2 pins s1 σ1 H1 _ _ Q I1 rr q1
def X8 (K:PySem.W.Frag)(n:Nat)(t:Xr):TG:=λv σ H Q=>∃a xs,v=.ref a/\AS K H a xs/\xs.length=n/\t xs σ H Q
theorem Pn {es:List Expr} {k:Nat} {t:Xr} {n:Nat} (hc:X.calm=true) (h:Y6 X es t)
  (hn:(assignEach es X.env).length=n:=by rfl) (hst:(assignEach es X.env).findIdx? (·.1)=none:=by rfl):PG X (.Tuple es k pos) (X8 X.K n t):=by
 intro pins s σ H v u Q I r hw;obtain⟨a,xs,e1,hq,hl,hw⟩:=hw;subst e1;cases r;obtain⟨its,rv,ht,hz⟩:=I.tuple hq;refine assign_Tuple_tuple (I.ok.hd hc) ht (by simp[hn,<-hl,rv.length]) hst λh' hx=>?_
 have I1:Inv X pins σ H { s with heap:=h' }:=I.kept (t':=s.toks) λb o e=>hx b o (cn (bU e)) e
 exact h pins _ σ H xs _ Q I1 (by simpa using rv) hw
def az (to ti:TE)(t:X7):TG:=λv σ H Q=>to σ H λo H1=>ti σ H1 λi H2=>t o i v H2 λH3=>Q σ H3
theorem YQ {o i:Expr} {to ti:TE} {t:X7} (ho:PE X o to) (hi:PE X i ti) (hs:ZO X t)
  (ha:∀v,assign (.Subscript o i pos) X.env v=(do
   let ov <-holding [v] (eval o X.env)
   let iv <-holding [v,ov] (eval i X.env)
   standAt pos
   holding [v,ov,iv] (setItem ov iv v)
   release [v,ov,iv] []):=by intro _;rfl):PG X (.Subscript o i pos) (az to ti t):=by
 intro pins s σ H v u Q I r h;rw[ha];refine bD (cK (A7 (ho pins s σ H _ I h) λov s1 ⟨x,H1,I1,r1,q1⟩=>?_));refine bD (cK (A7 (hi pins s1 σ H1 _ I1 q1) λiv s2 ⟨y,H2,I2,r2,q2⟩=>?_));refine bD (fg (bD (cK (A7 (hs pins s2 σ H2 x y v ov iv u _ I2 r1 r2 r q2) λ_ s3 ⟨H3,I3,q3⟩=>?_))));exact wpAny_release ⟨σ,H3,I3,q3⟩
def Um (te:TE)(g:TG):TS:=λD σ H=>te σ H λx H1=>g x σ H1 D.nx
theorem YX {tg e:Expr} {te:TE} {g:TG} (he:PE X e te) (hg:PG X tg g) (hs:swapsWithSole [tg] e pos.line X.env=pure false:=by rfl) (hw:swappedStores [tg] e X.env=pure none:=by rfl)
  (h1:(assignEach [tg] X.env).map (·.2)=[assign tg X.env]:=by rfl):PS X (.Assign [tg] e pos) (Um te g):=by
 intro pins s σ H D I h;refine wpAny_Assign_stores (A7 (he pins s σ H _ I h) λv s1 ⟨x,H1,I1,r1,q1⟩=>?_) hs hw;rw[h1];exact A7 (hg pins s1 σ H1 x v _ I1 r1 q1) λ_ s2 q=>q
theorem AB {i:Nat}{x:Str}{e:Expr}{te:TE}{pos':Pos}(hN:X.N.Nodup)(hi:X.N[i]?=some x)(hx:Loc X.env.scope x)(he:PE X e te)(hs:swapsWith e (some (.Name x pos')) pos.line X.env=pure false:=by rfl)(hf:X.fn x=true\/X.env.scope.names.lookup x=some .local:=by first|exact .inl rfl|exact .inr rfl|assumption) :
  PS X (.Assign [.Name x pos'] e pos) (Um te (FA i)):=by
 intro pins s σ H D I h;refine wpAny_Assign_Name (A7 (he pins s σ H _ I h) λv s1 ⟨y,H1,I1,r1,q1⟩=>?_) hs;exact HS I1 hN hi hx r1 (λs2 I2=>⟨_,H1,I2,q1⟩) hf
end
section
variable {X:Cx}{pos:Pos}
def Yj (c:TT)(tb:TS):TS:=λD σ H=>∃W:Nat->St->Hp->Prop,(∃m,W m σ H)/\∀m σ H,W m σ H->
 c σ H λb H1=>if b=true then ∃N:St->Hp->Prop,(∀σ' H',N σ' H'->∃m',m'<m/\W m' σ' H')/\tb { D with nx:=N,ct:=N,bk:=D.nx } σ H1 else D.nx σ H1
theorem Vg {c:Expr}{body:List Stmt}{tc:TT}{tb:TS}(hp:PassesOwn (model X.prog X.w) X.A X.env X.xe)(hc:PT X c tc)(hb:Pb X body tb):PS X (.While c body [] pos) (Yj tc tb):=by
 intro pins s σ H D I h;obtain⟨W,⟨m0,w0⟩,turn⟩:=h;refine wpAny_While (codeAny_whileLoop (λn s'=>∃σ' H',Inv X pins σ' H' s'/\W n σ' H') ?_ m0 ⟨σ,H,I,w0⟩)
 rintro n s1 ⟨σ1,H1,I1,w1⟩
 refine eM hp (A7 (hc pins s1 σ1 H1 _ I1 (turn n σ1 H1 w1)) λb s2 ⟨H2,I2,q2⟩=>?_);cases b with
 |true=>
  obtain⟨N,hN,q2⟩:=q2;rw[bV rfl];refine eM hp (A7 (hb pins s2 σ1 H2 _ I2 q2) λf s3 q3=>?_);cases f with
  |next=>
   obtain⟨σ3,H3,I3,n3⟩:=q3;obtain⟨m',hm,w3⟩:=hN σ3 H3 n3;exact⟨m',hm,σ3,H3,I3,w3⟩
  |cont=>
   obtain⟨σ3,H3,I3,n3⟩:=q3;obtain⟨m',hm,w3⟩:=hN σ3 H3 n3;exact⟨m',hm,σ3,H3,I3,w3⟩
  |brk=>exact q3
  |ret v=>exact q3
 |false=>
  rw[bP bN];exact eP ⟨σ1,H2,I2,q2⟩
end
structure It where
 go:Nat->Hp->Prop
 yld:Nat->Hp->V->Hp->Prop
 stop:Nat->Hp->Prop
def Ja (X:Cx)(pins:List (Addr×Obj))(H:Hp)(b:Addr):Prop:=
 H b=none/\b≠X.env.locals/\b∉X.fs/\(b∈X.ex\/X.s₀.heap.objs.size<=b)/\(∀x c,X.env.cells.lookup x=some c->c≠b)/\∀p∈X.pn++pins,p.1≠b
theorem Inv.fpOk {X:Cx}{pins:List (Addr×Obj)}{σ:St}{H H':Hp}{s:Shared}{b:Addr}(I:Inv X pins σ H s)(hb:s.heap.objs.size<=b)(hn:H' b=none):Ja X pins H' b:=by
 refine⟨hn,gF (cB I.lt hb),I.nofs hb,.inr (cA I.sz hb),λx c e z=>?_,λp hp z=>?_⟩
 ·obtain⟨v,q⟩:=I.cell x c e;exact absurd (cB q.lt (by rw[z];exact hb)) (d8 _)
 ·exact absurd (cB (bU (I.pin p hp).1) (by rw[z];exact hb)) (d8 _)
structure Turn (P:Program) (w:World) (K:PySem.W.Frag) (tg:Expr) (J:It) (fp:List Addr) (it:Addr) (tn:Nat->Heap->Prop):Prop where
 mem:it∈fp
 obj:∀i h,tn i h->∀b∈fp,∃o,h.get? b=some o/\∀v,o.data≠.cell v
 keep:∀i h h',tn i h->(∀b∈fp,∀o,h.get? b=some o->h'.get? b=some o)->tn i h'
 item:∀(X:Cx),X.prog=P->X.w=w->X.K=K->X.calm=true->∀(i:Nat) (pins:List (Addr×Obj)) (s:Shared) (σ:St) (H:Hp) (E:Value->Shared->Prop),Inv X pins σ H s->(∀b∈fp,Ja X pins H b)->tn i s.heap->J.go i H->
  wpAny (model P w) X.A (pyNext (.ref it)) (λr s1=>∃u,r=some u/\
   wpAny (model P w) X.A (letOwnedTupleGo tg (.ref it) u) (λ_ s2=>∃x H',Inv X pins σ H' s2/\RelV x u/\J.yld i H x H'/\tn (i+1) s2.heap/\∀b∈fp,H' b=none) E s1) E s
 done:∀(X:Cx),X.prog=P->X.w=w->X.K=K->X.calm=true->∀(i:Nat) (pins:List (Addr×Obj)) (s:Shared) (σ:St) (H:Hp) (E:Value->Shared->Prop),Inv X pins σ H s->(∀b∈fp,Ja X pins H b)->tn i s.heap->J.stop i H->
  wpAny (model P w) X.A (pyNext (.ref it)) (λr s1=>r=none/\Inv X pins σ H s1) E s
 self:∀(A:Around) (i:Nat) (s:Shared) (Q:Value->Shared->Prop) (E:Value->Shared->Prop),tn i s.heap->Q (.ref it) s->wpAny (model P w) A (pyIter (.ref it)) Q E s
abbrev TI:=St->Hp->(It->Hp->Prop)->Prop
def bj (X:Cx)(pins:List (Addr×Obj))(σ:St)(tg:Expr)(R:It->Hp->Prop)(itv:Value)(s2:Shared):Prop:=
 ∃(it:Addr) (fp:List Addr) (tn:Nat->Heap->Prop) (J:It) (H':Hp),itv=.ref it/\Inv X pins σ H' s2/\Turn X.prog X.w X.K tg J fp it tn/\tn 0 s2.heap/\(∀b∈fp,Ja X pins H' b)/\R J H'
def PI (X:Cx)(tg iter:Expr)(wi:TI):Prop:=
 ∀(pins:List (Addr×Obj)) (s:Shared) (σ:St) (H:Hp) (R:It->Hp->Prop),Inv X pins σ H s->wi σ H R->
  wpAny (model X.prog X.w) X.A (eval iter X.env) (λv s1=>wpAny (model X.prog X.w) X.A (pyIter v) (bj X pins σ tg R) X.xe s1) X.xe s
theorem Mt {M:Model} {A:Around} {E:Value->Shared->Prop} {s:Shared} {tg:Expr} {it:Addr} {u:Value} {o:Obj} {n:String} {vs:Array Value} {Q:Unit->Shared->Prop} (ho:s.heap.get? it=some o) (hc:o.cls=.type n) (hd:o.data=.fields vs)
  (hn:["enumerate","zip","dict_itemiterator","dict_reverseitemiterator","odict_iterator","itertools.zip_longest","itertools.pairwise"].contains n=false) (hQ:Q () s):wpAny M A (letOwnedTupleGo tg (.ref it) u) Q E s:=by
 unfold letOwnedTupleGo;cases tg<;>first
  |exact bG hQ
  |(cases u<;>first
    |exact bG hQ
    |(refine bD (wpAny_load ho ?_)
      rw[hc,hd];show wpAny M A (if(["enumerate","zip","dict_itemiterator","dict_reverseitemiterator","odict_iterator","itertools.zip_longest","itertools.pairwise"].contains n&&vs[0]? == some (rawInt _))=true then _ else _) Q E s;rw[bP (by intro h;rw[hn,Bool.false_and] at h;cases h)];exact bG hQ))
def Y1 (K:PySem.W.Frag)(a:Addr):It:=
 ⟨λi H=>∃xs x,AQ K H a xs/\xs[i]?=some x,λi H x H'=>H'=H/\∀xs,AQ K H a xs->xs[i]?=some x,λi H=>∃xs,AQ K H a xs/\xs.length<=i⟩
def Y2 (K:PySem.W.Frag)(a:Addr):It:=
 ⟨λi H=>∃xs x,AS K H a xs/\xs[i]?=some x,λi H x H'=>H'=H/\∀xs,AS K H a xs->xs[i]?=some x,λi H=>∃xs,AS K H a xs/\xs.length<=i⟩
def V3 (lo:Int)(n:Nat):It:=⟨λi _=>i<n,λi H x H'=>H'=H/\x=.int (lo+i),λi _=>n<=i⟩
theorem TU {P:Program}{w:World}{K:PySem.W.Frag}{tg:Expr}(a it:Addr):Turn P w K tg (Y1 K a) [it] it (λi h=>h.IsListIter it a i) where
 mem:=by simp
 obj:=λi h st b hb=>by
  have e:b=it:=by simpa using hb
  subst e;obtain⟨o,e,c,d⟩:=st;exact⟨o,e,λv z=>by rw[d] at z;cases z⟩
 keep:=λi h h' st k=>st.at λo e=>k it (by simp) o e
 item:=by
  intro X hP hw hK hc i pins s σ H E I hf st hg;subst hP hw hK;obtain⟨xs,x,hq,hx⟩:=hg;obtain⟨its,rv,p,hz⟩:=I.list hq;obtain⟨u,hu,ru⟩:=rv.get hx;obtain⟨f0,f1,f2,f3,f4,f5⟩:=hf it (by simp);refine wpAny_pyNext_list_item st p.isList (x:=u) (by simpa using hu) λh' st' sb=>?_
  have I1:Inv X pins σ H { s with heap:=h' }:=I.turned (t':=s.toks) (λb o hb e=>(sb.2 b hb).trans e) f0 f1 f3 f4 f5;obtain⟨o,e,c,d⟩:=id st';exact⟨u,rfl,Mt (s:={ s with heap:=h' }) e c d (by decide) ⟨x,H,I1,ru,⟨rfl,λys hy=>by rw[I.list_inj hy hq];exact hx⟩,st',λb hb=>(hf b hb).1⟩⟩
 done:=by
  intro X hP hw hK hc i pins s σ H E I hf st hg;subst hP hw hK;obtain⟨xs,hq,hx⟩:=hg;obtain⟨its,rv,p,hz⟩:=I.list hq;obtain⟨f0,f1,f2,f3,f4,f5⟩:=hf it (by simp);have hl:=rv.length;exact wpAny_pyNext_list_end (I.ok.hd hc) st p.isList (by simp;omega) λh' eb=>⟨rfl,I.turned (t':=s.toks) (λb o hb e=>eb b o hb e) f0 f1 f3 f4 f5⟩
 self:=λ_ _ _ _ _ st h=>wpAny_pyIter_listiter st h
theorem Ra {P:Program}{w:World}{K:PySem.W.Frag}{tg:Expr}(a it:Addr):Turn P w K tg (Y2 K a) [it] it (λi h=>h.IsTupleIter it a i) where
 mem:=by simp
 obj:=λi h st b hb=>by
  have e:b=it:=by simpa using hb
  subst e;obtain⟨o,e,c,d⟩:=st;exact⟨o,e,λv z=>by rw[d] at z;cases z⟩
 keep:=λi h h' st k=>st.at λo e=>k it (by simp) o e
 item:=by
  intro X hP hw hK hc i pins s σ H E I hf st hg;subst hP hw hK;obtain⟨xs,x,hq,hx⟩:=hg;obtain⟨its,rv,p,hz⟩:=I.tuple hq;obtain⟨u,hu,ru⟩:=rv.get hx;obtain⟨f0,f1,f2,f3,f4,f5⟩:=hf it (by simp);refine wpAny_pyNext_tuple_item st (show s.heap.IsTuple a its.toArray from p) (x:=u) (by simpa using hu) λh' st' sb=>?_
  have I1:Inv X pins σ H { s with heap:=h' }:=I.turned (t':=s.toks) (λb o hb e=>(sb.2 b hb).trans e) f0 f1 f3 f4 f5;obtain⟨o,e,c,d⟩:=id st';exact⟨u,rfl,Mt (s:={ s with heap:=h' }) e c d (by decide) ⟨x,H,I1,ru,⟨rfl,λys hy=>by rw[I.tuple_inj hy hq];exact hx⟩,st',λb hb=>(hf b hb).1⟩⟩
 done:=by
  intro X hP hw hK hc i pins s σ H E I hf st hg;subst hP hw hK;obtain⟨xs,hq,hx⟩:=hg;obtain⟨its,rv,p,hz⟩:=I.tuple hq;obtain⟨f0,f1,f2,f3,f4,f5⟩:=hf it (by simp);have hl:=rv.length;exact wpAny_pyNext_tuple_end (I.ok.hd hc) st (show s.heap.IsTuple a its.toArray from p) (by simp;omega) λh' eb=>⟨rfl,I.turned (t':=s.toks) (λb o hb e=>eb b o hb e) f0 f1 f3 f4 f5⟩
 self:=λ_ _ _ _ _ st h=>wpAny_pyIter_tupleiter st h
theorem RQ {P:Program}{w:World}{K:PySem.W.Frag}{tg:Expr}(it:Addr)(lo:Int)(n:Nat):Turn P w K tg (V3 lo n) [it] it (λi h=>IsRangeIter h it (lo+(i:Nat)*1) ((n:Int)-(i:Nat)) 1) where
 mem:=by simp
 obj:=λi h st b hb=>by
  have e:b=it:=by simpa using hb
  subst e;exact⟨_,st,λv z=>by
   have z':Data.fields _=Data.cell v:=z;cases z'⟩
 keep:=λi h h' st k=>k it (by simp) _ st
 item:=by
  intro X hP hw hK hc i pins s σ H E I hf st hg;subst hP hw hK;obtain⟨f0,f1,f2,f3,f4,f5⟩:=hf it (by simp);have W:=Walks.range (prog:=X.prog) (w:=X.w) (I.ok.hd hc) it lo 1 n;refine W.item i s _ _ hg st λv h' tk hv st' kk=>?_
  obtain⟨t,rfl⟩:=hv;have I1:Inv X pins σ H { s with heap:=h',toks:=tk }:=I.turned (λb o hb e=>kk b o (by simpa using hb) e) f0 f1 f3 f4 f5;refine⟨_,rfl,Mt (s:={ s with heap:=h',toks:=tk }) (n:="range_iterator") st' rfl rfl (by decide) ⟨.int (lo+i),H,I1,⟨t,?_⟩,⟨rfl,rfl⟩,st',λb hb=>(hf b hb).1⟩⟩;rw[Int.mul_one]
 done:=by
  intro X hP hw hK hc i pins s σ H E I hf st hg;subst hP hw hK;obtain⟨f0,f1,f2,f3,f4,f5⟩:=hf it (by simp);exact wpAny_pyNext_range_end (I.ok.hd hc) st (by have:n<=i:=hg;omega) λh' eb=>⟨rfl,I.turned (t':=s.toks) (λb o hb e=>eb b o hb e) f0 f1 f3 f4 f5⟩
 self:=λ_ _ _ _ _ st h=>wpAny_pyIter_rangeiter st h
section
variable {X:Cx}{tg:Expr}
def Zi (K:PySem.W.Frag)(tl:TE):TI:=λσ H R=>tl σ H λx H1=>∃a,x=.ref a/\(∃xs,AQ K H1 a xs)/\R (Y1 K a) H1
def ba (K:PySem.W.Frag)(tl:TE):TI:=λσ H R=>tl σ H λx H1=>∃a,x=.ref a/\(∃xs,AS K H1 a xs)/\R (Y2 K a) H1
theorem Cy {l:Expr}{tl:TE}(hl:PE X l tl):PI X tg l (Zi X.K tl):=by
 intro pins s σ H R I h;refine A7 (hl pins s σ H _ I h) λv s1 ⟨x,H1,I1,r1,q1⟩=>?_
 obtain⟨a,e,⟨xs,hq⟩,q⟩:=q1;subst e;cases r1;obtain⟨its,rv,p,hz⟩:=I1.list hq;refine ef p.isList ?_;refine⟨s1.heap.objs.size,[s1.heap.objs.size],_,_,H1,rfl,I1.kept (t':=s1.toks) λb o e=>bH _ e,TU a _,⟨_,bR _ rfl,rfl,rfl⟩,λb hb=>?_,q⟩;have e:b=s1.heap.objs.size:=by simpa using hb
 subst e;exact I1.fpOk (bI _) (I1.hok.fresh (bI _))
theorem Ed {l:Expr}{tl:TE}(hl:PE X l tl):PI X tg l (ba X.K tl):=by
 intro pins s σ H R I h;refine A7 (hl pins s σ H _ I h) λv s1 ⟨x,H1,I1,r1,q1⟩=>?_
 obtain⟨a,e,⟨xs,hq⟩,q⟩:=q1;subst e;cases r1;obtain⟨its,rv,p,hz⟩:=I1.tuple hq;refine wpAny_pyIter_tuple (show s1.heap.IsTuple a its.toArray from p) ?_;refine⟨s1.heap.objs.size,[s1.heap.objs.size],_,_,H1,rfl,I1.kept (t':=s1.toks) λb o e=>bH _ e,Ra a _,⟨_,bR _ rfl,rfl,rfl⟩,λb hb=>?_,q⟩;have e:b=s1.heap.objs.size:=by simpa using hb
 subst e;exact I1.fpOk (bI _) (I1.hok.fresh (bI _))
theorem VF {pins:List (Addr×Obj)} {σ:St} {H:Hp} {s:Shared} {R:It->Hp->Prop} {E:Value->Shared->Prop} {lo hi:Int} {t u v:Tok} {tk:Nat} (I:Inv X pins σ H s) (h1:-(2^62)<=lo) (h2:lo<2^62) (h3:-(2^62)<=hi) (h4:hi<2^62)
  (q:R (V3 lo (hi-lo).toNat) H):wpAny (model X.prog X.w) X.A (pyIter (.ref s.heap.objs.size)) (bj X pins σ tg R) E { s with heap:=s.heap.push { cls:=.type "range",data:=.fields #[.int lo t,.int hi u,.int 1 v] },toks:=tk }:=by
 refine wpAny_pyIter_range (IsRange.new ..) (small_one h1 h2 h3 h4) ?_;have I1:Inv X pins σ H { s with heap:=s.heap.push { cls:=.type "range",data:=.fields #[.int lo t,.int hi u,.int 1 v] },toks:=tk }:=I.kept λb o e=>bH _ e
 refine⟨(s.heap.push { cls:=.type "range",data:=.fields #[.int lo t,.int hi u,.int 1 v] }).objs.size,[(s.heap.push { cls:=.type "range",data:=.fields #[.int lo t,.int hi u,.int 1 v] }).objs.size],_,_,H,rfl,
  I1.kept (t':=tk) λb o e=>bH _ e,RQ _ lo (hi-lo).toNat,?_,λb hb=>?_,q⟩
 ·have e1:lo+((0:Nat):Int)*1=lo:=by simp
  have e2:(((hi-lo).toNat:Nat):Int)-((0:Nat):Int)=Builtin.Range.rangeSize lo hi 1:=by rw[rangeSize_one];split<;>omega
  show IsRangeIter _ _ (lo+((0:Nat):Int)*1) ((((hi-lo).toNat:Nat):Int)-((0:Nat):Int)) 1;rw[e1,e2];exact bR _ rfl
 ·have e:b=(s.heap.push { cls:=.type "range",data:=.fields #[.int lo t,.int hi u,.int 1 v] }).objs.size:=by simpa using hb
  subst e;exact I1.fpOk (bI _) (I1.hok.fresh (bI _))
def ZI (ta:TA):TI:=λσ H R=>ta σ H λvs H1=>∃j:Int,vs=[.int j]/\-(2^62)<=j/\j<2^62/\R (V3 0 j.toNat) H1
theorem Gy {a:Expr}{ta:TA}{p pos:Pos}(hg:Gl X "range")(hm:X.mg "range"=none)(ha:PA X [a] ta)(hs:starEach [a] X.env=[(false,eval a X.env)]:=by rfl):PI X tg (.Call (.Name "range" p) [a] [] pos) (ZI ta):=by
 intro pins s σ H R I h;refine Call_ (Jt I hg hm boot_range (fS (A7 (ha pos pins s σ H _ I h) λus s1 ⟨vs,H1,I1,r1,q1⟩=>?_) hs rfl));obtain⟨j,e,q1,q2,q⟩:=q1;subst e;cases r1 with
 |cons r rr=>
  cases rr;obtain⟨t,rfl⟩:=r;exact call_range_1 (VF I1 (by omega) (by omega) q1 q2 (by simpa using q))
def aB (wi:TI)(g:TG)(tb:TS):TS:=λD σ H=>wi σ H λJ H1=>∃W:Nat->Nat->St->Hp->Prop,(∃m,W 0 m σ H1)/\∀i m σ H,W i m σ H->
 (J.stop i H/\D.nx σ H)\/(J.go i H/\∃N:St->Hp->Prop,(∀σ' H',N σ' H'->∃m',m'<m/\W (i+1) m' σ' H')/\∀x H',J.yld i H x H'->g x σ H' λσ2 H2=>tb { D with nx:=N,ct:=N,bk:=D.nx } σ2 H2)
def My (fp:List Addr)(h:Heap):List (Addr×Obj):=fp.filterMap λb=>(h.get? b).map λo=>(b,o)
theorem Hs {fp:List Addr}{h:Heap}{b:Addr}{o:Obj}(hb:b∈fp)(e:h.get? b=some o):(b,o)∈My fp h:=fY.mpr ⟨b,hb,by rw[e];rfl⟩
theorem SX {fp:List Addr}{h:Heap}{p:Addr×Obj}(hp:p∈My fp h):p.1∈fp/\h.get? p.1=some p.2:=by
 obtain⟨b,hb,e⟩:=fY.mp hp;cases q:h.get? b with
 |none=>rw[q] at e;cases e
 |some o=>
  rw[q] at e;have e':(b,o)=p:=bO e;subst e';exact⟨hb,q⟩
theorem Inv.pinned {pins:List (Addr×Obj)}{σ:St}{H:Hp}{s:Shared}{fp:List Addr}(I:Inv X pins σ H s)(hf:∀b∈fp,Ja X pins H b)(ho:∀b∈fp,∃o,s.heap.get? b=some o/\∀v,o.data≠.cell v):Inv X (pins++My fp s.heap) σ H s:=
 I.pins_of λp hp=>(cj.mp hp).elim (λz=>I.pin p (cM _ z)) λz=>by
  obtain⟨hb,e⟩:=SX z;obtain⟨f0,f1,f2,_⟩:=hf p.1 hb;obtain⟨o,e',d⟩:=ho p.1 hb;rw[e] at e';cases e';exact⟨e,f0,f1,f2,d⟩
theorem Inv.unpinned {pins pl:List (Addr×Obj)}{σ:St}{H:Hp}{s:Shared}(I:Inv X (pins++pl) σ H s):Inv X pins σ H s:=I.pins_of λp hp=>I.pin p (cM _ (jk _ hp))
theorem BM {iter:Expr} {body:List Stmt} {wi:TI} {g:TG} {tb:TS} {pos:Pos} (hp:PassesOwn (model X.prog X.w) X.A X.env X.xe) (hc:X.calm=true) (hi:PI X tg iter wi) (hg:PG X tg g) (hb:Pb X body tb)
  (hs:∀x,foldedSetIterable iter X.env x=pure x:=by intro _;rfl):PS X (.For tg iter body [] pos) (aB wi g tb):=by
 intro pins s σ H D I h;refine wpAny_For (A7 (hi pins s σ H _ I h) λv s1 h1=>A7 h1 λitv s2 h2=>?_) hs;obtain⟨it,fp,tn,J,H2,e,I2,T,st2,f2,W,⟨m0,w0⟩,turn⟩:=h2;subst e;have stat:∀{H':Hp},(∀b∈fp,H' b=none)->∀b∈fp,Ja X pins H' b:=λhn b hb=>⟨hn b hb,(f2 b hb).2⟩
 refine codeAny_forLoop_any (λn s'=>∃i σ' H',Inv X pins σ' H' s'/\tn i s'.heap/\(∀b∈fp,H' b=none)/\W i n σ' H') ?_ m0 ⟨0,σ,H2,I2,st2,λb hb=>(f2 b hb).1,w0⟩
 rintro n s3 ⟨i,σ3,H3,I3,st3,fr3,w3⟩
 rcases turn i n σ3 H3 w3 with⟨stop,qn⟩|⟨go,N,hN,step⟩
 ·refine eM hp (A7 (T.done X rfl rfl rfl hc i pins s3 σ3 H3 X.xe I3 (stat fr3) st3 stop) λr s4 ⟨hr,I4⟩=>?_);subst hr;exact eP ⟨σ3,H3,I4,qn⟩
 ·refine eM hp (A7 (T.item X rfl rfl rfl hc i pins s3 σ3 H3 X.xe I3 (stat fr3) st3 go) λr s4 ⟨u,hr,h4⟩=>?_);subst hr;refine eM hp (A7 h4 λ_ s5 z9=>?_);obtain⟨x,H5,I5,r5,y5,st5,fr5⟩:=z9;have I5':=I5.pinned (stat fr5) (T.obj _ _ st5);refine eM hp (A7 (hg _ s5 σ3 H5 x u _ I5' r5 (step x H5 y5)) λ_ s6 ⟨σ6,H6,I6,q6⟩=>?_);refine eM hp (A7 (hb _ s6 σ6 H6 _ I6 q6) λf s7 q7=>?_);have again:∀{σ7:St} {H7:Hp},Inv X (pins++My fp s5.heap) σ7 H7 s7->N σ7 H7->∃m,m<n/\∃i σ' H',Inv X pins σ' H' s7/\tn i s7.heap/\(∀b∈fp,H' b=none)/\W i m σ' H':=λ{σ7 H7} I7 n7=>by
   obtain⟨m',hm,w7⟩:=hN σ7 H7 n7;refine⟨m',hm,i+1,σ7,H7,I7.unpinned,T.keep _ _ _ st5 λb hb o e=>(I7.pin (b,o) (cM _ (cM _ (Hs hb e)))).1,λb hb=>?_,w7⟩;obtain⟨o,e,d⟩:=T.obj _ _ st5 b hb;exact(I7.pin (b,o) (cM _ (cM _ (Hs hb e)))).2.1
  cases f with
  |next=>obtain⟨σ7,H7,I7,n7⟩:=q7;exact again I7 n7
  |cont=>obtain⟨σ7,H7,I7,n7⟩:=q7;exact again I7 n7
  |brk=>obtain⟨σ7,H7,I7,q7⟩:=q7;exact⟨σ7,H7,I7.unpinned,q7⟩
  |ret v=>obtain⟨x7,σ7,H7,I7,r7,q7⟩:=q7;exact⟨x7,σ7,H7,I7.unpinned,r7,q7⟩
end
theorem CF {K:PySem.W.Frag} {a:Addr} {xs:List V} {g:TG} {tb:TS} {D:Ends} {σ:St} {H:Hp} (Pv:Nat->St->Hp->Prop) (h0:Pv 0 σ H) (hl:∀i σ H,i<=xs.length->Pv i σ H->AQ K H a xs)
  (hs:∀i x σ H,xs[i]?=some x->Pv i σ H->g x σ H λσ2 H2=>tb { D with nx:=Pv (i+1),ct:=Pv (i+1),bk:=D.nx } σ2 H2) (hd:∀σ H,Pv xs.length σ H->D.nx σ H) :
  ∃W:Nat->Nat->St->Hp->Prop,(∃m,W 0 m σ H)/\∀i m σ H,W i m σ H->
   ((Y1 K a).stop i H/\D.nx σ H)\/((Y1 K a).go i H/\∃N:St->Hp->Prop,(∀σ' H',N σ' H'->∃m',m'<m/\W (i+1) m' σ' H')/\∀x H',(Y1 K a).yld i H x H'->g x σ H' λσ2 H2=>tb { D with nx:=N,ct:=N,bk:=D.nx } σ2 H2):=by
 refine⟨λi m σ H=>m=xs.length-i/\i<=xs.length/\Pv i σ H,⟨xs.length,by simp,cE _,h0⟩,?_⟩
 rintro i m σ H ⟨rfl,hi,p⟩
 have q:=hl i σ H hi p
 by_cases hlt:i<xs.length
 ·refine .inr ⟨⟨xs,xs[i],q,by simp[hlt]⟩,Pv (i+1),λσ' H' p'=>⟨xs.length-(i+1),by omega,rfl,hlt,p'⟩,λx H' y=>?_⟩;obtain⟨e,y⟩:=y;subst e;exact hs i x σ _ (y xs q) p
 ·have e:i=xs.length:=by omega
  subst e;exact .inl ⟨⟨xs,q,bI _⟩,hd σ H p⟩
theorem IR {K:PySem.W.Frag} {a:Addr} {xs:List V} {g:TG} {tb:TS} {D:Ends} {σ:St} {H:Hp} (Pv:Nat->St->Hp->Prop) (h0:Pv 0 σ H) (hl:∀i σ H,i<=xs.length->Pv i σ H->AS K H a xs)
  (hs:∀i x σ H,xs[i]?=some x->Pv i σ H->g x σ H λσ2 H2=>tb { D with nx:=Pv (i+1),ct:=Pv (i+1),bk:=D.nx } σ2 H2) (hd:∀σ H,Pv xs.length σ H->D.nx σ H) :
  ∃W:Nat->Nat->St->Hp->Prop,(∃m,W 0 m σ H)/\∀i m σ H,W i m σ H->
   ((Y2 K a).stop i H/\D.nx σ H)\/((Y2 K a).go i H/\∃N:St->Hp->Prop,(∀σ' H',N σ' H'->∃m',m'<m/\W (i+1) m' σ' H')/\∀x H',(Y2 K a).yld i H x H'->g x σ H' λσ2 H2=>tb { D with nx:=N,ct:=N,bk:=D.nx } σ2 H2):=by
 refine⟨λi m σ H=>m=xs.length-i/\i<=xs.length/\Pv i σ H,⟨xs.length,by simp,cE _,h0⟩,?_⟩
 rintro i m σ H ⟨rfl,hi,p⟩
 have q:=hl i σ H hi p
 by_cases hlt:i<xs.length
 ·refine .inr ⟨⟨xs,xs[i],q,by simp[hlt]⟩,Pv (i+1),λσ' H' p'=>⟨xs.length-(i+1),by omega,rfl,hlt,p'⟩,λx H' y=>?_⟩;obtain⟨e,y⟩:=y;subst e;exact hs i x σ _ (y xs q) p
 ·have e:i=xs.length:=by omega
  subst e;exact .inl ⟨⟨xs,q,bI _⟩,hd σ H p⟩
theorem N2 {lo:Int} {n:Nat} {g:TG} {tb:TS} {D:Ends} {σ:St} {H:Hp} (Pv:Nat->St->Hp->Prop) (h0:Pv 0 σ H)
  (hs:∀i σ H,i<n->Pv i σ H->g (.int (lo+i)) σ H λσ2 H2=>tb { D with nx:=Pv (i+1),ct:=Pv (i+1),bk:=D.nx } σ2 H2) (hd:∀σ H,Pv n σ H->D.nx σ H) :
  ∃W:Nat->Nat->St->Hp->Prop,(∃m,W 0 m σ H)/\∀i m σ H,W i m σ H->
   ((V3 lo n).stop i H/\D.nx σ H)\/((V3 lo n).go i H/\∃N:St->Hp->Prop,(∀σ' H',N σ' H'->∃m',m'<m/\W (i+1) m' σ' H')/\∀x H',(V3 lo n).yld i H x H'->g x σ H' λσ2 H2=>tb { D with nx:=N,ct:=N,bk:=D.nx } σ2 H2):=by
 refine⟨λi m σ H=>m=n-i/\i<=n/\Pv i σ H,⟨n,by simp,cE _,h0⟩,?_⟩
 rintro i m σ H ⟨rfl,hi,p⟩
 by_cases hlt:i<n
 ·refine .inr ⟨hlt,Pv (i+1),λσ' H' p'=>⟨n-(i+1),by omega,rfl,hlt,p'⟩,λx H' y=>?_⟩;obtain⟨e,y⟩:=y;subst e y;exact hs i σ _ hlt p
 ·have e:i=n:=by omega
  subst e;exact .inl ⟨bI _,hd σ H p⟩
abbrev R2:=V->V->Hp->VK->Prop
def HH (X:Cx)(f:Value->Value->Sem Value)(r:R2):Prop:=
 ∀(pins:List (Addr×Obj)) (s:Shared) (σ:St) (H:Hp) (x y:V) (v u:Value) (Q:VK),Inv X pins σ H s->RelV x v->RelV y u->r x y H Q->
  wpAny (model X.prog X.w) X.A (f v u) (EP X pins σ Q) X.xe s
def aO (X:Cx)(f:Value->Sem Value)(r:V->Hp->VK->Prop):Prop:=
 ∀(pins:List (Addr×Obj)) (s:Shared) (σ:St) (H:Hp) (x:V) (v:Value) (Q:VK),Inv X pins σ H s->RelV x v->r x H Q->
  wpAny (model X.prog X.w) X.A (f v) (EP X pins σ Q) X.xe s
def Ei (X:Cx)(f:Value)(r:List V->Hp->VK->Prop):Prop:=
 ∀(pins:List (Addr×Obj)) (s:Shared) (σ:St) (H:Hp) (xs:List V) (us:List Value) (Q:VK),Inv X pins σ H s->AF xs us->r xs H Q->
  wpAny (model X.prog X.w) X.A (call f us) (EP X pins σ Q) X.xe s
def Xs (r:R2)(ta tb:TE):TE:=λσ H Q=>ta σ H λx H1=>tb σ H1 λy H2=>r x y H2 Q
def bz (r:V->Hp->VK->Prop)(ta:TE):TE:=λσ H Q=>ta σ H λx H1=>r x H1 Q
def rI (C:Int->Int->Prop)(g:Int->Int->V):R2:=λx y H Q=>∃i j,x=.int i/\y=.int j/\C i j/\Q (g i j) H
def Vb (g:Int->Int->V):R2:=λx y H Q=>∃i j,x=.int i/\y=.int j/\Q (g i j) H
def rU (g:Int->V):V->Hp->VK->Prop:=λx H Q=>∃i,x=.int i/\Q (g i) H
section
variable {X:Cx}{a b c:Expr}{ta tb tc:TE}{pos:Pos}
theorem Yw (ha:PE X a ta) (hb:PE X b tb) {pins:List (Addr×Obj)} {s:Shared} {σ:St} {H:Hp} {R:V->V->Hp->Prop} (I:Inv X pins σ H s)
  (h:ta σ H λx H1=>tb σ H1 λy H2=>R x y H2) {Q:Value->Shared->Prop} {f:Value->Value->Sem Value}
  (hf:∀v u s2 x y H2,Inv X pins σ H2 s2->RelV x v->RelV y u->R x y H2->wpAny (model X.prog X.w) X.A (f v u) Q X.xe s2) :
  wpAny (model X.prog X.w) X.A (eval a X.env) (λv s₁=>wpAny (model X.prog X.w) X.A (eval b X.env) (λu s₂=>wpAny (model X.prog X.w) X.A (f v u) Q X.xe s₂) X.xe s₁) X.xe s:=by
 refine A7 (ha pins s σ H _ I h) λv s1 ⟨x,H1,I1,r1,q1⟩=>?_
 refine A7 (hb pins s1 σ H1 _ I1 q1) λu s2 ⟨y,H2,I2,r2,q2⟩=>?_
 exact hf v u s2 x y H2 I2 r1 r2 q2
theorem AC {op:Operator}{r:R2}(ho:HH X (binaryOp op) r)(ha:PE X a ta)(hb:PE X b tb):PE X (.BinOp a op b pos) (Xs r ta tb):=by
 intro pins s σ H Q I h;exact wpAny_BinOp (Yw ha hb I h λv u s2 x y H2 I2 rx ry q=>ho pins s2 σ H2 x y v u Q I2 rx ry q)
theorem Su {op:UnaryOp}{r:V->Hp->VK->Prop}(ho:aO X (unaryOp op) r)(ha:PE X a ta):PE X (.UnaryOp op a pos) (bz r ta):=by
 intro pins s σ H Q I h;exact UnaryOp_ (A7 (ha pins s σ H _ I h) λv s1 ⟨x,H1,I1,r1,q1⟩=>ho pins s1 σ H1 x v Q I1 r1 q1)
theorem ae {f:Value->Value->Sem Value} {C:Int->Int->Prop} {g:Int->Int->Int}
  (rule:∀(i j:Int) (t u:Tok) (s:Shared) (Q:Value->Shared->Prop) (E:Value->Shared->Prop),C i j->Q (.int (g i j) s.toks) { s with toks:=s.toks+1 }->wpAny (model X.prog X.w) X.A (f (.int i t) (.int j u)) Q E s) :
  HH X f (rI C λi j=>.int (g i j)):=by
 intro pins s σ H x y v u Q I rx ry h;obtain⟨i,j,rfl,rfl,hc,q⟩:=h;obtain⟨t,rfl⟩:=rx;obtain⟨t',rfl⟩:=ry;exact rule i j t t' s _ _ hc ⟨.int (g i j),H,I.tok _,⟨_,rfl⟩,q⟩
theorem Wp {f:Value->Value->Sem Value} {g:Int->Int->Int}
  (rule:∀(i j:Int) (t u:Tok) (s:Shared) (Q:Value->Shared->Prop) (E:Value->Shared->Prop),Q (.int (g i j) s.toks) { s with toks:=s.toks+1 }->wpAny (model X.prog X.w) X.A (f (.int i t) (.int j u)) Q E s) :
  HH X f (Vb λi j=>.int (g i j)):=by
 intro pins s σ H x y v u Q I rx ry h;obtain⟨i,j,rfl,rfl,q⟩:=h;obtain⟨t,rfl⟩:=rx;obtain⟨t',rfl⟩:=ry;exact rule i j t t' s _ _ ⟨.int (g i j),H,I.tok _,⟨_,rfl⟩,q⟩
theorem XU {f:Value->Value->Sem Value} {g:Int->Int->Bool}
  (rule:∀(i j:Int) (t u:Tok) (s:Shared) (Q:Value->Shared->Prop) (E:Value->Shared->Prop),Q (.bool (g i j)) s->wpAny (model X.prog X.w) X.A (f (.int i t) (.int j u)) Q E s) :
  HH X f (Vb λi j=>.bl (g i j)):=by
 intro pins s σ H x y v u Q I rx ry h;obtain⟨i,j,rfl,rfl,q⟩:=h;obtain⟨t,rfl⟩:=rx;obtain⟨t',rfl⟩:=ry;exact rule i j t t' s _ _ ⟨.bl (g i j),H,I,rfl,q⟩
def av (i j:Int):Prop:=0<j/\j<1073741824
def ZG (i j:Int):Prop:=0<=j/\j<=1000000/\i.natAbs<2^64
def YW (i j:Int):Prop:=(-(2^64)<i/\i<2^64)\/(-(2^64)<j/\j<2^64)
theorem YW.ok {i j:Int}(h:YW i j):IntMulOk i j:=by
 rcases h with⟨h1,h2⟩|⟨h1,h2⟩
 ·exact .of_left (intBits_le_64 h1 h2)
 ·exact .of_right (intBits_le_64 h1 h2)
theorem DF:HH X (binaryOp .Add) (Vb λi j=>.int (i+j)):=Wp λ_ _ _ _ _ _ _ q=>add_int q
theorem HL:HH X (binaryOp .Sub) (Vb λi j=>.int (i-j)):=Wp λ_ _ _ _ _ _ _ q=>sub_int q
theorem Kx:HH X (binaryOp .Mult) (rI YW λi j=>.int (i*j)):=ae λ_ _ _ _ _ _ _ hc q=>mul_int q hc.ok
theorem Ph:HH X (binaryOp .FloorDiv) (rI av λi j=>.int (i/j)):=ae λi j _ _ _ _ _ hc q=>by
 have h1:(0:Int)<j:=hc.1;have h2:j<1073741824:=hc.2;exact floordiv_int (by omega) (by rw[Int.fdiv_eq_ediv_of_nonneg i (by omega)];exact q) (.inl (PyProof.noPylong_small (by omega)))
theorem BP:HH X (binaryOp .Mod) (rI (λ_ j=>0<j) λi j=>.int (i%j)):=ae λi j _ _ _ _ _ hc q=>by
 have h1:(0:Int)<j:=hc;exact mod_int' (by omega) (by rw[Int.fmod_eq_emod_of_nonneg i (by omega)];exact q)
theorem MG:HH X (binaryOp .Pow) (rI ZG λi j=>.int (i^j.toNat)):=ae λ_ _ _ _ _ _ _ hc q=>pow_int_small hc.1 hc.2.1 hc.2.2 q
theorem YC:HH X (binaryOp .BitXor) (Vb λi j=>.int (Builtin.bitXor i j)):=Wp λ_ _ _ _ _ _ _ q=>xor_int q
theorem LG:HH X (inplaceOp .Add) (Vb λi j=>.int (i+j)):=Wp λ_ _ _ _ _ _ _ q=>iadd_int q
theorem bu {f:Value->Sem Value} {g:Int->Int}
  (rule:∀(i:Int) (t:Tok) (s:Shared) (Q:Value->Shared->Prop) (E:Value->Shared->Prop),Q (.int (g i) s.toks) { s with toks:=s.toks+1 }->wpAny (model X.prog X.w) X.A (f (.int i t)) Q E s) :
  aO X f (rU λi=>.int (g i)):=by
 intro pins s σ H x v Q I rx h;obtain⟨i,rfl,q⟩:=h;obtain⟨t,rfl⟩:=rx;exact rule i t s _ _ ⟨.int (g i),H,I.tok _,⟨_,rfl⟩,q⟩
theorem Oo:aO X (unaryOp .USub) (rU λi=>.int (-i)):=bu λ_ _ _ _ _ q=>neg_int q
end
def Ri:V->V->Bool
 | .non,.non=>true | .non,.int _=>true | .int _,.non=>true | .non,.bl _=>true | .bl _,.non=>true | .non,.str _=>true | .str _,.non=>true
 | .int _,.int _=>true | .bl _,.bl _=>true | .str _,.str _=>true | .byt _,.byt _=>true
 | .int _,.str _=>true | .str _,.int _=>true | .bl _,.str _=>true | .str _,.bl _=>true
 |_,_=>false
def bx:R2:=λx y H Q=>Ri x y=true/\Q (.bl (decide (x=y))) H
def bw:R2:=λx y H Q=>Ri x y=true/\Q (.bl (!decide (x=y))) H
theorem FN {i j:Int}:decide (V.int i=V.int j)=(i == j):=by
 rw[dD];simp
theorem Ur {i j:Bool}:decide (V.bl i=V.bl j)=(i == j):=by
 rw[dD];simp
theorem Od {i j:Str}:decide (V.str i=V.str j)=(i == j):=by
 rw[dD];simp
theorem Se {i j:Array UInt8}:decide (V.byt i=V.byt j)=(i.toList == j.toList):=by
 rw[dD];cases i;cases j;simp
section
variable {X:Cx}{a b c:Expr}{ta tb tc:TE}{pos:Pos}
theorem A5 {pins:List (Addr×Obj)}{σ:St}{H:Hp}{s:Shared}{Q:VK}{k k':Bool}(I:Inv X pins σ H s)(q:Q (.bl k) H)(e:k=k'):EP X pins σ Q (.bool k') s:=by
 subst e;exact⟨.bl k,H,I,rfl,q⟩
theorem CI:HH X (compareOp .Eq) bx:=by
 intro pins s σ H x y v u Q I rx ry h;obtain⟨hs,q⟩:=h;cases x with
 |non=>
  cases rx;cases y with
  |non=>cases ry;exact PySem.EqNone.eq_none_none (A5 I q (by simp))
  |bl j=>cases ry;exact PySem.EqNone.eq_none_bool (A5 I q (by simp))
  |int j=>obtain⟨t',rfl⟩:=ry;exact PySem.EqNone.eq_none_int (A5 I q (by simp))
  |str j=>obtain⟨t',rfl⟩:=ry;exact PySem.EqNone.eq_none_str (A5 I q (by simp))
  |_=>exact absurd (show false=true from hs) bN
 |bl i=>
  cases rx;cases y with
  |non=>cases ry;exact PySem.EqNone.eq_bool_none (A5 I q (by simp))
  |bl j=>cases ry;exact eq_bool (A5 I q Ur)
  |str j=>obtain⟨t',rfl⟩:=ry;exact PySem.EqMixed.eq_bool_str (A5 I q (by simp))
  |_=>exact absurd (show false=true from hs) bN
 |int i=>
  obtain⟨t,rfl⟩:=rx;cases y with
  |non=>cases ry;exact PySem.EqNone.eq_int_none (A5 I q (by simp))
  |int j=>obtain⟨t',rfl⟩:=ry;exact eq_int (A5 I q FN)
  |str j=>obtain⟨t',rfl⟩:=ry;exact PySem.EqMixed.eq_int_str (A5 I q (by simp))
  |_=>exact absurd (show false=true from hs) bN
 |str i=>
  obtain⟨t,rfl⟩:=rx;cases y with
  |non=>cases ry;exact PySem.EqNone.eq_str_none (A5 I q (by simp))
  |bl j=>cases ry;exact PySem.EqMixed.eq_str_bool (A5 I q (by simp))
  |int j=>obtain⟨t',rfl⟩:=ry;exact PySem.EqMixed.eq_str_int (A5 I q (by simp))
  |str j=>obtain⟨t',rfl⟩:=ry;exact eq_str (A5 I q Od)
  |_=>exact absurd (show false=true from hs) bN
 |byt i=>
  obtain⟨t,rfl⟩:=rx;cases y with
  |byt j=>obtain⟨t',rfl⟩:=ry;exact PySem.W.eq_bytes (A5 I q Se)
  |_=>exact absurd (show false=true from hs) bN
 |_=>cases y<;>exact absurd (show false=true from hs) bN
theorem RS:HH X (compareOp .NotEq) bw:=by
 intro pins s σ H x y v u Q I rx ry h;obtain⟨hs,q⟩:=h;cases x with
 |non=>
  cases rx;cases y with
  |non=>cases ry;exact PySem.EqNone.ne_none_none (A5 I q (by simp))
  |bl j=>cases ry;exact PySem.EqNone.ne_none_bool (A5 I q (by simp))
  |int j=>obtain⟨t',rfl⟩:=ry;exact PySem.EqNone.ne_none_int (A5 I q (by simp))
  |str j=>obtain⟨t',rfl⟩:=ry;exact PySem.EqNone.ne_none_str (A5 I q (by simp))
  |_=>exact absurd (show false=true from hs) bN
 |bl i=>
  cases rx;cases y with
  |non=>cases ry;exact PySem.EqNone.ne_bool_none (A5 I q (by simp))
  |bl j=>cases ry;exact ne_bool (A5 I q (congrArg not Ur))
  |str j=>obtain⟨t',rfl⟩:=ry;exact PySem.EqMixed.ne_bool_str (A5 I q (by simp))
  |_=>exact absurd (show false=true from hs) bN
 |int i=>
  obtain⟨t,rfl⟩:=rx;cases y with
  |non=>cases ry;exact PySem.EqNone.ne_int_none (A5 I q (by simp))
  |int j=>obtain⟨t',rfl⟩:=ry;exact ne_int (A5 I q (congrArg not FN))
  |str j=>obtain⟨t',rfl⟩:=ry;exact PySem.EqMixed.ne_int_str (A5 I q (by simp))
  |_=>exact absurd (show false=true from hs) bN
 |str i=>
  obtain⟨t,rfl⟩:=rx;cases y with
  |non=>cases ry;exact PySem.EqNone.ne_str_none (A5 I q (by simp))
  |bl j=>cases ry;exact PySem.EqMixed.ne_str_bool (A5 I q (by simp))
  |int j=>obtain⟨t',rfl⟩:=ry;exact PySem.EqMixed.ne_str_int (A5 I q (by simp))
  |str j=>obtain⟨t',rfl⟩:=ry;exact ne_str (A5 I q (congrArg not Od))
  |_=>exact absurd (show false=true from hs) bN
 |byt i=>
  obtain⟨t,rfl⟩:=rx;cases y with
  |byt j=>obtain⟨t',rfl⟩:=ry;exact PySem.W.ne_bytes (A5 I q (congrArg not Se))
  |_=>exact absurd (show false=true from hs) bN
 |_=>cases y<;>exact absurd (show false=true from hs) bN
theorem RU:HH X (compareOp .Lt) (Vb λi j=>.bl (decide (i<j))):=XU λ_ _ _ _ _ _ _ q=>lt_int q
theorem Sr:HH X (compareOp .LtE) (Vb λi j=>.bl (decide (i<=j))):=XU λ_ _ _ _ _ _ _ q=>le_int q
theorem Sv:HH X (compareOp .Gt) (Vb λi j=>.bl (decide (j<i))):=XU λ_ _ _ _ _ _ _ q=>gt_int q
theorem SH:HH X (compareOp .In) (λx y H Q=>∃i j,x=.str i/\y=.str j/\Q (.bl (!(Builtin.Str.occurrences j i 0 j.length 1).isEmpty)) H):=by
 intro pins s σ H x y v u Q I rx ry h;obtain⟨i,j,rfl,rfl,q⟩:=h;obtain⟨t,rfl⟩:=rx;obtain⟨t',rfl⟩:=ry;exact in_str (A5 I q rfl)
theorem AG (b:Expr){op:CmpOp}(h:op≠.In:=by decide)(h2:op≠.NotIn:=by decide):behindInMarks op b=false:=by
 have e1:(op == CmpOp.In)=false:=by cases op<;>first|rfl|exact absurd rfl h
 have e2:(op == CmpOp.NotIn)=false:=by cases op<;>first|rfl|exact absurd rfl h2
 cases b<;>simp[behindInMarks,e1,e2]
theorem BS {op:CmpOp}{r:R2}(ho:HH X (compareOp op) r)(ha:PE X a ta)(hb:PE X b tb)(hm:behindInMarks op b=false):PE X (.Compare a [op] [b] pos) (Xs r ta tb):=by
 intro pins s σ H Q I h;exact wpAny_Compare1 (Yw ha hb I h λv u s2 x y H2 I2 rx ry q=>ho pins s2 σ H2 x y v u Q I2 rx ry q) hm
def Vm (t:TE):TT:=λσ H Q=>t σ H λx H'=>∃k,x=.bl k/\Q k H'
theorem AI {op:CmpOp}{r:R2}(ho:HH X (compareOp op) r)(ha:PE X a ta)(hb:PE X b tb)(hm:behindInMarks op b=false):PT X (.Compare a [op] [b] pos) (Vm (Xs r ta tb)):=by
 intro pins s σ H Q I h;refine wpAny_isTrue_Compare1 (A7 (ha pins s σ H _ I h) λv s1 ⟨x,H1,I1,r1,q1⟩=>A7 (hb pins s1 σ H1 _ I1 q1) λu s2 ⟨y,H2,I2,r2,q2⟩=>
  A7 (ho pins s2 σ H2 x y v u _ I2 r1 r2 q2) λc s3 ⟨z,H3,I3,r3,k,e,q3⟩=>?_) hm
 subst e;cases r3;exact dh ⟨H3,I3,q3⟩
def UB (r r':R2)(ta tb tc:TE):TE:=λσ H Q=>ta σ H λx H1=>tb σ H1 λy H2=>r x y H2 λz H3=>∃k,z=.bl k/\
 (if k=true then tc σ H3 λw' H4=>r' y w' H4 Q else Q (.bl false) H3)
theorem U6 {op op':CmpOp} {r r':R2} (ho:HH X (compareOp op) r) (ho':HH X (compareOp op') r') (ha:PE X a ta) (hb:PE X b tb) (hc:PE X c tc)
  (hm:lastMarks [op,op'] [b,c]=false:=by with_unfolding_all rfl):PE X (.Compare a [op,op'] [b,c] pos) (UB r r' ta tb tc):=by
 intro pins s σ H Q I h;refine Compare_chain (A7 (ha pins s σ H _ I h) λv s1 ⟨x,H1,I1,r1,q1⟩=>chain_link (A7 (hb pins s1 σ H1 _ I1 q1) λu s2 ⟨y,H2,I2,r2,q2⟩=>
  A7 (ho pins s2 σ H2 x y v u _ I2 r1 r2 q2) λd s3 ⟨z,H3,I3,r3,k,e,q3⟩=>?_)) hm
 subst e;cases r3;refine dh ?_;cases k with
 |false=>exact ite_ff ⟨.bl false,H3,I3,rfl,q3⟩
 |true=>exact ite_tt (chain_last (A7 (hc pins s3 σ H3 _ I3 q3) λw' s4 ⟨z',H4,I4,r4,q4⟩=>ho' pins s4 σ H4 y z' u w' Q I4 r2 r4 q4))
theorem UZ {op op':CmpOp} {r r':R2} (ho:HH X (compareOp op) r) (ho':HH X (compareOp op') r') (ha:PE X a ta) (hb:PE X b tb) (hc:PE X c tc)
  (hm:lastMarks [op,op'] [b,c]=false:=by with_unfolding_all rfl):PT X (.Compare a [op,op'] [b,c] pos) (Vm (UB r r' ta tb tc)):=by
 intro pins s σ H Q I h;refine isTrue_chain (A7 (ha pins s σ H _ I h) λv s1 ⟨x,H1,I1,r1,q1⟩=>test_link (A7 (hb pins s1 σ H1 _ I1 q1) λu s2 ⟨y,H2,I2,r2,q2⟩=>
  A7 (ho pins s2 σ H2 x y v u _ I2 r1 r2 q2) λd s3 ⟨z,H3,I3,r3,k,e,q3⟩=>?_)) hm
 subst e;cases r3;refine dh ?_;cases k with
 |false=>
  obtain⟨k',e',q'⟩:=q3;cases e';exact ite_ff ⟨H3,I3,q'⟩
 |true=>
  refine ite_tt (test_last (A7 (hc pins s3 σ H3 _ I3 q3) λw' s4 ⟨z',H4,I4,r4,q4⟩=>A7 (ho' pins s4 σ H4 y z' u w' _ I4 r2 r4 q4) λd' s5 z9=>?_));obtain⟨z2,H5,I5,r5,k2,e2,q5⟩:=z9;subst e2;cases r5;exact dh ⟨H5,I5,q5⟩
theorem KE:(sizeLine:Nat)<2^63:=by rw[eJ];decide
theorem DJ:HH X (binaryOp .Add) (λx y H Q=>∃i j,x=.str i/\y=.str j/\i.length+j.length<=sizeLine/\Q (.str (i++j)) H):=by
 intro pins s σ H x y v u Q I rx ry h;obtain⟨i,j,rfl,rfl,hz,q⟩:=h;obtain⟨t,rfl⟩:=rx;obtain⟨t',rfl⟩:=ry;exact add_str (λt' tk=>⟨.str (i++j),H,I.tok _,⟨_,rfl⟩,q⟩) hz
theorem vals1 {x:V}{us:List Value}(r:AF [x] us):∃u,us=[u]/\RelV x u:=by
 cases r with
 |cons r1 r2=>cases r2;exact⟨_,rfl,r1⟩
theorem vals2 {x y:V}{us:List Value}(r:AF [x,y] us):∃u w',us=[u,w']/\RelV x u/\RelV y w':=by
 cases r with
 |cons r1 r2=>
  cases r2 with
  |cons r3 r4=>cases r4;exact⟨_,_,rfl,r1,r3⟩
theorem Qp:Ei X (.builtin "abs") (λxs H Q=>∃i,xs=[.int i]/\Q (.int (if i<0 then -i else i)) H):=by
 intro pins s σ H xs us Q I r h;obtain⟨i,rfl,q⟩:=h;obtain⟨u,rfl,t,rfl⟩:=vals1 r;exact call_abs_int λu tk=>⟨.int (if i<0 then -i else i),H,I.tok _,⟨_,rfl⟩,q⟩
end
structure ObjM (h:Heap) (x dx C:Addr) (mA:Str->Option Value):Prop where
 obj:h.get? x=some (PySem.W.instObj C dx)
 ns:h.Ns1 dx mA
 ne:dx≠x
theorem Nt {h:Heap}{dx:Addr}{mA:Str->Option Value}(n:h.Ns1 dx mA):∃od,h.get? dx=some od/\∀name,PySem.W.lookIn name od=some (mA name):=by
 obtain⟨o,es,ep,ho,hd,hk,_,hm⟩:=n;refine⟨o,ho,λname=>?_⟩;have e:=hm name;unfold nsFind findBy at e;rw[<-Array.find?_toList] at e;unfold PySem.W.lookIn;rw[hd];dsimp only
 split
 ·rename_i y q
  rw[q] at e;exact congrArg some e
 ·rename_i q
  rw[q] at e;have a:es.toList.any (·.refKey)=false:=by
   rw[List.any_eq_false];intro y hy;obtain⟨z,t,hkey⟩:=hk y (Array.mem_toList_iff.mp hy);simp[DictEntry.refKey,hkey]
  have a':¬es.toList.any (·.refKey)=true:=by rw[a];exact bN
  rw[bP a'];exact congrArg some e
theorem ObjM.look {h:Heap}{x dx C:Addr}{mA:Str->Option Value}(I:ObjM h x dx C mA):∃od,PySem.W.InstAt h x (PySem.W.instObj C dx) C (some od)/\∀name,PySem.W.lookIn name od=some (mA name):=
 let⟨od,ho,hl⟩:=Nt I.ns
 ⟨od,⟨I.obj,rfl,rfl,ho⟩,hl⟩
section
variable {prog:Program}{w:World}{A:Around}{E:Value->Shared->Prop}{s:Shared}{K:PySem.W.Frag}{x dx C f:Addr}{mA:Str->Option Value}{name:Str}{v:Value}
theorem get_map {expr:Bool} {Q:Value->Shared->Prop} (X:K.In s.heap) (I:ObjM s.heap x dx C mA) (hg:PySem.W.plainGet K C name=true) (hh:PySem.W.hasDictIn K C=true)
  (ha:PySem.W.findIn K (.ref C) name=some none) (hv:mA name=some v) (hv':PySem.W.handedIn v=true) (h:Q v { s with toks:=s.toks+1 }) :
  wpAny (model prog w) A (getAttr (.ref x) name expr) Q E s:=by
 obtain⟨od,J,hl⟩:=I.look;exact PySem.W.get_value X J (gT hg).1 (jo hh ha rfl (by rw[hl,hv])) hv' h
theorem VG {pl:Sem Bool} {Q:Value×List Value->Shared->Prop} (X:K.In s.heap) (I:ObjM s.heap x dx C mA) (hg:PySem.W.plainGet K C name=true)
  (hf:PySem.W.findIn K (.ref C) name=some (some (.ref f))) (ht:PySem.W.isFn K (.ref f)=true) (hv:mA name=none) (h:Q (.ref f,[.ref x]) s) :
  wpAny (model prog w) A (getMethod (.ref x) name pl) Q E s:=by
 obtain⟨od,J,hl⟩:=I.look;exact PySem.W.method_fn X J (gT hg).1 (gT hg).2 hf (cZ.mp ht) (by show(PySem.W.lookIn name od).map (·.isSome)=some false;rw[hl,hv];rfl) h
theorem Wb {ns:List Str} {Q:Unit->Shared->Prop} (X:K.In s.heap) (I:ObjM s.heap x dx C mA)
  (hs:PySem.W.findIn K (.ref C) "__setattr__"=some (some (.builtin "object.__setattr__"))) (hp:PySem.W.plainOver K C=true) (ht:PySem.W.takerIn K C name=some none) (hh:PySem.W.hasDictIn K C=true)
  (hw:PySem.Within mA ns) (hsz:ns.length<=sizeLine)
  (h:∀h',ObjM h' x dx C (λy=>if y=name then some v else mA y)->Heap.SameBut dx s.heap h'->Q () { s with heap:=h',toks:=s.toks+2 }) :
  wpAny (model prog w) A (setAttr (.ref x) name v) Q E s:=by
 obtain⟨od,J,hl⟩:=I.look;refine PySem.W.set_plain X J hs (PySem.W.osa_open (s:={ s with toks:=s.toks+1 }) (r:=none) X J hp ht λb=>?_);obtain⟨cd,hc,hd'⟩:=PySem.W.any_some hh;have hx:s.heap.get? x=some ⟨.ref C,some dx,.plain,#[]⟩:=I.obj;refine bD (bG (bD (bD (jf hx (bD (PySem.W.Looks.here (s:={ s with toks:=s.toks+1 }) (PySem.W.looks_clsIn X hc) ?_))))));rw[hd'];refine bG (a:=some dx) (bD (bG (bD ?_)));refine wpAny_nsSet1 (s:={ s with toks:=s.toks+1 }) I.ns λh' hn2 hs2=>?_
 obtain⟨oD,esD,epD,hoD,hdD,hcD⟩:=hn2.count (PySem.Within.cons name v hw);refine bD (wpAny_lookBehind hoD (by rw[hdD];exact pastItsLine_dict (cA hcD (by rw[cN];omega))) ?_);exact bG (h _ ⟨(hs2.2 _ (Ne.symm I.ne)).trans I.obj,hn2,I.ne⟩ hs2)
theorem VZ {R:Result->Shared->Prop} {vs:List Value} {kw:List (Str×Value)} (X:K.In s.heap) (hm:PySem.W.makesIn K C=true)
  (hi:PySem.W.findIn K (.ref C) "__init__"=some (some (.ref f))) (hf:PySem.W.typeIn K (.ref f)=some (.type "function"))
  (h:codeAny (model prog w) (A.under (.builtin "type.__call__" ⟨.ref C::vs,kw⟩)) (.call (.ref f) ⟨.ref (s.heap.objs.size+1)::vs,kw⟩) (PySem.W.InitBack (s.heap.objs.size+1) R)
   { s with heap:=(s.heap.push PySem.W.emptyDict).push (PySem.W.instObj C s.heap.objs.size) }) :
  codeAny (model prog w) A (.call (.ref C) ⟨vs,kw⟩) R s:=by
 obtain⟨hh,g,d,t,os⟩:=s;exact PySem.W.make_core (PySem.W.makes_of X hm) (PySem.W.looks_findIn X hi) (λself=>PySem.W.bind_fn X self hf) (.inl rfl) h
end
def EY (f:Str)(v:V):List (Str×V)->List (Str×V)
 |[]=>[(f,v)]
 |(g,x)::r=>if g=f then(g,v)::r else(g,x)::EY f v r
theorem K8 (f g:Str)(v:V):∀fs:List (Str×V),(EY f v fs).lookup g=if g=f then some v else fs.lookup g
 |[]=>by
  show List.lookup g [(f,v)]=_
  by_cases h:g=f
  ·have hb:(g == f)=true:=cZ.mpr h;simp only[List.lookup,hb,if_pos h]
  ·have hb:(g == f)=false:=dM.mpr h;simp only[List.lookup,hb,if_neg h]
 |(k,x)::r=>by
  have ih:=K8 f g v r;rw[show EY f v ((k,x)::r)=(if k=f then(k,v)::r else(k,x)::EY f v r) from rfl]
  by_cases hk:k=f
  ·rw[bV hk]
   by_cases h:g=k
   ·have hb:(g == k)=true:=cZ.mpr h;simp only[List.lookup,hb,if_pos (h.trans hk)]
   ·have hb:(g == k)=false:=dM.mpr h;simp only[List.lookup,hb,if_neg (λe:g=f=>h (e.trans hk.symm))]
  ·rw[bP hk]
   by_cases h:g=k
   ·have hb:(g == k)=true:=cZ.mpr h;simp only[List.lookup,hb,if_neg (λe:g=f=>hk (h.symm.trans e))]
   ·have hb:(g == k)=false:=dM.mpr h;simp only[List.lookup,hb];exact ih
theorem KH (f:Str)(v:V):∀fs:List (Str×V),f∈(EY f v fs).map (·.1)/\∀g,g∈fs.map (·.1)->g∈(EY f v fs).map (·.1)
 |[]=>⟨by simp[EY],λg h=>by simp at h⟩
 |(k,x)::r=>by
  obtain⟨i1,i2⟩:=KH f v r;rw[show EY f v ((k,x)::r)=(if k=f then(k,v)::r else(k,x)::EY f v r) from rfl]
  by_cases hk:k=f
  ·rw[bV hk];subst hk;exact⟨by simp,λg h=>by simpa using h⟩
  ·rw[bP hk];refine⟨?_,λg h=>?_⟩
   ·rw[bX];exact bY _ i1
   ·rw[bX] at h ⊢;rcases cf.mp h with e|e
    ·exact cf.mpr (.inl e)
    ·exact bY _ (i2 g e)
theorem Le (f:Str)(v:V):∀fs:List (Str×V),(EY f v fs).length<=fs.length+1
 |[]=>by simp[EY]
 |(k,x)::r=>by
  have ih:=Le f v r;rw[show EY f v ((k,x)::r)=(if k=f then(k,v)::r else(k,x)::EY f v r) from rfl]
  by_cases hk:k=f
  ·rw[bV hk,cN,cN];omega
  ·rw[bP hk,cN,cN];omega
theorem FB.some_of {v:V}{o:Option Value}(r:FB (some v) o):∃u,o=some u/\RelV v u:=by
 cases o with
 |none=>exact(show False from r).elim
 |some u=>exact⟨u,rfl,r⟩
theorem FB.none_of {o:Option Value}(r:FB none o):o=none:=by
 cases o with
 |none=>rfl
 |some u=>exact(show False from r).elim
theorem Nq {v:V}{u:Value}(r:RelV v u):PySem.W.handedIn u=true:=by
 cases v with
 |non=>cases(show u=Value.none from r);rfl
 |bl b=>cases(show u=Value.bool b from r);rfl
 |int i=>obtain⟨t,e⟩:=(show ∃t,u=Value.int i t from r);cases e;rfl
 |str x=>obtain⟨t,e⟩:=(show ∃t,u=Value.str x t from r);cases e;rfl
 |byt b=>obtain⟨t,e⟩:=(show ∃t,u=Value.bytes b t from r);cases e;rfl
 |flt b=>obtain⟨t,e⟩:=(show ∃t,u=Value.float b t from r);cases e;rfl
 |ref a=>cases(show u=Value.ref a from r);rfl
 |ty n=>cases(show u=Value.type n from r);rfl
section
variable {P:Program}{w:World}{H H':Hp}{h h':Heap}{a C dx:Addr}{fs fs':List (Str×V)}
theorem LK (hok:Jc P w H h)(e:H a=some (.ins C dx fs)):∃mA,ObjM h a dx C mA/\(∀f,FB (fs.lookup f) (mA f))/\PySem.Within mA (fs.map (·.1))/\fs.length<=1000/\H dx=some (.own a):=by
 obtain⟨d,z,ne,ob,mA,n,r,q⟩:=(show AX P w H h a (.ins C dx fs) from hok a _ e)
 exact⟨mA,⟨ob,n,ne⟩,r,q,z,d⟩
end
structure Cls (K:PySem.W.Frag) (C:Addr):Prop where
 pg:PySem.W.plainGet K C Str.empty=true
 hd:PySem.W.hasDictIn K C=true
 po:PySem.W.plainOver K C=true
 sa:PySem.W.findIn K (.ref C) "__setattr__"=some (some (.builtin "object.__setattr__"))
theorem Cls.get {K:PySem.W.Frag}{C:Addr}(c:Cls K C)(f:Str):PySem.W.plainGet K C f=true:=c.pg
def BL (K:PySem.W.Frag)(C:Addr)(f:Str):Prop:=PySem.W.findIn K (.ref C) f=some none
theorem BL.taker {K:PySem.W.Frag}{C:Addr}{f:Str}(n:BL K C f):PySem.W.takerIn K C f=some none:=by
 unfold PySem.W.takerIn;rw[show PySem.W.findIn K (.ref C) f=some none from n];rfl
structure Con (K:PySem.W.Frag) (C:Addr) (f:Str) (v:V) (u:Value):Prop where
 at_:PySem.W.findIn K (.ref C) f=some (some u)
 rel:RelV v u
 get:PySem.W.specialIn K u "__get__"=some none
 cp:PySem.W.copiedNames.contains f=false
structure Meth (K:PySem.W.Frag) (C:Addr) (m:Str) (f:Addr):Prop where
 at_:PySem.W.findIn K (.ref C) m=some (some (.ref f))
 fn:PySem.W.isFn K (.ref f)=true
 kp:PySem.W.keepIn K (.ref f)=true
section
variable {X:Cx}{pins:List (Addr×Obj)}{σ:St}{H:Hp}{s:Shared}{a C dx:Addr}{fs:List (Str×V)}{f:Str}{v:V}{A:Around}{E:Value->Shared->Prop}
theorem Ms {b:Bool} {Q:Value->Shared->Prop} (I:Inv X pins σ H s) (e:H a=some (.ins C dx fs)) (c:Cls X.K C) (n:BL X.K C f) (l:fs.lookup f=some v)
  (h:∀u s',Inv X pins σ H s'->RelV v u->Q u s'):wpAny (model X.prog X.w) A (getAttr (.ref a) f b) Q E s:=by
 obtain⟨mA,O,r,_,_,_⟩:=LK I.hok e;obtain⟨u,hu,ru⟩:=FB.some_of (v:=v) (o:=mA f) (by rw[<-l];exact r f);exact get_map I.kIn O (c.get f) c.hd n hu (Nq ru) (h u _ (I.tok _) ru)
theorem G5 {m:Str} {g:Addr} {pl:Sem Bool} {Q:Value×List Value->Shared->Prop} (I:Inv X pins σ H s) (e:H a=some (.ins C dx fs)) (c:Cls X.K C) (k:Meth X.K C m g) (l:fs.lookup m=none)
  (h:Q (.ref g,[.ref a]) s):wpAny (model X.prog X.w) A (getMethod (.ref a) m pl) Q E s:=by
 obtain⟨mA,O,r,_,_,_⟩:=LK I.hok e;have hn:mA m=none:=FB.none_of (by rw[<-l];exact r m);exact VG I.kIn O (c.get m) k.at_ k.fn hn h
theorem MQ {y:V} {u:Value} {Q:Unit->Shared->Prop} (I:Inv X pins σ H s) (e:H a=some (.ins C dx fs)) (c:Cls X.K C) (n:BL X.K C f) (hl:fs.length<1000) (ry:RelV y u)
  (h:∀s',Inv X pins σ (upd H a (.ins C dx (EY f y fs))) s'->Q () s'):wpAny (model X.prog X.w) A (setAttr (.ref a) f u) Q E s:=by
 obtain⟨mA,O,r,wi,_,ho⟩:=LK I.hok e;have hz:(fs.map (·.1)).length<=sizeLine:=by rw[bE,eJ];omega
 refine Wb I.kIn O c.sa c.po n.taker c.hd wi hz λh' O' sb=>h _ ?_
 have hd:∃o,h'.get? dx=some o:=let⟨o,_,_,e',_⟩:=O'.ns;⟨o,e'⟩;refine I.write (x:=a) (e:=dx) (by rw[e];exact True.intro) (.inr ho) (λb q hb z=>(sb.2 b hb).trans z) hd ?_;refine⟨by rw[Ag O.ne];exact ho,?_,O.ne,O'.obj,_,O'.ns,λg=>?_,λg hg=>?_⟩
 ·have:=Le f y fs;omega
 ·show FB ((EY f y fs).lookup g) (if g=f then some u else mA g);rw[K8]
  by_cases q:g=f
  ·rw[bV q,bV q];exact ry
  ·rw[bP q,bP q];exact r g
 ·by_cases q:g=f
  ·rw[q];exact(KH f y fs).1
  ·refine(KH f y fs).2 g (wi g λz=>hg ?_);show(if g=f then some u else mA g)=none;rw[bP q];exact z
theorem Inv.made (I:Inv X pins σ H s):Inv X pins σ (upd (upd H s.heap.objs.size (.own (s.heap.objs.size+1))) (s.heap.objs.size+1) (.ins C s.heap.objs.size []))
  { s with heap:=(s.heap.push PySem.W.emptyDict).push (PySem.W.instObj C s.heap.objs.size) }:=by
 have e1:(s.heap.push PySem.W.emptyDict).get? s.heap.objs.size=some PySem.W.emptyDict:=bR s.heap rfl;have e2:((s.heap.push PySem.W.emptyDict).push (PySem.W.instObj C s.heap.objs.size)).get? (s.heap.objs.size+1)=some (PySem.W.instObj C s.heap.objs.size):=by
  have:=bR (s.heap.push PySem.W.emptyDict) (o:=PySem.W.instObj C s.heap.objs.size) rfl
  rwa [cT] at this
 have e3:(s.heap.push PySem.W.emptyDict).Ns s.heap.objs.size (λ_=>none):=⟨PySem.W.emptyDict,#[],_,e1,rfl,(λe he=>absurd he (by simp)),λ_=>rfl⟩
 have I1:=I.laid (a:=s.heap.objs.size) (o:=.own (s.heap.objs.size+1)) (h':=s.heap.push PySem.W.emptyDict) (t':=s.toks) (λb u q=>bH _ q) (bI _) ⟨_,e1⟩;refine I1.laid (a:=s.heap.objs.size+1) (o:=.ins C s.heap.objs.size []) (t':=s.toks) (λb u q=>bH _ q) (fT (cT _ _)) ?_;have ne:s.heap.objs.size≠s.heap.objs.size+1:=cn (fF _);refine⟨by rw[Ag ne,Ae],cE _,ne,e2,λ_=>none,(Heap.Ns1.of_empty e3).at λo q=>bH _ q,λ_=>True.intro,λy hy=>absurd rfl hy⟩
theorem Si {prog:Program} {w:World} {env:Env} {e:Expr} {f:Str} {pos:Pos} {s:Shared} {Q:Value->Shared->Prop} (hb:attributeBase e f env (eval e env)=eval e env)
  (h:wpAny (model prog w) A (eval e env) (λo s₁=>wpAny (model prog w) A (getAttr o f true) Q E s₁) E s):wpAny (model prog w) A (eval (.Attribute e f pos) env) Q E s:=
 Attribute_any_ h (by rw[arm_eval_Attribute,hb])
end
def aT (K:PySem.W.Frag)(ta:TE)(f:Str):TE:=λσ H Q=>ta σ H λx H1=>∃a C dx fs v,x=.ref a/\H1 a=some (.ins C dx fs)/\Cls K C/\BL K C f/\fs.lookup f=some v/\Q v H1
def aM (K:PySem.W.Frag)(ta tv:TE)(f:Str):TS:=λD σ H=>tv σ H λy H1=>ta σ H1 λx H2=>∃a C dx fs,x=.ref a/\H2 a=some (.ins C dx fs)/\Cls K C/\BL K C f/\fs.length<1000/\
 D.nx σ (upd H2 a (.ins C dx (EY f y fs)))
def aF (X:Cx)(op:Operator)(rd:V->V->Hp->VK->Prop):Prop:=
 ∀(pins:List (Addr×Obj)) (s:Shared) (σ:St) (H:Hp) (x y:V) (u v:Value) (Q:VK),Inv X pins σ H s->RelV x u->RelV y v->rd x y H Q->wpAny (model X.prog X.w) X.A (inplaceOp op u v) (EP X pins σ Q) X.xe s
def Xe (K:PySem.W.Frag)(ta tv:TE)(rd:V->V->Hp->VK->Prop)(f:Str):TS:=λD σ H=>ta σ H λx H1=>∃a C dx fs v,x=.ref a/\H1 a=some (.ins C dx fs)/\Cls K C/\BL K C f/\fs.lookup f=some v/\
 tv σ H1 λy H2=>rd v y H2 λz H3=>∃dx' fs',H3 a=some (.ins C dx' fs')/\fs'.length<1000/\D.nx σ (upd H3 a (.ins C dx' (EY f z fs')))
section
variable {X:Cx}{o e value:Expr}{f:Str}{pos pos' tpos:Pos}{ta tv:TE}
theorem A6 (he:PE X e ta)(hb:attributeBase e f X.env (eval e X.env)=eval e X.env):PE X (.Attribute e f pos) (aT X.K ta f):=by
 intro pins s σ H Q I h;refine Si hb (A7 (he pins s σ H _ I h) λu s1 z9=>?_);obtain⟨x,H1,I1,rx,a,C,dx,fs,v,ex,ea,c,n,l,q⟩:=z9;subst ex;obtain rfl:u=Value.ref a:=rx;exact Ms I1 ea c n l λu' s2 I2 ru=>⟨v,H1,I2,ru,q⟩
theorem CZ (ha:PE X o ta)(hv:PE X value tv)(hs:swapsWith value (some (.Attribute o f pos')) pos.line X.env=pure false):PS X (.Assign [.Attribute o f pos'] value pos) (aM X.K ta tv f):=by
 intro pins s σ H D I h;refine iB (A7 (hv pins s σ H _ I h) λu s1 ⟨y,H1,I1,ry,q⟩=>A7 (ha pins s1 σ H1 _ I1 q) λov s2 z9=>?_) hs;obtain⟨x,H2,I2,rx,a,C,dx,fs,ex,ea,c,n,l,q2⟩:=z9;subst ex;obtain rfl:ov=Value.ref a:=rx;exact MQ I2 ea c n l ry λs3 I3=>⟨σ,_,I3,q2⟩
theorem IY {op:Operator}{rd:V->V->Hp->VK->Prop}(ha:PE X o ta)(hv:PE X value tv)(hop:aF X op rd):PS X (.AugAssign (.Attribute o f tpos) op value pos) (Xe X.K ta tv rd f):=by
 intro pins s σ H D I h;refine wpAny_AugAssign_AttributeAny (A7 (ha pins s σ H _ I h) λov s1 z9=>?_);obtain⟨x,H1,I1,rx,a,C,dx,fs,v,ex,ea,c,n,l,q⟩:=z9;subst ex;obtain rfl:ov=Value.ref a:=rx;refine Ms I1 ea c n l λu s2 I2 ru=>A7 (hv pins s2 σ H1 _ I2 q) λw3 s3 ⟨y,H2,I3,ry,q3⟩=>A7 (hop pins s3 σ H2 v y u w3 _ I3 ru ry q3) λw4 s4 z9=>?_
 obtain⟨z,H3,I4,rz,dx',fs',ea',l',q4⟩:=z9;exact MQ I4 ea' c n l' rz λs5 I5=>⟨σ,_,I5,q4⟩
theorem Xq {pl:Sem Bool} {m:Str} {apos:Pos} {args:List Expr} {pins:List (Addr×Obj)} {s:Shared} {σ:St} {H:Hp} {Q:Value->Shared->Prop} {te:TE} (he:PE X e te) (I:Inv X pins σ H s)
  (h:te σ H λx H1=>∃a C dx fs g,x=.ref a/\H1 a=some (.ins C dx fs)/\Cls X.K C/\Meth X.K C m g/\fs.lookup m=none/\
   ∀s1,Inv X pins σ H1 s1->wpAny (model X.prog X.w) X.A (callWith pos (.ref g) [.ref a] (backTo pos (starEach args X.env)) (backToKw pos (keywordEach [] X.env))) Q X.xe s1)
  (ht:eval (.Call (.Attribute e m apos) args [] pos) X.env=(do
   let ov <-eval e X.env
   standAt apos.atName
   let(f,first) <-holding [ov] (getMethod ov m pl)
   callWith pos f first (backTo pos (starEach args X.env)) (backToKw pos (keywordEach [] X.env)))) :
  wpAny (model X.prog X.w) X.A (eval (.Call (.Attribute e m apos) args [] pos) X.env) Q X.xe s:=by
 refine fA (pl:=pl) (A7 (he pins s σ H _ I h) λu s1 z9=>?_) ht;obtain⟨x,H1,I1,rx,a,C,dx,fs,g,ex,ea,c,k,l,q⟩:=z9;subst ex;obtain rfl:u=Value.ref a:=rx;exact G5 I1 ea c k l (q s1 I1)
end
section
variable {X:Cx}{pins:List (Addr×Obj)}{σ:St}{H:Hp}{s:Shared}{A:Around}{E:Value->Shared->Prop}{Q:Value->Shared->Prop}{c:Value}{b:Bool}
inductive TyOf (K:PySem.W.Frag) (H:Hp):V->Value->Prop where
 |non:TyOf K H .non (.type "NoneType")
 |bl (x:Bool):TyOf K H (.bl x) (.type "bool")
 |int (i:Int):TyOf K H (.int i) (.type "int")
 |str (x:Str):TyOf K H (.str x) (.type "str")
 |flt (x:UInt64):TyOf K H (.flt x) (.type "float")
 |lst {a:Addr} {xs:List V} (e:H a=some (.lst xs)):TyOf K H (.ref a) (.type "list")
 |frz {a:Addr} {o:Obj} {xs:List V} (e:H a=some (.frz o (.lst xs))):TyOf K H (.ref a) (.type "list")
 |tup {a:Addr} {xs:List V} (e:H a=some (.tup xs)):TyOf K H (.ref a) (.type "tuple")
 |dK {a:Addr} {kvs:List (Key×V)} (e:H a=some (.dK kvs)):TyOf K H (.ref a) (.type "dict")
 |dT {a:Addr} {kvs:List (List Key×V)} (e:H a=some (.dT kvs)):TyOf K H (.ref a) (.type "dict")
 |ins {a C dx:Addr} {fs:List (Str×V)} (e:H a=some (.ins C dx fs)) (cl:Cls K C) (ha:PySem.W.findIn K (.ref C) "__class__"=some (some (.builtin "object.__class__")))
   (hn:PySem.W.specialIn K (.builtin "object.__class__") "__get__"=some (some (.builtin "getset_descriptor.__get__"))) (htk:PySem.W.takesIn K (.builtin "object.__class__")=some true)
   (hm:PySem.W.mroIn K C (.type "object")=some true):TyOf K H (.ref a) (.ref C)
theorem SZ {x:V}{u t:Value}(I:Inv X pins σ H s)(rx:RelV x u)(ty:TyOf X.K H x t)(e:PySem.W.kitOne X.K t c=some b)(h:∀tk,Q (.bool b) { s with toks:=tk }) :
  wpAny (model X.prog X.w) A (call (.builtin "isinstance") [u,c]) Q E s:=by
 cases ty with
 |non=>cases(show u=Value.none from rx);exact da PySem.W.kitx_none I.kIn True.intro e (λz=>nomatch z) h
 |bl y=>cases(show u=Value.bool y from rx);exact da PySem.W.kitx_bool I.kIn True.intro e (λz=>nomatch z) h
 |int i=>obtain⟨t,q⟩:=(show ∃t,u=Value.int i t from rx);cases q;exact da PySem.W.kitx_int I.kIn True.intro e (λz=>nomatch z) h
 |str y=>obtain⟨t,q⟩:=(show ∃t,u=Value.str y t from rx);cases q;exact da PySem.W.kitx_str I.kIn True.intro e (λz=>nomatch z) h
 |flt y=>obtain⟨t,q⟩:=(show ∃t,u=Value.float y t from rx);cases q;exact da PySem.W.kitx_float I.kIn True.intro e (λz=>nomatch z) h
 |@lst a xs ea=>
  cases(show u=Value.ref a from rx);obtain⟨_,_,n,_,h1⟩:=(show AX X.prog X.w H s.heap a (.lst xs) from I.hok a _ ea)
  exact da PySem.W.kitx_list I.kIn ⟨_,h1,rfl⟩ e (λz=>nomatch z) h
 |@frz a ob xs ea=>
  cases(show u=Value.ref a from rx);obtain⟨_,_,_,n,_,h1⟩:=(show AX X.prog X.w H s.heap a (.frz ob (.lst xs)) from I.hok a _ ea)
  exact da PySem.W.kitx_list I.kIn ⟨_,h1,rfl⟩ e (λz=>nomatch z) h
 |@tup a xs ea=>
  cases(show u=Value.ref a from rx);obtain⟨_,_,_,p⟩:=(show AX X.prog X.w H s.heap a (.tup xs) from I.hok a _ ea)
  obtain⟨o,h1,h2,_⟩:=p;exact da PySem.W.kitx_tuple I.kIn ⟨o,h1,h2⟩ e (λz=>nomatch z) h
 |@dK a kvs ea=>
  cases(show u=Value.ref a from rx);obtain⟨_,_,vs,_,p⟩:=(show AX X.prog X.w H s.heap a (.dK kvs) from I.hok a _ ea)
  obtain⟨o,es,ep,h1,h2,_⟩:=p;exact da PySem.W.kitx_dict I.kIn ⟨o,h1,h2.1⟩ e (λz=>nomatch z) h
 |@dT a kvs ea=>
  cases(show u=Value.ref a from rx);obtain⟨_,_,xs,_,o,es,ep,h1,h2,_⟩:=(show AX X.prog X.w H s.heap a (.dT kvs) from I.hok a _ ea)
  exact da PySem.W.kitx_dict I.kIn ⟨o,h1,h2.1⟩ e (λz=>nomatch z) h
 |@ins a C dx fs ea cl ha hn htk hm=>
  cases(show u=Value.ref a from rx);obtain⟨mA,O,_⟩:=LK I.hok ea;obtain⟨od,J,_⟩:=O.look;exact da (PySem.W.kitx_own (cl.get _) cl.hd ha hn htk hm) I.kIn J e (λz=>nomatch z) h
end
structure Room (k:Nat) (A:Around):Prop where
 hd:A.handled=none
 dp:A.depth+3*k+5<recursionLimit
 un:A.units+16*k+200<cLine
theorem Room.mono {j k:Nat}{A:Around}(r:Room k A)(h:j<=k):Room j A:=⟨r.hd,by have:=r.dp;omega,by have:=r.un;omega⟩
theorem Room.deeper {k:Nat}{A:Around}(r:Room (k+1) A)(env:Env):Room k (A.deeper env):=
 ⟨r.hd,by have:=r.dp;show A.depth+1+3*k+5<_;omega,by have:=r.un;show A.units+3+16*k+200<_;omega⟩
theorem Room.in1 {k:Nat}{A:Around}(r:Room (k+1) A):Room k A.in1:=
 ⟨r.hd,by have:=r.dp;show A.depth+3*k+5<_;omega,by have:=r.un;show A.units+1+16*k+200<_;omega⟩
theorem QO {A:Around}{C:Addr}{us:List Value}{kw:List (Str×Value)}:(A.under (.builtin "type.__call__" ⟨.ref C::us,kw⟩)).depth=A.depth+1:=by
 first|rfl|simp[Around.under,Code.weight,Code.isCreation,Code.isGuard,Code.isCaller,Code.frames,Code.isFrame,guardIds]
theorem RI {A:Around}{C:Addr}{us:List Value}{kw:List (Str×Value)}:(A.under (.builtin "type.__call__" ⟨.ref C::us,kw⟩)).units=A.units+1:=by
 first|rfl|simp[Around.under,Code.cUnits,Code.frames,Code.isFrame]
theorem Room.make {k:Nat}{A:Around}(r:Room (k+1) A)(C:Addr)(us:List Value)(kw:List (Str×Value)):Room k (A.under (.builtin "type.__call__" ⟨.ref C::us,kw⟩)):=
 ⟨r.hd,by have:=r.dp;rw[QO];omega,by have:=r.un;rw[RI];omega⟩
theorem Room.depth {k:Nat}{A:Around}(r:Room k A):A.depth<recursionLimit:=by have:=r.dp;omega
theorem Room.units {k:Nat}{A:Around}(r:Room k A):A.units+64<cLine:=by have:=r.un;omega
def ET:TA:=λ_ H Q=>Q [] H
def D5 (ta:TE)(tr:TA):TA:=λσ H Q=>ta σ H λx H1=>tr σ H1 λxs H2=>Q (x::xs) H2
section
variable {X:Cx}{e:Expr}{es:List Expr}{te:TE}{t:TA}{pos:Pos}
theorem Aj:PA X [] ET:=λ_ _ _ _ H Q I h=>fM ⟨[],H,I,.nil,h⟩
theorem Ad (ha:PE X e te)(hr:PA X es t)(hs:starEach (e::es) X.env=(false,eval e X.env)::starEach es X.env:=by rfl):PA X (e::es) (D5 te t):=by
 intro pos pins s σ H Q I h;rw[hs];show wpAny _ _ (spliced ((false,eval e X.env)::backTo pos (starEach es X.env))) _ _ s;refine dG (A7 (ha pins s σ H _ I h) λu s1 ⟨x,H1,I1,r1,q1⟩=>?_);exact A7 (hr pos pins s1 σ H1 _ I1 q1) λus s2 ⟨xs,H2,I2,r2,q2⟩=>⟨x::xs,H2,I2,.cons r1 r2,q2⟩
def aG (t:TA):TE:=λσ H Q=>t σ H λxs H1=>xs.length<=sizeLine/\∀p,H1 p=none->Q (.ref p) (upd H1 p (.tup xs))
def ak (t:TA):TE:=λσ H Q=>t σ H λxs H1=>xs.length<=sizeLine/\∀p,H1 p=none->Q (.ref p) (upd H1 p (.lst xs))
theorem C6 {x1}(h:PA X es t):PE X (.Tuple es x1 pos) (aG t):=by
 intro pins s σ H Q I hq;refine wpAny_Tuple_spliced (A7 (h pos pins s σ H _ I hq) λus s1 ⟨xs,H1,I1,r,z,q⟩=>⟨by rw[<-r.length];exact z,?_⟩);have hf:H1 s1.heap.objs.size=none:=I1.hok.fresh (bI _);refine⟨.ref s1.heap.objs.size,upd H1 s1.heap.objs.size (.tup xs),I1.laid (t':=s1.toks) (λb u e=>bH _ e) (bI _) ?_,rfl,q _ hf⟩;exact⟨z,us,r,⟨_,bR _ rfl,rfl,_,rfl,λ_=>rfl⟩⟩
theorem Cs (h:PA X es t):PE X (.List es pos) (ak t):=by
 intro pins s σ H Q I hq;refine wpAny_List_spliced (A7 (h pos pins s σ H _ I hq) λus s1 ⟨xs,H1,I1,r,z,q⟩=>⟨by rw[<-r.length];exact z,?_⟩);have hf:H1 s1.heap.objs.size=none:=I1.hok.fresh (bI _);refine⟨.ref s1.heap.objs.size,upd H1 s1.heap.objs.size (.lst xs),I1.laid (t':=s1.toks) (λb u e=>bH _ e) (bI _) ?_,rfl,q _ hf⟩;exact⟨z,us,0,r,bR _ rfl⟩
end
abbrev Sp:=List V->Hp->VK->XK->Prop
abbrev QW:=List Env->Hp->Shared->XK->Value->Shared->Prop
structure Env0 (P:Program) (w:World) (K:PySem.W.Frag) (mg:Str->Option Value) (base:Heap) (A:Around) (outer:List Env) (s:Shared) (H:Hp):Prop where
 frames:A.frames=some outer
 mod:Mod K mg base
 bs:∀b o,base.get? b=some o->s.heap.get? b=some o/\H b=none
 bsz:base.objs.size<=s.heap.objs.size
 funs:s.heap.FunFrames base outer
 frf:∀b∈I0 outer,H b=none
 hok:Jc P w H s.heap
 bare:AllBare s.gens
def CE (outer:List Env)(P:Program)(w:World)(H:Hp)(s:Shared)(Q:VK)(u:Value)(s':Shared):Prop:=
 ∃v H',s'.os=s.os/\AllBare s'.gens/\Un (I0 outer) [] H H' s.heap s'.heap/\Jc P w H' s'.heap/\RelV v u/\Q v H'
def CR (CX:QW)(outer:List Env)(P:Program)(w:World)(H:Hp)(s:Shared)(Q:VK)(E:XK)(r:Result)(s':Shared):Prop:=
 match r with
 | .ok (.ret u)=>CE outer P w H s Q u s'
 | .ok _=>False
 | .error e=>CX outer H s E e s'
structure FnOk (P:Program) (w:World) (K:PySem.W.Frag) (mg:Str->Option Value) (base:Heap) (CX:QW) (k:Nat) (f:Addr) (fd:FuncData) (ps:List Str) (sp:Sp):Prop where
 len:∀vs H Q E,sp vs H Q E->vs.length=ps.length
 run:∀(A:Around) (outer:List Env) (s:Shared) (H:Hp) (args:Args) (us:List Value) (vs:List V) (Q:VK) (E:XK),Room k A->Env0 P w K mg base A outer s H->BindsTo s fd args (ps.zip us)->AF vs us->sp vs H Q E->
  codeAny (model P w) A (.call (.ref f) args) (CR CX outer P w H s Q E) s
theorem FnOk.imp {P:Program} {w:World} {K:PySem.W.Frag} {mg:Str->Option Value} {base:Heap} {CX:QW} {k:Nat} {f:Addr} {fd:FuncData} {ps:List Str} {sp sp':Sp} (F:FnOk P w K mg base CX k f fd ps sp)
  (h:∀vs H Q E,sp' vs H Q E->sp vs H Q E):FnOk P w K mg base CX k f fd ps sp':=
 ⟨λvs H Q E q=>F.len vs H Q E (h _ _ _ _ q),λA outer s H args us vs Q E hr he hb hv hs=>F.run A outer s H args us vs Q E hr he hb hv (h _ _ _ _ hs)⟩
theorem Env0.make {P:Program}{w:World}{K:PySem.W.Frag}{mg:Str->Option Value}{base:Heap}{A:Around}{outer:List Env}{s:Shared}{H:Hp}(e:Env0 P w K mg base A outer s H)(C:Addr)(us:List Value)(kw:List (Str×Value)) :
  Env0 P w K mg base (A.under (.builtin "type.__call__" ⟨.ref C::us,kw⟩)) outer s H:=⟨by first|exact e.frames|(simpa [Around.under,Code.envs,Code.isFrame,pushEnvs] using e.frames),e.mod,e.bs,e.bsz,e.funs,e.frf,e.hok,e.bare⟩
theorem Env0.in1 {P:Program}{w:World}{K:PySem.W.Frag}{mg:Str->Option Value}{base:Heap}{A:Around}{outer:List Env}{s:Shared}{H:Hp}(e:Env0 P w K mg base A outer s H) :
  Env0 P w K mg base A.in1 outer s H:=⟨e.frames,e.mod,e.bs,e.bsz,e.funs,e.frf,e.hok,e.bare⟩
section
variable {X:Cx}{pins:List (Addr×Obj)}{σ:St}{H:Hp}{s s':Shared}
theorem Inv.env0 (I:Inv X pins σ H s):Env0 X.prog X.w X.K X.mg X.base X.A X.stack s H:=
 ⟨I.ok.frames,I.ok.mod,I.bs,cA I.ok.bsz I.sz,I.stack,I.stkFree,I.hok,I.bare⟩
theorem Inv.after {Q:VK}{u:Value}(I:Inv X pins σ H s)(h:CE X.stack X.prog X.w H s Q u s'):EP X pins σ Q u s':=by
 obtain⟨v,H',os,bare,un,hok,r,q⟩:=h;obtain⟨hh,g,d,t,os'⟩:=s';obtain rfl:os'=s.os:=os;exact⟨v,H',I.call (h':=hh) (g':=g) (d':=d) (t':=t) (ch:=[]) un hok bare (λb z=>absurd z (by simp)),r,q⟩
end
def PP (sp:Sp)(dvs:List V)(E:XK)(t:TA):TE:=λσ H Q=>t σ H λvs H1=>sp (vs++dvs) H1 Q E
def Nw (C:Addr)(m:Str)(sp:Sp)(dvs:List V)(E:XK)(ta:TE)(t:TA):TE:=λσ H Q=>ta σ H λx H1=>∃a dx fs,x=.ref a/\H1 a=some (.ins C dx fs)/\fs.lookup m=none/\
 t σ H1 λvs H2=>sp (x::(vs++dvs)) H2 Q E
def Xx (C:Addr)(sp:Sp)(dvs:List V)(E:XK)(t:TA):TE:=λσ H Q=>t σ H λvs H1=>∀x dx,H1 x=none->H1 dx=none->dx≠x->
 sp (.ref x::(vs++dvs)) (upd (upd H1 dx (.own x)) x (.ins C dx [])) (λv H2=>v=.non/\Q (.ref x) H2) E
def Binds (K:PySem.W.Frag)(fd:FuncData)(ps:List Str)(ds:List Value):Prop:=
 ∀(s:Shared) (us:List Value),K.In s.heap->(us++ds).length=ps.length->BindsTo s fd ⟨us,[]⟩ (ps.zip (us++ds))
theorem Binds.all {K:PySem.W.Frag}{fd:FuncData}{ps:List Str}(h:∀us:List Value,us.length=ps.length->bindArgs fd ⟨us,[]⟩=pure (ps.zip us)):Binds K fd ps []:=λs us _ hl=>by
 rw[cW] at hl ⊢;exact .of_eq (h us hl)
def Es (CX:QW)(X:Cx)(E:XK):Prop:=∀(pins:List (Addr×Obj)) (σ:St) (H:Hp) (s:Shared) (e:Value) (s':Shared),Inv X pins σ H s->CX X.stack H s E e s'->X.xe e s'
section
variable {X:Cx}{CX:QW}{k:Nat}{f C:Addr}{fd:FuncData}{ps:List Str}{sp:Sp}{dvs:List V}{ds:List Value}{E:XK}{x m:Str}{p pos apos:Pos}{e o:Expr}{es:List Expr}{ta:TE}{t:TA}
theorem OA {pins:List (Addr×Obj)} {σ:St} {H:Hp} {s:Shared} {Q:VK} {us:List Value} {vs:List V} (F:FnOk X.prog X.w X.K X.mg X.base CX k f fd ps sp) (hr:Room k X.A) (hb:Binds X.K fd ps ds) (hd:AF dvs ds) (hx:Es CX X E)
  (I:Inv X pins σ H s) (r:AF vs us) (h:sp (vs++dvs) H Q E):wpAny (model X.prog X.w) X.A (call (.ref f) us) (EP X pins σ Q) X.xe s:=by
 have r2:AF (vs++dvs) (us++ds):=r.append hd;have hl:(us++ds).length=ps.length:=by rw[<-r2.length];exact F.len _ _ _ _ h
 refine eK (dW (F.run X.A X.stack s H ⟨us,[]⟩ (us++ds) (vs++dvs) Q E hr I.env0 (hb s us I.kIn hl) r2 h) λr s' hq=>?_);cases r with
 |error e=>exact hx pins σ H s e s' I hq
 |ok fl=>
  cases fl with
  |ret u=>exact I.after hq
  |next=>exact False.elim hq
  |brk=>exact False.elim hq
  |cont=>exact False.elim hq
theorem RV (F:FnOk X.prog X.w X.K X.mg X.base CX k f fd ps sp) (hr:Room k X.A) (hg:Gl X x) (hm:X.mg x=some (.ref f)) (hk:PySem.W.keepIn X.K (.ref f)=true) (hb:Binds X.K fd ps ds) (hd:AF dvs ds) (hx:Es CX X E)
  (ha:PA X (e::es) t) (hdb:(x == ("__debug__":Str))=false:=by decide) (he:starEach (e::es) X.env=(false,eval e X.env)::starEach es X.env:=by rfl) (hpl:(backTo pos (starEach es X.env)).any (·.1)=false:=by rfl) :
  PE X (.Call (.Name x p) (e::es) [] pos) (PP sp dvs E t):=by
 intro pins s σ H Q I h;refine dF (GS I hg hm ?_ hdb);refine fc (h₀:=X.base) I.ok.mod.kin hk (A7 (ha pos pins s σ H _ I h) λus s1 ⟨vs,H1,I1,r,q⟩=>⟨I1.kIn,?_⟩) he hpl;exact OA F hr hb hd hx I1 r q
theorem Vq (F:FnOk X.prog X.w X.K X.mg X.base CX k f fd ps sp) (hr:Room k X.A) (hg:Gl X x) (hm:X.mg x=some (.ref f)) (hk:PySem.W.keepIn X.K (.ref f)=true) (hb:Binds X.K fd ps ds) (hd:AF dvs ds) (hx:Es CX X E)
  (hdb:(x == ("__debug__":Str))=false:=by decide):PE X (.Call (.Name x p) [] [] pos) (PP sp dvs E ET):=by
 intro pins s σ H Q I h;refine dF (GS I hg hm ?_ hdb);exact jq I.kIn hk (OA (us:=[]) F hr hb hd hx I .nil h)
theorem R1 {pl:Sem Bool} (he:PE X o ta) (c:Cls X.K C) (hm:Meth X.K C m f) (F:FnOk X.prog X.w X.K X.mg X.base CX k f fd ps sp) (hr:Room k X.A) (hb:Binds X.K fd ps ds) (hd:AF dvs ds) (hx:Es CX X E) (ha:PA X (e::es) t)
  (hst:starEach (e::es) X.env=(false,eval e X.env)::starEach es X.env:=by rfl) (hpl:(backTo pos (starEach es X.env)).any (·.1)=false:=by rfl)
  (ht:eval (.Call (.Attribute o m apos) (e::es) [] pos) X.env=(do
   let ov <-eval o X.env
   standAt apos.atName
   let(f,first) <-holding [ov] (getMethod ov m pl)
   callWith pos f first (backTo pos (starEach (e::es) X.env)) (backToKw pos (keywordEach [] X.env))):=by rfl) :
  PE X (.Call (.Attribute o m apos) (e::es) [] pos) (Nw C m sp dvs E ta t):=by
 intro pins s σ H Q I h;refine fA (pl:=pl) (A7 (he pins s σ H _ I h) λu s1 z9=>?_) ht;obtain⟨x,H1,I1,rx,a,dx,fs,ex,ea,l,q⟩:=z9;subst ex;obtain rfl:u=Value.ref a:=rx;refine G5 I1 ea c hm l ?_;refine fc (first:=[.ref a]) (h₀:=X.base) I.ok.mod.kin hm.kp (A7 (ha pos pins s1 σ H1 _ I1 q) λus s2 ⟨vs,H2,I2,r,q2⟩=>⟨I2.kIn,?_⟩) hst hpl;exact OA (us:=.ref a::us) (vs:=.ref a::vs) F hr hb hd hx I2 (.cons rfl r) q2
theorem Ui {pl:Sem Bool} (he:PE X o ta) (c:Cls X.K C) (hm:Meth X.K C m f) (F:FnOk X.prog X.w X.K X.mg X.base CX k f fd ps sp) (hr:Room k X.A) (hb:Binds X.K fd ps ds) (hd:AF dvs ds) (hx:Es CX X E)
  (ht:eval (.Call (.Attribute o m apos) [] [] pos) X.env=(do
   let ov <-eval o X.env
   standAt apos.atName
   let(f,first) <-holding [ov] (getMethod ov m pl)
   callWith pos f first (backTo pos (starEach [] X.env)) (backToKw pos (keywordEach [] X.env))):=by rfl) :
  PE X (.Call (.Attribute o m apos) [] [] pos) (Nw C m sp dvs E ta ET):=by
 intro pins s σ H Q I h;refine fA (pl:=pl) (A7 (he pins s σ H _ I h) λu s1 z9=>?_) ht;obtain⟨x,H1,I1,rx,a,dx,fs,ex,ea,l,q⟩:=z9;subst ex;obtain rfl:u=Value.ref a:=rx;refine G5 I1 ea c hm l ?_;exact jq (first:=[.ref a]) I1.kIn hm.kp (OA (us:=[.ref a]) (vs:=[.ref a]) F hr hb hd hx I1 (.cons rfl .nil) q)
structure Mk (K:PySem.W.Frag) (C f:Addr):Prop where
 makes:PySem.W.makesIn K C=true
 init:PySem.W.findIn K (.ref C) "__init__"=some (some (.ref f))
 fn:PySem.W.isFn K (.ref f)=true
 kp:PySem.W.keepIn K (.ref C)=true
theorem VY {pins:List (Addr×Obj)} {σ:St} {H:Hp} {s:Shared} {Q:VK} {us:List Value} {vs:List V} (M:Mk X.K C f) (F:FnOk X.prog X.w X.K X.mg X.base CX k f fd ps sp) (hr:Room (k+1) X.A) (hb:Binds X.K fd ps ds) (hd:AF dvs ds)
  (hx:Es CX X E) (I:Inv X pins σ H s) (r:AF vs us)
  (h:∀x dx,H x=none->H dx=none->dx≠x->sp (.ref x::(vs++dvs)) (upd (upd H dx (.own x)) x (.ins C dx [])) (λv H2=>v=.non/\Q (.ref x) H2) E) :
  wpAny (model X.prog X.w) X.A (call (.ref C) us) (EP X pins σ Q) X.xe s:=by
 have hq:=h (s.heap.objs.size+1) s.heap.objs.size (I.hok.fresh (eC _)) (I.hok.fresh (bI _)) (cn (fF _));have I2:=Inv.made (C:=C) I;have r2:AF (V.ref (s.heap.objs.size+1)::(vs++dvs)) (Value.ref (s.heap.objs.size+1)::(us++ds)):=.cons rfl (r.append hd);have hl:(Value.ref (s.heap.objs.size+1)::us++ds).length=ps.length:=by
  have e:=r2.length;rw[F.len _ _ _ _ hq] at e;exact e.symm
 refine eK (VZ (f:=f) I.kIn M.makes M.init (cZ.mp M.fn) (dW (F.run _ X.stack _ _ ⟨Value.ref (s.heap.objs.size+1)::us,[]⟩ (Value.ref (s.heap.objs.size+1)::(us++ds)) _ _ E (hr.make C us [])
  (I2.env0.make C us []) (hb _ (Value.ref (s.heap.objs.size+1)::us) I2.kIn hl) r2 hq) λr s' hq'=>?_))
 cases r with
 |error e=>exact hx pins σ _ _ e s' I2 hq'
 |ok fl=>
  cases fl with
  |ret u=>
   obtain⟨v,H',I3,rv,ev,q3⟩:=I2.after hq';subst ev;exact⟨rv,⟨V.ref (s.heap.objs.size+1),H',I3,rfl,q3⟩⟩
  |next=>exact False.elim hq'
  |brk=>exact False.elim hq'
  |cont=>exact False.elim hq'
theorem WR (M:Mk X.K C f) (F:FnOk X.prog X.w X.K X.mg X.base CX k f fd ps sp) (hr:Room (k+1) X.A) (hg:Gl X x) (hm:X.mg x=some (.ref C)) (hb:Binds X.K fd ps ds) (hd:AF dvs ds) (hx:Es CX X E)
  (ha:PA X (e::es) t) (hdb:(x == ("__debug__":Str))=false:=by decide) (he:starEach (e::es) X.env=(false,eval e X.env)::starEach es X.env:=by rfl) (hpl:(backTo pos (starEach es X.env)).any (·.1)=false:=by rfl) :
  PE X (.Call (.Name x p) (e::es) [] pos) (Xx C sp dvs E t):=by
 intro pins s σ H Q I h;refine dF (GS I hg hm ?_ hdb);refine fc (h₀:=X.base) I.ok.mod.kin M.kp (A7 (ha pos pins s σ H _ I h) λus s1 ⟨vs,H1,I1,r,q⟩=>⟨I1.kIn,?_⟩) he hpl;exact VY M F hr hb hd hx I1 r q
end
structure FnScope (N P:List Str) (sc:Scope):Prop where
 kind:sc.kind=.function
 co:sc.isCoroutine=false
 gen:sc.isGenerator=false
 nd:N.Nodup
 pre:N.take P.length=P
 par:∀x∈P,sc.names.lookup x=some .local\/sc.names.lookup x=some .cell
 nofree:∀y∈sc.names,y.2≠.free
theorem NO {kindOf:Str->Option NameKind}{x:Str}:∀{binds:List (Str×Value)} {m:Str->Option Value},(∀v,(x,v)∉binds)->bindL kindOf binds m x=m x
 |[],_,_=>rfl
 |(n,v)::r,m,h=>by
  unfold bindL;rw[NO λw hw=>h w (bY _ hw)]
  split
  ·have:x≠n:=by rintro rfl;exact h v bZ
   simp[this]
  ·rfl
theorem NK {kindOf:Str->Option NameKind}{x:Str}:∀{binds:List (Str×Value)} {m:Str->Option Value},(∀v,(x,v)∉binds)->bindC kindOf binds m x=m x
 |[],_,_=>rfl
 |(n,v)::r,m,h=>by
  unfold bindC;rw[NK λw hw=>h w (bY _ hw)]
  split
  ·rfl
  ·have:x≠n:=by rintro rfl;exact h v bZ
   simp[this]
theorem NU {kindOf:Str->Option NameKind}{x:Str}{v:Value}:∀{P:List Str} {vs:List Value} {i:Nat} {m:Str->Option Value},P.Nodup->P[i]?=some x->vs[i]?=some v->kindOf x=some .local->
  bindL kindOf (P.zip vs) m x=some v
 |[],_,_,_,_,h,_,_=>by simp at h
 |_::_,[],_,_,_,_,h,_=>by simp at h
 |p::P,w::vs,0,m,nd,h1,h2,hk=>by
  simp at h1 h2;subst h1;subst h2;show bindL kindOf ((p,w)::P.zip vs) m p=_;unfold bindL;rw[NO λv hv=>(cV.mp nd).1 (fO hv).1,bV hk];simp
 |p::P,w::vs,i+1,m,nd,h1,h2,hk=>by
  show bindL kindOf ((p,w)::P.zip vs) m x=_;unfold bindL;exact NU (i:=i) (cV.mp nd).2 (by simpa using h1) (by simpa using h2) hk
theorem Nx {kindOf:Str->Option NameKind}{x:Str}{v:Value}:∀{P:List Str} {vs:List Value} {i:Nat} {m:Str->Option Value},P.Nodup->P[i]?=some x->vs[i]?=some v->kindOf x≠some .local->
  bindC kindOf (P.zip vs) m x=some v
 |[],_,_,_,_,h,_,_=>by simp at h
 |_::_,[],_,_,_,_,h,_=>by simp at h
 |p::P,w::vs,0,m,nd,h1,h2,hk=>by
  simp at h1 h2;subst h1;subst h2;show bindC kindOf ((p,w)::P.zip vs) m p=_;unfold bindC;rw[NK λv hv=>(cV.mp nd).1 (fO hv).1,bP hk];simp
 |p::P,w::vs,i+1,m,nd,h1,h2,hk=>by
  show bindC kindOf ((p,w)::P.zip vs) m x=_;unfold bindC;exact Nx (i:=i) (cV.mp nd).2 (by simpa using h1) (by simpa using h2) hk
def start (N:List Str)(vs:List V):St:=vs.map some++List.replicate (N.length-vs.length) none
def Ca (CX:QW)(P:Program)(w:World)(K:PySem.W.Frag)(mg:Str->Option Value)(base:Heap)(N:List Str)(qual:Str)(scope:Scope)(f:Addr)(cd:Value)(A:Around)(outer:List Env)(s:Shared)(H:Hp)(E:XK):Cx where
 prog:=P
 w:=w
 K:=K
 mg:=mg
 base:=base
 A:=A.deeper (envOfC qual scope s.heap.objs.size f cd)
 N:=N
 s₀:=s
 H₀:=H
 env:=envOfC qual scope s.heap.objs.size f cd
 outer:=outer
 stack:=envOfC qual scope s.heap.objs.size f cd::outer
 ex:=[]
 calm:=true
 fn:=λ_=>true
 pn:=[]
 xe:=λe s'=>wpAny (model P w) (A.deeper (envOfC qual scope s.heap.objs.size f cd)) (leaving (envOfC qual scope s.heap.objs.size f cd) e) (λ_ s''=>CX outer H s E e s'') (λe' s''=>CX outer H s E e' s'') s'
theorem Qu {sc:Scope}{n:Nat}{x:Str}(h:sc.names.lookup x=some .cell):∃c,(cellsFrom n sc.names []).lookup x=some c:=by
 have q:=iQ sc.names n [] (.inl h);exact Option.isSome_iff_exists.mp q
theorem T4 {CX:QW} {P:Program} {w:World} {K:PySem.W.Frag} {mg:Str->Option Value} {base:Heap} {N ps:List Str} {qual:Str} {scope:Scope} {f:Addr} {cd:Value} {A:Around} {outer:List Env} {s s1:Shared} {H:Hp} {E:XK} {us:List Value} {vs:List V}
  (S:FnScope N ps scope) (hd:A.handled=none) (e0:Env0 P w K mg base A outer s H) (hl:vs.length=ps.length) (r:AF vs us)
  (x:InCallC s s.heap.objs.size (bindL (envOfC qual scope s.heap.objs.size f cd).kindOf (ps.zip us) λ_=>none) (cellsFrom (s.heap.objs.size+1) scope.names []) (bindC (envOfC qual scope s.heap.objs.size f cd).kindOf (ps.zip us) λ_=>none) s1) :
  Inv (Ca CX P w K mg base N qual scope f cd A outer s H E) [] (start N vs) H s1:=by
 have hpl:ps.length<=N.length:=by have:=congrArg List.length S.pre;rw[cG] at this;omega
 obtain⟨h1,tk,rfl,hk⟩:=x.done;have noA:∀b:Addr,b∉(Ca CX P w K mg base N qual scope f cd A outer s H E).ex:=λb z=>absurd (show b∈([]:List Addr) from z) (by simp)
 refine⟨⟨e0.mod,S.kind,rfl,rfl,bI _,λy z c h1 h2=>?_,λy hy=>?_,λy c _ h=>?_,λ_=>hd,Around.frames_deeper e0.frames,.inr ⟨rfl,rfl⟩,λb z=>absurd z (noA b),e0.bs,e0.bsz,λb _ _=>noA b,λb z=>absurd z (noA b),e0.funs,e0.frf⟩,
  rfl,e0.bare,Un.kept hk,⟨_,x.toInCall.ns,λi y v h1 h2 h3=>?_⟩,λy c h=>⟨_,x.cell y c h⟩,e0.hok.fresh (bI _),λy c h=>?_,λp hp=>absurd (show p∈([]:List (Addr×Obj)) from hp) (by simp),e0.hok.kept hk,?_⟩
 ·exact name_of_addr x.apart (de h1) (de h2)
 ·have hy:scope.names.lookup y=some .cell\/scope.names.lookup y=some .free:=hy;rcases hy with hy|hy
  ·exact Qu hy
  ·exact absurd rfl (S.nofree _ (de hy))
 ·exact gG (x.above y c (de h))
 ·have hi:i<vs.length:=by
   unfold start at h2
   by_cases hi:i<vs.length
   ·exact hi
   ·rw[eR (by simpa using hi)] at h2;rw[iO] at h2
    split at h2<;>cases h2
  have ha:vs[i]?=some v:=by
   unfold start at h2;rw[eX (by simpa using hi),bQ] at h2;cases e:vs[i]? with
   |none=>rw[e] at h2;cases h2
   |some a=>rw[e] at h2;cases h2;rfl
  obtain⟨u,hu,rv⟩:=r.get ha;have hp:ps[i]?=some y:=by
   rw[<-S.pre,List.getElem?_take_of_lt (by omega)];exact h1
  have ndP:ps.Nodup:=by rw[<-S.pre];exact S.nd.sublist (List.take_sublist _ _)
  refine⟨u,rv,?_⟩;rcases S.par y (bJ hp) with k|k
  ·exact .inl ⟨k,NU ndP hp hu k⟩
  ·obtain⟨c,e⟩:=Qu (n:=s.heap.objs.size+1) k;refine .inr ⟨.inl k,c,e,?_⟩;have q:=x.cell y c e;rw[Nx ndP hp hu (by show scope.names.lookup y≠_;rw[k];decide)] at q;exact q
 ·exact e0.hok.fresh (gG (x.above y c (de h)))
 ·unfold start;show _=N.length;rw[bW,bE,eF];omega
theorem Xt {CX:QW} {P:Program} {w:World} {K:PySem.W.Frag} {mg:Str->Option Value} {base:Heap} {k:Nat} {f:Addr} {name qual:Str} {params:Arguments} {body:List Stmt} {scope:Scope} {dV kV doc pm cdv ct oc:Value} {an od:Option Addr}
  {osl:Array (Option Value)} {N ps:List Str} {sp:Sp} (lk:K.lookup f=some ⟨oc,od,.func (PySem.W.fnOf name qual params body scope dV kV doc pm an cdv ct),osl⟩) (hcd:PySem.W.codeIn K cdv qual=true) (S:FnScope N ps scope)
  (len:∀vs H Q E,sp vs H Q E->vs.length=ps.length)
  (hbody:∀(A:Around) (outer:List Env) (s:Shared) (H:Hp) (vs:List V) (Q:VK) (E:XK),Room k (A.deeper (envOfC qual scope s.heap.objs.size f cdv))->sp vs H Q E->
   ∃t,Pb (Ca CX P w K mg base N qual scope f cdv A outer s H E) body t/\t { nx:=λ_ H'=>Q .non H',rt:=Q } (start N vs) H) :
  FnOk P w K mg base CX (k+1) f (PySem.W.fnOf name qual params body scope dV kV doc pm an cdv ct) ps sp:=by
 refine⟨len,λA outer s H args us vs Q E hr e0 hb r hsp=>?_⟩;have hl:=len _ _ _ _ hsp;have KX:K.In s.heap:=e0.mod.kin.keeps λb o e=>(e0.bs b o e).1
 have lim:s.heap.NoLimit:=e0.mod.nolimit.keeps λb o e=>(e0.bs b o e).1
 have hkind:∀y∈ps.zip us,scope.names.lookup y.1=some .local\/(scope.names.lookup y.1=some .cell/\((cellsFrom (s.heap.objs.size+1) scope.names []).lookup y.1).isSome=true):=λ⟨n,v⟩ hy=>by
  rcases S.par n (fO hy).1 with q|q
  ·exact .inl q
  ·exact .inr ⟨q,iQ _ _ _ (.inl q)⟩
 refine codeAny_call_function hr.depth (KX _ _ lk) rfl S.co S.gen rfl (PySem.W.codeRec_of KX hcd) (hb _ _ _ _ ?_);refine wpAny_newFunctionEnv_cells S.kind hkind λenv he s1 x=>?_
 subst he;refine⟨lim.keeps x.toInCall.keep,codeAny_func ?_⟩;obtain⟨t,ht,hq⟩:=hbody A outer s H vs Q E (hr.deeper _) hsp;have I:Inv (Ca CX P w K mg base N qual scope f cdv A outer s H E) [] (start N vs) H s1:=T4 S hr.hd e0 hl r x;refine cD (ht [] s1 (start N vs) H _ I hq) (λfl s' hs=>?_) λe s' hs=>hs
 have fin:∀{σ':St} {H':Hp} {v:V} {u:Value},Inv (Ca CX P w K mg base N qual scope f cdv A outer s H E) [] σ' H' s'->RelV v u->Q v H'->CE outer P w H s Q u s':=
  λ{σ' H' v u} J rv q=>⟨v,H',J.os,J.bare,J.base,J.hok,rv,q⟩
 cases fl with
 |ret u=>
  obtain⟨v,σ',H',J,rv,q⟩:=hs;exact fin J rv q
 |next=>
  obtain⟨σ',H',J,q⟩:=hs;exact fin (v:=V.non) (u:=Value.none) J rfl q
 |brk=>
  obtain⟨_,_,_,q⟩:=hs;exact False.elim q
 |cont=>
  obtain⟨_,_,_,q⟩:=hs;exact False.elim q
section
variable {X:Cx}{x:Str}{p pos:Pos}{e:Expr}{es:List Expr}{t:TA}{id T:String}{r:List V->Hp->VK->Prop}
def aQ (r:List V->Hp->VK->Prop)(t:TA):TE:=λσ H Q=>t σ H λvs H1=>r vs H1 Q
theorem Av (hc:Ei X (.builtin id) r) (hg:Gl X x) (hm:X.mg x=none) (hv:bootBuiltins x=some (.builtin id)) (ha:PA X (e::es) t) (hn:x≠"__name__":=by decide) (hdb:(x == ("__debug__":Str))=false:=by decide)
  (he:starEach (e::es) X.env=(false,eval e X.env)::starEach es X.env:=by rfl) (hpl:(backTo pos (starEach es X.env)).any (·.1)=false:=by rfl):PE X (.Call (.Name x p) (e::es) [] pos) (aQ r t):=by
 intro pins s σ H Q I h;refine dF (Jt I hg hm hv ?_ hn hdb);exact PyProof.Rows.callWith_builtin1 (A7 (ha pos pins s σ H _ I h) λus s1 ⟨vs,H1,I1,r1,q1⟩=>hc pins s1 σ H1 vs us Q I1 r1 q1) he hpl
theorem Dg (hc:Ei X (.type T) r) (hg:Gl X x) (hm:X.mg x=none) (hv:bootBuiltins x=some (.type T)) (ha:PA X (e::es) t) (hn:x≠"__name__":=by decide) (hdb:(x == ("__debug__":Str))=false:=by decide)
  (he:starEach (e::es) X.env=(false,eval e X.env)::starEach es X.env:=by rfl) (hpl:(backTo pos (starEach es X.env)).any (·.1)=false:=by rfl):PE X (.Call (.Name x p) (e::es) [] pos) (aQ r t):=by
 intro pins s σ H Q I h;refine dF (Jt I hg hm hv ?_ hn hdb);exact fS (A7 (ha pos pins s σ H _ I h) λus s1 ⟨vs,H1,I1,r1,q1⟩=>hc pins s1 σ H1 vs us Q I1 r1 q1) he hpl
end
end L2
namespace HT
open PySem PyProof.Rows
section
variable {prog:Program}{w:World}{A:Around}{E:Value->Shared->Prop}{s:Shared}
def CD (n d:Nat):Option Int->Nat
 |none=>d
 |some v=>if v<0 then(v+(n:Int)).toNat else min v.toNat n
theorem Uw (n d:Nat):CD n d none=d:=rfl
theorem LB (n d k:Nat):CD n d (some (k:Int))=min k n:=by
 show(if(k:Int)<0 then((k:Int)+(n:Int)).toNat else min (k:Int).toNat n)=min k n;rw[bP (by omega),Int.toNat_natCast]
theorem YR (n d:Nat)(hd:d<=n)(o:Option Int):CD n d o<=n:=by
 cases o with
 |none=>exact hd
 |some v=>
  show(if v<0 then(v+(n:Int)).toNat else min v.toNat n)<=n
  by_cases hv:v<0
  ·rw[bV hv];omega
  ·rw[bP hv];exact ip _ _
theorem Sw (v:Int)(n d:Nat):(if v<0 then max (v+(n:Int)) 0 else min v (n:Int))=((CD n d (some v):Nat):Int):=by
 show(if v<0 then max (v+(n:Int)) 0 else min v (n:Int))=(((if v<0 then(v+(n:Int)).toNat else min v.toNat n):Nat):Int)
 by_cases hv:v<0
 ·simp only[if_pos hv];omega
 ·simp only[if_neg hv];omega
theorem Rz (lo hi:Option Int)(n:Nat):Builtin.Slice.sliceAdjust lo hi 1 (n:Int)=(((CD n 0 lo:Nat):Int),((CD n n hi:Nat):Int)):=by
 have h1:¬((1:Int)<0):=by omega
 unfold Builtin.Slice.sliceAdjust;simp only[h1,if_false];refine Prod.ext ?_ ?_
 ·cases lo with
  |none=>rfl
  |some v=>exact Sw v n 0
 ·cases hi with
  |none=>rfl
  |some v=>exact Sw v n n
theorem RL (i j:Nat):Builtin.Slice.slicePlaces (i:Int) (j:Int) 1=j-i:=by
 unfold Builtin.Slice.slicePlaces;have h1:(1:Int)>0:=by omega
 simp only[h1,if_true,Int.ediv_one]
 split<;>omega
theorem L5 {v:Value}{o:Option Int}{Q:Option Int->Shared->Prop}(p:IsPart v o)(h:Q o s):wpAny (model prog w) A (Builtin.Slice.slicePartIndex v) Q E s:=by
 cases p with
 |none=>exact slicePart_none h
 |int i t=>exact slicePart_int h
theorem GI {sl:Addr} {vl vu:Value} {lo hi:Option Int} {n:Nat} {Q:Int×Int×Nat->Shared->Prop} (hs:s.heap.IsSliceOf sl vl vu .none) (pl:IsPart vl lo) (pu:IsPart vu hi)
  (h:Q (((CD n 0 lo:Nat):Int),1,CD n n hi-CD n 0 lo) s):wpAny (model prog w) A (Builtin.Slice.sliceApplied (.ref sl) (pure (n:Int))) Q E s:=by
 obtain⟨os,hos,hcs,hds⟩:=id hs;unfold Builtin.Slice.sliceApplied Builtin.Slice.sliceFields;refine bD (bD (wpAny_field hos hds (x:=vl) rfl (bD (wpAny_field hos hds (x:=vu) rfl (bD (wpAny_field hos hds (x:=.none) rfl (bG ?_)))))));refine bD (slicePart_none ?_);show wpAny _ _ (if((1:Int) == 0)=true then _ else _) _ _ s;rw[bP (by decide)];refine bD (L5 pl (bD (L5 pu (bD (bG ?_)))));show wpAny _ _ (match Builtin.Slice.sliceAdjust lo hi 1 (n:Int) with|(lo,hi)=>pure (lo,(1:Int),Builtin.Slice.slicePlaces lo hi 1)) _ _ s;rw[Rz lo hi n];show wpAny _ _ (pure (((CD n 0 lo:Nat):Int),(1:Int),Builtin.Slice.slicePlaces ((CD n 0 lo:Nat):Int) ((CD n n hi:Nat):Int) 1)) _ _ s;rw[RL];exact bG h
theorem Uh (xs:Array Value)(i k:Nat):((List.range k).filterMap λ(m:Nat)=>xs[((i:Int)+(m:Int)*1).toNat]?).toArray=((xs.toList.drop i).take k).toArray:=by
 have e:(λ(m:Nat)=>xs[((i:Int)+(m:Int)*1).toNat]?)=λm=>xs[i+m]?:=by
  funext m
  have:((i:Int)+(m:Int)*1).toNat=i+m:=by omega
  rw[this]
 rw[e];have:=pick_run xs i k;rw[List.filterMap_map] at this;have e2:((λx=>xs[x]?)∘λx=>i+x)=λm=>xs[i+m]?:=rfl
 rw[e2] at this;rw[this]
theorem JL {t sl:Addr} {items:Array Value} {vl vu:Value} {lo hi:Option Int} {Q:Value->Shared->Prop} (ht:IsTup s.heap t items) (hs:s.heap.IsSliceOf sl vl vu .none) (pl:IsPart vl lo) (pu:IsPart vu hi)
  (hw:¬(CD items.size 0 lo=0/\CD items.size items.size hi=items.size))
  (h:Q (.ref s.heap.objs.size) { s with heap:=s.heap.push { cls:=.type "tuple",data:=.seq ((items.toList.drop (CD items.size 0 lo)).take (CD items.size items.size hi-CD items.size 0 lo)).toArray } })
  (hsz:items.size<=sizeLine):wpAny (model prog w) A (getItem (.ref t) (.ref sl)) Q E s:=by
 have htake:sizeOk (.seq ((items.toList.drop (CD items.size 0 lo)).take (CD items.size items.size hi-CD items.size 0 lo)).toArray):=by
  show((items.toList.drop (CD items.size 0 lo)).take (CD items.size items.size hi-CD items.size 0 lo)).toArray.size<=sizeLine;rw[cq,cG,eS,dC];omega
 have hj:CD items.size items.size hi<=items.size:=YR _ _ (bI _) hi;obtain⟨os,hos,hcs,hds⟩:=id hs;have hTs:s.TypeIs (.ref sl) "slice":=⟨os,hos,hcs⟩
 unfold getItem
 try with_reducible refine cK ?_
 first|refine bD (bG ?_)|skip
 refine bD (wpAny_sequenceKey ht.typeIs (by decide) ?_);refine bD (fw (name:=Str.ofString "__getitem__") ht.typeIs d9
  (dq d9 ht.typeIs entry_tuple_getitem ?_ (args_tuple_getitem _ _)))
 show wpAny _ _ (Builtin.Tuple.tupleItemsOf (.ref t) >>= _) _ _ s;refine bD (tupleItemsOf_ ht ?_);refine bD (gR hTs ?_);rw[bV (by decide)];refine bD (GI hs pl pu ?_);have hno:¬((((CD items.size 0 lo:Nat):Int) == 0&&(1:Int) == 1&&(CD items.size items.size hi-CD items.size 0 lo) == items.size)=true):=by
  intro q;rw[cu,cu] at q;have q1:((CD items.size 0 lo:Nat):Int)=0:=eq_of_beq q.1.1;have q2:CD items.size items.size hi-CD items.size 0 lo=items.size:=eq_of_beq q.2;exact hw ⟨by omega,by omega⟩
 show wpAny _ _ (if(((CD items.size 0 lo:Nat):Int) == 0&&(1:Int) == 1&&(CD items.size items.size hi-CD items.size 0 lo) == items.size)=true then _ else _) _ _ s;rw[bP hno,Uh]
 first
  |exact bD (m:=Builtin.Tuple.tupleExact _) (cY (bG ⟨_,rfl,bG h⟩) htake)
  |exact bD (m:=Builtin.Tuple.tupleExact _) (cY (bD (bG (bG ⟨_,rfl,bG h⟩))) htake)
  |exact bD (bD (m:=Builtin.Tuple.tupleExact _) (cY (bG (bG ⟨_,rfl,bG h⟩)) htake))
  |exact bD (bD (m:=Builtin.Tuple.tupleExact _) (cY (bG ⟨_,rfl,bG h⟩) htake))
end
end HT
namespace L2
open PySem PySem.Spec PyProof.Rows
abbrev TO:=St->Hp->(Option Int->Hp->Prop)->Prop
def PO (X:Cx)(e:Option Expr)(t:TO):Prop:=
 ∀(pins:List (Addr×Obj)) (s:Shared) (σ:St) (H:Hp) (Q:Option Int->Hp->Prop),Inv X pins σ H s->t σ H Q->
  wpAny (model X.prog X.w) X.A (evalPart e X.env) (λu s'=>∃o H',Inv X pins σ H' s'/\IsPart u o/\Q o H') X.xe s
def Wa:TO:=λ_ H Q=>Q none H
def Zs (t:TE):TO:=λσ H Q=>t σ H λx H1=>∃i,x=.int i/\Q (some i) H1
theorem intsAre_of {ns:List Int}:∀{us:List Value},AF (ns.map V.int) us->IntsAre us ns:=by
 induction ns with
 |nil=>intro us r;rw[fU] at r;cases r;exact .nil
 |cons n ns ih=>
  intro us r;rw[bX] at r;cases r with
  |cons r1 r2=>
   obtain⟨t,e⟩:=r1;subst e;exact .cons n t (ih r2)
section
variable {X:Cx}{e:Expr}{te:TE}{lo hi:Option Expr}{tl th:TO}{pos p2:Pos}
theorem FP:PO X none Wa:=by
 intro pins s σ H Q I h;rw[evalPart_none];exact bG ⟨none,H,I,.none,h⟩
theorem EK (h:PE X e te):PO X (some e) (Zs te):=by
 intro pins s σ H Q I hw;rw[evalPart_some];refine A7 (h pins s σ H _ I hw) λu s1 ⟨x,H1,I1,r1,q1⟩=>?_
 obtain⟨i,rfl,q⟩:=q1;obtain⟨t,rfl⟩:=r1;exact⟨some i,H1,I1,.int i t,q⟩
def Za (X:Cx)(r:V->Option Int->Option Int->Hp->VK->Prop):Prop:=
 ∀(pins:List (Addr×Obj)) (s:Shared) (σ:St) (H:Hp) (x:V) (v vl vu:Value) (lo hi:Option Int) (sl:Addr) (Q:VK),Inv X pins σ H s->RelV x v->s.heap.IsSliceOf sl vl vu .none->IsPart vl lo->IsPart vu hi->r x lo hi H Q->
  ∃T id,typeLookup (.type T) "__getitem__"=pure (some (.builtin id))/\s.TypeIs v T/\wpAny (model X.prog X.w) X.A (getItem v (.ref sl)) (EP X pins σ Q) X.xe s
def bC (r:V->Option Int->Option Int->Hp->VK->Prop)(te:TE)(tl th:TO):TE:=λσ H Q=>te σ H λx H1=>tl σ H1 λl H2=>th σ H2 λu H3=>r x l u H3 Q
theorem D9 {r:V->Option Int->Option Int->Hp->VK->Prop}(hr:Za X r)(he:PE X e te)(hl:PO X lo tl)(hu:PO X hi th):PE X (.Subscript e (.Slice lo hi none p2) pos) (bC r te tl th):=by
 intro pins s σ H Q I h;refine Subscript_ (A7 (he pins s σ H _ I h) λv s1 ⟨x,H1,I1,r1,q1⟩=>?_);refine wpAny_Slice (A7 (hl pins s1 σ H1 _ I1 q1) λvl s2 ⟨l,H2,I2,pl,q2⟩=>A7 (hu pins s2 σ H2 _ I2 q2) λvu s3 ⟨u,H3,I3,pu,q3⟩=>?_);rw[evalPart_none];refine bG ?_;have I4:Inv X pins σ H3 { s3 with heap:=s3.heap.push { cls:=.type "slice",data:=.fields #[vl,vu,.none] } }:=I3.kept (t':=s3.toks) λb ob q=>bH _ q
 obtain⟨T,id,hT,ht,hg⟩:=hr pins { s3 with heap:=s3.heap.push { cls:=.type "slice",data:=.fields #[vl,vu,.none] } } σ H3 x v vl vu l u s3.heap.objs.size Q I4 r1 (Heap.IsSliceOf.new ..) pl pu q3;show wpAny (model X.prog X.w) X.A (subscriptTail e (.Slice lo hi none p2) v (.ref s3.heap.objs.size)) (EP X pins σ Q) X.xe { s3 with heap:=s3.heap.push { cls:=.type "slice",data:=.fields #[vl,vu,.none] } };exact tail_any (ops:=[.ref s3.heap.objs.size,v]) ht hT hg (by with_unfolding_all rfl)
def FI (xs:List V)(lo hi:Option Int):List V:=(xs.drop (HT.CD xs.length 0 lo)).take (HT.CD xs.length xs.length hi-HT.CD xs.length 0 lo)
theorem K5 (xs:List V)(lo hi:Option Int):(FI xs lo hi).length<=xs.length:=by
 unfold FI;rw[cG,eS];omega
def aP (K:PySem.W.Frag):V->Option Int->Option Int->Hp->VK->Prop:=λx lo hi H Q=>∃a xs,x=.ref a/\AS K H a xs/\
 ¬(HT.CD xs.length 0 lo=0/\HT.CD xs.length xs.length hi=xs.length)/\∀p,H p=none->Q (.ref p) (upd H p (.tup (FI xs lo hi)))
theorem O1:Za X (aP X.K):=by
 intro pins s σ H x v vl vu lo hi sl Q I rx hs pl pu h;obtain⟨a,xs,rfl,hx,hw,q⟩:=h;cases rx;obtain⟨its,r,ht,hz⟩:=I.tuple hx;have hlen:its.toArray.size=xs.length:=by rw[cq];exact r.length.symm
 refine⟨"tuple",_,PyProof.Rows.slot_tuple_getitem.lookup,ht.typeIs,?_⟩;refine HT.JL ht hs pl pu (by rw[hlen];exact hw) ?_ (by rw[hlen];exact hz);rw[hlen];refine⟨.ref s.heap.objs.size,_,I.laid (t':=s.toks) (o:=.tup (FI xs lo hi)) (λb ob q=>bH _ q) (bI _) ?_,rfl,q _ (I.hok.fresh (bI _))⟩;exact⟨cA (K5 xs lo hi) hz,_,(r.drop (HT.CD xs.length 0 lo)).take (HT.CD xs.length xs.length hi-HT.CD xs.length 0 lo),Lx.new _ _⟩
end
def TQ (n:Nat)(i:Int):Option Nat:=if 0<=i then(if i<n then some i.toNat else none) else if -(n:Int)<=i then some (i+n).toNat else none
def Mj {α:Type}(xs:List α)(i:Int):Option α:=(TQ xs.length i).bind λj=>xs[j]?
theorem Sm {n:Nat}{i:Int}{j:Nat}(h:TQ n i=some j):seqIndex? i n=some j/\j<n/\-(n:Int)<=i/\i<n:=by
 unfold TQ at h
 by_cases h0:0<=i
 ·rw[bV h0] at h
  by_cases h1:i<n
  ·rw[bV h1] at h;have e:i.toNat=j:=bO h;exact⟨by rw[seqIndex_of h0 h1,e],by omega,by omega,h1⟩
  ·rw[bP h1] at h;cases h
 ·rw[bP h0] at h
  by_cases h1:-(n:Int)<=i
  ·rw[bV h1] at h;have e:(i+n).toNat=j:=bO h;exact⟨by rw[seqIndex_neg (by omega) h1,e],by omega,h1,by omega⟩
  ·rw[bP h1] at h;cases h
theorem OU {α:Type}{xs:List α}{i:Int}{v:α}(h:Mj xs i=some v):∃j,seqIndex? i xs.length=some j/\xs[j]?=some v/\j<xs.length/\-(xs.length:Int)<=i/\i<xs.length:=by
 unfold Mj at h;cases e:TQ xs.length i with
 |none=>rw[e] at h;cases h
 |some j=>
  rw[e] at h;obtain⟨h1,h2,h3,h4⟩:=Sm e;exact⟨j,h1,h,h2,h3,h4⟩
theorem DD {α:Type}{xs:List α}{j:Nat}{v:α}(h:xs[j]?=some v):Mj xs (j:Int)=some v:=by
 have hj:j<xs.length:=(bT.mp h).1;have e:TQ xs.length (j:Int)=some j:=by
  unfold TQ;rw[bV (by omega),bV (by omega)];simp
 unfold Mj;rw[e];exact h
theorem ML {α:Type}(xs:List α)(v:α):Mj (xs++[v]) (-1)=some v:=by
 have hl:(xs++[v]).length=xs.length+1:=by simp
 have e:TQ (xs++[v]).length (-1)=some xs.length:=by
  unfold TQ;rw[hl,bP (by decide),bV (by omega)]
  congr 1
  omega
 unfold Mj;rw[e];show(xs++[v])[xs.length]?=some v;simp
def WT (b:Expr):Prop:=∀o i,subscripted b false o i=operate [o,i] (getItem o i)
def Y7 (X:Cx)(r:R2):Prop:=
 ∀(value slice:Expr) (pins:List (Addr×Obj)) (s:Shared) (σ:St) (H:Hp) (x y:V) (v u:Value) (Q:VK),Inv X pins σ H s->RelV x v->RelV y u->r x y H Q->
  subscripted slice false v u=operate [v,u] (getItem v u)->wpAny (model X.prog X.w) X.A (subscriptTail value slice v u) (EP X pins σ Q) X.xe s
def ai (X:Cx)(id:String)(r:V->List V->Hp->VK->Prop):Prop:=
 ∀(pins:List (Addr×Obj)) (s:Shared) (σ:St) (H:Hp) (x:V) (xs:List V) (v:Value) (us:List Value) (Q:VK),Inv X pins σ H s->RelV x v->AF xs us->r x xs H Q->
  wpAny (model X.prog X.w) X.A (call (.builtin id) (v::us)) (EP X pins σ Q) X.xe s
section
variable {X:Cx}{a b:Expr}{ta tb:TE}{pos:Pos}
theorem Au {r:R2}(hr:Y7 X r)(ha:PE X a ta)(hb:PE X b tb)(hs:WT b):PE X (.Subscript a b pos) (Xs r ta tb):=by
 intro pins s σ H Q I h;exact Subscript_ (Yw ha hb I h λv u s2 x y H2 I2 rx ry q=>hr a b pins s2 σ H2 x y v u Q I2 rx ry q (hs _ _))
def aL (K:PySem.W.Frag):R2:=λx y H Q=>∃p xs i v,x=.ref p/\y=.int i/\AQ K H p xs/\Mj xs i=some v/\Q v H
def ZJ (K:PySem.W.Frag):R2:=λx y H Q=>∃p xs i v,x=.ref p/\y=.int i/\AS K H p xs/\Mj xs i=some v/\Q v H
def aZ:R2:=λx y H Q=>∃z i c,x=.str z/\y=.int i/\z.length<=sizeLine/\Mj z.cps.toList i=some c/\Q (.str ⟨#[c]⟩) H
theorem Bm:Y7 X (aL X.K):=by
 intro value slice pins s σ H x y v u Q I rx ry h hs;obtain⟨p,xs,i,z,rfl,rfl,hq,he,q⟩:=h;cases rx;obtain⟨t,rfl⟩:=ry;obtain⟨its,r,pl,hz⟩:=I.list hq;obtain⟨j,h1,h2,h3,h4,h5⟩:=OU he;obtain⟨w,ew,rw'⟩:=r.get h2;have hl:=r.length;have hn:=KE;have fin:EP X pins σ Q w s:=⟨z,H,I,rw',q⟩
 by_cases h0:0<=i
 ·have hj:i.toNat=j:=by
   rw[seqIndex_of h0 h5] at h1;exact bO h1
  exact item_listR pl.isList h0 (by omega) (by rw[hj];simpa using ew) fin hs
 ·have hj:(i+(its.toArray.size:Int)).toNat=j:=by
   rw[seqIndex_neg (by omega) h4] at h1;rw[cq,<-hl];exact bO h1
  exact subscriptTail_builtinR (x:=w) pl.isList.typeIs slot_list_getitem.lookup
   (wpAny_getItem_list_neg (Q:=λr s'=>r=w/\EP X pins σ Q r s') pl.isList (by omega) (by rw[cq]<;>omega) (by omega) (by rw[hj];simpa using ew) ⟨rfl,fin⟩) hs
theorem Az:Y7 X (ZJ X.K):=by
 intro value slice pins s σ H x y v u Q I rx ry h hs;obtain⟨p,xs,i,z,rfl,rfl,hq,he,q⟩:=h;cases rx;obtain⟨t,rfl⟩:=ry;obtain⟨its,r,pl,hz⟩:=I.tuple hq;obtain⟨j,h1,h2,h3,h4,h5⟩:=OU he;obtain⟨w,ew,rw'⟩:=r.get h2;have hl:=r.length;have hn:=KE;have fin:EP X pins σ Q w s:=⟨z,H,I,rw',q⟩
 exact subscriptTail_builtinR (x:=w) pl.typeIs slot_tuple_getitem.lookup
  (getItem_tuple (j:=j) (Q:=λr s'=>r=w/\EP X pins σ Q r s') pl (by omega) (by omega) (by rw[cq,<-hl];exact h1) (by simpa using ew) ⟨rfl,fin⟩) hs
theorem KR:Y7 X aZ:=by
 intro value slice pins s σ H x y v u Q I rx ry h hs;obtain⟨z,i,c,rfl,rfl,hz,he,q⟩:=h;obtain⟨t,rfl⟩:=rx;obtain⟨t',rfl⟩:=ry;obtain⟨j,h1,h2,h3,h4,h5⟩:=OU he;have hl:z.cps.toList.length=z.length:=by simp[Str.length]
 rw[hl] at h1 h4 h5;have hn:=KE;exact tail_any (typeIs_str s z t) slot_str_getitem.lookup (getItem_str (c:=c) (by
  have e1:decide (i < -(2^63:Int))=false:=bL (by omega);have e2:decide (i≥2^63)=false:=bL (by omega);rw[e1,e2,Bool.or_false]) (by rw[h1];simpa using h2) ⟨.str ⟨#[c]⟩,H,I.tok _,⟨_,rfl⟩,q⟩) hs
theorem Q9 (its:List Value)(n j:Nat)(u:Value):Obj.mapSeq (·.setIfInBounds j u) { cls:=.type "list",data:=.seq its.toArray n }={ cls:=.type "list",data:=.seq (its.set j u).toArray n }:=by
 simp[Obj.mapSeq]
theorem Inv.lst {pins:List (Addr×Obj)}{σ:St}{H:Hp}{s:Shared}{p:Addr}{xs:List V}(I:Inv X pins σ H s)(h:H p=some (.lst xs)) :
  ∃(its:List Value) (n:Nat),AF xs its/\s.heap.get? p=some { cls:=.type "list",data:=.seq its.toArray n }/\xs.length<=sizeLine:=by
 obtain⟨z,its,n,r,e⟩:=I.hok p _ h;exact⟨its,n,r,e,z⟩
theorem Inv.lstUpd {pins:List (Addr×Obj)} {σ:St} {H:Hp} {s:Shared} {p:Addr} {xs ys:List V} {its its':List Value} {n n':Nat} {f:Obj->Obj} (I:Inv X pins σ H s) (h:H p=some (.lst xs))
  (ho:s.heap.get? p=some { cls:=.type "list",data:=.seq its.toArray n }) (hf:f { cls:=.type "list",data:=.seq its.toArray n }={ cls:=.type "list",data:=.seq its'.toArray n' }) (r:AF ys its') (hz:ys.length<=sizeLine) (t:Nat) :
  Inv X pins σ (upd H p (.lst ys)) { s with heap:=s.heap.update p f,toks:=t }:=by
 have e:(s.heap.update p f).get? p=some { cls:=.type "list",data:=.seq its'.toArray n' }:=by
  rw[cU f ho (by rw[hf]<;>rfl),hf]
 refine I.write (x:=p) (e:=p) (by rw[h];trivial) (.inl rfl) (λb u hb q=>(cQ _ _ (Ne.symm hb)).trans q) ⟨_,e⟩ ?_;exact⟨hz,its',n',r,e⟩
def ZR:V->V->V->Hp->(Hp->Prop)->Prop:=λo i v H Q=>∃p xs k j,o=.ref p/\i=.int k/\H p=some (.lst xs)/\TQ xs.length k=some j/\Q (upd H p (.lst (xs.set j v)))
theorem set_list:ZO X ZR:=by
 intro pins s σ H o i v ov iv u Q I ro ri rv h;obtain⟨p,xs,k,j,rfl,rfl,hp,hj,q⟩:=h;cases ro;obtain⟨t,rfl⟩:=ri;obtain⟨its,n,r,ho,hz⟩:=I.lst hp;obtain⟨h1,h2,h3,h4⟩:=Sm hj;have hl:=r.length;have hn:=KE;have I':Inv X pins σ (upd H p (.lst (xs.set j v))) { s with heap:=s.heap.update p (Obj.mapSeq (·.setIfInBounds j u)) }:=
  I.lstUpd hp ho (Q9 its n j u) (r.set rv j) (by rw[dZ];exact hz) s.toks
 by_cases h0:0<=k
 ·have hk:k.toNat=j:=by
   rw[seqIndex_of h0 h4] at h1;exact bO h1
  exact PySem.W.ki_setAt ho h0 (by omega) (by rw[cq,<-hl];exact h4) (by rw[hk];exact⟨_,I',q⟩)
 ·have hk:(k+(its.toArray.size:Int)).toNat=j:=by
   rw[seqIndex_neg (by omega) h3] at h1;rw[cq,<-hl];exact bO h1
  exact PySem.W.ki_setBack ho (by omega) (by rw[cq,<-hl];exact h3) (by omega) (by rw[hk];exact⟨_,I',q⟩)
theorem N7 (lo hi:Option Int)(n:Nat):(sliceBounds lo hi none n).1=((HT.CD n 0 lo:Nat):Int)/\(sliceBounds lo hi none n).2.1=((HT.CD n n hi:Nat):Int)/\(sliceBounds lo hi none n).2.2=1:=by
 refine⟨?_,?_,rfl⟩
 ·cases lo with
  |none=>simp[sliceBounds,HT.CD]
  |some i=>
   simp only[sliceBounds,HT.CD,Option.getD_none,show(1:Int)>0 by decide,if_true]
   by_cases h:i<0
   ·simp only[h,if_true]<;>omega
   ·simp only[h,if_false]<;>omega
 ·cases hi with
  |none=>simp[sliceBounds,HT.CD]
  |some i=>
   simp only[sliceBounds,HT.CD,Option.getD_none,show(1:Int)>0 by decide,if_true]
   by_cases h:i<0
   ·simp only[h,if_true]<;>omega
   ·simp only[h,if_false]<;>omega
theorem Nk (its:List Value)(lo hi:Option Int):slicePick its.toArray lo hi none=((its.drop (HT.CD its.length 0 lo)).take (HT.CD its.length its.length hi-HT.CD its.length 0 lo)).toArray:=by
 obtain⟨h1,h2,h3⟩:=N7 lo hi its.toArray.size;unfold slicePick;rw[h1,h2,h3];simp only[sliceRange_one,pick_run,List.size_toArray]<;>rfl
def aV (K:PySem.W.Frag):V->Option Int->Option Int->Hp->VK->Prop:=λx lo hi H Q=>∃a xs,x=.ref a/\AQ K H a xs/\∀p,H p=none->Q (.ref p) (upd H p (.lst (FI xs lo hi)))
theorem Om:Za X (aV X.K):=by
 intro pins s σ H x v vl vu lo hi sl Q I rx hs pl pu h;obtain⟨a,xs,rfl,hx,q⟩:=h;cases rx;obtain⟨its,r,ht,hz⟩:=I.list hx;have hlen:=r.length;refine⟨"list",_,slot_list_getitem.lookup,ht.isList.typeIs,?_⟩;refine wpAny_getItem_list_slice ht.isList hs pl pu .none (by simp) ?_ (by rw[cq]<;>omega);rw[Nk,<-hlen];refine⟨.ref s.heap.objs.size,_,I.laid (t':=s.toks) (o:=.lst (FI xs lo hi)) (λb ob q=>bH _ q) (bI _) ?_,rfl,q _ (I.hok.fresh (bI _))⟩;exact⟨cA (K5 xs lo hi) hz,_,0,(r.drop (HT.CD xs.length 0 lo)).take (HT.CD xs.length xs.length hi-HT.CD xs.length 0 lo),bR _ rfl⟩
def IG:V->Bool
 | .non=>true
 | .bl _=>true
 | .int _=>true
 | .str _=>true
 |_=>false
def Nd:V->V->Bool
 | .non,.non=>true
 | .bl a,.bl b=>a == b
 | .bl a,.int b=>(if a then 1 else 0) == b
 | .int a,.bl b=>a == (if b then 1 else 0)
 | .int a,.int b=>a == b
 | .str a,.str b=>a == b
 |_,_=>false
theorem LU {A:Around}{s:Shared}{y x:V}{u v:Value}(ry:RelV y u)(rx:RelV x v)(fy:IG y=true)(fx:IG x=true):SeqAt.EqAt A s u v (Nd y x):=by
 cases y with
 |non=>
  cases ry;cases x with
  |non=>cases rx;exact eQ _
  |bl b=>cases rx;exact SeqAt.EqAt.none_bool b
  |int b=>obtain⟨t,rfl⟩:=rx;exact SeqAt.EqAt.none_int b t
  |str b=>obtain⟨t,rfl⟩:=rx;exact SeqAt.EqAt.none_str b t
  |_=>exact absurd (show false=true from fx) bN
 |bl a=>
  cases ry;cases x with
  |non=>cases rx;exact SeqAt.EqAt.bool_none a
  |bl b=>cases rx;exact SeqAt.EqAt.bool_bool a b
  |int b=>obtain⟨t,rfl⟩:=rx;exact SeqAt.EqAt.bool_int a b t
  |str b=>obtain⟨t,rfl⟩:=rx;exact SeqAt.EqAt.bool_str a b t
  |_=>exact absurd (show false=true from fx) bN
 |int a=>
  obtain⟨t',rfl⟩:=ry;cases x with
  |non=>cases rx;exact SeqAt.EqAt.int_none a t'
  |bl b=>cases rx;exact SeqAt.EqAt.int_bool a t' b
  |int b=>obtain⟨t,rfl⟩:=rx;exact ix a t' b t
  |str b=>obtain⟨t,rfl⟩:=rx;exact gw a t' b t
  |_=>exact absurd (show false=true from fx) bN
 |str a=>
  obtain⟨t',rfl⟩:=ry;cases x with
  |non=>cases rx;exact SeqAt.EqAt.str_none a t'
  |bl b=>cases rx;exact SeqAt.EqAt.str_bool a t' b
  |int b=>obtain⟨t,rfl⟩:=rx;exact gu a t' b t
  |str b=>obtain⟨t,rfl⟩:=rx;exact iw a t' b t
  |_=>exact absurd (show false=true from fx) bN
 |_=>exact absurd (show false=true from fy) bN
def RO (x:V)(u:Value):Bool:=match u with
 | .none=>Nd .non x
 | .bool b=>Nd (.bl b) x
 | .int i _=>Nd (.int i) x
 | .str z _=>Nd (.str z) x
 |_=>false
theorem UT {x y:V}{u:Value}(r:RelV y u)(f:IG y=true):RO x u=Nd y x:=by
 cases y with
 |non=>cases r;rfl
 |bl b=>cases r;rfl
 |int i=>obtain⟨t,rfl⟩:=r;rfl
 |str z=>obtain⟨t,rfl⟩:=r;rfl
 |_=>exact absurd (show false=true from f) bN
theorem Kk {x:V}:∀{xs:List V} {us:List Value},AF xs us->xs.all IG=true->us.any (RO x)=xs.any λy=>Nd y x
 |_,_,.nil,_=>rfl
 |y::xs,u::us,.cons r t,f=>by
  rw[fH,cu] at f;rw[dO,dO,UT r f.1,Kk t f.2]
theorem ID {A:Around}{s:Shared}{x:V}{v:Value}(rx:RelV x v)(fx:IG x=true):∀{xs:List V} {us:List Value},AF xs us->xs.all IG=true->∀u∈us,SeqAt.EqAt A s u v (RO x u)
 |_,_,.nil,_=>λu hu=>by cases hu
 |y::xs,u::us,.cons r t,f=>λu' hu=>by
  rw[fH,cu] at f;rcases cf.mp hu with rfl|hu
  ·rw[UT r f.1];exact LU r rx f.1 fx
  ·exact ID rx fx t f.2 u' hu
def Us (x:V)(xs:List V):Bool:=xs.any λy=>Nd y x
def aA (K:PySem.W.Frag)(neg:Bool):R2:=λx y H Q=>∃p xs,y=.ref p/\(AQ K H p xs\/AS K H p xs)/\IG x=true/\xs.all IG=true/\Q (.bl (if neg then !Us x xs else Us x xs)) H
theorem NC:HH X (compareOp .In) (aA X.K false):=by
 intro pins s σ H x y v u Q I rx ry h;obtain⟨p,xs,rfl,hq,fx,fs,q⟩:=h;cases ry;rcases hq with hq|hq
 ·obtain⟨its,r,pl,hz⟩:=I.list hq;refine SeqAt.in_listAt (RO x) pl.isList (λw hw=>ID rx fx r fs w (by simpa using hw)) ⟨.bl _,H,I,rfl,?_⟩;rw[show its.toArray.any (RO x)=its.any (RO x) by simp,Kk r fs];exact q
 ·obtain⟨its,r,pl,hz⟩:=I.tuple hq;refine SeqAt.in_tupleAt (RO x) pl (λw hw=>ID rx fx r fs w (by simpa using hw)) ⟨.bl _,H,I,rfl,?_⟩;rw[show its.toArray.any (RO x)=its.any (RO x) by simp,Kk r fs];exact q
theorem Ko:HH X (compareOp .NotIn) (aA X.K true):=by
 intro pins s σ H x y v u Q I rx ry h;obtain⟨p,xs,rfl,hq,fx,fs,q⟩:=h;cases ry;rcases hq with hq|hq
 ·obtain⟨its,r,pl,hz⟩:=I.list hq;refine SeqAt.notIn_listAt (RO x) pl.isList (λw hw=>ID rx fx r fs w (by simpa using hw)) ⟨.bl _,H,I,rfl,?_⟩;rw[show its.toArray.any (RO x)=its.any (RO x) by simp,Kk r fs];exact q
 ·obtain⟨its,r,pl,hz⟩:=I.tuple hq;refine SeqAt.notIn_tupleAt (RO x) pl (λw hw=>ID rx fx r fs w (by simpa using hw)) ⟨.bl _,H,I,rfl,?_⟩;rw[show its.toArray.any (RO x)=its.any (RO x) by simp,Kk r fs];exact q
theorem AM:Ei X (.builtin "len") (λxs H Q=>∃p ys,xs=[.ref p]/\(AQ X.K H p ys\/AS X.K H p ys)/\Q (.int ys.length) H):=by
 intro pins s σ H xs us Q I r h;obtain⟨p,ys,rfl,hq,q⟩:=h;obtain⟨u,rfl,rx⟩:=vals1 r;cases rx;have hn:=KE;rcases hq with hq|hq
 ·obtain⟨its,r',pl,hz⟩:=I.list hq;have hlen:=r'.length;exact Calls.call_len_list pl.isList (by simp only[List.size_toArray]<;>omega) ⟨.int ys.length,H,I.tok _,⟨s.toks+1,by rw[cq,hlen]⟩,q⟩
 ·obtain⟨its,r',pl,hz⟩:=I.tuple hq;have hlen:=r'.length;exact len_tuple pl (by simp only[List.size_toArray]<;>omega) ⟨.int ys.length,H,I.tok _,⟨s.toks+1,by rw[cq,hlen]⟩,q⟩
theorem GZ:Ei X (.builtin "len") (λxs H Q=>∃z,xs=[.str z]/\z.length<=sizeLine/\Q (.int z.length) H):=by
 intro pins s σ H xs us Q I r h;obtain⟨z,rfl,hz,q⟩:=h;obtain⟨u,rfl,t,rfl⟩:=vals1 r;have hn:=KE;exact len_str (by omega) ⟨.int z.length,H,I.tok _,⟨_,rfl⟩,q⟩
theorem E8:Ei X (.type "list") (λxs H Q=>∃p ys,xs=[.ref p]/\(AQ X.K H p ys\/AS X.K H p ys)/\∀l,H l=none->Q (.ref l) (upd H l (.lst ys))):=by
 intro pins s σ H xs us Q I r h;obtain⟨p,ys,rfl,hq,q⟩:=h;obtain⟨u,rfl,rx⟩:=vals1 r;cases rx;have fin:∀(its:List Value),AF ys its->ys.length<=sizeLine->∀(h':Heap) (c':Nat),(∀b o',s.heap.get? b=some o'->h'.get? b=some o')->
   h'.get? s.heap.objs.size=some { cls:=.type "list",dict:=none,data:=.seq its.toArray c',slots:=#[] }->EP X pins σ Q (.ref s.heap.objs.size) { s with heap:=h' }:=λits r' hz h' c' kp e=>
  ⟨.ref s.heap.objs.size,_,I.laid (t':=s.toks) kp (bI _) (show AX X.prog X.w _ h' _ (.lst ys) from⟨hz,its,c',r',e⟩),rfl,q _ (I.hok.fresh (bI _))⟩
 rcases hq with hq|hq
 ·obtain⟨its,r',pl,hz⟩:=I.list hq;have hlen:=r'.length;obtain⟨o,ho,hc,n,hd⟩:=pl.isList;exact call_list_seq p (.inl rfl) ho hc hd (λh' c' kp e=>fin its r' hz h' c' kp e) (by simp only[List.size_toArray]<;>omega)
 ·obtain⟨its,r',pl,hz⟩:=I.tuple hq;have hlen:=r'.length;obtain⟨o,ho,hc,n,hd⟩:=pl;exact call_list_seq p (.inr rfl) ho hc hd (λh' c' kp e=>fin its r' hz h' c' kp e) (by simp only[List.size_toArray]<;>omega)
theorem Jm:Ei X (.type "tuple") (λxs H Q=>∃p ys,xs=[.ref p]/\((AQ X.K H p ys/\∀l,H l=none->Q (.ref l) (upd H l (.tup ys)))\/(AS X.K H p ys/\Q (.ref p) H))):=by
 intro pins s σ H xs us Q I r h;obtain⟨p,ys,rfl,h⟩:=h;obtain⟨u,rfl,rx⟩:=vals1 r;cases rx;rcases h with⟨hq,q⟩|⟨hq,q⟩
 ·obtain⟨its,r',pl,hz⟩:=I.list hq;have hlen:=r'.length;refine call_tuple_list pl.isList (λh' kp=>?_) (by simp only[List.size_toArray]<;>omega);have I1:Inv X pins σ H { s with heap:=h' }:=I.kept (t':=s.toks) kp;have I2:Inv X pins σ (upd H h'.objs.size (.tup ys)) { s with heap:=h'.push { cls:=.type "tuple",data:=.seq its.toArray } }:=
   I1.laid (t':=s.toks) (λb o e=>bH _ e) (bI _) (show AX X.prog X.w _ _ _ (.tup ys) from⟨hz,its,r',Lx.new _ _⟩)
  exact⟨.ref h'.objs.size,_,I2,rfl,q _ (I1.hok.fresh (bI _))⟩
 ·obtain⟨its,r',pl,hz⟩:=I.tuple hq;exact call_tuple_same pl ⟨.ref p,H,I,rfl,q⟩
def bh (K:PySem.W.Frag)(T:String)(x:V)(H:Hp):Prop:=match x with
 | .str _=>T="str"
 | .int _=>T="int"
 | .ref p=>(T="list"/\∃xs,AQ K H p xs)\/(T="tuple"/\∃o,K.lookup p=some o/\o.cls=.type "tuple"/\o.dict=none)\/
   (T="dict"/\((∃kvs,H p=some (.dK kvs))\/∃kvs,H p=some (.dT kvs)))\/(T="set"/\∃S n,H p=some (.set S n))
 |_=>False
theorem X0 {pins:List (Addr×Obj)}{σ:St}{H:Hp}{s:Shared}{T:String}{x:V}{v:Value}(I:Inv X pins σ H s)(r:RelV x v)(ty:bh X.K T x H) :
  s.TypeIs v T/\∀a,v=.ref a->∃ob,s.heap.get? a=some ob/\ob.dict=none:=by
 cases x with
 |str z=>
  obtain⟨t,rfl⟩:=r;cases(show T="str" from ty);exact⟨typeIs_str s z t,λ_ e=>nomatch e⟩
 |int i=>
  obtain⟨t,rfl⟩:=r;cases(show T="int" from ty);exact⟨typeIs_int s i t,λ_ e=>nomatch e⟩
 |ref p=>
  cases r;rcases ty with⟨rfl,xs,hq⟩|⟨rfl,o,hk,hc,hd⟩|⟨rfl,hk⟩|⟨rfl,S,n,hk⟩
  ·obtain⟨its,_,pl,_⟩:=I.list hq;refine⟨pl.isList.typeIs,λa e=>?_⟩;cases e;obtain⟨o,n,e,c,hd,_⟩:=pl;exact⟨o,e,hd⟩
  ·refine⟨⟨o,I.kIn p o hk,hc⟩,λa e=>?_⟩;cases e;exact⟨o,I.kIn _ o hk,hd⟩
  ·have z:∃o,s.heap.get? p=some o/\o.ExactDict:=by
    rcases hk with⟨kvs,hk⟩|⟨kvs,hk⟩
    ·obtain⟨_,_,_,_,o,_,_,e,ex,_⟩:=I.hok p _ hk;exact⟨o,e,ex⟩
    ·obtain⟨_,_,_,_,o,_,_,e,ex,_⟩:=I.hok p _ hk;exact⟨o,e,ex⟩
   obtain⟨o,e,ex⟩:=z;refine⟨⟨o,e,ex.1⟩,λa e2=>?_⟩;cases e2;exact⟨o,e,ex.2.1⟩
  ·obtain⟨o,_,_,_,e,ex,_⟩:=I.hok p _ hk;refine⟨⟨o,e,ex.1⟩,λa e2=>?_⟩;cases e2;exact⟨o,e,ex.2.1⟩
 |_=>exact False.elim ty
def bq (K:PySem.W.Frag)(T:String)(r:V->List V->Hp->VK->Prop)(to:TE)(t:TA):TE:=λσ H Q=>to σ H λx H1=>bh K T x H1/\t σ H1 λxs H2=>r x xs H2 Q
variable {o e:Expr}{es:List Expr}{to:TE}{t:TA}{name:Str}{apos cpos:Pos}{T id:String}{r:V->List V->Hp->VK->Prop}
theorem J3 (pa:PlainAttrs T) (slot:Slot T name id) (hty:typeOf (.builtin id)=pure (.type "method_descriptor")) (hm:ai X id r) (ho:PE X o to) (ha:PA X (e::es) t)
  (hbase:attributeBase o name X.env (eval o X.env)=eval o X.env:=by rfl)
  (hfew:((backTo cpos (starEach (e::es) X.env)).all (λx=>!x.1)&&(backToKw cpos (keywordEach [] X.env)).all (λx=>x.1.isSome)
   && decide ((e::es).length+([]:List Keyword).length+(if([]:List Keyword).isEmpty then 0 else 1)<30))=true:=by rfl)
  (hline:(apos.endLine == cpos.line)=true:=by rfl) (hs:starEach (e::es) X.env=(false,eval e X.env)::starEach es X.env:=by rfl) (hplain:(backTo cpos (starEach es X.env)).any (·.1)=false:=by rfl) :
  PE X (.Call (.Attribute o name apos) (e::es) [] cpos) (bq X.K T r to t):=by
 intro pins s σ H Q I h;refine wpAny_Call_method_late hbase hfew hline rfl (A7 (ho pins s σ H _ I h) λv s1 z9=>?_);obtain⟨x,H1,I1,r1,ty,q1⟩:=z9;obtain⟨h1,h2⟩:=X0 I1 r1 ty;refine⟨T,id,pa,slot,hty,h1,h2,?_⟩;have hA:=ha cpos pins s1 σ H1 _ I1 q1;rw[hs] at hA ⊢;refine dX (by show(false||(backTo cpos (starEach es X.env)).any (·.1))=false;rw[hplain]<;>rfl) (e8 ?_);exact A7 hA λus s2 ⟨vs,H2,I2,r2,q2⟩=>hm pins s2 σ H2 x vs v us Q I2 r1 r2 q2
end
def bc (X:Cx)(id:String)(r:V->List V->Hp->VK->Prop):Prop:=
 ∀(pins:List (Addr×Obj)) (s:Shared) (σ:St) (H:Hp) (x:V) (xs:List V) (v:Value) (us:List Value) (Q:VK),Inv X pins σ H s->RelV x v->AF xs us->r x xs H Q->
  wpAny (model X.prog X.w) X.A (call (.builtin id) (v::us)) (EP X pins σ Q) X.xe s
theorem AF.one:∀{x:V} {us:List Value},AF [x] us->∃u,us=[u]/\RelV x u
 |_,_,.cons r .nil=>⟨_,rfl,r⟩
theorem AF.zero:∀{us:List Value},AF [] us->us=[]
 |_,.nil=>rfl
theorem AF.dropLast {xs:List V}{us:List Value}(h:AF xs us):AF xs.dropLast us.dropLast:=by
 induction h with
 |nil=>exact .nil
 |cons r t ih=>
  cases t with
  |nil=>exact .nil
  |cons q t'=>exact .cons r ih
theorem AF.eraseIdx:∀{xs:List V} {us:List Value} (i:Nat),AF xs us->AF (xs.eraseIdx i) (us.eraseIdx i)
 |_,_,_,.nil=>.nil
 |_,_,0,.cons _ t=>t
 |_,_,i+1,.cons r t=>.cons r (AF.eraseIdx i t)
theorem AF.reverse {xs:List V}{us:List Value}(h:AF xs us):AF xs.reverse us.reverse:=by
 induction h with
 |nil=>exact .nil
 |cons r t ih=>rw[List.reverse_cons,List.reverse_cons];exact AF.append ih (.cons r .nil)
section
variable {X:Cx}{pins:List (Addr×Obj)}{σ:St}{H:Hp}{s:Shared}{l b:Addr}{xs ys zs:List V}
theorem Inv.lset {its its':List Value} {n:Nat} {f:Array Value->Array Value} {t':Nat} (I:Inv X pins σ H s) (hH:H l=some (.lst xs))
  (e:s.heap.get? l=some { cls:=.type "list",data:=.seq its.toArray n }) (hf:f its.toArray=its'.toArray) (hv:AF ys its') (hz:ys.length<=sizeLine) :
  Inv X pins σ (upd H l (.lst ys)) { s with heap:=s.heap.update l (Obj.mapSeq f),toks:=t' }:=by
 have q:=PySem.IsL.update e f;rw[hf] at q;refine I.write (x:=l) (e:=l) (by rw[hH];exact trivial) (.inl rfl) (λb' u hb hu=>(cQ s.heap (Obj.mapSeq f) (Ne.symm hb)).trans hu) ⟨_,q⟩ ?_;exact⟨hz,its',_,hv,q⟩
theorem Inv.lnew {its:List Value}{t':Nat}(I:Inv X pins σ H s)(hv:AF ys its)(hz:ys.length<=sizeLine) :
  Inv X pins σ (upd H s.heap.objs.size (.lst ys)) { s with heap:=s.heap.push { cls:=.type "list",data:=.seq its.toArray },toks:=t' }:=
 I.laid (λ_ _ q=>bH _ q) (bI _) ⟨hz,its,0,hv,bR _ rfl⟩
theorem Inv.fresh (I:Inv X pins σ H s):H s.heap.objs.size=none:=I.hok.fresh (bI _)
theorem Inv.lstM (I:Inv X pins σ H s)(hH:H l=some (.lst xs)):xs.length<=sizeLine/\∃(its:List Value) (n:Nat),AF xs its/\xs.length=its.length/\s.heap.get? l=some { cls:=.type "list",data:=.seq its.toArray n }:=by
 obtain⟨z,its,n,r,e⟩:=I.hok l _ hH;exact⟨z,its,n,r,r.length,e⟩
theorem UG {n:Nat}(h:n<=sizeLine):Builtin.List.listTooLong n=false:=by
 unfold Builtin.List.listTooLong;exact bL (by omega)
end
section
variable {X:Cx}
def Wc:V->List V->Hp->VK->Prop:=λx vs H Q=>∃l xs y,x=.ref l/\vs=[y]/\H l=some (.lst xs)/\xs.length<sizeLine/\Q .non (upd H l (.lst (xs++[y])))
theorem Gw:bc X "list.append" Wc:=by
 intro pins s σ H x vs v us Q I rx rv h;obtain⟨l,xs,y,rfl,rfl,hH,hz,q⟩:=h;cases rx;obtain⟨u,rfl,ru⟩:=rv.one;obtain⟨z,its,n,r,hl,e⟩:=I.lstM hH;refine call_meets F.slot_list_append ⟨_,e,rfl⟩ F.entry_list_append (F.args_list_append_2 _ _) (PySem.list_append l its.toArray n u (by rw[cq];omega)) ⟨e,?_⟩;refine⟨.non,_,I.lset (its':=its++[u]) hH e (by simp) (r.append (.cons ru .nil)) ?_,rfl,q⟩;rw[bW,fD];omega
def Wg:V->List V->Hp->VK->Prop:=λx vs H Q=>∃l b xs zs,x=.ref l/\vs=[.ref b]/\H l=some (.lst xs)/\H b=some (.lst zs)/\xs.length+zs.length<=sizeLine/\Q .non (upd H l (.lst (xs++zs)))
theorem KA:bc X "list.extend" Wg:=by
 intro pins s σ H x vs v us Q I rx rv h;obtain⟨l,b,xs,zs,rfl,rfl,hH,hB,hz,q⟩:=h;cases rx;obtain⟨u,rfl,ru⟩:=rv.one;cases ru;obtain⟨z,its,n,r,hl,e⟩:=I.lstM hH;obtain⟨z2,its2,n2,r2,hl2,e2⟩:=I.lstM hB;have hsz:its.toArray.size+its2.toArray.size<=sizeLine:=by rw[cq,cq];omega
 have hlong:¬(!its.toArray.isEmpty&&Builtin.List.listTooLong (its.toArray.size+its2.toArray.size))=true:=by
  rw[UG hsz,Bool.and_false];exact bN
 refine call_meets F.slot_list_extend ⟨_,e,rfl⟩ F.entry_list_extend (F.args_list_extend_2 _ _)
  (AutoSeq1.list_extend_list_list_0 l its.toArray n b its2.toArray n2 hlong (by rw[cq];omega) (by omega)) ⟨e,e2,?_⟩
 refine⟨.non,_,I.lset (its':=its++its2) hH e (by simp) (r.append r2) ?_,rfl,q⟩;rw[bW];omega
end
end L2
namespace Att
open PySem PySem.W PySem.Calls PyProof.Rows
theorem Lo {P:Params}{h:Heap}:∀(ns:List Int) (vs:List Value),WellAll P h vs (ns.map WData.int)->IntsAre vs ns:=by
 intro ns
 induction ns with
 |nil=>
  intro vs w;rw[fU] at w;cases w;exact .nil
 |cons n ns ih=>
  intro vs w;rw[bX] at w;cases w with
  |cons a b=>
   cases a;exact .cons _ _ (ih _ b)
theorem SA {l:OpenLaw} {n:Nat} (hn:l.most=some n) {P:Params} {h:Heap} {args:List WData} {vals:List Value}
  (hpre:l.row.toRowW.claim.pre args=true) (hwl:WellAll P h vals args) :
  ∃a vs ns,vals=[Value.ref a]/\args=[WData.list (ns.map WData.int)]/\h.get? a=some { cls:=.type "list",data:=.seq vs.toArray }/\IntsAre vs ns/\ns.length<=n:=by
 have hsh:WShape.hasAll [] args [.list .int]=true:=(pre_splitW hpre).1;have hc:l.pre.holds [] { args:=args }=true:=(pre_splitW hpre).2;obtain⟨d,r,rfl,h1,h2⟩:=hasAllW_cons hsh;obtain rfl:=hasAllW_nil h2;obtain⟨xs,rfl,h3⟩:=hasW_list h1;obtain⟨ns,rfl⟩:=items_int h3;have hlen:ns.length<=n:=by
  unfold OpenLaw.pre at hc;have h4:(WTm.not (.lt (.lit (.int (n:Int))) (.len (.arg 0)))).holds [] { args:=[.list (ns.map .int)] }=true:=by
   have h4:=(holds_andW hc).1;rw[hn] at h4;exact h4
  have h5:=condW_of h4 (w_not (w_lt w_lit (w_len_list (w_arg rfl))));rw[bE] at h5;refine Nat.le_of_not_lt λq=>?_
  have q':(n:Int)<((ns.length:Nat):Int):=by omega
  first
   |(rw[bM q'] at h5;exact absurd h5 (by decide))
   |(simp at h5;omega)
 cases hwl with
 |cons w1 w2=>
  cases w2;cases w1 with
  |list ho hall=>exact⟨_,_,ns,rfl,rfl,ho,Lo ns _ hall,hlen⟩
theorem SK (l:OpenLaw)(args:List WData):l.row.toRowW.claim.post args (.bool true) args=true:=
 postW_of (r:=l.row.toRowW) (X:=(true == true))
  (show WShape.has [] (.bool true) .bool=true by first|rfl|decide|simp[WShape.has,WShape.arms,WShape.armsAll])
  (show(WTm.eq .res (.lit (.bool true))).value [] { args:=args,res:=some (.bool true),after:=args }=some (.bool (true == true)) from w_eq_bool (w_res rfl) w_lit) rfl
theorem PN {l:OpenLaw} {n:Nat} {q:Program} {loose:List Str} {XP:(Str->Option Value)->Heap->Prop} {YP:World->Heap->Prop} {d:DefRec}
  (hn:l.most=some n) (hdf:d.params.defaults=[])
  (call:∀(w:World) (s₀ s₁:Shared) (mg mb:Str->Option Value) (fa:Addr) (o:Obj) (pm cd doc:Value) (a:Addr) (vs:List Value) (ns:List Int),
   Ground q loose [] XP w s₀ mg mb s₁.heap->YP w s₁.heap->
   s₁.heap.get? fa=some o->o.data=.func (docDef d.name d.params d.body d.scope pm cd doc)->s₁.heap.CodeRec cd d.name->mg d.name=some (.ref fa)->
   s₁.heap.get? a=some { cls:=.type "list",data:=.seq vs.toArray }->IntsAre vs ns->ns.length<=n->s₁.gens = #[]->
   codeAny (model l.prog w) callerA (.call (.ref fa) ⟨[.ref a],[]⟩) (λr s'=>r=.ok (.ret (.bool true))/\OldK s₁.heap s'.heap/\s'.os=s₁.os/\AllBare s'.gens) s₁) :
  WalkO q loose XP YP l.row.toRowW d [] (λf vs=>PySem.call f vs):=by
 intro w s₀ s₁ mg mb G Y fa o pm cd doc dV kV ho hd hcd hD hmg hg args vals as hpre hlay hrd hwl hlo;obtain rfl:dV=.none:=Dflts.none hD hdf;obtain rfl:kV=.none:=Dflts.noKw hD;obtain⟨a,vs,ns,rfl,rfl,hobj,hints,hlen⟩:=SA hn hpre hwl;refine enter_call (dW (call w s₀ s₁ mg mb fa o pm cd doc a vs ns G Y ho (fd_plain hd) hcd hmg hobj hints hlen hg) λr s' hq=>?_);obtain⟨rfl,h2,h3,h4⟩:=hq;exact⟨.inl ⟨.bool true,.bool true,[],rfl,λ_=>rfl,.bool true,SK l _,λ_=>⟨List.Pairwise.nil,λ_ hm=>(nomatch hm)⟩⟩,h2,h3,h4⟩
section
variable {prog:Program}{w:World}{A:Around}{E:Value->Shared->Prop}{s:Shared}{K:Frag}
def L3 (h:Heap):Heap:={ h with objs:=#[] }
theorem Jr (h:Heap)(b:Addr):(L3 h).get? b=none:=by
 cases e:(L3 h).get? b with
 |none=>rfl
 |some o=>exact absurd (bU e) (fb _)
def ledger (h:Heap)(L d:Addr):List (Addr×Obj):=(List.range h.objs.size).filterMap λa=>if a=L\/a=d then none else(h.get? a).map λo=>(a,o)
theorem JB {h:Heap}{L d a:Addr}{o:Obj}:(a,o)∈ledger h L d↔a≠L/\a≠d/\h.get? a=some o:=by
 unfold ledger;rw[fY];constructor
 ·rintro⟨b,_,e⟩
  split at e
  ·cases e
  ·rename_i hb
   obtain⟨o',ho,e'⟩:=cm.mp e;cases e';exact⟨λq=>hb (.inl q),λq=>hb (.inr q),ho⟩
 ·rintro⟨n1,n2,ho⟩
  refine⟨a,fX.mpr (bU ho),?_⟩;rw[bP (show ¬(a=L\/a=d) from λq=>q.elim n1 n2),ho]<;>rfl
theorem PK {h:Heap}{L d:Addr}{od:Obj}(hne:d≠L)(ho:h.get? d=some od):News (L3 h) L h ([]++(d,od)::ledger h L d):=by
 rintro⟨a,o⟩ hp
 rcases cf.mp hp with e|hp
 ·cases e;exact⟨ho,hne,Jr _ _⟩
 ·obtain⟨n1,n2,e⟩:=JB.mp hp;exact⟨e,n1,Jr _ _⟩
theorem XI {h:Heap}{L:Addr}{m:Str->Option Value}(n:h.Ns L m):Fr (L3 h) L h m:=
 ⟨n,λb o e=>(by rw[Jr] at e;cases e),cE _⟩
theorem IP {x C dx L:Addr} {ox:Obj} {m:Str->Option Value} {es es':List DictEntry} {n n':Nat} {name:Str} {v:Value} {Q:Unit->Shared->Prop}
  (X:K.In s.heap) (I:PySem.W.InstAt s.heap x ox C (some (dictOf es n))) (hd:ox.dict=some dx) (hL:s.heap.Ns L m) (hne:dx≠L)
  (hs:findIn K (.ref C) "__setattr__"=some (some (.builtin "object.__setattr__"))) (hp:plainOver K C=true) (ht:takerIn K C name=some none) (hh:hasDictIn K C=true) (hl:(getL name es).isSome=true)
  (e:(putL name (PyData.keyHash w.params name) (.str name (s.toks+1)) v es,putN name es n)=(es',n')) (hz:es'.length<=1000)
  (h:∀h':Heap,h'.Ns L m->h'.get? dx=some (dictOf es' n')->(∀b o,b≠dx->b≠L->s.heap.get? b=some o->h'.get? b=some o)->Q () { s with heap:=h',toks:=s.toks+2 }) :
  wpAny (model prog w) A (setAttr (.ref x) name v) Q E s:=by
 obtain⟨e1,e2⟩:=Prod.mk.inj e;have hdx:s.heap.get? dx=some (dictOf es n):=by
  have:=I.dict;rw[hd] at this;exact this
 refine set_plain X I hs (osa_dict (s:={ s with toks:=s.toks+1 }) (h₀:=L3 s.heap) (L:=L) (m:=m) (od:=dictOf es n) (od':=dictOf es' n') (es:=es') (n:=n') (pre:=[]) (post:=ledger s.heap L dx)
  (XI hL) (PK hne hdx) X I hd hp ht hh hl (λ_ q=>nomatch q) (λ⟨_,_⟩ q=>(JB.mp q).2.1) (by rw[putName_dict,e1,e2]) rfl hz λh' F' N'=>?_)
 exact h h' F'.ns (N'.get (List.Mem.head _)) λb o n1 n2 ho=>N'.get (List.Mem.tail _ (JB.mpr ⟨n2,n1,ho⟩))
end
end Att
namespace L2
open PySem PySem.Spec PyProof.Rows
theorem NH:∀{vs:List Value} {ns:List Int},IntsAre vs ns->AF (ns.map V.int) vs
 |_,_,.nil=>.nil
 |_,_,.cons n t h=>.cons ⟨t,rfl⟩ (NH h)
def XW (H:Hp):Prop:=∀b,H b=none\/∃o xs,H b=some (.frz o (.lst xs))
theorem US {P:Program} {w:World} {K:PySem.W.Frag} {mg mb:Str->Option Value} {CX:QW} {k:Nat} {fa a:Addr} {fd:FuncData} {x:Str} {sp:Sp} {s₁:Shared} {vs:List Value} {ns:List Int}
  (KX:K.In s₁.heap) (hns:s₁.heap.Ns mainGlobals mg) (hb:s₁.heap.Ns builtinsNs mb) (hbb:∀x:Str,x≠"__name__"->mb x=bootBuiltins x) (hlim:s₁.heap.NoLimit) (hg:s₁.gens = #[])
  (ha:s₁.heap.get? a=some { cls:=.type "list",data:=.seq vs.toArray }) (hi:IntsAre vs ns) (hl:ns.length<=sizeLine) (hr:Room k callerA)
  (F:∀base:Heap,K.In base->base.Ns mainGlobals mg->FnOk P w K mg base CX k fa fd [x] sp) (hbind:∀(s:Shared) (u:Value),BindsTo s fd ⟨[u],[]⟩ [(x,u)])
  (hsp:∀H:Hp,XW H->AQ K H a (ns.map V.int)->sp [.ref a] H (λv _=>v=.bl true) λ_ _ _=>False)
  (hCX:∀H e s',CX [] H s₁ (λ_ _ _=>False) e s'->False) :
  codeAny (model P w) callerA (.call (.ref fa) ⟨[.ref a],[]⟩) (λr s'=>r=.ok (.ret (.bool true))/\OldK s₁.heap s'.heap/\s'.os=s₁.os/\AllBare s'.gens) s₁:=by
 have rv:=NH hi;have lenV:=hi.length;have core:∀H:Hp,XW H->AQ K H a (ns.map V.int)->Jc P w H s₁.heap->(∀b,H b≠none->b=a)->(H a≠none->K.lookup a=none)->
   codeAny (model P w) callerA (.call (.ref fa) ⟨[.ref a],[]⟩) (λr s'=>r=.ok (.ret (.bool true))/\OldK s₁.heap s'.heap/\s'.os=s₁.os/\AllBare s'.gens) s₁:=by
  intro H hO hS hok hA hK;have base_of:∀{b:Addr} {o:Obj},s₁.heap.get? b=some o->H b=none->(OO s₁.heap H).get? b=some o:=λe n=>Ud e n
  have noA:∀{b:Addr} {o:Obj} {es:Array DictEntry} {ep:Nat},s₁.heap.get? b=some o->o.data=.dict es ep->H b=none:=λ{b o es ep} e d=>by
   cases q:H b with
   |none=>rfl
   |some u=>
    have e':b=a:=hA b (by rw[q];simp);subst e';rw[ha] at e;cases e;have d':Data.seq vs.toArray _=Data.dict es ep:=d;cases d'
  have nsK:∀{b:Addr} {m:Str->Option Value},s₁.heap.Ns b m->(OO s₁.heap H).Ns b m:=λ{b m} ⟨o,es,ep,e,d,r⟩=>⟨o,es,ep,base_of e (noA e d),d,r⟩
  have hKb:K.In (OO s₁.heap H):=λb o e=>base_of (KX b o e) (by
   cases q:H b with
   |none=>rfl
   |some u=>
    have e':b=a:=hA b (by rw[q];simp);subst e';rw[hK (by rw[q];simp)] at e;cases e)
  have hM:Mod K mg (OO s₁.heap H):=⟨hKb,nsK hns,⟨mb,nsK hb,hbb⟩,let⟨mc,h1,h2⟩:=hlim;⟨mc,nsK h1,h2⟩⟩
  have e0:Env0 P w K mg (OO s₁.heap H) callerA [] s₁ H:=⟨rfl,hM,λb o e=>V8 e,fT (SE _ _),trivial,λb hb=>absurd (show b∈([]:List Addr) from hb) (by simp),hok,.of_eq hg⟩
  refine dW ((F _ hKb (nsK hns)).run callerA [] s₁ H ⟨[.ref a],[]⟩ [.ref a] [.ref a] _ _ hr e0 (hbind s₁ (.ref a)) (.cons rfl .nil) (hsp H hO hS)) λr s' h=>?_
  cases r with
  |error e=>exact(hCX H e s' h).elim
  |ok fl=>
   cases fl with
   |next=>exact False.elim h
   |brk=>exact False.elim h
   |cont=>exact False.elim h
   |ret u=>
    obtain⟨v,H',os,bare,un,hok',r',q⟩:=h;have q':v=.bl true:=q;subst q';obtain rfl:u=Value.bool true:=r';refine⟨rfl,OldK.of_keep λb o e=>?_,os,bare⟩;cases q:H b with
    |none=>exact un.keep b o e q (by intro z;exact absurd (show b∈([]:List Addr) from z) (by simp)) (by simp)
    |some u=>
     rcases hO b with z|⟨ob,xs,z⟩
     ·rw[q] at z;cases z
     ·have z2:=un.frzs b ob _ z;obtain⟨e1,_⟩:=hok b _ z;obtain⟨e2,_⟩:=hok' b _ z2;rw[e] at e1;cases e1;exact e2
 cases hk:K.lookup a with
 |some o=>
  have e:=KX a o hk;rw[ha] at e;cases e;refine core (λ_=>none) (λ_=>.inl rfl) (.inr ⟨_,vs.toArray,_,hk,rfl,rfl,rfl,by rw[cq,lenV];exact hl,by simpa using rv⟩) (λb u z=>by have z':(none:Option HO)=some u:=z;cases z') (λb z=>absurd rfl z) λz=>absurd rfl z
 |none=>
  refine core (λb=>if b=a then some (.frz { cls:=.type "list",data:=.seq vs.toArray } (.lst (ns.map V.int))) else none) (λb=>?_) (.inl (.inr ⟨{ cls:=.type "list",data:=.seq vs.toArray },bV rfl⟩)) (λb u z=>?_) (λb z=>?_) λ_=>hk
  ·by_cases hb:b=a
   ·exact .inr ⟨_,_,bV hb⟩
   ·exact .inl (bP hb)
  ·by_cases hb:b=a
   ·have z':=(bV hb).symm.trans z;cases z';subst hb;exact⟨ha,by rw[bE];exact hl,vs,_,rv,ha⟩
   ·have z':=(bP hb).symm.trans z;cases z'
  ·by_cases hb:b=a
   ·exact hb
   ·exact absurd (bP hb) z
theorem WV {l:PySem.W.OpenLaw} {n k:Nat} {q:Program} {loose:List Str} {XP:(Str->Option Value)->Heap->Prop} {YP:World->Heap->Prop} {d:DefRec} {K:Params->PySem.W.Frag} {CX:World->QW} {sp:World->Sp} {x:Str}
  (hn:l.most=some n) (hn2:n<=sizeLine) (hdf:d.params.defaults=[]) (hr:Room k callerA)
  (hY:∀(w:World) (h:Heap),YP w h->(K w.params).In h)
  (F:∀(w:World) (mg:Str->Option Value) (fa:Addr) (h:Heap),(K w.params).In h->h.Ns mainGlobals mg->mg d.name=some (.ref fa)->
   ∃fd:FuncData,(∀(s:Shared) (u:Value),BindsTo s fd ⟨[u],[]⟩ [(x,u)])/\
    ∀base:Heap,(K w.params).In base->base.Ns mainGlobals mg->FnOk l.prog w (K w.params) mg base (CX w) k fa fd [x] (sp w))
  (hsp:∀(w:World) (H:Hp) (a:Addr) (ns:List Int),ns.length<=n->XW H->AQ (K w.params) H a (ns.map V.int)->sp w [.ref a] H (λv _=>v=.bl true) λ_ _ _=>False)
  (hCX:∀(w:World) (H:Hp) (s:Shared) (e:Value) (s':Shared),CX w [] H s (λ_ _ _=>False) e s'->False) :
  PySem.W.WalkO q loose XP YP l.row.toRowW d [] (λf vs=>PySem.call f vs):=by
 refine Att.PN hn hdf λw s₀ s₁ mg mb fa o pm cd doc a vs ns G Y ho hd hcd hmg hobj hints hlen hg=>?_
 have KX:=hY w _ Y;obtain⟨fd,hb,hF⟩:=F w mg fa _ KX G.T.g hmg;exact US KX G.T.g G.T.b G.T.builtins G.T.nolimit hg hobj hints (cA hlen hn2) hr hF hb (λH hO hS=>hsp w H a ns hlen hO hS) λH e s'=>hCX w H s₁ e s'
def inClass (s:Stmt)(j:Nat):Stmt:=match s with
 | .ClassDef _ _ _ body _ _ _ _ _ _ _=>body.getD j (.Pass ⟨0,0,0,0⟩)
 |_=>.Pass ⟨0,0,0,0⟩
def Ap (s:Stmt):Arguments:=match s with
 | .FunctionDef _ a _ _ _ _ _ _ _ _=>a
 |_=>{ posonlyargs:=[],args:=[],vararg:=none,kwonlyargs:=[],kw_defaults:=[],kwarg:=none,defaults:=[] }
def Ao (s:Stmt):List Stmt:=match s with
 | .FunctionDef _ _ b _ _ _ _ _ _ _=>b
 |_=>[]
def Ah (s:Stmt):Scope:=match s with
 | .FunctionDef _ _ _ _ _ _ sc _ _ _=>sc
 |_=>{ kind:=.function,names:=[],isGenerator:=false,isCoroutine:=false }
abbrev CG:QW:=λ_ _ _ _ _ _=>False
abbrev E0:XK:=λ_ _ _=>False
theorem NP {X:Cx}:Es CG X E0:=λ_ _ _ _ _ _ _ h=>h.elim
structure Fun (K:PySem.W.Frag) (x qual:Str) (st:Stmt) (f:Addr) (fd:FuncData):Prop where
 ex:∃(oc:Value) (od:Option Addr) (kV doc pm:Value) (an:Option Addr) (cdv ct:Value) (osl:Array (Option Value)),
  fd=PySem.W.fnOf x qual (Ap st) (Ao st) (Ah st) .none kV doc pm an cdv ct/\K.lookup f=some ⟨oc,od,.func fd,osl⟩/\PySem.W.codeIn K cdv qual=true
 kp:PySem.W.keepIn K (.ref f)=true
section
variable {P:Program}{w:World}{K:PySem.W.Frag}{mg:Str->Option Value}{base:Heap}
theorem Fun.ok {x qual:Str} {st:Stmt} {f:Addr} {fd:FuncData} {N ps:List Str} {k:Nat} {sp:Sp} (F:Fun K x qual st f fd) (S:FnScope N ps (Ah st)) (len:∀vs H Q E,sp vs H Q E->vs.length=ps.length)
  (hbody:∀(cdv:Value) (A:Around) (outer:List Env) (s:Shared) (H:Hp) (vs:List V) (Q:VK) (E:XK),Room k (A.deeper (envOfC qual (Ah st) s.heap.objs.size f cdv))->sp vs H Q E->
   ∃t,Pb (Ca CG P w K mg base N qual (Ah st) f cdv A outer s H E).nox (Ao st) t/\t { nx:=λ_ H'=>Q .non H',rt:=Q } (start N vs) H):FnOk P w K mg base CG (k+1) f fd ps sp:=by
 obtain⟨oc,od,kV,doc,pm,an,cdv,ct,osl,rfl,lk,hcd⟩:=F.ex;refine Xt lk hcd S len λA outer s H vs Q E hr hsp=>?_
 obtain⟨t,h,q⟩:=hbody cdv A outer s H vs Q E hr hsp;exact⟨t,h.nox,q⟩
theorem Fun.binds {x qual:Str} {st:Stmt} {f:Addr} {fd:FuncData} {ps:List Str} (F:Fun K x qual st f fd)
  (h:∀(kV doc pm:Value) (an:Option Addr) (cdv ct:Value) (us:List Value),us.length=ps.length->bindArgs (PySem.W.fnOf x qual (Ap st) (Ao st) (Ah st) .none kV doc pm an cdv ct) ⟨us,[]⟩=pure (ps.zip us)):Binds K fd ps []:=by
 obtain⟨oc,od,kV,doc,pm,an,cdv,ct,osl,rfl,lk,hcd⟩:=F.ex;exact .all (h kV doc pm an cdv ct)
theorem Ax {x qual:Str} {st:Stmt} {f:Addr} {oc:Value} {od an:Option Addr} {osl:Array (Option Value)} {kV doc pm cdv ct:Value} (l:K.lookup f=some ⟨oc,od,.func (PySem.W.fnOf x qual (Ap st) (Ao st) (Ah st) .none kV doc pm an cdv ct),osl⟩)
  (c:PySem.W.codeIn K cdv qual=true) (k:PySem.W.keepIn K (.ref f)=true):Fun K x qual st f (PySem.W.fnOf x qual (Ap st) (Ao st) (Ah st) .none kV doc pm an cdv ct):=⟨⟨oc,od,kV,doc,pm,an,cdv,ct,osl,rfl,l,c⟩,k⟩
end
theorem Dy {A:Around}{k:Nat}(hr:Room k A):A.units+1<cLine:=hW (Nat.add_le_add_left (by decide:1<=64) _) hr.units
theorem Tn {n:Nat}(h:n<=1000):n<sizeLine:=hW h (by decide)
section
variable {X:Cx}
theorem pv (i:Nat) {x:Str} {pos:Pos} (hN:X.N[i]?=some x:=by rfl) (hv:ar X.env.scope x:=by first|exact Or.inl rfl|exact Or.inr (Or.inl rfl)|exact Or.inr (Or.inr rfl)) (hd:(x == ("__debug__":Str))=false:=by decide)
  (hcd:(x == ("__classdict__":Str))=false:=by decide):PE X (.Name x pos) (WS i):=XB hN hv hd hcd
end
theorem aW {A B:Prop}(h:A):if true=true then A else B:=by
 rw[bV rfl];exact h
theorem IE {c A B:Prop}[Decidable c](h1:c->A)(h2:¬c->B):if c then A else B:=by
 by_cases h:c
 ·rw[bV h];exact h1 h
 ·rw[bP h];exact h2 h
def An (H H':Hp):Prop:=∀b o,H b=some o->H' b=some o
theorem An.refl (H:Hp):An H H:=λ_ _ h=>h
theorem An.trans {H H1 H2:Hp}(a:An H H1)(b:An H1 H2):An H H2:=λc o h=>b c o (a c o h)
theorem An.free {H H':Hp}(e:An H H'){l:Addr}(h:H' l=Option.none):H l=Option.none:=by
 cases q:H l with
 |none=>rfl
 |some o=>
  rw[e l o q] at h;cases h
theorem An.seq {K:PySem.W.Frag}{H H':Hp}{a:Addr}{xs:List V}(e:An H H')(h:AQ K H a xs):AQ K H' a xs:=by
 rcases h with(h|⟨o,h⟩)|h
 ·exact .inl (.inl (e _ _ h))
 ·exact .inl (.inr ⟨o,e _ _ h⟩)
 ·exact .inr h
end L2
set_option maxHeartbeats 1000000
namespace L2
open PySem PySem.Spec PyProof.Rows
section
variable {prog:Program}{w:World}{A:Around}{env:Env}{elt target iter:Expr}{ifs:List Expr}{scope:Scope}{pos:Pos}{it acc:Value}
abbrev Ws (env:Env)(ifs:List Expr):Sem Bool:=forIn ifs true λc r=>(if r=true then(do let ok <-isTrue c env (eval c env);pure (ForInStep.yield ok)) else pure (ForInStep.yield r))
abbrev Sb (prog:Program)(w:World)(A:Around)(env:Env)(elt target:Expr)(ifs:List Expr)(it acc:Value)(Ee:Value->Shared->Prop)(over on:Shared->Prop):Shared->Prop:=
 wpAny (model prog w) A (pyNext it) (fun|none,s1=>over s1|some v,s1=>wpAny (model prog w) A (letOwnedTupleGo target it v) (λ_ s2=>wpAny (model prog w) A (assign target env v) (λ_ s3=>wpAny (model prog w) A (Ws env ifs) (λok s4=>
  if ok=true then wpAny (model prog w) A (eval elt env) (λx s5=>wpAny (model prog w) A (call (.builtin "list.append") [acc,x]) (λ_=>on) (λ_ _=>False) s5) Ee s4 else on s4) Ee s3) Ee s2) (λ_ _=>False) s1) (λ_ _=>False)
theorem Qq {R:Result->Shared->Prop} {Ee:Value->Shared->Prop} (I:Nat->Shared->Prop) (hE:∀x s,Ee x s->notedBy (model prog w) A env (λx s=>R (.error x) s) x s)
  (turn:∀n s,I n s->Sb prog w A env elt target ifs it acc Ee (R (.ok .next)) (λs'=>∃m,m<n/\I m s') s) (n:Nat) {s:Shared} (h:I n s) :
  codeAny (model prog w) A (.compLoop (.ListComp elt [⟨target,iter,ifs,0⟩] scope pos) 0 it acc env) R s:=by
 have none':∀{Z:Value->Shared->Prop} (x:Value) (s:Shared),False->Z x s:=λ_ _ z=>z.elim
 refine codeAny_loop rfl I (λk s1 h1=>?_) n h
 change wpAny _ A ((compTurn (.ListComp elt [⟨target,iter,ifs,0⟩] scope pos) 0 it acc env).onRaise (λx=>do noteFrame x env;theTreesLotGoes x)) _ _ s1
 refine wpAny_noted ?_;rw[compTurn_list];refine bD (fg (bD (cD (turn k s1 h1) (λr s2 h2=>?_) none')))
 match r,h2 with
 |none,h2=>exact bG h2
 |some v,h2=>
  refine bD (cD h2 (λ_ s3 h3=>bD (cD h3 (λ_ s4 h4=>bD (cD h4 (λok s5 h5=>?_) hE)) hE)) none')
  match ok,h5 with
  |false,h5=>exact bG ⟨rfl,h5⟩
  |true,h5=>exact bD (bD (cD h5 (λx s6 h6=>bD (cD h6 (λ_ s7 h7=>bG (bG ⟨rfl,h7⟩)) none')) hE))
theorem RM {R:Result->Shared->Prop}(I:Nat->Shared->Prop)(turn:∀n s,I n s->Sb prog w A env elt target ifs it acc (λ_ _=>False) (R (.ok .next)) (λs'=>∃m,m<n/\I m s') s)(n:Nat){s:Shared}(h:I n s) :
  codeAny (model prog w) A (.compLoop (.ListComp elt [⟨target,iter,ifs,0⟩] scope pos) 0 it acc env) R s:=Qq I (λ_ _ z=>z.elim) turn n h
end
def Rc (X:Cx)(ifs:List Expr)(t:TT):Prop:=
 ∀(pins:List (Addr×Obj)) (s:Shared) (σ:St) (H:Hp) (Q:Bool->Hp->Prop),Inv X pins σ H s->t σ H Q->
  wpAny (model X.prog X.w) X.A (forIn ifs true λc r=>if r=true then do let ok <-isTrue c X.env (eval c X.env);pure (ForInStep.yield ok) else pure (ForInStep.yield r)) (TP X pins σ Q) X.xe s
def Va:TT:=λ_ H Q=>Q true H
theorem AY {X:Cx}:Rc X [] Va:=λ_ _ _ H _ I h=>wpAny_tests_nil ⟨H,I,h⟩
theorem VE {X:Cx}{c:Expr}{t:TT}(h:PT X c t):Rc X [c] t:=λpins s σ H Q I q=>wpAny_tests_one (h pins s σ H Q I q)
def Bx (X:Cx)(scope:Scope)(cl:List (Str×Addr))(N:List Str)(C:Addr)(s:Shared)(H:Hp)(fp:List Addr):Cx:=
 { prog:=X.prog,w:=X.w,K:=X.K,mg:=X.mg,base:=X.base,A:=X.A,N:=N,s₀:=s,H₀:=H,env:=compEnvC scope cl C X.env,outer:=X.stack,stack:=X.stack,ex:=fp,fn:=λ_=>false,calm:=X.calm,pn:=[],xe:=λ_ _=>False }
def stC (fr:List (Option Nat))(σ:St):St:=fr.map λo=>o.bind λi=>(σ[i]?).bind id
def GQ (fr:List (Option Nat))(g:TG)(tt:TT)(te:TE)(σ:St)(Q:VK)(J:It)(H1:Hp):Prop:=∀l,H1 l=none->∃W:Nat->Nat->St->Hp->Prop,(∃m,W 0 m (stC fr σ) (upd H1 l (.lst [])))/\∀i m σ H,W i m σ H->
 (J.stop i H/\Q (.ref l) H)\/(J.go i H/\∀x H',J.yld i H x H'->g x σ H' λσ2 H2=>tt σ2 H2 λb H3=>if b=true then te σ2 H3 λv H4=>∃xs,H4 l=some (.lst xs)/\xs.length<sizeLine/\∃m',m'<m/\W (i+1) m' σ2 (upd H4 l (.lst (xs++[v])))
  else ∃m',m'<m/\W (i+1) m' σ2 H3)
def NF (fr:List (Option Nat))(wi:TI)(g:TG)(tt:TT)(te:TE):TE:=λσ H Q=>wi σ H (GQ fr g tt te σ Q)
def IX (XN:List Str)(xs sc:Scope)(N:List Str)(fr:List (Option Nat)):Bool:=
 decide (sc.kind=.function)&&decide (fr.length=N.length)&&(sc.names.all λy=>!decide (y.2=.cell))&&(sc.names.all λy=>!decide (y.2=.local)||decide (sc.names.lookup y.1=some .local)) &&
 (sc.names.all λy=>!decide (y.2=.free)||(decide (xs.names.lookup y.1=some .cell)||decide (xs.names.lookup y.1=some .free))) &&
 ((N.zip fr).all λp=>match p.2 with|none=>true|some i=>decide (XN[i]?=some p.1)&&decide (sc.names.lookup p.1=some .free))
def Q8 (cells:List (Str×Addr)):List (Str×Addr)->Prop
 |[]=>True
 |p::r=>cells.lookup p.1=some p.2/\Q8 cells r
theorem Q8.get {cells:List (Str×Addr)}:∀{cl:List (Str×Addr)},Q8 cells cl->∀{x:Str} {c:Addr},cl.lookup x=some c->cells.lookup x=some c
 |[],_,_,_,h=>by cases h
 |(y,d)::r,k,x,c,h=>by
  rw[fG] at h;cases e:x == y with
  |true=>
   rw[e] at h;cases h;rw[eq_of_beq e];exact k.1
  |false=>
   rw[e] at h;exact Q8.get k.2 h
def Kd (cl:List (Str×Addr)):List (Str×NameKind)->Prop
 |[]=>True
 |p::r=>(p.2=.free->∃c,cl.lookup p.1=some c)/\Kd cl r
theorem Kd.get {cl:List (Str×Addr)}:∀{ns:List (Str×NameKind)},Kd cl ns->∀y∈ns,y.2=.free->∃c,cl.lookup y.1=some c
 |[],_,_,h=>by cases h
 |p::r,k,y,h=>by
  rcases cf.mp h with rfl|h
  ·exact k.1
  ·exact Kd.get k.2 y h
theorem Hl {env:Env}:∀{names:List (Str×NameKind)} {x:Str} {k:NameKind},(names.map λ(n,k)=>if(k == NameKind.free&&env.scope.kind == .function&&env.kindOf n == some .cell) then(n,NameKind.cell) else(n,k)).lookup x=some k->
  names.lookup x=some k\/(k=.cell/\names.lookup x=some .free)
 |[],_,_,h=>by cases h
 |(n,k0)::r,x,k,h=>by
  have ih:=@Hl env r x k
  by_cases hc:(k0 == NameKind.free&&env.scope.kind == .function&&env.kindOf n == some .cell)=true
  ·simp only[List.map_cons,if_pos hc,List.lookup_cons] at h;rw[fG];cases e:x == n with
   |true=>
    rw[e] at h;cases h;simp only[Bool.and_eq_true] at hc;have:k0=.free:=by simpa using hc.1.1
    exact .inr ⟨rfl,by rw[this]⟩
   |false=>rw[e] at h;exact ih h
  ·simp only[List.map_cons,if_neg hc,List.lookup_cons] at h;rw[fG];cases e:x == n with
   |true=>rw[e] at h;exact .inl h
   |false=>rw[e] at h;exact ih h
theorem Ke {env:Env}:∀{names:List (Str×NameKind)} {x:Str},names.lookup x=some .free->
  (names.map λ(n,k)=>if(k == NameKind.free&&env.scope.kind == .function&&env.kindOf n == some .cell) then(n,NameKind.cell) else(n,k)).lookup x=some .cell\/
  (names.map λ(n,k)=>if(k == NameKind.free&&env.scope.kind == .function&&env.kindOf n == some .cell) then(n,NameKind.cell) else(n,k)).lookup x=some .free
 |[],_,h=>by cases h
 |(n,k0)::r,x,h=>by
  have ih:=@Ke env r x;rw[fG] at h
  by_cases hc:(k0 == NameKind.free&&env.scope.kind == .function&&env.kindOf n == some .cell)=true
  ·simp only[List.map_cons,if_pos hc,List.lookup_cons];cases e:x == n with
   |true=>exact .inl rfl
   |false=>rw[e] at h;exact ih h
  ·simp only[List.map_cons,if_neg hc,List.lookup_cons];cases e:x == n with
   |true=>rw[e] at h;exact .inr h
   |false=>rw[e] at h;exact ih h
section
variable {X:Cx}
theorem NQ (N:List Str) (fr:List (Option Nat)) {elt tg iter:Expr} {ifs:List Expr} {scope:Scope} {pos fpos:Pos} {wi:TI} {g:TG} {tt:TT} {te:TE} {cl:List (Str×Addr)}
  (hc:X.calm=true) (hi:PI X tg iter wi) (hchk:IX X.N X.env.scope scope N fr=true) (hclos:closureFor scope X.env=pure cl) (hcl:Q8 X.env.cells cl) (hall:Kd cl scope.names)
  (hb:∀(C:Addr) (s:Shared) (H:Hp) (fp:List Addr),PG (Bx X scope cl N C s H fp) tg g/\Rc (Bx X scope cl N C s H fp) ifs tt/\PE (Bx X scope cl N C s H fp) elt te)
  (hs:∀x,foldedSetIterable iter X.env x=pure x) {pins:List (Addr×Obj)} {s:Shared} {σ:St} {H:Hp} {Q:VK} {use:Option (Value->Sem Unit)} {Qc:Value->Shared->Prop} (I:Inv X pins σ H s) (h:NF fr wi g tt te σ H Q)
  (hfin:∀(l:Addr) (H':Hp) (s':Shared) (C:Addr),Inv X pins σ H' s'->Ja X pins H' C->(∃m,s'.heap.Ns C m)->Q (.ref l) H'->compPost (model X.prog X.w) X.A X.xe use Qc (.ref l) C (.ok .next) s') :
  wpAny (model X.prog X.w) X.A (comprehension (.ListComp elt [⟨tg,iter,ifs,0⟩] scope pos) scope X.env fpos (newList []) (firstAsync [⟨tg,iter,ifs,0⟩]) (firstIter [⟨tg,iter,ifs,0⟩] X.env) use) Qc X.xe s:=by
 simp only[IX,Bool.and_eq_true,decide_eq_true_eq,List.all_eq_true,Bool.or_eq_true,Bool.not_eq_true',decide_eq_false_iff_not] at hchk;obtain⟨⟨⟨⟨⟨hkind,hlen⟩,hcell⟩,hnames⟩,hfree⟩,hfr⟩:=hchk;have hnames':∀x∈scope.names,x.2=.local->scope.names.lookup x.1=some .local:=λy hy e=>(hnames y hy).resolve_left λz=>z e
 have hcell':∀x∈scope.names,x.2≠.cell:=λy hy=>hcell y hy
 refine wpAny_comprehension_free (use:=use) rfl hs hclos hkind hnames' (A7 (hi pins s σ H _ I h) λv s1 h1=>A7 h1 λitv s2 h2=>?_);obtain⟨it,fp,tn,J,H2,e,I2,T,st2,f2,hQ⟩:=h2;subst e;refine cY (hd:=by size_fits) (wpAny_newFunctionEnv hcell' (by intro y hy;simp at hy) (λh₁ hns hsb=>?_) hkind);dsimp only at hns hsb ⊢;obtain⟨W,⟨m0,w0⟩,turn⟩:=hQ s2.heap.objs.size I2.fresh;have I3:Inv X pins σ (upd H2 s2.heap.objs.size (.lst [])) { s2 with heap:=s2.heap.push { cls:=.type "list",data:=.seq ([]:List Value).toArray },toks:=s2.toks }:=I2.lnew (its:=[]) .nil (cE _);generalize hh3:s2.heap.push { cls:=.type "list",dict:=none,data:=.seq ([]:List Value).toArray }=h3 at hns hsb ⊢;rw[show s2.heap.push { cls:=.type "list",data:=.seq ([]:List Value).toArray }=h3 from hh3] at I3;generalize hH3:upd H2 s2.heap.objs.size (.lst [])=H3 at I3 w0;generalize hl:s2.heap.objs.size=l at turn hH3 ⊢;have hl3:l<h3.objs.size:=by rw[<-hh3,<-hl,cT];exact fF _
 generalize hs3:({ s2 with heap:=h3,toks:=s2.toks }:Shared)=s3 at I3;have es3:s3.heap=h3:=by rw[<-hs3]
 have eos:s3.os=s2.os:=by rw[<-hs3]
 have egens:s3.gens=s2.gens:=by rw[<-hs3]
 generalize hC:h3.objs.size=C at hns hsb ⊢;have old:∀b o,h3.get? b=some o->h₁.get? b=some o:=λb o e=>
  hsb.extBut b o (by rw[<-hC];exact cn (bU e)) (bH _ e)
 have f3:∀b∈fp,Ja X pins H3 b:=λb hb=>by
  obtain⟨g0,g1⟩:=f2 b hb;refine⟨?_,g1⟩;rw[<-hH3];have:b≠l:=by
   obtain⟨o,e,_⟩:=T.obj _ _ st2 b hb;rw[<-hl];exact cn (bU e)
  rw[Ag this];exact g0
 have st3:tn 0 h₁:=T.keep _ _ _ st2 λb hb o e=>old b o (by rw[<-hh3];exact bH _ e)
 have ok:(Bx X scope cl N C s3 H3 fp).Ok:=by
  refine⟨I3.ok.mod,?_,I3.ok.glob,I3.ok.blt,?_,λx y c e1 e2=>I3.ok.inj x y c (hcl.get e1) (hcl.get e2),λx hx=>?_,λx c hx=>(by cases hx),I3.ok.hd,I3.ok.frames,.inl rfl,λb hb=>?_,λb o e=>?_,?_,λb o e hb=>?_,λb hb hb2=>?_,?_,λb hb=>?_⟩
  ·exact hkind
  ·show s3.heap.objs.size<=C;rw[es3,hC];exact bI _
  ·have hx':(relabel scope X.env).names.lookup x=some .cell\/(relabel scope X.env).names.lookup x=some .free:=hx;have:scope.names.lookup x=some .free:=by
    rcases hx' with z|z
    ·rcases Hl z with q|⟨_,q⟩
     ·exact absurd rfl (hcell' _ (de q))
     ·exact q
    ·rcases Hl z with q|⟨q,_⟩
     ·exact q
     ·cases q
   exact hall.get _ (de this) rfl
  ·obtain⟨g0,g1,g2,g3,g4,g5⟩:=f3 b hb;obtain⟨o,e,_⟩:=T.obj _ _ st2 b hb;refine⟨?_,λx c e=>g4 x c (hcl.get e)⟩;show b≠C;rw[<-hC];exact cn (bU (by rw[<-hh3];exact bH _ e))
  ·have q:=I3.bs b o e;exact q
  ·show X.base.objs.size<=s3.heap.objs.size;exact cA I3.ok.bsz I3.sz
  ·obtain⟨g0,g1,g2,g3,g4,g5⟩:=f3 b hb;rcases g3 with z|z
   ·exact I3.ok.noex b o e z
   ·exact absurd (cB (bU e) (cA I3.ok.bsz z)) (d8 _)
  ·obtain⟨g0,g1,g2,g3,g4,g5⟩:=f3 b hb;rcases cf.mp (I3.stkSub b hb2) with z|z
   ·exact g1 z
   ·exact g2 z
  ·show s3.heap.FunFrames X.base X.stack;exact I3.stack
  ·exact I3.stkFree b hb
 have I4:Inv (Bx X scope cl N C s3 H3 fp) [] (stC fr σ) H3 { s2 with heap:=h₁,toks:=s2.toks+([]:List (Str×Value)).length }:=by
  have hk3:∀b o,s3.heap.get? b=some o->h₁.get? b=some o:=λb o e=>old b o (by rw[<-es3];exact e)
  refine⟨ok,eos.symm▸rfl,egens▸I3.bare,Un.kept hk3,⟨_,hns,λi x v e1 e2 e3=>?_⟩,λx c e=>?_,?_,λx c e=>I3.freeC x c (hcl.get e),λp hp=>(by cases hp),I3.hok.kept hk3,?_⟩
  ·
   have e1':N[i]?=some x:=e1;have e2':(fr[i]?).map (λo=>o.bind λi=>(σ[i]?).bind id)=some (some v):=by
    have:(stC fr σ)[i]?=some (some v):=e2;rw[stC,bQ] at this;exact this
   cases q:fr[i]? with
   |none=>rw[q] at e2';cases e2'
   |some o=>
    rw[q] at e2';cases o with
    |none=>cases e2'
    |some j=>
     have e2'':(σ[j]?).bind id=some v:=bO e2';obtain⟨p1,p2⟩:X.N[j]?=some x/\scope.names.lookup x=some .free:=by
      have hz:(x,some j)∈N.zip fr:=by
       have:(N.zip fr)[i]?=some (x,some j):=by
        rw[gh];exact⟨e1',q⟩
       exact bJ this
      have:=hfr _ hz;simpa using this
     have hv:X.env.scope.names.lookup x=some .cell\/X.env.scope.names.lookup x=some .free:=by
      rcases hfree _ (de p2) with z|z
      ·exact absurd rfl z
      ·simpa using z
     have e3':σ[j]?=some (some v):=by
      cases q3:σ[j]? with
      |none=>rw[q3] at e2'';cases e2''
      |some w'=>rw[q3] at e2'';have:w'=some v:=e2'';rw[this]
     obtain⟨m,hn,hl'⟩:=I3.loc;obtain⟨u,ru,lk⟩:=hl' j x v p1 e3' (.inr hv);refine⟨u,ru,.inr ⟨Ke p2,?_⟩⟩;rcases lk with⟨lk,_⟩|⟨_,c,ec,cc⟩
     ·have lk':X.env.scope.names.lookup x=some .local:=lk;rcases hv with z|z<;>(rw[z] at lk';cases lk')
     ·obtain⟨c',ec'⟩:=hall.get _ (de p2) rfl;have:=hcl.get ec';rw[ec] at this;cases this;obtain⟨o,ho,hd⟩:=cc;exact⟨c,ec',o,hk3 _ _ ho,hd⟩
  ·obtain⟨v,o,ho,hd⟩:=I3.cell x c (hcl.get e);exact⟨v,o,hk3 _ _ ho,hd⟩
  ·show H3 C=none;exact I3.hok.fresh (by rw[es3,hC];exact bI _)
  ·show(stC fr σ).length=N.length;rw[stC,bE];exact hlen
 obtain⟨hg,ht,he⟩:=hb C s3 H3 fp;have fpc:∀{H':Hp},(∀b∈fp,H' b=none)->∀b∈fp,Ja (Bx X scope cl N C s3 H3 fp) [] H' b:=λhn b hb=>by
  obtain⟨q1,q2⟩:=ok.exf b hb;exact⟨hn b hb,q1,ok.exfs b hb,.inl hb,q2,λp hp=>by cases hp⟩
 have fin:∀(σ':St) (H':Hp) (s':Shared),Inv (Bx X scope cl N C s3 H3 fp) [] σ' H' s'->Q (.ref l) H'->compPost (model X.prog X.w) X.A X.xe use Qc (.ref l) C (.ok .next) s':=λσ' H' s' I' q=>by
  obtain⟨m,hn,_⟩:=I'.loc;have nC:∀b o,s3.heap.get? b=some o->b≠C:=λb o e=>by
   rw[<-hC,<-es3];exact cn (bU e)
  have fC:H' C=none:=I'.free;have u:=I'.base;refine hfin l H' s' C ?_ (I3.fpOk (by rw[es3,hC];exact bI _) fC) ⟨m,hn⟩ q;refine I3.call' (s':=s') (ch:=fp) I'.os ⟨λb o e n hb hx=>u.keep b o e n hb hx,λb o e n hb hx=>u.slot b o e n hb hx,u.free,λb o e hx=>u.there b o e hx,u.tups,u.frzs,u.tbls⟩ (λb o e=>I'.hok b o e) I'.bare λb hb=>?_
  obtain⟨g0,g1,g2,g3,g4,g5⟩:=f3 b hb;exact⟨g3,g1,g4,g5⟩
 have loop:codeAny (model X.prog X.w) X.A (.compLoop (.ListComp elt [⟨tg,iter,ifs,0⟩] scope pos) 0 (.ref it) (.ref l) (compEnvC scope cl C X.env)) (compPost (model X.prog X.w) X.A X.xe use Qc (.ref l) C)
   { s2 with heap:=h₁,toks:=s2.toks+([]:List (Str×Value)).length }:=by
  refine RM (λn s'=>∃i σ' H',Inv (Bx X scope cl N C s3 H3 fp) [] σ' H' s'/\tn i s'.heap/\(∀b∈fp,H' b=none)/\W i n σ' H') ?_ m0 ⟨0,_,H3,I4,st3,λb hb=>(f3 b hb).1,w0⟩
  rintro n s5 ⟨i,σ5,H5,I5,st5,fr5,w5⟩
  rcases turn i n σ5 H5 w5 with⟨stop,qn⟩|⟨go,step⟩
  ·refine A7 (T.done (Bx X scope cl N C s3 H3 fp) rfl rfl rfl hc i [] s5 σ5 H5 (λ_ _=>False) I5 (fpc fr5) st5 stop) λr s6 ⟨hr,I6⟩=>?_
   subst hr;exact fin σ5 H5 s6 I6 qn
  ·refine A7 (T.item (Bx X scope cl N C s3 H3 fp) rfl rfl rfl hc i [] s5 σ5 H5 (λ_ _=>False) I5 (fpc fr5) st5 go) λr s6 ⟨u,hr,h6⟩=>?_
   subst hr;refine A7 h6 λ_ s7 z9=>?_
   obtain⟨x,H7,I7,r7,y7,st7,fr7⟩:=z9;have I7':=I7.pinned (fpc fr7) (T.obj _ _ st7);refine A7 (hg _ s7 σ5 H7 x u _ I7' r7 (step x H7 y7)) λ_ s8 ⟨σ8,H8,I8,q8⟩=>?_
   have again:∀{σ9:St} {H9:Hp} {s9:Shared},Inv (Bx X scope cl N C s3 H3 fp) ([]++My fp s7.heap) σ9 H9 s9->(∃m',m'<n/\W (i+1) m' σ9 H9)->∃m,m<n/\∃i σ' H',Inv (Bx X scope cl N C s3 H3 fp) [] σ' H' s9/\tn i s9.heap/\(∀b∈fp,H' b=none)/\W i m σ' H':=λ{σ9 H9 s9} I9 n9=>by
    obtain⟨m',hm,w9⟩:=n9;refine⟨m',hm,i+1,σ9,H9,I9.unpinned,T.keep _ _ _ st7 λb hb o e=>(I9.pin (b,o) (cM _ (cM _ (Hs hb e)))).1,λb hb=>?_,w9⟩;obtain⟨o,e,d⟩:=T.obj _ _ st7 b hb;exact(I9.pin (b,o) (cM _ (cM _ (Hs hb e)))).2.1
   refine A7 (ht _ s8 σ8 H8 _ I8 q8) λok s9 ⟨H9,I9,q9⟩=>?_
   cases ok with
   |false=>
    rw[bP bN] at q9 ⊢;exact again I9 q9
   |true=>
    rw[bV rfl] at q9 ⊢;refine A7 (he _ s9 σ8 H9 _ I9 q9) λy sa ⟨vy,Ha,Ia,ry,qa⟩=>?_
    obtain⟨xs,hla,hsz,n9⟩:=qa;refine A7 (Gw _ sa σ8 Ha (.ref l) [vy] (.ref l) [y] (λ_ Hb=>∃m',m'<n/\W (i+1) m' σ8 Hb) Ia rfl (.cons ry .nil) ⟨l,xs,vy,rfl,rfl,hla,hsz,n9⟩) λ_ sb ⟨_,Hb,Ib,_,qb⟩=>?_
    exact again Ib qb
 show codeAny (model X.prog X.w) X.A (.compStart (.ListComp elt [⟨tg,iter,ifs,0⟩] scope pos) 0 (.ref it) (.ref l) (compEnvC scope cl C X.env)) (compPost (model X.prog X.w) X.A X.xe use Qc (.ref l) C) { s2 with heap:=h₁,toks:=s2.toks+([]:List (Str×Value)).length };exact codeAny_compStart_list loop (T.self _ 0 _ _ _ st3 loop)
theorem JT (N:List Str) (fr:List (Option Nat)) {elt tg iter:Expr} {ifs:List Expr} {scope:Scope} {pos:Pos} {wi:TI} {g:TG} {tt:TT} {te:TE} {cl:List (Str×Addr)}
  (hc:X.calm=true) (hi:PI X tg iter wi) (hchk:IX X.N X.env.scope scope N fr=true) (hclos:closureFor scope X.env=pure cl) (hcl:Q8 X.env.cells cl) (hall:Kd cl scope.names)
  (hb:∀(C:Addr) (s:Shared) (H:Hp) (fp:List Addr),PG (Bx X scope cl N C s H fp) tg g/\Rc (Bx X scope cl N C s H fp) ifs tt/\PE (Bx X scope cl N C s H fp) elt te)
  (hs:∀x,foldedSetIterable iter X.env x=pure x:=by intro _;rfl) :
  PE X (.ListComp elt [⟨tg,iter,ifs,0⟩] scope pos) (NF fr wi g tt te):=by
 intro pins s σ H Q I h;rw[eval_ListComp];refine NQ N fr hc hi hchk hclos hcl hall hb hs I h λl H' s' C I' fC ⟨m,hn⟩ q=>?_
 refine⟨m,hn,λh'' hs''=>⟨.ref l,H',?_,rfl,q⟩⟩;obtain⟨f0,f1,f2,f3,f4,f5⟩:=fC;exact I'.turned (t':=s'.toks) (λb o hb e=>(hs''.2 b hb).trans e) f0 f1 f3 f4 f5
theorem LL (N:List Str) (fr:List (Option Nat)) {i:Nat} {x:Str} {elt tg iter:Expr} {ifs:List Expr} {scope:Scope} {cpos pos pos':Pos} {wi:TI} {g:TG} {tt:TT} {te:TE} {cl:List (Str×Addr)}
  (hN:X.N.Nodup) (hi':X.N[i]?=some x) (hx:Loc X.env.scope x)
  (hc:X.calm=true) (hi:PI X tg iter wi) (hchk:IX X.N X.env.scope scope N fr=true) (hclos:closureFor scope X.env=pure cl) (hcl:Q8 X.env.cells cl) (hall:Kd cl scope.names)
  (hb:∀(C:Addr) (s:Shared) (H:Hp) (fp:List Addr),PG (Bx X scope cl N C s H fp) tg g/\Rc (Bx X scope cl N C s H fp) ifs tt/\PE (Bx X scope cl N C s H fp) elt te)
  (hs:∀x,foldedSetIterable iter X.env x=pure x:=by intro _;rfl)
  (hsw:swapsWith (.ListComp elt [⟨tg,iter,ifs,0⟩] scope cpos) (some (.Name x pos')) pos.line X.env=pure true:=by rfl)
  (hf:X.fn x=true\/X.env.scope.names.lookup x=some .local:=by first|exact .inl rfl|exact .inr rfl|assumption) :
  PS X (.Assign [.Name x pos'] (.ListComp elt [⟨tg,iter,ifs,0⟩] scope cpos) pos) (Um (NF fr wi g tt te) (FA i)):=by
 intro pins s σ H D I h;rw[exec_Assign_arm];refine bD (fg ?_);rw[show swapsWithSole [.Name x pos'] (.ListComp elt [⟨tg,iter,ifs,0⟩] scope cpos) pos.line X.env=pure true from hsw];refine bD (bG ?_);rw[bV rfl,arm_evalThenUse_ListComp];refine bD (bD ?_);have h1:NF fr wi g tt te σ H λv H1=>D.nx (σ.set i (some v)) H1:=h
 refine NQ (use:=some _) N fr hc hi hchk hclos hcl hall hb hs I h1 λl H' s' C I' fC ⟨m,hn⟩ q=>?_
 obtain⟨f0,f1,f2,f3,f4,f5⟩:=fC;obtain⟨o,es,ep,ho,hd,hk,hm⟩:=hn;have Ip:Inv X (pins++[(C,o)]) σ H' s':=I'.pins_of λp hp=>(cj.mp hp).elim (λz=>I'.pin p (cM _ z)) λz=>by
  rw[bS.mp z];exact⟨ho,f0,f1,f2,λv e=>by rw[hd] at e;cases e⟩
 show wpAny _ _ (assignAll (.ref l) [assign (.Name x pos') X.env]) _ _ _;rw[assignAll.eq_2];refine wpAny_assign_Name (HS Ip hN hi' hx (v:=.ref l) rfl (λs2 I2=>?_) hf);have ho2:=(I2.pin (C,o) (cM _ (cM _ (List.mem_singleton_self _)))).1;refine⟨m,⟨o,es,ep,ho2,hd,hk,hm⟩,λh' hs'=>bG (bG ⟨_,H',?_,q⟩)⟩;exact I2.unpinned.turned (t':=s2.toks) (λb o hb e=>(hs'.2 b hb).trans e) f0 f1 f3 f4 f5
def JN (sc:Scope):Bool:=
 decide (sc.kind=.function)&&(sc.names.all λy=>!decide (y.2=.cell))&&(sc.names.all λy=>!decide (y.2=.local)||decide (sc.names.lookup y.1=some .local))&&(sc.names.all λy=>!decide (y.2=.free))
theorem Cj (N:List Str) {elt tg iter:Expr} {ifs:List Expr} {scope:Scope} {pos:Pos} {wi:TI} {g:TG} {tt:TT} {te:TE}
  (hc:X.calm=true) (hi:PI X tg iter wi) (hchk:JN scope=true)
  (hb:∀(C:Addr) (s:Shared) (H:Hp) (fp:List Addr),PG (Bx X scope [] N C s H fp) tg g/\Rc (Bx X scope [] N C s H fp) ifs tt/\PE (Bx X scope [] N C s H fp) elt te)
  (hs:∀x,foldedSetIterable iter X.env x=pure x:=by intro _;rfl) :
  PE X (.ListComp elt [⟨tg,iter,ifs,0⟩] scope pos) (NF (N.map λ_=>none) wi g tt te):=by
 simp only[JN,Bool.and_eq_true,decide_eq_true_eq,List.all_eq_true,Bool.or_eq_true,Bool.not_eq_true',decide_eq_false_iff_not] at hchk;obtain⟨⟨⟨hkind,hcell⟩,hnames⟩,hfree⟩:=hchk;refine JT (cl:=[]) N (N.map λ_=>none) hc hi ?_ (closureFor_none λx hx=>hfree x hx) trivial ?_ hb hs
 ·simp only[IX,Bool.and_eq_true,decide_eq_true_eq,List.all_eq_true,Bool.or_eq_true,Bool.not_eq_true',decide_eq_false_iff_not];refine⟨⟨⟨⟨⟨hkind,by simp⟩,hcell⟩,hnames⟩,λy hy=>.inl (hfree y hy)⟩,λp hp=>?_⟩;have:p.2∈N.map λ_=>(none:Option Nat):=(fO hp).2
  obtain⟨_,_,e⟩:=bK.mp this;rw[<-e]
 ·have:∀ns:List (Str×NameKind),(∀y∈ns,y.2≠.free)->Kd [] ns:=by
   intro ns
   induction ns with
   |nil=>intro _;exact trivial
   |cons p r ih=>intro h;exact⟨λe=>absurd e (h p bZ),ih λy hy=>h y (bY _ hy)⟩
  exact this _ λy hy=>hfree y hy
theorem LZ (N:List Str) {i:Nat} {x:Str} {elt tg iter:Expr} {ifs:List Expr} {scope:Scope} {cpos pos pos':Pos} {wi:TI} {g:TG} {tt:TT} {te:TE}
  (hN:X.N.Nodup) (hi':X.N[i]?=some x) (hx:Loc X.env.scope x)
  (hc:X.calm=true) (hi:PI X tg iter wi) (hchk:JN scope=true)
  (hb:∀(C:Addr) (s:Shared) (H:Hp) (fp:List Addr),PG (Bx X scope [] N C s H fp) tg g/\Rc (Bx X scope [] N C s H fp) ifs tt/\PE (Bx X scope [] N C s H fp) elt te)
  (hs:∀x,foldedSetIterable iter X.env x=pure x:=by intro _;rfl)
  (hsw:swapsWith (.ListComp elt [⟨tg,iter,ifs,0⟩] scope cpos) (some (.Name x pos')) pos.line X.env=pure true:=by rfl)
  (hf:X.fn x=true\/X.env.scope.names.lookup x=some .local:=by first|exact .inl rfl|exact .inr rfl|assumption) :
  PS X (.Assign [.Name x pos'] (.ListComp elt [⟨tg,iter,ifs,0⟩] scope cpos) pos) (Um (NF (N.map λ_=>none) wi g tt te) (FA i)):=by
 simp only[JN,Bool.and_eq_true,decide_eq_true_eq,List.all_eq_true,Bool.or_eq_true,Bool.not_eq_true',decide_eq_false_iff_not] at hchk;obtain⟨⟨⟨hkind,hcell⟩,hnames⟩,hfree⟩:=hchk;refine LL (cl:=[]) N (N.map λ_=>none) hN hi' hx hc hi ?_ (closureFor_none λx hx=>hfree x hx) trivial ?_ hb hs hsw hf
 ·simp only[IX,Bool.and_eq_true,decide_eq_true_eq,List.all_eq_true,Bool.or_eq_true,Bool.not_eq_true',decide_eq_false_iff_not];refine⟨⟨⟨⟨⟨hkind,by simp⟩,hcell⟩,hnames⟩,λy hy=>.inl (hfree y hy)⟩,λp hp=>?_⟩;have:p.2∈N.map λ_=>(none:Option Nat):=(fO hp).2
  obtain⟨_,_,e⟩:=bK.mp this;rw[<-e]
 ·have:∀ns:List (Str×NameKind),(∀y∈ns,y.2≠.free)->Kd [] ns:=by
   intro ns
   induction ns with
   |nil=>intro _;exact trivial
   |cons p r ih=>intro h;exact⟨λe=>absurd e (h p bZ),ih λy hy=>h y (bY _ hy)⟩
  exact this _ λy hy=>hfree y hy
end
def Def (P:Program)(w:World)(K:PySem.W.Frag)(mg:Str->Option Value)(base:Heap)(k:Nat)(x:Str)(ps:List Str)(sp:Sp):Prop:=
 ∃(f:Addr) (fd:FuncData),FnOk P w K mg base CG k f fd ps sp/\mg x=some (.ref f)/\PySem.W.keepIn K (.ref f)=true/\Binds K fd ps []
section
variable {X:Cx}{k:Nat}{x:Str}{ps:List Str}{sp:Sp}{e:Expr}{es:List Expr}{t:TA}{p pos:Pos}
theorem AO (D:Def X.prog X.w X.K X.mg X.base k x ps sp) (hr:Room k X.A) (hg:Gl X x) (ha:PA X (e::es) t)
  (hdb:(x == ("__debug__":Str))=false:=by decide) (he:starEach (e::es) X.env=(false,eval e X.env)::starEach es X.env:=by rfl) (hpl:(backTo pos (starEach es X.env)).any (·.1)=false:=by rfl) :
  PE X (.Call (.Name x p) (e::es) [] pos) (PP sp [] E0 t):=by
 obtain⟨f,fd,F,hm,hk,hb⟩:=D;exact RV F hr hg hm hk hb .nil NP ha hdb he hpl
theorem QX (D:Def X.prog X.w X.K X.mg X.base k x ps sp) (hr:Room k X.A) (hg:Gl X x)
  (hdb:(x == ("__debug__":Str))=false:=by decide) :
  PE X (.Call (.Name x p) [] [] pos) (PP sp [] E0 ET):=by
 obtain⟨f,fd,F,hm,hk,hb⟩:=D;exact Vq F hr hg hm hk hb .nil NP hdb
end
section
variable {X:Cx}
theorem AH {x:Str}{i:Int}{pos:Pos}(hg:Gl X x)(hm:∃t,X.mg x=some (.int i t))(hd:(x == ("__debug__":Str))=false:=by decide):PE X (.Name x pos) (tC (.int i)):=by
 obtain⟨t,hm⟩:=hm;exact Og hg hm ⟨_,rfl⟩ hd
theorem Kt {x:Str}{T:String}{pos:Pos}(hg:Gl X x)(hm:X.mg x=none)(hv:bootBuiltins x=some (.type T))(hn:x≠"__name__":=by decide)(hd:(x == ("__debug__":Str))=false:=by decide):PE X (.Name x pos) (tC (.ty T)):=Wv hg hm hv rfl hn hd
theorem JK {x z:Str}{pos:Pos}(hg:Gl X x)(hm:∃t,X.mg x=some (.str z t))(hd:(x == ("__debug__":Str))=false:=by decide):PE X (.Name x pos) (tC (.str z)):=by
 obtain⟨t,hm⟩:=hm;exact Og hg hm ⟨_,rfl⟩ hd
end
theorem A3:bootBuiltins "isinstance"=some (.builtin "isinstance"):=by decide +kernel
theorem Mm:bootBuiltins "all"=some (.builtin "all"):=by decide +kernel
theorem UH:bootBuiltins "sum"=some (.builtin "sum"):=by decide +kernel
theorem Gx:bootBuiltins "sorted"=some (.builtin "sorted"):=by decide +kernel
theorem CA:bootBuiltins "len"=some (.builtin "len"):=by decide +kernel
theorem Ys:bootBuiltins "max"=some (.builtin "max"):=by decide +kernel
theorem X3:bootBuiltins "min"=some (.builtin "min"):=by decide +kernel
theorem Yu:bootBuiltins "int"=some (.type "int"):=by decide +kernel
theorem We:bootBuiltins "bool"=some (.type "bool"):=by decide +kernel
theorem Vn:bootBuiltins "str"=some (.type "str"):=by decide +kernel
theorem IM:bootBuiltins "list"=some (.type "list"):=by decide +kernel
theorem GA:bootBuiltins "tuple"=some (.type "tuple"):=by decide +kernel
theorem YA:bootBuiltins "set"=some (.type "set"):=by decide +kernel
theorem J8:bootBuiltins "enumerate"=some (.type "enumerate"):=by decide +kernel
theorem YY {t c:String}{b:Bool}(h:(if(Value.type t == Value.type c)=true then some true else if PySem.W.kitMeta c=true then(fastBuiltinMro t).map (·.contains (.type c)) else none)=some b)(K:PySem.W.Frag) :
  PySem.W.kitOne K (.type t) (.type c)=some b:=h
section
variable {X:Cx}
def aD (K:PySem.W.Frag):List V->Hp->VK->Prop:=λxs H Q=>∃x c t b,xs=[x,.ty c]/\TyOf K H x t/\PySem.W.kitOne K t (.type c)=some b/\Q (.bl b) H
theorem Cv:Ei X (.builtin "isinstance") (aD X.K):=by
 intro pins s σ H xs us Q I r h;obtain⟨x,c,t,b,rfl,ty,e,q⟩:=h;obtain⟨u,v,rfl,ru,rv⟩:=vals2 r;have ev:v=Value.type c:=rv;subst ev;exact SZ I ru ty e λtk=>⟨.bl b,H,I.tok _,rfl,q⟩
end
def Ej:V->Bool
 | .non=>true
 | .int _=>true
 | .str _=>true
 |_=>false
theorem IZ {x:V}(h:Ej x=true):IG x=true:=by
 cases x<;>first|rfl|exact h
theorem pure_eq {x y:V}(hx:Ej x=true)(hy:Ej y=true):Nd x y=decide (x=y):=by
 cases x<;>first|exact absurd (show false=true from hx) bN|skip
 all_goals (cases y<;>first|exact absurd (show false=true from hy) bN|skip)
 ·rfl
 ·rfl
 ·rfl
 ·rfl
 ·exact FN.symm
 ·rfl
 ·rfl
 ·rfl
 ·exact Od.symm
theorem Jk:∀(xs ys:List V),xs.length=ys.length->xs.all Ej=true->ys.all Ej=true->
  ((List.range xs.length).all λi=>Nd (xs.getD i .non) (ys.getD i .non))=decide (xs=ys):=by
 intro xs
 induction xs with
 |nil=>
  intro ys hl _ _;cases ys with
  |nil=>rfl
  |cons _ _=>simp at hl
 |cons x xs ih=>
  intro ys hl hx hy;cases ys with
  |nil=>simp at hl
  |cons y ys=>
   rw[fH,cu] at hx hy;have q:=ih ys (by simpa using hl) hx.2 hy.2;rw[cN,List.range_succ_eq_map,fH,iW];have e0:((λi=>Nd ((x::xs).getD i .non) ((y::ys).getD i .non))∘Nat.succ)=λi=>Nd (xs.getD i .non) (ys.getD i .non):=by
    funext i;simp
   rw[e0,q];show(Nd x y&&decide (xs=ys))=_;rw[pure_eq hx.1 hy.1]
   by_cases h1:x=y
   ·by_cases h2:xs=ys<;>simp[h1,h2]
   ·simp[h1]
theorem LH {xs:List V}{us:List Value}(r:AF xs us){j:Nat}(hj:j<us.length):∃x,xs[j]?=some x/\RelV x us[j]:=by
 have hl:=r.length;obtain⟨u,e1,e2⟩:=r.get (i:=j) (x:=xs[j]'(by omega)) (by simp[show j<xs.length by omega]);refine⟨xs[j]'(by omega),by simp[show j<xs.length by omega],?_⟩;rw[bF hj] at e1;cases e1;exact e2
section
variable {X:Cx}
theorem VS {A:Around} {s:Shared} {a b:Addr} {xs ys:List V} {its its2:List Value} (hu:A.units<cLine) (r1:AF xs its) (r2:AF ys its2) (h1:s.heap.IsList a its.toArray) (h2:s.heap.IsList b its2.toArray)
  (f1:xs.all Ej=true) (f2:ys.all Ej=true):SeqAt.RcAt A s (.ref a) (.ref b) (decide (xs=ys)):=by
 have l1:=r1.length;have l2:=r2.length
 by_cases hl:xs.length=ys.length
 ·have q:=SeqAt.RcAt.lists (A:=A) (s:=s) (e:=λi=>Nd (xs.getD i .non) (ys.getD i .non)) h1 h2 (by simp;omega) hu (λj g1 g2=>by
   have g1':j<its.length:=by simpa using g1
   have g2':j<its2.length:=by simpa using g2
   obtain⟨x,e1,rx⟩:=LH r1 g1';obtain⟨y,e2,ry⟩:=LH r2 g2';have p1:Ej x=true:=cO.mp f1 x (bJ e1);have p2:Ej y=true:=cO.mp f2 y (bJ e2);have:=LU (A:=A.in1) (s:=s) rx ry (IZ p1) (IZ p2);simpa [List.getD,e1,e2] using this)
  have e:(its.toArray.size)=xs.length:=by simp;omega
  rw[e,Jk xs ys hl f1 f2] at q;exact q
 ·have e:decide (xs=ys)=false:=bL λz=>hl (by rw[z])
  rw[e];exact SeqAt.RcAt.lists_lengths h1 h2 (by simp;omega) hu
def ZQ (K:PySem.W.Frag)(neg:Bool):R2:=λx y H Q=>∃a b xs ys,x=.ref a/\y=.ref b/\AQ K H a xs/\AQ K H b ys/\xs.all Ej=true/\ys.all Ej=true/\Q (.bl (if neg then !decide (xs=ys) else decide (xs=ys))) H
theorem O6 (hu:X.A.units+1<cLine):HH X (compareOp .Eq) (ZQ X.K false):=by
 intro pins s σ H x y v u Q I rx ry h;obtain⟨a,b,xs,ys,rfl,rfl,h1,h2,f1,f2,q⟩:=h;cases rx;cases ry;obtain⟨its,r1,p1,_⟩:=I.list h1;obtain⟨its2,r2,p2,_⟩:=I.list h2;exact VS (by omega) r1 r2 p1.isList p2.isList f1 f2 _ _ _ _ ⟨.bl _,H,I,rfl,q⟩
theorem Rb {A:Around} {s:Shared} {a b:Addr} {xs ys:List V} {its its2:List Value} (hu:A.units<cLine) (r1:AF xs its) (r2:AF ys its2) (h1:s.heap.IsList a its.toArray) (h2:s.heap.IsList b its2.toArray)
  (f1:xs.all Ej=true) (f2:ys.all Ej=true):SeqAt.RcNeAt A s (.ref a) (.ref b) (!decide (xs=ys)):=by
 have l1:=r1.length;have l2:=r2.length
 by_cases hl:xs.length=ys.length
 ·have q:=SeqAt.RcNeAt.lists (A:=A) (s:=s) (e:=λi=>Nd (xs.getD i .non) (ys.getD i .non)) h1 h2 (by simp;omega) hu (λj g1 g2=>by
   have g1':j<its.length:=by simpa using g1
   have g2':j<its2.length:=by simpa using g2
   obtain⟨x,e1,rx⟩:=LH r1 g1';obtain⟨y,e2,ry⟩:=LH r2 g2';have p1:Ej x=true:=cO.mp f1 x (bJ e1);have p2:Ej y=true:=cO.mp f2 y (bJ e2);have:=LU (A:=A.in1) (s:=s) rx ry (IZ p1) (IZ p2);simpa [List.getD,e1,e2] using this)
  have e:(its.toArray.size)=xs.length:=by simp;omega
  rw[e,Jk xs ys hl f1 f2] at q;exact q
 ·have e:decide (xs=ys)=false:=bL λz=>hl (by rw[z])
  rw[e];exact SeqAt.RcNeAt.lists_lengths h1 h2 (by simp;omega) hu
theorem Yc (hu:X.A.units+1<cLine):HH X (compareOp .NotEq) (ZQ X.K true):=by
 intro pins s σ H x y v u Q I rx ry h;obtain⟨a,b,xs,ys,rfl,rfl,h1,h2,f1,f2,q⟩:=h;cases rx;cases ry;obtain⟨its,r1,p1,_⟩:=I.list h1;obtain⟨its2,r2,p2,_⟩:=I.list h2;exact Rb (by omega) r1 r2 p1.isList p2.isList f1 f2 _ _ _ _ ⟨.bl _,H,I,rfl,q⟩
theorem Cw (ns:List Int):(ns.map V.int).all Ej=true:=by simp[List.all_map,Function.comp_def,Ej]
end
theorem K3:∀{bs:List Bool} {us:List Value},AF (bs.map V.bl) us->LSm.BoolsAre us bs
 |[],_,.nil=>.nil
 |b::bs,_,.cons r t=>by
  have e:_=Value.bool b:=r;subst e;exact .cons b (K3 t)
section
variable {prog:Program}{w:World}{A:Around}{E:Value->Shared->Prop}{s:Shared}{l:Addr}{vs:List Value}
theorem Uz {bs:List Bool} {Q:Value->Shared->Prop} (hh:A.handled=none) (hl:s.heap.IsList l vs.toArray) (hb:LSm.BoolsAre vs bs)
  (h:∀h' tk,(∀b o,s.heap.get? b=some o->h'.get? b=some o)->Q (.bool (bs.all id)) { s with heap:=h',toks:=tk }):wpAny (model prog w) A (call (.builtin "all") [.ref l]) Q E s:=by
 have below:l<s.heap.objs.size:=(λ⟨_,e,_⟩=>bU e:s.heap.IsList l vs.toArray->_) hl;have whole:((List.range vs.toArray.size).all λi=>(bs[i]?).getD true)=bs.all id:=by rw[cq,hb.length,LSm.range_all]
 exact call_all_walk (ef hl ⟨s.heap.objs.size,[s.heap.objs.size,l],[s.heap.objs.size],vs.toArray.size,_,_,λi=>(bs[i]?).getD true,rfl,jh (A:=A.in1) hh _ l (cn below) vs.toArray,⟨⟨_,bR _ rfl,rfl,rfl⟩,hl.push _⟩,
  (λi v s' Q' E' hP hQ=>by
   obtain⟨b,hg,hv⟩:=hb.get i v (by simpa using hP);have hQ':Q' b s':=by simpa [hg] using hQ
   subst hv;exact dh hQ'),
  λh' tk hk=>whole▸h h' tk (LSm.kept_iter hk)⟩)
end
section
variable {X:Cx}
theorem IC (hc:X.calm=true):Ei X (.builtin "all") (λxs H Q=>∃(a:Addr) (bs:List Bool),xs=[.ref a]/\AQ X.K H a (bs.map V.bl)/\Q (.bl (bs.all id)) H):=by
 intro pins s σ H xs us Q I r h;obtain⟨a,bs,rfl,h1,q⟩:=h;obtain⟨u,rfl,ru⟩:=vals1 r;cases ru;obtain⟨its,r1,p1,_⟩:=I.list h1;exact Uz (I.ok.hd hc) p1.isList (K3 r1) λh' tk hk=>⟨.bl _,H,I.kept hk,rfl,q⟩
theorem Qm (hc:X.calm=true):Ei X (.builtin "sum") (λxs H Q=>∃(a:Addr) (ns:List Int),xs=[.ref a]/\AQ X.K H a (ns.map V.int)/\Q (.int ns.sum) H):=by
 intro pins s σ H xs us Q I r h;obtain⟨a,ns,rfl,h1,q⟩:=h;obtain⟨u,rfl,ru⟩:=vals1 r;cases ru;obtain⟨its,r1,p1,_⟩:=I.list h1;have hi:=intsAre_of r1;obtain⟨zs,hz⟩:=hi.allInts.items;have due:preSum (numAt zs) zs.size=ns.sum:=by
  have:zs.toList.map (·.1)=ns:=by rw[<-nums_intItems,<-hz];exact hi.numsOf
  rw[<-this,preSum_eq,cI (by simp)]
 exact sum_intListG (I.ok.hd hc) (hz▸p1.isList) λh' tk t' hk=>⟨.int ns.sum,H,I.kept hk,⟨_,by rw[due]⟩,q⟩
def ZX (K:PySem.W.Frag):R2:=λx y H Q=>∃l b xs zs,x=.ref l/\y=.ref b/\AQ K H l xs/\AQ K H b zs/\xs.length+zs.length<=sizeLine/\∀p,H p=none->Q (.ref p) (upd H p (.lst (xs++zs)))
theorem Hf:HH X (binaryOp .Add) (ZX X.K):=by
 intro pins s σ H x y v u Q I rx ry h;obtain⟨l,b,xs,zs,rfl,rfl,h1,h2,hz,q⟩:=h;cases rx;cases ry;obtain⟨its,r,p1,_⟩:=I.list h1;obtain⟨its2,r2,p2,_⟩:=I.list h2;have l1:=r.length;have l2:=r2.length;obtain⟨⟨cls,dd,data,sl⟩,ho,hc,n,hd⟩:=id p1.isList;obtain⟨⟨cls2,dd2,data2,sl2⟩,ho2,hc2,n2,hd2⟩:=id p2.isList;simp only at hc hd hc2 hd2;subst hc hd hc2 hd2;have e:its.toArray++its2.toArray=(its++its2).toArray:=by simp
 refine concat_meets ⟨_,ho,rfl⟩ ⟨_,ho2,rfl⟩ noFill_list_add seq_list_add PySem.F.slot_list_add PySem.F.entry_list_add (PySem.F.args_list_add_2 _ _) (list_addW l b its.toArray its2.toArray n n2 dd dd2 sl sl2 (by rw[cq,cq];omega)) ⟨ho,ho2,?_⟩;rw[e];exact⟨.ref _,_,I.lnew (t':=s.toks) (r.append r2) (by rw[bW];omega),rfl,q _ I.fresh⟩
end
theorem Am {H:Hp}{p:Addr}(h:H p=none)(o:HO):An H (upd H p o):=λb u q=>by rw[Ag (Ar q h)];exact q
theorem BV {H H':Hp}{p:Addr}(s:An H H')(h:H p=none)(o:HO):An H (upd H' p o):=λb u q=>by rw[Ag (Ar q h)];exact s b u q
theorem An.get {H H':Hp}{a:Addr}{o:HO}(s:An H H')(h:H a=some o):H' a=some o:=s a o h
theorem GX:1000000<=sizeLine:=by decide
theorem small {n:Nat}(h:n<=1000000):n<=sizeLine:=cA h GX
theorem BU {n:Nat}(h:n<1000000):n<sizeLine:=cB h GX
theorem Wu {ns:List Int}{i:Nat}{y:V}(h:(ns.map V.int)[i]?=some y):∃z,y=V.int z/\ns[i]?=some z:=by
 rw[bQ] at h;cases e:ns[i]? with
 |none=>rw[e] at h;cases h
 |some z=>rw[e] at h;exact⟨z,(bO h).symm,rfl⟩
theorem Yg {ns:List Int}{i:Int}(h0:0<=i)(h1:i<ns.length):Mj (ns.map V.int) i=some (.int (ns.getD i.toNat 0)):=by
 have hk:i.toNat<ns.length:=by omega
 have ek:i=((i.toNat:Nat):Int):=by omega
 have q:Mj (ns.map V.int) ((i.toNat:Nat):Int)=some (.int (ns.getD i.toNat 0)):=DD (by rw[bQ,bF hk];simp[List.getD,List.getElem?_eq_getElem hk]);rw[<-ek] at q;exact q
theorem Qv (ns:List Int)(lo hi:Option Int):∃ms:List Int,FI (ns.map V.int) lo hi=ms.map V.int/\ms.length<=ns.length/\∀x∈ms,x∈ns:=by
 refine⟨(ns.drop (HT.CD (ns.map V.int).length 0 lo)).take (HT.CD (ns.map V.int).length (ns.map V.int).length hi-HT.CD (ns.map V.int).length 0 lo),?_,?_,λx hx=>jj (dm hx)⟩
 ·unfold FI;rw[g9,hG]
 ·rw[cG,eS];omega
theorem AE {c:Bool}{A B:Prop}(h:c=false)(b:B):if c=true then A else B:=by
 subst h;rw[bP bN];exact b
theorem Bs {c:Bool}{A B:Prop}(h:c=true)(b:A):if c=true then A else B:=by
 subst h;rw[bV rfl];exact b
theorem dec_true {c:Prop}[Decidable c](h:decide c=true):c:=cX h
theorem Xn {t u:TT}{σ:St}{H:Hp}{Q:Bool->Hp->Prop}(c d:Bool)(ht:∀R:Bool->Hp->Prop,R c H->t σ H R)(hu:c=false->∀R:Bool->Hp->Prop,R d H->u σ H R)(q:Q (c||d) H):bp t u σ H Q:=by
 refine ht _ ?_;cases c with
 |true=>rw[bV rfl];exact q
 |false=>rw[bP bN];exact hu rfl _ q
theorem Uy {t u:TT}{σ:St}{H:Hp}{Q:Bool->Hp->Prop}(c d:Bool)(ht:∀R:Bool->Hp->Prop,R c H->t σ H R)(hu:c=true->∀R:Bool->Hp->Prop,R d H->u σ H R)(q:Q (c&&d) H):Z5 t u σ H Q:=by
 refine ht _ ?_;cases c with
 |false=>rw[bP bN];exact q
 |true=>rw[bV rfl];exact hu rfl _ q
def MY (J:It)(H:Hp)(xs:List V):Prop:=∀H',An H H'->∀i:Nat,(i<xs.length->J.go i H')/\(∀x H'',J.yld i H' x H''->H''=H'/\(i<xs.length->xs[i]?=some x))/\(xs.length<=i->J.stop i H')
theorem KO {K:PySem.W.Frag}{a:Addr}{H:Hp}{xs:List V}(h:AQ K H a xs):MY (Y1 K a) H xs:=λH' s i=>
 ⟨λhi=>⟨xs,xs[i],s.seq h,by simp[hi]⟩,λx H'' y=>⟨y.1,λ_=>y.2 xs (s.seq h)⟩,λhi=>⟨xs,s.seq h,hi⟩⟩
theorem comp_map {J:It} {xs:List V} {fr:List (Option Nat)} {k:Nat} {te:TE} {Q:VK} {σ:St} {H:Hp} (f:V->V) (hJ:MY J H xs) (hn:xs.length<=1000000)
  (helt:∀(x:V) (H':Hp) (R:VK),x∈xs->An H H'->(∀H'',An H' H''->R (f x) H'')->te ((stC fr σ).set k (some x)) H' R)
  (hQ:∀l H',H l=none->An H H'->H' l=some (.lst (xs.map f))->Q (.ref l) H') :
  GQ fr (FA k) Va te σ Q J H:=by
 intro l hl;refine⟨λi m σ' H'=>m=xs.length-i/\i<=xs.length/\(∀y,σ'.set k y=(stC fr σ).set k y)/\An H H'/\H' l=some (.lst ((xs.take i).map f)),⟨xs.length,by simp,cE _,λ_=>rfl,Am hl _,by rw[Ae,fW,fU]⟩,?_⟩
 rintro i m σ' H' ⟨rfl,hi,hσ,hs,hl'⟩
 obtain⟨h1,h2,h3⟩:=hJ H' hs i
 by_cases hlt:i<xs.length
 ·refine .inr ⟨h1 hlt,λx H'' y=>?_⟩;obtain⟨rfl,hx⟩:=h2 x H'' y;have hx:=hx hlt;show te (σ'.set k (some x)) H'' _;rw[hσ];refine helt x H'' _ (bJ hx) hs λH4 s4=>?_
  refine⟨_,s4.get hl',BU (by rw[bE,cG];omega),xs.length-(i+1),by omega,rfl,hlt,λy=>by rw[fm],BV (hs.trans s4) hl _,?_⟩;rw[Ae,cJ,hx];simp
 ·have e:i=xs.length:=by omega
  subst e;exact .inl ⟨h3 (bI _),hQ l H' hl hs (by rw[hl',cI (bI _)])⟩
section
variable {X:Cx}{K:PySem.W.Frag}
theorem Hn (h:X.K=K):Y7 X (ZJ K):=by subst h;exact Az
end
def Ok (H:Hp):V->Prop
 | .non=>True
 | .bl _=>True
 | .int _=>True
 | .str z=>z.length<=1000
 | .ref a=>(∃xs,H a=some (.lst xs))\/∃xs,H a=some (.tup xs)
 |_=>False
def IW (H:Hp):V->String
 | .non=>"NoneType"
 | .bl _=>"bool"
 | .int _=>"int"
 | .str _=>"str"
 | .ref a=>match H a with
  |some (.lst _)=>"list"
  |some (.tup _)=>"tuple"
  |_=>"?"
 |_=>"?"
theorem Ok.ty {H:Hp}{v:V}(h:Ok H v)(K:PySem.W.Frag):TyOf K H v (.type (IW H v)):=by
 cases v with
 |non=>exact .non
 |bl b=>exact .bl b
 |int i=>exact .int i
 |str z=>exact .str z
 |ref a=>
  rcases h with⟨xs,e⟩|⟨xs,e⟩
  ·have q:IW H (.ref a)="list":=by simp only[IW,e]
   rw[q];exact .lst e
  ·have q:IW H (.ref a)="tuple":=by simp only[IW,e]
   rw[q];exact .tup e
 |_=>exact h.elim
def isA (t c:String):Bool:=t == c||(t == "bool"&&c == "int")
theorem V9 {t c:String}(K:PySem.W.Frag)(ht:t∈["NoneType","bool","int","str","list","tuple"])(hc:c∈["bool","int","str","list","tuple"]):PySem.W.kitOne K (.type t) (.type c)=some (isA t c):=by
 have all:∀t∈["NoneType","bool","int","str","list","tuple"],∀c∈["bool","int","str","list","tuple"],(if(Value.type t == Value.type c)=true then some true else if PySem.W.kitMeta c=true then(fastBuiltinMro t).map (·.contains (.type c)) else none)=some (isA t c):=by decide +kernel
 exact YY (all t ht c hc) K
theorem Ok.tyMem {H:Hp}{v:V}(h:Ok H v):IW H v∈["NoneType","bool","int","str","list","tuple"]:=by
 cases v with
 |ref a=>
  rcases h with⟨xs,e⟩|⟨xs,e⟩
  ·simp only[IW,e];decide
  ·simp only[IW,e];decide
 |byt _=>exact h.elim
 |flt _=>exact h.elim
 |ty _=>exact h.elim
 |_=>simp only[IW];decide
theorem Ok.kit {H:Hp}{v:V}(h:Ok H v)(K:PySem.W.Frag){c:String}(hc:c∈["bool","int","str","list","tuple"]:=by decide):PySem.W.kitOne K (.type (IW H v)) (.type c)=some (isA (IW H v) c):=V9 K h.tyMem hc
theorem Ov {t u:TE}{σ:St}{H:Hp}{Q:VK}(c d:Bool)(ht:∀R:VK,R (.bl c) H->t σ H R)(hu:c=true->∀R:VK,R (.bl d) H->u σ H R)(q:Q (.bl (c&&d)) H):Xm t u σ H Q:=by
 refine ht _ ⟨c,rfl,?_⟩;cases c with
 |false=>rw[bP bN];exact q
 |true=>rw[bV rfl];exact hu rfl _ q
theorem WI {H:Hp}{a:Addr}{xs:List V}(e:H a=some (.lst xs)):IW H (.ref a)="list":=by simp only[IW,e]
theorem WU {H:Hp}{a:Addr}{xs:List V}(e:H a=some (.tup xs)):IW H (.ref a)="tuple":=by simp only[IW,e]
theorem Ok.elim {H:Hp} {v:V} (ok:Ok H v) {C:Prop} (c1:v=.non->IW H v="NoneType"->C) (c2:∀b,v=.bl b->IW H v="bool"->C) (c3:∀i,v=.int i->IW H v="int"->C) (c4:∀z,v=.str z->z.length<=1000->IW H v="str"->C)
  (c5:∀a xs,v=.ref a->H a=some (.lst xs)->IW H v="list"->C) (c6:∀a xs,v=.ref a->H a=some (.tup xs)->IW H v="tuple"->C):C:=by
 cases v with
 |non=>exact c1 rfl rfl
 |bl b=>exact c2 b rfl rfl
 |int i=>exact c3 i rfl rfl
 |str z=>exact c4 z rfl ok rfl
 |ref a=>
  rcases ok with⟨xs,e⟩|⟨xs,e⟩
  ·exact c5 a xs rfl e (WI e)
  ·exact c6 a xs rfl e (WU e)
 |_=>exact(show False from ok).elim
def HJ (H:Hp)(v:V):Bool:=isA (IW H v) "int" && !isA (IW H v) "bool"
theorem SI (H:Hp)(i:Int):HJ H (.int i)=true:=by
 show(isA "int" "int" && !isA "int" "bool")=true
 decide
theorem U7 {H:Hp}{v:V}(ok:Ok H v)(h:HJ H v=true):∃i,v=.int i:=by
 unfold HJ at h;refine ok.elim (λ_ e=>?_) (λ_ _ e=>?_) (λi e _=>⟨i,e⟩) (λ_ _ _ e=>?_) (λ_ _ _ _ e=>?_) (λ_ _ _ _ e=>?_)
 all_goals (rw[e] at h;exact absurd h (by decide))
def Lg (a b:Int):V->Bool
 | .int i=>decide (a<=i)&&decide (i<=b)
 |_=>false
theorem V6 {H:Hp}{v:V}{a b:Int}(h:HJ H v=false):Lg a b v=false:=by
 cases v with
 |int i=>rw[SI] at h;cases h
 |_=>rfl
theorem Uq {H:Hp}{v:V}(ok:Ok H v)(h:isA (IW H v) "tuple"=true):∃a xs,v=.ref a/\H a=some (.tup xs):=by
 refine ok.elim (λ_ e=>?_) (λ_ _ e=>?_) (λ_ _ e=>?_) (λ_ _ _ e=>?_) (λ_ _ _ _ e=>?_) (λa xs e1 e2 _=>⟨a,xs,e1,e2⟩)
 all_goals (rw[e] at h;exact absurd h (by decide))
theorem YB {H:Hp}{v:V}(ok:Ok H v)(h:isA (IW H v) "str"=true):∃z,v=.str z/\z.length<=1000:=by
 refine ok.elim (λ_ e=>?_) (λ_ _ e=>?_) (λ_ _ e=>?_) (λz e1 e2 _=>⟨z,e1,e2⟩) (λ_ _ _ _ e=>?_) (λ_ _ _ _ e=>?_)
 all_goals (rw[e] at h;exact absurd h (by decide))
def ag (x:Str):It:=⟨λi _=>i<x.cps.size,λi H v H'=>H'=H/\∃c,x.cps[i]?=some c/\v=.str ⟨#[c]⟩,λi _=>x.cps.size<=i⟩
theorem Rl {P:Program}{w:World}{K:PySem.W.Frag}{tg:Expr}(it:Addr)(x:Str)(t:Tok):Turn P w K tg (ag x) [it] it (λi h=>h.IsStrIter it "str_ascii_iterator" x t i) where
 mem:=by simp
 obj:=λi h st b hb=>by
  have e:b=it:=by simpa using hb
  subst e;obtain⟨o,e,c,d⟩:=st;exact⟨o,e,λv z=>by rw[d] at z;cases z⟩
 keep:=λi h h' st k=>by
  obtain⟨o,e,c,d⟩:=st;exact⟨o,k it (by simp) o e,c,d⟩
 item:=by
  intro X hP hw hK hc i pins s σ H E I hf st hg;subst hP hw hK;have hg':i<x.cps.size:=hg;obtain⟨f0,f1,f2,f3,f4,f5⟩:=hf it (by simp);refine wpAny_pyNext_ascii_item st (c:=x.cps[i]) (by simp[hg']) λh' st' sb=>?_
  have I1:Inv X pins σ H { s with heap:=h',toks:=s.toks+1 }:=I.turned (λb o hb e=>(sb.2 b hb).trans e) f0 f1 f3 f4 f5;obtain⟨o,e,c,d⟩:=id st';exact⟨_,rfl,Mt (s:={ s with heap:=h',toks:=s.toks+1 }) e c d (by decide) ⟨.str ⟨#[x.cps[i]]⟩,H,I1,⟨_,rfl⟩,⟨rfl,_,by simp[hg'],rfl⟩,st',λb hb=>(hf b hb).1⟩⟩
 done:=by
  intro X hP hw hK hc i pins s σ H E I hf st hg;subst hP hw hK;have hg':x.cps.size<=i:=hg;obtain⟨f0,f1,f2,f3,f4,f5⟩:=hf it (by simp);exact wpAny_pyNext_ascii_end (I.ok.hd hc) st (by simp[hg']) λh' eb=>⟨rfl,I.turned (t':=s.toks) (λb o hb e=>eb b o hb e) f0 f1 f3 f4 f5⟩
 self:=λ_ _ _ _ _ st h=>wpAny_pyIter_striter_ascii st h
theorem SN {P:Program}{w:World}{K:PySem.W.Frag}{tg:Expr}(it:Addr)(x:Str)(t:Tok):Turn P w K tg (ag x) [it] it (λi h=>h.IsStrIter it "str_iterator" x t i) where
 mem:=by simp
 obj:=λi h st b hb=>by
  have e:b=it:=by simpa using hb
  subst e;obtain⟨o,e,c,d⟩:=st;exact⟨o,e,λv z=>by rw[d] at z;cases z⟩
 keep:=λi h h' st k=>by
  obtain⟨o,e,c,d⟩:=st;exact⟨o,k it (by simp) o e,c,d⟩
 item:=by
  intro X hP hw hK hc i pins s σ H E I hf st hg;subst hP hw hK;have hg':i<x.cps.size:=hg;obtain⟨f0,f1,f2,f3,f4,f5⟩:=hf it (by simp);refine wpAny_pyNext_wide_item st (c:=x.cps[i]) (by simp[hg']) λh' st' sb=>?_
  have I1:Inv X pins σ H { s with heap:=h',toks:=s.toks+1 }:=I.turned (λb o hb e=>(sb.2 b hb).trans e) f0 f1 f3 f4 f5;obtain⟨o,e,c,d⟩:=id st';exact⟨_,rfl,Mt (s:={ s with heap:=h',toks:=s.toks+1 }) e c d (by decide) ⟨.str ⟨#[x.cps[i]]⟩,H,I1,⟨_,rfl⟩,⟨rfl,_,by simp[hg'],rfl⟩,st',λb hb=>(hf b hb).1⟩⟩
 done:=by
  intro X hP hw hK hc i pins s σ H E I hf st hg;subst hP hw hK;have hg':x.cps.size<=i:=hg;obtain⟨f0,f1,f2,f3,f4,f5⟩:=hf it (by simp);exact wpAny_pyNext_wide_end (I.ok.hd hc) st (by simp[hg']) λh' eb=>⟨rfl,I.turned (t':=s.toks) (λb o hb e=>eb b o hb e) f0 f1 f3 f4 f5⟩
 self:=λ_ _ _ _ _ st h=>wpAny_pyIter_striter_wide st h
section
variable {X:Cx}{tg:Expr}
def aX (tl:TE):TI:=λσ H R=>tl σ H λx H1=>∃z,x=.str z/\R (ag z) H1
theorem Kw {l:Expr}{tl:TE}(hl:PE X l tl):PI X tg l (aX tl):=by
 intro pins s σ H R I h;refine A7 (hl pins s σ H _ I h) λv s1 ⟨x,H1,I1,r1,q1⟩=>?_
 obtain⟨z,e,q⟩:=q1;subst e;obtain⟨t,rfl⟩:=r1;have fp:∀b∈[s1.heap.objs.size],Ja X pins H1 b:=λb hb=>by
  have e:b=s1.heap.objs.size:=by simpa using hb
  subst e;exact I1.fpOk (bI _) (I1.hok.fresh (bI _))
 cases ha:z.cps.all (· < 128)
 ·exact wpAny_pyIter_wide ha ⟨s1.heap.objs.size,[s1.heap.objs.size],_,_,H1,rfl,I1.kept (t':=s1.toks) (λb o e=>bH _ e),SN _ z t,⟨_,bR _ rfl,rfl,rfl⟩,fp,q⟩
 ·exact wpAny_pyIter_ascii ha ⟨s1.heap.objs.size,[s1.heap.objs.size],_,_,H1,rfl,I1.kept (t':=s1.toks) (λb o e=>bH _ e),Rl _ z t,⟨_,bR _ rfl,rfl,rfl⟩,fp,q⟩
end
theorem JY {x:Str}{H:Hp}:MY (ag x) H (x.cps.toList.map λc=>V.str ⟨#[c]⟩):=λH' s i=>
 ⟨λhi=>(by simpa using hi:i<x.cps.size),λv H'' y=>⟨y.1,λhi=>by
  obtain⟨_,c,hc,e⟩:=y;rw[bQ,cR,hc,e];rfl⟩,λhi=>(by simpa using hi:x.cps.size<=i)⟩
section
variable {X:Cx}
def Yv:V->List V->Hp->VK->Prop:=λx vs H Q=>∃t u,x=.str t/\vs=[.str u]/\0<=Txt.find t u/\Q (.int (Txt.find t u)) H
theorem LP (hc:X.calm=true):ai X "str.index" Yv:=by
 intro pins s σ H x vs v us Q I rx rv h;obtain⟨t,u,rfl,rfl,h0,q⟩:=h;obtain⟨tk,rfl⟩:=rx;obtain⟨y,rfl,ry⟩:=rv.one;obtain⟨tk2,rfl⟩:=ry;refine index_or (I.ok.hd hc) (λe=>absurd e (by omega)) λ_ _=>⟨.int (Txt.find t u),H,I.tok _,⟨_,rfl⟩,q⟩
end
section
variable {X:Cx}
def aR:V->Option Int->Option Int->Hp->VK->Prop:=λx lo hi H Q=>∃z:Str,x=.str z/\z.length<=sizeLine/\Q (.str (PySem.Txt.slice z lo hi)) H
theorem VC:Za X aR:=by
 intro pins s σ H x v vl vu lo hi sl Q I rx hs pl pu h;obtain⟨z,rfl,hz,q⟩:=h;obtain⟨t,rfl⟩:=rx;refine⟨"str",_,slot_str_getitem.lookup,typeIs_str _ _ _,?_⟩;cases pl with
 |none=>
  cases pu with
  |none=>exact fu (l:=none) (u:=none) (st:=none) hs rfl (gY ⟨cA (fV z _ _) hz,λt' k=>⟨.str _,H,I.tok k,⟨_,rfl⟩,q⟩⟩)
  |int j tj=>exact fu (l:=none) (u:=some (j,tj)) (st:=none) hs rfl (gY ⟨cA (fV z _ _) hz,λt' k=>⟨.str _,H,I.tok k,⟨_,rfl⟩,q⟩⟩)
 |int i ti=>
  cases pu with
  |none=>exact fu (l:=some (i,ti)) (u:=none) (st:=none) hs rfl (gY ⟨cA (fV z _ _) hz,λt' k=>⟨.str _,H,I.tok k,⟨_,rfl⟩,q⟩⟩)
  |int j tj=>exact fu (l:=some (i,ti)) (u:=some (j,tj)) (st:=none) hs rfl (gY ⟨cA (fV z _ _) hz,λt' k=>⟨.str _,H,I.tok k,⟨_,rfl⟩,q⟩⟩)
def Zf:R2:=λx y H Q=>∃(z:Str) (n:Int),x=.str z/\y=.int n/\n<=1000/\-1000<=n/\z.length<=1000/\Q (.str (PySem.Txt.mul z n)) H
theorem mulOk_of {z:Str}{n:Int}(h1:n<=1000)(h0:-1000<=n)(h2:z.length<=1000):MulOk z n:=by
 refine⟨?_,λh3 _=>?_,λh3 _=>?_⟩
 ·rw[bL (by omega),bL (by omega)];rfl
 ·have:(2^63-1:Int)/n≥(2^63-1:Int)/1000:=by
   have hn:0<n:=by omega
   have a:(2^63-1:Int)/1000*n<=2^63-1:=by
    have b:(2^63-1:Int)/1000*n<=(2^63-1:Int)/1000*1000:=Int.mul_le_mul_of_nonneg_left h1 (by decide);have c:(2^63-1:Int)/1000*1000<=2^63-1:=by decide
    omega
   exact(Int.le_ediv_iff_mul_le hn).mpr a
  have d:(1000:Int)<=(2^63-1:Int)/1000:=by decide
  omega
 ·have:z.length*n.toNat<=1000*1000:=Nat.mul_le_mul h2 (by omega);have e:Builtin.Str.tooLong (z.length*n.toNat)=decide (z.length*n.toNat>sizeLine):=rfl;rw[e];exact bL (by have:=GX;omega)
theorem Ml:HH X (binaryOp .Mult) Zf:=by
 intro pins s σ H x y v u Q I rx ry h;obtain⟨z,n,rfl,rfl,h1,h0,h2,q⟩:=h;obtain⟨t,rfl⟩:=rx;obtain⟨t',rfl⟩:=ry;exact SB.mul (mulOk_of h1 h0 h2) λt' k=>⟨.str _,H,I.tok k,⟨_,rfl⟩,q⟩
theorem RG {ys:List Str}:∀{us:List Value},AF (ys.map V.str) us->StrsAre us ys:=by
 induction ys with
 |nil=>intro us r;rw[fU] at r;cases r;exact .nil
 |cons n ns ih=>
  intro us r;rw[bX] at r;cases r with
  |cons r1 r2=>
   obtain⟨t,e⟩:=r1;subst e;exact .cons n t (ih r2)
def rJoin (K:PySem.W.Frag):V->List V->Hp->VK->Prop:=λx vs H Q=>∃(a:Addr) (z:Str) (ys:List Str),x=.str z/\vs=[.ref a]/\AQ K H a (ys.map V.str)/\(ys.map (·.length)).sum+ys.length*z.length<=16777216/\Q (.str (PySem.Txt.join z ys)) H
theorem WC (_:X.calm=true):ai X "str.join" (rJoin X.K):=by
 intro pins s σ H x vs v us Q I rx rv h;obtain⟨a,z,ys,rfl,rfl,hq,hz,q⟩:=h;obtain⟨tk,rfl⟩:=rx;obtain⟨y,rfl,ry⟩:=rv.one;cases ry;obtain⟨its,r1,p1,_⟩:=I.list hq;exact join_list p1.isList (RG (by simpa using r1)) hz λt' k=>⟨.str _,H,I.tok k,⟨_,rfl⟩,q⟩
end
end L2
namespace L2
open PySem PySem.Spec PyProof.Rows PySem.Builtin.Str
abbrev Eh (z:Str):List Nat:=z.cps.toList
theorem DC (z:Str):(Eh z).length=z.length:=by simp[Str.length]
theorem Sh {x y:Str}(h:Eh x=Eh y):x=y:=by
 obtain⟨a⟩:=x;obtain⟨b⟩:=y;have:a=b:=Array.toList_inj.mp h;rw[this]
end L2
namespace L2
open PySem PySem.Spec PyProof.Rows
theorem VJ:bootBuiltins "abs"=some (.builtin "abs"):=by decide +kernel
section
variable {X:Cx}
def Z0:V->Bool
 | .ref _=>true
 |_=>false
end
theorem Wd (a v:Value):checkTypeCall "enumerate" ⟨[a],[("start",v)]⟩=pure ():=by kernel_rfl
theorem WJ (a v:Value):checkBuiltinCall "enumerate.__new__" ⟨[.type "enumerate",a],[("start",v)]⟩=pure ():=by kernel_rfl
theorem WN (obj a v:Value):argsOk "object.__init__" ⟨[obj,a],[("start",v)]⟩:=by kernel_rfl
theorem W3 (l:Addr)(items:Array Value)(m:Nat)(sl:Array (Option Value))(t:Tok):Meets (Builtin.«enumerate.__new__» ⟨[.type "enumerate",.ref l],[("start",.int 1 t)]⟩) λ_ R s=>
  s.heap.get? l=some { cls:=.type "list",dict:=none,data:=.seq items m,slots:=sl }/\R (.ok (.ret (.ref (s.heap.objs.size+1))))
   { s with heap:=(s.heap.push { cls:=.type "list_iterator",data:=.fields #[.ref l,.int 0 0] }).push { cls:=.type "enumerate",data:=.fields #[.none,.bool false,.ref s.heap.objs.size,rawInt 1,.none,.none] } }:=by
 refine .of_wp λprog w A R s h=>?_
 obtain⟨hl,h⟩:=h;have hsub:=sub_enumerate;have hL:s.heap.IsList l items:=⟨_,hl,rfl,m,rfl⟩
 obtain⟨hp,g,d,tk,os⟩:=s
 wp_walk using fE hl
 refine wpAny_stack_any λst=>bG ?_
 split
 ·rename_i c _ _ _ _ _
  cases hcc:(c == Value.type "enumerate")<;>wp_walk using fE hl,ef hL
  all_goals (refine⟨_,rfl,?_⟩;rw[cT];exact h)
 ·wp_walk using fE hl,ef hL
  refine⟨_,rfl,?_⟩;rw[cT];exact h
theorem Xf {self a v:Value}:Meets (Builtin.«object.__init__» ⟨[self,a],[("start",v)]⟩) λ_ R s=>s.TypeIs self "enumerate"/\R (.ok (.ret .none)) s:=by
 have hl:=F.called_enumerate.init.lookup;have hm:=F.called_enumerate.made;have hne:(some "enumerate.__new__" != some "object.__new__")=true:=by decide
 refine .of_wp λprog w A R s h=>?_
 obtain⟨hT,hq⟩:=h
 repeat (any_goals (first|wp_step|assumption))
 all_goals exact⟨_,rfl,hq⟩
section
variable {prog:Program}{w:World}{A:Around}{E:Value->Shared->Prop}{s:Shared}
theorem S3 {l:Addr} {items:Array Value} {m:Nat} {sl:Array (Option Value)} {t:Tok} {Q:Value->Shared->Prop} (hl:s.heap.get? l=some { cls:=.type "list",dict:=none,data:=.seq items m,slots:=sl })
  (h:Q (.ref (s.heap.objs.size+1)) { s with heap:=(s.heap.push { cls:=.type "list_iterator",data:=.fields #[.ref l,.int 0 0] }).push { cls:=.type "enumerate",data:=.fields #[.none,.bool false,.ref s.heap.objs.size,rawInt 1,.none,.none] } }) :
  wpAny (model prog w) A (call (.type "enumerate") [.ref l] [("start",.int 1 t)]) Q E s:=by
 have ft:=F.called_enumerate;obtain⟨c,tl,hmro⟩:=ft.mro;have hmade:=ft.made;have hsub:=ft.sub;have hct:=Wd (.ref l) (.int 1 t);refine eK (gZ (bG (?_:_/\_)));refine⟨fq _ (by decide +kernel),dP F.entry_type_call ?_⟩;rw[Around.under_plain (weight_type_call_type "enumerate" _ _) (units_type_call_type "enumerate" _ _)];have h1:=ft.notType;have h2:=ft.canCreate
 repeat (any_goals (first|wp_step|assumption))
 let s':Shared:={ s with heap:=(s.heap.push { cls:=.type "list_iterator",data:=.fields #[.ref l,.int 0 0] }).push { cls:=.type "enumerate",data:=.fields #[.none,.bool false,.ref s.heap.objs.size,rawInt 1,.none,.none] } }
 have key:codeAny (model prog w) A.in1 (.call (.builtin "enumerate.__new__") ⟨[.type "enumerate",.ref l],[("start",.int 1 t)]⟩) (λr s1=>r=.ok (.ret (.ref (s.heap.objs.size+1)))/\s1=s') s:=
  dw ft.plain F.entry_enumerate_new (ia (WJ _ _) (W3 l items m sl t prog w A.in1 (λr s1=>r=.ok (.ret (.ref (s.heap.objs.size+1)))/\s1=s') s ⟨hl,rfl,rfl⟩))
 refine dW key λr s₁ hr=>?_
 obtain⟨rfl,rfl⟩:=hr;have hz:(s.heap.push { cls:=.type "list_iterator",data:=.fields #[.ref l,.int 0 0] }).objs.size=s.heap.objs.size+1:=cT ..;have hT:s'.TypeIs (.ref (s.heap.objs.size+1)) "enumerate":=⟨_,by rw[<-hz];exact bR _ rfl,rfl⟩
 have hq:Q (.ref (s.heap.objs.size+1)) s':=h
 clear_value s'
 have hli:=ft.init.lookup;have hbi:=ft.init.bind (.ref (s.heap.objs.size+1));show wpAny _ _ _ _ _ _
 repeat (any_goals (first|wp_step|assumption))
 have key2:codeAny (model prog w) A.in1 (.call (.builtin "object.__init__") ⟨[.ref (s.heap.objs.size+1),.ref l],[("start",.int 1 t)]⟩) (λr s1=>r=.ok (.ret .none)/\s1=s') s':=
  dw ft.init.plain F.entry_object_init (ft.init.check _ _ _ _ _ _ _ _ hT (WN _ _ _) (Xf prog w A.in1 (λr s1=>r=.ok (.ret .none)/\s1=s') s' ⟨hT,rfl,rfl⟩))
 refine dW key2 λr s₂ hr=>?_
 obtain⟨rfl,rfl⟩:=hr;show wpAny _ _ _ _ _ _
 repeat (any_goals (first|wp_step|assumption))
theorem K7 (hh:A.handled=none)(it l:Addr)(hne:l≠it)(items:Array Value) :
  Draws prog w A it [it,l] (items.size+1) (λj v=>∃i,j=i+1/\items[i]?=some v) (λj h=>∃i,j=i+1/\h.IsListIter it l i/\h.IsList l items):=by
 have D:=Draws.list (prog:=prog) (w:=w) (A:=A) hh it l hne items;refine⟨λj h ⟨i,_,st⟩=>D.live i h st,λj h h' ⟨i,e,st⟩ hk=>⟨i,e,D.frame i h h' st hk⟩,λj s Q E hj ⟨i,e,st⟩ hQ=>?_,λs Q E ⟨i,e,st⟩ hE=>?_⟩
 ·subst e;exact D.item i s Q E (by omega) st λx h' tk hx st' hs=>hQ x h' tk ⟨i,rfl,hx⟩ ⟨i+1,rfl,st'⟩ hs
 ·have e':i=items.size:=by omega
  subst e';exact D.done s Q E st hE
end
section
variable {X:Cx}{pins:List (Addr×Obj)}{σ:St}{H:Hp}{s:Shared}{h':Heap}
theorem Inv.turned2 {t':Nat} {e it T:Addr} {xs:List V} {us:List Value} (I:Inv X pins σ H s) (fe:Ja X pins H e) (fi:Ja X pins H it) (k:∀b o,b≠e->b≠it->s.heap.get? b=some o->h'.get? b=some o)
  (hT:s.heap.objs.size<=T) (r:AF xs us) (hz:xs.length<=sizeLine) (ht:Lx (ZA xs) h' T us.toArray):Inv X pins σ (upd H T (.tup xs)) { s with heap:=h',toks:=t' }:=by
 obtain⟨e0,e1,e2,e3,e4,e5⟩:=fe;obtain⟨i0,i1,i2,i3,i4,i5⟩:=fi;have hn:H T=none:=I.hok.fresh hT;have nT:∀b o,s.heap.get? b=some o->b≠T:=λb o q=>cn (cB (bU q) hT)
 have kc:∀b o,b∉[e,it]->s.heap.get? b=some o->h'.get? b=some o:=λb o hb q=>k b o (λz=>hb (by simp[z])) (λz=>hb (by simp[z])) q
 have up:∀b u,H b=some u->upd H T (.tup xs) b=some u:=λb u q=>by rw[Ag (Ar q hn)];exact q
 refine I.step (g':=s.gens) (d':=s.drawn) (ch:=[e,it]) (λb hb=>?_) (λb o _ _ hc q _=>kc b o hc q) (λb o _ _ hc q _=>⟨o.slots,kc b o hc q⟩) (λb o _ q n=>by rw[Ag (nT b o q)];exact n)
  (λb o hc q=>⟨o,kc b o hc q⟩) (λb ys q=>up b _ q) (λb o u q=>up b _ q) (λb ps q=>⟨#[],by rw[up b _ q];simp⟩) (λm hm=>?_) (λb u q=>?_) I.bare
 ·rcases cf.mp hb with rfl|hb
  ·exact⟨e3,e1,e4,e5⟩
  ·rw[bS.mp hb];exact⟨i3,i1,i4,i5⟩
 ·obtain⟨o,es,ep,ho,hr⟩:=hm;exact⟨o,es,ep,k _ o (Ne.symm e1) (Ne.symm i1) ho,hr⟩
 ·by_cases hb:b=T
  ·subst hb;rw[Ae] at q;cases q;exact⟨hz,us,r,ht⟩
  ·rw[Ag hb] at q;have nn:∀c v,H c=some v->c≠e/\c≠it:=λc v z=>⟨λy=>(by rw[y,e0] at z;cases z),λy=>(by rw[y,i0] at z;cases z)⟩
   refine(I.hok b u q).stay (λc v hc z=>?_) (λc z=>up c _ z) λc ys z=>up c _ z
   rcases hc with y|y
   ·subst y;exact k c v (nn c u q).1 (nn c u q).2 z
   ·exact k c v (nn c _ y).1 (nn c _ y).2 z
theorem Inv.turned2n {t':Nat}{e it:Addr}(I:Inv X pins σ H s)(fe:Ja X pins H e)(fi:Ja X pins H it)(k:∀b o,b≠e->b≠it->s.heap.get? b=some o->h'.get? b=some o):Inv X pins σ H { s with heap:=h',toks:=t' }:=by
 obtain⟨e0,e1,e2,e3,e4,e5⟩:=fe;obtain⟨i0,i1,i2,i3,i4,i5⟩:=fi;have kc:∀b o,b∉[e,it]->s.heap.get? b=some o->h'.get? b=some o:=λb o hb q=>k b o (λz=>hb (by simp[z])) (λz=>hb (by simp[z])) q
 refine I.step (g':=s.gens) (d':=s.drawn) (ch:=[e,it]) (λb hb=>?_) (λb o _ _ hc q _=>kc b o hc q) (λb o _ _ hc q _=>⟨o.slots,kc b o hc q⟩) (λb o _ q n=>n)
  (λb o hc q=>⟨o,kc b o hc q⟩) (λb ys q=>q) (λb o u q=>q) (λb ps q=>⟨#[],by rw[q];simp⟩) (λm hm=>?_) (λb u q=>?_) I.bare
 ·rcases cf.mp hb with rfl|hb
  ·exact⟨e3,e1,e4,e5⟩
  ·rw[bS.mp hb];exact⟨i3,i1,i4,i5⟩
 ·obtain⟨o,es,ep,ho,hr⟩:=hm;exact⟨o,es,ep,k _ o (Ne.symm e1) (Ne.symm i1) ho,hr⟩
 ·have nn:∀c v,H c=some v->c≠e/\c≠it:=λc v z=>⟨λy=>(by rw[y,e0] at z;cases z),λy=>(by rw[y,i0] at z;cases z)⟩
  refine(I.hok b u q).stay (λc v hc z=>?_) (λc z=>z) λc ys z=>z
  rcases hc with y|y
  ·subst y;exact k c v (nn c u q).1 (nn c u q).2 z
  ·exact k c v (nn c _ y).1 (nn c _ y).2 z
end
def YM (K:PySem.W.Frag)(a:Addr):It:=
 ⟨λi H=>∃xs x,AQ K H a xs/\xs[i]?=some x,λi H v H'=>∃T x,H T=none/\v=.ref T/\(∀xs,AQ K H a xs->xs[i]?=some x)/\H'=upd H T (.tup [.int ((i:Int)+1),x]),λi H=>∃xs,AQ K H a xs/\xs.length=i⟩
theorem Tt {P:Program}{w:World}{K:PySem.W.Frag}{els:List Expr}{kk:Nat}{pp:Pos}(a e it:Addr)(hei:e≠it):Turn P w K (.Tuple els kk pp) (YM K a) [e,it] e (λi h=>(∃old,IsEnum h e it ((i:Int)+1) old)/\h.IsListIter it a i) where
 mem:=by simp
 obj:=λi h st b hb=>by
  obtain⟨⟨old,he⟩,o,ho,_,hd⟩:=st;rcases cf.mp hb with rfl|hb
  ·exact⟨_,he,λv z=>by cases z⟩
  ·rw[bS.mp hb];exact⟨o,ho,λv z=>by rw[hd] at z;cases z⟩
 keep:=λi h h' st hk=>by
  obtain⟨⟨old,he⟩,o,ho,r⟩:=st;exact⟨⟨old,hk e (by simp) _ he⟩,o,hk it (by simp) o ho,r⟩
 item:=λX hP hw hK hc i pins s σ H E I hf st hg=>by
  subst hP hw hK;obtain⟨xs,x,hq,hx⟩:=hg;obtain⟨its,rv,p,hz⟩:=I.list hq;obtain⟨⟨old,he⟩,hit⟩:=st;have fe:=hf e (by simp);have fi:=hf it (by simp);obtain⟨u,hu,ru⟩:=rv.get hx;have il:=p.isList;have nae:a≠e:=λz=>by
   obtain⟨o,ho,c1,_⟩:=il;rw[z,he] at ho;cases ho;injection c1 with y;exact absurd y (by decide)
  have nai:a≠it:=λz=>by
   obtain⟨o,ho,c1,_⟩:=il;obtain⟨o2,ho2,c2,_⟩:=hit;rw[z,ho2] at ho;cases ho;rw[c2] at c1;injection c1 with y;exact absurd y (by decide)
  have W:=gM (prog:=X.prog) (w:=X.w) (A:=X.A) (K7 (prog:=X.prog) (w:=X.w) (A:=X.A.in1) (I.ok.hd hc) it a nai its.toArray) e hei (by simp[hei,Ne.symm nae]) (by simp);refine W.item (i+1) s _ E (by have:=(bT.mp hu).1;simp;omega) ⟨⟨old,by simpa using he⟩,i,rfl,hit,il⟩ λT vals h1 tk ⟨t,y,⟨i',ei,hy⟩,ev⟩ hT htu hm hk=>?_
  refine⟨.ref T,rfl,W.go els kk pp (i+1) T _ _ E hm λh2 st2 hk2=>?_⟩;obtain⟨⟨old2,he2⟩,i2,e2,hit2,_⟩:=st2;have e3:i'=i:=by omega
  have e4:i2=i+1:=by omega
  subst e3 e4 ev;have ey:y=u:=by
   have q1:its.toArray[i']?=some u:=by simpa using hu
   exact bO (hy.symm.trans q1)
  subst ey;have hTw:T∉[e,it]:=W.apart _ _ _ hm;have ht2:Lx true h2 T #[.int ((i':Int)+1) t,y]:=by
   obtain⟨o,ho,c,m,d⟩:=htu;exact⟨o,hk2 T o hTw ho,c,m,d,λz=>nomatch z⟩
  refine⟨.ref T,upd H T (.tup [.int ((i':Int)+1),x]),?_,rfl,⟨T,x,I.hok.fresh hT,rfl,λzs hzs=>(by rw[I.list_inj hzs hq];exact hx),rfl⟩,⟨⟨old2,by simpa using he2⟩,hit2⟩,λb hb=>?_⟩
  ·have I2:=I.turned2 (h':=h2) (t':=tk) (xs:=[.int ((i':Int)+1),x]) (us:=[.int ((i':Int)+1) t,y]) fe fi (λb o b1 b2 q=>hk2 b o (by simp[b1,b2]) (hk b o (by simp[b1,b2]) q)) hT (.cons ⟨_,rfl⟩ (.cons ru .nil)) (by show 2<=sizeLine;decide) ht2;exact I2
  ·have nb:b≠T:=λz=>hTw (z▸hb)
   rw[Ag nb];exact(hf b hb).1
 done:=λX hP hw hK hc i pins s σ H E I hf st hg=>by
  subst hP hw hK;obtain⟨xs,hq,hx⟩:=hg;obtain⟨its,rv,p,hz⟩:=I.list hq;obtain⟨⟨old,he⟩,hit⟩:=st;have fe:=hf e (by simp);have fi:=hf it (by simp);have il:=p.isList;have nae:a≠e:=λz=>by
   obtain⟨o,ho,c1,_⟩:=il;rw[z,he] at ho;cases ho;injection c1 with y;exact absurd y (by decide)
  have nai:a≠it:=λz=>by
   obtain⟨o,ho,c1,_⟩:=il;obtain⟨o2,ho2,c2,_⟩:=hit;rw[z,ho2] at ho;cases ho;rw[c2] at c1;injection c1 with y;exact absurd y (by decide)
  have W:=gM (prog:=X.prog) (w:=X.w) (A:=X.A) (K7 (prog:=X.prog) (w:=X.w) (A:=X.A.in1) (I.ok.hd hc) it a nai its.toArray) e hei (by simp[hei,Ne.symm nae]) (by simp);have el:its.toArray.size+1=i+1:=by rw[cq,<-rv.length,hx]
  refine W.done s _ E (by rw[el];exact⟨⟨old,by simpa using he⟩,i,rfl,hit,il⟩) λh' tk hk=>⟨rfl,?_⟩
  exact I.turned2n (h':=h') (t':=tk) fe fi λb o b1 b2 q=>hk b o (by simp[b1,b2]) q
 self:=λA i s Q E st h=>by
  obtain⟨⟨old,he⟩,_⟩:=st;exact gK he h
theorem Rh {M:Model} {A:Around} {E:Value->Shared->Prop} {s:Shared} {pos:Pos} {T:String} {args:List (Bool×Sem Value)} {kws:List (Option Str×Sem Value)} {Q:Value->Shared->Prop} (hp:args.any (·.1)=false) (hk:kws.any (·.1.isNone)=false)
  (h:wpAny M A (evalArgs (.type T) true args kws) (λz sz=>wpAny M A (call (.type T) z.pos z.kw) Q E sz) E s):wpAny M A (callWith pos (.type T) [] args kws) Q E s:=by
 unfold callWith;refine bD (cK (cD h (λz sz hz=>bD (fg ?_)) λ_ _ y=>y));simp only[hp,hk,Bool.or_false];refine bD (bG (bD (cD hz (λv sv hv=>bD (cK (wpAny_point (bG hv)))) λ_ _ y=>y)))
section
variable {X:Cx}{els:List Expr}{kk:Nat}{pp:Pos}
def ZU (K:PySem.W.Frag)(ta:TA):TI:=λσ H R=>ta σ H λvs H1=>∃a xs,vs=[.ref a]/\AQ K H1 a xs/\R (YM K a) H1
theorem WL {l:Expr} {ta:TA} {p pos kp cp:Pos} {j} (hg:Gl X "enumerate") (hm:X.mg "enumerate"=none) (ha:PA X [l] ta)
  (he:backTo pos (starEach [l] X.env)=(false,eval l X.env)::backTo pos (starEach [] X.env):=by rfl)
  (hpl:(backTo pos (starEach [l] X.env)).any (·.1)=false:=by rfl) :
  PI X (.Tuple els kk pp) (.Call (.Name "enumerate" p) [l] [⟨some "start",.Constant (.int 1) j cp,kp⟩] pos) (ZU X.K ta):=by
 intro pins s σ H R I h;refine dF (Jt I hg hm J8 (Rh hpl rfl ?_));have hsp:=ha pos pins s σ H _ I h;rw[he] at hsp ⊢;refine evalArgs_kwB rfl (A7 hsp λus s1 ⟨vs,H1,I1,r1,q1⟩=>?_);refine kws_cons (iu (kws_nil ?_));obtain⟨a,xs,rfl,hq,q⟩:=q1;obtain⟨u,rfl,ru⟩:=vals1 r1;cases ru;have I2:=I1.tok (s1.toks+1);obtain⟨its,rv,⟨⟨oc,od,odt,sl⟩,m,pl,c1,c2,c3⟩,hz⟩:=I2.list hq;simp only at c1 c2 c3;subst c1 c2 c3;refine S3 (items:=its.toArray) (m:=m) (sl:=sl) pl ?_;have hs:(s1.heap.push { cls:=.type "list_iterator",data:=.fields #[.ref a,.int 0 0] }).objs.size=s1.heap.objs.size+1:=cT ..;have hE:IsEnum ((s1.heap.push { cls:=.type "list_iterator",data:=.fields #[.ref a,.int 0 0] }).push { cls:=.type "enumerate",data:=.fields #[.none,.bool false,.ref s1.heap.objs.size,rawInt 1,.none,.none] }) (s1.heap.objs.size+1) s1.heap.objs.size 1 .none:=by
  rw[<-hs];exact bR _ rfl
 refine gK hE ?_;refine⟨s1.heap.objs.size+1,[s1.heap.objs.size+1,s1.heap.objs.size],_,YM X.K a,H1,rfl,I2.kept (t':=s1.toks+1) λb o e=>bH _ (bH _ e),Tt a (s1.heap.objs.size+1) s1.heap.objs.size (ik _),⟨⟨_,hE⟩,_,bH _ (bR _ rfl),rfl,rfl⟩,λb hb=>?_,q⟩;rcases cf.mp hb with rfl|hb
 ·exact I2.fpOk (eC _) (I2.hok.fresh (eC _))
 ·rw[bS.mp hb];exact I2.fpOk (bI _) (I2.hok.fresh (bI _))
end
theorem Zq {K:PySem.W.Frag} {a:Addr} {xs:List V} {g:TG} {tb:TS} {D:Ends} {σ:St} {H:Hp} (Pv:Nat->St->Hp->Prop) (h0:Pv 0 σ H) (hl:∀(i:Nat) (σ:St) (H:Hp),i<=xs.length->Pv i σ H->AQ K H a xs)
  (turn:∀(i:Nat) (x:V) (σ:St) (H:Hp) (T:Addr),xs[i]?=some x->Pv i σ H->H T=none->g (.ref T) σ (upd H T (.tup [.int ((i:Int)+1),x])) λσ2 H2=>tb { nx:=Pv (i+1),rt:=D.rt,bk:=D.nx,ct:=Pv (i+1) } σ2 H2)
  (done:∀(σ:St) (H:Hp),Pv xs.length σ H->D.nx σ H) :
  ∃W:Nat->Nat->St->Hp->Prop,(∃m,W 0 m σ H)/\∀i m σ H,W i m σ H->
   ((YM K a).stop i H/\D.nx σ H)\/((YM K a).go i H/\∃N:St->Hp->Prop,(∀σ' H',N σ' H'->∃m',m'<m/\W (i+1) m' σ' H')/\∀x H',(YM K a).yld i H x H'->g x σ H' λσ2 H2=>tb { D with nx:=N,ct:=N,bk:=D.nx } σ2 H2):=by
 refine⟨λi m σ H=>m=xs.length-i/\i<=xs.length/\Pv i σ H,⟨_,rfl,cE _,h0⟩,?_⟩
 rintro i m σ H ⟨rfl,hi,hp⟩
 by_cases hlt:i<xs.length
 ·refine .inr ⟨⟨xs,xs[i],hl i σ H hi hp,by simp[hlt]⟩,Pv (i+1),λσ' H' hn=>⟨xs.length-(i+1),by omega,rfl,hlt,hn⟩,?_⟩
  rintro x H' ⟨T,y,hT,rfl,hy,rfl⟩
  exact turn i y σ H T (hy xs (hl i σ H hi hp)) hp hT
 ·have e:i=xs.length:=by omega
  subst e;exact .inl ⟨⟨xs,hl _ σ H hi hp,rfl⟩,done σ H hp⟩
theorem SO {K:PySem.W.Frag} {a:Addr} {xs:List V} {fr:List (Option Nat)} {i0 i1:Nat} {n:Nat} {te:TE} {Q:VK} {σ:St} {H:Hp} (f:Nat->V->V) (h1:H a=some (.lst xs)) (hn:xs.length<=1000000) (h2:n=2)
  (helt:∀(i:Nat) (x:V) (H':Hp) (R:VK),xs[i]?=some x->An H H'->(∀H'',An H' H''->R (f i x) H'')->te (((stC fr σ).set i0 (some (.int ((i:Int)+1)))).set i1 (some x)) H' R) (hne:i0≠i1)
  (hQ:∀l H',H l=none->An H H'->H' l=some (.lst ((List.range xs.length).map λi=>f i (xs.getD i .non)))->Q (.ref l) H') :
  GQ fr (X8 K n (Ub (FA i0) (Ub (FA i1) Z9))) Va te σ Q (YM K a) H:=by
 intro l hl;have hal:a≠l:=Ar h1 hl;refine⟨λi m σ' H'=>m=xs.length-i/\i<=xs.length/\(∀y z,(σ'.set i0 y).set i1 z=((stC fr σ).set i0 y).set i1 z)/\An H H'/\H' l=some (.lst ((List.range i).map λi=>f i (xs.getD i .non))),⟨xs.length,by simp,cE _,λ_ _=>rfl,Am hl _,by rw[Ae];rfl⟩,?_⟩
 rintro i m σ' H' ⟨rfl,hi,hσ,hs,hl'⟩
 have ha':=hs.get h1
 by_cases hlt:i<xs.length
 ·refine .inr ⟨⟨xs,xs[i],AQ.of ha',by simp[hlt]⟩,?_⟩
  rintro x H'' ⟨T,y,hT,rfl,hy,rfl⟩
  have hyi:=hy xs (AQ.of ha');have st:=Am hT (.tup [.int ((i:Int)+1),y]);subst h2;refine⟨T,_,rfl,AS.of Ae,rfl,_,_,rfl,_,_,rfl,rfl,?_⟩;show te ((σ'.set i0 (some (.int ((i:Int)+1)))).set i1 (some y)) _ _;rw[hσ];refine helt i y _ _ hyi (hs.trans st) λH4 s4=>?_
  refine⟨_,s4.get (st.get hl'),BU (by rw[bE,df];omega),xs.length-(i+1),by omega,rfl,hlt,λy z=>?_,BV ((hs.trans st).trans s4) hl _,?_⟩
  ·rw[List.set_comm _ _ (Ne.symm hne),fm,fm]
  ·rw[Ae,List.range_succ,cg];simp[List.getD,hyi]
 ·have e:i=xs.length:=by omega
  subst e;exact .inl ⟨⟨xs,AQ.of ha',rfl⟩,hQ l H' hl hs hl'⟩
theorem JR {X:Cx}{K:PySem.W.Frag}{pos:Pos}{es:List Expr}{k:Nat}{t:Xr}{n:Nat}(hK:X.K=K)(hc:X.calm=true)(h:Y6 X es t)(hn:(assignEach es X.env).length=n:=by rfl)(hs:(assignEach es X.env).findIdx? (·.1)=none:=by rfl):PG X (.Tuple es k pos) (X8 K n t):=by
 subst hK;exact Pn hc h hn hs
theorem Up {xs:List V}:FI xs none (some (-1))=xs.dropLast:=by
 unfold FI HT.CD;rw[List.dropLast_eq_take];simp only[List.drop_zero,Nat.sub_zero];rw[bV (by decide)]
 congr 1
 omega
section
variable {κ:Type}[DecidableEq κ]
def BO (kvs:List (κ×V))(k:κ):Option V:=(kvs.find? λkv=>decide (kv.1=k)).map (·.2)
def putK (kvs:List (κ×V))(k:κ)(v:V):List (κ×V):=
 if(kvs.any λkv=>decide (kv.1=k))=true then kvs.map (λkv=>if kv.1=k then(kv.1,v) else kv) else kvs++[(k,v)]
def JV (kvs:List (κ×V))(k:κ):List (κ×V):=kvs.filter λkv=>decide (kv.1≠k)
theorem GL {p:κ×V}{r:List (κ×V)}{k:κ}(e:p.1=k):BO (p::r) k=some p.2:=by simp[BO,List.find?_cons,e]
theorem GF {p:κ×V}{r:List (κ×V)}{k:κ}(e:¬p.1=k):BO (p::r) k=BO r k:=by simp[BO,List.find?_cons,e]
theorem Mg (k:κ):∀kvs:List (κ×V),(kvs.any λkv=>decide (kv.1=k))=(BO kvs k).isSome
 |[]=>rfl
 |p::r=>by
  rw[dO]
  by_cases e:p.1=k
  ·simp only[GL e,decide_eq_true e,Bool.true_or,Option.isSome_some]
  ·rw[GF e,bL e,Bool.false_or];exact Mg k r
theorem HM (kvs:List (κ×V))(k:κ)(v:V):(putK kvs k v).length<=kvs.length+1:=by
 unfold putK
 split
 ·rw[bE];omega
 ·rw[bW,cN,List.length_nil];omega
theorem Kn {kvs:List (κ×V)}{k:κ}(v:V)(h:BO kvs k=none):putK kvs k v=kvs++[(k,v)]:=by
 unfold putK;rw[Mg,h];exact bP (by decide)
theorem FB.isSome_eq {o:Option V}{u:Option Value}(r:FB o u):o.isSome=u.isSome:=by
 cases o with
 |none=>cases u with
  |none=>rfl
  |some _=>exact(show False from r).elim
 |some _=>cases u with
  |none=>exact(show False from r).elim
  |some _=>rfl
theorem FB.getD {o:Option V}{u:Option Value}{d:V}{d':Value}(r:FB o u)(rd:RelV d d'):RelV (o.getD d) (u.getD d'):=by
 cases o with
 |none=>cases u with
  |none=>exact rd
  |some _=>exact(show False from r).elim
 |some _=>cases u with
  |none=>exact(show False from r).elim
  |some _=>exact r
theorem KV.val {kvs:List (κ×V)}{vs:List (κ×Value)}(r:KV kvs vs)(k:κ):FB (BO kvs k) (valueAt vs k):=by
 unfold KV at r
 induction r with
 |nil=>exact True.intro
 |@cons p q ps qs h t ih=>
  obtain⟨h1,h2⟩:=h
  by_cases e:p.1=k
  ·have e':q.1=k:=h1.symm.trans e;have b:valueAt (q::qs) k=some q.2:=by simp[valueAt,List.find?_cons,e']
   rw[GL e,b];exact h2
  ·have e':¬q.1=k:=λz=>e (h1.trans z)
   have b:valueAt (q::qs) k=valueAt qs k:=by simp[valueAt,List.find?_cons,e']
   rw[GF e,b];exact ih
theorem KV.any {kvs:List (κ×V)}{vs:List (κ×Value)}(r:KV kvs vs)(k:κ):(kvs.any λkv=>decide (kv.1=k))=vs.any λkv=>decide (kv.1=k):=by
 unfold KV at r
 induction r with
 |nil=>rfl
 |cons h t ih=>rw[dO,dO,ih,h.1]
theorem KV.repl {kvs:List (κ×V)}{vs:List (κ×Value)}(r:KV kvs vs)(k:κ){y:V}{u:Value}(ry:RelV y u) :
  KV (kvs.map λkv=>if kv.1=k then(kv.1,y) else kv) (vs.map λkv=>if kv.1=k then(kv.1,u) else kv):=by
 unfold KV at r ⊢
 induction r with
 |nil=>exact .nil
 |@cons p q ps qs h t ih=>
  rw[bX,bX];refine .cons ?_ ih;obtain⟨h1,h2⟩:=h
  by_cases e:p.1=k
  ·rw[bV e,bV (h1.symm.trans e)];exact⟨h1,ry⟩
  ·rw[bP e,bP (λz=>e (h1.trans z))];exact⟨h1,h2⟩
theorem KV.put {kvs:List (κ×V)}{vs:List (κ×Value)}(r:KV kvs vs)(k:κ){y:V}{u:Value}(ry:RelV y u):KV (putK kvs k y) (stored vs k u):=by
 unfold putK stored;rw[r.any k]
 by_cases e:(vs.any λkv=>decide (kv.1=k))=true
 ·rw[bV e,bV e];exact r.repl k ry
 ·rw[bP e,bP e];exact iM r ⟨rfl,ry⟩
theorem KV.drop {kvs:List (κ×V)}{vs:List (κ×Value)}(r:KV kvs vs)(k:κ):KV (JV kvs k) (without vs k):=by
 unfold KV at r ⊢;unfold JV without
 induction r with
 |nil=>exact .nil
 |@cons p q ps qs h t ih=>
  obtain⟨h1,h2⟩:=h;rw[eV,eV]
  by_cases e:p.1=k
  ·have a:¬decide (p.1≠k)=true:=by simp[e]
   have b:¬decide (q.1≠k)=true:=by simp[h1.symm.trans e]
   rw[bP a,bP b];exact ih
  ·have e':¬q.1=k:=λz=>e (h1.trans z)
   have a:decide (p.1≠k)=true:=by simp[e]
   have b:decide (q.1≠k)=true:=by simp[e']
   rw[bV a,bV b];exact .cons ⟨h1,h2⟩ ih
theorem KV.keys {kvs:List (κ×V)}{vs:List (κ×Value)}(r:KV kvs vs):kvs.map (·.1)=vs.map (·.1):=by
 unfold KV at r
 induction r with
 |nil=>rfl
 |cons h t ih=>rw[bX,bX,ih,h.1]
theorem KV.length {kvs:List (κ×V)}{vs:List (κ×Value)}(r:KV kvs vs):kvs.length=vs.length:=dY r
theorem P9 (kvs:List (κ×V))(k:κ):(JV kvs k).length<=kvs.length:=eG _ _
end
theorem Iu {P:Program}{w:World}{k:Key}{u:Value}(r:RelV (kV k) u):(AJ P w).is k u=true:=by
 cases k with
 |inl i=>obtain⟨t,e⟩:=(show ∃t,u=Value.int i t from r);subst e;exact K1 P w i t
 |inr x=>obtain⟨t,e⟩:=(show ∃t,u=Value.str x t from r);subst e;exact La P w x t
theorem N0 {P:Program}{w:World}:∀{ks:List Key} {us:List Value},AF (ks.map kV) us->ItemsAre (AJ P w) ks us
 |[],_,r=>by rw[fU] at r;cases r;exact .nil
 |k::ks,_,r=>by
  rw[bX] at r;cases r with
  |cons h t=>exact .cons (Iu h) (N0 t)
abbrev KT (H:Hp):List (List Key×V)->List (List Key×Addr×Value)->Prop:=Paired λp q=>p.1=q.1/\H q.2.1=some (.tup (p.1.map kV))/\RelV p.2 q.2.2
theorem KT.val {H:Hp}{kvs:List (List Key×V)}{xs:List (List Key×Addr×Value)}(r:KT H kvs xs)(k:List Key):FB (BO kvs k) ((atKey xs k).map (·.2)):=by
 induction r with
 |nil=>exact True.intro
 |@cons p q ps qs h t ih=>
  obtain⟨h1,_,h2⟩:=h
  by_cases e:p.1=k
  ·have e':q.1=k:=h1.symm.trans e;have b:atKey (q::qs) k=some q.2:=by simp[atKey,List.find?_cons,e']
   rw[GL e,b];exact h2
  ·have e':¬q.1=k:=λz=>e (h1.trans z)
   have b:atKey (q::qs) k=atKey qs k:=by simp[atKey,List.find?_cons,e']
   rw[GF e,b];exact ih
theorem KT.repl {H:Hp}{kvs:List (List Key×V)}{xs:List (List Key×Addr×Value)}(r:KT H kvs xs)(k:List Key){y:V}{u:Value}(ry:RelV y u) :
  KT H (kvs.map λkv=>if kv.1=k then(kv.1,y) else kv) (xs.map (putAt k u)):=by
 induction r with
 |nil=>exact .nil
 |@cons p q ps qs h t ih=>
  rw[bX,bX];refine .cons ?_ ih;obtain⟨h1,h2,h3⟩:=h;unfold putAt
  by_cases e:p.1=k
  ·rw[bV e,bV (h1.symm.trans e)];exact⟨h1,h2,ry⟩
  ·rw[bP e,bP (λz=>e (h1.trans z))];exact⟨h1,h2,h3⟩
theorem KT.put {H:Hp}{kvs:List (List Key×V)}{xs:List (List Key×Addr×Value)}(r:KT H kvs xs)(k:List Key){b:Addr}{y:V}{u:Value}(hb:H b=some (.tup (k.map kV)))(ry:RelV y u) :
  KT H (putK kvs k y) (storedH xs k b u):=by
 have e:(kvs.any λkv=>decide (kv.1=k))=(atKey xs k).isSome:=by
  rw[Mg,(r.val k).isSome_eq,Option.isSome_map]
 unfold putK storedH;rw[e]
 by_cases q:(atKey xs k).isSome=true
 ·rw[bV q,bV q];exact r.repl k ry
 ·rw[bP q,bP q];exact iM r ⟨rfl,hb,ry⟩
theorem KT.keeps {H H':Hp}{kvs:List (List Key×V)}{xs:List (List Key×Addr×Value)}(r:KT H kvs xs)(ht:∀b ys,H b=some (.tup ys)->H' b=some (.tup ys)):KT H' kvs xs:=
 Paired.mapP r λ_ _ z=>⟨z.1,ht _ _ z.2.1,z.2.2⟩
section
variable {P:Program}{w:World}{H:Hp}{h:Heap}{a:Addr}
theorem Xv {u:HO}(ok:Jc P w H h)(e:Rd H a u):AX P w H h a u:=e.ok ok
theorem MJ {kvs:List (Key×V)}(ok:Jc P w H h)(e:Rd H a (.dK kvs)):kvs.length<=sizeLine/\(a == sysModules)=false/\∃vs,KV kvs vs/\h.DictOf (AJ P w) a vs:=
 show AX P w H h a (.dK kvs) from Xv ok e
theorem NY {kvs:List (Key×V)}(ok:Jc P w H h)(e:H a=some (.dK kvs)):kvs.length<=sizeLine/\(a == sysModules)=false/\∃vs,KV kvs vs/\h.DictOf (AJ P w) a vs:=MJ ok (.inl e)
theorem KD {ks:List Key}(ok:Jc P w H h)(e:H a=some (.tup (ks.map kV))):(tupleKind (AJ P w)).is h ks a:=by
 obtain⟨_,its,r,o,h1,h2,n,h3⟩:=(show AX P w H h a (.tup (ks.map kV)) from ok a _ e)
 exact⟨o,its.toArray,n,h1,h2,h3.1,by simpa using N0 r⟩
theorem Mi {kvs:List (List Key×V)}(ok:Jc P w H h)(e:Rd H a (.dT kvs)):kvs.length<=sizeLine/\(a == sysModules)=false/\
  ∃xs,KT H kvs xs/\h.DictOfH (tupleKind (AJ P w)) a xs:=by
 obtain⟨z,y,xs,r,o,es,ep,h1,h2,h3,h4,h5⟩:=(show AX P w H h a (.dT kvs) from Xv ok e)
 refine⟨z,y,xs,r,o,es,ep,h1,h2,h3,h4,λx hx=>?_,h5⟩;have all:∀{l:List (List Key×V)} {m:List (List Key×Addr×Value)},KT H l m->∀x∈m,(tupleKind (AJ P w)).is h x.1 x.2.1:=by
  intro l m q
  induction q with
  |nil=>intro x hx;exact nomatch hx
  |@cons p q ps qs hq t ih=>
   intro x hx;rcases cf.mp hx with e|hx
   ·subst e;exact KD ok (by rw[<-hq.1];exact hq.2.1)
   ·exact ih x hx
 exact all r x hx
theorem Zz {kvs:List (List Key×V)}(ok:Jc P w H h)(e:H a=some (.dT kvs)):kvs.length<=sizeLine/\(a == sysModules)=false/\
  ∃xs,KT H kvs xs/\h.DictOfH (tupleKind (AJ P w)) a xs:=Mi ok (.inl e)
end
def ED (H:Hp)(a:Addr)(y:V)(r:Option V):Prop:=
 (∃kvs k,Rd H a (.dK kvs)/\y=kV k/\r=BO kvs k)\/∃kvs k b,Rd H a (.dT kvs)/\y=.ref b/\H b=some (.tup (k.map kV))/\r=BO kvs k
def Pf (H:Hp)(a:Addr)(y v:V)(H':Hp):Prop:=
 (∃kvs k,H a=some (.dK kvs)/\y=kV k/\kvs.length<sizeLine/\H'=upd H a (.dK (putK kvs k v)))\/
 ∃kvs k b,H a=some (.dT kvs)/\y=.ref b/\H b=some (.tup (k.map kV))/\kvs.length<sizeLine/\H'=upd H a (.dT (putK kvs k v))
theorem ED.k {H:Hp}{a:Addr}{kvs:List (Key×V)}{k:Key}(e:H a=some (.dK kvs)):ED H a (kV k) (BO kvs k):=.inl ⟨kvs,k,.inl e,rfl,rfl⟩
theorem Pf.k {H:Hp}{a:Addr}{kvs:List (Key×V)}{k:Key}{v:V}(e:H a=some (.dK kvs))(hl:kvs.length<sizeLine):Pf H a (kV k) v (upd H a (.dK (putK kvs k v))):=.inl ⟨kvs,k,e,rfl,hl,rfl⟩
section
variable {X:Cx}{pins:List (Addr×Obj)}{σ:St}{H:Hp}{s:Shared}{a:Addr}{y v:V}{u r:Value}{o:Option V}{A:Around}{E:Value->Shared->Prop}
theorem Inv.big (I:Inv X pins σ H s):sysModules<s.heap.objs.size:=by
 have h:mainGlobals<s.heap.objs.size:=(I.mod.glob.keeps I.bk).lt;exact Nat.lt_trans (by decide) h
theorem TZ {Q:Value->Shared->Prop}(hu:A.units+1<cLine)(I:Inv X pins σ H s)(g:ED H a y (some v))(ry:RelV y u)(h:∀w' s',Inv X pins σ H s'->RelV v w'->Q w' s') :
  wpAny (model X.prog X.w) A (getItem (.ref a) u) Q E s:=by
 rcases g with⟨kvs,k,e,ey,l⟩|⟨kvs,k,b,e,ey,eb,l⟩
 ·subst ey;obtain⟨z,hd,vs,rel,dd⟩:=MJ I.hok e;obtain⟨w',hw,rw'⟩:=FB.some_of (v:=v) (o:=valueAt vs k) (by rw[l];exact rel.val k);exact wpAny_getItem_of (Iu ry) dd.mapOf hw (h w' _ (I.tok _) rw')
 ·subst ey;cases(show u=Value.ref b from ry);obtain⟨z,hd,xs,rel,dd⟩:=Mi I.hok e;obtain⟨w',hw,rw'⟩:=FB.some_of (v:=v) (o:=(atKey xs k).map (·.2)) (by rw[l];exact rel.val k);obtain⟨p,hp,hp2⟩:=cm.mp hw;refine wpAny_getItem_heap (fo hu) (KD I.hok eb) dd hp ?_;rw[hp2];exact h w' _ (I.tok _) rw'
theorem aq {Q:Value->Shared->Prop}(hu:A.units+1<cLine)(I:Inv X pins σ H s)(g:ED H a y o)(ry:RelV y u)(h:∀s',Inv X pins σ H s'->Q (.bool o.isSome) s') :
  wpAny (model X.prog X.w) A (compareOp .In u (.ref a)) Q E s:=by
 rcases g with⟨kvs,k,e,ey,l⟩|⟨kvs,k,b,e,ey,eb,l⟩
 ·subst ey;obtain⟨z,hd,vs,rel,dd⟩:=MJ I.hok e;refine wpAny_in_of (Iu ry) hd dd.mapOf ?_;rw[<-(rel.val k).isSome_eq,<-l];exact h _ (I.tok _)
 ·subst ey;cases(show u=Value.ref b from ry);obtain⟨z,hd,xs,rel,dd⟩:=Mi I.hok e;refine wpAny_in_heap (fo hu) (KD I.hok eb) hd dd ?_;have q:=(rel.val k).isSome_eq;rw[Option.isSome_map] at q;rw[<-q,<-l];exact h _ (I.tok _)
theorem G8 {h':Heap}{t':Nat}{ob:HO}(I:Inv X pins σ H s)(mu:Zw (H a))(hs:Heap.SameBut a s.heap h')(he:∃q,h'.get? a=some q)(new:AX X.prog X.w (upd H a ob) h' a ob) :
  Inv X pins σ (upd H a ob) { s with heap:=h',toks:=t' }:=
 I.write (x:=a) (e:=a) mu (.inl rfl) (λb q hb z=>(hs.2 b hb).trans z) he new
theorem MF {P:Program}{w:World}{H':Hp}{h':Heap}{kvs:List (Key×V)}{vs:List (Key×Value)}(z:kvs.length<=sizeLine)(hd:(a == sysModules)=false)(rel:KV kvs vs)(dd:h'.DictOf (AJ P w) a vs) :
  AX P w H' h' a (.dK kvs):=⟨z,hd,vs,rel,dd⟩
theorem Ta {H':Hp}{Q:Unit->Shared->Prop}(hu:A.units+1<cLine)(I:Inv X pins σ H s)(g:Pf H a y v H')(ry:RelV y u)(rv:RelV v r)(h:∀s',Inv X pins σ H' s'->Q () s') :
  wpAny (model X.prog X.w) A (setItem (.ref a) u r) Q E s:=by
 rcases g with⟨kvs,k,e,ey,l,eH⟩|⟨kvs,k,b,e,ey,eb,l,eH⟩
 ·subst ey eH;obtain⟨z,hd,vs,rel,dd⟩:=NY I.hok e;have hz:vs.length<=sizeLine:=by rw[<-rel.length];exact z
  have hl:(putK kvs k v).length<=sizeLine:=by have:=HM kvs k v;omega
  refine wpAny_setItem_pairs (hsz:=hz) (Iu ry) dd λh' dd' hs=>h _ ?_
  have he:∃q,h'.get? a=some q:=let⟨q,_,_,hq,_⟩:=dd';⟨q,hq⟩;exact G8 I (by rw[e];exact True.intro) hs he (MF hl hd (rel.put k rv) dd')
 ·subst ey eH;cases(show u=Value.ref b from ry);obtain⟨z,hd,xs,rel,dd⟩:=Zz I.hok e;have hz:xs.length<=sizeLine:=by rw[<-dY rel];exact z
  have hl:(putK kvs k v).length<=sizeLine:=by have:=HM kvs k v;omega
  refine wpAny_setItem_heap (hsz:=hz) (fo hu) (KD I.hok eb) dd λh' dd' hs=>h _ ?_
  obtain⟨q,es,ep,hq,h2,h3,h4,_,h5⟩:=dd';refine G8 I (by rw[e];exact True.intro) hs ⟨q,hq⟩ ⟨hl,hd,_,(rel.put k eb rv).keeps λc ys ec=>?_,q,es,ep,hq,h2,h3,h4,h5⟩;rw[Ag (AK ec e (λz=>nomatch z))];exact ec
end
section
variable {X:Cx}{pins:List (Addr×Obj)}{σ:St}{H:Hp}{s:Shared}{a:Addr}{kvs:List (Key×V)}{k:Key}{u:Value}{A:Around}{E:Value->Shared->Prop}
theorem Y4 {Q:Unit->Shared->Prop}(I:Inv X pins σ H s)(e:H a=some (.dK kvs))(ry:RelV (kV k) u)(l:(BO kvs k).isSome=true)(h:∀s',Inv X pins σ (upd H a (.dK (JV kvs k))) s'->Q () s') :
  wpAny (model X.prog X.w) A (delItem (.ref a) u) Q E s:=by
 obtain⟨z,hd,vs,rel,dd⟩:=NY I.hok e;refine wpAny_delItem_slot dd.typeIs (by decide) iC
  (eL iC dd.typeIs PySem.F.entry_dict_delitem (PySem.F.args_dict_delitem_2 _ _) (meets_dict_delitem_pairs (AJ X.prog X.w) a (Iu ry)) ⟨vs,dd,by rw[<-rel.length];exact z,by rw[<-(rel.val k).isSome_eq];exact l,λh' dd' hs=>h _ ?_⟩)
 have he:∃q,h'.get? a=some q:=let⟨q,_,_,hq,_⟩:=dd';⟨q,hq⟩;exact G8 I (by rw[e];exact True.intro) hs he (MF (cA (P9 kvs k) z) hd (rel.drop k) dd')
theorem ZK {v:V} {more:List Value} {Q:Value->Shared->Prop} (I:Inv X pins σ H s) (e:H a=some (.dK kvs)) (ry:RelV (kV k) u) (l:BO kvs k=some v) (hm:more=[]\/∃x,more=[x])
  (h:∀w' s',Inv X pins σ (upd H a (.dK (JV kvs k))) s'->RelV v w'->Q w' s'):wpAny (model X.prog X.w) A (call (.builtin "dict.pop") (.ref a::u::more)) Q E s:=by
 obtain⟨z,hd,vs,rel,dd⟩:=NY I.hok e;obtain⟨w',hw,rw'⟩:=FB.some_of (v:=v) (o:=valueAt vs k) (by rw[<-l];exact rel.val k);have hp:(keyPart u).isSome=true:=by
  cases k with
  |inl i=>obtain⟨t,q⟩:=(show ∃t,u=Value.int i t from ry);subst q;rfl
  |inr x=>obtain⟨t,q⟩:=(show ∃t,u=Value.str x t from ry);subst q;rfl
 have ha:argsOk "dict.pop" ⟨.ref a::u::more,[]⟩:=by
  rcases hm with q|⟨x,q⟩
  ·subst q;exact PySem.F.args_dict_pop_2 _ _
  ·subst q;exact iJ _ _ _
 refine eL gO dd.typeIs iT ha (meets_dict_pop_there (AJ X.prog X.w) a (Iu ry) more hm hp)
  ⟨vs,w',dd,by rw[<-rel.length];exact z,hw,λh' dd' hs=>h w' _ ?_ rw'⟩
 have he:∃q,h'.get? a=some q:=let⟨q,_,_,hq,_⟩:=dd';⟨q,hq⟩;exact G8 I (by rw[e];exact True.intro) hs he (MF (cA (P9 kvs k) z) hd (rel.drop k) dd')
theorem X5 {r:Value}{Q:Value->Shared->Prop}(I:Inv X pins σ H s)(e:H a=some (.dK kvs))(ry:RelV (kV k) u)(l:BO kvs k=none)(h:∀s',Inv X pins σ H s'->Q r s') :
  wpAny (model X.prog X.w) A (call (.builtin "dict.pop") [.ref a,u,r]) Q E s:=by
 obtain⟨z,hd,vs,rel,dd⟩:=NY I.hok e;have hn:valueAt vs k=none:=FB.none_of (by rw[<-l];exact rel.val k);have hp:(keyPart u).isSome=true:=by
  cases k with
  |inl i=>obtain⟨t,q⟩:=(show ∃t,u=Value.int i t from ry);subst q;rfl
  |inr x=>obtain⟨t,q⟩:=(show ∃t,u=Value.str x t from ry);subst q;rfl
 exact eL gO dd.typeIs iT (iJ _ _ _) (meets_dict_pop_default (AJ X.prog X.w) a (Iu ry) hd hp r) ⟨vs,dd,hn,h _ (I.tok _)⟩
theorem V4 {Q:Value->Shared->Prop}(I:Inv X pins σ H s)(e:H a=some (.dK kvs))(h:∀s',Inv X pins σ (upd H a (.dK [])) s'->Q .none s'):wpAny (model X.prog X.w) A (call (.builtin "dict.clear") [.ref a]) Q E s:=by
 obtain⟨z,hd,vs,rel,dd⟩:=NY I.hok e;refine eL iH dd.typeIs PySem.F.entry_dict_clear (PySem.F.args_dict_clear_1 _) (meets_dict_clear (AJ X.prog X.w) a) ⟨vs,dd,by rw[<-rel.length];exact z,λh' dd' hs=>h _ ?_⟩;have he:∃q,h'.get? a=some q:=let⟨q,_,_,hq,_⟩:=dd';⟨q,hq⟩;exact G8 (t':=s.toks) I (by rw[e];exact True.intro) hs he (MF (cE _) hd .nil dd')
end
def XT (i:Expr):Prop:=∀ov iv,subscripted i false ov iv=operate [ov,iv] (getItem ov iv)
theorem R0 {prog:Program} {w:World} {A:Around} {E:Value->Shared->Prop} {s:Shared} {env:Env} {value slice:Expr} {pos:Pos} {T id:String} {Q:Value->Shared->Prop}
  (hl:typeLookup (.type T) "__getitem__"=pure (some (.builtin id))) (hs:XT slice)
  (h:wpAny (model prog w) A (eval value env) (λo s₁=>wpAny (model prog w) A (eval slice env) (λi s₂=>s₂.TypeIs o T/\wpAny (model prog w) A (getItem o i) Q E s₂) E s₁) E s) :
  wpAny (model prog w) A (eval (.Subscript value slice pos) env) Q E s:=by
 refine Subscript_ (cD h (λo s₁ h₁=>cD h₁ (λi s₂ h₂=>?_) λ_ _ x=>x) λ_ _ x=>x);obtain⟨hT,h₂⟩:=h₂;unfold subscriptTail;refine bD ?_;rw[getitemInPython_of_ne hT.not_modules];refine bD (gc hT hl ?_);have fin:wpAny (model prog w) A (subscripted slice false o i) (λr s₃=>wpAny (model prog w) A (letTemporaryGo value o r >>= λ_=>pure r) Q E s₃) E s₂:=by
  rw[hs o i];exact wpAny_operating (cD h₂ (λr s₃ h₃=>bD (wpAny_letTemporaryGo (bG h₃))) λ_ _ x=>x)
 first
  |exact bG (bD fin)
  |exact bD (bG (bD fin))
  |exact bD fin
theorem Qj {X:Cx}{pins:List (Addr×Obj)}{σ:St}{H:Hp}{s:Shared}{a:Addr}{y:V}{o:Option V}(I:Inv X pins σ H s)(g:ED H a y o):s.TypeIs (.ref a) "dict":=by
 rcases g with⟨kvs,k,e,_,_⟩|⟨kvs,k,b,e,_,_,_⟩
 ·obtain⟨_,_,vs,_,dd⟩:=MJ I.hok e;exact dd.typeIs
 ·obtain⟨_,_,xs,_,dd⟩:=Mi I.hok e;exact dd.typeIs
def Zj (td ty:TE):TE:=λσ H Q=>td σ H λx H1=>ty σ H1 λy H2=>∃a v,x=.ref a/\ED H2 a y (some v)/\Q v H2
def aY (ty td:TE):TE:=λσ H Q=>ty σ H λy H1=>td σ H1 λx H2=>∃a o,x=.ref a/\ED H2 a y o/\Q (.bl o.isSome) H2
def Z6 (td ty tv:TE):TS:=λD σ H=>tv σ H λv H1=>td σ H1 λx H2=>ty σ H2 λy H3=>∃a H4,x=.ref a/\Pf H3 a y v H4/\D.nx σ H4
section
variable {X:Cx}{o i e value:Expr}{pos pos' tpos:Pos}{td ty tv:TE}
theorem Ks (hu:X.A.units+1<cLine)(ho:PE X o td)(hi:PE X i ty)(hs:XT i):PE X (.Subscript o i pos) (Zj td ty):=by
 intro pins s σ H Q I h;refine R0 PySem.F.slot_dict_getitem.lookup hs (A7 (ho pins s σ H _ I h) λu s1 ⟨x,H1,I1,rx,q1⟩=>A7 (hi pins s1 σ H1 _ I1 q1) λiv s2 z9=>?_);obtain⟨y,H2,I2,ry,a,v,ex,g,q2⟩:=z9;subst ex;obtain rfl:u=Value.ref a:=rx;exact⟨Qj I2 g,TZ hu I2 g ry λw' s3 I3 rw'=>⟨v,H2,I3,rw',q2⟩⟩
theorem Ua (hu:X.A.units+1<cLine)(hi:PE X i ty)(ho:PE X o td):PC X .In i o (aY ty td):=by
 intro pins s σ H Q I h;refine A7 (hi pins s σ H _ I h) λiv s1 ⟨y,H1,I1,ry,q1⟩=>A7 (ho pins s1 σ H1 _ I1 q1) λu s2 z9=>?_
 obtain⟨x,H2,I2,rx,a,ov,ex,g,q2⟩:=z9;subst ex;obtain rfl:u=Value.ref a:=rx;exact aq hu I2 g ry λs3 I3=>⟨.bl ov.isSome,H2,I3,rfl,q2⟩
theorem JQ (hu:X.A.units+1<cLine)(ho:PE X o td)(hi:PE X i ty)(hv:PE X value tv)(hs:swapsWith value (some (.Subscript o i pos')) pos.line X.env=pure false) :
  PS X (.Assign [.Subscript o i pos'] value pos) (Z6 td ty tv):=by
 intro pins s σ H D I h;refine wpAny_Assign_Subscript (A7 (hv pins s σ H _ I h) λr s1 ⟨v,H1,I1,rv,q1⟩=>A7 (ho pins s1 σ H1 _ I1 q1) λu s2 ⟨x,H2,I2,rx,q2⟩=>A7 (hi pins s2 σ H2 _ I2 q2) λiv s3 z9=>?_) hs;obtain⟨y,H3,I3,ry,a,H4,ex,g,q3⟩:=z9;subst ex;obtain rfl:u=Value.ref a:=rx;exact Ta hu I3 g ry rv λs4 I4=>⟨σ,H4,I4,q3⟩
end
theorem Vz {P:Program}{w:World}{H:Hp}(h:Heap)(hb:sysModules<h.objs.size):AX P w H (h.push { cls:=.type "dict",data:=.dict #[] }) h.objs.size (.dK []):=
 ⟨cE _,dM.mpr (Ne.symm (cn hb)),[],.nil,Heap.DictOf.new h⟩
def Ye:TE:=λ_ H Q=>∀p,H p=none->Q (.ref p) (upd H p (.dK []))
section
variable {X:Cx}{pos:Pos}
theorem GC:PE X (.Dict [] [] pos) Ye:=λpins s σ H Q I h=>
 wpAny_Dict_empty ⟨.ref s.heap.objs.size,_,I.laid (a:=s.heap.objs.size) (o:=.dK []) (t':=s.toks) (λ_ _ q=>bH _ q) (bI _) (Vz s.heap I.big),rfl,h _ (I.hok.fresh (bI _))⟩
end
structure M1 (X:Cx) (o:Expr) (m:Str) (apos:Pos) (e:Expr) (cpos:Pos):Prop where
 base:attributeBase o m X.env (eval o X.env)=eval o X.env
 few:((backTo cpos (starEach [e] X.env)).all (λx=>!x.1)&&(backToKw cpos (keywordEach [] X.env)).all (λx=>x.1.isSome)
  && decide (([e]:List Expr).length+([]:List Keyword).length+(if([]:List Keyword).isEmpty then 0 else 1)<30))=true
 line:(apos.endLine == cpos.line)=true
 trees:backTo cpos (starEach [e] X.env)=[(false,eval e X.env)]
structure M2 (X:Cx) (o:Expr) (m:Str) (apos:Pos) (e f:Expr) (cpos:Pos):Prop where
 base:attributeBase o m X.env (eval o X.env)=eval o X.env
 few:((backTo cpos (starEach [e,f] X.env)).all (λx=>!x.1)&&(backToKw cpos (keywordEach [] X.env)).all (λx=>x.1.isSome)
  && decide (([e,f]:List Expr).length+([]:List Keyword).length+(if([]:List Keyword).isEmpty then 0 else 1)<30))=true
 line:(apos.endLine == cpos.line)=true
 trees:backTo cpos (starEach [e,f] X.env)=[(false,eval e X.env),(false,eval f X.env)]
def ZV (H:Hp)(a:Addr):Prop:=(∃kvs,Rd H a (.dK kvs))\/∃kvs,Rd H a (.dT kvs)
theorem LS {X:Cx}{pins:List (Addr×Obj)}{σ:St}{H:Hp}{s:Shared}{a:Addr}(I:Inv X pins σ H s)(d:ZV H a) :
  s.TypeIs (.ref a) "dict"/\(∀b,Value.ref a=.ref b->∃ob,s.heap.get? b=some ob/\ob.dict=none)/\(a == sysModules)=false:=by
 rcases d with⟨kvs,e⟩|⟨kvs,e⟩
 ·obtain⟨_,hd,vs,_,dd⟩:=MJ I.hok e;refine⟨dd.typeIs,λb q=>?_,hd⟩;cases q;obtain⟨ob,_,_,h1,h2,_⟩:=dd;exact⟨ob,h1,h2.2.1⟩
 ·obtain⟨_,hd,xs,_,dd⟩:=Mi I.hok e;refine⟨dd.typeIs,λb q=>?_,hd⟩;cases q;obtain⟨ob,_,_,h1,h2,_⟩:=dd;exact⟨ob,h1,h2.2.1⟩
section
variable {X:Cx}{pins:List (Addr×Obj)}{σ:St}{H:Hp}{s:Shared}{a:Addr}{y d:V}{u r:Value}{o:Option V}{A:Around}{E:Value->Shared->Prop}
theorem Ym {Q:Value->Shared->Prop}(hu:A.units+1<cLine)(I:Inv X pins σ H s)(g:ED H a y o)(ry:RelV y u)(h:∀w' s',Inv X pins σ H s'->RelV (o.getD .non) w'->Q w' s') :
  wpAny (model X.prog X.w) A (call (.builtin "dict.get") [.ref a,u]) Q E s:=by
 rcases g with⟨kvs,k,e,ey,l⟩|⟨kvs,k,b,e,ey,eb,l⟩
 ·subst ey;obtain⟨z,hd,vs,rel,dd⟩:=MJ I.hok e;refine eL dU dd.typeIs fk (iL _ _) (meets_dict_get (AJ X.prog X.w) a (Iu ry) hd) ⟨_,dd.mapOf,h _ _ (I.tok _) ?_⟩;rw[l];exact(rel.val k).getD rfl
 ·subst ey;cases(show u=Value.ref b from ry);obtain⟨z,hd,xs,rel,dd⟩:=Mi I.hok e;refine eL dU dd.typeIs fk (iL _ _) (meetsH_dict_get (tupleKind (AJ X.prog X.w)) a b hd) ⟨fo hu,k,xs,KD I.hok eb,dd,h _ _ (I.tok _) ?_⟩;rw[l];exact(rel.val k).getD rfl
theorem YU {Q:Value->Shared->Prop}(hu:A.units+1<cLine)(I:Inv X pins σ H s)(g:ED H a y o)(ry:RelV y u)(rd:RelV d r)(h:∀w' s',Inv X pins σ H s'->RelV (o.getD d) w'->Q w' s') :
  wpAny (model X.prog X.w) A (call (.builtin "dict.get") [.ref a,u,r]) Q E s:=by
 rcases g with⟨kvs,k,e,ey,l⟩|⟨kvs,k,b,e,ey,eb,l⟩
 ·subst ey;obtain⟨z,hd,vs,rel,dd⟩:=MJ I.hok e;refine eL dU dd.typeIs fk (iK _ _ _) (meets_dict_get_default (AJ X.prog X.w) a (Iu ry) hd r) ⟨_,dd.mapOf,h _ _ (I.tok _) ?_⟩;rw[l];exact(rel.val k).getD rd
 ·subst ey;cases(show u=Value.ref b from ry);obtain⟨z,hd,xs,rel,dd⟩:=Mi I.hok e;refine eL dU dd.typeIs fk (iK _ _ _) (meetsH_dict_get_default (tupleKind (AJ X.prog X.w)) a b hd r) ⟨fo hu,k,xs,KD I.hok eb,dd,h _ _ (I.tok _) ?_⟩;rw[l];exact(rel.val k).getD rd
end
def XM (td ty:TE):TE:=λσ H Q=>td σ H λx H1=>∃a,x=.ref a/\ZV H1 a/\ty σ H1 λy H2=>∃o,ED H2 a y o/\Q (o.getD .non) H2
def XE (td ty tx:TE):TE:=λσ H Q=>td σ H λx H1=>∃a,x=.ref a/\ZV H1 a/\ty σ H1 λy H2=>tx σ H2 λz H3=>∃o,ED H3 a y o/\Q (o.getD z) H3
def YT (td ty tx:TE):TE:=λσ H Q=>td σ H λx H1=>∃a,x=.ref a/\ZV H1 a/\ty σ H1 λy H2=>tx σ H2 λz H3=>∃kvs k,H3 a=some (.dK kvs)/\y=kV k/\
 (∀v,BO kvs k=some v->Q v (upd H3 a (.dK (JV kvs k))))/\(BO kvs k=none->Q z H3)
section
variable {X:Cx}{o e f:Expr}{apos cpos:Pos}{td ty tx:TE}
theorem Ve (hu:X.A.units+1<cLine)(ho:PE X o td)(he:PE X e ty)(m:M1 X o "get" apos e cpos):PE X (.Call (.Attribute o "get" apos) [e] [] cpos) (XM td ty):=by
 intro pins s σ H Q I h;refine fJ m.base m.few m.line eu dU iY (A7 (ho pins s σ H _ I h) λu s1 z9=>?_);obtain⟨x,H1,I1,rx,a,ex,d,q1⟩:=z9;subst ex;obtain rfl:u=Value.ref a:=rx;obtain⟨t1,t2,_⟩:=LS I1 d;refine⟨t1,t2,?_⟩;rw[m.trees];refine dX rfl (e8 (dG (A7 (he pins s1 σ H1 _ I1 q1) λiv s2 ⟨y,H2,I2,ry,ov,g,q2⟩=>fM ?_)));exact Ym hu I2 g ry λw' s3 I3 rw'=>⟨_,H2,I3,rw',q2⟩
theorem U8 (hu:X.A.units+1<cLine)(ho:PE X o td)(he:PE X e ty)(hf:PE X f tx)(m:M2 X o "get" apos e f cpos):PE X (.Call (.Attribute o "get" apos) [e,f] [] cpos) (XE td ty tx):=by
 intro pins s σ H Q I h;refine fJ m.base m.few m.line eu dU iY (A7 (ho pins s σ H _ I h) λu s1 z9=>?_);obtain⟨x,H1,I1,rx,a,ex,d,q1⟩:=z9;subst ex;obtain rfl:u=Value.ref a:=rx;obtain⟨t1,t2,_⟩:=LS I1 d;refine⟨t1,t2,?_⟩;rw[m.trees];refine dX rfl (e8 (dG (A7 (he pins s1 σ H1 _ I1 q1) λiv s2 ⟨y,H2,I2,ry,q2⟩=>
  dG (A7 (hf pins s2 σ H2 _ I2 q2) λfv s3 ⟨z,H3,I3,rz,ov,g,q3⟩=>fM ?_))))
 exact YU hu I3 g ry rz λw' s4 I4 rw'=>⟨_,H3,I4,rw',q3⟩
theorem VM (ho:PE X o td)(he:PE X e ty)(hf:PE X f tx)(m:M2 X o "pop" apos e f cpos):PE X (.Call (.Attribute o "pop" apos) [e,f] [] cpos) (YT td ty tx):=by
 intro pins s σ H Q I h;refine fJ m.base m.few m.line eu gO PySem.F.type_dict_pop (A7 (ho pins s σ H _ I h) λu s1 z9=>?_);obtain⟨x,H1,I1,rx,a,ex,d,q1⟩:=z9;subst ex;obtain rfl:u=Value.ref a:=rx;obtain⟨t1,t2,_⟩:=LS I1 d;refine⟨t1,t2,?_⟩;rw[m.trees];refine dX rfl (e8 (dG (A7 (he pins s1 σ H1 _ I1 q1) λiv s2 ⟨y,H2,I2,ry,q2⟩=>
  dG (A7 (hf pins s2 σ H2 _ I2 q2) λfv s3 ⟨z,H3,I3,rz,kvs,k,ea,ey,q3,q4⟩=>fM ?_))))
 subst ey;cases l:BO kvs k with
 |some v=>exact ZK I3 ea ry l (.inr ⟨fv,rfl⟩) λw' s4 I4 rw'=>⟨v,_,I4,rw',q3 v l⟩
 |none=>exact X5 I3 ea ry l λs4 I4=>⟨z,H3,I4,rz,q4 l⟩
end
inductive Tr where
 |non
 |bl (b:Bool)
 |int (i:Int)
 |str (z:Str)
 |tup (ts:List Tr)
 |lst (ts:List Tr)
mutual
def Rep (F:Addr->Prop)(H:Hp):Tr->V->Prop
 | .non,v=>v=.non
 | .bl b,v=>v=.bl b
 | .int i,v=>v=.int i
 | .str z,v=>v=.str z
 | .tup ts,v=>∃a vs,v=.ref a/\H a=some (.tup vs)/\AL F H ts vs
 | .lst ts,v=>∃a vs,v=.ref a/\F a/\H a=some (.lst vs)/\AL F H ts vs
def AL (F:Addr->Prop)(H:Hp):List Tr->List V->Prop
 |[],vs=>vs=[]
 |t::ts,vs=>∃v us,vs=v::us/\Rep F H t v/\AL F H ts us
end
mutual
def Tr.dep:Tr->Nat
 | .tup ts=>1+Tr.deps ts
 | .lst ts=>1+Tr.deps ts
 |_=>1
def Tr.deps:List Tr->Nat
 |[]=>0
 |t::ts=>max (Tr.dep t) (Tr.deps ts)
end
mutual
def Tr.ok:Tr->Prop
 | .str z=>z.length<=1000
 | .tup ts=>ts.length<=1000/\Tr.oks ts
 | .lst ts=>ts.length<=1000/\Tr.oks ts
 |_=>True
def Tr.oks:List Tr->Prop
 |[]=>True
 |t::ts=>Tr.ok t/\Tr.oks ts
end
mutual
theorem Rep.same {F:Addr->Prop}{H H':Hp}(s:An H H'):∀(t:Tr) (v:V),Rep F H t v->Rep F H' t v
 | .non,_,h=>h
 | .bl _,_,h=>h
 | .int _,_,h=>h
 | .str _,_,h=>h
 | .tup ts,_,⟨a,vs,e,ha,hr⟩=>⟨a,vs,e,s.get ha,AL.same s ts vs hr⟩
 | .lst ts,_,⟨a,vs,e,fa,ha,hr⟩=>⟨a,vs,e,fa,s.get ha,AL.same s ts vs hr⟩
theorem AL.same {F:Addr->Prop}{H H':Hp}(s:An H H'):∀(ts:List Tr) (vs:List V),AL F H ts vs->AL F H' ts vs
 |[],_,h=>h
 |t::ts,_,⟨v,us,e,h1,h2⟩=>⟨v,us,e,Rep.same s t v h1,AL.same s ts us h2⟩
end
theorem AL.len {F:Addr->Prop}{H:Hp}:∀(ts:List Tr) (vs:List V),AL F H ts vs->vs.length=ts.length
 |[],_,h=>by rw[show _=[] from h];rfl
 |t::ts,_,⟨v,us,e,_,h2⟩=>by rw[e,cN,cN,AL.len ts us h2]
theorem AL.get {F:Addr->Prop}{H:Hp}:∀{ts:List Tr} {vs:List V},AL F H ts vs->∀{i:Nat} {v:V},vs[i]?=some v->∃t,ts[i]?=some t/\Rep F H t v
 |[],_,h,i,v,hv=>by rw[show _=[] from h] at hv;simp at hv
 |t::ts,_,⟨w,us,e,h1,h2⟩,0,v,hv=>by
  rw[e] at hv;cases(bO hv);exact⟨t,rfl,h1⟩
 |t::ts,_,⟨w,us,e,h1,h2⟩,i+1,v,hv=>by
  rw[e] at hv;obtain⟨t',e1,e2⟩:=AL.get h2 (i:=i) (v:=v) (by simpa using hv);exact⟨t',by simpa using e1,e2⟩
theorem AL.append {F:Addr->Prop}{H:Hp}:∀{ts us:List Tr} {vs ws:List V},AL F H ts vs->AL F H us ws->AL F H (ts++us) (vs++ws)
 |[],us,_,ws,h,h2=>by rw[show _=[] from h];exact h2
 |t::ts,us,_,ws,⟨w,vs,e,h1,hr⟩,h2=>by
  rw[e];exact⟨w,vs++ws,rfl,h1,AL.append hr h2⟩
theorem AL.one {F:Addr->Prop}{H:Hp}{t:Tr}{v:V}(h:Rep F H t v):AL F H [t] [v]:=⟨v,[],rfl,h,rfl⟩
theorem Tr.deps_get:∀{ts:List Tr} {i:Nat} {t:Tr},ts[i]?=some t->Tr.dep t<=Tr.deps ts
 |t::ts,0,t',e=>by cases(bO e);exact Nat.le_max_left _ _
 |t::ts,i+1,t',e=>cA (Tr.deps_get (ts:=ts) (i:=i) (by simpa using e)) (Nat.le_max_right _ _)
theorem Rep.ok {F:Addr->Prop}{H:Hp}:∀{t:Tr} {v:V},Rep F H t v->t.ok->Ok H v
 | .non,_,h,_=>by rw[show _=V.non from h];trivial
 | .bl _,_,h,_=>by rw[show _=V.bl _ from h];trivial
 | .int _,_,h,_=>by rw[show _=V.int _ from h];trivial
 | .str z,_,h,o=>by rw[show _=V.str z from h];exact o
 | .tup ts,_,⟨a,vs,e,ha,_⟩,_=>by rw[e];exact .inr ⟨vs,ha⟩
 | .lst ts,_,⟨a,vs,e,_,ha,_⟩,_=>by rw[e];exact .inl ⟨vs,ha⟩
section
variable {X:Cx}{pins:List (Addr×Obj)}{σ:St}{H:Hp}{s:Shared}{F G:Addr->Prop}
mutual
theorem Yn (I:Inv X pins σ H s):∀(t:Tr) (A:Around) (v u:V) (vv uu:Value),A.units+t.dep<cLine->Rep F H t v->Rep G H t u->RelV v vv->RelV u uu->SeqAt.EqAt A s vv uu true
 | .non,A,v,u,vv,uu,_,h1,h2,r1,r2=>by
  rw[show v=V.non from h1] at r1;rw[show u=V.non from h2] at r2;cases r1;cases r2;exact eQ _
 | .bl b,A,v,u,vv,uu,_,h1,h2,r1,r2=>by
  rw[show v=V.bl b from h1] at r1;rw[show u=V.bl b from h2] at r2;cases r1;cases r2;exact eQ _
 | .int i,A,v,u,vv,uu,_,h1,h2,r1,r2=>by
  have:=LU (A:=A) (s:=s) r1 r2 (by rw[show v=V.int i from h1];rfl) (by rw[show u=V.int i from h2];rfl);rw[show v=V.int i from h1,show u=V.int i from h2] at this;have e:Nd (V.int i) (V.int i)=true:=by rw[pure_eq rfl rfl];simp
  rw[e] at this;exact this
 | .str z,A,v,u,vv,uu,_,h1,h2,r1,r2=>by
  have:=LU (A:=A) (s:=s) r1 r2 (by rw[show v=V.str z from h1];rfl) (by rw[show u=V.str z from h2];rfl);rw[show v=V.str z from h1,show u=V.str z from h2] at this;have e:Nd (V.str z) (V.str z)=true:=by rw[pure_eq rfl rfl];simp
  rw[e] at this;exact this
 | .tup ts,A,v,u,vv,uu,hA,⟨a,vs,e1,ha,hr1⟩,⟨b,us,e2,hb,hr2⟩,r1,r2=>by
  subst e1 e2;cases r1;cases r2
  by_cases hab:a=b
  ·subst hab;exact eQ _
  have hA':A.units+(1+Tr.deps ts)<cLine:=hA;obtain⟨its,rv1,p1,_⟩:=I.tuple (AS.of (K:=X.K) ha);obtain⟨its2,rv2,p2,_⟩:=I.tuple (AS.of (K:=X.K) hb);have l1:=rv1.length.symm.trans (AL.len ts vs hr1);have l2:=rv2.length.symm.trans (AL.len ts us hr2);have q:=fK (A:=A) (s:=s) (e:=λ_=>true) p1 p2 (by omega) (λj g1 g2=>IK I ts A.in1 vs us its its2 (by show A.units+1+Tr.deps ts<cLine;omega) hr1 hr2 rv1 rv2 j (by simpa using g1) (by simpa using g2));have e:((List.range (min its.toArray.size its2.toArray.size)).all (λ_=>true)&&its.toArray.size == its2.toArray.size)=true:=by
   simp[l1,l2]
  rw[e] at q;exact gv hab q
 | .lst ts,A,v,u,vv,uu,hA,⟨a,vs,e1,_,ha,hr1⟩,⟨b,us,e2,_,hb,hr2⟩,r1,r2=>by
  subst e1 e2;cases r1;cases r2
  by_cases hab:a=b
  ·subst hab;exact eQ _
  have hA':A.units+(1+Tr.deps ts)<cLine:=hA;obtain⟨its,rv1,p1,_⟩:=I.list (AQ.of (K:=X.K) ha);obtain⟨its2,rv2,p2,_⟩:=I.list (AQ.of (K:=X.K) hb);have l1:=rv1.length.symm.trans (AL.len ts vs hr1);have l2:=rv2.length.symm.trans (AL.len ts us hr2);have q:=SeqAt.RcAt.lists (A:=A) (s:=s) (e:=λ_=>true) p1.isList p2.isList (by simp[l1,l2]) (by omega) (λj g1 g2=>IK I ts A.in1 vs us its its2 (by show A.units+1+Tr.deps ts<cLine;omega) hr1 hr2 rv1 rv2 j (by simpa using g1) (by simpa using g2));have e:((List.range its.toArray.size).all (λ_=>true))=true:=by simp
  rw[e] at q;exact gv hab q
theorem IK (I:Inv X pins σ H s):∀(ts:List Tr) (A:Around) (vs us:List V) (its its2:List Value),A.units+Tr.deps ts<cLine->AL F H ts vs->AL G H ts us->AF vs its->AF us its2->∀(j:Nat) (g1:j<its.length) (g2:j<its2.length),SeqAt.EqAt A s its[j] its2[j] true
 |[],A,vs,us,its,its2,_,h1,h2,r1,r2=>λj g1 g2=>by
  rw[show vs=[] from h1] at r1;cases r1;simp at g1
 |t::ts,A,vs,us,its,its2,hA,⟨v,vr,e1,a1,b1⟩,⟨u,ur,e2,a2,b2⟩,r1,r2=>by
  subst e1 e2;have hA':A.units+max (Tr.dep t) (Tr.deps ts)<cLine:=hA;cases r1 with
  |cons p1 q1=>
   cases r2 with
   |cons p2 q2=>
    intro j g1 g2;cases j with
    |zero=>exact Yn I t A v u _ _ (by omega) a1 a2 p1 p2
    |succ j=>exact IK I ts A vr ur _ _ (by omega) b1 b2 q1 q2 j (by simpa using g1) (by simpa using g2)
end
end
section
variable {X:Cx}
def aN:R2:=λx y H Q=>∃t F G,t.dep<=100/\Rep F H t x/\Rep G H t y/\Q (.bl false) H
theorem Yf (hu:X.A.units+150<cLine):HH X (compareOp .NotEq) aN:=by
 intro pins s σ H x y v u Q I rx ry h;obtain⟨t,F,G,hd,h1,h2,q⟩:=h;have Ri:∀z:V,Ej z=true\/(∃b,z=.bl b)->x=z->y=z->wpAny (model X.prog X.w) X.A (compareOp .NotEq v u) (EP X pins σ Q) X.xe s:=λz hz e1 e2=>by
  refine RS pins s σ H x y v u Q I rx ry ⟨?_,?_⟩
  ·subst e1 e2;rcases hz with hz|⟨b,rfl⟩
   ·cases y<;>first|rfl|exact absurd (show false=true from hz) bN
   ·rfl
  ·rw[e1,e2];simpa using q
 cases t with
 |non=>exact Ri _ (.inl rfl) h1 h2
 |bl b=>exact Ri _ (.inr ⟨b,rfl⟩) h1 h2
 |int i=>exact Ri (.int i) (.inl rfl) h1 h2
 |str z=>exact Ri (.str z) (.inl rfl) h1 h2
 |tup ts=>
  obtain⟨a,vs,rfl,ha,hr1⟩:=h1;obtain⟨b,us,rfl,hb,hr2⟩:=h2;cases rx;cases ry;have hd':1+Tr.deps ts<=100:=hd;obtain⟨its,rv1,p1,_⟩:=I.tuple (AS.of (K:=X.K) ha);obtain⟨its2,rv2,p2,_⟩:=I.tuple (AS.of (K:=X.K) hb);have l1:=rv1.length.symm.trans (AL.len ts vs hr1);have l2:=rv2.length.symm.trans (AL.len ts us hr2);have q2:=SeqAt.RcNeAt.tuples (A:=X.A) (s:=s) (e:=λ_=>true) p1 p2 (by omega) (λj g1 g2=>IK I ts X.A.in1 vs us its its2 (by show X.A.units+1+Tr.deps ts<cLine;omega) hr1 hr2 rv1 rv2 j (by simpa using g1) (by simpa using g2));have e:(!((List.range (min its.toArray.size its2.toArray.size)).all (λ_=>true)&&its.toArray.size == its2.toArray.size))=false:=by
   simp[l1,l2]
  rw[e] at q2;exact q2 _ _ _ _ ⟨.bl _,H,I,rfl,q⟩
 |lst ts=>
  obtain⟨a,vs,rfl,_,ha,hr1⟩:=h1;obtain⟨b,us,rfl,_,hb,hr2⟩:=h2;cases rx;cases ry;have hd':1+Tr.deps ts<=100:=hd;obtain⟨its,rv1,p1,_⟩:=I.list (AQ.of (K:=X.K) ha);obtain⟨its2,rv2,p2,_⟩:=I.list (AQ.of (K:=X.K) hb);have l1:=rv1.length.symm.trans (AL.len ts vs hr1);have l2:=rv2.length.symm.trans (AL.len ts us hr2);have q2:=SeqAt.RcNeAt.lists (A:=X.A) (s:=s) (e:=λ_=>true) p1.isList p2.isList (by simp[l1,l2]) (by omega) (λj g1 g2=>IK I ts X.A.in1 vs us its its2 (by show X.A.units+1+Tr.deps ts<cLine;omega) hr1 hr2 rv1 rv2 j (by simpa using g1) (by simpa using g2));have e:(!(List.range its.toArray.size).all (λ_=>true))=false:=by simp
  rw[e] at q2;exact q2 _ _ _ _ ⟨.bl _,H,I,rfl,q⟩
end
mutual
theorem Rep.mono {F G:Addr->Prop}{H:Hp}(h:∀a,F a->G a):∀(t:Tr) (v:V),Rep F H t v->Rep G H t v
 | .non,_,q=>q
 | .bl _,_,q=>q
 | .int _,_,q=>q
 | .str _,_,q=>q
 | .tup ts,_,⟨a,vs,e,ha,hr⟩=>⟨a,vs,e,ha,AL.mono h ts vs hr⟩
 | .lst ts,_,⟨a,vs,e,fa,ha,hr⟩=>⟨a,vs,e,h a fa,ha,AL.mono h ts vs hr⟩
theorem AL.mono {F G:Addr->Prop}{H:Hp}(h:∀a,F a->G a):∀(ts:List Tr) (vs:List V),AL F H ts vs->AL G H ts vs
 |[],_,q=>q
 |t::ts,_,⟨v,us,e,h1,h2⟩=>⟨v,us,e,Rep.mono h t v h1,AL.mono h ts us h2⟩
end
theorem LM {J:It} {xs:List V} {fr:List (Option Nat)} {k:Nat} {te:TE} {Q:VK} {σ:St} {H:Hp} (P:Nat->Hp->V->Hp->Prop) (hP:∀i H1 y H2 H3,P i H1 y H2->An H2 H3->P i H1 y H3)
  (hU:∀i H1 y H2 l us us' ws,P i H1 y H2->H1 l=some (.lst ws)->H2 l=some (.lst us)->P i H1 y (upd H2 l (.lst us'))) (hJ:MY J H xs) (hn:xs.length<=1000000)
  (helt:∀(i:Nat) (x:V) (H':Hp) (R:VK),xs[i]?=some x->An H H'->(∀y H'',An H' H''->P i H' y H''->R y H'')->te ((stC fr σ).set k (some x)) H' R)
  (hQ:∀l H' (ys:List V),H l=none->An H H'->H' l=some (.lst ys)->ys.length=xs.length->(∀(i:Nat) y,ys[i]?=some y->∃H1,An H H1/\P i H1 y H')->Q (.ref l) H') :
  GQ fr (FA k) Va te σ Q J H:=by
 intro l hl;refine⟨λi m σ' H'=>m=xs.length-i/\i<=xs.length/\(∀y,σ'.set k y=(stC fr σ).set k y)/\An H H'/\∃ys:List V,H' l=some (.lst ys)/\ys.length=i/\(∀(i:Nat) y,ys[i]?=some y->∃H1 ws,An H H1/\H1 l=some (.lst ws)/\P i H1 y H'),
  ⟨xs.length,by simp,cE _,λ_=>rfl,Am hl _,[],Ae,rfl,λi y h=>by simp at h⟩,?_⟩
 rintro i m σ' H' ⟨rfl,hi,hσ,hs,ys,hl',hlen,hp⟩
 obtain⟨h1,h2,h3⟩:=hJ H' hs i
 by_cases hlt:i<xs.length
 ·refine .inr ⟨h1 hlt,λx H'' y=>?_⟩;obtain⟨rfl,hx⟩:=h2 x H'' y;have hx:=hx hlt;show te (σ'.set k (some x)) H'' _;rw[hσ];refine helt i x H'' _ hx hs λy H4 s4 py=>?_
  refine⟨_,s4.get hl',BU (by omega),xs.length-(i+1),by omega,rfl,hlt,λy=>by rw[fm],BV (hs.trans s4) hl _,ys++[y],Ae,by rw[bW,hlen];rfl,λj y' hy'=>?_⟩
  by_cases hj:j<ys.length
  ·rw[eX hj] at hy';obtain⟨H1,ws,a1,a2,a3⟩:=hp j y' hy';exact⟨H1,ws,a1,a2,hU _ _ _ _ _ _ _ _ (hP _ _ _ _ _ a3 s4) a2 (s4.get hl')⟩
  ·rw[eR (by omega)] at hy'
   by_cases hj2:j=ys.length
   ·subst hj2;rw[gE] at hy';cases(bO hy':y=y');rw[hlen];exact⟨H'',ys,hs,hl',hU _ _ _ _ _ _ _ _ py hl' (s4.get hl')⟩
   ·rw[cH (by simp;omega)] at hy';cases hy'
 ·have e:i=xs.length:=by omega
  subst e;exact .inl ⟨h3 (bI _),hQ l H' ys hl hs hl' hlen λi y hy=>(let⟨H1,_,a1,_,a3⟩:=hp i y hy;⟨H1,a1,a3⟩)⟩
theorem D3 {K:PySem.W.Frag}{a:Addr}{H:Hp}{xs:List V}(h:H a=some (.tup xs)):MY (Y2 K a) H xs:=λH' s i=>
 ⟨λhi=>⟨xs,xs[i],AS.of (s.get h),by simp[hi]⟩,λx H'' y=>⟨y.1,λ_=>y.2 xs (AS.of (s.get h))⟩,λhi=>⟨xs,AS.of (s.get h),hi⟩⟩
def Tr.ty:Tr->String
 | .non=>"NoneType"
 | .bl _=>"bool"
 | .int _=>"int"
 | .str _=>"str"
 | .tup _=>"tuple"
 | .lst _=>"list"
theorem Rep.tyN {F:Addr->Prop}{H:Hp}:∀{t:Tr} {v:V},Rep F H t v->L2.IW H v=t.ty
 | .non,_,h=>by rw[show _=V.non from h];rfl
 | .bl _,_,h=>by rw[show _=V.bl _ from h];rfl
 | .int _,_,h=>by rw[show _=V.int _ from h];rfl
 | .str z,_,h=>by rw[show _=V.str z from h];rfl
 | .tup ts,_,⟨a,vs,e,ha,_⟩=>by rw[e];simp only[L2.IW,ha];rfl
 | .lst ts,_,⟨a,vs,e,_,ha,_⟩=>by rw[e];simp only[L2.IW,ha];rfl
theorem KL {A:Around}{k:Nat}(hr:Room k A):A.units+150<cLine:=by have:=hr.un;omega
def A9 (P:Program)(w:World)(K:PySem.W.Frag)(mg:Str->Option Value)(base:Heap)(k:Nat)(C:Addr)(m:Str)(ps:List Str)(sp:Sp):Prop:=
 ∃(f:Addr) (fd:FuncData),FnOk P w K mg base CG k f fd ps sp/\Meth K C m f/\Binds K fd ps []
def MZ (P:Program)(w:World)(K:PySem.W.Frag)(mg:Str->Option Value)(base:Heap)(k:Nat)(C:Addr)(x:Str)(ps:List Str)(sp:Sp):Prop:=
 ∃(f:Addr) (fd:FuncData),FnOk P w K mg base CG k f fd ps sp/\Mk K C f/\mg x=some (.ref C)/\Binds K fd ps []
section
variable {X:Cx}{k:Nat}{x m:Str}{C:Addr}{ps:List Str}{sp:Sp}{e o:Expr}{es:List Expr}{t:TA}{ta:TE}{p apos pos:Pos}
theorem MH (D:MZ X.prog X.w X.K X.mg X.base k C x ps sp) (hr:Room (k+1) X.A) (hg:Gl X x) (ha:PA X (e::es) t)
  (hdb:(x == ("__debug__":Str))=false:=by decide) (he:starEach (e::es) X.env=(false,eval e X.env)::starEach es X.env:=by rfl) (hpl:(backTo pos (starEach es X.env)).any (·.1)=false:=by rfl) :
  PE X (.Call (.Name x p) (e::es) [] pos) (Xx C sp [] E0 t):=by
 obtain⟨f,fd,F,M,hm,hb⟩:=D;exact WR M F hr hg hm hb .nil NP ha hdb he hpl
theorem Bf {pl:Sem Bool} (ho:PE X o ta) (c:Cls X.K C) (D:A9 X.prog X.w X.K X.mg X.base k C m ps sp) (hr:Room k X.A) (ha:PA X (e::es) t)
  (hst:starEach (e::es) X.env=(false,eval e X.env)::starEach es X.env:=by rfl) (hpl:(backTo pos (starEach es X.env)).any (·.1)=false:=by rfl)
  (ht:eval (.Call (.Attribute o m apos) (e::es) [] pos) X.env=(do
   let ov <-eval o X.env
   standAt apos.atName
   let(f,first) <-holding [ov] (getMethod ov m pl)
   callWith pos f first (backTo pos (starEach (e::es) X.env)) (backToKw pos (keywordEach [] X.env))):=by rfl) :
  PE X (.Call (.Attribute o m apos) (e::es) [] pos) (Nw C m sp [] E0 ta t):=by
 obtain⟨f,fd,F,M,hb⟩:=D;exact R1 ho c M F hr hb .nil NP ha hst hpl ht
theorem Cb {pl:Sem Bool} (ho:PE X o ta) (c:Cls X.K C) (D:A9 X.prog X.w X.K X.mg X.base k C m ps sp) (hr:Room k X.A)
  (ht:eval (.Call (.Attribute o m apos) [] [] pos) X.env=(do
   let ov <-eval o X.env
   standAt apos.atName
   let(f,first) <-holding [ov] (getMethod ov m pl)
   callWith pos f first (backTo pos (starEach [] X.env)) (backToKw pos (keywordEach [] X.env))):=by rfl) :
  PE X (.Call (.Attribute o m apos) [] [] pos) (Nw C m sp [] E0 ta ET):=by
 obtain⟨f,fd,F,M,hb⟩:=D;exact Ui ho c M F hr hb .nil NP ht
end
def S0 (K:PySem.W.Frag)(a:Addr):It:=
 ⟨λi H=>∃xs x,AQ K H a xs/\xs[i]?=some x,λi H v H'=>∃T x,H T=none/\v=.ref T/\(∀xs,AQ K H a xs->xs[i]?=some x)/\H'=upd H T (.tup [.int (i:Int),x]),λi H=>∃xs,AQ K H a xs/\xs.length=i⟩
theorem Q2 {P:Program}{w:World}{K:PySem.W.Frag}{els:List Expr}{kk:Nat}{pp:Pos}(a e it:Addr)(hei:e≠it):Turn P w K (.Tuple els kk pp) (S0 K a) [e,it] e (λi h=>(∃old,IsEnum h e it (i:Int) old)/\h.IsListIter it a i) where
 mem:=by simp
 obj:=λi h st b hb=>by
  obtain⟨⟨old,he⟩,o,ho,_,hd⟩:=st;rcases cf.mp hb with rfl|hb
  ·exact⟨_,he,λv z=>by cases z⟩
  ·rw[bS.mp hb];exact⟨o,ho,λv z=>by rw[hd] at z;cases z⟩
 keep:=λi h h' st hk=>by
  obtain⟨⟨old,he⟩,o,ho,r⟩:=st;exact⟨⟨old,hk e (by simp) _ he⟩,o,hk it (by simp) o ho,r⟩
 item:=λX hP hw hK hc i pins s σ H E I hf st hg=>by
  subst hP hw hK;obtain⟨xs,x,hq,hx⟩:=hg;obtain⟨its,rv,p,hz⟩:=I.list hq;obtain⟨⟨old,he⟩,hit⟩:=st;have fe:=hf e (by simp);have fi:=hf it (by simp);obtain⟨u,hu,ru⟩:=rv.get hx;have il:=p.isList;have nae:a≠e:=λz=>by
   obtain⟨o,ho,c1,_⟩:=il;rw[z,he] at ho;cases ho;injection c1 with y;exact absurd y (by decide)
  have nai:a≠it:=λz=>by
   obtain⟨o,ho,c1,_⟩:=il;obtain⟨o2,ho2,c2,_⟩:=hit;rw[z,ho2] at ho;cases ho;rw[c2] at c1;injection c1 with y;exact absurd y (by decide)
  have W:=gM (prog:=X.prog) (w:=X.w) (A:=X.A) (Draws.list (prog:=X.prog) (w:=X.w) (A:=X.A.in1) (I.ok.hd hc) it a nai its.toArray) e hei (by simp[hei,Ne.symm nae]) (by simp);refine W.item i s _ E (by have:=(bT.mp hu).1;simp;omega) ⟨⟨old,he⟩,hit,il⟩ λT vals h1 tk ⟨t,y,hy,ev⟩ hT htu hm hk=>?_
  refine⟨.ref T,rfl,W.go els kk pp i T _ _ E hm λh2 st2 hk2=>?_⟩;obtain⟨⟨old2,he2⟩,hit2,_⟩:=st2;subst ev;have ey:y=u:=by
   have q1:its.toArray[i]?=some u:=by simpa using hu
   exact bO (hy.symm.trans q1)
  subst ey;have hTw:T∉[e,it]:=W.apart _ _ _ hm;have ht2:Lx true h2 T #[.int (i:Int) t,y]:=by
   obtain⟨o,ho,c,m,d⟩:=htu;exact⟨o,hk2 T o hTw ho,c,m,d,λz=>nomatch z⟩
  refine⟨.ref T,upd H T (.tup [.int (i:Int),x]),?_,rfl,⟨T,x,I.hok.fresh hT,rfl,λzs hzs=>(by rw[I.list_inj hzs hq];exact hx),rfl⟩,⟨⟨old2,by simpa using he2⟩,hit2⟩,λb hb=>?_⟩
  ·have I2:=I.turned2 (h':=h2) (t':=tk) (xs:=[.int (i:Int),x]) (us:=[.int (i:Int) t,y]) fe fi (λb o b1 b2 q=>hk2 b o (by simp[b1,b2]) (hk b o (by simp[b1,b2]) q)) hT (.cons ⟨_,rfl⟩ (.cons ru .nil)) (by show 2<=sizeLine;decide) ht2;exact I2
  ·have nb:b≠T:=λz=>hTw (z▸hb)
   rw[Ag nb];exact(hf b hb).1
 done:=λX hP hw hK hc i pins s σ H E I hf st hg=>by
  subst hP hw hK;obtain⟨xs,hq,hx⟩:=hg;obtain⟨its,rv,p,hz⟩:=I.list hq;obtain⟨⟨old,he⟩,hit⟩:=st;have fe:=hf e (by simp);have fi:=hf it (by simp);have il:=p.isList;have nae:a≠e:=λz=>by
   obtain⟨o,ho,c1,_⟩:=il;rw[z,he] at ho;cases ho;injection c1 with y;exact absurd y (by decide)
  have nai:a≠it:=λz=>by
   obtain⟨o,ho,c1,_⟩:=il;obtain⟨o2,ho2,c2,_⟩:=hit;rw[z,ho2] at ho;cases ho;rw[c2] at c1;injection c1 with y;exact absurd y (by decide)
  have W:=gM (prog:=X.prog) (w:=X.w) (A:=X.A) (Draws.list (prog:=X.prog) (w:=X.w) (A:=X.A.in1) (I.ok.hd hc) it a nai its.toArray) e hei (by simp[hei,Ne.symm nae]) (by simp);have el:its.toArray.size=i:=by rw[cq,<-rv.length,hx]
  refine W.done s _ E (by rw[el];exact⟨⟨old,he⟩,hit,il⟩) λh' tk hk=>⟨rfl,?_⟩
  exact I.turned2n (h':=h') (t':=tk) fe fi λb o b1 b2 q=>hk b o (by simp[b1,b2]) q
 self:=λA i s Q E st h=>by
  obtain⟨⟨old,he⟩,_⟩:=st;exact gK he h
section
variable {X:Cx}{els:List Expr}{kk:Nat}{pp:Pos}
def X4 (K:PySem.W.Frag)(ta:TA):TI:=λσ H R=>ta σ H λvs H1=>∃a xs,vs=[.ref a]/\AQ K H1 a xs/\R (S0 K a) H1
theorem Vy {l:Expr}{ta:TA}{p pos:Pos}(hg:Gl X "enumerate")(hm:X.mg "enumerate"=none)(ha:PA X [l] ta)(hs:starEach [l] X.env=[(false,eval l X.env)]:=by rfl):PI X (.Tuple els kk pp) (.Call (.Name "enumerate" p) [l] [] pos) (X4 X.K ta):=by
 intro pins s σ H R I h;refine Call_ (Jt I hg hm J8 (fS (A7 (ha pos pins s σ H _ I h) λus s1 ⟨vs,H1,I1,r1,q1⟩=>?_) hs rfl));obtain⟨a,xs,rfl,hq,q⟩:=q1;obtain⟨u,rfl,ru⟩:=vals1 r1;cases ru;obtain⟨its,rv,pl,hz⟩:=I1.list hq;refine call_enumerate_list pl.isList λh' hE hit hz' hk=>?_
 refine gK hE ?_;refine⟨s1.heap.objs.size+1,[s1.heap.objs.size+1,s1.heap.objs.size],_,S0 X.K a,H1,rfl,I1.kept (t':=s1.toks) hk,Q2 a (s1.heap.objs.size+1) s1.heap.objs.size (ik _),⟨⟨_,hE⟩,hit⟩,λb hb=>?_,q⟩;rcases cf.mp hb with rfl|hb
 ·exact I1.fpOk (eC _) (I1.hok.fresh (eC _))
 ·rw[bS.mp hb];exact I1.fpOk (bI _) (I1.hok.fresh (bI _))
end
theorem T7 {K:PySem.W.Frag} {a:Addr} {xs:List V} {g:TG} {tb:TS} {D:Ends} {σ:St} {H:Hp} (Pv:Nat->St->Hp->Prop) (h0:Pv 0 σ H) (hl:∀(i:Nat) (σ:St) (H:Hp),i<=xs.length->Pv i σ H->AQ K H a xs)
  (turn:∀(i:Nat) (x:V) (σ:St) (H:Hp) (T:Addr),xs[i]?=some x->Pv i σ H->H T=none->g (.ref T) σ (upd H T (.tup [.int (i:Int),x])) λσ2 H2=>tb { nx:=Pv (i+1),rt:=D.rt,bk:=D.nx,ct:=Pv (i+1) } σ2 H2)
  (done:∀(σ:St) (H:Hp),Pv xs.length σ H->D.nx σ H) :
  ∃W:Nat->Nat->St->Hp->Prop,(∃m,W 0 m σ H)/\∀i m σ H,W i m σ H->
   ((S0 K a).stop i H/\D.nx σ H)\/((S0 K a).go i H/\∃N:St->Hp->Prop,(∀σ' H',N σ' H'->∃m',m'<m/\W (i+1) m' σ' H')/\∀x H',(S0 K a).yld i H x H'->g x σ H' λσ2 H2=>tb { D with nx:=N,ct:=N,bk:=D.nx } σ2 H2):=by
 refine⟨λi m σ H=>m=xs.length-i/\i<=xs.length/\Pv i σ H,⟨_,rfl,cE _,h0⟩,?_⟩
 rintro i m σ H ⟨rfl,hi,hp⟩
 by_cases hlt:i<xs.length
 ·refine .inr ⟨⟨xs,xs[i],hl i σ H hi hp,by simp[hlt]⟩,Pv (i+1),λσ' H' hn=>⟨xs.length-(i+1),by omega,rfl,hlt,hn⟩,?_⟩
  rintro x H' ⟨T,y,hT,rfl,hy,rfl⟩
  exact turn i y σ H T (hy xs (hl i σ H hi hp)) hp hT
 ·have e:i=xs.length:=by omega
  subst e;exact .inl ⟨⟨xs,hl _ σ H hi hp,rfl⟩,done σ H hp⟩
def Ux (d:Addr)(o:Obj)(kvs:List (Key×V)):It:=
 ⟨λi H=>H d=some (.frz o (.dK kvs))/\i<kvs.length,λi H x H'=>H'=H/\∃k v,kvs[i]?=some (k,v)/\x=kV k,λi H=>H d=some (.frz o (.dK kvs))/\kvs.length<=i⟩
theorem Qb {P:Program}{w:World}{k:Key}{u:Value}(h:(AJ P w).is k u=true):RelV (kV k) u:=by
 rcases BB h with⟨i,t,rfl,rfl⟩|⟨x,t,rfl,rfl⟩
 ·exact⟨t,rfl⟩
 ·exact⟨t,rfl⟩
theorem QR {X:Cx}{pins:List (Addr×Obj)}{σ:St}{H:Hp}{s:Shared}{d:Addr}{o:Obj}{kvs:List (Key×V)}{es:Array DictEntry}{ep:Nat}(I:Inv X pins σ H s)(h:H d=some (.frz o (.dK kvs)))(he:o.data=.dict es ep) :
  (d == sysModules)=false/\∃vs,KV kvs vs/\s.heap.DictAt (AJ X.prog X.w) d vs ep:=by
 obtain⟨ho,_,hs,vs,r,o',es',ep',ho',h1,h2,h3⟩:=I.hok d _ h;rw[ho] at ho';cases ho';rw[he] at h2;injection h2 with e1 e2
 subst e1 e2;exact⟨hs,vs,r,o,es,ho,h1,he,h3⟩
theorem S7 {P:Program}{w:World}{K:PySem.W.Frag}{tg:Expr}(d it:Addr)(o:Obj)(kvs:List (Key×V))(es:Array DictEntry)(ep:Nat)(he:o.data=.dict es ep):Turn P w K tg (Ux d o kvs) [it] it (λi h=>h.IsKeyIter it d i kvs.length ep) where
 mem:=by simp
 obj:=λi h st b hb=>by
  have e:b=it:=by simpa using hb
  subst e;obtain⟨o,e,c,d⟩:=st;exact⟨o,e,λv z=>by rw[d] at z;cases z⟩
 keep:=λi h h' st k=>st.at λo e=>k it (by simp) o e
 item:=by
  intro X hP hw hK hc i pins s σ H E I hf st hg;subst hP hw hK;obtain⟨hq,hi⟩:=hg;obtain⟨_,vs,r,hat⟩:=QR I hq he;have hl:kvs.length=vs.length:=dY r;obtain⟨f0,f1,f2,f3,f4,f5⟩:=hf it (by simp);have ek:kvs[i]?=some kvs[i]:=bF hi;have ev:vs[i]?=some vs[i]:=bF (by omega);have rk:=r.keys;have e1:kvs[i].1=(vs[i]'(by omega)).1:=by
   have:=congrArg (λl=>l[i]?) rk;simp only[List.getElem?_map,ek,ev,Option.map_some] at this;exact bO this
  rw[hl] at st;refine wpAny_pyNext_dict_item (k:=(vs[i]'(by omega)).1) (v:=(vs[i]'(by omega)).2) st hat ev λkey h' hkey st' sb=>?_
  have I1:Inv X pins σ H { s with heap:=h' }:=I.turned (t':=s.toks) (λb o hb e=>(sb.2 b hb).trans e) f0 f1 f3 f4 f5;rw[<-hl] at st';obtain⟨o2,e,c,dd⟩:=id st';exact⟨key,rfl,Mt (s:={ s with heap:=h' }) e c dd (by decide) ⟨kV kvs[i].1,H,I1,Qb (by rw[e1];exact hkey),⟨rfl,kvs[i].1,kvs[i].2,ek,rfl⟩,st',λb hb=>(hf b hb).1⟩⟩
 done:=by
  intro X hP hw hK hc i pins s σ H E I hf st hg;subst hP hw hK;obtain⟨hq,hi⟩:=hg;obtain⟨_,vs,r,hat⟩:=QR I hq he;have hl:kvs.length=vs.length:=dY r;obtain⟨f0,f1,f2,f3,f4,f5⟩:=hf it (by simp);rw[hl] at st;exact wpAny_pyNext_dict_end (I.ok.hd hc) st hat (cH (by omega)) λh' eb=>⟨rfl,I.turned (t':=s.toks) (λb o hb e=>eb b o hb e) f0 f1 f3 f4 f5⟩
 self:=λ_ _ _ _ _ st h=>h8 st h
theorem Inv.freeze {X:Cx}{pins:List (Addr×Obj)}{σ:St}{H:Hp}{s:Shared}{d:Addr}{o:Obj}{kvs:List (Key×V)}(I:Inv X pins σ H s)(h:H d=some (.dK kvs))(ho:s.heap.get? d=some o):Inv X pins σ (upd H d (.frz o (.dK kvs))) s:=by
 have nd:∀b,H b=none->upd H d (.frz o (.dK kvs)) b=none:=λb hb=>by
  rw[Ag (λz=>by rw[z,h] at hb;cases hb)];exact hb
 refine⟨I.ok,I.os,I.bare,⟨I.base.keep,I.base.slot,λb ob e1 e2 e3=>nd b (I.base.free b ob e1 e2 e3),I.base.there,λb xs e=>?_,λb o2 u e=>?_,λb ps e=>?_⟩,I.loc,I.cell,nd _ I.free,λx c e=>nd c (I.freeC x c e),λp hp=>?_,λb u e=>?_,I.len⟩
 ·have:=I.base.tups b xs e;rw[Ag (AK this h (by intro z;cases z))];exact this
 ·have:=I.base.frzs b o2 u e;rw[Ag (AK this h (by intro z;cases z))];exact this
 ·obtain⟨more,q⟩:=I.base.tbls b ps e;exact⟨more,by rw[Ag (AK q h (by intro z;cases z))];exact q⟩
 ·obtain⟨p1,p2,p3⟩:=I.pin p hp;exact⟨p1,nd _ p2,p3⟩
 ·by_cases hb:b=d
  ·subst hb;rw[Ae] at e;cases e;exact⟨ho,(I.hok b _ h).stay (λc v _ r=>r) (λc r=>by rw[Ag (AK r h (by intro z;cases z))];exact r) λc xs r=>by rw[Ag (AK r h (by intro z;cases z))];exact r⟩
  ·rw[Ag hb] at e;exact(I.hok b u e).stay (λc v _ r=>r) (λc r=>by rw[Ag (AK r h (by intro z;cases z))];exact r) λc xs r=>by rw[Ag (AK r h (by intro z;cases z))];exact r
section
variable {X:Cx}{tg:Expr}
def Zv (tl:TE):TI:=λσ H R=>tl σ H λx H1=>∃d kvs,x=.ref d/\H1 d=some (.dK kvs)/\∀o,R (Ux d o kvs) (upd H1 d (.frz o (.dK kvs)))
theorem W0 {l:Expr}{tl:TE}(hl:PE X l tl):PI X tg l (Zv tl):=by
 intro pins s σ H R I h;refine A7 (hl pins s σ H _ I h) λv s1 ⟨x,H1,I1,r1,q1⟩=>?_
 obtain⟨d,kvs,e,hq,q⟩:=q1;subst e;cases r1;obtain⟨_,_,vs,r,o,es,ep,ho,_,he,_⟩:=I1.hok d _ hq;have I2:=I1.freeze hq ho;obtain⟨hs,vs,r,hat⟩:=QR I2 Ae he;have hl:kvs.length=vs.length:=dY r;refine wpAny_pyIter_dict hs hat ?_;refine⟨s1.heap.objs.size,[s1.heap.objs.size],_,_,_,rfl,I2.kept (t':=s1.toks) λb o e=>bH _ e,S7 d _ o kvs es ep he,⟨_,bR _ rfl,rfl,by rw[hl];rfl⟩,λb hb=>?_,q o⟩;have e:b=s1.heap.objs.size:=by simpa using hb
 subst e;exact I2.fpOk (bI _) (I2.hok.fresh (bI _))
end
theorem UA {d:Addr} {o:Obj} {kvs:List (Key×V)} {g:TG} {tb:TS} {D:Ends} {σ:St} {H:Hp} (Pv:Nat->St->Hp->Prop) (h0:Pv 0 σ H) (hl:∀(i:Nat) (σ:St) (H:Hp),i<=kvs.length->Pv i σ H->H d=some (.frz o (.dK kvs)))
  (turn:∀(i:Nat) (k:Key) (v:V) (σ:St) (H:Hp),kvs[i]?=some (k,v)->Pv i σ H->g (kV k) σ H λσ2 H2=>tb { nx:=Pv (i+1),rt:=D.rt,bk:=D.nx,ct:=Pv (i+1) } σ2 H2)
  (done:∀(σ:St) (H:Hp),Pv kvs.length σ H->D.nx σ H) :
  ∃W:Nat->Nat->St->Hp->Prop,(∃m,W 0 m σ H)/\∀i m σ H,W i m σ H->
   ((Ux d o kvs).stop i H/\D.nx σ H)\/((Ux d o kvs).go i H/\∃N:St->Hp->Prop,(∀σ' H',N σ' H'->∃m',m'<m/\W (i+1) m' σ' H')/\∀x H',(Ux d o kvs).yld i H x H'->g x σ H' λσ2 H2=>tb { D with nx:=N,ct:=N,bk:=D.nx } σ2 H2):=by
 refine⟨λi m σ H=>m=kvs.length-i/\i<=kvs.length/\Pv i σ H,⟨_,rfl,cE _,h0⟩,?_⟩
 rintro i m σ H ⟨rfl,hi,hp⟩
 by_cases hlt:i<kvs.length
 ·refine .inr ⟨⟨hl i σ H hi hp,hlt⟩,Pv (i+1),λσ' H' hn=>⟨kvs.length-(i+1),by omega,rfl,hlt,hn⟩,?_⟩
  rintro x H' ⟨rfl,k,v,e,rfl⟩
  exact turn i k v σ _ e hp
 ·have e:i=kvs.length:=by omega
  subst e;exact .inl ⟨⟨hl _ σ H hi hp,bI _⟩,done σ H hp⟩
theorem ED.kf {H:Hp}{a:Addr}{o:Obj}{kvs:List (Key×V)}{k:Key}(e:H a=some (.frz o (.dK kvs))):ED H a (kV k) (BO kvs k):=.inl ⟨kvs,k,.inr ⟨o,e⟩,rfl,rfl⟩
theorem Inv.thaw {X:Cx}{pins:List (Addr×Obj)}{σ:St}{H:Hp}{s:Shared}{d:Addr}{o:Obj}{kvs:List (Key×V)}(I:Inv X pins σ H s)(h:H d=some (.frz o (.dK kvs)))(nf:∀o u,X.H₀ d≠some (.frz o u)):Inv X pins σ (upd H d (.dK kvs)) s:=by
 have nd:∀b,H b=none->upd H d (.dK kvs) b=none:=λb hb=>by
  rw[Ag (λz=>by rw[z,h] at hb;cases hb)];exact hb
 refine⟨I.ok,I.os,I.bare,⟨I.base.keep,I.base.slot,λb ob e1 e2 e3=>nd b (I.base.free b ob e1 e2 e3),I.base.there,λb xs e=>?_,λb o2 u e=>?_,λb ps e=>?_⟩,I.loc,I.cell,nd _ I.free,λx c e=>nd c (I.freeC x c e),λp hp=>?_,λb u e=>?_,I.len⟩
 ·have:=I.base.tups b xs e;rw[Ag (AK this h (by intro z;cases z))];exact this
 ·have:=I.base.frzs b o2 u e;rw[Ag (λz=>nf o2 u (by rw[<-z];exact e))];exact this
 ·obtain⟨more,q⟩:=I.base.tbls b ps e;exact⟨more,by rw[Ag (AK q h (by intro z;cases z))];exact q⟩
 ·obtain⟨p1,p2,p3⟩:=I.pin p hp;exact⟨p1,nd _ p2,p3⟩
 ·by_cases hb:b=d
  ·subst hb;rw[Ae] at e;cases e;obtain⟨_,q⟩:=I.hok b _ h;exact AX.stay (o:=.dK kvs) q (λc v _ r=>r) (λc r=>by rw[Ag (AK r h (by intro z;cases z))];exact r) λc xs r=>by rw[Ag (AK r h (by intro z;cases z))];exact r
  ·rw[Ag hb] at e;exact(I.hok b u e).stay (λc v _ r=>r) (λc r=>by rw[Ag (AK r h (by intro z;cases z))];exact r) λc xs r=>by rw[Ag (AK r h (by intro z;cases z))];exact r
section
variable {X:Cx}
def Ji (X:Cx)(D:Ends):Ends where
 nx:=λσ H=>∃d o kvs,(∀o u,X.H₀ d≠some (.frz o u))/\H d=some (.frz o (.dK kvs))/\D.nx σ (upd H d (.dK kvs))
 rt:=λv H=>∃d o kvs,(∀o u,X.H₀ d≠some (.frz o u))/\H d=some (.frz o (.dK kvs))/\D.rt v (upd H d (.dK kvs))
def Zd (X:Cx)(tl:TE)(g:TG)(tb:TS):TS:=λD σ H=>tl σ H λx H1=>∃d kvs,x=.ref d/\H1 d=some (.dK kvs)/\∀o,∃W:Nat->Nat->St->Hp->Prop,(∃m,W 0 m σ (upd H1 d (.frz o (.dK kvs))))/\∀i m σ H,W i m σ H->
 ((Ux d o kvs).stop i H/\(Ji X D).nx σ H)\/((Ux d o kvs).go i H/\∃N:St->Hp->Prop,(∀σ' H',N σ' H'->∃m',m'<m/\W (i+1) m' σ' H')/\∀x H',(Ux d o kvs).yld i H x H'->g x σ H' λσ2 H2=>tb { Ji X D with nx:=N,ct:=N,bk:=(Ji X D).nx } σ2 H2)
theorem WZ {tg l:Expr} {body:List Stmt} {tl:TE} {g:TG} {tb:TS} {pos:Pos} (hp:PassesOwn (model X.prog X.w) X.A X.env X.xe) (hc:X.calm=true) (hl:PE X l tl) (hg:PG X tg g) (hb:Pb X body tb)
  (hs:∀x,foldedSetIterable l X.env x=pure x:=by intro _;rfl):PS X (.For tg l body [] pos) (Zd X tl g tb):=by
 intro pins s σ H D I h;refine A7 (BM (pos:=pos) hp hc (W0 hl) hg hb hs pins s σ H (Ji X D) I h) λf s' q=>?_
 cases f with
 |next=>
  obtain⟨σ',H',I',d,o,kvs,nf,hd,q⟩:=q;exact⟨σ',_,I'.thaw hd nf,q⟩
 |brk=>obtain⟨σ',H',I',q⟩:=q;exact False.elim q
 |cont=>obtain⟨σ',H',I',q⟩:=q;exact False.elim q
 |ret v=>
  obtain⟨x,σ',H',I',r,d,o,kvs,nf,hd,q⟩:=q;exact⟨x,σ',_,I'.thaw hd nf,r,q⟩
theorem Tw {d:Addr} {o:Obj} {kvs:List (Key×V)} {g:TG} {tb:TS} {D:Ends} {σ:St} {H:Hp} (nf:∀o u,X.H₀ d≠some (.frz o u)) (Pv:Nat->St->Hp->Prop) (h0:Pv 0 σ H) (hl:∀(i:Nat) (σ:St) (H:Hp),i<=kvs.length->Pv i σ H->H d=some (.frz o (.dK kvs)))
  (turn:∀(i:Nat) (k:Key) (v:V) (σ:St) (H:Hp),kvs[i]?=some (k,v)->Pv i σ H->g (kV k) σ H λσ2 H2=>tb { nx:=Pv (i+1),rt:=(Ji X D).rt,bk:=(Ji X D).nx,ct:=Pv (i+1) } σ2 H2)
  (done:∀(σ:St) (H:Hp),Pv kvs.length σ H->D.nx σ (upd H d (.dK kvs))) :
  ∃W:Nat->Nat->St->Hp->Prop,(∃m,W 0 m σ H)/\∀i m σ H,W i m σ H->
   ((Ux d o kvs).stop i H/\(Ji X D).nx σ H)\/((Ux d o kvs).go i H/\∃N:St->Hp->Prop,(∀σ' H',N σ' H'->∃m',m'<m/\W (i+1) m' σ' H')/\∀x H',(Ux d o kvs).yld i H x H'->g x σ H' λσ2 H2=>tb { Ji X D with nx:=N,ct:=N,bk:=(Ji X D).nx } σ2 H2):=
 UA (D:=Ji X D) Pv h0 hl turn λσ H p=>⟨d,o,kvs,nf,hl _ σ H (bI _) p,done σ H p⟩
structure M0 (X:Cx) (o:Expr) (m:Str) (apos cpos:Pos):Prop where
 base:attributeBase o m X.env (eval o X.env)=eval o X.env
 few:((backTo cpos (starEach [] X.env)).all (λx=>!x.1)&&(backToKw cpos (keywordEach [] X.env)).all (λx=>x.1.isSome)
  && decide (([]:List Expr).length+([]:List Keyword).length+(if([]:List Keyword).isEmpty then 0 else 1)<30))=true
 line:(apos.endLine == cpos.line)=true
 trees:backTo cpos (starEach [] X.env)=[]
def WX (td:TE):TE:=λσ H Q=>td σ H λx H1=>∃a kvs,x=.ref a/\H1 a=some (.dK kvs)/\Q .non (upd H1 a (.dK []))
theorem TH {o:Expr}{td:TE}{apos cpos:Pos}(ho:PE X o td)(m:M0 X o "clear" apos cpos):PE X (.Call (.Attribute o "clear" apos) [] [] cpos) (WX td):=by
 intro pins s σ H Q I h;refine fJ m.base m.few m.line eu iH PySem.F.type_dict_clear (A7 (ho pins s σ H _ I h) λu s1 z9=>?_);obtain⟨x,H1,I1,rx,a,kvs,ex,ea,q1⟩:=z9;subst ex;obtain rfl:u=Value.ref a:=rx;obtain⟨t1,t2,_⟩:=LS I1 (.inl ⟨kvs,.inl ea⟩);refine⟨t1,t2,?_⟩;rw[m.trees];exact dX rfl (PySem.evalArgs_none (V4 I1 ea λs3 I3=>⟨.non,_,I3,rfl,q1⟩))
end
theorem Kh {t u:TS}{D:Ends}{σ:St}{H:Hp}(M:St->Hp->Prop)(h1:∀N:St->Hp->Prop,(∀σ' H',M σ' H'->N σ' H')->t { D with nx:=N } σ H)(h2:∀σ' H',M σ' H'->u D σ' H'):OI t u D σ H:=h1 (u D) h2
theorem Pk {J:It} {xs:List V} {fr:List (Option Nat)} {k:Nat} {te:TE} {Q:VK} {σ:St} {H:Hp} (I:Nat->List V->Addr->Hp->Prop) (hn:xs.length<=1000000)
  (hJ:∀i ys l H',I i ys l H'->(i<xs.length->J.go i H')/\(∀x H'',J.yld i H' x H''->H''=H'/\(i<xs.length->xs[i]?=some x))/\(xs.length<=i->J.stop i H'))
  (h0:∀l,H l=none->I 0 [] l (upd H l (.lst [])))
  (step:∀(i:Nat) (x:V) (ys:List V) (l:Addr) (H':Hp) (R:VK),xs[i]?=some x->H l=none->H' l=some (.lst ys)->ys.length=i->I i ys l H'->(∀y H'',H'' l=some (.lst ys)->I (i+1) (ys++[y]) l (upd H'' l (.lst (ys++[y])))->R y H'')->te ((stC fr σ).set k (some x)) H' R)
  (hQ:∀l H' (ys:List V),H l=none->H' l=some (.lst ys)->ys.length=xs.length->I xs.length ys l H'->Q (.ref l) H'):GQ fr (FA k) Va te σ Q J H:=by
 intro l hl;refine⟨λi m σ' H'=>m=xs.length-i/\i<=xs.length/\(∀y,σ'.set k y=(stC fr σ).set k y)/\∃ys:List V,H' l=some (.lst ys)/\ys.length=i/\I i ys l H',⟨xs.length,by simp,cE _,λ_=>rfl,[],Ae,rfl,h0 l hl⟩,?_⟩
 rintro i m σ' H' ⟨rfl,hi,hσ,ys,hl',hlen,hI⟩
 obtain⟨h1,h2,h3⟩:=hJ i ys l H' hI
 by_cases hlt:i<xs.length
 ·refine .inr ⟨h1 hlt,λx H'' y=>?_⟩;obtain⟨rfl,hx⟩:=h2 x H'' y;have hx:=hx hlt;show te (σ'.set k (some x)) H'' _;rw[hσ];refine step i x ys l H'' _ hx hl hl' hlen hI λy H4 hl4 hI4=>?_
  exact⟨ys,hl4,BU (by omega),xs.length-(i+1),by omega,rfl,hlt,λy=>by rw[fm],ys++[y],Ae,by rw[bW,hlen];rfl,hI4⟩
 ·have e:i=xs.length:=by omega
  subst e;exact .inl ⟨h3 (bI _),hQ l H' ys hl hl' hlen hI⟩
theorem Rw {lo:Int}{n i:Nat}{H:Hp}:(i<((List.range n).map λ(i:Nat)=>V.int (lo+(i:Int))).length->(V3 lo n).go i H)/\(∀x H'',(V3 lo n).yld i H x H''->H''=H/\(i<((List.range n).map λ(i:Nat)=>V.int (lo+(i:Int))).length->((List.range n).map λ(i:Nat)=>V.int (lo+(i:Int)))[i]?=some x))/\(((List.range n).map λ(i:Nat)=>V.int (lo+(i:Int))).length<=i->(V3 lo n).stop i H):=by
 rw[bE,df];refine⟨λh=>h,λx H'' y=>⟨y.1,λh=>?_⟩,λh=>h⟩;rw[bQ,List.getElem?_range h,y.2];rfl
end L2
namespace L2
section
open PySem
open Sem (wp wp_bind' wp_mono)
def LQ (o:Obj):Prop:=∃vs,o.data=.fields vs/\vs[2]?=some .none
def DictAt (h:Heap)(e:Addr)(d:Option Addr):Prop:=∃o,h.objs[e]?=some o/\o.dict=d/\LQ o
def DK {α:Type}(t:Sem α):Prop:=∀(M:Model) (Γ:Ctx) (Q:α->Pos->Shared->Prop) (E:Value->Pos->Shared->Prop) (p:Pos) (s:Shared) (e:Addr) (d:Option Addr),wp M Γ t Q E p s->DictAt s.heap e d->
 wp M Γ t (λa p s'=>Q a p s'/\DictAt s'.heap e d) (λv p s'=>E v p s'/\DictAt s'.heap e d) p s
variable {α β:Type}
theorem Bw (a:α):DK (pure a:Sem α):=λ_ _ _ _ _ _ _ _ h j=>⟨h,j⟩
theorem Dx (w:String):DK (PySem.unsupported w:Sem α):=λ_ _ _ _ _ _ _ _ h _=>False.elim h
theorem A0 {m:Sem α}{f:α->Sem β}(h1:DK m)(h2:∀a,DK (f a)):DK (m >>= f):=by
 intro M Γ Q E p s e d h j;rw[wp_bind'] at h ⊢;exact wp_mono M Γ m (λa p' s' q=>h2 a M Γ Q E p' s' e d q.1 q.2) (λ_ _ _ q=>q) p s (h1 M Γ _ E p s e d h j)
theorem Pj (a:Addr):DK (load a):=λM Γ Q E p s e d ⟨o,q,h⟩ j=>⟨o,q,h,j⟩
theorem MC:DK stack:=λM Γ Q E p s e d h j=>⟨h,j⟩
theorem Qr (o:Obj):DK (alloc o):=λM Γ Q E p s e d h ⟨o1,q,hd⟩=>⟨h,o1,by
 show(s.heap.objs.push o)[e]?=some o1;have hlt:e<s.heap.objs.size:=(Array.getElem?_eq_some_iff.mp q).1;rw[Array.getElem?_push,bP (cn hlt)];exact q,hd⟩
theorem NS (a:Addr){f:Obj->Obj}(hf:∀o,(f o).dict=o.dict/\(LQ o->LQ (f o))):DK (update a f):=λM Γ Q E p s e d ⟨q0,h⟩ ⟨o1,q,hd,h2⟩=>⟨q0,h,by
 by_cases ea:a=e
 ·subst ea;refine⟨f o1,?_,by rw[(hf o1).1];exact hd,(hf o1).2 h2⟩;show(s.heap.objs.modify a f)[a]?=some (f o1);rw[jc,bV rfl,q];rfl
 ·refine⟨o1,?_,hd,h2⟩;show(s.heap.objs.modify a f)[e]?=some o1;rw[jc,bP ea];exact q⟩
theorem IB {c:Prop}[Decidable c]{t u:Sem α}(h1:DK t)(h2:DK u):DK (if c then t else u):=by
 split
 ·exact h1
 ·exact h2
theorem L4 {i:Nat}(hi:i≠2)(x:Value)(o:Obj):(Obj.mapFields (·.setIfInBounds i x) o).dict=o.dict/\(LQ o->LQ (Obj.mapFields (·.setIfInBounds i x) o)):=by
 constructor
 ·unfold Obj.mapFields
  split<;>rfl
 ·rintro⟨vs,h1,h2⟩
  obtain⟨c,d,dt,sl⟩:=o;dsimp only at h1;subst h1;exact⟨_,rfl,by rw[Array.getElem?_setIfInBounds_ne hi];exact h2⟩
theorem QK (v:Value):DK (fieldsOf v):=by
 unfold fieldsOf
 split
 ·refine A0 (Pj _) λo=>?_
  split
  ·exact Bw _
  ·exact Dx _
 ·exact Dx _
theorem J0 (v:Value)(i:Nat):DK (field v i):=by
 unfold field;refine A0 (QK v) λvs=>?_
 split
 ·exact Bw _
 ·exact Dx _
theorem HQ (v:Value){i:Nat}(hi:i≠2)(x:Value):DK (setField v i x):=by
 unfold setField updateField
 split
 ·refine A0 (Pj _) λo=>?_
  split
  ·exact IB (NS _ (L4 hi x)) (Dx _)
  ·exact Dx _
 ·exact Dx _
theorem Of (ty:String)(vs:List Value):DK (newFields ty vs):=by
 unfold newFields newObj newObjAsIs;dsimp only
 split
 ·exact A0 (Dx _) λ_=>A0 (Qr _) λ_=>Bw _
 ·exact A0 (Qr _) λ_=>Bw _
theorem QC (a b c d e:Value)(l:List Value):DK (EntryCells.newEntry a b c d e l):=Of _ _
theorem Pd:DK frameEnvs:=A0 MC λ_=>Bw _
theorem PZ (env:Env)(outer:List Env):DK (behindIsImport env outer):=by
 unfold behindIsImport;refine IB (Bw _) ?_;refine IB (Bw _) ?_;exact A0 (J0 _ _) λ_=>Bw _
theorem PJ (env:Env)(i:Bool)(outer:List Env):DK (keptBack env i outer):=by
 unfold keptBack
 split
 ·refine IB (Bw _) ?_;refine A0 (A0 MC λ_=>Bw _) λ_=>Bw _
 ·exact Bw _
theorem QI:∀l:List Env,DK (readyFrames l)
 |[]=>Bw _
 |env::outer=>by
  unfold readyFrames
  split
  ·refine A0 (Pj _) λo=>?_
   refine IB (Bw _) ?_;refine A0 (PZ _ _) λ_=>A0 (PJ _ _ _) λ_=>A0 (NS _ λ_=>⟨rfl,λh=>h⟩) λ_=>QI outer
  ·exact Dx _
theorem QQ (env:Env):DK (frameOf env):=by
 unfold frameOf;refine A0 Pd λl=>?_
 refine A0 ?_ λr=>?_
 ·unfold frameObject
  split
  ·exact Bw _
  ·exact A0 (QI _) λ_=>Bw _
 ·split
  ·exact Bw _
  ·exact Dx _
theorem MX (f:Addr)(b:Bool):DK (entryPlaceOf f b):=by
 unfold entryPlaceOf;refine A0 MC λl=>?_
 split<;>exact Bw _
theorem Hi (e:Value)(f:Option Addr):DK (setFlight e f):=by
 unfold setFlight;exact A0 (J0 _ _) λ_=>IB (HQ _ (by decide) _) (Bw _)
theorem JP (e:Value)(env:Env):DK (noteFrame e env):=by
 unfold noteFrame
 split
 ·rename_i fa _
  refine A0 (J0 _ _) λhead=>?_
  have rest:DK (do setField e 1 (<-EntryCells.newEntry head (<-frameOf env) .none (rawInt fa) .none (<-entryPlaceOf fa (head != .none)))):=
   A0 (QQ _) λ_=>A0 (MX _ _) λ_=>A0 (QC _ _ _ _ _ _) λ_=>HQ _ (by decide) _
  refine IB ?_ rest;refine A0 (J0 _ _) λ_=>?_
  refine IB (Bw _) ?_;exact A0 (HQ _ (by decide) _) λ_=>rest
 ·exact Dx _
theorem Mr (env:Env)(e:Value):DK (leaving env e):=A0 (JP _ _) λ_=>Hi _ _
theorem DK.also {t:Sem α}(k:DK t){M:Model}{A:Around}{Q:α->Shared->Prop}{E:Value->Shared->Prop}{s:Shared}{e:Addr}{d:Option Addr}(j:DictAt s.heap e d)(h:wpAny M A t (λa s'=>DictAt s'.heap e d->Q a s') E s):wpAny M A t Q E s:=λΓ p hΓ=>
 wp_mono M Γ t (λ_ _ _ q=>q.1 q.2) (λ_ _ _ q=>q.1) p s (k M Γ _ _ p s e d (h Γ p hΓ) j)
theorem Xd {h:Heap}{e:Addr}{o:Obj}(q:h.get? e=some o)(f:LQ o):DictAt h e o.dict:=by
 unfold Heap.get? at q
 split at q
 ·cases q
 ·exact⟨o,q,rfl,f⟩
theorem DictAt.get {h:Heap}{e:Addr}{d:Option Addr}{o:Obj}(j:DictAt h e d)(q:h.get? e=some o):o.dict=d/\LQ o:=by
 obtain⟨o1,e1,h1⟩:=j;unfold Heap.get? at q;rw[e1] at q
 split at q
 ·cases q
 ·cases q;exact h1
end
end L2
namespace L2
open PySem PySem.Spec PyProof.Rows
theorem AX.get {P:Program}{w:World}{H:Hp}{h:Heap}{a:Addr}{o:HO}(x:AX P w H h a o):∃ob,h.get? a=some ob:=by
 cases o with
 |lst xs=>obtain⟨_,_,_,_,e⟩:=x;exact⟨_,e⟩
 |tup xs=>obtain⟨_,_,_,ob,e,_⟩:=x;exact⟨_,e⟩
 |dK kvs=>obtain⟨_,_,_,_,o,_,_,e,_⟩:=x;exact⟨_,e⟩
 |dT kvs=>obtain⟨_,_,_,_,o,_,_,e,_⟩:=x;exact⟨_,e⟩
 |set S n=>obtain⟨o,_,_,_,e,_⟩:=x;exact⟨_,e⟩
 |ins C dx fs=>obtain⟨_,_,_,e,_⟩:=x;exact⟨_,e⟩
 |own y=>obtain⟨_,e⟩:=x;exact⟨_,e⟩
 |xd fs=>obtain⟨_,⟨_,_,_,e,_⟩,_⟩:=x;exact⟨_,e⟩
 |rng lo hi=>obtain⟨_,_,_,e⟩:=x;exact⟨_,e⟩
 |frz ob u=>obtain⟨e,_⟩:=x;exact⟨_,e⟩
 |tbl ps=>exact⟨_,x⟩
 |met f y=>exact⟨_,x⟩
 |ext φ=>obtain⟨_,e,_⟩:=x;exact e
structure Fly (P:Program) (w:World) (outer:List Env) (H:Hp) (s:Shared) (ea:Addr) (cls:Value) (H':Hp) (B:Heap) (a0:Value) (s':Shared):Prop where
 os:s'.os=s.os
 bare:AllBare s'.gens
 un:Un (I0 outer) [] H H' s.heap s'.heap
 hok:Jc P w H' B
 fl:Heap.FlyingW B outer ea cls a0 s'.heap
 kp:∀b o,s.heap.get? b=some o->H b=none->b∉I0 outer->B.get? b=some o
 th:∀b o,s.heap.get? b=some o->b∉I0 outer->∃o',B.get? b=some o'
 dj:∃d,DictAt s'.heap ea d
section
variable {P:Program}{w:World}{outer:List Env}{H H':Hp}{s s':Shared}{ea:Addr}{cls a0:Value}{B h' base:Heap}
theorem Fly.stay (F:Fly P w outer H s ea cls H' B a0 s')(hl:s.heap.FunFrames base outer)(hn:∀b∈I0 outer,H b=none)(sB:B.StaysIn h')(up:s'.heap.UpToSlots h'):Un (I0 outer) [] H H' s.heap h':=by
 have sl:∀b o,s.heap.get? b=some o->b∈I0 outer->∃sl,h'.get? b=some { o with slots:=sl }:=λb o q hb=>by
  obtain⟨z,e⟩:=F.un.slot b o q (hn b hb) hb (by simp);obtain⟨_,o',ho',hd⟩:=hl.mem hb;rw[q] at ho';cases ho';exact up b { o with slots:=z } e hd
 refine⟨λb o q n hb _=>sB b o (F.kp b o q n hb),λb o q _ hb _=>sl b o q hb,F.un.free,λb o q _=>?_,F.un.tups,F.un.frzs,F.un.tbls⟩
 by_cases hb:b∈I0 outer
 ·obtain⟨z,e⟩:=sl b o q hb;exact⟨_,e⟩
 ·obtain⟨o',e⟩:=F.th b o q hb;exact⟨o',sB b o' e⟩
theorem Fly.free (F:Fly P w outer H s ea cls H' B a0 s'):H' ea=none:=by
 cases e:H' ea with
 |none=>rfl
 |some u=>
  obtain⟨ob,q⟩:=(F.hok ea u e).get;rw[F.fl.2.1] at q;cases q
end
section
variable {X:Cx}{pins:List (Addr×Obj)}{σ:St}{H H':Hp}{s s':Shared}{ea:Addr}{cls a0:Value}{B h':Heap}
theorem Inv.landed (I:Inv X pins σ H s)(F:Fly X.prog X.w X.stack H s ea cls H' B a0 s')(sB:B.StaysIn h')(up:s'.heap.UpToSlots h'):Inv X pins σ H' { s' with heap:=h' }:=
 I.call' (s':={ s' with heap:=h' }) (ch:=[]) F.os (F.stay I.stack I.stkFree sB up) (F.hok.kept sB) F.bare (λb z=>nomatch z)
theorem Inv.hid (I:Inv X pins σ H s):Jc X.prog X.w H (PySem.W.hideAll s.heap (I0 X.stack)):=λb u e=>by
 refine(I.hok b u e).stay (λc v hc q=>gU _ q λz=>?_) (λ_ q=>q) λ_ _ q=>q
 have:=I.stkFree c z;rcases hc with rfl|hc
 ·rw[e] at this;cases this
 ·rw[hc] at this;cases this
end
abbrev UJ:List Value:=[.type "ValueError",.type "Exception",.type "BaseException",.type "object"]
abbrev XS:=Value->St->Hp->Prop
abbrev TX:=Ends->XS->St->Hp->Prop
def XP (X:Cx)(pins:List (Addr×Obj))(Ex:XS)(e:Value)(s':Shared):Prop:=
 ∃(ea:Addr) (cls:Value) (σ':St) (H1 H':Hp) (s1:Shared) (B:Heap) (a0:Value),e=.ref ea/\Inv X pins σ' H1 s1/\Fly X.prog X.w X.stack H1 s1 ea cls H' B a0 s'/\Ex cls σ' H'
def PX (X:Cx)(st:Stmt)(t:TX):Prop:=
 ∀(pins:List (Addr×Obj)) (s:Shared) (σ:St) (H:Hp) (D:Ends) (Ex:XS),Inv X pins σ H s->t D Ex σ H->wpAny (model X.prog X.w) X.A (exec st X.env) (SP X pins D) (XP X pins Ex) s
def ao (X:Cx)(st:List Stmt)(t:TX):Prop:=
 ∀(pins:List (Addr×Obj)) (s:Shared) (σ:St) (H:Hp) (D:Ends) (Ex:XS),Inv X pins σ H s->t D Ex σ H->wpAny (model X.prog X.w) X.A (execs st X.env) (SP X pins D) (XP X pins Ex) s
section
variable {X:Cx}{st:Stmt}{rest:List Stmt}{e:Expr}{pos:Pos}
theorem Wx {t:TS}(h:PS X.nox st t):PX X st (λD _=>t D):=λpins s σ H D Ex I q=>
 cD (h pins s σ H D (I.wish _) q) (λ_ _ z=>z.unwish) λ_ _ z=>False.elim z
theorem Wz {t:TX}(h1:PX X st t):ao X [st] t:=by
 intro pins s σ H D Ex I h;refine fQ (A7 (h1 pins s σ H D Ex I h) λf s1 q=>?_);cases f with
 |next=>exact eP q
 |ret v=>exact q
 |brk=>exact q
 |cont=>exact q
end
def Cx.held (X:Cx)(e:Value):Cx:={ X with A:=X.A.mark (some e),calm:=false,xe:=λ_ _=>False }
section
variable {X:Cx}{pins:List (Addr×Obj)}{σ:St}{H:Hp}{s:Shared}{e:Value}
theorem Inv.held (I:Inv X pins σ H s)(e:Value):Inv (X.held e) pins σ H s:=
 ⟨⟨I.ok.mod,I.ok.kind,I.ok.glob,I.ok.blt,I.ok.above,I.ok.inj,I.ok.has,I.ok.cab,(λz=>nomatch z),I.ok.frames,I.ok.stk,I.ok.exf,I.ok.bs,I.ok.bsz,I.ok.noex,I.ok.exfs,I.ok.funs,I.ok.frf⟩,I.os,I.bare,I.base,I.loc,I.cell,I.free,I.freeC,I.pin,I.hok,I.len⟩
theorem Inv.unheld (J:Inv X pins σ H s){σ':St}{H':Hp}{s':Shared}(I:Inv (X.held e) pins σ' H' s'):Inv X pins σ' H' s':=
 ⟨J.ok,I.os,I.bare,I.base,I.loc,I.cell,I.free,I.freeC,I.pin,I.hok,I.len⟩
theorem SP.unheld (J:Inv X pins σ H s){D:Ends}{f:Flow}{s':Shared}(h:SP (X.held e) pins D f s'):SP X pins D f s':=by
 cases f with
 |next=>obtain⟨σ',H',I,q⟩:=h;exact⟨σ',H',J.unheld I,q⟩
 |brk=>obtain⟨σ',H',I,q⟩:=h;exact⟨σ',H',J.unheld I,q⟩
 |cont=>obtain⟨σ',H',I,q⟩:=h;exact⟨σ',H',J.unheld I,q⟩
 |ret u=>obtain⟨v,σ',H',I,r,q⟩:=h;exact⟨v,σ',H',J.unheld I,r,q⟩
end
section
variable {X:Cx}{x:Str}{c:Value}{body orelse suite:List Stmt}{b₀:Stmt}{np hpos pos:Pos}
def aE (K:PySem.W.Frag)(c:Value)(tb:TX)(te ts:TS):TS:=λD σ H=>tb { D with nx:=te D } (λcls σ' H'=>PySem.W.exmOne K cls c=some true/\ts D σ' H') σ H
theorem Ul {tb:TX} {te ts:TS} (hst:X.stack=X.env::X.outer/\X.env.frame=some X.env.locals) (hm:X.mg x=some c) (hg:Gl X x) (hb:ao X body tb) (he:Pb X orelse te) (hs:∀e,Pb (X.held e) (b₀::suite) ts)
  (hd:(x == ("__debug__":Str))=false:=by decide):PS X (.Try body [.ExceptHandler (some (.Name x np)) none (b₀::suite) hpos] orelse [] pos) (aE X.K c tb te ts):=by
 intro pins s σ H D I h;refine wpAny_Try_except (cD (hb pins s σ H _ _ I h) (λf s1 q=>?_) λe s1 q=>?_)
 ·cases f with
  |next=>
   obtain⟨σ',H',I',q⟩:=q;exact he pins s1 σ' H' D I' q
  |ret v=>exact q
  |brk=>exact q
  |cont=>exact q
 ·obtain⟨ea,cls,σ',H1,H',s2,B,a0,rfl,I2,F,hx,q⟩:=q;have hfr:=I.ok.frames;have fl:=F.fl;rw[hst.1] at hfr fl;refine wpAny_looks_onW hfr hst.2 fl λh4 held4 up4=>?_
  refine wpAny_landsW held4 λh5 fl5 up5=>?_
  have J5:=I2.landed F fl5.1 (up4.trans up5);refine wpAny_handleBy_cons (codeAny_handlers_test (GS (J5.held (.ref ea)) hg hm ?_ hd)) (by intro z;cases z);obtain⟨ob,hob,hcls⟩:=fl5.there;have LT:PySem.W.Looks (model X.prog X.w) h5 (typeOf (.ref ea)) cls:=by
   subst hcls;exact(PySem.W.Looks.ld hob).andThen .now
  refine(PySem.W.exm_one J5.kIn LT hx).here ?_;refine codeAny_handlers_suite (lands_againW fl5 λh6 fl6 up6=>?_);have J6:=I2.landed F fl6.1 ((up4.trans up5).trans up6);exact cD (hs (.ref ea) pins _ σ' H' D (J6.held (.ref ea)) q) (λf s7 z=>z.unheld J6) λ_ _ z=>False.elim z
end
theorem QT {X:Cx} {K:PySem.W.Frag} {T:String} {name:Str} {id:String} {r:V->List V->Hp->VK->Prop} {o e:Expr} {es:List Expr} {to:TE} {t:TA} {apos cpos:Pos} (hK:X.K=K) (pa:PlainAttrs T) (slot:Slot T name id) (hty:typeOf (.builtin id)=pure (.type "method_descriptor")) (hm:ai X id r) (ho:PE X o to) (ha:PA X (e::es) t)
  (hbase:attributeBase o name X.env (eval o X.env)=eval o X.env:=by rfl)
  (hfew:((backTo cpos (starEach (e::es) X.env)).all (λx=>!x.1)&&(backToKw cpos (keywordEach [] X.env)).all (λx=>x.1.isSome)
   && decide ((e::es).length+([]:List Keyword).length+(if([]:List Keyword).isEmpty then 0 else 1)<30))=true:=by rfl)
  (hline:(apos.endLine == cpos.line)=true:=by rfl) (hs:starEach (e::es) X.env=(false,eval e X.env)::starEach es X.env:=by rfl) (hplain:(backTo cpos (starEach es X.env)).any (·.1)=false:=by rfl) :
  PE X (.Call (.Attribute o name apos) (e::es) [] cpos) (bq K T r to t):=by
 subst hK;exact J3 pa slot hty hm ho ha hbase hfew hline hs hplain
section
variable {M:Model}{A:Around}{E:Value->Shared->Prop}{s:Shared}{base:Heap}{env:Env}{outer l:List Env}{L e:Addr}{cls a0 fl:Value}
structure Retraced (base h h':Heap) (T:Addr) (ts:Array Value) (v:Value):Prop where
 here:∃o',h'.get? T=some o'/\o'.data=.fields (ts.setIfInBounds 3 v)
 rest:∀b o,b≠T->h.get? b=some o->h'.get? b=some o
 low:base.StaysIn h->base.StaysIn h'
 plain:∀b o,h.get? b=some o->(∀vs,o.data≠.fields vs)->h'.get? b=some o
end
end L2
namespace L2
section
open PySem PySem.Calls PyProof.Rows PySem.W Builtin Builtin.ObjectAttr Builtin.Getset_descriptor
section
variable {prog:Program}{w:World}{A:Around}{E:Value->Shared->Prop}{K:Frag}{e D:Addr}
structure IsExc (h:Heap) (e D:Addr):Prop where
 ob:∃o,h.get? e=some o/\o.cls=.ref D/\∃vs,o.data=.fields vs
theorem IsExc.ty {h:Heap}(z:IsExc h e D){M:Model}:Looks M h (typeOf (.ref e)) (.ref D):=by
 obtain⟨o,q,c,_⟩:=z.ob;rw[<-c];exact(Looks.ld q).andThen .now
theorem SL {tp:Value}{s:Shared}{R:Result->Shared->Prop}(k:K.In s.heap)(z:IsExc s.heap e D)(hm:mroIn K D (.type "object")=some true)(q:R (.ok (.ret (.ref D))) s) :
  codeAny (model prog w) A (.call (.builtin "getset_descriptor.__get__") ⟨[.builtin "object.__class__",.ref e,tp],[]⟩) R s:=by
 obtain⟨h1,g1,d1,t1,o1⟩:=s;have T0:=z.ty (M:=model prog w);have T1:=looks_mroIn (M:=model prog w) k hm;have slot:=KF.slot_gs;refine dw slot.plain KF.entry_gs (slot.check _ _ _ _ _ _ _ _ KF.type_class (KF.args_gs _ _ _) ?_);simp only[Builtin.«getset_descriptor.__get__»,descrGet,dga_obj];refine bD (bG ?_);dsimp only[descrGetter,descrCheckInstance,descrNameAndClass,isInstance];rw[show descrOwnerAndName "object.__class__"=("object","__class__") from KF.owner_class]
 repeat lk
 refine⟨fq (id:="object.__class__") _ (by decide +kernel),dP KF.entry_class ?_⟩;simp only[Builtin.«object.__class__»,shownTypeOf]
 repeat lk
 exact q
theorem Vj {h:Heap} {M:Model} (k:K.In h) (ha:findIn K (.ref D) "__class__"=some (some (.builtin "object.__class__")))
  (hn:specialIn K (.builtin "object.__class__") "__get__"=some (some (.builtin "getset_descriptor.__get__"))) (ht:takesIn K (.builtin "object.__class__")=some true) :
  Looks M h (find (.ref e) (.ref D) "__class__") (.bind (.builtin "getset_descriptor.__get__") (.builtin "object.__class__")):=
 (gr k ha).andThen ((show Looks M h (getOf (some (.builtin "object.__class__"))) (some (.builtin "getset_descriptor.__get__")) from looks_specialIn k hn).andThen
  ((show Looks M h (dataDescriptor? (some (.builtin "object.__class__")) (some (.builtin "getset_descriptor.__get__"))) (some (.builtin "getset_descriptor.__get__",.builtin "object.__class__")) from(looks_takesIn k ht).andThen .now).andThen (Looks.tag .now)))
theorem NN {nv:Value}{s:Shared}{Q:Unit->Shared->Prop}{M:Model}(k:K.In s.heap)(z:IsExc s.heap e D)(hb:mroIn K D (.type "BaseException")=some true)(q:Q () s) :
  wpAny M A (checkBuiltinCall "BaseException.__getattribute__" ⟨[.ref e,nv],[]⟩) Q E s:=by
 obtain⟨h1,g1,d1,t1,o1⟩:=s;have b1:builtinKind "BaseException.__getattribute__"=some .slot:=by decide +kernel
 have b2:splitId "BaseException.__getattribute__"=some ("BaseException","__getattribute__"):=by decide +kernel
 have b3:=F.args_bexc_ga (.ref e) nv;have T:Looks M h1 (isInstance (.ref e) (.type "BaseException")) true:=z.ty.andThen (looks_mroIn k hb);simp only[checkBuiltinCall,b1,b2];refine bD (T.at ?_);rw[bP (by decide)]
 repeat wp_step
 exact q
theorem Td {tk:Tok} {s:Shared} {Q:Fin->Shared->Prop} (k:K.In s.heap) (z:IsExc s.heap e D) (ha:findIn K (.ref D) "__class__"=some (some (.builtin "object.__class__")))
  (hn:specialIn K (.builtin "object.__class__") "__get__"=some (some (.builtin "getset_descriptor.__get__"))) (ht:takesIn K (.builtin "object.__class__")=some true) (hm:mroIn K D (.type "object")=some true) (q:Q (.done (.ret (.ref D))) s) :
  wpAny (model prog w) A (Builtin.«object.__getattribute__» ⟨[.ref e,.str "__class__" tk],[]⟩) Q E s:=by
 obtain⟨h1,g1,d1,t1,o1⟩:=s;have T0:=z.ty (M:=model prog w);have T1:=Vj (e:=e) (M:=model prog w) k ha hn ht;have s0:slotArgs "__getattribute__" 1 ⟨[.ref e,.str "__class__" tk],[]⟩=pure (Value.ref e,[Value.str "__class__" tk]):=by kernel_rfl
 have s1:attrName (.str "__class__" tk)=pure "__class__":=by kernel_rfl
 simp only[Builtin.«object.__getattribute__»,s0];refine bD (bG ?_);dsimp only;rw[s1];refine bD (bG (bD (T0.at (bD (T1.at ?_)))));dsimp only;unfold bindTo;dsimp only;refine bD (eK (SL (s:=⟨h1,g1,d1,t1,o1⟩) k z hm ?_));exact bG q
theorem S1 {s:Shared} {Q:Option Value->Shared->Prop} (k:K.In s.heap) (z:IsExc s.heap e D) (hga:findIn K (.ref D) "__getattribute__"=some (some (.builtin "BaseException.__getattribute__"))) (hgg:findIn K (.ref D) "__getattr__"=some none)
  (ha:findIn K (.ref D) "__class__"=some (some (.builtin "object.__class__"))) (hn:specialIn K (.builtin "object.__class__") "__get__"=some (some (.builtin "getset_descriptor.__get__"))) (ht:takesIn K (.builtin "object.__class__")=some true)
  (hm:mroIn K D (.type "object")=some true) (hb:mroIn K D (.type "BaseException")=some true) (q:Q (some (.ref D)) { s with toks:=s.toks+1 }) :
  wpAny (model prog w) A (getAttr? (.ref e) "__class__") Q E s:=by
 obtain⟨h1,g1,d1,t1,o1⟩:=s;have T0:=z.ty (M:=model prog w);have T1:=gr (M:=model prog w) k hga;have T2:=gr (M:=model prog w) k hgg;have B:=F.excAttr_ValueError.ga.bind (.ref e);simp only[getAttr?,getAttrBy?,getAttrBy];refine bD (wpAny_mkText (bD (gN (cK (bD (T0.at (bD (T1.at ?_))))))));have n0:(onTheHeap (Value.ref D)&&Value.builtin "BaseException.__getattribute__" == Value.builtin "object.__getattribute__")=false:=by
  have:(Value.builtin "BaseException.__getattribute__" == Value.builtin "object.__getattribute__")=false:=by decide +kernel
  rw[this];rfl
 dsimp only;rw[bP (by rw[n0];decide)];unfold getAttrByItsOwn hookBefore;rw[bV (by rfl)];refine bD (T2.at (bD (gN (cK ?_))));unfold callGetattribute boundAndCalled;rw[bP (by decide),B];refine bD (bG ?_);dsimp only;refine eK (dw F.excAttr_ValueError.ga.plain F.entry_bexc_ga ?_);refine NN (s:=⟨h1,g1,d1,t1+1,o1⟩) k ⟨z.ob⟩ hb (Td (s:=⟨h1,g1,d1,t1+1,o1⟩) k ⟨z.ob⟩ ha hn ht hm ?_);dsimp only;exact handed_on rfl (bG q)
structure ExcCls (K:Frag) (D:Addr):Prop where
 ga:findIn K (.ref D) "__getattribute__"=some (some (.builtin "BaseException.__getattribute__"))
 gg:findIn K (.ref D) "__getattr__"=some none
 cl:findIn K (.ref D) "__class__"=some (some (.builtin "object.__class__"))
 sp:specialIn K (.builtin "object.__class__") "__get__"=some (some (.builtin "getset_descriptor.__get__"))
 tk:takesIn K (.builtin "object.__class__")=some true
 mo:mroIn K D (.type "object")=some true
 mb:mroIn K D (.type "BaseException")=some true
theorem ExcCls.there (c:ExcCls K D):∃o,K.lookup D=some o/\∃cd,o.data=.cls cd:=by
 obtain⟨cd,h,_⟩:=Option.bind_eq_some_iff.mp c.mo;unfold clsIn at h
 split at h
 ·rename_i o d' cd' sl' ho
  exact⟨_,ho,_,rfl⟩
 ·cases h
theorem ExcCls.kit (c:ExcCls K D):KitX K (.ref e) (.ref D) (λh=>IsExc h e D) where
 ty:=λ_ _ _ z=>z.ty
 it:=λM h k _=>by
  obtain⟨⟨oc,od,oda,os⟩,h1,cd,h2⟩:=c.there;dsimp only at h2;subst h2;intro A1 Q1 E1 s1 st q;unfold isType loadHead;exact bD (jf (st _ _ (k _ _ h1)) (bG q))
 ne:=λh tp dd its n sl k ht=>by
  obtain⟨o,h1,cd,h2⟩:=c.there;cases q:(Value.ref D == Value.ref tp) with
  |false=>rfl
  |true=>
   cases Value.ref.inj (cZ.mp q);rw[k _ _ h1] at ht;cases ht;cases h2
 ca:=λk z q=>S1 k z c.ga c.gg c.cl c.sp c.tk c.mo c.mb q
end
end
open PySem PySem.Spec PyProof.Rows
theorem IsExc.stays {h1 h2:Heap}{e D:Addr}(z:IsExc h1 e D)(k:∀o,h1.get? e=some o->h2.get? e=some o):IsExc h2 e D:=by
 obtain⟨o,q,r⟩:=z.ob;exact⟨o,k o q,r⟩
section
variable {X:Cx}{pins:List (Addr×Obj)}{σ:St}{H:Hp}{s:Shared}
theorem Inv.know {e:Addr} {o:HO} (I:Inv X pins σ H s) (n0:e∉X.ex->X.s₀.heap.get? e=none) (nl:e≠X.env.locals) (nc:∀x c,X.env.cells.lookup x=some c->c≠e) (np:∀p∈X.pn++pins,p.1≠e) (hn:H e=none)
  (ho:AX X.prog X.w (upd H e o) s.heap e o):Inv X pins σ (upd H e o) s:=by
 have up:∀{b:Addr} {u:HO},H b=some u->upd H e o b=some u:=λ{b u} q=>by rw[Ag (Ar q hn)];exact q
 refine⟨I.ok,I.os,I.bare,⟨I.base.keep,I.base.slot,λb ob q n x=>?_,I.base.there,λb xs q=>up (I.base.tups b xs q),λb ob u q=>up (I.base.frzs b ob u q),λb ps q=>?_⟩,I.loc,I.cell,?_,λx c q=>?_,λp hp=>?_,λb u q=>?_,I.len⟩
 ·rw[Ag (λz=>by subst z;rw[n0 x] at q;cases q)];exact I.base.free b ob q n x
 ·obtain⟨more,z⟩:=I.base.tbls b ps q;exact⟨more,up z⟩
 ·rw[Ag nl.symm];exact I.free
 ·rw[Ag (nc x c q)];exact I.freeC x c q
 ·obtain⟨h1,h2,h3⟩:=I.pin p hp;exact⟨h1,by rw[Ag (np p hp)];exact h2,h3⟩
 ·by_cases hb:b=e
  ·subst hb;rw[Ae] at q;cases q;exact ho
  ·rw[Ag hb] at q;exact(I.hok b u q).stay (λc v _ z=>z) (λ_ z=>up z) λ_ _ z=>up z
theorem LD {M:Model} {A:Around} {E:Value->Shared->Prop} {i:Nat} {x:Str} {pos:Pos} {Q:Unit->Shared->Prop} (I:Inv X pins σ H s) (hN:X.N.Nodup) (hi:X.N[i]?=some x) (hk:X.env.kindOf x=some .local)
  (h:∀s',Inv X pins (σ.set i none) H s'->Q () s'):wpAny M A (do bindName X.env x .none;unbindBehindTheSuite X.env x pos) Q E s:=by
 obtain⟨m,hn,hl⟩:=id I.loc;have hc:(X.env.scope.kind == .class||(X.env.scope.kind == .module&&X.env.locals != X.env.globals))=false:=by rw[I.ok.kind];rfl
 have hiσ:i<σ.length:=by rw[I.len];exact(bT.mp hi).1
 obtain⟨oL,_,_,hoL,_⟩:=id hn;refine wpAny_nameGoes_keeps hk hn hc λh' v hn' hs=>?_
 have apart:∀b o,X.s₀.heap.get? b=some o->b≠X.env.locals:=λb o q=>cn (cB (bU q) I.ok.above)
 refine h _ ⟨I.ok,I.os,I.bare,⟨λb o q n hb hx=>(hs.2 b (apart b o q)).trans (I.base.keep b o q n hb hx),λb o q n hb hx=>?_,I.base.free,λb o q hx=>?_,I.base.tups,I.base.frzs,I.base.tbls⟩,
  ⟨_,hn',λj y v' e1 e2 e3=>?_⟩,λy c q=>?_,I.free,I.freeC,λp hp=>?_,λb u q=>?_,by simpa using I.len⟩
 ·obtain⟨sl,z⟩:=I.base.slot b o q n hb hx;exact⟨sl,(hs.2 b (apart b o q)).trans z⟩
 ·obtain⟨o',z⟩:=I.base.there b o q hx;exact⟨o',(hs.2 b (apart b o q)).trans z⟩
 ·by_cases hj:j=i
  ·subst hj;rw[gH hiσ] at e2;cases e2
  ·rw[fL (Ne.symm hj)] at e2;obtain⟨u',r',q⟩:=hl j y v' e1 e2 e3;refine⟨u',r',?_⟩;rcases q with⟨k,z⟩|⟨k,c,z,z2⟩
   ·have ny:y≠x:=λt=>hj (MD hN e1 (t▸hi))
    exact .inl ⟨k,by simp[ny,z]⟩
   ·exact .inr ⟨k,c,z,z2.sameBut hs (I.cne y c z)⟩
 ·obtain⟨w',z⟩:=I.cell y c q;exact⟨w',z.sameBut hs (I.cne y c q)⟩
 ·obtain⟨q,n,ne,nf,d⟩:=I.pin p hp;exact⟨(hs.2 p.1 ne).trans q,n,ne,nf,d⟩
 ·have nb:∀{c:Addr} {v':HO},H c=some v'->c≠X.env.locals:=λ{c v'} z=>Ar z I.free
  refine(I.hok b u q).stay (λc w' hc z=>(hs.2 c ?_).trans z) (λ_ z=>z) λ_ _ z=>z
  rcases hc with rfl|hc
  ·exact nb q
  ·exact nb hc
theorem Inv.flown {H':Hp}{s':Shared}{ea:Addr}{cls a0:Value}{B:Heap}(I:Inv X pins σ H s)(F:Fly X.prog X.w X.stack H s ea cls H' B a0 s'):s.heap.get? ea=none:=by
 cases q:s.heap.get? ea with
 |none=>rfl
 |some o=>
  by_cases hb:ea∈I0 X.stack
  ·obtain⟨z,e⟩:=F.un.slot ea o q (I.stkFree ea hb) hb (by simp);obtain⟨_,o',ho',hd⟩:=I.stack.mem hb;rw[q] at ho';cases ho';obtain⟨_,_,_,oe,vs,_,_,_,he,_,hv,_⟩:=F.fl;rw[he] at e;cases e;exact absurd hv (hd vs)
  ·obtain⟨o',e⟩:=F.th ea o q hb;rw[F.fl.2.1] at e;cases e
end
theorem Q5 {X:Cx}{x:Str}{C:Addr}{pos:Pos}(hg:Gl X x)(hm:X.mg x=some (.ref C))(hd:(x == ("__debug__":Str))=false:=by decide):PE X (.Name x pos) (tC (.ref C)):=Og (v:=.ref C) hg hm rfl hd
theorem Nn:bootBuiltins "ValueError"=some (.type "ValueError"):=by decide +kernel
end L2
namespace L2
end L2
namespace L2
section
open PySem PySem.Calls PyProof.Rows PySem.W
structure IsExcD (h:Heap) (e D:Addr) (d:Option Addr):Prop where
 is:IsExc h e D
 dj:∃o,h.get? e=some o/\o.dict=d/\LQ o
theorem IsExcD.stays {h1 h2:Heap}{e D:Addr}{d:Option Addr}(z:IsExcD h1 e D d)(k:∀o,h1.get? e=some o->h2.get? e=some o):IsExcD h2 e D d:=by
 obtain⟨a,o,q,hd⟩:=z;exact⟨a.stays k,o,k o q,hd⟩
end
section
open PySem PySem.Spec PyProof.Rows
def HG (e D:Addr)(d:Option Addr):HO:=.ext λh=>IsExcD h e D d
variable {X:Cx}{pins:List (Addr×Obj)}{σ:St}{H:Hp}{s:Shared}
theorem Inv.knowD {H':Hp}{s':Shared}{ea C:Addr}{a0:Value}{B h':Heap}{d:Option Addr}(I:Inv X pins σ H s)(F:Fly X.prog X.w X.stack H s ea (.ref C) H' B a0 s')(J:Inv X pins σ H' { s' with heap:=h' })(T:h'.TracedW B ea (.ref C) a0)(dj:DictAt h' ea d):Inv X pins σ (upd H' ea (HG ea C d)) { s' with heap:=h' }:=by
 have n:=I.flown F;obtain⟨m,hn,_⟩:=id I.loc;obtain⟨oL,_,_,hoL,_⟩:=id hn;obtain⟨oe,vs,_,_,_,he,⟨hc,_⟩,hv,_⟩:=T;have ise:IsExcD h' ea C d:=⟨⟨oe,he,hc,vs,hv⟩,oe,he,dj.get he⟩
 refine J.know (λx=>?_) (λz=>?_) (λx c q z=>?_) (λp hp z=>?_) F.free ⟨ise,⟨oe,he⟩,λh1 h2 z k=>z.stays k⟩
 ·cases q:X.s₀.heap.get? ea with
  |none=>rfl
  |some o=>
   obtain⟨o',z⟩:=I.base.there ea o q x;rw[n] at z;cases z
 ·rw[<-z,n] at hoL;cases hoL
 ·obtain⟨w',oc,e,_⟩:=I.cell x c q;rw[z,n] at e;cases e
 ·have:=(I.pin p hp).1;rw[z,n] at this;cases this
def ZL (K:PySem.W.Frag):List V->Hp->VK->Prop:=λxs H Q=>∃(e D:Addr) (d:Option Addr) (c:V) (cv:Value) (b:Bool),xs=[.ref e,c]/\H e=some (HG e D d)/\ExcCls K D/\(∀u,RelV c u->u=cv)/\PySem.W.kitOne K (.ref D) cv=some b/\Q (.bl b) H
theorem NI {K:PySem.W.Frag}(hK:X.K=K):Ei X (.builtin "isinstance") (ZL K):=by
 subst hK;intro pins s σ H xs us Q I r h;obtain⟨e,D,d,c,cv,b,rfl,he,hc,hv,hk,q⟩:=h;obtain⟨u,v,rfl,ru,rv⟩:=vals2 r;cases(show u=Value.ref e from ru);cases hv v rv;have z:AX X.prog X.w H s.heap e (HG e D d):=I.hok e _ he;exact da hc.kit I.kIn z.1.is hk (λz=>nomatch z) λtk=>⟨.bl b,H,I.tok _,rfl,q⟩
variable {x n:Str}{c:Value}{body orelse suite:List Stmt}{b₀:Stmt}{np hpos pos:Pos}{i:Nat}
end
end L2
namespace L2
open PySem PySem.Spec PyProof.Rows
end L2
namespace L2
section
open PySem PySem.Calls PyProof.Rows PySem.W Builtin Builtin.ObjectAttr
def RA:List Value->Bool
 | .ref _::r=>RA r
 |l=>l == UJ
theorem NM (self:Value):∀{l:List Value},RA l=true->refuseLoop self "__setattr__" l=pure ()
 |[],e=>by cases e
 | .ref a::r,e=>by rw[refuseLoop_ref];exact NM self (l:=r) e
 | .type n::r,e=>by
  have:(Value.type n::r)=UJ:=cZ.mp e;rw[this];exact PySem.F.store_ValueError.passes self
 | .none::_,e | .bool _::_,e | .int _ _::_,e | .float _ _::_,e | .str _ _::_,e | .builtin _::_,e | .notImplemented::_,e | .ellipsis::_,e=>by cases e
def Y9 (K:Frag)(C:Addr):Bool:=(clsIn K C).any λcd=>RA cd.mro
section
variable {prog:Program}{w:World}{A:Around}{E:Value->Shared->Prop}{s:Shared}{K:Frag}{x C:Addr}{vs:Array Value}{name:Str}{v:Value}
structure ExiCls (K:Frag) (C:Addr):Prop extends ExcCls K C where
 sa:findIn K (.ref C) "__setattr__"=some (some (.builtin "object.__setattr__"))
 ve:Y9 K C=true
 hd:hasDictIn K C=true
theorem UX (hx:s.heap.get? x=some ⟨.ref C,none,.fields vs,#[]⟩):InstAt s.heap x ⟨.ref C,none,.fields vs,#[]⟩ C none:=⟨hx,rfl,rfl,trivial⟩
theorem Ts {Q:Unit->Shared->Prop} (X:K.In s.heap) (c:ExiCls K C) (hn:findIn K (.ref C) name=some none) (hx:s.heap.get? x=some ⟨.ref C,none,.fields vs,#[]⟩)
  (h:∀h',h'.get? x=some ⟨.ref C,some s.heap.objs.size,.fields vs,#[]⟩->h'.Ns1 s.heap.objs.size (λy=>if y=name then some v else none)->(∀b o,b≠x->s.heap.get? b=some o->h'.get? b=some o)->Q () { s with heap:=h',toks:=s.toks+2 }) :
  wpAny (model prog w) A (setAttr (.ref x) name v) Q E s:=by
 have I:=UX hx;obtain⟨cd,hc,hm⟩:=any_some c.ve;obtain⟨cd2,hc2,hdd⟩:=any_some c.hd;rw[hc] at hc2;cases hc2;refine set_plain X I c.sa ?_;have inObj:Looks (model prog w) s.heap (isInstance (.ref x) (.type "object")) true:=I.type.andThen (looks_mroIn X c.mo);have G:=PySem.F.store_ValueError;refine dw G.slot.plain G.entry (@check_slot (model prog w) _ _ { s with toks:=s.toks+1 } "object.__setattr__" "object" "__setattr__" (.ref x) [.str name s.toks,v] [] _ G.kind G.split inObj (G.args (.ref x) (.str name s.toks) v) ?_);rw[osa_eq,refuse_eq];have own:Looks (model prog w) s.heap (mroOf (.ref C)) cd.mro:=(looks_clsIn X hc).andThen .now;refine bD (bD (hX (s:={ s with toks:=s.toks+1 }) I.type (bD (hX (s:={ s with toks:=s.toks+1 }) own ?_))));rw[NM _ hm];refine bG (bD (hX (s:={ s with toks:=s.toks+1 }) I.type (bD (hX (s:={ s with toks:=s.toks+1 }) (gr X hn) (bD (bG ?_))))));dsimp only;refine bD (bG (bD (bD (jf hx (bD (hX (s:={ s with toks:=s.toks+1 }) (looks_clsIn X hc) ?_))))));rw[hdd];refine bD (wpAny_alloc ?_);have n0:s.heap.get? s.heap.objs.size=none:=gb (bI _);have nx:s.heap.objs.size≠x:=λz=>by rw[z,hx] at n0;cases n0
 have hx1:=bH { cls:=.type "dict",data:=.dict #[] } hx;refine bD (wpAny_update hx1 ?_);have hx2:=cU (λo:Obj=>{ o with dict:=some s.heap.objs.size }) hx1 rfl;have hd2:((s.heap.push { cls:=.type "dict",data:=.dict #[] }).update x (λo:Obj=>{ o with dict:=some s.heap.objs.size })).get? s.heap.objs.size=some { cls:=.type "dict",data:=.dict #[] }:=by
  rw[cQ _ _ (Ne.symm nx)];exact bR _ rfl
 have ns0:((s.heap.push { cls:=.type "dict",data:=.dict #[] }).update x (λo:Obj=>{ o with dict:=some s.heap.objs.size })).Ns1 s.heap.objs.size (λ_=>none):=⟨_,_,_,hd2,rfl,(λe he=>by simp at he),(by simp[UniqKeys]),λ_=>rfl⟩
 have keep:∀b o,b≠x->s.heap.get? b=some o->((s.heap.push { cls:=.type "dict",data:=.dict #[] }).update x (λo:Obj=>{ o with dict:=some s.heap.objs.size })).get? b=some o:=λb o nb q=>by
  rw[cQ _ _ (Ne.symm nb)];exact bH _ q
 generalize (s.heap.push { cls:=.type "dict",data:=.dict #[] }).update x (λo:Obj=>{ o with dict:=some s.heap.objs.size })=h1 at hx2 hd2 ns0 keep;refine bG (a:=some s.heap.objs.size) (bD (bG (bD ?_)));refine wpAny_nsSet1 (s:={ s with heap:=h1,toks:=s.toks+1 }) ns0 λh2 ns2 but=>?_
 obtain⟨oD,esD,epD,hoD,hdD,hcD⟩:=ns2.count (PySem.Within.cons (ns:=[]) name v λ_ z=>absurd rfl z);refine bD (wpAny_lookBehind hoD (by rw[hdD];exact pastItsLine_dict (cA hcD (by rw[eJ];show 1<=_;decide))) ?_);refine bG (h h2 ((but.2 x (Ne.symm nx)).trans hx2) ns2 λb o nb q=>(but.2 b λz=>?_).trans (keep b o nb q));rw[z,n0] at q;cases q
end
def Qf (K:Frag)(C:Addr):Bool:=(K.lookup C).any λo=>match o with
 |⟨.type t,_,.cls cd,sl⟩=>t == "type" && !cd.hasDel&&(match cd.mro with | .ref D::tl=>D == C&&tailIn K UJ tl|_=>false)&&(match sl.toList with|[_,_,_,_,some (.builtin n),_]=>n == "ValueError.__new__"|_=>false)
 |_=>false
theorem R9 {h:Heap}{K:Frag}{C:Addr}(X:K.In h)(q:Qf K C=true) :
  ∃tl N nm qn bs hd sn sub ab col dd k0 k1 k2 k3 k5,h.get? C=some (excClassObj nm qn C N bs tl hd sn sub ab col dd k0 k1 k2 k3 k5 "ValueError.__new__")/\OwnTail h UJ tl:=by
 obtain⟨o,found,z⟩:=any_some q
 split at z
 ·rename_i t dx ck sl
  rw[cu,cu,cu] at z;obtain⟨⟨⟨z1,z2⟩,z3⟩,z4⟩:=z;have y1:t="type":=cZ.mp z1;have y2:ck.hasDel=false:=by simpa using z2
  split at z3
  ·rename_i D tl em
   rw[cu] at z3;have y3:D=C:=cZ.mp z3.1
   split at z4
   ·rename_i p0 p1 p2 p3 made p5 es
    have y4:made="ValueError.__new__":=cZ.mp z4;subst y1 y3 y4;obtain⟨nm,bs,mro,ns,qn,hd,sn,sub,ab,col,del⟩:=ck;simp only at em y2;subst em y2;obtain⟨l⟩:=sl;simp only at es;subst es;exact⟨tl,ns,nm,qn,bs,hd,sn,sub,ab,col,dx,p0,p1,p2,p3,p5,X _ _ found,tail_of_in X z3.2⟩
   ·cases z4
  ·cases z3
 ·cases z
section
variable {prog:Program}{w:World}{A:Around}{E:Value->Shared->Prop}{s:Shared}{K:Frag}{C f:Addr}{us:List Value}
def EC (C t:Addr)(d:Option Addr):Obj:=⟨.ref C,d,.fields #[.ref t,.none,.none,.none,.bool false,.none],#[]⟩
theorem Vw {Q:Value->Shared->Prop} (X:K.In s.heap) (hq:Qf K C=true) (hi:findIn K (.ref C) "__init__"=some (some (.ref f))) (hf:typeIn K (.ref f)=some (.type "function")) (hl:us.length<=sizeLine)
  (h:∀h1,(∀b o,s.heap.get? b=some o->h1.get? b=some o)->h1.get? (s.heap.objs.size+1)=some (EC C s.heap.objs.size none)->h1.objs.size=s.heap.objs.size+2->
   wpAny (model prog w) (A.under (.builtin "type.__call__" ⟨.ref C::us,[]⟩)) (call (.ref f) (.ref (s.heap.objs.size+1)::us)) (λr s'=>r=.none/\Q (.ref (s.heap.objs.size+1)) s') E { s with heap:=h1 }) :
  wpAny (model prog w) A (call (.ref C) us) Q E s:=by
 obtain⟨tl,N,nm,qn,bs,hd,sn,sub,ab,col,dd,k0,k1,k2,k3,k5,oc,T⟩:=R9 X hq;obtain⟨hp,g,d,t,os⟩:=s;have G:=PySem.F.excBase_ValueError;have l1:=tc_lookup;have l2:=tc_bind (.ref C);have hT:(⟨hp,g,d,t,os⟩:Shared).TypeIs (.ref C) "type":=⟨_,oc,rfl⟩
 refine eK (gZ ?_);show wpAny _ _ (callAny (.ref C) _) _ _ _
 repeat (any_goals (first|assumption|(with_reducible refine gL oc ?_)|wp_step))
 refine⟨rfl,codeAny_call_builtin_at (fq _ (by decide +kernel)) entry_typeCall (wpAny_check_type_call_sub oc ?_)⟩
 change K.In hp at X
 change hp.get? C=_ at oc
 change OwnTail hp UJ tl at T
 dsimp only at h;generalize eA:A.under (Code.builtin "type.__call__" { pos:=[Value.ref C]++us })=A1;have h:∀h1,(∀b o,hp.get? b=some o->h1.get? b=some o)->h1.get? (hp.objs.size+1)=some (EC C hp.objs.size none)->h1.objs.size=hp.objs.size+2->wpAny (model prog w) A1 (call (.ref f) (.ref (hp.objs.size+1)::us)) (λr s'=>r=.none/\Q (.ref (hp.objs.size+1)) s') E ⟨h1,g,d,t,os⟩:=by
  rw[<-eA];exact h
 show wpAny (model prog w) A1 (Builtin.«type.__call__» ⟨.ref C::us,[]⟩) _ _ ⟨hp,g,d,t,os⟩
 repeat (first|(with_reducible refine gL oc ?_)|(with_reducible refine wpAny_madeBy_exc oc ?_)|wp_step)
 refine codeAny_call_builtin_code (fq _ G.quiet) (wpAny_check_new_subT G T oc (codeAny_exc_new_subT G T oc ?_ hl));show wpAny _ _ _ _ _ _;have k1:∀b o,hp.get? b=some o->((hp.push { cls:=.type "tuple",data:=.seq us.toArray }).push (EC C hp.objs.size none)).get? b=some o:=λb o q=>bH _ (bH _ q)
 have z1:((hp.push { cls:=.type "tuple",data:=.seq us.toArray }).push (EC C hp.objs.size none)).objs.size=hp.objs.size+2:=by rw[cT,cT]
 have e1:((hp.push { cls:=.type "tuple",data:=.seq us.toArray }).push (EC C hp.objs.size none)).get? (hp.objs.size+1)=some (EC C hp.objs.size none):=by
  have:=bR (hp.push { cls:=.type "tuple",data:=.seq us.toArray }) (o:=EC C hp.objs.size none) rfl;rw[cT] at this;exact this
 change wpAny (model prog w) A1 _ _ _ ⟨(hp.push { cls:=.type "tuple",data:=.seq us.toArray }).push (EC C hp.objs.size none),g,d,t,os⟩
 generalize (hp.push { cls:=.type "tuple",data:=.seq us.toArray }).push (EC C hp.objs.size none)=h1 at k1 z1 e1;have I:InstAt h1 (hp.objs.size+1) (EC C hp.objs.size none) C none:=⟨e1,rfl,rfl,trivial⟩
 have X1:K.In h1:=λb o q=>k1 b o (X b o q)
 have cC:(Value.ref C::tl).contains (.ref C)=true:=by simp
 refine bD (bD (hX (s:=⟨h1,g,d,t,os⟩) I.type ?_));refine wpAny_isSubtype_exc (k1 _ _ oc) ?_;rw[cC];refine bD (cK (special_fn (s:=⟨h1,g,d,t,os⟩) X1 I hi hf (cD (h h1 k1 e1 z1) (λr s' q=>?_) λ_ _ q=>q)));obtain⟨rfl,q⟩:=q;exact bG q
end
end
section
open PySem PySem.Spec PyProof.Rows
def HC (x C:Addr)(d:Option Addr):HO:=.ext λh=>∃t,h.get? x=some (EC C t d)
theorem Sl {P:Program}{w:World}{H:Hp}{h:Heap}{x C t:Addr}{d:Option Addr}(e:h.get? x=some (EC C t d)):AX P w H h x (HC x C d):=⟨⟨t,e⟩,⟨_,e⟩,λ_ _ ⟨t,z⟩ k=>⟨t,k _ z⟩⟩
variable {X:Cx}{pins:List (Addr×Obj)}{σ:St}{H:Hp}{s:Shared}
theorem Pp {A:Around} {E:Value->Shared->Prop} {Q:Unit->Shared->Prop} {e C:Addr} {f:Str} {y:V} {u:Value} (I:Inv X pins σ H s) (he:H e=some (HC e C none)) (c:ExiCls X.K C) (n:PySem.W.findIn X.K (.ref C) f=some none) (ry:RelV y u)
  (h:∀dx s',H dx=none->Inv X pins σ (upd (upd H e (HC e C (some dx))) dx (.xd [(f,y)])) s'->Q () s'):wpAny (model X.prog X.w) A (setAttr (.ref e) f u) Q E s:=by
 obtain⟨⟨t,ob⟩,_,_⟩:AX X.prog X.w H s.heap e (HC e C none):=I.hok e _ he;refine Ts I.kIn c n ob λh1 ob1 ns1 k1=>?_
 have hf:H s.heap.objs.size=none:=I.hok.fresh (bI _);have n0:s.heap.get? s.heap.objs.size=none:=gb (bI _);have ne:s.heap.objs.size≠e:=λz=>by rw[z,ob] at n0;cases n0
 have J:=I.write (x:=e) (e:=e) (o:=HC e C (some s.heap.objs.size)) (h':=h1) (t':=s.toks+2) (by rw[he];trivial) (.inl rfl) (λb o nb q=>k1 b o nb q) ⟨_,ob1⟩ (Sl ob1);obtain⟨m,hn,_⟩:=id I.loc;obtain⟨oL,_,_,hoL,_⟩:=id hn;refine h s.heap.objs.size _ hf (J.know (λx=>?_) (λz=>?_) (λx c q z=>?_) (λp hp z=>?_) (by rw[Ag ne];exact hf) ⟨_,ns1,λg=>?_⟩)
 ·cases q:X.s₀.heap.get? s.heap.objs.size with
  |none=>rfl
  |some o=>
   obtain⟨o',z⟩:=I.base.there _ o q x;rw[n0] at z;cases z
 ·rw[<-z,n0] at hoL;cases hoL
 ·obtain⟨w',oc,e1,_⟩:=I.cell x c q;rw[z,n0] at e1;cases e1
 ·have:=(I.pin p hp).1;rw[z,n0] at this;cases this
 ·by_cases eg:g=f
  ·subst eg;rw[bV rfl,List.lookup_cons_self];exact ry
  ·rw[bP eg,fG,show(g == f)=false from dM.mpr eg]
   trivial
def Zr (K:PySem.W.Frag)(ta tv:TE)(f:Str):TS:=λD σ H=>tv σ H λy H1=>ta σ H1 λx H2=>∃e C,x=.ref e/\H2 e=some (HC e C none)/\ExiCls K C/\PySem.W.findIn K (.ref C) f=some none/\
 ∀dx,H2 dx=none->D.nx σ (upd (upd H2 e (HC e C (some dx))) dx (.xd [(f,y)]))
theorem W9 {o value:Expr}{f:Str}{pos pos':Pos}{ta tv:TE}(ha:PE X o ta)(hv:PE X value tv)(hs:swapsWith value (some (.Attribute o f pos')) pos.line X.env=pure false):PS X (.Assign [.Attribute o f pos'] value pos) (Zr X.K ta tv f):=by
 intro pins s σ H D I h;refine iB (A7 (hv pins s σ H _ I h) λu s1 ⟨y,H1,I1,ry,q⟩=>A7 (ha pins s1 σ H1 _ I1 q) λov s2 z9=>?_) hs;obtain⟨x,H2,I2,rx,e,C,ex,he,c,n,q2⟩:=z9;subst ex;obtain rfl:ov=Value.ref e:=rx;exact Pp I2 he c n ry λdx s3 hd I3=>⟨σ,_,I3,q2 dx hd⟩
structure MkX (K:PySem.W.Frag) (C f:Addr):Prop where
 ex:Qf K C=true
 init:PySem.W.findIn K (.ref C) "__init__"=some (some (.ref f))
 fn:PySem.W.isFn K (.ref f)=true
 kp:PySem.W.keepIn K (.ref C)=true
theorem Wr {CX:QW} {k:Nat} {f C:Addr} {fd:FuncData} {ps:List Str} {sp:Sp} {Q:VK} {us:List Value} {vs:List V} (M:MkX X.K C f) (F:FnOk X.prog X.w X.K X.mg X.base CX k f fd ps sp) (hr:Room (k+1) X.A) (hb:Binds X.K fd ps []) (hx:Es CX X E0) (hl:us.length<=sizeLine)
  (I:Inv X pins σ H s) (r:AF vs us) (hq:sp (.ref (s.heap.objs.size+1)::vs) (upd H (s.heap.objs.size+1) (HC (s.heap.objs.size+1) C none)) (λv H2=>v=.non/\Q (.ref (s.heap.objs.size+1)) H2) E0):wpAny (model X.prog X.w) X.A (call (.ref C) us) (EP X pins σ Q) X.xe s:=by
 refine Vw I.kIn M.ex M.init (cZ.mp M.fn) hl λh1 k1 e1 z1=>?_
 have I2:=I.laid (a:=s.heap.objs.size+1) (o:=HC (s.heap.objs.size+1) C none) (h':=h1) (t':=s.toks) k1 (eC _) (Sl e1);have r2:AF (V.ref (s.heap.objs.size+1)::vs) (Value.ref (s.heap.objs.size+1)::us):=.cons rfl r;have hn:(Value.ref (s.heap.objs.size+1)::us).length=ps.length:=r2.length.symm.trans (F.len _ _ _ _ hq);have hb':=hb { s with heap:=h1 } (Value.ref (s.heap.objs.size+1)::us) I2.kIn (by rw[cW];exact hn);rw[cW] at hb';refine eK (dW (F.run _ X.stack _ _ ⟨Value.ref (s.heap.objs.size+1)::us,[]⟩ (Value.ref (s.heap.objs.size+1)::us) _ _ _ (hr.make C us []) (I2.env0.make C us []) hb' r2 hq) λr s' z=>?_)
 match r,z with
 | .error e,z=>exact hx pins σ _ _ e s' I2 z
 | .ok (.ret u),z=>
  obtain⟨v,H',I3,rv,ev,q3⟩:=I2.after z;subst ev;exact⟨rv,⟨V.ref (s.heap.objs.size+1),H',I3,rfl,q3⟩⟩
theorem Tu {M:Model} {A:Around} {E:Value->Shared->Prop} {K:PySem.W.Frag} {env:Env} {y:Sem Value} {Q:Flow->Shared->Prop} {s:Shared} (hh:A.handled=none)
  (h:wpAny M A y (λv s1=>∃e C t d,v=.ref e/\K.In s1.heap/\Qf K C=true/\s1.heap.get? e=some (EC C t d)/\E (.ref e) s1) E s):wpAny M A (raiseStmt env (some y) none) Q E s:=by
 unfold raiseStmt;refine bD (cD h (λv s1 z=>?_) λ_ _ z=>z);obtain⟨e,C,t,d,rfl,k,hq,he,hE⟩:=z;obtain⟨tl,N,nm,qn,bs,hd,sn,sub,ab,col,dd,k0,k1,k2,k3,k5,oc,T⟩:=R9 k hq;obtain⟨hp,g,dr,tk,os⟩:=s1
 change hp.get? e=some ⟨.ref C,d,.fields #[.ref t,.none,.none,.none,.bool false,.none],#[]⟩ at he
 have Tf:(Value.ref C::tl).contains (.type "BaseException")=true:=by rw[List.contains_cons,T.hasType PySem.F.excBase_ValueError.hasBase,iX]
 repeat (first|(with_reducible refine gL he ?_)|(with_reducible refine gL oc ?_)|((with_reducible refine wpAny_isSubtype_exc oc ?_);rw[Tf])|wp_step)
 exact wpAny_raiseNew_none hh hE
end
section
open PySem PySem.Spec PyProof.Rows
def del (H:Hp)(e:Addr):Hp:=λb=>if b=e then none else H b
theorem Qs {H:Hp}{e:Addr}:del H e e=none:=by unfold del;rw[bV rfl]
theorem RN {H:Hp}{b e:Addr}(h:b≠e):del H e b=H b:=by unfold del;rw[bP h]
def QL (P:Program)(w:World):QW:=λouter H s E e s'=>∃(ea:Addr) (cls:Value) (H':Hp) (B:Heap) (a0:Value) (d:Option Addr),e=.ref ea/\Fly P w outer H s ea cls H' B a0 s'/\DictAt s'.heap ea d/\E cls d H'
section
variable {P:Program}{w:World}{K:PySem.W.Frag}{mg:Str->Option Value}{base:Heap}{N:List Str}{qual:Str}{scope:Scope}{f:Addr}{cd:Value}{A:Around}{outer:List Env}{s:Shared}{H:Hp}{E:XK}
theorem IU {CX:QW}{pins:List (Addr×Obj)}{σ:St}{H1:Hp}{s1:Shared}(I:Inv (Ca CX P w K mg base N qual scope f cd A outer s H E) pins σ H1 s1){b:Addr}{o:Obj}(q:s.heap.get? b=some o)(hb:b∉I0 outer) :
  b∉I0 (envOfC qual scope s.heap.objs.size f cd::outer):=λz=>by
 rcases cf.mp (I.stkSub b z) with e|e
 ·have h1:s.heap.objs.size<=b:=by rw[e];exact I.ok.above
  exact absurd (cB (bU q) h1) (d8 _)
 ·exact hb e
theorem QF:Es (QL P w) (Ca (QL P w) P w K mg base N qual scope f cd A outer s H E) E:=by
 intro pins σ H1 s1 e s2 I h;obtain⟨ea,cls,H',B,a0,d,rfl,F,dj,q⟩:=h;have hfr:=I.ok.frames;refine(Mr _ _).also dj (wpAny_leaves_onW (L:=s.heap.objs.size) hfr rfl F.fl λh' fl' up dj'=>?_);have un:=F.stay I.stack I.stkFree fl'.1 up;have J:=I.call' (s':={ s2 with heap:=h' }) (ch:=[]) F.os un (F.hok.kept fl'.1) F.bare (λb z=>nomatch z);refine⟨ea,cls,H',B,a0,d,rfl,⟨J.os,F.bare,J.base,F.hok,fl',λb o e n hb=>?_,λb o e hb=>?_,⟨_,dj'⟩⟩,dj',q⟩
 ·exact F.kp b o (I.base.keep b o e n hb (by intro z;cases z)) (I.base.free b o e n (by intro z;cases z)) (IU I e hb)
 ·obtain⟨o1,e1⟩:=I.base.there b o e (by intro z;cases z);exact F.th b o1 e1 (IU I e hb)
theorem TF {pins:List (Addr×Obj)}{σ:St}{H1:Hp}{s1:Shared}{ea C:Addr}{d:Option Addr}(I:Inv (Ca (QL P w) P w K mg base N qual scope f cd A outer s H E) pins σ H1 s1)(he:H1 ea=some (HC ea C d))(hn:s.heap.objs.size<=ea)(q:E (.ref C) d (del H1 ea)) :
  (Ca (QL P w) P w K mg base N qual scope f cd A outer s H E).xe (.ref ea) s1:=by
 have hfr:=I.ok.frames;obtain⟨⟨t,ob⟩,_,_⟩:AX P w H1 s1.heap ea (HC ea C d):=I.hok ea _ he;have nf:ea∉I0 (envOfC qual scope s.heap.objs.size f cd::outer):=λz=>by
  have:=I.stkFree ea z;rw[he] at this;cases this
 have nofs:s.heap.get? ea=none:=gb hn;have hid:∀{b:Addr} {o:Obj},s1.heap.get? b=some o->b≠ea->b∉I0 (envOfC qual scope s.heap.objs.size f cd::outer)->(PySem.W.hideAll s1.heap (ea::I0 (envOfC qual scope s.heap.objs.size f cd::outer))).get? b=some o:=λe n1 n2=>gU _ e λz=>(cf.mp z).elim n1 n2
 have ff:s1.heap.FunFrames (PySem.W.hideAll s1.heap (ea::I0 (envOfC qual scope s.heap.objs.size f cd::outer))) (envOfC qual scope s.heap.objs.size f cd::outer):=PySem.W.funFrames_hide I.stack λenv he a ha=>bY _ (fY.mpr ⟨env,he,ha⟩)
 have hen:(PySem.W.hideAll s1.heap (ea::I0 (envOfC qual scope s.heap.objs.size f cd::outer))).get? ea=none:=ji _ bZ;refine(Mr _ _).also (Xd ob ⟨_,rfl,rfl⟩) (wpAny_leaving_firstW (base:=PySem.W.hideAll s1.heap (ea::I0 (envOfC qual scope s.heap.objs.size f cd::outer))) (a0:=.ref t) hfr ff rfl ob (λb o e=>PySem.W.of_hideAll _ e) hen rfl rfl rfl λh' hL dj=>?_);obtain⟨k1,⟨_,_,k2⟩,k3,k4⟩:=hL;generalize PySem.W.hideAll s1.heap (ea::I0 (envOfC qual scope s.heap.objs.size f cd::outer))=B at hid ff hen k1 k2 k3;have nt:∀{b:Addr} {u:HO},H1 b=some u->(∀φ,u≠.ext φ)->del H1 ea b=some u:=λ{b u} e n=>by
  rw[RN (λz=>by rw[z,he] at e;cases e;exact n _ rfl)];exact e
 have sl:∀b o,s1.heap.get? b=some o->b∈I0 (envOfC qual scope s.heap.objs.size f cd::outer)->∃z,h'.get? b=some { o with slots:=z }:=λb o e hb=>by
  obtain⟨_,o',ho',hd⟩:=I.stack.mem hb;rw[e] at ho';cases ho';exact k4 b o e hd
 have un:Un (I0 (envOfC qual scope s.heap.objs.size f cd::outer)) [] H1 (del H1 ea) s1.heap h':=by
  refine⟨λb o e n hb _=>k1 b o (hid e (λz=>by rw[z,he] at n;cases n) hb),λb o e _ hb _=>sl b o e hb,λb o _ n _=>?_,λb o e _=>?_,λb xs e=>nt e (by intro _ z;cases z),λb o u e=>nt e (by intro _ z;cases z),λb ps e=>⟨#[],by rw[nt e (by intro _ z;cases z)];simp⟩⟩
  ·unfold del;split
   ·rfl
   ·exact n
  ·by_cases z:b=ea
   ·rw[z];obtain⟨oe,_,_,_,_,e1,_⟩:=k3;exact⟨_,e1⟩
   ·by_cases hb:b∈I0 (envOfC qual scope s.heap.objs.size f cd::outer)
    ·obtain⟨z,e1⟩:=sl b o e hb;exact⟨_,e1⟩
    ·exact⟨o,k1 b o (hid e z hb)⟩
 have hok:Jc P w (del H1 ea) B:=λb u e=>by
  have nb:b≠ea:=λz=>by rw[z,Qs] at e;cases e
  rw[RN nb] at e;refine(I.hok b u e).stay (λc v hc z=>hid z (λy=>?_) λy=>?_) (λc z=>nt z (by intro _ z;cases z)) λc xs z=>nt z (by intro _ z;cases z)
  ·rcases hc with rfl|hc
   ·exact nb y
   ·rw[y,he] at hc;cases hc
  ·have:=I.stkFree c y;rcases hc with rfl|hc
   ·rw[e] at this;cases this
   ·rw[hc] at this;cases this
 have J:=I.call' (s':={ s1 with heap:=h' }) (ch:=[]) rfl un (hok.kept k1) I.bare (λb z=>nomatch z);refine⟨ea,_,del H1 ea,B,.ref t,d,rfl,⟨J.os,I.bare,J.base,hok,⟨k1,hen,k2,k3⟩,λb o e n hb=>?_,λb o e hb=>?_,⟨_,dj⟩⟩,dj,q⟩
 ·exact hid (I.base.keep b o e n hb (by intro z;cases z)) (λz=>by rw[z,nofs] at e;cases e) (IU I e hb)
 ·obtain⟨o1,e1⟩:=I.base.there b o e (by intro z;cases z);exact⟨o1,hid e1 (λz=>by rw[z,nofs] at e;cases e) (IU I e hb)⟩
end
end
section
open PySem PySem.Spec PyProof.Rows
def ZZ (X:Cx)(E:XK):Prop:=∀(pins:List (Addr×Obj)) (σ:St) (H:Hp) (s:Shared) (ea C:Addr) (d:Option Addr),Inv X pins σ H s->H ea=some (HC ea C d)->X.s₀.heap.objs.size<=ea->E (.ref C) d (del H ea)->X.xe (.ref ea) s
theorem Mp {P:Program}{w:World}{K:PySem.W.Frag}{mg:Str->Option Value}{base:Heap}{N:List Str}{qual:Str}{scope:Scope}{f:Addr}{cd:Value}{A:Around}{outer:List Env}{s:Shared}{H:Hp}{E:XK}:ZZ (Ca (QL P w) P w K mg base N qual scope f cd A outer s H E) E:=
 λ_ _ _ _ _ _ _ I he hn q=>TF I he hn q
theorem OG {P:Program}{w:World}{X:Cx}:Es (QL P w) X E0:=λ_ _ _ _ _ _ _ ⟨_,_,_,_,_,_,_,_,_,z⟩=>False.elim z
def UW (C:Addr)(f:Str):Sp:=λvs H Q _=>∃e y,vs=[.ref e,y]/\H e=some (HC e C none)/\∀dx,H dx=none->Q .non (upd (upd H e (HC e C (some dx))) dx (.xd [(f,y)]))
def Wi (P:Program)(w:World)(K:PySem.W.Frag)(mg:Str->Option Value)(base:Heap)(k:Nat)(x:Str)(C:Addr)(f:Str)(ps:List Str):Prop:=
 ∃(fI:Addr) (fd:FuncData),MkX K C fI/\FnOk P w K mg base CG k fI fd ps (UW C f)/\mg x=some (.ref C)/\Binds K fd ps []
def Xh (C:Addr)(f:Str)(E:XK)(t:TA):TS:=λ_ σ H=>t σ H λvs H1=>∃y,vs=[y]/\∀dx,H1 dx=none->E (.ref C) (some dx) (upd H1 dx (.xd [(f,y)]))
variable {X:Cx}{E:XK}{x:Str}{C:Addr}{f:Str}{ps:List Str}{k:Nat}{e:Expr}{t:TA}{np cpos pos:Pos}
theorem N6 (R:ZZ X E)(hc:X.calm=true)(D:Wi X.prog X.w X.K X.mg X.base k x C f ps)(hr:Room (k+1) X.A)(hg:Gl X x)(ha:PA X [e] t)(hdb:(x == ("__debug__":Str))=false:=by decide)(he:starEach [e] X.env=[(false,eval e X.env)]:=by rfl) :
  PS X (.Raise (some (.Call (.Name x np) [e] [] cpos)) none pos) (Xh C f E t):=by
 intro pins s σ H Dn I h;obtain⟨fI,fd,M,F,hm,hb⟩:=D;rw[arm_exec_Raise];refine bD (fg (Tu (K:=X.K) (I.ok.hd hc) (bD ?_)));refine dF (GS I hg hm ?_ hdb);refine fc (h₀:=X.base) I.ok.mod.kin M.kp (A7 (ha cpos pins s σ H _ I h) λus s1 ⟨vs,H1,I1,r,y,ev,q⟩=>⟨I1.kIn,?_⟩) he rfl;subst ev;have hl2:us.length<=sizeLine:=by rw[<-r.length,eJ];show 1<=_;decide
 have h1:=I1.hok.fresh (eC s1.heap.objs.size);refine A7 (Wr (Q:=λv H2=>v=.ref (s1.heap.objs.size+1)/\∃dx,H2 (s1.heap.objs.size+1)=some (HC (s1.heap.objs.size+1) C (some dx))/\E (.ref C) (some dx) (del H2 (s1.heap.objs.size+1))) M F hr hb NP hl2 I1 r ⟨_,y,rfl,Ae,λdx hd=>⟨rfl,rfl,dx,?_,?_⟩⟩) λv s2 z=>?_
 ·have nd:s1.heap.objs.size+1≠dx:=λz=>by rw[<-z,Ae] at hd;cases hd
  rw[Ag nd,Ae]
 ·have nd:dx≠s1.heap.objs.size+1:=λz=>by rw[z,Ae] at hd;cases hd
  rw[Ag nd] at hd;have eq:del (upd (upd (upd H1 (s1.heap.objs.size+1) (HC (s1.heap.objs.size+1) C none)) (s1.heap.objs.size+1) (HC (s1.heap.objs.size+1) C (some dx))) dx (.xd [(f,y)])) (s1.heap.objs.size+1)=upd H1 dx (.xd [(f,y)]):=by
   funext b
   by_cases e1:b=s1.heap.objs.size+1
   ·rw[e1,Qs,Ag (Ne.symm nd)];exact h1.symm
   ·rw[RN e1]
    by_cases e2:b=dx
    ·rw[e2,Ae,Ae]
    ·rw[Ag e2,Ag e1,Ag e1,Ag e2]
  rw[eq];exact q dx hd
 ·obtain⟨v',H2,I2,rv,ev,dx,h2,q2⟩:=z;subst ev;obtain rfl:v=.ref (s1.heap.objs.size+1):=rv;obtain⟨⟨t2,ob⟩,_,_⟩:AX X.prog X.w H2 s2.heap (s1.heap.objs.size+1) (HC (s1.heap.objs.size+1) C (some dx)):=I2.hok _ _ h2;refine bD (fg (bG ⟨_,C,t2,some dx,rfl,I2.kIn,M.ex,ob,R pins σ H2 s2 _ C _ I2 h2 ?_ q2⟩));obtain⟨m,⟨oL,_,_,hoL,_⟩,_⟩:=id I1.loc;exact gG (hW I1.ok.above (d4 (bU hoL)))
def XR (P:Program)(w:World)(K:PySem.W.Frag)(mg:Str->Option Value)(base:Heap)(k:Nat)(x:Str)(ps:List Str)(sp:Sp):Prop:=
 ∃(f:Addr) (fd:FuncData),FnOk P w K mg base (QL P w) k f fd ps sp/\mg x=some (.ref f)/\PySem.W.keepIn K (.ref f)=true/\Binds K fd ps []
theorem Fun.okE {P:Program} {w:World} {K:PySem.W.Frag} {mg:Str->Option Value} {base:Heap} {x qual:Str} {st:Stmt} {f:Addr} {fd:FuncData} {N ps:List Str} {k:Nat} {sp:Sp} (F:Fun K x qual st f fd) (S:FnScope N ps (Ah st)) (len:∀vs H Q E,sp vs H Q E->vs.length=ps.length)
  (hbody:∀(cdv:Value) (A:Around) (outer:List Env) (s:Shared) (H:Hp) (vs:List V) (Q:VK) (E:XK),Room k (A.deeper (envOfC qual (Ah st) s.heap.objs.size f cdv))->sp vs H Q E->
   ∃t,Pb (Ca (QL P w) P w K mg base N qual (Ah st) f cdv A outer s H E) (Ao st) t/\t { nx:=λ_ H'=>Q .non H',rt:=Q } (start N vs) H):FnOk P w K mg base (QL P w) (k+1) f fd ps sp:=by
 obtain⟨oc,od,kV,doc,pm,an,cdv,ct,osl,rfl,lk,hcd⟩:=F.ex;exact Xt lk hcd S len λA outer s H vs Q E hr hsp=>hbody cdv A outer s H vs Q E hr hsp
end
section
open PySem PySem.Spec PyProof.Rows
variable {X:Cx}{k:Nat}{x:Str}{ps:List Str}{sp:Sp}{E:XK}{e:Expr}{es:List Expr}{t:TA}{p pos:Pos}
theorem Yo (D:XR X.prog X.w X.K X.mg X.base k x ps sp) (hr:Room k X.A) (hg:Gl X x) (hx:Es (QL X.prog X.w) X E) (ha:PA X (e::es) t)
  (hdb:(x == ("__debug__":Str))=false:=by decide) (he:starEach (e::es) X.env=(false,eval e X.env)::starEach es X.env:=by rfl) (hpl:(backTo pos (starEach es X.env)).any (·.1)=false:=by rfl) :
  PE X (.Call (.Name x p) (e::es) [] pos) (PP sp [] E t):=by
 obtain⟨f,fd,F,hm,hk,hb⟩:=D;exact RV F hr hg hm hk hb .nil hx ha hdb he hpl
abbrev Y8:=Value->Option Addr->St->Hp->Prop
abbrev Sa:=Ends->Y8->St->Hp->Prop
def Z1 (X:Cx)(pins:List (Addr×Obj))(Ex:Y8)(e:Value)(s':Shared):Prop:=
 ∃(ea:Addr) (cls:Value) (σ':St) (H1 H':Hp) (s1:Shared) (B:Heap) (a0:Value) (d:Option Addr),e=.ref ea/\Inv X pins σ' H1 s1/\Fly X.prog X.w X.stack H1 s1 ea cls H' B a0 s'/\DictAt s'.heap ea d/\Ex cls d σ' H'
def ZP (X:Cx)(st:Stmt)(t:Sa):Prop:=
 ∀(pins:List (Addr×Obj)) (s:Shared) (σ:St) (H:Hp) (D:Ends) (Ex:Y8),Inv X pins σ H s->t D Ex σ H->wpAny (model X.prog X.w) X.A (exec st X.env) (SP X pins D) (Z1 X pins Ex) s
def Qx (X:Cx)(st:List Stmt)(t:Sa):Prop:=
 ∀(pins:List (Addr×Obj)) (s:Shared) (σ:St) (H:Hp) (D:Ends) (Ex:Y8),Inv X pins σ H s->t D Ex σ H->wpAny (model X.prog X.w) X.A (execs st X.env) (SP X pins D) (Z1 X pins Ex) s
def X2 (X:Cx)(e:Expr)(t:(Value->Option Addr->Hp->Prop)->TE):Prop:=
 ∀(pins:List (Addr×Obj)) (s:Shared) (σ:St) (H:Hp) (Q:VK) (Ex:Value->Option Addr->Hp->Prop),Inv X pins σ H s->t Ex σ H Q->wpAny (model X.prog X.w) X.A (eval e X.env) (EP X pins σ Q) (Z1 X pins λcls d σ' H'=>σ'=σ/\Ex cls d H') s
theorem UD {pins:List (Addr×Obj)}{σ:St}{Ex:Y8}{v:Value}{s:Shared}(h:Z1 X pins (λcls d σ' H'=>σ'=σ/\Ex cls d σ H') v s):Z1 X pins Ex v s:=by
 obtain⟨ea,cls,σ',H1,H',s1,B,a0,d,h1,h2,h3,h4,h5,h6⟩:=h;subst h5;exact⟨ea,cls,_,H1,H',s1,B,a0,d,h1,h2,h3,h4,h6⟩
def ZM (i:Nat)(te:(Value->Option Addr->Hp->Prop)->TE):Sa:=λD Ex σ H=>te (λcls d H'=>Ex cls d σ H') σ H λx H1=>D.nx (σ.set i (some x)) H1
theorem WM {i:Nat} {y:Str} {te:(Value->Option Addr->Hp->Prop)->TE} {pos':Pos} (hN:X.N.Nodup) (hi:X.N[i]?=some y) (hy:Loc X.env.scope y) (he:X2 X e te) (hs:swapsWith e (some (.Name y pos')) pos.line X.env=pure false:=by rfl)
  (hf:X.fn y=true\/X.env.scope.names.lookup y=some .local:=by first|exact .inl rfl|exact .inr rfl|assumption):ZP X (.Assign [.Name y pos'] e pos) (ZM i te):=by
 intro pins s σ H D Ex I h;refine wpAny_Assign_Name (cD (he pins s σ H _ _ I h) (λv s1 ⟨y,H1,I1,r1,q1⟩=>?_) λ_ _ z=>UD z) hs;exact HS I1 hN hi hy r1 (λs2 I2=>⟨_,H1,I2,q1⟩) hf
theorem MP {st:Stmt}{u:Sa}(h1:ZP X st u):Qx X [st] u:=by
 intro pins s σ H D Ex I h;refine fQ (A7 (h1 pins s σ H D Ex I h) λf s1 q=>?_);cases f with
 |next=>exact eP q
 |ret v=>exact q
 |brk=>exact q
 |cont=>exact q
end
section
open PySem PySem.Spec PyProof.Rows
variable {X:Cx}{pins:List (Addr×Obj)}{σ:St}{H:Hp}{s:Shared}
variable {x n:Str}{c:Value}{body orelse suite:List Stmt}{b₀:Stmt}{np hpos pos:Pos}{i:Nat}
def Wm (K:PySem.W.Frag)(c:Value)(i:Nat)(tb:Sa)(te:TS)(ts:Addr->TS):TS:=λD σ H=>tb { D with nx:=te D } (λcls d σ' H'=>PySem.W.exmOne K cls c=some true/\∃C:Addr,cls=.ref C/\∀ea,H' ea=none->
 ts ea { nx:=λσ H=>D.nx (σ.set i none) H,rt:=D.rt,bk:=λσ H=>D.bk (σ.set i none) H,ct:=λσ H=>D.ct (σ.set i none) H } (σ'.set i (some (.ref ea))) (upd H' ea (HG ea C d))) σ H
theorem S6 {tb:Sa} {te:TS} {ts:Addr->TS} (hst:X.stack=X.env::X.outer/\X.env.frame=some X.env.locals) (hm:X.mg x=some c) (hg:Gl X x) (hN:X.N.Nodup) (hi:X.N[i]?=some n) (hk:X.env.scope.names.lookup n=some .local) (hb:Qx X body tb) (he:Pb X orelse te) (hs:∀ea:Addr,Pb (X.held (.ref ea)) (b₀::suite) (ts ea))
  (hd:(x == ("__debug__":Str))=false:=by decide):PS X (.Try body [.ExceptHandler (some (.Name x np)) (some n) (b₀::suite) hpos] orelse [] pos) (Wm X.K c i tb te ts):=by
 intro pins s σ H D I h;refine wpAny_Try_except (cD (hb pins s σ H _ _ I h) (λf s1 q=>?_) λe s1 q=>?_)
 ·cases f with
  |next=>
   obtain⟨σ',H',I',q⟩:=q;exact he pins s1 σ' H' D I' q
  |ret v=>exact q
  |brk=>exact q
  |cont=>exact q
 ·obtain⟨ea,cls,σ',H1,H',s2,B,a0,d,rfl,I2,F,dj,hx,C,hC,q⟩:=q;subst hC;have hfr:=I.ok.frames;have fl:=F.fl;rw[hst.1] at hfr fl;refine(JP _ _).also dj (wpAny_looks_onW hfr hst.2 fl λh4 held4 up4 dj4=>?_);refine(Hi _ _).also dj4 (wpAny_landsW held4 λh5 fl5 up5 dj5=>?_);have J5:=I2.landed F fl5.1 (up4.trans up5);refine wpAny_handleBy_cons (codeAny_handlers_test (GS (J5.held (.ref ea)) hg hm ?_ hd)) (by intro z;cases z);obtain⟨ob,hob,hcls⟩:=fl5.there;have LT:PySem.W.Looks (model X.prog X.w) h5 (typeOf (.ref ea)) (.ref C):=by
   rw[<-hcls];exact(PySem.W.Looks.ld hob).andThen .now
  refine(PySem.W.exm_one J5.kIn LT hx).here ?_;refine codeAny_handlers_suite_as ((Hi _ _).also dj5 (lands_againW fl5 λh6 fl6 up6 dj6=>?_));have J6:=I2.landed F fl6.1 ((up4.trans up5).trans up6);have J7:=I2.knowD F J6 fl6.2.2.2 dj6;refine HS (v:=.ref ea) J7 hN hi (.inl hk) rfl (λs8 I8=>?_) (.inr hk);refine cD (hs ea pins s8 _ _ _ (I8.held (.ref ea)) (q ea F.free)) (λf s9 z=>?_) λ_ _ z=>False.elim z
  have z':=z.unheld J7;cases f with
  |next=>
   obtain⟨σ9,H9,I9,q9⟩:=z';exact LD I9 hN hi hk λs10 I10=>⟨_,_,I10,q9⟩
  |brk=>
   obtain⟨σ9,H9,I9,q9⟩:=z';exact LD I9 hN hi hk λs10 I10=>⟨_,_,I10,q9⟩
  |cont=>
   obtain⟨σ9,H9,I9,q9⟩:=z';exact LD I9 hN hi hk λs10 I10=>⟨_,_,I10,q9⟩
  |ret u=>
   obtain⟨v,σ9,H9,I9,r9,q9⟩:=z';exact LD I9 hN hi hk λs10 I10=>⟨v,_,_,I10,r9,q9⟩
end
section
open PySem PySem.Calls PyProof.Rows PySem.W Builtin Builtin.ObjectAttr Builtin.Getset_descriptor
variable {prog:Program}{w:World}{A:Around}{E:Value->Shared->Prop}{K:Frag}{e D:Addr}{oe od:Obj}{name:Str}{v:Value}{s:Shared}
theorem T6 {tk:Tok}{Q:Fin->Shared->Prop}(k:K.In s.heap)(I:InstAt s.heap e oe D (some od))(hf:findObj K D (some od) name=some (.value v))(q:Q (.done (.ret v)) s) :
  wpAny (model prog w) A (Builtin.«object.__getattribute__» ⟨[.ref e,.str name tk],[]⟩) Q E s:=by
 have T0:=I.type (M:=model prog w);have T1:=looks_find (M:=model prog w) k I hf;have s0:slotArgs "__getattribute__" 1 ⟨[.ref e,.str name tk],[]⟩=pure (Value.ref e,[Value.str name tk]):=by kernel_rfl
 have s1:attrName (.str name tk)=pure name:=by kernel_rfl
 simp only[Builtin.«object.__getattribute__»,s0];refine bD (bG ?_);dsimp only;rw[s1];refine bD (bG (bD (T0.here (bD (T1.here ?_)))));exact bG q
theorem WY {expr:Bool}{Q:Value->Shared->Prop}(k:K.In s.heap)(I:InstAt s.heap e oe D (some od))(z:IsExc s.heap e D)(c:ExcCls K D)(hf:findObj K D (some od) name=some (.value v))(hh:handedIn v=true)(q:Q v { s with toks:=s.toks+1 }) :
  wpAny (model prog w) A (getAttr (.ref e) name expr) Q E s:=by
 obtain⟨h1,g1,d1,t1,o1⟩:=s;have T0:=I.type (M:=model prog w);have T1:=gr (M:=model prog w) k c.ga;have T2:=gr (M:=model prog w) k c.gg;have B:=F.excAttr_ValueError.ga.bind (.ref e);unfold getAttr getAttrBy;refine bD (wpAny_mkText (cK (bD (T0.at (bD (T1.at ?_))))));have n0:(onTheHeap (Value.ref D)&&Value.builtin "BaseException.__getattribute__" == Value.builtin "object.__getattribute__")=false:=by
  have:(Value.builtin "BaseException.__getattribute__" == Value.builtin "object.__getattribute__")=false:=by decide +kernel
  rw[this];rfl
 dsimp only;rw[bP (by rw[n0];decide)];unfold getAttrByItsOwn hookBefore;rw[bV (by rfl)];refine bD (T2.at (bD (gN (cK ?_))));unfold callGetattribute boundAndCalled;rw[bP (by cases expr<;>decide),B];refine bD (bG ?_);dsimp only;refine eK (dw F.excAttr_ValueError.ga.plain F.entry_bexc_ga ?_);refine NN (s:=⟨h1,g1,d1,t1+1,o1⟩) k z c.mb (T6 (s:=⟨h1,g1,d1,t1+1,o1⟩) k I hf ?_);dsimp only;exact handed_on hh q
end
section
open PySem PySem.Spec PyProof.Rows
variable {X:Cx}{pins:List (Addr×Obj)}{σ:St}{H:Hp}{s:Shared}
def Ze (K:PySem.W.Frag)(ta:TE)(f:Str):TE:=λσ H Q=>ta σ H λx H1=>∃e D dx fs v,x=.ref e/\H1 e=some (HG e D (some dx))/\ExiCls K D/\PySem.W.findIn K (.ref D) f=some none/\H1 dx=some (.xd fs)/\fs.lookup f=some v/\Q v H1
theorem WA {K:PySem.W.Frag}(hK:X.K=K){o:Expr}{f:Str}{pos:Pos}{ta:TE}(he:PE X o ta)(hb:attributeBase o f X.env (eval o X.env)=eval o X.env):PE X (.Attribute o f pos) (Ze K ta f):=by
 subst hK;intro pins s σ H Q I h;refine Si hb (A7 (he pins s σ H _ I h) λu s1 z9=>?_);obtain⟨x,H1,I1,rx,e,D,dx,fs,v,ex,ee,c,n,hd,l,q⟩:=z9;subst ex;obtain rfl:u=Value.ref e:=rx;obtain⟨⟨z,oe,q1,hde,_⟩,_,_⟩:AX X.prog X.w H1 s1.heap e (HG e D (some dx)):=I1.hok e _ ee;obtain⟨mA,ns,r⟩:AX X.prog X.w H1 s1.heap dx (.xd fs):=I1.hok dx _ hd;obtain⟨od,ho,hl⟩:=Nt ns;obtain⟨u,hu,ru⟩:=FB.some_of (v:=v) (o:=mA f) (by rw[<-l];exact r f);obtain⟨oe2,q2,hc,vs,hv⟩:=id z.ob;rw[q1] at q2;cases q2;have inst:PySem.W.InstAt s1.heap e oe D (some od):=⟨q1,hc,by unfold PySem.W.notCls;rw[hv],by rw[hde];exact ho⟩
 exact WY I1.kIn inst z c.toExcCls (jo c.hd n rfl (by rw[hl,hu])) (Nq ru) ⟨v,H1,I1.tok _,ru,q⟩
def Yi (K:PySem.W.Frag):List V->Hp->VK->Prop:=λxs H Q=>∃(e D tp:Addr) (d:Option Addr) (cs:List V) (its:List Value) (b:Bool),xs=[.ref e,.ref tp]/\H e=some (HG e D d)/\ExcCls K D/\H tp=some (.tup cs)/\(∀us,AF cs us->us=its)/\PySem.W.kitAny K (.ref D) its=some b/\Q (.bl b) H
theorem QZ {K:PySem.W.Frag}(hK:X.K=K):Ei X (.builtin "isinstance") (Yi K):=by
 subst hK;intro pins s σ H xs us Q I r h;obtain⟨e,D,tp,d,cs,its,b,rfl,he,hc,ht,hv,hk,q⟩:=h;obtain⟨u,v,rfl,ru,rv⟩:=vals2 r;cases(show u=Value.ref e from ru);cases(show v=Value.ref tp from rv);have z:AX X.prog X.w H s.heap e (HG e D d):=I.hok e _ he;obtain⟨_,us,r1,⟨oc,od,oda,osl⟩,g1,g2,n,g3,_⟩:AX X.prog X.w H s.heap tp (.tup cs):=I.hok tp _ ht;dsimp only at g2 g3;subst g2 g3;cases hv us r1;exact PySem.W.kia_tup hc.kit I.kIn z.1.is g1 hk (λz=>nomatch z) λtk=>⟨.bl b,H,I.tok _,rfl,q⟩
end
end L2
namespace L2
open PySem PySem.Calls PySem.Spec PyProof.Rows PySem.Builtin.Str
end L2
namespace L2
open PySem PySem.Spec PyProof.Rows
end L2
namespace L2
section
open PySem PySem.Spec PyProof.Rows
structure HeldS (X:Cx) (e:Addr) (oe:Obj):Prop where
 hd:X.A.handled=some (.ref e)
 at_:X.s₀.heap.get? e=some oe
 free:X.H₀ e=none
 nfs:e∉X.fs
 nex:e∉X.ex
 fl:LQ oe
structure NowH (h:Heap) (e:Addr) (oe:Obj):Prop where
 at_:h.get? e=some oe
 fl:LQ oe
theorem HeldS.now {X:Cx}{e:Addr}{oe:Obj}(h:HeldS X e oe){pins:List (Addr×Obj)}{σ:St}{H:Hp}{s:Shared}(I:Inv X pins σ H s):NowH s.heap e oe:=⟨I.base.keep e oe h.at_ h.free h.nfs h.nex,h.fl⟩
structure TurnQ (P:Program) (w:World) (K:PySem.W.Frag) (tg:Expr) (J:It) (fp:List Addr) (it:Addr) (tn:Nat->Heap->Prop):Prop where
 mem:it∈fp
 obj:∀i h,tn i h->∀b∈fp,∃o,h.get? b=some o/\∀v,o.data≠.cell v
 keep:∀i h h',tn i h->(∀b∈fp,∀o,h.get? b=some o->h'.get? b=some o)->tn i h'
 item:∀(X:Cx),X.prog=P->X.w=w->X.K=K->∀(i:Nat) (pins:List (Addr×Obj)) (s:Shared) (σ:St) (H:Hp) (E:Value->Shared->Prop),Inv X pins σ H s->(∀b∈fp,Ja X pins H b)->tn i s.heap->J.go i H->
  wpAny (model P w) X.A (pyNext (.ref it)) (λr s1=>∃u,r=some u/\
   wpAny (model P w) X.A (letOwnedTupleGo tg (.ref it) u) (λ_ s2=>∃x H',Inv X pins σ H' s2/\RelV x u/\J.yld i H x H'/\tn (i+1) s2.heap/\∀b∈fp,H' b=none) E s1) E s
 done:∀(X:Cx),X.prog=P->X.w=w->X.K=K->∀(eh:Addr) (oh:Obj),HeldS X eh oh->∀(i:Nat) (pins:List (Addr×Obj)) (s:Shared) (σ:St) (H:Hp) (E:Value->Shared->Prop),Inv X pins σ H s->(∀b∈fp,Ja X pins H b)->tn i s.heap->J.stop i H->
  wpAny (model P w) X.A (pyNext (.ref it)) (λr s1=>r=none/\Inv X pins σ H s1) E s
 self:∀(A:Around) (i:Nat) (s:Shared) (Q:Value->Shared->Prop) (E:Value->Shared->Prop),tn i s.heap->Q (.ref it) s->wpAny (model P w) A (pyIter (.ref it)) Q E s
end
section
open PySem PySem.Spec PyProof.Rows
structure RoomH (k:Nat) (A:Around):Prop where
 dp:A.depth+3*k+5<recursionLimit
 un:A.units+16*k+200<cLine
theorem RoomH.mark {k:Nat}{A:Around}(r:RoomH k A)(e:Option Value):RoomH k (A.mark e):=⟨r.dp,r.un⟩
structure FnOkH (P:Program) (w:World) (K:PySem.W.Frag) (mg:Str->Option Value) (base:Heap) (k:Nat) (f:Addr) (fd:FuncData) (ps:List Str) (sp:Sp):Prop where
 len:∀vs H Q E,sp vs H Q E->vs.length=ps.length
 run:∀(A:Around) (outer:List Env) (s:Shared) (H:Hp) (args:Args) (us:List Value) (vs:List V) (Q:VK) (E:XK) (eh:Addr) (oh:Obj),RoomH k A->Env0 P w K mg base A outer s H->A.handled=some (.ref eh)->s.heap.get? eh=some oh->H eh=none->eh∉I0 outer->LQ oh->BindsTo s fd args (ps.zip us)->AF vs us->sp vs H Q E->
  codeAny (model P w) A (.call (.ref f) args) (CR CG outer P w H s Q E) s
def ZN (P:Program)(w:World)(K:PySem.W.Frag)(mg:Str->Option Value)(base:Heap)(k:Nat)(x:Str)(ps:List Str)(sp:Sp):Prop:=
 ∃(f:Addr) (fd:FuncData),FnOk P w K mg base CG k f fd ps sp/\FnOkH P w K mg base k f fd ps sp/\mg x=some (.ref f)/\PySem.W.keepIn K (.ref f)=true/\Binds K fd ps []
theorem ZN.def {P:Program}{w:World}{K:PySem.W.Frag}{mg:Str->Option Value}{base:Heap}{k:Nat}{x:Str}{ps:List Str}{sp:Sp}(D:ZN P w K mg base k x ps sp):Def P w K mg base k x ps sp:=by
 obtain⟨f,fd,F,_,r⟩:=D;exact⟨f,fd,F,r⟩
variable {X:Cx}{k:Nat}{x:Str}{ps:List Str}{sp:Sp}{e:Expr}{es:List Expr}{t:TA}{p pos:Pos}
end
end L2
namespace L2
section
open PySem PySem.Calls PyProof.Rows
variable {prog:Program}{w:World}{A:Around}{E:Value->Shared->Prop}{s:Shared}
theorem Qo (h:Heap):h.get? h.objs.size=none:=by
 cases e:h.get? h.objs.size with
 |none=>rfl
 |some o=>exact absurd (bU e) (d8 _)
def Yz (S:Addr)(Q:List Value->Shared->Prop)(r:Result)(s':Shared):Prop:=∃acc c,r=.ok (.ret (.ref S))/\s'.heap.get? S=some { cls:=.type "list",dict:=none,data:=.seq acc c,slots:=#[] }/\Q acc.toList s'
theorem Lb {x:Value} {Q:List Value->Shared->Prop} (h:wpAny (model prog w) A.in1 (Builtin.List.listExtendWith (.ref s.heap.objs.size) x (.ref s.heap.objs.size))
   (λfin s'=>match fin with | .done f=>Yz s.heap.objs.size Q (.ok f) s' | .again c'=>c'.quiet=true/\codeAny (model prog w) A c' (Yz s.heap.objs.size Q) s') (λe s'=>Yz s.heap.objs.size Q (.error e) s')
   { s with heap:=s.heap.push { cls:=.type "list",data:=.seq #[] } }):wpAny (model prog w) A (collect x) Q E s:=by
 unfold collect;refine bD (wpAny_runValue (dP PySem.F.entry_proto_collect ?_));rw[eB PySem.F.plain_proto_collect _];refine bD (cY (bG ⟨fh iI _,dP PySem.F.entry_list_iadd ?_⟩));rw[eB iI _];refine cD h (λfin s' z=>?_) (λe s' z=>?_)
 ·cases fin with
  |done f=>
   obtain⟨acc,c,e,hS,q⟩:=z;cases e;exact bD (wpAny_load hS (bG q))
  |again c'=>
   refine⟨z.1,dW z.2 λr s2 z2=>?_⟩;obtain⟨acc,c,rfl,hS,q⟩:=z2;exact bD (wpAny_load hS (bG q))
 ·obtain⟨acc,c,e,_⟩:=z;cases e
theorem Qi {T:String} {r d:Addr} {n:Nat} {P:Nat->Value->Prop} {OK:Heap->Prop} {Q:List Value->Shared->Prop} (S:PySem.W.KdlSrc prog w T r d n P OK) (hh:A.handled=none) (ok:OK s.heap) (hn:n<=sizeLine)
  (q:∀h' tk (vs:List Value),(∀b o,s.heap.get? b=some o->h'.get? b=some o)->vs.length=n->(∀j v,vs[j]?=some v->P j v)->Q vs { s with heap:=h',toks:=tk }):wpAny (model prog w) A (collect (.ref r)) Q E s:=by
 obtain⟨lr,ld⟩:=S.there _ ok;refine Lb (PySem.W.kdl_extend S hh (S.keep _ _ ok λb _ o e=>bH _ e) s.heap.objs.size (gF lr) (gF ld) (.ref s.heap.objs.size) 0 (bR _ rfl) (λh' tk acc c k hS it=>?_) hn);refine⟨acc,c,rfl,hS,q h' tk acc.toList (λb o e=>k b o (cn (bU e)) (bH _ e)) (by rw[dC];exact it.1) λj v e=>it.2 j v (by rw[<-cR];exact e)⟩
theorem NA:Manifest.owners.lookup (String.ofList "rotareti_tes".toList.reverse)=some Manifest.sig_set_iterator:=by kernel_rfl
theorem JU:Slot "set_iterator" "__next__" "set_iterator.__next__":=
 .of (owner:="set_iterator") (n:="__next__") (by rw[typeLookup_type,builtinLookup_eq_fast];kernel_rfl) (by decide +kernel) (by decide +kernel) (by decide +kernel) (by first|exact .inl (by decide +kernel)|exact .inr (by decide +kernel)) (by rw[jg];kernel_rfl)
theorem ND:entryFor table "set_iterator.__next__"=some Builtin.«set_iterator.__next__»:=entryFor_of_fast (by kernel_rfl)
theorem PQ (a:Value):argsOk "set_iterator.__next__" ⟨[a],[]⟩:=by
 unfold argsOk;rw[signature?_of (id:="set_iterator.__next__") (n:="__txen__".toList) (o:="rotareti_tes".toList) (by kernel_rfl) NA]
 kernel_rfl
theorem Mo:entryFor table "set.__iter__"=some Builtin.«frozenset.__iter__»:=entryFor_alias (id':="frozenset.__iter__") (by kernel_rfl) rfl (by decide +kernel) (by kernel_rfl)
theorem Mu {it:Addr} {T id:String} {B:Builtin} {Q:Option Value->Shared->Prop} (slot:Slot T "__next__" id) (hT:s.TypeIs (.ref it) T) (entry:entryFor table id=some B) (args:argsOk id ⟨[.ref it],[]⟩)
  (h:wpAny (model prog w) A.in1 (B ⟨[.ref it],[]⟩) (λfin s'=>∃v,fin=.done (.ret v)/\Q (some v) s') (λ_ _=>False) s):wpAny (model prog w) A (pyNext (.ref it)) Q E s:=by
 unfold pyNext;refine bD (gN (fw (name:=Str.ofString "__next__") hT slot (dq slot hT entry (cD h (λfin s' z=>?_) λ_ _ z=>z.elim) args)));obtain⟨v,rfl,q⟩:=z;exact⟨v,rfl,bG q⟩
theorem LR {it:Addr} {T id:String} {B:Builtin} {Q:Option Value->Shared->Prop} (slot:Slot T "__next__" id) (hT:s.TypeIs (.ref it) T) (entry:entryFor table id=some B) (args:argsOk id ⟨[.ref it],[]⟩)
  (h:wpAny (model prog w) A.in1 (B ⟨[.ref it],[]⟩) (λ_ _=>False) (λx s'=>∃a o,x=.ref a/\s'.heap.get? a=some o/\o.cls=.type "StopIteration"/\Q none s') s):wpAny (model prog w) A (pyNext (.ref it)) Q E s:=by
 unfold pyNext;refine bD (gN (fw (name:=Str.ofString "__next__") hT slot (dq slot hT entry (cD h (λ_ _ z=>z.elim) λx s' z=>?_) args)));obtain⟨a,o,rfl,e,c,q⟩:=z;exact bD (iE (T:="StopIteration") (b:=true) ⟨o,e,c⟩ isSubtype_stop (bG q))
theorem NT {α:Type} {Q:α->Shared->Prop} (hh:A.handled=none)
  (q:∀h' x,(∀b o,s.heap.get? b=some o->h'.get? b=some o)->(∃o,h'.get? x=some o/\o.cls=.type "StopIteration")->E (.ref x) { s with heap:=h' }) :
  wpAny (model prog w) A (newExc (.type "StopIteration") [] >>= raiseNew:Sem α) Q E s:=by
 refine bD ?_;simp only[newExc,newTuple];refine bD (cY ?_ (by size_fits));refine bD (m:=firstArgMember _ _) (ia (a:=Value.none) (by simp only[firstArgMember];rfl) (cY ?_ (by size_fits)));unfold raiseNew;refine bD (wpAny_handled ?_);rw[hh];exact wpAny_throw (q _ _ (λb o z=>bH _ (bH _ z)) ⟨_,bR _ rfl,rfl⟩)
theorem Jh:Slot "set_iterator" "__iter__" "set_iterator.__iter__":=
 .of (owner:="set_iterator") (n:="__iter__") (by rw[typeLookup_type,builtinLookup_eq_fast];kernel_rfl) (by decide +kernel) (by decide +kernel) (by decide +kernel) (by first|exact .inl (by decide +kernel)|exact .inr (by decide +kernel)) (by rw[jg];kernel_rfl)
theorem L6:entryFor table "set_iterator.__iter__"=some Builtin.«dict_keyiterator.__iter__»:=entryFor_alias (id':="dict_keyiterator.__iter__") (by kernel_rfl) rfl (by decide +kernel) (by kernel_rfl)
theorem Nf (a:Value):argsOk "set_iterator.__iter__" ⟨[a],[]⟩:=by
 unfold argsOk;rw[signature?_of (id:="set_iterator.__iter__") (n:="__reti__".toList) (o:="rotareti_tes".toList) (by kernel_rfl) NA]
 kernel_rfl
def Ik (h:Heap)(a:Addr)(es:Array (Int×Value))(ep:Nat)(t:SetTable):Prop:=∃o,h.get? a=some o/\o.cls=.type "set"/\o.data=.set es ep t
def K9 (h:Heap)(it a:Addr)(first:Value)(i n ep:Nat):Prop:=∃o,h.get? it=some o/\o.cls=.type "set_iterator"/\o.data=.fields #[first,rawInt i,.ref a,rawInt n,rawInt ep]
theorem Ik.keep {h h':Heap}{a:Addr}{es:Array (Int×Value)}{ep:Nat}{t:SetTable}(x:Ik h a es ep t)(k:∀o,h.get? a=some o->h'.get? a=some o):Ik h' a es ep t:=let⟨o,e,r⟩:=x;⟨o,k o e,r⟩
theorem K9.keep {h h':Heap}{it a:Addr}{f:Value}{i n ep:Nat}(x:K9 h it a f i n ep)(k:∀o,h.get? it=some o->h'.get? it=some o):K9 h' it a f i n ep:=let⟨o,e,r⟩:=x;⟨o,k o e,r⟩
theorem K9.typeIs {it a:Addr}{f:Value}{i n ep:Nat}(x:K9 s.heap it a f i n ep):s.TypeIs (.ref it) "set_iterator":=let⟨o,e,c,_⟩:=x;⟨o,e,c⟩
theorem K9.self {it a:Addr}{f:Value}{i n ep:Nat}{Q:Value->Shared->Prop}(x:K9 s.heap it a f i n ep)(q:Q (.ref it) s):wpAny (model prog w) A (pyIter (.ref it)) Q E s:=by
 refine iy x.typeIs Jh (dq Jh x.typeIs L6 ?_ (Nf _));exact bG ⟨_,rfl,"set_iterator",_,x.typeIs,JU.lookup,q⟩
theorem HY {a:Addr}{es:Array (Int×Value)}{ep:Nat}{t:SetTable}{Q:Array (Int×Value)->Shared->Prop}(x:Ik s.heap a es ep t)(f:t.fits es.size=true)(q:Q es s):wpAny (model prog w) A (setEntries a) Q E s:=
 let⟨_,e,_,d⟩:=x;wpAny_setEntries_of e d f q
end
end L2
namespace L2
section
open PySem PySem.Calls PyProof.Rows
variable {prog:Program}{w:World}{A:Around}{E:Value->Shared->Prop}{s:Shared}
theorem IP {it:Addr} {vs:Array Value} {k:Nat} {x:Value} {Q:Unit->Shared->Prop} {o:Obj} (ho:s.heap.get? it=some o) (hc:o.cls=.type "set_iterator") (hd:o.data=.fields vs) (hk:k<vs.size)
  (q:∀h' o',h'.get? it=some o'->o'.cls=.type "set_iterator"->o'.data=.fields (vs.setIfInBounds k x)->(∀b o,b∉[it]->s.heap.get? b=some o->h'.get? b=some o)->Q () { s with heap:=h' }):wpAny (model prog w) A (setField (.ref it) k x) Q E s:=
 wpAny_setField ho hd hk (q _ _ (cU _ ho (Obj.isFreed_of_fields (gy hd _))) ((Obj.cls_mapFields ..).trans hc) (gy hd _) λb o hb e=>(cQ _ _ (λz=>hb (by simp[z]))).trans e)
theorem Tb (hh:A.handled=none) (I a:Addr) (hne:a≠I) (xs:List Value) (sl:Nat->Nat) (es:Array (Int×Value)) (ep:Nat) (t:SetTable) (f:t.fits es.size=true) (hn:es.size=xs.length)
  (nx:∀(i:Nat) (A:Around) (E:Value->Shared->Prop) (s:Shared) (Q:Option (Value×Nat)->Shared->Prop),i<=xs.length->Ik s.heap a es ep t->Q (xs[i]?.map λv=>(v,sl (i+1))) s->wpAny (model prog w) A (setNext a (sl i) i ep) Q E s) :
  Walks prog w A I [I,a] [I] xs.length (λi v=>xs[i]?=some v) (λi h=>K9 h I a (rawInt (sl i)) i xs.length ep/\Ik h a es ep t) where
 sub:=λb z=>by simp at z;simp[z]
 frame:=λ_ _ _ st k=>⟨st.1.keep λo e=>k I (by simp) o e,st.2.keep λo e=>k a (by simp) o e⟩
 self:=λ_ _ _ _ st q=>st.1.self q
 item:=λi s Q E hi st qq=>by
  refine Mu JU st.1.typeIs ND (PQ _) ?_;obtain⟨o,ho,hc,hd⟩:=st.1;unfold Builtin.«set_iterator.__next__»;refine bD (bG ?_);dsimp only;refine bD (ib ho hd ?_);refine bD (m:=setEntries a) (HY st.2 f ?_);rw[bP (by rw[hn];simp)];refine bD (m:=setNext a (sl i) i ep) (nx i _ _ _ _ (gG hi) st.2 ?_);obtain⟨v,hv⟩:∃v,xs[i]?=some v:=⟨xs[i],by simp[hi]⟩
  rw[hv];dsimp only[Option.map];refine bD (IP ho hc hd (by simp) λh1 o1 e1 c1 d1 k1=>?_);refine bD (IP e1 c1 d1 (by simp) λh2 o2 e2 c2 d2 k2=>?_);exact bG ⟨v,rfl,qq v h2 s.toks hv ⟨⟨o2,e2,c2,d2⟩,st.2.keep λo e=>k2 a o (by simp[hne]) (k1 a o (by simp[hne]) e)⟩ λb o hb e=>k2 b o hb (k1 b o hb e)⟩
 done:=λs Q E st hQ=>by
  refine LR JU st.1.typeIs ND (PQ _) ?_;obtain⟨o,ho,hc,hd⟩:=st.1;unfold Builtin.«set_iterator.__next__»;refine bD (bG ?_);dsimp only;refine bD (ib ho hd ?_);refine bD (m:=setEntries a) (HY st.2 f ?_);rw[bP (by rw[hn];simp)];refine bD (m:=setNext a (sl xs.length) xs.length ep) (nx xs.length _ _ _ _ (bI _) st.2 ?_);rw[cH (bI _)];dsimp only[Option.map];refine bD (IP ho hc hd (by simp) λh1 o1 e1 c1 d1 k1=>?_);refine NT hh λh2 x k2 ⟨ox,ex,cx⟩=>⟨x,ox,rfl,ex,cx,hQ h2 s.toks λb o hb e=>k2 b o (k1 b o hb e)⟩
theorem QE {α:Type}:∀{l:List α} {i:Nat} (h:i<l.length),(l[i]::l.eraseIdx i).Perm l
 |x::r,0,_=>List.Perm.refl _
 |x::r,i+1,h=>by
  have z:=QE (l:=r) (i:=i) (by simpa using h);exact(List.Perm.swap ..).trans (List.Perm.cons x z)
theorem Sq {α:Type}(next:Nat->Nat):∀(fuel k:Nat) (left:List α) (out:Array α),fuel=left.length->(pickOrder.go next fuel k left out).toList.Perm (out.toList++left)
 |0,k,left,out,h=>by
  have e:left=[]:=iN.mp h.symm;subst e;unfold pickOrder.go;rw[cW]
 |fuel+1,k,left,out,h=>by
  unfold pickOrder.go;have hi:next k%left.length<left.length:=Nat.mod_lt _ (by omega);rw[bF hi];dsimp only;refine(Sq next fuel _ _ _ (by rw[List.length_eraseIdx_of_lt hi];omega)).trans ?_;rw[Array.toList_push,d6];exact List.Perm.append_left _ (QE hi)
theorem Sz {α:Type}(next:Nat->Nat)(xs:Array α):(pickOrder next xs).toList.Perm xs.toList:=by
 unfold pickOrder;exact Sq next _ _ _ _ (by simp)
def Bt (w:World):Bool:=w.params.followText "set-order"
theorem UM {a:Addr}{Q:Bool->Shared->Prop}(hT:s.TypeIs (.ref a) "set")(q:Q false s):wpAny (model prog w) A (Builtin.List.listLengthHint (.ref a)) Q E s:=by
 unfold Builtin.List.listLengthHint;refine bD (gc hT PySem.F.slot_set_len.lookup ?_);generalize e0:("set.__len__":String)=d0
 wp_delta
 rw[show splitId d0=some ("set","__len__") from by subst e0;decide +kernel];subst e0;refine bD (iE (T:="set") (b:=true) hT (by rw[jg];kernel_rfl) ?_);refine eO (λc=>absurd c (by decide)) (λ_=>eO (λ_=>?_) (λc=>absurd (by decide +kernel) c));exact bD (gR hT (bG q))
theorem Rn {xs:List Value}{acc:Array Value}(z:ItemsOf (λi v=>xs[i]?=some v) acc xs.length):acc.toList=xs:=by
 refine dH λi=>?_
 rw[cR];cases e:acc[i]? with
 |some v=>exact(z.2 i v e).symm
 |none=>
  have:acc.size<=i:=by simpa using e
  rw[z.1] at this;exact(cH this).symm
end
end L2
namespace L2
section
open PySem PySem.Calls PyProof.Rows
variable {prog:Program}{w:World}{A:Around}{E:Value->Shared->Prop}{s:Shared}
theorem Vs (x:Value){Q₁:Value->Shared->Prop}(q:Q₁ (.ref s.heap.objs.size) { s with heap:=s.heap.push { cls:=.type "set",dict:=none,data:=.set #[] 0 (.fresh 0 0 (!Bt w)) } }) :
  codeAny (model prog w) A (.call (.builtin "set.__new__") ⟨[.type "set",x],[]⟩) (wants Q₁ E) s:=by
 refine gZ ?_;refine bD (m:=checkBuiltinCall "set.__new__" ⟨[.type "set",x],[]⟩) (ia (PySem.F.newCall_set_1 x) (bG ⟨fh i7 _,dP PySem.F.entry_set_new ?_⟩));rw[eB i7 _];unfold Builtin.«set.__new__»;unfold Builtin.Frozenset.newClass;have hsub:=sub_set_self;obtain⟨hp,g,d,tk,os⟩:=s;dsimp only
 wp_walk
 refine fR (bG ?_);dsimp only;simp only[newObj];exact bD (wpAny_alloc (bG (bG q)))
end
end L2
namespace L2
end L2
namespace L2
section
open PySem PySem.Calls PyProof.Rows
variable {X:Cx}{pins:List (Addr×Obj)}{σ:St}{H:Hp}{s:Shared}
theorem Sn:∀{kvs:List (Key×V)} {vs:List (Key×Value)},KV kvs vs->vs.map (·.1)=kvs.map (·.1)
 |_,_,.nil=>rfl
 |_,_,.cons h t=>by rw[bX,bX,Sn t,h.1]
end
end L2
namespace L2
open PySem
end L2
namespace L2
open PySem PySem.Spec PyProof.Rows
theorem Py {prog:Program} {w:World} {A:Around} {E:Value->Shared->Prop} {s:Shared} {t sl:Addr} {items:Array Value} {vl vu:Value} {lo hi:Option Int} {Q:Value->Shared->Prop} (ht:IsTup s.heap t items) (hs:s.heap.IsSliceOf sl vl vu .none) (pl:IsPart vl lo) (pu:IsPart vu hi)
  (w0:HT.CD items.size 0 lo=0) (w1:HT.CD items.size items.size hi=items.size) (h:Q (.ref t) s):wpAny (model prog w) A (getItem (.ref t) (.ref sl)) Q E s:=by
 obtain⟨os,hos,hcs,hds⟩:=id hs;have hTs:s.TypeIs (.ref sl) "slice":=⟨os,hos,hcs⟩
 have hT:=ht.typeIs;unfold getItem
 try with_reducible refine cK ?_
 first|refine bD (bG ?_)|skip
 refine bD (wpAny_sequenceKey ht.typeIs (by decide) ?_);refine bD (fw (name:=Str.ofString "__getitem__") ht.typeIs d9
  (dq d9 ht.typeIs entry_tuple_getitem ?_ (args_tuple_getitem _ _)))
 show wpAny _ _ (Builtin.Tuple.tupleItemsOf (.ref t) >>= _) _ _ s;refine bD (tupleItemsOf_ ht ?_);refine bD (gR hTs ?_);rw[bV (by decide)];refine bD (HT.GI hs pl pu ?_);have hyes:(((HT.CD items.size 0 lo:Nat):Int) == 0&&(1:Int) == 1&&(HT.CD items.size items.size hi-HT.CD items.size 0 lo) == items.size)=true:=by
  rw[w0,w1];simp
 show wpAny _ _ (if(((HT.CD items.size 0 lo:Nat):Int) == 0&&(1:Int) == 1&&(HT.CD items.size items.size hi-HT.CD items.size 0 lo) == items.size)=true then _ else _) _ _ s;rw[bV hyes];refine bD (m:=Builtin.Tuple.tupleIsExact _) ?_;unfold Builtin.Tuple.tupleIsExact;refine bD (gR hT (bG ?_));rw[bV (by decide)];exact bD (gS (bG ⟨_,rfl,bG h⟩))
section
variable {X:Cx}
def ZE (K:PySem.W.Frag):V->Option Int->Option Int->Hp->VK->Prop:=λx lo hi H Q=>∃a xs,x=.ref a/\AS K H a xs/\
 ((HT.CD xs.length 0 lo=0/\HT.CD xs.length xs.length hi=xs.length)->Q (.ref a) H)/\(¬(HT.CD xs.length 0 lo=0/\HT.CD xs.length xs.length hi=xs.length)->∀p,H p=none->Q (.ref p) (upd H p (.tup (FI xs lo hi))))
theorem WW:Za X (ZE X.K):=by
 intro pins s σ H x v vl vu lo hi sl Q I rx hs pl pu h;obtain⟨a,xs,rfl,hx,q1,q2⟩:=h
 by_cases hw:HT.CD xs.length 0 lo=0/\HT.CD xs.length xs.length hi=xs.length
 ·cases rx;obtain⟨its,r,ht,hz⟩:=I.tuple hx;have hlen:its.toArray.size=xs.length:=by rw[cq];exact r.length.symm
  refine⟨"tuple",_,PyProof.Rows.slot_tuple_getitem.lookup,ht.typeIs,?_⟩;exact Py ht hs pl pu (by rw[hlen];exact hw.1) (by rw[hlen];exact hw.2) ⟨.ref a,H,I,rfl,q1 hw⟩
 ·exact O1 pins s σ H _ v vl vu lo hi sl Q I rx hs pl pu ⟨a,xs,rfl,hx,hw,q2 hw⟩
end
theorem Hr:∀{ns:List Int} {its:List Value},IntsAre its ns->AF (ns.map V.int) its
 |[],_,.nil=>.nil
 |_::_,_,.cons n t h=>.cons ⟨_,rfl⟩ (Hr h)
def YK (K:PySem.W.Frag):List V->Hp->VK->Prop:=λxs H Q=>∃(a:Addr) (ns:List Int),xs=[.ref a]/\AQ K H a (ns.map V.int)/\ns.length<64/\∀(ms:List Int) (p:Addr),ms.Perm ns->ms.Pairwise (·<=·)->H p=none->Q (.ref p) (upd H p (.lst (ms.map V.int)))
theorem QY {X:Cx}{K:PySem.W.Frag}(hK:X.K=K):Ei X (.builtin "sorted") (YK K):=by
 subst hK;intro pins s σ H xs us Q I r h;obtain⟨a,ns,rfl,h1,few,q⟩:=h;obtain⟨u,rfl,ru⟩:=vals1 r;cases ru;obtain⟨its,r1,p1,_⟩:=I.list h1;have hs:=intsAre_of r1;have hl:=IntsAre.length hs;refine sorted_ints p1.isList hs (by omega) λout ns' a1 a2 a3=>?_
 obtain⟨e,he⟩:=sortedAll_at s.heap its out;have lp:s.heap.objs.size<=s.heap.objs.size+1:=eC _;refine⟨.ref (s.heap.objs.size+1),_,I.laid (t':=s.toks) (o:=.lst (ns'.map V.int)) (λb o y=>sortedAll_old y) lp ?_,rfl,q ns' _ a2 a3 (I.hok.fresh lp)⟩;refine⟨?_,out.toList,e,Hr a1,he⟩;rw[bE,a2.length_eq,eJ];omega
end L2
namespace L2
section
open PySem PySem.Calls PyProof.Rows
variable {prog:Program}{w:World}{A:Around}{E:Value->Shared->Prop}{s:Shared}{it d:Addr}{i ep:Nat}{es:Array DictEntry}
def KZ (h:Heap)(d:Addr)(es:Array DictEntry)(ep:Nat):Prop:=∃o,h.get? d=some o/\o.ExactDict/\o.data=.dict es ep
theorem KZ.ty (x:KZ s.heap d es ep):s.TypeIs (.ref d) "dict":=let⟨o,ho,hc,_⟩:=x;⟨o,ho,hc.1⟩
theorem KZ.at {h h':Heap}(x:KZ h d es ep)(k:∀o,h.get? d=some o->h'.get? d=some o):KZ h' d es ep:=let⟨o,ho,r⟩:=x;⟨o,k o ho,r⟩
theorem NV {Q:Value->Shared->Prop} (hd:(d == sysModules)=false) (x:KZ s.heap d es ep)
  (q:Q (.ref s.heap.objs.size) { s with heap:=s.heap.push { cls:=.type "dict_keyiterator",data:=.fields #[.ref d,.int 0 0,.int es.size 0,.int ep 0] } }):wpAny (model prog w) A (pyIter (.ref d)) Q E s:=by
 obtain⟨o,ho,_,hx⟩:=id x;refine iy x.ty iR (dq iR x.ty PySem.F.entry_dict_iter ?_ (PySem.F.args_dict_iter_1 _));refine bD (bD (wpAny_notOrdered_dict x.ty (bG ?_)));refine bD (m:=Builtin.Dict.addrOf (.ref d)) (bG (bD (m:=Builtin.Dict.showsAll d) ?_));unfold Builtin.Dict.showsAll;rw[bP (λz=>bN (hd.symm.trans z))];refine bG (bD (iz ho hx (bD (iP ho hx (bD (cY (bG ⟨_,rfl,"dict_keyiterator",_,⟨_,bR _ rfl,rfl⟩,PySem.F.slot_dict_keyiterator_next.lookup,?_⟩)))))));exact q
theorem Nv {vs:Array Value} {k:Nat} {x c:Value} {Q:Unit->Shared->Prop} {o:Obj} (ho:s.heap.get? it=some o) (hc:o.cls=c) (hd:o.data=.fields vs) (hk:k<vs.size)
  (q:∀h' o',h'.get? it=some o'->o'.cls=c->o'.data=.fields (vs.setIfInBounds k x)->(∀b o,b≠it->s.heap.get? b=some o->h'.get? b=some o)->Q () { s with heap:=h' }):wpAny (model prog w) A (setField (.ref it) k x) Q E s:=
 wpAny_setField ho hd hk (q _ _ (cU _ ho (Obj.isFreed_of_fields (gy hd _))) ((Obj.cls_mapFields ..).trans hc) (gy hd _) λb o hb e=>(cQ _ _ (Ne.symm hb)).trans e)
theorem N4 {Q:Option Value->Shared->Prop} (st:s.heap.IsKeyIter it d i es.size ep) (x:KZ s.heap d es ep) (hi:i<es.size)
  (q:∀h',h'.IsKeyIter it d (i+1) es.size ep->(∀b o,b≠it->s.heap.get? b=some o->h'.get? b=some o)->Q (some es[i].key) { s with heap:=h' }):wpAny (model prog w) A (pyNext (.ref it)) Q E s:=by
 obtain⟨o,ho,hc,hf⟩:=id st;obtain⟨b,hb,_,hx⟩:=id x;refine Mu hV st.typeIs g7 (gV _) ?_;refine bD (bG (bD (bD (bD (eI st.typeIs (bG (bD (ib ho hf ?_))))))));have own:Builtin.Dict_items.ownsTuple "dict_keyiterator"=false:=by decide
 simp only[own,Bool.false_eq_true,if_false]
 change wpAny _ _ (if(Value.ref d == Value.none)=true then _ else _) _ _ s
 rw[bP (show ¬((Value.ref d == Value.none)=true) from bN)];refine bD (bG (bD (iz hb hx ?_)));rw[bP (by simp)];refine bD (bG (bD (iP hb hx ?_)));rw[bP (by simp)];refine bG ?_;simp only[show ¬((i:Int)<0) from by omega,if_false,Int.toNat_natCast,Array.getElem?_eq_getElem hi];refine bD (bD (eI st.typeIs (bG (bD (wpAny_isOneOf_keyiter st.typeIs ?_)))));refine bD (m:=setField (.ref it) 1 (rawInt ((i:Int)+1))) (Nv ho hc hf (by simp) λh1 o1 e1 c1 d1 k1=>?_);have st1:h1.IsKeyIter it d (i+1) es.size ep:=⟨o1,e1,c1,by rw[d1];simp[rawInt]⟩
 exact bD (cK (bD (wpAny_isOneOf_keyiter (s:={ s with heap:=h1 }) st1.typeIs (bG (bG ⟨_,rfl,q h1 st1 k1⟩)))))
theorem Pz {Q:Option Value->Shared->Prop} (hh:A.handled=none) (st:s.heap.IsKeyIter it d i es.size ep) (x:KZ s.heap d es ep) (hi:es.size<=i)
  (q:∀h',(∀b o,b≠it->s.heap.get? b=some o->h'.get? b=some o)->Q none { s with heap:=h' }):wpAny (model prog w) A (pyNext (.ref it)) Q E s:=by
 obtain⟨o,ho,hc,hf⟩:=id st;obtain⟨b,hb,_,hx⟩:=id x;refine LR hV st.typeIs g7 (gV _) ?_;refine bD (bG (bD (bD (bD (eI st.typeIs (bG (bD (ib ho hf ?_))))))));have own:Builtin.Dict_items.ownsTuple "dict_keyiterator"=false:=by decide
 simp only[own,Bool.false_eq_true,if_false]
 change wpAny _ _ (if(Value.ref d == Value.none)=true then _ else _) _ _ s
 rw[bP (show ¬((Value.ref d == Value.none)=true) from bN)];refine bD (bG (bD (iz hb hx ?_)));rw[bP (by simp)];refine bD (bG (bD (iP hb hx ?_)));rw[bP (by simp)];refine bG ?_;simp only[show ¬((i:Int)<0) from by omega,if_false,Int.toNat_natCast,Array.getElem?_eq_none hi];refine bD (bD (eI st.typeIs (bG ?_)));refine bD (m:=setField (.ref it) 0 .none) (Nv ho hc hf (by simp) λh1 o1 e1 c1 d1 k1=>?_);exact NT hh λh2 y k2 ⟨oy,ey,cy⟩=>⟨y,oy,rfl,ey,cy,q h2 λb o hb e=>k2 b o (k1 b o hb e)⟩
theorem U2 (lo:(d == sysModules)=false):PySem.W.KdlSrc prog w "dict" d d es.size (λi v=>∃e,es[i]?=some e/\v=e.key) (λh=>KZ h d es ep) where
 type:=λ_ x=>x.ty
 there:=λ_ ⟨_,ho,_⟩=>⟨bU ho,bU ho⟩
 keep:=λ_ _ x k=>x.at λo e=>k d (.inl rfl) o e
 notList:=by decide
 notTuple:=by decide
 hint:=λ_ _ _ _ x q=>PySem.W.kdl_hint_dict x.ty q
 iter:=λA s hh x=>⟨_,λi h=>h.IsKeyIter s.heap.objs.size d i es.size ep/\KZ h d es ep,λ_ _ q=>NV lo x q,{
  sub:=λb hb=>by simp at hb;simp[hb]
  frame:=λ_ _ _ st k=>⟨st.1.at λo e=>k _ (by simp) o e,st.2.at λo e=>k d (by simp) o e⟩
  item:=λi s1 Q E hi st q=>N4 st.1 st.2 hi λh' st' k=>q _ h' s1.toks ⟨_,dc hi,rfl⟩ ⟨st',st.2.at λo e=>k d o (let⟨_,ho,_⟩:=x;cn (bU ho)) e⟩ λb o hb e=>k b o (λz=>hb (by simp[z])) e
  done:=λs1 Q E st q=>Pz hh st.1 st.2 (bI _) λh' k=>q h' s1.toks λb o hb e=>k b o (λz=>hb (by simp[z])) e
  self:=λ_ _ _ _ st q=>h8 st.1 q },⟨⟨_,bR _ rfl,rfl,rfl⟩,x.at λo e=>bH _ e⟩⟩
end
end L2
namespace L2
section
open PySem PyProof.Rows
variable {prog:Program}{w:World}{A:Around}{E:Value->Shared->Prop}{s:Shared}{a₀:Array Keyed}
theorem Nu:∀(fuel n r:Nat),minRun' fuel n r<=n+r
 |0,_,_=>bI _
 |fuel+1,n,r=>by
  rw[minRun'_succ]
  by_cases h:n<64
  ·rw[bV h];exact bI _
  ·rw[bP h];have:=Nu fuel (n/2) (max r (n%2));omega
theorem Qd {st:SortSt}{Q:Option Nat->SortSt->Prop}(h0:IntKeys a₀)(h1:1<=a₀.size)(hB:SBase a₀ st)(up:SortedTo (arrOf st) a₀.size)(h:Q (some a₀.size) st) :
  wpS (model prog w) A E s (countRun' 0 a₀.size) Q st:=by
 rw[countRun0_eq];have one:SortedTo (arrOf st) 1:=λi j hij hj=>by
  obtain rfl:i=j:=by omega
  exact gQ _
 refine ig (wpS_ascLoop h0 (bI _) (bI 1) h1 hB one λn hn1 hn2 _ hor=>?_);have hn:n=a₀.size:=by
  rcases hor with e|lt
  ·exact e
  ·by_cases e:n=a₀.size
   ·exact e
   ·have:=up (n-1) n (by omega) (by omega);omega
 subst hn;dsimp only;rw[bV (by simp)];exact wpS_pure h
theorem Rt {st:SortSt} {Q:Unit->SortSt->Prop} (h0:IntKeys a₀) (hB:SBase a₀ st) (h2:2<=a₀.size) (up:SortedTo (arrOf st) a₀.size)
  (h:∀st',(arrOf st').Perm a₀->failedOf st'=none->SortedTo (arrOf st') a₀.size->Q () st'):wpS (model prog w) A E s sortRuns' Q st:=by
 rw[sortRuns'_eq];refine ig (wpS_get ?_);have hm:minRun' a₀.size a₀.size 0<=a₀.size:=Nu _ _ 0;simp only[hB.size];generalize minRun' a₀.size a₀.size 0=mr at hm;have D:=hB.done up;refine ig (wpS_mono (wpS_forRange (I:=λx c st'=>(x=0/\c=(none,0)/\st'=st)\/(0<x/\c=(none,a₀.size)/\SDone a₀ st')) (Q:=λc st'=>c=(none,a₀.size)/\SDone a₀ st') (λx c st' _ hx hI=>?_) (λc st' hI=>?_) (.inl ⟨rfl,rfl,rfl⟩)) λc st' hc=>?_)
 ·rcases hI with⟨rfl,rfl,rfl⟩|⟨hx1,rfl,hD⟩
  ·dsimp only;rw[bP (by omega)];simp only[Nat.sub_zero,Nat.zero_add];refine ig (Qd h0 (by omega) hB up ?_);dsimp only;rw[bP (by omega)];refine ig (wpS_get ?_);have hb:(pendingOf st').back?=none:=by rw[hB.pend];rfl
   rw[hb];dsimp only;exact ig (wpS_modify (wpS_pure (.inr ⟨by omega,rfl,D⟩)))
  ·dsimp only;rw[bV (bI _)];exact wpS_pure ⟨rfl,hD⟩
 ·rcases hI with⟨hx,_⟩|⟨_,hc,hD⟩
  ·omega
  ·exact⟨hc,hD⟩
 ·obtain⟨rfl,hD⟩:=hc;dsimp only;refine ig (wpS_mono (wpS_forRange (I:=λ_ c st2=>c=(none,())/\st2=st') (Q:=λc st2=>c=(none,())/\st2=st') (λx c st2 _ _ hI=>?_) (λ_ _ hh=>hh) ⟨rfl,rfl⟩) λc st2 hc=>?_)
  ·obtain⟨rfl,rfl⟩:=hI;refine ig (wpS_get ?_);rw[bV (by rw[hD.2.2.1];exact bI 1)];exact wpS_pure ⟨rfl,rfl⟩
  ·obtain⟨rfl,rfl⟩:=hc;exact wpS_pure (h _ hD.1 hD.2.1 hD.2.2.2)
theorem Vo {vs:List Value}{ns:List Int}(hI:IntsAre vs ns)(up:ns.Pairwise (·<=·)):SortedTo (pairsOf vs) (pairsOf vs).size:=by
 have en:=hI.nums;intro i j hij hj;have hjv:j<vs.length:=by rw[pairsOf_size] at hj;exact hj
 have kk:∀k,(hk:k<vs.length)->K (pairsOf vs) k=(vs.map numOf)[k]'(by rw[bE];exact hk):=λk hk=>by
  rw[K_eq (by rw[pairsOf_size];exact hk)];simp[pairsOf]
 rw[kk i (by omega),kk j hjv];subst en
 by_cases e:i=j
 ·subst e;exact gQ _
 ·exact eW.mp up i j _ _ (by omega)
theorem Wn {a:Addr} {vs:List Value} {ns:List Int} {n:Nat} {P:PySem.Fin->Shared->Prop} (ho:s.heap.get? a=some (seqObj "list" vs.toArray n)) (hI:IntsAre vs ns) (up:vs.length<64\/(vs.length<=sizeLine/\ns.Pairwise (·<=·)))
  (h:∀(out:Array Value) (ns':List Int),IntsAre out.toList ns'->ns'.Perm ns->ns'.Pairwise (·<=·)->P (.done (.ret .none)) { s with heap:=sortedHeap s.heap a vs out }) :
  wpAny (model prog w) A (Builtin.«list.sort» ⟨[.ref a],[]⟩) P E s:=by
 by_cases few:vs.length<64
 ·exact list_sort_tree ho hI few h
 have hz:=(up.resolve_left few).1;have up':=(up.resolve_left few).2;rw[list_sort_plain];have ha:a<s.heap.objs.size:=bU ho;refine bD (listItems_at ho rfl (bD (listUpdate_at ho rfl ?_)));obtain⟨e1,h1⟩:∃e,(s.heap.update a (Obj.mapSeq λ_=>#[])).get? a=some (seqObj "list" #[] e):=⟨_,get?_update_seq ho (λ_=>#[])⟩
 refine bD (seqEpoch_at h1 rfl (bD (wpAny_newTuple (bD (wpAny_newList (cK ?_))))));have n1:a≠(s.heap.update a (Obj.mapSeq λ_=>#[])).objs.size:=by rw[Heap.size_update];exact cn ha
 have n2:a≠((s.heap.update a (Obj.mapSeq λ_=>#[])).push (seqObj "tuple" vs.toArray 0)).objs.size:=by rw[cT,Heap.size_update];exact cn (d4 ha)
 have h2:(((s.heap.update a (Obj.mapSeq λ_=>#[])).push (seqObj "tuple" vs.toArray 0)).push (seqObj "list" #[] 0)).get? a=some (seqObj "list" #[] e1):=by
  rw[Heap.get?_push_ne _ _ _ n2,Heap.get?_push_ne _ _ _ n1];exact h1
 show wpAny (model prog w) A _ P E { s with heap:=((s.heap.update a (Obj.mapSeq λ_=>#[])).push (seqObj "tuple" vs.toArray 0)).push (seqObj "list" #[] 0) };dsimp only;have hs2:¬vs.toArray.size<2:=by simp;omega
 have ps:=pairsOf_size vs;rw[bP hs2,bP hs2];obtain⟨v1,v2,rest,rfl⟩:∃v1 v2 rest,vs=v1::v2::rest:=by
  match vs,few with
  |[],q=>exact absurd (by decide) q
  |[_],q=>exact absurd (by show 1<64;decide) q
  |v1::v2::rest,_=>exact⟨v1,v2,rest,rfl⟩
 rw[keyKind_ints hI];refine bD (bG (bD (cD (Rt (a₀:=pairsOf (v1::v2::rest)) (st:=SortSt.mk' oneType' ((v1::v2::rest).toArray.zip (v1::v2::rest).toArray) #[] 7 none)
  (Q:=λ_ st'=>(arrOf st').Perm (pairsOf (v1::v2::rest))/\failedOf st'=none/\SortedTo (arrOf st') (pairsOf (v1::v2::rest)).size)
  hI.intKeys ⟨Array.Perm.refl _,rfl,rfl,rfl⟩ (by rw[ps];simp) (Vo hI up') λst' a1 a2 a3=>⟨a1,a2,a3⟩) (λr s' hr=>?_) λ_ _ e=>e)))
 obtain⟨⟨⟩,st'⟩:=r;obtain⟨rfl,hp,hf,hs⟩:=hr;dsimp only;refine bD (seqEpoch_at h2 rfl (bD (listUpdate_at h2 rfl ?_ (hsz2:=?_))))
 ·rw[hf];simp only[bne_self_eq_false,Bool.false_eq_true,if_false];obtain⟨ns',g1,g2,g3⟩:=sorted_out hI hp hs;exact bG (h _ ns' g1 g2 g3)
 ·rw[Array.size_map,hp.size_eq,ps];exact Nat.le_succ_of_le hz
end
end L2
namespace L2
section
open PySem PySem.Calls PyProof.Rows
variable {prog:Program}{w:World}{A:Around}{E:Value->Shared->Prop}{s:Shared}
def Vc (Q:Value->Shared->Prop)(vs:List Value)(s1:Shared):Prop:=∃ns,IntsAre vs ns/\(vs.length<64\/(vs.length<=sizeLine/\ns.Pairwise (·<=·)))/\
 ∀h' p (out:List Value) ns' c,IntsAre out ns'->ns'.Perm ns->ns'.Pairwise (·<=·)->s1.heap.objs.size<=p->(∀b o,s1.heap.get? b=some o->h'.get? b=some o)->
  h'.get? p=some (seqObj "list" out.toArray c)->Q (.ref p) { s1 with heap:=h' }
theorem Ic {x:Value}{Q:Value->Shared->Prop}(hc:wpAny (model prog w) A.in1 (collect x) (Vc Q) E s):wpAny (model prog w) A (call (.builtin "sorted") [x]) Q E s:=by
 refine Calls.call_function_entry kind_sorted plain_sorted entry_sorted (args_sorted1 x) ?_;unfold Builtin.«sorted»;refine bD (m:=checkCount "sorted" 1 1 _) (bG (bD (cD hc (λvs s1 z=>?_) λ_ _ e=>e)));obtain⟨ns,hI,few,q⟩:=z;have there:(s1.heap.push (seqObj "list" vs.toArray 0)).get? s1.heap.objs.size=some (seqObj "list" vs.toArray 0):=bR _ rfl;refine bD (wpAny_newList (bD (cK (dq slot_list_sort ⟨_,there,rfl⟩ entry_list_sort (Wn there hI few λout ns' a1 a2 a3=>⟨_,rfl,?_⟩) (args_list_sort _)))));obtain⟨c,hp⟩:=sortedHeap_at (out:=out) there;refine bG ⟨_,rfl,q _ _ out.toList ns' c a1 a2 a3 (bI _) (λb o e=>?_) (by rw[Array.toArray_toList];exact hp)⟩;have lt:=bU e;show Heap.get? _ b=some o;rw[sortedHeap_old (cn lt) (by rw[cT];exact d4 lt)];exact bH _ e
end
section
open PySem PySem.Spec PyProof.Rows
variable {X:Cx}
theorem R8:∀{vs:List Value} {ns:List Int},vs.length=ns.length->(∀(j:Nat) v,vs[j]?=some v->∃n t,ns[j]?=some n/\v=.int n t)->IntsAre vs ns
 |[],[],_,_=>.nil
 |[],_::_,h,_=>by cases h
 |_::_,[],h,_=>by cases h
 |v::vs,n::ns,h,k=>by
  obtain⟨n',t,e,rfl⟩:=k 0 v rfl;cases e;exact .cons _ _ (R8 (by simpa using h) λj v e=>k (j+1) v (by simpa using e))
def Wl:List V->Hp->VK->Prop:=λxs H Q=>∃(d:Addr) (kvs:List (Key×V)) (ns:List Int),xs=[.ref d]/\H d=some (.dK kvs)/\kvs.map (·.1)=ns.map .inl/\(ns.length<64\/(ns.length<=100000/\ns.Pairwise (·<=·)))/\∀(ms:List Int) (p:Addr),ms.Perm ns->ms.Pairwise (·<=·)->H p=none->Q (.ref p) (upd H p (.lst (ms.map V.int)))
theorem Iw (hc:X.calm=true):Ei X (.builtin "sorted") Wl:=by
 intro pins s σ H xs us Q I r h;obtain⟨d,kvs,ns,rfl,h1,hk,few,q⟩:=h;obtain⟨u,rfl,ru⟩:=vals1 r;cases ru;obtain⟨_,lo,vs,rv,o,es,ep,ho,h2,h3,h4⟩:AX X.prog X.w H s.heap d (.dK kvs):=I.hok d _ h1;have D:s.heap.DictAt (AJ X.prog X.w) d vs ep:=⟨o,es,ho,h2,h3,h4⟩
 have ln:vs.length=ns.length:=by
  have:=congrArg List.length hk;rw[bE,bE] at this;rw[<-this];exact rv.length.symm
 refine Ic (Qi (PySem.W.kdl_dict (knd:=AJ X.prog X.w) (kvs:=vs) (ep:=ep) lo) (by simpa using I.ok.hd hc) D (by rw[ln,eJ];omega) λh' tk us k lu it=>?_);have hs:IntsAre us ns:=by
  refine R8 (by rw[lu,ln]) λj v e=>?_
  obtain⟨ky,x,e1,e2⟩:=it j v e;have e3:(kvs.map (·.1))[j]?=some ky:=by rw[<-Sn rv,bQ,e1];rfl
  rw[hk,bQ] at e3;cases z:ns[j]? with
  |none=>rw[z] at e3;cases e3
  |some y=>
   rw[z] at e3;injection e3 with e3
   subst e3;obtain⟨t,rfl⟩:=Qb e2;exact⟨_,t,rfl,rfl⟩
 have I1:Inv X pins σ H { s with heap:=h',toks:=tk }:=I.kept (t':=tk) k;refine⟨ns,hs,by rw[lu,ln];exact few.imp id λz=>⟨by rw[eJ];omega,z.2⟩,λh2 p out ns' c a1 a2 a3 lp k2 hp=>⟨.ref p,_,I1.laid (t':=tk) k2 lp (?_:AX X.prog X.w _ h2 p (.lst (ns'.map V.int))),rfl,q ns' p a2 a3 (I1.hok.fresh lp)⟩⟩;refine⟨?_,out,c,Hr a1,hp⟩;rw[bE,a2.length_eq,eJ];omega
theorem Vp {pins:List (Addr×Obj)} {σ:St} {H:Hp} {s:Shared} {a:Addr} {kvs:List (Key×V)} {k:Key} {u r:Value} {z:V} {A:Around} {E:Value->Shared->Prop} {Q:Value->Shared->Prop} (I:Inv X pins σ H s) (e:H a=some (.dK kvs)) (ry:RelV (kV k) u) (rz:RelV z r) (hl:kvs.length<sizeLine)
  (h1:∀v w' s',BO kvs k=some v->Inv X pins σ H s'->RelV v w'->Q w' s') (h2:BO kvs k=none->∀s',Inv X pins σ (upd H a (.dK (putK kvs k z))) s'->Q r s'):wpAny (model X.prog X.w) A (call (.builtin "dict.setdefault") [.ref a,u,r]) Q E s:=by
 obtain⟨z0,hd,vs,rel,dd⟩:=NY I.hok e;have ki:=Iu (P:=X.prog) (w:=X.w) ry;cases hv:BO kvs k with
 |some v=>
  obtain⟨w',hw,rw'⟩:=FB.some_of (v:=v) (o:=valueAt vs k) (by rw[<-hv];exact rel.val k);refine eL fN dd.typeIs iq (ij _ _ _) (meets_dict_setdefault (AJ X.prog X.w) a ki hd r) ⟨_,dd.mapOf,?_,λv' e'=>?_,λe'=>?_⟩
  ·obtain⟨o,es,ep,ho,_,hx,_,hp,_⟩:=id dd;intro o' es' ep' g1 g2;rw[ho] at g1;cases g1;rw[hx] at g2;cases g2;have:=hp.length;rw[dC] at this;rw[this,<-rel.length];exact z0
  ·rw[hw] at e';cases e';exact h1 v _ _ hv (I.tok _) rw'
  ·rw[hw] at e';cases e'
 |none=>
  have hn:valueAt vs k=none:=FB.none_of (by rw[<-hv];exact rel.val k);obtain⟨o,es,ep,ho,hc,hx,hk,hp,nd⟩:=id dd;refine dq fN dd.typeIs iq ?_ (ij _ _ _);refine bD (bD (wpAny_notOrdered_dict dd.typeIs (bG ?_)))
  change wpAny _ _ (if(a == sysModules)=true then _ else(dictSetDefault a u r >>= _)) _ _ s
  rw[bP (by rw[hd];exact bN)];have le:es.size<=sizeLine:=by
   have:=hp.length;rw[dC] at this;rw[this,<-rel.length];exact z0
  have nk:∀kv∈vs,decide (kv.1=k)=false:=λkv hkv=>by
   cases q:decide (kv.1=k) with
   |false=>rfl
   |true=>
    unfold valueAt at hn;rw[eD,eE] at hn;exact absurd q (hn kv hkv)
  have fi:(es.findIdx? λe=>(AJ X.prog X.w).is k e.key)=none:=by
   have h3:(es.toList.findIdx? λe=>(AJ X.prog X.w).is k e.key)=none:=by rw[hp.findIdx k];exact List.findIdx?_eq_none_iff.mpr nk
   obtain⟨l⟩:=es;simpa using h3
  unfold dictSetDefault;refine bD (cK (bD ((AJ X.prog X.w).pyHash ki (bD (wpAny_dictFind_of (s:={ s with toks:=s.toks+1 }) ki ho hx hk ?_)))));rw[fi];have est:stored vs k r=vs++[(k,r)]:=by
   unfold stored;rw[bP λq=>by obtain⟨kv,h3,h4⟩:=dR.mp q;rw[nk kv h3] at h4;cases h4]
  refine bD (gS (bD (wpAny_updateDictKeys (hz:=le) (s:={ s with toks:=s.toks+1 }) ho hx (bG (bG ⟨r,rfl,h2 hv _ ?_⟩)))));have hlp:(putK kvs k z).length<=sizeLine:=by have:=HM kvs k z;omega
  refine G8 (I.tok _) (by rw[e];exact True.intro) (Heap.SameBut.update ..) ⟨_,cU _ ho (Obj.isFreed_of_dict (ic hx _))⟩ (MF hlp hd (rel.put k rz) ?_);rw[est];refine⟨_,_,ep+1,cU _ ho (Obj.isFreed_of_dict (ic hx _)),hc.mapDictKeys _,ic hx _,hk.push ki _,?_,?_⟩
  ·have:=hp.append ki ((AJ X.prog X.w).hash k) r;obtain⟨l⟩:=es;simpa using this
  ·rw[cg];refine dA.mpr ⟨nd,by simp,λx hx y hy h5=>?_⟩;obtain⟨kv,h3,rfl⟩:=bK.mp hx;have h6:=nk kv h3;rw[decide_eq_false_iff_not] at h6;rw[bX,fU,bS] at hy;exact h6 (h5.trans hy)
def X6 (td ty tx:TE):TE:=λσ H Q=>td σ H λx H1=>∃a,x=.ref a/\ZV H1 a/\ty σ H1 λy H2=>tx σ H2 λz H3=>∃kvs k,H3 a=some (.dK kvs)/\y=kV k/\kvs.length<sizeLine/\(∀v,BO kvs k=some v->Q v H3)/\(BO kvs k=none->Q z (upd H3 a (.dK (putK kvs k z))))
theorem UI {o e f:Expr}{td ty tx:TE}{apos cpos:Pos}(ho:PE X o td)(he:PE X e ty)(hf:PE X f tx)(m:M2 X o "setdefault" apos e f cpos):PE X (.Call (.Attribute o "setdefault" apos) [e,f] [] cpos) (X6 td ty tx):=by
 intro pins s σ H Q I h;refine fJ m.base m.few m.line eu fN PySem.F.type_dict_setdefault (A7 (ho pins s σ H _ I h) λu s1 z9=>?_);obtain⟨x,H1,I1,rx,a,ex,d,q1⟩:=z9;subst ex;obtain rfl:u=Value.ref a:=rx;obtain⟨t1,t2,_⟩:=LS I1 d;refine⟨t1,t2,?_⟩;rw[m.trees];refine dX rfl (e8 (dG (A7 (he pins s1 σ H1 _ I1 q1) λiv s2 ⟨y,H2,I2,ry,q2⟩=>dG (A7 (hf pins s2 σ H2 _ I2 q2) λr s3 ⟨z,H3,I3,rz,kvs,k,hd,ey,hl,q3,q4⟩=>fM ?_))));subst ey;exact Vp I3 hd ry rz hl (λv w' s' hv I' rw'=>⟨v,H3,I',rw',q3 v hv⟩) λhv s' I'=>⟨z,_,I',rz,q4 hv⟩
end
section
open PySem PySem.Calls PyProof.Rows
variable {prog:Program}{w:World}{A:Around}{E:Value->Shared->Prop}{I S:Addr}{fp wr:List Addr}{n:Nat}{P:Nat->Value->Prop}{St:Nat->Heap->Prop}{bt:Nat->Nat->Bool}{d:Value}{R:Result->Shared->Prop}
def Xz (P:Nat->Value->Prop)(bt:Nat->Nat->Bool)(i:Nat)(arr:List Value):Prop:=(arr=[]/\i=0)\/∃v,arr=[v,v]/\0<i/\P (argBest bt (i-1)) v
theorem SM (W:Walks prog w A.in1 I fp wr n P St)(hcmp:CmpOf prog w A.in1 .Gt P bt)(hSf:S∉fp):∀(k i:Nat) (s:Shared) (arr:List Value) (c:Nat),i+k=n->St i s.heap->s.heap.get? S=some { cls:=.type "list",dict:=none,data:=.seq arr.toArray c,slots:=#[] }->Xz P bt i arr->
  (∀r h' tk,(n=0/\r=d\/0<n/\P (argBest bt (n-1)) r)->(∀b o,b∉wr->b≠S->s.heap.get? b=some o->h'.get? b=some o)->R (.ok (.ret r)) { s with heap:=h',toks:=tk })->
  codeAny (model prog w) A (.builtin "max.loop" ⟨[.ref I,.none,.ref S],[("default",d)]⟩) R s:=by
 have hSw:S∉wr:=λh=>hSf (W.sub _ h)
 intro k
 induction k with
 |zero=>
  intro i s arr c hk hst hS hb hR;cases(show i=n by omega);refine dP iS ?_;rw[eB dN _];refine bD (m:=seqItems? (.ref S)) (je hS rfl (bD (jd (W.done s _ _ hst λh' tk k'=>?_))));rcases hb with⟨rfl,i0⟩|⟨v,rfl,i0,hv⟩
  ·exact bD (gS (bG (hR d h' tk (.inl ⟨i0,rfl⟩) λb o hb _ e=>k' b o hb e)))
  ·exact bD (gX (k' S _ hSw hS) rfl (bD (iF (bG (hR v _ tk (.inr ⟨i0,hv⟩) λb o hb hS e=>(cQ _ _ (Ne.symm hS)).trans (k' b o hb e))))))
 |succ k ih=>
  intro i s arr c hk hst hS hb hR;refine dP iS ?_;rw[eB dN _];refine bD (m:=seqItems? (.ref S)) (je hS rfl (bD (jd (W.item i s _ _ (by omega) hst λx h' tk hP st' k'=>?_))));have hS':=k' S _ hSw hS;have nm:(toString "max"++toString ".loop":String)="max.loop":=by decide
  have la:arr.toArray.size<=sizeLine:=by
   rw[eJ];rcases hb with⟨rfl,_⟩|⟨v,rfl,_⟩
   ·exact cE _
   ·show 2<=_;omega
  have put:∀(tk':Nat),P (argBest bt i) x->wpAny (model prog w) A.in1 (updateSeq S (λ_=>#[x,x])) (λ_ s'=>codeAny (model prog w) A (.builtin "max.loop" ⟨[.ref I,.none,.ref S],[("default",d)]⟩) R s') (λe s'=>R (.error e) s') { s with heap:=h',toks:=tk' }:=λtk' hx=>by
   refine gX (hz:=la) (s:={ s with heap:=h',toks:=tk' }) hS' rfl (ih (i+1) _ [x,x] _ (by omega) (W.frame _ _ _ st' λb hb o e=>?_) (cU _ hS' rfl) (.inr ⟨x,rfl,Nat.succ_pos _,hx⟩) λr h2 tk2 hr k2=>?_)
   ·exact(cQ _ _ (λz:S=b=>hSf (by rw[z];exact hb))).trans e
   ·exact hR r h2 tk2 hr λb o hb hbS e=>k2 b o hb hbS ((cQ _ _ (Ne.symm hbS)).trans (k' b o hb e))
  rcases hb with⟨rfl,i0⟩|⟨v,rfl,i0,hv⟩
  ·subst i0;refine bD (bG (bD (cD (put tk hP) (λ_ s' q=>?_) λ_ _ q=>q)));rw[nm];exact bG ⟨fh dN _,q⟩
  ·refine bD (bG (bD (jd (cK (bD (hcmp i (argBest bt (i-1)) x v _ _ _ hP hv (bD (cK (dh (bD (iF (bG ?_))))))))))));have ea:argBest bt i=if bt i (argBest bt (i-1)) then i else argBest bt (i-1):=by
    obtain⟨j,rfl⟩:∃j,i=j+1:=⟨i-1,by omega⟩
    rfl
   cases q:bt i (argBest bt (i-1)) with
   |true=>
    rw[q,bV rfl] at ea;rw[bV rfl];refine bD (cD (put tk (by rw[ea];exact hP)) (λ_ s' z=>bD (iF ?_)) λ_ _ z=>z);rw[nm];exact bG ⟨fh dN _,z⟩
   |false=>
    rw[q,bP bN] at ea;rw[bP bN];refine bD (iF ?_);rw[nm];refine bG ⟨fh dN _,ih (i+1) _ [v,v] _ (by omega) st' hS' (.inr ⟨v,rfl,Nat.succ_pos _,?_⟩) λr h2 tk2 hr k2=>hR r h2 tk2 hr λb o hb hbS e=>k2 b o hb hbS (k' b o hb e)⟩;show P (argBest bt i) v;rw[ea];exact hv
theorem V2 (l:Addr)(d:Value):checkBuiltinCall "max" ⟨[.ref l],[("default",d)]⟩=pure ():=by kernel_rfl
theorem TJ {l:Addr} {items:Array Value} {Q:Value->Shared->Prop} {s:Shared} (hh:A.handled=none) (hl:s.heap.IsList l items) (val:Nat->Int) (hval:∀i v,items[i]?=some v->∃t,v=Value.int (val i) t)
  (q:∀r h' tk,(items.size=0/\r=d\/0<items.size/\items[argBest (λi j=>decide (val j<val i)) (items.size-1)]?=some r)->(∀b o,s.heap.get? b=some o->h'.get? b=some o)->Q r { s with heap:=h',toks:=tk }):wpAny (model prog w) A (call (.builtin "max") [.ref l] [("default",d)]) Q E s:=by
 refine eK (dw PySem.F.plain_max PySem.F.entry_max ?_);rw[V2];refine bG ?_;have nm:(toString "max"++toString ".loop":String)="max.loop":=by decide
 change wpAny _ A.in1 (Builtin.Builtins.bindParams "max" ["key","default"] 0 ⟨[],[("default",d)]⟩ >>= _) _ _ s
 refine bD (ia (show Builtin.Builtins.bindParams "max" ["key","default"] 0 ⟨[],[("default",d)]⟩=pure [none,some d] from rfl) (bD (bG (bD (ef hl ?_)))));refine bD (cY ?_);rw[nm];have ll:l<s.heap.objs.size:=let⟨_,ho,_⟩:=hl;bU ho;have sz:(s.heap.push { cls:=.type "list_iterator",data:=.fields #[.ref l,.int 0 0] }).objs.size=s.heap.objs.size+1:=cT ..;refine bG ⟨fh dN _,SM (P:=λi v=>items[i]?=some v) (jh (A:=A.in1) (show A.in1.handled=none from hh) s.heap.objs.size l (cn ll) items) (CmpOf.ints_gt val hval) (S:=(s.heap.push { cls:=.type "list_iterator",data:=.fields #[.ref l,.int 0 0] }).objs.size) ?_ items.size 0 _ [] 0 (Nat.zero_add _) ?_ ?_ (.inl ⟨rfl,rfl⟩) λr h' tk hr k=>?_⟩
 ·rw[sz];intro z;rcases cf.mp z with z|z
  ·exact ik _ z
  ·exact gF (d4 ll) (bS.mp z)
 ·refine⟨⟨_,bH _ (bR _ rfl),rfl,rfl⟩,hl.at λo e=>bH _ (bH _ e)⟩
 ·exact bR _ rfl
 ·refine q r h' tk hr λb o e=>k b o ?_ ?_ (bH _ (bH _ e))
  ·exact λz=>cn (bU e) (bS.mp z)
  ·rw[sz];exact cn (d4 (bU e))
theorem T9 {M:Model} {A:Around} {E:Value->Shared->Prop} {s:Shared} {pos:Pos} {id:String} {args:List (Bool×Sem Value)} {kws:List (Option Str×Sem Value)} {Q:Value->Shared->Prop} (hp:args.any (·.1)=false) (hk:kws.any (·.1.isNone)=false)
  (h:wpAny M A (evalArgs (.builtin id) true args kws) (λz sz=>wpAny M A (call (.builtin id) z.pos z.kw) Q E sz) E s):wpAny M A (callWith pos (.builtin id) [] args kws) Q E s:=by
 unfold callWith;refine bD (cK (cD h (λz sz hz=>bD (fg ?_)) λ_ _ y=>y));simp only[hp,hk,Bool.or_false];refine bD (bG (bD (cD hz (λv sv hv=>bD (cK (wpAny_point (bG hv)))) λ_ _ y=>y)))
end
section
open PySem PySem.Spec PyProof.Rows PySem.Calls
variable {X:Cx}
def RC:List Int->Int
 |[]=>0
 |x::l=>l.foldl (λa b=>if a<b then b else a) x
theorem TC {l:List Int}(h:l≠[])(x:Int):RC (l++[x])=if RC l<x then x else RC l:=by
 cases l with
 |nil=>exact absurd rfl h
 |cons y l=>
  show(l++[x]).foldl (λa b=>if a<b then b else a) y=_;rw[gk];rfl
theorem NZ (ns:List Int):∀k,k<ns.length->argBest (λi j=>decide (ns.getD j 0<ns.getD i 0)) k<ns.length/\RC (ns.take (k+1))=ns.getD (argBest (λi j=>decide (ns.getD j 0<ns.getD i 0)) k) 0
 |0,h=>by
  cases ns with
  |nil=>exact absurd h (fb _)
  |cons x l=>exact⟨h,rfl⟩
 |k+1,h=>by
  obtain⟨h1,h2⟩:=NZ ns k (by omega);have e:ns.take (k+1+1)=ns.take (k+1)++[ns.getD (k+1) 0]:=by
   rw[cJ,fZ,bF h];rfl
  have ne:ns.take (k+1)≠[]:=λz=>by
   have:=congrArg List.length z;rw[cG,List.length_nil] at this;omega
  rw[e,TC ne,h2];show(if decide (_<_)=true then k+1 else _)<_/\_=ns.getD (if decide (_<_)=true then k+1 else _) 0
  by_cases q:ns.getD (argBest (λi j=>decide (ns.getD j 0<ns.getD i 0)) k) 0<ns.getD (k+1) 0
  ·rw[bV q,bV (bM q)];exact⟨h,rfl⟩
  ·rw[bP q,bP (by rw[bL q];exact bN)];exact⟨h1,rfl⟩
theorem II:∀{its:List Value} {ns:List Int},IntsAre its ns->∀{i:Nat} {v:Value},its[i]?=some v->∃t,v=Value.int (ns.getD i 0) t
 |_,_,.nil,i,v,h=>by simp at h
 |_,_,.cons n t r,0,v,h=>by simp at h;exact⟨t,h.symm⟩
 |_,_,.cons n t r,i+1,v,h=>II r (by simpa using h)
def Zp (K:PySem.W.Frag)(ta:TA):TE:=λσ H Q=>ta σ H λvs H1=>∃(a:Addr) (ns:List Int),vs=[.ref a]/\AQ K H1 a (ns.map V.int)/\Q (.int (RC ns)) H1
theorem Wo {l:Expr} {ta:TA} {p pos kp cp:Pos} {j} (hc:X.calm=true) (hg:Gl X "max") (hm:X.mg "max"=none) (ha:PA X [l] ta)
  (he:backTo pos (starEach [l] X.env)=(false,eval l X.env)::backTo pos (starEach [] X.env):=by rfl)
  (hpl:(backTo pos (starEach [l] X.env)).any (·.1)=false:=by rfl) :
  PE X (.Call (.Name "max" p) [l] [⟨some "default",.Constant (.int 0) j cp,kp⟩] pos) (Zp X.K ta):=by
 intro pins s σ H Q I h;refine dF (Jt I hg hm Ys (T9 hpl rfl ?_));have hsp:=ha pos pins s σ H _ I h;rw[he] at hsp ⊢;refine evalArgs_kwB rfl (A7 hsp λus s1 ⟨vs,H1,I1,r1,q1⟩=>?_);refine kws_cons (iu (kws_nil ?_));obtain⟨a,ns,rfl,hq,q⟩:=q1;obtain⟨u,rfl,ru⟩:=vals1 r1;cases ru;have I2:=I1.tok (s1.toks+1);obtain⟨its,rv,p1,hz⟩:=I2.list hq;have hi:=intsAre_of rv;have ln:its.length=ns.length:=IntsAre.length hi;refine TJ (items:=its.toArray) (d:=.int 0 s1.toks) (I2.ok.hd hc) p1.isList (λi=>ns.getD i 0) (λi v e=>II hi (by simpa using e)) λr h' tk hr k=>?_
 obtain⟨t,rfl⟩:∃t,r=Value.int (RC ns) t:=by
  rcases hr with⟨h0,rfl⟩|⟨h0,h1⟩
  ·have:ns=[]:=ir (by rw[<-ln];simpa using h0);subst this;exact⟨_,rfl⟩
  ·have h2:0<ns.length:=by rw[<-ln];simpa using h0
   obtain⟨t,e⟩:=II hi (i:=argBest (λi j=>decide (ns.getD j 0<ns.getD i 0)) (ns.length-1)) (v:=r) (by rw[<-ln];simpa using h1);have:=(NZ ns (ns.length-1) (by omega)).2;rw[show ns.length-1+1=ns.length by omega,dQ] at this;exact⟨t,by rw[e,this]⟩
 exact⟨.int (RC ns),H1,I2.kept (t':=tk) k,⟨t,rfl⟩,q⟩
end
end L2
namespace L2
end L2
namespace L2
end L2
namespace L2
end L2
namespace L2
end L2
namespace L2
end L2
namespace L2
section
open PySem PySem.Calls PyProof.Rows
variable {prog:Program}{w:World}{A:Around}{E:Value->Shared->Prop}{s:Shared}
structure KeyFits (prog:Program) (w:World) (A:Around) (s:Shared) (es:Array DictEntry) (key:Value) (h:Int) (eq:Nat->Bool):Prop where
 same:∀(i:Nat) (e:DictEntry) (Q:Bool->Shared->Prop) (E:Value->Shared->Prop),es[i]?=some e->e.hash=h->Q (eq i) s->wpAny (model prog w) A (eqBool e.key key) Q E s
 hash:∀(i:Nat) (e:DictEntry),es[i]?=some e->eq i=true->e.hash=h
 one:∀i j,i<es.size->j<es.size->eq i=true->eq j=true->i=j
 text:∀x t,key=.str x t->∀(i:Nat) (e:DictEntry),es[i]?=some e->e.key.isStr x=eq i
 quiet:∀(Q:Bool->Shared->Prop) (E:Value->Shared->Prop),Q true s->wpAny (model prog w) A (eqIsQuiet 8 key) Q E s
 quiets:∀e∈es,∀(Q:Bool->Shared->Prop) (E:Value->Shared->Prop),Q true s->wpAny (model prog w) A (eqIsQuiet 8 e.key) Q E s
 own:∀e∈es,e.key=key->e.hash=h
 form:(∃x t,key=.str x t)\/∃a,key=.ref a
end
end L2
namespace L2
section
open PySem PySem.Calls PySem.SeqAt PyProof.Rows
abbrev MK:=Sum Str (List Key)
def aS (H:Hp):MK->Value->Prop
 | .inl x,u=>∃t,u=.str x t
 | .inr ks,u=>∃b,u=.ref b/\H b=some (.tup (ks.map kV))
def XJ (P:Program)(w:World):MK->Int
 | .inl x=>hashStr w x
 | .inr ks=>(tupleKind (AJ P w)).hash ks
def DM (d:Addr)(es:Array DictEntry)(ep:Nat):HO:=.ext λh=>KZ h d es ep
def bB (P:Program)(w:World)(H:Hp)(p:MK×V)(e:DictEntry):Prop:=aS H p.1 e.key/\e.hash=XJ P w p.1/\RelV p.2 e.val
structure Mx (P:Program) (w:World) (H:Hp) (d:Addr) (kvs:List (MK×V)) (es:Array DictEntry) (ep:Nat):Prop where
 o:H d=some (DM d es ep)
 m:(d == sysModules)=false
 z:es.size<=sizeLine
 r:Paired (bB P w H) kvs es.toList
 n:(kvs.map (·.1)).Nodup
theorem GH {α β:Type}{R:α->β->Prop}:∀{xs:List α} {ys:List β},Paired R xs ys->∀{i:Nat} {y:β},ys[i]?=some y->∃x,xs[i]?=some x/\R x y
 |_,_,.nil,i,y,h=>by simp at h
 |x::xs,z::ys,.cons h t,0,y,e=>by
  simp at e;subst e;exact⟨x,rfl,h⟩
 |x::xs,z::ys,.cons h t,i+1,y,e=>by
  obtain⟨x',h1,h2⟩:=GH t (i:=i) (by simpa using e);exact⟨x',by simpa using h1,h2⟩
variable {X:Cx}{pins:List (Addr×Obj)}{σ:St}{H:Hp}{s:Shared}{d:Addr}{kvs:List (MK×V)}{es:Array DictEntry}{ep:Nat}{A:Around}{E:Value->Shared->Prop}{k:MK}{u:Value}
end
end L2
namespace L2
end L2
namespace L2
section
open PySem PySem.Calls PySem.Spec PySem.SeqAt PyProof.Rows
variable {X:Cx}{pins:List (Addr×Obj)}{σ:St}{H:Hp}{s:Shared}{d:Addr}{kvs:List (MK×V)}{es:Array DictEntry}{ep:Nat}{A:Around}{E:Value->Shared->Prop}{k:MK}{u:Value}
def YH (P:Program)(w:World):TE:=λ_ H Q=>∀d,H d=none->∀ep H',(∀b,b≠d->H' b=H b)->Mx P w H' d [] #[] ep->Q (.ref d) H'
theorem VP {P:Program}{w:World}{pos:Pos}(hP:X.prog=P)(hw:X.w=w):PE X (.Dict [] [] pos) (YH P w):=by
 subst hP hw;intro pins s σ H Q I h;have hf:=I.hok.fresh (bI s.heap.objs.size);have hs:(s.heap.objs.size == sysModules)=false:=dM.mpr (Ne.symm (cn I.big));have E0:KZ (s.heap.push { cls:=.type "dict",data:=.dict #[] }) s.heap.objs.size #[] 0:=⟨_,bR _ rfl,⟨rfl,rfl,rfl⟩,rfl⟩
 exact wpAny_Dict_empty ⟨.ref s.heap.objs.size,_,I.laid (a:=s.heap.objs.size) (o:=DM s.heap.objs.size #[] 0) (t':=s.toks) (λ_ _ q=>bH _ q) (bI _) ⟨E0,⟨_,bR _ rfl⟩,λh1 h2 e kk=>e.at kk⟩,rfl,h _ hf 0 _ (λb hb=>Ag hb) ⟨Ae,hs,cE _,.nil,dS⟩⟩
end
end L2
namespace L2
end L2
namespace L2
section
open PySem PySem.Calls PySem.Spec PyProof.Rows PySem.Builtin.Str
variable {X:Cx}
def Z7:R2:=λx y H Q=>∃ts F G,Tr.deps ts<=99/\Rep F H (.tup ts) x/\Rep G H (.tup ts) y/\Q (.bl true) H
theorem Oc (hu:X.A.units+150<cLine):HH X (compareOp .Eq) Z7:=by
 intro pins s σ H x y v u Q I rx ry h;obtain⟨ts,F,G,hd,⟨a,vs,rfl,ha,hr1⟩,⟨b,us,rfl,hb,hr2⟩,q⟩:=h;cases rx;cases ry;obtain⟨its,rv1,p1,_⟩:=I.tuple (AS.of (K:=X.K) ha);obtain⟨its2,rv2,p2,_⟩:=I.tuple (AS.of (K:=X.K) hb);have l1:=rv1.length.symm.trans (AL.len ts vs hr1);have l2:=rv2.length.symm.trans (AL.len ts us hr2);have q2:=fK (A:=X.A) (s:=s) (e:=λ_=>true) p1 p2 (by omega) (λj g1 g2=>IK I ts X.A.in1 vs us its its2 (by show X.A.units+1+Tr.deps ts<cLine;omega) hr1 hr2 rv1 rv2 j (by simpa using g1) (by simpa using g2));have e:((List.range (min its.toArray.size its2.toArray.size)).all (λ_=>true)&&its.toArray.size == its2.toArray.size)=true:=by
  simp[l1,l2]
 rw[e] at q2;exact q2 _ _ _ _ ⟨.bl _,H,I,rfl,q⟩
end
end L2
namespace L2
open PySem PySem.Spec PyProof.Rows
abbrev Yh (h:Heap)(z TI TO:Addr)(f0:Value):Prop:=
 h.get? z=some { cls:=.type "zip",dict:=none,data:=.fields #[f0,.bool false,.bool true,.ref TI,.ref TO],slots:=#[] }
def Z3:Bool->String
 |true=>"list_iterator"
 |false=>"tuple_iterator"
def VL (k:Bool)(h:Heap)(it a:Addr)(i:Nat):Prop:=∃o,h.get? it=some o/\o.cls=.type (Z3 k)/\o.data=.fields #[.ref a,.int i 0]
def Src:Bool->Heap->Addr->Array Value->Prop
 |true,h,a,its=>h.IsList a its
 |false,h,a,its=>h.IsTuple a its
theorem Src.push {h:Heap}{a:Addr}{its:Array Value}(o:Obj):(k:Bool)->Src k h a its->Src k (h.push o) a its
 |true,⟨x,e,r⟩=>⟨x,bH _ e,r⟩
 |false,⟨x,e,r⟩=>⟨x,bH _ e,r⟩
theorem VL.extBut {k:Bool}{h h':Heap}{a b l:Addr}{i:Nat}(x:VL k h a l i)(hs:Heap.ExtBut b h h')(hab:a≠b):VL k h' a l i:=let⟨o,e,r⟩:=x;⟨o,hs _ _ hab e,r⟩
end L2
namespace L2
section
open PySem PySem.Calls PySem.Spec PyProof.Rows
def aI (K:PySem.W.Frag)(a:Addr)(ks:List Str):Prop:=∃(o:Obj) (its:Array Value) (n:Nat),K.lookup a=some o/\o.cls=.type "tuple"/\o.data=.seq its n/\its.size<=sizeLine/\AF (ks.map V.str) its.toList
inductive TabRows (w:World) (K:PySem.W.Frag):List (Str×List Str)->List DictEntry->Prop
 |nil:TabRows w K [] []
 |cons {x:Str} {ks:List Str} {t:Tok} {hv:Int} {a:Addr} {tb:List (Str×List Str)} {es:List DictEntry}:hv=ZW w (.inr x)->aI K a ks->TabRows w K tb es->TabRows w K ((x,ks)::tb) (⟨hv,.str x t,.ref a⟩::es)
variable {X:Cx}
end
end L2
namespace L2
end L2
namespace L2
end L2
namespace L2
end L2
namespace L2
end L2
namespace L2
section
open PySem PySem.Spec PyProof.Rows
variable {X:Cx}{pins:List (Addr×Obj)}{σ:St}{H:Hp}{s:Shared}
def Zm (c:Addr)(qual:Str):HO:=.ext λh=>h.CodeRec (.ref c) qual
def Z2 (P:Addr)(qual:Str)(pos:Pos)(H:Hp):Prop:=H P=some (.tbl #[])\/∃c,H P=some (.tbl #[rawInt pos.line,rawInt pos.col,.ref c])/\H c=some (Zm c qual)
theorem Z2.some {P:Addr}{qual:Str}{pos:Pos}{H:Hp}(t:Z2 P qual pos H):∃ps,H P=some (.tbl ps):=by
 rcases t with h|⟨c,h,_⟩
 ·exact⟨_,h⟩
 ·exact⟨_,h⟩
end
end L2
namespace L2
section
open PySem PySem.Spec PyProof.Rows PySem.Calls
variable {X:Cx}
structure LamTx (x:Str) (params:Arguments) (scope:Scope):Prop where
 bind:∀(qual:Str) (body:Expr) (pm cv ctv u:Value),bindArgs (PySem.W.kla_fn "<lambda>" qual params body scope [] pm cv ctv) ⟨[u],[]⟩=pure [(x,u)]
 dflt:∀env,defaultsOf params env=([],[])
 clos:∀env,closureFor scope env=pure []
 loc:scope.names.lookup x=some .local
 kind:scope.kind=.function
 co:scope.isCoroutine=false
 ge:scope.isGenerator=false
 ce:∀y∈scope.names,y.2≠.cell
 db:(x == ("__debug__":Str))=false
end
end L2
namespace L2
end L2
namespace L2
end L2
namespace L2
end L2
namespace L2
section
open PySem
variable {α:Type}
theorem To {J:It} {ps:List α} {g:α->V} {fr:List (Option Nat)} {k:Nat} {tt:TT} {te:TE} {Q:VK} {σ:St} {H:Hp} (p:α->Bool) (P:α->V->Hp->Prop) (hP:∀x y H1 H2,P x y H1->An H1 H2->P x y H2)
  (hU:∀x y H1 l us us',P x y H1->H1 l=some (.lst us)->P x y (upd H1 l (.lst us'))) (hJ:MY J H (ps.map g)) (hn:ps.length<=1000000)
  (htest:∀x∈ps,∀(H':Hp) (R:Bool->Hp->Prop),An H H'->(∀H'',An H' H''->R (p x) H'')->tt ((stC fr σ).set k (some (g x))) H' R)
  (helt:∀x∈ps,p x=true->∀(H':Hp) (R:VK),An H H'->(∀y H'',An H' H''->P x y H''->R y H'')->te ((stC fr σ).set k (some (g x))) H' R)
  (hQ:∀l H' (ys:List (α×V)),H l=none->An H H'->H' l=some (.lst (ys.map (·.2)))->ys.map (·.1)=ps.filter p->(∀q∈ys,P q.1 q.2 H')->Q (.ref l) H'):GQ fr (FA k) tt te σ Q J H:=by
 intro l hl;refine⟨λi m σ' H'=>m=ps.length-i/\i<=ps.length/\(∀y,σ'.set k y=(stC fr σ).set k y)/\An H H'/\∃ys:List (α×V),H' l=some (.lst (ys.map (·.2)))/\ys.map (·.1)=(ps.take i).filter p/\∀q∈ys,P q.1 q.2 H',
  ⟨ps.length,by simp,cE _,λ_=>rfl,Am hl _,[],by rw[Ae];rfl,rfl,λ_ h=>nomatch h⟩,?_⟩
 rintro i m σ' H' ⟨rfl,hi,hσ,hs,ys,hl',e1,hys⟩
 obtain⟨h1,h2,h3⟩:=hJ H' hs i;rw[bE] at h1 h2 h3
 by_cases hlt:i<ps.length
 ·refine .inr ⟨h1 hlt,λx H'' y=>?_⟩;obtain⟨rfl,hx⟩:=h2 x H'' y;have hx:=hx hlt;rw[bQ,bF hlt] at hx;cases hx;have hm:ps[i]∈ps:=eT hlt;have et:(ps.take (i+1)).filter p=(ps.take i).filter p++(if p ps[i]=true then[ps[i]] else[]):=by
   rw[cJ,bF hlt,hZ];cases q:p ps[i]<;>simp[q]
  have le:ys.length<=i:=by
   have a:=congrArg List.length e1;have b:=eG p (ps.take i);rw[bE] at a;rw[cG] at b;omega
  show tt (σ'.set k (some (g ps[i]))) H'' _;rw[hσ];refine htest _ hm H'' _ hs λH0 s0=>?_
  have hs0:=hs.trans s0;refine IE (λc=>?_) (λc=>?_)
  ·refine helt _ hm c H0 _ hs0 λv H4 s4' hv=>?_
   have s4:=s0.trans s4';have hl4:=s4.get hl';refine⟨_,hl4,BU (by rw[bE];omega),ps.length-(i+1),by omega,rfl,hlt,λy=>by rw[fm],BV (hs.trans s4) hl _,ys++[(ps[i],v)],?_,?_,λq hq=>?_⟩
   ·rw[Ae,cg];rfl
   ·rw[et,bV c,cg,e1];rfl
   ·rcases cj.mp hq with h|h
    ·exact hU _ _ _ _ _ _ (hP _ _ _ _ (hys q h) s4) hl4
    ·rw[bS.mp h];exact hU _ _ _ _ _ _ hv hl4
  ·exact⟨ps.length-(i+1),by omega,rfl,hlt,λy=>by rw[fm],hs0,ys,s0.get hl',by rw[et,bP c,cW];exact e1,λq hq=>hP _ _ _ _ (hys q hq) s0⟩
 ·have e:i=ps.length:=by omega
  subst e;exact .inl ⟨h3 (bI _),hQ l H' ys hl hs hl' (by rw[e1,cI (bI _)]) hys⟩
theorem Wy {ys:List (α×V)}{f:α->V}(h:∀q∈ys,q.2=f q.1):ys.map (·.2)=(ys.map (·.1)).map f:=by
 rw[cw];exact dB λq hq=>h q hq
theorem Tv {J:It} {ps:List α} {g:α->V} {fr:List (Option Nat)} {k:Nat} {tt:TT} {te:TE} {Q:VK} {σ:St} {H:Hp} (p:α->Bool) (f:α->V) (hJ:MY J H (ps.map g)) (hn:ps.length<=1000000)
  (htest:∀x∈ps,∀(H':Hp) (R:Bool->Hp->Prop),An H H'->(∀H'',An H' H''->R (p x) H'')->tt ((stC fr σ).set k (some (g x))) H' R)
  (helt:∀x∈ps,p x=true->∀(H':Hp) (R:VK),An H H'->(∀H'',An H' H''->R (f x) H'')->te ((stC fr σ).set k (some (g x))) H' R)
  (hQ:∀l H',H l=none->An H H'->H' l=some (.lst ((ps.filter p).map f))->Q (.ref l) H'):GQ fr (FA k) tt te σ Q J H:=by
 refine To p (λx y _=>y=f x) (λ_ _ _ _ h _=>h) (λ_ _ _ _ _ _ h _=>h) hJ hn htest (λx hx hp H' R s' hR=>helt x hx hp H' R s' λH'' s''=>hR _ H'' s'' rfl) λl H' ys nl s' h' e hq=>hQ l H' nl s' ?_
 rw[<-e,<-Wy hq];exact h'
theorem TB {J:It} {ps:List α} {g:α->V} {fr:List (Option Nat)} {k:Nat} {tt:TT} {te:TE} {Q:VK} {σ:St} {H:Hp} (p:α->Bool) (f:α->V) (hJ:MY J H (ps.map g)) (hn:ps.length<=1000000)
  (htest:∀x∈ps,∀(H':Hp) (R:Bool->Hp->Prop),An H H'->R (p x) H'->tt ((stC fr σ).set k (some (g x))) H' R)
  (helt:∀x∈ps,p x=true->∀(H':Hp) (R:VK),An H H'->(∀H'',An H' H''->R (f x) H'')->te ((stC fr σ).set k (some (g x))) H' R)
  (hQ:∀l H',H l=none->An H H'->H' l=some (.lst ((ps.filter p).map f))->Q (.ref l) H'):GQ fr (FA k) tt te σ Q J H:=
 Tv p f hJ hn (λx hx H' R s' hR=>htest x hx H' R s' (hR H' (An.refl _))) helt hQ
end
end L2
namespace L2
section
open PySem
variable {X:Cx}{K:PySem.W.Frag}
theorem Q4 (h:X.K=K):HH X (compareOp .In) (aA K false):=by subst h;exact NC
end
end L2
namespace L2
end L2
namespace L2
end L2
namespace L2
end L2
namespace L2
end L2
namespace L2
end L2
namespace L2
end L2
namespace L2
end L2
namespace L2
end L2
namespace L2
open PySem
end L2
namespace L2
end L2
namespace L2
end L2
namespace L2
end L2
namespace L2
end L2
namespace L2
end L2
namespace L2
section
open PySem PySem.Calls PyProof.Rows
variable {prog:Program}{w:World}{A:Around}{E:Value->Shared->Prop}{s:Shared}
def VH (w:World)(h:Heap)(a:Addr)(us:List Value):Prop:=∃o es ep t,h.get? a=some o/\o.ExactSet/\o.data=.set es ep t/\t.fits es.size=true/\t.led=(!Bt w)/\es.toList.map (·.2)=us
theorem PD (led:Bool)(f:Nat->Int)(h:Int)(p:SetTable.Probe):(SetTable.fresh 0 0 led).probe f h p=some (.empty p.j p.dummy):=by
 rfl
abbrev P0 (j:Nat)(led plain:Bool):SetTable:={ mask:=7,place:=#[j],dummies:=#[],finger:=0,led:=led,moves:=0,plain:=plain }
theorem Te (led:Bool)(j:Nat):(SetTable.fresh 0 0 led).put j=(P0 j led true,0):=by
 simp[SetTable.put,SetTable.fresh,SetTable.below,SetTable.below.go,SetTable.has,SetTable.insertAt]
theorem Wq {a:Addr}{o:Obj}{ep:Nat}{t0:SetTable}{es0:Array (Int×Value)}{hx:Int}{v:Value}{j:Nat}{led plain:Bool}(hl:led = !Bt w)(e:s.heap.get? a=some o)(ex:o.ExactSet)(d:o.data=.set es0 ep t0) :
  VH w (s.heap.update a (Obj.putSet #[(hx,v)] (P0 j led plain))) a [v]:=by
 have z:=cU (Obj.putSet #[(hx,v)] (P0 j led plain)) e (by rw[putSet_of _ _ d];rfl);rw[putSet_of _ _ d] at z;refine⟨_,#[(hx,v)],ep+1,P0 j led plain,z,ex,rfl,?_,hl,rfl⟩;simp[SetTable.fits,SetTable.fill]
theorem SQ (led:Bool)(hx:Int)(v:Value):∃j,layNew (SetTable.fresh 0 0 led) #[] hx v=(#[(hx,v)],P0 j led true,false,false):=by
 unfold layNew SetTable.freeSlot;rw[PD];refine⟨((SetTable.fresh 0 0 led).probeStart hx).j,?_⟩;have ei:SetTable.insertAt (#[]:Array (Int×Value)) 0 (hx,v) = #[(hx,v)]:=by simp[SetTable.insertAt]
 have f1:(P0 ((SetTable.fresh 0 0 led).probeStart hx).j led true).fits 1=true:=by simp[SetTable.fits,SetTable.fill]
 simp only[show((SetTable.fresh 0 0 led).probeStart hx).dummy=none from rfl,Option.getD_none,Option.isSome_none,Te,ei];show(_,SetTable.orStandIn _ 1,false,!SetTable.fits _ 1)=_;rw[SetTable.orStandIn,bV f1,f1];rfl
theorem add_int {a:Addr} {i:Int} {ti:Tok} {Q:Bool->Shared->Prop} {led:Bool} (hl:led = !Bt w)
  (e:s.heap.get? a=some { cls:=.type "set",dict:=none,data:=.set #[] 0 (.fresh 0 0 led) })
  (q:∀b h' tk,Heap.SameBut a s.heap h'->VH w h' a [.int i ti]->Q b { s with heap:=h',toks:=tk }):wpAny (model prog w) A (setAdd a (.int i ti)) Q E s:=by
 have f0:(SetTable.fresh 0 0 led).fits (#[]:Array (Int×Value)).size=true:=rfl;have ex:Obj.ExactSet { cls:=.type "set",dict:=none,data:=.set #[] 0 (.fresh 0 0 led) }:=⟨rfl,rfl,rfl⟩
 unfold setAdd;refine cK (bD ((AJ prog w).pyHash (k:=.inl i) (Iu (k:=.inl i) ⟨ti,rfl⟩) ?_));generalize (AJ prog w).hash (.inl i)=hx;unfold setAddHashed;unfold setAddHashedIn;refine cK (bD (gJ (s:={ s with toks:=s.toks+1 }) e rfl f0 ?_));dsimp only;rw[show byScan (.int i ti) #[]=true by simp[byScan,Value.scannable,scanBound]];simp only[↓reduceIte];unfold setAddByScan;refine bD (bD (gS (bD (m:=setScan a (.int i ti) hx true #[]) (ia (show setScan a (.int i ti) hx true #[]=pure .absent from rfl) ?_))));obtain⟨j,el⟩:=SQ led hx (.int i ti);dsimp only;rw[el];dsimp only;refine bD (bG ?_);rw[bV rfl,hashByValue_scannable 8 rfl];refine bD (bG ?_)
 change wpAny _ _ (storeSet a #[(hx,Value.int i ti)] (P0 j led true) >>= λ_=>if(!false&&(P0 j led true).tooFull)=true then _ else pure (some true)) _ _ _
 refine bD (wpAny_storeSet_of (s:={ s with toks:=s.toks+1 }) e rfl ?_ (by show 1<=sizeLine;rw[eJ];decide));rw[bP (by simp[SetTable.tooFull,SetTable.fill])];exact bG (bG (q true _ _ (Heap.SameBut.update ..) (Wq hl e ex rfl)))
end
end L2
namespace L2
end L2
namespace L2
section
open PySem PySem.Spec PyProof.Rows PySem.Calls
structure LamTc (x y:Str) (params:Arguments) (scope:Scope):Prop where
 bind:∀(qual:Str) (body:Expr) (cl:List (Str×Addr)) (pm cv ctv u:Value),bindArgs (PySem.W.kla_fn "<lambda>" qual params body scope cl pm cv ctv) ⟨[u],[]⟩=pure [(x,u)]
 dflt:∀env,defaultsOf params env=([],[])
 names:scope.names=[(x,.local),(y,.free)]
 kind:scope.kind=.function
 co:scope.isCoroutine=false
 ge:scope.isGenerator=false
 dx:(x == ("__debug__":Str))=false
 dy:(y == ("__debug__":Str))=false
 cy:(y == ("__classdict__":Str))=false
 ne:(y == x)=false
variable {X:Cx}{pins:List (Addr×Obj)}{σ:St}{H:Hp}{s:Shared}{A:Around}
end
end L2
namespace L2
open PySem PySem.Spec PyProof.Rows
abbrev YV (h:Heap)(z TI TO:Addr)(f0 f1:Value):Prop:=
 h.get? z=some { cls:=.type "zip",dict:=none,data:=.fields #[f0,f1,.bool true,.ref TI,.ref TO],slots:=#[] }
structure ZF (z TI TO i1 i2 S:Addr) (B:Nat) (P1 P2:Nat->Value->Prop) (St1 St2:Nat->Heap->Prop) (i:Nat) (h:Heap) (ts:List Addr):Prop where
 zp:(∃a b,Yh h z TI TO .none/\IsPair h TO a b/\i=0)\/∃(T:Addr) (fl:Value),YV h z TI TO (rawInt T) fl/\(fl=.bool false\/fl=.bool true)/\T∈ts
 ti:IsPair h TI (.ref i1) (.ref i2)
 to:∃o,h.get? TO=some o
 s1:St1 i h
 s2:St2 i h
 ln:ts.length=i
 nd:ts.Nodup
 tp:∀(j:Nat) t,ts[j]?=some t->B<=t/\t≠S/\t≠z/\t≠TO/\t≠i1/\t≠i2/\∃x y,P1 j x/\P2 j y/\IsPair h t x y
end L2
namespace L2
section
open PySem PySem.Spec PyProof.Rows
def Hw (P:Program)(w:World)(K:PySem.W.Frag)(mg:Str->Option Value)(base:Heap)(k:Nat)(C:Addr)(m:Str)(ps:List Str)(sp:Sp):Prop:=
 ∃(f:Addr) (fd:FuncData),FnOk P w K mg base (QL P w) k f fd ps sp/\Meth K C m f/\Binds K fd ps []
variable {X:Cx}{k:Nat}{x m:Str}{C:Addr}{ps:List Str}{sp:Sp}{E:XK}{e o:Expr}{es:List Expr}{t:TA}{ta:TE}{p pos apos:Pos}
theorem JX {pl:Sem Bool} (ho:PE X o ta) (c:Cls X.K C) (D:Hw X.prog X.w X.K X.mg X.base k C m ps sp) (hr:Room k X.A) (hx:Es (QL X.prog X.w) X E) (ha:PA X (e::es) t)
  (hst:starEach (e::es) X.env=(false,eval e X.env)::starEach es X.env:=by rfl) (hpl:(backTo pos (starEach es X.env)).any (·.1)=false:=by rfl)
  (ht:eval (.Call (.Attribute o m apos) (e::es) [] pos) X.env=(do
   let ov <-eval o X.env
   standAt apos.atName
   let(f,first) <-holding [ov] (getMethod ov m pl)
   callWith pos f first (backTo pos (starEach (e::es) X.env)) (backToKw pos (keywordEach [] X.env))):=by rfl) :
  PE X (.Call (.Attribute o m apos) (e::es) [] pos) (Nw C m sp [] E ta t):=by
 obtain⟨f,fd,F,hm,hb⟩:=D;exact R1 ho c hm F hr hb .nil hx ha hst hpl ht
theorem LN {pl:Sem Bool} (ho:PE X.nox o ta) (c:Cls X.K C) (D:Hw X.prog X.w X.K X.mg X.base k C m ps sp) (hr:Room k X.A) (ha:PA X.nox (e::es) t)
  (hst:starEach (e::es) X.env=(false,eval e X.env)::starEach es X.env:=by rfl) (hpl:(backTo pos (starEach es X.env)).any (·.1)=false:=by rfl)
  (ht:eval (.Call (.Attribute o m apos) (e::es) [] pos) X.env=(do
   let ov <-eval o X.env
   standAt apos.atName
   let(f,first) <-holding [ov] (getMethod ov m pl)
   callWith pos f first (backTo pos (starEach (e::es) X.env)) (backToKw pos (keywordEach [] X.env))):=by rfl) :
  X2 X (.Call (.Attribute o m apos) (e::es) [] pos) (λEx=>Nw C m sp [] (λcls d H'=>Ex cls d H') ta t):=by
 obtain⟨f,fd,F,hm,hb⟩:=D;intro pins s σ H Q Ex I h;refine fA (pl:=pl) (cD (ho pins s σ H _ (I.wish _) h) (λu s1 z9=>?_) λ_ _ z=>False.elim z) ht;obtain⟨x,H1,I1,rx,a,dx,fs,ex,ea,l,q⟩:=z9;subst ex;obtain rfl:u=Value.ref a:=rx;refine G5 I1.unwish ea c hm l ?_;refine fc (first:=[.ref a]) (h₀:=X.base) I.ok.mod.kin hm.kp (cD (ha pos pins s1 σ H1 _ I1 q) (λus s2 ⟨vs,H2,I2,r,q2⟩=>⟨I2.kIn,?_⟩) λ_ _ z=>False.elim z) hst hpl;have J:=I2.unwish;have q':sp (.ref a::vs) H2 Q λcls d H'=>Ex cls d H':=by
  have:sp (.ref a::(vs++[])) H2 Q λcls d H'=>Ex cls d H':=q2
  rw[cW] at this;exact this
 have r':AF (V.ref a::vs) (Value.ref a::us):=.cons rfl r;have hl:(Value.ref a::us).length=ps.length:=by rw[<-r'.length];exact F.len _ _ _ _ q'
 have hb':=hb s2 (Value.ref a::us) J.kIn (by rw[cW];exact hl);rw[cW] at hb';refine eK (dW (F.run X.A X.stack s2 H2 ⟨Value.ref a::us,[]⟩ (Value.ref a::us) (V.ref a::vs) Q _ hr J.env0 hb' r' q') λr s' z=>?_)
 match r,z with
 | .error e,⟨ea,cls,H',B,a0,d,he,Fl,dj,q⟩=>exact⟨ea,cls,σ,H2,H',s2,B,a0,d,he,J,Fl,dj,rfl,q⟩
 | .ok (.ret u),z=>exact J.after z
theorem Wj {b:List Stmt}{tb:Sa}(h:Qx X b tb):ao X b (λD Ex=>tb D λcls _ σ' H'=>Ex cls σ' H'):=λpins s σ H D Ex I q=>
 cD (h pins s σ H D _ I q) (λ_ _ z=>z) (by rintro _ _ ⟨ea,cls,σ',H1,H',s1,B,a0,_,h1,h2,h3,_,q⟩;exact⟨ea,cls,σ',H1,H',s1,B,a0,h1,h2,h3,q⟩)
def ZY (te:(Value->Option Addr->Hp->Prop)->TE):Sa:=λD Ex σ H=>te (λcls d H'=>Ex cls d σ H') σ H λx H1=>D.rt x H1
theorem R4 {te:(Value->Option Addr->Hp->Prop)->TE}(he:X2 X e te):ZP X (.Return (some e) pos) (ZY te):=by
 intro pins s σ H D Ex I h;exact wpAny_Return_some (cD (he pins s σ H _ _ I h) (λv s1 ⟨y,H1,I1,r1,q1⟩=>⟨y,σ,H1,I1,r1,q1⟩) λ_ _ z=>UD z)
theorem UR:Qx X [] (λD _ σ H=>D.nx σ H):=λ_ _ σ H _ _ I h=>eP ⟨σ,H,I,h⟩
def aH (tc:TT)(t u:Sa):Sa:=λD Ex σ H=>tc σ H λb H1=>if b=true then t D Ex σ H1 else u D Ex σ H1
theorem XX {c:Expr}{a b:List Stmt}{tc:TT}{t u:Sa}(hc:PT X.nox c tc)(ha:Qx X a t)(hb:Qx X b u):ZP X (.If c a b pos) (aH tc t u):=by
 intro pins s σ H D Ex I h;refine wpAny_If (cD (hc pins s σ H _ (I.wish _) h) (λd s1 ⟨H1,I1,q1⟩=>?_) λ_ _ z=>False.elim z);cases d with
 |true=>exact ha pins s1 σ H1 D Ex I1.unwish q1
 |false=>exact hb pins s1 σ H1 D Ex I1.unwish q1
def Zc (t u:Sa):Sa:=λD Ex=>t { D with nx:=u D Ex } Ex
theorem TV {st:Stmt}{rest:List Stmt}{t u:Sa}(h1:ZP X st t)(h2:Qx X rest u):Qx X (st::rest) (Zc t u):=by
 intro pins s σ H D Ex I h;refine fQ (cD (h1 pins s σ H _ _ I h) (λf s1 q=>?_) λ_ _ z=>z);cases f with
 |next=>
  obtain⟨σ',H',I',q'⟩:=q;exact h2 pins s1 σ' H' D Ex I' q'
 |ret v=>exact q
 |brk=>exact q
 |cont=>exact q
end
end L2
namespace L2
noncomputable instance trDec:DecidableEq Tr:=λa b=>Classical.propDecidable (a=b)
section
open PySem PySem.Calls PySem.SeqAt PyProof.Rows
mutual
def L8 (P:Program)(w:World):Tr->Int
 | .int i=>(AJ P w).hash (Sum.inl i)
 | .str z=>(AJ P w).hash (Sum.inr z)
 | .tup ts=>reduceHash (Builtin.Tuple.tupleHashOf (EV P w ts))
 | .non=>0
 | .bl _=>0
 | .lst _=>0
def EV (P:Program)(w:World):List Tr->List Int
 |[]=>[]
 |t::ts=>L8 P w t::EV P w ts
end
mutual
def Jj:Tr->Nat
 | .tup ts=>Gp ts+1
 | .int _=>1
 | .str _=>1
 | .non=>1
 | .bl _=>1
 | .lst _=>1
def Gp:List Tr->Nat
 |[]=>0
 |t::ts=>Jj t+Gp ts
end
mutual
def T8 (h:Heap):Tr->Value->Prop
 | .int i,v=>∃t,v=.int i t
 | .str z,v=>∃t,v=.str z t
 | .tup ts,v=>∃a its,v=.ref a/\h.IsTuple a its/\HF h ts its.toList
 | .non,_=>False
 | .bl _,_=>False
 | .lst _,_=>False
def HF (h:Heap):List Tr->List Value->Prop
 |[],vs=>vs=[]
 |t::ts,vs=>∃v us,vs=v::us/\T8 h t v/\HF h ts us
end
theorem K6 (P:Program)(w:World)(t:Tr):∀ts:List Tr,EV P w (ts++[t])=EV P w ts++[L8 P w t]
 |[]=>rfl
 |u::ts=>by
  show L8 P w u::EV P w (ts++[t])=_;rw[K6 P w t ts];rfl
theorem Lc (t:Tr):∀ts:List Tr,Gp (ts++[t])=Gp ts+Jj t
 |[]=>by show Jj t+0=0+Jj t;omega
 |u::ts=>by
  show Jj u+Gp (ts++[t])=Jj u+Gp ts+Jj t;rw[Lc t ts];omega
theorem HF.len {h:Heap}:∀{ts:List Tr} {vs:List Value},HF h ts vs->vs.length=ts.length
 |[],_,e=>by rw[show _=[] from e];rfl
 |t::ts,_,⟨v,us,e,_,h2⟩=>by rw[e,cN,cN,HF.len h2]
theorem HF.get {h:Heap}:∀{ts:List Tr} {vs:List Value},HF h ts vs->∀{i:Nat} {v:Value},vs[i]?=some v->∃t,ts[i]?=some t/\T8 h t v
 |[],_,e,i,v,hv=>by rw[show _=[] from e] at hv;simp at hv
 |t::ts,_,⟨w,us,e,h1,h2⟩,0,v,hv=>by
  rw[e] at hv;cases(bO hv);exact⟨t,rfl,h1⟩
 |t::ts,_,⟨w,us,e,h1,h2⟩,i+1,v,hv=>by
  rw[e] at hv;obtain⟨t',e1,e2⟩:=HF.get h2 (i:=i) (v:=v) (by simpa using hv);exact⟨t',by simpa using e1,e2⟩
theorem Xg {h:Heap}{a:Addr}{i1 i2:Array Value}(x:h.IsTuple a i1)(y:h.IsTuple a i2):i1=i2:=by
 obtain⟨o,ho,_,n,hd⟩:=x;obtain⟨o2,ho2,_,n2,hd2⟩:=y;rw[ho] at ho2;cases ho2;rw[hd] at hd2;cases hd2;rfl
mutual
theorem QV {h:Heap}:∀(t u:Tr) (v:Value),T8 h t v->T8 h u v->t=u
 | .int i,u,v,⟨t1,e1⟩,h2=>by
  subst e1;cases u with
  |int j=>obtain⟨t2,e2⟩:=h2;cases e2;rfl
  |str z=>obtain⟨t2,e2⟩:=h2;cases e2
  |tup us=>obtain⟨b,its,e2,_⟩:=h2;cases e2
  |non=>cases h2
  |bl _=>cases h2
  |lst _=>cases h2
 | .str z,u,v,⟨t1,e1⟩,h2=>by
  subst e1;cases u with
  |int j=>obtain⟨t2,e2⟩:=h2;cases e2
  |str z=>obtain⟨t2,e2⟩:=h2;cases e2;rfl
  |tup us=>obtain⟨b,its,e2,_⟩:=h2;cases e2
  |non=>cases h2
  |bl _=>cases h2
  |lst _=>cases h2
 | .tup ts,u,v,⟨a,its,e1,p1,r1⟩,h2=>by
  subst e1;cases u with
  |int j=>obtain⟨t2,e2⟩:=h2;cases e2
  |str z=>obtain⟨t2,e2⟩:=h2;cases e2
  |tup us=>
   obtain⟨b,its2,e2,p2,r2⟩:=h2;cases e2;cases(Xg p1 p2);rw[R3 ts us _ r1 r2]
  |non=>cases h2
  |bl _=>cases h2
  |lst _=>cases h2
theorem R3 {h:Heap}:∀(ts us:List Tr) (vs:List Value),HF h ts vs->HF h us vs->ts=us
 |[],us,vs,e,h2=>by
  cases(show vs=[] from e);cases us with
  |nil=>rfl
  |cons u us=>obtain⟨_,_,e2,_⟩:=h2;cases e2
 |t::ts,us,vs,⟨v,vs1,e,h1,h2⟩,h3=>by
  subst e;cases us with
  |nil=>cases(show v::vs1=[] from h3)
  |cons u us=>
   obtain⟨v',vs',e2,g1,g2⟩:=h3;cases e2;rw[QV t u v h1 g1,R3 ts us vs1 h2 g2]
end
mutual
theorem RY {h h':Heap}(k:∀a its,h.IsTuple a its->h'.IsTuple a its):∀(t:Tr) (v:Value),T8 h t v->T8 h' t v
 | .int _,_,e=>e
 | .str _,_,e=>e
 | .tup ts,_,⟨a,its,e,p,r⟩=>⟨a,its,e,k a its p,Qy k ts _ r⟩
theorem Qy {h h':Heap}(k:∀a its,h.IsTuple a its->h'.IsTuple a its):∀(ts:List Tr) (vs:List Value),HF h ts vs->HF h' ts vs
 |[],_,e=>e
 |t::ts,_,⟨v,us,e,h1,h2⟩=>⟨v,us,e,RY k t v h1,Qy k ts us h2⟩
end
theorem Uo {h h':Heap}{d:Addr}{o:Obj}{es:Array DictEntry}{ep:Nat}(ho:h.get? d=some o)(hd:o.data=.dict es ep)(hs:Heap.SameBut d h h')(a:Addr)(its:Array Value)(x:h.IsTuple a its):h'.IsTuple a its:=by
 obtain⟨o',ho',hc,n,hd'⟩:=x;have hne:a≠d:=by
  rintro rfl
  rw[ho'] at ho;cases ho;rw[hd] at hd';cases hd'
 exact⟨o',(hs.2 a hne).trans ho',hc,n,hd'⟩
section
variable {prog:Program}{w:World}
theorem Sg:∀(n:Nat) (t:Tr) (A:Around) (vv:Value) (s:Shared) (Q:Int->Shared->Prop) (E:Value->Shared->Prop),t.dep<=n->A.units+n<cLine->T8 s.heap t vv->Q (L8 prog w t) { s with toks:=s.toks+Jj t }->wpAny (model prog w) A (pyHash vv) Q E s
 |0,t,_,_,_,_,_,h,_,_,_=>by cases t<;>simp[Tr.dep] at h
 |n+1,t,A,vv,s,Q,E,ht,hA,hv,q=>by
  cases t with
  |int i=>
   obtain⟨t1,rfl⟩:=hv;exact(AJ prog w).pyHash (K1 _ _ i t1) q
  |str z=>
   obtain⟨t1,rfl⟩:=hv;exact(AJ prog w).pyHash (La _ _ z t1) q
  |tup ts=>
   obtain⟨a,its,rfl,⟨o,ho,hc,m,hd⟩,hr⟩:=hv;have ty:s.TypeIs (.ref a) "tuple":=⟨o,ho,hc⟩
   have hdep:Tr.deps ts<=n:=by have:1+Tr.deps ts<=n+1:=ht;omega
   unfold pyHash pyHashByItsType;refine bD (wpAny_cRoomFor_or (.inr (by omega)) (bD (gc ty PySem.F.slot_tuple_hash.lookup ?_)))
   change wpAny _ _ (if(some (Value.builtin "tuple.__hash__") == some Value.none)=true then _ else _) Q E s
   rw[bP (by rw[beq_builtin_none];exact bN)];refine bD (gc ty PySem.F.slot_tuple_hash.lookup ?_)
   change wpAny _ _ (callSpecialIfBoundUnlessNone? (.ref a) "__hash__" _ >>= _) Q E s
   refine bD (wpAny_callSpecialIfBoundUnlessNone?_slot ty iG (dq iG ty PySem.F.entry_tuple_hash ?_ (PySem.F.args_tuple_hash_1 _)))
   change wpAny _ _ (Builtin.Tuple.tupleItemsOf (.ref a) >>= _) _ _ s
   refine bD (wpAny_tupleItemsOf ho hd (bD ?_));rw[<-Array.forIn_toList];refine wpAny_forIn_list _ (λrest (b:Array Int) s'=>∃done left,ts=done++left/\HF s.heap left rest/\b.toList=EV prog w done/\s'={ s with toks:=s.toks+Gp done }) _ ?_ ?_ _ _ ⟨[],ts,rfl,hr,rfl,rfl⟩
   ·rintro x rest b s' ⟨done,left,et,hl,hb,rfl⟩
    cases left with
    |nil=>cases(show x::rest=[] from hl)
    |cons t1 left=>
     obtain⟨v1,vl1,e1,r1,hl1⟩:=hl;cases e1;have ht1:t1.dep<=n:=cA (Tr.deps_get (i:=done.length) (by rw[et];simp)) hdep;have fin:∃done2 left2,ts=done2++left2/\HF s.heap left2 rest/\(b.push (L8 prog w t1)).toList=EV prog w done2/\({ s with toks:=s.toks+Gp done+Jj t1 }:Shared)={ s with toks:=s.toks+Gp done2 }:=⟨done++[t1],left,by rw[et];simp,hl1,by rw[K6,Array.toList_push,hb],by rw[Lc,Nat.add_assoc]⟩
     refine bD (Sg n t1 A.in1 x _ _ _ ht1 (by show A.units+1+n<cLine;omega) r1 ?_)
     first
      |exact bG fin
      |exact bD (bG (bG fin))
   ·rintro b s' ⟨done,left,et,hl,hb,rfl⟩
    have:left=[]:=by
     cases left with
     |nil=>rfl
     |cons t1 left=>
      obtain⟨v1,vl1,e1,_⟩:=hl;cases e1
    subst this;rw[cW] at et;subst et
    change wpAny _ _ (retInt (Builtin.Tuple.tupleHashOf b.toList)) _ _ _
    rw[hb];refine wpAny_ret_mkInt ?_
    change wpAny _ _ (if(decide (-(2:Int)^63<=Builtin.Tuple.tupleHashOf (EV prog w ts))&&decide (Builtin.Tuple.tupleHashOf (EV prog w ts)<2^63))=true then _ else _) Q E _
    have q':Q (reduceHash (Builtin.Tuple.tupleHashOf (EV prog w ts))) { s with toks:=s.toks+(Gp ts+1) }:=q;unfold reduceHash at q'
    by_cases hz:(decide (-(2:Int)^63<=Builtin.Tuple.tupleHashOf (EV prog w ts))&&decide (Builtin.Tuple.tupleHashOf (EV prog w ts)<2^63))=true
    ·rw[bV hz] at q' ⊢;exact bG q'
    ·rw[bP hz] at q' ⊢;exact bD (gS (bG q'))
  |non=>cases hv
  |bl _=>cases hv
  |lst _=>cases hv
theorem PF:∀(n:Nat) (t:Tr) (A:Around) (vv:Value) (s:Shared) (Q:Bool->Shared->Prop) (E:Value->Shared->Prop),t.dep<=n->T8 s.heap t vv->Q true s->wpAny (model prog w) A (eqIsQuiet n vv) Q E s
 |0,t,_,_,_,_,_,h,_,_=>by cases t<;>simp[Tr.dep] at h
 |n+1,t,A,vv,s,Q,E,ht,hv,q=>by
  cases t with
  |int i=>
   obtain⟨t1,rfl⟩:=hv;rw[eqIsQuiet_byValue _ rfl];exact bG q
  |str z=>
   obtain⟨t1,rfl⟩:=hv;rw[eqIsQuiet_byValue _ rfl];exact bG q
  |tup ts=>
   obtain⟨a,its,rfl,⟨o,ho,hc,m,hd⟩,hr⟩:=hv;have ty:s.TypeIs (.ref a) "tuple":=⟨o,ho,hc⟩
   have hdep:Tr.deps ts<=n:=by have:1+Tr.deps ts<=n+1:=ht;omega
   unfold eqIsQuiet;refine bD (gc ty PySem.F.slot_tuple_eq.lookup ?_)
   change wpAny _ _ (isInstance (.ref a) (.type "tuple") >>= _) _ _ s
   refine bD (iE ty isSubtype_tuple_tuple ?_);simp only[Bool.not_true,Bool.false_eq_true,if_false];refine bD (je ho hd (bD ?_))
   change wpAny _ _ (forIn its _ _) _ _ s
   rw[<-Array.forIn_toList];refine wpAny_forIn_list _ (λrest r s'=>r.1=none/\s'=s/\∃done left,ts=done++left/\HF s.heap left rest) _ ?_ ?_ _ _ ⟨rfl,rfl,[],ts,rfl,hr⟩
   ·rintro x rest r s' ⟨hn,rfl,done,left,et,hl⟩
    cases left with
    |nil=>cases(show x::rest=[] from hl)
    |cons t1 left=>
     obtain⟨v1,vl1,e1,r1,hl1⟩:=hl;cases e1;have ht1:t1.dep<=n:=cA (Tr.deps_get (i:=done.length) (by rw[et];simp)) hdep;refine bD (PF n t1 A x _ _ _ ht1 r1 ?_);simp only[Bool.not_true,Bool.false_eq_true,if_false];exact bG ⟨rfl,rfl,done++[t1],left,by rw[et];simp,hl1⟩
   ·rintro⟨r1,r2⟩ s' ⟨hn,rfl,_⟩
    simp only at hn;subst hn;exact bG q
  |non=>cases hv
  |bl _=>cases hv
  |lst _=>cases hv
end
theorem U5 {t u:Tr}{b:Bool}(h:b=true↔t=u):decide (t=u)=b:=by
 rw[dD,cz,h]
theorem Yb {ts us:List Tr}:decide (Tr.tup ts=Tr.tup us)=((List.range (min ts.length us.length)).all (λj=>decide (ts.getD j .non=us.getD j .non))&&ts.length == us.length):=by
 refine U5 ?_;rw[cu,cO,cZ];constructor
 ·rintro⟨h1,h2⟩
  congr 1
  refine dH λi=>?_
  by_cases hi:i<ts.length
  ·have e:=cX (h1 i (fX.mpr (by omega)));obtain⟨t1,g1⟩:∃t1,ts[i]?=some t1:=⟨ts[i],bF hi⟩
   obtain⟨t2,g2⟩:∃t2,us[i]?=some t2:=⟨us[i]'(by omega),bF _⟩
   simp only[List.getD,g1,g2,Option.getD_some] at e;rw[g1,g2,e]
  ·rw[cH (by omega),cH (by omega)]
 ·intro h;cases h;exact⟨λi _=>bM rfl,rfl⟩
theorem Xw {s:Shared}:∀(n:Nat) (t u:Tr) (A:Around) (vv ww:Value),t.dep<=n->u.dep<=n->A.units+n<cLine->T8 s.heap t vv->T8 s.heap u ww->SeqAt.EqAt A s vv ww (decide (t=u))
 |0,t,_,_,_,_,h,_,_,_,_=>by cases t<;>simp[Tr.dep] at h
 |n+1,t,u,A,vv,ww,ht,hu,hA,h1,h2=>by
  cases t with
  |int i=>
   obtain⟨t1,rfl⟩:=h1;cases u with
   |int j=>
    obtain⟨t2,rfl⟩:=h2;rw[U5 (b:=i == j) (by rw[cZ];exact⟨λe=>by rw[e],λe=>by cases e;rfl⟩)];exact ix i t1 j t2
   |str z=>
    obtain⟨t2,rfl⟩:=h2;rw[bL (by intro e;cases e)];exact gw i t1 z t2
   |tup us=>
    obtain⟨b,its,rfl,p,_⟩:=h2;rw[bL (by intro e;cases e)];exact SeqAt.EqAt.int_tuple i t1 p (by omega)
   |non=>cases h2
   |bl _=>cases h2
   |lst _=>cases h2
  |str y=>
   obtain⟨t1,rfl⟩:=h1;cases u with
   |int j=>
    obtain⟨t2,rfl⟩:=h2;rw[bL (by intro e;cases e)];exact gu y t1 j t2
   |str z=>
    obtain⟨t2,rfl⟩:=h2;rw[U5 (b:=y == z) (by rw[cZ];exact⟨λe=>by rw[e],λe=>by cases e;rfl⟩)];exact iw y t1 z t2
   |tup us=>
    obtain⟨b,its,rfl,p,_⟩:=h2;rw[bL (by intro e;cases e)];exact SeqAt.EqAt.str_tuple y t1 p (by omega)
   |non=>cases h2
   |bl _=>cases h2
   |lst _=>cases h2
  |tup ts=>
   obtain⟨a,its,rfl,p1,r1⟩:=h1;have d1:Tr.deps ts<=n:=by have:1+Tr.deps ts<=n+1:=ht;omega
   cases u with
   |int j=>
    obtain⟨t2,rfl⟩:=h2;rw[bL (by intro e;cases e)];exact SeqAt.EqAt.tuple_int j t2 p1 (by omega)
   |str z=>
    obtain⟨t2,rfl⟩:=h2;rw[bL (by intro e;cases e)];exact SeqAt.EqAt.tuple_str z t2 p1 (by omega)
   |tup us=>
    obtain⟨b,its2,rfl,p2,r2⟩:=h2;have d2:Tr.deps us<=n:=by have:1+Tr.deps us<=n+1:=hu;omega
    by_cases hab:a=b
    ·subst hab;rw[QV (.tup ts) (.tup us) (.ref a) ⟨a,its,rfl,p1,r1⟩ ⟨a,its2,rfl,p2,r2⟩,bM rfl];exact eQ _
    have l1:=r1.len;have l2:=r2.len;rw[dC] at l1 l2;have q:=fK (A:=A) (s:=s) (e:=λj=>decide (ts.getD j .non=us.getD j .non)) p1 p2 (by omega) (λj g1 g2=>by
     obtain⟨t1,e1,x1⟩:=HF.get r1 (i:=j) (v:=its[j]) (by rw[cR];exact dc g1);obtain⟨t2,e2,x2⟩:=HF.get r2 (i:=j) (v:=its2[j]) (by rw[cR];exact dc g2);have:=Xw n t1 t2 A.in1 _ _ (cA (Tr.deps_get e1) d1) (cA (Tr.deps_get e2) d2) (by show A.units+1+n<cLine;omega) x1 x2;simp only[List.getD,e1,e2,Option.getD_some];exact this)
    rw[Yb];rw[l1,l2] at q;exact gv hab q
   |non=>cases h2
   |bl _=>cases h2
   |lst _=>cases h2
  |non=>cases h1
  |bl _=>cases h1
  |lst _=>cases h1
noncomputable def JZ (P:Program) (w:World):HeapKind P w Tr where
 is:=λh k a=>k.dep<=8/\T8 h k (.ref a)
 hash:=L8 P w
 draws:=Jj
 room:=λA=>A.units+8<cLine
 inj:=λhx hy=>QV _ _ _ hx.2 hy.2
 keeps:=λx ho hd hs=>⟨x.1,RY (Uo ho hd hs) _ _ x.2⟩
 pyHash:=λhu hk h=>Sg 8 _ _ _ _ _ _ hk.1 hu hk.2 h
 eqBool:=λhu hx hy h=>Xw 8 _ _ _ _ _ hx.1 hy.1 hu hx.2 hy.2 _ _ _ _ h
 quiet:=λhk h=>PF 8 _ _ _ _ _ _ hk.1 hk.2 h
end
end L2
namespace L2
section
open PySem PySem.Calls PySem.Spec PySem.SeqAt PyProof.Rows
mutual
def Tr.pl:Tr->Prop
 | .int _=>True
 | .str _=>True
 | .tup ts=>Tr.pls ts
 | .non=>False
 | .bl _=>False
 | .lst _=>False
def Tr.pls:List Tr->Prop
 |[]=>True
 |t::ts=>Tr.pl t/\Tr.pls ts
end
variable {X:Cx}{pins:List (Addr×Obj)}{σ:St}{H:Hp}{s:Shared}{d:Addr}{kvs:List (Tr×V)}{es:Array DictEntry}{ep:Nat}{A:Around}{E:Value->Shared->Prop}{k:Tr}{u:Value}{F:Addr->Prop}
mutual
theorem RZ (I:Inv X pins σ H s):∀(t:Tr) (v:V) (vv:Value),t.pl->Rep F H t v->RelV v vv->T8 s.heap t vv
 | .int i,v,vv,_,h,r=>by
  cases(show v=V.int i from h);exact r
 | .str z,v,vv,_,h,r=>by
  cases(show v=V.str z from h);exact r
 | .tup ts,v,vv,hp,h,r=>by
  obtain⟨a,vs,e,ha,hr⟩:=h;subst e;cases r;obtain⟨its,rv1,p1,_⟩:=I.tuple (AS.of (K:=X.K) ha);exact⟨a,its.toArray,rfl,p1,by simpa using Qw I ts vs its hp hr rv1⟩
theorem Qw (I:Inv X pins σ H s):∀(ts:List Tr) (vs:List V) (us:List Value),Tr.pls ts->AL F H ts vs->AF vs us->HF s.heap ts us
 |[],vs,us,_,h,r=>by
  cases(show vs=[] from h);cases r;exact rfl
 |t::ts,vs,us,hp,⟨v,vs1,e,h1,h2⟩,r=>by
  subst e;cases r with
  |cons r1 r2=>exact⟨_,_,rfl,RZ I t v _ hp.1 h1 r1,Qw I ts vs1 _ hp.2 h2 r2⟩
end
structure DdX (H:Hp) (k:Tr) (b:Addr):Prop where
 d:k.dep<=8
 p:k.pl
 r:Rep (λ_=>True) H k (.ref b)
theorem DdX.keep {H':Hp}{b:Addr}(x:DdX H k b)(ht:∀c ys,H c=some (.tup ys)->H' c=some (.tup ys)):DdX H' k b:=⟨x.d,x.p,ddx_k ht k _ x.p x.r⟩
where
 ddx_k {H H':Hp} (ht:∀c ys,H c=some (.tup ys)->H' c=some (.tup ys)):∀(t:Tr) (v:V),t.pl->Rep (λ_=>True) H t v->Rep (λ_=>True) H' t v
 | .int _,_,_,h=>h
 | .str _,_,_,h=>h
 | .tup ts,_,hp,⟨a,vs,e,ha,hr⟩=>⟨a,vs,e,ht _ _ ha,ddx_ks ht ts vs hp hr⟩
 ddx_ks {H H':Hp} (ht:∀c ys,H c=some (.tup ys)->H' c=some (.tup ys)):∀(ts:List Tr) (vs:List V),Tr.pls ts->AL (λ_=>True) H ts vs->AL (λ_=>True) H' ts vs
 |[],_,_,h=>h
 |t::ts,_,hp,⟨v,us,e,h1,h2⟩=>⟨v,us,e,ddx_k ht t v hp.1 h1,ddx_ks ht ts us hp.2 h2⟩
theorem DdX.is {b:Addr}(I:Inv X pins σ H s)(x:DdX H k b):(JZ X.prog X.w).is s.heap k b:=⟨x.d,RZ I k _ _ x.p x.r rfl⟩
def aK (P:Program)(w:World)(H:Hp)(p:Tr×V)(e:DictEntry):Prop:=∃b,e.key=.ref b/\DdX H p.1 b/\e.hash=L8 P w p.1/\RelV p.2 e.val
structure Dd (P:Program) (w:World) (H:Hp) (d:Addr) (kvs:List (Tr×V)) (es:Array DictEntry) (ep:Nat):Prop where
 o:H d=some (DM d es ep)
 m:(d == sysModules)=false
 z:kvs.length<=sizeLine
 r:Paired (aK P w H) kvs es.toList
 n:(kvs.map (·.1)).Nodup
theorem Dd.len {P:Program}{w:World}(M:Dd P w H d kvs es ep):es.size=kvs.length:=by
 rw[<-dC];exact(dY M.r).symm
theorem Dd.at (I:Inv X pins σ H s)(M:Dd X.prog X.w H d kvs es ep):KZ s.heap d es ep:=(show AX X.prog X.w H s.heap d (DM d es ep) from I.hok d _ M.o).1
theorem Dd.keep {P:Program}{w:World}{H':Hp}(M:Dd P w H d kvs es ep)(ho:H' d=some (DM d es ep))(ht:∀c ys,H c=some (.tup ys)->H' c=some (.tup ys)):Dd P w H' d kvs es ep:=
 { M with o:=ho,r:=Paired.mapP M.r λp e ⟨b,h1,h2,h3⟩=>⟨b,h1,h2.keep ht,h3⟩ }
theorem Dd.same {P:Program}{w:World}{H':Hp}(M:Dd P w H d kvs es ep)(s:An H H'):Dd P w H' d kvs es ep:=M.keep (s.get M.o) λc ys e=>s.get e
def VQ (H:Hp)(p:Tr×V)(x:Tr×Addr×Value):Prop:=x.1=p.1/\DdX H p.1 x.2.1/\RelV p.2 x.2.2
theorem UE {P:Program}{w:World}:∀{kvs:List (Tr×V)} {l:List DictEntry},Paired (aK P w H) kvs l->∃xs,l=xs.map (entryOfKey (JZ P w))/\Paired (VQ H) kvs xs
 |_,_,.nil=>⟨[],rfl,.nil⟩
 |(k,v)::kvs,e::l,.cons ⟨b,h1,h2,h3,h4⟩ t=>by
  obtain⟨xs,e1,e2⟩:=UE t;obtain⟨h,ky,vl⟩:=e;refine⟨(k,b,vl)::xs,?_,.cons ⟨rfl,h2,h4⟩ e2⟩;rw[bX,<-e1];cases h1;cases h3;rfl
theorem Sx {P:Program}{w:World}:∀{kvs:List (Tr×V)} {xs:List (Tr×Addr×Value)},Paired (VQ H) kvs xs->Paired (aK P w H) kvs (xs.map (entryOfKey (JZ P w)))
 |_,_,.nil=>.nil
 |(k,v)::kvs,(k',b,vl)::xs,.cons ⟨h1,h2,h3⟩ t=>by
  cases(show k'=k from h1);exact .cons ⟨b,rfl,h2,rfl,h3⟩ (Sx t)
theorem OJ {P:Program}{w:World}:∀{kvs:List (Tr×V)} {xs:List (Tr×Addr×Value)},Paired (VQ H) kvs xs->xs.map (·.1)=kvs.map (·.1)
 |_,_,.nil=>rfl
 |_,_,.cons ⟨h1,_⟩ t=>by rw[bX,bX,OJ (P:=P) (w:=w) t,h1]
theorem Dd.of (I:Inv X pins σ H s)(M:Dd X.prog X.w H d kvs es ep):∃xs,Paired (VQ H) kvs xs/\s.heap.DictOfH (JZ X.prog X.w) d xs:=by
 obtain⟨o,ho,hc,hx⟩:=M.at I;obtain⟨xs,e1,e2⟩:=UE M.r;refine⟨xs,e2,o,es,ep,ho,hc,hx,e1,λx hx=>?_,by rw[OJ (P:=X.prog) (w:=X.w) e2];exact M.n⟩;obtain⟨i,hi⟩:=cL hx;obtain⟨p,_,h1,h2,_⟩:=GH e2 hi;rw[h1];exact h2.is I
noncomputable def DV (kvs:List (Tr×V)) (k:Tr):Option V:=(kvs.find? λp=>decide (p.1=k)).map (·.2)
noncomputable def Jf (kvs:List (Tr×V)) (k:Tr) (v:V):List (Tr×V):=if(DV kvs k).isSome=true then kvs.map (λp=>if p.1=k then(p.1,v) else p) else kvs++[(k,v)]
theorem Ou:∀{kvs:List (Tr×V)} {xs:List (Tr×Addr×Value)},Paired (VQ H) kvs xs->(DV kvs k=none/\atKey xs k=none)\/∃v p,DV kvs k=some v/\atKey xs k=some p/\RelV v p.2
 |_,_,.nil=>.inl ⟨rfl,rfl⟩
 |p::kvs,x::xs,.cons ⟨h1,_,h3⟩ t=>by
  by_cases e:p.1=k
  ·refine .inr ⟨p.2,x.2,?_,?_,h3⟩
   ·unfold DV;rw[cP,bM e];rfl
   ·unfold atKey;rw[cP,bM (h1.trans e)];rfl
  ·have g1:DV (p::kvs) k=DV kvs k:=by unfold DV;rw[cP,bL e]
   have g2:atKey (x::xs) k=atKey xs k:=by unfold atKey;rw[cP,bL (λz=>e (h1.symm.trans z))]
   rw[g1,g2];exact Ou t
theorem Yk {H':Hp}{b:Addr}{z:V}{r:Value}(hk:DdX H k b)(rz:RelV z r){kvs:List (Tr×V)}{xs:List (Tr×Addr×Value)}(p:Paired (VQ H) kvs xs)(ht:∀c ys,H c=some (.tup ys)->H' c=some (.tup ys)):Paired (VQ H') (Jf kvs k z) (storedH xs k b r):=by
 have up:∀p x,VQ H p x->VQ H' p x:=λp x ⟨h1,h2,h3⟩=>⟨h1,h2.keep ht,h3⟩
 unfold Jf storedH;rcases Ou (k:=k) p with⟨e1,e2⟩|⟨v,q,e1,e2,_⟩
 ·rw[e1,e2];exact iM (Paired.mapP p up) ⟨rfl,hk.keep ht,rz⟩
 ·rw[e1,e2];simp only[Option.isSome_some,if_true];have:∀{kvs:List (Tr×V)} {xs:List (Tr×Addr×Value)},Paired (VQ H) kvs xs->Paired (VQ H') (kvs.map (λp=>if p.1=k then(p.1,z) else p)) (xs.map (putAt k r)):=by
   intro kvs xs p
   induction p with
   |nil=>exact .nil
   |@cons p x ps qs h t ih=>
    rw[bX,bX];refine .cons ?_ ih;obtain⟨h1,h2,h3⟩:=h;unfold putAt
    by_cases e:p.1=k
    ·rw[bV e,bV (h1.trans e)];exact⟨h1,h2.keep ht,rz⟩
    ·rw[bP e,bP (λz=>e (h1.symm.trans z))];exact⟨h1,h2.keep ht,h3⟩
  exact this p
theorem TL (kvs:List (Tr×V))(k:Tr)(v:V):(Jf kvs k v).length<=kvs.length+1:=by
 unfold Jf
 split
 ·rw[bE];omega
 ·rw[bW];exact bI _
theorem Vd {i:Nat}{p:Tr×V}(nd:(kvs.map (·.1)).Nodup)(h:kvs[i]?=some p):DV kvs p.1=some p.2:=by
 induction kvs generalizing i with
 |nil=>simp at h
 |cons x rest ih=>
  rw[bX,cV] at nd;cases i with
  |zero=>
   cases(bO h);unfold DV;rw[cP,bM rfl];rfl
  |succ j=>
   have h':rest[j]?=some p:=by simpa using h
   have ne:x.1≠p.1:=λe=>nd.1 (by rw[e];exact bK.mpr ⟨p,bJ h',rfl⟩)
   have:=ih nd.2 h';unfold DV at this ⊢;rw[cP,bL ne];exact this
theorem Rx (h:∀p∈kvs,p.1≠k):DV kvs k=none:=by
 unfold DV;rw[eD,eE];intro p hp hq;exact h p hp (cX hq)
def Yy (P:Program)(w:World):TE:=λ_ H Q=>∀d,H d=none->∀ep H',(∀b,b≠d->H' b=H b)->Dd P w H' d [] #[] ep->Q (.ref d) H'
theorem VI {P:Program}{w:World}{pos:Pos}(hP:X.prog=P)(hw:X.w=w):PE X (.Dict [] [] pos) (Yy P w):=by
 subst hP hw;intro pins s σ H Q I h;refine VP (pos:=pos) (X:=X) rfl rfl pins s σ H Q I λd hd ep H' hb M=>h d hd ep H' hb ⟨M.o,M.m,cE _,.nil,dS⟩
def Y0 (P:Program)(w:World)(td ty:TE):TE:=λσ H Q=>td σ H λx H1=>ty σ H1 λy H2=>∃a kvs es ep k b v,x=.ref a/\y=.ref b/\Dd P w H2 a kvs es ep/\DdX H2 k b/\DV kvs k=some v/\Q v H2
theorem BI {P:Program}{w:World}{o i:Expr}{td ty:TE}{pos:Pos}(hP:X.prog=P)(hw:X.w=w)(hu:X.A.units+150<cLine)(ho:PE X o td)(hi:PE X i ty)(hs:XT i):PE X (.Subscript o i pos) (Y0 P w td ty):=by
 subst hP hw;intro pins s σ H Q I h;refine R0 PySem.F.slot_dict_getitem.lookup hs (A7 (ho pins s σ H _ I h) λu s1 ⟨x,H1,I1,rx,q1⟩=>A7 (hi pins s1 σ H1 _ I1 q1) λiv s2 z9=>?_);obtain⟨y,H2,I2,ry,a,kvs,es,ep,k,b,v,ex,ey,M,hk,hv,q2⟩:=z9;subst ex ey;obtain rfl:u=Value.ref a:=rx;obtain rfl:iv=Value.ref b:=ry;obtain⟨xs,pr,dd⟩:=M.of I2;refine⟨(M.at I2).ty,?_⟩;rcases Ou (k:=k) pr with⟨e1,_⟩|⟨v',p,e1,e2,rv⟩
 ·rw[e1] at hv;cases hv
 ·rw[e1] at hv;cases hv;exact wpAny_getItem_heap (show X.A.units+1+8<cLine by omega) (hk.is I2) dd e2 ⟨v,H2,I2.tok _,rv,q2⟩
def ZT (P:Program)(w:World)(ty td:TE):TE:=λσ H Q=>ty σ H λy H1=>td σ H1 λx H2=>∃a kvs es ep k b,x=.ref a/\y=.ref b/\Dd P w H2 a kvs es ep/\DdX H2 k b/\Q (.bl (DV kvs k).isSome) H2
theorem W8 {P:Program}{w:World}{o i:Expr}{td ty:TE}(hP:X.prog=P)(hw:X.w=w)(hu:X.A.units+150<cLine)(hi:PE X i ty)(ho:PE X o td):PC X .In i o (ZT P w ty td):=by
 subst hP hw;intro pins s σ H Q I h;refine A7 (hi pins s σ H _ I h) λiv s1 ⟨y,H1,I1,ry,q1⟩=>A7 (ho pins s1 σ H1 _ I1 q1) λu s2 z9=>?_
 obtain⟨x,H2,I2,rx,a,kvs,es,ep,k,b,ex,ey,M,hk,q2⟩:=z9;subst ex ey;obtain rfl:u=Value.ref a:=rx;obtain rfl:iv=Value.ref b:=ry;obtain⟨xs,pr,dd⟩:=M.of I2;refine wpAny_in_heap (show X.A.units+1+8<cLine by omega) (hk.is I2) M.m dd ?_;have e:(atKey xs k).isSome=(DV kvs k).isSome:=by
  rcases Ou (k:=k) pr with⟨e1,e2⟩|⟨v',p,e1,e2,rv⟩
  ·rw[e1,e2];rfl
  ·rw[e1,e2];rfl
 rw[e];exact⟨.bl _,H2,I2.tok _,rfl,q2⟩
def YL (P:Program)(w:World)(td ty tv:TE):TS:=λD σ H=>tv σ H λv H1=>td σ H1 λx H2=>ty σ H2 λy H3=>∃a kvs es ep k b,x=.ref a/\y=.ref b/\Dd P w H3 a kvs es ep/\DdX H3 k b/\kvs.length<sizeLine/\
 ∀es' ep' H',(∀b,b≠a->H' b=H3 b)->Dd P w H' a (Jf kvs k v) es' ep'->D.nx σ H'
theorem MN {P:Program}{w:World}{o i value:Expr}{pos pos':Pos}{td ty tv:TE}(hP:X.prog=P)(hw:X.w=w)(hu:X.A.units+150<cLine)(ho:PE X o td)(hi:PE X i ty)(hv:PE X value tv)(hs:swapsWith value (some (.Subscript o i pos')) pos.line X.env=pure false) :
  PS X (.Assign [.Subscript o i pos'] value pos) (YL P w td ty tv):=by
 subst hP hw;intro pins s σ H D I h;refine wpAny_Assign_Subscript (A7 (hv pins s σ H _ I h) λr s1 ⟨v,H1,I1,rv,q1⟩=>A7 (ho pins s1 σ H1 _ I1 q1) λu s2 ⟨x,H2,I2,rx,q2⟩=>A7 (hi pins s2 σ H2 _ I2 q2) λiv s3 z9=>?_) hs;obtain⟨y,H3,I3,ry,a,kvs,es,ep,k,b,ex,ey,M,hk,hl,q3⟩:=z9;subst ex ey;obtain rfl:u=Value.ref a:=rx;obtain rfl:iv=Value.ref b:=ry;obtain⟨xs,pr,dd⟩:=M.of I3;have lx:xs.length=kvs.length:=(dY pr).symm;refine wpAny_setItem_heap (hsz:=by rw[lx];exact M.z) (show X.A.units+1+8<cLine by omega) (hk.is I3) dd λh' dd' hs'=>?_
 obtain⟨o',es',ep',g1,g2,g3,g4,_,g6⟩:=dd';have ht:∀c ys,H3 c=some (.tup ys)->(upd H3 a (DM a es' ep')) c=some (.tup ys):=λc ys e=>by rw[Ag (AK e M.o (by intro z;cases z))];exact e
 have pr':=Yk hk rv pr ht;refine⟨σ,upd H3 a (DM a es' ep'),G8 I3 (by rw[M.o];exact True.intro) hs' ⟨o',g1⟩ ⟨⟨o',g1,g2,g3⟩,⟨o',g1⟩,λh1 h2 e kk=>e.at kk⟩,q3 es' ep' _ (λb hb=>Ag hb) ⟨Ae,M.m,?_,?_,?_⟩⟩
 ·have:=TL kvs k v;omega
 ·rw[g4];exact Sx pr'
 ·rw[<-OJ (P:=X.prog) (w:=X.w) pr'];exact g6
def Xa:Value->V
 | .ref b=>.ref b
 |_=>.non
def A4 (es:Array DictEntry):List V:=es.toList.map λe=>Xa e.key
theorem EH {P:Program}{w:World}(M:Dd P w H d kvs es ep):(A4 es).length=kvs.length:=by
 unfold A4;rw[bE,dC,M.len]
theorem Fv {P:Program}{w:World}(M:Dd P w H d kvs es ep){i:Nat}{x:V}(h:(A4 es)[i]?=some x):∃p b,kvs[i]?=some p/\x=.ref b/\DdX H p.1 b:=by
 unfold A4 at h;rw[bQ] at h;obtain⟨e,he,rfl⟩:=cm.mp h;obtain⟨p,hp,b,hb,hk,_⟩:=GH M.r he;exact⟨p,b,hp,by rw[hb];rfl,hk⟩
def Y3 (P:Program)(w:World)(d:Addr)(kvs:List (Tr×V))(es:Array DictEntry)(ep:Nat):It:=
 ⟨λi H=>Dd P w H d kvs es ep/\i<kvs.length,λi H x H'=>H'=H/\(A4 es)[i]?=some x,λi H=>Dd P w H d kvs es ep/\kvs.length<=i⟩
theorem Rp {P:Program}{w:World}{K:PySem.W.Frag}{tg:Expr}(d it:Addr)(kvs:List (Tr×V))(es:Array DictEntry)(ep:Nat):Turn P w K tg (Y3 P w d kvs es ep) [it] it (λi h=>h.IsKeyIter it d i kvs.length ep) where
 mem:=by simp
 obj:=λi h st b hb=>by
  cases(show b=it by simpa using hb);obtain⟨q,e,c,x⟩:=st;exact⟨q,e,λv z=>by rw[x] at z;cases z⟩
 keep:=λi h h' st k=>st.at λo e=>k it (by simp) o e
 item:=by
  intro X hP hw hK hc i pins s σ H E I hf st ⟨M,hi⟩;subst hP hw hK;have n:=M.len;obtain⟨f0,f1,f2,f3,f4,f5⟩:=hf it (by simp);obtain⟨p,hp,b,hb,hk,_,_⟩:=GH M.r (i:=i) (y:=es[i]'(by omega)) (by rw[cR];exact dc _);have hy:(A4 es)[i]?=some (.ref b):=by
   unfold A4;rw[bQ,cR,dc (by omega)];show some (Xa (es[i]'(by omega)).key)=_;rw[hb];rfl
  rw[<-n] at st;refine N4 st (M.at I) (by omega) λh' st' k=>?_
  have I1:Inv X pins σ H { s with heap:=h' }:=I.turned (t':=s.toks) (λb o hb e=>k b o hb e) f0 f1 f3 f4 f5;rw[n] at st';obtain⟨o2,a1,a2,a3⟩:=id st';exact⟨_,rfl,Mt (s:={ s with heap:=h' }) a1 a2 a3 (by decide) ⟨.ref b,H,I1,by rw[hb];exact rfl,⟨rfl,hy⟩,st',λb hb=>(hf b hb).1⟩⟩
 done:=by
  intro X hP hw hK hc i pins s σ H E I hf st ⟨M,hi⟩;subst hP hw hK;have n:=M.len;obtain⟨f0,f1,f2,f3,f4,f5⟩:=hf it (by simp);rw[<-n] at st;exact Pz (I.ok.hd hc) st (M.at I) (by omega) λh' k=>⟨rfl,I.turned (t':=s.toks) (λb o hb e=>k b o hb e) f0 f1 f3 f4 f5⟩
 self:=λ_ _ _ _ _ st h=>h8 st h
def Yl (P:Program)(w:World)(tl:TE):TI:=λσ H R=>tl σ H λx H1=>∃d kvs es ep,x=.ref d/\Dd P w H1 d kvs es ep/\R (Y3 P w d kvs es ep) H1
theorem MM {P:Program}{w:World}{l tg:Expr}{tl:TE}(hP:X.prog=P)(hw:X.w=w)(hl:PE X l tl):PI X tg l (Yl P w tl):=by
 subst hP hw;intro pins s σ H R I h;refine A7 (hl pins s σ H _ I h) λv s1 z9=>?_
 obtain⟨x,H1,I1,r1,d,kvs,es,ep,e,M,q⟩:=z9;subst e;cases r1;refine NV M.m (M.at I1) ⟨s1.heap.objs.size,[s1.heap.objs.size],_,_,_,rfl,I1.kept (t':=s1.toks) λb o e=>bH _ e,Rp d _ kvs es ep,⟨_,bR _ rfl,rfl,by rw[M.len];rfl⟩,λb hb=>?_,q⟩;cases(show b=s1.heap.objs.size by simpa using hb);exact I1.fpOk (bI _) (I1.hok.fresh (bI _))
theorem Vr {P:Program}{w:World}(M:Dd P w H d kvs es ep):MY (Y3 P w d kvs es ep) H (A4 es):=λH' s i=>by
 have l:=EH M;refine⟨λhi=>⟨M.same s,by omega⟩,?_,λhi=>⟨M.same s,by omega⟩⟩
 rintro x H'' ⟨rfl,hx⟩
 exact⟨rfl,λ_=>hx⟩
theorem SS {P:Program} {w:World} {g:TG} {tb:TS} {D:Ends} (Pv:Nat->St->Hp->Prop) (h0:Pv 0 σ H) (hl:∀(i:Nat) (σ:St) (H:Hp),i<=kvs.length->Pv i σ H->Dd P w H d kvs es ep)
  (turn:∀(i:Nat) (k:Tr) (v:V) (b:Addr) (σ:St) (H:Hp),kvs[i]?=some (k,v)->Pv i σ H->DdX H k b->g (.ref b) σ H λσ2 H2=>tb { nx:=Pv (i+1),rt:=D.rt,bk:=D.nx,ct:=Pv (i+1) } σ2 H2)
  (done:∀(σ:St) (H:Hp),Pv kvs.length σ H->D.nx σ H) :
  ∃W:Nat->Nat->St->Hp->Prop,(∃m,W 0 m σ H)/\∀i m σ H,W i m σ H->
   ((Y3 P w d kvs es ep).stop i H/\D.nx σ H)\/((Y3 P w d kvs es ep).go i H/\∃N:St->Hp->Prop,(∀σ' H',N σ' H'->∃m',m'<m/\W (i+1) m' σ' H')/\∀x H',(Y3 P w d kvs es ep).yld i H x H'->g x σ H' λσ2 H2=>tb { D with nx:=N,ct:=N,bk:=D.nx } σ2 H2):=by
 refine⟨λi m σ H=>m=kvs.length-i/\i<=kvs.length/\Pv i σ H,⟨_,rfl,cE _,h0⟩,?_⟩
 rintro i m σ H ⟨rfl,hi,hp⟩
 by_cases hlt:i<kvs.length
 ·refine .inr ⟨⟨hl i σ H hi hp,hlt⟩,Pv (i+1),λσ' H' hn=>⟨kvs.length-(i+1),by omega,rfl,hlt,hn⟩,?_⟩
  rintro x H' ⟨rfl,hx⟩
  obtain⟨p,b,e1,rfl,e2⟩:=Fv (hl i σ _ hi hp) hx;exact turn i p.1 p.2 b σ _ e1 hp e2
 ·obtain rfl:i=kvs.length:=by omega
  exact .inl ⟨⟨hl _ σ H hi hp,bI _⟩,done σ H hp⟩
def YO (P:Program)(w:World):List V->Hp->VK->Prop:=λxs H Q=>∃(d:Addr) (kvs:List (Tr×V)) (es:Array DictEntry) (ep:Nat),xs=[.ref d]/\Dd P w H d kvs es ep/\
 ∀(l:Addr),H l=none->Q (.ref l) (upd H l (.lst (A4 es)))
theorem MI {P:Program}{w:World}(hP:X.prog=P)(hw:X.w=w)(hc:X.calm=true):Ei X (.type "list") (YO P w):=by
 subst hP hw;intro pins s σ H xs us Q I r h;obtain⟨d,kvs,es,ep,rfl,M,q⟩:=h;obtain⟨u,rfl,ru⟩:=vals1 r;cases ru;have n:=M.len;have hz:=M.z;refine PySem.W.kdl_call (U2 (ep:=ep) M.m) (I.ok.hd hc) (M.at I) (by omega) λh' tk acc c' hk e' hacc=>?_
 have eb:acc.toList.map Xa=A4 es:=by
  refine dH λi=>?_
  unfold A4;rw[bQ,bQ,cR,cR]
  by_cases hi:i<acc.size
  ·obtain⟨e1,a1,a2⟩:=hacc.2 i acc[i] (dc hi);rw[dc hi,a1,a2];rfl
  ·rw[gI (by omega),gI (by have:=hacc.1;omega)];rfl
 have rel:∀(l:List Value),(∀v∈l,∃b,v=.ref b)->AF (l.map Xa) l:=by
  intro l
  induction l with
  |nil=>intro _;exact .nil
  |cons v l ih=>
   intro h;obtain⟨b,rfl⟩:=h v bZ;exact .cons rfl (ih λu hu=>h u (bY _ hu))
 refine⟨.ref s.heap.objs.size,_,I.laid hk (bI _) (show AX X.prog X.w _ h' _ (.lst (A4 es)) from⟨?_,acc.toList,c',?_,by simpa using e'⟩),rfl,q _ I.fresh⟩
 ·rw[EH M];exact hz
 ·rw[<-eb];refine rel _ λv hv=>?_
  obtain⟨i,hi⟩:=cL hv;obtain⟨e1,a1,rfl⟩:=hacc.2 i v (by rw[<-cR];exact hi);obtain⟨p,hp,b,hb,_⟩:=GH M.r (i:=i) (y:=e1) (by rw[cR];exact a1);exact⟨b,hb⟩
end
end L2
namespace L2
section
open PySem PySem.Spec PyProof.Rows PySem.Calls
variable {X:Cx}
theorem PH (ns:List Int):∀k,k<ns.length->argBest (λi j=>decide (ns.getD i 0<ns.getD j 0)) k<=k/\∀i,i<=k->ns.getD (argBest (λi j=>decide (ns.getD i 0<ns.getD j 0)) k) 0<=ns.getD i 0
 |0,_=>⟨bI _,λi hi=>by rw[Nat.le_zero.mp hi];exact gQ _⟩
 |k+1,h=>by
  obtain⟨h1,h2⟩:=PH ns k (by omega);show(if decide (_<_)=true then k+1 else _)<=_/\∀i,i<=k+1->ns.getD (if decide (_<_)=true then k+1 else _) 0<=_
  by_cases q:ns.getD (k+1) 0<ns.getD (argBest (λi j=>decide (ns.getD i 0<ns.getD j 0)) k) 0
  ·rw[bV (bM q)];refine⟨bI _,λi hi=>?_⟩
   by_cases e:i=k+1
   ·rw[e];exact gQ _
   ·have:=h2 i (by omega);omega
  ·rw[bP (by rw[bL q];exact bN)];refine⟨by omega,λi hi=>?_⟩
   by_cases e:i=k+1
   ·rw[e];omega
   ·exact h2 i (by omega)
def Z8 (K:PySem.W.Frag):List V->Hp->VK->Prop:=λxs H Q=>∃(a:Addr) (ns:List Int),xs=[.ref a]/\AQ K H a (ns.map V.int)/\ns≠[]/\∀m,m∈ns->(∀x∈ns,m<=x)->Q (.int m) H
theorem TY {K:PySem.W.Frag}(hK:X.K=K)(hc:X.calm=true):Ei X (.builtin "min") (Z8 K):=by
 subst hK;intro pins s σ H xs us Q I r h;obtain⟨a,ns,rfl,hq,ne,q⟩:=h;obtain⟨u,rfl,ru⟩:=vals1 r;cases ru;obtain⟨its,rv,p1,hz⟩:=I.list hq;have hi:=intsAre_of rv;have ln:its.length=ns.length:=IntsAre.length hi;have h2:0<ns.length:=jr.mpr ne;have ll:a<s.heap.objs.size:=let⟨_,ho,_⟩:=p1.isList;bU ho;refine call_min_walk (ef p1.isList ?_);refine⟨s.heap.objs.size,_,_,its.toArray.size,(λi v=>its.toArray[i]?=some v),_,(λi j=>decide (ns.getD i 0<ns.getD j 0)),rfl,jh (A:=X.A.in1) (show X.A.in1.handled=none from I.ok.hd hc) s.heap.objs.size a (cn ll) its.toArray,⟨⟨_,bR _ rfl,rfl,rfl⟩,p1.isList.at λo e=>bH _ e⟩,λb hb=>?_,by rw[cq];omega,CmpOf.ints_lt (λi=>ns.getD i 0) (λi v e=>II hi (by simpa using e)),λv h' tk hv k=>?_⟩
 ·rw[cT];rcases cf.mp hb with rfl|hb
  ·exact fF _
  ·rw[bS.mp hb];exact d4 ll
 ·obtain⟨t,e⟩:=II hi (i:=argBest (λi j=>decide (ns.getD i 0<ns.getD j 0)) (ns.length-1)) (v:=v) (by rw[<-ln];simpa using hv);obtain⟨g1,g2⟩:=PH ns (ns.length-1) (by omega);have gl:argBest (λi j=>decide (ns.getD i 0<ns.getD j 0)) (ns.length-1)<ns.length:=by omega
  refine⟨.int (ns.getD (argBest (λi j=>decide (ns.getD i 0<ns.getD j 0)) (ns.length-1)) 0),H,I.kept (t':=tk) λb o e=>k b o ?_ (bH _ e),⟨t,e⟩,q _ ?_ λx hx=>?_⟩
  ·exact λz=>cn (bU e) (bS.mp z)
  ·rw[fZ,bF gl];exact eT gl
  ·obtain⟨i,hi2,rfl⟩:=cS hx;have:=g2 i (by omega);rw[fZ (i:=i),bF hi2] at this;exact this
end
end L2
namespace L2
section
open PySem PySem.Calls PyProof.Rows
variable {prog:Program}{w:World}{A:Around}{E:Value->Shared->Prop}{s:Shared}
def UP (w:World)(h:Heap)(a:Addr):Prop:=h.get? a=some { cls:=.type "set",dict:=none,data:=.set #[] 0 (.fresh 0 0 (!Bt w)) }
theorem UP.at {h:Heap}{a:Addr}(x:UP w h a):Ik h a #[] 0 (.fresh 0 0 (!Bt w)):=⟨_,x,rfl,rfl⟩
theorem Zn {a:Addr}{i:Nat}{Q:Option (Value×Nat)->Shared->Prop}(x:Ik s.heap a #[] 0 (.fresh 0 0 (!Bt w)))(q:Q none s):wpAny (model prog w) A (setNext a 0 i 0) Q E s:=by
 obtain⟨o,eo,_,d⟩:=x;have f:(SetTable.fresh 0 0 (!Bt w)).fits (#[]:Array (Int×Value)).size=true:=rfl;unfold setNext setsByText;refine bD (gJ eo d f ?_);dsimp only;simp only[bind_assoc,pure_bind];refine bD (fR ?_);refine eO (λbt=>?_) (λbt=>?_)
 ·rw[bP (by simp)];unfold setWalk setsByText;simp only[bind_assoc,pure_bind];refine bD (gJ eo d f ?_);dsimp only;refine bD (fR ?_);refine bD (eO (λ_=>?_) (λc=>absurd bt c));refine bD (fR (bG ?_));have e:(pickOrder (w.params.setOrder a 0) (#[]:Array (Int×Value)))[i]?=none:=by
   have:=(Sz (w.params.setOrder a 0) (#[]:Array (Int×Value))).length_eq;rw[dC] at this;exact gI (by rw[this];exact cE _)
  have q':Q ((pickOrder (w.params.setOrder a 0) (#[]:Array (Int×Value)))[i]?.map λe=>(e.2,0)) s:=by rw[e];exact q
  exact bG q'
 ·refine eO (λc=>absurd c (show ¬(!(SetTable.fresh 0 0 (!Bt w)).plain&&decide ((#[]:Array (Int×Value)).size>1))=true by simp)) (λ_=>?_);refine bD (?_:wpAny _ _ (if(!(!Bt w) && !(#[]:Array (Int×Value)).isEmpty)=true then unsupported "set:maker-not-led" else pure ()) _ _ _);rw[bP (by simp)];exact bG (bG q)
theorem ZC {a:Addr} {Q:Value->Shared->Prop} (x:Ik s.heap a #[] 0 (.fresh 0 0 (!Bt w)))
  (q:∀h' I fp St,(∀b o,s.heap.get? b=some o->h'.get? b=some o)->(∀A:Around,A.handled=none->Walks prog w A I fp [I] 0 (λi v=>([]:List Value)[i]?=some v) St)->St 0 h'->
   (∀b∈fp,b=a\/s.heap.get? b=none)->s.heap.get? I=none->Q (.ref I) { s with heap:=h' }):wpAny (model prog w) A (pyIter (.ref a)) Q E s:=by
 obtain⟨o,eo,co,dd⟩:=id x;have hT:s.TypeIs (.ref a) "set":=⟨o,eo,co⟩
 have hlt:=bU eo;have f:(SetTable.fresh 0 0 (!Bt w)).fits (#[]:Array (Int×Value)).size=true:=rfl;refine iy hT iZ (dq iZ hT Mo ?_ (PySem.F.args_set_iter_1 _));unfold Builtin.«frozenset.__iter__» Builtin.Frozenset.slot0 slotArgs;simp only[bind_assoc,bne_self_eq_false,List.isEmpty_nil,List.length_nil,Bool.not_true,Bool.false_eq_true,↓reduceIte];refine bD (bG ?_);dsimp only;refine bD (m:=Builtin.Frozenset.addrOf (.ref a)) (bG ?_);unfold Builtin.Frozenset.sizeOf;simp only[bind_assoc,pure_bind];refine bD (HY x f ?_);unfold setDrawn setsByText;simp only[bind_assoc,pure_bind];refine bD (gJ eo dd f ?_);dsimp only;refine bD (fR ?_);refine eO (λc=>absurd c (show ¬(!Bt w&&(!(SetTable.fresh 0 0 (!Bt w)).plain&&decide ((#[]:Array (Int×Value)).size>1)))=true by simp)) (λ_=>?_);refine bD (wpAny_setEpoch_of eo dd f ?_);refine bD (cY (bG ⟨_,rfl,"set_iterator",_,⟨_,bR _ rfl,rfl⟩,JU.lookup,?_⟩));refine q _ s.heap.objs.size _ _ (λb o e=>bH _ e) (λA hh=>Tb hh s.heap.objs.size a (cn hlt) [] (λ_=>0) #[] 0 (.fresh 0 0 (!Bt w)) f rfl λi A E s Q li x q=>Zn x (by simpa using q)) ⟨⟨_,bR _ rfl,rfl,rfl⟩,x.keep λo e=>bH _ e⟩ (λb hb=>?_) (Qo _);simp only[List.mem_cons,List.not_mem_nil,or_false] at hb;rcases hb with rfl|rfl
 ·exact .inr (Qo _)
 ·exact .inl rfl
theorem UY {a:Addr} {Q:List Value->Shared->Prop} (hh:A.handled=none) (x:Ik s.heap a #[] 0 (.fresh 0 0 (!Bt w)))
  (q:∀h' tk,(∀b o,s.heap.get? b=some o->h'.get? b=some o)->Q [] { s with heap:=h',toks:=tk }):wpAny (model prog w) A (collect (.ref a)) Q E s:=by
 refine Lb ?_;have x1:Ik (s.heap.push { cls:=.type "list",data:=.seq #[] }) a #[] 0 (.fresh 0 0 (!Bt w)):=x.keep λo e=>bH _ e
 have lt:a<s.heap.objs.size:=let⟨_,e,_⟩:=x;bU e;unfold Builtin.List.listExtendWith;have hT:Shared.TypeIs { s with heap:=s.heap.push { cls:=.type "list",data:=.seq #[] } } (.ref a) "set":=let⟨o,e,c,_⟩:=x1;⟨o,e,c⟩;refine bD (gR hT ?_);have n1:Builtin.List.listSameRef (.ref s.heap.objs.size) (.ref a)=false:=by simp[Builtin.List.listSameRef,Nat.ne_of_gt lt]
 have n2:(Value.type "set" == Value.type "list")=false:=by decide
 have n3:(Value.type "set" == Value.type "tuple")=false:=by decide
 simp only[n1,n2,n3,Bool.or_false,Bool.false_eq_true,if_false];refine bD (ZC x1 λh1 I fp St k1 W st fr nI0=>?_);have hS1:h1.get? s.heap.objs.size=some { cls:=.type "list",data:=.seq #[] }:=k1 _ _ (bR _ rfl);have hSf:s.heap.objs.size∉fp:=λhm=>by
  rcases fr _ hm with z|z
  ·exact absurd z (gF lt)
  ·rw[show(s.heap.push { cls:=.type "list",data:=.seq #[] }).get? s.heap.objs.size=some { cls:=.type "list",data:=.seq #[] } from bR _ rfl] at z;cases z
 have nI:∀b o,s.heap.get? b=some o->b∉s.heap.objs.size::[I]:=λb o e hm=>by
  rcases cf.mp hm with z|z
  ·exact absurd (bU e) (by rw[z];exact d8 _)
  ·rw[bS] at z;subst z;rw[bH _ e] at nI0;cases nI0
 refine bD (cK (UM (let⟨o,e,c,_⟩:=x1;⟨o,k1 _ _ e,c⟩) ?_));refine eO (λ_=>?_) (λc=>absurd (by decide) c);refine bD (gS ?_);refine bD ?_;show wpAny _ _ (updateSeq s.heap.objs.size (·.push .none) >>= λ_=>updateSeq s.heap.objs.size (·.pop)) _ _ _;refine bD (gX hS1 rfl ?_);have hS2:=cU (Obj.mapSeq (·.push Value.none)) hS1 rfl;refine gX (hz:=by seq_fits) hS2 rfl ?_;have hS3:=cU (Obj.mapSeq (·.pop)) hS2 rfl;have oth:∀b o,b≠s.heap.objs.size->h1.get? b=some o->((h1.update s.heap.objs.size (Obj.mapSeq (·.push Value.none))).update s.heap.objs.size (Obj.mapSeq (·.pop))).get? b=some o:=
  λb o n e=>(cQ _ _ (Ne.symm n)).trans ((cQ _ _ (Ne.symm n)).trans e)
 refine bG ⟨fh PySem.F.plain_extend_loop _,codeAny_extend_loopS (W A.in1 hh).toS (cE _) s.heap.objs.size hSf (.ref s.heap.objs.size) 0 0 _ #[] _ rfl (cE _) ((W A hh).frame 0 _ _ st λb hb o e=>oth b o (λz=>hSf (z▸hb)) e) hS3 (ItemsOf.nil _) λs' acc c hm hS' it=>?_⟩;refine⟨acc,c,rfl,hS',?_⟩;rw[Rn (xs:=[]) it,Moved.eq_with hm];exact q _ _ (λb o e=>hm.heap b o (nI b o e) (oth b o (cn (bU e)) (k1 b o (bH _ e))))
theorem Vv {lq:Addr} {Q:Value->Shared->Prop} (hh:A.handled=none) (hl:s.heap.IsList lq #[])
  (q:∀h' tk,(∀b o,s.heap.get? b=some o->h'.get? b=some o)->UP w h' s.heap.objs.size->Q (.ref s.heap.objs.size) { s with heap:=h',toks:=tk }):wpAny (model prog w) A (call (.type "set") [.ref lq]) Q E s:=by
 obtain⟨c,tl,hmro⟩:=PySem.F.called_set.mro;have hmade:=PySem.F.called_set.made;have hsub:=PySem.F.called_set.sub;refine eK (gZ (bG ⟨fq _ (by decide +kernel),dP PySem.F.entry_type_call ?_⟩));rw[Around.under_plain (weight_type_call_type "set" [.ref lq] []) rfl];have h1:=PySem.F.called_set.notType;have h2:=PySem.F.called_set.canCreate;have hct:=PySem.F.typeCall_set_1 (.ref lq)
 repeat (any_goals (first|assumption|wp_step))
 refine dW (Vs (.ref lq) (E:=E) (Q₁:=λobj s₁=>obj=.ref s.heap.objs.size/\s₁={ s with heap:=s.heap.push { cls:=.type "set",dict:=none,data:=.set #[] 0 (.fresh 0 0 (!Bt w)) } }) ⟨rfl,rfl⟩) λr s₁ hr=>?_
 match r,hr with
 | .error e,hr=>exact hr
 | .ok (.ret obj),hr=>
  obtain⟨rfl,rfl⟩:=hr;have hS:(s.heap.push { cls:=.type "set",dict:=none,data:=.set #[] 0 (.fresh 0 0 (!Bt w)) }).get? s.heap.objs.size=some { cls:=.type "set",dict:=none,data:=.set #[] 0 (.fresh 0 0 (!Bt w)) }:=bR _ rfl;have hT:Shared.TypeIs { s with heap:=s.heap.push { cls:=.type "set",dict:=none,data:=.set #[] 0 (.fresh 0 0 (!Bt w)) } } (.ref s.heap.objs.size) "set":=⟨_,hS,rfl⟩
  have hli:=PySem.F.called_set.init.lookup;have hbi:=PySem.F.called_set.init.bind (.ref s.heap.objs.size)
  repeat (any_goals (first|assumption|wp_step))
  refine dW (dw (R:=wants (λr s₂=>r=.none/\∃h' tk,s₂={ s with heap:=h',toks:=tk }/\(∀b o,s.heap.get? b=some o->h'.get? b=some o)/\UP w h' s.heap.objs.size) E) PySem.F.called_set.init.plain PySem.F.entry_set_init (check_set_init_1 hT ?_)) λr₂ s₂ hr₂=>?_
  ·obtain⟨⟨cl,dl,tl,sl⟩,el,hcl,nl,hdl⟩:=hl;simp only at hcl hdl;subst hcl;subst hdl;have el':=bH ({ cls:=.type "set",dict:=none,data:=.set #[] 0 (.fresh 0 0 (!Bt w)) }:Obj) el;have lt:lq<s.heap.objs.size:=bU el;have l1:(s.heap.push { cls:=.type "set",dict:=none,data:=.set #[] 0 (.fresh 0 0 (!Bt w)) }).IsList lq #[]:=⟨_,el',rfl,nl,rfl⟩
   have n1:=PySem.F.sub_list_set;have n2:=PySem.F.sub_list_frozenset;have n3:(Value.type "list" == Value.type "dict")=false:=by decide
   unfold Builtin.«set.__init__» Builtin.Frozenset.updateFrom noKeywords;generalize ePI:pyIter=PI
   wp_walk
   subst ePI;refine ef l1 (bD (wpAny_runValue ?_));have nI:lq≠(s.heap.push { cls:=.type "set",dict:=none,data:=.set #[] 0 (.fresh 0 0 (!Bt w)) }).objs.size:=by rw[cT];exact cn (d4 lt)
   have hA:A.in1.in1.in1.handled=none:=by simp[hh]
   have W:=jh (prog:=prog) (w:=w) hA (s.heap.push { cls:=.type "set",dict:=none,data:=.set #[] 0 (.fresh 0 0 (!Bt w)) }).objs.size lq nI #[];refine dP PyProof.Rows.F.entry_set_update_loop ?_;rw[eB PyProof.Rows.F.plain_set_update_loop _];refine bD (m:=pyNext (.ref _)) (W.done _ _ _ ⟨⟨_,bR _ rfl,rfl,rfl⟩,l1.push _⟩ λh' tk k'=>bG ?_);have nz:∀b o,s.heap.get? b=some o->b≠(s.heap.push { cls:=.type "set",dict:=none,data:=.set #[] 0 (.fresh 0 0 (!Bt w)) }).objs.size:=λb o e z=>by
    have lb:=bU e;rw[z,cT] at lb;exact absurd lb (Nat.not_lt.mpr (eC _))
   refine bG (bG ⟨rfl,h',tk,rfl,λb o e=>k' b o (λz=>nz b o e (bS.mp z)) (bH _ (bH _ e)),k' _ _ (λz=>?_) (bH _ hS)⟩);have z:=bS.mp z;rw[cT] at z;exact absurd z (cn (fF _))
  ·match r₂,hr₂ with
   | .error e,hr₂=>exact hr₂
   | .ok (.ret r),hr₂=>
    obtain⟨rfl,h',tk,rfl,k',T⟩:=hr₂
    repeat (any_goals (first|assumption|wp_step))
    exact q _ _ k' T
   | .ok .next,hr₂=>exact hr₂.elim
end
section
open PySem PySem.Calls PyProof.Rows
variable {X:Cx}
def Vu (w:World)(p:Addr):HO:=.ext λh=>UP w h p
def Zk (w:World)(K:PySem.W.Frag):List V->Hp->VK->Prop:=λxs H Q=>∃(a:Addr),xs=[.ref a]/\AQ K H a []/\∀p,H p=none->Q (.ref p) (upd H p (Vu w p))
theorem SY {w:World}{K:PySem.W.Frag}(hw:X.w=w)(hK:X.K=K)(hc:X.calm=true):Ei X (.type "set") (Zk w K):=by
 subst hw hK;intro pins s σ H xs us Q I r h;obtain⟨a,rfl,h1,q⟩:=h;obtain⟨u,rfl,ru⟩:=vals1 r;cases ru;obtain⟨its,r1,p1,_⟩:=I.list h1;cases r1;refine Vv (I.ok.hd hc) p1.isList λh' tk k T=>⟨.ref s.heap.objs.size,_,I.laid (t':=tk) k (bI _) (?_:AX X.prog X.w _ h' _ (Vu X.w s.heap.objs.size)),rfl,q _ (I.hok.fresh (bI _))⟩
 exact⟨T,⟨_,T⟩,λh1 h2 T1 kk=>kk _ T1⟩
def XF (w:World):List V->Hp->VK->Prop:=λxs H Q=>∃(a:Addr),xs=[.ref a]/\H a=some (Vu w a)/\∀p,H p=none->Q (.ref p) (upd H p (.lst []))
theorem QS {w:World}(hw:X.w=w)(hc:X.calm=true):Ei X (.builtin "sorted") (XF w):=by
 subst hw;intro pins s σ H xs us Q I r h;obtain⟨a,rfl,h1,q⟩:=h;obtain⟨u,rfl,ru⟩:=vals1 r;cases ru;obtain⟨T,_⟩:AX X.prog X.w H s.heap a (Vu X.w a):=I.hok a _ h1;refine Ic (UY (by simpa using I.ok.hd hc) T.at λh' tk k=>⟨[],.nil,.inl (by decide),λh2 p out ns' c ho pe _ lp k2 e=>?_⟩);have en:ns'=[]:=List.perm_nil.mp pe;subst en;cases ho;have I1:Inv X pins σ H { s with heap:=h',toks:=tk }:=I.kept (t':=tk) k;exact⟨.ref p,_,I1.laid (t':=tk) k2 lp (show AX X.prog X.w _ h2 p (.lst []) from⟨cE _,[],c,.nil,e⟩),rfl,q p (I1.hok.fresh lp)⟩
end
end L2
namespace M06
def wsum:Nat->List Int->Int
 |_,[]=>0
 |k,x::xs=>x*((k:Int)+1)+wsum (k+1) xs
def mk (ns:List Int):Int:=wsum 0 ns%2147483647
theorem Lf:∀(xs ys:List Int) (k:Nat),wsum k (xs++ys)=wsum k xs+wsum (k+xs.length) ys
 |[],ys,k=>by simp[wsum]
 |x::xs,ys,k=>by
  rw[List.cons_append,wsum,wsum,Lf xs ys (k+1),cN,show k+1+xs.length=k+(xs.length+1) by omega];omega
theorem Tc {ns:List Int}{i:Nat}(h:i<ns.length):wsum 0 (ns.take (i+1))=wsum 0 (ns.take i)+ns[i]*((i:Int)+1):=by
 rw[cJ,bF h,Lf,cG,Nat.min_eq_left (by omega),Nat.zero_add];simp[wsum]
theorem Th (ns:List Int):((List.range ns.length).map λi=>ns.getD i 0*((i:Int)+1)).sum=wsum 0 ns:=by
 have key:∀i,i<=ns.length->((List.range i).map λi=>ns.getD i 0*((i:Int)+1)).sum=wsum 0 (ns.take i):=by
  intro i
  induction i with
  |zero=>intro _;simp[wsum]
  |succ i ih=>
   intro hi;rw[List.range_succ,cg,List.sum_append,ih (by omega),Tc (by omega)];simp[List.getD,List.getElem?_eq_getElem (show i<ns.length by omega)]
 have:=key ns.length (bI _);rw[cI (bI _)] at this;exact this
def Tf (x:Int):Bool:=decide (0<=x)&&decide (x<=2147483646)
def sound (ns:List Int):Bool:=(!decide (ns=[]))&&(ns.all Tf&&decide (ns.getLastD 0=mk ns.dropLast))
theorem Zh (ns:List Int):0<=mk ns/\mk ns<=2147483646:=by
 unfold mk;omega
theorem WE {x:Int}:Tf x=true↔0<=x/\x<=2147483646:=by simp[Tf]
theorem N3 {ns:List Int}:sound ns=true↔ns≠[]/\(∀x∈ns,0<=x/\x<=2147483646)/\ns.getLastD 0=mk ns.dropLast:=by
 unfold sound;simp only[Bool.and_eq_true,Bool.not_eq_true',decide_eq_false_iff_not,List.all_eq_true,WE,decide_eq_true_eq]
theorem OM {ns:List Int}(h:∀x∈ns,0<=x/\x<=2147483646):sound (ns++[mk ns])=true:=by
 rw[N3];refine⟨by simp,λx hx=>?_,by simp⟩;rcases cj.mp hx with hx|hx
 ·exact h x hx
 ·rw[bS.mp hx];exact Zh ns
def co (r:List Int)(i:Nat):Int:=if i+1=r.length then -1 else(i:Int)+1
theorem bg (r:List Int)(i:Nat):co r i≠0:=by unfold co;split<;>omega
end M06
set_option maxHeartbeats 4000000
namespace K51
local macro_rules | `(!$x) => do
  let (f, a) ← match x with | `($f:ident $a*) => pure (f, a) | `($f:ident) => pure (f, #[]) | _ => Lean.Macro.throwUnsupported
  let some (n, m, t) := ([([`Aj, `Ay, `AY, `FS, `FP, `UR], 1, 0, ""), ([`Fs, `GC], 2, 0, ""), ([`Al, `Bz, `EB, `EK, `Wx, `Wz, `MP, `Wj, `VE], 3, 0, ""), ([`Aq, `Ak, `YZ, `BZ, `Fq, `Hv, `Kw, `Cs, `Ed, `Cy, `HI, `Oa, `R4], 4, 0, ""), ([`BN], 4, 2, "r"), ([`JK, `AH, `Q5], 4, 3, "d"), ([`Kt], 4, 5, "dd"), ([`Ai, `Gf, `O0, `Mv, `C6, `Ua, `TH, `TV], 5, 0, ""), ([`A6], 5, 2, "f"), ([`Ad, `AZ], 5, 3, "r"), ([`Su, `FE, `Ks, `Vg], 6, 0, ""), ([`Gy], 6, 4, "r"), ([`Pn], 6, 4, "rr"), ([`YX], 6, 5, "rrr"), ([`Au, `EF, `GG, `Ve, `RH, `YQ], 7, 0, ""), ([`QX], 7, 4, "tfd"), ([`AR, `AC, `BM, `WZ, `Qa, `XX], 8, 0, ""), ([`CZ, `W9], 8, 3, "f"), ([`AI, `BS], 8, 4, "f"), ([`Vy], 8, 4, "r"), ([`Wo], 8, 6, "rr"), ([`VM, `UI, `U8], 9, 0, ""), ([`JQ], 9, 5, "f"), ([`Av, `Dg], 9, 9, "ddrr"), ([`D9, `IY], 10, 0, ""), ([`AO], 10, 7, "drr"), ([`WL], 11, 5, "rr"), ([`Cb], 11, 5, "tr"), ([`MH], 11, 7, "drr"), ([`Yo], 11, 8, "drr"), ([`U6, `UZ], 12, 0, ""), ([`N6], 12, 8, "dr"), ([`J3], 12, 11, "rrrrr"), ([`Ul], 13, 7, "d"), ([`Bf, `LN], 14, 8, "rrr"), ([`JX], 15, 9, "rrr")] : List (List Lean.Name × Nat × Nat × String)).findSome? (λ(l, n) => if l.contains f.getId then some n else none) | Lean.Macro.throwUnsupported
  let u ← `(_)
  let us := Array.replicate n u
  let mut p := #[]
  for c in t.toList.drop (t.length + a.size - m) do
    let v ← if c == 'r' then `(by rfl) else if c == 'd' then `(by decide) else if c == 'f' then `(rfl) else `(by trivial)
    p := p.push v
  `(@$f $us* $a* $p*)
set_option hygiene false
local macro_rules | `(tactic| exists $t) => `(tactic| refine F.ok $t (fun vs H Q E h => ?_) (fun cdv A outer s H vs Q E hr h => ?_))
set_option hygiene true
local macro_rules | `(tactic| trivial) => `(tactic| first | exact .inl rfl | exact .inr rfl | assumption | exact ⟨rfl, rfl, rfl, by decide +kernel, rfl, by decide +kernel, by decide +kernel⟩ | exact L2.Room.mono (by assumption) (by decide))
open PySem L2 M06
theorem Mn : 0 <= sizeLine := small (by decide)
theorem WK : 1 <= sizeLine := small (by decide)
theorem Jd : 2 <= sizeLine := small (by decide)
theorem SJ : 3 <= sizeLine := small (by decide)
def top (i:Nat):Stmt:=PySem.Challenge.pw_stemshelf_k51_puts_beside_lost_blocks.main.body.getD i (.Pass ⟨0,0,0,0⟩)
abbrev Ep:Stmt:=top 2
theorem Qh:FnScope ["thing"] ["thing"] (Ah Ep):=by trivial
abbrev Do:Stmt:=top 3
theorem Nl:FnScope ["thing","least","most"] ["thing","least","most"] (Ah Do):=by trivial
abbrev CU:Stmt:=top 4
theorem Mh:FnScope ["thing","many"] ["thing","many"] (Ah CU):=by trivial
abbrev DQ:Stmt:=top 7
theorem O8:FnScope ["sign"] ["sign"] (Ah DQ):=by trivial
abbrev Fh:Stmt:=top 8
theorem QM:FnScope ["number"] ["number"] (Ah Fh):=by trivial
abbrev Fe:Stmt:=top 9
theorem RP:FnScope ["thing","least","most"] ["thing","least","most"] (Ah Fe):=by trivial
abbrev DW:Stmt:=inClass (top 16) 0
theorem Po:FnScope ["self","number"] ["self","number"] (Ah DW):=by trivial
abbrev Dc:Stmt:=top 25
theorem FL:FnScope ["thing","words","part"] ["thing"] (Ah Dc):=by trivial
abbrev EG:Stmt:=top 26
theorem Iy:FnScope ["words","reader","thing"] ["words"] (Ah EG):=by trivial
abbrev Bv:Stmt:=inClass (top 27) 0
theorem JD:FnScope ["self","words"] ["self","words"] (Ah Bv):=by trivial
abbrev AV:Stmt:=inClass (top 27) 1
theorem Ga:FnScope ["self"] ["self"] (Ah AV):=by trivial
abbrev A8:Stmt:=inClass (top 27) 2
theorem HD:FnScope ["self","most"] ["self","most"] (Ah A8):=by trivial
abbrev BW:Stmt:=top 28
theorem EN:FnScope ["reader","deep","first","many"] ["reader","deep"] (Ah BW):=by trivial
abbrev DR:Stmt:=top 29
theorem JW:FnScope ["reader","many"] ["reader"] (Ah DR):=by trivial
abbrev Fg:Stmt:=top 45
theorem QP:FnScope ["thing"] ["thing"] (Ah Fg):=by trivial
abbrev GE:Stmt:=top 46
theorem SD:FnScope ["thing"] ["thing"] (Ah GE):=by trivial
abbrev En:Stmt:=top 47
theorem P3:FnScope ["thing"] ["thing"] (Ah En):=by trivial
abbrev Cn:Stmt:=top 48
theorem Lu:FnScope ["thing","level"] ["thing","level"] (Ah Cn):=by trivial
abbrev CN:Stmt:=top 49
theorem HK:FnScope ["thing","names"] ["thing"] (Ah CN):=by trivial
abbrev Ew:Stmt:=top 50
theorem Qz:FnScope ["thing"] ["thing"] (Ah Ew):=by trivial
abbrev GJ:Stmt:=top 51
theorem IS:FnScope ["block","total","number"] ["block"] (Ah GJ):=by trivial
abbrev Ct:Stmt:=top 52
theorem CJ:FnScope ["block","told","name","kind","tag"] ["block"] (Ah Ct):=by trivial
abbrev Fd:Stmt:=top 53
theorem RF:FnScope ["block"] ["block"] (Ah Fd):=by trivial
abbrev Ff:Stmt:=top 54
theorem Rm:FnScope ["block"] ["block"] (Ah Ff):=by trivial
abbrev Fi:Stmt:=top 57
theorem Ry:FnScope ["words"] ["words"] (Ah Fi):=by trivial
abbrev Gs:Stmt:=top 58
theorem SC:FnScope ["words"] ["words"] (Ah Gs):=by trivial
abbrev El:Stmt:=top 59
theorem K2:FnScope ["row","words"] ["row"] (Ah El):=by trivial
abbrev Nz:Stmt:=top 61
theorem RK:FnScope ["boards","number","birth","block","row","board"] ["boards","number","birth","block"] (Ah Nz):=by trivial
abbrev Fj:Stmt:=top 62
theorem Jo:FnScope ["boards","tag","board","block"] ["boards","tag"] (Ah Fj):=by trivial
abbrev Eu:Stmt:=top 63
theorem K4:FnScope ["boards","board","tag","told"] ["boards","board","tag"] (Ah Eu):=by trivial
abbrev Ek:Stmt:=top 64
theorem Iq:FnScope ["boards","board","number","row","words"] ["boards","board","number"] (Ah Ek):=by trivial
abbrev BD:Stmt:=inClass (top 66) 0
theorem JO:FnScope ["self","own_tag","block"] ["self","own_tag","block"] (Ah BD):=by trivial
abbrev DP:Stmt:=inClass (top 67) 0
theorem OE:FnScope ["self","boards"] ["self","boards"] (Ah DP):=by trivial
abbrev EE:Stmt:=inClass (top 67) 1
theorem Ih:FnScope ["self","block","birth","found","tag"] ["self","block","birth"] (Ah EE):=by trivial
abbrev Dm:Stmt:=inClass (top 67) 2
theorem EM:FnScope ["self","block","unread","number","found"] ["self","block"] (Ah Dm):=by trivial
abbrev Bj:Stmt:=inClass (top 67) 3
theorem Jb:FnScope ["self"] ["self"] (Ah Bj):=by trivial
abbrev DX:Stmt:=inClass (top 67) 4
theorem E7:FnScope ["self","tag","block","cell","same_sum","named"] ["self","tag","block"] (Ah DX):=by trivial
abbrev Bu:Stmt:=inClass (top 67) 5
theorem Jp:FnScope ["self","folder"] ["self","folder"] (Ah Bu):=by trivial
abbrev BR:Stmt:=inClass (top 67) 6
theorem Gu:FnScope ["self","folder","steps"] ["self","folder"] (Ah BR):=by trivial
abbrev Dl:Stmt:=inClass (top 67) 7
theorem Ni:FnScope ["self","tag"] ["self","tag"] (Ah Dl):=by trivial
abbrev DO:Stmt:=inClass (top 67) 8
theorem Km:FnScope ["self","tag","cell"] ["self","tag"] (Ah DO):=by trivial
abbrev BE:Stmt:=inClass (top 67) 12
theorem FR:FnScope ["self","number"] ["self"] (Ah BE):=by trivial
abbrev Cq:Stmt:=inClass (top 67) 13
theorem Lv:FnScope ["self"] ["self"] (Ah Cq):=by trivial
abbrev Ez:Stmt:=inClass (top 67) 14
theorem Pt:FnScope ["self","number"] ["self","number"] (Ah Ez):=by trivial
abbrev Ci:Stmt:=inClass (top 67) 18
theorem Lr:FnScope ["self","number"] ["self","number"] (Ah Ci):=by trivial
abbrev DU:Stmt:=inClass (top 67) 19
theorem OH:FnScope ["self","number"] ["self","number"] (Ah DU):=by trivial
abbrev CQ:Stmt:=inClass (top 71) 0
theorem Mw:FnScope ["self","many"] ["self","many"] (Ah CQ):=by trivial
abbrev CV:Stmt:=inClass (top 71) 1
theorem MT:FnScope ["self"] ["self"] (Ah CV):=by trivial
abbrev Ck:Stmt:=inClass (top 71) 2
theorem HA:FnScope ["self","board","number","row","shelf"] ["self","board","number","row"] (Ah Ck):=by trivial
abbrev CW:Stmt:=inClass (top 71) 3
theorem HX:FnScope ["self","board","number","row"] ["self","board","number"] (Ah CW):=by trivial
abbrev Co:Stmt:=inClass (top 71) 4
theorem Hx:FnScope ["self","board","number","row","shelf"] ["self","board","number","row"] (Ah Co):=by trivial
abbrev Nm:Stmt:=inClass (top 71) 5
theorem U4:FnScope ["self","board"] ["self","board"] (Ah Nm):=by trivial
abbrev BF:Stmt:=inClass (top 71) 7
theorem JM:FnScope ["self"] ["self"] (Ah BF):=by trivial
abbrev Cp:Stmt:=inClass (top 71) 8
theorem Lp:FnScope ["self","number"] ["self","number"] (Ah Cp):=by trivial
abbrev Cc:Stmt:=inClass (top 71) 9
theorem CK:FnScope ["self","other","board","shelf","number"] ["self"] (Ah Cc):=by trivial
abbrev Cg:Stmt:=inClass (top 71) 10
theorem Lw:FnScope ["self","board"] ["self","board"] (Ah Cg):=by trivial
abbrev Cm:Stmt:=top 73
theorem Li:FnScope ["_law_script","_law_k"] ["_law_script","_law_k"] (Ah Cm):=by trivial
abbrev Et:Stmt:=top 74
theorem Da:FnScope ["_law_cell","_law_many","_law_found","_law_number","_law_k"] ["_law_cell","_law_many"] (Ah Et):=by trivial
abbrev Dh:Stmt:=top 75
theorem Ng:FnScope [] [] (Ah Dh):=by trivial
abbrev EI:Stmt:=top 76
theorem Br:FnScope ["_law_block","_law_told","_law_name","_law_kind","_law_tag","_law_number","_law_one"] ["_law_block"] (Ah EI):=by trivial
abbrev DS:Stmt:=top 77
theorem Df:FnScope ["_law_row_here","_law_signs_here","_law_ahead","_law_one","_law_two","_law_behind"] ["_law_row_here"] (Ah DS):=by trivial
abbrev Dp:Stmt:=top 78
theorem Jl:FnScope ["_law_pool","_law_block","_law_tag","e"] ["_law_pool","_law_block","_law_tag"] (Ah Dp):=by trivial
abbrev Du:Stmt:=top 79
theorem Dz:FnScope ["_law_pool","_law_block","_law_known_here","_law_gone","_law_ahead","_law_found","_law_total","_law_lost"] ["_law_pool","_law_block","_law_known_here","_law_gone"] (Ah Du):=by trivial
abbrev Dq:Stmt:=top 80
theorem B0:FnScope ["_law_pool","_law_rows","_law_known_here","_law_row_here","_law_text","_law_tags","_law_block"] ["_law_pool","_law_rows"] (Ah Dq):=by trivial
abbrev CY:Stmt:=top 81
theorem BK:FnScope ["_law_boards","_law_kept","_law_known_here","_law_rows","_law_gone","_law_blocks","_law_row_here","_law_tag","_law_board","_law_copy"] ["_law_boards","_law_kept","_law_known_here","_law_rows"] (Ah CY):=by trivial
abbrev Kc:Stmt:=top 82
theorem Dw:FnScope ["_law_script","_law_boards","_law_pool","_law_rows","_law_known_here","_law_blocks","_law_kept","_law_gone","_law_written","_law_block","_law_due","_law_row_here","_law_text","_law_board"] ["_law_script"] (Ah Kc):=by trivial
structure Txt (K:W.Frag) (mg:Str->Option Value) (Ac:Addr) (Aa:Addr) (Ab:Addr) (Af:Addr) (XC:Nat->Addr):Prop where
 cl_WordReader:Cls K Ac
 n_WordReader_words:BL K Ac "words"
 n_WordReader_place:BL K Ac "place"
 cl_Boards:Cls K Aa
 n_Boards_shelves:BL K Aa "shelves"
 n_Boards_writes:BL K Aa "writes"
 n_Boards_writes_left:BL K Aa "writes_left"
 cl_TakenCell:Cls K Ab
 n_TakenCell_own_tag:BL K Ab "own_tag"
 n_TakenCell_own_size:BL K Ab "own_size"
 n_TakenCell_named:BL K Ab "named"
 n_TakenCell_times_named:BL K Ab "times_named"
 n_TakenCell_entries_beneath:BL K Ab "entries_beneath"
 n_TakenCell_steps_beneath:BL K Ab "steps_beneath"
 cl_Pool:Cls K Af
 n_Pool_boards:BL K Af "boards"
 n_Pool_taken:BL K Af "taken"
 n_Pool_by_sums:BL K Af "by_sums"
 n_Pool_draft:BL K Af "draft"
 n_Pool_first_maybe_free:BL K Af "first_maybe_free"
 x_Lost:mg "Lost"=some (.ref (XC 0))
 x_NoThing:mg "NoThing"=some (.ref (XC 1))
 x_StemError:mg "StemError"=some (.ref (XC 2))
 x_TooMany:mg "TooMany"=some (.ref (XC 3))
 m_Lost_Lost:W.exmOne K (.ref (XC 0)) (.ref (XC 0))=some true
 m_Lost_StemError:W.exmOne K (.ref (XC 0)) (.ref (XC 2))=some true
 i_Lost:ExiCls K (XC 0)
 f_Lost:W.findIn K (.ref (XC 0)) "number"=some none
 k_Lost_Lost:W.kitOne K (.ref (XC 0)) (.ref (XC 0))=some true
 k_Lost_ValueError:W.kitOne K (.ref (XC 0)) (.type "ValueError")=some true
 k_Lost_NoThing:W.kitOne K (.ref (XC 0)) (.ref (XC 1))=some false
 k_Lost_TooMany:W.kitOne K (.ref (XC 0)) (.ref (XC 3))=some false
 b_ValueError:mg "ValueError"=none
 b_abs:mg "abs"=none
 b_all:mg "all"=none
 b_bool:mg "bool"=none
 b_enumerate:mg "enumerate"=none
 b_int:mg "int"=none
 b_isinstance:mg "isinstance"=none
 b_len:mg "len"=none
 b_list:mg "list"=none
 b_max:mg "max"=none
 b_min:mg "min"=none
 b_range:mg "range"=none
 b_set:mg "set"=none
 b_sorted:mg "sorted"=none
 b_str:mg "str"=none
 b_sum:mg "sum"=none
 b_tuple:mg "tuple"=none
 c_SIGNS:∃t,mg "SIGNS"=some (.str (PySem.Str.ofString " !\"#$&'()*+,-./0123456789:;<=>?@ABCDEFGHIJKLMNOPQRSTUVWXYZ[\\]^_`abcdefghijklmnopqrstuvwxyz{|}~") t)
 c_MOST_NUMBER:∃t,mg "MOST_NUMBER"=some (.int 999999999 t)
 c_MOST_SIGNS:∃t,mg "MOST_SIGNS"=some (.int 400 t)
 c_MOST_PARTS:∃t,mg "MOST_PARTS"=some (.int 100 t)
 c_MOST_DEEP:∃t,mg "MOST_DEEP"=some (.int 8 t)
 c_NUMBER_WORD:∃t,mg "NUMBER_WORD"=some (.int 0 t)
 c_TEXT_WORD:∃t,mg "TEXT_WORD"=some (.int 1 t)
 c_TUPLE_WORD:∃t,mg "TUPLE_WORD"=some (.int 2 t)
 c_PIECE:∃t,mg "PIECE"=some (.int 0 t)
 c_ROW:∃t,mg "ROW"=some (.int 1 t)
 c_FOLDER:∃t,mg "FOLDER"=some (.int 2 t)
 c_FILE_ENTRY:∃t,mg "FILE_ENTRY"=some (.int 1 t)
 c_FOLDER_ENTRY:∃t,mg "FOLDER_ENTRY"=some (.int 2 t)
 c_NAME_SIGNS:∃t,mg "NAME_SIGNS"=some (.str (PySem.Str.ofString "0123456789abcdefghijklmnopqrstuvwxyz") t)
 c_MOST_NAME_SIGNS:∃t,mg "MOST_NAME_SIGNS"=some (.int 8 t)
 c_MOST_CELL:∃t,mg "MOST_CELL"=some (.int 999999 t)
 c_MOST_BIRTH:∃t,mg "MOST_BIRTH"=some (.int 999999999 t)
 c_SUM_RESTS:∃t,mg "SUM_RESTS"=some (.int 997 t)
 c_MOST_PIECE_SIGNS:∃t,mg "MOST_PIECE_SIGNS"=some (.int 8 t)
 c_MOST_LEVEL:∃t,mg "MOST_LEVEL"=some (.int 9 t)
 c_MOST_TAGS:∃t,mg "MOST_TAGS"=some (.int 8 t)
 c_MOST_ENTRIES:∃t,mg "MOST_ENTRIES"=some (.int 16 t)
 c_MARK_RESTS:∃t,mg "MARK_RESTS"=some (.int 2147483647 t)
 c_LEAST_BOARDS:∃t,mg "LEAST_BOARDS"=some (.int 2 t)
 c_MOST_BOARDS:∃t,mg "MOST_BOARDS"=some (.int 4 t)
abbrev SG:Str:=PySem.Str.ofString " !\"#$&'()*+,-./0123456789:;<=>?@ABCDEFGHIJKLMNOPQRSTUVWXYZ[\\]^_`abcdefghijklmnopqrstuvwxyz{|}~"
theorem Ue:SG.cps.toList.length=94:=by decide +kernel
theorem GU:SG.length<=sizeLine:=small (by decide +kernel)
theorem W1:∀k:Nat,k<94->PySem.Txt.find SG ⟨#[SG.cps.toList.getD k 0]⟩=(k:Int):=by decide +kernel
theorem NG {i:Int}(h0:0<=i)(h1:i<94):Mj SG.cps.toList i=some (SG.cps.toList.getD i.toNat 0):=by
 have hk:i.toNat<SG.cps.toList.length:=by rw[Ue];omega
 have q:Mj SG.cps.toList ((i.toNat:Nat):Int)=some (SG.cps.toList.getD i.toNat 0):=DD (by rw[bF hk];simp only[List.getD,List.getElem?_eq_getElem hk,Option.getD_some]);have ek:((i.toNat:Nat):Int)=i:=by omega
 rw[ek] at q;exact q
section
variable {P:Program}{w:World}{K:W.Frag}{mg:Str->Option Value}{base:Heap}{f Ac Aa Ab Af:Addr}{XC:Nat->Addr}{fd:FuncData}
def EX (K:W.Frag):Sp:=λvs H Q _=>∃(a:Addr) (ns:List Int) (k:Int),vs=[.ref a,.int k]/\0<=k/\AQ K H a (ns.map V.int)/\∀z:Int,Q (.int z) H
theorem LA (T:Txt K mg Ac Aa Ab Af XC)(F:Fun K "_law_cell_at" "_law_cell_at" Cm f fd):FnOk P w K mg base CG 1 f fd ["_law_script","_law_k"] (EX K):=by
 exists Li
 ·obtain⟨a,ns,k,rfl,_⟩:=h;rfl
 obtain⟨a,ns,k,rfl,hk,hS,q⟩:=h;refine⟨_,(!Ai (!AR (!AI RU (pv 1) (!Av AM (by rfl) T.b_len CA (!Ad (pv 0) (!Aj))) (AG _)) (!Al (!Aq (!Au Bm (pv 0) (pv 1) (λ_ _=>rfl)))) (!Ay)) (!Al (!Aq (!Ak)))),?_⟩;refine⟨_,rfl,_,rfl,a,_,rfl,.inl hS,_,_,rfl,rfl,_,rfl,IE (λc=>?_) (λc=>q 0)⟩;have c':=dec_true c;rw[bE] at c';exact⟨_,rfl,_,rfl,a,_,_,_,rfl,rfl,hS,Yg hk c',q _⟩
def C5 (K:W.Frag):Sp:=λvs H Q _=>∃v,vs=[v]/\Ok H v/\Q (.bl (HJ H v)) H
theorem QD (T:Txt K mg Ac Aa Ab Af XC)(F:Fun K "is_whole" "is_whole" Ep f fd):FnOk P w K mg base CG 1 f fd ["thing"] (C5 K):=by
 exists Qh
 ·obtain⟨c,rfl,_⟩:=h;rfl
 obtain⟨v,rfl,ok,q⟩:=h;refine⟨_,(!Al (!Aq (!EF (!Av Cv (by rfl) T.b_isinstance A3 (!Ad (pv 0) (!Ad (!Kt rfl T.b_int Yu) (!Aj)))) (!Gf (!YZ (!Av Cv (by rfl) T.b_isinstance A3 (!Ad (pv 0) (!Ad (!Kt rfl T.b_bool We) (!Aj))))))))),?_⟩;exact Ov _ _ (λR q=>⟨_,rfl,_,_,_,_,rfl,ok.ty K,ok.kit K,q⟩) (λ_ R q=>⟨_,rfl,_,_,_,_,rfl,ok.ty K,ok.kit K,_,rfl,q⟩) q
def Bn (K:W.Frag):Sp:=λvs H Q _=>∃v a b,vs=[v,.int a,.int b]/\Ok H v/\Q (.bl (Lg a b v)) H
theorem MW (T:Txt K mg Ac Aa Ab Af XC)(F:Fun K "is_between" "is_between" Do f fd)(Bd:Def P w K mg base 1 "is_whole" ["thing"] (C5 K)):FnOk P w K mg base CG 2 f fd ["thing","least","most"] (Bn K):=by
 exists Nl
 ·obtain⟨v,a,b,rfl,_⟩:=h;rfl
 obtain⟨v,a,b,rfl,ok,q⟩:=h;refine⟨_,(!Al (!Aq (!EF (!AO Bd (by trivial) rfl (!Ad (pv 0) (!Aj))) (!Gf (!U6 Sr Sr (pv 1) (pv 0) (pv 2) (by with_unfolding_all rfl)))))),?_⟩;refine Ov (HJ H v) (Lg a b v) (λR q=>⟨_,rfl,v,rfl,ok,q⟩) (λhw R q=>?_) ?_
 ·obtain⟨i,rfl⟩:=U7 ok hw;refine⟨_,rfl,_,rfl,_,_,rfl,rfl,_,rfl,?_⟩;refine IE (λc=>?_) (λc=>?_)
  ·have e:Lg a b (.int i)=decide (i<=b):=by show(decide (a<=i)&&decide (i<=b))=_;rw[c];rfl
   rw[e] at q;exact⟨_,rfl,_,_,rfl,rfl,q⟩
  ·have e:Lg a b (.int i)=false:=by show(decide (a<=i)&&decide (i<=b))=_;rw[Bool.eq_false_iff.mpr c];rfl
   rw[e] at q;exact q
 ·cases hw:HJ H v with
  |true=>exact q
  |false=>rw[V6 hw] at q;exact q
def E5 (t:Str)(z:Str):Bool:=(Eh z).all λc=>decide (c∈Eh t)
def LW (a b:Int):V->Bool
 | .str z=>decide (a<=(z.length:Int))&&decide ((z.length:Int)<=b)&&E5 SG z
 |_=>false
theorem VO {H:Hp}{v:V}{a b:Int}(h:isA (IW H v) "str"=false):LW a b v=false:=by
 cases v with
 |str z=>exact absurd (show isA "str" "str"=false from h) (by decide)
 |_=>rfl
def GM (K:W.Frag):Sp:=λvs H Q _=>∃v a b,vs=[v,.int a,.int b]/\Ok H v/\∀H',An H H'->Q (.bl (LW a b v)) H'
theorem TK (t z:Str):((Eh z).map λc=>V.str ⟨#[c]⟩).map (λv=>match v with|V.str y=>V.bl (!(Builtin.Str.occurrences t y 0 t.length 1).isEmpty)|_=>V.non)=((Eh z).map λc=>decide (c∈Eh t)).map V.bl:=by
 rw[cw,cw];refine dB λc _=>?_
 show V.bl (!(Builtin.Str.occurrences t ⟨#[c]⟩ 0 t.length 1).isEmpty)=V.bl (decide (c∈Eh t));rw[PySem.StrLaws.found_one]
theorem QN (T:Txt K mg Ac Aa Ab Af XC)(F:Fun K "is_text" "is_text" Fe f fd):FnOk P w K mg base CG 1 f fd ["thing","least","most"] (GM K):=by
 exists RP
 ·obtain⟨v,a,b,rfl,_⟩:=h;rfl
 obtain⟨v,a,b,rfl,ok,q⟩:=h;refine⟨_,(!Ai (!AR (@PW.pt _ _ _ (!GG (!BZ (!Bz (!Av Cv (by rfl) T.b_isinstance A3 (!Ad (pv 0) (!Ad (!Kt rfl T.b_str Vn) (!Aj)))) (by intro _;rfl))) (!Fq (!BZ (!UZ Sr Sr (pv 1) (!Av GZ (by rfl) T.b_len CA (!Ad (pv 0) (!Aj))) (pv 2) (by with_unfolding_all rfl)))))) (!Al (!Aq (!Hv))) (!Ay)) (!Al (!Aq (!Av (IC rfl) (by rfl) T.b_all Mm (!Ad (@Cj _ ["sign"] _ _ _ _ _ _ _ _ _ _ rfl (!Kw (pv 0)) (by decide +kernel) (λC s H fp=>⟨(@As _ _ (0) _ (show(["sign"]:List Str).Nodup by decide +kernel) rfl (by trivial) (by trivial)),(!AY),(!BS SH (pv 0) (!JK rfl T.c_SIGNS))⟩) (by intro _;rfl)) (!Aj)))))),?_⟩;refine⟨_,rfl,_,_,_,_,rfl,ok.ty K,ok.kit K,_,rfl,?_⟩;cases hw:isA (IW H v) "str" with
 |false=>
  refine Bs rfl ?_;have:=q H (An.refl _);rw[VO hw] at this;exact this
 |true=>
  refine AE rfl ?_;obtain⟨z,rfl,hz⟩:=YB ok hw;have zl:=DC z;refine⟨_,rfl,_,rfl,_,rfl,small (by omega),_,_,rfl,rfl,_,rfl,?_⟩;refine IE (λc=>?_) (λc=>?_)
  ·refine⟨_,rfl,_,_,rfl,rfl,_,rfl,?_⟩;refine IE (λd=>?_) (λd=>?_)
   ·have d':decide ((z.length:Int)<=b)=false:=by simpa using d
    have e:LW a b (.str z)=false:=by show(decide (a<=(z.length:Int))&&decide ((z.length:Int)<=b)&&E5 SG z)=_;rw[d',Bool.and_false];rfl
    have:=q H (An.refl _);rw[e] at this;exact this
   ·have d':decide ((z.length:Int)<=b)=true:=by simpa using d
    refine⟨_,rfl,z,rfl,?_⟩;refine comp_map (λv=>match v with | .str y=>.bl (!(Builtin.Str.occurrences SG y 0 SG.length 1).isEmpty)|_=>.non) JY (by rw[bE];exact cA (fT zl) (by omega)) (λx H' R hx s' hR=>?_) λl H7 n7 s7 h7=>?_
    ·obtain⟨u,_,rfl⟩:=bK.mp hx;exact⟨_,rfl,_,_,rfl,rfl,hR H' (An.refl _)⟩
    rw[TK] at h7;refine⟨l,_,rfl,AQ.of h7,?_⟩;have e:LW a b (.str z)=((Eh z).map λc=>decide (c∈Eh SG)).all id:=by
     show(decide (a<=(z.length:Int))&&decide ((z.length:Int)<=b)&&E5 SG z)=_;unfold E5;rw[c,d',iW];rfl
    have:=q H7 s7;rw[e] at this;exact this
  ·have c':decide (a<=(z.length:Int))=false:=Bool.eq_false_iff.mpr c;have e:LW a b (.str z)=false:=by show(decide (a<=(z.length:Int))&&decide ((z.length:Int)<=b)&&E5 SG z)=_;rw[c',Bool.false_and];rfl
   have:=q H (An.refl _);rw[e] at this;exact⟨_,rfl,this⟩
def Jw (K:W.Frag):Sp:=λ_ _ _ _=>False
theorem Rg (T:Txt K mg Ac Aa Ab Af XC)(F:Fun K "is_name" "is_name" Fg f fd)(Gz:Def P w K mg base 1 "is_text" ["thing","least","most"] (GM K)):FnOk P w K mg base CG 2 f fd ["thing"] (Jw K):=
 F.ok QP (λvs H Q E h=>h.elim) (λcdv A outer s H vs Q E hr h=>h.elim)
def TM (H:Hp)(v:V)(n:Int):Bool:=match v with
 | .ref a=>match H a with
  |some (.tup xs)=>decide ((xs.length:Int)=n)
  |_=>false
 |_=>false
theorem L7 {H:Hp}{a:Addr}{xs:List V}{n:Int}(h:H a=some (.tup xs)):TM H (.ref a) n=decide ((xs.length:Int)=n):=by simp only[TM,h]
theorem WB {H:Hp}{v:V}{n:Int}(ok:Ok H v)(h:isA (IW H v) "tuple"=false):TM H v n=false:=by
 refine ok.elim (λe _=>?_) (λ_ e _=>?_) (λ_ e _=>?_) (λ_ e _ _=>?_) (λa xs e e2 _=>?_) (λ_ _ _ _ e=>?_)
 ·rw[e];rfl
 ·rw[e];rfl
 ·rw[e];rfl
 ·rw[e];rfl
 ·rw[e];simp only[TM,e2]
 ·rw[e] at h;exact absurd h (by decide)
def C7 (K:W.Frag):Sp:=λvs H Q _=>∃v n,vs=[v,.int n]/\Ok H v/\Q (.bl (TM H v n)) H
theorem LO (T:Txt K mg Ac Aa Ab Af XC)(F:Fun K "is_tuple_of" "is_tuple_of" CU f fd):FnOk P w K mg base CG 1 f fd ["thing","many"] (C7 K):=by
 exists Mh
 ·obtain⟨v,n,rfl,_⟩:=h;rfl
 obtain⟨v,n,rfl,ok,q⟩:=h;refine⟨_,(!Al (!Aq (!EF (!Av Cv (by rfl) T.b_isinstance A3 (!Ad (pv 0) (!Ad (!Kt rfl T.b_tuple GA) (!Aj)))) (!Gf (!BS CI (!Av AM (by rfl) T.b_len CA (!Ad (pv 0) (!Aj))) (pv 1) (AG _)))))),?_⟩;refine Ov (isA (IW H v) "tuple") (TM H v n) (λR q=>⟨_,rfl,_,_,_,_,rfl,ok.ty K,ok.kit K,q⟩) (λhw R q=>?_) ?_
 ·obtain⟨a,xs,rfl,e⟩:=Uq ok hw;rw[L7 e] at q;refine⟨_,rfl,a,xs,rfl,.inr (AS.of e),_,rfl,rfl,?_⟩;rw[FN,Bool.beq_eq_decide_eq];exact q
 ·cases hw:isA (IW H v) "tuple" with
  |true=>exact q
  |false=>rw[WB ok hw] at q;exact q
def Dr (K:W.Frag):Sp:=λvs H Q _=>∃u:Str,vs=[.str u]/\0<=PySem.Txt.find SG u/\Q (.int (PySem.Txt.find SG u)) H
theorem Ow (T:Txt K mg Ac Aa Ab Af XC)(F:Fun K "number_of" "number_of" DQ f fd):FnOk P w K mg base CG 1 f fd ["sign"] (Dr K):=by
 exists O8
 ·obtain⟨u,rfl,_⟩:=h;rfl
 obtain⟨u,rfl,h0,q⟩:=h;refine⟨_,(!Al (!Aq (!J3 fj gD gC (LP rfl) (!JK rfl T.c_SIGNS) (!Ad (pv 0) (!Aj))))),?_⟩;exact⟨rfl,_,rfl,_,_,rfl,rfl,h0,q⟩
def Ju (K:W.Frag):Sp:=λvs H Q _=>∃i:Int,vs=[.int i]/\0<=i/\i<94/\Q (.str ⟨#[SG.cps.toList.getD i.toNat 0]⟩) H
theorem RR (T:Txt K mg Ac Aa Ab Af XC)(F:Fun K "sign_of" "sign_of" Fh f fd):FnOk P w K mg base CG 1 f fd ["number"] (Ju K):=by
 exists QM
 ·obtain⟨u,rfl,_⟩:=h;rfl
 obtain⟨i,rfl,h0,h1,q⟩:=h;refine⟨_,(!Al (!Aq (!Au KR (!JK rfl T.c_SIGNS) (pv 0) (λ_ _=>rfl)))),?_⟩;exact⟨_,rfl,_,_,_,rfl,rfl,GU,NG h0 h1,q⟩
def ES:Nat->Tr->Bool
 |0,_=>false
 |_+1,.int i=>decide (0<=i)&&decide (i<=999999999)
 |_+1,.str z=>decide ((z.length:Int)<=400)&&E5 SG z
 |n+1,.tup ts=>decide (ts.length<=100)&&ts.all (ES n)
 |_+1,_=>false
def All:Addr->Prop:=λ_=>True
def NL:Addr->Prop:=λ_=>False
mutual
theorem DA {H H':Hp}(k:∀c xs,H c=some (.tup xs)->H' c=some (.tup xs)):∀(t:Tr) (v:V),Rep NL H t v->Rep NL H' t v
 | .non,_,h=>h
 | .bl _,_,h=>h
 | .int _,_,h=>h
 | .str _,_,h=>h
 | .tup ts,_,⟨a,vs,e,ha,hr⟩=>⟨a,vs,e,k a _ ha,D4 k ts vs hr⟩
 | .lst _,_,⟨_,_,_,fa,_⟩=>fa.elim
theorem D4 {H H':Hp}(k:∀c xs,H c=some (.tup xs)->H' c=some (.tup xs)):∀(ts:List Tr) (vs:List V),AL NL H ts vs->AL NL H' ts vs
 |[],_,h=>h
 |t::ts,_,⟨v,us,e,h1,h2⟩=>⟨v,us,e,DA k t v h1,D4 k ts us h2⟩
end
theorem IT {H:Hp}{t:Tr}{v:V}(h:Rep NL H t v):Rep All H t v:=Rep.mono (λ_ z=>z.elim) t v h
mutual
theorem Rk:∀(n:Nat) (t:Tr),ES n t=true->t.ok
 |0,_,h=>nomatch h
 |n+1,.non,h=>nomatch h
 |n+1,.bl _,h=>nomatch h
 |n+1,.int _,_=>trivial
 |n+1,.str z,h=>by
  have h':(decide ((z.length:Int)<=400)&&E5 SG z)=true:=h;rw[cu,cz] at h';show z.length<=1000;omega
 |n+1,.tup ts,h=>by
  have h':(decide (ts.length<=100)&&ts.all (ES n))=true:=h;rw[cu,cz] at h';exact⟨by omega,RW n ts h'.2⟩
 |n+1,.lst _,h=>nomatch h
theorem RW:∀(n:Nat) (ts:List Tr),ts.all (ES n)=true->Tr.oks ts
 |_,[],_=>trivial
 |n,t::ts,h=>by
  rw[fH,cu] at h;exact⟨Rk n t h.1,RW n ts h.2⟩
end
def idx (c:Nat):Int:=PySem.Txt.find SG ⟨#[c]⟩
theorem JC {c:Nat}(h:c∈Eh SG):0<=idx c/\idx c<94/\SG.cps.toList.getD (idx c).toNat 0=c:=by
 obtain⟨k,hk,e⟩:=cS (show c∈SG.cps.toList from h);have hk':k<94:=by rw[Ue] at hk;exact hk
 have eg:SG.cps.toList.getD k 0=c:=by simp only[List.getD,List.getElem?_eq_getElem hk,Option.getD_some];exact e
 have:=W1 k hk';rw[eg] at this;have ei:idx c=(k:Int):=this;rw[ei];exact⟨by omega,by omega,eg⟩
mutual
def wT:Tr->List Int
 | .int i=>[0,i]
 | .str z=>1::(z.length:Int)::(Eh z).map idx
 | .tup ts=>2::(ts.length:Int)::wTs ts
 |_=>[]
def wTs:List Tr->List Int
 |[]=>[]
 |t::ts=>wT t++wTs ts
end
theorem LC:∀(a b:List Tr),wTs (a++b)=wTs a++wTs b
 |[],_=>rfl
 |t::a,b=>by
  show wT t++wTs (a++b)=(wT t++wTs a)++wTs b;rw[LC a b,d6]
theorem Kq {ts:List Tr}{i:Nat}{t:Tr}(h:ts[i]?=some t):wTs (ts.take (i+1))=wTs (ts.take i)++wT t:=by
 rw[cJ,h,LC];show wTs (ts.take i)++(wT t++[])=_;rw[cW]
theorem YS {ts:List Tr}(i:Nat):(wTs (ts.take i)).length<=(wTs ts).length:=by
 have:=congrArg List.length (LC (ts.take i) (ts.drop i));rw[gP,bW] at this;omega
theorem Wh {ts:List Tr}{i:Nat}{t:Tr}(h:ts[i]?=some t):(wTs (ts.take i)).length+(wT t).length<=(wTs ts).length:=by
 have:=YS (ts:=ts) (i+1);rw[Kq h,bW] at this;exact this
theorem LF {n:Nat}{z:Str}(h:ES n (.str z)=true):z.length<=400/\∀c∈Eh z,c∈Eh SG:=by
 cases n with
 |zero=>cases h
 |succ n=>
  have h':(decide ((z.length:Int)<=400)&&E5 SG z)=true:=h;rw[cu,cz] at h';refine⟨by omega,λc hc=>?_⟩;have:=cO.mp h'.2 c hc;simpa using this
theorem C0 {n:Nat}{ts:List Tr}(h:ES (n+1) (.tup ts)=true):ts.length<=100/\∀(i:Nat) t,ts[i]?=some t->ES n t=true:=by
 have h':(decide (ts.length<=100)&&ts.all (ES n))=true:=h;rw[cu,cz] at h';exact⟨h'.1,λi t ht=>cO.mp h'.2 t (bJ ht)⟩
theorem Vl (ts:List Tr):wT (.tup ts)=2::(ts.length:Int)::wTs ts:=rfl
theorem YE (z:Str):wT (.str z)=1::(z.length:Int)::(Eh z).map idx:=rfl
def RX (n:Nat)(K:W.Frag):Sp:=λvs H Q _=>∃(v:V) (t:Tr),vs=[v]/\Rep NL H t v/\ES n t=true/\(wT t).length<=900000/\∀l H',An H H'->H l=none->H' l=some (.lst ((wT t).map V.int))->Q (.ref l) H'
def FQ (K:W.Frag):Sp:=RX 8 K
theorem W6 (T:Txt K mg Ac Aa Ab Af XC)(F:Fun K "words_of" "words_of" Dc f fd)(Bd:Def P w K mg base 1 "is_whole" ["thing"] (C5 K))(Be:Def P w K mg base 1 "number_of" ["sign"] (Dr K))(n:Nat)(C9:Def P w K mg base (1+n) "words_of" ["thing"] (RX n K)):FnOk P w K mg base CG (1+n+1) f fd ["thing"] (RX (n+1) K):=by
 exists FL
 ·obtain⟨v,t,rfl,_⟩:=h;rfl
 obtain⟨v,t,rfl,hv,ht,hw,q⟩:=h;have ok:=Rk _ _ ht;have okv:=(IT hv).ok ok;have ety:=(IT hv).tyN;refine⟨_,(!Ai (!AR (!Bz (!AO Bd (hr.mono (by omega)) rfl (!Ad (pv 0) (!Aj))) (by intro _;rfl)) (!Al (!Aq (!Cs (!Ad (!AH rfl T.c_NUMBER_WORD) (!Ad (pv 0) (!Aj)))))) (!Ay)) (!Ai (!AR (!Bz (!Av Cv (by rfl) T.b_isinstance A3 (!Ad (pv 0) (!Ad (!Kt rfl T.b_str Vn) (!Aj)))) (by intro _;rfl)) (!Al (!Aq (!AC Hf (!Cs (!Ad (!AH rfl T.c_TEXT_WORD) (!Ad (!Av GZ (by rfl) T.b_len CA (!Ad (pv 0) (!Aj))) (!Aj)))) (@Cj _ ["sign"] _ _ _ _ _ _ _ _ _ _ rfl (!Kw (pv 0)) (by decide +kernel) (λC s H fp=>⟨(@As _ _ (0) _ (show(["sign"]:List Str).Nodup by decide +kernel) rfl (by trivial) (by trivial)),(!AY),(!AO Be (hr.mono (by omega)) rfl (!Ad (pv 0) (!Aj)))⟩) (by intro _;rfl))))) (!Ay)) (!Ai (@AB _ _ (1) _ _ _ _ FL.nd rfl (by trivial) (!Cs (!Ad (!AH rfl T.c_TUPLE_WORD) (!Ad (!Av AM (by rfl) T.b_len CA (!Ad (pv 0) (!Aj))) (!Aj)))) (by rfl) (by trivial)) (!Ai (!BM cF rfl (!Ed (pv 0)) (@As _ _ (2) _ FL.nd rfl (by trivial) (by trivial)) (!Al (!BN (!J3 dk gp gn KA (pv 1) (!Ad (!AO C9 (hr.mono (by omega)) rfl (!Ad (pv 2) (!Aj))) (!Aj))))) (by intro _;rfl)) (!Al (!Aq (pv 1))))))),?_⟩;refine⟨_,rfl,v,rfl,okv,_,rfl,?_⟩;cases t with
 |int i=>
  cases(show v=V.int i from hv);refine Bs rfl ?_;exact⟨_,rfl,Jd,λl hl=>q l _ (Am hl _) hl Ae⟩
 |str z=>
  cases(show v=V.str z from hv);obtain⟨zl,zs⟩:=LF ht;have zc:=DC z;refine AE rfl ?_;refine⟨_,rfl,_,_,_,_,rfl,okv.ty K,okv.kit K,_,rfl,Bs (by rw[ety];show isA "str" "str"=true;decide) ?_⟩;refine⟨_,rfl,_,rfl,small (by omega),Jd,λp1 hp1=>?_⟩;refine⟨_,rfl,z,rfl,?_⟩;refine comp_map (λv=>match v with | .str y=>.int (PySem.Txt.find SG y)|_=>.non) JY (by rw[bE];exact cA (fT zc) (by omega)) (λx H' R hx s' hR=>?_) λl H7 n7 s7 h7=>?_
  ·obtain⟨u,hu,rfl⟩:=bK.mp hx;exact⟨_,rfl,_,rfl,(JC (zs u hu)).1,hR H' (An.refl _)⟩
  have e7:((z.cps.toList.map λc=>V.str ⟨#[c]⟩).map λv=>match v with|V.str y=>V.int (PySem.Txt.find SG y)|_=>V.non)=((Eh z).map idx).map V.int:=by
   rw[cw,cw];rfl
  rw[e7] at h7;have s1:=Am hp1 (.lst [V.int 1,V.int (z.length:Int)]);refine⟨p1,l,_,_,rfl,rfl,AQ.of (s7.get Ae),AQ.of h7,small (by rw[bE,bE];show 2+_<=_;omega),λp hp=>?_⟩;exact q p _ ((s1.trans s7).trans (Am hp _)) ((s1.trans s7).free hp) Ae
 |tup ts=>
  obtain⟨a,vs,rfl,ha,hr'⟩:=hv;have lv:=AL.len ts vs hr';obtain⟨tl,tt⟩:=C0 ht;rw[Vl] at hw q;have hw2:(wTs ts).length<=899998:=by simp only[List.length_cons] at hw;omega
  refine AE (by unfold HJ;rw[ety];rfl) ?_;refine⟨_,rfl,_,_,_,_,rfl,okv.ty K,okv.kit K,_,rfl,AE (by rw[ety];show isA "tuple" "str"=false;decide) ?_⟩;refine⟨_,rfl,a,_,rfl,.inr (AS.of ha),Jd,λg hg=>?_⟩;rw[lv];refine⟨_,rfl,a,rfl,⟨_,AS.of ((Am hg _).get ha)⟩,IR (K:=K) (a:=a) (xs:=vs) (λi σ H2=>∃(v2:Option V),σ=[some (.ref a),some (.ref g),v2]/\An H H2/\H2 g=some (.lst ((2::(ts.length:Int)::wTs (ts.take i)).map V.int)))
   ⟨none,rfl,Am hg _,Ae⟩ (λi σ H2 _ ⟨_,_,s2,_⟩=>AS.of (s2.get ha)) ?_ ?_⟩
  ·rintro i y σ H2 hi ⟨v2,rfl,s2,hg2⟩
   obtain⟨ty,et,ry⟩:=AL.get hr' hi;have b1:=Wh et;refine⟨_,rfl,.inl ⟨rfl,_,AQ.of hg2⟩,_,rfl,y,ty,rfl,Rep.same s2 _ _ ry,tt i ty et,by omega,λl3 H3 s3 n3 h3=>?_⟩;refine⟨g,l3,_,_,rfl,rfl,s3.get hg2,h3,small (by simp only[List.length_map,List.length_cons];omega),?_⟩;refine⟨_,rfl,BV (s2.trans s3) hg _,?_⟩;rw[Ae,<-cg,Kq et];rfl
  ·rintro σ H2 ⟨v2,rfl,s2,hg2⟩
   rw[lv,cI (bI _)] at hg2;exact⟨_,rfl,q g H2 s2 hg hg2⟩
 |non=>cases n<;>cases ht
 |bl b=>cases n<;>cases ht
 |lst ts=>cases n<;>cases ht
theorem Ut (T:Txt K mg Ac Aa Ab Af XC)(F:Fun K "words_of" "words_of" Dc f fd)(Bd:Def P w K mg base 1 "is_whole" ["thing"] (C5 K))(Be:Def P w K mg base 1 "number_of" ["sign"] (Dr K))(hm:mg "words_of"=some (.ref f))(hk:W.keepIn K (.ref f)=true)(hb:Binds K fd ["thing"] []):∀n,FnOk P w K mg base CG (1+n) f fd ["thing"] (RX n K)
 |0=>by
  exists FL
  ·obtain⟨v,t,rfl,_,ht,_⟩:=h;cases ht
  ·obtain⟨v,t,rfl,_,ht,_⟩:=h;cases ht
 |n+1=>W6 T F Bd Be n ⟨f,fd,Ut T F Bd Be hm hk hb n,hm,hk,hb⟩
theorem PM (T:Txt K mg Ac Aa Ab Af XC)(F:Fun K "words_of" "words_of" Dc f fd)(Bd:Def P w K mg base 1 "is_whole" ["thing"] (C5 K))(Be:Def P w K mg base 1 "number_of" ["sign"] (Dr K))(hm:mg "words_of"=some (.ref f))(hk:W.keepIn K (.ref f)=true)(hb:Binds K fd ["thing"] []):FnOk P w K mg base CG 9 f fd ["thing"] (FQ K):=
 Ut T F Bd Be hm hk hb 8
def Hu (K:W.Frag):Sp:=λvs H Q _=>∃(a:Addr) (ns:List Int),vs=[.ref a]/\H a=some (.lst (ns.map V.int))/\ns.length<=1000/\∀H',An H H'->Q (.int (mk ns)) H'
def fI (i:Nat):V->V
 | .int x=>.int (x*((i:Int)+1))
 |v=>v
theorem XD (ns:List Int):(List.range (ns.map V.int).length).map (λi=>fI i ((ns.map V.int).getD i .non))=((List.range ns.length).map λi=>ns.getD i 0*((i:Int)+1)).map V.int:=by
 rw[bE,cw];refine dB λi hi=>?_
 have hl:i<ns.length:=fX.mp hi;simp[List.getD,List.getElem?_eq_getElem hl,fI]
theorem Rj (T:Txt K mg Ac Aa Ab Af XC)(F:Fun K "mark_of" "mark_of" Fi f fd):FnOk P w K mg base CG 1 f fd ["words"] (Hu K):=by
 exists Ry
 ·obtain⟨a,ns,rfl,_⟩:=h;rfl
 obtain⟨a,ns,rfl,hS,hlen,q⟩:=h;refine⟨_,(!Al (!Aq (!AC BP (!Av (Qm rfl) (by rfl) T.b_sum UH (!Ad (@Cj _ ["place","word"] _ _ _ _ _ _ _ _ _ _ rfl (!WL rfl T.b_enumerate (!Ad (pv 0) (!Aj))) (by decide +kernel) (λC s H fp=>⟨(@JR _ (K) _ _ _ _ (2) (by rfl) rfl (!AZ (@As _ _ (0) _ (show(["place","word"]:List Str).Nodup by decide +kernel) rfl (by trivial) (by trivial)) (!AZ (@As _ _ (1) _ (show(["place","word"]:List Str).Nodup by decide +kernel) rfl (by trivial) (by trivial)) (!FS))) (by rfl) (by rfl)),(!AY),(!AC Kx (pv 1) (pv 0))⟩) (by intro _;rfl)) (!Aj))) (!AH rfl T.c_MARK_RESTS)))),?_⟩;refine⟨_,rfl,a,_,rfl,AQ.of hS,?_⟩;refine SO fI hS (by rw[bE];omega) rfl (λi x H' R hx s' hR=>?_) (by decide) λl H' nl s' hl=>?_
 ·obtain⟨z,rfl,hz⟩:=Wu hx;have hil:i<ns.length:=(bT.mp hz).1;exact⟨_,rfl,_,rfl,_,_,rfl,rfl,.inr ⟨by omega,by omega⟩,hR H' (An.refl _)⟩
 ·rw[XD] at hl;refine⟨l,_,rfl,AQ.of hl,?_⟩;refine⟨_,_,rfl,rfl,(by show(0:Int)<2147483647;decide),?_⟩;rw[Th];exact q _ s'
def KG (K:W.Frag):Sp:=λvs H Q _=>∃(a:Addr) (ns:List Int),vs=[.ref a]/\H a=some (.lst (ns.map V.int))/\ns.length<=1000/\
 ∀(r:Addr) (H':Hp),An H H'->H r=none->H' r=some (.lst ((ns++[mk ns]).map V.int))->Q (.ref r) H'
theorem T5 (T:Txt K mg Ac Aa Ab Af XC)(F:Fun K "sealed" "sealed" Gs f fd)(Fc:Def P w K mg base 1 "mark_of" ["words"] (Hu K)):FnOk P w K mg base CG 2 f fd ["words"] (KG K):=by
 exists SC
 ·obtain⟨a,ns,rfl,_⟩:=h;rfl
 obtain⟨a,ns,rfl,hS,hlen,q⟩:=h;refine⟨_,(!Al (!Aq (!AC Hf (pv 0) (!Cs (!Ad (!AO Fc (by trivial) rfl (!Ad (pv 0) (!Aj))) (!Aj)))))),?_⟩;refine⟨_,rfl,_,rfl,a,ns,rfl,hS,hlen,λH1 s1=>?_⟩;refine⟨WK,λg hg=>?_⟩;refine⟨a,g,_,_,rfl,rfl,AQ.of ((Am hg _).get (s1.get hS)),AQ.of Ae,small (by rw[bE];show ns.length+1<=1000000;omega),λp hp=>?_⟩;refine q p _ ((s1.trans (Am hg _)).trans (Am hp _)) (s1.free ((Am hg _).free hp)) ?_;rw[Ae,cg];rfl
def Ig (K:W.Frag):Sp:=λvs H Q _=>∃(a:Addr) (ns:List Int),vs=[.ref a]/\H a=some (.lst (ns.map V.int))/\ns.length<=1000/\
 (sound ns=false->∀H',An H H'->Q .non H')/\(sound ns=true->∀(r:Addr) (H':Hp),An H H'->H r=none->H' r=some (.lst (ns.dropLast.map V.int))->Q (.ref r) H')
def fB:V->V
 | .int x=>.bl (Tf x)
 |v=>v
theorem PR (T:Txt K mg Ac Aa Ab Af XC)(F:Fun K "unsealed" "unsealed" El f fd)(Fc:Def P w K mg base 1 "mark_of" ["words"] (Hu K))(AD:Def P w K mg base 2 "is_between" ["thing","least","most"] (Bn K)):FnOk P w K mg base CG 3 f fd ["row"] (Ig K):=by
 exists K2
 ·obtain⟨a,ns,rfl,_⟩:=h;rfl
 obtain⟨a,ns,rfl,hS,hlen,q0,q1⟩:=h;refine⟨_,(!Ai (!AR (@PW.pt _ _ _ (!GG (!AI CI (!Av AM (by rfl) T.b_len CA (!Ad (pv 0) (!Aj))) (!Ak) (AG _)) (!Fq (!BZ (!Bz (!Av (IC rfl) (by rfl) T.b_all Mm (!Ad (@Cj _ ["word"] _ _ _ _ _ _ _ _ _ _ rfl (!Cy (pv 0)) (by decide +kernel) (λC s H fp=>⟨(@As _ _ (0) _ (show(["word"]:List Str).Nodup by decide +kernel) rfl (by trivial) (by trivial)),(!AY),(!AO AD (by trivial) rfl (!Ad (pv 0) (!Ad (!Ak) (!Ad (!AC HL (!AH rfl T.c_MARK_RESTS) (!Ak)) (!Aj)))))⟩) (by intro _;rfl)) (!Aj))) (by intro _;rfl)))))) (!Al (!Aq (!EB))) (!Ay)) (!Ai (@AB _ _ (1) _ _ _ _ K2.nd rfl (by trivial) (!D9 Om (pv 0) (!FP) (!EK (!Su Oo (!Ak)))) (by rfl) (by trivial)) (!Ai (!AR (!AI RS (!Au Bm (pv 0) (!Su Oo (!Ak)) (λ_ _=>rfl)) (!AO Fc (by trivial) rfl (!Ad (pv 1) (!Aj))) (AG _)) (!Al (!Aq (!EB))) (!Ay)) (!Al (!Aq (pv 1)))))),?_⟩;dsimp only[Ca,Cx.nox,Cx.wish];refine⟨_,rfl,a,_,rfl,.inl (AQ.of hS),rfl,_,rfl,?_⟩;refine IE (λc=>?_) (λc=>?_)
 ·have hn:ns=[]:=by simpa using c
  subst hn;exact aW (q0 (by decide) _ (An.refl _))
 have hne:ns≠[]:=by simpa using c
 refine⟨_,rfl,a,rfl,⟨_,AQ.of hS⟩,?_⟩;refine comp_map fB (KO (AQ.of hS)) (by rw[bE];omega) (λx H' R hx s' hR=>?_) λl H1 nl s1 hl=>?_
 ·obtain⟨u,_,rfl⟩:=bK.mp hx;exact⟨_,rfl,_,_,rfl,rfl,.int u,0,_,rfl,trivial,hR H' (An.refl _)⟩
 have el:(ns.map V.int).map fB=(ns.map Tf).map V.bl:=by rw[cw,cw];rfl
 rw[el] at hl;refine⟨l,ns.map Tf,rfl,AQ.of hl,_,rfl,?_⟩;have ea:(ns.map Tf).all id=ns.all Tf:=by rw[iW];rfl
 rw[ea];refine IE (λc2=>?_) (λc2=>?_)
 ·have hf:sound ns=false:=by
   unfold sound;have:ns.all Tf=false:=by simpa using c2
   rw[this];simp
  exact q0 hf _ s1
 have hal:ns.all Tf=true:=by
  cases e:ns.all Tf with
  |true=>rfl
  |false=>rw[e] at c2;exact absurd rfl c2
 refine⟨_,rfl,_,rfl,_,rfl,a,_,rfl,AQ.of (s1.get hS),λp hp=>?_⟩;have ec:FI (ns.map V.int) none (some (-1))=ns.dropLast.map V.int:=by rw[Up,List.map_dropLast]
 have s2:=s1.trans (Am hp (.lst (ns.dropLast.map V.int)));have eH:upd H1 p (.lst (FI (ns.map V.int) none (some (-1))))=upd H1 p (.lst (ns.dropLast.map V.int)):=by rw[ec]
 rw[show(-(1:Int)) = -1 from rfl,eH];have at1:Mj (ns.map V.int) (-1)=some (.int (ns.getLastD 0)):=by
  have e1:ns=ns.dropLast++[ns.getLast hne]:=(List.dropLast_concat_getLast hne).symm;have e2:ns.getLastD 0=ns.getLast hne:=by rw[List.getLastD_eq_getLast?,List.getLast?_eq_some_getLast hne];rfl
  rw[e2]
  conv=>lhs;rw[e1]
  rw[cg];exact ML _ _
 refine⟨_,rfl,_,rfl,a,_,_,_,rfl,rfl,AQ.of (s2.get hS),at1,_,rfl,p,_,rfl,Ae,by rw[List.length_dropLast];omega,λH3 s3=>?_⟩;refine⟨rfl,_,rfl,?_⟩;refine IE (λc3=>?_) (λc3=>?_)
 ·have hf:sound ns=false:=by
   unfold sound;have:¬ns.getLastD 0=mk ns.dropLast:=by simpa using c3
   rw[bL this];simp
  exact q0 hf _ (s2.trans s3)
 ·have he:ns.getLastD 0=mk ns.dropLast:=by simpa using c3
  have ht:sound ns=true:=by
   unfold sound;rw[hal,bM he,bL hne];rfl
  exact⟨_,rfl,q1 ht p _ (s2.trans s3) (s1.free hp) (s3.get Ae)⟩
theorem LX {g:Array Nat}(hg:g.toList=[]):∀(xs:List Str) (acc:Array Nat),(xs.foldl (λacc p=>acc++g++p.cps) acc).toList=acc.toList++(xs.map Eh).flatten
 |[],acc=>by simp
 |x::xs,acc=>by
  rw[List.foldl_cons,LX hg xs,fP,fP,hg,cW,bX,List.flatten_cons,d6]
theorem UF {g:Str}(hg:Eh g=[])(ys:List Str):Eh (PySem.Txt.join g ys)=(ys.map Eh).flatten:=by
 unfold PySem.Txt.join PySem.Builtin.Str.glued
 change Array.toList (List.foldl _ _ _)=_
 rw[LX (g:=g.cps) hg];cases ys with
 |nil=>rfl
 |cons y ys=>simp
abbrev XQ:Str:=PySem.Str.ofString ""
def Kp (H H':Hp)(p:Addr):Prop:=∀b o,H b=some o->b≠p->H' b=some o
theorem Kp.refl (H:Hp)(p:Addr):Kp H H p:=λ_ _ e _=>e
theorem Kp.trans {H H1 H2:Hp}{p:Addr}(a:Kp H H1 p)(b:Kp H1 H2 p):Kp H H2 p:=λc o e n=>b c o (a c o e n) n
theorem Kp.put {H:Hp}{p:Addr}(o:HO):Kp H (upd H p o) p:=λc u e n=>by rw[Ag n];exact e
theorem An.kp {H H':Hp}(s:An H H')(p:Addr):Kp H H' p:=λc o e _=>s c o e
theorem Kp.new {H H':Hp}{p l:Addr}(a:Kp H H' p)(h:H l=none)(o:HO):Kp H (upd H' l o) p:=λc u e n=>by rw[Ag (Ar e h)];exact a c u e n
def SR (wl:Addr)(k:Int):List (Str×V):=[("words",.ref wl),("place",.int k)]
def DE (K:W.Frag)(Ac:Addr):Sp:=λvs H Q _=>∃(p dx wl:Addr),vs=[.ref p,.ref wl]/\H p=some (.ins Ac dx [])/\Q .non (upd H p (.ins Ac dx (SR wl 0)))
def Bo (K:W.Frag)(Ac:Addr):Sp:=λvs H Q _=>∃(p dx wl:Addr) (ws:List Int) (k:Nat),vs=[.ref p]/\H p=some (.ins Ac dx (SR wl k))/\H wl=some (.lst (ws.map V.int))/\Q (.bl (decide (k=ws.length))) H
theorem Js (T:Txt K mg Ac Aa Ab Af XC)(F:Fun K "__init__" "WordReader.__init__" Bv f fd):FnOk P w K mg base CG 1 f fd ["self","words"] (DE K Ac):=by
 exists JD
 ·obtain⟨p,dx,wl,rfl,_⟩:=h;rfl
 obtain⟨p,dx,wl,rfl,h1,q⟩:=h;refine⟨_,(!Ai (!CZ (pv 0) (pv 1)) (!Al (!CZ (pv 0) (!Ak)))),?_⟩;refine⟨_,rfl,_,rfl,p,Ac,dx,[],rfl,h1,T.cl_WordReader,T.n_WordReader_words,(by show 0<1000;decide),?_⟩;refine⟨_,rfl,p,Ac,dx,_,rfl,Ae,T.cl_WordReader,T.n_WordReader_place,(by show 1<1000;decide),?_⟩;rw[EL];exact q
theorem Gi (T:Txt K mg Ac Aa Ab Af XC)(F:Fun K "is_through" "WordReader.is_through" AV f fd):FnOk P w K mg base CG 1 f fd ["self"] (Bo K Ac):=by
 exists Ga
 ·obtain⟨p,dx,wl,ws,k,rfl,_⟩:=h;rfl
 obtain⟨p,dx,wl,ws,k,rfl,h1,h2,q⟩:=h;refine⟨_,(!Al (!Aq (!BS CI (!A6 (pv 0)) (!Av AM (by rfl) T.b_len CA (!Ad (!A6 (pv 0)) (!Aj))) (AG _)))),?_⟩;refine⟨_,rfl,p,Ac,dx,_,_,rfl,h1,T.cl_WordReader,T.n_WordReader_place,rfl,_,rfl,p,Ac,dx,_,_,rfl,h1,T.cl_WordReader,T.n_WordReader_words,rfl,wl,_,rfl,.inl (AQ.of h2),rfl,?_⟩;have e:decide (V.int (k:Int)=V.int ((ws.map V.int).length:Int))=decide (k=ws.length):=by
  rw[FN,bE];rw[dD];simp;omega
 rw[e];exact q
theorem GD {ws:List Int}{k:Nat}{x:Int}{r:List Int}(h:ws.drop k=x::r):ws[k]?=some x/\ws.drop (k+1)=r:=by
 constructor
 ·have:(ws.drop k)[0]?=some x:=by rw[h];rfl
  rw[List.getElem?_drop] at this;simpa using this
 ·have:(ws.drop k).drop 1=r:=by rw[h];rfl
  rw[List.drop_drop] at this;exact this
def A2 (K:W.Frag)(Ac:Addr):Sp:=λvs H Q _=>∃(p dx wl:Addr) (ws:List Int) (k:Nat) (x m:Int),vs=[.ref p,.int m]/\H p=some (.ins Ac dx (SR wl k))/\H wl=some (.lst (ws.map V.int))/\ws[k]?=some x/\0<=x/\x<=m/\
 Q (.int x) (upd H p (.ins Ac dx (SR wl ((k+1:Nat):Int))))
theorem HE (T:Txt K mg Ac Aa Ab Af XC)(F:Fun K "word_to" "WordReader.word_to" A8 f fd)(AW:A9 P w K mg base 1 Ac "is_through" ["self"] (Bo K Ac))(AD:Def P w K mg base 2 "is_between" ["thing","least","most"] (Bn K)):FnOk P w K mg base CG 3 f fd ["self","most"] (A2 K Ac):=by
 exists HD
 ·obtain⟨p,dx,wl,ws,k,x,m,rfl,_⟩:=h;rfl
 obtain⟨p,dx,wl,ws,k,x,m,rfl,h1,h2,hx,x0,x1,q⟩:=h;have hk:k<ws.length:=(bT.mp hx).1;have ax:Mj (ws.map V.int) (k:Int)=some (V.int x):=DD (by rw[bQ,hx];rfl);have nwp:wl≠p:=AK h2 h1 (by intro z;cases z);refine⟨_,(!Ai (!AR (@PW.pt _ _ _ (!GG (!Bz (!Cb (pv 0) T.cl_WordReader AW) (by intro _;rfl)) (!Fq (!BZ (!Bz (!AO AD (by trivial) rfl (!Ad (!Au Bm (!A6 (pv 0)) (!A6 (pv 0)) (λ_ _=>rfl)) (!Ad (!Ak) (!Ad (pv 1) (!Aj))))) (by intro _;rfl)))))) (!Al (!Fs)) (!Ay)) (!Ai (!IY (pv 0) (!Ak) LG) (!Al (!Aq (!Au Bm (!A6 (pv 0)) (!AC HL (!A6 (pv 0)) (!Ak)) (λ_ _=>rfl)))))),?_⟩;refine Xn false false (λR q=>⟨_,rfl,p,dx,_,rfl,h1,rfl,p,dx,wl,ws,k,rfl,h1,h2,_,rfl,?_⟩) (λ_ R q=>?_) ?_
 ·rw[bL (by omega)];exact q
 ·refine⟨_,rfl,p,Ac,dx,_,_,rfl,h1,T.cl_WordReader,T.n_WordReader_words,rfl,_,rfl,p,Ac,dx,_,_,rfl,h1,T.cl_WordReader,T.n_WordReader_place,rfl,wl,_,_,_,rfl,rfl,AQ.of h2,ax,_,rfl,V.int x,0,m,rfl,trivial,_,rfl,?_⟩;have:Lg 0 m (V.int x)=true:=by show(decide (0<=x)&&decide (x<=m))=true;rw[bM x0,bM x1];rfl
  rw[this];exact q
 refine AE rfl ?_;refine⟨_,rfl,p,Ac,dx,_,_,rfl,h1,T.cl_WordReader,T.n_WordReader_place,rfl,_,_,rfl,rfl,dx,_,h1,(by show 2<1000;decide),?_⟩;have q':Q (.int x) (upd H p (.ins Ac dx (EY "place" (V.int ((k:Int)+1)) (SR wl k)))):=q;refine⟨_,rfl,p,Ac,dx,_,_,rfl,Ae,T.cl_WordReader,T.n_WordReader_words,rfl,_,rfl,p,Ac,dx,_,_,rfl,Ae,T.cl_WordReader,T.n_WordReader_place,rfl,_,_,rfl,rfl,wl,_,_,_,rfl,rfl,AQ.of (by rw[Ag nwp];exact h2),?_,q'⟩;have:(k:Int)+1-1=(k:Int):=by omega
 show Mj (ws.map V.int) ((k:Int)+1-1)=_;rw[this];exact ax
def Ea (K:W.Frag)(Ac:Addr):Sp:=λvs H Q _=>∃(p dx wl:Addr) (ws:List Int) (k:Nat) (z:Str) (r:List Int),vs=[.ref p]/\H p=some (.ins Ac dx (SR wl k))/\H wl=some (.lst (ws.map V.int))/\ws.drop k=(z.length:Int)::((Eh z).map idx++r)/\z.length<=400/\(∀c∈Eh z,c∈Eh SG)/\
 ∀H',Kp H H' p->H' p=some (.ins Ac dx (SR wl ((k+1+z.length:Nat):Int)))->Q (.str z) H'
theorem W4:(SG.length:Int)-1=93:=by decide +kernel
theorem O2 (T:Txt K mg Ac Aa Ab Af XC)(F:Fun K "read_text" "read_text" DR f fd)(Aw:A9 P w K mg base 3 Ac "word_to" ["self","most"] (A2 K Ac))(Kv:Def P w K mg base 1 "sign_of" ["number"] (Ju K)):FnOk P w K mg base CG 4 f fd ["reader"] (Ea K Ac):=by
 exists JW
 ·obtain⟨p,dx,wl,ws,k,z,r,rfl,_⟩:=h;rfl
 obtain⟨p,dx,wl,ws,k,z,r,rfl,h1,h2,hd,zl,zs,q⟩:=h;obtain⟨g1,g2⟩:=GD hd;have zc:=DC z;have nwp:wl≠p:=AK h2 h1 (by intro z;cases z);refine⟨_,(!Ai (@AB _ _ (1) _ _ _ _ JW.nd rfl (by trivial) (!Bf (pv 0) T.cl_WordReader Aw (by trivial) (!Ad (!AH rfl T.c_MOST_SIGNS) (!Aj))) (by rfl) (by trivial)) (!Al (!Aq (!J3 fj PySem.F.slot_str_join PySem.F.type_str_join (WC rfl) (!HI) (!Ad (@JT _ ["sign","reader"] [none,some 0] _ _ _ _ _ _ _ _ _ _ _ rfl (!Gy rfl T.b_range (!Ad (pv 1) (!Aj))) (by rfl) rfl (by repeat (first|exact trivial|refine⟨rfl,?_⟩)) (by repeat (first|exact trivial|refine⟨λh=>(by first|exact⟨_,rfl⟩|cases h),?_⟩)) (λC s H fp=>⟨(@As _ _ (0) _ (show(["sign","reader"]:List Str).Nodup by decide +kernel) rfl (by trivial) (by trivial)),(!AY),(!AO Kv (by trivial) rfl (!Ad (!Bf (pv 1) T.cl_WordReader Aw (by trivial) (!Ad (!AC HL (!Av GZ (by rfl) T.b_len CA (!Ad (!JK rfl T.c_SIGNS) (!Aj))) (!Ak)) (!Aj))) (!Aj)))⟩) (by intro _;rfl)) (!Aj)))))),?_⟩;refine⟨_,rfl,p,dx,_,rfl,h1,rfl,p,dx,wl,ws,k,_,400,rfl,h1,h2,g1,by omega,by omega,?_⟩;refine⟨rfl,_,rfl,(z.length:Int),rfl,by omega,by omega,?_⟩;refine Pk (xs:=(List.range ((z.length:Int)).toNat).map λ(i:Nat)=>V.int (0+(i:Int))) (λi ys l H'=>Kp (upd H p (.ins Ac dx (SR wl ((k+1:Nat):Int)))) H' p/\H' p=some (.ins Ac dx (SR wl ((k+1+i:Nat):Int)))/\ys=((Eh z).take i).map λc=>V.str ⟨#[c]⟩) (by rw[bE,df];omega) (λi ys l H' _=>Rw) (λl hl=>⟨(Kp.refl _ p).new hl _,by rw[Ag (Ar Ae hl)];exact Ae,rfl⟩) (λi x ys l H' R hx hl hl' hlen hI hR=>?_) λl H1 ys n1 hl1 ly hI=>?_
 ·obtain⟨kp,hp,hy⟩:=hI;have hi:i<z.length:=by
   have:=(bT.mp hx).1;rw[bE,df] at this;omega
  obtain⟨c,hc⟩:∃c,(Eh z)[i]?=some c:=⟨(Eh z)[i]'(by omega),bF _⟩
  obtain⟨i0,i1,i2⟩:=JC (zs c (bJ hc));have hw':H' wl=some (.lst (ws.map V.int)):=kp wl _ (by rw[Ag nwp];exact h2) nwp;have gx:ws[k+1+i]?=some (idx c):=by
   have:(ws.drop (k+1))[i]?=some (idx c):=by
    rw[g2,eX (by rw[bE];omega),bQ,hc];rfl
   rw[List.getElem?_drop] at this;exact this
  have npl:l≠p:=AK hl' hp (by intro z;cases z);refine⟨_,rfl,p,dx,_,rfl,hp,rfl,SG,rfl,GU,_,_,rfl,rfl,p,dx,wl,ws,k+1+i,idx c,_,rfl,hp,hw',gx,i0,?_,?_⟩
  ·rw[W4];omega
  refine⟨idx c,rfl,i0,i1,hR _ _ (by rw[Ag npl];exact hl') ⟨?_,?_,?_⟩⟩
  ·exact(kp.trans (Kp.put _)).new hl _
  ·rw[Ag npl.symm,Ae];rfl
  ·rw[hy,cJ,hc,i2];simp
 ·obtain⟨kp,hp,hy⟩:=hI;have ez:z.length=((List.range ((z.length:Int)).toNat).map λ(i:Nat)=>V.int (0+(i:Int))).length:=by rw[bE,df];omega
  rw[<-ez] at hp hy;rw[cI (by omega)] at hy;have hy':ys=((Eh z).map λc=>(⟨#[c]⟩:Str)).map V.str:=by rw[hy,cw];rfl
  rw[hy'] at hl1;refine⟨l,XQ,_,rfl,rfl,AQ.of hl1,?_,?_⟩
  ·have:(((Eh z).map λc=>(⟨#[c]⟩:Str)).map (·.length)).sum<=(Eh z).length:=by
    generalize Eh z=l
    induction l with
    |nil=>exact bI _
    |cons c l ih=>
     simp only[List.map_cons,List.sum_cons,List.length_cons];have:(⟨#[c]⟩:Str).length=1:=rfl;omega
   have e0:XQ.length=0:=rfl;rw[e0];omega
  ·have ej:PySem.Txt.join XQ ((Eh z).map λc=>(⟨#[c]⟩:Str))=z:=by
    refine Sh ?_;rw[UF rfl,cw];show((Eh z).map λc=>[c]).flatten=_;generalize Eh z=l
    induction l with
    |nil=>rfl
    |cons c l ih=>rw[bX,List.flatten_cons,ih];rfl
   rw[ej];exact q H1 ((Kp.put _).trans kp) hp
def Ss (n:Nat)(K:W.Frag)(Ac:Addr):Sp:=λvs H Q _=>∃(p dx wl:Addr) (ws:List Int) (k:Nat) (t:Tr) (r:List Int),vs=[.ref p,.int (n:Int)]/\H p=some (.ins Ac dx (SR wl k))/\H wl=some (.lst (ws.map V.int))/\ws.drop k=wT t++r/\ES n t=true/\
 ∀v H',Kp H H' p->H' p=some (.ins Ac dx (SR wl ((k+(wT t).length:Nat):Int)))->Rep NL H' t v->Q v H'
def Gc (K:W.Frag)(Ac:Addr):Sp:=Ss 8 K Ac
theorem Wk (T:Txt K mg Ac Aa Ab Af XC)(F:Fun K "read_thing" "read_thing" BW f fd)(Aw:A9 P w K mg base 3 Ac "word_to" ["self","most"] (A2 K Ac))(Cu:Def P w K mg base 4 "read_text" ["reader"] (Ea K Ac))(n:Nat)(D6:Def P w K mg base (4+n) "read_thing" ["reader","deep"] (Ss n K Ac)):FnOk P w K mg base CG (4+n+1) f fd ["reader","deep"] (Ss (n+1) K Ac):=by
 exists EN
 ·obtain⟨p,dx,wl,ws,k,t,r,rfl,_⟩:=h;rfl
 obtain⟨p,dx,wl,ws,k,t,r,rfl,h1,h2,hd,ht,q⟩:=h;have nwp:wl≠p:=AK h2 h1 (by intro z;cases z);refine⟨_,(!Ai (!AR (!AI CI (pv 1) (!Ak) (AG _)) (!Al (!Fs)) (!Ay)) (!Ai (@AB _ _ (2) _ _ _ _ EN.nd rfl (by trivial) (!Bf (pv 0) T.cl_WordReader Aw (hr.mono (by omega)) (!Ad (!AH rfl T.c_TUPLE_WORD) (!Aj))) (by rfl) (by trivial)) (!Ai (!AR (!AI CI (pv 2) (!AH rfl T.c_NUMBER_WORD) (AG _)) (!Al (!Aq (!Bf (pv 0) T.cl_WordReader Aw (hr.mono (by omega)) (!Ad (!AH rfl T.c_MOST_NUMBER) (!Aj))))) (!Ay)) (!Ai (!AR (!AI CI (pv 2) (!AH rfl T.c_TEXT_WORD) (AG _)) (!Al (!Aq (!AO Cu (hr.mono (by omega)) rfl (!Ad (pv 0) (!Aj))))) (!Ay)) (!Ai (@AB _ _ (3) _ _ _ _ EN.nd rfl (by trivial) (!Bf (pv 0) T.cl_WordReader Aw (hr.mono (by omega)) (!Ad (!AH rfl T.c_MOST_PARTS) (!Aj))) (by rfl) (by trivial)) (!Al (!Aq (!Dg Jm (by rfl) T.b_tuple GA (!Ad (@JT _ ["part","reader","deep"] [none,some 0,some 1] _ _ _ _ _ _ _ _ _ _ _ rfl (!Gy rfl T.b_range (!Ad (pv 3) (!Aj))) (by rfl) rfl (by repeat (first|exact trivial|refine⟨rfl,?_⟩)) (by repeat (first|exact trivial|refine⟨λh=>(by first|exact⟨_,rfl⟩|cases h),?_⟩)) (λC s H fp=>⟨(@As _ _ (0) _ (show(["part","reader","deep"]:List Str).Nodup by decide +kernel) rfl (by trivial) (by trivial)),(!AY),(!AO D6 (hr.mono (by omega)) rfl (!Ad (pv 1) (!Ad (!AC HL (pv 2) (!Ak)) (!Aj))))⟩) (by intro _;rfl)) (!Aj)))))))))),?_⟩;refine⟨_,rfl,rfl,_,rfl,AE ?_ ?_⟩
 ·rw[FN];simp;omega
 have hw1:∀o,upd H p o wl=some (.lst (ws.map V.int)):=λo=>by rw[Ag nwp];exact h2
 cases t with
 |int i=>
  have i01:(decide (0<=i)&&decide (i<=999999999))=true:=ht;rw[cu,cz,cz] at i01;obtain⟨g1,g2⟩:=GD (r:=i::r) hd;obtain⟨g3,_⟩:=GD g2;refine⟨_,rfl,p,dx,_,rfl,h1,rfl,p,dx,wl,ws,k,0,2,rfl,h1,h2,g1,by omega,by omega,?_⟩;refine⟨_,rfl,rfl,_,rfl,Bs rfl ?_⟩;refine⟨_,rfl,p,dx,_,rfl,Ae,rfl,p,dx,wl,ws,k+1,i,999999999,rfl,Ae,hw1 _,g3,i01.1,i01.2,?_⟩;exact q _ _ ((Kp.put _).trans (Kp.put _)) Ae rfl
 |str z=>
  obtain⟨zl,zs⟩:=LF ht;obtain⟨g1,g2⟩:=GD (r:=(z.length:Int)::((Eh z).map idx++r)) hd;refine⟨_,rfl,p,dx,_,rfl,h1,rfl,p,dx,wl,ws,k,1,2,rfl,h1,h2,g1,by omega,by omega,?_⟩;refine⟨_,rfl,rfl,_,rfl,AE rfl ?_⟩;refine⟨_,rfl,rfl,_,rfl,Bs rfl ?_⟩;refine⟨_,rfl,p,dx,wl,ws,k+1,z,r,rfl,Ae,hw1 _,g2,zl,zs,λH' kp hp=>?_⟩;refine q _ _ ((Kp.put _).trans kp) ?_ rfl;rw[hp,YE];have:k+1+1+z.length=k+(1::(z.length:Int)::(Eh z).map idx).length:=by
   simp only[List.length_cons,List.length_map,DC];omega
  rw[this]
 |tup ts=>
  obtain⟨tl,tt⟩:=C0 ht;rw[Vl] at hd q;obtain⟨g1,g2⟩:=GD (r:=(ts.length:Int)::(wTs ts++r)) hd;obtain⟨g3,g4⟩:=GD (r:=wTs ts++r) g2;refine⟨_,rfl,p,dx,_,rfl,h1,rfl,p,dx,wl,ws,k,2,2,rfl,h1,h2,g1,by omega,by omega,?_⟩;refine⟨_,rfl,rfl,_,rfl,AE rfl ?_⟩;refine⟨_,rfl,rfl,_,rfl,AE rfl ?_⟩;refine⟨_,rfl,p,dx,_,rfl,Ae,rfl,p,dx,wl,ws,k+1,_,100,rfl,Ae,hw1 _,g3,by omega,by omega,?_⟩;rw[EL];refine⟨_,rfl,(ts.length:Int),rfl,by omega,by omega,?_⟩;refine Pk (xs:=(List.range ((ts.length:Int)).toNat).map λ(i:Nat)=>V.int (0+(i:Int))) (λi ys l H'=>Kp (upd H p (.ins Ac dx (SR wl ((k+1+1:Nat):Int)))) H' p/\H' p=some (.ins Ac dx (SR wl ((k+2+(wTs (ts.take i)).length:Nat):Int)))/\AL NL H' (ts.take i) ys) (by rw[bE,df];omega) (λi ys l H' _=>Rw) (λl hl=>⟨(Kp.refl _ p).new hl _,by rw[Ag (Ar Ae hl)];exact Ae,rfl⟩) (λi x ys l H' R hx hl hl' hlen hI hR=>?_) λl H1 ys n1 hl1 ly hI=>?_
  ·obtain⟨kp,hp,hrs⟩:=hI;have hi:i<ts.length:=by
    have:=(bT.mp hx).1;rw[bE,df] at this;omega
   obtain⟨ti,eti⟩:∃ti,ts[i]?=some ti:=⟨ts[i],bF _⟩
   have hw':H' wl=some (.lst (ws.map V.int)):=kp wl _ (hw1 _) nwp;have npl:l≠p:=AK hl' hp (by intro z;cases z);have gd:ws.drop (k+2+(wTs (ts.take i)).length)=wT ti++(wTs (ts.drop (i+1))++r):=by
    have e1:wTs ts=wTs (ts.take i)++(wT ti++wTs (ts.drop (i+1))):=by
     have:=LC (ts.take (i+1)) (ts.drop (i+1));rw[gP,Kq eti,d6] at this;exact this
    have e2:(ws.drop (k+1+1)).drop (wTs (ts.take i)).length=wT ti++(wTs (ts.drop (i+1))++r):=by
     rw[g4,e1,d6,d6,List.drop_left]
    rw[List.drop_drop] at e2;exact e2
   have ed:((n+1:Nat):Int)-1=(n:Int):=by omega
   refine⟨_,rfl,_,rfl,_,_,rfl,rfl,p,dx,wl,ws,_,ti,_,?_,hp,hw',gd,tt i ti eti,λv H'' kp2 hp2 rv=>?_⟩
   ·show[V.ref p,V.int (((n+1:Nat):Int)-1)]=_;rw[ed]
   have hl2:H'' l=some (.lst ys):=kp2 l _ hl' npl;have keepT:∀c xs,H'' c=some (.tup xs)->upd H'' l (.lst (ys++[v])) c=some (.tup xs):=λc xs e=>by rw[Ag (AK e hl2 (by intro z;cases z))];exact e
   refine hR v H'' hl2 ⟨(kp.trans kp2).new hl _,?_,?_⟩
   ·rw[Ag npl.symm,hp2,Kq eti,bW,Nat.add_assoc]
   ·rw[cJ,eti];refine AL.append (D4 keepT _ _ (D4 (λc xs e=>kp2 c _ e (AK e hp (by intro z;cases z))) _ _ hrs)) (AL.one (DA keepT _ _ rv))
  ·obtain⟨kp,hp,hrs⟩:=hI;have ez:ts.length=((List.range ((ts.length:Int)).toNat).map λ(i:Nat)=>V.int (0+(i:Int))).length:=by rw[bE,df];omega
   rw[<-ez,cI (bI _)] at hp hrs;refine⟨l,ys,rfl,.inl ⟨AQ.of hl1,λu hu=>?_⟩⟩;have su:=Am hu (.tup ys);refine q _ _ (((Kp.put _).trans kp).trans (An.kp su p)) ?_ ⟨u,ys,rfl,Ae,AL.same su _ _ hrs⟩;rw[su _ _ hp];have:k+2+(wTs ts).length=k+(2::(ts.length:Int)::wTs ts).length:=by simp only[List.length_cons];omega
   rw[this]
 |non=>cases n<;>cases ht
 |bl b=>cases n<;>cases ht
 |lst ts=>cases n<;>cases ht
theorem Uk (T:Txt K mg Ac Aa Ab Af XC)(F:Fun K "read_thing" "read_thing" BW f fd)(Aw:A9 P w K mg base 3 Ac "word_to" ["self","most"] (A2 K Ac))(Cu:Def P w K mg base 4 "read_text" ["reader"] (Ea K Ac))(hm:mg "read_thing"=some (.ref f))(hk:W.keepIn K (.ref f)=true)(hb:Binds K fd ["reader","deep"] []):∀n,FnOk P w K mg base CG (4+n) f fd ["reader","deep"] (Ss n K Ac)
 |0=>by
  exists EN
  ·obtain⟨p,dx,wl,ws,k,t,r,rfl,_,_,_,ht,_⟩:=h;cases ht
  ·obtain⟨p,dx,wl,ws,k,t,r,rfl,_,_,_,ht,_⟩:=h;cases ht
 |n+1=>Wk T F Aw Cu n ⟨f,fd,Uk T F Aw Cu hm hk hb n,hm,hk,hb⟩
theorem Np (T:Txt K mg Ac Aa Ab Af XC)(F:Fun K "read_thing" "read_thing" BW f fd)(Aw:A9 P w K mg base 3 Ac "word_to" ["self","most"] (A2 K Ac))(Cu:Def P w K mg base 4 "read_text" ["reader"] (Ea K Ac))(hm:mg "read_thing"=some (.ref f))(hk:W.keepIn K (.ref f)=true)(hb:Binds K fd ["reader","deep"] []):FnOk P w K mg base CG 12 f fd ["reader","deep"] (Gc K Ac):=
 Uk T F Aw Cu hm hk hb 8
def Ie (K:W.Frag):Sp:=λvs H Q _=>∃(wl:Addr) (t:Tr),vs=[.ref wl]/\H wl=some (.lst ((wT t).map V.int))/\ES 8 t=true/\∀v H',An H H'->Rep NL H' t v->Q v H'
theorem Px (T:Txt K mg Ac Aa Ab Af XC)(F:Fun K "thing_of" "thing_of" EG f fd)(D8:MZ P w K mg base 1 Ac "WordReader" ["self","words"] (DE K Ac))(D6:Def P w K mg base 12 "read_thing" ["reader","deep"] (Gc K Ac))(AW:A9 P w K mg base 1 Ac "is_through" ["self"] (Bo K Ac)):FnOk P w K mg base CG 13 f fd ["words"] (Ie K):=by
 exists Iy
 ·obtain⟨wl,t,rfl,_⟩:=h;rfl
 obtain⟨wl,t,rfl,hw,ht,q⟩:=h;refine⟨_,(!Ai (@AB _ _ (1) _ _ _ _ Iy.nd rfl (by trivial) (!MH D8 (by trivial) rfl (!Ad (pv 0) (!Aj))) (by rfl) (by trivial)) (!Ai (@AB _ _ (2) _ _ _ _ Iy.nd rfl (by trivial) (!AO D6 (by trivial) rfl (!Ad (pv 1) (!Ad (!AH rfl T.c_MOST_DEEP) (!Aj)))) (by rfl) (by trivial)) (!Ai (!AR (!BZ (!Bz (!Cb (pv 1) T.cl_WordReader AW) (by intro _;rfl))) (!Al (!Fs)) (!Ay)) (!Al (!Aq (pv 2)))))),?_⟩;refine⟨_,rfl,?_⟩;intro x dx nx ndx _;have nwx:wl≠x:=Ar hw nx;have nwd:wl≠dx:=Ar hw ndx;refine⟨x,dx,wl,rfl,Ae,rfl,?_⟩;rw[EL];have hw1:∀o,upd (upd H dx (.own x)) x o wl=some (.lst ((wT t).map V.int)):=λo=>by rw[Ag nwx,Ag nwd];exact hw
 refine⟨_,rfl,x,dx,wl,wT t,0,t,[],rfl,Ae,hw1 _,by simp,ht,λv H' kp hp rv=>?_⟩;have hw':H' wl=some (.lst ((wT t).map V.int)):=kp wl _ (hw1 _) nwx;refine⟨_,rfl,x,dx,_,rfl,hp,rfl,x,dx,wl,wT t,_,rfl,hp,hw',_,rfl,AE ?_ ?_⟩
 ·simp
 refine⟨_,rfl,q v H' (λb o e=>?_) rv⟩;have n1:=Ar e nx;exact kp b o (by rw[Ag n1,Ag (Ar e ndx)];exact e) n1
def aj (g:List Int->Option (Tr×List Int)):Nat->List Int->Option (List Tr×List Int)
 |0,ws=>some ([],ws)
 |i+1,ws=>match aj g i ws with
  |none=>none
  |some (ts,r)=>match g r with
   |none=>none
   |some (t,r')=>some (ts++[t],r')
def VB (x:Int):Nat:=SG.cps.toList.getD x.toNat 0
def af:Nat->List Int->Option (List Nat×List Int)
 |0,ws=>some ([],ws)
 |i+1,ws=>match af i ws with
  |some (cs,x::r)=>if 0<=x/\x<=93 then some (cs++[VB x],r) else none
  |_=>none
def rd:Nat->List Int->Option (Tr×List Int)
 |0,_=>none
 |n+1,ws=>match ws with
  |[]=>none
  |x::ws1=>if 0<=x/\x<=2 then match ws1 with
    |[]=>none
    |m::r=>if x=0 then(if 0<=m/\m<=999999999 then some (.int m,r) else none)
     else if x=1 then(if 0<=m/\m<=400 then(match af m.toNat r with|some (cs,r')=>some (.str ⟨cs.toArray⟩,r')|none=>none) else none)
     else(if 0<=m/\m<=100 then(match aj (rd n) m.toNat r with|some (ts,r')=>some (.tup ts,r')|none=>none) else none)
   else none
theorem Ro {c:Nat}(h:c∈Eh SG):VB (idx c)=c:=(JC h).2.2
theorem PL:∀(cs:List Nat) (r:List Int),(∀c∈cs,c∈Eh SG)->∀i,i<=cs.length->af i (cs.map idx++r)=some (cs.take i,(cs.drop i).map idx++r)
 |cs,r,h,0,_=>rfl
 |cs,r,h,i+1,hi=>by
  have ih:=PL cs r h i (by omega);obtain⟨c,hc⟩:∃c,cs[i]?=some c:=⟨cs[i],bF _⟩
  have hd:cs.drop i=c::cs.drop (i+1):=by rw[gi (by omega)];congr 1;rw[bF (by omega)] at hc;exact bO hc
  obtain⟨b1,b2,b3⟩:=JC (h c (bJ hc));unfold af;rw[ih,hd];show(if 0<=idx c/\idx c<=93 then _ else _)=_;rw[bV ⟨b1,by omega⟩,cJ,hc,Ro (h c (bJ hc))];rfl
theorem Pw {g:List Int->Option (Tr×List Int)}(ts:List Tr)(r:List Int)(hg:∀t∈ts,∀r,g (wT t++r)=some (t,r)):∀i,i<=ts.length->aj g i (wTs ts++r)=some (ts.take i,wTs (ts.drop i)++r)
 |0,_=>rfl
 |i+1,hi=>by
  have ih:=Pw ts r hg i (by omega);obtain⟨t,ht⟩:∃t,ts[i]?=some t:=⟨ts[i],bF _⟩
  have hd:ts.drop i=t::ts.drop (i+1):=by rw[gi (by omega)];congr 1;rw[bF (by omega)] at ht;exact bO ht
  unfold aj;rw[ih,hd];show(match g ((wT t++wTs (ts.drop (i+1)))++r) with|none=>none|some (t,r')=>some (ts.take i++[t],r'))=_;rw[d6,hg t (bJ ht),cJ,ht];rfl
theorem OF:∀(n:Nat) (t:Tr) (r:List Int),ES n t=true->rd n (wT t++r)=some (t,r)
 |0,_,_,h=>nomatch h
 |n+1,.non,_,h=>nomatch h
 |n+1,.bl _,_,h=>nomatch h
 |n+1,.lst _,_,h=>nomatch h
 |n+1,.int i,r,h=>by
  have h':(decide (0<=i)&&decide (i<=999999999))=true:=h;rw[cu,cz,cz] at h';show rd (n+1) (0::i::r)=_;unfold rd;dsimp only;rw[bV ⟨by decide,by decide⟩,bV rfl,bV h']
 |n+1,.str z,r,h=>by
  obtain⟨zl,zs⟩:=LF h;have zc:=DC z;show rd (n+1) (1::(z.length:Int)::((Eh z).map idx++r))=_;unfold rd;dsimp only;rw[bV ⟨by decide,by decide⟩];rw[bP (by decide),bV rfl,bV ⟨by omega,by omega⟩,PL (Eh z) r zs _ (by omega),cI (by omega),iV (by omega)];have:(⟨(Eh z).toArray⟩:Str)=z:=Sh rfl;show some (Tr.str ⟨(Eh z).toArray⟩,r)=_;rw[this]
 |n+1,.tup ts,r,h=>by
  obtain⟨tl,tt⟩:=C0 h;have hg:∀t∈ts,∀r,rd n (wT t++r)=some (t,r):=λt ht r=>by
   obtain⟨i,hi⟩:=cL ht;exact OF n t r (tt i t hi)
  show rd (n+1) (2::(ts.length:Int)::(wTs ts++r))=_;unfold rd;dsimp only;rw[bV ⟨by decide,by decide⟩];rw[bP (by decide),bP (by decide),bV ⟨by omega,by omega⟩,Pw ts r hg _ (by omega),cI (by omega),iV (by omega)];rfl
theorem Q6 {n:Nat}{t u:Tr}(ht:ES n t=true)(hu:ES n u=true)(h:wT t=wT u):t=u:=by
 have e1:=OF n t [] ht;rw[h,OF n u [] hu] at e1;exact(Prod.mk.inj (bO e1)).1.symm
theorem R7 {H:Hp}:∀(n:Nat) (t u:Tr) (v:V),ES n t=true->ES n u=true->Rep NL H t v->Rep NL H u v->t=u
 |0,_,_,_,h,_,_,_=>nomatch h
 |n+1,.int i,.int j,v,_,_,h1,h2=>by
  have e1:v=V.int i:=h1;have e2:v=V.int j:=h2;rw[e1] at e2;cases e2;rfl
 |n+1,.int i,.str z,v,_,_,h1,h2=>by
  have e1:v=V.int i:=h1;have e2:v=V.str z:=h2;rw[e1] at e2;cases e2
 |n+1,.int i,.tup ts,v,_,_,h1,⟨a,vs,e2,_⟩=>by
  have e1:v=V.int i:=h1;rw[e1] at e2;cases e2
 |n+1,.str z,.int j,v,_,_,h1,h2=>by
  have e1:v=V.str z:=h1;have e2:v=V.int j:=h2;rw[e1] at e2;cases e2
 |n+1,.str z,.str y,v,_,_,h1,h2=>by
  have e1:v=V.str z:=h1;have e2:v=V.str y:=h2;rw[e1] at e2;cases e2;rfl
 |n+1,.str z,.tup ts,v,_,_,h1,⟨a,vs,e2,_⟩=>by
  have e1:v=V.str z:=h1;rw[e1] at e2;cases e2
 |n+1,.tup ts,.int j,v,_,_,⟨a,vs,e1,_⟩,h2=>by
  have e2:v=V.int j:=h2;rw[e1] at e2;cases e2
 |n+1,.tup ts,.str y,v,_,_,⟨a,vs,e1,_⟩,h2=>by
  have e2:v=V.str y:=h2;rw[e1] at e2;cases e2
 |n+1,.tup ts,.tup us,v,ht,hu,⟨a,vs,e1,ha,r1⟩,⟨b,ws,e2,hb,r2⟩=>by
  subst e1;cases e2;rw[ha] at hb;cases hb;obtain⟨_,tt⟩:=C0 ht;obtain⟨_,tu⟩:=C0 hu;have l1:=AL.len ts vs r1;have l2:=AL.len us vs r2;have:ts=us:=by
   refine dH λi=>?_
   by_cases hi:i<vs.length
   ·obtain⟨t1,g1,p1⟩:=AL.get r1 (bF hi);obtain⟨t2,g2,p2⟩:=AL.get r2 (bF hi);rw[g1,g2,R7 n t1 t2 _ (tt i t1 g1) (tu i t2 g2) p1 p2]
   ·rw[cH (by omega),cH (by omega)]
  rw[this]
 |n+1,.non,_,_,h,_,_,_=>nomatch h
 |n+1,.bl _,_,_,h,_,_,_=>nomatch h
 |n+1,.lst _,_,_,h,_,_,_=>nomatch h
 |n+1,.int _,.non,_,_,h,_,_=>nomatch h
 |n+1,.int _,.bl _,_,_,h,_,_=>nomatch h
 |n+1,.int _,.lst _,_,_,h,_,_=>nomatch h
 |n+1,.str _,.non,_,_,h,_,_=>nomatch h
 |n+1,.str _,.bl _,_,_,h,_,_=>nomatch h
 |n+1,.str _,.lst _,_,_,h,_,_=>nomatch h
 |n+1,.tup _,.non,_,_,h,_,_=>nomatch h
 |n+1,.tup _,.bl _,_,_,h,_,_=>nomatch h
 |n+1,.tup _,.lst _,_,_,h,_,_=>nomatch h
theorem ER {n:Nat}{t u:Tr}(ht:ES n t=true)(hu:ES n u=true){b:Bool}(h:b=true↔t=u):decide (wT t=wT u)=b:=by
 rw[dD,cz,h];exact⟨Q6 ht hu,λe=>by rw[e]⟩
theorem QA {n:Nat}{ts us:List Tr}(ht:ES (n+1) (.tup ts)=true)(hu:ES (n+1) (.tup us)=true):decide (wT (.tup ts)=wT (.tup us))=((List.range (min ts.length us.length)).all (λj=>decide (wT (ts.getD j .non)=wT (us.getD j .non)))&&ts.length == us.length):=by
 obtain⟨_,tt⟩:=C0 ht;obtain⟨_,tu⟩:=C0 hu;refine ER ht hu ?_;rw[cu,cO,cZ];constructor
 ·rintro⟨h1,h2⟩
  congr 1
  refine dH λi=>?_
  by_cases hi:i<ts.length
  ·have e:=h1 i (fX.mpr (by omega));obtain⟨t1,g1⟩:∃t1,ts[i]?=some t1:=⟨ts[i],bF hi⟩
   obtain⟨t2,g2⟩:∃t2,us[i]?=some t2:=⟨us[i]'(by omega),bF _⟩
   simp only[List.getD,g1,g2,Option.getD_some,decide_eq_true_eq] at e;rw[g1,g2,Q6 (tt i t1 g1) (tu i t2 g2) e]
  ·rw[cH (by omega),cH (by omega)]
 ·intro h;cases h;exact⟨λi _=>bM rfl,rfl⟩
section
variable {X:Cx}{pins:List (Addr×Obj)}{σ:St}{H:Hp}{s:Shared}
theorem VT (I:Inv X pins σ H s):∀(n:Nat) (t u:Tr) (A:Around) (v w:V) (vv ww:Value),ES n t=true->ES n u=true->A.units+n<cLine->Rep NL H t v->Rep NL H u w->RelV v vv->RelV w ww->SeqAt.EqAt A s vv ww (decide (wT t=wT u))
 |0,_,_,_,_,_,_,_,h,_,_,_,_,_,_=>nomatch h
 |n+1,t,u,A,v,w,vv,ww,ht,hu,hA,h1,h2,r1,r2=>by
  cases t with
  |int i=>
   cases(show v=V.int i from h1);obtain⟨t1,rfl⟩:=r1;cases u with
   |int j=>
    cases(show w=V.int j from h2);obtain⟨t2,rfl⟩:=r2;rw[ER ht hu (b:=i == j) (by rw[cZ];exact⟨λe=>by rw[e],λe=>by cases e;rfl⟩)];exact ix i t1 j t2
   |str z=>
    cases(show w=V.str z from h2);obtain⟨t2,rfl⟩:=r2;rw[ER ht hu (b:=false) ⟨(λe=>nomatch e),(λe=>nomatch e)⟩];exact gw i t1 z t2
   |tup us=>
    obtain⟨b,ws,rfl,hb,_⟩:=h2;cases r2;obtain⟨its,_,p,_⟩:=I.tuple (AS.of (K:=X.K) hb);rw[ER ht hu (b:=false) ⟨(λe=>nomatch e),(λe=>nomatch e)⟩];exact SeqAt.EqAt.int_tuple i t1 p (by omega)
   |non=>cases hu
   |bl _=>cases hu
   |lst _=>cases hu
  |str y=>
   cases(show v=V.str y from h1);obtain⟨t1,rfl⟩:=r1;cases u with
   |int j=>
    cases(show w=V.int j from h2);obtain⟨t2,rfl⟩:=r2;rw[ER ht hu (b:=false) ⟨(λe=>nomatch e),(λe=>nomatch e)⟩];exact gu y t1 j t2
   |str z=>
    cases(show w=V.str z from h2);obtain⟨t2,rfl⟩:=r2;rw[ER ht hu (b:=y == z) (by rw[cZ];exact⟨λe=>by rw[e],λe=>by cases e;rfl⟩)];exact iw y t1 z t2
   |tup us=>
    obtain⟨b,ws,rfl,hb,_⟩:=h2;cases r2;obtain⟨its,_,p,_⟩:=I.tuple (AS.of (K:=X.K) hb);rw[ER ht hu (b:=false) ⟨(λe=>nomatch e),(λe=>nomatch e)⟩];exact SeqAt.EqAt.str_tuple y t1 p (by omega)
   |non=>cases hu
   |bl _=>cases hu
   |lst _=>cases hu
  |tup ts=>
   obtain⟨a,vs,rfl,ha,hr1⟩:=h1;cases r1;obtain⟨its,rv1,p1,_⟩:=I.tuple (AS.of (K:=X.K) ha);cases u with
   |int j=>
    cases(show w=V.int j from h2);obtain⟨t2,rfl⟩:=r2;rw[ER ht hu (b:=false) ⟨(λe=>nomatch e),(λe=>nomatch e)⟩];exact SeqAt.EqAt.tuple_int j t2 p1 (by omega)
   |str z=>
    cases(show w=V.str z from h2);obtain⟨t2,rfl⟩:=r2;rw[ER ht hu (b:=false) ⟨(λe=>nomatch e),(λe=>nomatch e)⟩];exact SeqAt.EqAt.tuple_str z t2 p1 (by omega)
   |tup us=>
    obtain⟨b,ws,rfl,hb,hr2⟩:=h2;cases r2;obtain⟨its2,rv2,p2,_⟩:=I.tuple (AS.of (K:=X.K) hb)
    by_cases hab:a=b
    ·subst hab;have:=R7 (n+1) (.tup ts) (.tup us) (.ref a) ht hu ⟨a,vs,rfl,ha,hr1⟩ ⟨a,ws,rfl,hb,hr2⟩;rw[this,bM rfl];exact eQ _
    obtain⟨_,tt⟩:=C0 ht;obtain⟨_,tu⟩:=C0 hu;have l1:=rv1.length.symm.trans (AL.len ts vs hr1);have l2:=rv2.length.symm.trans (AL.len us ws hr2);have q:=fK (A:=A) (s:=s) (e:=λj=>decide (wT (ts.getD j .non)=wT (us.getD j .non))) p1 p2 (by omega) (λj g1 g2=>by
     have g1':j<its.length:=by simpa using g1
     have g2':j<its2.length:=by simpa using g2
     have lv1:=rv1.length;have lv2:=rv2.length;obtain⟨x1,hx1⟩:∃x1,vs[j]?=some x1:=⟨vs[j]'(by omega),bF _⟩
     obtain⟨x2,hx2⟩:∃x2,ws[j]?=some x2:=⟨ws[j]'(by omega),bF _⟩
     obtain⟨y1,hy1,ry1⟩:=rv1.get hx1;obtain⟨y2,hy2,ry2⟩:=rv2.get hx2;obtain⟨t1,e1,p1'⟩:=AL.get hr1 hx1;obtain⟨t2,e2,p2'⟩:=AL.get hr2 hx2;have:=VT I n t1 t2 A.in1 x1 x2 y1 y2 (tt j t1 e1) (tu j t2 e2) (by show A.units+1+n<cLine;omega) p1' p2' ry1 ry2;rw[bF g1'] at hy1;rw[bF g2'] at hy2;cases hy1;cases hy2;simp only[List.getD,e1,e2,Option.getD_some];simpa using this)
    rw[QA ht hu];simp only[List.size_toArray,l1,l2] at q;exact gv hab q
   |non=>cases hu
   |bl _=>cases hu
   |lst _=>cases hu
  |non=>cases ht
  |bl _=>cases ht
  |lst _=>cases ht
end
section
variable {X:Cx}
def Zx (neg:Bool):R2:=λx y H Q=>∃t u,ES 8 t=true/\ES 8 u=true/\Rep NL H t x/\Rep NL H u y/\Q (.bl (if neg then !decide (wT t=wT u) else decide (wT t=wT u))) H
theorem Qe {pins:List (Addr×Obj)} {σ:St} {H:Hp} {s:Shared} (I:Inv X pins σ H s) {n:Nat} {A:Around} {ts us:List Tr} {vs ws:List V} {its its2:List Value} (hA:A.units+1+n<cLine) (tt:∀(i:Nat) t,ts[i]?=some t->ES n t=true) (tu:∀(i:Nat) t,us[i]?=some t->ES n t=true)
  (hr1:AL NL H ts vs) (hr2:AL NL H us ws) (rv1:AF vs its) (rv2:AF ws its2) (j:Nat) (g1:j<its.toArray.size) (g2:j<its2.toArray.size):SeqAt.EqAt A.in1 s its.toArray[j] its2.toArray[j] (decide (wT (ts.getD j .non)=wT (us.getD j .non))):=by
 have g1':j<its.length:=by simpa using g1
 have g2':j<its2.length:=by simpa using g2
 have lv1:=rv1.length;have lv2:=rv2.length;obtain⟨x1,hx1⟩:∃x1,vs[j]?=some x1:=⟨vs[j]'(by omega),bF _⟩
 obtain⟨x2,hx2⟩:∃x2,ws[j]?=some x2:=⟨ws[j]'(by omega),bF _⟩
 obtain⟨y1,hy1,ry1⟩:=rv1.get hx1;obtain⟨y2,hy2,ry2⟩:=rv2.get hx2;obtain⟨t1,e1,p1'⟩:=AL.get hr1 hx1;obtain⟨t2,e2,p2'⟩:=AL.get hr2 hx2;have:=VT I n t1 t2 A.in1 x1 x2 y1 y2 (tt j t1 e1) (tu j t2 e2) (by show A.units+1+n<cLine;omega) p1' p2' ry1 ry2;rw[bF g1'] at hy1;rw[bF g2'] at hy2;cases hy1;cases hy2;simp only[List.getD,e1,e2,Option.getD_some];simpa using this
theorem ZS (hu9:X.A.units+150<cLine){pins:List (Addr×Obj)}{σ:St}{H:Hp}{s:Shared}{x y:V}{v u:Value}{t w:Tr}(I:Inv X pins σ H s)(rx:RelV x v)(ry:RelV y u)(ht:ES 8 t=true)(hw:ES 8 w=true)(h1:Rep NL H t x)(h2:Rep NL H w y):∃b,decide (wT t=wT w)=b/\SeqAt.RcAt X.A s v u b/\SeqAt.RcNeAt X.A s v u (!b):=by
 cases t with
 |int i=>
  cases(show x=V.int i from h1);obtain⟨t1,rfl⟩:=rx;cases w with
  |int j=>
   cases(show y=V.int j from h2);obtain⟨t2,rfl⟩:=ry;exact⟨(i == j),(ER ht hw (by rw[cZ];exact⟨λe=>by rw[e],λe=>by cases e;rfl⟩)),(SeqAt.RcAt.int_int i t1 j t2),(SeqAt.RcNeAt.int_int i t1 j t2)⟩
  |str z=>
   cases(show y=V.str z from h2);obtain⟨t2,rfl⟩:=ry;exact⟨false,(ER ht hw ⟨(λe=>nomatch e),(λe=>nomatch e)⟩),(SeqAt.RcAt.int_str i t1 z t2),(SeqAt.RcNeAt.int_str i t1 z t2)⟩
  |tup us=>
   obtain⟨b,ws,rfl,hb,_⟩:=h2;cases ry;obtain⟨its,_,p,_⟩:=I.tuple (AS.of (K:=X.K) hb);exact⟨false,(ER ht hw ⟨(λe=>nomatch e),(λe=>nomatch e)⟩),(SeqAt.RcAt.int_tuple i t1 p (by omega)),(SeqAt.RcNeAt.int_tuple i t1 p (by omega))⟩
  |non=>cases hw
  |bl _=>cases hw
  |lst _=>cases hw
 |str a=>
  cases(show x=V.str a from h1);obtain⟨t1,rfl⟩:=rx;cases w with
  |int j=>
   cases(show y=V.int j from h2);obtain⟨t2,rfl⟩:=ry;exact⟨false,(ER ht hw ⟨(λe=>nomatch e),(λe=>nomatch e)⟩),(SeqAt.RcAt.str_int a t1 j t2),(SeqAt.RcNeAt.str_int a t1 j t2)⟩
  |str z=>
   cases(show y=V.str z from h2);obtain⟨t2,rfl⟩:=ry;exact⟨(a == z),(ER ht hw (by rw[cZ];exact⟨λe=>by rw[e],λe=>by cases e;rfl⟩)),(SeqAt.RcAt.str_str a t1 z t2),(SeqAt.RcNeAt.str_str a t1 z t2)⟩
  |tup us=>
   obtain⟨b,ws,rfl,hb,_⟩:=h2;cases ry;obtain⟨its,_,p,_⟩:=I.tuple (AS.of (K:=X.K) hb);exact⟨false,(ER ht hw ⟨(λe=>nomatch e),(λe=>nomatch e)⟩),(SeqAt.RcAt.str_tuple a t1 p (by omega)),(SeqAt.RcNeAt.str_tuple a t1 p (by omega))⟩
  |non=>cases hw
  |bl _=>cases hw
  |lst _=>cases hw
 |tup ts=>
  obtain⟨a,vs,rfl,ha,hr1⟩:=h1;cases rx;obtain⟨its,rv1,p1,_⟩:=I.tuple (AS.of (K:=X.K) ha);cases w with
  |int j=>
   cases(show y=V.int j from h2);obtain⟨t2,rfl⟩:=ry;exact⟨false,(ER ht hw ⟨(λe=>nomatch e),(λe=>nomatch e)⟩),(SeqAt.RcAt.tuple_int j t2 p1 (by omega)),(SeqAt.RcNeAt.tuple_int j t2 p1 (by omega))⟩
  |str z=>
   cases(show y=V.str z from h2);obtain⟨t2,rfl⟩:=ry;exact⟨false,(ER ht hw ⟨(λe=>nomatch e),(λe=>nomatch e)⟩),(SeqAt.RcAt.tuple_str z t2 p1 (by omega)),(SeqAt.RcNeAt.tuple_str z t2 p1 (by omega))⟩
  |tup us=>
   obtain⟨b,ws,rfl,hb,hr2⟩:=h2;cases ry;obtain⟨its2,rv2,p2,_⟩:=I.tuple (AS.of (K:=X.K) hb);have l1:=rv1.length.symm.trans (AL.len ts vs hr1);have l2:=rv2.length.symm.trans (AL.len us ws hr2);have r1:=fK (A:=X.A) (s:=s) (e:=λj=>decide (wT (ts.getD j .non)=wT (us.getD j .non))) p1 p2 (by omega) (λj g1 g2=>Qe I (n:=7) (by omega) (C0 ht).2 (C0 hw).2 hr1 hr2 rv1 rv2 j g1 g2);have r:=SeqAt.RcNeAt.tuples (A:=X.A) (s:=s) (e:=λj=>decide (wT (ts.getD j .non)=wT (us.getD j .non))) p1 p2 (by omega) (λj g1 g2=>Qe I (n:=7) (by omega) (C0 ht).2 (C0 hw).2 hr1 hr2 rv1 rv2 j g1 g2);simp only[List.size_toArray,l1,l2] at r r1;exact⟨_,(QA ht hw),r1,r⟩
  |non=>cases hw
  |bl _=>cases hw
  |lst _=>cases hw
 |non=>cases ht
 |bl _=>cases ht
 |lst _=>cases ht
theorem Q3 (hu9:X.A.units+150<cLine):HH X (compareOp .Eq) (Zx false):=by
 intro pins s σ H x y v u Q I rx ry h;obtain⟨t,w,ht,hw,h1,h2,q⟩:=h;obtain⟨b,e,r,_⟩:=ZS hu9 I rx ry ht hw h1 h2;rw[e] at q;exact r _ _ _ _ ⟨.bl _,H,I,rfl,q⟩
theorem XH (hu9:X.A.units+150<cLine):HH X (compareOp .NotEq) (Zx true):=by
 intro pins s σ H x y v u Q I rx ry h;obtain⟨t,w,ht,hw,h1,h2,q⟩:=h;obtain⟨b,e,_,r⟩:=ZS hu9 I rx ry ht hw h1 h2;rw[e] at q;exact r _ _ _ _ ⟨.bl _,H,I,rfl,q⟩
end
end
open M06
section
variable {P:Program}{w:World}{K:W.Frag}{mg:Str->Option Value}{base:Heap}{f Ac Aa Ab Af:Addr}{XC:Nat->Addr}{fd:FuncData}
abbrev BQ:=List (Int×List Int)
def FU (b:BQ)(k:Int)(row:List Int):BQ:=if(b.any λx=>decide (x.1=k))=true then b.map (λx=>if x.1=k then(x.1,row) else x) else b++[(k,row)]
def Bl (b:BQ)(k:Int):Option (List Int):=(b.find? λx=>decide (x.1=k)).map (·.2)
def Zl (H:Hp):Key×V->Int×List Int->Prop:=λkv x=>kv.1=Sum.inl x.1/\∃r,kv.2=.ref r/\H r=some (.lst (x.2.map V.int))
def BJ (H:Hp)(kvs:List (Key×V))(b:BQ):Prop:=Paired (Zl H) kvs b
theorem BJ.same {H H':Hp}{kvs:List (Key×V)}{b:BQ}(r:BJ H kvs b)(s:∀a xs,H a=some (.lst xs)->H' a=some (.lst xs)):BJ H' kvs b:=Paired.mapP r λ_ _ ⟨h1,a,h2,h3⟩=>⟨h1,a,h2,s _ _ h3⟩
theorem V5 (a k:Int):decide ((Sum.inl a:Key)=Sum.inl k)=decide (a=k):=by
 by_cases e:a=k
 ·rw[e];simp
 ·rw[bL e,bL λz=>e (dE z)]
theorem BJ.any {H:Hp}{kvs:List (Key×V)}{b:BQ}(r:BJ H kvs b)(k:Int):(kvs.any λkv=>decide (kv.1=Sum.inl k))=(b.any λx=>decide (x.1=k)):=by
 unfold BJ at r
 induction r with
 |nil=>rfl
 |cons h t ih=>rw[dO,dO,ih,h.1,V5]
theorem BJ.put {H:Hp}{kvs:List (Key×V)}{b:BQ}(r:BJ H kvs b)(k:Int){l:Addr}{row:List Int}(hl:H l=some (.lst (row.map V.int))):BJ H (putK kvs (Sum.inl k) (.ref l)) (FU b k row):=by
 unfold putK FU;rw[r.any k]
 by_cases hc:(b.any λx=>decide (x.1=k))=true
 ·rw[bV hc,bV hc]
  clear hc
  unfold BJ at r ⊢
  induction r with
  |nil=>exact .nil
  |@cons kv x ps qs h t ih=>
   rw[bX,bX];refine .cons ?_ ih
   by_cases e:x.1=k
   ·rw[bV (by rw[h.1,e]),bV e];exact⟨h.1,l,rfl,hl⟩
   ·rw[bP (by rw[h.1];exact λz=>e (dE z)),bP e];exact h
 ·rw[bP hc,bP hc];exact iM r ⟨rfl,l,rfl,hl⟩
theorem BJ.get {H:Hp}{kvs:List (Key×V)}{b:BQ}(r:BJ H kvs b)(k:Int):(BO kvs (Sum.inl k)=none/\Bl b k=none)\/∃a row,BO kvs (Sum.inl k)=some (.ref a)/\Bl b k=some row/\H a=some (.lst (row.map V.int)):=by
 unfold BJ at r
 induction r with
 |nil=>exact .inl ⟨rfl,rfl⟩
 |@cons kv x ps qs h t ih=>
  obtain⟨h1,a,h2,h3⟩:=h
  by_cases e:x.1=k
  ·refine .inr ⟨a,x.2,?_,?_,h3⟩
   ·rw[GL (by rw[h1,e]),h2]
   ·unfold Bl;rw[cP,bM e];rfl
  ·have g1:Bl (x::qs) k=Bl qs k:=by unfold Bl;rw[cP,bL e]
   have g2:BO (kv::ps) (Sum.inl k)=BO ps (Sum.inl k):=GF (by rw[h1];exact λz=>e (dE z));rw[g1,g2];exact ih
theorem BJ.len {H:Hp}{kvs:List (Key×V)}{b:BQ}(r:BJ H kvs b):kvs.length=b.length:=dY r
theorem QG (b:BQ)(k:Int)(row:List Int):(FU b k row).length<=b.length+1:=by
 unfold FU
 split
 ·rw[bE];omega
 ·rw[bW];show b.length+1<=_;omega
theorem Ma {α β:Type}{F G:α->β->Prop}:∀{l₁:List α} {l₂:List β},Paired F l₁ l₂->(∀a∈l₁,∀b,F a b->G a b)->Paired G l₁ l₂
 |_,_,.nil,_=>.nil
 |_,_,.cons r t,f=>.cons (f _ bZ _ r) (Ma t λa ha=>f a (bY _ ha))
theorem Cf {α β:Type}{F:α->β->Prop}:∀{l₁:List α} {l₂:List β} {i:Nat} {a:α},Paired F l₁ l₂->l₁[i]?=some a->∃b,l₂[i]?=some b/\F a b
 |_,_,_,_,.nil,e=>by simp at e
 |_,_,0,_,.cons r _,e=>by simp at e;subst e;exact⟨_,rfl,r⟩
 |_,_,i+1,a,.cons _ t,e=>by
  obtain⟨b,h1,h2⟩:=Cf (i:=i) (a:=a) t (by simpa using e);exact⟨b,by simpa using h1,h2⟩
theorem S8 {b:BQ}{k:Int}{row:List Int}(h:(b.any λx=>decide (x.1=k))=true):(FU b k row).map (·.1)=b.map (·.1):=by
 unfold FU;rw[bV h,cw];refine dB λx _=>?_
 show(if x.1=k then(x.1,row) else x).1=x.1
 split<;>rfl
theorem QH {b:BQ}{k:Int}{row:List Int}(h:k∉b.map (·.1)):FU b k row=b++[(k,row)]:=by
 unfold FU;rw[bP];intro z;obtain⟨x,hx,e⟩:=dR.mp z;exact h (bK.mpr ⟨x,hx,cX e⟩)
theorem QU {b:BQ}{k:Int}{row:List Int}(h:(b.map (·.1)).Nodup):((FU b k row).map (·.1)).Nodup:=by
 by_cases c:k∈b.map (·.1)
 ·rw[S8]
  ·exact h
  ·obtain⟨x,hx,e⟩:=bK.mp c;exact dR.mpr ⟨x,hx,bM e⟩
 ·rw[QH c,cg,dA];refine⟨h,by simp,λe he g hg=>?_⟩;rw[show g=k by simpa using hg];intro z;exact c (z▸he)
def Tp (H:Hp)(ds:List Addr)(bs:List BQ):Prop:=Paired (λd b=>∃kvs,H d=some (.dK kvs)/\BJ H kvs b/\(b.map (·.1)).Nodup) ds bs
theorem Tp.same {H H':Hp}{ds:List Addr}{bs:List BQ}(r:Tp H ds bs)(s:∀a xs,H a=some (.lst xs)->H' a=some (.lst xs))(k:∀d∈ds,∀kvs,H d=some (.dK kvs)->H' d=some (.dK kvs)):Tp H' ds bs:=
 Ma r λd hd _ ⟨kvs,h1,h2,h3⟩=>⟨kvs,k d hd kvs h1,h2.same s,h3⟩
theorem Tp.set {H H':Hp}{d:Addr}{b':BQ}(s:∀a xs,H a=some (.lst xs)->H' a=some (.lst xs))(hd:∃kvs,H' d=some (.dK kvs)/\BJ H' kvs b'/\(b'.map (·.1)).Nodup):∀{ds:List Addr} {bs:List BQ},Tp H ds bs->ds.Nodup->(∀e∈ds,e≠d->∀kvs,H e=some (.dK kvs)->H' e=some (.dK kvs))->∀{i:Nat},ds[i]?=some d->Tp H' ds (bs.set i b')
 |_,_,.nil,_,_,i,hi=>by simp at hi
 |_,_,.cons h t,nd,k,0,hi=>by
  simp at hi;subst hi;refine .cons hd (Ma t λe he _ ⟨kvs,h1,h2,h3⟩=>⟨kvs,k e (bY _ he) (λz=>(cV.mp nd).1 (z▸he)) kvs h1,h2.same s,h3⟩)
 |e::es,_,.cons h t,nd,k,i+1,hi=>by
  have hi':es[i]?=some d:=by simpa using hi
  obtain⟨kvs,h1,h2,h3⟩:=h;refine .cons ⟨kvs,k e bZ (λz=>(cV.mp nd).1 (by rw[z];exact bJ hi')) kvs h1,h2.same s,h3⟩ ?_;exact Tp.set s hd t (cV.mp nd).2 (λe' he'=>k e' (bY _ he')) hi'
def FJ (s:Addr)(n:Int)(lf:V):List (Str×V):=[("shelves",.ref s),("writes",.int n),("writes_left",lf)]
theorem Yt (s:Addr)(n y:Int)(lf:V):EY "writes" (.int y) (FJ s n lf)=FJ s y lf:=by
 unfold FJ;simp only[EY];rfl
def C2 (Aa:Addr)(H:Hp)(p:Addr)(ds:List Addr)(bs:List BQ)(n:Int)(lf:V):Prop:=∃dx s,H p=some (.ins Aa dx (FJ s n lf))/\H s=some (.lst (ds.map V.ref))/\ds.Nodup/\Tp H ds bs
theorem C2.len {Aa:Addr}{H:Hp}{p:Addr}{ds:List Addr}{bs:List BQ}{n:Int}{lf:V}(h:C2 Aa H p ds bs n lf):ds.length=bs.length:=by
 obtain⟨_,_,_,_,_,r⟩:=h;exact dY r
def Kb (H H':Hp)(p:Addr)(ds:List Addr):Prop:=∀b o,H b=some o->b≠p->b∉ds->H' b=some o
theorem C2.kept {Aa:Addr}{H H':Hp}{p q:Addr}{ds es:List Addr}{bs:List BQ}{n:Int}{lf:V}{m:Int}{lf2:V}{cs:List BQ}(h:C2 Aa H q es bs n lf)(g:C2 Aa H p ds cs m lf2)(k:Kb H H' p ds)(hq:q≠p)(ha:∀e∈es,e∉ds):C2 Aa H' q es bs n lf:=by
 obtain⟨dx,s,h1,h2,h3,h4⟩:=h;obtain⟨dx2,s2,g1,g2,g3,g4⟩:=g;have nd:∀{b:Addr} {o:HO},H b=some o->(∀kvs,o≠.dK kvs)->b∉ds:=λ{b o} e z hb=>by
  obtain⟨i,hi,ei⟩:=cS hb;obtain⟨c,_,kvs,q1,_⟩:=Cf (i:=i) g4 (by rw[bF hi,ei]);rw[e] at q1;exact z kvs (bO q1)
 refine⟨dx,s,k q _ h1 hq (nd h1 (by intro kvs z;cases z)),k s _ h2 (AK h2 g1 (by intro z;cases z)) (nd h2 (by intro kvs z;cases z)),h3,h4.same (λa xs e=>k a _ e (AK e g1 (by intro z;cases z)) (nd e (by intro kvs z;cases z))) λd hd kvs e=>k d _ e (AK e g1 (by intro z;cases z)) (ha d hd)⟩
theorem C2.same {Aa:Addr}{H H':Hp}{p:Addr}{ds:List Addr}{bs:List BQ}{n:Int}{lf:V}(h:C2 Aa H p ds bs n lf)(s:An H H'):C2 Aa H' p ds bs n lf:=by
 obtain⟨dx,s0,h1,h2,h3,h4⟩:=h;exact⟨dx,s0,s.get h1,s.get h2,h3,h4.same (λa xs e=>s.get e) λd _ kvs e=>s.get e⟩
theorem An.kb {H H':Hp}(s:An H H')(p:Addr)(ds:List Addr):Kb H H' p ds:=λb o e _ _=>s b o e
theorem Kb.trans {H H1 H2:Hp}{p:Addr}{ds:List Addr}(a:Kb H H1 p ds)(b:Kb H1 H2 p ds):Kb H H2 p ds:=λc o e h1 h2=>b c o (a c o e h1 h2) h1 h2
theorem C2.notin {Aa:Addr}{H:Hp}{p:Addr}{ds:List Addr}{bs:List BQ}{n:Int}{lf:V}(g:C2 Aa H p ds bs n lf){b:Addr}{o:HO}(e:H b=some o)(z:∀kvs,o≠.dK kvs):b∉ds:=λhb=>by
 obtain⟨_,_,_,_,_,g4⟩:=g;obtain⟨i,hi,ei⟩:=cS hb;obtain⟨c,_,kvs,q1,_⟩:=Cf (i:=i) g4 (by rw[bF hi,ei]);rw[e] at q1;exact z kvs (bO q1)
theorem C2.there {Aa:Addr}{H:Hp}{p:Addr}{ds:List Addr}{bs:List BQ}{n:Int}{lf:V}(g:C2 Aa H p ds bs n lf):∀d∈ds,∃kvs,H d=some (.dK kvs):=λd hb=>by
 obtain⟨_,_,_,_,_,g4⟩:=g;obtain⟨i,hi,ei⟩:=cS hb;obtain⟨c,_,kvs,q1,_⟩:=Cf (i:=i) g4 (by rw[bF hi,ei]);exact⟨kvs,q1⟩
def D7 (K:W.Frag)(Aa:Addr):Sp:=λvs H Q _=>∃(p dx:Addr) (m:Nat),vs=[.ref p,.int m]/\2<=m/\m<=4/\H p=some (.ins Aa dx [])/\∀H' ds,C2 Aa H' p ds (List.replicate m []) 0 .non->(∀d∈ds,H d=none)->(∀b o,H b=some o->b≠p->H' b=some o)->Q .non H'
def Ce (K:W.Frag)(Aa:Addr):Sp:=λvs H Q _=>∃p ds bs n lf,vs=[.ref p]/\C2 Aa H p ds bs n lf/\Q (.int (bs.length:Int)) H
def CL (K:W.Frag)(Aa:Addr):Sp:=λvs H Q _=>∃p ds bs n lf,∃(b:Nat),vs=[.ref p,.int (b:Int)]/\C2 Aa H p ds bs n lf/\b<bs.length/\∀d,ds[b]?=some d->Q (.ref d) H
def EU (K:W.Frag)(Aa:Addr):Sp:=λvs H Q _=>∃p ds bs n,∃(b:Nat) (z:Int) (a:Addr) (row:List Int),vs=[.ref p,.int (b:Int),.int z,.ref a]/\C2 Aa H p ds bs n .non/\b<bs.length/\(∀c∈bs,c.length<100000)/\H a=some (.lst (row.map V.int))/\
 ∀H',C2 Aa H' p ds (bs.set b (FU (bs.getD b []) z row)) (n+1) .non->Kb H H' p ds->Q .non H'
def Cd (K:W.Frag)(Aa:Addr):Sp:=λvs H Q _=>∃p ds bs n lf,∃(b:Nat) (z:Int),vs=[.ref p,.int (b:Int),.int z]/\C2 Aa H p ds bs n lf/\b<bs.length/\(Bl (bs.getD b []) z=none->Q .non H)/\
 ∀row,Bl (bs.getD b []) z=some row->∀l,H l=none->Q (.ref l) (upd H l (.lst (row.map V.int)))
theorem MS (T:Txt K mg Ac Aa Ab Af XC)(F:Fun K "many" "Boards.many" CV f fd):FnOk P w K mg base CG 1 f fd ["self"] (Ce K Aa):=by
 exists MT
 ·obtain⟨p,ds,bs,n,lf,rfl,_⟩:=h;rfl
 obtain⟨p,ds,bs,n,lf,rfl,hB,q⟩:=h;have hl:=hB.len;obtain⟨dx,s0,h1,h2,h3,h4⟩:=hB;refine⟨_,(!Al (!Aq (!Av AM (by rfl) T.b_len CA (!Ad (!A6 (pv 0)) (!Aj))))),?_⟩;refine⟨_,rfl,p,Aa,dx,_,_,rfl,h1,T.cl_Boards,T.n_Boards_shelves,rfl,s0,_,rfl,.inl (AQ.of h2),?_⟩;rw[bE,hl];exact q
theorem Lk (T:Txt K mg Ac Aa Ab Af XC)(F:Fun K "shelf" "Boards.shelf" Cg f fd)(AD:Def P w K mg base 2 "is_between" ["thing","least","most"] (Bn K))(AU:A9 P w K mg base 1 Aa "many" ["self"] (Ce K Aa)):FnOk P w K mg base CG 3 f fd ["self","board"] (CL K Aa):=by
 exists Lw
 ·obtain⟨p,ds,bs,n,lf,b,rfl,_⟩:=h;rfl
 obtain⟨p,ds,bs,n,lf,b,rfl,hB,b1,q⟩:=h;have hl:=hB.len;obtain⟨dx,s0,h1,h2,h3,h4⟩:=id hB;refine⟨_,(!Ai (!AR (!BZ (!Bz (!AO AD (by trivial) rfl (!Ad (pv 1) (!Ad (!Ak) (!Ad (!AC HL (!Cb (pv 0) T.cl_Boards AU) (!Ak)) (!Aj))))) (by intro _;rfl))) (!Al (!Fs)) (!Ay)) (!Al (!Aq (!Au Bm (!A6 (pv 0)) (pv 1) (λ_ _=>rfl))))),?_⟩;refine⟨_,rfl,_,rfl,p,dx,_,rfl,h1,rfl,p,ds,bs,n,lf,rfl,hB,_,_,rfl,rfl,.int (b:Int),0,_,rfl,trivial,_,rfl,AE ?_ ?_⟩
 ·show(!(decide ((0:Int)<=(b:Int))&&decide ((b:Int)<=(bs.length:Int)-1)))=false;rw[bM (show(0:Int)<=(b:Int) by omega),bM (show(b:Int)<=(bs.length:Int)-1 by omega)];rfl
 have hk:b<ds.length:=by omega
 exact⟨_,rfl,p,Aa,dx,_,_,rfl,h1,T.cl_Boards,T.n_Boards_shelves,rfl,_,rfl,s0,_,_,_,rfl,rfl,AQ.of h2,DD (j:=b) (by rw[bQ,bF hk];rfl),q _ (bF hk)⟩
theorem Pe {H H':Hp} {p dx s0 l:Addr} {ds:List Addr} {bs:List BQ} {n y:Int} {lf lf2:V} {b:Nat} {d:Addr} {z:Int} {row:List Int} {kvs:List (Key×V)} (h1:H p=some (.ins Aa dx (FJ s0 n lf))) (h2:H s0=some (.lst (ds.map V.ref))) (h3:ds.Nodup) (h4:Tp H ds bs) (hb:ds[b]?=some d) (hd:H d=some (.dK kvs))
  (hl:H l=none) (e:H'=upd (upd (upd H p (.ins Aa dx (FJ s0 y lf2))) l (.lst (row.map V.int))) d (.dK (putK kvs (Sum.inl z) (.ref l)))):C2 Aa H' p ds (bs.set b (FU (bs.getD b []) z row)) y lf2/\Kb H H' p ds:=by
 have npd:p≠d:=AK h1 hd (by intro z;cases z);have nld:l≠d:=λz=>by rw[z,hd] at hl;cases hl
 have nlp:l≠p:=λz=>by rw[z,h1] at hl;cases hl
 have lists:∀a xs,H a=some (.lst xs)->H' a=some (.lst xs):=λa xs q=>by
  rw[e,Ag (AK q hd (by intro z;cases z)),Ag (Ar q hl),Ag (AK q h1 (by intro z;cases z))];exact q
 have hl':H' l=some (.lst (row.map V.int)):=by rw[e,Ag nld,Ae]
 obtain⟨b0,g1,kvs0,g2,g3,g5⟩:=Cf h4 hb;rw[hd] at g2;cases g2;have eb:bs.getD b []=b0:=by simp[List.getD,g1]
 refine⟨⟨dx,s0,?_,lists _ _ h2,h3,?_⟩,λc o q hc hcd=>?_⟩
 ·rw[e,Ag npd,Ag nlp.symm,Ae]
 ·rw[eb];refine Tp.set lists ⟨_,by rw[e,Ae],(g3.same lists).put z hl',QU g5⟩ h4 h3 (λe' he' ne' kvs' q=>?_) hb;rw[e,Ag ne',Ag (Ar q hl),Ag (AK q h1 (by intro z;cases z))];exact q
 ·rw[e,Ag (λz=>hcd (by rw[z];exact bJ hb)),Ag (Ar q hl),Ag hc];exact q
theorem Ll (T:Txt K mg Ac Aa Ab Af XC)(F:Fun K "write" "Boards.write" Ck f fd)(Bc:A9 P w K mg base 3 Aa "shelf" ["self","board"] (CL K Aa)):FnOk P w K mg base CG 4 f fd ["self","board","number","row"] (EU K Aa):=by
 exists HA
 ·obtain⟨p,ds,bs,n,b,z,a,row,rfl,_⟩:=h;rfl
 obtain⟨p,ds,bs,n,b,z,a,row,rfl,hB,b1,b2,ha,q⟩:=h;have hl:=hB.len;obtain⟨dx,s0,h1,h2,h3,h4⟩:=id hB;have hu:=Dy hr;refine⟨_,(!Ai (@AB _ _ (4) _ _ _ _ HA.nd rfl (by trivial) (!Bf (pv 0) T.cl_Boards Bc (by trivial) (!Ad (pv 1) (!Aj))) (by rfl) (by trivial)) (!Ai (!AR (!AI CI (!A6 (pv 0)) (!Ak) (AG _)) (!Al (!Fs)) (!Ay)) (!Ai (!AR (!FE (!O0 (!A6 (pv 0))) (by first|exact CH _ (by decide) (by decide)|rfl)) (!Al (!Fs)) (!Ay)) (!Ai (!IY (pv 0) (!Ak) LG) (!Al (!JQ hu (pv 4) (pv 2) (!Dg E8 (by rfl) T.b_list IM (!Ad (pv 3) (!Aj))))))))),?_⟩;dsimp only[Ca];refine⟨_,rfl,p,dx,_,rfl,h1,rfl,_,rfl,p,ds,bs,n,.non,b,rfl,hB,b1,λd hd=>?_⟩;obtain⟨c0,g1,kvs,e1,g3,g5⟩:=Cf h4 hd;have npd:p≠d:=AK h1 e1 (by intro z;cases z);have npa:a≠p:=AK ha h1 (by intro z;cases z);have kl:kvs.length<100000:=by rw[g3.len];exact b2 _ (bJ g1)
 dsimp only;refine⟨_,rfl,p,Aa,dx,_,_,rfl,h1,T.cl_Boards,T.n_Boards_writes_left,rfl,rfl,_,rfl,AE rfl ?_⟩;refine⟨_,rfl,p,Aa,dx,_,_,rfl,h1,T.cl_Boards,T.n_Boards_writes_left,rfl,_,rfl,AE rfl ?_⟩;refine⟨_,rfl,p,Aa,dx,_,_,rfl,h1,T.cl_Boards,T.n_Boards_writes,rfl,_,_,rfl,rfl,dx,_,h1,(by show 3<1000;decide),?_⟩;rw[Yt];refine⟨_,rfl,a,_,rfl,.inl (AQ.of (by rw[Ag npa];exact ha)),λl hl0=>?_⟩;have nlp:l≠p:=λz=>by rw[z,Ae] at hl0;cases hl0
 have hlH:H l=none:=by rw[Ag nlp] at hl0;exact hl0
 have ndl:d≠l:=Ar e1 hlH;refine⟨_,rfl,_,rfl,d,_,rfl,Pf.k (k:=Sum.inl z) (by rw[Ag ndl,Ag npd.symm];exact e1) (BU (by omega)),?_⟩;obtain⟨x1,x2⟩:=Pe (Aa:=Aa) (y:=n+1) (lf2:=.non) (row:=row) (z:=z) h1 h2 h3 h4 hd e1 hlH rfl;exact q _ x1 x2
theorem Mz (T:Txt K mg Ac Aa Ab Af XC)(F:Fun K "cell" "Boards.cell" CW f fd)(Bc:A9 P w K mg base 3 Aa "shelf" ["self","board"] (CL K Aa)):FnOk P w K mg base CG 4 f fd ["self","board","number"] (Cd K Aa):=by
 exists HX
 ·obtain⟨p,ds,bs,n,lf,b,z,rfl,_⟩:=h;rfl
 obtain⟨p,ds,bs,n,lf,b,z,rfl,hB,b1,q0,q1⟩:=h;obtain⟨dx,s0,h1,h2,h3,h4⟩:=id hB;have hu:=Dy hr;refine⟨_,(!Ai (@AB _ _ (3) _ _ _ _ HX.nd rfl (by trivial) (!Ve hu (!Bf (pv 0) T.cl_Boards Bc (by trivial) (!Ad (pv 1) (!Aj))) (pv 2) ⟨rfl,rfl,rfl,rfl⟩) (by rfl) (by trivial)) (!Ai (!AR (!FE (!Mv (pv 3)) (by first|exact CH _ (by decide) (by decide)|rfl)) (!Al (!Aq (!EB))) (!Ay)) (!Al (!Aq (!Dg E8 (by rfl) T.b_list IM (!Ad (pv 3) (!Aj))))))),?_⟩
 try dsimp only[Ca,Cx.nox,Cx.wish]
 refine⟨_,rfl,p,dx,_,rfl,h1,rfl,_,rfl,p,ds,bs,n,lf,b,rfl,hB,b1,λd hd=>?_⟩;obtain⟨c0,g1,kvs,e1,g3,g5⟩:=Cf h4 hd;have eb:bs.getD b []=c0:=by simp[List.getD,g1]
 rw[eb] at q0 q1;refine⟨d,rfl,.inl ⟨kvs,.inl e1⟩,_,rfl,_,ED.k (k:=Sum.inl z) e1,?_⟩;rcases g3.get z with⟨v1,v2⟩|⟨a,row,v1,v2,v3⟩
 ·rw[v1];exact⟨_,rfl,_,rfl,Bs rfl (q0 v2)⟩
 ·rw[v1];refine⟨_,rfl,_,rfl,AE rfl ?_⟩;exact⟨_,rfl,a,_,rfl,.inl (AQ.of v3),λl hl=>q1 row v2 l hl⟩
theorem L9 (T:Txt K mg Ac Aa Ab Af XC)(F:Fun K "__init__" "Boards.__init__" CQ f fd)(AD:Def P w K mg base 2 "is_between" ["thing","least","most"] (Bn K)):FnOk P w K mg base CG 3 f fd ["self","many"] (D7 K Aa):=by
 exists Mw
 ·obtain⟨p,dx,m,rfl,_⟩:=h;rfl
 obtain⟨p,dx,m,rfl,m1,m2,h1,q⟩:=h;refine⟨_,(!Ai (!AR (!BZ (!Bz (!AO AD (by trivial) rfl (!Ad (pv 1) (!Ad (!AH rfl T.c_LEAST_BOARDS) (!Ad (!AH rfl T.c_MOST_BOARDS) (!Aj))))) (by intro _;rfl))) (!Al (!Fs)) (!Ay)) (!Ai (!CZ (pv 0) (@Cj _ ["board"] _ _ _ _ _ _ _ _ _ _ rfl (!Gy rfl T.b_range (!Ad (pv 1) (!Aj))) (by decide +kernel) (λC s H fp=>⟨(@As _ _ (0) _ (show(["board"]:List Str).Nodup by decide +kernel) rfl (by trivial) (by trivial)),(!AY),(!GC)⟩) (by intro _;rfl))) (!Ai (!CZ (pv 0) (!Ak)) (!Al (!CZ (pv 0) (!EB)))))),?_⟩
 try dsimp only[Ca,Cx.nox,Cx.wish]
 refine⟨_,rfl,.int m,2,4,rfl,trivial,_,rfl,AE ?_ ?_⟩
 ·show(!(decide ((2:Int)<=(m:Int))&&decide ((m:Int)<=4)))=false;rw[bM (show(2:Int)<=(m:Int) by omega),bM (show(m:Int)<=4 by omega)];rfl
 refine⟨_,rfl,m,rfl,by omega,by omega,?_⟩;refine Pk (xs:=(List.range (m:Int).toNat).map λ(i:Nat)=>V.int (0+(i:Int))) (λi ys l H'=>An H H'/\∃ds:List Addr,ys=ds.map V.ref/\ds.Nodup/\∀d∈ds,H' d=some (.dK [])/\H d=none) (by rw[bE,df];omega) (λi ys l H' _=>Rw) (λl hl=>⟨Am hl _,[],rfl,dS,λ_ h=>nomatch h⟩) (λi x ys l H' R hx hl hl' hlen hI hR d hd=>?_) λl H1 ys hl hl1 ly hI=>?_
 ·obtain⟨s',ds,rfl,nd,hds⟩:=hI;have nld:l≠d:=Ar hl' hd;refine hR _ _ (by rw[Ag nld];exact hl') ⟨BV (BV s' (s'.free hd) _) hl _,ds++[d],by rw[cg];rfl,?_,λe he=>?_⟩
  ·rw[dA];refine⟨nd,by simp,λe he g hg=>?_⟩;rw[bS.mp hg];intro z;have:=(hds e he).1;rw[z,hd] at this;cases this
  ·have nel:∀{o},H' e=some (.dK o)->e≠l:=λq=>AK q hl' (by intro z;cases z)
   rcases cj.mp he with he|he
   ·obtain⟨g1,g2⟩:=hds e he;exact⟨by rw[Ag (nel g1),Ag (Ar g1 hd)];exact g1,g2⟩
   ·rw[bS.mp he];exact⟨by rw[Ag nld.symm,Ae],s'.free hd⟩
 obtain⟨s1,ds,rfl,nd,hds⟩:=hI;have lds:ds.length=m:=by rw[bE,bE,df] at ly;omega
 have p1:=s1.get h1;have npl:l≠p:=AK hl1 p1 (by intro z;cases z);refine⟨_,rfl,p,Aa,dx,[],rfl,p1,T.cl_Boards,T.n_Boards_shelves,(by show 0<1000;decide),?_⟩;refine⟨_,rfl,p,Aa,dx,_,rfl,Ae,T.cl_Boards,T.n_Boards_writes,(by show 1<1000;decide),?_⟩;refine⟨_,rfl,p,Aa,dx,_,rfl,Ae,T.cl_Boards,T.n_Boards_writes_left,(by show 2<1000;decide),?_⟩;rw[EL,EL];refine q _ ds ⟨dx,l,Ae,by rw[Ag npl];exact hl1,nd,?_⟩ (λd hd=>(hds d hd).2) λb o e hb=>?_
 ·have all:∀(es:List Addr),(∀d∈es,d∈ds)->Tp (upd H1 p (.ins Aa dx (EY "writes_left" V.non (EY "writes" (V.int 0) (EY "shelves" (V.ref l) []))))) es (List.replicate es.length []):=by
   intro es
   induction es with
   |nil=>intro _;exact .nil
   |cons d es ih=>
    intro hm;refine .cons ⟨[],?_,.nil,dS⟩ (ih λe he=>hm e (bY _ he));have:=(hds d (hm d bZ)).1;rw[Ag (AK this p1 (by intro z;cases z))];exact this
  have:=all ds λ_ h=>h
  rw[lds] at this;exact this
 ·rw[Ag hb];exact s1.get e
theorem Ka {H:Hp}{x y:Addr}{u v:HO}(h:x≠y):upd (upd H x u) y v=upd (upd H y v) x u:=by
 funext c
 by_cases h1:c=y
 ·subst h1;rw[Ae,Ag (Ne.symm h),Ae]
 ·rw[Ag h1]
  by_cases h2:c=x
  ·subst h2;rw[Ae,Ae]
  ·rw[Ag h2,Ag h2,Ag h1]
def Ki (b:BQ)(k:Int):BQ:=b.filter λx=>!decide (x.1=k)
theorem BJ.drop {H:Hp}:∀{kvs:List (Key×V)} {b:BQ} (_:BJ H kvs b) (k:Int),BJ H (JV kvs (Sum.inl k)) (Ki b k)
 |_,_,.nil,_=>.nil
 |_,_,.cons (a:=kv) (b:=x) h t,k=>by
  have ih:=BJ.drop t k;have e:decide (kv.1≠Sum.inl k) = !decide (x.1=k):=by
   rw[h.1,dD];simp
  show BJ H (List.filter _ _) (List.filter _ _);rw[eV,eV,e]
  by_cases hx:x.1=k
  ·rw[bM hx];exact ih
  ·rw[bL hx];exact .cons h ih
theorem Qk {b:BQ}{k:Int}(h:(b.map (·.1)).Nodup):((Ki b k).map (·.1)).Nodup:=h.sublist (List.filter_sublist.map _)
theorem Ru {H:Hp}{kvs:List (Key×V)}{b:BQ}(r:BJ H kvs b){k:Int}(h:BO kvs (Sum.inl k)=none):Ki b k=b:=by
 rcases r.get k with⟨_,g⟩|⟨a,row,g,_⟩
 ·unfold Ki;rw[List.filter_eq_self];intro x hx;cases e:decide (x.1=k) with
  |false=>rfl
  |true=>
   unfold Bl at g;rw[eD,eE] at g;exact absurd e (g x hx)
 ·rw[h] at g;cases g
theorem VX {H H':Hp} {p dx s0 l a:Addr} {ds:List Addr} {bs:List BQ} {n y:Int} {lf lf2:V} {b:Nat} {d:Addr} {z:Int} {row:List Int} {xs:List V} {kvs:List (Key×V)} (hB:C2 Aa H p ds bs n lf) (ha:H a=some (.lst xs)) (hN:∀ys,C2 Aa (upd H a (.lst ys)) p ds bs n lf)
  (h1:H p=some (.ins Aa dx (FJ s0 n lf))) (h2:H s0=some (.lst (ds.map V.ref))) (h3:ds.Nodup) (hb:ds[b]?=some d) (hd:H d=some (.dK kvs)) (hl:H l=none)
  (e:H'=upd (upd (upd H p (.ins Aa dx (FJ s0 y lf2))) l (.lst (row.map V.int))) d (.dK (putK kvs (Sum.inl z) (.ref l)))) (ys:List V):C2 Aa (upd H' a (.lst ys)) p ds (bs.set b (FU (bs.getD b []) z row)) y lf2:=by
 have nap:a≠p:=AK ha h1 (by intro z;cases z);have nad:a≠d:=AK ha hd (by intro z;cases z);have nal:a≠l:=Ar ha hl;obtain⟨dx',s0',g1,g2,g3,g4⟩:=hN ys;have g1':=g1;rw[Ag nap.symm,h1] at g1';obtain⟨rfl,e0⟩:dx=dx'/\FJ s0 n lf=FJ s0' n lf:=by cases g1';exact⟨rfl,rfl⟩
 obtain rfl:s0=s0':=by
  unfold FJ at e0;cases e0;rfl
 refine(Pe (Aa:=Aa) (H:=upd H a (.lst ys)) (y:=y) (lf2:=lf2) (row:=row) (z:=z) (l:=l) g1 g2 g3 g4 hb (by rw[Ag nad.symm];exact hd) (by rw[Ag nal.symm];exact hl) ?_).1;rw[e,Ka nad.symm,Ka nal.symm,Ka nap.symm]
def Hz (c:BQ)(z:Int):Option (List Int)->BQ
 |none=>Ki c z
 |some row=>FU c z row
def Rf (H:Hp):Option (List Int)->V->Prop
 |none,v=>v=.non
 |some row,v=>∃a,v=.ref a/\H a=some (.lst (row.map V.int))
def CC (K:W.Frag)(Aa:Addr):Sp:=λvs H Q _=>∃p ds bs n lf,∃(b:Nat) (z:Int) (v:V) (o:Option (List Int)),vs=[.ref p,.int (b:Int),.int z,v]/\C2 Aa H p ds bs n lf/\b<bs.length/\(∀c∈bs,c.length<1000)/\Rf H o v/\
 ∀H',C2 Aa H' p ds (bs.set b (Hz (bs.getD b []) z o)) n lf->Kb H H' p ds->(∀a xs,H a=some (.lst xs)->(∀ys,C2 Aa (upd H a (.lst ys)) p ds bs n lf)->∀ys,C2 Aa (upd H' a (.lst ys)) p ds (bs.set b (Hz (bs.getD b []) z o)) n lf)->Q .non H'
theorem Qn {H:Hp}{p dx s0:Addr}{ds:List Addr}{bs:List BQ}{n:Int}{lf:V}{b:Nat}{d:Addr}{z:Int}{kvs:List (Key×V)}(h1:H p=some (.ins Aa dx (FJ s0 n lf)))(h2:H s0=some (.lst (ds.map V.ref)))(h3:ds.Nodup)(h4:Tp H ds bs)(hd:ds[b]?=some d)(e1:H d=some (.dK kvs)) :
  C2 Aa (upd H d (.dK (JV kvs (Sum.inl z)))) p ds (bs.set b (Ki (bs.getD b []) z)) n lf:=by
 obtain⟨c0,g1,kvs',e1',g3,g5⟩:=Cf h4 hd;rw[e1] at e1';cases e1';have eb:bs.getD b []=c0:=by simp[List.getD,g1]
 have lists:∀a xs,H a=some (.lst xs)->upd H d (.dK (JV kvs (Sum.inl z))) a=some (.lst xs):=λa xs q=>by
  rw[Ag (AK q e1 (by intro z;cases z))];exact q
 refine⟨dx,s0,by rw[Ag (AK h1 e1 (by intro z;cases z))];exact h1,lists _ _ h2,h3,?_⟩;rw[eb];exact Tp.set lists ⟨_,Ae,(g3.same lists).drop z,Qk g5⟩ h4 h3 (λe' _ ne' kvs' q=>by rw[Ag ne'];exact q) hd
theorem Ly (T:Txt K mg Ac Aa Ab Af XC)(F:Fun K "spoil" "Boards.spoil" Co f fd)(Bc:A9 P w K mg base 3 Aa "shelf" ["self","board"] (CL K Aa)):FnOk P w K mg base CG 4 f fd ["self","board","number","row"] (CC K Aa):=by
 exists Hx
 ·obtain⟨p,ds,bs,n,lf,b,z,v,o,rfl,_⟩:=h;rfl
 obtain⟨p,ds,bs,n,lf,b,z,v,o,rfl,hB,b1,b2,hv,q⟩:=h;have hl:=hB.len;obtain⟨dx,s0,h1,h2,h3,h4⟩:=id hB;have hu:=Dy hr;refine⟨_,(!Ai (@AB _ _ (4) _ _ _ _ Hx.nd rfl (by trivial) (!Bf (pv 0) T.cl_Boards Bc (by trivial) (!Ad (pv 1) (!Aj))) (by rfl) (by trivial)) (!Al (!AR (!FE (!Mv (pv 3)) (by first|exact CH _ (by decide) (by decide)|rfl)) (!Al (!BN (!VM (pv 4) (pv 2) (!EB) ⟨rfl,rfl,rfl,rfl⟩))) (!Al (!JQ hu (pv 4) (pv 2) (!Dg E8 (by rfl) T.b_list IM (!Ad (pv 3) (!Aj)))))))),?_⟩
 try dsimp only[Ca,Cx.nox,Cx.wish]
 refine⟨_,rfl,p,dx,_,rfl,h1,rfl,_,rfl,p,ds,bs,n,lf,b,rfl,hB,b1,λd hd=>?_⟩;obtain⟨c0,g1,kvs,e1,g3,g5⟩:=Cf h4 hd;have eb:bs.getD b []=c0:=by simp[List.getD,g1]
 have kl:kvs.length<1000:=by rw[g3.len];exact b2 _ (bJ g1)
 have eH:upd H p (.ins Aa dx (FJ s0 n lf))=H:=by
  funext c
  by_cases e:c=p
  ·rw[e,Ae];exact h1.symm
  ·rw[Ag e]
 match o,hv,q with
 |some row,⟨a,ev,ha⟩,q=>
  subst ev;refine⟨_,rfl,_,rfl,AE rfl ?_⟩;refine⟨_,rfl,a,_,rfl,.inl (AQ.of ha),λl hl0=>?_⟩;have ndl:d≠l:=Ar e1 hl0;refine⟨_,rfl,_,rfl,d,_,rfl,Pf.k (k:=Sum.inl z) (by rw[Ag ndl];exact e1) (Tn (by omega)),?_⟩;obtain⟨x1,x2⟩:=Pe (Aa:=Aa) (y:=n) (lf2:=lf) (row:=row) (z:=z) h1 h2 h3 h4 hd e1 hl0 rfl;have x3:∀a xs,H a=some (.lst xs)->(∀ys,C2 Aa (upd H a (.lst ys)) p ds bs n lf)->∀ys,C2 Aa (upd (upd (upd (upd H p (.ins Aa dx (FJ s0 n lf))) l (.lst (row.map V.int))) d (.dK (putK kvs (Sum.inl z) (.ref l)))) a (.lst ys)) p ds (bs.set b (FU (bs.getD b []) z row)) n lf:=λa xs ha hN ys=>VX (Aa:=Aa) (y:=n) (lf2:=lf) (row:=row) (z:=z) hB ha hN h1 h2 h3 hd e1 hl0 rfl ys
  rw[eH] at x1 x2 x3;exact q _ x1 x2 x3
 |none,hv,q=>
  have ev:v=.non:=hv;subst ev;refine⟨_,rfl,_,rfl,Bs rfl ?_⟩;refine⟨_,rfl,d,rfl,.inl ⟨kvs,.inl e1⟩,_,rfl,kvs,Sum.inl z,e1,rfl,λv' hv'=>?_,λhv'=>?_⟩
  ·refine q _ (Qn h1 h2 h3 h4 hd e1) (λc o q hc hcd=>?_) (λa xs ha hN ys=>?_)
   ·rw[Ag (λz=>hcd (by rw[z];exact bJ hd))];exact q
   ·have nap:a≠p:=AK ha h1 (by intro z;cases z);have nad:a≠d:=AK ha e1 (by intro z;cases z);obtain⟨dx',s0',g1,g2,g3,g4⟩:=hN ys;rw[Ka nad.symm];exact Qn g1 g2 g3 g4 hd (by rw[Ag nad.symm];exact e1)
  ·have:bs.set b (Ki (bs.getD b []) z)=bs:=by
    rw[eb,Ru g3 hv'];refine dH λi=>?_
    rw[List.getElem?_set]
    by_cases hi:b=i
    ·subst hi;rw[bV rfl,bV b1,g1]
    ·rw[bP hi]
   have e2:bs.set b (Hz (bs.getD b []) z none)=bs:=this;refine q H (by rw[e2];exact hB) (λc o q _ _=>q) (λa xs ha hN ys=>by rw[e2];exact hN ys)
def Eb (K:W.Frag)(Aa:Addr):Sp:=λvs H Q _=>∃p ds bs n lf,vs=[.ref p]/\C2 Aa H p ds bs n lf/\Q (.int n) H
theorem J4 (T:Txt K mg Ac Aa Ab Af XC)(F:Fun K "written" "Boards.written" BF f fd):FnOk P w K mg base CG 1 f fd ["self"] (Eb K Aa):=by
 exists JM
 ·obtain⟨p,ds,bs,n,lf,rfl,_⟩:=h;rfl
 obtain⟨p,ds,bs,n,lf,rfl,hB,q⟩:=h;obtain⟨dx,s0,h1,h2,h3,h4⟩:=hB;refine⟨_,(!Al (!Aq (!A6 (pv 0)))),?_⟩;exact⟨_,rfl,p,Aa,dx,_,_,rfl,h1,T.cl_Boards,T.n_Boards_writes,rfl,q⟩
theorem C2.but {H H':Hp}{p d:Addr}{ds:List Addr}{bs:List BQ}{n:Int}{lf:V}(h:C2 Aa H p ds bs n lf)(hd:∀o,H d=some o->(∀xs,o≠.lst xs)/\∀Aa dx fs,o≠.ins Aa dx fs)(nd:d∉ds)(k:∀b,b≠d->H' b=H b):C2 Aa H' p ds bs n lf:=by
 obtain⟨dx,s0,h1,h2,h3,h4⟩:=h;have e1:p≠d:=λz=>(hd _ (z▸h1)).2 _ _ _ rfl
 have e2:∀a xs,H a=some (.lst xs)->H' a=some (.lst xs):=λa xs e=>by
  rw[k a λz=>(hd _ (z▸e)).1 _ rfl];exact e
 exact⟨dx,s0,by rw[k p e1];exact h1,e2 _ _ h2,h3,h4.same e2 λe he kvs q=>by rw[k e λz=>nd (z▸he)];exact q⟩
def EW (K:W.Frag)(Aa:Addr):Sp:=λvs H Q _=>∃p ds bs n lf,vs=[.ref p]/\C2 Aa H p ds bs n lf/\2<=bs.length/\bs.length<=4/\(∀c∈bs,c.length<1000)/\
 ∀p2 ds2 H',C2 Aa H' p2 ds2 bs 0 .non->H p2=none->(∀d∈ds2,H d=none)->An H H'->Q (.ref p2) H'
theorem Lz (T:Txt K mg Ac Aa Ab Af XC)(F:Fun K "again" "Boards.again" Cc f fd)(CO:MZ P w K mg base 3 Aa "Boards" ["self","many"] (D7 K Aa))(AU:A9 P w K mg base 1 Aa "many" ["self"] (Ce K Aa))(Ba:A9 P w K mg base 4 Aa "spoil" ["self","board","number","row"] (CC K Aa)):FnOk P w K mg base CG 5 f fd ["self"] (EW K Aa):=by
 exists CK
 ·obtain⟨p,ds,bs,n,lf,rfl,_⟩:=h;rfl
 obtain⟨p,ds,bs,n,lf,rfl,hB,m1,m2,hc,q⟩:=h;have hlen:=hB.len;obtain⟨dx,s0,h1,h2,h3,h4⟩:=id hB;have hu:=Dy hr;refine⟨_,(!Ai (@AB _ _ (1) _ _ _ _ CK.nd rfl (by trivial) (!MH CO (by trivial) rfl (!Ad (!Cb (pv 0) T.cl_Boards AU) (!Aj))) (by rfl) (by trivial)) (!Ai (!BM cF rfl (!Vy rfl T.b_enumerate (!Ad (!A6 (pv 0)) (!Aj))) (!Pn rfl (!AZ (@As _ _ (2) _ CK.nd rfl (by trivial) (by trivial)) (!AZ (@As _ _ (3) _ CK.nd rfl (by trivial) (by trivial)) (!FS)))) (!Al (!WZ cF rfl (pv 3) (@As _ _ (4) _ CK.nd rfl (by trivial) (by trivial)) (!Al (!BN (!Bf (pv 1) T.cl_Boards Ba (by trivial) (!Ad (pv 2) (!Ad (pv 4) (!Ad (!Ks hu (pv 3) (pv 4) (λ_ _=>rfl)) (!Aj))))))) (by intro _;rfl))) (by intro _;rfl)) (!Al (!Aq (pv 1))))),?_⟩
 try dsimp only[Ca,Cx.nox,Cx.wish]
 refine⟨_,rfl,p,dx,_,rfl,h1,rfl,p,ds,bs,n,lf,rfl,hB,?_⟩;intro x dx2 nx ndx ndxx;refine⟨x,dx2,bs.length,rfl,m1,m2,Ae,λH1 ds2 B1 n1 k1=>⟨rfl,?_⟩⟩;have s1:An H H1:=λb o e=>k1 b o (by rw[Ag (Ar e nx),Ag (Ar e ndx)];exact e) (Ar e nx)
 have n1':∀d∈ds2,H d=none:=λd hd=>by
  have:=n1 d hd;cases e:H d with
  |none=>rfl
  |some o=>rw[Ag (Ar e nx),Ag (Ar e ndx),e] at this;cases this
 have s0b:=s1.get h2;refine⟨_,rfl,p,Aa,dx,_,_,rfl,s1.get h1,T.cl_Boards,T.n_Boards_shelves,rfl,s0,_,rfl,AQ.of s0b,T7 (K:=K) (a:=s0) (xs:=ds.map V.ref) (λi σ H2=>∃(v2 v3 v4:Option V),σ=[some (.ref p),some (.ref x),v2,v3,v4]/\An H H2/\C2 Aa H2 x ds2 (bs.take i++List.replicate (bs.length-i) []) 0 .non)
  ⟨none,none,none,rfl,s1,by rw[fW,List.nil_append,Nat.sub_zero];exact B1⟩ (by rintro i σ H2 _ ⟨_,_,_,_,s2,_⟩;exact AQ.of (s2.get h2)) ?_ ?_⟩
 ·rintro i y σ H2 t hi ⟨v2,v3,v4,rfl,s2,B2⟩ ht
  obtain⟨d,hd,rfl⟩:∃d,ds[i]?=some d/\y=V.ref d:=by
   rw[bQ] at hi;cases e:ds[i]? with
   |none=>rw[e] at hi;cases hi
   |some d=>rw[e] at hi;exact⟨d,rfl,(bO hi).symm⟩
  obtain⟨c0,g1,kvs,e1,g3,g5⟩:=Cf h4 hd;have hil:i<bs.length:=(bT.mp g1).1;have st:=Am ht (.tup [.int (i:Int),V.ref d]);refine⟨t,_,rfl,AS.of Ae,rfl,_,_,rfl,_,_,rfl,rfl,?_⟩;have d2:=st.get (s2.get e1);refine⟨_,rfl,d,kvs,rfl,d2,λo=>?_⟩;have ndx2:d≠x:=Ar e1 nx;have nd2:d∉ds2:=λz=>by have:=n1' d z;rw[e1] at this;cases this
  have kl:=g3.len;have er:bs.length-i=(bs.length-(i+1))+1:=by omega
  rw[er,List.replicate_succ] at B2;refine Tw (d:=d) (o:=o) (kvs:=kvs) (λo u z=>by have z':H d=_:=z;rw[e1] at z';cases z') (λj σ H3=>∃(v4:Option V),σ=[some (.ref p),some (.ref x),some (.int (i:Int)),some (.ref d),v4]/\H3 d=some (.frz o (.dK kvs))/\(∀b ob,H b=some ob->b≠d->H3 b=some ob)/\C2 Aa H3 x ds2 (bs.take i++c0.take j::List.replicate (bs.length-(i+1)) []) 0 .non)
   ⟨_,rfl,Ae,λb ob e ne=>by rw[Ag ne];exact st.get (s2.get e),?_⟩ (λj σ H3 _ ⟨_,_,h,_⟩=>h) ?_ ?_
  ·rw[fW];refine(B2.same st).but (d:=d) (λob e=>?_) nd2 λb hb=>Ag hb
   rw[d2] at e;cases e;exact⟨λxs z=>(by cases z),λ_ _ _ z=>by cases z⟩
  ·rintro j key v σ H3 hj ⟨v4,rfl,d3,k3,B3⟩
   obtain⟨⟨k,row⟩,gj,hk1,r,hk2,hk3⟩:=Cf g3 hj;have hk1':key=Sum.inl k:=hk1;have hk2':v=V.ref r:=hk2;have hk3':H r=some (.lst (row.map V.int)):=hk3;subst hk1' hk2';have nrd:r≠d:=AK hk3' e1 (by intro z;cases z);have r3:=k3 r _ hk3' nrd;obtain⟨dx3,sx,x1,x2,x3,x4⟩:=id B3;have hval:BO kvs (Sum.inl k)=some (.ref r):=by
    have nk:(kvs.map (·.1)).Nodup:=by
     have ek:kvs.map (·.1)=(c0.map (·.1)).map Sum.inl:=by
      have:∀{l₁:List (Key×V)} {l₂:BQ},Paired (Zl H) l₁ l₂->l₁.map (·.1)=(l₂.map (·.1)).map Sum.inl:=by
       intro l₁ l₂ r
       induction r with
       |nil=>rfl
       |cons h t ih=>rw[bX,bX,bX,ih,h.1]
      exact this g3
     rw[ek];exact List.pairwise_map.mpr (List.Pairwise.imp (λh e=>h (dE e)) g5)
    have:∀(l:List (Key×V)),(l.map (·.1)).Nodup->∀j:Nat,l[j]?=some (Sum.inl k,V.ref r)->BO l (Sum.inl k)=some (.ref r):=by
     intro l
     induction l with
     |nil=>intro _ j h;simp at h
     |cons a l ih=>
      intro hn j h
      match j with
      |0=>
       have:a=(Sum.inl k,V.ref r):=by simpa using h
       subst this;exact GL rfl
      |j+1=>
       have h':l[j]?=some (Sum.inl k,V.ref r):=by simpa using h
       rw[bX,cV] at hn;rw[GF λz=>hn.1 (by rw[z];exact bK.mpr ⟨_,bJ h',rfl⟩)];exact ih hn.2 j h'
    exact this kvs nk j hj
   have dg:=ED.kf (k:=Sum.inl k) d3;rw[hval] at dg;refine⟨_,rfl,x,dx3,_,rfl,x1,rfl,_,rfl,_,rfl,_,rfl,_,rfl,d,_,rfl,dg,?_⟩;have hcl:c0.length<1000:=hc _ (bJ g1);have eg:(bs.take i++c0.take j::List.replicate (bs.length-(i+1)) []).getD i []=c0.take j:=by
    have l:(bs.take i).length=i:=by rw[cG];omega
    rw[List.getD,eR (by omega),l,gE];rfl
   refine⟨x,ds2,_,0,.non,i,k,.ref r,some row,rfl,B3,?_,?_,⟨r,rfl,r3⟩,λH4 B4 k4 _=>?_⟩
   ·rw[bW,cN,eF,cG];omega
   ·intro c hcm;rcases cj.mp hcm with h|h
    ·exact hc c (dm h)
    ·rcases cf.mp h with h|h
     ·rw[h,cG];omega
     ·rw[gq h];decide
   dsimp only[Hz] at B4;rw[eg] at B4;have jl:j<c0.length:=(bT.mp gj).1;have ep:FU (c0.take j) k row=c0.take (j+1):=by
    rw[QH,cJ,gj]
    ·rfl
    ·intro z;obtain⟨y,hy,ey⟩:=bK.mp z;have hn:((c0.take j++c0.drop j).map (·.1)).Nodup:=by rw[gP];exact g5
     rw[cg,dA] at hn;have hd':c0.drop j=(k,row)::c0.drop (j+1):=by
      rw[gi jl]
      congr 1
      exact bO ((bF jl).symm.trans gj)
     exact hn.2.2 y.1 (bK.mpr ⟨y,hy,rfl⟩) k (by rw[hd'];simp) ey
   rw[ep] at B4;have l:(bs.take i).length=i:=by rw[cG];omega
   rw[i8 _ _ (by omega),l,gE,List.set_cons_zero] at B4;exact⟨_,rfl,k4 _ _ d3 ndx2 nd2,λb ob e ne=>k4 b ob (k3 b ob e ne) (Ar e nx) (λz=>by have:=n1' b z;rw[e] at this;cases this),B4⟩
  ·rintro σ H3 ⟨v4,rfl,d3,k3,B3⟩
   refine⟨_,_,_,rfl,λb ob e=>?_,?_⟩
   ·by_cases ne:b=d
    ·subst ne;rw[Ae,<-e1,e]
    ·rw[Ag ne];exact k3 b ob e ne
   ·rw[kl,dQ] at B3;have e2:bs.take (i+1)++List.replicate (bs.length-(i+1)) []=bs.take i++c0::List.replicate (bs.length-(i+1)) []:=by
     rw[cJ,g1];simp
    rw[e2];refine B3.but (d:=d) (λob e=>?_) nd2 λb hb=>Ag hb
    rw[d3] at e;cases e;exact⟨λxs z=>(by cases z),λ_ _ _ z=>by cases z⟩
 ·rintro σ H2 ⟨v2,v3,v4,rfl,s2,B2⟩
  rw[bE,hlen,dQ,gE] at B2;have e0:bs++List.replicate 0 []=bs:=by simp
  rw[e0] at B2;exact⟨_,rfl,q x ds2 H2 B2 nx n1' s2⟩
abbrev Tg:=Int×Int×Int
inductive Bk where
 |piece (z:Str)
 |row (lv:Int) (ts:List Tg)
 |folder
def JI (t:Tg):Tr:=.tup [.int t.1,.int t.2.1,.int t.2.2]
def Bh:Bk->Tr
 | .piece z=>.tup [.int 0,.str z]
 | .row lv ts=>.tup [.int 1,.int lv,.tup (ts.map JI)]
 | .folder=>.tup [.int 2,.tup []]
def Xb (t:Tg):Prop:=(1<=t.1/\t.1<=999999)/\(0<=t.2.1/\t.2.1<=999999999)/\0<=t.2.2/\t.2.2<=996
def Xp (lv:Int)(ts:List Tg):Prop:=ts.length<=8/\(1<lv->ts≠[])/\∀t∈ts,Xb t
def Ds:Bk->Prop
 | .piece z=>LW 1 8 (.str z)=true
 | .row lv ts=>(1<=lv/\lv<=9)/\Xp lv ts
 | .folder=>True
theorem MO {H:Hp}{t:Tg}{v:V}(h:Rep NL H (JI t) v):∃a,v=.ref a/\H a=some (.tup [.int t.1,.int t.2.1,.int t.2.2]):=by
 obtain⟨a,vs,rfl,e,x1,u1,rfl,rfl,x2,u2,rfl,rfl,x3,u3,rfl,rfl,rfl⟩:=h;exact⟨a,rfl,e⟩
theorem U9 {H:Hp}{t:Tg}{a:Addr}(e:H a=some (.tup [.int t.1,.int t.2.1,.int t.2.2])):Rep NL H (JI t) (.ref a):=⟨a,_,rfl,e,_,_,rfl,rfl,_,_,rfl,rfl,_,_,rfl,rfl,rfl⟩
theorem GB {H:Hp}{z:Str}{v:V}(h:Rep NL H (Bh (.piece z)) v):∃a,v=.ref a/\H a=some (.tup [.int 0,.str z]):=by
 obtain⟨a,vs,rfl,e,x1,u1,rfl,rfl,x2,u2,rfl,rfl,rfl⟩:=h;exact⟨a,rfl,e⟩
theorem Kf {H:Hp}{lv:Int}{ts:List Tg}{v:V}(h:Rep NL H (Bh (.row lv ts)) v):∃a b vs,v=.ref a/\H a=some (.tup [.int 1,.int lv,.ref b])/\H b=some (.tup vs)/\AL NL H (ts.map JI) vs:=by
 obtain⟨a,vs,rfl,e,x1,u1,rfl,rfl,x2,u2,rfl,rfl,x3,u3,rfl,⟨b,us,rfl,e2,r⟩,rfl⟩:=h;exact⟨a,b,us,rfl,e,e2,r⟩
theorem DH {H:Hp}{v:V}(h:Rep NL H (Bh .folder) v):∃a b,v=.ref a/\H a=some (.tup [.int 2,.ref b])/\H b=some (.tup []):=by
 obtain⟨a,vs,rfl,e,x1,u1,rfl,rfl,x2,u2,rfl,⟨b,us,rfl,e2,r⟩,rfl⟩:=h;cases r;exact⟨a,b,rfl,e,e2⟩
theorem LI {α:Type}{g:α->Tr}{H:Hp}{xs:List α}{vs:List V}(h:AL NL H (xs.map g) vs){v:V}(hv:v∈vs):∃x∈xs,Rep NL H (g x) v:=by
 obtain⟨i,hi,e⟩:=cS hv;obtain⟨t,ht,r⟩:=AL.get h (show vs[i]?=some v by rw[bF hi,e]);rw[bQ] at ht;cases z:xs[i]? with
 |none=>rw[z] at ht;cases ht
 |some x=>
  rw[z] at ht;cases ht;exact⟨x,bJ z,r⟩
theorem Kz {t:Tg}(h:Xb t)(n:Nat):ES (n+2) (JI t)=true:=by
 obtain⟨⟨a1,a2⟩,⟨b1,b2⟩,c1,c2⟩:=h;simp only[JI,ES,List.all_cons,List.all_nil,List.length_cons,List.length_nil,Bool.and_true,Bool.and_eq_true,decide_eq_true_eq];omega
theorem FW {b:Bk}(h:Ds b):ES 8 (Bh b)=true:=by
 cases b with
 |piece z=>
  have h':(decide ((1:Int)<=(z.length:Int))&&decide ((z.length:Int)<=8)&&E5 SG z)=true:=h;simp only[Bool.and_eq_true,decide_eq_true_eq] at h';simp only[Bh,ES,List.all_cons,List.all_nil,List.length_cons,List.length_nil,Bool.and_true,Bool.and_eq_true,decide_eq_true_eq,h'.2,and_true];omega
 |row lv ts=>
  obtain⟨l,n,_,o⟩:=h;have d:(ts.map JI).all (ES 6)=true:=cO.mpr λt ht=>by
   obtain⟨x,hx,rfl⟩:=bK.mp ht;exact Kz (o x hx) 4
  simp only[Bh,ES,List.all_cons,List.all_nil,List.length_cons,List.length_nil,List.length_map,Bool.and_true,Bool.and_eq_true,decide_eq_true_eq,d,and_true];omega
 |folder=>rfl
theorem O9 {H:Hp}{t:Tr}{v:V}{n:Nat}(h:Rep NL H t v)(i:ES n t=true):Ok H v:=(IT h).ok (Rk _ _ i)
theorem Xu {H:Hp}{l:Addr}{us:List V}(h:H l=some (.lst (us.map λ_=>V.bl true))):H l=some (.lst ((us.map λ_=>true).map V.bl)):=by rw[h,cw];rfl
theorem Ti (us:List V):(us.map λ_=>true).all id=true:=by simp
theorem Xk {Q:VK}{H:Hp}{us:List V}(q:Q (.bl true) H):Q (.bl ((us.map λ_=>true).all id)) H:=by rw[Ti];exact q
theorem Ir {J:It}{fr:List (Option Nat)}{g:TG}{tt:TT}{te:TE}{Q:VK}{σ:St}{H:Hp}(hJ:MY J H [])(hQ:∀l,H l=none->Q (.ref l) (upd H l (.lst []))):GQ fr g tt te σ Q J H:=by
 intro l hl;refine⟨λi m σ' H'=>i=0/\H'=upd H l (.lst []),⟨0,rfl,rfl⟩,?_⟩
 rintro i m σ' H' ⟨rfl,rfl⟩
 exact .inl ⟨(hJ _ (Am hl _) 0).2.2 (bI _),hQ l hl⟩
theorem AN {t u:TS}{D:Ends}{σ:St}{H:Hp}(h:∀N,u D=N->t { D with nx:=N } σ H):OI t u D σ H:=h _ rfl
def IV (K:W.Frag):Sp:=λvs H Q _=>∃v t,vs=[v]/\Rep NL H (JI t) v/\Xb t/\Q (.bl true) H
theorem Sy (T:Txt K mg Ac Aa Ab Af XC)(F:Fun K "is_tag" "is_tag" GE f fd)(AD:Def P w K mg base 2 "is_between" ["thing","least","most"] (Bn K))(BC:Def P w K mg base 1 "is_tuple_of" ["thing","many"] (C7 K)):FnOk P w K mg base CG 3 f fd ["thing"] (IV K):=by
 exists SD
 ·obtain⟨v,t,rfl,_⟩:=h;rfl
 obtain⟨v,t,rfl,hv,ok,q⟩:=h;have okv:=O9 hv (Kz ok 0);obtain⟨a,rfl,e⟩:=MO hv;obtain⟨⟨a1,a2⟩,⟨b1,b2⟩,c1,c2⟩:=ok;refine⟨_,(!Ai (!AR (!BZ (!Bz (!AO BC (by trivial) rfl (!Ad (pv 0) (!Ad (!Ak) (!Aj)))) (by intro _;rfl))) (!Al (!Aq (!Hv))) (!Ay)) (!Ai (!AR (@PW.pt _ _ _ (!GG (!BZ (!Bz (!AO AD (by trivial) rfl (!Ad (!Au Az (pv 0) (!Ak) (λ_ _=>rfl)) (!Ad (!Ak) (!Ad (!AH rfl T.c_MOST_CELL) (!Aj))))) (by intro _;rfl))) (!Fq (!BZ (!Bz (!AO AD (by trivial) rfl (!Ad (!Au Az (pv 0) (!Ak) (λ_ _=>rfl)) (!Ad (!Ak) (!Ad (!AH rfl T.c_MOST_BIRTH) (!Aj))))) (by intro _;rfl)))))) (!Al (!Aq (!Hv))) (!Ay)) (!Al (!Aq (!AO AD (by trivial) rfl (!Ad (!Au Az (pv 0) (!Ak) (λ_ _=>rfl)) (!Ad (!Ak) (!Ad (!AC HL (!AH rfl T.c_SUM_RESTS) (!Ak)) (!Aj))))))))),?_⟩;refine⟨_,rfl,_,3,rfl,okv,_,rfl,AE (by rw[L7 e];rfl) ?_⟩;dsimp only[L1,OI,P8];have w1:Lg 1 999999 (.int t.1)=true:=by show(decide (1<=t.1)&&decide (t.1<=999999))=true;simp;omega
 have w2:Lg 0 999999999 (.int t.2.1)=true:=by show(decide (0<=t.2.1)&&decide (t.2.1<=999999999))=true;simp;omega
 have w3:Lg 0 996 (.int t.2.2)=true:=by show(decide (0<=t.2.2)&&decide (t.2.2<=996))=true;simp;omega
 refine Xn (!Lg 1 999999 (.int t.1)) (!Lg 0 999999999 (.int t.2.1)) (λR q=>⟨_,rfl,a,_,_,_,rfl,rfl,AS.of e,rfl,_,1,999999,rfl,trivial,_,rfl,q⟩) (λ_ R q=>⟨_,rfl,a,_,_,_,rfl,rfl,AS.of e,rfl,_,0,999999999,rfl,trivial,_,rfl,q⟩) ?_;rw[w1,w2];refine AE rfl ?_;refine⟨_,rfl,a,_,_,_,rfl,rfl,AS.of e,rfl,_,_,rfl,rfl,_,0,996,rfl,trivial,?_⟩;rw[w3];exact q
def EZ (K:W.Frag):Sp:=λvs H Q _=>∃v lv ts,vs=[v,.int lv]/\Rep NL H (.tup (ts.map JI)) v/\Xp lv ts/\∀H',An H H'->Q (.bl true) H'
theorem Ln (T:Txt K mg Ac Aa Ab Af XC)(F:Fun K "are_row_tags" "are_row_tags" Cn f fd)(HP:Def P w K mg base 3 "is_tag" ["thing"] (IV K)):FnOk P w K mg base CG 4 f fd ["thing","level"] (EZ K):=by
 exists Lu
 ·obtain⟨v,lv,ts,rfl,_⟩:=h;rfl
 obtain⟨v,lv,ts,rfl,hv,ok,q⟩:=h;have okv:Ok H v:=O9 (n:=3) hv (by
  show(decide ((ts.map JI).length<=100)&&(ts.map JI).all (ES 2))=true;rw[cu,cz,bE];refine⟨by have:=ok.1;omega,cO.mpr λt ht=>?_⟩;obtain⟨x,hx,rfl⟩:=bK.mp ht;exact Kz (ok.2.2 x hx) 0)
 have ety:=(IT hv).tyN;obtain⟨a,us,rfl,e,r⟩:=hv;have lu:=AL.len _ _ r;rw[bE] at lu;obtain⟨o1,o2,o3⟩:=ok;have alls:∀(te:TE) (l0:Nat),True:=λ_ _=>trivial
 clear alls
 refine⟨_,(!Ai (!AR (@PW.pt _ _ _ (!GG (!BZ (!Bz (!Av Cv (by rfl) T.b_isinstance A3 (!Ad (pv 0) (!Ad (!Kt rfl T.b_tuple GA) (!Aj)))) (by intro _;rfl))) (!Fq (!AI Sv (!Av AM (by rfl) T.b_len CA (!Ad (pv 0) (!Aj))) (!AH rfl T.c_MOST_TAGS) (AG _))))) (!Al (!Aq (!Hv))) (!Ay)) (!Ai (!AR (@PW.pt _ _ _ (!RH (!AI CI (!Av AM (by rfl) T.b_len CA (!Ad (pv 0) (!Aj))) (!Ak) (AG _)) (!Oa (!AI Sv (pv 1) (!Ak) (AG _))))) (!Al (!Aq (!Hv))) (!Ay)) (!Al (!Aq (!Av (IC rfl) (by rfl) T.b_all Mm (!Ad (@Cj _ ["tag"] _ _ _ _ _ _ _ _ _ _ rfl (!Ed (pv 0)) (by decide +kernel) (λC s H fp=>⟨(@As _ _ (0) _ (show(["tag"]:List Str).Nodup by decide +kernel) rfl (by trivial) (by trivial)),(!AY),(!AO HP (by trivial) rfl (!Ad (pv 0) (!Aj)))⟩) (by intro _;rfl)) (!Aj))))))),?_⟩;refine⟨_,rfl,_,_,_,_,rfl,okv.ty K,okv.kit K,_,rfl,AE (by rw[ety];show(!isA "tuple" "tuple")=false;decide) ?_⟩;refine⟨_,rfl,a,_,rfl,.inr (AS.of e),_,_,rfl,rfl,_,rfl,AE (bL (by omega)) ?_⟩;refine⟨_,rfl,a,_,rfl,.inr (AS.of e),rfl,_,rfl,IE (λc=>?_) (λc=>?_)⟩
 ·have c':V.int (us.length:Int)=V.int 0:=dec_true c;have z:us.length=0:=by injection c' with c';omega
  have lz:¬1<lv:=λy=>o2 y (iN.mp (by omega))
  refine⟨_,rfl,_,_,rfl,rfl,_,rfl,AE (bL lz) ?_⟩;refine⟨_,rfl,a,rfl,⟨_,AS.of e⟩,comp_map (λ_=>V.bl true) (D3 e) (by omega) (λx H' R hx s' hR=>?_) λl H7 n7 s7 h7=>?_⟩
  ·obtain⟨t,ht,rt⟩:=LI r hx;exact⟨_,rfl,x,t,rfl,Rep.same s' _ _ rt,o3 t ht,hR H' (An.refl _)⟩
  ·exact⟨l,us.map λ_=>true,rfl,AQ.of (Xu h7),Xk (q H7 s7)⟩
 ·refine AE rfl ?_;refine⟨_,rfl,a,rfl,⟨_,AS.of e⟩,comp_map (λ_=>V.bl true) (D3 e) (by omega) (λx H' R hx s' hR=>?_) λl H7 n7 s7 h7=>?_⟩
  ·obtain⟨t,ht,rt⟩:=LI r hx;exact⟨_,rfl,x,t,rfl,Rep.same s' _ _ rt,o3 t ht,hR H' (An.refl _)⟩
  ·exact⟨l,us.map λ_=>true,rfl,AQ.of (Xu h7),Xk (q H7 s7)⟩
def HZ (K:W.Frag):Sp:=λ_ _ _ _=>False
theorem PY (T:Txt K mg Ac Aa Ab Af XC)(F:Fun K "is_entry" "is_entry" Ew f fd)(AD:Def P w K mg base 2 "is_between" ["thing","least","most"] (Bn K))(HP:Def P w K mg base 3 "is_tag" ["thing"] (IV K))(BC:Def P w K mg base 1 "is_tuple_of" ["thing","many"] (C7 K))(N5:Def P w K mg base 2 "is_name" ["thing"] (Jw K)):FnOk P w K mg base CG 4 f fd ["thing"] (HZ K):=
 F.ok Qz (λvs H Q E h=>h.elim) (λcdv A outer s H vs Q E hr h=>h.elim)
def Fn (K:W.Frag):Sp:=λvs H Q _=>∃a,vs=[.ref a]/\H a=some (.tup [])/\∀H',An H H'->Q (.bl true) H'
theorem L0 (T:Txt K mg Ac Aa Ab Af XC)(F:Fun K "are_entries" "are_entries" CN f fd)(JA:Def P w K mg base 4 "is_entry" ["thing"] (HZ K)):FnOk P w K mg base CG 5 f fd ["thing"] (Fn K):=by
 exists HK
 ·obtain⟨a,rfl,_⟩:=h;rfl
 obtain⟨a,rfl,e,q⟩:=h;have hv:Rep NL H (.tup []) (.ref a):=⟨a,[],rfl,e,rfl⟩
 have okv:Ok H (.ref a):=O9 (n:=1) hv rfl;have ety:=(IT hv).tyN;have hu:=Dy hr;refine⟨_,(!Ai (!AR (@PW.pt _ _ _ (!GG (!BZ (!Bz (!Av Cv (by rfl) T.b_isinstance A3 (!Ad (pv 0) (!Ad (!Kt rfl T.b_tuple GA) (!Aj)))) (by intro _;rfl))) (!Fq (!AI Sv (!Av AM (by rfl) T.b_len CA (!Ad (pv 0) (!Aj))) (!AH rfl T.c_MOST_ENTRIES) (AG _))))) (!Al (!Aq (!Hv))) (!Ay)) (!Ai (!AR (!BZ (!Bz (!Av (IC rfl) (by rfl) T.b_all Mm (!Ad (@Cj _ ["entry"] _ _ _ _ _ _ _ _ _ _ rfl (!Ed (pv 0)) (by decide +kernel) (λC s H fp=>⟨(@As _ _ (0) _ (show(["entry"]:List Str).Nodup by decide +kernel) rfl (by trivial) (by trivial)),(!AY),(!AO JA (by trivial) rfl (!Ad (pv 0) (!Aj)))⟩) (by intro _;rfl)) (!Aj))) (by intro _;rfl))) (!Al (!Aq (!Hv))) (!Ay)) (!Ai (@LZ _ ["name","kind","tag"] (1) _ _ _ _ _ _ _ _ _ _ _ _ _ HK.nd rfl (by trivial) rfl (!Ed (pv 0)) (by decide +kernel) (λC s H fp=>⟨(@JR _ (K) _ _ _ _ (3) (by rfl) rfl (!AZ (@As _ _ (0) _ (show(["name","kind","tag"]:List Str).Nodup by decide +kernel) rfl (by trivial) (by trivial)) (!AZ (@As _ _ (1) _ (show(["name","kind","tag"]:List Str).Nodup by decide +kernel) rfl (by trivial) (by trivial)) (!AZ (@As _ _ (2) _ (show(["name","kind","tag"]:List Str).Nodup by decide +kernel) rfl (by trivial) (by trivial)) (!FS)))) (by rfl) (by rfl)),(!AY),(pv 0)⟩) (by intro _;rfl) (by rfl) (by trivial)) (!Al (!Aq (!BS (O6 hu) (pv 1) (!Av (QS (w:=w) (by rfl) rfl) (by rfl) T.b_sorted Gx (!Ad (!Dg (SY (w:=w) (K:=K) (by rfl) (by rfl) rfl) (by rfl) T.b_set YA (!Ad (pv 1) (!Aj))) (!Aj))) (AG _))))))),?_⟩;refine⟨_,rfl,_,_,_,_,rfl,okv.ty K,okv.kit K,_,rfl,AE (by rw[ety];show(!isA "tuple" "tuple")=false;decide) ?_⟩;refine⟨_,rfl,a,_,rfl,.inr (AS.of e),_,_,rfl,rfl,_,rfl,AE rfl ?_⟩;refine⟨_,rfl,a,rfl,⟨_,AS.of e⟩,Ir (D3 e) λl hl=>?_⟩;have s1:=Am hl (.lst []);refine⟨l,[],rfl,AQ.of Ae,_,rfl,AE rfl ?_⟩;refine⟨_,rfl,a,rfl,⟨_,AS.of (s1.get e)⟩,Ir (D3 (s1.get e)) λl2 hl2=>?_⟩;have s2:=Am hl2 (.lst []);refine⟨_,rfl,_,rfl,l2,rfl,AQ.of Ae,λp hp=>?_⟩;have s3:=Am hp (Vu w p);refine⟨p,rfl,Ae,λp2 hp2=>?_⟩;have s4:=Am hp2 (.lst []);refine⟨l2,p2,_,_,rfl,rfl,AQ.of (s4.get (s3.get Ae)),AQ.of Ae,rfl,rfl,?_⟩;exact q _ (((s1.trans s2).trans s3).trans s4)
def HV (K:W.Frag):Sp:=λvs H Q _=>∃v b,vs=[v]/\Rep NL H (Bh b) v/\Ds b/\∀H',An H H'->Q (.bl true) H'
theorem QB (T:Txt K mg Ac Aa Ab Af XC)(F:Fun K "is_block" "is_block" En f fd)(Gj:Def P w K mg base 5 "are_entries" ["thing"] (Fn K))(Bd:Def P w K mg base 1 "is_whole" ["thing"] (C5 K))(Gz:Def P w K mg base 1 "is_text" ["thing","least","most"] (GM K))(AD:Def P w K mg base 2 "is_between" ["thing","least","most"] (Bn K))(Fp:Def P w K mg base 4 "are_row_tags" ["thing","level"] (EZ K)):FnOk P w K mg base CG 6 f fd ["thing"] (HV K):=by
 exists P3
 ·obtain⟨v,b,rfl,_⟩:=h;rfl
 obtain⟨v,b,rfl,hv,ok,q⟩:=h;have okv:Ok H v:=O9 hv (FW ok);have ety:=(IT hv).tyN;have tyt:IW H v="tuple":=by rw[ety];cases b<;>rfl
 refine⟨_,(!Ai (!AR (@PW.pt _ _ _ (!GG (!BZ (!Bz (!Av Cv (by rfl) T.b_isinstance A3 (!Ad (pv 0) (!Ad (!Kt rfl T.b_tuple GA) (!Aj)))) (by intro _;rfl))) (!GG (!AI CI (!Av AM (by rfl) T.b_len CA (!Ad (pv 0) (!Aj))) (!Ak) (AG _)) (!Fq (!BZ (!Bz (!AO Bd (by trivial) rfl (!Ad (!Au Az (pv 0) (!Ak) (λ_ _=>rfl)) (!Aj))) (by intro _;rfl))))))) (!Al (!Aq (!Hv))) (!Ay)) (!Ai (!AR (!AI CI (!Au Az (pv 0) (!Ak) (λ_ _=>rfl)) (!AH rfl T.c_PIECE) (AG _)) (!Al (!Aq (!EF (!BS CI (!Av AM (by rfl) T.b_len CA (!Ad (pv 0) (!Aj))) (!Ak) (AG _)) (!Gf (!AO Gz (by trivial) rfl (!Ad (!Au Az (pv 0) (!Ak) (λ_ _=>rfl)) (!Ad (!Ak) (!Ad (!AH rfl T.c_MOST_PIECE_SIGNS) (!Aj))))))))) (!Ay)) (!Ai (!AR (!AI CI (!Au Az (pv 0) (!Ak) (λ_ _=>rfl)) (!AH rfl T.c_ROW) (AG _)) (!Al (!Aq (!EF (!BS CI (!Av AM (by rfl) T.b_len CA (!Ad (pv 0) (!Aj))) (!Ak) (AG _)) (!EF (!AO AD (by trivial) rfl (!Ad (!Au Az (pv 0) (!Ak) (λ_ _=>rfl)) (!Ad (!Ak) (!Ad (!AH rfl T.c_MOST_LEVEL) (!Aj))))) (!Gf (!AO Fp (by trivial) rfl (!Ad (!Au Az (pv 0) (!Ak) (λ_ _=>rfl)) (!Ad (!Au Az (pv 0) (!Ak) (λ_ _=>rfl)) (!Aj))))))))) (!Ay)) (!Al (!Aq (!EF (!BS CI (!Au Az (pv 0) (!Ak) (λ_ _=>rfl)) (!AH rfl T.c_FOLDER) (AG _)) (!EF (!BS CI (!Av AM (by rfl) T.b_len CA (!Ad (pv 0) (!Aj))) (!Ak) (AG _)) (!Gf (!AO Gj (by trivial) rfl (!Ad (!Au Az (pv 0) (!Ak) (λ_ _=>rfl)) (!Aj))))))))))),?_⟩;refine⟨_,rfl,_,_,_,_,rfl,okv.ty K,okv.kit K,_,rfl,AE (by rw[tyt];decide) ?_⟩;cases b with
 |piece z=>
  obtain⟨a,rfl,e⟩:=GB hv;refine⟨_,rfl,a,_,rfl,.inr (AS.of e),rfl,_,rfl,AE rfl ?_⟩;refine⟨_,rfl,a,_,_,_,rfl,rfl,AS.of e,rfl,_,rfl,trivial,_,rfl,AE rfl ?_⟩;have ok':LW 1 8 (.str z)=true:=ok;have zl:z.length<=1000:=by
   have h':(decide ((1:Int)<=(z.length:Int))&&decide ((z.length:Int)<=8)&&E5 SG z)=true:=ok;simp only[Bool.and_eq_true,decide_eq_true_eq] at h';omega
  refine⟨_,rfl,a,_,_,_,rfl,rfl,AS.of e,rfl,rfl,_,rfl,Bs rfl ?_⟩;refine⟨_,rfl,a,_,rfl,.inr (AS.of e),rfl,_,rfl,Bs rfl ?_⟩;exact⟨_,rfl,a,_,_,_,rfl,rfl,AS.of e,rfl,_,1,8,rfl,zl,λH1 s1=>by rw[ok'];exact q H1 s1⟩
 |row lv ts=>
  obtain⟨a,b,us,rfl,e,e2,r⟩:=Kf hv;obtain⟨⟨l1,l2⟩,ok2⟩:=ok;have w2:Lg 1 9 (.int lv)=true:=by show(decide (1<=lv)&&decide (lv<=9))=true;simp;omega
  refine⟨_,rfl,a,_,rfl,.inr (AS.of e),rfl,_,rfl,AE rfl ?_⟩;refine⟨_,rfl,a,_,_,_,rfl,rfl,AS.of e,rfl,_,rfl,trivial,_,rfl,AE rfl ?_⟩;refine⟨_,rfl,a,_,_,_,rfl,rfl,AS.of e,rfl,rfl,_,rfl,AE rfl ?_⟩;refine⟨_,rfl,a,_,_,_,rfl,rfl,AS.of e,rfl,rfl,_,rfl,Bs rfl ?_⟩;refine⟨_,rfl,a,_,rfl,.inr (AS.of e),rfl,_,rfl,Bs rfl ?_⟩;refine⟨_,rfl,a,_,_,_,rfl,rfl,AS.of e,rfl,_,1,9,rfl,trivial,_,rfl,Bs w2 ?_⟩;exact⟨_,rfl,a,_,_,_,rfl,rfl,AS.of e,rfl,_,rfl,a,_,_,_,rfl,rfl,AS.of e,rfl,_,lv,ts,rfl,⟨b,us,rfl,e2,r⟩,ok2,q⟩
 |folder=>
  obtain⟨a,b,rfl,e,e2⟩:=DH hv;refine⟨_,rfl,a,_,rfl,.inr (AS.of e),rfl,_,rfl,AE rfl ?_⟩;refine⟨_,rfl,a,_,_,_,rfl,rfl,AS.of e,rfl,_,rfl,trivial,_,rfl,AE rfl ?_⟩;refine⟨_,rfl,a,_,_,_,rfl,rfl,AS.of e,rfl,rfl,_,rfl,AE rfl ?_⟩;refine⟨_,rfl,a,_,_,_,rfl,rfl,AS.of e,rfl,rfl,_,rfl,AE rfl ?_⟩;refine⟨_,rfl,a,_,_,_,rfl,rfl,AS.of e,rfl,rfl,_,rfl,Bs rfl ?_⟩;refine⟨_,rfl,a,_,rfl,.inr (AS.of e),rfl,_,rfl,Bs rfl ?_⟩;exact⟨_,rfl,a,_,_,_,rfl,rfl,AS.of e,rfl,b,rfl,e2,q⟩
def told:Bk->List Int
 | .piece z=>(Eh z).map idx
 | .row lv ts=>lv::ts.map (·.2.2)
 | .folder=>[]
theorem idx_map (z:Str):((z.cps.toList.map λc=>V.str ⟨#[c]⟩).map λv=>match v with|V.str y=>V.int (PySem.Txt.find SG y)|_=>V.non)=((Eh z).map idx).map V.int:=by
 rw[cw,cw];rfl
theorem ME:∀{ts:List Tg} {us:List V} {H:Hp},AL NL H (ts.map JI) us->(us.map λv=>match v with | .ref x=>(match H x with|some (.tup [_,_,y])=>y|_=>.non)|_=>.non)=(ts.map (·.2.2)).map V.int
 |[],us,H,r=>by rw[show us=[] from r];rfl
 |e::es,us,H,r=>by
  obtain⟨v,us',rfl,r1,r2⟩:=r;obtain⟨a,rfl,e1⟩:=MO r1;rw[bX,bX,bX,ME r2];simp only[e1]
def E2 (K:W.Frag):Sp:=λvs H Q _=>∃v b,vs=[v]/\Rep NL H (Bh b) v/\Ds b/\∀l H',An H H'->H l=none->H' l=some (.lst ((told b).map V.int))->Q (.ref l) H'
theorem Ls (T:Txt K mg Ac Aa Ab Af XC)(F:Fun K "numbers_told" "numbers_told" Ct f fd)(Be:Def P w K mg base 1 "number_of" ["sign"] (Dr K)):FnOk P w K mg base CG 2 f fd ["block"] (E2 K):=by
 exists CJ
 ·obtain⟨v,b,rfl,_⟩:=h;rfl
 obtain⟨v,b,rfl,hv,ok,q⟩:=h;refine⟨_,(!Ai (!AR (!AI CI (!Au Az (pv 0) (!Ak) (λ_ _=>rfl)) (!AH rfl T.c_PIECE) (AG _)) (!Al (!Aq (@Cj _ ["sign"] _ _ _ _ _ _ _ _ _ _ rfl (!Kw (!Au Az (pv 0) (!Ak) (λ_ _=>rfl))) (by decide +kernel) (λC s H fp=>⟨(@As _ _ (0) _ (show(["sign"]:List Str).Nodup by decide +kernel) rfl (by trivial) (by trivial)),(!AY),(!AO Be (by trivial) rfl (!Ad (pv 0) (!Aj)))⟩) (by intro _;rfl)))) (!Ay)) (!Ai (!AR (!AI CI (!Au Az (pv 0) (!Ak) (λ_ _=>rfl)) (!AH rfl T.c_ROW) (AG _)) (!Al (!Aq (!AC Hf (!Cs (!Ad (!Au Az (pv 0) (!Ak) (λ_ _=>rfl)) (!Aj))) (@Cj _ ["tag"] _ _ _ _ _ _ _ _ _ _ rfl (!Ed (!Au Az (pv 0) (!Ak) (λ_ _=>rfl))) (by decide +kernel) (λC s H fp=>⟨(@As _ _ (0) _ (show(["tag"]:List Str).Nodup by decide +kernel) rfl (by trivial) (by trivial)),(!AY),(!Au (Hn (K:=K) (by rfl)) (pv 0) (!Ak) (λ_ _=>rfl))⟩) (by intro _;rfl))))) (!Ay)) (!Ai (@AB _ _ (1) _ _ _ _ CJ.nd rfl (by trivial) (!Cs (!Aj)) (by rfl) (by trivial)) (!Ai (!BM cF rfl (!Ed (!Au Az (pv 0) (!Ak) (λ_ _=>rfl))) (!Pn rfl (!AZ (@As _ _ (2) _ CJ.nd rfl (by trivial) (by trivial)) (!AZ (@As _ _ (3) _ CJ.nd rfl (by trivial) (by trivial)) (!AZ (@As _ _ (4) _ CJ.nd rfl (by trivial) (by trivial)) (!FS))))) (!Ai (!BN (!J3 dk gp gn KA (pv 1) (!Ad (@Cj _ ["sign"] _ _ _ _ _ _ _ _ _ _ rfl (!Kw (pv 2)) (by decide +kernel) (λC s H fp=>⟨(@As _ _ (0) _ (show(["sign"]:List Str).Nodup by decide +kernel) rfl (by trivial) (by trivial)),(!AY),(!AO Be (by trivial) rfl (!Ad (pv 0) (!Aj)))⟩) (by intro _;rfl)) (!Aj)))) (!Al (!BN (!J3 dk gp gn KA (pv 1) (!Ad (!Cs (!Ad (pv 3) (!Ad (!Au Az (pv 4) (!Ak) (λ_ _=>rfl)) (!Aj)))) (!Aj)))))) (by intro _;rfl)) (!Al (!Aq (pv 1))))))),?_⟩;cases b with
 |piece z=>
  obtain⟨a,rfl,e⟩:=GB hv;have h':(decide ((1:Int)<=(z.length:Int))&&decide ((z.length:Int)<=8)&&E5 SG z)=true:=ok;simp only[Bool.and_eq_true,decide_eq_true_eq] at h';have zs:∀c∈Eh z,c∈Eh SG:=λc hc=>by simpa using cO.mp h'.2 c hc
  refine⟨_,rfl,a,_,_,_,rfl,rfl,AS.of e,rfl,rfl,_,rfl,Bs rfl ?_⟩;refine⟨_,rfl,a,_,_,_,rfl,rfl,AS.of e,rfl,z,rfl,?_⟩;refine comp_map (λv=>match v with | .str y=>.int (PySem.Txt.find SG y)|_=>.non) JY (by rw[bE];exact cA (fT (DC z)) (by omega)) (λx H' R hx s' hR=>?_) λl H7 n7 s7 h7=>?_
  ·obtain⟨u,hu,rfl⟩:=bK.mp hx;exact⟨_,rfl,_,rfl,(JC (zs u hu)).1,hR H' (An.refl _)⟩
  rw[idx_map] at h7;exact q l H7 s7 n7 h7
 |row lv ts=>
  obtain⟨a,b,us,rfl,e,e2,r⟩:=Kf hv;have lu:=AL.len _ _ r;rw[bE] at lu;have l8:=ok.2.1;refine⟨_,rfl,a,_,_,_,rfl,rfl,AS.of e,rfl,rfl,_,rfl,AE rfl ?_⟩;refine⟨_,rfl,a,_,_,_,rfl,rfl,AS.of e,rfl,rfl,_,rfl,Bs rfl ?_⟩;refine⟨_,rfl,a,_,_,_,rfl,rfl,AS.of e,rfl,WK,λp1 hp1=>?_⟩;have s1:=Am hp1 (.lst [V.int lv]);have e2':=s1.get e2;have r':=AL.same s1 _ _ r;refine⟨_,rfl,a,_,_,_,rfl,rfl,AS.of (s1.get e),rfl,b,rfl,⟨_,AS.of e2'⟩,comp_map (λv=>match v with | .ref x=>(match(upd H p1 (.lst [V.int lv])) x with|some (.tup [_,_,y])=>y|_=>.non)|_=>.non) (D3 e2') (by omega) (λx H' R hx s' hR=>?_) λl H7 n7 s7 h7=>?_⟩
  ·obtain⟨t,ht,rt⟩:=LI r' hx;obtain⟨c,rfl,ec⟩:=MO rt;have:=hR H' (An.refl _);simp only[ec] at this;exact⟨_,rfl,c,_,_,_,rfl,rfl,AS.of (s'.get ec),rfl,this⟩
  rw[ME r'] at h7;refine⟨p1,l,_,_,rfl,rfl,AQ.of (s7.get Ae),AQ.of h7,small (by rw[bE,bE];show 1+ts.length<=1000000;omega),λp hp=>?_⟩;exact q p _ ((s1.trans s7).trans (Am hp _)) ((s1.trans s7).free hp) Ae
 |folder=>
  obtain⟨a,b,rfl,e,e2⟩:=DH hv;refine⟨_,rfl,a,_,_,_,rfl,rfl,AS.of e,rfl,rfl,_,rfl,AE rfl ?_⟩;refine⟨_,rfl,a,_,_,_,rfl,rfl,AS.of e,rfl,rfl,_,rfl,AE rfl ?_⟩;refine⟨Mn,λg hg=>?_⟩;have sg:=Am hg (.lst []);refine⟨_,rfl,a,_,_,_,rfl,rfl,AS.of (sg.get e),rfl,b,rfl,⟨_,AS.of (sg.get e2)⟩,IR (K:=K) (a:=b) (xs:=[]) (λi σ H2=>σ=[some (.ref a),some (.ref g),none,none,none]/\H2=upd H g (.lst [])) ⟨rfl,rfl⟩ (λi σ H2 _ ⟨_,z⟩=>by rw[z];exact AS.of (sg.get e2)) (λi y σ H2 hi=>by cases hi) ?_⟩
  rintro σ H2 ⟨rfl,rfl⟩
  exact⟨_,rfl,q g _ sg hg Ae⟩
def kindB:Bk->Int
 | .piece _=>0
 | .row _ _=>1
 | .folder=>2
def AA (b:Bk):Int:=(told b).foldl (λt n=>(31*t+n+1)%997) (1+kindB b)
theorem Kr {H:Hp}{b:Bk}{v:V}(h:Rep NL H (Bh b) v):∃a xs,v=.ref a/\H a=some (.tup (.int (kindB b)::xs)):=by
 cases b with
 |piece z=>obtain⟨a,rfl,e⟩:=GB h;exact⟨a,_,rfl,e⟩
 |row lv ts=>obtain⟨a,b,us,rfl,e,_⟩:=Kf h;exact⟨a,_,rfl,e⟩
 |folder=>obtain⟨a,b,rfl,e,_⟩:=DH h;exact⟨a,_,rfl,e⟩
theorem MU {x:V}{xs:List V}:Mj (x::xs) 0=some x:=by
 unfold Mj TQ;simp
theorem ints_get {ns:List Int}{i:Nat}{y:V}(h:(ns.map V.int)[i]?=some y):∃n,y=.int n/\ns[i]?=some n:=by
 rw[bQ] at h;cases z:ns[i]? with
 |none=>rw[z] at h;cases h
 |some n=>rw[z] at h;cases h;exact⟨n,rfl,rfl⟩
theorem NJ {f:Int->Int->Int}{z:Int}{ns:List Int}{i:Nat}{n:Int}(h:ns[i]?=some n):(ns.take (i+1)).foldl f z=f ((ns.take i).foldl f z) n:=by
 rw[cJ,h,gk];rfl
def GK (K:W.Frag):Sp:=λvs H Q _=>∃v b,vs=[v]/\Rep NL H (Bh b) v/\Ds b/\∀H',An H H'->Q (.int (AA b)) H'
theorem SV (T:Txt K mg Ac Aa Ab Af XC)(F:Fun K "sum_of" "sum_of" GJ f fd)(Ft:Def P w K mg base 2 "numbers_told" ["block"] (E2 K)):FnOk P w K mg base CG 3 f fd ["block"] (GK K):=by
 exists IS
 ·obtain⟨v,b,rfl,_⟩:=h;rfl
 obtain⟨v,b,rfl,hv,ok,q⟩:=h;obtain⟨a,xs,rfl,e⟩:=Kr hv;refine⟨_,(!Ai (@AB _ _ (1) _ _ _ _ IS.nd rfl (by trivial) (!AC DF (!Ak) (!Au Az (pv 0) (!Ak) (λ_ _=>rfl))) (by rfl) (by trivial)) (!Ai (!BM cF rfl (!Cy (!AO Ft (by trivial) rfl (!Ad (pv 0) (!Aj)))) (@As _ _ (2) _ IS.nd rfl (by trivial) (by trivial)) (!Al (@AB _ _ (1) _ _ _ _ IS.nd rfl (by trivial) (!AC BP (!AC DF (!AC DF (!AC Kx (!Ak) (pv 1)) (pv 2)) (!Ak)) (!AH rfl T.c_SUM_RESTS)) (by rfl) (by trivial))) (by intro _;rfl)) (!Al (!Aq (pv 1))))),?_⟩;refine⟨_,rfl,a,_,_,_,rfl,rfl,AS.of e,MU,_,_,rfl,rfl,?_⟩;refine⟨_,rfl,_,b,rfl,hv,ok,λl H1 s1 n1 h1=>?_⟩;refine⟨l,rfl,⟨_,AQ.of h1⟩,CF (K:=K) (a:=l) (xs:=(told b).map V.int) (λi σ H2=>∃v2,σ=[some (.ref a),some (.int (((told b).take i).foldl (λt n=>(31*t+n+1)%997) (1+kindB b))),v2]/\An H1 H2) ⟨none,rfl,An.refl _⟩ (λi σ H2 _ ⟨_,_,s2⟩=>AQ.of (s2.get h1)) ?_ ?_⟩
 ·rintro i y σ H2 hi ⟨v2,rfl,s2⟩
  obtain⟨n,rfl,hn⟩:=ints_get hi;refine⟨_,rfl,_,_,rfl,rfl,.inl ⟨by decide,by decide⟩,_,rfl,_,_,rfl,rfl,_,_,rfl,rfl,_,_,rfl,rfl,(show(0:Int)<997 by decide),?_⟩;refine⟨some (.int n),?_,s2⟩;rw[NJ hn];rfl
 ·rintro σ H2 ⟨v2,rfl,s2⟩
  rw[bE,dQ];exact⟨_,rfl,q H2 (s1.trans s2)⟩
theorem TR (ts:List Tg):(wTs (ts.map JI)).length=8*ts.length:=by
 induction ts with
 |nil=>rfl
 |cons t r ih=>
  rw[bX];show(wT (JI t)++wTs (r.map JI)).length=_;rw[bW,ih,cN];have:(wT (JI t)).length=8:=rfl;omega
def Xl:Bk->Nat
 | .piece z=>6+z.length
 | .row _ ts=>8+8*ts.length
 | .folder=>6
theorem Sf (b:Bk):(wT (Bh b)).length=Xl b:=by
 cases b with
 |piece z=>
  show(2::(2:Int)::([0,0]++((1::(z.length:Int)::(Eh z).map idx)++[]))).length=6+z.length;simp only[List.length_cons,List.length_append,List.length_map,DC,List.length_nil];omega
 |row lv ts=>
  show(2::(3:Int)::([0,1]++([0,lv]++((2::((ts.map JI).length:Int)::wTs (ts.map JI))++[])))).length=8+8*ts.length;simp only[List.length_cons,List.length_append,List.length_nil,TR];omega
 |folder=>rfl
theorem size_le {b:Bk}(h:Ds b):Xl b<=500:=by
 cases b with
 |piece z=>
  have h':(decide ((1:Int)<=(z.length:Int))&&decide ((z.length:Int)<=8)&&E5 SG z)=true:=h;simp only[Bool.and_eq_true,decide_eq_true_eq] at h';show 6+z.length<=500;omega
 |row lv ts=>
  have:=h.2.1;show 8+8*ts.length<=500;omega
 |folder=>show 6<=500;decide
end
open M06
section
variable {P:Program}{w:World}{K:W.Frag}{mg:Str->Option Value}{base:Heap}{f Ac Aa Ab Af:Addr}{XC:Nat->Addr}{fd:FuncData}
theorem Oj (T:Txt K mg Ac Aa Ab Af XC)(F:Fun K "__init__" "Lost.__init__" DW f fd):FnOk P w K mg base CG 1 f fd ["self","number"] (UW (XC 0) "number"):=by
 exists Po
 ·obtain⟨e,y,rfl,_⟩:=h;rfl
 obtain⟨e,y,rfl,he,q⟩:=h;refine⟨_,(!Al (!W9 (pv 0) (pv 1))),?_⟩;exact⟨_,rfl,_,rfl,e,XC 0,rfl,he,T.i_Lost,T.f_Lost,q⟩
def CM (K:W.Frag)(C:Addr):Sp:=λvs H Q _=>∃p ds bs n lf z,vs=[.ref p,.int z]/\C2 C H p ds bs n lf/\0<bs.length/\∀a,H a=none->Q (.ref a) (upd H a (.tup [.int (z%(bs.length:Int)),.int ((z+1)%(bs.length:Int))]))
theorem Lj (T:Txt K mg Ac Aa Ab Af XC)(F:Fun K "twins" "Boards.twins" Cp f fd)(AU:A9 P w K mg base 1 Aa "many" ["self"] (Ce K Aa)):FnOk P w K mg base CG 2 f fd ["self","number"] (CM K Aa):=by
 exists Lp
 ·obtain⟨p,ds,bs,n,lf,z,rfl,_⟩:=h;rfl
 obtain⟨p,ds,bs,n,lf,z,rfl,hB,b0,q⟩:=h;obtain⟨dx,s0,h1,h2,h3,h4⟩:=id hB;refine⟨_,(!Al (!Aq (!C6 (!Ad (!AC BP (pv 1) (!Cb (pv 0) T.cl_Boards AU)) (!Ad (!AC BP (!AC DF (pv 1) (!Ak)) (!Cb (pv 0) T.cl_Boards AU)) (!Aj)))))),?_⟩;refine⟨_,rfl,_,rfl,p,dx,_,rfl,h1,rfl,p,ds,bs,n,lf,rfl,hB,_,_,rfl,rfl,(by omega),_,rfl,_,_,rfl,rfl,_,rfl,p,dx,_,rfl,h1,rfl,p,ds,bs,n,lf,rfl,hB,_,_,rfl,rfl,(by omega),Jd,λa ha=>q a ha⟩
def BG (t:Tr):List Int:=wT t++[mk (wT t)]
def BH (z y:Int)(b:Bk):Tr:=.tup [.int z,.int y,Bh b]
theorem WQ {b:Bk}(h:Ds b):ES 7 (Bh b)=true:=by
 cases b with
 |piece z=>
  have h':(decide ((1:Int)<=(z.length:Int))&&decide ((z.length:Int)<=8)&&E5 SG z)=true:=h;simp only[Bool.and_eq_true,decide_eq_true_eq] at h';simp only[Bh,ES,List.all_cons,List.all_nil,List.length_cons,List.length_nil,Bool.and_true,Bool.and_eq_true,decide_eq_true_eq,h'.2,and_true];omega
 |row lv ts=>
  obtain⟨l,n,_,o⟩:=h;have d:(ts.map JI).all (ES 5)=true:=cO.mpr λt ht=>by
   obtain⟨x,hx,rfl⟩:=bK.mp ht;exact Kz (o x hx) 3
  simp only[Bh,ES,List.all_cons,List.all_nil,List.length_cons,List.length_nil,List.length_map,Bool.and_true,Bool.and_eq_true,decide_eq_true_eq,d,and_true];omega
 |folder=>rfl
def MB (z y:Int):Prop:=(0<=z/\z<=999999999)/\0<=y/\y<=999999999
theorem LJ {z y:Int}{b:Bk}(n:MB z y)(h:Ds b):ES 8 (BH z y b)=true:=by
 have d:=WQ h;obtain⟨⟨a1,a2⟩,a3,a4⟩:=n;show(decide (3<=100)&&((decide (0<=z)&&decide (z<=999999999))&&((decide (0<=y)&&decide (y<=999999999))&&(ES 7 (Bh b)&&true))))=true;simp only[d,Bool.and_true,Bool.and_eq_true,decide_eq_true_eq];omega
theorem On {z y:Int}{b:Bk}(h:Ds b):(wT (BH z y b)).length<=600:=by
 have l:=Sf b;have s:=size_le h;show(2::(3:Int)::([0,z]++([0,y]++(wT (Bh b)++[])))).length<=600;simp only[List.length_cons,List.length_append,List.length_nil];omega
mutual
theorem Xy:∀(n:Nat) (t:Tr),ES n t=true->∀x∈wT t,0<=x/\x<=2147483646
 |0,_,h=>nomatch h
 |n+1,.non,h=>nomatch h
 |n+1,.bl _,h=>nomatch h
 |n+1,.int i,h=>λx hx=>by
  have h':(decide (0<=i)&&decide (i<=999999999))=true:=h;simp only[Bool.and_eq_true,decide_eq_true_eq] at h';rcases cf.mp hx with rfl|hx
  ·omega
  ·rw[bS.mp hx];omega
 |n+1,.str z,h=>λx hx=>by
  obtain⟨zl,zs⟩:=LF h;rcases cf.mp hx with rfl|hx
  ·omega
  rcases cf.mp hx with rfl|hx
  ·omega
  obtain⟨c,hc,rfl⟩:=bK.mp hx;have:=JC (zs c hc);omega
 |n+1,.tup ts,h=>λx hx=>by
  have h':(decide (ts.length<=100)&&ts.all (ES n))=true:=h;rw[cu,cz] at h';rcases cf.mp hx with rfl|hx
  ·omega
  rcases cf.mp hx with rfl|hx
  ·omega
  exact Vh n ts h'.2 x hx
 |n+1,.lst _,h=>nomatch h
theorem Vh:∀(n:Nat) (ts:List Tr),ts.all (ES n)=true->∀x∈wTs ts,0<=x/\x<=2147483646
 |_,[],_=>λx hx=>nomatch hx
 |n,t::ts,h=>λx hx=>by
  rw[fH,cu] at h;rcases cj.mp hx with hx|hx
  ·exact Xy n t h.1 x hx
  ·exact Vh n ts h.2 x hx
end
theorem Iv {t:Tr}{n:Nat}(h:ES n t=true):sound (BG t)=true:=OM (Xy n t h)
theorem Q7 (t:Tr):(BG t).dropLast=wT t:=by unfold BG;rw[jm]
theorem SU (t:Tr):(BG t).length=(wT t).length+1:=by unfold BG;rw[bW];rfl
def V1 (c:BQ)(z:Int):Prop:=∀row,Bl c z=some row->sound row=false/\row.length<=1000
def Io (K:W.Frag)(C:Addr):Sp:=λvs H Q _=>∃p ds bs n lf,∃(b:Nat) (z:Int),vs=[.ref p,.int (b:Int),.int z]/\C2 C H p ds bs n lf/\b<bs.length/\((V1 (bs.getD b []) z/\∀H',An H H'->Q .non H')\/∃t,Bl (bs.getD b []) z=some (BG t)/\ES 8 t=true/\(wT t).length<=900/\∀v H',An H H'->Rep NL H' t v->Q v H')
theorem Qt (T:Txt K mg Ac Aa Ab Af XC)(F:Fun K "thing_on" "thing_on" Ek f fd)(Bp:A9 P w K mg base 4 Aa "cell" ["self","board","number"] (Cd K Aa))(JG:Def P w K mg base 3 "unsealed" ["row"] (Ig K))(Jy:Def P w K mg base 13 "thing_of" ["words"] (Ie K)):FnOk P w K mg base CG 14 f fd ["boards","board","number"] (Io K Aa):=by
 exists Iq
 ·obtain⟨p,ds,bs,n,lf,b,z,rfl,_⟩:=h;rfl
 obtain⟨p,ds,bs,n,lf,b,z,rfl,hB,b1,q⟩:=h;obtain⟨dx,s0,h1,h2,h3,h4⟩:=id hB;refine⟨_,(!Ai (@AB _ _ (3) _ _ _ _ Iq.nd rfl (by trivial) (!Bf (pv 0) T.cl_Boards Bp (by trivial) (!Ad (pv 1) (!Ad (pv 2) (!Aj)))) (by rfl) (by trivial)) (!Ai (!AR (!FE (!Mv (pv 3)) (by first|exact CH _ (by decide) (by decide)|rfl)) (!Al (!Aq (!EB))) (!Ay)) (!Ai (@AB _ _ (4) _ _ _ _ Iq.nd rfl (by trivial) (!AO JG (by trivial) rfl (!Ad (pv 3) (!Aj))) (by rfl) (by trivial)) (!Ai (!AR (!FE (!Mv (pv 4)) (by first|exact CH _ (by decide) (by decide)|rfl)) (!Al (!Aq (!EB))) (!Ay)) (!Al (!Ul ⟨rfl,rfl⟩ T.x_NoThing rfl (!Wz (!Wx (!Aq (!AO Jy (by trivial) rfl (!Ad (pv 4) (!Aj)))))) (!Ay) (λe=>(!Al (!Aq (!EB)))))))))),?_⟩;refine⟨_,rfl,p,dx,_,rfl,h1,rfl,_,rfl,_,rfl,p,ds,bs,n,lf,b,z,rfl,hB,b1,?_⟩;rcases q with⟨g,q⟩|⟨t,g,it,wl,q⟩
 ·refine⟨λ_=>⟨_,rfl,_,rfl,Bs rfl (q H (An.refl _))⟩,λrow e l hl=>?_⟩;obtain⟨g1,g2⟩:=g row e;have s1:=Am hl (.lst (row.map V.int));refine⟨_,rfl,_,rfl,AE rfl ?_⟩;refine⟨_,rfl,l,row,rfl,Ae,g2,(λ_ H2 s2=>⟨_,rfl,_,rfl,Bs rfl (q H2 (s1.trans s2))⟩),λz=>by rw[g1] at z;cases z⟩
 ·refine⟨(λe=>by rw[g] at e;cases e),λrow e l hl=>?_⟩;rw[g] at e;cases e;have s1:=Am hl (.lst ((BG t).map V.int));refine⟨_,rfl,_,rfl,AE rfl ?_⟩;refine⟨_,rfl,l,BG t,rfl,Ae,by rw[SU];omega,(λz=>by rw[Iv it] at z;cases z),λ_ r H2 s2 nr hr2=>?_⟩;rw[Q7] at hr2;refine⟨_,rfl,_,rfl,AE rfl ?_⟩;exact⟨_,rfl,r,t,rfl,hr2,it,λv H3 s3 rv=>q v H3 ((s1.trans s2).trans s3) rv⟩
def FM (K:W.Frag)(C:Addr):Sp:=λvs H Q _=>∃p ds bs n lf,∃(b:Nat) (ta:Addr) (z y k:Int),vs=[.ref p,.int (b:Int),.ref ta]/\C2 C H p ds bs n lf/\b<bs.length/\H ta=some (.tup [.int z,.int y,.int k])/\
 ((V1 (bs.getD b []) z/\∀H',An H H'->Q .non H')\/∃bk,Bl (bs.getD b []) z=some (BG (BH z y bk))/\Ds bk/\AA bk=k/\MB z y/\∀v H',An H H'->Rep NL H' (Bh bk) v->Q v H')
theorem PV (T:Txt K mg Ac Aa Ab Af XC)(F:Fun K "block_on" "block_on" Eu f fd)(Jn:Def P w K mg base 14 "thing_on" ["boards","board","number"] (Io K Aa))(BC:Def P w K mg base 1 "is_tuple_of" ["thing","many"] (C7 K))(JF:Def P w K mg base 6 "is_block" ["thing"] (HV K))(Ef:Def P w K mg base 3 "sum_of" ["block"] (GK K)):FnOk P w K mg base CG 15 f fd ["boards","board","tag"] (FM K Aa):=by
 exists K4
 ·obtain⟨p,ds,bs,n,lf,b,ta,z,y,k,rfl,_⟩:=h;rfl
 obtain⟨p,ds,bs,n,lf,b,ta,z,y,k,rfl,hB,b1,ht,q⟩:=h;have hu9:=KL hr;refine⟨_,(!Ai (@AB _ _ (3) _ _ _ _ K4.nd rfl (by trivial) (!AO Jn (by trivial) rfl (!Ad (pv 0) (!Ad (pv 1) (!Ad (!Au Az (pv 2) (!Ak) (λ_ _=>rfl)) (!Aj))))) (by rfl) (by trivial)) (!Ai (!AR (@PW.pt _ _ _ (!GG (!BZ (!Bz (!AO BC (by trivial) rfl (!Ad (pv 3) (!Ad (!Ak) (!Aj)))) (by intro _;rfl))) (!Fq (!AI (Yf hu9) (!D9 O1 (pv 3) (!FP) (!EK (!Ak))) (!D9 O1 (pv 2) (!FP) (!EK (!Ak))) (AG _))))) (!Al (!Aq (!EB))) (!Ay)) (!Ai (!AR (@PW.pt _ _ _ (!GG (!BZ (!Bz (!AO JF (by trivial) rfl (!Ad (!Au Az (pv 3) (!Ak) (λ_ _=>rfl)) (!Aj))) (by intro _;rfl))) (!Fq (!AI RS (!AO Ef (by trivial) rfl (!Ad (!Au Az (pv 3) (!Ak) (λ_ _=>rfl)) (!Aj))) (!Au Az (pv 2) (!Ak) (λ_ _=>rfl)) (AG _))))) (!Al (!Aq (!EB))) (!Ay)) (!Al (!Aq (!Au Az (pv 3) (!Ak) (λ_ _=>rfl))))))),?_⟩;refine⟨_,rfl,_,rfl,_,rfl,ta,_,_,_,rfl,rfl,AS.of ht,rfl,p,ds,bs,n,lf,b,z,rfl,hB,b1,?_⟩;rcases q with⟨g,q⟩|⟨bk,g,ok,es,nb,q⟩
 ·refine .inl ⟨g,λH1 s1=>?_⟩;exact⟨_,rfl,.non,3,rfl,trivial,_,rfl,Bs rfl (q H1 s1)⟩
 ·refine .inr ⟨BH z y bk,g,LJ nb ok,by have:=On (z:=z) (y:=y) ok;omega,λv H1 s1 rv=>?_⟩;obtain⟨a,us,rfl,e,u1,us,rfl,r1,u2,us,rfl,r2,u3,us,rfl,r3,rfl⟩:=rv;cases(show u1=V.int z from r1);cases(show u2=V.int y from r2);have okv:Ok H1 (.ref a):=.inr ⟨_,e⟩;have ht1:=s1.get ht;refine⟨_,rfl,.ref a,3,rfl,okv,_,rfl,AE (by rw[L7 e];rfl) ?_⟩;refine⟨_,rfl,2,rfl,a,_,rfl,AS.of e,(show ¬(HT.CD 3 0 none=0/\HT.CD 3 3 (some 2)=3) by decide),λp1 hp1=>?_⟩;have s2:=Am hp1 (.tup [V.int z,V.int y]);refine⟨_,rfl,2,rfl,ta,_,rfl,AS.of (s2.get ht1),(show ¬(HT.CD 3 0 none=0/\HT.CD 3 3 (some 2)=3) by decide),λp2 hp2=>?_⟩;have s3:=Am hp2 (.tup [V.int z,V.int y]);refine⟨.tup [.int z,.int y],NL,NL,(by show 1+max 1 (max 1 0)<=100;decide),⟨p1,_,rfl,s3.get Ae,_,_,rfl,rfl,_,_,rfl,rfl,rfl⟩,⟨p2,_,rfl,Ae,_,_,rfl,rfl,_,_,rfl,rfl,rfl⟩,_,rfl,AE rfl ?_⟩;have s13:=s2.trans s3;have r3':=Rep.same s13 _ _ r3;have e3:=s13.get e;refine⟨_,rfl,a,_,_,_,rfl,rfl,AS.of e3,rfl,u3,bk,rfl,r3',ok,λH4 s4=>⟨_,rfl,AE rfl ?_⟩⟩;refine⟨_,rfl,a,_,_,_,rfl,rfl,AS.of (s4.get e3),rfl,u3,bk,rfl,Rep.same s4 _ _ r3',ok,λH5 s5=>?_⟩;have s45:=s4.trans s5;refine⟨_,rfl,ta,_,_,_,rfl,rfl,AS.of (s45.get (s13.get ht1)),rfl,rfl,_,rfl,AE (by rw[es];simp) ?_⟩;exact⟨_,rfl,a,_,_,_,rfl,rfl,AS.of (s45.get e3),rfl,q u3 H5 ((s1.trans s13).trans s45) (Rep.same s45 _ _ r3')⟩
def Lies (bs:List BQ)(z y:Int)(bk:Bk):Prop:=∀b,b<bs.length->V1 (bs.getD b []) z\/Bl (bs.getD b []) z=some (BG (BH z y bk))
def Yd (bs:List BQ)(z:Int)(row:List Int)(b:Int):Bool:=decide (Bl (bs.getD b.toNat []) z=some row)
def good (bs:List BQ)(z y:Int)(bk:Bk):Bool:=[z%(bs.length:Int),(z+1)%(bs.length:Int)].any (Yd bs z (BG (BH z y bk)))
def De (bs:List BQ)(z:Int):List Int:=[z%(bs.length:Int),(z+1)%(bs.length:Int)]
theorem Iz {bs:List BQ}{z:Int}(h:0<bs.length):∀x∈De bs z,0<=x/\x<(bs.length:Int):=λx hx=>by
 have e:x=z%(bs.length:Int)\/x=(z+1)%(bs.length:Int):=by simpa [De] using hx
 rcases e with rfl|rfl
 ·exact⟨dJ _ (by omega),di _ (by omega)⟩
 ·exact⟨dJ _ (by omega),di _ (by omega)⟩
theorem YF {H:Hp} {p ta:Addr} {ds:List Addr} {bs:List BQ} {n:Int} {lf:V} {z y:Int} {bk:Bk} {x:Int} {Q:VK} (hB:C2 Aa H p ds bs n lf) (x0:0<=x) (x1:x<(bs.length:Int)) (ht:H ta=some (.tup [.int z,.int y,.int (AA bk)])) (hl:Lies bs z y bk) (ok:Ds bk) (nb:MB z y)
  (q0:Yd bs z (BG (BH z y bk)) x=false->∀H',An H H'->Q .non H') (q1:Yd bs z (BG (BH z y bk)) x=true->∀v H',An H H'->Rep NL H' (Bh bk) v->Q v H'):FM K Aa [.ref p,.int x,.ref ta] H Q E0:=by
 have ex:((x.toNat:Nat):Int)=x:=by omega
 refine⟨p,ds,bs,n,lf,x.toNat,ta,z,y,AA bk,by rw[ex],hB,by omega,ht,?_⟩;rcases hl x.toNat (by omega) with e|e
 ·refine .inl ⟨e,q0 (bL λg=>?_)⟩;have:=(e _ g).1;rw[Iv (LJ nb ok)] at this;cases this
 ·exact .inr ⟨bk,e,ok,rfl,nb,q1 (bM e)⟩
def Jv (K:W.Frag)(C:Addr)(XC:Nat->Addr):Sp:=λvs H Q E=>∃p ds bs n lf,∃(ta:Addr) (z y:Int) (bk:Bk),vs=[.ref p,.ref ta]/\C2 C H p ds bs n lf/\0<bs.length/\H ta=some (.tup [.int z,.int y,.int (AA bk)])/\Lies bs z y bk/\Ds bk/\MB z y/\
 (good bs z y bk=true->∀v H',An H H'->Rep NL H' (Bh bk) v->Q v H')/\(good bs z y bk=false->∀dx H',An H H'->H dx=none->H' dx=some (.xd [("number",.int z)])->E (.ref (XC 0)) (some dx) H')
theorem Rv (T:Txt K mg Ac Aa Ab Af XC)(F:Fun K "fetched" "fetched" Fj f fd)(Bb:A9 P w K mg base 2 Aa "twins" ["self","number"] (CM K Aa))(DZ:Wi P w K mg base 1 "Lost" (XC 0) "number" ["self","number"])(JJ:Def P w K mg base 15 "block_on" ["boards","board","tag"] (FM K Aa)):FnOk P w K mg base (QL P w) 16 f fd ["boards","tag"] (Jv K Aa XC):=by
 refine F.okE Jo (λvs H Q E h=>?_) (λcdv A outer s H vs Q E hr h=>?_)
 ·obtain⟨p,ds,bs,n,lf,ta,z,y,bk,rfl,_⟩:=h;rfl
 obtain⟨p,ds,bs,n,lf,ta,z,y,bk,rfl,hB,b0,ht,hl,ok,nb,q,qE⟩:=h;obtain⟨dx,s0,h1,h2,h3,h4⟩:=id hB;refine⟨_,(!Ai (!BM PassesOwn.leaving rfl (!Ed (!Bf (pv 0) T.cl_Boards Bb (by trivial) (!Ad (!Au Az (pv 1) (!Ak) (λ_ _=>rfl)) (!Aj)))) (@As _ _ (2) _ Jo.nd rfl (by trivial) (by trivial)) (!Ai (@AB _ _ (3) _ _ _ _ Jo.nd rfl (by trivial) (!AO JJ (by trivial) rfl (!Ad (pv 0) (!Ad (pv 2) (!Ad (pv 1) (!Aj))))) (by rfl) (by trivial)) (!Al (!AR (!FE (!O0 (pv 3)) (by first|exact CH _ (by decide) (by decide)|rfl)) (!Al (!Aq (pv 3))) (!Ay)))) (by intro _;rfl)) (!Al (!N6 Mp rfl DZ (by trivial) rfl (!Ad (!Au Az (pv 1) (!Ak) (λ_ _=>rfl)) (!Aj))))),?_⟩;dsimp only[Ca];refine⟨_,rfl,p,dx,_,rfl,h1,rfl,_,rfl,ta,_,_,_,rfl,rfl,AS.of ht,rfl,p,ds,bs,n,lf,z,rfl,hB,b0,λtp htp=>?_⟩;have s1:=Am htp (.tup [V.int (z%(bs.length:Int)),V.int ((z+1)%(bs.length:Int))]);have etp:(upd H tp (.tup [V.int (z%(bs.length:Int)),V.int ((z+1)%(bs.length:Int))])) tp=some (.tup ((De bs z).map V.int)):=Ae;generalize upd H tp (.tup [V.int (z%(bs.length:Int)),V.int ((z+1)%(bs.length:Int))])=H0 at s1 etp;refine⟨tp,rfl,⟨_,AS.of etp⟩,IR (K:=K) (a:=tp) (xs:=(De bs z).map V.int) (λi σ H2=>∃v2 v3,σ=[some (.ref p),some (.ref ta),v2,v3]/\An H0 H2/\((De bs z).take i).any (Yd bs z (BG (BH z y bk)))=false) ⟨none,none,rfl,An.refl _,rfl⟩ (λi σ H2 _ ⟨_,_,_,s2,_⟩=>AS.of (s2.get etp)) ?_ ?_⟩
 ·rintro i x σ H2 hi ⟨v2,v3,rfl,s2,hf⟩
  obtain⟨k,rfl,hk⟩:=ints_get hi;obtain⟨k0,k1⟩:=Iz b0 k (bJ hk);have u:=s1.trans s2;refine⟨_,rfl,_,rfl,_,rfl,?_⟩;dsimp only[ET,List.append_nil];refine YF (hB.same u) k0 k1 (u.get ht) hl ok nb (λe H3 s3=>?_) (λe v H3 s3 rv=>?_)
  ·refine⟨_,rfl,_,rfl,AE rfl ?_⟩;refine⟨_,_,rfl,s2.trans s3,?_⟩;rw[cJ,hk,List.any_append,hf];show([k].any (Yd bs z (BG (BH z y bk))))=false;rw[dO,e];rfl
  ·have nv:v≠.non:=by
    obtain⟨a,xs,rfl,_⟩:=Kr rv;intro z;cases z
   refine⟨_,rfl,_,rfl,Bs (by rw[bL nv];rfl) ?_⟩;exact⟨_,rfl,q (dR.mpr ⟨k,bJ hk,e⟩) v H3 (u.trans s3) rv⟩
 ·rintro σ H2 ⟨v2,v3,rfl,s2,hf⟩
  rw[cI (by rw[bE];exact bI _)] at hf;have u:=s1.trans s2;refine⟨_,rfl,ta,_,_,_,rfl,rfl,AS.of (u.get ht),rfl,_,rfl,λd hd=>?_⟩;exact qE hf d _ (u.trans (Am hd _)) (u.free hd) Ae
def wr (bs:List BQ)(z:Int)(row:List Int)(l:List Int):List BQ:=l.foldl (λbs x=>bs.set x.toNat (FU (bs.getD x.toNat []) z row)) bs
theorem MA (z:Int)(row:List Int):∀(l:List Int) (bs:List BQ),(wr bs z row l).length=bs.length
 |[],_=>rfl
 |x::l,bs=>by
  show(wr (bs.set _ _) z row l).length=_;rw[MA z row l,dZ]
theorem WO (bs:List BQ)(z:Int)(row:List Int)(l:List Int)(x:Int):wr bs z row (l++[x])=(wr bs z row l).set x.toNat (FU ((wr bs z row l).getD x.toNat []) z row):=by
 unfold wr;rw[gk];rfl
theorem Qg {z:Int}{row:List Int}{M:Nat}:∀(l:List Int) {bs:List BQ},(∀c∈bs,c.length<=M)->∀c∈wr bs z row l,c.length<=M+l.length:=λl=>by
 induction l generalizing M with
 |nil=>intro bs h;exact h
 |cons x l ih=>
  intro bs h c hc;have:∀c∈bs.set x.toNat (FU (bs.getD x.toNat []) z row),c.length<=M+1:=λc hc=>by
   rcases gf hc with hc|rfl
   ·have:=h c hc;omega
   ·have:=QG (bs.getD x.toNat []) z row;have:(bs.getD x.toNat []).length<=M:=by
     unfold List.getD;cases e:bs[x.toNat]? with
     |none=>exact cE _
     |some c=>exact h c (bJ e)
    omega
  have:=ih this c hc;rw[cN];omega
def RE (K:W.Frag)(C:Addr):Sp:=λvs H Q _=>∃p ds bs n,∃(z y:Int) (bv:V) (bk:Bk),vs=[.ref p,.int z,.int y,bv]/\C2 C H p ds bs n .non/\0<bs.length/\(∀c∈bs,c.length<=90000)/\Rep NL H (Bh bk) bv/\Ds bk/\MB z y/\
 ∀H',C2 C H' p ds (wr bs z (BG (BH z y bk)) (De bs z)) (n+2) .non->Kb H H' p ds->Q .non H'
theorem YG (T:Txt K mg Ac Aa Ab Af XC)(F:Fun K "lay" "lay" Nz f fd)(LY:Def P w K mg base 2 "sealed" ["words"] (KG K))(Bb:A9 P w K mg base 2 Aa "twins" ["self","number"] (CM K Aa))(C9:Def P w K mg base 9 "words_of" ["thing"] (FQ K))(FG:A9 P w K mg base 4 Aa "write" ["self","board","number","row"] (EU K Aa)):FnOk P w K mg base CG 10 f fd ["boards","number","birth","block"] (RE K Aa):=by
 exists RK
 ·obtain⟨p,ds,bs,n,z,y,bv,bk,rfl,_⟩:=h;rfl
 obtain⟨p,ds,bs,n,z,y,bv,bk,rfl,hB,b0,bb,hv,ok,nb,q⟩:=h;refine⟨_,(!Ai (@AB _ _ (4) _ _ _ _ RK.nd rfl (by trivial) (!AO LY (by trivial) rfl (!Ad (!AO C9 (by trivial) rfl (!Ad (!C6 (!Ad (pv 1) (!Ad (pv 2) (!Ad (pv 3) (!Aj))))) (!Aj))) (!Aj))) (by rfl) (by trivial)) (!Al (!BM cF rfl (!Ed (!Bf (pv 0) T.cl_Boards Bb (by trivial) (!Ad (pv 1) (!Aj)))) (@As _ _ (5) _ RK.nd rfl (by trivial) (by trivial)) (!Al (!BN (!Bf (pv 0) T.cl_Boards FG (by trivial) (!Ad (pv 5) (!Ad (pv 1) (!Ad (pv 4) (!Aj))))))) (by intro _;rfl)))),?_⟩;dsimp only[Ca];refine⟨_,rfl,_,rfl,_,rfl,SJ,λtr htr=>?_⟩;have s1:=Am htr (.tup [V.int z,V.int y,bv]);have hrec:Rep NL (upd H tr (.tup [V.int z,V.int y,bv])) (BH z y bk) (.ref tr):=⟨tr,_,rfl,Ae,_,_,rfl,rfl,_,_,rfl,rfl,_,_,rfl,Rep.same s1 _ _ hv,rfl⟩
 have rl:=On (z:=z) (y:=y) ok;refine⟨.ref tr,BH z y bk,rfl,hrec,LJ nb ok,by omega,λwl H2 s2 nw hw=>?_⟩;refine⟨wl,_,rfl,hw,by omega,λrw_ H3 s3 nr hrw=>?_⟩;have s03:=(s1.trans s2).trans s3;have hB3:=hB.same s03;obtain⟨dx,sh,h1,h2,h3,h4⟩:=id hB3;refine⟨_,rfl,p,dx,_,rfl,h1,rfl,_,rfl,p,ds,bs,n,.non,z,rfl,hB3,b0,λtp htp=>?_⟩;have s4:=Am htp (.tup [V.int (z%(bs.length:Int)),V.int ((z+1)%(bs.length:Int))]);have etp:(upd H3 tp (.tup [V.int (z%(bs.length:Int)),V.int ((z+1)%(bs.length:Int))])) tp=some (.tup ((De bs z).map V.int)):=Ae;have hB4:=hB3.same s4;have hrw4:=s4.get hrw;have s04:=s03.trans s4;generalize upd H3 tp (.tup [V.int (z%(bs.length:Int)),V.int ((z+1)%(bs.length:Int))])=H4 at s4 etp hB4 hrw4 s04;obtain⟨dx4,sh4,g1,_,_,_⟩:=id hB4;have ntp:tp≠p:=AK etp g1 (by intro z;cases z);have ndp:tp∉ds:=hB4.notin etp (by intro kvs z;cases z);have nrp:rw_≠p:=AK hrw4 g1 (by intro z;cases z);have ndr:rw_∉ds:=hB4.notin hrw4 (by intro kvs z;cases z);refine⟨tp,rfl,⟨_,AS.of etp⟩,IR (K:=K) (a:=tp) (xs:=(De bs z).map V.int) (λi σ H2=>∃v5,σ=[some (.ref p),some (.int z),some (.int y),some bv,some (.ref rw_),v5]/\C2 Aa H2 p ds (wr bs z (BG (BH z y bk)) ((De bs z).take i)) (n+(i:Int)) .non/\Kb H4 H2 p ds) ⟨none,rfl,by rw[fW,show n+((0:Nat):Int)=n by omega];exact hB4,λ_ _ h _ _=>h⟩ (λi σ H2 _ ⟨_,_,_,k2⟩=>AS.of (k2 _ _ etp ntp ndp)) ?_ ?_⟩
 ·rintro i x σ H5 hi ⟨v5,rfl,hB5,k5⟩
  obtain⟨k,rfl,hk⟩:=ints_get hi;obtain⟨k0,k1⟩:=Iz b0 k (bJ hk);have i2:i<2:=(bT.mp hk).1;have ek:((k.toNat:Nat):Int)=k:=by omega
  obtain⟨dx5,sh5,e1,e2,e3,e4⟩:=id hB5;refine⟨_,rfl,p,dx5,_,rfl,e1,rfl,_,rfl,_,rfl,_,rfl,p,ds,_,_,k.toNat,z,rw_,BG (BH z y bk),by rw[ek];rfl,hB5,by rw[MA];omega,λc hc=>?_,k5 _ _ hrw4 nrp ndr,λH6 hB6 k6=>?_⟩
  ·have:=Qg _ bb c hc;have:((De bs z).take i).length<=2:=by rw[cG];exact cA (ip _ _) (bI 2)
   omega
  ·refine⟨_,rfl,?_,k5.trans k6⟩;rw[cJ,hk];show C2 _ _ _ _ (wr bs z _ ((De bs z).take i++[k])) _ _;rw[WO,show n+((i+1:Nat):Int)=n+(i:Int)+1 by omega];exact hB6
 ·rintro σ H5 ⟨v5,rfl,hB5,k5⟩
  rw[cI (by rw[bE];exact bI _)] at hB5;exact q H5 hB5 ((An.kb s04 p ds).trans k5)
theorem MR (c:BQ)(k:Int)(row:List Int)(z:Int):Bl (FU c k row) z=if z=k then some row else Bl c z:=by
 unfold FU
 by_cases h:(c.any λx=>decide (x.1=k))=true
 ·rw[bV h];unfold Bl
  induction c with
  |nil=>cases h
  |cons x c ih=>
   rw[bX,cP,cP]
   by_cases e:x.1=k
   ·rw[bV e]
    by_cases ez:z=k
    ·rw[bV ez,bM (show(x.1,row).1=z by rw[ez];exact e)];rfl
    ·rw[bP ez,bL (show ¬(x.1,row).1=z from λy=>ez (y.symm.trans e))]
     by_cases h':(c.any λx=>decide (x.1=k))=true
     ·have:=ih h';rw[bP ez] at this;exact this
     ·have same:c.map (λx=>if x.1=k then(x.1,row) else x)=c:=by
       have:∀x∈c,(if x.1=k then(x.1,row) else x)=x:=λx hx=>bP λy=>h' (dR.mpr ⟨x,hx,bM y⟩)
       calc c.map (λx=>if x.1=k then(x.1,row) else x)=c.map (λx=>x):=dB this
        _=c:=iU c
      rw[same]
   ·rw[bP e];have h':(c.any λx=>decide (x.1=k))=true:=by
     rw[dO,bL e,Bool.false_or] at h;exact h
    by_cases ex:x.1=z
    ·rw[bM ex,bP (λy=>e (ex.trans y))]
    ·rw[bL ex];exact ih h'
 ·rw[bP h];unfold Bl;rw[List.find?_append]
  by_cases ez:z=k
  ·have:c.find? (λx=>decide (x.1=z))=none:=eE.mpr λx hx y=>h (dR.mpr ⟨x,hx,by rw[<-ez];exact y⟩)
   rw[this,bV ez,cP,bM ez.symm];rfl
  ·rw[bP ez,cP,bL (show ¬(k,row).1=z from λy=>ez y.symm),List.find?_nil];cases c.find? (λx=>decide (x.1=z))<;>rfl
theorem Pr {bs:List BQ}{i b:Nat}{c:BQ}(hb:b<bs.length):(bs.set i c).getD b []=if i=b then c else bs.getD b []:=by
 unfold List.getD;rw[List.getElem?_set]
 by_cases e:i=b
 ·rw[bV e,bV e,bV (by omega)];rfl
 ·rw[bP e,bP e]
theorem Rr {bs:List BQ}{z:Int}(h:0<bs.length):∀y∈De bs z,0<=y:=λy hy=>(Iz h y hy).1
theorem Vi (z:Int)(row:List Int)(x:Int):∀(l:List Int) (bs:List BQ) (b:Nat),b<bs.length->(∀y∈l,0<=y)->Bl ((wr bs z row l).getD b []) x=if x=z/\(b:Int)∈l then some row else Bl (bs.getD b []) x
 |[],bs,b,_,_=>by rw[bP (λh=>nomatch h.2)];rfl
 |y::l,bs,b,hb,hl=>by
  have y0:=hl y bZ;show Bl ((wr (bs.set y.toNat (FU (bs.getD y.toNat []) z row)) z row l).getD b []) x=_;rw[Vi z row x l _ b (by rw[dZ];exact hb) λu hu=>hl u (bY _ hu),Pr hb]
  by_cases ex:x=z
  ·by_cases hm:(b:Int)∈l
   ·rw[bV ⟨ex,hm⟩,bV ⟨ex,bY _ hm⟩]
   ·rw[bP (λh=>hm h.2)]
    by_cases e:y.toNat=b
    ·rw[bV e,MR,bV ex,bV ⟨ex,by rw[show(b:Int)=y by omega];exact bZ⟩]
    ·rw[bP e,bP λh=>(cf.mp h.2).elim (λz=>e (by omega)) hm]
  ·rw[bP (show ¬(x=z/\(b:Int)∈l) from λh=>ex h.1),bP (show ¬(x=z/\(b:Int)∈y::l) from λh=>ex h.1)]
   by_cases e:y.toNat=b
   ·rw[bV e,MR,bP ex,e]
   ·rw[bP e]
end
section
variable {P:Program}{w:World}{K:W.Frag}{mg:Str->Option Value}{base:Heap}{f Ac Aa Ab Af:Addr}{XC:Nat->Addr}{fd:FuncData}
def Jq (K:W.Frag):Sp:=λvs H Q _=>∃v b,vs=[v]/\Rep NL H (Bh b) v/\Ds b/\∀H',An H H'->Q (.int ((wT (Bh b)).length:Int)) H'
theorem RD (T:Txt K mg Ac Aa Ab Af XC)(F:Fun K "size_of" "size_of" Fd f fd)(C9:Def P w K mg base 9 "words_of" ["thing"] (FQ K)):FnOk P w K mg base CG 10 f fd ["block"] (Jq K):=by
 exists RF
 ·obtain⟨v,b,rfl,_⟩:=h;rfl
 obtain⟨v,b,rfl,hv,ok,q⟩:=h;refine⟨_,(!Al (!Aq (!Av AM (by rfl) T.b_len CA (!Ad (!AO C9 (by trivial) rfl (!Ad (pv 0) (!Aj))) (!Aj))))),?_⟩
 try dsimp only[Ca,Cx.nox,Cx.wish]
 have:=Sf b;have:=size_le ok;refine⟨_,rfl,v,Bh b,rfl,hv,FW ok,by omega,λwl H2 s2 nw hw=>⟨wl,_,rfl,.inl (AQ.of hw),?_⟩⟩;rw[bE];exact q _ s2
def Bg:Bk->List Tg
 | .piece _=>[]
 | .row _ ts=>ts
 | .folder=>[]
def JH (K:W.Frag):Sp:=λvs H Q _=>∃v b,vs=[v]/\Rep NL H (Bh b) v/\Ds b/\∀l us H',An H H'->H l=none->H' l=some (.lst us)->AL NL H' ((Bg b).map JI) us->Q (.ref l) H'
theorem RB (T:Txt K mg Ac Aa Ab Af XC)(F:Fun K "tags_in" "tags_in" Ff f fd):FnOk P w K mg base CG 1 f fd ["block"] (JH K):=by
 exists Rm
 ·obtain⟨v,b,rfl,_⟩:=h;rfl
 obtain⟨v,b,rfl,hv,ok,q⟩:=h;refine⟨_,(!Ai (!AR (!AI CI (!Au Az (pv 0) (!Ak) (λ_ _=>rfl)) (!AH rfl T.c_PIECE) (AG _)) (!Al (!Aq (!Cs (!Aj)))) (!Ay)) (!Ai (!AR (!AI CI (!Au Az (pv 0) (!Ak) (λ_ _=>rfl)) (!AH rfl T.c_ROW) (AG _)) (!Al (!Aq (!Dg E8 (by rfl) T.b_list IM (!Ad (!Au Az (pv 0) (!Ak) (λ_ _=>rfl)) (!Aj))))) (!Ay)) (!Al (!Aq (@Cj _ ["name","kind","tag"] _ _ _ _ _ _ _ _ _ _ rfl (!Ed (!Au Az (pv 0) (!Ak) (λ_ _=>rfl))) (by decide +kernel) (λC s H fp=>⟨(@JR _ (K) _ _ _ _ (3) (by rfl) rfl (!AZ (@As _ _ (0) _ (show(["name","kind","tag"]:List Str).Nodup by decide +kernel) rfl (by trivial) (by trivial)) (!AZ (@As _ _ (1) _ (show(["name","kind","tag"]:List Str).Nodup by decide +kernel) rfl (by trivial) (by trivial)) (!AZ (@As _ _ (2) _ (show(["name","kind","tag"]:List Str).Nodup by decide +kernel) rfl (by trivial) (by trivial)) (!FS)))) (by rfl) (by rfl)),(!AY),(pv 2)⟩) (by intro _;rfl)))))),?_⟩
 try dsimp only[Ca,Cx.nox,Cx.wish]
 cases b with
 |piece z=>
  obtain⟨a,rfl,e⟩:=GB hv;refine⟨_,rfl,a,_,_,_,rfl,rfl,AS.of e,rfl,rfl,_,rfl,Bs rfl ?_⟩;exact⟨Mn,λl hl=>q l [] _ (Am hl _) hl Ae rfl⟩
 |row lv ts=>
  obtain⟨a,d,us,rfl,e,e2,r⟩:=Kf hv;refine⟨_,rfl,a,_,_,_,rfl,rfl,AS.of e,rfl,rfl,_,rfl,AE rfl ?_⟩;refine⟨_,rfl,a,_,_,_,rfl,rfl,AS.of e,rfl,rfl,_,rfl,Bs rfl ?_⟩;exact⟨_,rfl,a,_,_,_,rfl,rfl,AS.of e,rfl,d,_,rfl,.inr (AS.of e2),λl hl=>q l us _ (Am hl _) hl Ae (AL.same (Am hl _) _ _ r)⟩
 |folder=>
  obtain⟨a,d,rfl,e,e2⟩:=DH hv;refine⟨_,rfl,a,_,_,_,rfl,rfl,AS.of e,rfl,rfl,_,rfl,AE rfl ?_⟩;refine⟨_,rfl,a,_,_,_,rfl,rfl,AS.of e,rfl,rfl,_,rfl,AE rfl ?_⟩;exact⟨_,rfl,a,_,_,_,rfl,rfl,AS.of e,rfl,d,rfl,⟨_,AS.of e2⟩,Ir (D3 e2) λl hl=>q l [] _ (Am hl _) hl Ae rfl⟩
def Hy (t:Addr)(n:Int)(l:Addr)(k e s:Int):List (Str×V):=[("own_tag",.ref t),("own_size",.int n),("named",.ref l),("times_named",.int k),("entries_beneath",.int e),("steps_beneath",.int s)]
def D2 (K:W.Frag)(C:Addr):Sp:=λvs H Q _=>∃(x dx ta:Addr) (v:V) (b:Bk),vs=[.ref x,.ref ta,v]/\H x=some (.ins C dx [])/\Rep NL H (Bh b) v/\Ds b/\
 ∀l us H',(∀c o,H c=some o->c≠x->H' c=some o)->H l=none->H' l=some (.lst us)->AL NL H' ((Bg b).map JI) us->H' x=some (.ins C dx (Hy ta ((wT (Bh b)).length:Int) l 0 0 0))->Q .non H'
theorem J1 (T:Txt K mg Ac Aa Ab Af XC)(F:Fun K "__init__" "TakenCell.__init__" BD f fd)(KQ:Def P w K mg base 10 "size_of" ["block"] (Jq K))(KM:Def P w K mg base 1 "tags_in" ["block"] (JH K)):FnOk P w K mg base CG 11 f fd ["self","own_tag","block"] (D2 K Ab):=by
 exists JO
 ·obtain⟨x,dx,ta,v,b,rfl,_⟩:=h;rfl
 obtain⟨x,dx,ta,v,b,rfl,hx,hv,ok,q⟩:=h;refine⟨_,(!Ai (!CZ (pv 0) (pv 1)) (!Ai (!CZ (pv 0) (!AO KQ (by trivial) rfl (!Ad (pv 2) (!Aj)))) (!Ai (!CZ (pv 0) (!AO KM (by trivial) rfl (!Ad (pv 2) (!Aj)))) (!Ai (!CZ (pv 0) (!Ak)) (!Ai (!CZ (pv 0) (!Ak)) (!Al (!CZ (pv 0) (!Ak)))))))),?_⟩
 try dsimp only[Ca,Cx.nox,Cx.wish]
 have tp:∀(o:HO) c ys,H c=some (.tup ys)->(upd H x o) c=some (.tup ys):=λo c ys h=>by rw[Ag (AK h hx (by intro z;cases z))];exact h
 refine⟨_,rfl,_,rfl,x,Ab,dx,[],rfl,hx,T.cl_TakenCell,T.n_TakenCell_own_tag,(by show 0<1000;decide),?_⟩;refine⟨_,rfl,v,b,rfl,DA (tp _) _ _ hv,ok,λH1 s1=>⟨_,rfl,x,Ab,dx,_,rfl,s1.get Ae,T.cl_TakenCell,T.n_TakenCell_own_size,(by show 1<1000;decide),?_⟩⟩;have hx1:∀o,(upd H1 x o) x=some o:=λo=>Ae
 have k1:∀o c u,H c=some u->c≠x->(upd H1 x o) c=some u:=λo c u h n=>by rw[Ag n];exact s1.get (by rw[Ag n];exact h)
 refine⟨_,rfl,v,b,rfl,DA (λc ys h=>k1 _ c _ h (AK h hx (by intro z;cases z))) _ _ hv,ok,λl us H2 s2 nl hl r=>⟨_,rfl,x,Ab,dx,_,rfl,s2.get (hx1 _),T.cl_TakenCell,T.n_TakenCell_named,(by show 2<1000;decide),?_⟩⟩;have nlx:l≠x:=λz=>by rw[z,hx1] at nl;cases nl
 refine⟨_,rfl,x,Ab,dx,_,rfl,Ae,T.cl_TakenCell,T.n_TakenCell_times_named,(by show 3<1000;decide),?_⟩;refine⟨_,rfl,x,Ab,dx,_,rfl,Ae,T.cl_TakenCell,T.n_TakenCell_entries_beneath,(by show 4<1000;decide),?_⟩;refine⟨_,rfl,x,Ab,dx,_,rfl,Ae,T.cl_TakenCell,T.n_TakenCell_steps_beneath,(by show 5<1000;decide),?_⟩;rw[EL,EL,EL];have nlH:H l=none:=by
  cases h:H l with
  |none=>rfl
  |some o=>rw[k1 _ l o h nlx] at nl;cases nl
 refine q l us _ (λc o h n=>by rw[Ag n];exact s2.get (k1 _ c o h n)) nlH (by rw[Ag nlx];exact hl) (D4 (λc ys h=>?_) _ _ r) Ae;rw[Ag (λz=>by have:=s2.get (hx1 (.ins Ab dx (EY "own_size" (V.int ((wT (Bh b)).length:Int)) (EY "own_tag" (V.ref ta) []))));rw[z,this] at h;cases h)];exact h
def Ld (bo dt dz dd:Addr)(n:Int):List (Str×V):=[("boards",.ref bo),("taken",.ref dt),("by_sums",.ref dz),("draft",.ref dd),("first_maybe_free",.int n)]
def G7 (K:W.Frag)(C:Addr):Sp:=λvs H Q _=>∃(x dx bo:Addr),vs=[.ref x,.ref bo]/\H x=some (.ins C dx [])/\
 ∀dt dz dd H',(∀c o,H c=some o->c≠x->H' c=some o)->dt≠dz->dt≠dd->dz≠dd->H' dt=some (.dK [])->H' dz=some (.dK [])->H' dd=some (.dK [])->H' x=some (.ins C dx (Ld bo dt dz dd 1))->(H dt=none/\H dz=none/\H dd=none)->Q .non H'
theorem OD (T:Txt K mg Ac Aa Ab Af XC)(F:Fun K "__init__" "Pool.__init__" DP f fd):FnOk P w K mg base CG 1 f fd ["self","boards"] (G7 K Af):=by
 exists OE
 ·obtain⟨x,dx,bo,rfl,_⟩:=h;rfl
 obtain⟨x,dx,bo,rfl,hx,q⟩:=h;refine⟨_,(!Ai (!CZ (pv 0) (pv 1)) (!Ai (!CZ (pv 0) (!GC)) (!Ai (!CZ (pv 0) (!GC)) (!Ai (!CZ (pv 0) (!GC)) (!Al (!CZ (pv 0) (!Ak))))))),?_⟩
 try dsimp only[Ca,Cx.nox,Cx.wish]
 refine⟨_,rfl,_,rfl,x,Af,dx,[],rfl,hx,T.cl_Pool,T.n_Pool_boards,(by show 0<1000;decide),?_⟩;refine λdt hdt=>?_
 have n1:dt≠x:=λz=>by rw[z,Ae] at hdt;cases hdt
 refine⟨_,rfl,x,Af,dx,_,rfl,(Am hdt _).get Ae,T.cl_Pool,T.n_Pool_taken,(by show 1<1000;decide),?_⟩;refine λdz hdz=>?_
 have n2:dz≠x:=λz=>by rw[z,Ae] at hdz;cases hdz
 have e1:dz≠dt:=λz=>by rw[z,Ag n1,Ae] at hdz;cases hdz
 refine⟨_,rfl,x,Af,dx,_,rfl,(Am hdz _).get Ae,T.cl_Pool,T.n_Pool_by_sums,(by show 2<1000;decide),?_⟩;refine λdd hdd=>?_
 have n3:dd≠x:=λz=>by rw[z,Ae] at hdd;cases hdd
 have e2:dd≠dz:=λz=>by rw[z,Ag n2,Ae] at hdd;cases hdd
 have e3:dd≠dt:=λz=>by rw[z,Ag n1,Ag (Ne.symm e1),Ag n1,Ae] at hdd;cases hdd
 refine⟨_,rfl,x,Af,dx,_,rfl,(Am hdd _).get Ae,T.cl_Pool,T.n_Pool_draft,(by show 3<1000;decide),?_⟩;refine⟨_,rfl,x,Af,dx,_,rfl,Ae,T.cl_Pool,T.n_Pool_first_maybe_free,(by show 4<1000;decide),?_⟩;refine q dt dz dd _ (λc o h n=>?_) (Ne.symm e1) (Ne.symm e3) (Ne.symm e2) ?_ ?_ ?_ Ae ⟨by rw[Ag n1] at hdt;exact hdt,by rw[Ag n2,Ag e1,Ag n2] at hdz;exact hdz,by rw[Ag n3,Ag e2,Ag n3,Ag e3,Ag n3] at hdd;exact hdd⟩
 ·have a1:c≠dt:=λz=>by rw[<-z,Ag n,h] at hdt;cases hdt
  have b1:=h;have a2:c≠dz:=λz=>by rw[<-z,Ag n,Ag a1,Ag n,h] at hdz;cases hdz
  have a3:c≠dd:=λz=>by rw[<-z,Ag n,Ag a2,Ag n,Ag a1,Ag n,h] at hdd;cases hdd
  rw[Ag n,Ag n,Ag a3,Ag n,Ag a2,Ag n,Ag a1,Ag n];exact h
 ·rw[Ag n1,Ag n1,Ag (Ne.symm e3),Ag n1,Ag (Ne.symm e1),Ag n1,Ae]
 ·rw[Ag n2,Ag n2,Ag (Ne.symm e2),Ag n2,Ae]
 ·rw[Ag n3,Ag n3,Ae]
structure Cl where
 z:Int
 y:Int
 bk:Bk
 v:V
 c:Addr
 dx:Addr
 ta:Addr
 l:Addr
 k:Int
 en:Int
 st:Int
structure Pl where
 dp:Addr
 bo:Addr
 dt:Addr
 dz:Addr
 dd:Addr
 n:Int
 m:Nat
def KP (C:Addr)(H:Hp)(e:Cl):Prop:=H e.c=some (.ins C e.dx (Hy e.ta ((wT (Bh e.bk)).length:Int) e.l e.k e.en e.st))/\H e.ta=some (.tup [.int e.z,.int e.y,.int (AA e.bk)])/\Rep NL H (Bh e.bk) e.v/\Ds e.bk
def Pa (cs:List Cl):List (Key×V):=cs.map λe=>(Sum.inl e.z,.ref e.c)
def So (cs:List Cl):List (Key×V):=cs.map λe=>(Sum.inl e.z,e.v)
def Ky (CP CT:Addr)(H:Hp)(p:Addr)(q:Pl)(cs:List Cl):Prop:=H p=some (.ins CP q.dp (Ld q.bo q.dt q.dz q.dd q.n))/\H q.dt=some (.dK (Pa cs))/\(∀e∈cs,KP CT H e)/\(cs.map (·.z)).Nodup
theorem Oz {κ:Type}[DecidableEq κ]:∀{kvs:List (κ×V)} (_:(kvs.map (·.1)).Nodup) {k:κ} {v:V},(k,v)∈kvs->BO kvs k=some v
 |[],_,_,_,h=>nomatch h
 |x::kvs,nd,k,v,h=>by
  rw[bX,cV] at nd;rcases cf.mp h with rfl|h
  ·exact GL rfl
  ·rw[GF (λe=>nd.1 (by rw[e];exact bK.mpr ⟨_,h,rfl⟩))];exact Oz nd.2 h
theorem KI {g:Cl->V}:∀{cs:List Cl},(cs.map (·.z)).Nodup->((cs.map λe=>((Sum.inl e.z:Key),g e)).map (·.1)).Nodup
 |[],_=>dS
 |e::cs,h=>by
  rw[bX,cV] at h;rw[bX,bX,cV];refine⟨λq=>h.1 ?_,KI h.2⟩;obtain⟨x,hx,e1⟩:=bK.mp q;obtain⟨u,hu,rfl⟩:=bK.mp hx;exact bK.mpr ⟨u,hu,dE e1⟩
theorem Q0 {cs:List Cl}(nd:(cs.map (·.z)).Nodup){e:Cl}(h:e∈cs):BO (Pa cs) (Sum.inl e.z)=some (.ref e.c):=Oz (KI nd) (bK.mpr ⟨e,h,rfl⟩)
theorem VN {cs:List Cl}(nd:(cs.map (·.z)).Nodup){e:Cl}(h:e∈cs):BO (So cs) (Sum.inl e.z)=some e.v:=Oz (KI nd) (bK.mpr ⟨e,h,rfl⟩)
def FO (K:W.Frag)(CP CT:Addr):Sp:=λvs H Q _=>∃p q cs e,vs=[.ref p,.int e.z]/\Ky CP CT H p q cs/\e∈cs/\Q (.ref e.ta) H
theorem PU (T:Txt K mg Ac Aa Ab Af XC)(F:Fun K "tag" "Pool.tag" Ez f fd):FnOk P w K mg base CG 1 f fd ["self","number"] (FO K Af Ab):=by
 exists Pt
 ·obtain⟨p,q,cs,e,rfl,_⟩:=h;rfl
 obtain⟨p,q,cs,e,rfl,⟨h1,h2,h4,nd⟩,he,hq⟩:=h;have hu:=Dy hr;refine⟨_,(!Al (!Aq (!A6 (!Ks hu (!A6 (pv 0)) (pv 1) (λ_ _=>rfl))))),?_⟩
 try dsimp only[Ca,Cx.nox,Cx.wish]
 have g:ED H q.dt (.int e.z) (some (.ref e.c)):=by
  have:=ED.k (k:=Sum.inl e.z) h2;rw[Q0 nd he] at this;exact this
 exact⟨_,rfl,p,Af,q.dp,_,_,rfl,h1,T.cl_Pool,T.n_Pool_taken,rfl,_,rfl,q.dt,_,rfl,g,e.c,Ab,e.dx,_,_,rfl,(h4 e he).1,T.cl_TakenCell,T.n_TakenCell_own_tag,rfl,hq⟩
def E3 (K:W.Frag)(_CP _CT:Addr):Sp:=λ_ _ _ _=>False
theorem Lh (T:Txt K mg Ac Aa Ab Af XC)(F:Fun K "entries" "Pool.entries" Ci f fd):FnOk P w K mg base CG 1 f fd ["self","number"] (E3 K Af Ab):=
 F.ok Lr (λvs H Q E h=>h.elim) (λcdv A outer s H vs Q E hr h=>h.elim)
def He (K:W.Frag)(_CP _CT:Addr):Sp:=λ_ _ _ _=>False
theorem OR (T:Txt K mg Ac Aa Ab Af XC)(F:Fun K "deep" "Pool.deep" DU f fd):FnOk P w K mg base CG 1 f fd ["self","number"] (He K Af Ab):=
 F.ok OH (λvs H Q E h=>h.elim) (λcdv A outer s H vs Q E hr h=>h.elim)
def D1 (K:W.Frag)(CP CT:Addr):Sp:=λvs H Q _=>∃p q cs e,∃(ta:Addr) (y k:V),vs=[.ref p,.ref ta]/\Ky CP CT H p q cs/\e∈cs/\H ta=some (.tup [.int e.z,y,k])/\Q .non (upd H e.c (.ins CT e.dx (Hy e.ta ((wT (Bh e.bk)).length:Int) e.l (e.k+1) e.en e.st)))
theorem OT (T:Txt K mg Ac Aa Ab Af XC)(F:Fun K "hold" "Pool.hold" DO f fd):FnOk P w K mg base CG 1 f fd ["self","tag"] (D1 K Af Ab):=by
 exists Km
 ·obtain⟨p,q,cs,e,ta,y,k,rfl,_⟩:=h;rfl
 obtain⟨p,q,cs,e,ta,y,k,rfl,⟨h1,h2,h4,nd⟩,he,ht,hq⟩:=h;have hu:=Dy hr;refine⟨_,(!Ai (@AB _ _ (2) _ _ _ _ Km.nd rfl (by trivial) (!Ks hu (!A6 (pv 0)) (!Au Az (pv 1) (!Ak) (λ_ _=>rfl)) (λ_ _=>rfl)) (by rfl) (by trivial)) (!Al (!IY (pv 2) (!Ak) LG))),?_⟩
 try dsimp only[Ca,Cx.nox,Cx.wish]
 have g:ED H q.dt (.int e.z) (some (.ref e.c)):=by
  have:=ED.k (k:=Sum.inl e.z) h2;rw[Q0 nd he] at this;exact this
 have hc:=(h4 e he).1;refine⟨_,rfl,p,Af,q.dp,_,_,rfl,h1,T.cl_Pool,T.n_Pool_taken,rfl,_,rfl,ta,_,_,_,rfl,rfl,AS.of ht,rfl,q.dt,_,rfl,g,?_⟩;exact⟨_,rfl,e.c,Ab,e.dx,_,_,rfl,hc,T.cl_TakenCell,T.n_TakenCell_times_named,rfl,_,_,rfl,rfl,e.dx,_,hc,(by show 6<1000;decide),hq⟩
def Dv (K:W.Frag)(CP CT:Addr):Sp:=λvs H Q _=>∃p q cs,vs=[.ref p]/\Ky CP CT H p q cs/\(∀(i:Nat) e,cs[i]?=some e->e.z=(i:Int)+1)/\1<=q.n/\q.n<=(cs.length:Int)+1/\
 ∀H',H' p=some (.ins CP q.dp (Ld q.bo q.dt q.dz q.dd ((cs.length:Int)+1)))->(∀b,b≠p->H' b=H b)->Q (.int ((cs.length:Int)+1)) H'
theorem Je (T:Txt K mg Ac Aa Ab Af XC)(F:Fun K "free_number" "Pool.free_number" Bj f fd):FnOk P w K mg base CG 1 f fd ["self"] (Dv K Af Ab):=by
 exists Jb
 ·obtain⟨p,q,cs,rfl,_⟩:=h;rfl
 obtain⟨p,q,cs,rfl,⟨h1,h2,h4,nd⟩,zs,n1,n2,hq⟩:=h;have hu:=Dy hr;refine⟨_,(!Ai (!Vg cF (!FE (!Ua hu (!A6 (pv 0)) (!A6 (pv 0))) (by first|exact CH _ (by decide) (by decide)|rfl)) (!Al (!IY (pv 0) (!Ak) LG))) (!Al (!Aq (!A6 (pv 0))))),?_⟩
 try dsimp only[Ca,Cx.nox,Cx.wish]
 have nt:q.dt≠p:=AK h2 h1 (by intro z;cases z);have vn:∀j:Int,(cs.length:Int)<j->BO (Pa cs) (Sum.inl j)=none:=λj hj=>by
  unfold BO;rw[eD,eE];intro x hx;obtain⟨e,he,rfl⟩:=bK.mp hx;obtain⟨i,hi,rfl⟩:=cS he;have:=zs i _ (bF hi);intro z;have:=dE (cX z);omega
 refine⟨λm σ H2=>∃j:Int,m=((cs.length:Int)+1-j).toNat/\1<=j/\j<=(cs.length:Int)+1/\σ=[some (.ref p)]/\H2 p=some (.ins Af q.dp (Ld q.bo q.dt q.dz q.dd j))/\∀b,b≠p->H2 b=H b,⟨_,q.n,rfl,n1,n2,rfl,h1,λ_ _=>rfl⟩,?_⟩
 rintro m σ H2 ⟨j,rfl,j1,j2,rfl,hp,ho⟩
 have hdt:H2 q.dt=some (.dK (Pa cs)):=by rw[ho _ nt];exact h2
 refine⟨_,rfl,p,Af,q.dp,_,_,rfl,hp,T.cl_Pool,T.n_Pool_first_maybe_free,rfl,_,rfl,p,Af,q.dp,_,_,rfl,hp,T.cl_Pool,T.n_Pool_taken,rfl,q.dt,_,rfl,ED.k (k:=Sum.inl j) hdt,_,rfl,IE (λc=>?_) (λc=>?_)⟩
 ·have hj:j<=(cs.length:Int):=iD λz=>by
   rw[vn j (by omega)] at c;cases c
  refine⟨λσ H'=>σ=[some (.ref p)]/\H' p=some (.ins Af q.dp (Ld q.bo q.dt q.dz q.dd (j+1)))/\∀b,b≠p->H' b=H b,?_,?_⟩
  ·rintro σ' H' ⟨rfl,a1,a2⟩
   exact⟨((cs.length:Int)+1-(j+1)).toNat,by omega,j+1,rfl,by omega,by omega,rfl,a1,a2⟩
  ·refine⟨_,rfl,p,Af,q.dp,_,_,rfl,hp,T.cl_Pool,T.n_Pool_first_maybe_free,rfl,_,_,rfl,rfl,q.dp,_,hp,(by show 5<1000;decide),rfl,Ae,λb hb=>?_⟩;rw[Ag hb];exact ho b hb
 ·have hj:j=(cs.length:Int)+1:=iD λz=>by
   have li:(j-1).toNat<cs.length:=by omega
   have hz:=zs _ _ (bF li);have:=Q0 nd (eT li);rw[hz,show(((j-1).toNat:Nat):Int)+1=j by omega] at this;rw[this] at c;exact c rfl
  subst hj;exact⟨_,rfl,p,Af,q.dp,_,_,rfl,hp,T.cl_Pool,T.n_Pool_first_maybe_free,rfl,hq H2 hp ho⟩
theorem KP.tup {C:Addr}{H H':Hp}{e:Cl}(hc:H' e.c=H e.c)(ht:∀c ys,H c=some (.tup ys)->H' c=some (.tup ys))(h:KP C H e):KP C H' e:=⟨by rw[hc];exact h.1,ht _ _ h.2.1,DA ht _ _ h.2.2.1,h.2.2.2⟩
theorem Ky.same {CP CT:Addr}{H H':Hp}{p:Addr}{q:Pl}{cs:List Cl}(s:An H H')(h:Ky CP CT H p q cs):Ky CP CT H' p q cs:=
 ⟨s.get h.1,s.get h.2.1,λe he=>(h.2.2.1 e he).tup ((s.get (h.2.2.1 e he).1).trans (h.2.2.1 e he).1.symm) (λc ys h=>s.get h),h.2.2.2⟩
def DG (K:W.Frag)(_CP _CT:Addr):Sp:=λvs H Q _=>∃p v,vs=[p,v]/\Rep NL H (Bh .folder) v/\∀H',An H H'->Q (.int 0) H'
theorem Jx (T:Txt K mg Ac Aa Ab Af XC)(F:Fun K "entries_of" "Pool.entries_of" Bu f fd)(FC:A9 P w K mg base 1 Af "entries" ["self","number"] (E3 K Af Ab)):FnOk P w K mg base CG 2 f fd ["self","folder"] (DG K Af Ab):=by
 exists Jp
 ·obtain⟨p,v,rfl,_⟩:=h;rfl
 obtain⟨p,v,rfl,hv,hq⟩:=h;have hu:=Dy hr;refine⟨_,(!Al (!Aq (!Av (Qm rfl) (by rfl) T.b_sum UH (!Ad (@JT _ ["name","kind","tag","self"] [none,none,none,some 0] _ _ _ _ _ _ _ _ _ _ _ rfl (!Ed (!Au Az (pv 1) (!Ak) (λ_ _=>rfl))) (by rfl) rfl (by repeat (first|exact trivial|refine⟨rfl,?_⟩)) (by repeat (first|exact trivial|refine⟨λh=>(by first|exact⟨_,rfl⟩|cases h),?_⟩)) (λC s H fp=>⟨(@JR _ (K) _ _ _ _ (3) (by rfl) rfl (!AZ (@As _ _ (0) _ (show(["name","kind","tag","self"]:List Str).Nodup by decide +kernel) rfl (by trivial) (by trivial)) (!AZ (@As _ _ (1) _ (show(["name","kind","tag","self"]:List Str).Nodup by decide +kernel) rfl (by trivial) (by trivial)) (!AZ (@As _ _ (2) _ (show(["name","kind","tag","self"]:List Str).Nodup by decide +kernel) rfl (by trivial) (by trivial)) (!FS)))) (by rfl) (by rfl)),(!AY),(!AC DF (!Ak) (!Qa (!AI CI (pv 1) (!AH rfl T.c_FOLDER_ENTRY) (AG _)) (!Bf (pv 3) T.cl_Pool FC (by trivial) (!Ad (!Au (Hn (K:=K) (by rfl)) (pv 2) (!Ak) (λ_ _=>rfl)) (!Aj))) (!Ak)))⟩) (by intro _;rfl)) (!Aj))))),?_⟩
 try dsimp only[Ca,Cx.nox,Cx.wish]
 obtain⟨a,b,rfl,e1,e2⟩:=DH hv;exact⟨_,rfl,a,_,_,_,rfl,rfl,AS.of e1,rfl,b,rfl,⟨_,AS.of e2⟩,Ir (D3 e2) λl hl=>⟨l,[],rfl,AQ.of Ae,hq _ (Am hl _)⟩⟩
def EA (K:W.Frag)(_CP _CT:Addr):Sp:=λvs H Q _=>∃p v,vs=[p,v]/\Rep NL H (Bh .folder) v/\∀H',An H H'->Q (.int 0) H'
theorem KN (T:Txt K mg Ac Aa Ab Af XC)(F:Fun K "steps_of" "Pool.steps_of" BR f fd)(Im:A9 P w K mg base 1 Af "deep" ["self","number"] (He K Af Ab)):FnOk P w K mg base CG 2 f fd ["self","folder"] (EA K Af Ab):=by
 exists Gu
 ·obtain⟨p,v,rfl,_⟩:=h;rfl
 obtain⟨p,v,rfl,hv,hq⟩:=h;have hu:=Dy hr;refine⟨_,(!Ai (@LL _ ["name","kind","tag","self"] [none,none,none,some 0] (2) _ _ _ _ _ _ _ _ _ _ _ _ _ _ Gu.nd rfl (by trivial) rfl (!Ed (!Au Az (pv 1) (!Ak) (λ_ _=>rfl))) (by rfl) rfl (by repeat (first|exact trivial|refine⟨rfl,?_⟩)) (by repeat (first|exact trivial|refine⟨λh=>(by first|exact⟨_,rfl⟩|cases h),?_⟩)) (λC s H fp=>⟨(@JR _ (K) _ _ _ _ (3) (by rfl) rfl (!AZ (@As _ _ (0) _ (show(["name","kind","tag","self"]:List Str).Nodup by decide +kernel) rfl (by trivial) (by trivial)) (!AZ (@As _ _ (1) _ (show(["name","kind","tag","self"]:List Str).Nodup by decide +kernel) rfl (by trivial) (by trivial)) (!AZ (@As _ _ (2) _ (show(["name","kind","tag","self"]:List Str).Nodup by decide +kernel) rfl (by trivial) (by trivial)) (!FS)))) (by rfl) (by rfl)),(!AY),(!AC DF (!Ak) (!Qa (!AI CI (pv 1) (!AH rfl T.c_FOLDER_ENTRY) (AG _)) (!Bf (pv 3) T.cl_Pool Im (by trivial) (!Ad (!Au (Hn (K:=K) (by rfl)) (pv 2) (!Ak) (λ_ _=>rfl)) (!Aj))) (!Ak)))⟩) (by intro _;rfl) (by rfl) (by trivial)) (!Al (!Aq (!Wo rfl (by rfl) T.b_max (!Ad (pv 2) (!Aj)))))),?_⟩
 try dsimp only[Ca,Cx.nox,Cx.wish]
 obtain⟨a,b,rfl,e1,e2⟩:=DH hv;exact⟨_,rfl,a,_,_,_,rfl,rfl,AS.of e1,rfl,b,rfl,⟨_,AS.of e2⟩,Ir (D3 e2) λl hl=>⟨_,rfl,l,[],rfl,AQ.of Ae,hq _ (Am hl _)⟩⟩
theorem map_one {α β:Type}{g:α->β}(hg:∀a b,g a=g b->a=b):∀{l l':List α},l.map g=l'.map g->l=l'
 |[],[],_=>rfl
 |[],_::_,h=>nomatch h
 |_::_,[],h=>nomatch h
 |x::l,y::l',h=>by
  rw[bX,bX] at h;injection h with h1 h2
  rw[hg x y h1,map_one hg h2]
theorem Wt (a b:Tg)(h:JI a=JI b):a=b:=by
 obtain⟨a1,a2,a3⟩:=a;obtain⟨b1,b2,b3⟩:=b;injection h with h
 injection h with h1 h
 injection h with h2 h
 injection h with h3 _
 injection h1 with h1
 injection h2 with h2
 injection h3 with h3
 dsimp only at h1 h2 h3;rw[h1,h2,h3]
theorem Ox {a b:Bk}(h:Bh a=Bh b):a=b:=by
 cases a with
 |piece z=>
  cases b with
  |piece z'=>injection h with h;injection h with _ h;injection h with h _;injection h with h;rw[h]
  |row lv ts=>injection h with h;injection h with h _;injection h with h;cases h
  |folder=>injection h with h;injection h with h _;injection h with h;cases h
 |row lv ts=>
  cases b with
  |piece z'=>injection h with h;injection h with h _;injection h with h;cases h
  |row lv' ts'=>
   injection h with h;injection h with _ h;injection h with h1 h;injection h with h2 _
   injection h1 with h1
   injection h2 with h2
   rw[h1,map_one Wt h2]
  |folder=>injection h with h;injection h with h _;injection h with h;cases h
 |folder=>
  cases b with
  |piece z'=>injection h with h;injection h with h _;injection h with h;cases h
  |row lv ts=>injection h with h;injection h with h _;injection h with h;cases h
  |folder=>rfl
theorem Dk {α β:Type}{g:α->β}:∀{l:List α},(l.map g).Nodup->∀{x y:α},x∈l->y∈l->g x=g y->x=y
 |[],_,_,_,h,_,_=>nomatch h
 |a::l,nd,x,y,hx,hy,e=>by
  rw[bX,cV] at nd;rcases cf.mp hx with hx|hx
  ·rcases cf.mp hy with hy|hy
   ·rw[hx,hy]
   ·exact(nd.1 (by rw[<-hx,e];exact bK.mpr ⟨_,hy,rfl⟩)).elim
  ·rcases cf.mp hy with hy|hy
   ·exact(nd.1 (by rw[<-hy,<-e];exact bK.mpr ⟨_,hx,rfl⟩)).elim
   ·exact Dk nd.2 hx hy e
def bump (zs:List Int)(e:Cl):Cl:={ e with k:=e.k+(zs.count e.z:Int) }
theorem Tj (zs ys:List Int)(e:Cl):bump ys (bump zs e)=bump (zs++ys) e:=by
 unfold bump;rw[List.count_append];simp only[Int.natCast_add,Int.add_assoc]
theorem Vf (e:Cl):bump [] e=e:=by
 unfold bump;simp
theorem SW (cs:List Cl):cs.map (bump [])=cs:=by
 rw[show(bump []:Cl->Cl)=id from funext Vf];simp
theorem RJ (zs ys:List Int)(cs:List Cl):(cs.map (bump zs)).map (bump ys)=cs.map (bump (zs++ys)):=by
 rw[cw];exact dB λe _=>Tj zs ys e
theorem Uj (zs:List Int)(cs:List Cl):Pa (cs.map (bump zs))=Pa cs:=by unfold Pa;rw[cw];rfl
theorem Pu (zs:List Int)(cs:List Cl):So (cs.map (bump zs))=So cs:=by unfold So;rw[cw];rfl
theorem W2 (zs:List Int)(cs:List Cl):(cs.map (bump zs)).map (·.z)=cs.map (·.z):=by rw[cw];rfl
theorem J9 (zs:List Int)(cs:List Cl):(cs.map (bump zs)).map (·.c)=cs.map (·.c):=by rw[cw];rfl
def Fb (cs:List Cl)(s:Int):List Int:=(cs.filter (λe=>decide (AA e.bk=s))).map (·.z)
theorem Ny (zs:List Int)(s:Int):∀cs:List Cl,Fb (cs.map (bump zs)) s=Fb cs s
 |[]=>rfl
 |e::cs=>by
  have ih:=Ny zs s cs;unfold Fb at ih ⊢;rw[bX,eV,eV];have:decide (AA (bump zs e).bk=s)=decide (AA e.bk=s):=rfl;rw[this];cases decide (AA e.bk=s)
  ·exact ih
  ·show(bump zs e).z::_=e.z::_;rw[ih];rfl
theorem NB (cs:List Cl)(e:Cl)(s:Int):Fb (cs++[e]) s=Fb cs s++if AA e.bk=s then[e.z] else[]:=by
 unfold Fb;rw[hZ,cg]
 by_cases h:AA e.bk=s
 ·rw[bV h,gA (by simpa using h)];rfl
 ·rw[bP h,gB (by simpa using h)];rfl
theorem Fw {cs:List Cl}{s z:Int}:z∈Fb cs s↔∃e∈cs,AA e.bk=s/\e.z=z:=by
 unfold Fb;rw[bK];constructor
 ·rintro⟨e,he,rfl⟩
  rw[dI,cz] at he;exact⟨e,he.1,he.2,rfl⟩
 ·rintro⟨e,he,hs,rfl⟩
  exact⟨e,dI.mpr ⟨he,by simpa using hs⟩,rfl⟩
theorem Mq (cs:List Cl)(s:Int):(Fb cs s).length<=cs.length:=by
 unfold Fb;rw[bE];exact eG _ _
def TN (ns:List Int):List (Key×V):=ns.map λz=>(Sum.inl z,V.bl true)
def UN (bs:List (Int×Addr)):List (Key×V):=bs.map λx=>(Sum.inl x.1,V.ref x.2)
theorem Kg {κ:Type}[DecidableEq κ]{kvs:List (κ×V)}{k:κ}(h:∀x∈kvs,x.1≠k):BO kvs k=none:=by
 unfold BO;rw[eD,eE];intro x hx z;exact h x hx (cX z)
theorem Ww {κ:Type}[DecidableEq κ]{kvs:List (κ×V)}{k:κ}{v:V}(h:BO kvs k=some v):(k,v)∈kvs:=by
 unfold BO at h;rw[cm] at h;obtain⟨x,hx,rfl⟩:=h;have:=List.mem_of_find?_eq_some hx;have e:x.1=k:=by simpa using List.find?_some hx
 rw[<-e];exact this
structure BsAt (H:Hp) (q:Pl) (cs:List Cl) (bs:List (Int×Addr)):Prop where
 h:H q.dz=some (.dK (UN bs))
 k:(bs.map (·.1)).Nodup
 a:(bs.map (·.2)).Nodup
 d:∀x∈bs,H x.2=some (.dK (TN (Fb cs x.1)))/\x.2≠q.dt/\x.2≠q.dz/\x.2≠q.dd
 all:∀e∈cs,∃x∈bs,x.1=AA e.bk
theorem Uc {bs:List (Int×Addr)}(nd:(bs.map (·.1)).Nodup){x:Int×Addr}(h:x∈bs):BO (UN bs) (Sum.inl x.1)=some (.ref x.2):=by
 refine Oz ?_ (bK.mpr ⟨x,h,rfl⟩);unfold UN;rw[cw,show((λy:Key×V=>y.1)∘λx:Int×Addr=>((Sum.inl x.1:Key),V.ref x.2))=(λz:Int=>(Sum.inl z:Key))∘(λx:Int×Addr=>x.1) from rfl,<-cw];exact List.Pairwise.map _ (λa b n e=>n (dE e)) nd
theorem Vx {bs:List (Int×Addr)}{s:Int}{v:V}(h:BO (UN bs) (Sum.inl s)=some v):∃x∈bs,x.1=s/\v=.ref x.2:=by
 obtain⟨x,hx,e⟩:=bK.mp (Ww h);exact⟨x,hx,dE (congrArg Prod.fst e),(congrArg Prod.snd e).symm⟩
theorem BsAt.no {H:Hp}{q:Pl}{cs:List Cl}{bs:List (Int×Addr)}(B:BsAt H q cs bs){s:Int}(h:BO (UN bs) (Sum.inl s)=none):Fb cs s=[]:=by
 rw[List.eq_nil_iff_forall_not_mem];intro z hz;obtain⟨e,he,rfl,rfl⟩:=Fw.mp hz;obtain⟨x,hx,hs⟩:=B.all e he;rw[<-hs,Uc B.k hx] at h;cases h
structure PAt (CP CT:Addr) (H:Hp) (p:Addr) (q:Pl) (cs:List Cl) (bs:List (Int×Addr)):Prop where
 t:Ky CP CT H p q cs
 d:H q.dd=some (.dK (So (cs.drop q.m)))
 m:q.m<=cs.length
 b:BsAt H q cs bs
 n1:q.dt≠q.dz
 n2:q.dt≠q.dd
 n3:q.dz≠q.dd
 c:(cs.map (·.c)).Nodup
 z:∀(i:Nat) e,cs[i]?=some e->e.z=(i:Int)+1
 w:bs.length<=cs.length
 f1:1<=q.n
 f2:q.n<=(cs.length:Int)+1
def By (p:Addr)(q:Pl)(cs:List Cl)(bs:List (Int×Addr)):List Addr:=p::q.dt::q.dz::q.dd::(bs.map (·.2)++cs.map (·.c))
def YJ (L:List Addr)(H H':Hp):Prop:=∀a o,H a=some o->a∉L->H' a=some o
theorem An.frm {L:List Addr}{H H':Hp}(s:An H H'):YJ L H H':=λ_ _ h _=>s.get h
theorem PAt.same {CP CT:Addr}{H H':Hp}{p:Addr}{q:Pl}{cs:List Cl}{bs:List (Int×Addr)}(s:An H H')(h:PAt CP CT H p q cs bs):PAt CP CT H' p q cs bs:=
 { h with t:=h.t.same s,d:=s.get h.d,b:={ h.b with h:=s.get h.b.h,d:=λx hx=>⟨s.get (h.b.d x hx).1,(h.b.d x hx).2⟩ } }
theorem PAt.apart {CP CT:Addr}{H:Hp}{p:Addr}{q:Pl}{cs:List Cl}{bs:List (Int×Addr)}(h:PAt CP CT H p q cs bs){a:Addr}{o:HO}(e:H a=some o)(n1:∀C d fs,o≠.ins C d fs)(n2:∀kvs,o≠.dK kvs):a∉By p q cs bs:=by
 have no:∀{b u},H b=some u->u≠o->a≠b:=λ{b u} hb hn z=>hn (by rw[z,hb] at e;exact bO e)
 unfold By;simp only[List.mem_cons,List.mem_append,List.mem_map,not_or];refine⟨no h.t.1 (Ne.symm (n1 _ _ _)),no h.t.2.1 (Ne.symm (n2 _)),no h.b.h (Ne.symm (n2 _)),no h.d (Ne.symm (n2 _)),?_,?_⟩
 ·rintro⟨x,hx,z⟩
  exact no (h.b.d x hx).1 (Ne.symm (n2 _)) z.symm
 ·rintro⟨x,hx,z⟩
  exact no (h.t.2.2.1 x hx).1 (Ne.symm (n1 _ _ _)) z.symm
theorem Ky.hold {CP CT:Addr}{H:Hp}{p:Addr}{q:Pl}{cs:List Cl}(h:Ky CP CT H p q cs)(nc:(cs.map (·.c)).Nodup){e:Cl}(he:e∈cs):Ky CP CT (upd H e.c (.ins CT e.dx (Hy e.ta ((wT (Bh e.bk)).length:Int) e.l (e.k+1) e.en e.st))) p q (cs.map (bump [e.z])):=by
 obtain⟨h1,h2,h4,nd⟩:=h;have hc:=(h4 e he).1;have n1:p≠e.c:=λz=>by
  rw[z,hc] at h1;have:=bO h1;injection this with _ _ this
  injection this with this _
  injection this with this _
  revert this
  decide
 refine⟨by rw[Ag n1];exact h1,by rw[Ag (AK h2 hc (by intro z;cases z)),Uj];exact h2,λx hx=>?_,by rw[W2];exact nd⟩;obtain⟨y,hy,rfl⟩:=bK.mp hx;have ht:∀c ys,H c=some (.tup ys)->(upd H e.c (.ins CT e.dx (Hy e.ta ((wT (Bh e.bk)).length:Int) e.l (e.k+1) e.en e.st))) c=some (.tup ys):=λc ys h=>by rw[Ag (AK h hc (by intro z;cases z))];exact h
 obtain⟨a1,a2,a3,a4⟩:=h4 y hy
 by_cases hz:y.z=e.z
 ·obtain rfl:=Dk nd hy he hz;refine⟨?_,ht _ _ a2,DA ht _ _ a3,a4⟩;show upd H y.c _ y.c=some (.ins CT y.dx (Hy y.ta ((wT (Bh y.bk)).length:Int) y.l (y.k+(([y.z].count y.z:Nat):Int)) y.en y.st));rw[Ae,List.count_singleton_self];rfl
 ·have nn:y.c≠e.c:=λz=>hz (by rw[Dk nc hy he z])
  refine⟨?_,ht _ _ a2,DA ht _ _ a3,a4⟩;show upd H e.c _ y.c=some (.ins CT y.dx (Hy y.ta ((wT (Bh y.bk)).length:Int) y.l (y.k+(([e.z].count y.z:Nat):Int)) y.en y.st));rw[Ag nn,a1,List.count_eq_zero.mpr (by simpa using hz)];simp
theorem WG {cs:List Cl}(hz:∀(i:Nat) e,cs[i]?=some e->e.z=(i:Int)+1){s:Int}:(Fb cs s).Pairwise (·<=·):=by
 have all:(cs.map (·.z)).Pairwise (·<=·):=by
  rw[eW];intro i j hi hj hij;rw[bE] at hi hj;rw[eU,eU,hz i _ (bF hi),hz j _ (bF hj)];omega
 unfold Fb;exact ja (List.Sublist.map _ js) all
structure PBd (CP CT CB:Addr) (H:Hp) (p:Addr) (q:Pl) (cs:List Cl) (bs:List (Int×Addr)) (ds:List Addr) (b0:List BQ) (n:Int):Prop where
 a:PAt CP CT H p q cs bs
 o:C2 CB H q.bo ds b0 n .non
 l:2<=b0.length
 i:∀e∈cs,e.z<=(q.m:Int)->Lies b0 e.z e.y e.bk
 b:∀e∈cs,MB e.z e.y
theorem PBd.same {CP CT CB:Addr}{H H':Hp}{p:Addr}{q:Pl}{cs:List Cl}{bs:List (Int×Addr)}{ds:List Addr}{b0:List BQ}{n:Int}(s:An H H')(h:PBd CP CT CB H p q cs bs ds b0 n):PBd CP CT CB H' p q cs bs ds b0 n:={ h with a:=h.a.same s,o:=h.o.same s }
def Jg (q:Pl)(b0:List BQ)(e:Cl):Bool:=decide ((q.m:Int)<e.z)||good b0 e.z e.y e.bk
theorem ZH {cs:List Cl}{m:Nat}(hz:∀(i:Nat) e,cs[i]?=some e->e.z=(i:Int)+1){e:Cl}(he:e∈cs)(h:(m:Int)<e.z):e∈cs.drop m:=by
 obtain⟨i,hi,rfl⟩:=cS he;have:=hz i _ (bF hi);rw[List.mem_drop_iff_getElem];exact⟨i-m,by omega,by congr 1;omega⟩
theorem XA {cs:List Cl}{m:Nat}(hz:∀(i:Nat) e,cs[i]?=some e->e.z=(i:Int)+1){e:Cl}(he:e∈cs.drop m):(m:Int)<e.z:=by
 obtain⟨i,hi,rfl⟩:=cS he;rw[List.getElem_drop];have:=hz (m+i) _ (bF (by rw[eS] at hi;omega));omega
theorem Zo {cs:List Cl}{m:Nat}(h:(cs.map (·.z)).Nodup):((cs.drop m).map (·.z)).Nodup:=h.sublist ((List.drop_sublist m cs).map _)
def CS (K:W.Frag)(CP CT CB:Addr)(XC:Nat->Addr):Sp:=λvs H Q E=>∃p q cs bs ds b0 n e,∃(ta:Addr),vs=[.ref p,.ref ta]/\PBd CP CT CB H p q cs bs ds b0 n/\e∈cs/\H ta=some (.tup [.int e.z,.int e.y,.int (AA e.bk)])/\
 (Jg q b0 e=true->∀v H',An H H'->Rep NL H' (Bh e.bk) v->Q v H')/\(Jg q b0 e=false->∀dx H',An H H'->H dx=none->H' dx=some (.xd [("number",.int e.z)])->E (.ref (XC 0)) (some dx) H')
theorem Nj (T:Txt K mg Ac Aa Ab Af XC)(F:Fun K "block" "Pool.block" Dl f fd)(KU:XR P w K mg base 16 "fetched" ["boards","tag"] (Jv K Aa XC)):FnOk P w K mg base (QL P w) 17 f fd ["self","tag"] (CS K Af Ab Aa XC):=by
 refine F.okE Ni (λvs H Q E h=>?_) (λcdv A outer s H vs Q E hr h=>?_)
 ·obtain⟨p,q,cs,bs,ds,b0,n,e,ta,rfl,_⟩:=h;rfl
 obtain⟨p,q,cs,bs,ds,b0,n,e,ta,rfl,pb,he,ht,hq,hE⟩:=h;obtain⟨h1,h2,h4,nd⟩:=pb.a.t;have hu:=Dy hr;refine⟨_,(!Ai (!AR (!FE (!Ua hu (!Au Az (pv 1) (!Ak) (λ_ _=>rfl)) (!A6 (pv 0))) (by first|exact CH _ (by decide) (by decide)|rfl)) (!Al (!Aq (!Ks hu (!A6 (pv 0)) (!Au Az (pv 1) (!Ak) (λ_ _=>rfl)) (λ_ _=>rfl)))) (!Ay)) (!Al (!Aq (!Yo KU (by trivial) rfl QF (!Ad (!A6 (pv 0)) (!Ad (pv 1) (!Aj))))))),?_⟩
 try dsimp only[Ca,Cx.nox,Cx.wish]
 by_cases hm:(q.m:Int)<e.z
 ·have g:ED H q.dd (.int e.z) (some e.v):=by
   have:=ED.k (k:=Sum.inl e.z) pb.a.d;rw[VN (Zo nd) (ZH pb.a.z he hm)] at this;exact this
  refine⟨_,rfl,ta,_,_,_,rfl,rfl,AS.of ht,rfl,_,rfl,p,Af,q.dp,_,_,rfl,h1,T.cl_Pool,T.n_Pool_draft,rfl,q.dd,_,rfl,g,?_⟩;refine⟨_,rfl,Bs rfl ?_⟩;exact⟨_,rfl,p,Af,q.dp,_,_,rfl,h1,T.cl_Pool,T.n_Pool_draft,rfl,_,rfl,ta,_,_,_,rfl,rfl,AS.of ht,rfl,q.dd,_,rfl,g,hq (by unfold Jg;rw[bM hm];rfl) e.v H (An.refl _) (h4 e he).2.2.1⟩
 ·have g:ED H q.dd (.int e.z) none:=by
   have:=ED.k (k:=Sum.inl e.z) pb.a.d;rw[Kg (λx hx=>?_)] at this
   ·exact this
   ·obtain⟨y,hy,rfl⟩:=bK.mp hx;have:=XA pb.a.z hy;intro z;have:=dE z;omega
  have er:Jg q b0 e=good b0 e.z e.y e.bk:=by unfold Jg;rw[bL hm];rfl
  rw[er] at hq hE;refine⟨_,rfl,ta,_,_,_,rfl,rfl,AS.of ht,rfl,_,rfl,p,Af,q.dp,_,_,rfl,h1,T.cl_Pool,T.n_Pool_draft,rfl,q.dd,_,rfl,g,?_⟩;refine⟨_,rfl,AE rfl ?_⟩;exact⟨_,rfl,p,Af,q.dp,_,_,rfl,h1,T.cl_Pool,T.n_Pool_boards,rfl,_,rfl,q.bo,ds,b0,n,.non,ta,e.z,e.y,e.bk,rfl,pb.o,by have:=pb.l;omega,ht,pb.i e he (by omega),(h4 e he).2.2.2,pb.b e he,hq,hE⟩
theorem BsAt.same {H H':Hp}{q:Pl}{cs:List Cl}{bs:List (Int×Addr)}(s:An H H')(h:BsAt H q cs bs):BsAt H' q cs bs:={ h with h:=s.get h.h,d:=λx hx=>⟨s.get (h.d x hx).1,(h.d x hx).2⟩ }
theorem BsAt.ins {H:Hp}{q:Pl}{cs:List Cl}{bs:List (Int×Addr)}{x C d:Addr}{fs:List (Str×V)}{o:HO}(hx:H x=some (.ins C d fs))(h:BsAt H q cs bs):BsAt (upd H x o) q cs bs:=
 { h with h:=by rw[Ag (AK h.h hx (by intro z;cases z))];exact h.h,d:=λy hy=>⟨by rw[Ag (AK (h.d y hy).1 hx (by intro z;cases z))];exact(h.d y hy).1,(h.d y hy).2⟩ }
theorem BsAt.bump {H:Hp}{q:Pl}{cs:List Cl}{bs:List (Int×Addr)}(zs:List Int)(h:BsAt H q cs bs):BsAt H q (cs.map (bump zs)) bs:=
 { h with d:=λx hx=>by rw[Ny];exact h.d x hx,all:=λe he=>(bK.mp he).elim λy hy=>(by rw[<-hy.2];exact h.all y hy.1) }
theorem Wf {ns:List Int}{z:Int}(h:z∉ns):putK (TN ns) (Sum.inl z) (.bl true)=TN (ns++[z]):=by
 rw[Kn _ (Kg λx hx=>?_)]
 ·unfold TN;rw[cg];rfl
 ·obtain⟨y,hy,rfl⟩:=bK.mp hx;intro e;exact h (by rw[<-dE e];exact hy)
theorem BsAt.snoc {H:Hp}{q:Pl}{cs:List Cl}{bs:List (Int×Addr)}{d:Addr}{e:Cl}(h:BsAt H q cs bs)(hd:(AA e.bk,d)∈bs)(hz:e.z∉Fb cs (AA e.bk)):BsAt (upd H d (.dK (putK (TN (Fb cs (AA e.bk))) (Sum.inl e.z) (.bl true)))) q (cs++[e]) bs where
 h:=by rw[Ag (Ne.symm (h.d _ hd).2.2.1)];exact h.h
 k:=h.k
 a:=h.a
 d:=λx hx=>by
  by_cases hs:x.1=AA e.bk
  ·obtain rfl:x=(AA e.bk,d):=Dk h.k hx hd hs;exact⟨by rw[Ae,Wf hz,NB,bV rfl],(h.d _ hx).2⟩
  ·have n:x.2≠d:=λz=>hs (congrArg Prod.fst (Dk h.a hx hd z))
   rw[Ag n,NB,bP (λz=>hs z.symm),cW];exact h.d x hx
 all:=λx hx=>by
  rcases cj.mp hx with hx|hx
  ·exact h.all x hx
  ·rw[bS.mp hx];exact⟨_,hd,rfl⟩
theorem BsAt.fresh {H:Hp}{q:Pl}{cs:List Cl}{bs:List (Int×Addr)}{dn:Addr}{s:Int}(h:BsAt H q cs bs)(hv:BO (UN bs) (Sum.inl s)=none)(hd:H dn=none)(n1:dn≠q.dt)(n2:dn≠q.dd):BsAt (upd (upd H dn (.dK [])) q.dz (.dK (putK (UN bs) (Sum.inl s) (.ref dn)))) q cs (bs++[(s,dn)]):=by
 have nz:dn≠q.dz:=λz=>by rw[z,h.h] at hd;cases hd
 have nb:∀x∈bs,x.2≠dn:=λx hx z=>by have:=(h.d x hx).1;rw[z,hd] at this;cases this
 refine⟨?_,?_,?_,λx hx=>?_,λe he=>?_⟩
 ·rw[Ae,Kn _ hv];unfold UN;rw[cg];rfl
 ·rw[cg,dA];refine⟨h.k,by simp,λa ha b hb=>?_⟩;obtain⟨x,hx,rfl⟩:=bK.mp ha;have:b=s:=by simpa using hb
  rw[this];intro z;rw[<-z,Uc h.k hx] at hv;cases hv
 ·rw[cg,dA];refine⟨h.a,by simp,λa ha b hb=>?_⟩;obtain⟨x,hx,rfl⟩:=bK.mp ha;have:b=dn:=by simpa using hb
  rw[this];exact nb x hx
 ·rcases cj.mp hx with hx|hx
  ·rw[Ag (h.d x hx).2.2.1,Ag (nb x hx)];exact h.d x hx
  ·rw[bS.mp hx];refine⟨?_,n1,nz,n2⟩;show upd _ _ _ dn=some (.dK (TN (Fb cs s)));rw[Ag nz,Ae,h.no hv];rfl
 ·obtain⟨x,hx,e1⟩:=h.all e he;exact⟨x,cj.mpr (.inl hx),e1⟩
structure Md (CP CT:Addr) (H H':Hp) (p:Addr) (q:Pl) (cs:List Cl) (own:List Addr) (e:Cl) (us:List V) (dtk:List (Key×V)):Prop where
 f:YJ own H H'
 p:H' p=some (.ins CP q.dp (Ld q.bo q.dt q.dz q.dd q.n))
 t:H' q.dt=some (.dK dtk)
 d:H' q.dd=some (.dK (So (cs.drop q.m)))
 c:∀x∈cs,KP CT H' x
 n:KP CT H' e
 l:H' e.l=some (.lst us)
 u:AL NL H' ((Bg e.bk).map JI) us
theorem Md.put {CP CT:Addr}{H H':Hp}{p:Addr}{q:Pl}{cs:List Cl}{own:List Addr}{e:Cl}{us:List V}{dtk:List (Key×V)}(M:Md CP CT H H' p q cs own e us dtk){x:Addr}{o:HO}(hx:x∈own\/H x=none)(nt:x≠q.dt)(nd:x≠q.dd)(k:∀u,H' x=some u->∃kvs,u=.dK kvs):Md CP CT H (upd H' x o) p q cs own e us dtk:=by
 have no:∀{a u},H' a=some u->(∀kvs,u≠.dK kvs)->a≠x:=λ{a u} h n z=>by
  rw[z] at h;obtain⟨kvs,e⟩:=k _ h;exact n kvs e
 have ht:∀c ys,H' c=some (.tup ys)->(upd H' x o) c=some (.tup ys):=λc ys h=>by rw[Ag (no h (by intro kvs z;cases z))];exact h
 refine⟨λa u h n=>?_,?_,?_,?_,λy hy=>?_,?_,?_,D4 ht _ _ M.u⟩
 ·have:a≠x:=λz=>by
   rcases hx with hx|hx
   ·exact n (by rw[z];exact hx)
   ·rw[z,hx] at h;cases h
  rw[Ag this];exact M.f a u h n
 ·rw[Ag (no M.p (by intro kvs z;cases z))];exact M.p
 ·rw[Ag (Ne.symm nt)];exact M.t
 ·rw[Ag (Ne.symm nd)];exact M.d
 ·exact(M.c y hy).tup (Ag (no (M.c y hy).1 (by intro kvs z;cases z))) ht
 ·exact M.n.tup (Ag (no M.n.1 (by intro kvs z;cases z))) ht
 ·rw[Ag (no M.l (by intro kvs z;cases z))];exact M.l
theorem Md.putT {CP CT:Addr}{H H':Hp}{p:Addr}{q:Pl}{cs:List Cl}{own:List Addr}{e:Cl}{us:List V}{dtk dt2:List (Key×V)}(M:Md CP CT H H' p q cs own e us dtk)(hx:q.dt∈own)(nd:q.dt≠q.dd):Md CP CT H (upd H' q.dt (.dK dt2)) p q cs own e us dt2:=by
 have no:∀{a u},H' a=some u->(∀kvs,u≠.dK kvs)->a≠q.dt:=λ{a u} h n z=>by
  rw[z,M.t] at h;exact n _ (bO h).symm
 have ht:∀c ys,H' c=some (.tup ys)->(upd H' q.dt (.dK dt2)) c=some (.tup ys):=λc ys h=>by rw[Ag (no h (by intro kvs z;cases z))];exact h
 refine⟨λa u h n=>?_,?_,Ae,?_,λy hy=>?_,?_,?_,D4 ht _ _ M.u⟩
 ·rw[Ag (λz=>n (by rw[z];exact hx))];exact M.f a u h n
 ·rw[Ag (no M.p (by intro kvs z;cases z))];exact M.p
 ·rw[Ag (Ne.symm nd)];exact M.d
 ·exact(M.c y hy).tup (Ag (no (M.c y hy).1 (by intro kvs z;cases z))) ht
 ·exact M.n.tup (Ag (no M.n.1 (by intro kvs z;cases z))) ht
 ·rw[Ag (no M.l (by intro kvs z;cases z))];exact M.l
def Fm (z y:Int)(b:Bk)(v:V)(c dx ta l:Addr)(cs:List Cl):Cl:=⟨z,y,b,v,c,dx,ta,l,0,0,0⟩
def GY (K:W.Frag)(CP CT:Addr):Sp:=λvs H Q _=>∃p q cs bs v b,∃(ta:Addr) (z y:Int),vs=[.ref p,.ref ta,v]/\PAt CP CT H p q cs bs/\cs.length<=10000/\Rep NL H (Bh b) v/\Ds b/\H ta=some (.tup [.int z,.int y,.int (AA b)])/\z=(cs.length:Int)+1/\(∀t∈Bg b,∃e∈cs,e.z=t.1)/\
 ∀H' c dx l bs',H c=none->H l=none->(∃us,H' l=some (.lst us)/\AL NL H' ((Bg b).map JI) us)->Ky CP CT H' p q ((cs++[Fm z y b v c dx ta l cs]).map (bump ((Bg b).map (·.1))))->BsAt H' q ((cs++[Fm z y b v c dx ta l cs]).map (bump ((Bg b).map (·.1)))) bs'->bs'.length<=bs.length+1->H' q.dd=some (.dK (So (cs.drop q.m)))->YJ (By p q cs bs) H H'->(∀x∈bs',x∈bs\/H x.2=none)->Q .non H'
theorem O3 (T:Txt K mg Ac Aa Ab Af XC)(F:Fun K "take" "Pool.take" DX f fd)(Ey:MZ P w K mg base 11 Ab "TakenCell" ["self","own_tag","block"] (D2 K Ab))(Ec:A9 P w K mg base 2 Af "entries_of" ["self","folder"] (DG K Af Ab))(E4:A9 P w K mg base 2 Af "steps_of" ["self","folder"] (EA K Af Ab))(DT:A9 P w K mg base 1 Af "hold" ["self","tag"] (D1 K Af Ab)):FnOk P w K mg base CG 13 f fd ["self","tag","block"] (GY K Af Ab):=by
 exists E7
 ·obtain⟨p,q,cs,bs,v,b,ta,z,y,rfl,_⟩:=h;rfl
 obtain⟨p,q,cs,bs,v,b,ta,z,y,rfl,pa,few,hv,ok,hta,hz,hn,hq⟩:=h;have hu:=Dy hr;refine⟨_,(!Ai (@AB _ _ (3) _ _ _ _ E7.nd rfl (by trivial) (!MH Ey (by trivial) rfl (!Ad (pv 1) (!Ad (pv 2) (!Aj)))) (by rfl) (by trivial)) (!Ai (!AR (!AI CI (!Au Az (pv 2) (!Ak) (λ_ _=>rfl)) (!AH rfl T.c_FOLDER) (AG _)) (!Ai (!CZ (pv 3) (!Bf (pv 0) T.cl_Pool Ec (by trivial) (!Ad (pv 2) (!Aj)))) (!Al (!CZ (pv 3) (!Bf (pv 0) T.cl_Pool E4 (by trivial) (!Ad (pv 2) (!Aj)))))) (!Ay)) (!Ai (!JQ hu (!A6 (pv 0)) (!Au Az (pv 1) (!Ak) (λ_ _=>rfl)) (pv 3)) (!Ai (@AB _ _ (4) _ _ _ _ E7.nd rfl (by trivial) (!UI (!A6 (pv 0)) (!Au Az (pv 1) (!Ak) (λ_ _=>rfl)) (!GC) ⟨rfl,rfl,rfl,rfl⟩) (by rfl) (by trivial)) (!Ai (!JQ hu (pv 4) (!Au Az (pv 1) (!Ak) (λ_ _=>rfl)) (!Hv)) (!Al (!BM cF rfl (!Cy (!A6 (pv 3))) (@As _ _ (5) _ E7.nd rfl (by trivial) (by trivial)) (!Al (!BN (!Bf (pv 0) T.cl_Pool DT (by trivial) (!Ad (pv 5) (!Aj))))) (by intro _;rfl)))))))),?_⟩
 try dsimp only[Ca,Cx.nox,Cx.wish]
 refine⟨_,rfl,_,rfl,λc dx hc hdx hcd=>?_⟩;have hH1:∀a o,H a=some o->(upd (upd H dx (.own c)) c (.ins Ab dx [])) a=some o:=λa o h=>by
  rw[Ag (λz=>by rw[z,hc] at h;cases h),Ag (λz=>by rw[z,hdx] at h;cases h)];exact h
 refine⟨c,dx,ta,v,b,rfl,Ae,DA (λc ys h=>hH1 c _ h) _ _ hv,ok,λl us H2 f2 nl hl r hc2=>⟨rfl,?_⟩⟩;have s2:An H H2:=λa o h=>f2 a o (hH1 a o h) (λz=>by rw[z,hc] at h;cases h)
 have nlH:H l=none:=by
  cases h:H l with
  |none=>rfl
  |some o=>rw[hH1 l o h] at nl;cases nl
 dsimp only[FA];refine Kh (λσ' H'=>σ'=[some (.ref p),some (.ref ta),some v,some (.ref c),none,none]/\An H H'/\H' c=some (.ins Ab dx (Hy ta ((wT (Bh b)).length:Int) l 0 0 0))/\H' l=some (.lst us)/\AL NL H' ((Bg b).map JI) us) (λN hN=>?_) ?_
 ·obtain⟨va,xs,rfl,hva⟩:=Kr hv;refine⟨_,rfl,va,_,_,_,rfl,rfl,AS.of (s2.get hva),MU,rfl,_,rfl,IE (λhk=>?_) (λhk=>?_)⟩
  ·cases b with
   |folder=>
    refine⟨_,rfl,p,q.dp,_,rfl,(pa.same s2).t.1,rfl,_,rfl,_,_,rfl,Rep.same s2 _ _ hv,λH4 s4=>?_⟩;refine⟨_,rfl,c,Ab,dx,_,rfl,s4.get hc2,T.cl_TakenCell,T.n_TakenCell_entries_beneath,(by show 6<1000;decide),?_⟩;have s5:An H (upd H4 c (.ins Ab dx (Hy ta ((wT (Bh .folder)).length:Int) l 0 0 0))):=BV (s2.trans s4) hc _;refine⟨_,rfl,p,q.dp,_,rfl,(pa.same s5).t.1,rfl,_,rfl,_,_,rfl,Rep.same s5 _ _ hv,λH6 s6=>?_⟩;refine⟨_,rfl,c,Ab,dx,_,rfl,s6.get Ae,T.cl_TakenCell,T.n_TakenCell_steps_beneath,(by show 6<1000;decide),?_⟩;have nlc:l≠c:=AK hl hc2 (by intro z;cases z);refine hN _ _ ⟨rfl,BV (s5.trans s6) hc _,Ae,?_,?_⟩
    ·rw[Ag nlc];exact s6.get (by rw[Ag nlc];exact s4.get hl)
    ·cases r;rfl
   |piece _=>cases hk
   |row _ _=>cases hk
  ·refine hN _ _ ⟨rfl,s2,?_,hl,r⟩;cases b with
   |folder=>exact absurd rfl hk
   |piece _=>exact hc2
   |row _ _=>exact hc2
 rintro σ' H3 ⟨rfl,s3,hc3,hl3,r3⟩
 have pa3:=pa.same s3;have M3:Md Af Ab H H3 p q cs (By p q cs bs) (Fm z y b v c dx ta l cs) us (Pa cs):=⟨An.frm s3,pa3.t.1,pa3.t.2.1,pa3.d,pa3.t.2.2.1,⟨hc3,s3.get hta,Rep.same s3 _ _ hv,ok⟩,hl3,r3⟩
 have fz:∀e∈cs,e.z≠z:=λe he=>by
  obtain⟨i,hi,rfl⟩:=cS he;have:=pa.z i _ (bF hi);omega
 have tkl:(Pa cs).length<100000:=by unfold Pa;rw[bE];omega
 have ht3:=s3.get hta;refine⟨_,rfl,_,rfl,p,Af,q.dp,_,_,rfl,M3.p,T.cl_Pool,T.n_Pool_taken,rfl,_,rfl,ta,_,_,_,rfl,rfl,AS.of ht3,rfl,q.dt,_,rfl,Pf.k (k:=Sum.inl z) M3.t (BU (by omega)),?_⟩;have etk:putK (Pa cs) (Sum.inl z) (.ref c)=Pa (cs++[Fm z y b v c dx ta l cs]):=by
  rw[Kn _ (Kg λx hx=>?_)]
  ·unfold Pa;rw[cg];rfl
  ·obtain⟨e,he,rfl⟩:=bK.mp hx;intro z;exact fz e he (dE z)
 rw[etk];have ot:q.dt∈By p q cs bs:=by unfold By;simp
 have oz:q.dz∈By p q cs bs:=by unfold By;simp
 have M4:=M3.putT (dt2:=Pa (cs++[Fm z y b v c dx ta l cs])) ot pa.n2;have B4:BsAt (upd H3 q.dt (.dK (Pa (cs++[Fm z y b v c dx ta l cs])))) q cs bs:={ pa3.b with h:=by rw[Ag (Ne.symm pa.n1)];exact pa3.b.h,d:=λx hx=>⟨by rw[Ag (pa3.b.d x hx).2.1];exact(pa3.b.d x hx).1,(pa3.b.d x hx).2⟩ }
 have hz4:∀a,(upd H3 q.dt (.dK (Pa (cs++[Fm z y b v c dx ta l cs])))) a=none->H a=none:=λa h=>by
  cases ha:H a with
  |none=>rfl
  |some o=>
   have:=s3.get ha
   by_cases e:a=q.dt
   ·rw[e,Ae] at h;cases h
   ·rw[Ag e,this] at h;cases h
 generalize (upd H3 q.dt (.dK (Pa (cs++[Fm z y b v c dx ta l cs]))))=H4 at M4 B4 hz4;have bl:bs.length<=100000:=by have:=pa.w;omega
 dsimp only;refine Kh (λσ' H'=>∃d bs',σ'=[some (.ref p),some (.ref ta),some v,some (.ref c),some (.ref d),none]/\Md Af Ab H H' p q cs (By p q cs bs) (Fm z y b v c dx ta l cs) us (Pa (cs++[Fm z y b v c dx ta l cs]))/\BsAt H' q cs bs'/\(AA b,d)∈bs'/\bs'.length<=bs.length+1/\(∀x∈bs',x∈bs\/H x.2=none)/\(d∈By p q cs bs\/H d=none)) (λN hN=>?_) ?_
 ·refine⟨_,rfl,p,Af,q.dp,_,_,rfl,M4.p,T.cl_Pool,T.n_Pool_by_sums,rfl,q.dz,rfl,.inl ⟨_,.inl B4.h⟩,_,rfl,ta,_,_,_,rfl,rfl,AS.of M4.n.2.1,rfl,λdn hdn=>?_⟩;have ndn:∀{a o},H4 a=some o->dn≠a:=λ{a o} h z=>by rw[z,h] at hdn;cases hdn
  have M5:=M4.put (x:=dn) (o:=.dK []) (.inr (hz4 _ hdn)) (ndn M4.t) (ndn M4.d) (λu h=>by rw[hdn] at h;cases h);have B5:=B4.same (Am hdn (.dK []));refine⟨_,Sum.inl (AA b),B5.h,rfl,BU (by unfold UN;rw[bE];omega),λu hv=>?_,λhv=>?_⟩
  ·obtain⟨x,hx,hs,rfl⟩:=Vx hv;refine hN _ _ ⟨x.2,bs,rfl,M5,B5,by rw[<-hs];exact hx,by omega,(λ_ h=>.inl h),.inl ?_⟩;unfold By;simp only[List.mem_cons,List.mem_append];exact .inr (.inr (.inr (.inr (.inl (bK.mpr ⟨x,hx,rfl⟩)))))
  ·refine hN _ _ ⟨dn,bs++[(AA b,dn)],rfl,M5.put (.inl oz) (Ne.symm pa.n1) pa.n3 (λu h=>⟨_,by rw[B5.h] at h;exact(bO h).symm⟩),B4.fresh hv hdn (ndn M4.t) (ndn M4.d),by simp,by simp,(λx hx=>(cj.mp hx).imp id λh=>by rw[bS.mp h];exact hz4 _ hdn),.inr (hz4 _ hdn)⟩
 rintro σ' H5 ⟨d,bs',rfl,M5,B5,hd5,lb,bfr,od⟩
 have hd6:=B5.d _ hd5;refine⟨_,rfl,_,rfl,ta,_,_,_,rfl,rfl,AS.of M5.n.2.1,rfl,d,_,rfl,Pf.k (k:=Sum.inl z) hd6.1 (BU (by unfold TN;rw[bE];have:=Mq cs (AA b);show(Fb cs (AA b)).length<1000000;omega)),?_⟩;have B6:=B5.snoc (e:=Fm z y b v c dx ta l cs) hd5 (λh=>by
  obtain⟨e,he,_,hz'⟩:=Fw.mp h;exact fz e he hz')
 have M6:=M5.put (x:=d) (o:=.dK (putK (TN (Fb cs (AA b))) (Sum.inl z) (.bl true))) od hd6.2.1 hd6.2.2.2 (λu h=>⟨_,by rw[hd6.1] at h;exact(bO h).symm⟩);have e6:(upd H5 d (.dK (putK (TN (Fb cs (AA b))) (Sum.inl z) (.bl true))))=(upd H5 d (.dK (putK (TN (Fb cs (AA (Fm z y b v c dx ta l cs).bk))) (Sum.inl (Fm z y b v c dx ta l cs).z) (.bl true)))):=rfl;rw[<-e6] at B6;dsimp only;generalize (upd H5 d (.dK (putK (TN (Fb cs (AA b))) (Sum.inl z) (.bl true))))=H6 at M6 B6;have nc6:((cs++[Fm z y b v c dx ta l cs]).map (·.c)).Nodup:=by
  rw[cg,dA];refine⟨pa.c,by simp,λa ha b' hb=>?_⟩;obtain⟨x,hx,rfl⟩:=bK.mp ha;have:b'=c:=bS.mp hb;rw[this];intro zz;have:=(pa.t.2.2.1 x hx).1;rw[zz,hc] at this;cases this
 have P6:Ky Af Ab H6 p q (cs++[Fm z y b v c dx ta l cs]):=by
  refine⟨M6.p,M6.t,λe he=>?_,?_⟩
  ·rcases cj.mp he with he|he
   ·exact M6.c e he
   ·rw[bS.mp he];exact M6.n
  ·rw[cg,dA];refine⟨pa.t.2.2.2,by simp,λa ha b' hb=>?_⟩;obtain⟨x,hx,rfl⟩:=bK.mp ha;have:b'=z:=bS.mp hb;rw[this];exact fz x hx
 refine⟨_,rfl,c,Ab,dx,_,_,rfl,M6.n.1,T.cl_TakenCell,T.n_TakenCell_named,rfl,l,rfl,⟨_,AQ.of M6.l⟩,?_⟩;refine CF (K:=K) (a:=l) (xs:=us) (λi σ H'=>(∃v5,σ=[some (.ref p),some (.ref ta),some v,some (.ref c),some (.ref d),v5])/\Ky Af Ab H' p q ((cs++[Fm z y b v c dx ta l cs]).map (bump (((Bg b).map (·.1)).take i)))/\BsAt H' q (cs++[Fm z y b v c dx ta l cs]) bs'/\H' q.dd=some (.dK (So (cs.drop q.m)))/\H' l=some (.lst us)/\AL NL H' ((Bg b).map JI) us/\YJ (By p q cs bs) H H') ⟨⟨_,rfl⟩,by rw[fW,SW];exact P6,B6,M6.d,M6.l,M6.u,M6.f⟩ ?_ ?_ ?_
 ·rintro i σ H' _ ⟨_,_,_,_,h,_⟩
  exact AQ.of h
 ·rintro i x σ H' hx ⟨⟨v5,rfl⟩,P7,B7,d7,l7,u7,f7⟩
  obtain⟨t,ht,rt⟩:=AL.get u7 hx;rw[bQ] at ht;obtain⟨g,hg,rfl⟩:=cm.mp ht;obtain⟨tx,rfl,htx⟩:=MO rt;obtain⟨e,he,hze⟩:=hn g (bJ hg);have he7:bump (((Bg b).map (·.1)).take i) e∈(cs++[Fm z y b v c dx ta l cs]).map (bump (((Bg b).map (·.1)).take i)):=bK.mpr ⟨e,cj.mpr (.inl he),rfl⟩;have hz7:(bump (((Bg b).map (·.1)).take i) e).z=g.1:=hze;have H7:=P7.hold (by rw[J9];exact nc6) he7;have c7:=(P7.2.2.1 _ he7).1;rw[<-hz7] at htx;refine⟨_,rfl,p,q.dp,_,rfl,P7.1,rfl,_,rfl,p,q,_,_,tx,_,_,rfl,P7,he7,htx,?_⟩;have tp:∀a ys,H' a=some (.tup ys)->(upd H' (bump (((Bg b).map (·.1)).take i) e).c (.ins Ab (bump (((Bg b).map (·.1)).take i) e).dx (Hy (bump (((Bg b).map (·.1)).take i) e).ta ((wT (Bh (bump (((Bg b).map (·.1)).take i) e).bk)).length:Int) (bump (((Bg b).map (·.1)).take i) e).l ((bump (((Bg b).map (·.1)).take i) e).k+1) (bump (((Bg b).map (·.1)).take i) e).en (bump (((Bg b).map (·.1)).take i) e).st))) a=some (.tup ys):=λa ys h=>by rw[Ag (AK h c7 (by intro z;cases z))];exact h
  refine⟨⟨_,rfl⟩,?_,B7.ins c7,by rw[Ag (AK d7 c7 (by intro z;cases z))];exact d7,by rw[Ag (AK l7 c7 (by intro z;cases z))];exact l7,D4 tp _ _ u7,λa o h n=>?_⟩
  ·rw[RJ,hz7] at H7;rw[cJ,bQ,hg];exact H7
  ·rw[Ag (λzz=>n (by rw[zz];unfold By;simp only[List.mem_cons,List.mem_append];exact .inr (.inr (.inr (.inr (.inr (bK.mpr ⟨e,he,rfl⟩)))))))];exact f7 a o h n
 ·rintro σ H' ⟨⟨v5,rfl⟩,P7,B7,d7,l7,u7,f7⟩
  have lu:us.length=((Bg b).map (·.1)).length:=by rw[AL.len _ _ u7,bE,bE]
  rw[lu,dQ] at P7;exact hq H' c dx l bs' hc nlH ⟨us,l7,u7⟩ P7 (B7.bump _) lb d7 f7 bfr
theorem PAt.setn {CP CT:Addr}{H H':Hp}{p:Addr}{q:Pl}{cs:List Cl}{bs:List (Int×Addr)}{m:Int}(h:PAt CP CT H p q cs bs)(hp:H' p=some (.ins CP q.dp (Ld q.bo q.dt q.dz q.dd m)))(ho:∀b,b≠p->H' b=H b)(m1:1<=m)(m2:m<=(cs.length:Int)+1):PAt CP CT H' p { q with n:=m } cs bs:=by
 have no:∀{a o},H a=some o->(∀C d fs,o≠.ins C d fs)->H' a=some o:=λ{a o} h1 n=>by rw[ho a (λz=>by rw[z,h.t.1] at h1;exact n _ _ _ (bO h1).symm)];exact h1
 have nk:∀{a kvs},H a=some (.dK kvs)->H' a=some (.dK kvs):=λ{a kvs} h1=>no h1 (by intro C d fs z;cases z)
 refine⟨⟨hp,nk h.t.2.1,λe he=>?_,h.t.2.2.2⟩,nk h.d,h.m,{ h.b with h:=nk h.b.h,d:=λx hx=>⟨nk (h.b.d x hx).1,(h.b.d x hx).2⟩ },h.n1,h.n2,h.n3,h.c,h.z,h.w,m1,m2⟩;have hc:=(h.t.2.2.1 e he).1;refine(h.t.2.2.1 e he).tup (ho _ λz=>?_) λc ys h1=>no h1 (by intro C d fs z;cases z)
 rw[z,h.t.1] at hc;have:=bO hc;injection this with _ _ this
 injection this with this _
 injection this with this _
 revert this
 decide
end
open M06
section
variable {P:Program}{w:World}{K:W.Frag}{mg:Str->Option Value}{base:Heap}{f Ac Aa Ab Af:Addr}{XC:Nat->Addr}{fd:FuncData}
def FK (q:Pl)(b0:List BQ)(cs:List Cl)(n:Int):Bool:=cs.any λe=>decide (e.z=n) && !Jg q b0 e
theorem Kj {q:Pl}{b0:List BQ}{cs:List Cl}(nd:(cs.map (·.z)).Nodup){e:Cl}(he:e∈cs):FK q b0 cs e.z = !Jg q b0 e:=by
 unfold FK;rw[dD,dR];constructor
 ·rintro⟨x,hx,h⟩
  rw[cu,cz] at h;obtain rfl:=Dk nd hx he h.1;exact h.2
 ·intro h;exact⟨e,he,by rw[bM rfl,h];rfl⟩
def Gk (K:W.Frag)(CP CT CB:Addr)(XC:Nat->Addr):Sp:=λvs H Q E=>∃p q cs bs ds b0 n v b,vs=[.ref p,v]/\PBd CP CT CB H p q cs bs ds b0 n/\cs.length<=10000/\Rep NL H (Bh b) v/\Ds b/\
 (∀e∈cs,e.bk=b->Jg q b0 e=true->∀H',An H H'->Q (.ref e.ta) H')/\
 ((∀e∈cs,AA e.bk=AA b->Jg q b0 e=true/\e.bk≠b)->∀H',An H H'->Q .non H')/\
 (∀e∈cs,AA e.bk=AA b->Jg q b0 e=false->(∀e'∈cs,AA e'.bk=AA b->Jg q b0 e'=false->e.z<=e'.z)->(∀e'∈cs,e'.bk=b->Jg q b0 e'=false)->∀dx H',An H H'->H dx=none->H' dx=some (.xd [("number",.int e.z)])->E (.ref (XC 0)) (some dx) H')
theorem Nc (T:Txt K mg Ac Aa Ab Af XC)(F:Fun K "alike" "Pool.alike" Dm f fd)(DZ:Wi P w K mg base 1 "Lost" (XC 0) "number" ["self","number"])(Ef:Def P w K mg base 3 "sum_of" ["block"] (GK K))(BA:Hw P w K mg base 17 Af "block" ["self","tag"] (CS K Af Ab Aa XC))(DL:A9 P w K mg base 1 Af "tag" ["self","number"] (FO K Af Ab)):FnOk P w K mg base (QL P w) 18 f fd ["self","block"] (Gk K Af Ab Aa XC):=by
 refine F.okE EM (λvs H Q E h=>?_) (λcdv A outer s H vs Q E hr h=>?_)
 ·obtain⟨p,q,cs,bs,ds,b0,n,v,b,rfl,_⟩:=h;rfl
 obtain⟨p,q,cs,bs,ds,b0,n,v,b,rfl,pb,few,hv,ok,hq1,hq2,hE⟩:=h;have pa:=pb.a;have hu:=Dy hr;have hu9:=KL hr;refine⟨_,(!Ai (@AB _ _ (2) _ _ _ _ EM.nd rfl (by trivial) (!Cs (!Aj)) (by rfl) (by trivial)) (!Ai (!BM PassesOwn.leaving rfl (!Cy (!Av (Iw rfl) (by rfl) T.b_sorted Gx (!Ad (!U8 hu (!A6 (pv 0)) (!AO Ef (by trivial) rfl (!Ad (pv 1) (!Aj))) (!GC) ⟨rfl,rfl,rfl,rfl⟩) (!Aj)))) (@As _ _ (3) _ EM.nd rfl (by trivial) (by trivial)) (!Al (!Ul ⟨rfl,rfl⟩ T.x_Lost rfl (!Wj (!MP (@WM _ _ _ (4) _ _ _ EM.nd rfl (by trivial) (!LN (pv 0) T.cl_Pool BA (by trivial) (!Ad (!Bf (pv 0) T.cl_Pool DL (by trivial) (!Ad (pv 3) (!Aj))) (!Aj))) (by rfl) (by trivial)))) (!Al (!AR (!AI (Q3 hu9) (pv 4) (pv 1) (AG _)) (!Al (!Aq (!Bf (pv 0) T.cl_Pool DL (by trivial) (!Ad (pv 3) (!Aj))))) (!Ay))) (λe=>(!Al (!BN (@QT _ (K) _ _ _ _ _ _ _ _ _ _ _ rfl dk eZ eY Gw (pv 2) (!Ad (pv 3) (!Aj)) (by rfl) (by rfl) (by rfl) (by rfl) (by rfl))))))) (by intro _;rfl)) (!Ai (!AR (!AI Sv (!Av AM (by rfl) T.b_len CA (!Ad (pv 2) (!Aj))) (!Ak) (AG _)) (!Al (!N6 Mp rfl DZ (by trivial) rfl (!Ad (!Au Bm (pv 2) (!Ak) (λ_ _=>rfl)) (!Aj)))) (!Ay)) (!Al (!Aq (!EB)))))),?_⟩
 try dsimp only[Ca,Cx.nox,Cx.wish]
 refine⟨Mn,λun hun=>?_⟩;have s1:=Am hun (.lst []);have pa1:=pa.same s1;refine⟨_,rfl,p,Af,q.dp,_,_,rfl,pa1.t.1,T.cl_Pool,T.n_Pool_by_sums,rfl,q.dz,rfl,.inl ⟨_,.inl pa1.b.h⟩,?_⟩;refine⟨_,rfl,v,b,rfl,Rep.same s1 _ _ hv,ok,λH2 s2 dn hdn=>?_⟩;have s3:=(s1.trans s2).trans (Am hdn (.dK []));have pa3:=pa.same s3;obtain⟨d,hd,hd2⟩:∃d,(((BO (UN bs) (Sum.inl (AA b))).getD (.ref dn))=.ref d)/\(upd H2 dn (.dK [])) d=some (.dK (TN (Fb cs (AA b)))):=by
  cases hc:BO (UN bs) (Sum.inl (AA b)) with
  |none=>exact⟨dn,rfl,by rw[pa.b.no hc];exact Ae⟩
  |some u=>
   obtain⟨x,hx,hs,rfl⟩:=Vx hc;exact⟨x.2,rfl,by rw[(pa3.b.d x hx).1,hs]⟩
 refine⟨_,ED.k (k:=Sum.inl (AA b)) pa3.b.h,d,_,Fb cs (AA b),?_,hd2,?_,?_,λms pl pm so hpl=>?_⟩
 ·rw[hd]
 ·unfold TN;rw[cw];rfl
 ·have:=Mq cs (AA b);exact .inr ⟨by omega,WG pa.z⟩
 have s4:=s3.trans (Am hpl (.lst (ms.map V.int)));have hun4:(upd (upd H2 dn (.dK [])) pl (.lst (ms.map V.int))) un=some (.lst []):=(Am hpl _).get ((Am hdn _).get (s2.get Ae));have hpl4:(upd (upd H2 dn (.dK [])) pl (.lst (ms.map V.int))) pl=some (.lst (ms.map V.int)):=Ae;have npu:pl≠un:=λz=>by
  have:=(Am hdn (.dK [])).get (s2.get (Ae (H:=H) (a:=un) (o:=.lst [])));rw[<-z,hpl] at this;cases this
 generalize (upd (upd H2 dn (.dK [])) pl (.lst (ms.map V.int)))=H4 at s4 hun4 hpl4;refine⟨pl,rfl,⟨_,AQ.of hpl4⟩,CF (K:=K) (a:=pl) (xs:=ms.map V.int) (λi σ H'=>An H H'/\H' pl=some (.lst (ms.map V.int))/\(∃v3 v4,σ=[some (.ref p),some v,some (.ref un),v3,v4])/\H' un=some (.lst (((ms.take i).filter (FK q b0 cs)).map V.int))/\∀(j:Nat) n,j<i->ms[j]?=some n->∀e∈cs,e.z=n->Jg q b0 e=true->e.bk≠b) ⟨s4,hpl4,⟨_,_,rfl⟩,hun4,λj _ h=>absurd h (fb j)⟩ ?_ ?_ ?_⟩
 ·rintro i σ H' _ ⟨_,h,_⟩
  exact AQ.of h
 ·rintro i x σ H' hx ⟨s5,pl5,⟨v3,v4,rfl⟩,un5,hb⟩
  obtain⟨n',rfl,hn⟩:=ints_get hx;obtain⟨e,he,hs,hz⟩:=Fw.mp (pm.mem_iff.mp (bJ hn));subst hz;have pb5:=pb.same s5;have ce:=pb5.a.t.2.2.1 e he;have lb:=Kj (q:=q) (b0:=b0) pa.t.2.2.2 he;have ft:(ms.take (i+1)).filter (FK q b0 cs)=(ms.take i).filter (FK q b0 cs)++if Jg q b0 e=true then[] else[e.z]:=by
   rw[cJ,hn,hZ]
   congr 1
   show[e.z].filter (FK q b0 cs)=_;cases hc:Jg q b0 e with
   |true=>rw[gB (by rw[lb,hc];exact bN)];rfl
   |false=>rw[gA (by rw[lb,hc];rfl)];rfl
  refine⟨_,rfl,p,q.dp,_,rfl,pb5.a.t.1,rfl,_,rfl,p,q.dp,_,rfl,pb5.a.t.1,rfl,_,rfl,p,q,cs,e,rfl,pb5.a.t,he,p,q,cs,bs,ds,b0,n,e,e.ta,rfl,pb5,he,ce.2.1,λhrd v5 H6 s6 rv=>?_,λhrd dx H6 s6 ndx hdx=>?_⟩
  ·have s56:=s5.trans s6;refine⟨_,rfl,_,rfl,Bh e.bk,Bh b,FW ce.2.2.2,FW ok,rv,Rep.same s56 _ _ hv,_,rfl,IE (λhk=>?_) (λhk=>?_)⟩
   ·have hk:decide (wT (Bh e.bk)=wT (Bh b))=true:=hk;have eb:e.bk=b:=Ox (Q6 (FW ce.2.2.2) (FW ok) (cX hk));have t6:=(pb5.a.same s6).t;exact⟨_,rfl,p,q.dp,_,rfl,t6.1,rfl,_,rfl,p,q,cs,e,rfl,t6,he,hq1 e he eb hrd _ s56⟩
   ·have hk:¬decide (wT (Bh e.bk)=wT (Bh b))=true:=hk;refine⟨s56,s6.get pl5,⟨_,_,rfl⟩,?_,λj n hj hm e' he' hz _=>?_⟩
    ·rw[ft,bV hrd,cW];exact s6.get un5
    by_cases hji:j<i
    ·exact hb j n hji hm e' he' hz (by assumption)
    ·obtain rfl:j=i:=by omega
     rw[hn] at hm;obtain rfl:=Dk pa.t.2.2.2 he he' ((bO hm).trans hz.symm);intro z;exact hk (by rw[z];exact bM rfl)
  ·have s56:=s5.trans s6;have un6:=s6.get un5;refine⟨T.m_Lost_Lost,?_⟩;have few2:=Mq cs (AA b);have lm:ms.length<=10000:=by rw[pm.length_eq];omega
   have lf:((ms.take i).filter (FK q b0 cs)).length<=10000:=cA (eG _ _) (by rw[cG];omega);refine⟨_,rfl,.inl ⟨rfl,_,AQ.of un6⟩,_,rfl,un,_,_,rfl,rfl,un6,BU (by rw[bE];omega),?_⟩;refine⟨BV s56 hun _,by rw[Ag npu];exact s6.get pl5,⟨_,_,rfl⟩,?_,λj n hj hm e' he' hz hr'=>?_⟩
   ·rw[Ae,ft,bP (by rw[hrd];exact bN),cg];rfl
   by_cases hji:j<i
   ·exact hb j n hji hm e' he' hz hr'
   ·obtain rfl:j=i:=by omega
    rw[hn] at hm;obtain rfl:=Dk pa.t.2.2.2 he he' ((bO hm).trans hz.symm);rw[hrd] at hr';cases hr'
 ·rintro σ H' ⟨s5,pl5,⟨v3,v4,rfl⟩,un5,hb⟩
  rw[bE] at hb;rw[bE,dQ] at un5;have nb:∀e∈cs,e.bk=b->Jg q b0 e=false:=λe he z=>by
   have:e.z∈ms:=pm.mem_iff.mpr (Fw.mpr ⟨e,he,by rw[z],rfl⟩);obtain⟨j,hj,hje⟩:=cS this;cases hc:Jg q b0 e with
   |false=>rfl
   |true=>exact absurd z (hb j e.z hj (by rw[bF hj,hje]) e he rfl hc)
  dsimp only;refine⟨_,rfl,un,_,rfl,.inl (AQ.of un5),_,_,rfl,rfl,_,rfl,IE (λhk=>?_) (λhk=>?_)⟩
  ·have hk:=cX hk;rw[bE] at hk;cases hf:ms.filter (FK q b0 cs) with
   |nil=>rw[hf] at hk;exact absurd hk (by decide)
   |cons n0 ls=>
    rw[hf] at un5;have m0:n0∈ms.filter (FK q b0 cs):=by rw[hf];exact bZ
    obtain⟨mm,ml⟩:=dI.mp m0;obtain⟨e,he,hs,hz⟩:=Fw.mp (pm.mem_iff.mp mm);subst hz;rw[Kj pa.t.2.2.2 he] at ml;have so2:(ms.filter (FK q b0 cs)).Pairwise (·<=·):=ja js so;rw[hf,List.pairwise_cons] at so2;refine⟨_,rfl,un,_,_,_,rfl,rfl,AQ.of un5,DD (j:=0) rfl,_,rfl,λdx ndx=>?_⟩;refine hE e he hs (by simpa using ml) (λe' he' hs' hr'=>?_) nb dx _ (s5.trans (Am ndx _)) (s5.free ndx) Ae;have:e'.z∈ms.filter (FK q b0 cs):=dI.mpr ⟨pm.mem_iff.mpr (Fw.mpr ⟨e',he',hs',rfl⟩),by rw[Kj pa.t.2.2.2 he',hr'];rfl⟩;rw[hf] at this;rcases cf.mp this with h|h
    ·omega
    ·exact so2.1 _ h
  ·have hk:¬(0<(((ms.filter (FK q b0 cs)).map V.int).length:Int)):=λz=>hk (bM z)
   rw[bE] at hk;have hf:ms.filter (FK q b0 cs)=[]:=ir (by omega);refine hq2 (λe he hs=>?_) _ s5;have hr':Jg q b0 e=true:=by
    cases hc:Jg q b0 e with
    |true=>rfl
    |false=>
     have:e.z∈ms.filter (FK q b0 cs):=dI.mpr ⟨pm.mem_iff.mpr (Fw.mpr ⟨e,he,hs,rfl⟩),by rw[Kj pa.t.2.2.2 he,hc];rfl⟩;rw[hf] at this;cases this
   exact⟨hr',λz=>by rw[nb e he z] at hr';cases hr'⟩
def C3 (K:W.Frag)(CP CT CB:Addr)(XC:Nat->Addr):Sp:=λvs H Q E=>∃p q cs bs ds b0 n v b,∃(y:Int),vs=[.ref p,v,.int y]/\PBd CP CT CB H p q cs bs ds b0 n/\cs.length<=10000/\Rep NL H (Bh b) v/\Ds b/\(∀t∈Bg b,∃e∈cs,e.z=t.1)/\
 (∀e∈cs,e.bk=b->Jg q b0 e=true->∀H',An H H'->Q (.ref e.ta) H')/\
 ((∀e∈cs,AA e.bk=AA b->Jg q b0 e=true/\e.bk≠b)->∀H' c dx l ta bs',H c=none->H l=none->(∃us,H' l=some (.lst us)/\AL NL H' ((Bg b).map JI) us)->PAt CP CT H' p { q with n:=(cs.length:Int)+1 } ((cs++[Fm ((cs.length:Int)+1) y b v c dx ta l cs]).map (bump ((Bg b).map (·.1)))) bs'->YJ (By p q cs bs) H H'->(∀x∈bs',x∈bs\/H x.2=none)->Q (.ref ta) H')/\
 (∀e∈cs,AA e.bk=AA b->Jg q b0 e=false->(∀e'∈cs,AA e'.bk=AA b->Jg q b0 e'=false->e.z<=e'.z)->(∀e'∈cs,e'.bk=b->Jg q b0 e'=false)->∀dx H',An H H'->H dx=none->H' dx=some (.xd [("number",.int e.z)])->E (.ref (XC 0)) (some dx) H')
theorem PB (T:Txt K mg Ac Aa Ab Af XC)(F:Fun K "put" "Pool.put" EE f fd)(Hd:Hw P w K mg base 18 Af "alike" ["self","block"] (Gk K Af Ab Aa XC))(IH:A9 P w K mg base 13 Af "take" ["self","tag","block"] (GY K Af Ab))(DI:A9 P w K mg base 1 Af "free_number" ["self"] (Dv K Af Ab))(Ef:Def P w K mg base 3 "sum_of" ["block"] (GK K)):FnOk P w K mg base (QL P w) 19 f fd ["self","block","birth"] (C3 K Af Ab Aa XC):=by
 refine F.okE Ih (λvs H Q E h=>?_) (λcdv A outer s H vs Q E hr h=>?_)
 ·obtain⟨p,q,cs,bs,ds,b0,n,v,b,y,rfl,_⟩:=h;rfl
 obtain⟨p,q,cs,bs,ds,b0,n,v,b,y,rfl,pb,few,hv,ok,hn,hq1,hq2,hE⟩:=h;have pa:=pb.a;have hu:=Dy hr;refine⟨_,(!Ai (@AB _ _ (3) _ _ _ _ Ih.nd rfl (by trivial) (!JX (pv 0) T.cl_Pool Hd (by trivial) QF (!Ad (pv 1) (!Aj))) (by rfl) (by trivial)) (!Ai (!AR (!FE (!O0 (pv 3)) (by first|exact CH _ (by decide) (by decide)|rfl)) (!Al (!Aq (pv 3))) (!Ay)) (!Ai (@AB _ _ (4) _ _ _ _ Ih.nd rfl (by trivial) (!C6 (!Ad (!Cb (pv 0) T.cl_Pool DI) (!Ad (pv 2) (!Ad (!AO Ef (by trivial) rfl (!Ad (pv 1) (!Aj))) (!Aj))))) (by rfl) (by trivial)) (!Ai (!BN (!Bf (pv 0) T.cl_Pool IH (by trivial) (!Ad (pv 4) (!Ad (pv 1) (!Aj))))) (!Ai (!JQ hu (!A6 (pv 0)) (!Au Az (pv 4) (!Ak) (λ_ _=>rfl)) (pv 1)) (!Al (!Aq (pv 4)))))))),?_⟩
 try dsimp only[Ca,Cx.nox,Cx.wish]
 refine⟨_,rfl,p,q.dp,_,rfl,pa.t.1,rfl,_,rfl,p,q,cs,bs,ds,b0,n,v,b,rfl,pb,few,hv,ok,λe he eb er H1 s1=>?_,λhne H1 s1=>?_,hE⟩
 ·exact⟨_,rfl,_,rfl,Bs rfl ⟨_,rfl,hq1 e he eb er H1 s1⟩⟩
 refine⟨_,rfl,_,rfl,AE rfl ?_⟩;have pa1:=pa.same s1;refine⟨_,rfl,p,q.dp,_,rfl,pa1.t.1,rfl,p,q,cs,rfl,pa1.t,pa.z,pa.f1,pa.f2,λH2 hp2 ho2=>?_⟩;have pa2:PAt Af Ab H2 p { q with n:=(cs.length:Int)+1 } cs bs:=pa1.setn hp2 ho2 (by omega) (by omega);have tp2:∀a ys,H1 a=some (.tup ys)->H2 a=some (.tup ys):=λa ys h=>by rw[ho2 a (AK h pa1.t.1 (by intro z;cases z))];exact h
 have k2:∀a o,H a=some o->∃o',H2 a=some o':=λa o h=>by
  by_cases e:a=p
  ·exact⟨_,by rw[e];exact hp2⟩
  ·exact⟨o,by rw[ho2 a e];exact s1.get h⟩
 refine⟨_,rfl,_,rfl,v,b,rfl,DA tp2 _ _ (Rep.same s1 _ _ hv),ok,λH3 s3=>?_⟩;refine⟨SJ,λta hta=>?_⟩;have s4:=s3.trans (Am hta (.tup [.int ((cs.length:Int)+1),.int y,.int (AA b)]));have pa4:=pa2.same s4;have t4:(upd H3 ta (.tup [.int ((cs.length:Int)+1),.int y,.int (AA b)])) ta=some (.tup [.int ((cs.length:Int)+1),.int y,.int (AA b)]):=Ae;have hv4:=Rep.same s4 _ _ (DA tp2 _ _ (Rep.same s1 _ _ hv));generalize (upd H3 ta (.tup [.int ((cs.length:Int)+1),.int y,.int (AA b)]))=H4 at s4 pa4 t4 hv4;refine⟨_,rfl,p,q.dp,_,rfl,pa4.t.1,rfl,_,rfl,_,rfl,p,_,cs,bs,v,b,ta,_,y,rfl,pa4,few,hv4,ok,t4,rfl,hn,λH5 c dx l bs' hc hl4 ⟨us,l5,u5⟩ P5 B5 lb d5 f5 bfr=>?_⟩;have t5:=f5 ta _ t4 (pa4.apart t4 (by intro C d fs z;cases z) (by intro kvs z;cases z));refine⟨_,rfl,_,rfl,p,Af,q.dp,_,_,rfl,P5.1,T.cl_Pool,T.n_Pool_draft,rfl,_,rfl,ta,_,_,_,rfl,rfl,AS.of t5,rfl,q.dd,_,rfl,Pf.k (k:=Sum.inl ((cs.length:Int)+1)) d5 (BU (by unfold So;rw[bE,eS];omega)),?_⟩;have fr:∀a,H4 a=none->H a=none:=λa hc=>by
  cases h:H a with
  |none=>rfl
  |some o=>
   obtain⟨o',h'⟩:=k2 a o h;rw[s4.get h'] at hc;cases hc
 have hcH:=fr c hc;have edr:putK (So (cs.drop q.m)) (Sum.inl ((cs.length:Int)+1)) v=So (((cs++[Fm ((cs.length:Int)+1) y b v c dx ta l cs]).map (bump ((Bg b).map (·.1)))).drop q.m):=by
  rw[<-hG,Pu,List.drop_append_of_le_length pa.m,Kn _ (Kg λx hx=>?_)]
  ·unfold So;rw[cg];rfl
  ·obtain⟨e,he,rfl⟩:=bK.mp hx;have he:=jj he;obtain⟨i,hi,rfl⟩:=cS he;have:=pa.z i _ (bF hi);intro zz;have:=dE zz;omega
 rw[edr];have nt0:∀{a u},H5 a=some u->(∀kvs,u≠.dK kvs)->a≠q.dd:=λ{a u} h n zz=>by
  rw[zz,d5] at h;exact n _ (bO h).symm
 refine⟨_,rfl,hq2 hne _ c dx l ta bs' hcH (fr l hl4) ⟨us,by rw[Ag (nt0 l5 (by intro kvs z;cases z))];exact l5,D4 (λa ys h=>by rw[Ag (nt0 h (by intro kvs z;cases z))];exact h) _ _ u5⟩ ?_ (λa o h n=>?_) λx hx=>(bfr x hx).imp id (fr x.2)⟩
 ·have nt:∀{a u},H5 a=some u->(∀kvs,u≠.dK kvs)->a≠q.dd:=λ{a u} h n zz=>by
   rw[zz,d5] at h;exact n _ (bO h).symm
  refine⟨⟨?_,?_,λe he=>?_,P5.2.2.2⟩,Ae,?_,{ B5 with h:=?_,d:=λx hx=>⟨?_,(B5.d x hx).2⟩ },pa.n1,pa.n2,pa.n3,?_,λi e h=>?_,?_,?_,?_⟩
  ·rw[Ag (nt P5.1 (by intro kvs z;cases z))];exact P5.1
  ·rw[Ag pa.n2];exact P5.2.1
  ·exact(P5.2.2.1 e he).tup (Ag (nt (P5.2.2.1 e he).1 (by intro kvs z;cases z))) λa ys h=>by rw[Ag (nt h (by intro kvs z;cases z))];exact h
  ·rw[bE,bW];have:=pa.m;show q.m<=cs.length+1;omega
  ·rw[Ag pa.n3];exact B5.h
  ·rw[Ag (B5.d x hx).2.2.2];exact(B5.d x hx).1
  ·rw[J9,cg,dA];refine⟨pa.c,by simp,λa ha b' hb=>?_⟩;obtain⟨x,hx,rfl⟩:=bK.mp ha;have:b'=c:=bS.mp hb;rw[this];intro zz;have:=(pa.t.2.2.1 x hx).1;rw[zz,hcH] at this;cases this
  ·rw[bQ] at h;obtain⟨x,hx,rfl⟩:=cm.mp h;show x.z=_
   by_cases hi:i<cs.length
   ·rw[eX hi] at hx;exact pa.z i x hx
   ·rw[eR (by omega)] at hx;obtain⟨h1,h2⟩:=bT.mp hx;have:i=cs.length:=by
     have:i-cs.length<1:=h1;omega
    subst this;simp only[Nat.sub_self,List.getElem_cons_zero] at h2;rw[<-h2];rfl
  ·rw[bE,bW];have:=pa.w;show bs'.length<=cs.length+1;omega
  ·show(1:Int)<=(cs.length:Int)+1;omega
  ·rw[bE,bW];show(cs.length:Int)+1<=((cs.length+1:Nat):Int)+1;omega
 ·have na:a≠q.dd:=λzz=>n (by rw[zz];unfold By;simp)
  have np:a≠p:=λzz=>n (by rw[zz];unfold By;simp)
  rw[Ag na];exact f5 a o (s4.get (by rw[ho2 a np];exact s1.get h)) n
end
open M06
section
variable {P:Program}{w:World}{K:W.Frag}{mg:Str->Option Value}{base:Heap}{f Ac Aa Ab Af:Addr}{XC:Nat->Addr}{fd:FuncData}
theorem Sj {cs:List Cl}(hz:∀(i:Nat) e,cs[i]?=some e->e.z=(i:Int)+1):(cs.map (·.z)).Pairwise (·<=·):=by
 rw[eW];intro i j hi hj hij;rw[bE] at hi hj;rw[eU,eU,hz i _ (bF hi),hz j _ (bF hj)];omega
def DB (K:W.Frag)(CP CT:Addr):Sp:=λvs H Q _=>∃p q cs bs,vs=[.ref p]/\PAt CP CT H p q cs bs/\cs.length<=10000/\∀(ms:List Int) l,ms.Perm (cs.map (·.z))->ms.Pairwise (·<=·)->H l=none->Q (.ref l) (upd H l (.lst (ms.map V.int)))
theorem Lq (T:Txt K mg Ac Aa Ab Af XC)(F:Fun K "numbers" "Pool.numbers" Cq f fd):FnOk P w K mg base CG 1 f fd ["self"] (DB K Af Ab):=by
 exists Lv
 ·obtain⟨p,q,cs,bs,rfl,_⟩:=h;rfl
 obtain⟨p,q,cs,bs,rfl,pa,few,hq⟩:=h;have hu:=Dy hr;refine⟨_,(!Al (!Aq (!Av (Iw rfl) (by rfl) T.b_sorted Gx (!Ad (!A6 (pv 0)) (!Aj))))),?_⟩
 try dsimp only[Ca,Cx.nox,Cx.wish]
 exact⟨_,rfl,p,Af,q.dp,_,_,rfl,pa.t.1,T.cl_Pool,T.n_Pool_taken,rfl,q.dt,_,cs.map (·.z),rfl,pa.t.2.1,by unfold Pa;rw[cw,cw];rfl,.inr ⟨by rw[bE];omega,Sj pa.z⟩,λms l pm so nl=>hq ms l pm so nl⟩
theorem PAt.keep {CP CT:Addr}{H H':Hp}{p:Addr}{q:Pl}{cs:List Cl}{bs:List (Int×Addr)}(h:PAt CP CT H p q cs bs)(ko:∀a o,a∈By p q cs bs->H a=some o->H' a=some o)(kt:∀c ys,H c=some (.tup ys)->H' c=some (.tup ys)):PAt CP CT H' p q cs bs:=by
 have m1:p∈By p q cs bs:=by unfold By;simp
 have m2:q.dt∈By p q cs bs:=by unfold By;simp
 have m3:q.dz∈By p q cs bs:=by unfold By;simp
 have m4:q.dd∈By p q cs bs:=by unfold By;simp
 have m5:∀x∈bs,x.2∈By p q cs bs:=λx hx=>by
  unfold By;simp only[List.mem_cons,List.mem_append];exact .inr (.inr (.inr (.inr (.inl (bK.mpr ⟨x,hx,rfl⟩)))))
 have m6:∀x∈cs,x.c∈By p q cs bs:=λx hx=>by
  unfold By;simp only[List.mem_cons,List.mem_append];exact .inr (.inr (.inr (.inr (.inr (bK.mpr ⟨x,hx,rfl⟩)))))
 refine{ h with t:=⟨ko _ _ m1 h.t.1,ko _ _ m2 h.t.2.1,λe he=>?_,h.t.2.2.2⟩,d:=ko _ _ m4 h.d,b:={ h.b with h:=ko _ _ m3 h.b.h,d:=λx hx=>⟨ko _ _ (m5 x hx) (h.b.d x hx).1,(h.b.d x hx).2⟩ } };have hc:=(h.t.2.2.1 e he).1;exact(h.t.2.2.1 e he).tup ((ko _ _ (m6 e he) hc).trans hc.symm) kt
def aa (p:Addr)(q:Pl)(cs:List Cl)(bs:List (Int×Addr))(bo:Addr)(ds:List Addr):Prop:=bo∉By p q cs bs/\∀d∈ds,d∉By p q cs bs
theorem PAt.kb {CP CT CB:Addr}{H H':Hp}{p:Addr}{q:Pl}{cs:List Cl}{bs:List (Int×Addr)}{bo:Addr}{ds:List Addr}{b0:List BQ}{n:Int}{lf:V}(h:PAt CP CT H p q cs bs)(hB:C2 CB H bo ds b0 n lf)(ap:aa p q cs bs bo ds)(k:Kb H H' bo ds):PAt CP CT H' p q cs bs:=by
 obtain⟨dx,s0,h1,_⟩:=id hB;exact h.keep (λa o ha e=>k a o e (λz=>ap.1 (by rw[<-z];exact ha)) λz=>ap.2 a z ha) λc ys e=>k c _ e (AK e h1 (by intro z;cases z)) (hB.notin e (by intro kvs z;cases z))
theorem IL:∀{l m:List Int},l.Perm m->l.Pairwise (·<=·)->m.Pairwise (·<=·)->l=m
 |[],m,p,_,_=>by rw[List.nil_perm.mp p]
 |a::l,[],p,_,_=>by have:=p.length_eq;cases this
 |a::l,b::m,p,h1,h2=>by
  rw[List.pairwise_cons] at h1 h2;have e:a=b:=by
   have ha:=p.mem_iff.mp (bZ (a:=a) (l:=l));have hb:=p.mem_iff.mpr (bZ (a:=b) (l:=m));rcases cf.mp ha with ha|ha
   ·exact ha
   rcases cf.mp hb with hb|hb
   ·exact hb.symm
   have:=h1.1 b hb;have:=h2.1 a ha;omega
  subst e;rw[IL p.cons_inv h1.2 h2.2]
def Laid (bs:List BQ)(cs:List Cl)(i:Nat):Prop:=∀(j:Nat) e,cs[j]?=some e->∀b,b<bs.length->Bl (bs.getD b []) e.z=if j<i/\(b:Int)∈De bs e.z then some (BG (BH e.z e.y e.bk)) else none
def C1 (K:W.Frag)(CP CT CB:Addr):Sp:=λvs H Q _=>∃p q cs bs ds b0 n,vs=[.ref p]/\PAt CP CT H p q cs bs/\q.m=0/\cs.length<=400/\C2 CB H q.bo ds b0 n .non/\aa p q cs bs q.bo ds/\2<=b0.length/\(∀c∈b0,c=[])/\(∀e∈cs,MB e.z e.y)/\
 ∀H' b1 n1,PAt CP CT H' p { q with m:=cs.length } cs bs->C2 CB H' q.bo ds b1 n1 .non->b1.length=b0.length->Laid b1 cs cs.length->(∀c∈b1,c.length<=2*cs.length)->(∀a o,H a=some o->a≠q.bo->a∉ds->a≠q.dd->H' a=some o)->Q .non H'
theorem J2 (T:Txt K mg Ac Aa Ab Af XC)(F:Fun K "lay_draft" "Pool.lay_draft" BE f fd)(VW:Def P w K mg base 10 "lay" ["boards","number","birth","block"] (RE K Aa))(DL:A9 P w K mg base 1 Af "tag" ["self","number"] (FO K Af Ab)):FnOk P w K mg base CG 11 f fd ["self"] (C1 K Af Ab Aa):=by
 exists FR
 ·obtain⟨p,q,cs,bs,ds,b0,n,rfl,_⟩:=h;rfl
 obtain⟨p,q,cs,bs,ds,b0,n,rfl,pa,m0,few,hB,ap,b2,be,nbs,hq⟩:=h;have pd:=pa.d;rw[m0,iA] at pd;have hu:=Dy hr;refine⟨_,(!Ai (!BM cF rfl (!Cy (!Av (Iw rfl) (by rfl) T.b_sorted Gx (!Ad (!A6 (pv 0)) (!Aj)))) (@As _ _ (1) _ FR.nd rfl (by trivial) (by trivial)) (!Al (!BN (!AO VW (by trivial) rfl (!Ad (!A6 (pv 0)) (!Ad (pv 1) (!Ad (!Au Az (!Bf (pv 0) T.cl_Pool DL (by trivial) (!Ad (pv 1) (!Aj))) (!Ak) (λ_ _=>rfl)) (!Ad (!Ks hu (!A6 (pv 0)) (pv 1) (λ_ _=>rfl)) (!Aj)))))))) (by intro _;rfl)) (!Al (!BN (!TH (!A6 (pv 0)) ⟨rfl,rfl,rfl,rfl⟩)))),?_⟩
 try dsimp only[Ca,Cx.nox,Cx.wish]
 refine⟨_,rfl,p,Af,q.dp,_,_,rfl,pa.t.1,T.cl_Pool,T.n_Pool_draft,rfl,q.dd,_,cs.map (·.z),rfl,pd,by unfold So;rw[cw,cw];rfl,.inr ⟨by rw[bE];omega,Sj pa.z⟩,λms l pm so nl=>?_⟩;obtain rfl:ms=cs.map (·.z):=IL pm so (Sj pa.z);have s1:=Am nl (.lst ((cs.map (·.z)).map V.int));have hB1:=hB.same s1;refine⟨l,rfl,⟨_,AQ.of Ae⟩,?_⟩;have lz:∀i,(b0.getD i [])=[]:=λi=>by
  unfold List.getD;cases e:b0[i]? with
  |none=>rfl
  |some c=>exact be c (bJ e)
 refine CF (K:=K) (a:=l) (xs:=(cs.map (·.z)).map V.int) (λi σ H'=>∃b1 n1 v1,σ=[some (.ref p),v1]/\PAt Af Ab H' p q cs bs/\C2 Aa H' q.bo ds b1 n1 .non/\b1.length=b0.length/\(∀c∈b1,c.length<=2*i)/\H' l=some (.lst ((cs.map (·.z)).map V.int))/\Kb H H' q.bo ds/\Laid b1 cs i)
  ⟨b0,n,none,rfl,pa.same s1,hB1,rfl,(λc hc=>by rw[be c hc];exact cE _),Ae,An.kb s1 _ _,λj e hj b hb=>by rw[lz b,bP (λh=>absurd h.1 (fb _))];rfl⟩ ?_ ?_ ?_
 ·rintro i σ H' _ ⟨_,_,_,_,_,_,_,_,h,_⟩
  exact AQ.of h
 ·rintro i x σ H' hx ⟨b1,n1,v1,rfl,pa',hB',lb,cb,hl',kb,la⟩
  rw[bQ,bQ] at hx;obtain⟨zz,hz,rfl⟩:=cm.mp hx;obtain⟨e,hei,rfl⟩:=cm.mp hz;have he:=bJ hei;have ce:=pa'.t.2.2.1 e he;have il:i<cs.length:=(bT.mp hei).1;have g:ED H' q.dd (.int e.z) (some e.v):=by
   have:=ED.k (k:=Sum.inl e.z) pa'.d;rw[m0,iA,VN pa'.t.2.2.2 he] at this;exact this
  refine⟨_,rfl,p,Af,q.dp,_,_,rfl,pa'.t.1,T.cl_Pool,T.n_Pool_boards,rfl,_,rfl,_,rfl,p,q.dp,_,rfl,pa'.t.1,rfl,_,rfl,p,q,cs,e,rfl,pa'.t,he,e.ta,_,_,_,rfl,rfl,AS.of ce.2.1,rfl,_,rfl,p,Af,q.dp,_,_,rfl,pa'.t.1,T.cl_Pool,T.n_Pool_draft,rfl,_,rfl,q.dd,_,rfl,g,q.bo,ds,b1,n1,e.z,e.y,e.v,e.bk,rfl,hB',by omega,λc hc=>?_,ce.2.2.1,ce.2.2.2,nbs e he,λH2 hB2 k2=>?_⟩
  ·have:=cb c hc;omega
  have nll:l≠q.bo:=by
   obtain⟨dx,s0,h1,_⟩:=id hB';exact AK hl' h1 (by intro z;cases z)
  refine⟨_,_,_,rfl,pa'.kb hB' ap k2,hB2,by rw[MA];exact lb,λc hc=>?_,k2 _ _ hl' nll (hB'.notin hl' (by intro kvs z;cases z)),kb.trans k2,λj e' hj b hb=>?_⟩
  ·have:=Qg _ cb c hc;have:(De b1 e.z).length=2:=rfl;omega
  ·rw[MA] at hb;have et:De (wr b1 e.z (BG (BH e.z e.y e.bk)) (De b1 e.z)) e'.z=De b1 e'.z:=by unfold De;rw[MA]
   rw[Vi e.z _ e'.z _ b1 b hb λy hy=>Rr (by omega) y hy,et,la j e' hj b hb]
   by_cases hji:j=i
   ·subst hji;rw[hei] at hj;cases hj
    by_cases hb':(b:Int)∈De b1 e.z
    ·rw[bV ⟨rfl,hb'⟩,bV ⟨by omega,hb'⟩]
    ·rw[bP (λh=>hb' h.2),bP (λh=>hb' h.2),bP (λh=>hb' h.2)]
   ·have nz:e'.z≠e.z:=λh=>by
     have h1:=pa'.z j e' hj;have h2:=pa'.z i e hei;omega
    rw[bP (λh=>nz h.1)]
    by_cases hb':(b:Int)∈De b1 e'.z
    ·by_cases hj1:j<i
     ·rw[bV ⟨hj1,hb'⟩,bV ⟨by omega,hb'⟩]
     ·rw[bP (λh=>hj1 h.1),bP (λh=>by omega)]
    ·rw[bP (λh=>hb' h.2),bP (λh=>hb' h.2)]
 ·rintro σ H' ⟨b1,n1,v1,rfl,pa',hB',lb,cb,hl',kb,la⟩
  rw[bE,bE] at la cb;have mdd:q.dd∈By p q cs bs:=by unfold By;simp
  refine⟨_,rfl,p,Af,q.dp,_,_,rfl,pa'.t.1,T.cl_Pool,T.n_Pool_draft,rfl,q.dd,_,rfl,pa'.d,?_⟩;have no:∀{a u},H' a=some u->(∀kvs,u≠.dK kvs)->a≠q.dd:=λ{a u} h n zz=>by
   rw[zz,pa'.d] at h;exact n _ (bO h).symm
  obtain⟨dx,s0,h1,h2,h3,h4⟩:=id hB';have tp:∀c ys,H' c=some (.tup ys)->(upd H' q.dd (.dK [])) c=some (.tup ys):=λc ys h=>by rw[Ag (no h (by intro kvs z;cases z))];exact h
  have lp:∀c ys,H' c=some (.lst ys)->(upd H' q.dd (.dK [])) c=some (.lst ys):=λc ys h=>by rw[Ag (no h (by intro kvs z;cases z))];exact h
  have bd:∀x∈bs,x.2≠q.dd:=λx hx=>(pa'.b.d x hx).2.2.2
  refine hq _ b1 n1 { pa' with t:=⟨?_,?_,λe he=>?_,pa'.t.2.2.2⟩,d:=?_,m:=bI _,b:={ pa'.b with h:=?_,d:=λx hx=>⟨?_,(pa'.b.d x hx).2⟩ } } ⟨dx,s0,?_,lp _ _ h2,h3,?_⟩ lb la cb λa o h n1 n2 n3=>?_
  ·rw[Ag (no pa'.t.1 (by intro kvs z;cases z))];exact pa'.t.1
  ·rw[Ag pa'.n2];exact pa'.t.2.1
  ·have hc:=(pa'.t.2.2.1 e he).1;exact(pa'.t.2.2.1 e he).tup (Ag (no hc (by intro kvs z;cases z))) tp
  ·show upd H' q.dd (.dK []) q.dd=some (.dK (So (cs.drop cs.length)));rw[Ae,List.drop_length];rfl
  ·rw[Ag pa'.n3];exact pa'.b.h
  ·rw[Ag (bd x hx)];exact(pa'.b.d x hx).1
  ·rw[Ag (no h1 (by intro kvs z;cases z))];exact h1
  ·exact h4.same lp λd hd kvs h=>by rw[Ag (λz=>ap.2 d hd (by rw[z];exact mdd))];exact h
  ·rw[Ag n3];exact kb a o h n1 n2
end
open M06
section
variable {P:Program}{w:World}{K:W.Frag}{mg:Str->Option Value}{base:Heap}{f Ac Aa Ab Af:Addr}{XC:Nat->Addr}{fd:FuncData}
def HN (K:W.Frag):Sp:=λvs H Q _=>∃(c m:Int),vs=[.int c,.int m]/\0<=m/\m<=1000/\
 ∀(r:Addr) (H':Hp) (ns:List Int),An H H'->H r=none->H' r=some (.lst (ns.map V.int))->ns.length=m.toNat->(∀x∈ns,0<=x/\x<1000000)->Q (.ref r) H'
theorem QJ (T:Txt K mg Ac Aa Ab Af XC)(F:Fun K "_law_row" "_law_row" Et f fd):FnOk P w K mg base CG 1 f fd ["_law_cell","_law_many"] (HN K):=by
 exists Da
 ·obtain⟨c,m,rfl,_⟩:=h;rfl
 obtain⟨c,m,rfl,hm0,hm1,q⟩:=h;refine⟨_,(!Ai (@AB _ _ (2) _ _ _ _ Da.nd rfl (by trivial) (!Cs (!Aj)) (by rfl) (by trivial)) (!Ai (@AB _ _ (3) _ _ _ _ Da.nd rfl (by trivial) (pv 0) (by rfl) (by trivial)) (!Ai (!AR (!AI RU (!Av Qp (by rfl) T.b_abs VJ (!Ad (pv 0) (!Aj))) (!AC MG (!Ak) (!Ak)) (AG _)) (!Al (@AB _ _ (3) _ _ _ _ Da.nd rfl (by trivial) (!AC DF (!AC BP (pv 0) (!Ak)) (!Ak)) (by rfl) (by trivial))) (!Ay)) (!Ai (!BM cF rfl (!Gy rfl T.b_range (!Ad (pv 1) (!Aj))) (@As _ _ (4) _ Da.nd rfl (by trivial) (by trivial)) (!Al (!AR (!AI RU (!Av Qp (by rfl) T.b_abs VJ (!Ad (pv 0) (!Aj))) (!AC MG (!Ak) (!Ak)) (AG _)) (!Ai (@AB _ _ (3) _ _ _ _ Da.nd rfl (by trivial) (!AC BP (!AC Kx (pv 3) (!Ak)) (!Ak)) (by rfl) (by trivial)) (!Al (!BN (!J3 dk eZ eY Gw (pv 2) (!Ad (!AC BP (!AC Ph (!AC BP (!AC DF (!AC DF (!AC Kx (pv 3) (pv 3)) (!AC Kx (!Ak) (pv 3))) (pv 4)) (!Ak)) (!Ak)) (!AC MG (!Ak) (!Ak))) (!Aj)))))) (!Ai (!BN (!J3 dk eZ eY Gw (pv 2) (!Ad (!AC BP (pv 3) (!AC MG (!Ak) (!Ak))) (!Aj)))) (!Al (@AB _ _ (3) _ _ _ _ Da.nd rfl (by trivial) (!AC Ph (pv 3) (!AC MG (!Ak) (!Ak))) (by rfl) (by trivial)))))) (by intro _;rfl)) (!Al (!Aq (pv 2))))))),?_⟩;refine⟨Mn,λg hg=>?_⟩;refine⟨_,rfl,?_⟩;have z1:∀(N:St->Hp->Prop),(∀z:Int,N [some (.int c),some (.int m),some (.ref g),some (.int z),none] (upd H g (.lst [])))->P8 (Vm (Xs (Vb λi j=>V.bl (decide (i<j))) (aQ (λxs H Q=>∃i,xs=[V.int i]/\Q (V.int (if i<0 then -i else i)) H) (D5 (WS 0) ET)) (Xs (rI ZG λi j=>V.int (i^j.toNat)) (tC (V.int 10)) (tC (V.int 18))))) (Um (Xs (Vb λi j=>V.int (i+j)) (Xs (rI (λx j=>0<j) λi j=>V.int (i%j)) (WS 0) (tC (V.int 2147483647))) (tC (V.int 1))) (FA 3)) L1 { nx:=N,rt:=Q } [some (.int c),some (.int m),some (.ref g),some (.int c),none] (upd H g (.lst [])):=λN hN=>by
  refine⟨_,rfl,_,rfl,_,_,rfl,rfl,⟨by decide,by decide,by decide⟩,_,_,rfl,rfl,_,rfl,IE (λ_=>?_) (λ_=>?_)⟩
  ·exact⟨_,rfl,_,_,rfl,rfl,(by show(0:Int)<2147483647;decide),_,_,rfl,rfl,hN _⟩
  ·exact hN _
 refine z1 _ λz0=>?_
 refine⟨_,rfl,m,rfl,by omega,by omega,N2 (lo:=0) (n:=m.toNat) (λi σ H2=>∃(ns:List Int) (z:Int) (v:Option V),σ=[some (.int c),some (.int m),some (.ref g),some (.int z),v]/\An H H2/\H2 g=some (.lst (ns.map V.int))/\ns.length=i/\∀x∈ns,0<=x/\x<1000000)
  ⟨[],_,none,rfl,Am hg _,Ae,rfl,λ_ h=>nomatch h⟩ ?_ ?_⟩
 ·rintro i σ H2 hi ⟨ns,z,v,rfl,s2,hg2,hl,hb⟩
  refine⟨_,rfl,_,rfl,_,_,rfl,rfl,⟨by decide,by decide,by decide⟩,_,_,rfl,rfl,_,rfl,IE (λ_=>?_) (λ_=>?_)⟩
  ·refine⟨_,rfl,_,_,rfl,rfl,.inr ⟨by decide,by decide⟩,_,_,rfl,rfl,(by show(0:Int)<2147483647;decide),?_⟩;have b0:=dJ (z*48271) (show(2147483647:Int)≠0 by decide);have b1:=di (z*48271) (show(0:Int)<2147483647 by decide);dsimp only;generalize z*48271%2147483647=y at b0 b1;refine⟨_,rfl,.inl ⟨rfl,_,AQ.of hg2⟩,_,rfl,_,rfl,_,_,rfl,rfl,.inl ⟨by omega,by omega⟩,_,rfl,_,_,rfl,rfl,.inl ⟨by decide,by decide⟩,_,_,rfl,rfl,_,rfl,_,_,rfl,rfl,_,_,rfl,rfl,(by show(0:Int)<2147483629;decide),_,_,rfl,rfl,⟨by decide,by decide⟩,_,_,rfl,rfl,⟨by decide,by decide,by decide⟩,_,_,rfl,rfl,(by show(0:Int)<10^(6:Int).toNat;decide),?_⟩;refine⟨g,_,_,rfl,rfl,hg2,BU (by rw[bE];omega),?_⟩;refine⟨ns++[_],_,_,rfl,BV s2 hg _,by rw[Ae,cg];rfl,by rw[bW,hl];rfl,λx hx=>?_⟩;rcases cj.mp hx with hx|hx
   ·exact hb x hx
   ·rw[bS.mp hx];exact⟨dJ _ (by decide),di _ (by decide)⟩
  ·refine⟨_,rfl,.inl ⟨rfl,_,AQ.of hg2⟩,_,rfl,_,_,rfl,rfl,⟨by decide,by decide,by decide⟩,_,_,rfl,rfl,(by show(0:Int)<10^(6:Int).toNat;decide),g,_,_,rfl,rfl,hg2,BU (by rw[bE];omega),?_⟩;refine⟨_,rfl,_,_,rfl,rfl,⟨by decide,by decide,by decide⟩,_,_,rfl,rfl,⟨by decide,by decide⟩,?_⟩;refine⟨ns++[_],_,_,rfl,BV s2 hg _,by rw[Ae,cg];rfl,by rw[bW,hl];rfl,λx hx=>?_⟩;rcases cj.mp hx with hx|hx
   ·exact hb x hx
   ·rw[bS.mp hx];exact⟨dJ _ (by decide),di _ (by decide)⟩
 ·rintro σ H2 ⟨ns,z,v,rfl,s2,hg2,hl,hb⟩
  exact⟨_,rfl,q g _ ns s2 hg hg2 hl hb⟩
def EJ (K:W.Frag):Sp:=λvs H Q _=>vs=[]/\Q (.str SG) H
theorem MV (T:Txt K mg Ac Aa Ab Af XC)(F:Fun K "_law_signs" "_law_signs" Dh f fd):FnOk P w K mg base CG 1 f fd [] (EJ K):=by
 exists Ng
 ·obtain⟨rfl,_⟩:=h;rfl
 obtain⟨rfl,q⟩:=h;refine⟨_,(!Al (!Aq (!HI))),?_⟩;exact q
def IJ (K:W.Frag):Sp:=λvs H Q _=>∃v b,vs=[v]/\Rep NL H (Bh b) v/\Ds b/\∀H',An H H'->Q (.int (AA b)) H'
theorem P4 (T:Txt K mg Ac Aa Ab Af XC)(F:Fun K "_law_sum" "_law_sum" EI f fd)(Cz:Def P w K mg base 1 "_law_signs" [] (EJ K)):FnOk P w K mg base CG 2 f fd ["_law_block"] (IJ K):=by
 exists Br
 ·obtain⟨v,b,rfl,_⟩:=h;rfl
 obtain⟨v,b,rfl,hv,ok,q⟩:=h;obtain⟨a,xs,rfl,e⟩:=Kr hv;refine⟨_,(!Ai (@AB _ _ (1) _ _ _ _ Br.nd rfl (by trivial) (!Cs (!Aj)) (by rfl) (by trivial)) (!Ai (!AR (!AI CI (!Au Az (pv 0) (!Ak) (λ_ _=>rfl)) (!Ak) (AG _)) (!Al (@LZ _ ["_law_sign"] (1) _ _ _ _ _ _ _ _ _ _ _ _ _ Br.nd rfl (by trivial) rfl (!Kw (!Au Az (pv 0) (!Ak) (λ_ _=>rfl))) (by decide +kernel) (λC s H fp=>⟨(@As _ _ (0) _ (show(["_law_sign"]:List Str).Nodup by decide +kernel) rfl (by trivial) (by trivial)),(!AY),(@QT _ (K) _ _ _ _ _ _ _ _ _ _ _ rfl fj gD gC (LP rfl) (!QX Cz) (!Ad (pv 0) (!Aj)) (by rfl) (by rfl) (by rfl) (by rfl) (by rfl))⟩) (by intro _;rfl) (by rfl) (by trivial))) (!Al (!AR (!AI CI (!Au Az (pv 0) (!Ak) (λ_ _=>rfl)) (!Ak) (AG _)) (!Al (@AB _ _ (1) _ _ _ _ Br.nd rfl (by trivial) (!AC Hf (!Cs (!Ad (!Au Az (pv 0) (!Ak) (λ_ _=>rfl)) (!Aj))) (@Cj _ ["_law_tag"] _ _ _ _ _ _ _ _ _ _ rfl (!Ed (!Au Az (pv 0) (!Ak) (λ_ _=>rfl))) (by decide +kernel) (λC s H fp=>⟨(@As _ _ (0) _ (show(["_law_tag"]:List Str).Nodup by decide +kernel) rfl (by trivial) (by trivial)),(!AY),(!Au (Hn (K:=K) (by rfl)) (pv 0) (!Ak) (λ_ _=>rfl))⟩) (by intro _;rfl))) (by rfl) (by trivial))) (!Al (!BM cF rfl (!Ed (!Au Az (pv 0) (!Ak) (λ_ _=>rfl))) (!Pn rfl (!AZ (@As _ _ (2) _ Br.nd rfl (by trivial) (by trivial)) (!AZ (@As _ _ (3) _ Br.nd rfl (by trivial) (by trivial)) (!AZ (@As _ _ (4) _ Br.nd rfl (by trivial) (by trivial)) (!FS))))) (!Al (@AB _ _ (1) _ _ _ _ Br.nd rfl (by trivial) (!AC Hf (!AC Hf (pv 1) (@Cj _ ["_law_sign"] _ _ _ _ _ _ _ _ _ _ rfl (!Kw (pv 2)) (by decide +kernel) (λC s H fp=>⟨(@As _ _ (0) _ (show(["_law_sign"]:List Str).Nodup by decide +kernel) rfl (by trivial) (by trivial)),(!AY),(@QT _ (K) _ _ _ _ _ _ _ _ _ _ _ rfl fj gD gC (LP rfl) (!QX Cz) (!Ad (pv 0) (!Aj)) (by rfl) (by rfl) (by rfl) (by rfl) (by rfl))⟩) (by intro _;rfl))) (!Cs (!Ad (pv 3) (!Ad (!Au Az (pv 4) (!Ak) (λ_ _=>rfl)) (!Aj))))) (by rfl) (by trivial))) (by intro _;rfl)))))) (!Ai (@AB _ _ (5) _ _ _ _ Br.nd rfl (by trivial) (!AC DF (!Ak) (!Au Az (pv 0) (!Ak) (λ_ _=>rfl))) (by rfl) (by trivial)) (!Ai (!BM cF rfl (!Cy (pv 1)) (@As _ _ (6) _ Br.nd rfl (by trivial) (by trivial)) (!Al (@AB _ _ (5) _ _ _ _ Br.nd rfl (by trivial) (!AC BP (!AC DF (!AC DF (!AC Kx (!Ak) (pv 5)) (pv 6)) (!Ak)) (!Ak)) (by rfl) (by trivial))) (by intro _;rfl)) (!Al (!Aq (pv 5))))))),?_⟩
 try dsimp only[Ca,Cx.nox,Cx.wish]
 refine⟨Mn,λt0 ht0=>?_⟩;have s0:=Am ht0 (.lst []);have hv0:=Rep.same s0 _ _ hv;have e0:=s0.get e;have ht1:(upd H t0 (.lst [])) t0=some (.lst []):=Ae;generalize upd H t0 (.lst [])=H0 at s0 hv0 e0 ht1;dsimp only;refine Kh (λσ' H'=>∃l v2 v3 v4,σ'=[some (.ref a),some (.ref l),v2,v3,v4,none,none]/\An H H'/\H' l=some (.lst ((told b).map V.int))) (λN hN=>?_) ?_
 ·cases b with
  |piece z=>
   obtain⟨a',ea,e⟩:=GB hv0;cases ea;have h':(decide ((1:Int)<=(z.length:Int))&&decide ((z.length:Int)<=8)&&E5 SG z)=true:=ok;simp only[Bool.and_eq_true,decide_eq_true_eq] at h';have zs:∀c∈Eh z,c∈Eh SG:=λc hc=>by simpa using cO.mp h'.2 c hc
   refine⟨_,rfl,a,_,_,_,rfl,rfl,AS.of e,rfl,rfl,_,rfl,Bs rfl ?_⟩;refine⟨_,rfl,a,_,_,_,rfl,rfl,AS.of e,rfl,z,rfl,?_⟩;refine comp_map (λv=>match v with | .str y=>.int (PySem.Txt.find SG y)|_=>.non) JY (by rw[bE];exact cA (fT (DC z)) (by omega)) (λx H' R hx s' hR=>?_) λl H7 n7 s7 h7=>?_
   ·obtain⟨u,hu,rfl⟩:=bK.mp hx;exact⟨rfl,rfl,_,rfl,_,_,rfl,rfl,(JC (zs u hu)).1,hR H' (An.refl _)⟩
   have h7:H7 l=some (.lst (((Eh z).map idx).map V.int)):=h7.trans (congrArg (λx=>some (HO.lst x)) (idx_map _));exact hN _ _ ⟨l,_,_,_,rfl,s0.trans s7,h7⟩
  |row lv ts=>
   obtain⟨a',b,us,ea,e,e2,r⟩:=Kf hv0;cases ea;have lu:=AL.len _ _ r;rw[bE] at lu;have l8:=ok.2.1;refine⟨_,rfl,a,_,_,_,rfl,rfl,AS.of e,rfl,rfl,_,rfl,AE rfl ?_⟩;refine⟨_,rfl,a,_,_,_,rfl,rfl,AS.of e,rfl,rfl,_,rfl,Bs rfl ?_⟩;refine⟨_,rfl,a,_,_,_,rfl,rfl,AS.of e,rfl,WK,λp1 hp1=>?_⟩;have s1:=Am hp1 (.lst [V.int lv]);have e2':=s1.get e2;have r':=AL.same s1 _ _ r;refine⟨_,rfl,a,_,_,_,rfl,rfl,AS.of (s1.get e),rfl,b,rfl,⟨_,AS.of e2'⟩,comp_map (λv=>match v with | .ref x=>(match(upd H0 p1 (.lst [V.int lv])) x with|some (.tup [_,_,y])=>y|_=>.non)|_=>.non) (D3 e2') (by omega) (λx H' R hx s' hR=>?_) λl H7 n7 s7 h7=>?_⟩
   ·obtain⟨t,ht,rt⟩:=LI r' hx;obtain⟨c,rfl,ec⟩:=MO rt;have:=hR H' (An.refl _);simp only[ec] at this;exact⟨_,rfl,c,_,_,_,rfl,rfl,AS.of (s'.get ec),rfl,this⟩
   have h7:H7 l=some (.lst ((ts.map λt=>t.2.2).map V.int)):=h7.trans (congrArg (λx=>some (HO.lst x)) (ME r'));refine⟨p1,l,_,_,rfl,rfl,AQ.of (s7.get Ae),AQ.of h7,small (by rw[bE,bE];show 1+ts.length<=1000000;omega),λp hp=>?_⟩;exact hN _ _ ⟨p,_,_,_,rfl,s0.trans ((s1.trans s7).trans (Am hp _)),Ae⟩
  |folder=>
   obtain⟨a',b,ea,e,e2⟩:=DH hv0;cases ea;refine⟨_,rfl,a,_,_,_,rfl,rfl,AS.of e,rfl,rfl,_,rfl,AE rfl ?_⟩;refine⟨_,rfl,a,_,_,_,rfl,rfl,AS.of e,rfl,rfl,_,rfl,AE rfl ?_⟩;refine⟨_,rfl,a,_,_,_,rfl,rfl,AS.of e,rfl,b,rfl,⟨_,AS.of e2⟩,IR (K:=K) (a:=b) (xs:=[]) (λi σ H2=>σ=[some (.ref a),some (.ref t0),none,none,none,none,none]/\H2=H0) ⟨rfl,rfl⟩ (λi σ H2 _ ⟨_,z⟩=>by rw[z];exact AS.of e2) (λi y σ H2 hi=>by cases hi) ?_⟩
   rintro σ H2 ⟨rfl,rfl⟩
   exact hN _ _ ⟨t0,_,_,_,rfl,s0,ht1⟩
 rintro σ' H1 ⟨l,v2,v3,v4,rfl,s1,h1⟩
 refine⟨_,rfl,a,_,_,_,rfl,rfl,AS.of (s1.get e),MU,_,_,rfl,rfl,?_⟩;refine⟨_,rfl,l,rfl,⟨_,AQ.of h1⟩,CF (K:=K) (a:=l) (xs:=(told b).map V.int) (λi σ H2=>∃v6,σ=[some (.ref a),some (.ref l),v2,v3,v4,some (.int (((told b).take i).foldl (λt n=>(31*t+n+1)%997) (1+kindB b))),v6]/\An H1 H2) ⟨none,rfl,An.refl _⟩ (λi σ H2 _ ⟨_,_,s2⟩=>AQ.of (s2.get h1)) ?_ ?_⟩
 ·rintro i y σ H2 hi ⟨v6,rfl,s2⟩
  obtain⟨n,rfl,hn⟩:=ints_get hi;refine⟨_,rfl,_,_,rfl,rfl,.inl ⟨by decide,by decide⟩,_,rfl,_,_,rfl,rfl,_,_,rfl,rfl,_,_,rfl,rfl,(show(0:Int)<997 by decide),?_⟩;refine⟨some (.int n),?_,s2⟩;rw[NJ hn];rfl
 ·rintro σ H2 ⟨v6,rfl,s2⟩
  rw[bE,dQ];exact⟨_,rfl,q H2 (s1.trans s2)⟩
end
open M06
section
variable {P:Program}{w:World}{K:W.Frag}{mg:Str->Option Value}{base:Heap}{f Ac Aa Ab Af:Addr}{XC:Nat->Addr}{fd:FuncData}
def Tx (z:Str)(m:Nat):Prop:=z.length<=m/\∀c∈Eh z,c∈Eh SG
instance (z:Str) (m:Nat):Decidable (Tx z m):=by unfold Tx;infer_instance
theorem Tx.app {z y:Str}{m n:Nat}(h:Tx z m)(g:Tx y n):Tx (z++y) (m+n):=by
 have e:Eh (z++y)=Eh z++Eh y:=by
  show(z.cps++y.cps).toList=_;rw[fP]
 refine⟨?_,λc hc=>?_⟩
 ·have h1:=h.1;have g1:=g.1;rw[<-DC] at h1 g1 ⊢;rw[e,bW];omega
 ·rw[e] at hc;exact(cj.mp hc).elim (h.2 c) (g.2 c)
theorem EO (z y:Str):(z++y).length=z.length+y.length:=by
 rw[<-DC,<-DC,<-DC];show(z.cps++y.cps).toList.length=_;rw[fP,bW]
theorem UO:∀k:Nat,k<4->∀m:Nat,m<2->Tx (PySem.Txt.mul (PySem.Txt.slice (PySem.Str.ofString "abc") none (some (k:Int))) (m:Int)) 3:=by decide +kernel
theorem UU:∀k:Nat,k<4->(PySem.Txt.slice (PySem.Str.ofString "abc") none (some (k:Int))).length<=1000:=by decide +kernel
theorem S4:∀k:Nat,k<94->∀m:Nat,m<3->Tx (PySem.Txt.mul ⟨#[SG.cps.toList.getD k 0]⟩ (m:Int)) 2:=by decide +kernel
theorem Pc:∀k:Nat,k<94->Tx ⟨#[SG.cps.toList.getD k 0]⟩ 1:=by decide +kernel
theorem Hc {ns:List Int}(h:ns.length=12)(b:∀x∈ns,0<=x/\x<1000000)(j:Nat)(hj:j<12):∃n,Mj (ns.map V.int) (j:Int)=some (V.int n)/\0<=n/\n<1000000:=
 ⟨ns[j],DD (by rw[bQ,bF];rfl),b _ (eT _)⟩
def E6 (K:W.Frag):Sp:=λvs H Q _=>∃(a:Addr) (ns:List Int),vs=[.ref a]/\H a=some (.lst (ns.map V.int))/\ns.length=12/\(∀x∈ns,0<=x/\x<1000000)/\
 ∀(l:Addr) (H':Hp) (z1 z2:Str),An H H'->H l=none->H' l=some (.lst [.str z1,.str z2])->(∀z,z=z1\/z=z2->(1<=z.length/\z.length<=7)/\∀c∈Eh z,c∈Eh SG)->Q (.ref l) H'
theorem Oh (T:Txt K mg Ac Aa Ab Af XC)(F:Fun K "_law_pair" "_law_pair" DS f fd)(Cz:Def P w K mg base 1 "_law_signs" [] (EJ K)):FnOk P w K mg base CG 2 f fd ["_law_row_here"] (E6 K):=by
 exists Df
 ·obtain⟨a,ns,rfl,_⟩:=h;rfl
 obtain⟨a,ns,rfl,ha,ln,bd,q⟩:=h;refine⟨_,(!Ai (@AB _ _ (1) _ _ _ _ Df.nd rfl (by trivial) (!QX Cz) (by rfl) (by trivial)) (!Ai (@AB _ _ (2) _ _ _ _ Df.nd rfl (by trivial) (!AC Ml (!D9 VC (!HI) (!FP) (!EK (!AC BP (!Au Bm (pv 0) (!Ak) (λ_ _=>rfl)) (!Ak)))) (!AC BP (!Au Bm (pv 0) (!Ak) (λ_ _=>rfl)) (!Ak))) (by rfl) (by trivial)) (!Ai (@AB _ _ (3) _ _ _ _ Df.nd rfl (by trivial) (!AC DF (!Ak) (!AC BP (!Au Bm (pv 0) (!Ak) (λ_ _=>rfl)) (!Ak))) (by rfl) (by trivial)) (!Ai (@AB _ _ (4) _ _ _ _ Df.nd rfl (by trivial) (!AC BP (!Au Bm (pv 0) (!Ak) (λ_ _=>rfl)) (!Ak)) (by rfl) (by trivial)) (!Ai (@AB _ _ (5) _ _ _ _ Df.nd rfl (by trivial) (!AC Ml (!Au KR (pv 1) (!AC BP (!Au Bm (pv 0) (!Ak) (λ_ _=>rfl)) (!Ak)) (λ_ _=>rfl)) (!AC BP (!Au Bm (pv 0) (!Ak) (λ_ _=>rfl)) (!Ak))) (by rfl) (by trivial)) (!Al (!Aq (!Cs (!Ad (!AC DJ (!AC DJ (!AC DJ (pv 2) (!Au KR (pv 1) (pv 3) (λ_ _=>rfl))) (!Au KR (pv 1) (pv 4) (λ_ _=>rfl))) (pv 5)) (!Ad (!AC DJ (!AC DJ (!AC DJ (pv 2) (!Au KR (pv 1) (!AC HL (pv 3) (!Ak)) (λ_ _=>rfl))) (!Au KR (pv 1) (!AC DF (pv 4) (!Ak)) (λ_ _=>rfl))) (pv 5)) (!Aj))))))))))),?_⟩
 try dsimp only[Ca,Cx.nox,Cx.wish]
 obtain⟨n0,g0,b0⟩:=Hc ln bd 0 (by decide);obtain⟨n1,g1,b1⟩:=Hc ln bd 1 (by decide);obtain⟨n2,g2,b2⟩:=Hc ln bd 2 (by decide);obtain⟨n3,g3,b3⟩:=Hc ln bd 3 (by decide);obtain⟨n4,g4,b4⟩:=Hc ln bd 4 (by decide);obtain⟨n5,g5,b5⟩:=Hc ln bd 5 (by decide);have x0:(((n0%4).toNat:Nat):Int)=n0%4:=by omega
 have x1:(((n1%2).toNat:Nat):Int)=n1%2:=by omega
 have x5:(((n5%3).toNat:Nat):Int)=n5%3:=by omega
 have h1:=UO (n0%4).toNat (by omega) (n1%2).toNat (by omega);have h1s:=UU (n0%4).toNat (by omega);rw[x0] at h1 h1s;rw[x1] at h1;have h2:=Pc (1+n2%93).toNat (by omega);have h3:=Pc (n3%63).toNat (by omega);have h2':=Pc (1+n2%93-1).toNat (by omega);have h3':=Pc (n3%63+31).toNat (by omega);have h4:=S4 (n4%94).toNat (by omega) (n5%3).toNat (by omega);rw[x5] at h4;refine⟨rfl,_,rfl,a,_,_,_,rfl,rfl,AQ.of ha,g0,_,_,rfl,rfl,(show(0:Int)<4 by decide),_,rfl,_,rfl,small (by decide +kernel),_,rfl,a,_,_,_,rfl,rfl,AQ.of ha,g1,_,_,rfl,rfl,(show(0:Int)<2 by decide),_,_,rfl,rfl,by omega,by omega,h1s,?_⟩;refine⟨_,rfl,a,_,_,_,rfl,rfl,AQ.of ha,g2,_,_,rfl,rfl,(show(0:Int)<93 by decide),_,_,rfl,rfl,?_⟩;refine⟨_,rfl,a,_,_,_,rfl,rfl,AQ.of ha,g3,_,_,rfl,rfl,(show(0:Int)<63 by decide),?_⟩;refine⟨_,rfl,_,rfl,a,_,_,_,rfl,rfl,AQ.of ha,g4,_,_,rfl,rfl,(show(0:Int)<94 by decide),_,_,_,rfl,rfl,GU,NG (by omega) (by omega),_,rfl,a,_,_,_,rfl,rfl,AQ.of ha,g5,_,_,rfl,rfl,(show(0:Int)<3 by decide),_,_,rfl,rfl,by omega,by omega,by show 1<=1000;decide,?_⟩;have c1:=h1.app h2;have c2:=c1.app h3;have c3:=c2.app h4;have d1:=h1.app h2';have d2:=d1.app h3';have d3:=d2.app h4;have c3l:=c3.1;have d3l:=d3.1;rw[EO,EO,EO] at c3l d3l;have fin:∀{z y:Str} {m:Nat},z.length+y.length<=m->m<=7->z.length+y.length<=sizeLine:=λh g=>small (by omega)
 refine⟨_,rfl,_,rfl,_,rfl,_,_,_,rfl,rfl,GU,NG (by omega) (by omega),_,_,rfl,rfl,small (by have:=h1.1;have:=h2.1;omega),?_⟩;refine⟨_,rfl,_,rfl,_,_,_,rfl,rfl,GU,NG (i:=n3%63) (by omega) (by omega),_,_,rfl,rfl,small (by have:=c1.1;have:=h3.1;omega),?_⟩;refine⟨_,rfl,_,_,rfl,rfl,small (by have:=c2.1;have:=h4.1;omega),?_⟩;refine⟨_,rfl,_,rfl,_,rfl,_,_,rfl,rfl,_,_,_,rfl,rfl,GU,NG (i:=1+n2%93-1) (by omega) (by omega),_,_,rfl,rfl,small (by have:=h1.1;have:=h2'.1;omega),?_⟩;refine⟨_,rfl,_,rfl,_,_,rfl,rfl,_,_,_,rfl,rfl,GU,NG (i:=n3%63+31) (by omega) (by omega),_,_,rfl,rfl,small (by have:=d1.1;have:=h3'.1;omega),?_⟩;refine⟨_,rfl,_,_,rfl,rfl,small (by have:=d2.1;have:=h4.1;omega),Jd,λl hl=>?_⟩;refine q l _ _ _ (Am hl _) hl Ae λz hz=>?_
 rcases hz with rfl|rfl
 ·exact⟨⟨by rw[EO,EO,EO];show 1<=_+1+1+_;omega,c3.1⟩,c3.2⟩
 ·exact⟨⟨by rw[EO,EO,EO];show 1<=_+1+1+_;omega,d3.1⟩,d3.2⟩
end
open M06
section
variable {P:Program}{w:World}{K:W.Frag}{mg:Str->Option Value}{base:Heap}{f Ac Aa Ab Af:Addr}{XC:Nat->Addr}{fd:FuncData}
theorem VA {a b:Addr}:∀us,AF [V.ref a,V.ref b] us->us=[.ref a,.ref b]:=λus r=>by
 cases r with
 |cons h1 r=>
  cases r with
  |cons h2 r=>
   cases r;cases h1;cases h2;rfl
def Z4 (z:Int):Tr:=.tup [.str (PySem.Str.ofString "lost"),.int z]
def BX (K:W.Frag)(CP CT CB:Addr):Sp:=λvs H Q _=>∃p q cs bs ds b0 n v,∃(tg:V),vs=[.ref p,v,tg]/\PBd CP CT CB H p q cs bs ds b0 n/\cs.length<=1000/\
 ((tg=.non/\∃b,Rep NL H (Bh b) v/\Ds b/\(∀t∈Bg b,∃e∈cs,e.z=t.1)/\
   (∀e∈cs,e.bk=b->Jg q b0 e=true->∀H',An H H'->Q (.ref e.ta) H')/\
   ((∀e∈cs,AA e.bk=AA b->Jg q b0 e=true/\e.bk≠b)->∀H' c dx l ta bs',H c=none->H l=none->(∃us,H' l=some (.lst us)/\AL NL H' ((Bg b).map JI) us)->PAt CP CT H' p { q with n:=(cs.length:Int)+1 } ((cs++[Fm ((cs.length:Int)+1) 9 b v c dx ta l cs]).map (bump ((Bg b).map (·.1)))) bs'->YJ (By p q cs bs) H H'->(∀x∈bs',x∈bs\/H x.2=none)->Q (.ref ta) H')/\
   (∀e∈cs,AA e.bk=AA b->Jg q b0 e=false->(∀e'∈cs,AA e'.bk=AA b->Jg q b0 e'=false->e.z<=e'.z)->(∀e'∈cs,e'.bk=b->Jg q b0 e'=false)->∀a H',An H H'->H' a=some (.tup [.str (PySem.Str.ofString "lost"),.int e.z])->Q (.ref a) H'))\/
  ∃e ta,tg=.ref ta/\e∈cs/\H ta=some (.tup [.int e.z,.int e.y,.int (AA e.bk)])/\(Jg q b0 e=true->∀v H',An H H'->Rep NL H' (Bh e.bk) v->Q v H')/\(Jg q b0 e=false->∀a H',An H H'->H' a=some (.tup [.str (PySem.Str.ofString "lost"),.int e.z])->Q (.ref a) H'))
theorem Na (T:Txt K mg Ac Aa Ab Af XC)(F:Fun K "_law_tried" "_law_tried" Dp f fd)(BA:Hw P w K mg base 17 Af "block" ["self","tag"] (CS K Af Ab Aa XC))(BY:Hw P w K mg base 19 Af "put" ["self","block","birth"] (C3 K Af Ab Aa XC)):FnOk P w K mg base CG 20 f fd ["_law_pool","_law_block","_law_tag"] (BX K Af Ab Aa):=by
 exists Jl
 ·obtain⟨p,q,cs,bs,ds,b0,n,v,tg,rfl,_⟩:=h;rfl
 obtain⟨p,q,cs,bs,ds,b0,n,v,tg,rfl,pb,few,h⟩:=h;have hu:=Dy hr;refine⟨_,(!Al (@S6 _ _ _ _ _ _ _ _ _ _ _ (3) _ _ _ ⟨rfl,rfl⟩ T.x_StemError rfl Jl.nd rfl rfl (!TV (!XX (!FE (!Mv (pv 2)) (by first|exact CH _ (by decide) (by decide)|rfl)) (!MP (!R4 (!LN (pv 0) T.cl_Pool BY (by trivial) (!Ad (pv 1) (!Ad (!Ak) (!Aj)))))) (!UR)) (!MP (!R4 (!LN (pv 0) T.cl_Pool BA (by trivial) (!Ad (pv 2) (!Aj)))))) (!Ay) (λea=>(!Ai (!AR (@PW.pt _ _ _ (!GG (!BZ (!Bz (!Av (NI (K:=K) (by rfl)) (by rfl) T.b_isinstance A3 (!Ad (pv 3) (!Ad (!Q5 rfl T.x_Lost) (!Aj)))) (by intro _;rfl))) (!GG (!BZ (!Bz (!Av (NI (K:=K) (by rfl)) (by rfl) T.b_isinstance A3 (!Ad (pv 3) (!Ad (!Kt rfl T.b_ValueError Nn) (!Aj)))) (by intro _;rfl))) (!Fq (!Bz (!Av (QZ (K:=K) (by rfl)) (by rfl) T.b_isinstance A3 (!Ad (pv 3) (!Ad (!C6 (!Ad (!Q5 rfl T.x_NoThing) (!Ad (!Q5 rfl T.x_TooMany) (!Aj)))) (!Aj)))) (by intro _;rfl)))))) (!Al (!Aq (!C6 (!Ad (!HI) (!Ad (!Ak) (!Aj)))))) (!Ay)) (!Al (!Aq (!C6 (!Ad (!HI) (!Ad (@WA _ (K) (by rfl) _ _ _ _ (pv 3) rfl) (!Aj)))))))) (by decide))),?_⟩
 try dsimp only[Ca,Cx.nox,Cx.wish]
 rcases h with⟨rfl,b,hv,ok,hn,q1,q2,q3⟩|⟨e,ta,rfl,he,hta,q1,q2⟩
 ·refine⟨_,rfl,_,rfl,Bs rfl ?_⟩;refine⟨_,rfl,p,q.dp,_,rfl,pb.a.t.1,rfl,_,rfl,p,q,cs,bs,ds,b0,n,v,b,9,rfl,pb,by omega,hv,ok,hn,q1,q2,λe he hs hr' hmin hnb dx H1 s1 ndx hdx=>?_⟩;refine⟨T.m_Lost_StemError,XC 0,rfl,λea hea=>?_⟩;have nea:dx≠ea:=λzz=>by rw[zz,hea] at hdx;cases hdx
  have S2:An H (upd H1 ea (HG ea (XC 0) (some dx))):=BV s1 (s1.free hea) _;have hex2:(upd H1 ea (HG ea (XC 0) (some dx))) ea=some (HG ea (XC 0) (some dx)):=Ae;have hxd2:(upd H1 ea (HG ea (XC 0) (some dx))) dx=some (.xd [("number",.int e.z)]):=by rw[Ag nea];exact hdx
  generalize upd H1 ea (HG ea (XC 0) (some dx))=H2 at S2 hex2 hxd2;dsimp only[OI,P8];refine⟨_,rfl,ea,XC 0,some dx,_,_,_,rfl,hex2,T.i_Lost.toExcCls,(λu h=>h),T.k_Lost_Lost,_,rfl,AE rfl ?_⟩;refine⟨_,rfl,ea,XC 0,some dx,_,_,_,rfl,hex2,T.i_Lost.toExcCls,(λu h=>h),T.k_Lost_ValueError,_,rfl,AE rfl ?_⟩;refine⟨_,rfl,Jd,λtp htp=>?_⟩;have s3:=Am htp (.tup [V.ref (XC 1),V.ref (XC 3)]);refine⟨ea,XC 0,tp,some dx,_,_,false,rfl,s3.get hex2,T.i_Lost.toExcCls,Ae,VA,by simp[W.kitAny,T.k_Lost_NoThing,T.k_Lost_TooMany],_,rfl,AE rfl ?_⟩;dsimp only[L1];refine⟨_,rfl,ea,XC 0,dx,_,.int e.z,rfl,s3.get hex2,T.i_Lost,T.f_Lost,s3.get hxd2,rfl,Jd,λr nr=>?_⟩;exact q3 e he hs hr' hmin hnb r _ ((S2.trans s3).trans (Am nr _)) Ae
 ·refine⟨_,rfl,_,rfl,AE rfl ?_⟩;refine⟨_,rfl,p,q.dp,_,rfl,pb.a.t.1,rfl,_,rfl,p,q,cs,bs,ds,b0,n,e,ta,rfl,pb,he,hta,q1,λhr' dx H1 s1 ndx hdx=>?_⟩;refine⟨T.m_Lost_StemError,XC 0,rfl,λea hea=>?_⟩;have nea:dx≠ea:=λzz=>by rw[zz,hea] at hdx;cases hdx
  have S2:An H (upd H1 ea (HG ea (XC 0) (some dx))):=BV s1 (s1.free hea) _;have hex2:(upd H1 ea (HG ea (XC 0) (some dx))) ea=some (HG ea (XC 0) (some dx)):=Ae;have hxd2:(upd H1 ea (HG ea (XC 0) (some dx))) dx=some (.xd [("number",.int e.z)]):=by rw[Ag nea];exact hdx
  generalize upd H1 ea (HG ea (XC 0) (some dx))=H2 at S2 hex2 hxd2;dsimp only[OI,P8];refine⟨_,rfl,ea,XC 0,some dx,_,_,_,rfl,hex2,T.i_Lost.toExcCls,(λu h=>h),T.k_Lost_Lost,_,rfl,AE rfl ?_⟩;refine⟨_,rfl,ea,XC 0,some dx,_,_,_,rfl,hex2,T.i_Lost.toExcCls,(λu h=>h),T.k_Lost_ValueError,_,rfl,AE rfl ?_⟩;refine⟨_,rfl,Jd,λtp htp=>?_⟩;have s3:=Am htp (.tup [V.ref (XC 1),V.ref (XC 3)]);refine⟨ea,XC 0,tp,some dx,_,_,false,rfl,s3.get hex2,T.i_Lost.toExcCls,Ae,VA,by simp[W.kitAny,T.k_Lost_NoThing,T.k_Lost_TooMany],_,rfl,AE rfl ?_⟩;dsimp only[L1];refine⟨_,rfl,ea,XC 0,dx,_,.int e.z,rfl,s3.get hex2,T.i_Lost,T.f_Lost,s3.get hxd2,rfl,Jd,λr nr=>?_⟩;exact q2 hr' r _ ((S2.trans s3).trans (Am nr _)) Ae
end
open M06
section
variable {P:Program}{w:World}{K:W.Frag}{mg:Str->Option Value}{base:Heap}{f Ac Aa Ab Af:Addr}{XC:Nat->Addr}{fd:FuncData}
structure Sk where
 z:Int
 y:Int
 bk:Bk
 ta:Addr
def sk (e:Cl):Sk:=⟨e.z,e.y,e.bk,e.ta⟩
def C4 (ks:List Sk):List (Tr×V):=ks.map λe=>(Bh e.bk,.ref e.ta)
def D0 (m:Nat)(b0:List BQ)(e:Sk):Bool:=decide ((m:Int)<e.z)||good b0 e.z e.y e.bk
theorem R5:∀(n:Nat) (t:Tr),ES n t=true->t.dep<=n/\t.pl
 |0,_,h=>nomatch h
 |n+1,.int _,_=>⟨Nat.le_add_left 1 n,trivial⟩
 |n+1,.str _,_=>⟨Nat.le_add_left 1 n,trivial⟩
 |n+1,.tup ts,h=>by
  obtain⟨_,tt⟩:=C0 h;have all:∀l:List Tr,(∀t∈l,ES n t=true)->Tr.deps l<=n/\Tr.pls l:=by
   intro l
   induction l with
   |nil=>intro _;exact⟨cE _,trivial⟩
   |cons t l ih=>
    intro hl;obtain⟨a1,a2⟩:=R5 n t (hl t bZ);obtain⟨b1,b2⟩:=ih λu hu=>hl u (bY _ hu)
    exact⟨Nat.max_le.mpr ⟨a1,b1⟩,a2,b2⟩
  obtain⟨c1,c2⟩:=all ts λt ht=>by
   obtain⟨i,hi⟩:=cL ht;exact tt i t hi
  exact⟨by show 1+Tr.deps ts<=n+1;omega,c2⟩
 |n+1,.non,h=>nomatch h
 |n+1,.bl _,h=>nomatch h
 |n+1,.lst _,h=>nomatch h
theorem X9 {H:Hp}{b:Bk}{a:Addr}(ok:Ds b)(h:Rep NL H (Bh b) (.ref a)):DdX H (Bh b) a:=by
 obtain⟨h1,h2⟩:=R5 8 _ (FW ok);exact⟨h1,h2,Rep.mono (λ_ _=>trivial) _ _ h⟩
mutual
theorem UV {H:Hp}:∀(t:Tr) (v:V),t.pl->Rep (λ_=>True) H t v->Rep NL H t v
 | .int _,_,_,h=>h
 | .str _,_,_,h=>h
 | .tup ts,_,hp,⟨a,vs,e,ha,hr⟩=>⟨a,vs,e,ha,Uv ts vs hp hr⟩
theorem Uv {H:Hp}:∀(ts:List Tr) (vs:List V),Tr.pls ts->AL (λ_=>True) H ts vs->AL NL H ts vs
 |[],_,_,h=>h
 |t::ts,_,hp,⟨v,us,e,h1,h2⟩=>⟨v,us,e,UV t v hp.1 h1,Uv ts us hp.2 h2⟩
end
theorem Di {ks:List Sk}(nd:((C4 ks).map (·.1)).Nodup){e:Sk}(he:e∈ks):DV (C4 ks) (Bh e.bk)=some (.ref e.ta):=by
 obtain⟨i,hi⟩:=cL he;exact Vd nd (i:=i) (p:=(Bh e.bk,V.ref e.ta)) (by unfold C4;rw[bQ,hi];rfl)
theorem Me {ks:List Sk}{b:Bk}(h:∀e∈ks,e.bk≠b):DV (C4 ks) (Bh b)=none:=Rx λp hp=>by
 obtain⟨e,he,rfl⟩:=bK.mp hp;exact λz=>h e he (Ox z)
theorem R6 {ks:List Sk}(nd:((C4 ks).map (·.1)).Nodup){e e':Sk}(he:e∈ks)(he':e'∈ks)(h:e.bk=e'.bk):e=e':=by
 have:(ks.map λe=>Bh e.bk).Nodup:=by
  unfold C4 at nd;rw[cw] at nd;exact nd
 exact Dk this he he' (by rw[h])
theorem WD {ks:List Sk}(nd:((C4 ks).map (·.1)).Nodup){e:Sk}(he:e∈ks):Jf (C4 ks) (Bh e.bk) (.ref e.ta)=C4 ks:=by
 unfold Jf;rw[Di nd he,bV (show(some (V.ref e.ta)).isSome=true from rfl)];have:∀p∈C4 ks,(if p.1=Bh e.bk then(p.1,V.ref e.ta) else p)=p:=λp hp=>by
  obtain⟨x,hx,rfl⟩:=bK.mp hp
  split
  ·rename_i h
   rw[R6 nd hx he (Ox h)]
  ·rfl
 exact(dB this).trans (iU _)
theorem RT {ks:List Sk}{b:Bk}(h:∀e∈ks,e.bk≠b)(z y:Int)(ta:Addr):Jf (C4 ks) (Bh b) (.ref ta)=C4 (ks++[⟨z,y,b,ta⟩]):=by
 unfold Jf;rw[Me h,bP (by simp)];unfold C4;rw[cg];rfl
theorem C2.frm {C:Addr}{H H':Hp}{p:Addr}{ds:List Addr}{bs:List BQ}{n:Int}{lf:V}(h:C2 C H p ds bs n lf)(k:∀a o,H a=some o->(a=p\/a∈ds\/∃xs,o=.lst xs)->H' a=some o):C2 C H' p ds bs n lf:=by
 obtain⟨dx,s0,h1,h2,h3,h4⟩:=h;exact⟨dx,s0,k _ _ h1 (.inl rfl),k _ _ h2 (.inr (.inr ⟨_,rfl⟩)),h3,h4.same (λa xs e=>k a _ e (.inr (.inr ⟨_,rfl⟩))) λd hd kvs e=>k d _ e (.inr (.inl hd))⟩
def Kl (H H':Hp):Prop:=(∀a xs,H a=some (.lst xs)->H' a=some (.lst xs))/\∀a xs,H a=some (.tup xs)->H' a=some (.tup xs)
theorem Kl.trans {H H1 H2:Hp}(a:Kl H H1)(b:Kl H1 H2):Kl H H2:=⟨λc xs h=>b.1 c xs (a.1 c xs h),λc xs h=>b.2 c xs (a.2 c xs h)⟩
theorem An.kl {H H':Hp}(s:An H H'):Kl H H':=⟨λ_ _ h=>s.get h,λ_ _ h=>s.get h⟩
theorem Kl.one {H H':Hp}{d:Addr}(hd:∀o,H d=some o->(∀xs,o≠.lst xs)/\∀xs,o≠.tup xs)(k:∀b,b≠d->H' b=H b):Kl H H':=
 ⟨λa xs h=>by rw[k a (λz=>(hd _ (z▸h)).1 _ rfl)];exact h,λa xs h=>by rw[k a (λz=>(hd _ (z▸h)).2 _ rfl)];exact h⟩
def PS (CP CT CB:Addr)(H:Hp)(p bo:Addr)(ds:List Addr)(b0:List BQ)(n:Int)(m:Nat)(ot:List Addr)(ks:List Sk):Prop:=∃q cs bs,q.bo=bo/\q.m=m/\cs.map sk=ks/\PBd CP CT CB H p q cs bs ds b0 n/\aa p q cs bs q.bo ds/\∀a∈ot,a∉By p q cs bs/\∃o,H a=some o
def Fx (ot:List Addr)(H H':Hp):Prop:=∀a o,H a=some o->(a∈ot\/((∀C d fs,o≠.ins C d fs)/\∀kvs,o≠.dK kvs))->H' a=some o
theorem An.fx {ot:List Addr}{H H':Hp}(s:An H H'):Fx ot H H':=λ_ _ h _=>s.get h
theorem Fx.trans {ot:List Addr}{H H1 H2:Hp}(a:Fx ot H H1)(b:Fx ot H1 H2):Fx ot H H2:=λc o h k=>b c o (a c o h k) k
theorem Fx.lst {ot:List Addr}{H H':Hp}(h:Fx ot H H'){a:Addr}{xs:List V}(e:H a=some (.lst xs)):H' a=some (.lst xs):=h a _ e (.inr ⟨(by intro C d fs z;cases z),(by intro kvs z;cases z)⟩)
theorem Fx.tup {ot:List Addr}{H H':Hp}(h:Fx ot H H'){a:Addr}{xs:List V}(e:H a=some (.tup xs)):H' a=some (.tup xs):=h a _ e (.inr ⟨(by intro C d fs z;cases z),(by intro kvs z;cases z)⟩)
theorem Fx.kl {ot:List Addr}{H H':Hp}(h:Fx ot H H'):Kl H H':=⟨λ_ _ e=>h.lst e,λ_ _ e=>h.tup e⟩
theorem Fx.dd {P:Program}{w:World}{ot:List Addr}{H H':Hp}{d:Addr}{kvs:List (Tr×V)}{es:Array DictEntry}{ep:Nat}(h:Fx ot H H')(M:Dd P w H d kvs es ep):Dd P w H' d kvs es ep:=M.keep (h d _ M.o (.inr ⟨(by intro C d fs z;cases z),(by intro kvs z;cases z)⟩)) λ_ _ e=>h.tup e
theorem Yx {CP CT:Addr}{H:Hp}{p:Addr}{q:Pl}{cs:List Cl}{bs:List (Int×Addr)}(h:PAt CP CT H p q cs bs){a:Addr}(ha:a∈By p q cs bs):∃o,H a=some o/\((∃C d fs,o=.ins C d fs)\/∃kvs,o=.dK kvs):=by
 unfold By at ha;simp only[List.mem_cons,List.mem_append,List.mem_map] at ha;rcases ha with rfl|rfl|rfl|rfl|⟨x,hx,rfl⟩|⟨x,hx,rfl⟩
 ·exact⟨_,h.t.1,.inl ⟨_,_,_,rfl⟩⟩
 ·exact⟨_,h.t.2.1,.inr ⟨_,rfl⟩⟩
 ·exact⟨_,h.b.h,.inr ⟨_,rfl⟩⟩
 ·exact⟨_,h.d,.inr ⟨_,rfl⟩⟩
 ·exact⟨_,(h.b.d x hx).1,.inr ⟨_,rfl⟩⟩
 ·exact⟨_,(h.t.2.2.1 x hx).1,.inl ⟨_,_,_,rfl⟩⟩
section
variable {CP CT CB:Addr}{H H':Hp}{p bo:Addr}{ds ot:List Addr}{b0:List BQ}{n:Int}{m:Nat}{ks:List Sk}
theorem PS.same (h:PS CP CT CB H p bo ds b0 n m ot ks)(s:An H H'):PS CP CT CB H' p bo ds b0 n m ot ks:=by
 obtain⟨q,cs,bs,h1,h2,h3,h4,h5,h6⟩:=h;exact⟨q,cs,bs,h1,h2,h3,h4.same s,h5,λa ha=>⟨(h6 a ha).1,let⟨o,e⟩:=(h6 a ha).2;⟨o,s.get e⟩⟩⟩
theorem PS.but (h:PS CP CT CB H p bo ds b0 n m ot ks){P:Program}{w:World}{d:Addr}{kvs:List (Tr×V)}{es:Array DictEntry}{ep:Nat}(M:Dd P w H d kvs es ep)(hs:∃o,H' d=some o)(k:∀b,b≠d->H' b=H b):PS CP CT CB H' p bo ds b0 n m ot ks:=by
 obtain⟨q,cs,bs,h1,h2,h3,h4,h5,h6⟩:=h;have ho:=M.o;have na:=h4.a.apart ho (by intro C d fs z;cases z) (by intro kvs z;cases z);have nb:d∉ds:=h4.o.notin ho (by intro kvs z;cases z);have np:q.bo≠d:=λz=>by
  obtain⟨dx,s0,g,_⟩:=h4.o;rw[z,ho] at g;cases g
 refine⟨q,cs,bs,h1,h2,h3,{ h4 with a:=h4.a.keep (λa u ha e=>by rw[k a (λz=>na (z▸ha))];exact e) (λc ys e=>by rw[k c (λz=>by rw[z,ho] at e;cases e)];exact e),o:=h4.o.frm λa u e ha=>?_ },h5,λa ha=>⟨(h6 a ha).1,?_⟩⟩
 ·rw[k a λz=>?_]
  ·exact e
  subst z;rcases ha with z|z|⟨xs,z⟩
  ·exact np z.symm
  ·exact nb z
  ·rw[ho] at e;cases e;cases z
 ·by_cases e:a=d
  ·rw[e];exact hs
  ·rw[k a e];exact(h6 a ha).2
theorem PS.z (h:PS CP CT CB H p bo ds b0 n m ot ks):∀(i:Nat) e,ks[i]?=some e->e.z=(i:Int)+1:=λi e he=>by
 obtain⟨q,cs,bs,h1,h2,rfl,h4,h5⟩:=h;rw[bQ] at he;obtain⟨x,hx,rfl⟩:=cm.mp he;exact h4.a.z i x hx
theorem PS.in (h:PS CP CT CB H p bo ds b0 n m ot ks){e:Sk}(he:e∈ks):Ds e.bk/\H e.ta=some (.tup [.int e.z,.int e.y,.int (AA e.bk)])/\MB e.z e.y:=by
 obtain⟨q,cs,bs,h1,h2,rfl,h4,h5⟩:=h;obtain⟨x,hx,rfl⟩:=bK.mp he;have:=h4.a.t.2.2.1 x hx;exact⟨this.2.2.2,this.2.1,h4.b x hx⟩
theorem PS.bAt (h:PS CP CT CB H p bo ds b0 n m ot ks):C2 CB H bo ds b0 n .non/\2<=b0.length:=by
 obtain⟨q,cs,bs,rfl,h2,rfl,h4,h5⟩:=h;exact⟨h4.o,h4.l⟩
theorem PS.ins (h:PS CP CT CB H p bo ds b0 n m ot ks):∃dx bo dt dz dd n,H p=some (.ins CP dx (Ld bo dt dz dd n)):=by
 obtain⟨q,cs,bs,rfl,h2,rfl,h4,h5⟩:=h;exact⟨q.dp,_,_,_,_,_,h4.a.t.1⟩
theorem PS.more (h:PS CP CT CB H p bo ds b0 n m [] ks)(s:An H H')(nw:∀a∈ot,H a=none/\∃o,H' a=some o):PS CP CT CB H' p bo ds b0 n m ot ks:=by
 obtain⟨q,cs,bs,h1,h2,h3,h4,h5,h6⟩:=h;refine⟨q,cs,bs,h1,h2,h3,h4.same s,h5,λa ha=>⟨λz=>?_,(nw a ha).2⟩⟩;obtain⟨o,e,_⟩:=Yx h4.a z;rw[(nw a ha).1] at e;cases e
theorem PS.boards (h:PS CP CT CB H p bo ds b0 n m ot ks){b1:List BQ}{n1:Int}(k:Kb H H' bo ds)(hB:C2 CB H' bo ds b1 n1 .non)(l1:2<=b1.length)(li:∀e∈ks,e.z<=(m:Int)->Lies b1 e.z e.y e.bk)(ho:∀a∈ot,a≠bo/\a∉ds):PS CP CT CB H' p bo ds b1 n1 m ot ks:=by
 obtain⟨q,cs,bs,rfl,rfl,rfl,h4,h5,h6⟩:=h;exact⟨q,cs,bs,rfl,rfl,rfl,⟨h4.a.kb h4.o h5 k,hB,l1,λe he hz=>li (sk e) (bK.mpr ⟨e,he,rfl⟩) hz,h4.b⟩,h5,λa ha=>⟨(h6 a ha).1,let⟨o,e⟩:=(h6 a ha).2;⟨o,k a o e (ho a ha).1 (ho a ha).2⟩⟩⟩
theorem VU {q:Pl} {cs:List Cl} {bs bs':List (Int×Addr)} {v:V} {b:Bk} {y:Int} {c dx l ta:Addr} (h4:PBd CP CT CB H p q cs bs ds b0 n) (h5:aa p q cs bs q.bo ds) (h6:∀a∈ot,a∉By p q cs bs/\∃o,H a=some o) (few:cs.length<=1000) (y0:0<=y) (y9:y<=9) (hc:H c=none)
  (pa':PAt CP CT H' p { q with n:=(cs.length:Int)+1 } ((cs++[Fm ((cs.length:Int)+1) y b v c dx ta l cs]).map (bump ((Bg b).map (·.1)))) bs') (fr:YJ (By p q cs bs) H H') (bfr:∀x∈bs',x∈bs\/H x.2=none):PS CP CT CB H' p q.bo ds b0 n q.m ot (cs.map sk++[⟨(cs.length:Int)+1,y,b,ta⟩])/\Fx ot H H':=by
 have nin:∀a,a∉By p q cs bs->(∃o,H a=some o)->a∉By p { q with n:=(cs.length:Int)+1 } ((cs++[Fm ((cs.length:Int)+1) y b v c dx ta l cs]).map (bump ((Bg b).map (·.1)))) bs':=λa ha ⟨o,ho⟩ z=>by
  unfold By at ha z;rw[J9,cg] at z;simp only[List.mem_cons,List.mem_append,not_or,List.map_cons,List.map_nil] at ha z;rcases z with z|z|z|z|z|z|z
  ·exact ha.1 z
  ·exact ha.2.1 z
  ·exact ha.2.2.1 z
  ·exact ha.2.2.2.1 z
  ·obtain⟨x,hx,rfl⟩:=bK.mp z;rcases bfr x hx with g|g
   ·exact ha.2.2.2.2.1 (bK.mpr ⟨x,g,rfl⟩)
   ·rw[g] at ho;cases ho
  ·exact ha.2.2.2.2.2 z
  ·rcases z with z|z
   ·have ho:H c=some o:=by rw[<-ho,z];rfl
    rw[hc] at ho;cases ho
   ·cases z
 have hB:=h4.o;obtain⟨dxb,s0,g1,_⟩:=id hB;have lists:∀a xs,H a=some (.lst xs)->H' a=some (.lst xs):=λa xs e=>fr a _ e (h4.a.apart e (by intro C d fs z;cases z) (by intro kvs z;cases z))
 refine⟨⟨{ q with n:=(cs.length:Int)+1 },_,bs',rfl,rfl,?_,⟨pa',hB.frm λa o e k=>?_,h4.l,λe he hz=>?_,λe he=>?_⟩,⟨nin _ h5.1 ⟨_,g1⟩,λd hd=>nin d (h5.2 d hd) ?_⟩,λa ha=>⟨nin a (h6 a ha).1 (h6 a ha).2,?_⟩⟩,λa o e k=>?_⟩
 ·rw[cw,cg];rfl
 ·rcases k with rfl|k|⟨xs,rfl⟩
  ·exact fr _ _ e h5.1
  ·exact fr _ _ e (h5.2 a k)
  ·exact lists a xs e
 ·obtain⟨x,hx,rfl⟩:=bK.mp he;rcases cj.mp hx with hx|hx
  ·exact h4.i x hx hz
  ·rw[bS.mp hx] at hz;have hz:(cs.length:Int)+1<=(q.m:Int):=hz;have:=h4.a.m;omega
 ·obtain⟨x,hx,rfl⟩:=bK.mp he;rcases cj.mp hx with hx|hx
  ·exact h4.b x hx
  ·rw[bS.mp hx];exact⟨⟨by show(0:Int)<=(cs.length:Int)+1;omega,by show(cs.length:Int)+1<=999999999;omega⟩,y0,by show y<=999999999;omega⟩
 ·obtain⟨kvs,e⟩:=hB.there d hd;exact⟨_,e⟩
 ·obtain⟨o,e⟩:=(h6 a ha).2;exact⟨o,fr a o e (h6 a ha).1⟩
 ·rcases k with k|⟨k1,k2⟩
  ·exact fr a o e (h6 a k).1
  ·exact fr a o e (h4.a.apart e k1 k2)
theorem Vk {K:W.Frag} {XC:Nat->Addr} {v:V} {b:Bk} {y:Int} {Q:VK} {E:Value->Option Addr->Hp->Prop} (h:PS CP CT CB H p bo ds b0 n m ot ks) (few:ks.length<=1000) (hv:Rep NL H (Bh b) v) (ok:Ds b) (hn:∀t∈Bg b,∃e∈ks,e.z=t.1) (y0:0<=y) (y9:y<=9)
  (q1:∀e∈ks,e.bk=b->D0 m b0 e=true->∀H',An H H'->Q (.ref e.ta) H')
  (q2:(∀e∈ks,AA e.bk=AA b->D0 m b0 e=true/\e.bk≠b)->∀H' ta,PS CP CT CB H' p bo ds b0 n m ot (ks++[⟨(ks.length:Int)+1,y,b,ta⟩])->Fx ot H H'->Q (.ref ta) H')
  (q3:∀e∈ks,AA e.bk=AA b->D0 m b0 e=false->(∀e'∈ks,AA e'.bk=AA b->D0 m b0 e'=false->e.z<=e'.z)->(∀e'∈ks,e'.bk=b->D0 m b0 e'=false)->∀dx H',An H H'->H dx=none->H' dx=some (.xd [("number",.int e.z)])->E (.ref (XC 0)) (some dx) H'):C3 K CP CT CB XC [.ref p,v,.int y] H Q E:=by
 obtain⟨q,cs,bs,rfl,rfl,rfl,h4,h5,h6⟩:=h;rw[bE] at few q2;have up:∀e∈cs,sk e∈cs.map sk:=λe he=>bK.mpr ⟨e,he,rfl⟩
 have dn:∀{R:Sk->Prop},(∀e∈cs,R (sk e))->∀e∈cs.map sk,R e:=λ{R} h e he=>by
  obtain⟨x,hx,rfl⟩:=bK.mp he;exact h x hx
 refine⟨p,q,cs,bs,ds,b0,n,v,b,y,rfl,h4,by omega,hv,ok,λt ht=>?_,λe he=>q1 (sk e) (up e he),λhne H' c dx l ta bs' hc hl hus pa' fr bfr=>?_,λe he hs hr hm hb dx H'=>q3 (sk e) (up e he) hs hr (dn hm) (dn hb) dx H'⟩
 ·obtain⟨e,he,hz⟩:=hn t ht;obtain⟨x,hx,rfl⟩:=bK.mp he;exact⟨x,hx,hz⟩
 ·obtain⟨g1,g2⟩:=VU (y:=y) h4 h5 h6 (by omega) y0 y9 hc pa' fr bfr;exact q2 (dn hne) H' ta g1 g2
theorem Tq {K:W.Frag} {v:V} {b:Bk} {Q:VK} (h:PS CP CT CB H p bo ds b0 n m ot ks) (few:ks.length<=1000) (hv:Rep NL H (Bh b) v) (ok:Ds b) (hn:∀t∈Bg b,∃e∈ks,e.z=t.1)
  (q1:∀e∈ks,e.bk=b->D0 m b0 e=true->∀H',An H H'->Q (.ref e.ta) H')
  (q2:(∀e∈ks,AA e.bk=AA b->D0 m b0 e=true/\e.bk≠b)->∀H' ta,PS CP CT CB H' p bo ds b0 n m ot (ks++[⟨(ks.length:Int)+1,9,b,ta⟩])->Fx ot H H'->Q (.ref ta) H')
  (q3:∀e∈ks,AA e.bk=AA b->D0 m b0 e=false->(∀e'∈ks,AA e'.bk=AA b->D0 m b0 e'=false->e.z<=e'.z)->(∀e'∈ks,e'.bk=b->D0 m b0 e'=false)->∀a H',An H H'->H' a=some (.tup [.str (PySem.Str.ofString "lost"),.int e.z])->Q (.ref a) H') {E:Value->Option Addr->Hp->Prop}:BX K CP CT CB [.ref p,v,.non] H Q E:=by
 obtain⟨q,cs,bs,rfl,rfl,rfl,h4,h5,h6⟩:=h;rw[bE] at few q2;have l:(cs.map sk).length=cs.length:=bE _;have up:∀e∈cs,sk e∈cs.map sk:=λe he=>bK.mpr ⟨e,he,rfl⟩
 have dn:∀{R:Sk->Prop},(∀e∈cs,R (sk e))->∀e∈cs.map sk,R e:=λ{R} h e he=>by
  obtain⟨x,hx,rfl⟩:=bK.mp he;exact h x hx
 refine⟨p,q,cs,bs,ds,b0,n,v,.non,rfl,h4,by omega,.inl ⟨rfl,b,hv,ok,λt ht=>?_,λe he=>q1 (sk e) (up e he),λhne H' c dx l ta bs' hc hl hus pa' fr bfr=>?_,λe he hs hr hm hb a H'=>q3 (sk e) (up e he) hs hr (dn hm) (dn hb) a H'⟩⟩
 ·obtain⟨e,he,hz⟩:=hn t ht;obtain⟨x,hx,rfl⟩:=bK.mp he;exact⟨x,hx,hz⟩
 ·obtain⟨g1,g2⟩:=VU (y:=9) h4 h5 h6 few (by decide) (by decide) hc pa' fr bfr;exact q2 (dn hne) H' ta g1 g2
theorem Tz {K:W.Frag} {v:V} {e:Sk} {Q:VK} {E:Value->Option Addr->Hp->Prop} (h:PS CP CT CB H p bo ds b0 n m ot ks) (few:ks.length<=1000) (he:e∈ks)
  (q1:D0 m b0 e=true->∀v H',An H H'->Rep NL H' (Bh e.bk) v->Q v H') (q2:D0 m b0 e=false->∀a H',An H H'->H' a=some (.tup [.str (PySem.Str.ofString "lost"),.int e.z])->Q (.ref a) H'):BX K CP CT CB [.ref p,v,.ref e.ta] H Q E:=by
 obtain⟨q,cs,bs,rfl,rfl,rfl,h4,h5,h6⟩:=h;rw[bE] at few;obtain⟨x,hx,rfl⟩:=bK.mp he;exact⟨p,q,cs,bs,ds,b0,n,v,_,rfl,h4,few,.inr ⟨x,x.ta,rfl,hx,(h4.a.t.2.2.1 x hx).2.1,q1,q2⟩⟩
theorem XZ {K:W.Frag}{XC:Nat->Addr}{e:Sk}{Q:VK}{E:Value->Option Addr->Hp->Prop}(h:PS CP CT CB H p bo ds b0 n m ot ks)(he:e∈ks)(hr:D0 m b0 e=true)(q1:∀v H',An H H'->Rep NL H' (Bh e.bk) v->Q v H'):CS K CP CT CB XC [.ref p,.ref e.ta] H Q E:=by
 obtain⟨q,cs,bs,rfl,rfl,rfl,h4,h5,h6⟩:=h;obtain⟨x,hx,rfl⟩:=bK.mp he;exact⟨p,q,cs,bs,ds,b0,n,x,x.ta,rfl,h4,hx,(h4.a.t.2.2.1 x hx).2.1,λ_=>q1,λz=>by rw[show Jg q b0 x=true from hr] at z;cases z⟩
theorem ON {K:W.Frag}{Q:VK}{E:Value->Option Addr->Hp->Prop}(h:PS CP CT CB H p bo ds b0 n m ot ks)(few:ks.length<=1000)(q1:∀l,H l=none->Q (.ref l) (upd H l (.lst ((ks.map (·.z)).map V.int)))):DB K CP CT [.ref p] H Q E:=by
 obtain⟨q,cs,bs,rfl,rfl,rfl,h4,h5,h6⟩:=h;rw[bE] at few;refine⟨p,q,cs,bs,rfl,h4.a,by omega,λms l pm so nl=>?_⟩;obtain rfl:ms=cs.map (·.z):=IL pm so (Sj h4.a.z);have:=q1 l nl;rw[show(cs.map sk).map (·.z)=cs.map (·.z) by rw[cw];rfl] at this;exact this
theorem PAt.hold {q:Pl}{cs:List Cl}{bs:List (Int×Addr)}(h:PAt CP CT H p q cs bs){e:Cl}(he:e∈cs):PAt CP CT (upd H e.c (.ins CT e.dx (Hy e.ta ((wT (Bh e.bk)).length:Int) e.l (e.k+1) e.en e.st))) p q (cs.map (bump [e.z])) bs:=by
 have hc:=(h.t.2.2.1 e he).1;refine⟨h.t.hold h.c he,?_,by rw[bE];exact h.m,(h.b.ins hc).bump _,h.n1,h.n2,h.n3,by rw[J9];exact h.c,λi x hx=>?_,by rw[bE];exact h.w,h.f1,by rw[bE];exact h.f2⟩
 ·rw[Ag (AK h.d hc (by intro z;cases z)),<-hG,Pu];exact h.d
 ·rw[bQ] at hx;obtain⟨y,hy,rfl⟩:=cm.mp hx;exact h.z i y hy
theorem WH {K:W.Frag}{Q:VK}{E:Value->Option Addr->Hp->Prop}{e:Sk}(h:PS CP CT CB H p bo ds b0 n m ot ks)(he:e∈ks)(q1:∀H',PS CP CT CB H' p bo ds b0 n m ot ks->Fx ot H H'->Q .non H'):D1 K CP CT [.ref p,.ref e.ta] H Q E:=by
 obtain⟨q,cs,bs,rfl,rfl,rfl,h4,h5,h6⟩:=h;obtain⟨x,hx,rfl⟩:=bK.mp he;have hc:=(h4.a.t.2.2.1 x hx).1;have mc:x.c∈By p q cs bs:=by
  unfold By;simp only[List.mem_cons,List.mem_append];exact .inr (.inr (.inr (.inr (.inr (bK.mpr ⟨x,hx,rfl⟩)))))
 have own:∀a,a∈By p q (cs.map (bump [x.z])) bs↔a∈By p q cs bs:=λa=>by unfold By;rw[J9]
 have k:∀a o,H a=some o->a≠x.c->(upd H x.c (.ins CT x.dx (Hy x.ta ((wT (Bh x.bk)).length:Int) x.l (x.k+1) x.en x.st))) a=some o:=λa o e n=>by rw[Ag n];exact e
 refine⟨p,q,cs,x,x.ta,_,_,rfl,h4.a.t,hx,(h4.a.t.2.2.1 x hx).2.1,q1 _ ⟨q,_,bs,rfl,rfl,?_,⟨h4.a.hold hx,h4.o.frm λa o e g=>k a o e ?_,h4.l,λe he=>?_,λe he=>?_⟩,⟨λz=>h5.1 ((own _).mp z),λd hd z=>h5.2 d hd ((own _).mp z)⟩,λa ha=>⟨λz=>(h6 a ha).1 ((own _).mp z),?_⟩⟩ λa o e g=>k a o e ?_⟩
 ·rw[cw];rfl
 ·rintro rfl
  rcases g with g|g|⟨xs,g⟩
  ·exact h5.1 (g▸mc)
  ·exact h5.2 _ g mc
  ·rw[g,hc] at e;cases e
 ·obtain⟨y,hy,rfl⟩:=bK.mp he;exact h4.i y hy
 ·obtain⟨y,hy,rfl⟩:=bK.mp he;exact h4.b y hy
 ·obtain⟨o,e⟩:=(h6 a ha).2;exact⟨o,k a o e λz=>(h6 a ha).1 (z▸mc)⟩
 ·rintro rfl
  rcases g with g|⟨g,_⟩
  ·exact(h6 _ g).1 mc
  ·rw[hc] at e;exact g _ _ _ (bO e).symm
theorem XG {K:W.Frag} {Q:VK} {E:Value->Option Addr->Hp->Prop} (h:PS CP CT CB H p bo ds b0 n 0 [] ks) (few:ks.length<=400) (be:∀c∈b0,c=[])
  (q1:∀H' b1 n1,PS CP CT CB H' p bo ds b1 n1 ks.length [] ks->b1.length=b0.length->(∀c∈b1,c.length<=2*ks.length)->(∀e∈ks,∀b,b<b1.length->Bl (b1.getD b []) e.z=if(b:Int)∈De b1 e.z then some (BG (BH e.z e.y e.bk)) else none)->Fx [] H H'->Q .non H'):C1 K CP CT CB [.ref p] H Q E:=by
 obtain⟨q,cs,bs,rfl,hm,rfl,h4,h5,h6⟩:=h;rw[bE] at few q1;refine⟨p,q,cs,bs,ds,b0,n,rfl,h4.a,hm,few,h4.o,h5,h4.l,be,h4.b,λH' b1 n1 pa' hB lb la cb fr=>?_⟩;have at1:∀e∈cs,∀b,b<b1.length->Bl (b1.getD b []) e.z=if(b:Int)∈De b1 e.z then some (BG (BH e.z e.y e.bk)) else none:=λe he b hb=>by
  obtain⟨i,hi⟩:=cL he;have il:i<cs.length:=(bT.mp hi).1;rw[la i e hi b hb]
  by_cases g:(b:Int)∈De b1 e.z
  ·rw[bV ⟨il,g⟩,bV g]
  ·rw[bP (λz=>g z.2),bP g]
 refine q1 H' b1 n1 ⟨{ q with m:=cs.length },cs,bs,rfl,rfl,rfl,⟨pa',hB,by have:=h4.l;omega,λe he hz b hb=>?_,h4.b⟩,h5,λa ha=>nomatch ha⟩ lb cb (λe he=>?_) λa o e g=>?_
 ·rw[at1 e he b hb]
  by_cases g:(b:Int)∈De b1 e.z
  ·exact .inr (bV g)
  ·refine .inl λrow hr=>?_
   rw[at1 e he b hb,bP g] at hr;cases hr
 ·obtain⟨x,hx,rfl⟩:=bK.mp he;exact at1 x hx
 ·rcases g with g|⟨g1,g2⟩
  ·cases g
  ·obtain⟨dx,s0,e1,_⟩:=h4.o;refine fr a o e (λz=>?_) (h4.o.notin e g2) λz=>?_
   ·rw[z,e1] at e;exact g1 _ _ _ (bO e).symm
   ·rw[z,h4.a.d] at e;exact g2 _ (bO e).symm
end
end
open M06
section
variable {P:Program}{w:World}{K:W.Frag}{mg:Str->Option Value}{base:Heap}{f Ac Aa Ab Af:Addr}{XC:Nat->Addr}{fd:FuncData}
def Ij (H:Hp)(r:Addr):Prop:=∃ns:List Int,H r=some (.lst (ns.map V.int))/\ns.length=12/\∀x∈ns,0<=x/\x<1000000
theorem Ij.kl {H H':Hp}{r:Addr}(h:Ij H r)(k:Kl H H'):Ij H' r:=by
 obtain⟨ns,h1,h2⟩:=h;exact⟨ns,k.1 _ _ h1,h2⟩
theorem sum_in (b:Bk):0<=AA b/\AA b<=996:=by
 have k:0<=kindB b/\kindB b<=2:=by cases b<;>simp[kindB]
 have:∀(l:List Int) (t:Int),0<=t->t<=996->0<=l.foldl (λt n=>(31*t+n+1)%997) t/\l.foldl (λt n=>(31*t+n+1)%997) t<=996:=by
  intro l
  induction l with
  |nil=>intro t a b;exact⟨a,b⟩
  |cons x l ih=>intro t a b;exact ih _ (dJ _ (by decide)) (by have h9:=di (31*t+x+1) (show(0:Int)<997 by decide);show(31*t+x+1)%997<=996;omega)
 exact this _ _ (by omega) (by omega)
section
variable {CP CT CB:Addr}{H H':Hp}{p bo:Addr}{ds ot:List Addr}{b0:List BQ}{n:Int}{m:Nat}{ks:List Sk}{d:Addr}{es:Array DictEntry}{ep:Nat}
theorem PS.zin (h:PS CP CT CB H p bo ds b0 n m ot ks){e:Sk}(he:e∈ks):1<=e.z/\e.z<=(ks.length:Int):=by
 obtain⟨i,hi⟩:=cL he;have:=h.z i e hi;have:=(bT.mp hi).1;omega
def Y5 (ks:List Sk):Prop:=∀e∈ks,∀t∈Bg e.bk,∃e'∈ks,e'.z=t.1
theorem Xo {v:V} {b:Bk} {y:Int} {Q:VK} {E:Value->Option Addr->Hp->Prop} (h:PS CP CT CB H p bo ds b0 n 0 ot ks) (M:Dd P w H d (C4 ks) es ep) (few:ks.length<=1000) (hv:Rep NL H (Bh b) v) (ok:Ds b) (hn:∀t∈Bg b,∃e∈ks,e.z=t.1) (y0:0<=y) (y9:y<=9)
  (q:∀H' ta ks',PS CP CT CB H' p bo ds b0 n 0 ot ks'->Dd P w H' d (C4 ks) es ep->Jf (C4 ks) (Bh b) (.ref ta)=C4 ks'->ks'.length<=ks.length+1->ks'≠[]->(∀e∈ks,e∈ks')->(Y5 ks->Y5 ks')->Fx ot H H'->Q (.ref ta) H'):C3 K CP CT CB XC [.ref p,v,.int y] H Q E:=by
 have rt:∀e∈ks,D0 0 b0 e=true:=λe he=>by
  unfold D0;rw[bM (show((0:Nat):Int)<e.z by have:=(h.zin he).1;omega)];rfl
 refine Vk h few hv ok hn y0 y9 (λe he eb _ H' s'=>?_) (λhne H' ta ps' fx=>?_) λe he _ hr=>by rw[rt e he] at hr;cases hr
 ·refine q H' e.ta ks (h.same s') (M.same s') (by rw[<-eb];exact WD M.n he) (by omega) (λz=>by rw[z] at he;cases he) (λ_ h=>h) (λh=>h) (An.fx s')
 ·refine q H' ta _ ps' (fx.dd M) (RT (λe he z=>(hne e he (by rw[z])).2 z) _ _ _) (by rw[bW];exact bI _) (by simp) (λ_ h=>cj.mpr (.inl h)) (λtg e he t ht=>?_) fx;rcases cj.mp he with he|he
  ·obtain⟨e',he',hz⟩:=tg e he t ht;exact⟨e',cj.mpr (.inl he'),hz⟩
  ·rw[bS.mp he] at ht;obtain⟨e',he',hz⟩:=hn t ht;exact⟨e',cj.mpr (.inl he'),hz⟩
theorem Dd.kl {kvs:List (Tr×V)}(M:Dd P w H d kvs es ep)(k:∀b,b≠d->H' b=H b):Kl H H':=Kl.one (λo e=>by rw[M.o] at e;cases e;exact⟨(by intro xs z;cases z),(by intro xs z;cases z)⟩) k
end
theorem FD {H:Hp}{a:Addr}(_:H a=none)(o:HO):(upd H a o) a=some o:=Ae
theorem Ug (xs:List V)(k:Nat):FI xs none (some (k:Int))=xs.take k:=by
 unfold FI;rw[HT.Uw,HT.LB,iA,Nat.sub_zero]
 by_cases h:k<=xs.length
 ·rw[Nat.min_eq_left h]
 ·rw[Nat.min_eq_right (by omega),cI (by omega),cI (by omega)]
theorem Nr {H:Hp}:∀{l:List Sk},(∀e∈l,H e.ta=some (.tup [.int e.z,.int e.y,.int (AA e.bk)]))->AL NL H ((l.map λe=>((e.z,e.y,AA e.bk):Tg)).map JI) (l.map λe=>V.ref e.ta)
 |[],_=>rfl
 |e::l,h=>⟨_,_,rfl,U9 (t:=(e.z,e.y,AA e.bk)) (h e bZ),Nr λx hx=>h x (bY _ hx)⟩
def Gb (K:W.Frag)(CP CT CB:Addr)(P:Program)(w:World):Sp:=λvs H Q _=>∃p bo ds b0 n,∃(lr:Addr) (rs:List Addr),vs=[.ref p,.ref lr]/\PS CP CT CB H p bo ds b0 n 0 [] []/\(∀c∈b0,c=[])/\H lr=some (.lst (rs.map V.ref))/\rs.length<=12/\(∀r∈rs,Ij H r)/\
 ∀H' b1 n1 ks d es ep,PS CP CT CB H' p bo ds b1 n1 ks.length [] ks->Dd P w H' d (C4 ks) es ep->H d=none->b1.length=b0.length->(∀c∈b1,c.length<=2*ks.length)->(∀e∈ks,∀b,b<b1.length->Bl (b1.getD b []) e.z=if(b:Int)∈De b1 e.z then some (BG (BH e.z e.y e.bk)) else none)->Kl H H'->ks≠[]->ks.length<=27->Y5 ks->Q (.ref d) H'
theorem Nb (T:Txt K mg Ac Aa Ab Af XC)(F:Fun K "_law_known" "_law_known" Dq f fd)(Er:A9 P w K mg base 11 Af "lay_draft" ["self"] (C1 K Af Ab Aa))(DY:Def P w K mg base 2 "_law_pair" ["_law_row_here"] (E6 K))(BY:Hw P w K mg base 19 Af "put" ["self","block","birth"] (C3 K Af Ab Aa XC))(DT:A9 P w K mg base 1 Af "hold" ["self","tag"] (D1 K Af Ab)):FnOk P w K mg base CG 20 f fd ["_law_pool","_law_rows"] (Gb K Af Ab Aa P w):=by
 exists B0
 ·obtain⟨p,bo,ds,b0,n,lr,rs,rfl,_⟩:=h;rfl
 obtain⟨p,bo,ds,b0,n,lr,rs,rfl,ps,be,hlr,rl,hrs,q⟩:=h;have hu:=Dy hr;have hu9:=KL hr;refine⟨_,(!Ai (@AB _ _ (2) _ _ _ _ B0.nd rfl (by trivial) (@VI _ (P) (w) _ (by rfl) (by rfl)) (by rfl) (by trivial)) (!Ai (!BM cF rfl (!Cy (pv 1)) (@As _ _ (3) _ B0.nd rfl (by trivial) (by trivial)) (!Al (!BM cF rfl (!Cy (!AO DY (by trivial) rfl (!Ad (pv 3) (!Aj)))) (@As _ _ (4) _ B0.nd rfl (by trivial) (by trivial)) (!Al (@MN _ (P) (w) _ _ _ _ _ _ _ _ (by rfl) (by rfl) hu9 (pv 2) (!C6 (!Ad (!Ak) (!Ad (pv 4) (!Aj)))) (!JX (pv 0) T.cl_Pool BY (by trivial) OG (!Ad (!C6 (!Ad (!Ak) (!Ad (pv 4) (!Aj)))) (!Ad (!Ak) (!Aj)))) rfl)) (by intro _;rfl))) (by intro _;rfl)) (!Ai (@LL _ ["_law_block","_law_known_here"] [none,some 2] (5) _ _ _ _ _ _ _ _ _ _ _ _ _ _ B0.nd rfl (by trivial) rfl (@MM _ (P) (w) _ _ _ (by rfl) (by rfl) (pv 2)) (by rfl) rfl (by repeat (first|exact trivial|refine⟨rfl,?_⟩)) (by repeat (first|exact trivial|refine⟨λh=>(by first|exact⟨_,rfl⟩|cases h),?_⟩)) (λC s H fp=>⟨(@As _ _ (0) _ (show(["_law_block","_law_known_here"]:List Str).Nodup by decide +kernel) rfl (by trivial) (by trivial)),(!AY),(@BI _ (P) (w) _ _ _ _ _ (by rfl) (by rfl) hu9 (pv 1) (pv 0) (λ_ _=>rfl))⟩) (by intro _;rfl) (by rfl) (by trivial)) (!Ai (!BM cF rfl (!Cy (!Cs (!Ad (!C6 (!Ad (!Ak) (!Ad (!Ak) (!Ad (!Dg Jm (by rfl) T.b_tuple GA (!Ad (!D9 Om (pv 5) (!FP) (!EK (!Ak))) (!Aj))) (!Aj))))) (!Ad (!C6 (!Ad (!Ak) (!Ad (!C6 (!Aj)) (!Aj)))) (!Ad (!C6 (!Ad (!Ak) (!Ad (!Ak) (!Ad (!C6 (!Aj)) (!Aj))))) (!Aj)))))) (@As _ _ (6) _ B0.nd rfl (by trivial) (by trivial)) (!Al (@MN _ (P) (w) _ _ _ _ _ _ _ _ (by rfl) (by rfl) hu9 (pv 2) (pv 6) (!JX (pv 0) T.cl_Pool BY (by trivial) OG (!Ad (pv 6) (!Ad (!Ak) (!Aj)))) rfl)) (by intro _;rfl)) (!Ai (!BM cF rfl (@MM _ (P) (w) _ _ _ (by rfl) (by rfl) (pv 2)) (@As _ _ (6) _ B0.nd rfl (by trivial) (by trivial)) (!Al (!BN (!Bf (pv 0) T.cl_Pool DT (by trivial) (!Ad (@BI _ (P) (w) _ _ _ _ _ (by rfl) (by rfl) hu9 (pv 2) (pv 6) (λ_ _=>rfl)) (!Aj))))) (by intro _;rfl)) (!Ai (!BN (!Cb (pv 0) T.cl_Pool Er)) (!Al (!Aq (pv 2))))))))),?_⟩
 try dsimp only[Ca,Cx.nox,Cx.wish]
 refine AN λN eN=>?_
 refine λd hd ep0 H0 k0 M0=>?_
 subst eN
 try dsimp only
 refine AN λN eN=>?_
 have s0:An H H0:=λb o e=>by rw[k0 b (Ar e hd)];exact e
 have ps0:=ps.same s0;have hlr0:=s0.get hlr;have hrs0:∀r∈rs,Ij H0 r:=λr hr=>(hrs r hr).kl (An.kl s0)
 refine⟨_,rfl,lr,rfl,⟨_,AQ.of hlr0⟩,CF (K:=K) (a:=lr) (xs:=rs.map V.ref) (λi σ H'=>∃ks es ep v3 v4,σ=[some (.ref p),some (.ref lr),some (.ref d),v3,v4,none,none]/\PS Af Ab Aa H' p bo ds b0 n 0 [] ks/\Dd P w H' d (C4 ks) es ep/\Kl H0 H'/\ks.length<=2*i/\Y5 ks) ⟨[],_,_,none,none,rfl,ps0,M0,(An.kl (An.refl _)),bI _,λe he=>nomatch he⟩ (by rintro i σ H' _ ⟨_,_,_,_,_,_,_,_,k,_⟩;exact AQ.of (k.1 _ _ hlr0)) ?_ ?_⟩
 ·rintro i x σ H1 hx ⟨ks,es,ep,v3,v4,rfl,ps1,M1,k1,l1,tg1⟩
  rw[bQ] at hx;obtain⟨r,hr',rfl⟩:=cm.mp hx;have il:i<rs.length:=(bT.mp hr').1;obtain⟨ns,hns,nl,nb⟩:=(hrs0 r (bJ hr')).kl k1;refine⟨_,rfl,r,ns,rfl,hns,nl,nb,λl H2 z1 z2 s2 hl hl2 hz=>?_⟩;refine⟨l,rfl,⟨_,AQ.of hl2⟩,CF (K:=K) (a:=l) (xs:=[.str z1,.str z2]) (λj σ H'=>∃ks es ep v4,σ=[some (.ref p),some (.ref lr),some (.ref d),some (.ref r),v4,none,none]/\PS Af Ab Aa H' p bo ds b0 n 0 [] ks/\Dd P w H' d (C4 ks) es ep/\Kl H2 H'/\ks.length<=2*i+j/\Y5 ks) ⟨ks,es,ep,v4,rfl,ps1.same s2,M1.same s2,(An.kl (An.refl _)),by omega,tg1⟩ (by rintro i σ H' _ ⟨_,_,_,_,_,_,_,k,_⟩;exact AQ.of (k.1 _ _ hl2)) ?_ ?_⟩
  ·rintro j x σ H3 hx ⟨ks3,es3,ep3,v4',rfl,ps3,M3,k3,l3,tg3⟩
   have jl:j<2:=(bT.mp hx).1;obtain⟨z,rfl,hz⟩:∃z,x=.str z/\(z=z1\/z=z2):=by
    rcases j with _|_|j
    ·exact⟨z1,(bO hx).symm,.inl rfl⟩
    ·exact⟨z2,(bO hx).symm,.inr rfl⟩
    ·omega
   have zz:=(by assumption:∀z,z=z1\/z=z2->_) z hz;have okb:Ds (.piece z):=by
    show(decide ((1:Int)<=(z.length:Int))&&decide ((z.length:Int)<=8)&&E5 SG z)=true;simp only[Bool.and_eq_true,decide_eq_true_eq];exact⟨⟨by omega,by omega⟩,cO.mpr λc hc=>bM (zz.2 c hc)⟩
   obtain⟨dxp,b9,dt9,dz9,dd9,n9,hp9⟩:=ps3.ins;refine⟨_,rfl,p,dxp,_,rfl,hp9,rfl,_,rfl,Jd,λtv htv=>?_⟩;have s4:=Am htv (.tup [.int 0,.str z]);dsimp only[D5,tC,ET,List.append_nil];refine Xo (y:=5) (ps3.same s4) (M3.same s4) (by omega) (b:=.piece z) ⟨tv,_,rfl,Ae,_,_,rfl,rfl,_,_,rfl,rfl,rfl⟩ okb (λt ht=>nomatch ht) (by decide) (by decide) λH5 ta ks5 ps5 M5 e5 l5 _ _ tg5 fx5=>?_
   refine⟨_,rfl,_,rfl,Jd,λtk htk=>?_⟩;have s6:=Am htk (.tup [.int 0,.str z]);have M6:=M5.same s6;refine⟨d,_,_,_,Bh (.piece z),tk,rfl,rfl,M6,X9 okb ⟨tk,_,rfl,Ae,_,_,rfl,rfl,_,_,rfl,rfl,rfl⟩,BU (by unfold C4;rw[bE];omega),λes7 ep7 H7 k7 M7=>?_⟩;rw[e5] at M7;exact⟨ks5,es7,ep7,_,rfl,(ps5.same s6).but M6 ⟨_,M7.o⟩ k7,M7,(((k3.trans (An.kl s4)).trans fx5.kl).trans (An.kl s6)).trans (Dd.kl M6 k7),by omega,tg5 tg3⟩
  ·rintro σ H3 ⟨ks3,es3,ep3,v4',rfl,ps3,M3,k3,l3,tg3⟩
   have l3:ks3.length<=2*i+2:=l3;exact⟨ks3,es3,ep3,_,_,rfl,ps3,M3,(k1.trans (An.kl s2)).trans k3,by omega,tg3⟩
 rintro σ H1 ⟨ks,es,ep,v3,v4,rfl,ps1,M1,k1,l1,tg1⟩
 rw[bE] at l1;subst eN
 try dsimp only
 refine AN λN eN=>?_
 refine⟨_,rfl,d,C4 ks,es,ep,rfl,M1,?_⟩;refine LM (xs:=A4 es) (λi _ y _=>∃e,ks[i]?=some e/\y=.ref e.ta) (λ_ _ _ _ _ h _=>h) (λ_ _ _ _ _ _ _ _ h _ _=>h) (Vr M1) (by rw[EH M1];unfold C4;rw[bE];omega) (λi x H' R hx s' hR=>?_) λlt H2 ys nlt s2 hlt ly hys=>?_
 ·obtain⟨pk,b,hpk,rfl,hbx⟩:=Fv M1 hx;unfold C4 at hpk;rw[bQ] at hpk;obtain⟨e,he,rfl⟩:=cm.mp hpk;exact⟨_,rfl,_,rfl,d,C4 ks,es,ep,Bh e.bk,b,.ref e.ta,rfl,rfl,M1.same s',hbx.keep (λc ys e=>s'.get e),Di M1.n (bJ he),hR _ _ (An.refl _) ⟨e,he,rfl⟩⟩
 subst eN
 try dsimp only
 refine AN λN eN=>?_
 have ey:ys=ks.map λe=>V.ref e.ta:=by
  have lk:(A4 es).length=ks.length:=by rw[EH M1];unfold C4;rw[bE]
  refine dH λi=>?_
  by_cases hi:i<ys.length
  ·obtain⟨_,_,e,he,hy⟩:=hys i ys[i] (bF hi);rw[bF hi,bQ,he,hy];rfl
  ·rw[cH (by omega),cH (by rw[bE];omega)]
 subst ey;have ps2:=ps1.same s2;have M2:=M1.same s2;refine⟨_,rfl,_,rfl,lt,_,rfl,AQ.of hlt,λl8 hl8=>?_⟩;have s3:=Am hl8 (.lst (FI (ks.map λe=>V.ref e.ta) none (some 8)));refine⟨l8,_,rfl,.inl ⟨AQ.of Ae,λt8 ht8=>?_⟩⟩;have s4:=Am ht8 (.tup (FI (ks.map λe=>V.ref e.ta) none (some 8)));refine⟨SJ,λa1 ha1=>?_⟩;have s5:=Am ha1 (.tup [.int 1,.int 1,.ref t8]);refine⟨Mn,λn2 hn2=>⟨Jd,λa2 ha2=>⟨Mn,λn3 hn3=>⟨SJ,λa3 ha3=>⟨SJ,λbl hbl=>?_⟩⟩⟩⟩⟩;have s6:=Am hn2 (.tup []);have s7:=Am ha2 (.tup [.int 2,.ref n2]);have s8:=Am hn3 (.tup []);have s9:=Am ha3 (.tup [.int 1,.int 1,.ref n3]);have s10:=Am hbl (.lst [.ref a1,.ref a2,.ref a3]);have s89:=s9.trans s10;have s79:=s8.trans s89;have s69:=s7.trans s79;have s59:=s6.trans s69;have s49:=s5.trans s59;have s39:=s4.trans s49;have s29:=s3.trans s39;have w8:=s49.get Ae;have w1:=s59.get Ae;have w2:=s69.get Ae;have w3:=s79.get Ae;have w4:=s89.get Ae;have w5:=s10.get Ae;have psf:=ps2.same s29;have Mf:=M2.same s29;have kf:=((k1.trans (An.kl s2)).trans (An.kl s29))
 have tgs:∀e∈ks.take 8,_:=λe he=>(psf.in (dm he)).2.1
 have wbl:=FD hbl (.lst [.ref a1,.ref a2,.ref a3]);have ec:FI (ks.map λe=>V.ref e.ta) none (some 8)=(ks.take 8).map λe=>V.ref e.ta:=by rw[show(8:Int)=((8:Nat):Int) from rfl,Ug,<-g9]
 have r1:=λH' (k:Kl _ H')=>(⟨a1,_,rfl,k.2 _ _ w1,_,_,rfl,rfl,_,_,rfl,rfl,_,_,rfl,⟨t8,_,rfl,k.2 _ _ w8,by rw[ec];exact Nr λe he=>k.2 _ _ (tgs e he)⟩,rfl⟩:Rep NL H' (Bh (.row 1 ((ks.take 8).map λe=>(e.z,e.y,AA e.bk)))) (.ref a1))
 have r2:=λH' (k:Kl _ H')=>(⟨a2,_,rfl,k.2 _ _ w3,_,_,rfl,rfl,_,_,rfl,⟨n2,_,rfl,k.2 _ _ w2,rfl⟩,rfl⟩:Rep NL H' (Bh .folder) (.ref a2))
 have r3:=λH' (k:Kl _ H')=>(⟨a3,_,rfl,k.2 _ _ w5,_,_,rfl,rfl,_,_,rfl,rfl,_,_,rfl,⟨n3,_,rfl,k.2 _ _ w4,rfl⟩,rfl⟩:Rep NL H' (Bh (.row 1 [])) (.ref a3))
 have okr:∀l:List Sk,(∀e∈l,e∈ks)->l.length<=8->Ds (.row 1 (l.map λe=>(e.z,e.y,AA e.bk))):=λl hl l8=>by
  refine⟨⟨by decide,by decide⟩,by rw[bE];exact l8,λh=>absurd h (by decide),λt ht=>?_⟩;obtain⟨e,he,rfl⟩:=bK.mp ht;have z1:=ps1.zin (hl e he);have z2:=(ps1.in (hl e he)).2.2;have z3:=sum_in e.bk;exact⟨⟨z1.1,by show e.z<=999999;omega⟩,z2.2,z3⟩
 refine⟨bl,rfl,⟨_,AQ.of wbl⟩,CF (K:=K) (a:=bl) (xs:=[.ref a1,.ref a2,.ref a3]) (λj σ H'=>∃ks' es ep v6,σ=[some (.ref p),some (.ref lr),some (.ref d),v3,v4,some (.ref lt),v6]/\PS Af Ab Aa H' p bo ds b0 n 0 [] ks'/\Dd P w H' d (C4 ks') es ep/\Kl _ H'/\ks'.length<=ks.length+j/\(∀e∈ks,e∈ks')/\(0<j->ks'≠[])/\Y5 ks') ⟨ks,es,ep,none,rfl,psf,Mf,An.kl (An.refl _),bI _,λ_ h=>h,(λh=>absurd h (by decide)),tg1⟩ (by rintro i σ H' _ ⟨_,_,_,_,_,_,_,k,_⟩;exact AQ.of (k.1 _ _ wbl)) ?_ ?_⟩
 ·rintro j x σ H3 hx ⟨ks3,es3,ep3,v6,rfl,ps3,M3,k3,l3,in3,ne3,tg3⟩
  have jl:j<3:=(bT.mp hx).1;obtain⟨b,ax,rfl,rb,okb,tb⟩:∃b ax,x=.ref ax/\Rep NL H3 (Bh b) (.ref ax)/\Ds b/\∀t∈Bg b,∃e∈ks3,e.z=t.1:=by
   rcases j with _|_|_|j
   ·refine⟨.row 1 ((ks.take 8).map λ(e:Sk)=>(e.z,e.y,AA e.bk)),a1,(bO hx).symm,r1 H3 k3,okr _ (λe he=>dm he) (by rw[cG];omega),λt ht=>?_⟩;obtain⟨e,he,rfl⟩:=bK.mp (show t∈(ks.take 8).map (λe=>((e.z,e.y,AA e.bk):Tg)) from ht);exact⟨e,in3 e (dm he),rfl⟩
   ·exact⟨.folder,a2,(bO hx).symm,r2 H3 k3,trivial,λt ht=>nomatch ht⟩
   ·exact⟨.row 1 [],a3,(bO hx).symm,r3 H3 k3,okr [] (λe he=>nomatch he) (cE _),λt ht=>nomatch ht⟩
   ·omega
  obtain⟨dxp,b9,dt9,dz9,dd9,n9,hp9⟩:=ps3.ins;refine⟨_,rfl,p,dxp,_,rfl,hp9,rfl,_,rfl,?_⟩;dsimp only[D5,tC,ET,List.append_nil];refine Xo (y:=6) ps3 M3 (by omega) rb okb tb (by decide) (by decide) λH5 ta ks5 ps5 M5 e5 l5 ne5 in5 tg5 fx5=>?_
  refine⟨_,rfl,_,rfl,d,_,_,_,Bh b,ax,rfl,rfl,M5,(X9 okb rb).keep (λc ys e=>fx5.tup e),BU (by unfold C4;rw[bE];omega),λes7 ep7 H7 k7 M7=>?_⟩;rw[e5] at M7;exact⟨ks5,es7,ep7,_,rfl,ps5.but M5 ⟨_,M7.o⟩ k7,M7,(k3.trans fx5.kl).trans (Dd.kl M5 k7),by omega,λe he=>in5 e (in3 e he),λ_=>ne5,tg5 tg3⟩
 rintro σ H3 ⟨ks3,es3,ep3,v6,rfl,ps3,M3,k3,l3,in3,ne3,tg3⟩
 have l3:ks3.length<=ks.length+3:=l3;have ne3:=ne3 (by show 0<3;decide);have k03:=kf.trans k3;subst eN
 try dsimp only
 refine AN λN eN=>?_
 refine⟨_,rfl,d,C4 ks3,es3,ep3,rfl,M3,?_⟩;refine SS (kvs:=C4 ks3) (es:=es3) (ep:=ep3) (d:=d) (λj σ H'=>∃v6,σ=[some (.ref p),some (.ref lr),some (.ref d),v3,v4,some (.ref lt),v6]/\PS Af Ab Aa H' p bo ds b0 n 0 [] ks3/\Dd P w H' d (C4 ks3) es3 ep3/\Kl H3 H') ⟨v6,rfl,ps3,M3,An.kl (An.refl _)⟩ (λi σ H' _ ⟨_,_,_,h,_⟩=>h) ?_ ?_
 ·rintro j k v b σ H4 hk ⟨v6',rfl,ps4,M4,k4⟩ hb
  unfold C4 at hk;rw[bQ] at hk;obtain⟨e,he,ee⟩:=cm.mp hk;cases ee;have he:=bJ he;obtain⟨dxp,b9,dt9,dz9,dd9,n9,hp9⟩:=ps4.ins;refine⟨_,rfl,p,dxp,_,rfl,hp9,rfl,_,rfl,_,rfl,d,C4 ks3,es3,ep3,Bh e.bk,b,.ref e.ta,rfl,rfl,M4,hb,Di M4.n he,?_⟩;dsimp only[D5,tC,ET,List.append_nil];refine WH ps4 he λH5 ps5 fx5=>?_
  exact⟨_,rfl,ps5,fx5.dd M4,k4.trans fx5.kl⟩
 ·rintro σ H4 ⟨v6',rfl,ps4,M4,k4⟩
  subst eN
  try dsimp only
  obtain⟨dxp,b9,dt9,dz9,dd9,n9,hp9⟩:=ps4.ins;refine⟨_,rfl,p,dxp,_,rfl,hp9,rfl,?_⟩;dsimp only[D5,tC,ET,List.append_nil];refine XG ps4 (by omega) be λH5 b1 n1 ps5 lb cb la fx5=>?_
  exact⟨_,rfl,q H5 b1 n1 ks3 d es3 ep3 ps5 (fx5.dd M4) hd lb cb la ((((An.kl s0).trans k03).trans k4).trans fx5.kl) ne3 (by omega) tg3⟩
end
open M06
section
variable {P:Program}{w:World}{K:W.Frag}{mg:Str->Option Value}{base:Heap}{f Ac Aa Ab Af:Addr}{XC:Nat->Addr}{fd:FuncData}
theorem NW (z u:Int):∀c:BQ,Bl (Ki c z) u=if u=z then none else Bl c u
 |[]=>by split<;>rfl
 |x::c=>by
  have ih:=NW z u c;unfold Ki at ih ⊢
  by_cases e:x.1=z
  ·rw[gB (by rw[bM e];exact bN),ih]
   by_cases h:u=z
   ·rw[bV h,bV h]
   ·rw[bP h,bP h];unfold Bl;rw[cP,bL (λq:x.1=u=>h (q.symm.trans e))]
  ·rw[gA (by rw[bL e];rfl)];unfold Bl at ih ⊢;rw[cP]
   by_cases h:x.1=u
   ·rw[bM h,bP (λq=>e (h.trans q)),cP,bM h]
   ·rw[bL h,cP,bL h];exact ih
theorem UC (c:BQ)(z:Int)(o:Option (List Int))(u:Int):Bl (Hz c z o) u=if u=z then o else Bl c u:=by
 cases o with
 |some row=>exact MR c z row u
 |none=>exact NW z u c
theorem Ql (c:BQ)(z:Int)(o:Option (List Int)):(Hz c z o).length<=c.length+1:=by
 cases o with
 |some row=>exact QG c z row
 |none=>exact cA (eG _ _) (eC _)
theorem Zt {bs:List BQ}{b:Nat}(hb:b<bs.length)(z:Int)(o:Option (List Int))(b':Nat)(u:Int):Bl ((bs.set b (Hz (bs.getD b []) z o)).getD b' []) u=if u=z/\b=b' then o else Bl (bs.getD b' []) u:=by
 by_cases e:b=b'
 ·subst e;rw[Pr hb,bV rfl,UC]
  by_cases h:u=z
  ·rw[bV h,bV ⟨h,rfl⟩]
  ·rw[bP h,bP λq=>h q.1]
 ·rw[bP λq=>e q.2];have:(bs.set b (Hz (bs.getD b []) z o)).getD b' []=bs.getD b' []:=by
   unfold List.getD;rw[fL e]
  rw[this]
theorem Yp (x:Int):Builtin.bitXor x 1≠x:=by
 rw[PyProof.Rows.bitXor_and];omega
theorem W7 (ns:List Int):sound (ns++[Builtin.bitXor (mk ns) 1])=false:=by
 cases h:sound (ns++[Builtin.bitXor (mk ns) 1]) with
 |false=>rfl
 |true=>
  have:=(N3.mp h).2.2;rw[jm] at this;exact absurd (by simpa using this) (Yp (mk ns))
def Zy (o:Option (List Int)):Prop:=∀r,o=some r->sound r=false/\r.length<=1000
def OV (bs:List BQ)(z:Int)(o:Option (List Int))(l:List Int):List BQ:=l.foldl (λbs x=>bs.set x.toNat (Hz (bs.getD x.toNat []) z o)) bs
theorem JS (z:Int)(o:Option (List Int)):∀(l:List Int) (bs:List BQ),(OV bs z o l).length=bs.length
 |[],_=>rfl
 |x::l,bs=>by
  show(OV (bs.set _ _) z o l).length=_;rw[JS z o l,dZ]
theorem Pq (bs:List BQ)(z:Int)(o:Option (List Int))(l:List Int)(x:Int):OV bs z o (l++[x])=(OV bs z o l).set x.toNat (Hz ((OV bs z o l).getD x.toNat []) z o):=by
 unfold OV;rw[gk];rfl
theorem Sd (z:Int)(o:Option (List Int))(u:Int)(b:Nat):∀(l:List Int) (bs:List BQ),(∀y∈l,0<=y/\y<(bs.length:Int))->Bl ((OV bs z o l).getD b []) u=if u=z/\(b:Int)∈l then o else Bl (bs.getD b []) u
 |[],bs,_=>by rw[bP (λh=>nomatch h.2)];rfl
 |y::l,bs,hl=>by
  obtain⟨y0,y1⟩:=hl y bZ;show Bl ((OV (bs.set y.toNat (Hz (bs.getD y.toNat []) z o)) z o l).getD b []) u=_;rw[Sd z o u b l _ (λv hv=>by rw[dZ];exact hl v (bY _ hv)),Zt (by omega)]
  by_cases ex:u=z
  ·by_cases hm:(b:Int)∈l
   ·rw[bV ⟨ex,hm⟩,bV ⟨ex,bY _ hm⟩]
   ·rw[bP (λh=>hm h.2)]
    by_cases e:y.toNat=b
    ·rw[bV ⟨ex,e⟩,bV ⟨ex,by rw[show(b:Int)=y by omega];exact bZ⟩]
    ·rw[bP (λh=>e h.2),bP λh=>(cf.mp h.2).elim (λz=>e (by omega)) hm]
  ·rw[bP (λh=>ex h.1),bP (λh=>ex h.1),bP (λh=>ex h.1)]
theorem NR {z:Int}{o:Option (List Int)}{M:Nat}:∀(l:List Int) {bs:List BQ},(∀c∈bs,c.length<=M)->∀c∈OV bs z o l,c.length<=M+l.length:=λl=>by
 induction l generalizing M with
 |nil=>intro bs h;exact h
 |cons x l ih=>
  intro bs h c hc;have:∀c∈bs.set x.toNat (Hz (bs.getD x.toNat []) z o),c.length<=M+1:=λc hc=>by
   rcases gf hc with hc|rfl
   ·have:=h c hc;omega
   ·have:=Ql (bs.getD x.toNat []) z o;have:(bs.getD x.toNat []).length<=M:=by
     unfold List.getD;cases e:bs[x.toNat]? with
     |none=>exact cE _
     |some c=>exact h c (bJ e)
    omega
  have:=ih this c hc;rw[cN];omega
theorem Kb.lst {CB:Addr}{H H':Hp}{bo:Addr}{ds:List Addr}{b:List BQ}{n:Int}{lf:V}{a:Addr}{xs:List V}(hB:C2 CB H bo ds b n lf)(k:Kb H H' bo ds)(e:H a=some (.lst xs)):H' a=some (.lst xs):=by
 obtain⟨dx,s0,h1,_⟩:=id hB;exact k a _ e (AK e h1 (by intro z;cases z)) (hB.notin e (by intro kvs z;cases z))
theorem Kb.tup {CB:Addr}{H H':Hp}{bo:Addr}{ds:List Addr}{b:List BQ}{n:Int}{lf:V}{a:Addr}{xs:List V}(hB:C2 CB H bo ds b n lf)(k:Kb H H' bo ds)(e:H a=some (.tup xs)):H' a=some (.tup xs):=by
 obtain⟨dx,s0,h1,_⟩:=id hB;exact k a _ e (AK e h1 (by intro z;cases z)) (hB.notin e (by intro kvs z;cases z))
theorem Kb.dd {CB:Addr}{H H':Hp}{bo:Addr}{ds:List Addr}{b:List BQ}{n:Int}{lf:V}{d:Addr}{kvs:List (Tr×V)}{es:Array DictEntry}{ep:Nat}(hB:C2 CB H bo ds b n lf)(k:Kb H H' bo ds)(M:Dd P w H d kvs es ep):Dd P w H' d kvs es ep:=by
 obtain⟨dx,s0,h1,_⟩:=id hB;exact M.keep (k d _ M.o (AK M.o h1 (by intro z;cases z)) (hB.notin M.o (by intro kvs z;cases z))) λc ys e=>Kb.tup hB k e
theorem NX {H H':Hp}(s:An H H')(g:Addr)(o:HO):An (upd H g o) (upd H' g o):=λb u e=>by
 by_cases h:b=g
 ·rw[h,Ae] at e ⊢;exact e
 ·rw[Ag h] at e ⊢;exact s.get e
theorem aJ {K:W.Frag}{H:Hp}{a:Addr}{x y:V}{i:Int}{k:Nat}{Qc:VK}(hi:i=(k:Int))(hk:k=1\/k=2)(ha:H a=some (.tup [x,y]))(q:∀tq Hq,An H Hq->Hq tq=some (.tup ([x,y].take k))->Qc (.ref tq) Hq):ZE K (.ref a) none (some i) H Qc:=by
 subst hi;refine⟨a,_,rfl,AS.of ha,λhw=>?_,λhw p hp=>?_⟩
 ·have h2:k=2:=by
   have:=hw.2;rw[HT.LB] at this;have:min k 2=2:=this;omega
  subst h2;exact q a H (An.refl _) ha
 ·rw[Ug];exact q p _ (Am hp _) Ae
theorem ML (xs:List V)(v:V):Mj (xs++[v]) (-1)=some v:=by
 unfold Mj TQ;rw[bP (by decide),bV (by rw[bW,fD];omega)];show(xs++[v])[((-1:Int)+((xs++[v]).length:Int)).toNat]?=some v;rw[bW,fD,show((-1:Int)+((xs.length+1:Nat):Int)).toNat=xs.length by omega];simp
theorem VD (n:Nat):TQ (n+1) (-1)=some n:=by
 unfold TQ;rw[bP (by decide),bV (by omega)]
 congr 1
 omega
end
open M06
section
variable {P:Program}{w:World}{K:W.Frag}{mg:Str->Option Value}{base:Heap}{f Ac Aa Ab Af:Addr}{XC:Nat->Addr}{fd:FuncData}
def Xj (b2:List BQ)(ks:List Sk)(gs:List Int):Prop:=∀e∈ks,(∀b,b<b2.length->(b:Int)∉De b2 e.z->Bl (b2.getD b []) e.z=none)/\
 (e.z∈gs->V1 (b2.getD (e.z%(b2.length:Int)).toNat []) e.z/\V1 (b2.getD ((e.z+1)%(b2.length:Int)).toNat []) e.z)/\
 (e.z∉gs->Bl (b2.getD ((e.z+1)%(b2.length:Int)).toNat []) e.z=some (BG (BH e.z e.y e.bk))/\(V1 (b2.getD (e.z%(b2.length:Int)).toNat []) e.z\/Bl (b2.getD (e.z%(b2.length:Int)).toNat []) e.z=some (BG (BH e.z e.y e.bk))))
theorem V7 {l:Int}(h:2<=l)(z:Int):(z%l).toNat≠((z+1)%l).toNat:=by
 have a0:=dJ z (show l≠0 by omega);have a1:=di z (show 0<l by omega);have b0:=dJ (z+1) (show l≠0 by omega);have b1:=di (z+1) (show 0<l by omega);intro e;have e':z%l=(z+1)%l:=by omega
 have c1:=jb z l;have c2:=jb (z+1) l;have:l*((z+1)/l-z/l)=1:=by
  rw[Int.mul_sub];omega
 have d:=Int.le_of_dvd (by decide) (show l ∣ 1 from⟨_,this.symm⟩);omega
theorem OX {b b':List BQ}(h:b.length=b'.length)(z:Int):De b z=De b' z:=by unfold De;rw[h]
theorem Xj.step {b2:List BQ}{ks:List Sk}{gs:List Int}(h:Xj b2 ks gs)(l2:2<=b2.length)(nz:∀e∈ks,∀e'∈ks,e.z=e'.z->e=e'){e:Sk}(he:e∈ks){o:Option (List Int)}(bo:Zy o){k:Nat}(hk:k=1\/k=2):Xj (OV b2 e.z o ((De b2 e.z).take k)) ks (if k=2 then gs++[e.z] else gs):=by
 have tn:=Iz (bs:=b2) (z:=e.z) (by omega);have ln:=JS e.z o ((De b2 e.z).take k) b2;have gt:=λ(u:Int) (b:Nat)=>Sd e.z o u b ((De b2 e.z).take k) b2 λy hy=>tn y (dm hy)
 intro x hx;have et:De (OV b2 e.z o ((De b2 e.z).take k)) x.z=De b2 x.z:=OX ln x.z;rw[et,ln];obtain⟨h1,h2,h3⟩:=h x hx;have lx:(2:Int)<=(b2.length:Int):=by omega
 have q0:=(tn (e.z%(b2.length:Int)) (by simp[De])).1;have q1:=(tn ((e.z+1)%(b2.length:Int)) (by simp[De])).1
 by_cases ez:x.z=e.z
 ·obtain rfl:=nz x hx e he ez;have f1:Bl ((OV b2 x.z o ((De b2 x.z).take k)).getD (x.z%(b2.length:Int)).toNat []) x.z=o:=by
   have hm:(((x.z%(b2.length:Int)).toNat:Nat):Int)∈(De b2 x.z).take k:=by
    rw[show(((x.z%(b2.length:Int)).toNat:Nat):Int)=x.z%(b2.length:Int) by omega];rcases hk with rfl|rfl
    ·exact bZ
    ·exact bZ
   rw[gt,bV ⟨rfl,hm⟩]
  have bad1:V1 ((OV b2 x.z o ((De b2 x.z).take k)).getD (x.z%(b2.length:Int)).toNat []) x.z:=λrow hr=>by rw[f1] at hr;exact bo row hr
  have f2:Bl ((OV b2 x.z o ((De b2 x.z).take k)).getD ((x.z+1)%(b2.length:Int)).toNat []) x.z=if k=2 then o else Bl (b2.getD ((x.z+1)%(b2.length:Int)).toNat []) x.z:=by
   rw[gt,show((((x.z+1)%(b2.length:Int)).toNat:Nat):Int)=(x.z+1)%(b2.length:Int) by omega];rcases hk with rfl|rfl
   ·rw[bP (show ¬(1=2) by decide),bP]
    rintro⟨_,hm⟩
    have:(x.z+1)%(b2.length:Int)=x.z%(b2.length:Int):=by simpa [De] using hm
    exact V7 lx x.z (by rw[this])
   ·rw[bV rfl,bV ⟨rfl,by simp[De]⟩]
  refine⟨λb hb hn=>?_,λhg=>⟨bad1,λrow hr=>?_⟩,λhg=>?_⟩
  ·rw[gt,bP (λz=>hn (dm z.2))];exact h1 b hb hn
  ·rw[f2] at hr
   by_cases k2:k=2
   ·rw[bV k2] at hr;exact bo row hr
   ·rw[bP k2] at hr hg;exact(h2 hg).2 row hr
  ·by_cases k2:k=2
   ·rw[bV k2] at hg;exact absurd (cj.mpr (.inr (bS.mpr rfl))) hg
   ·rw[bP k2] at hg f2;rw[f2];exact⟨(h3 hg).1,.inl bad1⟩
 ·have same:∀b:Nat,Bl ((OV b2 e.z o ((De b2 e.z).take k)).getD b []) x.z=Bl (b2.getD b []) x.z:=λb=>by rw[gt,bP (λz=>ez z.1)]
  have bd:∀b:Nat,V1 (b2.getD b []) x.z->V1 ((OV b2 e.z o ((De b2 e.z).take k)).getD b []) x.z:=λb h row hr=>h row (by rw[<-same];exact hr)
  have gm:x.z∈(if k=2 then gs++[e.z] else gs)↔x.z∈gs:=by
   split
   ·rw[cj,bS];exact⟨λz=>z.resolve_right ez,.inl⟩
   ·exact Iff.rfl
  rw[gm];refine⟨λb hb hn=>by rw[same];exact h1 b hb hn,λhg=>⟨bd _ (h2 hg).1,bd _ (h2 hg).2⟩,λhg=>?_⟩;rw[same,same];exact⟨(h3 hg).1,(h3 hg).2.imp (bd _) id⟩
theorem Xj.lies {b2:List BQ}{ks:List Sk}{gs:List Int}(h:Xj b2 ks gs)(l2:2<=b2.length){e:Sk}(he:e∈ks)(ok:Ds e.bk)(nb:MB e.z e.y):Lies b2 e.z e.y e.bk/\good b2 e.z e.y e.bk = !decide (e.z∈gs):=by
 obtain⟨h1,h2,h3⟩:=h e he;have tn:=Iz (bs:=b2) (z:=e.z) (by omega);have q0:=(tn (e.z%(b2.length:Int)) (by simp[De])).1;have q1:=(tn ((e.z+1)%(b2.length:Int)) (by simp[De])).1;constructor
 ·intro b hb
  by_cases hm:(b:Int)∈De b2 e.z
  ·have hm:(b:Int)=e.z%(b2.length:Int)\/(b:Int)=(e.z+1)%(b2.length:Int):=by simpa [De] using hm
   rcases hm with hm|hm
   ·have eb:b=(e.z%(b2.length:Int)).toNat:=by omega
    rw[eb]
    by_cases hg:e.z∈gs
    ·exact .inl (h2 hg).1
    ·exact(h3 hg).2
   ·have eb:b=((e.z+1)%(b2.length:Int)).toNat:=by omega
    rw[eb]
    by_cases hg:e.z∈gs
    ·exact .inl (h2 hg).2
    ·exact .inr (h3 hg).1
  ·refine .inl λrow hr=>?_
   rw[h1 b hb hm] at hr;cases hr
 ·have bad:∀b:Nat,V1 (b2.getD b []) e.z->decide (Bl (b2.getD b []) e.z=some (BG (BH e.z e.y e.bk)))=false:=λb hb=>bL λg=>by
   have:=(hb _ g).1;rw[Iv (LJ nb ok)] at this;cases this
  unfold good Yd;simp only[List.any_cons,List.any_nil,Bool.or_false]
  by_cases hg:e.z∈gs
  ·rw[bad _ (h2 hg).1,bad _ (h2 hg).2,bM hg];rfl
  ·rw[bM (h3 hg).1,bL hg,iX];rfl
def FH (K:W.Frag)(CB:Addr)(P:Program)(w:World):Sp:=λvs H Q _=>∃(bo kp d lr:Addr) (ds ds2 rs:List Addr) (b1:List BQ) (n1:Int) (ks:List Sk) (es:Array DictEntry) (ep:Nat),vs=[.ref bo,.ref kp,.ref d,.ref lr]/\C2 CB H bo ds b1 n1 .non/\C2 CB H kp ds2 b1 0 .non/\kp≠bo/\(∀a∈ds2,a∉ds)/\2<=b1.length/\(∀c∈b1,c.length<=60)/\Dd P w H d (C4 ks) es ep/\ks≠[]/\ks.length<=27/\
 (∀e∈ks,Ds e.bk/\H e.ta=some (.tup [.int e.z,.int e.y,.int (AA e.bk)])/\MB e.z e.y)/\(∀e∈ks,∀e'∈ks,e.z=e'.z->e=e')/\(∀e∈ks,∀b,b<b1.length->Bl (b1.getD b []) e.z=if(b:Int)∈De b1 e.z then some (BG (BH e.z e.y e.bk)) else none)/\
 H lr=some (.lst (rs.map V.ref))/\rs.length<=12/\(∀r∈rs,Ij H r)/\
 ∀H' b2 g gs,C2 CB H' bo ds b2 n1 .non->Kb H H' bo ds->b2.length=b1.length->(∀c∈b2,c.length<=200)->H g=none->H' g=some (.lst (gs.map V.int))->gs.length<=12->(∀z∈gs,∃e∈ks,e.z=z)->Xj b2 ks gs->Q (.ref g) H'
theorem LV (T:Txt K mg Ac Aa Ab Af XC)(F:Fun K "_law_spoilt" "_law_spoilt" CY f fd)(Bb:A9 P w K mg base 2 Aa "twins" ["self","number"] (CM K Aa))(Bp:A9 P w K mg base 4 Aa "cell" ["self","board","number"] (Cd K Aa))(Ba:A9 P w K mg base 4 Aa "spoil" ["self","board","number","row"] (CC K Aa)):FnOk P w K mg base CG 5 f fd ["_law_boards","_law_kept","_law_known_here","_law_rows"] (FH K Aa P w):=by
 exists BK
 ·obtain⟨bo,kp,d,lr,ds,ds2,rs,b1,n1,ks,es,ep,rfl,_⟩:=h;rfl
 obtain⟨bo,kp,d,lr,ds,ds2,rs,b1,n1,ks,es,ep,rfl,hB,hK,nkb,nds,l2,cb,M,kne,kl,kin,knz,la,hlr,rl,hrs,q⟩:=h;have hu:=Dy hr;have hu9:=KL hr;refine⟨_,(!Ai (@AB _ _ (4) _ _ _ _ BK.nd rfl (by trivial) (!Cs (!Aj)) (by rfl) (by trivial)) (!Ai (@AB _ _ (5) _ _ _ _ BK.nd rfl (by trivial) (!Dg (MI (P:=P) (w:=w) (by rfl) (by rfl) rfl) (by rfl) T.b_list IM (!Ad (pv 2) (!Aj))) (by rfl) (by trivial)) (!Ai (!BM cF rfl (!Cy (pv 3)) (@As _ _ (6) _ BK.nd rfl (by trivial) (by trivial)) (!Ai (@AB _ _ (7) _ _ _ _ BK.nd rfl (by trivial) (@BI _ (P) (w) _ _ _ _ _ (by rfl) (by rfl) hu9 (pv 2) (!Au Bm (pv 5) (!AC BP (!Au Bm (pv 6) (!Ak) (λ_ _=>rfl)) (!Av AM (by rfl) T.b_len CA (!Ad (pv 5) (!Aj)))) (λ_ _=>rfl)) (λ_ _=>rfl)) (by rfl) (by trivial)) (!Ai (!BM cF rfl (!Ed (!D9 WW (!Bf (pv 0) T.cl_Boards Bb (by trivial) (!Ad (!Au Az (pv 7) (!Ak) (λ_ _=>rfl)) (!Aj))) (!FP) (!EK (!AC HL (!Ak) (!AC Ph (!AC BP (!Au Bm (pv 6) (!Ak) (λ_ _=>rfl)) (!Ak)) (!Ak)))))) (@As _ _ (8) _ BK.nd rfl (by trivial) (by trivial)) (!Ai (@AB _ _ (9) _ _ _ _ BK.nd rfl (by trivial) (!Bf (pv 1) T.cl_Boards Bp (by trivial) (!Ad (pv 8) (!Ad (!Au Az (pv 7) (!Ak) (λ_ _=>rfl)) (!Aj)))) (by rfl) (by trivial)) (!Ai (!YX (!AC YC (!Au Bm (pv 9) (!Su Oo (!Ak)) (λ_ _=>rfl)) (!Ak)) (!YQ (pv 9) (!Su Oo (!Ak)) set_list (by intro _;rfl))) (!Al (!BN (!Bf (pv 0) T.cl_Boards Ba (by trivial) (!Ad (pv 8) (!Ad (!Au Az (pv 7) (!Ak) (λ_ _=>rfl)) (!Ad (!Au Bm (!Cs (!Ad (!EB) (!Ad (pv 9) (!Ad (!Cs (!Aj)) (!Aj))))) (!AC BP (!Au Bm (pv 6) (!Ak) (λ_ _=>rfl)) (!Ak)) (λ_ _=>rfl)) (!Aj))))))))) (by intro _;rfl)) (!Al (!AR (!AI RU (!AC BP (!Au Bm (pv 6) (!Ak) (λ_ _=>rfl)) (!Ak)) (!Ak) (AG _)) (!Al (!BN (!J3 dk eZ eY Gw (pv 4) (!Ad (!Au Az (pv 7) (!Ak) (λ_ _=>rfl)) (!Aj))))) (!Ay))))) (by intro _;rfl)) (!Al (!Aq (pv 4)))))),?_⟩
 try dsimp only[Ca,Cx.nox,Cx.wish]
 refine AN λN eN=>?_
 refine⟨Mn,λg hg=>?_⟩;subst eN
 try dsimp only
 refine AN λN eN=>?_
 have s1:=Am hg (.lst []);refine⟨_,rfl,d,C4 ks,es,ep,rfl,M.same s1,λbl hbl=>?_⟩;subst eN
 try dsimp only
 refine AN λN eN=>?_
 have s2:=Am hbl (.lst (A4 es));have hgl:g≠bl:=λz=>by rw[<-z,Ae] at hbl;cases hbl
 have s12:=s1.trans s2;have g2:=s2.get (Ae (H:=H) (a:=g) (o:=.lst []));have bl2:=FD hbl (.lst (A4 es));have G2:∀ys,C2 Aa (upd (upd (upd H g (.lst [])) bl (.lst (A4 es))) g (.lst ys)) bo ds b1 n1 .non:=λys=>by
  have:=(hB.same (Am hg (.lst ys))).same (λb o e=>by
   show(upd (upd (upd H g (.lst [])) bl (.lst (A4 es))) g (.lst ys)) b=some o
   by_cases h:b=g
   ·rw[h,Ae] at e ⊢;exact e
   ·rw[Ag h] at e ⊢;exact s12.get e)
  exact this
 generalize (upd (upd H g (.lst [])) bl (.lst (A4 es)))=H2 at s12 g2 bl2 G2;have sp0:Xj b1 ks []:=λe he=>by
  have tn:=Iz (bs:=b1) (z:=e.z) (by omega);have q0:=tn (e.z%(b1.length:Int)) (by simp[De]);have q1:=tn ((e.z+1)%(b1.length:Int)) (by simp[De]);refine⟨λb hb hn=>by rw[la e he b hb,bP hn],(λh=>nomatch h),λ_=>⟨?_,.inr ?_⟩⟩
  ·rw[la e he _ (by omega),show((((e.z+1)%(b1.length:Int)).toNat:Nat):Int)=(e.z+1)%(b1.length:Int) by omega,bV (by simp[De])]
  ·rw[la e he _ (by omega),show(((e.z%(b1.length:Int)).toNat:Nat):Int)=e.z%(b1.length:Int) by omega,bV (by simp[De])]
 refine⟨_,rfl,lr,rfl,⟨_,AQ.of (s12.get hlr)⟩,CF (K:=K) (a:=lr) (xs:=rs.map V.ref) (λi σ H'=>∃b2 gs v6 v7 v8 v9,σ=[some (.ref bo),some (.ref kp),some (.ref d),some (.ref lr),some (.ref g),some (.ref bl),v6,v7,v8,v9]/\C2 Aa H' bo ds b2 n1 .non/\(∀ys,C2 Aa (upd H' g (.lst ys)) bo ds b2 n1 .non)/\Kb H H' bo ds/\H' g=some (.lst (gs.map V.int))/\H' bl=some (.lst (A4 es))/\b2.length=b1.length/\(∀c∈b2,c.length<=60+2*i)/\gs.length<=i/\(∀z∈gs,∃e∈ks,e.z=z)/\Xj b2 ks gs) ⟨b1,[],none,none,none,none,rfl,hB.same s12,G2,An.kb s12 _ _,g2,bl2,rfl,cb,bI _,(λz hz=>nomatch hz),sp0⟩ (by rintro i σ H' _ ⟨_,_,_,_,_,_,_,_,_,k,_⟩;exact AQ.of (Kb.lst hB k hlr)) ?_ ?_⟩
 ·rintro i x σ H3 hx ⟨b2,gs,v6,v7,v8,v9,rfl,B3,G3,k3,g3,bl3,lb,cb3,lg,gz,sp3⟩
  try dsimp only
  refine AN λN eN=>?_
  rw[bQ] at hx;obtain⟨r,hr',rfl⟩:=cm.mp hx;have il:i<rs.length:=(bT.mp hr').1;obtain⟨ns,hns,nl,nb⟩:=hrs r (bJ hr');have hns3:=Kb.lst hB k3 hns;obtain⟨m6,a6,b6⟩:=Hc nl nb 6 (by decide);obtain⟨m7,a7,b7⟩:=Hc nl nb 7 (by decide);obtain⟨m8,a8,b8⟩:=Hc nl nb 8 (by decide);have M3:=Kb.dd hB k3 M;have lk:(A4 es).length=ks.length:=by rw[EH M];unfold C4;rw[bE]
  have kp0:0<ks.length:=jr.mpr kne;have jr0:=dJ m6 (show((A4 es).length:Int)≠0 by omega);have jr1:=di m6 (show(0:Int)<((A4 es).length:Int) by omega);obtain⟨j,hj⟩:∃j:Nat,m6%((A4 es).length:Int)=(j:Int):=⟨(m6%((A4 es).length:Int)).toNat,by omega⟩
  have jl:j<(A4 es).length:=by omega
  obtain⟨pk,kb,hpk,hkb,hbx⟩:=Fv M3 (bF jl);unfold C4 at hpk;rw[bQ] at hpk;obtain⟨e,he,rfl⟩:=cm.mp hpk;have he:=bJ he;obtain⟨eok,eta,enb⟩:=kin e he;have eta3:=Kb.tup hB k3 eta;refine⟨_,rfl,_,rfl,_,rfl,r,_,_,_,rfl,rfl,AQ.of hns3,a6,_,rfl,bl,_,rfl,.inl (AQ.of bl3),_,_,rfl,rfl,(show(0:Int)<((A4 es).length:Int) by omega),bl,_,_,_,rfl,rfl,AQ.of bl3,by rw[hj];exact DD (bF jl),d,_,_,_,Bh e.bk,kb,.ref e.ta,rfl,hkb,M3,hbx,Di M3.n he,?_⟩;subst eN
  try dsimp only
  refine AN λN eN=>?_
  obtain⟨dxb,sb,hb1,_⟩:=id B3;refine⟨_,rfl,bo,dxb,_,rfl,hb1,rfl,_,rfl,e.ta,_,_,_,rfl,rfl,AS.of eta3,rfl,bo,ds,b2,n1,.non,e.z,rfl,B3,by omega,λtp htp=>?_⟩;have sp1:=Am htp (.tup [.int (e.z%(b2.length:Int)),.int ((e.z+1)%(b2.length:Int))]);have etp:=FD htp (.tup [.int (e.z%(b2.length:Int)),.int ((e.z+1)%(b2.length:Int))]);obtain⟨k,hk,hk7⟩:∃k:Nat,(2-m7%4/3=(k:Int)/\(k=1\/k=2))/\(k=2↔m7%4<3):=by
   by_cases h:m7%4<3
   ·exact⟨2,⟨by omega,.inr rfl⟩,⟨λ_=>h,λ_=>rfl⟩⟩
   ·exact⟨1,⟨by omega,.inl rfl⟩,⟨(λz=>by cases z),λz=>absurd z h⟩⟩
  refine⟨_,rfl,r,_,_,_,rfl,rfl,AQ.of (sp1.get hns3),a7,_,_,rfl,rfl,(show(0:Int)<4 by decide),_,_,rfl,rfl,⟨by decide,by decide⟩,_,_,rfl,rfl,_,rfl,?_⟩;obtain⟨o,ho⟩:∃o:Option (List Int),o=if m8%3=0 then none else if m8%3=1 then some (wT (BH e.z e.y e.bk)++[Builtin.bitXor (mk (wT (BH e.z e.y e.bk))) 1]) else some []:=⟨_,rfl⟩
  have rl9:=On (z:=e.z) (y:=e.y) eok;have bo9:Zy o:=λrw_ hr9=>by
   rw[ho] at hr9
   split at hr9
   ·cases hr9
   ·split at hr9
    ·cases hr9;exact⟨W7 _,by rw[bW,fD];omega⟩
    ·cases hr9;exact⟨rfl,cE _⟩
  refine aJ hk.1 hk.2 etp λtq Hq sq htq=>?_
  have s3q:=sp1.trans sq;have Bq:=B3.same s3q;have Gq:∀ys,C2 Aa (upd Hq g (.lst ys)) bo ds b2 n1 .non:=λys=>(G3 ys).same (NX s3q g _)
  have kHq:=k3.trans (An.kb s3q bo ds);have htq':Hq tq=some (.tup (((De b2 e.z).take k).map V.int)):=by rw[htq,g9];rfl
  have tw12:De b1 e.z=De b2 e.z:=OX lb.symm e.z;refine⟨tq,rfl,⟨_,AS.of htq'⟩,IR (K:=K) (a:=tq) (xs:=((De b2 e.z).take k).map V.int) (λi' σ H'=>∃v8 v9,σ=[some (.ref bo),some (.ref kp),some (.ref d),some (.ref lr),some (.ref g),some (.ref bl),some (.ref r),some (.ref e.ta),v8,v9]/\C2 Aa H' bo ds (OV b2 e.z o (((De b2 e.z).take k).take i')) n1 .non/\(∀ys,C2 Aa (upd H' g (.lst ys)) bo ds (OV b2 e.z o (((De b2 e.z).take k).take i')) n1 .non)/\Kb Hq H' bo ds) ⟨v8,v9,rfl,Bq,Gq,An.kb (An.refl _) bo ds⟩ (by rintro i' σ H' _ ⟨_,_,_,_,_,k'⟩;exact AS.of (Kb.tup Bq k' htq')) ?_ ?_⟩
  ·rintro i' y σ H4 hi' ⟨v8',v9',rfl,B4,G4,k4⟩
   try dsimp only
   refine AN λN eN=>?_
   obtain⟨x,rfl,hx'⟩:=ints_get hi';have xin:x∈De b2 e.z:=dm (bJ hx');obtain⟨x0,x1⟩:=Iz (by omega) x xin;have ex:((x.toNat:Nat):Int)=x:=by omega
   have kH4:=kHq.trans k4;have hK4:=hK.kept hB kH4 nkb nds;have eta4:=Kb.tup hB kH4 eta;have hns4:=Kb.lst hB kH4 hns;obtain⟨dxk,sk4,hk1,_⟩:=id hK4;have hrow:Bl (b1.getD x.toNat []) e.z=some (BG (BH e.z e.y e.bk)):=by rw[la e he x.toNat (by omega),ex,tw12,bV xin]
   refine⟨_,rfl,kp,dxk,_,rfl,hk1,rfl,_,rfl,_,rfl,e.ta,_,_,_,rfl,rfl,AS.of eta4,rfl,kp,ds2,b1,0,.non,x.toNat,e.z,by rw[ex];rfl,hK4,by omega,(λz=>by rw[hrow] at z;cases z),λrow hr9 c9 hc9=>?_⟩;subst eN
   try dsimp only
   refine AN λN eN=>?_
   rw[hrow] at hr9;cases hr9;have esl:(BG (BH e.z e.y e.bk)).map V.int=(wT (BH e.z e.y e.bk)).map V.int++[V.int (mk (wT (BH e.z e.y e.bk)))]:=by unfold BG;rw[cg];rfl
   rw[esl];have lw:((wT (BH e.z e.y e.bk)).map V.int++[V.int (mk (wT (BH e.z e.y e.bk)))]).length=((wT (BH e.z e.y e.bk)).map V.int).length+1:=by rw[bW];rfl
   refine⟨_,rfl,_,rfl,c9,_,_,_,rfl,rfl,AQ.of Ae,ML _ _,_,_,rfl,rfl,_,rfl,_,rfl,c9,_,_,((wT (BH e.z e.y e.bk)).map V.int).length,rfl,rfl,Ae,by rw[lw];exact VD _,?_⟩;have eset:((wT (BH e.z e.y e.bk)).map V.int++[V.int (mk (wT (BH e.z e.y e.bk)))]).set ((wT (BH e.z e.y e.bk)).map V.int).length (V.int (Builtin.bitXor (mk (wT (BH e.z e.y e.bk))) 1))=(wT (BH e.z e.y e.bk)++[Builtin.bitXor (mk (wT (BH e.z e.y e.bk))) 1]).map V.int:=by
    rw[i8 _ _ (bI _),gE,cg];rfl
   rw[EL];dsimp only;rw[eset];have s5:=Am hc9 (.lst ((wT (BH e.z e.y e.bk)++[Builtin.bitXor (mk (wT (BH e.z e.y e.bk))) 1]).map V.int));have c95:=FD hc9 (.lst ((wT (BH e.z e.y e.bk)++[Builtin.bitXor (mk (wT (BH e.z e.y e.bk))) 1]).map V.int));generalize upd H4 c9 (.lst ((wT (BH e.z e.y e.bk)++[Builtin.bitXor (mk (wT (BH e.z e.y e.bk))) 1]).map V.int))=H5 at s5 c95;have B5:=B4.same s5;obtain⟨dx5,sh5,h51,_⟩:=id B5;subst eN
   try dsimp only
   refine⟨_,rfl,bo,dx5,_,rfl,h51,rfl,_,rfl,_,rfl,e.ta,_,_,_,rfl,rfl,AS.of (s5.get eta4),rfl,?_⟩;refine⟨_,rfl,Mn,λe9 he9=>⟨SJ,λl9 hl9=>?_⟩⟩;have s6:=Am he9 (.lst []);have s7:=Am hl9 (.lst [V.non,.ref c9,.ref e9]);have w9:=s7.get (FD he9 (.lst []));have wl:=FD hl9 (.lst [V.non,.ref c9,.ref e9]);have s67:=s6.trans s7;have s57:=s5.trans s67;have wc:=s67.get c95;generalize upd (upd H5 e9 (.lst [])) l9 (.lst [V.non,.ref c9,.ref e9])=H7 at s7 w9 wl s67 s57 wc;obtain⟨vx,hvx,hci⟩:∃vx,Mj [V.non,.ref c9,.ref e9] (m8%3)=some vx/\Rf H7 o vx:=by
    have hm:m8%3=0\/m8%3=1\/m8%3=2:=by omega
    rcases hm with hm|hm|hm
    ·rw[ho,hm,bV rfl];exact⟨.non,DD (j:=0) rfl,rfl⟩
    ·rw[ho,hm,bP (by decide),bV rfl];exact⟨.ref c9,DD (j:=1) rfl,c9,rfl,wc⟩
    ·rw[ho,hm,bP (by decide),bP (by decide)];exact⟨.ref e9,DD (j:=2) rfl,e9,rfl,w9⟩
   have l4:(((De b2 e.z).take k).take i').length<=2:=by
    rw[cG,cG];have:(De b2 e.z).length=2:=rfl;omega
   refine⟨_,rfl,r,_,_,_,rfl,rfl,AQ.of (s57.get hns4),a8,_,_,rfl,rfl,(show(0:Int)<3 by decide),l9,_,_,_,rfl,rfl,AQ.of wl,hvx,bo,ds,_,n1,.non,x.toNat,e.z,vx,o,by rw[ex];rfl,B4.same s57,by rw[JS];omega,λc hc=>?_,hci,λH8 B8 k8 g8=>?_⟩
   ·have:=NR _ cb3 c hc;omega
   ·have et:((De b2 e.z).take k).take (i'+1)=((De b2 e.z).take k).take i'++[x]:=by rw[cJ,hx'];rfl
    refine⟨_,_,rfl,?_,λys=>?_,k4.trans ((An.kb s57 bo ds).trans k8)⟩
    ·rw[et,Pq];exact B8
    ·rw[et,Pq];exact g8 g _ (s57.get (Kb.lst Bq k4 (s3q.get g3))) (λys=>(G4 ys).same (NX s57 g _)) ys
  ·rintro σ H4 ⟨v8',v9',rfl,B4,G4,k4⟩
   rw[bE,dQ] at B4 G4;have kH4:=kHq.trans k4;have hns4:=Kb.lst hB kH4 hns;have eta4:=Kb.tup hB kH4 eta;have g4:H4 g=some (.lst (gs.map V.int)):=Kb.lst Bq k4 (s3q.get g3);have bl4:H4 bl=some (.lst (A4 es)):=Kb.lst Bq k4 (s3q.get bl3);have st:=sp3.step (by omega) knz he bo9 hk.2;have cb4:∀c∈OV b2 e.z o ((De b2 e.z).take k),c.length<=60+2*(i+1):=λc hc=>by
    have:=NR _ cb3 c hc;have:((De b2 e.z).take k).length<=2:=by rw[cG];exact ip _ _
    omega
   subst eN
   try dsimp only
   refine⟨_,rfl,r,_,_,_,rfl,rfl,AQ.of hns4,a7,_,_,rfl,rfl,(show(0:Int)<4 by decide),_,_,rfl,rfl,_,rfl,IE (λh7=>?_) (λh7=>?_)⟩
   ·have h7:=cX h7;have k2:k=2:=hk7.mpr h7;rw[bV k2] at st;refine⟨_,rfl,.inl ⟨rfl,_,AQ.of g4⟩,_,rfl,e.ta,_,_,_,rfl,rfl,AS.of eta4,rfl,g,_,_,rfl,rfl,g4,BU (by rw[bE];omega),?_⟩;refine⟨_,gs++[e.z],_,_,_,_,rfl,G4 _,λys=>by rw[EL];exact G4 ys,λa ob ea n1 n2=>?_,?_,by rw[Ag (Ne.symm hgl)];exact bl4,by rw[JS];exact lb,cb4,by rw[bW];show gs.length+1<=i+1;omega,(λz hz=>(cj.mp hz).elim (gz z) λh=>⟨e,he,(bS.mp h).symm⟩),st⟩
    ·rw[Ag (Ar ea hg)];exact kH4 a ob ea n1 n2
    ·rw[Ae,cg];rfl
   ·have k2:¬k=2:=λz=>h7 (bM (hk7.mp z))
    rw[bP k2] at st;exact⟨_,gs,_,_,_,_,rfl,B4,G4,kH4,g4,bl4,by rw[JS];exact lb,cb4,by omega,gz,st⟩
 ·rintro σ H3 ⟨b2,gs,v6,v7,v8,v9,rfl,B3,G3,k3,g3,bl3,lb,cb3,lg,gz,sp3⟩
  rw[bE] at cb3 lg;subst eN;exact⟨_,rfl,q H3 b2 g gs B3 k3 lb (λc hc=>by have:=cb3 c hc;omega) hg g3 (by omega) gz sp3⟩
end
open M06
section
variable {P:Program}{w:World}{K:W.Frag}{mg:Str->Option Value}{base:Heap}{f Ac Aa Ab Af:Addr}{XC:Nat->Addr}{fd:FuncData}
def Fy (ot:List Addr)(d:Addr)(H H':Hp):Prop:=∀a o,H a=some o->a≠d->(a∈ot\/((∀C d fs,o≠.ins C d fs)/\∀kvs,o≠.dK kvs))->H' a=some o
theorem Fx.fy {ot:List Addr}{d:Addr}{H H':Hp}(h:Fx ot H H'):Fy ot d H H':=λa o e _ k=>h a o e k
theorem Fy.trans {ot:List Addr}{d:Addr}{H H1 H2:Hp}(a:Fy ot d H H1)(b:Fy ot d H1 H2):Fy ot d H H2:=λc o e n k=>b c o (a c o e n k) n k
theorem Yq {ot:List Addr}{d:Addr}{H H':Hp}(k:∀b,b≠d->H' b=H b):Fy ot d H H':=λa o e n _=>by rw[k a n];exact e
theorem PS.m {CP CT CB:Addr}{H:Hp}{p bo:Addr}{ds ot:List Addr}{b0:List BQ}{n:Int}{m:Nat}{ks:List Sk}(h:PS CP CT CB H p bo ds b0 n m ot ks):m<=ks.length:=by
 obtain⟨q,cs,bs,rfl,rfl,rfl,h4,h5,h6⟩:=h;rw[bE];exact h4.a.m
theorem IQ (x:Int)(ns:List Int):Us (V.int x) (ns.map V.int)=decide (x∈ns):=by
 unfold Us;rw[List.any_map,dD,dR,cz];constructor
 ·rintro⟨y,hy,e⟩
  have e':Nd (V.int y) (V.int x)=true:=e;simp[Nd] at e';rw[<-e'];exact hy
 ·intro h;exact⟨x,h,by show Nd (V.int x) (V.int x)=true;simp[Nd]⟩
theorem Gv (ns:List Int):(ns.map V.int).all IG=true:=by simp[List.all_map,Function.comp_def,IG]
theorem FN (a b:Int):decide (V.int a=V.int b)=decide (a=b):=by
 by_cases h:a=b
 ·rw[h,bM rfl,bM rfl]
 ·rw[bL h,bL λz=>h (V.int.inj z)]
theorem PS.up {CP CT CB:Addr}{H:Hp}{p bo:Addr}{ds ot:List Addr}{b0:List BQ}{n:Int}{m:Nat}{ks:List Sk}(h:PS CP CT CB H p bo ds b0 n m ot ks):(ks.map (·.z)).Pairwise (·<=·):=by
 rw[eW];intro i j hi hj hij;rw[bE] at hi hj;rw[eU,eU,h.z i _ (bF hi),h.z j _ (bF hj)];omega
def Gn (K:W.Frag)(CP CT CB:Addr)(P:Program)(w:World):Sp:=λvs H Q _=>∃p bo ds b0 n m ot ks d es ep,∃(v:Addr) (b:Bk) (lg:Addr) (gs:List Int),vs=[.ref p,.ref v,.ref d,.ref lg]/\PS CP CT CB H p bo ds b0 n m ot ks/\Dd P w H d (C4 ks) es ep/\ks.length<=60/\Rep NL H (Bh b) (.ref v)/\Ds b/\(∀t∈Bg b,∃e∈ks,e.z=t.1)/\H lg=some (.lst (gs.map V.int))/\gs.length<=12/\(∀z∈gs,z<=(m:Int))/\(∀e∈ks,D0 m b0 e = !decide (e.z∈gs))/\
 ∀H' ks' es' ep',PS CP CT CB H' p bo ds b0 n m ot ks'->Dd P w H' d (C4 ks') es' ep'->(∀e∈ks,e∈ks')->ks'.length<=ks.length+1->((∃e∈ks,e.bk=b)->ks'=ks)->(∀e∈ks',D0 m b0 e = !decide (e.z∈gs))->Fy ot d H H'->Q (.bl true) H'
theorem Nh (T:Txt K mg Ac Aa Ab Af XC)(F:Fun K "_law_right" "_law_right" Du f fd)(Cr:A9 P w K mg base 1 Af "numbers" ["self"] (DB K Af Ab))(Dj:Def P w K mg base 20 "_law_tried" ["_law_pool","_law_block","_law_tag"] (BX K Af Ab Aa))(JE:Def P w K mg base 2 "_law_sum" ["_law_block"] (IJ K)):FnOk P w K mg base CG 21 f fd ["_law_pool","_law_block","_law_known_here","_law_gone"] (Gn K Af Ab Aa P w):=by
 exists Dz
 ·obtain⟨p,bo,ds,b0,n,m,ot,ks,d,es,ep,v,b,lg,gs,rfl,_⟩:=h;rfl
 obtain⟨p,bo,ds,b0,n,m,ot,ks,d,es,ep,v,b,lg,gs,rfl,ps,M,few,hv,ok,hn,hlg,gl,gm,rg,q⟩:=h;have hu:=Dy hr;have hu9:=KL hr;refine⟨_,(!Ai (@AB _ _ (4) _ _ _ _ Dz.nd rfl (by trivial) (!Cb (pv 0) T.cl_Pool Cr) (by rfl) (by trivial)) (!Ai (@AB _ _ (5) _ _ _ _ Dz.nd rfl (by trivial) (!AO Dj (by trivial) rfl (!Ad (pv 0) (!Ad (pv 1) (!Ad (!EB) (!Aj))))) (by rfl) (by trivial)) (!Ai (@AB _ _ (6) _ _ _ _ Dz.nd rfl (by trivial) (!AO JE (by trivial) rfl (!Ad (pv 1) (!Aj))) (by rfl) (by trivial)) (!Ai (@LL _ ["_law_other","_law_known_here","_law_total","_law_gone"] [none,some 2,some 6,some 3] (7) _ _ _ _ _ _ _ _ _ _ _ _ _ _ Dz.nd rfl (by trivial) rfl (@MM _ (P) (w) _ _ _ (by rfl) (by rfl) (pv 2)) (by rfl) rfl (by repeat (first|exact trivial|refine⟨rfl,?_⟩)) (by repeat (first|exact trivial|refine⟨λh=>(by first|exact⟨_,rfl⟩|cases h),?_⟩)) (λC s H fp=>⟨(@As _ _ (0) _ (show(["_law_other","_law_known_here","_law_total","_law_gone"]:List Str).Nodup by decide +kernel) rfl (by trivial) (by trivial)),(!VE (@PW.pt _ _ _ (!RH (!AI CI (!Au (Hn (K:=K) (by rfl)) (@BI _ (P) (w) _ _ _ _ _ (by rfl) (by rfl) hu9 (pv 1) (pv 0) (λ_ _=>rfl)) (!Ak) (λ_ _=>rfl)) (pv 2) (AG _)) (!Oa (!AI (Q4 (K:=K) (by rfl)) (!Au (Hn (K:=K) (by rfl)) (@BI _ (P) (w) _ _ _ _ _ (by rfl) (by rfl) hu9 (pv 1) (pv 0) (λ_ _=>rfl)) (!Ak) (λ_ _=>rfl)) (pv 3)))))),(!Au (Hn (K:=K) (by rfl)) (@BI _ (P) (w) _ _ _ _ _ (by rfl) (by rfl) hu9 (pv 1) (pv 0) (λ_ _=>rfl)) (!Ak) (λ_ _=>rfl))⟩) (by intro _;rfl) (by rfl) (by trivial)) (!Ai (!AR (@PW.pt _ _ _ (!RH (!FE (@W8 _ (P) (w) _ _ _ _ (by rfl) (by rfl) hu9 (pv 1) (pv 2)) (by first|exact CH _ (by decide) (by decide)|rfl)) (!Oa (!AI Ko (!Au Az (@BI _ (P) (w) _ _ _ _ _ (by rfl) (by rfl) hu9 (pv 2) (pv 1) (λ_ _=>rfl)) (!Ak) (λ_ _=>rfl)) (pv 3))))) (!Al (!Aq (!EF (!BS (Oc hu9) (pv 5) (@BI _ (P) (w) _ _ _ _ _ (by rfl) (by rfl) hu9 (pv 2) (pv 1) (λ_ _=>rfl)) (AG _)) (!Gf (!BS (O6 hu) (!Cb (pv 0) T.cl_Pool Cr) (pv 4) (AG _)))))) (!Ay)) (!Ai (!AR (!AI (Yc hu) (pv 7) (!Cs (!Aj)) (AG _)) (!Al (!Aq (!EF (!BS (Oc hu9) (pv 5) (!C6 (!Ad (!HI) (!Ad (!Av (TY (K:=K) (by rfl) rfl) (by rfl) T.b_min X3 (!Ad (pv 7) (!Aj))) (!Aj)))) (AG _)) (!Gf (!BS (O6 hu) (!Cb (pv 0) T.cl_Pool Cr) (pv 4) (AG _)))))) (!Ay)) (!Ai (@MN _ (P) (w) _ _ _ _ _ _ _ _ (by rfl) (by rfl) hu9 (pv 2) (pv 1) (pv 5) rfl) (!Al (!Aq (!EF (!BS (Oc hu9) (!D9 O1 (pv 5) (!EK (!Ak)) (!FP)) (!C6 (!Ad (!Ak) (!Ad (pv 6) (!Aj)))) (AG _)) (!EF (!BS Ko (!Au Az (pv 5) (!Ak) (λ_ _=>rfl)) (pv 4)) (!Gf (!BS (O6 hu) (!Cb (pv 0) T.cl_Pool Cr) (!Av (QY (K:=K) (by rfl)) (by rfl) T.b_sorted Gx (!Ad (!AC Hf (pv 4) (!Cs (!Ad (!Au Az (pv 5) (!Ak) (λ_ _=>rfl)) (!Aj)))) (!Aj))) (AG _)))))))))))))),?_⟩
 try dsimp only[Ca,Cx.nox,Cx.wish]
 refine AN λN eN=>?_
 obtain⟨dxp,b9,dt9,dz9,dd9,n9,hp9⟩:=ps.ins;refine⟨_,rfl,p,dxp,_,rfl,hp9,rfl,?_⟩;dsimp only[D5,tC,ET,List.append_nil];refine ON ps (by omega) λla hla=>?_
 have s1:=Am hla (.lst ((ks.map (·.z)).map V.int));have wla:=FD hla (.lst ((ks.map (·.z)).map V.int));have ps1:=ps.same s1;have M1:=M.same s1;have hlg1:=s1.get hlg;have hv1:=Rep.same s1 _ _ hv;generalize upd H la (.lst ((ks.map (·.z)).map V.int))=H1 at s1 wla ps1 M1 hlg1 hv1;subst eN
 try dsimp only
 refine Kh (λσ' H'=>∃fa,σ'=[some (.ref p),some (.ref v),some (.ref d),some (.ref lg),some (.ref la),some (.ref fa),none,none]/\Dd P w H' d (C4 ks) es ep/\Fx ot H1 H'/\
  ((∃e∈ks,e.bk=b/\D0 m b0 e=true/\fa=e.ta/\PS Af Ab Aa H' p bo ds b0 n m ot ks)\/((∀e∈ks,AA e.bk=AA b->D0 m b0 e=true/\e.bk≠b)/\PS Af Ab Aa H' p bo ds b0 n m ot (ks++[⟨(ks.length:Int)+1,9,b,fa⟩]))\/
   ∃e∈ks,AA e.bk=AA b/\D0 m b0 e=false/\(∀e'∈ks,AA e'.bk=AA b->D0 m b0 e'=false->e.z<=e'.z)/\(∀e'∈ks,e'.bk=b->D0 m b0 e'=false)/\H' fa=some (.tup [.str (PySem.Str.ofString "lost"),.int e.z])/\PS Af Ab Aa H' p bo ds b0 n m ot ks)) (λN hN=>?_) ?_
 ·refine⟨_,rfl,_,rfl,?_⟩;dsimp only[D5,tC,ET,List.append_nil];refine Tq ps1 (by omega) hv1 ok hn (λe he eb er H2 s2=>?_) (λhne H2 ta ps2 fx2=>?_) (λe he hs er hmin hb a H2 s2 ha=>?_)
  ·exact hN _ _ ⟨e.ta,rfl,M1.same s2,An.fx s2,.inl ⟨e,he,eb,er,rfl,ps1.same s2⟩⟩
  ·exact hN _ _ ⟨ta,rfl,fx2.dd M1,fx2,.inr (.inl ⟨hne,ps2⟩)⟩
  ·exact hN _ _ ⟨a,rfl,M1.same s2,An.fx s2,.inr (.inr ⟨e,he,hs,er,hmin,hb,ha,ps1.same s2⟩)⟩
 rintro σ' H2 ⟨fa,rfl,M2,fx2,cas⟩
 try dsimp only
 refine AN λN eN=>?_
 have hv2:Rep NL H2 (Bh b) (.ref v):=DA (λc ys h=>fx2.tup h) _ _ hv1;refine⟨_,rfl,_,b,rfl,hv2,ok,λH3 s3=>?_⟩;subst eN
 try dsimp only
 refine AN λN eN=>?_
 have M3:=M2.same s3;have hlg3:=s3.get (fx2.lst hlg1);have wla3:=s3.get (fx2.lst wla);have kin:∀e∈ks,H3 e.ta=some (.tup [.int e.z,.int e.y,.int (AA e.bk)]):=λe he=>s3.get (fx2.tup (ps1.in he).2.1)
 have lk:(A4 es).length=ks.length:=by rw[EH M];unfold C4;rw[bE]
 have pm1:(ks.zip (A4 es)).map Prod.snd=A4 es:=List.map_snd_zip (by omega);have pm2:(ks.zip (A4 es)).map Prod.fst=ks:=List.map_fst_zip (by omega);refine⟨_,rfl,d,C4 ks,es,ep,rfl,M3,?_⟩;refine TB (ps:=ks.zip (A4 es)) (g:=Prod.snd) (λx=>decide (AA x.1.bk=AA b)&&decide (x.1.z∈gs)) (λx=>.int x.1.z) (by rw[pm1];exact Vr M3) (by rw[List.length_zip];omega) (λx hx H' R s' hR=>?_) (λx hx hp H' R s' hR=>?_) λll H4 nll s4 hll=>?_
 ·obtain⟨i,hi⟩:=cL hx;obtain⟨h1,h2⟩:=gh.mp hi;obtain⟨pk,kb,hpk,hkb,hbx⟩:=Fv M3 h2;unfold C4 at hpk;rw[bQ,h1] at hpk;cases hpk;have he:=bJ h1;have M':=M3.same s';refine Uy (decide (V.int (AA x.1.bk)=V.int (AA b))) (Us (.int x.1.z) (gs.map V.int)) (λR' hR'=>⟨_,rfl,_,rfl,d,C4 ks,es,ep,Bh x.1.bk,kb,.ref x.1.ta,rfl,hkb,M',hbx.keep (λc ys e=>s'.get e),Di M'.n he,x.1.ta,_,_,_,rfl,rfl,AS.of (s'.get (kin _ he)),rfl,_,rfl,rfl,_,rfl,hR'⟩) (λ_ R' hR'=>⟨_,rfl,_,rfl,d,C4 ks,es,ep,Bh x.1.bk,kb,.ref x.1.ta,rfl,hkb,M',hbx.keep (λc ys e=>s'.get e),Di M'.n he,x.1.ta,_,_,_,rfl,rfl,AS.of (s'.get (kin _ he)),rfl,_,rfl,lg,_,rfl,.inl (AQ.of (s'.get hlg3)),rfl,Gv gs,_,rfl,hR'⟩) ?_;rw[FN,IQ];exact hR
 ·obtain⟨i,hi⟩:=cL hx;obtain⟨h1,h2⟩:=gh.mp hi;obtain⟨pk,kb,hpk,hkb,hbx⟩:=Fv M3 h2;unfold C4 at hpk;rw[bQ,h1] at hpk;cases hpk;have he:=bJ h1;have M':=M3.same s';exact⟨_,rfl,_,rfl,d,C4 ks,es,ep,Bh x.1.bk,kb,.ref x.1.ta,rfl,hkb,M',hbx.keep (λc ys e=>s'.get e),Di M'.n he,x.1.ta,_,_,_,rfl,rfl,AS.of (s'.get (kin _ he)),rfl,hR _ (An.refl _)⟩
 have ell:((ks.zip (A4 es)).filter (λx=>decide (AA x.1.bk=AA b)&&decide (x.1.z∈gs))).map (λx=>V.int x.1.z)=((ks.filter λe=>decide (AA e.bk=AA b)&&decide (e.z∈gs)).map (·.z)).map V.int:=by
  rw[cw]
  conv=>rhs;rw[<-pm2]
  rw[List.filter_map,cw];rfl
 rw[ell] at hll;have M4:=M3.same s4;have hlg4:=s4.get hlg3;have wla4:=s4.get wla3;have s24:=s3.trans s4;have x4:DdX H4 (Bh b) v:=X9 ok (DA (λc ys h=>s24.get h) _ _ hv2);have kin4:∀e∈ks,H4 e.ta=some (.tup [.int e.z,.int e.y,.int (AA e.bk)]):=λe he=>s4.get (kin e he)
 have f14:Fx ot H H4:=(An.fx s1).trans (fx2.trans (An.fx s24));subst eN;dsimp only[FA,OI,P8];rcases cas with⟨e,he,eb,er,rfl,ps2⟩|⟨hne,ps2⟩|⟨e,he,hs,er,hmin,hb,hfa,ps2⟩
 ·have ps4:=ps2.same s24;have dv:DV (C4 ks) (Bh b)=some (.ref e.ta):=by rw[<-eb];exact Di M.n he
  have ez:e.z∉gs:=λz=>by rw[rg e he,bM z] at er;cases er
  obtain⟨dx4,b4,dt4,dz4,dd4,n4,hp4⟩:=ps4.ins;have re:Rep NL H4 (.tup [.int e.z,.int e.y,.int (AA e.bk)]) (.ref e.ta):=⟨e.ta,_,rfl,kin4 e he,_,_,rfl,rfl,_,_,rfl,rfl,_,_,rfl,rfl,rfl⟩
  refine⟨_,rfl,_,rfl,d,C4 ks,es,ep,Bh b,v,rfl,rfl,M4,x4,_,rfl,Bs (by rw[dv];rfl) ?_⟩;refine⟨_,rfl,_,rfl,d,C4 ks,es,ep,Bh b,v,.ref e.ta,rfl,rfl,M4,x4,dv,e.ta,_,_,_,rfl,rfl,AS.of (kin4 e he),rfl,_,rfl,lg,_,rfl,.inl (AQ.of hlg4),rfl,Gv gs,_,rfl,Bs ?_ ?_⟩
  ·show(!Us (.int e.z) (gs.map V.int))=true;rw[IQ,bL ez];rfl
  refine⟨_,rfl,_,rfl,_,rfl,d,C4 ks,es,ep,Bh b,v,.ref e.ta,rfl,rfl,M4,x4,dv,[.int e.z,.int e.y,.int (AA e.bk)],NL,NL,(by show max 1 (max 1 (max 1 0))<=99;decide),re,re,_,rfl,Bs rfl ?_⟩;refine⟨_,rfl,p,dx4,_,rfl,hp4,rfl,?_⟩;dsimp only[D5,tC,ET,List.append_nil];refine ON ps4 (by omega) λl5 hl5=>?_
  have s5:=Am hl5 (.lst ((ks.map (·.z)).map V.int));refine⟨_,rfl,l5,la,_,_,rfl,rfl,AQ.of Ae,AQ.of (s5.get wla4),Cw _,Cw _,?_⟩;show Q (.bl (decide (_=_))) _;rw[bM rfl];exact q _ ks es ep (ps4.same s5) (M4.same s5) (λ_ h=>h) (by omega) (λ_=>rfl) rg (Fx.fy (f14.trans (An.fx s5)))
 ·have ps4:=ps2.same s24;have nb:∀e∈ks,e.bk≠b:=λe he z=>(hne e he (by rw[z])).2 z
  have dv:=Me nb;have fll:ks.filter (λe=>decide (AA e.bk=AA b)&&decide (e.z∈gs))=[]:=List.filter_eq_nil_iff.mpr λe he z=>by
   rw[cu,cz,cz] at z;have:=(hne e he z.1).1;rw[rg e he,bM z.2] at this;cases this
  rw[fll] at hll;have zin:∀e∈ks,e.z<=(ks.length:Int):=λe he=>(ps1.zin he).2
  have hfa4:H4 fa=some (.tup [.int ((ks.length:Int)+1),.int 9,.int (AA b)]):=(ps4.in (cj.mpr (.inr (bS.mpr rfl)))).2.1;refine⟨_,rfl,_,rfl,d,C4 ks,es,ep,Bh b,v,rfl,rfl,M4,x4,_,rfl,AE (by rw[dv];rfl) (AE rfl ?_)⟩;dsimp only[L1,OI,P8];refine⟨_,rfl,Mn,λe0 he0=>?_⟩;have s5:=Am he0 (.lst []);refine⟨ll,e0,_,_,rfl,rfl,AQ.of (s5.get hll),AQ.of Ae,rfl,rfl,_,rfl,AE rfl ?_⟩;have M5:=M4.same s5;have ps5:=ps4.same s5;refine⟨_,rfl,_,rfl,_,rfl,d,C4 ks,es,ep,Bh b,v,rfl,rfl,M5,x4.keep (λc ys h=>s5.get h),BU (by unfold C4;rw[bE];omega),λes6 ep6 H6 k6 M6=>?_⟩;rw[RT nb ((ks.length:Int)+1) 9 fa] at M6;have ps6:=ps5.but M5 ⟨_,M6.o⟩ k6;have kl6:=Dd.kl M5 k6;have hfa6:=kl6.2 _ _ (s5.get hfa4);have wla6:=kl6.1 _ _ (s5.get wla4);refine⟨_,rfl,_,rfl,fa,_,rfl,AS.of hfa6,(show ¬(HT.CD 3 0 (some 1)=0/\HT.CD 3 3 none=3) by decide),λt7 ht7=>?_⟩;have s7:=Am ht7 (.tup [.int 9,.int (AA b)]);refine⟨_,rfl,Jd,λt8 ht8=>?_⟩;have s8:=Am ht8 (.tup [.int 9,.int (AA b)]);have s78:=s7.trans s8;refine⟨[.int 9,.int (AA b)],NL,NL,(by show max 1 (max 1 0)<=99;decide),⟨t7,_,rfl,s8.get Ae,_,_,rfl,rfl,_,_,rfl,rfl,rfl⟩,⟨t8,_,rfl,Ae,_,_,rfl,rfl,_,_,rfl,rfl,rfl⟩,_,rfl,Bs rfl ?_⟩;have ni:((ks.length:Int)+1)∉ks.map (·.z):=λz=>by
   obtain⟨e,he,hz⟩:=bK.mp z;have:=zin e he;omega
  refine⟨_,rfl,fa,_,_,_,rfl,rfl,AS.of (s78.get hfa6),rfl,_,rfl,la,_,rfl,.inl (AQ.of (s78.get wla6)),rfl,Gv _,_,rfl,Bs ?_ ?_⟩
  ·show(!Us (.int ((ks.length:Int)+1)) ((ks.map (·.z)).map V.int))=true;rw[IQ,bL ni];rfl
  have ps8:=ps6.same s78;obtain⟨dx8,b8,dt8,dz8,dd8,n8,hp8⟩:=ps8.ins;refine⟨_,rfl,p,dx8,_,rfl,hp8,rfl,?_⟩;dsimp only[D5,tC,ET,List.append_nil];refine ON ps8 (by rw[bW];show ks.length+1<=1000;omega) λl9 hl9=>?_
  have s9:=Am hl9 (.lst (((ks++[(⟨(ks.length:Int)+1,9,b,fa⟩:Sk)]).map (·.z)).map V.int));have w9:=FD hl9 (.lst (((ks++[(⟨(ks.length:Int)+1,9,b,fa⟩:Sk)]).map (·.z)).map V.int));have s79:=s78.trans s9;have ps9:=ps8.same s9;generalize upd _ l9 (.lst (((ks++[(⟨(ks.length:Int)+1,9,b,fa⟩:Sk)]).map (·.z)).map V.int))=H9 at s9 w9 s79 ps9;refine⟨_,rfl,_,rfl,fa,_,_,_,rfl,rfl,AS.of (s79.get hfa6),rfl,WK,λla1 hla1=>?_⟩;have s10:=Am hla1 (.lst [V.int ((ks.length:Int)+1)]);refine⟨la,la1,_,_,rfl,rfl,AQ.of (s10.get (s79.get wla6)),AQ.of Ae,small (by rw[bE,bE];show ks.length+1<=1000000;omega),λla2 hla2=>?_⟩;have s11:=Am hla2 (.lst ((ks.map (·.z)).map V.int++[V.int ((ks.length:Int)+1)]));have eap:(ks.map (·.z)).map V.int++[V.int ((ks.length:Int)+1)]=(((ks++[(⟨(ks.length:Int)+1,9,b,fa⟩:Sk)]).map (·.z)).map V.int):=by rw[cg,cg];rfl
  have w11:=FD hla2 (.lst ((ks.map (·.z)).map V.int++[V.int ((ks.length:Int)+1)]));rw[eap] at w11 s11 ⊢;have s911:=s10.trans s11;have ps11:=ps9.same s911;refine⟨la2,_,rfl,AQ.of w11,by rw[bE,bW];show ks.length+1<64;omega,λms l12 pm so hl12=>?_⟩;obtain rfl:ms=(ks++[(⟨(ks.length:Int)+1,9,b,fa⟩:Sk)]).map (·.z):=IL pm so ps11.up;have s12:=Am hl12 (.lst (((ks++[(⟨(ks.length:Int)+1,9,b,fa⟩:Sk)]).map (·.z)).map V.int));refine⟨l9,l12,_,_,rfl,rfl,AQ.of (s12.get (s911.get w9)),AQ.of Ae,Cw _,Cw _,?_⟩;show Q (.bl (decide (_=_))) _;rw[bM rfl];have sfin:=(s79.trans s911).trans s12;refine q _ _ es6 ep6 (ps11.same s12) (M6.same sfin) (λ_ h=>cj.mpr (.inl h)) (by rw[bW];exact bI _) (λ⟨e,he,z⟩=>absurd z (nb e he)) (λe he=>?_) (((Fx.fy (f14.trans (An.fx s5))).trans (Yq k6)).trans (Fx.fy (An.fx sfin)));rcases cj.mp he with he|he
  ·exact rg e he
  ·rw[bS.mp he];have:=ps.m;have ng:((ks.length:Int)+1)∉gs:=λz=>by have:=gm _ z;omega
   unfold D0;rw[bL ng,bM (show(m:Int)<(ks.length:Int)+1 by omega)];rfl
 ·have ps4:=ps2.same s24;have hfa4:=s24.get hfa;have hg:∀e∈ks,D0 m b0 e=false->e.z∈gs:=λe he z=>by
   rw[rg e he] at z;exact cX (by simpa using z)
  obtain⟨c,dd,hc,hcd,hce⟩:∃c dd,(DV (C4 ks) (Bh b)).isSome=c/\(c&&dd)=false/\(c=true->∃e'∈ks,e'.bk=b/\dd = !Us (.int e'.z) (gs.map V.int)):=by
   by_cases h:∃e'∈ks,e'.bk=b
   ·obtain⟨e',he',eb'⟩:=h;have:=hg e' he' (hb e' he' eb');refine⟨true,!Us (.int e'.z) (gs.map V.int),by rw[<-eb',Di M.n he'];rfl,by rw[IQ,bM this];rfl,λ_=>⟨e',he',eb',rfl⟩⟩
   ·exact⟨false,false,by rw[Me λe' he' z=>h ⟨e',he',z⟩];rfl,rfl,λz=>by cases z⟩
  refine Uy c dd (λR hR=>⟨_,rfl,_,rfl,d,C4 ks,es,ep,Bh b,v,rfl,rfl,M4,x4,_,rfl,by rw[hc];exact hR⟩) (λh R hR=>?_) ?_
  ·obtain⟨e',he',eb',rfl⟩:=hce h;have dv:DV (C4 ks) (Bh b)=some (.ref e'.ta):=by rw[<-eb'];exact Di M.n he'
   exact⟨_,rfl,_,rfl,d,C4 ks,es,ep,Bh b,v,.ref e'.ta,rfl,rfl,M4,x4,dv,e'.ta,_,_,_,rfl,rfl,AS.of (kin4 e' he'),rfl,_,rfl,lg,_,rfl,.inl (AQ.of hlg4),rfl,Gv gs,_,rfl,hR⟩
  rw[hcd];refine AE rfl ?_;dsimp only[L1,OI,P8];have min_:e.z∈(ks.filter λe=>decide (AA e.bk=AA b)&&decide (e.z∈gs)).map (·.z):=bK.mpr ⟨e,dI.mpr ⟨he,by rw[bM hs,bM (hg e he er)];rfl⟩,rfl⟩;have nne:(ks.filter λe=>decide (AA e.bk=AA b)&&decide (e.z∈gs)).map (·.z)≠[]:=λz=>by rw[z] at min_;cases min_
  refine⟨_,rfl,Mn,λe0 he0=>?_⟩;have s5:=Am he0 (.lst []);refine⟨ll,e0,_,_,rfl,rfl,AQ.of (s5.get hll),AQ.of Ae,Cw _,rfl,_,rfl,Bs ?_ ?_⟩
  ·show(!decide (((ks.filter λe=>decide (AA e.bk=AA b)&&decide (e.z∈gs)).map (·.z)).map V.int=[]))=true;rw[bL λz=>nne (List.map_eq_nil_iff.mp z)];rfl
  refine⟨_,rfl,_,rfl,ll,_,rfl,AQ.of (s5.get hll),nne,λmm hmm hle=>?_⟩;have em:mm=e.z:=by
   obtain⟨e',he',rfl⟩:=bK.mp hmm;obtain⟨h1,h2⟩:=dI.mp he';rw[cu,cz,cz] at h2;have a1:=hle _ min_;have a2:=hmin e' h1 h2.1 (by rw[rg e' h1,bM h2.2];rfl);omega
  subst em;refine⟨Jd,λt6 ht6=>?_⟩;have s6:=Am ht6 (.tup [.str (PySem.Str.ofString "lost"),.int e.z]);have s56:=s5.trans s6;refine⟨[.str (PySem.Str.ofString "lost"),.int e.z],NL,NL,(by show max 1 (max 1 0)<=99;decide),⟨fa,_,rfl,s56.get hfa4,_,_,rfl,rfl,_,_,rfl,rfl,rfl⟩,⟨t6,_,rfl,Ae,_,_,rfl,rfl,_,_,rfl,rfl,rfl⟩,_,rfl,Bs rfl ?_⟩;have ps6:=ps4.same s56;obtain⟨dx8,b8,dt8,dz8,dd8,n8,hp8⟩:=ps6.ins;refine⟨_,rfl,p,dx8,_,rfl,hp8,rfl,?_⟩;dsimp only[D5,tC,ET,List.append_nil];refine ON ps6 (by omega) λl9 hl9=>?_
  have s9:=Am hl9 (.lst ((ks.map (·.z)).map V.int));refine⟨_,rfl,l9,la,_,_,rfl,rfl,AQ.of Ae,AQ.of (s9.get (s56.get wla4)),Cw _,Cw _,?_⟩;show Q (.bl (decide (_=_))) _;rw[bM rfl];exact q _ ks es ep (ps6.same s9) (M4.same (s56.trans s9)) (λ_ h=>h) (by omega) (λ_=>rfl) rg (Fx.fy (f14.trans (An.fx (s56.trans s9))))
end
open M06
section
variable {P:Program}{w:World}{K:W.Frag}{mg:Str->Option Value}{base:Heap}{f Ac Aa Ab Af:Addr}{XC:Nat->Addr}{fd:FuncData}
theorem made {C:Addr}{H1 H2:Hp}{x dx:Addr}(nx:H1 x=none)(ndx:H1 dx=none)(k:∀b o,(upd (upd H1 dx (.own x)) x (.ins C dx [])) b=some o->b≠x->H2 b=some o):An H1 H2:=λb o e=>by
 have n1:b≠x:=Ar e nx;have n2:b≠dx:=Ar e ndx;exact k b o (by rw[Ag n1,Ag n2];exact e) n1
def Z0:V->Addr
 | .ref r=>r
 |_=>0
theorem Xc {ys:List V}{R:Addr->Prop}(h:∀(i:Nat) y,ys[i]?=some y->∃r,y=.ref r/\R r):∃rs:List Addr,ys=rs.map V.ref/\∀r∈rs,R r:=by
 refine⟨ys.map Z0,?_,λr hr=>?_⟩
 ·rw[cw];refine(iU ys).symm.trans (dB λy hy=>?_);obtain⟨i,hi⟩:=cL hy;obtain⟨r,rfl,_⟩:=h i y hi;rfl
 ·obtain⟨y,hy,rfl⟩:=bK.mp hr;obtain⟨i,hi⟩:=cL hy;obtain⟨r,rfl,hr2⟩:=h i y hi;exact hr2
theorem Fy.bAt {C:Addr}{ot:List Addr}{d:Addr}{H H':Hp}{p:Addr}{ds:List Addr}{bs:List BQ}{n:Int}{lf:V}{P:Program}{w:World}{kvs:List (Tr×V)}{es:Array DictEntry}{ep:Nat}(M:Dd P w H d kvs es ep)(h:Fy ot d H H')(B:C2 C H p ds bs n lf)(hp:p∈ot)(hd:∀d∈ds,d∈ot):C2 C H' p ds bs n lf:=by
 obtain⟨dx,s0,h1,_⟩:=id B;refine B.frm λa o e k=>h a o e (λz=>?_) ?_
 ·subst z;rcases k with rfl|k|⟨xs,rfl⟩
  ·rw[h1] at e;cases e;have:=M.o;rw[h1] at this;cases this
  ·exact B.notin M.o (by intro kvs z;cases z) k
  ·rw[M.o] at e;cases e
 ·rcases k with rfl|k|⟨xs,rfl⟩
  ·exact .inl hp
  ·exact .inl (hd a k)
  ·exact .inr ⟨(by intro C d fs z;cases z),(by intro kvs z;cases z)⟩
theorem Fy.lst {ot:List Addr}{d:Addr}{H H':Hp}{P:Program}{w:World}{kvs:List (Tr×V)}{es:Array DictEntry}{ep:Nat}(M:Dd P w H d kvs es ep)(h:Fy ot d H H'){a:Addr}{xs:List V}(e:H a=some (.lst xs)):H' a=some (.lst xs):=h a _ e (λz=>by rw[z,M.o] at e;cases e) (.inr ⟨(by intro C d fs z;cases z),(by intro kvs z;cases z)⟩)
theorem Fy.tup {ot:List Addr}{d:Addr}{H H':Hp}{P:Program}{w:World}{kvs:List (Tr×V)}{es:Array DictEntry}{ep:Nat}(M:Dd P w H d kvs es ep)(h:Fy ot d H H'){a:Addr}{xs:List V}(e:H a=some (.tup xs)):H' a=some (.tup xs):=h a _ e (λz=>by rw[z,M.o] at e;cases e) (.inr ⟨(by intro C d fs z;cases z),(by intro kvs z;cases z)⟩)
theorem Qv (ns:List Int):∃ks:List Int,FI (ns.map V.int) (some 1) (some 13)=ks.map V.int/\ks.length<=12:=by
 unfold FI;rw[<-hG,<-g9];refine⟨_,rfl,?_⟩;rw[cG,eS,show(1:Int)=((1:Nat):Int) from rfl,show(13:Int)=((13:Nat):Int) from rfl,HT.LB,HT.LB,bE];omega
theorem aU:∀k:Nat,k<2->Tx (PySem.Txt.slice (PySem.Str.ofString "z") none (some (k:Int))) 1:=by decide +kernel
theorem Ya {C:Addr}{H:Hp}{p:Addr}{ds:List Addr}{bs:List BQ}{n:Int}{lf:V}{b:Nat}{z:Int}{Q:VK}{E:Value->Option Addr->Hp->Prop}(hB:C2 C H p ds bs n lf)(hb:b<bs.length)(q:∀v H',An H H'->Rf H' (Bl (bs.getD b []) z) v->Q v H'):Cd K C [.ref p,.int (b:Int),.int z] H Q E:=
 ⟨p,ds,bs,n,lf,b,z,rfl,hB,hb,(λh=>q .non H (An.refl _) (by rw[h];rfl)),λrow h l hl=>q (.ref l) _ (Am hl _) (by rw[h];exact⟨l,rfl,Ae⟩)⟩
theorem PS.lies {CP CT CB:Addr}{H:Hp}{p bo:Addr}{ds ot:List Addr}{b0:List BQ}{n:Int}{m:Nat}{ks:List Sk}(h:PS CP CT CB H p bo ds b0 n m ot ks){e:Sk}(he:e∈ks)(hz:e.z<=(m:Int)):Lies b0 e.z e.y e.bk:=by
 obtain⟨q,cs,bs,rfl,rfl,rfl,h4,h5,h6⟩:=h;obtain⟨x,hx,rfl⟩:=bK.mp he;exact h4.i x hx hz
theorem PS.inj {CP CT CB:Addr}{H:Hp}{p bo:Addr}{ds ot:List Addr}{b0:List BQ}{n:Int}{m:Nat}{ks:List Sk}(h:PS CP CT CB H p bo ds b0 n m ot ks):∀e∈ks,∀e'∈ks,e.z=e'.z->e=e':=λe he e' he' hz=>by
 obtain⟨i,hi⟩:=cL he;obtain⟨j,hj⟩:=cL he';have h1:=h.z i e hi;have h2:=h.z j e' hj;obtain rfl:i=j:=by omega
 rw[hi] at hj;exact bO hj
noncomputable def Lm (gs:List Int) (e:Sk):Tr:=if e.z∈gs then Z4 e.z else Bh e.bk
theorem W5 {z:Int}(h0:0<=z)(h1:z<=999999999):ES 8 (Z4 z)=true:=by
 show(decide (2<=100)&&(ES 7 (.str (PySem.Str.ofString "lost"))&&((decide (0<=z)&&decide (z<=999999999))&&true)))=true;rw[bM h0,bM h1,show ES 7 (.str (PySem.Str.ofString "lost"))=true by decide +kernel];rfl
theorem Xi {gs:List Int}{e:Sk}(ok:Ds e.bk)(nb:MB e.z e.y):ES 8 (Lm gs e)=true:=by
 unfold Lm
 split
 ·exact W5 nb.1.1 nb.1.2
 ·exact FW ok
theorem T3 {CP CT CB:Addr}{H:Hp}{p bo:Addr}{ds ot:List Addr}{b0:List BQ}{n:Int}{m:Nat}{ks:List Sk}{K:W.Frag}{v:V}{e:Sk}{gs:List Int}{Q:VK}{E:Value->Option Addr->Hp->Prop}(h:PS CP CT CB H p bo ds b0 n m ot ks)(few:ks.length<=1000)(he:e∈ks)(rg:D0 m b0 e = !decide (e.z∈gs))(q:∀v H',An H H'->Rep NL H' (Lm gs e) v->Q v H'):BX K CP CT CB [.ref p,v,.ref e.ta] H Q E:=by
 refine Tz h few he (λhr v H' s' rv=>q v H' s' ?_) (λhr a H' s' ha=>q _ H' s' ?_)
 ·rw[rg] at hr;have:e.z∉gs:=λz=>by rw[bM z] at hr;cases hr
  unfold Lm;rw[bP this];exact rv
 ·rw[rg] at hr;have:e.z∈gs:=cX (by simpa using hr);unfold Lm;rw[bV this];exact⟨a,_,rfl,ha,_,_,rfl,rfl,_,_,rfl,rfl,rfl⟩
def Ot (K:W.Frag):Sp:=λvs H Q _=>∃(a:Addr) (ns:List Int),vs=[.ref a]/\AQ K H a (ns.map V.int)/\ns.length<=63/\∀H',Q (.bl true) H'
theorem YN (T:Txt K mg Ac Aa Ab Af XC)(F:Fun K "law" "law" Kc f fd)(CO:MZ P w K mg base 3 Aa "Boards" ["self","many"] (D7 K Aa))(Ii:MZ P w K mg base 1 Af "Pool" ["self","boards"] (G7 K Af))(GT:Def P w K mg base 20 "_law_known" ["_law_pool","_law_rows"] (Gb K Af Ab Aa P w))(Fk:A9 P w K mg base 5 Aa "again" ["self"] (EW K Aa))(FX:Def P w K mg base 5 "_law_spoilt" ["_law_boards","_law_kept","_law_known_here","_law_rows"] (FH K Aa P w))(Dt:A9 P w K mg base 1 Aa "written" ["self"] (Eb K Aa))(Jz:Def P w K mg base 1 "_law_row" ["_law_cell","_law_many"] (HN K))(AU:A9 P w K mg base 1 Aa "many" ["self"] (Ce K Aa))(E9:Def P w K mg base 21 "_law_right" ["_law_pool","_law_block","_law_known_here","_law_gone"] (Gn K Af Ab Aa P w))(Ba:A9 P w K mg base 4 Aa "spoil" ["self","board","number","row"] (CC K Aa))(FF:Def P w K mg base 1 "_law_cell_at" ["_law_script","_law_k"] (EX K))(Dj:Def P w K mg base 20 "_law_tried" ["_law_pool","_law_block","_law_tag"] (BX K Af Ab Aa))(DY:Def P w K mg base 2 "_law_pair" ["_law_row_here"] (E6 K))(Bp:A9 P w K mg base 4 Aa "cell" ["self","board","number"] (Cd K Aa))(BA:Hw P w K mg base 17 Af "block" ["self","tag"] (CS K Af Ab Aa XC))(BY:Hw P w K mg base 19 Af "put" ["self","block","birth"] (C3 K Af Ab Aa XC)):FnOk P w K mg base CG 22 f fd ["_law_script"] (Ot K):=by
 exists Dw
 ·obtain⟨a,ns,rfl,_⟩:=h;rfl
 obtain⟨a,ns,rfl,hS,hlen,q⟩:=h;have hu:=Dy hr;have hu9:=KL hr;refine⟨_,(!Ai (@AB _ _ (1) _ _ _ _ Dw.nd rfl (by trivial) (!MH CO (by trivial) rfl (!Ad (!AC DF (!Ak) (!AC BP (!AO FF (by trivial) rfl (!Ad (pv 0) (!Ad (!Ak) (!Aj)))) (!Ak))) (!Aj))) (by rfl) (by trivial)) (!Ai (@AB _ _ (2) _ _ _ _ Dw.nd rfl (by trivial) (!MH Ii (by trivial) rfl (!Ad (pv 1) (!Aj))) (by rfl) (by trivial)) (!Ai (@LZ _ ["_law_cell"] (3) _ _ _ _ _ _ _ _ _ _ _ _ _ Dw.nd rfl (by trivial) rfl (!Cy (!D9 Om (pv 0) (!EK (!Ak)) (!EK (!Ak)))) (by decide +kernel) (λC s H fp=>⟨(@As _ _ (0) _ (show(["_law_cell"]:List Str).Nodup by decide +kernel) rfl (by trivial) (by trivial)),(!AY),(!AO Jz (by trivial) rfl (!Ad (pv 0) (!Ad (!Ak) (!Aj))))⟩) (by intro _;rfl) (by rfl) (by trivial)) (!Ai (@AB _ _ (4) _ _ _ _ Dw.nd rfl (by trivial) (!AO GT (by trivial) rfl (!Ad (pv 2) (!Ad (pv 3) (!Aj)))) (by rfl) (by trivial)) (!Ai (@AB _ _ (5) _ _ _ _ Dw.nd rfl (by trivial) (!Dg (MI (P:=P) (w:=w) (by rfl) (by rfl) rfl) (by rfl) T.b_list IM (!Ad (pv 4) (!Aj))) (by rfl) (by trivial)) (!Ai (@AB _ _ (6) _ _ _ _ Dw.nd rfl (by trivial) (!Cb (pv 1) T.cl_Boards Fk) (by rfl) (by trivial)) (!Ai (@AB _ _ (7) _ _ _ _ Dw.nd rfl (by trivial) (!AO FX (by trivial) rfl (!Ad (pv 1) (!Ad (pv 6) (!Ad (pv 4) (!Ad (pv 3) (!Aj)))))) (by rfl) (by trivial)) (!Ai (@AB _ _ (8) _ _ _ _ Dw.nd rfl (by trivial) (!Cb (pv 1) T.cl_Boards Dt) (by rfl) (by trivial)) (!Ai (!BM cF rfl (!Cy (pv 5)) (@As _ _ (9) _ Dw.nd rfl (by trivial) (by trivial)) (!Ai (@AB _ _ (10) _ _ _ _ Dw.nd rfl (by trivial) (pv 9) (by rfl) (by trivial)) (!Ai (!AR (!AI NC (!Au Az (@BI _ (P) (w) _ _ _ _ _ (by rfl) (by rfl) hu9 (pv 4) (pv 9) (λ_ _=>rfl)) (!Ak) (λ_ _=>rfl)) (pv 7)) (!Al (@AB _ _ (10) _ _ _ _ Dw.nd rfl (by trivial) (!C6 (!Ad (!HI) (!Ad (!Au Az (@BI _ (P) (w) _ _ _ _ _ (by rfl) (by rfl) hu9 (pv 4) (pv 9) (λ_ _=>rfl)) (!Ak) (λ_ _=>rfl)) (!Aj)))) (by rfl) (by trivial))) (!Ay)) (!Al (!AR (@PW.pt _ _ _ (!GG (!AI (XH hu9) (!AO Dj (by trivial) rfl (!Ad (pv 2) (!Ad (pv 9) (!Ad (@BI _ (P) (w) _ _ _ _ _ (by rfl) (by rfl) hu9 (pv 4) (pv 9) (λ_ _=>rfl)) (!Aj))))) (pv 10) (AG _)) (!Fq (!BZ (!Bz (!AO E9 (by trivial) rfl (!Ad (pv 2) (!Ad (pv 9) (!Ad (pv 4) (!Ad (pv 7) (!Aj)))))) (by intro _;rfl)))))) (!Al (!Aq (!Hv))) (!Ay))))) (by intro _;rfl)) (!Ai (!BM cF rfl (!Cy (pv 3)) (@As _ _ (11) _ Dw.nd rfl (by trivial) (by trivial)) (!Ai (@AB _ _ (12) _ _ _ _ Dw.nd rfl (by trivial) (!AC DJ (!Au Bm (!AO DY (by trivial) rfl (!Ad (pv 11) (!Aj))) (!Ak) (λ_ _=>rfl)) (!D9 VC (!HI) (!FP) (!EK (!AC BP (!Au Bm (pv 11) (!Ak) (λ_ _=>rfl)) (!Ak))))) (by rfl) (by trivial)) (!Al (!AR (!BZ (!Bz (!AO E9 (by trivial) rfl (!Ad (pv 2) (!Ad (!C6 (!Ad (!Ak) (!Ad (pv 12) (!Aj)))) (!Ad (pv 4) (!Ad (pv 7) (!Aj)))))) (by intro _;rfl))) (!Al (!Aq (!Hv))) (!Ay)))) (by intro _;rfl)) (!Ai (!BM cF rfl (!Gy rfl T.b_range (!Ad (!Cb (pv 1) T.cl_Boards AU) (!Aj))) (@As _ _ (13) _ Dw.nd rfl (by trivial) (by trivial)) (!Al (!BM cF rfl (!Cy (pv 5)) (@As _ _ (9) _ Dw.nd rfl (by trivial) (by trivial)) (!Al (!BN (!Bf (pv 1) T.cl_Boards Ba (by trivial) (!Ad (pv 13) (!Ad (!Au Az (@BI _ (P) (w) _ _ _ _ _ (by rfl) (by rfl) hu9 (pv 4) (pv 9) (λ_ _=>rfl)) (!Ak) (λ_ _=>rfl)) (!Ad (!Bf (pv 6) T.cl_Boards Bp (by trivial) (!Ad (pv 13) (!Ad (!Au Az (@BI _ (P) (w) _ _ _ _ _ (by rfl) (by rfl) hu9 (pv 4) (pv 9) (λ_ _=>rfl)) (!Ak) (λ_ _=>rfl)) (!Aj)))) (!Aj))))))) (by intro _;rfl))) (by intro _;rfl)) (!Ai (!AR (!AI RS (!Cb (pv 1) T.cl_Boards Dt) (pv 8) (AG _)) (!Al (!Aq (!Hv))) (!Ay)) (!Al (!Aq (!Av (IC rfl) (by rfl) T.b_all Mm (!Ad (@JT _ ["_law_block","_law_known_here","_law_pool"] [none,some 4,some 2] _ _ _ _ _ _ _ _ _ _ _ rfl (!Cy (pv 5)) (by rfl) rfl (by repeat (first|exact trivial|refine⟨rfl,?_⟩)) (by repeat (first|exact trivial|refine⟨λh=>(by first|exact⟨_,rfl⟩|cases h),?_⟩)) (λC s H fp=>⟨(@As _ _ (0) _ (show(["_law_block","_law_known_here","_law_pool"]:List Str).Nodup by decide +kernel) rfl (by trivial) (by trivial)),(!AY),(!EF (!BS (Q3 hu9) (!JX (pv 2) T.cl_Pool BA (by trivial) OG (!Ad (@BI _ (P) (w) _ _ _ _ _ (by rfl) (by rfl) hu9 (pv 1) (pv 0) (λ_ _=>rfl)) (!Aj))) (pv 0) (AG _)) (!Gf (!BS (Q3 hu9) (!JX (pv 2) T.cl_Pool BY (by trivial) OG (!Ad (pv 0) (!Ad (!Ak) (!Aj)))) (@BI _ (P) (w) _ _ _ _ _ (by rfl) (by rfl) hu9 (pv 1) (pv 0) (λ_ _=>rfl)) (AG _))))⟩) (by intro _;rfl)) (!Aj))))))))))))))))),?_⟩
 try dsimp only[Ca,Cx.nox,Cx.wish]
 refine AN λN eN=>?_
 refine⟨_,rfl,a,ns,0,rfl,by decide,hS,λc=>?_⟩;refine⟨_,_,rfl,rfl,(by show(0:Int)<3;decide),_,_,rfl,rfl,?_⟩;obtain⟨m,hm,m2,m4⟩:∃m:Nat,2+c%3=(m:Int)/\2<=m/\m<=4:=⟨(2+c%3).toNat,by omega,by omega,by omega⟩
 dsimp only[ET];rw[hm];intro xb dxb nxb ndxb _;refine⟨xb,dxb,m,rfl,m2,m4,Ae,λHB ds B1 n1 k1=>⟨rfl,?_⟩⟩;subst eN
 try dsimp only
 refine AN λN eN=>?_
 have sB:=made nxb ndxb k1;refine⟨_,rfl,?_⟩;intro x dx nx ndx _;refine⟨x,dx,xb,rfl,Ae,λdt dz dd H5 k2 e1 e2 e3 hdt hdz hdd hx fr3=>⟨rfl,?_⟩⟩;subst eN
 try dsimp only
 refine AN λN eN=>?_
 have s5:=made nx ndx k2;obtain⟨dxb',sh,hxb,hsh,hnd,hds⟩:=id B1;have pa5:PAt Af Ab H5 x ⟨dx,xb,dt,dz,dd,1,0⟩ [] []:=⟨⟨hx,hdt,(λ_ h=>nomatch h),dS⟩,hdd,bI _,⟨hdz,dS,dS,(λ_ h=>nomatch h),(λ_ h=>nomatch h)⟩,e1,e2,e3,dS,(λi e h=>by cases h),bI _,gQ _,(by show(1:Int)<=0+1;decide)⟩
 have fbn:∀a∈xb::ds,∃o,HB a=some o:=λa ha=>by
  rcases cf.mp ha with rfl|ha
  ·exact⟨_,hxb⟩
  ·obtain⟨kvs,h⟩:=B1.there a ha;exact⟨_,h⟩
 have apn:∀a∈xb::ds,a∉By x ⟨dx,xb,dt,dz,dd,1,0⟩ [] []:=λa ha=>by
  obtain⟨o,ho⟩:=fbn a ha;have n1:a≠x:=Ar ho nx;have n2:a≠dx:=Ar ho ndx;have ho':(upd (upd HB dx (.own x)) x (.ins Af dx [])) a=some o:=by rw[Ag n1,Ag n2];exact ho
  have nn:∀{d},(upd (upd HB dx (.own x)) x (.ins Af dx [])) d=none->a≠d:=λ{d} h z=>by rw[<-z,ho'] at h;cases h
  unfold By;simp only[List.map_nil,List.append_nil,List.mem_cons,List.not_mem_nil,or_false,not_or];exact⟨n1,nn fr3.1,nn fr3.2.1,nn fr3.2.2⟩
 have ps5:PS Af Ab Aa H5 x xb ds (List.replicate m []) 0 0 [] []:=⟨⟨dx,xb,dt,dz,dd,1,0⟩,[],[],rfl,rfl,rfl,⟨pa5,B1.same s5,by rw[eF];exact m2,(λ_ h=>nomatch h),(λ_ h=>nomatch h)⟩,⟨apn xb bZ,λd hd=>apn d (bY _ hd)⟩,λa ha=>nomatch ha⟩
 have hS5:=(sB.trans s5).seq hS;refine⟨_,rfl,_,rfl,_,rfl,a,_,rfl,hS5,λl1 hl1=>?_⟩;have s6:=Am hl1 (.lst (FI (ns.map V.int) (some 1) (some 13)));have w6:=FD hl1 (.lst (FI (ns.map V.int) (some 1) (some 13)));obtain⟨cl,ecl,lcl⟩:=Qv ns;rw[ecl] at s6 w6 ⊢;have ps6:=ps5.same s6;generalize upd H5 l1 (.lst (cl.map V.int))=H6 at s6 w6 ps6;refine⟨l1,rfl,⟨_,AQ.of w6⟩,?_⟩;refine LM (xs:=cl.map V.int) (λi H1 y H2=>∃r,y=.ref r/\H1 r=none/\Ij H2 r) (λi H1 y H2 H3 ⟨r,h1,h2,h3⟩ s'=>⟨r,h1,h2,h3.kl (An.kl s')⟩) (λi H1 y H2 l us us' ws ⟨r,h1,h2,ns',h3,h4⟩ hl hl'=>⟨r,h1,h2,ns',by rw[Ag (λz=>by rw[z,hl] at h2;cases h2)];exact h3,h4⟩) (KO (AQ.of w6)) (by rw[bE];omega) (λi y H' R hy s' hR=>?_) λlr H7 ys nlr s7 hlr ly hys=>?_
 ·obtain⟨z,rfl,hz⟩:=ints_get hy;exact⟨_,rfl,z,12,rfl,by decide,by decide,λr H2 row s2 nr hr2 lr br=>hR _ _ s2 ⟨r,rfl,nr,row,hr2,lr,br⟩⟩
 subst eN
 try dsimp only
 refine AN λN eN=>?_
 obtain⟨rs,rfl,hrs⟩:=Xc (R:=λr=>Ij H7 r) λi y hy=>by
  obtain⟨_,_,r,h1,_,h3⟩:=hys i y hy;exact⟨r,h1,h3⟩
 have lrs:rs.length<=12:=by rw[bE,bE] at ly;omega
 have ps7:=ps6.same s7;refine⟨_,rfl,_,rfl,?_⟩;dsimp only[D5,tC,ET,List.append_nil];refine⟨x,xb,ds,_,0,lr,rs,rfl,ps7,(λc hc=>gq hc),hlr,lrs,hrs,λH8 b1 n1 ks d es ep ps8 M8 nd8 lb1 cb1 la k8 kne kl tg0=>?_⟩;subst eN
 try dsimp only
 refine AN λN eN=>?_
 rw[eF] at lb1;have hlr8:=k8.1 _ _ hlr;have hrs8:∀r∈rs,Ij H8 r:=λr hr=>(hrs r hr).kl k8
 refine⟨_,rfl,d,C4 ks,es,ep,rfl,M8,λlb hlb=>?_⟩;subst eN
 try dsimp only
 refine AN λN eN=>?_
 have s9:=Am hlb (.lst (A4 es));have wlb:=FD hlb (.lst (A4 es));have ps9:=ps8.same s9;have M9:=M8.same s9;have hlr9:=s9.get hlr8;have hrs9:∀r∈rs,Ij _ r:=λr hr=>(hrs8 r hr).kl (An.kl s9)
 generalize upd H8 lb (.lst (A4 es))=H9 at s9 wlb ps9 M9 hlr9 hrs9;obtain⟨B9,_⟩:=ps9.bAt;obtain⟨dx9,sh9,hxb9,_⟩:=id B9;refine⟨_,rfl,xb,dx9,_,rfl,hxb9,rfl,xb,ds,b1,n1,.non,rfl,B9,by omega,by omega,λc hc=>(by have:=cb1 c hc;omega),λp2 ds2 H10 K10 np2 nds2 s10=>?_⟩;subst eN
 try dsimp only
 refine AN λN eN=>?_
 obtain⟨dxk,shk,hp2,_⟩:=id K10;have ps10:PS Af Ab Aa H10 x xb ds b1 n1 ks.length (p2::ds2) ks:=ps9.more s10 λb hb=>by
  rcases cf.mp hb with rfl|hb
  ·exact⟨np2,_,hp2⟩
  ·obtain⟨kvs,e⟩:=K10.there b hb;exact⟨nds2 b hb,_,e⟩
 have otn:∀b∈p2::ds2,b≠xb/\b∉ds:=λb hb=>by
  have nb:H9 b=none:=by
   rcases cf.mp hb with rfl|hb
   ·exact np2
   ·exact nds2 b hb
  refine⟨(λz=>by rw[z,hxb9] at nb;cases nb),λz=>?_⟩;obtain⟨kvs,e⟩:=B9.there b z;rw[e] at nb;cases nb
 have M10:=M9.same s10;have B10:=B9.same s10;have zinj:=ps8.inj;refine⟨_,rfl,_,rfl,_,rfl,_,rfl,?_⟩;dsimp only[D5,tC,ET,List.append_nil];refine⟨xb,p2,d,lr,ds,ds2,rs,b1,n1,ks,es,ep,rfl,B10,K10,(otn p2 bZ).1,λb hb=>(otn b (bY _ hb)).2,by omega,λc hc=>(by have:=cb1 c hc;omega),M10,kne,kl,λe he=>ps10.in he,zinj,la,s10.get hlr9,lrs,λr hr=>(hrs9 r hr).kl (An.kl s10),λH11 b2 g gs B11 k11 lb2 cb2 ng hg lg gz sp=>?_⟩;subst eN
 try dsimp only
 refine AN λN eN=>?_
 have ps11:PS Af Ab Aa H11 x xb ds b2 n1 ks.length (p2::ds2) ks:=ps10.boards k11 B11 (by omega) (λe he _=>(sp.lies (by omega) he (ps10.in he).1 (ps10.in he).2.2).1) otn;have K11:=K10.kept B10 k11 (otn p2 bZ).1 λb hb=>(otn b (bY _ hb)).2
 have M11:=Kb.dd B10 k11 M10;have wlb11:=Kb.lst B10 k11 (s10.get wlb);have hlr11:=Kb.lst B10 k11 (s10.get hlr9);have rg:∀e∈ks,D0 ks.length b2 e = !decide (e.z∈gs):=λe he=>by
  unfold D0;rw[bL (show ¬((ks.length:Int)<e.z) by have:=(ps10.zin he).2;omega),(sp.lies (by omega) he (ps10.in he).1 (ps10.in he).2.2).2];rfl
 have gm:∀z∈gs,z<=(ks.length:Int):=λz hz=>by
  obtain⟨e,he,rfl⟩:=gz z hz;exact(ps10.zin he).2
 obtain⟨dx11,sh11,hxb11,_⟩:=id B11;refine⟨_,rfl,xb,dx11,_,rfl,hxb11,rfl,xb,ds,b2,n1,.non,rfl,B11,?_⟩;subst eN
 try dsimp only
 refine AN λN eN=>?_
 refine⟨_,rfl,lb,rfl,⟨_,AQ.of wlb11⟩,CF (K:=K) (a:=lb) (xs:=A4 es) (λi σ H'=>∃es' ep' v9 v10,σ=[some (.ref a),some (.ref xb),some (.ref x),some (.ref lr),some (.ref d),some (.ref lb),some (.ref p2),some (.ref g),some (.int n1),v9,v10,none,none,none]/\PS Af Ab Aa H' x xb ds b2 n1 ks.length (p2::ds2) ks/\Dd P w H' d (C4 ks) es' ep'/\Fy (p2::ds2) d H11 H') ⟨es,ep,none,none,rfl,ps11,M11,Fx.fy (An.fx (An.refl _))⟩ (by rintro i σ H' _ ⟨_,_,_,_,_,_,_,fy⟩;exact AQ.of (Fy.lst M11 fy wlb11)) ?_ ?_⟩
 ·rintro i y σ H12 hy ⟨es',ep',v9,v10,rfl,ps12,M12,fy12⟩
  obtain⟨pk,kb,hpk,rfl,hbx⟩:=Fv M11 hy;unfold C4 at hpk;rw[bQ] at hpk;obtain⟨e,he,rfl⟩:=cm.mp hpk;have he:=bJ he;obtain⟨eok,eta,enb⟩:=ps12.in he;have hbx12:=hbx.keep (λc ys h=>Fy.tup M11 fy12 h);have rep12:Rep NL H12 (Bh e.bk) (.ref kb):=UV _ _ hbx12.p hbx12.r;have hg12:=Fy.lst M11 fy12 hg;have dv:=Di M12.n he;refine⟨_,rfl,?_⟩;dsimp only;refine Kh (λσ' H'=>∃du,σ'=[some (.ref a),some (.ref xb),some (.ref x),some (.ref lr),some (.ref d),some (.ref lb),some (.ref p2),some (.ref g),some (.int n1),some (.ref kb),some du,none,none,none]/\An H12 H'/\Rep NL H' (Lm gs e) du) (λN hN=>?_) ?_
  ·refine⟨_,rfl,_,rfl,d,C4 ks,es',ep',Bh e.bk,kb,.ref e.ta,rfl,rfl,M12,hbx12,dv,e.ta,_,_,_,rfl,rfl,AS.of eta,rfl,_,rfl,g,_,rfl,.inl (AQ.of hg12),rfl,Gv gs,_,rfl,IE (λh=>?_) (λh=>?_)⟩
   ·have h:Us (.int e.z) (gs.map V.int)=true:=h;rw[IQ,cz] at h;refine⟨_,rfl,_,rfl,d,C4 ks,es',ep',Bh e.bk,kb,.ref e.ta,rfl,rfl,M12,hbx12,dv,e.ta,_,_,_,rfl,rfl,AS.of eta,rfl,Jd,λtu htu=>?_⟩;refine hN _ _ ⟨.ref tu,rfl,Am htu _,?_⟩;unfold Lm;rw[bV h];exact⟨tu,_,rfl,Ae,_,_,rfl,rfl,_,_,rfl,rfl,rfl⟩
   ·have h:¬Us (.int e.z) (gs.map V.int)=true:=h;rw[IQ,cz] at h;refine hN _ _ ⟨.ref kb,rfl,An.refl _,?_⟩;unfold Lm;rw[bP h];exact rep12
  rintro σ' H13 ⟨du,rfl,s13,rdu⟩
  have M13:=M12.same s13;have ps13:=ps12.same s13;have hbx13:=hbx12.keep (λc ys h=>s13.get h);refine⟨_,rfl,_,rfl,_,rfl,_,rfl,d,C4 ks,es',ep',Bh e.bk,kb,.ref e.ta,rfl,rfl,M13,hbx13,dv,?_⟩;dsimp only[D5,tC,ET,List.append_nil];refine T3 ps13 (by omega) he (rg e he) λv14 H14 s14 rv14=>?_
  have it:=Xi (gs:=gs) eok enb;refine⟨_,rfl,Lm gs e,Lm gs e,it,it,rv14,Rep.same s14 _ _ rdu,_,rfl,AE ?_ ?_⟩
  ·show(!decide (wT (Lm gs e)=wT (Lm gs e)))=false;rw[bM rfl];rfl
  have s24:=s13.trans s14;refine⟨_,rfl,_,rfl,_,rfl,_,rfl,?_⟩;dsimp only[D5,tC,ET,List.append_nil];refine⟨x,xb,ds,b2,n1,ks.length,p2::ds2,ks,d,es',ep',kb,e.bk,g,gs,rfl,ps12.same s24,M12.same s24,by omega,Rep.same s24 _ _ rep12,eok,tg0 e he,s24.get hg12,lg,gm,rg,λH15 ks15 es15 ep15 ps15 M15 _ _ hk15 _ fy15=>⟨_,rfl,AE rfl ?_⟩⟩;have:=hk15 ⟨e,he,rfl⟩;subst this;exact⟨es15,ep15,_,_,rfl,ps15,M15,(fy12.trans (Fx.fy (An.fx s24))).trans fy15⟩
 rintro σ H12 ⟨es2,ep2,v9,v10,rfl,ps12,M12,fy12⟩
 have hlr12:=Fy.lst M11 fy12 hlr11;have hrs12:∀r∈rs,Ij H12 r:=λr hr=>by
  obtain⟨ns',h1,h2⟩:=(hrs9 r hr).kl (An.kl s10);exact⟨ns',Fy.lst M11 fy12 (Kb.lst B10 k11 h1),h2⟩
 have hg12:=Fy.lst M11 fy12 hg;have wlb12:=Fy.lst M11 fy12 wlb11;have K12:=Fy.bAt M11 fy12 K11 bZ λb hb=>bY _ hb
 subst eN
 try dsimp only
 refine AN λN eN=>?_
 refine⟨_,rfl,lr,rfl,⟨_,AQ.of hlr12⟩,CF (K:=K) (a:=lr) (xs:=rs.map V.ref) (λi σ H'=>∃ks' es' ep' v11 v12,σ=[some (.ref a),some (.ref xb),some (.ref x),some (.ref lr),some (.ref d),some (.ref lb),some (.ref p2),some (.ref g),some (.int n1),v9,v10,v11,v12,none]/\PS Af Ab Aa H' x xb ds b2 n1 ks.length (p2::ds2) ks'/\Dd P w H' d (C4 ks') es' ep'/\(∀e∈ks,e∈ks')/\ks'.length<=ks.length+i/\(∀e∈ks',D0 ks.length b2 e = !decide (e.z∈gs))/\Fy (p2::ds2) d H12 H') ⟨ks,es2,ep2,none,none,rfl,ps12,M12,(λ_ h=>h),bI _,rg,Fx.fy (An.fx (An.refl _))⟩ (by rintro i σ H' _ ⟨_,_,_,_,_,_,_,_,_,_,_,fy⟩;exact AQ.of (Fy.lst M12 fy hlr12)) ?_ ?_⟩
 ·rintro i y σ H13 hy ⟨ks3,es3,ep3,v11,v12,rfl,ps13,M13,in13,l13,rg13,fy13⟩
  rw[bQ] at hy;obtain⟨r,hr',rfl⟩:=cm.mp hy;have il:i<rs.length:=(bT.mp hr').1;obtain⟨ns',hns',nl',nb'⟩:=hrs12 r (bJ hr');have hns13:=Fy.lst M12 fy13 hns';have hg13:=Fy.lst M12 fy13 hg12;have b9:∃n9,ns'[9]?=some n9:=⟨ns'[9]'(by omega),bF _⟩
  obtain⟨n9,h9⟩:=b9;have n90:=nb' n9 (bJ h9);have a9:Mj (ns'.map V.int) ((9:Nat):Int)=some (V.int n9):=DD (by rw[bQ,h9];rfl);have t9:=aU (n9%2).toNat (by omega);rw[show(((n9%2).toNat:Nat):Int)=n9%2 by omega] at t9;refine⟨_,rfl,r,ns',rfl,hns13,nl',nb',λlp H14 z1 z2 s14 nlp hlp hz=>?_⟩;obtain⟨⟨z11,z17⟩,z1s⟩:=hz z1 (.inl rfl);have tz:Tx (z1++PySem.Txt.slice (PySem.Str.ofString "z") none (some (n9%2))) 8:=Tx.app (m:=7) (n:=1) ⟨z17,z1s⟩ t9;refine⟨lp,_,_,_,rfl,rfl,AQ.of hlp,DD (j:=0) rfl,_,rfl,r,_,_,_,rfl,rfl,AQ.of (s14.get hns13),a9,_,_,rfl,rfl,(show(0:Int)<2 by decide),_,rfl,_,rfl,small (by decide +kernel),_,_,rfl,rfl,small (by have:=t9.1;omega),?_⟩;have l1:1<=(z1++PySem.Txt.slice (PySem.Str.ofString "z") none (some (n9%2))).length:=by rw[EO];omega
  generalize z1++PySem.Txt.slice (PySem.Str.ofString "z") none (some (n9%2))=z at tz l1;have okb:Ds (.piece z):=by
   have:=tz.1;show(decide ((1:Int)<=(z.length:Int))&&decide ((z.length:Int)<=8)&&E5 SG z)=true;simp only[Bool.and_eq_true,decide_eq_true_eq];exact⟨⟨by omega,by omega⟩,cO.mpr λc hc=>bM (tz.2 c hc)⟩
  refine⟨_,rfl,_,rfl,Jd,λtv htv=>⟨_,rfl,_,rfl,?_⟩⟩;have s15:=s14.trans (Am htv (.tup [.int 0,.str z]));dsimp only[D5,tC,ET,List.append_nil];refine⟨x,xb,ds,b2,n1,ks.length,p2::ds2,ks3,d,es3,ep3,tv,.piece z,g,gs,rfl,ps13.same s15,M13.same s15,by omega,⟨tv,_,rfl,Ae,_,_,rfl,rfl,_,_,rfl,rfl,rfl⟩,okb,(λt ht=>nomatch ht),s15.get hg13,lg,gm,rg13,λH16 ks16 es16 ep16 ps16 M16 in16 l16 _ rg16 fy16=>⟨_,rfl,AE rfl ?_⟩⟩;exact⟨ks16,es16,ep16,_,_,rfl,ps16,M16,λe he=>in16 e (in13 e he),by omega,rg16,(fy13.trans (Fx.fy (An.fx s15))).trans fy16⟩
 rintro σ H13 ⟨ks3,es3,ep3,v11,v12,rfl,ps13,M13,in13,l13,rg13,fy13⟩
 rw[bE] at l13;have K13:=Fy.bAt M12 fy13 K12 bZ λb hb=>bY _ hb
 have wlb13:=Fy.lst M12 fy13 wlb12;obtain⟨B13,_⟩:=ps13.bAt;obtain⟨dx13,sh13,hxb13,_⟩:=id B13;have old:∀e∈ks3,e.z<=(ks.length:Int)->e∈ks:=λe he hz=>by
  have z1:=(ps13.zin he).1;obtain⟨j,hj⟩:∃j:Nat,e.z=(j:Int)+1:=⟨(e.z-1).toNat,by omega⟩
  have jl:j<ks.length:=by omega
  have h1:=ps8.z j _ (bF jl);rw[ps13.inj e he _ (in13 _ (eT jl)) (by omega)];exact eT jl
 have hb13:∀(j:Nat) y,(A4 es)[j]?=some y->∃e kb,ks[j]?=some e/\y=.ref kb/\DdX H13 (Bh e.bk) kb:=λj y hy=>by
  obtain⟨pk,kb,hpk,rfl,hbx⟩:=Fv M11 hy;unfold C4 at hpk;rw[bQ] at hpk;obtain⟨e,he,rfl⟩:=cm.mp hpk;exact⟨e,kb,he,rfl,(hbx.keep (λc ys h=>Fy.tup M11 fy12 h)).keep (λc ys h=>Fy.tup M12 fy13 h)⟩
 have lk:(A4 es).length=ks.length:=by rw[EH M8];unfold C4;rw[bE]
 have eta13:∀e∈ks,H13 e.ta=some (.tup [.int e.z,.int e.y,.int (AA e.bk)]):=λe he=>(ps13.in (in13 e he)).2.1
 subst eN
 try dsimp only
 refine AN λN eN=>?_
 refine⟨_,rfl,xb,dx13,_,rfl,hxb13,rfl,xb,ds,b2,n1,.non,rfl,B13,b2.length,rfl,by omega,by omega,N2 (lo:=0) (n:=b2.length) (λi σ H'=>∃b3 v9' v13,σ=[some (.ref a),some (.ref xb),some (.ref x),some (.ref lr),some (.ref d),some (.ref lb),some (.ref p2),some (.ref g),some (.int n1),v9',v10,v11,v12,v13]/\PS Af Ab Aa H' x xb ds b3 n1 ks.length (p2::ds2) ks3/\Kb H13 H' xb ds/\b3.length=b2.length/\(∀c∈b3,c.length<=200+30*i)/\∀(j:Nat) e,ks[j]?=some e->∀b,b<i->Bl (b3.getD b []) e.z=Bl (b1.getD b []) e.z) ⟨b2,v9,none,rfl,ps13,An.kb (An.refl _) _ _,rfl,cb2,λj e _ b hb=>absurd hb (fb _)⟩ ?_ ?_⟩
 ·rintro i σ H14 hi ⟨b3,v9',v13,rfl,ps14,k14,lb3,cb3,dn3⟩
  rw[Int.zero_add];have wlb14:=Kb.lst B13 k14 wlb13;refine⟨_,rfl,lb,rfl,⟨_,AQ.of wlb14⟩,CF (K:=K) (a:=lb) (xs:=A4 es) (λj σ H'=>∃b3 v9',σ=[some (.ref a),some (.ref xb),some (.ref x),some (.ref lr),some (.ref d),some (.ref lb),some (.ref p2),some (.ref g),some (.int n1),v9',v10,v11,v12,some (.int (i:Int))]/\PS Af Ab Aa H' x xb ds b3 n1 ks.length (p2::ds2) ks3/\Kb H13 H' xb ds/\b3.length=b2.length/\(∀c∈b3,c.length<=200+30*i+j)/\∀(j':Nat) e,ks[j']?=some e->∀b,(b<i\/(b=i/\j'<j))->Bl (b3.getD b []) e.z=Bl (b1.getD b []) e.z) ⟨b3,v9',rfl,ps14,k14,lb3,cb3,λj' e he b hb=>dn3 j' e he b (hb.resolve_right λz=>absurd z.2 (fb _))⟩ (by rintro j σ H' _ ⟨_,_,_,_,k,_⟩;exact AQ.of (Kb.lst B13 k wlb13)) ?_ ?_⟩
  ·rintro j y σ H15 hy ⟨b4,v9'',rfl,ps15,k15,lb4,cb4,dn4⟩
   obtain⟨e,kb,hej,rfl,hbx⟩:=hb13 j y hy;have he:=bJ hej;have jl:j<ks.length:=(bT.mp hej).1;have M15:=Kb.dd B13 k15 M13;have K15:=K13.kept B13 k15 (otn p2 bZ).1 λb hb=>(otn b (bY _ hb)).2
   have hbx15:=hbx.keep (λc ys h=>Kb.tup B13 k15 h);have eta15:=Kb.tup B13 k15 (eta13 e he);have dv:=Di M15.n (in13 e he);obtain⟨B15,_⟩:=ps15.bAt;obtain⟨dx15,sh15,hxb15,_⟩:=id B15;obtain⟨dxk,shk,hp2k,_⟩:=id K15;refine⟨_,rfl,xb,dx15,_,rfl,hxb15,rfl,_,rfl,_,rfl,_,rfl,d,C4 ks3,es3,ep3,Bh e.bk,kb,.ref e.ta,rfl,rfl,M15,hbx15,dv,e.ta,_,_,_,rfl,rfl,AS.of eta15,rfl,_,rfl,p2,dxk,_,rfl,hp2k,rfl,_,rfl,_,rfl,_,rfl,d,C4 ks3,es3,ep3,Bh e.bk,kb,.ref e.ta,rfl,rfl,M15,hbx15,dv,e.ta,_,_,_,rfl,rfl,AS.of eta15,rfl,?_⟩;dsimp only[D5,tC,ET,List.append_nil];refine Ya K15 (by omega) λvc H16 s16 hci=>?_
   refine⟨xb,ds,b4,n1,.non,i,e.z,vc,_,rfl,B15.same s16,by omega,λc hc=>(by have:=cb4 c hc;omega),hci,λH17 B17 k17 _=>?_⟩;have sg:=λ(b':Nat) (u:Int)=>Zt (bs:=b4) (b:=i) (by omega) e.z (Bl (b1.getD i []) e.z) b' u
   refine⟨_,_,rfl,(ps15.same s16).boards k17 B17 (by rw[dZ];omega) (λe' he' hz b hb=>?_) otn,k15.trans ((An.kb s16 xb ds).trans k17),by rw[dZ];exact lb4,λc hc=>?_,λj' e' he' b hb=>?_⟩
   ·rw[dZ] at hb
    by_cases h:e'.z=e.z/\i=b
    ·obtain rfl:=ps13.inj e' he' e (in13 e he) h.1;have h2:=la e' he b (by omega)
     by_cases hm:(b:Int)∈De b1 e'.z
     ·rw[bV hm] at h2;refine .inr ?_;rw[sg b e'.z,bV h,h.2];exact h2
     ·rw[bP hm] at h2;refine .inl λrow hr=>?_
      rw[sg b e'.z,bV h,h.2,h2] at hr;cases hr
    ·have:=sg b e'.z;rw[bP h] at this;rw[this];exact(ps15.lies he' hz b hb).imp (λhB row hr=>hB row (by rw[<-this];exact hr)) id
   ·rcases gf hc with hc|rfl
    ·have:=cb4 c hc;omega
    ·have h1:=Ql (b4.getD i []) e.z (Bl (b1.getD i []) e.z);have h2:(b4.getD i []).length<=200+30*i+j:=by
      unfold List.getD;cases eq:b4[i]? with
      |none=>exact cE _
      |some c=>exact cb4 c (bJ eq)
     omega
   ·rw[sg b e'.z]
    by_cases h:e'.z=e.z/\i=b
    ·rw[bV h,h.1,h.2]
    ·rw[bP h];refine dn4 j' e' he' b ?_;rcases hb with hb|⟨hb,hj⟩
     ·exact .inl hb
     ·refine .inr ⟨hb,?_⟩
      by_cases hjj:j'=j
      ·subst hjj;rw[hej] at he';cases he';exact absurd ⟨rfl,hb.symm⟩ h
      ·omega
  ·rintro σ H15 ⟨b4,v9'',rfl,ps15,k15,lb4,cb4,dn4⟩
   rw[lk] at cb4 dn4;refine⟨b4,_,_,rfl,ps15,k15,lb4,λc hc=>by have:=cb4 c hc;omega,λj' e he b hb=>dn4 j' e he b ?_⟩;have:=(bT.mp he).1;omega
 rintro σ H14 ⟨b3,v9',v13,rfl,ps14,k14,lb3,cb3,dn3⟩
 obtain⟨B14,_⟩:=ps14.bAt;obtain⟨dx14,sh14,hxb14,_⟩:=id B14;have M14:=Kb.dd B13 k14 M13;have wlb14:=Kb.lst B13 k14 wlb13;have rd14:∀e∈ks,D0 ks.length b3 e=true:=λe he=>by
  obtain⟨j,hj⟩:=cL he;have tn:=Iz (bs:=b3) (z:=e.z) (by omega);have q0:=tn (e.z%(b3.length:Int)) (by simp[De]);have tw:=OX (b:=b1) (b':=b3) (by omega) e.z;have:Bl (b3.getD (e.z%(b3.length:Int)).toNat []) e.z=some (BG (BH e.z e.y e.bk)):=by
   rw[dn3 j e hj _ (by omega),la e he _ (by omega),show(((e.z%(b3.length:Int)).toNat:Nat):Int)=e.z%(b3.length:Int) by omega,tw,bV (by simp[De])]
  unfold D0 good Yd;rw[dO,bM this,Bool.true_or,iX]
 subst eN
 try dsimp only
 refine AN λN eN=>?_
 refine⟨_,rfl,xb,dx14,_,rfl,hxb14,rfl,xb,ds,b3,n1,.non,rfl,B14,_,rfl,rfl,_,rfl,AE ?_ ?_⟩
 ·show(!decide (V.int n1=V.int n1))=false;rw[bM rfl];rfl
 subst eN;refine⟨_,rfl,lb,rfl,⟨_,AQ.of wlb14⟩,?_⟩;refine LM (xs:=A4 es) (λ_ _ y _=>y=.bl true) (λ_ _ _ _ _ h _=>h) (λ_ _ _ _ _ _ _ _ h _ _=>h) (KO (AQ.of wlb14)) (by omega) (λi y H' R hy s' hR=>?_) λlf H15 ys nlf s15 hlf ly hys=>?_
 ·obtain⟨e,kb,hej,rfl,hbx⟩:=hb13 i y hy;have he:=bJ hej;have ps':=ps14.same s';have M':=M14.same s';have hbx':DdX H' (Bh e.bk) kb:=(hbx.keep (λc ys h=>Kb.tup B13 k14 h)).keep (λc ys h=>s'.get h);have rep':Rep NL H' (Bh e.bk) (.ref kb):=UV _ _ hbx'.p hbx'.r;obtain⟨eok,eta,enb⟩:=ps'.in (in13 e he);have dv:=Di M'.n (in13 e he);obtain⟨dxp,b9,dt9,dz9,dd9,n9,hp9⟩:=ps'.ins;refine⟨_,rfl,x,dxp,_,rfl,hp9,rfl,_,rfl,_,rfl,d,C4 ks3,es3,ep3,Bh e.bk,kb,.ref e.ta,rfl,rfl,M',hbx',dv,?_⟩;dsimp only[D5,tC,ET,List.append_nil];refine XZ ps' (in13 e he) (rd14 e he) λv16 H16 s16 rv16=>?_
  refine⟨_,rfl,Bh e.bk,Bh e.bk,FW eok,FW eok,rv16,Rep.same s16 _ _ rep',_,rfl,Bs (bM rfl) ?_⟩;have ps16:=ps'.same s16;obtain⟨dxq,c9,ct9,cz9,cd9,cn9,hq9⟩:=ps16.ins;refine⟨_,rfl,x,dxq,_,rfl,hq9,rfl,_,rfl,?_⟩;dsimp only[D5,tC,ET,List.append_nil];refine Vk (y:=7) ps16 (by omega) (Rep.same s16 _ _ rep') eok (λt ht=>?_) (by decide) (by decide) (λe' he' eb' er' H17 s17=>?_) (λhne=>absurd rfl (hne e (in13 e he) rfl).2) (λe' he' _ _ _ hb'=>?_)
  ·obtain⟨e',he',hz⟩:=tg0 e he t ht;exact⟨e',in13 e' he',hz⟩
  ·obtain rfl:=R6 M'.n he' (in13 e he) eb';have s67:=s16.trans s17;have M17:=M'.same s67;have tok:Xb (e'.z,e'.y,AA e'.bk):=by
    have z1:=ps'.zin he';exact⟨⟨z1.1,by show e'.z<=999999;omega⟩,enb.2,sum_in e'.bk⟩
   have rt:Rep NL H17 (JI (e'.z,e'.y,AA e'.bk)) (.ref e'.ta):=U9 (t:=(e'.z,e'.y,AA e'.bk)) (s67.get eta);refine⟨_,rfl,_,rfl,d,C4 ks3,es3,ep3,Bh e'.bk,kb,.ref e'.ta,rfl,rfl,M17,hbx'.keep (λc ys h=>s67.get h),dv,_,_,Kz tok 6,Kz tok 6,rt,rt,?_⟩;refine hR _ _ s67 ?_;show V.bl (decide (_=_))=.bl true;rw[bM rfl]
  ·have:=hb' e (in13 e he) rfl;rw[rd14 e he] at this;cases this
 have ey:ys=(List.replicate ys.length true).map V.bl:=by
  refine dH λi=>?_
  by_cases hi:i<ys.length
  ·obtain⟨_,_,h⟩:=hys i ys[i] (bF hi);rw[bF hi,h,bQ,iO,bV hi];rfl
  ·rw[cH (by omega),cH (by rw[bE,eF];omega)]
 rw[ey] at hlf;refine⟨lf,_,rfl,AQ.of hlf,?_⟩;have:(List.replicate ys.length true).all id=true:=cO.mpr λb hb=>gq hb
 rw[this];exact q _
end
theorem bf {us:List Value}(h:us.length=0):us=[]:=by
 cases us with
 |nil=>rfl
 |cons _ _=>cases h
theorem Ku {us:List Value}(h:us.length=1):∃x0,us=[x0]:=by
 cases us with
 |nil=>cases h
 |cons a us=>
  cases bf (ie h);exact⟨_,rfl⟩
theorem ln2 {us:List Value}(h:us.length=2):∃x0 x1,us=[x0,x1]:=by
 cases us with
 |nil=>cases h
 |cons a us=>
  obtain⟨_,rfl⟩:=Ku (ie h);exact⟨_,_,rfl⟩
theorem V0 {us:List Value}(h:us.length=3):∃x0 x1 x2,us=[x0,x1,x2]:=by
 cases us with
 |nil=>cases h
 |cons a us=>
  obtain⟨_,_,rfl⟩:=ln2 (ie h);exact⟨_,_,_,rfl⟩
theorem Zb {us:List Value}(h:us.length=4):∃x0 x1 x2 x3,us=[x0,x1,x2,x3]:=by
 cases us with
 |nil=>cases h
 |cons a us=>
  obtain⟨_,_,_,rfl⟩:=V0 (ie h);exact⟨_,_,_,_,rfl⟩
theorem all_mk {l:W.OpenLaw} {w:World} {K:W.Frag} {h:Heap} {mg:Str->Option Value} {fa:Addr} (X:K.In h) (G:h.Ns mainGlobals mg) (hfa:mg "law"=some (.ref fa))
  {f0:Addr} {od0 an0:Option Addr} {sl0:Array (Option Value)} {oc0 kV0 dc0 pm0 cd0 ct0:Value}
  {f1:Addr} {od1 an1:Option Addr} {sl1:Array (Option Value)} {oc1 kV1 dc1 pm1 cd1 ct1:Value}
  {f2:Addr} {od2 an2:Option Addr} {sl2:Array (Option Value)} {oc2 kV2 dc2 pm2 cd2 ct2:Value}
  {f3:Addr} {od3 an3:Option Addr} {sl3:Array (Option Value)} {oc3 kV3 dc3 pm3 cd3 ct3:Value}
  {f4:Addr} {od4 an4:Option Addr} {sl4:Array (Option Value)} {oc4 kV4 dc4 pm4 cd4 ct4:Value}
  {f5:Addr} {od5 an5:Option Addr} {sl5:Array (Option Value)} {oc5 kV5 dc5 pm5 cd5 ct5:Value}
  {f6:Addr} {od6 an6:Option Addr} {sl6:Array (Option Value)} {oc6 kV6 dc6 pm6 cd6 ct6:Value}
  {f7:Addr} {od7 an7:Option Addr} {sl7:Array (Option Value)} {oc7 kV7 dc7 pm7 cd7 ct7:Value}
  {f8:Addr} {od8 an8:Option Addr} {sl8:Array (Option Value)} {oc8 kV8 dc8 pm8 cd8 ct8:Value}
  {f9:Addr} {od9 an9:Option Addr} {sl9:Array (Option Value)} {oc9 kV9 dc9 pm9 cd9 ct9:Value}
  {f10:Addr} {od10 an10:Option Addr} {sl10:Array (Option Value)} {oc10 kV10 dc10 pm10 cd10 ct10:Value}
  {f11:Addr} {od11 an11:Option Addr} {sl11:Array (Option Value)} {oc11 kV11 dc11 pm11 cd11 ct11:Value}
  {f12:Addr} {od12 an12:Option Addr} {sl12:Array (Option Value)} {oc12 kV12 dc12 pm12 cd12 ct12:Value}
  {f13:Addr} {od13 an13:Option Addr} {sl13:Array (Option Value)} {oc13 kV13 dc13 pm13 cd13 ct13:Value}
  {f14:Addr} {od14 an14:Option Addr} {sl14:Array (Option Value)} {oc14 kV14 dc14 pm14 cd14 ct14:Value}
  {f15:Addr} {od15 an15:Option Addr} {sl15:Array (Option Value)} {oc15 kV15 dc15 pm15 cd15 ct15:Value}
  {f16:Addr} {od16 an16:Option Addr} {sl16:Array (Option Value)} {oc16 kV16 dc16 pm16 cd16 ct16:Value}
  {f17:Addr} {od17 an17:Option Addr} {sl17:Array (Option Value)} {oc17 kV17 dc17 pm17 cd17 ct17:Value}
  {f18:Addr} {od18 an18:Option Addr} {sl18:Array (Option Value)} {oc18 kV18 dc18 pm18 cd18 ct18:Value}
  {f19:Addr} {od19 an19:Option Addr} {sl19:Array (Option Value)} {oc19 kV19 dc19 pm19 cd19 ct19:Value}
  {f20:Addr} {od20 an20:Option Addr} {sl20:Array (Option Value)} {oc20 kV20 dc20 pm20 cd20 ct20:Value}
  {f21:Addr} {od21 an21:Option Addr} {sl21:Array (Option Value)} {oc21 kV21 dc21 pm21 cd21 ct21:Value}
  {f22:Addr} {od22 an22:Option Addr} {sl22:Array (Option Value)} {oc22 kV22 dc22 pm22 cd22 ct22:Value}
  {f23:Addr} {od23 an23:Option Addr} {sl23:Array (Option Value)} {oc23 kV23 dc23 pm23 cd23 ct23:Value}
  {f24:Addr} {od24 an24:Option Addr} {sl24:Array (Option Value)} {oc24 kV24 dc24 pm24 cd24 ct24:Value}
  {f25:Addr} {od25 an25:Option Addr} {sl25:Array (Option Value)} {oc25 kV25 dc25 pm25 cd25 ct25:Value}
  {f26:Addr} {od26 an26:Option Addr} {sl26:Array (Option Value)} {oc26 kV26 dc26 pm26 cd26 ct26:Value}
  {f27:Addr} {od27 an27:Option Addr} {sl27:Array (Option Value)} {oc27 kV27 dc27 pm27 cd27 ct27:Value}
  {f28:Addr} {od28 an28:Option Addr} {sl28:Array (Option Value)} {oc28 kV28 dc28 pm28 cd28 ct28:Value}
  {f29:Addr} {od29 an29:Option Addr} {sl29:Array (Option Value)} {oc29 kV29 dc29 pm29 cd29 ct29:Value}
  {f30:Addr} {od30 an30:Option Addr} {sl30:Array (Option Value)} {oc30 kV30 dc30 pm30 cd30 ct30:Value}
  {f31:Addr} {od31 an31:Option Addr} {sl31:Array (Option Value)} {oc31 kV31 dc31 pm31 cd31 ct31:Value}
  {f32:Addr} {od32 an32:Option Addr} {sl32:Array (Option Value)} {oc32 kV32 dc32 pm32 cd32 ct32:Value}
  {f33:Addr} {od33 an33:Option Addr} {sl33:Array (Option Value)} {oc33 kV33 dc33 pm33 cd33 ct33:Value}
  {f34:Addr} {od34 an34:Option Addr} {sl34:Array (Option Value)} {oc34 kV34 dc34 pm34 cd34 ct34:Value}
  {f35:Addr} {od35 an35:Option Addr} {sl35:Array (Option Value)} {oc35 kV35 dc35 pm35 cd35 ct35:Value}
  {f36:Addr} {od36 an36:Option Addr} {sl36:Array (Option Value)} {oc36 kV36 dc36 pm36 cd36 ct36:Value}
  {f37:Addr} {od37 an37:Option Addr} {sl37:Array (Option Value)} {oc37 kV37 dc37 pm37 cd37 ct37:Value}
  {f38:Addr} {od38 an38:Option Addr} {sl38:Array (Option Value)} {oc38 kV38 dc38 pm38 cd38 ct38:Value}
  {f39:Addr} {od39 an39:Option Addr} {sl39:Array (Option Value)} {oc39 kV39 dc39 pm39 cd39 ct39:Value}
  {f40:Addr} {od40 an40:Option Addr} {sl40:Array (Option Value)} {oc40 kV40 dc40 pm40 cd40 ct40:Value}
  {f41:Addr} {od41 an41:Option Addr} {sl41:Array (Option Value)} {oc41 kV41 dc41 pm41 cd41 ct41:Value}
  {f42:Addr} {od42 an42:Option Addr} {sl42:Array (Option Value)} {oc42 kV42 dc42 pm42 cd42 ct42:Value}
  {f43:Addr} {od43 an43:Option Addr} {sl43:Array (Option Value)} {oc43 kV43 dc43 pm43 cd43 ct43:Value}
  {f44:Addr} {od44 an44:Option Addr} {sl44:Array (Option Value)} {oc44 kV44 dc44 pm44 cd44 ct44:Value}
  {f45:Addr} {od45 an45:Option Addr} {sl45:Array (Option Value)} {oc45 kV45 dc45 pm45 cd45 ct45:Value}
  {f46:Addr} {od46 an46:Option Addr} {sl46:Array (Option Value)} {oc46 kV46 dc46 pm46 cd46 ct46:Value}
  {f47:Addr} {od47 an47:Option Addr} {sl47:Array (Option Value)} {oc47 kV47 dc47 pm47 cd47 ct47:Value}
  {f48:Addr} {od48 an48:Option Addr} {sl48:Array (Option Value)} {oc48 kV48 dc48 pm48 cd48 ct48:Value}
  {f49:Addr} {od49 an49:Option Addr} {sl49:Array (Option Value)} {oc49 kV49 dc49 pm49 cd49 ct49:Value}
  {f50:Addr} {od50 an50:Option Addr} {sl50:Array (Option Value)} {oc50 kV50 dc50 pm50 cd50 ct50:Value}
  {f51:Addr} {od51 an51:Option Addr} {sl51:Array (Option Value)} {oc51 kV51 dc51 pm51 cd51 ct51:Value}
  {f52:Addr} {od52 an52:Option Addr} {sl52:Array (Option Value)} {oc52 kV52 dc52 pm52 cd52 ct52:Value}
  {f53:Addr} {od53 an53:Option Addr} {sl53:Array (Option Value)} {oc53 kV53 dc53 pm53 cd53 ct53:Value}
  {f54:Addr} {od54 an54:Option Addr} {sl54:Array (Option Value)} {oc54 kV54 dc54 pm54 cd54 ct54:Value}
  {f55:Addr} {od55 an55:Option Addr} {sl55:Array (Option Value)} {oc55 kV55 dc55 pm55 cd55 ct55:Value}
  {f56:Addr} {od56 an56:Option Addr} {sl56:Array (Option Value)} {oc56 kV56 dc56 pm56 cd56 ct56:Value}
  {f57:Addr} {od57 an57:Option Addr} {sl57:Array (Option Value)} {oc57 kV57 dc57 pm57 cd57 ct57:Value}
  {f58:Addr} {od58 an58:Option Addr} {sl58:Array (Option Value)} {oc58 kV58 dc58 pm58 cd58 ct58:Value}
  {f59:Addr} {od59 an59:Option Addr} {sl59:Array (Option Value)} {oc59 kV59 dc59 pm59 cd59 ct59:Value}
  {f60:Addr} {od60 an60:Option Addr} {sl60:Array (Option Value)} {oc60 kV60 dc60 pm60 cd60 ct60:Value}
  {f61:Addr} {od61 an61:Option Addr} {sl61:Array (Option Value)} {oc61 kV61 dc61 pm61 cd61 ct61:Value}
  {f62:Addr} {od62 an62:Option Addr} {sl62:Array (Option Value)} {oc62 kV62 dc62 pm62 cd62 ct62:Value}
  {f63:Addr} {od63 an63:Option Addr} {sl63:Array (Option Value)} {oc63 kV63 dc63 pm63 cd63 ct63:Value}
  {f64:Addr} {od64 an64:Option Addr} {sl64:Array (Option Value)} {oc64 kV64 dc64 pm64 cd64 ct64:Value}
  {Ac:Addr}
  {Aa:Addr}
  {Ab:Addr}
  {Af:Addr}
  {Bi:Addr}
  {Em:Addr}
  {C8:Addr}
  {Eo:Addr}
  {t_SIGNS:Tok}
  {t_MOST_NUMBER:Tok}
  {t_MOST_SIGNS:Tok}
  {t_MOST_PARTS:Tok}
  {t_MOST_DEEP:Tok}
  {t_NUMBER_WORD:Tok}
  {t_TEXT_WORD:Tok}
  {t_TUPLE_WORD:Tok}
  {t_PIECE:Tok}
  {t_ROW:Tok}
  {t_FOLDER:Tok}
  {t_FILE_ENTRY:Tok}
  {t_FOLDER_ENTRY:Tok}
  {t_NAME_SIGNS:Tok}
  {t_MOST_NAME_SIGNS:Tok}
  {t_MOST_CELL:Tok}
  {t_MOST_BIRTH:Tok}
  {t_SUM_RESTS:Tok}
  {t_MOST_PIECE_SIGNS:Tok}
  {t_MOST_LEVEL:Tok}
  {t_MOST_TAGS:Tok}
  {t_MOST_ENTRIES:Tok}
  {t_MARK_RESTS:Tok}
  {t_LEAST_BOARDS:Tok}
  {t_MOST_BOARDS:Tok}
  (a0:W.nsIn K mainGlobals "is_whole"=some (some (.ref f0))) (l0:K.lookup f0=some ⟨oc0,od0,.func (W.fnOf "is_whole" "is_whole" (Ap Ep) (Ao Ep) (Ah Ep) .none kV0 dc0 pm0 an0 cd0 ct0),sl0⟩) (c0:W.codeIn K cd0 "is_whole"=true) (k0:W.keepIn K (.ref f0)=true)
  (a1:W.nsIn K mainGlobals "is_between"=some (some (.ref f1))) (l1:K.lookup f1=some ⟨oc1,od1,.func (W.fnOf "is_between" "is_between" (Ap Do) (Ao Do) (Ah Do) .none kV1 dc1 pm1 an1 cd1 ct1),sl1⟩) (c1:W.codeIn K cd1 "is_between"=true) (k1:W.keepIn K (.ref f1)=true)
  (a2:W.nsIn K mainGlobals "is_tuple_of"=some (some (.ref f2))) (l2:K.lookup f2=some ⟨oc2,od2,.func (W.fnOf "is_tuple_of" "is_tuple_of" (Ap CU) (Ao CU) (Ah CU) .none kV2 dc2 pm2 an2 cd2 ct2),sl2⟩) (c2:W.codeIn K cd2 "is_tuple_of"=true) (k2:W.keepIn K (.ref f2)=true)
  (a3:W.nsIn K mainGlobals "number_of"=some (some (.ref f3))) (l3:K.lookup f3=some ⟨oc3,od3,.func (W.fnOf "number_of" "number_of" (Ap DQ) (Ao DQ) (Ah DQ) .none kV3 dc3 pm3 an3 cd3 ct3),sl3⟩) (c3:W.codeIn K cd3 "number_of"=true) (k3:W.keepIn K (.ref f3)=true)
  (a4:W.nsIn K mainGlobals "sign_of"=some (some (.ref f4))) (l4:K.lookup f4=some ⟨oc4,od4,.func (W.fnOf "sign_of" "sign_of" (Ap Fh) (Ao Fh) (Ah Fh) .none kV4 dc4 pm4 an4 cd4 ct4),sl4⟩) (c4:W.codeIn K cd4 "sign_of"=true) (k4:W.keepIn K (.ref f4)=true)
  (a5:W.nsIn K mainGlobals "is_text"=some (some (.ref f5))) (l5:K.lookup f5=some ⟨oc5,od5,.func (W.fnOf "is_text" "is_text" (Ap Fe) (Ao Fe) (Ah Fe) .none kV5 dc5 pm5 an5 cd5 ct5),sl5⟩) (c5:W.codeIn K cd5 "is_text"=true) (k5:W.keepIn K (.ref f5)=true)
  (a6:W.findIn K (.ref Bi) "__init__"=some (some (.ref f6))) (i6:W.isFn K (.ref f6)=true) (l6:K.lookup f6=some ⟨oc6,od6,.func (W.fnOf "__init__" "Lost.__init__" (Ap DW) (Ao DW) (Ah DW) .none kV6 dc6 pm6 an6 cd6 ct6),sl6⟩) (c6:W.codeIn K cd6 "Lost.__init__"=true) (k6:W.keepIn K (.ref f6)=true)
  (a7:W.nsIn K mainGlobals "words_of"=some (some (.ref f7))) (l7:K.lookup f7=some ⟨oc7,od7,.func (W.fnOf "words_of" "words_of" (Ap Dc) (Ao Dc) (Ah Dc) .none kV7 dc7 pm7 an7 cd7 ct7),sl7⟩) (c7:W.codeIn K cd7 "words_of"=true) (k7:W.keepIn K (.ref f7)=true)
  (a8:W.nsIn K mainGlobals "thing_of"=some (some (.ref f8))) (l8:K.lookup f8=some ⟨oc8,od8,.func (W.fnOf "thing_of" "thing_of" (Ap EG) (Ao EG) (Ah EG) .none kV8 dc8 pm8 an8 cd8 ct8),sl8⟩) (c8:W.codeIn K cd8 "thing_of"=true) (k8:W.keepIn K (.ref f8)=true)
  (a9:W.findIn K (.ref Ac) "__init__"=some (some (.ref f9))) (i9:W.isFn K (.ref f9)=true) (l9:K.lookup f9=some ⟨oc9,od9,.func (W.fnOf "__init__" "WordReader.__init__" (Ap Bv) (Ao Bv) (Ah Bv) .none kV9 dc9 pm9 an9 cd9 ct9),sl9⟩) (c9:W.codeIn K cd9 "WordReader.__init__"=true) (k9:W.keepIn K (.ref f9)=true)
  (a10:W.findIn K (.ref Ac) "is_through"=some (some (.ref f10))) (i10:W.isFn K (.ref f10)=true) (l10:K.lookup f10=some ⟨oc10,od10,.func (W.fnOf "is_through" "WordReader.is_through" (Ap AV) (Ao AV) (Ah AV) .none kV10 dc10 pm10 an10 cd10 ct10),sl10⟩) (c10:W.codeIn K cd10 "WordReader.is_through"=true) (k10:W.keepIn K (.ref f10)=true)
  (a11:W.findIn K (.ref Ac) "word_to"=some (some (.ref f11))) (i11:W.isFn K (.ref f11)=true) (l11:K.lookup f11=some ⟨oc11,od11,.func (W.fnOf "word_to" "WordReader.word_to" (Ap A8) (Ao A8) (Ah A8) .none kV11 dc11 pm11 an11 cd11 ct11),sl11⟩) (c11:W.codeIn K cd11 "WordReader.word_to"=true) (k11:W.keepIn K (.ref f11)=true)
  (a12:W.nsIn K mainGlobals "read_thing"=some (some (.ref f12))) (l12:K.lookup f12=some ⟨oc12,od12,.func (W.fnOf "read_thing" "read_thing" (Ap BW) (Ao BW) (Ah BW) .none kV12 dc12 pm12 an12 cd12 ct12),sl12⟩) (c12:W.codeIn K cd12 "read_thing"=true) (k12:W.keepIn K (.ref f12)=true)
  (a13:W.nsIn K mainGlobals "read_text"=some (some (.ref f13))) (l13:K.lookup f13=some ⟨oc13,od13,.func (W.fnOf "read_text" "read_text" (Ap DR) (Ao DR) (Ah DR) .none kV13 dc13 pm13 an13 cd13 ct13),sl13⟩) (c13:W.codeIn K cd13 "read_text"=true) (k13:W.keepIn K (.ref f13)=true)
  (a14:W.nsIn K mainGlobals "is_name"=some (some (.ref f14))) (l14:K.lookup f14=some ⟨oc14,od14,.func (W.fnOf "is_name" "is_name" (Ap Fg) (Ao Fg) (Ah Fg) .none kV14 dc14 pm14 an14 cd14 ct14),sl14⟩) (c14:W.codeIn K cd14 "is_name"=true) (k14:W.keepIn K (.ref f14)=true)
  (a15:W.nsIn K mainGlobals "is_tag"=some (some (.ref f15))) (l15:K.lookup f15=some ⟨oc15,od15,.func (W.fnOf "is_tag" "is_tag" (Ap GE) (Ao GE) (Ah GE) .none kV15 dc15 pm15 an15 cd15 ct15),sl15⟩) (c15:W.codeIn K cd15 "is_tag"=true) (k15:W.keepIn K (.ref f15)=true)
  (a16:W.nsIn K mainGlobals "is_block"=some (some (.ref f16))) (l16:K.lookup f16=some ⟨oc16,od16,.func (W.fnOf "is_block" "is_block" (Ap En) (Ao En) (Ah En) .none kV16 dc16 pm16 an16 cd16 ct16),sl16⟩) (c16:W.codeIn K cd16 "is_block"=true) (k16:W.keepIn K (.ref f16)=true)
  (a17:W.nsIn K mainGlobals "are_row_tags"=some (some (.ref f17))) (l17:K.lookup f17=some ⟨oc17,od17,.func (W.fnOf "are_row_tags" "are_row_tags" (Ap Cn) (Ao Cn) (Ah Cn) .none kV17 dc17 pm17 an17 cd17 ct17),sl17⟩) (c17:W.codeIn K cd17 "are_row_tags"=true) (k17:W.keepIn K (.ref f17)=true)
  (a18:W.nsIn K mainGlobals "are_entries"=some (some (.ref f18))) (l18:K.lookup f18=some ⟨oc18,od18,.func (W.fnOf "are_entries" "are_entries" (Ap CN) (Ao CN) (Ah CN) .none kV18 dc18 pm18 an18 cd18 ct18),sl18⟩) (c18:W.codeIn K cd18 "are_entries"=true) (k18:W.keepIn K (.ref f18)=true)
  (a19:W.nsIn K mainGlobals "is_entry"=some (some (.ref f19))) (l19:K.lookup f19=some ⟨oc19,od19,.func (W.fnOf "is_entry" "is_entry" (Ap Ew) (Ao Ew) (Ah Ew) .none kV19 dc19 pm19 an19 cd19 ct19),sl19⟩) (c19:W.codeIn K cd19 "is_entry"=true) (k19:W.keepIn K (.ref f19)=true)
  (a20:W.nsIn K mainGlobals "sum_of"=some (some (.ref f20))) (l20:K.lookup f20=some ⟨oc20,od20,.func (W.fnOf "sum_of" "sum_of" (Ap GJ) (Ao GJ) (Ah GJ) .none kV20 dc20 pm20 an20 cd20 ct20),sl20⟩) (c20:W.codeIn K cd20 "sum_of"=true) (k20:W.keepIn K (.ref f20)=true)
  (a21:W.nsIn K mainGlobals "numbers_told"=some (some (.ref f21))) (l21:K.lookup f21=some ⟨oc21,od21,.func (W.fnOf "numbers_told" "numbers_told" (Ap Ct) (Ao Ct) (Ah Ct) .none kV21 dc21 pm21 an21 cd21 ct21),sl21⟩) (c21:W.codeIn K cd21 "numbers_told"=true) (k21:W.keepIn K (.ref f21)=true)
  (a22:W.nsIn K mainGlobals "size_of"=some (some (.ref f22))) (l22:K.lookup f22=some ⟨oc22,od22,.func (W.fnOf "size_of" "size_of" (Ap Fd) (Ao Fd) (Ah Fd) .none kV22 dc22 pm22 an22 cd22 ct22),sl22⟩) (c22:W.codeIn K cd22 "size_of"=true) (k22:W.keepIn K (.ref f22)=true)
  (a23:W.nsIn K mainGlobals "tags_in"=some (some (.ref f23))) (l23:K.lookup f23=some ⟨oc23,od23,.func (W.fnOf "tags_in" "tags_in" (Ap Ff) (Ao Ff) (Ah Ff) .none kV23 dc23 pm23 an23 cd23 ct23),sl23⟩) (c23:W.codeIn K cd23 "tags_in"=true) (k23:W.keepIn K (.ref f23)=true)
  (a24:W.nsIn K mainGlobals "mark_of"=some (some (.ref f24))) (l24:K.lookup f24=some ⟨oc24,od24,.func (W.fnOf "mark_of" "mark_of" (Ap Fi) (Ao Fi) (Ah Fi) .none kV24 dc24 pm24 an24 cd24 ct24),sl24⟩) (c24:W.codeIn K cd24 "mark_of"=true) (k24:W.keepIn K (.ref f24)=true)
  (a25:W.nsIn K mainGlobals "sealed"=some (some (.ref f25))) (l25:K.lookup f25=some ⟨oc25,od25,.func (W.fnOf "sealed" "sealed" (Ap Gs) (Ao Gs) (Ah Gs) .none kV25 dc25 pm25 an25 cd25 ct25),sl25⟩) (c25:W.codeIn K cd25 "sealed"=true) (k25:W.keepIn K (.ref f25)=true)
  (a26:W.nsIn K mainGlobals "unsealed"=some (some (.ref f26))) (l26:K.lookup f26=some ⟨oc26,od26,.func (W.fnOf "unsealed" "unsealed" (Ap El) (Ao El) (Ah El) .none kV26 dc26 pm26 an26 cd26 ct26),sl26⟩) (c26:W.codeIn K cd26 "unsealed"=true) (k26:W.keepIn K (.ref f26)=true)
  (a27:W.nsIn K mainGlobals "lay"=some (some (.ref f27))) (l27:K.lookup f27=some ⟨oc27,od27,.func (W.fnOf "lay" "lay" (Ap Nz) (Ao Nz) (Ah Nz) .none kV27 dc27 pm27 an27 cd27 ct27),sl27⟩) (c27:W.codeIn K cd27 "lay"=true) (k27:W.keepIn K (.ref f27)=true)
  (a28:W.nsIn K mainGlobals "fetched"=some (some (.ref f28))) (l28:K.lookup f28=some ⟨oc28,od28,.func (W.fnOf "fetched" "fetched" (Ap Fj) (Ao Fj) (Ah Fj) .none kV28 dc28 pm28 an28 cd28 ct28),sl28⟩) (c28:W.codeIn K cd28 "fetched"=true) (k28:W.keepIn K (.ref f28)=true)
  (a29:W.nsIn K mainGlobals "block_on"=some (some (.ref f29))) (l29:K.lookup f29=some ⟨oc29,od29,.func (W.fnOf "block_on" "block_on" (Ap Eu) (Ao Eu) (Ah Eu) .none kV29 dc29 pm29 an29 cd29 ct29),sl29⟩) (c29:W.codeIn K cd29 "block_on"=true) (k29:W.keepIn K (.ref f29)=true)
  (a30:W.nsIn K mainGlobals "thing_on"=some (some (.ref f30))) (l30:K.lookup f30=some ⟨oc30,od30,.func (W.fnOf "thing_on" "thing_on" (Ap Ek) (Ao Ek) (Ah Ek) .none kV30 dc30 pm30 an30 cd30 ct30),sl30⟩) (c30:W.codeIn K cd30 "thing_on"=true) (k30:W.keepIn K (.ref f30)=true)
  (a31:W.findIn K (.ref Ab) "__init__"=some (some (.ref f31))) (i31:W.isFn K (.ref f31)=true) (l31:K.lookup f31=some ⟨oc31,od31,.func (W.fnOf "__init__" "TakenCell.__init__" (Ap BD) (Ao BD) (Ah BD) .none kV31 dc31 pm31 an31 cd31 ct31),sl31⟩) (c31:W.codeIn K cd31 "TakenCell.__init__"=true) (k31:W.keepIn K (.ref f31)=true)
  (a32:W.findIn K (.ref Af) "__init__"=some (some (.ref f32))) (i32:W.isFn K (.ref f32)=true) (l32:K.lookup f32=some ⟨oc32,od32,.func (W.fnOf "__init__" "Pool.__init__" (Ap DP) (Ao DP) (Ah DP) .none kV32 dc32 pm32 an32 cd32 ct32),sl32⟩) (c32:W.codeIn K cd32 "Pool.__init__"=true) (k32:W.keepIn K (.ref f32)=true)
  (a33:W.findIn K (.ref Af) "put"=some (some (.ref f33))) (i33:W.isFn K (.ref f33)=true) (l33:K.lookup f33=some ⟨oc33,od33,.func (W.fnOf "put" "Pool.put" (Ap EE) (Ao EE) (Ah EE) .none kV33 dc33 pm33 an33 cd33 ct33),sl33⟩) (c33:W.codeIn K cd33 "Pool.put"=true) (k33:W.keepIn K (.ref f33)=true)
  (a34:W.findIn K (.ref Af) "alike"=some (some (.ref f34))) (i34:W.isFn K (.ref f34)=true) (l34:K.lookup f34=some ⟨oc34,od34,.func (W.fnOf "alike" "Pool.alike" (Ap Dm) (Ao Dm) (Ah Dm) .none kV34 dc34 pm34 an34 cd34 ct34),sl34⟩) (c34:W.codeIn K cd34 "Pool.alike"=true) (k34:W.keepIn K (.ref f34)=true)
  (a35:W.findIn K (.ref Af) "free_number"=some (some (.ref f35))) (i35:W.isFn K (.ref f35)=true) (l35:K.lookup f35=some ⟨oc35,od35,.func (W.fnOf "free_number" "Pool.free_number" (Ap Bj) (Ao Bj) (Ah Bj) .none kV35 dc35 pm35 an35 cd35 ct35),sl35⟩) (c35:W.codeIn K cd35 "Pool.free_number"=true) (k35:W.keepIn K (.ref f35)=true)
  (a36:W.findIn K (.ref Af) "take"=some (some (.ref f36))) (i36:W.isFn K (.ref f36)=true) (l36:K.lookup f36=some ⟨oc36,od36,.func (W.fnOf "take" "Pool.take" (Ap DX) (Ao DX) (Ah DX) .none kV36 dc36 pm36 an36 cd36 ct36),sl36⟩) (c36:W.codeIn K cd36 "Pool.take"=true) (k36:W.keepIn K (.ref f36)=true)
  (a37:W.findIn K (.ref Af) "entries_of"=some (some (.ref f37))) (i37:W.isFn K (.ref f37)=true) (l37:K.lookup f37=some ⟨oc37,od37,.func (W.fnOf "entries_of" "Pool.entries_of" (Ap Bu) (Ao Bu) (Ah Bu) .none kV37 dc37 pm37 an37 cd37 ct37),sl37⟩) (c37:W.codeIn K cd37 "Pool.entries_of"=true) (k37:W.keepIn K (.ref f37)=true)
  (a38:W.findIn K (.ref Af) "steps_of"=some (some (.ref f38))) (i38:W.isFn K (.ref f38)=true) (l38:K.lookup f38=some ⟨oc38,od38,.func (W.fnOf "steps_of" "Pool.steps_of" (Ap BR) (Ao BR) (Ah BR) .none kV38 dc38 pm38 an38 cd38 ct38),sl38⟩) (c38:W.codeIn K cd38 "Pool.steps_of"=true) (k38:W.keepIn K (.ref f38)=true)
  (a39:W.findIn K (.ref Af) "block"=some (some (.ref f39))) (i39:W.isFn K (.ref f39)=true) (l39:K.lookup f39=some ⟨oc39,od39,.func (W.fnOf "block" "Pool.block" (Ap Dl) (Ao Dl) (Ah Dl) .none kV39 dc39 pm39 an39 cd39 ct39),sl39⟩) (c39:W.codeIn K cd39 "Pool.block"=true) (k39:W.keepIn K (.ref f39)=true)
  (a40:W.findIn K (.ref Af) "hold"=some (some (.ref f40))) (i40:W.isFn K (.ref f40)=true) (l40:K.lookup f40=some ⟨oc40,od40,.func (W.fnOf "hold" "Pool.hold" (Ap DO) (Ao DO) (Ah DO) .none kV40 dc40 pm40 an40 cd40 ct40),sl40⟩) (c40:W.codeIn K cd40 "Pool.hold"=true) (k40:W.keepIn K (.ref f40)=true)
  (a41:W.findIn K (.ref Af) "lay_draft"=some (some (.ref f41))) (i41:W.isFn K (.ref f41)=true) (l41:K.lookup f41=some ⟨oc41,od41,.func (W.fnOf "lay_draft" "Pool.lay_draft" (Ap BE) (Ao BE) (Ah BE) .none kV41 dc41 pm41 an41 cd41 ct41),sl41⟩) (c41:W.codeIn K cd41 "Pool.lay_draft"=true) (k41:W.keepIn K (.ref f41)=true)
  (a42:W.findIn K (.ref Af) "numbers"=some (some (.ref f42))) (i42:W.isFn K (.ref f42)=true) (l42:K.lookup f42=some ⟨oc42,od42,.func (W.fnOf "numbers" "Pool.numbers" (Ap Cq) (Ao Cq) (Ah Cq) .none kV42 dc42 pm42 an42 cd42 ct42),sl42⟩) (c42:W.codeIn K cd42 "Pool.numbers"=true) (k42:W.keepIn K (.ref f42)=true)
  (a43:W.findIn K (.ref Af) "tag"=some (some (.ref f43))) (i43:W.isFn K (.ref f43)=true) (l43:K.lookup f43=some ⟨oc43,od43,.func (W.fnOf "tag" "Pool.tag" (Ap Ez) (Ao Ez) (Ah Ez) .none kV43 dc43 pm43 an43 cd43 ct43),sl43⟩) (c43:W.codeIn K cd43 "Pool.tag"=true) (k43:W.keepIn K (.ref f43)=true)
  (a44:W.findIn K (.ref Af) "entries"=some (some (.ref f44))) (i44:W.isFn K (.ref f44)=true) (l44:K.lookup f44=some ⟨oc44,od44,.func (W.fnOf "entries" "Pool.entries" (Ap Ci) (Ao Ci) (Ah Ci) .none kV44 dc44 pm44 an44 cd44 ct44),sl44⟩) (c44:W.codeIn K cd44 "Pool.entries"=true) (k44:W.keepIn K (.ref f44)=true)
  (a45:W.findIn K (.ref Af) "deep"=some (some (.ref f45))) (i45:W.isFn K (.ref f45)=true) (l45:K.lookup f45=some ⟨oc45,od45,.func (W.fnOf "deep" "Pool.deep" (Ap DU) (Ao DU) (Ah DU) .none kV45 dc45 pm45 an45 cd45 ct45),sl45⟩) (c45:W.codeIn K cd45 "Pool.deep"=true) (k45:W.keepIn K (.ref f45)=true)
  (a46:W.findIn K (.ref Aa) "__init__"=some (some (.ref f46))) (i46:W.isFn K (.ref f46)=true) (l46:K.lookup f46=some ⟨oc46,od46,.func (W.fnOf "__init__" "Boards.__init__" (Ap CQ) (Ao CQ) (Ah CQ) .none kV46 dc46 pm46 an46 cd46 ct46),sl46⟩) (c46:W.codeIn K cd46 "Boards.__init__"=true) (k46:W.keepIn K (.ref f46)=true)
  (a47:W.findIn K (.ref Aa) "many"=some (some (.ref f47))) (i47:W.isFn K (.ref f47)=true) (l47:K.lookup f47=some ⟨oc47,od47,.func (W.fnOf "many" "Boards.many" (Ap CV) (Ao CV) (Ah CV) .none kV47 dc47 pm47 an47 cd47 ct47),sl47⟩) (c47:W.codeIn K cd47 "Boards.many"=true) (k47:W.keepIn K (.ref f47)=true)
  (a48:W.findIn K (.ref Aa) "write"=some (some (.ref f48))) (i48:W.isFn K (.ref f48)=true) (l48:K.lookup f48=some ⟨oc48,od48,.func (W.fnOf "write" "Boards.write" (Ap Ck) (Ao Ck) (Ah Ck) .none kV48 dc48 pm48 an48 cd48 ct48),sl48⟩) (c48:W.codeIn K cd48 "Boards.write"=true) (k48:W.keepIn K (.ref f48)=true)
  (a49:W.findIn K (.ref Aa) "cell"=some (some (.ref f49))) (i49:W.isFn K (.ref f49)=true) (l49:K.lookup f49=some ⟨oc49,od49,.func (W.fnOf "cell" "Boards.cell" (Ap CW) (Ao CW) (Ah CW) .none kV49 dc49 pm49 an49 cd49 ct49),sl49⟩) (c49:W.codeIn K cd49 "Boards.cell"=true) (k49:W.keepIn K (.ref f49)=true)
  (a50:W.findIn K (.ref Aa) "spoil"=some (some (.ref f50))) (i50:W.isFn K (.ref f50)=true) (l50:K.lookup f50=some ⟨oc50,od50,.func (W.fnOf "spoil" "Boards.spoil" (Ap Co) (Ao Co) (Ah Co) .none kV50 dc50 pm50 an50 cd50 ct50),sl50⟩) (c50:W.codeIn K cd50 "Boards.spoil"=true) (k50:W.keepIn K (.ref f50)=true)
  (a51:W.findIn K (.ref Aa) "written"=some (some (.ref f51))) (i51:W.isFn K (.ref f51)=true) (l51:K.lookup f51=some ⟨oc51,od51,.func (W.fnOf "written" "Boards.written" (Ap BF) (Ao BF) (Ah BF) .none kV51 dc51 pm51 an51 cd51 ct51),sl51⟩) (c51:W.codeIn K cd51 "Boards.written"=true) (k51:W.keepIn K (.ref f51)=true)
  (a52:W.findIn K (.ref Aa) "twins"=some (some (.ref f52))) (i52:W.isFn K (.ref f52)=true) (l52:K.lookup f52=some ⟨oc52,od52,.func (W.fnOf "twins" "Boards.twins" (Ap Cp) (Ao Cp) (Ah Cp) .none kV52 dc52 pm52 an52 cd52 ct52),sl52⟩) (c52:W.codeIn K cd52 "Boards.twins"=true) (k52:W.keepIn K (.ref f52)=true)
  (a53:W.findIn K (.ref Aa) "again"=some (some (.ref f53))) (i53:W.isFn K (.ref f53)=true) (l53:K.lookup f53=some ⟨oc53,od53,.func (W.fnOf "again" "Boards.again" (Ap Cc) (Ao Cc) (Ah Cc) .none kV53 dc53 pm53 an53 cd53 ct53),sl53⟩) (c53:W.codeIn K cd53 "Boards.again"=true) (k53:W.keepIn K (.ref f53)=true)
  (a54:W.findIn K (.ref Aa) "shelf"=some (some (.ref f54))) (i54:W.isFn K (.ref f54)=true) (l54:K.lookup f54=some ⟨oc54,od54,.func (W.fnOf "shelf" "Boards.shelf" (Ap Cg) (Ao Cg) (Ah Cg) .none kV54 dc54 pm54 an54 cd54 ct54),sl54⟩) (c54:W.codeIn K cd54 "Boards.shelf"=true) (k54:W.keepIn K (.ref f54)=true)
  (a55:W.nsIn K mainGlobals "_law_cell_at"=some (some (.ref f55))) (l55:K.lookup f55=some ⟨oc55,od55,.func (W.fnOf "_law_cell_at" "_law_cell_at" (Ap Cm) (Ao Cm) (Ah Cm) .none kV55 dc55 pm55 an55 cd55 ct55),sl55⟩) (c55:W.codeIn K cd55 "_law_cell_at"=true) (k55:W.keepIn K (.ref f55)=true)
  (a56:W.nsIn K mainGlobals "_law_row"=some (some (.ref f56))) (l56:K.lookup f56=some ⟨oc56,od56,.func (W.fnOf "_law_row" "_law_row" (Ap Et) (Ao Et) (Ah Et) .none kV56 dc56 pm56 an56 cd56 ct56),sl56⟩) (c56:W.codeIn K cd56 "_law_row"=true) (k56:W.keepIn K (.ref f56)=true)
  (a57:W.nsIn K mainGlobals "_law_signs"=some (some (.ref f57))) (l57:K.lookup f57=some ⟨oc57,od57,.func (W.fnOf "_law_signs" "_law_signs" (Ap Dh) (Ao Dh) (Ah Dh) .none kV57 dc57 pm57 an57 cd57 ct57),sl57⟩) (c57:W.codeIn K cd57 "_law_signs"=true) (k57:W.keepIn K (.ref f57)=true)
  (a58:W.nsIn K mainGlobals "_law_sum"=some (some (.ref f58))) (l58:K.lookup f58=some ⟨oc58,od58,.func (W.fnOf "_law_sum" "_law_sum" (Ap EI) (Ao EI) (Ah EI) .none kV58 dc58 pm58 an58 cd58 ct58),sl58⟩) (c58:W.codeIn K cd58 "_law_sum"=true) (k58:W.keepIn K (.ref f58)=true)
  (a59:W.nsIn K mainGlobals "_law_pair"=some (some (.ref f59))) (l59:K.lookup f59=some ⟨oc59,od59,.func (W.fnOf "_law_pair" "_law_pair" (Ap DS) (Ao DS) (Ah DS) .none kV59 dc59 pm59 an59 cd59 ct59),sl59⟩) (c59:W.codeIn K cd59 "_law_pair"=true) (k59:W.keepIn K (.ref f59)=true)
  (a60:W.nsIn K mainGlobals "_law_tried"=some (some (.ref f60))) (l60:K.lookup f60=some ⟨oc60,od60,.func (W.fnOf "_law_tried" "_law_tried" (Ap Dp) (Ao Dp) (Ah Dp) .none kV60 dc60 pm60 an60 cd60 ct60),sl60⟩) (c60:W.codeIn K cd60 "_law_tried"=true) (k60:W.keepIn K (.ref f60)=true)
  (a61:W.nsIn K mainGlobals "_law_right"=some (some (.ref f61))) (l61:K.lookup f61=some ⟨oc61,od61,.func (W.fnOf "_law_right" "_law_right" (Ap Du) (Ao Du) (Ah Du) .none kV61 dc61 pm61 an61 cd61 ct61),sl61⟩) (c61:W.codeIn K cd61 "_law_right"=true) (k61:W.keepIn K (.ref f61)=true)
  (a62:W.nsIn K mainGlobals "_law_known"=some (some (.ref f62))) (l62:K.lookup f62=some ⟨oc62,od62,.func (W.fnOf "_law_known" "_law_known" (Ap Dq) (Ao Dq) (Ah Dq) .none kV62 dc62 pm62 an62 cd62 ct62),sl62⟩) (c62:W.codeIn K cd62 "_law_known"=true) (k62:W.keepIn K (.ref f62)=true)
  (a63:W.nsIn K mainGlobals "_law_spoilt"=some (some (.ref f63))) (l63:K.lookup f63=some ⟨oc63,od63,.func (W.fnOf "_law_spoilt" "_law_spoilt" (Ap CY) (Ao CY) (Ah CY) .none kV63 dc63 pm63 an63 cd63 ct63),sl63⟩) (c63:W.codeIn K cd63 "_law_spoilt"=true) (k63:W.keepIn K (.ref f63)=true)
  (a64:W.nsIn K mainGlobals "law"=some (some (.ref f64))) (l64:K.lookup f64=some ⟨oc64,od64,.func (W.fnOf "law" "law" (Ap Kc) (Ao Kc) (Ah Kc) .none kV64 dc64 pm64 an64 cd64 ct64),sl64⟩) (c64:W.codeIn K cd64 "law"=true) (k64:W.keepIn K (.ref f64)=true)
  (FT:W.nsIn K mainGlobals "WordReader"=some (some (.ref Ac))) (Gh:W.plainGet K Ac Str.empty=true) (FY:W.hasDictIn K Ac=true) (Ge:W.plainOver K Ac=true) (Gr:W.findIn K (.ref Ac) "__setattr__"=some (some (.builtin "object.__setattr__"))) (FV:W.makesIn K Ac=true) (Gg:W.keepIn K (.ref Ac)=true)
  (n_WordReader_words:W.findIn K (.ref Ac) "words"=some none)
  (n_WordReader_place:W.findIn K (.ref Ac) "place"=some none)
  (KY:W.nsIn K mainGlobals "Boards"=some (some (.ref Aa))) (KW:W.plainGet K Aa Str.empty=true) (K0:W.hasDictIn K Aa=true) (KC:W.plainOver K Aa=true) (KB:W.findIn K (.ref Aa) "__setattr__"=some (some (.builtin "object.__setattr__"))) (KS:W.makesIn K Aa=true) (KJ:W.keepIn K (.ref Aa)=true)
  (n_Boards_shelves:W.findIn K (.ref Aa) "shelves"=some none)
  (n_Boards_writes:W.findIn K (.ref Aa) "writes"=some none)
  (n_Boards_writes_left:W.findIn K (.ref Aa) "writes_left"=some none)
  (G6:W.nsIn K mainGlobals "TakenCell"=some (some (.ref Ab))) (GV:W.plainGet K Ab Str.empty=true) (GO:W.hasDictIn K Ab=true) (GN:W.plainOver K Ab=true) (Hm:W.findIn K (.ref Ab) "__setattr__"=some (some (.builtin "object.__setattr__"))) (Ht:W.makesIn K Ab=true) (GR:W.keepIn K (.ref Ab)=true)
  (n_TakenCell_own_tag:W.findIn K (.ref Ab) "own_tag"=some none)
  (n_TakenCell_own_size:W.findIn K (.ref Ab) "own_size"=some none)
  (n_TakenCell_named:W.findIn K (.ref Ab) "named"=some none)
  (n_TakenCell_times_named:W.findIn K (.ref Ab) "times_named"=some none)
  (n_TakenCell_entries_beneath:W.findIn K (.ref Ab) "entries_beneath"=some none)
  (n_TakenCell_steps_beneath:W.findIn K (.ref Ab) "steps_beneath"=some none)
  (OL:W.nsIn K mainGlobals "Pool"=some (some (.ref Af))) (N9:W.plainGet K Af Str.empty=true) (OQ:W.hasDictIn K Af=true) (Oq:W.plainOver K Af=true) (OS:W.findIn K (.ref Af) "__setattr__"=some (some (.builtin "object.__setattr__"))) (Os:W.makesIn K Af=true) (OC:W.keepIn K (.ref Af)=true)
  (n_Pool_boards:W.findIn K (.ref Af) "boards"=some none)
  (n_Pool_taken:W.findIn K (.ref Af) "taken"=some none)
  (n_Pool_by_sums:W.findIn K (.ref Af) "by_sums"=some none)
  (n_Pool_draft:W.findIn K (.ref Af) "draft"=some none)
  (n_Pool_first_maybe_free:W.findIn K (.ref Af) "first_maybe_free"=some none)
  (x_Lost:W.nsIn K mainGlobals "Lost"=some (some (.ref Bi)))
  (x_NoThing:W.nsIn K mainGlobals "NoThing"=some (some (.ref Em)))
  (x_StemError:W.nsIn K mainGlobals "StemError"=some (some (.ref C8)))
  (x_TooMany:W.nsIn K mainGlobals "TooMany"=some (some (.ref Eo)))
  (m_Lost_Lost:W.exmOne K (.ref Bi) (.ref Bi)=some true)
  (m_Lost_StemError:W.exmOne K (.ref Bi) (.ref C8)=some true)
  (Oe:W.findIn K (.ref Bi) "__getattribute__"=some (some (.builtin "BaseException.__getattribute__")))
  (Oi:W.findIn K (.ref Bi) "__getattr__"=some none)
  (O7:W.findIn K (.ref Bi) "__class__"=some (some (.builtin "object.__class__")))
  (OB:W.specialIn K (.builtin "object.__class__") "__get__"=some (some (.builtin "getset_descriptor.__get__")))
  (Oy:W.takesIn K (.builtin "object.__class__")=some true)
  (O4:W.mroIn K Bi (.type "object")=some true)
  (OY:W.mroIn K Bi (.type "BaseException")=some true)
  (OP:Qf K Bi=true)
  (OZ:Y9 K Bi=true)
  (N8:W.findIn K (.ref Bi) "__setattr__"=some (some (.builtin "object.__setattr__")))
  (Pm:W.hasDictIn K Bi=true)
  (Pg:W.keepIn K (.ref Bi)=true)
  (Ol:W.findIn K (.ref Bi) "number"=some none)
  (k_Lost_Lost:W.kitOne K (.ref Bi) (.ref Bi)=some true)
  (k_Lost_ValueError:W.kitOne K (.ref Bi) (.type "ValueError")=some true)
  (k_Lost_NoThing:W.kitOne K (.ref Bi) (.ref Em)=some false)
  (k_Lost_TooMany:W.kitOne K (.ref Bi) (.ref Eo)=some false)
  (Hg:W.nsIn K mainGlobals "ValueError"=some none)
  (U0:W.nsIn K mainGlobals "abs"=some none)
  (UL:W.nsIn K mainGlobals "all"=some none)
  (Re:W.nsIn K mainGlobals "bool"=some none)
  (HU:W.nsIn K mainGlobals "enumerate"=some none)
  (Vt:W.nsIn K mainGlobals "int"=some none)
  (Ho:W.nsIn K mainGlobals "isinstance"=some none)
  (UK:W.nsIn K mainGlobals "len"=some none)
  (Rq:W.nsIn K mainGlobals "list"=some none)
  (VV:W.nsIn K mainGlobals "max"=some none)
  (UQ:W.nsIn K mainGlobals "min"=some none)
  (O5:W.nsIn K mainGlobals "range"=some none)
  (U1:W.nsIn K mainGlobals "set"=some none)
  (Mc:W.nsIn K mainGlobals "sorted"=some none)
  (U3:W.nsIn K mainGlobals "str"=some none)
  (Uu:W.nsIn K mainGlobals "sum"=some none)
  (Ob:W.nsIn K mainGlobals "tuple"=some none)
  (Pi:W.nsIn K mainGlobals "SIGNS"=some (some (.str (PySem.Str.ofString " !\"#$&'()*+,-./0123456789:;<=>?@ABCDEFGHIJKLMNOPQRSTUVWXYZ[\\]^_`abcdefghijklmnopqrstuvwxyz{|}~") t_SIGNS)))
  (Gd:W.nsIn K mainGlobals "MOST_NUMBER"=some (some (.int 999999999 t_MOST_NUMBER)))
  (Hh:W.nsIn K mainGlobals "MOST_SIGNS"=some (some (.int 400 t_MOST_SIGNS)))
  (GW:W.nsIn K mainGlobals "MOST_PARTS"=some (some (.int 100 t_MOST_PARTS)))
  (HW:W.nsIn K mainGlobals "MOST_DEEP"=some (some (.int 8 t_MOST_DEEP)))
  (FZ:W.nsIn K mainGlobals "NUMBER_WORD"=some (some (.int 0 t_NUMBER_WORD)))
  (HR:W.nsIn K mainGlobals "TEXT_WORD"=some (some (.int 1 t_TEXT_WORD)))
  (G9:W.nsIn K mainGlobals "TUPLE_WORD"=some (some (.int 2 t_TUPLE_WORD)))
  (OW:W.nsIn K mainGlobals "PIECE"=some (some (.int 0 t_PIECE)))
  (VR:W.nsIn K mainGlobals "ROW"=some (some (.int 1 t_ROW)))
  (Mb:W.nsIn K mainGlobals "FOLDER"=some (some (.int 2 t_FOLDER)))
  (G1:W.nsIn K mainGlobals "FILE_ENTRY"=some (some (.int 1 t_FILE_ENTRY)))
  (Fz:W.nsIn K mainGlobals "FOLDER_ENTRY"=some (some (.int 2 t_FOLDER_ENTRY)))
  (Hk:W.nsIn K mainGlobals "NAME_SIGNS"=some (some (.str (PySem.Str.ofString "0123456789abcdefghijklmnopqrstuvwxyz") t_NAME_SIGNS)))
  (Eg:W.nsIn K mainGlobals "MOST_NAME_SIGNS"=some (some (.int 8 t_MOST_NAME_SIGNS)))
  (IF:W.nsIn K mainGlobals "MOST_CELL"=some (some (.int 999999 t_MOST_CELL)))
  (GP:W.nsIn K mainGlobals "MOST_BIRTH"=some (some (.int 999999999 t_MOST_BIRTH)))
  (IA:W.nsIn K mainGlobals "SUM_RESTS"=some (some (.int 997 t_SUM_RESTS)))
  (DN:W.nsIn K mainGlobals "MOST_PIECE_SIGNS"=some (some (.int 8 t_MOST_PIECE_SIGNS)))
  (Hj:W.nsIn K mainGlobals "MOST_LEVEL"=some (some (.int 9 t_MOST_LEVEL)))
  (Il:W.nsIn K mainGlobals "MOST_TAGS"=some (some (.int 8 t_MOST_TAGS)))
  (Fo:W.nsIn K mainGlobals "MOST_ENTRIES"=some (some (.int 16 t_MOST_ENTRIES)))
  (G0:W.nsIn K mainGlobals "MARK_RESTS"=some (some (.int 2147483647 t_MARK_RESTS)))
  (Fu:W.nsIn K mainGlobals "LEAST_BOARDS"=some (some (.int 2 t_LEAST_BOARDS)))
  (Gm:W.nsIn K mainGlobals "MOST_BOARDS"=some (some (.int 4 t_MOST_BOARDS))) :
  ∃fd:FuncData,(∀(s:Shared) (v:Value),BindsTo s fd ⟨[v],[]⟩ [("_law_script",v)])/\∀base:Heap,K.In base->base.Ns mainGlobals mg->FnOk l.prog w K mg base CG 22 fa fd ["_law_script"] (Ot K):=by
 have e:=hfa.symm.trans (W.mg_of X G a64);cases e;have T:Txt K mg Ac Aa Ab Af (λn=>match n with|0=>Bi|1=>Em|2=>C8|3=>Eo|_=>0):=⟨⟨Gh,FY,Ge,Gr⟩,n_WordReader_words,n_WordReader_place,⟨KW,K0,KC,KB⟩,n_Boards_shelves,n_Boards_writes,n_Boards_writes_left,⟨GV,GO,GN,Hm⟩,n_TakenCell_own_tag,n_TakenCell_own_size,n_TakenCell_named,n_TakenCell_times_named,n_TakenCell_entries_beneath,n_TakenCell_steps_beneath,⟨N9,OQ,Oq,OS⟩,n_Pool_boards,n_Pool_taken,n_Pool_by_sums,n_Pool_draft,n_Pool_first_maybe_free,W.mg_of X G x_Lost,W.mg_of X G x_NoThing,W.mg_of X G x_StemError,W.mg_of X G x_TooMany,m_Lost_Lost,m_Lost_StemError,⟨⟨Oe,Oi,O7,OB,Oy,O4,OY⟩,N8,OZ,Pm⟩,Ol,k_Lost_Lost,k_Lost_ValueError,k_Lost_NoThing,k_Lost_TooMany,W.mg_none_of X G Hg,W.mg_none_of X G U0,W.mg_none_of X G UL,W.mg_none_of X G Re,W.mg_none_of X G HU,W.mg_none_of X G Vt,W.mg_none_of X G Ho,W.mg_none_of X G UK,W.mg_none_of X G Rq,W.mg_none_of X G VV,W.mg_none_of X G UQ,W.mg_none_of X G O5,W.mg_none_of X G U1,W.mg_none_of X G Mc,W.mg_none_of X G U3,W.mg_none_of X G Uu,W.mg_none_of X G Ob,⟨_,W.mg_of X G Pi⟩,⟨_,W.mg_of X G Gd⟩,⟨_,W.mg_of X G Hh⟩,⟨_,W.mg_of X G GW⟩,⟨_,W.mg_of X G HW⟩,⟨_,W.mg_of X G FZ⟩,⟨_,W.mg_of X G HR⟩,⟨_,W.mg_of X G G9⟩,⟨_,W.mg_of X G OW⟩,⟨_,W.mg_of X G VR⟩,⟨_,W.mg_of X G Mb⟩,⟨_,W.mg_of X G G1⟩,⟨_,W.mg_of X G Fz⟩,⟨_,W.mg_of X G Hk⟩,⟨_,W.mg_of X G Eg⟩,⟨_,W.mg_of X G IF⟩,⟨_,W.mg_of X G GP⟩,⟨_,W.mg_of X G IA⟩,⟨_,W.mg_of X G DN⟩,⟨_,W.mg_of X G Hj⟩,⟨_,W.mg_of X G Il⟩,⟨_,W.mg_of X G Fo⟩,⟨_,W.mg_of X G G0⟩,⟨_,W.mg_of X G Fu⟩,⟨_,W.mg_of X G Gm⟩⟩
 have F0:=Ax (st:=Ep) l0 c0 k0;have b0:=F0.binds (ps:=["thing"]) λ_ _ _ _ _ _ us hl=>by
  obtain⟨_,rfl⟩:=Ku hl;rfl
 have F1:=Ax (st:=Do) l1 c1 k1;have b1:=F1.binds (ps:=["thing","least","most"]) λ_ _ _ _ _ _ us hl=>by
  obtain⟨_,_,_,rfl⟩:=V0 hl;rfl
 have F2:=Ax (st:=CU) l2 c2 k2;have b2:=F2.binds (ps:=["thing","many"]) λ_ _ _ _ _ _ us hl=>by
  obtain⟨_,_,rfl⟩:=ln2 hl;rfl
 have F3:=Ax (st:=DQ) l3 c3 k3;have b3:=F3.binds (ps:=["sign"]) λ_ _ _ _ _ _ us hl=>by
  obtain⟨_,rfl⟩:=Ku hl;rfl
 have F4:=Ax (st:=Fh) l4 c4 k4;have b4:=F4.binds (ps:=["number"]) λ_ _ _ _ _ _ us hl=>by
  obtain⟨_,rfl⟩:=Ku hl;rfl
 have F5:=Ax (st:=Fe) l5 c5 k5;have b5:=F5.binds (ps:=["thing","least","most"]) λ_ _ _ _ _ _ us hl=>by
  obtain⟨_,_,_,rfl⟩:=V0 hl;rfl
 have F6:=Ax (st:=DW) l6 c6 k6;have b6:=F6.binds (ps:=["self","number"]) λ_ _ _ _ _ _ us hl=>by
  obtain⟨_,_,rfl⟩:=ln2 hl;rfl
 have F7:=Ax (st:=Dc) l7 c7 k7;have b7:=F7.binds (ps:=["thing"]) λ_ _ _ _ _ _ us hl=>by
  obtain⟨_,rfl⟩:=Ku hl;rfl
 have F8:=Ax (st:=EG) l8 c8 k8;have b8:=F8.binds (ps:=["words"]) λ_ _ _ _ _ _ us hl=>by
  obtain⟨_,rfl⟩:=Ku hl;rfl
 have F9:=Ax (st:=Bv) l9 c9 k9;have b9:=F9.binds (ps:=["self","words"]) λ_ _ _ _ _ _ us hl=>by
  obtain⟨_,_,rfl⟩:=ln2 hl;rfl
 have F10:=Ax (st:=AV) l10 c10 k10;have b10:=F10.binds (ps:=["self"]) λ_ _ _ _ _ _ us hl=>by
  obtain⟨_,rfl⟩:=Ku hl;rfl
 have F11:=Ax (st:=A8) l11 c11 k11;have b11:=F11.binds (ps:=["self","most"]) λ_ _ _ _ _ _ us hl=>by
  obtain⟨_,_,rfl⟩:=ln2 hl;rfl
 have F12:=Ax (st:=BW) l12 c12 k12;have b12:=F12.binds (ps:=["reader","deep"]) λ_ _ _ _ _ _ us hl=>by
  obtain⟨_,_,rfl⟩:=ln2 hl;rfl
 have F13:=Ax (st:=DR) l13 c13 k13;have b13:=F13.binds (ps:=["reader"]) λ_ _ _ _ _ _ us hl=>by
  obtain⟨_,rfl⟩:=Ku hl;rfl
 have F14:=Ax (st:=Fg) l14 c14 k14;have b14:=F14.binds (ps:=["thing"]) λ_ _ _ _ _ _ us hl=>by
  obtain⟨_,rfl⟩:=Ku hl;rfl
 have F15:=Ax (st:=GE) l15 c15 k15;have b15:=F15.binds (ps:=["thing"]) λ_ _ _ _ _ _ us hl=>by
  obtain⟨_,rfl⟩:=Ku hl;rfl
 have F16:=Ax (st:=En) l16 c16 k16;have b16:=F16.binds (ps:=["thing"]) λ_ _ _ _ _ _ us hl=>by
  obtain⟨_,rfl⟩:=Ku hl;rfl
 have F17:=Ax (st:=Cn) l17 c17 k17;have b17:=F17.binds (ps:=["thing","level"]) λ_ _ _ _ _ _ us hl=>by
  obtain⟨_,_,rfl⟩:=ln2 hl;rfl
 have F18:=Ax (st:=CN) l18 c18 k18;have b18:=F18.binds (ps:=["thing"]) λ_ _ _ _ _ _ us hl=>by
  obtain⟨_,rfl⟩:=Ku hl;rfl
 have F19:=Ax (st:=Ew) l19 c19 k19;have b19:=F19.binds (ps:=["thing"]) λ_ _ _ _ _ _ us hl=>by
  obtain⟨_,rfl⟩:=Ku hl;rfl
 have F20:=Ax (st:=GJ) l20 c20 k20;have b20:=F20.binds (ps:=["block"]) λ_ _ _ _ _ _ us hl=>by
  obtain⟨_,rfl⟩:=Ku hl;rfl
 have F21:=Ax (st:=Ct) l21 c21 k21;have b21:=F21.binds (ps:=["block"]) λ_ _ _ _ _ _ us hl=>by
  obtain⟨_,rfl⟩:=Ku hl;rfl
 have F22:=Ax (st:=Fd) l22 c22 k22;have b22:=F22.binds (ps:=["block"]) λ_ _ _ _ _ _ us hl=>by
  obtain⟨_,rfl⟩:=Ku hl;rfl
 have F23:=Ax (st:=Ff) l23 c23 k23;have b23:=F23.binds (ps:=["block"]) λ_ _ _ _ _ _ us hl=>by
  obtain⟨_,rfl⟩:=Ku hl;rfl
 have F24:=Ax (st:=Fi) l24 c24 k24;have b24:=F24.binds (ps:=["words"]) λ_ _ _ _ _ _ us hl=>by
  obtain⟨_,rfl⟩:=Ku hl;rfl
 have F25:=Ax (st:=Gs) l25 c25 k25;have b25:=F25.binds (ps:=["words"]) λ_ _ _ _ _ _ us hl=>by
  obtain⟨_,rfl⟩:=Ku hl;rfl
 have F26:=Ax (st:=El) l26 c26 k26;have b26:=F26.binds (ps:=["row"]) λ_ _ _ _ _ _ us hl=>by
  obtain⟨_,rfl⟩:=Ku hl;rfl
 have F27:=Ax (st:=Nz) l27 c27 k27;have b27:=F27.binds (ps:=["boards","number","birth","block"]) λ_ _ _ _ _ _ us hl=>by
  obtain⟨_,_,_,_,rfl⟩:=Zb hl;rfl
 have F28:=Ax (st:=Fj) l28 c28 k28;have b28:=F28.binds (ps:=["boards","tag"]) λ_ _ _ _ _ _ us hl=>by
  obtain⟨_,_,rfl⟩:=ln2 hl;rfl
 have F29:=Ax (st:=Eu) l29 c29 k29;have b29:=F29.binds (ps:=["boards","board","tag"]) λ_ _ _ _ _ _ us hl=>by
  obtain⟨_,_,_,rfl⟩:=V0 hl;rfl
 have F30:=Ax (st:=Ek) l30 c30 k30;have b30:=F30.binds (ps:=["boards","board","number"]) λ_ _ _ _ _ _ us hl=>by
  obtain⟨_,_,_,rfl⟩:=V0 hl;rfl
 have F31:=Ax (st:=BD) l31 c31 k31;have b31:=F31.binds (ps:=["self","own_tag","block"]) λ_ _ _ _ _ _ us hl=>by
  obtain⟨_,_,_,rfl⟩:=V0 hl;rfl
 have F32:=Ax (st:=DP) l32 c32 k32;have b32:=F32.binds (ps:=["self","boards"]) λ_ _ _ _ _ _ us hl=>by
  obtain⟨_,_,rfl⟩:=ln2 hl;rfl
 have F33:=Ax (st:=EE) l33 c33 k33;have b33:=F33.binds (ps:=["self","block","birth"]) λ_ _ _ _ _ _ us hl=>by
  obtain⟨_,_,_,rfl⟩:=V0 hl;rfl
 have F34:=Ax (st:=Dm) l34 c34 k34;have b34:=F34.binds (ps:=["self","block"]) λ_ _ _ _ _ _ us hl=>by
  obtain⟨_,_,rfl⟩:=ln2 hl;rfl
 have F35:=Ax (st:=Bj) l35 c35 k35;have b35:=F35.binds (ps:=["self"]) λ_ _ _ _ _ _ us hl=>by
  obtain⟨_,rfl⟩:=Ku hl;rfl
 have F36:=Ax (st:=DX) l36 c36 k36;have b36:=F36.binds (ps:=["self","tag","block"]) λ_ _ _ _ _ _ us hl=>by
  obtain⟨_,_,_,rfl⟩:=V0 hl;rfl
 have F37:=Ax (st:=Bu) l37 c37 k37;have b37:=F37.binds (ps:=["self","folder"]) λ_ _ _ _ _ _ us hl=>by
  obtain⟨_,_,rfl⟩:=ln2 hl;rfl
 have F38:=Ax (st:=BR) l38 c38 k38;have b38:=F38.binds (ps:=["self","folder"]) λ_ _ _ _ _ _ us hl=>by
  obtain⟨_,_,rfl⟩:=ln2 hl;rfl
 have F39:=Ax (st:=Dl) l39 c39 k39;have b39:=F39.binds (ps:=["self","tag"]) λ_ _ _ _ _ _ us hl=>by
  obtain⟨_,_,rfl⟩:=ln2 hl;rfl
 have F40:=Ax (st:=DO) l40 c40 k40;have b40:=F40.binds (ps:=["self","tag"]) λ_ _ _ _ _ _ us hl=>by
  obtain⟨_,_,rfl⟩:=ln2 hl;rfl
 have F41:=Ax (st:=BE) l41 c41 k41;have b41:=F41.binds (ps:=["self"]) λ_ _ _ _ _ _ us hl=>by
  obtain⟨_,rfl⟩:=Ku hl;rfl
 have F42:=Ax (st:=Cq) l42 c42 k42;have b42:=F42.binds (ps:=["self"]) λ_ _ _ _ _ _ us hl=>by
  obtain⟨_,rfl⟩:=Ku hl;rfl
 have F43:=Ax (st:=Ez) l43 c43 k43;have b43:=F43.binds (ps:=["self","number"]) λ_ _ _ _ _ _ us hl=>by
  obtain⟨_,_,rfl⟩:=ln2 hl;rfl
 have F44:=Ax (st:=Ci) l44 c44 k44;have b44:=F44.binds (ps:=["self","number"]) λ_ _ _ _ _ _ us hl=>by
  obtain⟨_,_,rfl⟩:=ln2 hl;rfl
 have F45:=Ax (st:=DU) l45 c45 k45;have b45:=F45.binds (ps:=["self","number"]) λ_ _ _ _ _ _ us hl=>by
  obtain⟨_,_,rfl⟩:=ln2 hl;rfl
 have F46:=Ax (st:=CQ) l46 c46 k46;have b46:=F46.binds (ps:=["self","many"]) λ_ _ _ _ _ _ us hl=>by
  obtain⟨_,_,rfl⟩:=ln2 hl;rfl
 have F47:=Ax (st:=CV) l47 c47 k47;have b47:=F47.binds (ps:=["self"]) λ_ _ _ _ _ _ us hl=>by
  obtain⟨_,rfl⟩:=Ku hl;rfl
 have F48:=Ax (st:=Ck) l48 c48 k48;have b48:=F48.binds (ps:=["self","board","number","row"]) λ_ _ _ _ _ _ us hl=>by
  obtain⟨_,_,_,_,rfl⟩:=Zb hl;rfl
 have F49:=Ax (st:=CW) l49 c49 k49;have b49:=F49.binds (ps:=["self","board","number"]) λ_ _ _ _ _ _ us hl=>by
  obtain⟨_,_,_,rfl⟩:=V0 hl;rfl
 have F50:=Ax (st:=Co) l50 c50 k50;have b50:=F50.binds (ps:=["self","board","number","row"]) λ_ _ _ _ _ _ us hl=>by
  obtain⟨_,_,_,_,rfl⟩:=Zb hl;rfl
 have F51:=Ax (st:=BF) l51 c51 k51;have b51:=F51.binds (ps:=["self"]) λ_ _ _ _ _ _ us hl=>by
  obtain⟨_,rfl⟩:=Ku hl;rfl
 have F52:=Ax (st:=Cp) l52 c52 k52;have b52:=F52.binds (ps:=["self","number"]) λ_ _ _ _ _ _ us hl=>by
  obtain⟨_,_,rfl⟩:=ln2 hl;rfl
 have F53:=Ax (st:=Cc) l53 c53 k53;have b53:=F53.binds (ps:=["self"]) λ_ _ _ _ _ _ us hl=>by
  obtain⟨_,rfl⟩:=Ku hl;rfl
 have F54:=Ax (st:=Cg) l54 c54 k54;have b54:=F54.binds (ps:=["self","board"]) λ_ _ _ _ _ _ us hl=>by
  obtain⟨_,_,rfl⟩:=ln2 hl;rfl
 have F55:=Ax (st:=Cm) l55 c55 k55;have b55:=F55.binds (ps:=["_law_script","_law_k"]) λ_ _ _ _ _ _ us hl=>by
  obtain⟨_,_,rfl⟩:=ln2 hl;rfl
 have F56:=Ax (st:=Et) l56 c56 k56;have b56:=F56.binds (ps:=["_law_cell","_law_many"]) λ_ _ _ _ _ _ us hl=>by
  obtain⟨_,_,rfl⟩:=ln2 hl;rfl
 have F57:=Ax (st:=Dh) l57 c57 k57;have b57:=F57.binds (ps:=[]) λ_ _ _ _ _ _ us hl=>by
  cases bf hl;rfl
 have F58:=Ax (st:=EI) l58 c58 k58;have b58:=F58.binds (ps:=["_law_block"]) λ_ _ _ _ _ _ us hl=>by
  obtain⟨_,rfl⟩:=Ku hl;rfl
 have F59:=Ax (st:=DS) l59 c59 k59;have b59:=F59.binds (ps:=["_law_row_here"]) λ_ _ _ _ _ _ us hl=>by
  obtain⟨_,rfl⟩:=Ku hl;rfl
 have F60:=Ax (st:=Dp) l60 c60 k60;have b60:=F60.binds (ps:=["_law_pool","_law_block","_law_tag"]) λ_ _ _ _ _ _ us hl=>by
  obtain⟨_,_,_,rfl⟩:=V0 hl;rfl
 have F61:=Ax (st:=Du) l61 c61 k61;have b61:=F61.binds (ps:=["_law_pool","_law_block","_law_known_here","_law_gone"]) λ_ _ _ _ _ _ us hl=>by
  obtain⟨_,_,_,_,rfl⟩:=Zb hl;rfl
 have F62:=Ax (st:=Dq) l62 c62 k62;have b62:=F62.binds (ps:=["_law_pool","_law_rows"]) λ_ _ _ _ _ _ us hl=>by
  obtain⟨_,_,rfl⟩:=ln2 hl;rfl
 have F63:=Ax (st:=CY) l63 c63 k63;have b63:=F63.binds (ps:=["_law_boards","_law_kept","_law_known_here","_law_rows"]) λ_ _ _ _ _ _ us hl=>by
  obtain⟨_,_,_,_,rfl⟩:=Zb hl;rfl
 have F64:=Ax (st:=Kc) l64 c64 k64;refine⟨W.fnOf "law" "law" (Ap Kc) (Ao Kc) (Ah Kc) .none kV64 dc64 pm64 an64 cd64 ct64,λs v=>.of_eq rfl,λbase _ _=>?_⟩;have Bd:Def l.prog w K mg base 1 "is_whole" ["thing"] (C5 K):=⟨_,_,QD T F0 ,W.mg_of X G a0,k0,b0⟩
 have BC:Def l.prog w K mg base 1 "is_tuple_of" ["thing","many"] (C7 K):=⟨_,_,LO T F2 ,W.mg_of X G a2,k2,b2⟩
 have Be:Def l.prog w K mg base 1 "number_of" ["sign"] (Dr K):=⟨_,_,Ow T F3 ,W.mg_of X G a3,k3,b3⟩
 have Kv:Def l.prog w K mg base 1 "sign_of" ["number"] (Ju K):=⟨_,_,RR T F4 ,W.mg_of X G a4,k4,b4⟩
 have Gz:Def l.prog w K mg base 1 "is_text" ["thing","least","most"] (GM K):=⟨_,_,QN T F5 ,W.mg_of X G a5,k5,b5⟩
 have DZ:Wi l.prog w K mg base 1 "Lost" Bi "number" ["self","number"]:=⟨_,_,⟨OP,a6,i6,Pg⟩,Oj T F6,W.mg_of X G x_Lost,b6⟩
 have D8:MZ l.prog w K mg base 1 Ac "WordReader" ["self","words"] (DE K Ac):=⟨_,_,Js T F9 ,⟨FV,a9,i9,Gg⟩,W.mg_of X G FT,b9⟩
 have AW:A9 l.prog w K mg base 1 Ac "is_through" ["self"] (Bo K Ac):=⟨_,_,Gi T F10 ,⟨a10,i10,k10⟩,b10⟩
 have KM:Def l.prog w K mg base 1 "tags_in" ["block"] (JH K):=⟨_,_,RB T F23 ,W.mg_of X G a23,k23,b23⟩
 have Fc:Def l.prog w K mg base 1 "mark_of" ["words"] (Hu K):=⟨_,_,Rj T F24 ,W.mg_of X G a24,k24,b24⟩
 have Ii:MZ l.prog w K mg base 1 Af "Pool" ["self","boards"] (G7 K Af):=⟨_,_,OD T F32 ,⟨Os,a32,i32,OC⟩,W.mg_of X G OL,b32⟩
 have DI:A9 l.prog w K mg base 1 Af "free_number" ["self"] (Dv K Af Ab):=⟨_,_,Je T F35 ,⟨a35,i35,k35⟩,b35⟩
 have DT:A9 l.prog w K mg base 1 Af "hold" ["self","tag"] (D1 K Af Ab):=⟨_,_,OT T F40 ,⟨a40,i40,k40⟩,b40⟩
 have Cr:A9 l.prog w K mg base 1 Af "numbers" ["self"] (DB K Af Ab):=⟨_,_,Lq T F42 ,⟨a42,i42,k42⟩,b42⟩
 have DL:A9 l.prog w K mg base 1 Af "tag" ["self","number"] (FO K Af Ab):=⟨_,_,PU T F43 ,⟨a43,i43,k43⟩,b43⟩
 have FC:A9 l.prog w K mg base 1 Af "entries" ["self","number"] (E3 K Af Ab):=⟨_,_,Lh T F44 ,⟨a44,i44,k44⟩,b44⟩
 have Im:A9 l.prog w K mg base 1 Af "deep" ["self","number"] (He K Af Ab):=⟨_,_,OR T F45 ,⟨a45,i45,k45⟩,b45⟩
 have AU:A9 l.prog w K mg base 1 Aa "many" ["self"] (Ce K Aa):=⟨_,_,MS T F47 ,⟨a47,i47,k47⟩,b47⟩
 have Dt:A9 l.prog w K mg base 1 Aa "written" ["self"] (Eb K Aa):=⟨_,_,J4 T F51 ,⟨a51,i51,k51⟩,b51⟩
 have FF:Def l.prog w K mg base 1 "_law_cell_at" ["_law_script","_law_k"] (EX K):=⟨_,_,LA T F55 ,W.mg_of X G a55,k55,b55⟩
 have Jz:Def l.prog w K mg base 1 "_law_row" ["_law_cell","_law_many"] (HN K):=⟨_,_,QJ T F56 ,W.mg_of X G a56,k56,b56⟩
 have Cz:Def l.prog w K mg base 1 "_law_signs" [] (EJ K):=⟨_,_,MV T F57 ,W.mg_of X G a57,k57,b57⟩
 have AD:Def l.prog w K mg base 2 "is_between" ["thing","least","most"] (Bn K):=⟨_,_,MW T F1 Bd,W.mg_of X G a1,k1,b1⟩
 have N5:Def l.prog w K mg base 2 "is_name" ["thing"] (Jw K):=⟨_,_,Rg T F14 Gz,W.mg_of X G a14,k14,b14⟩
 have Ft:Def l.prog w K mg base 2 "numbers_told" ["block"] (E2 K):=⟨_,_,Ls T F21 Be,W.mg_of X G a21,k21,b21⟩
 have LY:Def l.prog w K mg base 2 "sealed" ["words"] (KG K):=⟨_,_,T5 T F25 Fc,W.mg_of X G a25,k25,b25⟩
 have Ec:A9 l.prog w K mg base 2 Af "entries_of" ["self","folder"] (DG K Af Ab):=⟨_,_,Jx T F37 FC,⟨a37,i37,k37⟩,b37⟩
 have E4:A9 l.prog w K mg base 2 Af "steps_of" ["self","folder"] (EA K Af Ab):=⟨_,_,KN T F38 Im,⟨a38,i38,k38⟩,b38⟩
 have Bb:A9 l.prog w K mg base 2 Aa "twins" ["self","number"] (CM K Aa):=⟨_,_,Lj T F52 AU,⟨a52,i52,k52⟩,b52⟩
 have JE:Def l.prog w K mg base 2 "_law_sum" ["_law_block"] (IJ K):=⟨_,_,P4 T F58 Cz,W.mg_of X G a58,k58,b58⟩
 have DY:Def l.prog w K mg base 2 "_law_pair" ["_law_row_here"] (E6 K):=⟨_,_,Oh T F59 Cz,W.mg_of X G a59,k59,b59⟩
 have Aw:A9 l.prog w K mg base 3 Ac "word_to" ["self","most"] (A2 K Ac):=⟨_,_,HE T F11 AW AD,⟨a11,i11,k11⟩,b11⟩
 have HP:Def l.prog w K mg base 3 "is_tag" ["thing"] (IV K):=⟨_,_,Sy T F15 AD BC,W.mg_of X G a15,k15,b15⟩
 have Ef:Def l.prog w K mg base 3 "sum_of" ["block"] (GK K):=⟨_,_,SV T F20 Ft,W.mg_of X G a20,k20,b20⟩
 have JG:Def l.prog w K mg base 3 "unsealed" ["row"] (Ig K):=⟨_,_,PR T F26 Fc AD,W.mg_of X G a26,k26,b26⟩
 have CO:MZ l.prog w K mg base 3 Aa "Boards" ["self","many"] (D7 K Aa):=⟨_,_,L9 T F46 AD,⟨KS,a46,i46,KJ⟩,W.mg_of X G KY,b46⟩
 have Bc:A9 l.prog w K mg base 3 Aa "shelf" ["self","board"] (CL K Aa):=⟨_,_,Lk T F54 AD AU,⟨a54,i54,k54⟩,b54⟩
 have Cu:Def l.prog w K mg base 4 "read_text" ["reader"] (Ea K Ac):=⟨_,_,O2 T F13 Aw Kv,W.mg_of X G a13,k13,b13⟩
 have Fp:Def l.prog w K mg base 4 "are_row_tags" ["thing","level"] (EZ K):=⟨_,_,Ln T F17 HP,W.mg_of X G a17,k17,b17⟩
 have JA:Def l.prog w K mg base 4 "is_entry" ["thing"] (HZ K):=⟨_,_,PY T F19 AD HP BC N5,W.mg_of X G a19,k19,b19⟩
 have FG:A9 l.prog w K mg base 4 Aa "write" ["self","board","number","row"] (EU K Aa):=⟨_,_,Ll T F48 Bc,⟨a48,i48,k48⟩,b48⟩
 have Bp:A9 l.prog w K mg base 4 Aa "cell" ["self","board","number"] (Cd K Aa):=⟨_,_,Mz T F49 Bc,⟨a49,i49,k49⟩,b49⟩
 have Ba:A9 l.prog w K mg base 4 Aa "spoil" ["self","board","number","row"] (CC K Aa):=⟨_,_,Ly T F50 Bc,⟨a50,i50,k50⟩,b50⟩
 have Gj:Def l.prog w K mg base 5 "are_entries" ["thing"] (Fn K):=⟨_,_,L0 T F18 JA,W.mg_of X G a18,k18,b18⟩
 have Fk:A9 l.prog w K mg base 5 Aa "again" ["self"] (EW K Aa):=⟨_,_,Lz T F53 CO AU Ba,⟨a53,i53,k53⟩,b53⟩
 have FX:Def l.prog w K mg base 5 "_law_spoilt" ["_law_boards","_law_kept","_law_known_here","_law_rows"] (FH K Aa l.prog w):=⟨_,_,LV T F63 Bb Bp Ba,W.mg_of X G a63,k63,b63⟩
 have JF:Def l.prog w K mg base 6 "is_block" ["thing"] (HV K):=⟨_,_,QB T F16 Gj Bd Gz AD Fp,W.mg_of X G a16,k16,b16⟩
 have C9:Def l.prog w K mg base 9 "words_of" ["thing"] (FQ K):=⟨_,_,PM T F7 Bd Be (W.mg_of X G a7) k7 b7,W.mg_of X G a7,k7,b7⟩
 have KQ:Def l.prog w K mg base 10 "size_of" ["block"] (Jq K):=⟨_,_,RD T F22 C9,W.mg_of X G a22,k22,b22⟩
 have VW:Def l.prog w K mg base 10 "lay" ["boards","number","birth","block"] (RE K Aa):=⟨_,_,YG T F27 LY Bb C9 FG,W.mg_of X G a27,k27,b27⟩
 have Ey:MZ l.prog w K mg base 11 Ab "TakenCell" ["self","own_tag","block"] (D2 K Ab):=⟨_,_,J1 T F31 KQ KM,⟨Ht,a31,i31,GR⟩,W.mg_of X G G6,b31⟩
 have Er:A9 l.prog w K mg base 11 Af "lay_draft" ["self"] (C1 K Af Ab Aa):=⟨_,_,J2 T F41 VW DL,⟨a41,i41,k41⟩,b41⟩
 have D6:Def l.prog w K mg base 12 "read_thing" ["reader","deep"] (Gc K Ac):=⟨_,_,Np T F12 Aw Cu (W.mg_of X G a12) k12 b12,W.mg_of X G a12,k12,b12⟩
 have Jy:Def l.prog w K mg base 13 "thing_of" ["words"] (Ie K):=⟨_,_,Px T F8 D8 D6 AW,W.mg_of X G a8,k8,b8⟩
 have IH:A9 l.prog w K mg base 13 Af "take" ["self","tag","block"] (GY K Af Ab):=⟨_,_,O3 T F36 Ey Ec E4 DT,⟨a36,i36,k36⟩,b36⟩
 have Jn:Def l.prog w K mg base 14 "thing_on" ["boards","board","number"] (Io K Aa):=⟨_,_,Qt T F30 Bp JG Jy,W.mg_of X G a30,k30,b30⟩
 have JJ:Def l.prog w K mg base 15 "block_on" ["boards","board","tag"] (FM K Aa):=⟨_,_,PV T F29 Jn BC JF Ef,W.mg_of X G a29,k29,b29⟩
 have KU:XR l.prog w K mg base 16 "fetched" ["boards","tag"] (Jv K Aa (λn=>match n with|0=>Bi|1=>Em|2=>C8|3=>Eo|_=>0)):=⟨_,_,Rv T F28 Bb DZ JJ,W.mg_of X G a28,k28,b28⟩
 have BA:Hw l.prog w K mg base 17 Af "block" ["self","tag"] (CS K Af Ab Aa (λn=>match n with|0=>Bi|1=>Em|2=>C8|3=>Eo|_=>0)):=⟨_,_,Nj T F39 KU,⟨a39,i39,k39⟩,b39⟩
 have Hd:Hw l.prog w K mg base 18 Af "alike" ["self","block"] (Gk K Af Ab Aa (λn=>match n with|0=>Bi|1=>Em|2=>C8|3=>Eo|_=>0)):=⟨_,_,Nc T F34 DZ Ef BA DL,⟨a34,i34,k34⟩,b34⟩
 have BY:Hw l.prog w K mg base 19 Af "put" ["self","block","birth"] (C3 K Af Ab Aa (λn=>match n with|0=>Bi|1=>Em|2=>C8|3=>Eo|_=>0)):=⟨_,_,PB T F33 Hd IH DI Ef,⟨a33,i33,k33⟩,b33⟩
 have Dj:Def l.prog w K mg base 20 "_law_tried" ["_law_pool","_law_block","_law_tag"] (BX K Af Ab Aa):=⟨_,_,Na T F60 BA BY,W.mg_of X G a60,k60,b60⟩
 have GT:Def l.prog w K mg base 20 "_law_known" ["_law_pool","_law_rows"] (Gb K Af Ab Aa l.prog w):=⟨_,_,Nb T F62 Er DY BY DT,W.mg_of X G a62,k62,b62⟩
 have E9:Def l.prog w K mg base 21 "_law_right" ["_law_pool","_law_block","_law_known_here","_law_gone"] (Gn K Af Ab Aa l.prog w):=⟨_,_,Nh T F61 Cr Dj JE,W.mg_of X G a61,k61,b61⟩
 exact YN T F64 CO Ii GT Fk FX Dt Jz AU E9 Ba FF Dj DY Bp BA BY
theorem walk {l:W.OpenLaw} {q:Program} {loose:List Str} {XP:(Str->Option Value)->Heap->Prop} {YP:World->Heap->Prop} {d:DefRec} {K:Params->W.Frag} (hn:l.most=some 63) (hdf:d.params.defaults=[])
  (hY:∀(w:World) (h:Heap),YP w h->(K w.params).In h)
  (F:∀(w:World) (mg:Str->Option Value) (fa:Addr) (h:Heap),(K w.params).In h->h.Ns mainGlobals mg->mg d.name=some (.ref fa)->
   ∃fd:FuncData,(∀(s:Shared) (u:Value),BindsTo s fd ⟨[u],[]⟩ [("_law_script",u)])/\∀base:Heap,(K w.params).In base->base.Ns mainGlobals mg->FnOk l.prog w (K w.params) mg base CG 22 fa fd ["_law_script"] (Ot (K w.params))) :
  W.WalkO q loose XP YP l.row.toRowW d [] (λf vs=>PySem.call f vs):=
 L2.WV (n:=63) (k:=22) (x:="_law_script") (CX:=λ_=>CG) (sp:=λw=>Ot (K w.params)) hn (by decide) hdf ⟨rfl,by decide,by decide⟩ hY F (λ_ _ a ns hl _ hS=>⟨a,ns,rfl,hS,hl,λ_=>rfl⟩) λ_ _ _ _ _ z=>z
end K51
def PySem.W.Fast.tw15641715125113993005:Type:=PySem.Expr
theorem PySem.W.Fast.te15641715125113993005:PySem.Expr = PySem.W.Fast.tw15641715125113993005:=rfl
def PySem.W.Fast.tw90343872475197607:Type:=PySem.Params
theorem PySem.W.Fast.te90343872475197607:PySem.Params = PySem.W.Fast.tw90343872475197607:=rfl
open PySem PySem.W PyProof.Rows
set_option maxRecDepth 100000 in
set_option maxHeartbeats 0 in
theorem PySem.Challenge.cw_stemshelf_k51_puts_beside_lost_blocks_holds : PySem.Challenge.rw_stemshelf_k51_puts_beside_lost_blocks.Holds := by
 w_on;o_law;k_head;(case hw=>w_witness2)
 k_fill
 refine K51.walk (l:=PySem.Challenge.rw_stemshelf_k51_puts_beside_lost_blocks) rfl rfl (λw h Y=>W.kIn_of Y) ?F
 case F=>
  intro w mg fa h KX G hmg
  refine' K51.all_mk KX G hmg ?a0 ?l0 ?c0 ?k0 ?a1 ?l1 ?c1 ?k1 ?a2 ?l2 ?c2 ?k2 ?a3 ?l3 ?c3 ?k3 ?a4 ?l4 ?c4 ?k4 ?a5 ?l5 ?c5 ?k5 ?a6 ?i6 ?l6 ?c6 ?k6 ?a7 ?l7 ?c7 ?k7 ?a8 ?l8 ?c8 ?k8 ?a9 ?i9 ?l9 ?c9 ?k9 ?a10 ?i10 ?l10 ?c10 ?k10 ?a11 ?i11 ?l11 ?c11 ?k11 ?a12 ?l12 ?c12 ?k12 ?a13 ?l13 ?c13 ?k13 ?a14 ?l14 ?c14 ?k14 ?a15 ?l15 ?c15 ?k15 ?a16 ?l16 ?c16 ?k16 ?a17 ?l17 ?c17 ?k17 ?a18 ?l18 ?c18 ?k18 ?a19 ?l19 ?c19 ?k19 ?a20 ?l20 ?c20 ?k20 ?a21 ?l21 ?c21 ?k21 ?a22 ?l22 ?c22 ?k22 ?a23 ?l23 ?c23 ?k23 ?a24 ?l24 ?c24 ?k24 ?a25 ?l25 ?c25 ?k25 ?a26 ?l26 ?c26 ?k26 ?a27 ?l27 ?c27 ?k27 ?a28 ?l28 ?c28 ?k28 ?a29 ?l29 ?c29 ?k29 ?a30 ?l30 ?c30 ?k30 ?a31 ?i31 ?l31 ?c31 ?k31 ?a32 ?i32 ?l32 ?c32 ?k32 ?a33 ?i33 ?l33 ?c33 ?k33 ?a34 ?i34 ?l34 ?c34 ?k34 ?a35 ?i35 ?l35 ?c35 ?k35 ?a36 ?i36 ?l36 ?c36 ?k36 ?a37 ?i37 ?l37 ?c37 ?k37 ?a38 ?i38 ?l38 ?c38 ?k38 ?a39 ?i39 ?l39 ?c39 ?k39 ?a40 ?i40 ?l40 ?c40 ?k40 ?a41 ?i41 ?l41 ?c41 ?k41 ?a42 ?i42 ?l42 ?c42 ?k42 ?a43 ?i43 ?l43 ?c43 ?k43 ?a44 ?i44 ?l44 ?c44 ?k44 ?a45 ?i45 ?l45 ?c45 ?k45 ?a46 ?i46 ?l46 ?c46 ?k46 ?a47 ?i47 ?l47 ?c47 ?k47 ?a48 ?i48 ?l48 ?c48 ?k48 ?a49 ?i49 ?l49 ?c49 ?k49 ?a50 ?i50 ?l50 ?c50 ?k50 ?a51 ?i51 ?l51 ?c51 ?k51 ?a52 ?i52 ?l52 ?c52 ?k52 ?a53 ?i53 ?l53 ?c53 ?k53 ?a54 ?i54 ?l54 ?c54 ?k54 ?a55 ?l55 ?c55 ?k55 ?a56 ?l56 ?c56 ?k56 ?a57 ?l57 ?c57 ?k57 ?a58 ?l58 ?c58 ?k58 ?a59 ?l59 ?c59 ?k59 ?a60 ?l60 ?c60 ?k60 ?a61 ?l61 ?c61 ?k61 ?a62 ?l62 ?c62 ?k62 ?a63 ?l63 ?c63 ?k63 ?a64 ?l64 ?c64 ?k64 ?FT ?Gh ?FY ?Ge ?Gr ?FV ?Gg ?n_WordReader_words ?n_WordReader_place ?KY ?KW ?K0 ?KC ?KB ?KS ?KJ ?n_Boards_shelves ?n_Boards_writes ?n_Boards_writes_left ?G6 ?GV ?GO ?GN ?Hm ?Ht ?GR ?n_TakenCell_own_tag ?n_TakenCell_own_size ?n_TakenCell_named ?n_TakenCell_times_named ?n_TakenCell_entries_beneath ?n_TakenCell_steps_beneath ?OL ?N9 ?OQ ?Oq ?OS ?Os ?OC ?n_Pool_boards ?n_Pool_taken ?n_Pool_by_sums ?n_Pool_draft ?n_Pool_first_maybe_free ?x_Lost ?x_NoThing ?x_StemError ?x_TooMany ?m_Lost_Lost ?m_Lost_StemError ?Oe ?Oi ?O7 ?OB ?Oy ?O4 ?OY ?OP ?OZ ?N8 ?Pm ?Pg ?Ol ?k_Lost_Lost ?k_Lost_ValueError ?k_Lost_NoThing ?k_Lost_TooMany ?Hg ?U0 ?UL ?Re ?HU ?Vt ?Ho ?UK ?Rq ?VV ?UQ ?O5 ?U1 ?Mc ?U3 ?Uu ?Ob ?Pi ?Gd ?Hh ?GW ?HW ?FZ ?HR ?G9 ?OW ?VR ?Mb ?G1 ?Fz ?Hk ?Eg ?IF ?GP ?IA ?DN ?Hj ?Il ?Fo ?G0 ?Fu ?Gm
  (case FT|KY|G6|OL|x_Lost|x_NoThing|x_StemError|x_TooMany|a0|l0|c0|k0|a1|l1|c1|k1|a2|l2|c2|k2|a3|l3|c3|k3|a4|l4|c4|k4|a5|l5|c5|k5|a6|i6|l6|c6|k6|a7|l7|c7|k7|a8|l8|c8|k8|a9|i9|l9|c9|k9|a10|i10|l10|c10|k10|a11|i11|l11|c11|k11|a12|l12|c12|k12|a13|l13|c13|k13|a14|l14|c14|k14|a15|l15|c15|k15|a16|l16|c16|k16|a17|l17|c17|k17|a18|l18|c18|k18|a19|l19|c19|k19|a20|l20|c20|k20|a21|l21|c21|k21|a22|l22|c22|k22|a23|l23|c23|k23|a24|l24|c24|k24|a25|l25|c25|k25|a26|l26|c26|k26|a27|l27|c27|k27|a28|l28|c28|k28|a29|l29|c29|k29|a30|l30|c30|k30|a31|i31|l31|c31|k31|a32|i32|l32|c32|k32|a33|i33|l33|c33|k33|a34|i34|l34|c34|k34|a35|i35|l35|c35|k35|a36|i36|l36|c36|k36|a37|i37|l37|c37|k37|a38|i38|l38|c38|k38|a39|i39|l39|c39|k39|a40|i40|l40|c40|k40|a41|i41|l41|c41|k41|a42|i42|l42|c42|k42|a43|i43|l43|c43|k43|a44|i44|l44|c44|k44|a45|i45|l45|c45|k45|a46|i46|l46|c46|k46|a47|i47|l47|c47|k47|a48|i48|l48|c48|k48|a49|i49|l49|c49|k49|a50|i50|l50|c50|k50|a51|i51|l51|c51|k51|a52|i52|l52|c52|k52|a53|i53|l53|c53|k53|a54|i54|l54|c54|k54|a55|l55|c55|k55|a56|l56|c56|k56|a57|l57|c57|k57|a58|l58|c58|k58|a59|l59|c59|k59|a60|l60|c60|k60|a61|l61|c61|k61|a62|l62|c62|k62|a63|l63|c63|k63|a64|l64|c64|k64|Gh|FY|Ge|Gr|FV|Gg|n_WordReader_words|n_WordReader_place|KW|K0|KC|KB|KS|KJ|n_Boards_shelves|n_Boards_writes|n_Boards_writes_left|GV|GO|GN|Hm|Ht|GR|n_TakenCell_own_tag|n_TakenCell_own_size|n_TakenCell_named|n_TakenCell_times_named|n_TakenCell_entries_beneath|n_TakenCell_steps_beneath|N9|OQ|Oq|OS|Os|OC|n_Pool_boards|n_Pool_taken|n_Pool_by_sums|n_Pool_draft|n_Pool_first_maybe_free=>k_is)
  (case m_Lost_Lost|m_Lost_StemError=>kts_exm)
  (case Oe|Oi|O7|OB|Oy|O4|OY=>k_is)
  (case OP|OZ=>kernel_rfl)
  (case N8|Pm|Pg|Ol=>k_is)
  (case k_Lost_Lost|k_Lost_ValueError|k_Lost_NoThing|k_Lost_TooMany=>kit_is)
  (case Hg|U0|UL|Re|HU|Vt|Ho|UK|Rq|VV|UQ|O5|U1|Mc|U3|Uu|Ob|Pi|Gd|Hh|GW|HW|FZ|HR|G9|OW|VR|Mb|G1|Fz|Hk|Eg|IF|GP|IA|DN|Hj|Il|Fo|G0|Fu|Gm=>k_is)
