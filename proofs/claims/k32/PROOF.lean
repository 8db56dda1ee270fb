import PyProof.Rows.All
import Wide.All
import OpenK.AllK
import Wide.FinOn
import Lean
import PyProof.EqAt
import PyProof.EqKinds
import PyProof.TupleCall
import PySem.Challenge.RW_stemshelf_k32_whole_one_tag_for_one_cont
set_option compiler.extract_closed false
set_option Elab.async false
set_option linter.all false
set_option maxRecDepth 100000
def aa:=@List.getElem?_eq_getElem
def ab:=@List.length_map
def ae:=@List.mem_map
def af:=@PySem.wpAny_bind
def ag:=@List.mem_singleton
def ah:=@Nat.le_refl
def ai:=@List.mem_append
def aj:=@List.getElem?_eq_some_iff
def ao:=@List.mem_cons_of_mem
def aq:=@PySem.Heap.get?_push_of_some
def ar:=@List.length_append
def au:=@List.map_cons
def av:=@List.mem_cons_self
def aw:=@PySem.wpAny_pure
def ay:=@if_neg
def az:=@List.mem_of_getElem?
def aA:=@Option.some.inj
def aB:=@Bool.false_ne_true
def aC:=@if_pos
def aD:=@List.getElem?_map
def aE:=@List.append_assoc
def aF:=@PyProof.Rows.wpS_bind
def aG:=@decide_eq_true_eq
def aH:=@decide_eq_true
def aI:=@List.map_map
def aJ:=@List.map_append
def aK:=@List.take_of_length_le
def aL:=@List.length_cons
def aM:=@List.mem_cons
def aN:=@List.getElem?_eq_none
def aO:=@PyProof.Rows.wpS_pure
def aP:=@PySem.Heap.lt_size
def aQ:=@PySem.Heap.get?_push_size
def aR:=@Nat.zero_le
def aS:=@decide_eq_false
def aT:=@PySem.F.plainAttrs_list
def aU:=@PySem.PassesOwn.never
def aV:=@Option.map_eq_some_iff
def aW:=@List.size_toArray
def aX:=@Nat.ne_of_lt
def aY:=@Nat.le_trans
def aZ:=@PySem.F.type_list_append
def ba:=@PySem.F.slot_list_append
def bf:=@of_decide_eq_true
def bg:=@List.take_add_one
def bh:=@Nat.lt_of_lt_of_le
def bq:=@Bool.and_eq_true
def bu:=@List.length_take
def bx:=@List.getElem_of_mem
def bA:=@List.mem_append_right
def bB:=@Array.toList_append
def bC:=@List.eq_nil_of_length_eq_zero
def bD:=@PySem.wpAny_mono
def bE:=@List.Perm.append_left
def bF:=@List.nodup_cons
def bG:=@List.getElem?_append_left
def bH:=@List.mem_filter
def bI:=@List.flatten_cons
def bJ:=@Int.emod_nonneg
def bK:=@List.getElem?_append_right
def bL:=@List.filter_cons_of_pos
def bM:=@List.filter_cons_of_neg
def bN:=@List.drop_eq_getElem_cons
def bO:=@Classical.byContradiction
def bP:=@List.length_drop
def bQ:=@List.getElem_mem
def bR:=@List.sum_cons
def bS:=@Int.emod_lt_of_pos
def bT:=@Bool.eq_iff_iff
def bU:=@List.length_range
def bV:=@List.ext_getElem?
def bW:=@PySem.Heap.size_push
def bX:=@PyProof.Rows.wpS_forRange
def bY:=@List.append_nil
def bZ:=@List.all_eq_true
def cf:=@PySem.wpAny_truthy_bool
def cg:=@List.mem_of_mem_take
def cj:=@PySem.F.plainAttrs_str
def ck:=@PySem.mem_of_lookup
def cm:=@List.nodup_append
def cq:=@PySem.Calls.callWith_builtin
def cu:=@List.perm_append_comm
def cv:=@PySem.W.kia_one
def cw:=@PySem.wpAny_newObj_type
def cy:=@Int.natCast_nonneg
def cz:=@PySem.wpAny_holding
def cA:=@PySem.Calls.spliced_cons
def cB:=@List.getD_eq_getElem?_getD
def cC:=@List.map_congr_left
def cD:=@List.length_pos_iff
def cE:=@PySem.Heap.get?_update_other
def cF:=@Array.getElem?_toList
def cG:=@List.count_eq_zero
def cH:=@Sum.inl.inj
def cI:=@List.nodup_nil
def cJ:=@PySem.F.plainAttrs_dict
def cK:=@PySem.F.plain_max_loop
def cL:=@Nat.lt_irrefl
def cM:=@List.take_length
def cN:=@Array.perm_iff_toList_perm
def cO:=@PySem.F.slot_dict_get
def cP:=@List.length_filter_le
def cQ:=@PySem.wpAny_call_entry
def cR:=@List.find?_cons
def cS:=@PySem.wpAny_Call_Name_kw
def cT:=@Nat.lt_succ_of_lt
def cU:=@List.mem_of_mem_drop
def cV:=@PyProof.Rows.wpS_mono
def cW:=@PySem.Heap.get?_update_self
def cX:=@beq_iff_eq
def cY:=@PySem.codeAny_builtin
def cZ:=@List.drop_zero
def c9:=@List.any_eq_true
def da:=@PySem.Calls.evalArgs_plain
def dc:=@PySem.Around.under_plainId
def de:=@PySem.F.type_str_index
def df:=@PySem.F.slot_str_index
def dg:=@Option.map_eq_none_iff
def dh:=@List.set_set
def di:=@List.find?_eq_none
def dk:=@List.Perm.append_right
def dm:=@List.take_append_drop
def dq:=@List.length_singleton
def dr:=@Array.toList_push
def du:=@PySem.codeAny_mono
def dv:=@PySem.call_meetsIn
def dw:=@PySem.wpAny_passesOwn
def dy:=@PySem.wpAny_ite_split
def dA:=@List.take_zero
def dB:=@Nat.le_of_eq
def dC:=@List.map_nil
def dD:=@PySem.wpAny_pyIter_list
def dE:=@PySem.wpAny_Call_method
def dF:=@PySem.Calls.spliced_nil
def dG:=@beq_eq_false_iff_ne
def dH:=@List.filter_eq_self
def dI:=@Array.length_toList
def dJ:=@PySem.F.type_list_extend
def dM:=@PySem.F.slot_list_extend
def dO:=@PySem.plainId_quiet
def dP:=@getElem?_pos
def dQ:=@PySem.F.entry_dict_get
def dR:=@PySem.wpAny_rule
def dS:=@PySem.tupleKind_room_in1
def dW:=@PySem.wpAny_getItem_str_slice
def dX:=@PySem.F.slot_dict_pop
def dY:=@PySem.AutoSeq1.wpAny_loadPart'
def dZ:=@List.getElem_zip
def eh:=@List.any_cons
def eu:=@Nat.le_succ
def eA:=@Array.toList_reverse
def eB:=@PySem.F.slot_dict_setdefault
def eC:=@Nat.not_lt_zero
def eD:=@List.of_mem_zip
def eE:=@List.filter_map
def eF:=@List.filter_sublist
def eG:=@PySem.wpAny_askSetting
def eI:=@PyProof.Rows.callWith_type1
def eJ:=@PySem.sizeLine_eq
def eK:=@PySem.codeAny_call_builtin
def eO:=@PySem.Txt.slice_le
def eP:=@List.mem_range
def eQ:=@List.getElem?_drop
def eR:=@List.filter_filter
def eS:=@List.filter_append
def eT:=@List.drop_drop
def eV:=@PyProof.Rows.wpS_get
def eW:=@PySem.wpAny_execs_nil
def eY:=@List.reverse_perm
def eZ:=@List.foldl_append
def e8:=@Int.le_refl
def fb:=@List.map_take
def fc:=@Nat.lt_succ_self
def ff:=@List.mem_flatten
def fg:=@List.lookup_cons
def fh:=@List.length_eq_zero_iff
def fj:=@List.filter_cons
def fk:=@List.drop_length
def fo:=@Int.eq_ofNat_of_zero_le
def fq:=@Nat.ne_of_gt
def fu:=@List.drop_of_length_le
def fw:=@PySem.wpAny_pyIter_enum
def fA:=@PySem.WalksT.enumerateD
def fD:=@Nat.min_eq_left
def fE:=@List.length_set
def fF:=@PySem.Heap.get?_push_ne
def fG:=@PySem.W.methodCall_KW
def fH:=@PySem.F.type_str_join
def fJ:=@PySem.F.slot_str_join
def fK:=@PySem.Paired.length
def fL:=@Classical.choose_spec
def fM:=@PySem.wpAny_callSpecial?_slot
def fN:=@List.length_dropLast
def fO:=@List.getElem?_of_mem
def fP:=@PySem.Heap.size_update
def fQ:=@PyProof.Rows.wpS_modify
def fR:=@PySem.W.plainGet_of
def fS:=@List.filterMap_cons
def fT:=@PySem.wpAny_updateSeq
def fU:=@PySem.post_val_or_str
def fV:=@List.all_cons
def fW:=@PySem.W.callWith_K
def fX:=@PySem.Obj.data_mapDictKeys
def fY:=@Nat.le_of_lt
def fZ:=@List.filter_congr
def gb:=@List.count_append
def gc:=@List.Pairwise.map
def gf:=@Int.toNat_natCast
def gh:=@Int.le_trans
def gi:=@PyProof.Rows.slot_tuple_getitem
def gj:=@List.eraseIdxIfInBounds_toArray
def gk:=@PySem.F.args_dict_setdefault_3
def gn:=@Nat.succ_ne_self
def gq:=@Nat.min_eq_right
def gr:=@List.map_snd_zip
def gu:=@List.cons_append
def gv:=@List.Sublist.map
def gw:=@PySem.wpAny_standAt
def gy:=@PySem.wpAny_newList
def gA:=@PySem.F.entry_dict_setdefault
def gB:=@PySem.wpAny_call
def gC:=@PySem.wpAny_Constant_int
def gD:=@PySem.SeqAt.EqAt.str_int
def gE:=@PySem.SeqAt.EqAt.int_str
def gF:=@List.sum_append
def gG:=@List.length_zip
def gH:=@List.length_nil
def gI:=@List.dropLast_concat_getLast
def gJ:=@PySem.wpAny_setState_of
def gK:=@Array.toList_setIfInBounds
def gL:=@PyProof.Rows.wpS_lift
def gM:=@PySem.F.slot_dict_delitem
def gN:=@List.count_singleton_self
def gO:=@PySem.wpAny_execs_cons
def gP:=@List.map_drop
def gQ:=@Bool.false_or
def gR:=@PySem.wpAny_of_eq
def gS:=@PySem.wpAny_letGo
def gT:=@PySem.F.slot_dict_clear
def gU:=@PySem.F.plain_list_iadd
def gV:=@PySem.F.args_dict_pop_3
def gW:=@PySem.F.args_dict_get_3
def gX:=@PySem.F.args_dict_get_2
def gY:=@Nat.add_sub_cancel_left
def gZ:=@PyProof.Rows.listUpdate_at
def g6:=@PySem.codeAny_of_tree
def g7:=@PySem.W.cellsFrom_some
def g9:=@PySem.F.entry_max_loop
def hV:=@PySem.F.entry_dict_pop
def hW:=@Nat.zero_add
def hZ:=@List.getElem?_set_self
def h9:=@List.drop_eq_nil_of_le
def ie:=@List.all_map
def ig:=@PySem.F.type_list_pop
def ij:=@PySem.F.type_dict_pop
def ip:=@PySem.F.type_dict_get
def iq:=@PySem.F.slot_set_iter
def ir:=@PySem.F.slot_list_pop
def iu:=@PySem.F.plain_set_new
def iw:=@List.length_replicate
def iA:=@Bool.beq_eq_decide_eq
def iB:=@PySem.wpAny_tryCatch
def iC:=@PySem.isSubtype_type
def iD:=@PySem.call_meets
def iE:=@Nat.le_zero
def iF:=@List.mem_append_left
def iG:=@List.getElem?_set_ne
def iH:=@PySem.Calls.Name_function_global
def iI:=@Array.toArray_toList
def iJ:=@PyProof.Rows.pairsOf_size
def iK:=@PySem.evalArgs_none
def iL:=@PySem.W.callWith_K0
def iM:=@List.take_succ_cons
def iN:=@List.map_eq_nil_iff
def iO:=@List.length_flatten
def iP:=@PySem.Calls.call_function_entry
def iQ:=@PySem.wpAny_attempt
namespace L2
open PySem PySem.Spec PyProof.Rows
abbrev Key:=Sum Int Str
def Nm:Key->Value->Bool
 | .inl k,v=>Value.isInt k v
 | .inr x,v=>Value.isStrOf x v
def YI (w:World):Key->Int
 | .inl k=>hashInt k
 | .inr x=>hashStr w x
theorem By:∀{k:Key} {v:Value},Nm k v=true->(∃i t,k=Sum.inl i/\v=Value.int i t)\/(∃x t,k=Sum.inr x/\v=Value.str x t)
 | .inl i,v,h=>by
  obtain⟨t,e⟩:=Value.isInt_shape (k:=i) (v:=v) h;exact .inl ⟨i,t,rfl,e⟩
 | .inr x,v,h=>by
  obtain⟨t,e⟩:=Value.isStrOf_shape (x:=x) (v:=v) h;exact .inr ⟨x,t,rfl,e⟩
theorem RO (i:Int)(t:Tok):Nm (.inl i) (.int i t)=true:=by simp[Nm,Value.isInt]
theorem R9 (x:Str)(t:Tok):Nm (.inr x) (.str x t)=true:=by simp[Nm,Value.isStrOf]
theorem WJ (a b:Int):decide ((Sum.inl a:Key)=Sum.inl b)=(a == b):=by
 by_cases e:a=b
 ·subst e;simp
 ·have h:¬(Sum.inl a:Key)=Sum.inl b:=λq=>e (cH q)
  rw[aS h];exact(dG.mpr e).symm
theorem Xs (a b:Str):decide ((Sum.inr a:Key)=Sum.inr b)=decide (a=b):=by
 by_cases e:a=b
 ·subst e;simp
 ·have h:¬(Sum.inr a:Key)=Sum.inr b:=λq=>e (Sum.inr.inj q)
  rw[aS h,aS e]
theorem Xd (a:Int)(b:Str):decide ((Sum.inl a:Key)=Sum.inr b)=false:=aS (λq=>nomatch q)
theorem Xy (a:Str)(b:Int):decide ((Sum.inr a:Key)=Sum.inl b)=false:=aS (λq=>nomatch q)
def AY (prog:Program)(w:World):PySem.KeyKind prog w Key where
 is:=Nm
 hash:=YI w
 inj:=λv a b ha hb=>by
  rcases By ha with⟨i,t,rfl,rfl⟩|⟨x,t,rfl,rfl⟩
  ·rcases By hb with⟨j,u,rfl,e⟩|⟨y,u,rfl,e⟩
   ·injection e with e1 _;rw[e1]
   ·exact nomatch e
  ·rcases By hb with⟨j,u,rfl,e⟩|⟨y,u,rfl,e⟩
   ·exact nomatch e
   ·injection e with e1 _;rw[e1]
 byValue:=λk v h=>by
  rcases By h with⟨i,t,rfl,rfl⟩|⟨x,t,rfl,rfl⟩<;>rfl
 pyHash:=λhv h=>by
  rcases By hv with⟨i,t,rfl,rfl⟩|⟨x,t,rfl,rfl⟩
  ·exact wpAny_pyHash_int h
  ·exact wpAny_pyHash_str h
 eqBool:=λhu hv h=>by
  rcases By hu with⟨i,t,rfl,rfl⟩|⟨x,t,rfl,rfl⟩
  ·rcases By hv with⟨j,u,rfl,rfl⟩|⟨y,u,rfl,rfl⟩
   ·rw[WJ] at h;exact wpAny_eqBool_int h
   ·rw[Xd] at h;exact gE i t y u _ _ _ _ h
  ·rcases By hv with⟨j,u,rfl,rfl⟩|⟨y,u,rfl,rfl⟩
   ·rw[Xy] at h;exact gD x t j u _ _ _ _ h
   ·rw[Xs] at h;exact wpAny_eqBool_str h
 «strs»:=λk x t v h=>by
  rcases By h with⟨i,u,rfl,e⟩|⟨y,u,rfl,e⟩
  ·exact nomatch e
  ·injection e with e1 _
   subst e1;cases v<;>rfl
theorem Pa (prog:Program)(w:World)(i:Int)(t:Tok):(AY prog w).is (.inl i) (.int i t)=true:=RO i t
theorem Pp (prog:Program)(w:World)(x:Str)(t:Tok):(AY prog w).is (.inr x) (.str x t)=true:=R9 x t
inductive V where
 |non|bl (b:Bool)|int (i:Int)|str (x:Str)|byt (b:Array UInt8)|flt (b:UInt64)|ref (a:Addr)|ty (n:String)
 deriving DecidableEq
def RelV:V->Value->Prop
 | .non,u=>u=Value.none
 | .bl b,u=>u=Value.bool b
 | .int i,u=>∃t,u=Value.int i t
 | .str x,u=>∃t,u=Value.str x t
 | .byt b,u=>∃t,u=Value.bytes b t
 | .flt b,u=>∃t,u=Value.float b t
 | .ref a,u=>u=Value.ref a
 | .ty n,u=>u=Value.type n
abbrev AW:List V->List Value->Prop:=Paired RelV
theorem AW.length {xs:List V}{us:List Value}(r:AW xs us):xs.length=us.length:=fK r
theorem AW.get:∀{xs:List V} {us:List Value} {i:Nat} {x:V},AW xs us->xs[i]?=some x->∃u,us[i]?=some u/\RelV x u
 |_,_,_,_,.nil,e=>by simp at e
 |_,_,0,_,.cons r _,e=>by simp at e;subst e;exact⟨_,rfl,r⟩
 |_,_,i+1,x,.cons _ t,e=>by
  obtain⟨u,h1,h2⟩:=AW.get (i:=i) (x:=x) t (by simpa using e);exact⟨u,by simpa using h1,h2⟩
theorem AW.set {x:V}{u:Value}(r:RelV x u):∀{xs:List V} {us:List Value} (i:Nat),AW xs us->AW (xs.set i x) (us.set i u)
 |_,_,_,.nil=>.nil
 |_,_,0,.cons _ t=>.cons r t
 |_,_,i+1,.cons q t=>.cons q (AW.set r i t)
theorem AW.append:∀{xs ys:List V} {us ws:List Value},AW xs us->AW ys ws->AW (xs++ys) (us++ws)
 |_,_,_,_,.nil,s=>s
 |_,_,_,_,.cons r t,s=>.cons r (AW.append t s)
theorem AW.take:∀{xs:List V} {us:List Value} (n:Nat),AW xs us->AW (xs.take n) (us.take n)
 |_,_,0,_=>.nil
 |_,_,_+1,.nil=>.nil
 |_,_,n+1,.cons r t=>.cons r (AW.take n t)
theorem AW.drop:∀{xs:List V} {us:List Value} (n:Nat),AW xs us->AW (xs.drop n) (us.drop n)
 |_,_,0,r=>r
 |_,_,_+1,.nil=>.nil
 |_,_,n+1,.cons _ t=>AW.drop n t
def EA:Option V->Option Value->Prop
 |some v,some u=>RelV v u
 |none,none=>True
 |_,_=>False
def KV {κ:Type}:List (κ×V)->List (κ×Value)->Prop:=Paired λ(p:κ×V) (q:κ×Value)=>p.1=q.1/\RelV p.2 q.2
def kV:Key->V
 | .inl i=>.int i
 | .inr x=>.str x
inductive HO where
 |lst (xs:List V)
 |tup (xs:List V)
 |dK (kvs:List (Key×V))|dT (kvs:List (List Key×V))
 |set (S:Int->Bool) (n:Nat)
 |ins (C dx:Addr) (fs:List (Str×V))
 |own (x:Addr)
 |xd (fs:List (Str×V))
 |met (f x:Addr)
 |rng (lo hi:Int)
 |frz (o:Obj) (u:HO)
 |tbl (ps:Array Value)
 |ext (φ:Heap->Prop)
abbrev Hp:=Addr->Option HO
def upd (H:Hp)(a:Addr)(o:HO):Hp:=λb=>if b=a then some o else H b
theorem Ag {H:Hp}{a:Addr}{o:HO}:upd H a o a=some o:=by unfold upd;rw[aC rfl]
theorem Aj {H:Hp}{a b:Addr}{o:HO}(h:b≠a):upd H a o b=H b:=by unfold upd;rw[ay h]
theorem ED {H:Hp}{a:Addr}{o u:HO}:upd (upd H a o) a u=upd H a u:=by
 funext b;unfold upd;split<;>rfl
theorem AQ {H:Hp}{a b:Addr}{o u:HO}(h:H a=some o)(h':H b=some u)(d:o≠u):a≠b:=by
 intro e;subst e;rw[h] at h';exact d (aA h')
theorem AD {H:Hp}{a b:Addr}{o:HO}(h:H a=some o)(h':H b=none):a≠b:=by
 intro e;subst e;rw[h] at h';cases h'
def XX:List V->Bool
 |[.int _,_]=>true
 |_=>false
def KM (b:Bool)(h:Heap)(a:Addr)(items:Array Value):Prop:=∃o,h.get? a=some o/\o.cls=.type "tuple"/\∃n,o.data=.seq items n/\(b=false->o.dict=none)
theorem KM.is {b:Bool}{h:Heap}{a:Addr}{items:Array Value}(x:KM b h a items):IsTup h a items:=let⟨o,e,c,n,d,_⟩:=x;⟨o,e,c,n,d⟩
theorem KM.lt {b:Bool}{h:Heap}{a:Addr}{items:Array Value}(x:KM b h a items):a<h.objs.size:=x.is.lt
theorem KM.new {b:Bool}(h:Heap)(items:Array Value):KM b (h.push { cls:=.type "tuple",data:=.seq items }) h.objs.size items:=⟨_,aQ _ rfl,rfl,_,rfl,λ_=>rfl⟩
section
variable (P:Program)(w:World)
def Bw (H:Hp)(h:Heap)(a:Addr):HO->Prop
 | .lst xs=>xs.length<=sizeLine/\∃(its:List Value) (n:Nat),AW xs its/\h.get? a=some { cls:=.type "list",data:=.seq its.toArray n }
 | .tup xs=>xs.length<=sizeLine/\∃its:List Value,AW xs its/\KM (XX xs) h a its.toArray
 | .dK kvs=>kvs.length<=sizeLine/\(a == sysModules)=false/\∃vs,KV kvs vs/\h.DictOf (AY P w) a vs
 | .dT kvs=>kvs.length<=sizeLine/\(a == sysModules)=false/\∃xs:List (List Key×Addr×Value),
   Paired (λ(p:List Key×V) (q:List Key×Addr×Value)=>p.1=q.1/\H q.2.1=some (.tup (p.1.map kV))/\RelV p.2 q.2.2) kvs xs/\
   ∃o es ep,h.get? a=some o/\o.ExactDict/\o.data=.dict es ep/\es.toList=xs.map (entryOfKey (tupleKind (AY P w)))/\(xs.map (·.1)).Nodup
 | .set S n=>h.SetOf (intKind P w) a S n
 | .ins C dx fs=>H dx=some (.own a)/\fs.length<=1000/\dx≠a/\h.get? a=some (PySem.W.instObj C dx)/\
   ∃mA,h.Ns1 dx mA/\(∀f,EA (fs.lookup f) (mA f))/\PySem.Within mA (fs.map (·.1))
 | .own _=>∃o,h.get? a=some o
 | .xd fs=>∃mA,h.Ns1 a mA/\∀f,EA (fs.lookup f) (mA f)
 | .rng lo hi=>∃t u v,h.get? a=some { cls:=.type "range",data:=.fields #[.int lo t,.int hi u,.int 1 v] }
 | .frz o u=>h.get? a=some o/\Bw H h a u
 | .tbl ps=>h.get? a=some { cls:=.none,data:=.fields ps }
 | .met f x=>h.get? a=some (PySem.W.methodObj (.ref f) (.ref x))
 | .ext φ=>φ h/\(∃o,h.get? a=some o)/\∀h1 h2:Heap,φ h1->(∀o,h1.get? a=some o->h2.get? a=some o)->φ h2
def HS (H:Hp)(h:Heap):Prop:=∀a o,H a=some o->Bw P w H h a o
end
section
variable {P:Program}{w:World}{H H':Hp}{h h':Heap}{a:Addr}{o:HO}
theorem Bw.lt (x:Bw P w H h a o):a<h.objs.size:=by
 cases o with
 |lst xs=>obtain⟨_,_,_,_,e⟩:=x;exact aP e
 |tup xs=>obtain⟨_,_,_,p⟩:=x;exact p.lt
 |dK kvs=>obtain⟨_,_,_,_,o,_,_,e,_⟩:=x;exact aP e
 |dT kvs=>obtain⟨_,_,_,_,o,_,_,e,_⟩:=x;exact aP e
 |set S n=>obtain⟨o,_,_,_,e,_⟩:=x;exact aP e
 |ins C dx fs=>obtain⟨_,_,_,e,_⟩:=x;exact aP e
 |own y=>obtain⟨_,e⟩:=x;exact aP e
 |xd fs=>obtain⟨_,⟨_,_,_,e,_⟩,_⟩:=x;exact aP e
 |rng lo hi=>obtain⟨_,_,_,e⟩:=x;exact aP e
 |frz ob u=>obtain⟨e,_⟩:=x;exact aP e
 |tbl ps=>exact aP (show h.get? a=some _ from x)
 |met f y=>exact aP (show h.get? a=some _ from x)
 |ext φ=>obtain⟨_,⟨_,e⟩,_⟩:=x;exact aP e
theorem Paired.mapP {α β:Type}{F G:α->β->Prop}:∀{l₁:List α} {l₂:List β},Paired F l₁ l₂->(∀a b,F a b->G a b)->Paired G l₁ l₂
 |_,_,.nil,_=>.nil
 |_,_,.cons r t,f=>.cons (f _ _ r) (Paired.mapP t f)
theorem Bw.stay (x:Bw P w H h a o) (k:∀b u,(b=a\/H b=some (.own a))->h.get? b=some u->h'.get? b=some u)
  (ho:∀b,H b=some (.own a)->H' b=some (.own a)) (ht:∀b xs,H b=some (.tup xs)->H' b=some (.tup xs)):Bw P w H' h' a o:=by
 induction o with
 |lst xs=>obtain⟨z,its,n,r,e⟩:=x;exact⟨z,its,n,r,k _ _ (.inl rfl) e⟩
 |tup xs=>obtain⟨z,its,r,ob,e,c⟩:=x;exact⟨z,its,r,ob,k _ _ (.inl rfl) e,c⟩
 |dK kvs=>obtain⟨z,y,vs,r,ob,es,ep,e,c⟩:=x;exact⟨z,y,vs,r,ob,es,ep,k _ _ (.inl rfl) e,c⟩
 |dT kvs=>
  obtain⟨z,y,xs,r,ob,es,ep,e,c⟩:=x;exact⟨z,y,xs,Paired.mapP r λp q z=>⟨z.1,ht _ _ z.2.1,z.2.2⟩,ob,es,ep,k _ _ (.inl rfl) e,c⟩
 |set S n=>obtain⟨ob,es,ep,t,e,c⟩:=x;exact⟨ob,es,ep,t,k _ _ (.inl rfl) e,c⟩
 |ins C dx fs=>
  obtain⟨d,z,ne,e,mA,⟨od,es,ep,e2,c⟩,r⟩:=x;exact⟨ho _ d,z,ne,k _ _ (.inl rfl) e,mA,⟨od,es,ep,k _ _ (.inr d) e2,c⟩,r⟩
 |own y=>obtain⟨ob,e⟩:=x;exact⟨ob,k _ _ (.inl rfl) e⟩
 |xd fs=>obtain⟨mA,⟨od,es,ep,e,c⟩,r⟩:=x;exact⟨mA,⟨od,es,ep,k _ _ (.inl rfl) e,c⟩,r⟩
 |rng lo hi=>obtain⟨t,u,v,e⟩:=x;exact⟨t,u,v,k _ _ (.inl rfl) e⟩
 |frz ob u ih=>obtain⟨e,q⟩:=x;exact⟨k _ _ (.inl rfl) e,ih q⟩
 |tbl ps=>
  have e:h.get? a=some { cls:=.none,data:=.fields ps }:=x;show h'.get? a=some { cls:=.none,data:=.fields ps };exact k a _ (.inl rfl) e
 |met f y=>
  have e:h.get? a=some (PySem.W.methodObj (.ref f) (.ref y)):=x;show h'.get? a=some (PySem.W.methodObj (.ref f) (.ref y));exact k a _ (.inl rfl) e
 |ext φ=>obtain⟨p,⟨o,e⟩,st⟩:=x;exact⟨st _ _ p λo q=>k _ _ (.inl rfl) q,⟨o,k _ _ (.inl rfl) e⟩,st⟩
theorem HS.lt (x:HS P w H h)(e:H a=some o):a<h.objs.size:=(x a o e).lt
theorem HS.fresh (x:HS P w H h)(e:h.objs.size<=a):H a=none:=by
 cases q:H a with
 |none=>rfl
 |some u=>exact absurd (bh (x.lt q) e) (cL _)
theorem HS.kept (x:HS P w H h)(k:∀b u,h.get? b=some u->h'.get? b=some u):HS P w H h':=λa o e=>
 (x a o e).stay (λb u _ q=>k b u q) (λ_ q=>q) λ_ _ q=>q
theorem HS.laid (x:HS P w H h)(k:∀b u,h.get? b=some u->h'.get? b=some u)(hp:h.objs.size<=a)(new:Bw P w (upd H a o) h' a o):HS P w (upd H a o) h':=λb u e=>by
 have hn:=x.fresh hp
 by_cases hb:b=a
 ·subst hb;rw[Ag] at e;cases e;exact new
 ·rw[Aj hb] at e;exact(x b u e).stay (λc v _ q=>k c v q) (λc q=>by rw[Aj (AD q hn)];exact q) λc xs q=>by rw[Aj (AD q hn)];exact q
end
def Rd (H:Hp)(a:Addr)(u:HO):Prop:=H a=some u\/∃o,H a=some (.frz o u)
theorem Rd.ok {P:Program}{w:World}{H:Hp}{h:Heap}{a:Addr}{u:HO}(r:Rd H a u)(x:HS P w H h):Bw P w H h a u:=by
 rcases r with r|⟨o,r⟩
 ·exact x a u r
 ·obtain⟨_,q⟩:=x a _ r;exact q
def XT:Option HO->Prop
 |some (.lst _)=>True
 |some (.dK _)=>True
 |some (.dT _)=>True
 |some (.set _ _)=>True
 |some (.ins _ _ _)=>True
 |some (.ext _)=>True
 |_=>False
section
variable {P:Program}{w:World}{H:Hp}{h h':Heap}{x e:Addr}{o':HO}
theorem HS.write (ok:HS P w H h) (mu:XT (H x)) (he:e=x\/H e=some (.own x)) (k:∀b u,b≠e->h.get? b=some u->h'.get? b=some u) (heo:∃u,h'.get? e=some u)
  (new:Bw P w (upd H x o') h' x o'):HS P w (upd H x o') h':=λb u q=>by
 have nown:∀c y,H c=some (.own y)->c≠x:=λc y r z=>by subst z;rw[r] at mu;exact mu
 have ntup:∀c xs,H c=some (.tup xs)->c≠x:=λc xs r z=>by subst z;rw[r] at mu;exact mu
 by_cases hb:b=x
 ·subst hb;rw[Ag] at q;cases q;exact new
 ·rw[Aj hb] at q
  by_cases hbe:b=e
  ·have q':H b=some (.own x):=by
    rcases he with z|z
    ·exact absurd (hbe.trans z) hb
    ·rw[hbe];exact z
   rw[q] at q';cases q';obtain⟨v,hv⟩:=heo;exact⟨v,by rw[hbe];exact hv⟩
  ·refine(ok b u q).stay (λc v hc r=>k c v ?_ r) (λc r=>by rw[Aj (nown c b r)];exact r) λc xs r=>by rw[Aj (ntup c xs r)];exact r
   rcases hc with rfl|hc
   ·exact hbe
   ·rintro rfl
    rcases he with z|z
    ·exact nown c b hc z
    ·rw[hc] at z;cases z;exact hb rfl
end
structure Un (fs ex:List Addr) (H H':Hp) (h h':Heap):Prop where
 keep:∀b o,h.get? b=some o->H b=none->b∉fs->b∉ex->h'.get? b=some o
 slot:∀b o,h.get? b=some o->H b=none->b∈fs->b∉ex->∃sl,h'.get? b=some { o with slots:=sl }
 free:∀b o,h.get? b=some o->H b=none->b∉ex->H' b=none
 there:∀b o,h.get? b=some o->b∉ex->∃o',h'.get? b=some o'
 tups:∀b xs,H b=some (.tup xs)->H' b=some (.tup xs)
 frzs:∀b o u,H b=some (.frz o u)->H' b=some (.frz o u)
 tbls:∀b ps,H b=some (.tbl ps)->∃more,H' b=some (.tbl (ps++more))
section
variable {fs fs' ex ex':List Addr}{H H1 H2:Hp}{h h1 h2 h':Heap}{a x e:Addr}{o:HO}
theorem Un.any (u:Un fs ex H H1 h h1){b:Addr}{ob:Obj}(q:h.get? b=some ob)(n:H b=none)(hx:b∉ex):∃sl,h1.get? b=some { ob with slots:=sl }:=by
 by_cases hb:b∈fs
 ·exact u.slot b ob q n hb hx
 ·exact⟨ob.slots,u.keep b ob q n hb hx⟩
theorem Un.kept (k:∀b u,h.get? b=some u->h'.get? b=some u):Un fs ex H H h h':=
 ⟨λb ob q _ _ _=>k b ob q,λb ob q _ _ _=>⟨ob.slots,k b ob q⟩,λ_ _ _ n _=>n,λb ob q _=>⟨ob,k b ob q⟩,λ_ _ q=>q,λ_ _ _ q=>q,λ_ ps q=>⟨#[],by rw[q];simp⟩⟩
theorem Un.refl:Un fs ex H H h h:=Un.kept λ_ _ q=>q
theorem Un.laid (k:∀b u,h.get? b=some u->h'.get? b=some u)(hp:h.objs.size<=a)(hn:H a=none):Un fs ex H (upd H a o) h h' where
 keep:=λb u q _ _ _=>k b u q
 slot:=λb u q _ _ _=>⟨u.slots,k b u q⟩
 free:=λb u q n _=>by rw[Aj (aX (bh (aP q) hp))];exact n
 there:=λb u q _=>⟨u,k b u q⟩
 tups:=λb xs q=>by rw[Aj (AD q hn)];exact q
 frzs:=λb u xs q=>by rw[Aj (AD q hn)];exact q
 tbls:=λb ps q=>⟨#[],by rw[Aj (AD q hn),q];simp⟩
theorem Un.write (mu:XT (H x))(he:e=x\/H e=some (.own x))(k:∀b u,b≠e->h.get? b=some u->h'.get? b=some u)(heo:∃u,h'.get? e=some u):Un fs ex H (upd H x o) h h':=by
 have hx:∀b,H b=none->b≠x:=λb n z=>by subst z;rw[n] at mu;exact mu
 have hb:∀b,H b=none->b≠e:=λb n z=>by
  subst z;rcases he with r|r
  ·exact hx b n r
  ·rw[n] at r;cases r
 have hm:∀b u,H b=some u->¬XT (some u)->b≠x:=λb u q nm z=>by subst z;rw[q] at mu;exact nm mu
 refine⟨λb u q n _ _=>k b u (hb b n) q,λb u q n _ _=>⟨u.slots,k b u (hb b n) q⟩,λb u q n _=>by rw[Aj (hx b n)];exact n,λb u q _=>?_,
  λb xs q=>by rw[Aj (hm b _ q λz=>z)];exact q,λb u xs q=>by rw[Aj (hm b _ q λz=>z)];exact q,λb ps q=>⟨#[],by rw[Aj (hm b _ q λz=>z),q];simp⟩⟩
 by_cases hbe:b=e
 ·subst hbe;exact heo
 ·exact⟨u,k b u hbe q⟩
end
def Yu (h:Heap)(H:Hp):List Addr:=(List.range h.objs.size).filter λa=>(H a).isSome
def NZ (h:Heap)(H:Hp):Heap:=PySem.W.hideAll h (Yu h H)
theorem SE (h:Heap)(H:Hp):(NZ h H).objs.size=h.objs.size:=PySem.W.hideAll_size _ _
theorem Uv {h:Heap}{H:Hp}{b:Addr}{o:Obj}(e:h.get? b=some o)(n:H b=none):(NZ h H).get? b=some o:=
 PySem.W.hideAll_get _ e λhm=>by
  have q:(H b).isSome=true:=(bH.mp hm).2;rw[n] at q;simp at q
theorem VH {h:Heap}{H:Hp}{b:Addr}{o:Obj}(e:(NZ h H).get? b=some o):h.get? b=some o/\H b=none:=by
 have e':h.get? b=some o:=PySem.W.of_hideAll (Yu h H) e;refine⟨e',?_⟩;cases q:H b with
 |none=>rfl
 |some x=>
  have hm:b∈Yu h H:=bH.mpr ⟨eP.mpr (aP e'),by simp[q]⟩;have z:(NZ h H).get? b=none:=PySem.W.hideAll_none (Yu h H) hm;rw[z] at e;cases e
def UP (g h:Heap)(L:Addr):List (Addr×Obj):=(List.range h.objs.size).filterMap λa=>if a=L\/(g.get? a).isSome=true then none else(h.get? a).map λo=>(a,o)
def rest (g h:Heap)(L d:Addr):List (Addr×Obj):=(UP g h L).filter λp=>decide (p.1≠d)
structure Mod (K:PySem.W.Frag) (mg:Str->Option Value) (base:Heap):Prop where
 kin:K.In base
 glob:base.Ns mainGlobals mg
 blt:∃mb,base.Ns builtinsNs mb/\∀x:Str,x≠"__name__"->mb x=bootBuiltins x
 nolimit:base.NoLimit
structure Cx where
 prog:Program
 w:World
 K:PySem.W.Frag
 mg:Str->Option Value
 base:Heap
 A:Around
 N:List Str
 s₀:Shared
 H₀:Hp
 env:Env
 outer:List Env
 stack:List Env
 ex:List Addr
 fn:Str->Bool
 calm:Bool
 pn:List (Addr×Obj)
 xe:Value->Shared->Prop
def Oj (l:List Env):List Addr:=l.filterMap (·.frame)
abbrev Cx.fs (X:Cx):List Addr:=Oj X.outer
def YA (sc:Scope)(x:Str):Prop:=sc.names.lookup x=some .local\/sc.names.lookup x=some .cell\/sc.names.lookup x=some .free
def Loc (sc:Scope)(x:Str):Prop:=sc.names.lookup x=some .local\/sc.names.lookup x=some .cell
def Look (env:Env)(h:Heap)(m:Str->Option Value)(x:Str)(u:Value):Prop:=
 (env.kindOf x=some .local/\m x=some u)\/((env.kindOf x=some .cell\/env.kindOf x=some .free)/\∃c,env.cells.lookup x=some c/\h.IsCell c (some u))
structure Cx.Ok (X:Cx):Prop where
 mod:Mod X.K X.mg X.base
 kind:X.env.scope.kind=.function
 glob:X.env.globals=mainGlobals
 blt:X.env.builtins=builtinsNs
 above:X.s₀.heap.objs.size<=X.env.locals
 inj:∀x y c,X.env.cells.lookup x=some c->X.env.cells.lookup y=some c->x=y
 has:∀x,(X.env.kindOf x=some .cell\/X.env.kindOf x=some .free)->∃c,X.env.cells.lookup x=some c
 cab:∀x c,X.fn x=true->X.env.cells.lookup x=some c->X.s₀.heap.objs.size<=c
 hd:X.calm=true->X.A.handled=none
 frames:X.A.frames=some X.stack
 stk:X.stack=X.outer\/(X.stack=X.env::X.outer/\X.env.frame=some X.env.locals)
 exf:∀b∈X.ex,b≠X.env.locals/\∀x c,X.env.cells.lookup x=some c->c≠b
 bs:∀b o,X.base.get? b=some o->X.s₀.heap.get? b=some o/\X.H₀ b=none
 bsz:X.base.objs.size<=X.s₀.heap.objs.size
 noex:∀b o,X.base.get? b=some o->b∉X.ex
 exfs:∀b∈X.ex,b∉X.fs
 funs:X.s₀.heap.FunFrames X.base X.outer
 frf:∀b∈X.fs,X.H₀ b=none
structure Inv (X:Cx) (pins:List (Addr×Obj)) (σ:List (Option V)) (H:Hp) (s:Shared):Prop where
 ok:X.Ok
 os:s.os=X.s₀.os
 bare:AllBare s.gens
 base:Un X.fs X.ex X.H₀ H X.s₀.heap s.heap
 loc:∃m,s.heap.Ns X.env.locals m/\∀(i:Nat) (x:Str) (v:V),X.N[i]?=some x->σ[i]?=some (some v)->YA X.env.scope x->∃u,RelV v u/\Look X.env s.heap m x u
 cell:∀x c,X.env.cells.lookup x=some c->∃v,s.heap.IsCell c v
 free:H X.env.locals=none
 freeC:∀x c,X.env.cells.lookup x=some c->H c=none
 pin:∀p∈X.pn++pins,s.heap.get? p.1=some p.2/\H p.1=none/\p.1≠X.env.locals/\p.1∉X.fs/\∀v,p.2.data≠.cell v
 hok:HS X.prog X.w H s.heap
 len:σ.length=X.N.length
section
variable {X:Cx}{pins:List (Addr×Obj)}{σ:List (Option V)}{H H':Hp}{s:Shared}{h':Heap}
theorem Cx.Ok.nofr (ok:X.Ok){b:Addr}{o:Obj}(e:X.base.get? b=some o):b∉X.fs:=λhb=>by
 have:=(ok.funs.mem hb).1;rw[e] at this;cases this
theorem Inv.bs (I:Inv X pins σ H s):∀b o,X.base.get? b=some o->s.heap.get? b=some o/\H b=none:=λb o e=>
 ⟨I.base.keep b o (I.ok.bs b o e).1 (I.ok.bs b o e).2 (I.ok.nofr e) (I.ok.noex b o e),I.base.free b o (I.ok.bs b o e).1 (I.ok.bs b o e).2 (I.ok.noex b o e)⟩
theorem Inv.bk (I:Inv X pins σ H s):∀b o,X.base.get? b=some o->s.heap.get? b=some o:=λb o e=>(I.bs b o e).1
theorem Inv.mod (I:Inv X pins σ H s):Mod X.K X.mg X.base:=I.ok.mod
theorem Inv.kIn (I:Inv X pins σ H s):X.K.In s.heap:=I.ok.mod.kin.keeps I.bk
theorem Inv.lt (I:Inv X pins σ H s):X.env.locals<s.heap.objs.size:=let⟨_,hn,_⟩:=I.loc;hn.lt
theorem Inv.sz (I:Inv X pins σ H s):X.s₀.heap.objs.size<=s.heap.objs.size:=aY I.ok.above (fY I.lt)
theorem Inv.nofs (I:Inv X pins σ H s){a:Addr}(h:s.heap.objs.size<=a):a∉X.fs:=λhb=>by
 obtain⟨_,o,ho,_⟩:=I.ok.funs.mem hb;exact absurd (bh (aP ho) (aY I.sz h)) (cL _)
theorem Inv.cne (I:Inv X pins σ H s):∀x c,X.env.cells.lookup x=some c->c≠X.env.locals:=λx c e z=>by
 obtain⟨v,o,ho,hd⟩:=I.cell x c e;obtain⟨m,⟨o',es,ep,ho',hd',_⟩,_⟩:=I.loc;rw[z,ho'] at ho;cases ho;rw[hd'] at hd;cases hd
theorem Inv.funs (I:Inv X pins σ H s):s.heap.FunFrames X.base X.outer:=by
 have all:∀(l:List Env),(∀b∈Oj l,b∈X.fs)->X.s₀.heap.FunFrames X.base l->s.heap.FunFrames X.base l:=by
  intro l
  induction l with
  |nil=>intro _ _;trivial
  |cons env r ih=>
   intro hs hl;obtain⟨hk,⟨L,o,hf,hn,ho,hd⟩,hr⟩:=hl;have hL:L∈X.fs:=hs L (by unfold Oj;rw[fS,hf];exact av);obtain⟨sl,e⟩:=I.base.slot L o ho (I.ok.frf L hL) hL λz=>I.ok.exfs L z hL
   exact⟨hk,⟨L,_,hf,hn,e,hd⟩,ih (λb hb=>hs b (by unfold Oj;rw[fS,hf];exact ao _ hb)) hr⟩
 exact all X.outer (λ_ hb=>hb) I.ok.funs
theorem Inv.stack (I:Inv X pins σ H s):s.heap.FunFrames X.base X.stack:=by
 rcases I.ok.stk with e|⟨e,hf⟩
 ·rw[e];exact I.funs
 ·rw[e];obtain⟨m,hn,_⟩:=I.loc;refine .cons (by rw[I.ok.kind];decide) hf hn ?_ I.funs;exact Heap.get?_none_of_le (aY I.ok.bsz I.ok.above)
theorem Inv.stkSub (I:Inv X pins σ H s):∀b∈Oj X.stack,b∈X.env.locals::X.fs:=λb hb=>by
 rcases I.ok.stk with e|⟨e,hf⟩
 ·rw[e] at hb;exact ao _ hb
 ·rw[e] at hb;unfold Oj at hb;rw[fS,hf] at hb;exact hb
theorem Inv.stkFree (I:Inv X pins σ H s):∀b∈Oj X.stack,H b=none:=λb hb=>by
 rcases aM.mp (I.stkSub b hb) with e|hb
 ·rw[e];exact I.free
 ·obtain⟨_,o,ho,_⟩:=I.ok.funs.mem hb;exact I.base.free b o ho (I.ok.frf b hb) λz=>I.ok.exfs b z hb
theorem Inv.step {g':Array GenState} {t':Nat} {d':Drawn} {ch:List Addr} (I:Inv X pins σ H s)
  (hch:∀b∈ch,(b∈X.ex\/X.s₀.heap.objs.size<=b)/\b≠X.env.locals/\(∀x c,X.env.cells.lookup x=some c->c≠b)/\∀p∈X.pn++pins,p.1≠b)
  (keep:∀b o,b≠X.env.locals->b∉X.fs->b∉ch->s.heap.get? b=some o->H b=none->h'.get? b=some o)
  (slot:∀b o,b≠X.env.locals->b∈X.fs->b∉ch->s.heap.get? b=some o->H b=none->∃sl,h'.get? b=some { o with slots:=sl }) (free:∀b o,b∉ch->s.heap.get? b=some o->H b=none->H' b=none)
  (there:∀b o,b∉ch->s.heap.get? b=some o->∃o',h'.get? b=some o')
  (tups:∀b xs,H b=some (.tup xs)->H' b=some (.tup xs)) (frzs:∀b o u,H b=some (.frz o u)->H' b=some (.frz o u)) (tbls:∀b ps,H b=some (.tbl ps)->∃more,H' b=some (.tbl (ps++more)))
  (ns:∀m,s.heap.Ns X.env.locals m->h'.Ns X.env.locals m) (hok:HS X.prog X.w H' h') (hg:AllBare g') :
  Inv X pins σ H' { s with heap:=h',gens:=g',drawn:=d',toks:=t' }:=by
 have neL:∀b o,X.s₀.heap.get? b=some o->b≠X.env.locals:=λb o e=>aX (bh (aP e) I.ok.above)
 have neC:∀b o,X.s₀.heap.get? b=some o->b∉X.ex->b∉ch:=λb o e hx hb=>by
  rcases(hch b hb).1 with z|z
  ·exact hx z
  ·exact absurd (bh (aP e) z) (cL _)
 have cellK:∀x c,X.env.cells.lookup x=some c->∀v,s.heap.IsCell c v->h'.IsCell c v:=λx c e v ⟨o,ho,hd⟩=>by
  have nch:c∉ch:=λz=>(hch c z).2.2.1 x c e rfl
  by_cases hc:c∈X.fs
  ·obtain⟨sl,q⟩:=slot c o (I.cne x c e) hc nch ho (I.freeC x c e);exact⟨_,q,hd⟩
  ·exact⟨o,keep c o (I.cne x c e) hc nch ho (I.freeC x c e),hd⟩
 refine⟨I.ok,I.os,hg,⟨λb o e n hb hx=>?_,λb o e n hb hx=>?_,λb o e n hx=>?_,λb o e hx=>?_,λb xs e=>tups b xs (I.base.tups b xs e),λb o xs e=>frzs b o xs (I.base.frzs b o xs e),λb ps e=>?_⟩,?_,λx c e=>?_,?_,λx c e=>?_,λp hp=>?_,hok,I.len⟩
 ·exact keep b o (neL b o e) hb (neC b o e hx) (I.base.keep b o e n hb hx) (I.base.free b o e n hx)
 ·obtain⟨sl,e1⟩:=I.base.slot b o e n hb hx;obtain⟨sl',e2⟩:=slot b _ (neL b o e) hb (neC b o e hx) e1 (I.base.free b o e n hx);exact⟨sl',e2⟩
 ·obtain⟨o',e1⟩:=I.base.there b o e hx;exact free b o' (neC b o e hx) e1 (I.base.free b o e n hx)
 ·obtain⟨o',e1⟩:=I.base.there b o e hx;exact there b o' (neC b o e hx) e1
 ·obtain⟨m1,e1⟩:=I.base.tbls b ps e;obtain⟨m2,e2⟩:=tbls b _ e1;exact⟨m1++m2,by rw[e2,Array.append_assoc]⟩
 ·obtain⟨m,hn,hl⟩:=I.loc;refine⟨m,ns m hn,λi x v e1 e2 e3=>?_⟩;obtain⟨u,r,l⟩:=hl i x v e1 e2 e3;refine⟨u,r,?_⟩;rcases l with l|⟨k,c,e,z⟩
  ·exact .inl l
  ·exact .inr ⟨k,c,e,cellK x c e _ z⟩
 ·obtain⟨v,z⟩:=I.cell x c e;exact⟨v,cellK x c e v z⟩
 ·obtain⟨m,⟨o,_,_,ho,_⟩,_⟩:=I.loc;exact free _ o (λz=>(hch _ z).2.1 rfl) ho I.free
 ·obtain⟨v,o,ho,hd⟩:=I.cell x c e;exact free c o (λz=>(hch c z).2.2.1 x c e rfl) ho (I.freeC x c e)
 ·obtain⟨e,n,ne,nf,d⟩:=I.pin p hp;have nch:p.1∉ch:=λz=>(hch p.1 z).2.2.2 p hp rfl
  exact⟨keep p.1 p.2 ne nf nch e n,free p.1 p.2 nch e n,ne,nf,d⟩
theorem Inv.un {t':Nat}(I:Inv X pins σ H s)(u:Un X.fs [] H H' s.heap h')(hok:HS X.prog X.w H' h'):Inv X pins σ H' { s with heap:=h',toks:=t' }:=by
 obtain⟨m,⟨o,es,ep,ho,r⟩,_⟩:=id I.loc;obtain⟨sl,hL⟩:=u.any ho I.free (by simp);exact I.step (g':=s.gens) (d':=s.drawn) (ch:=[]) (λ_ z=>nomatch z) (λb o _ hb _ e n=>u.keep b o e n hb (by simp)) (λb o _ hb _ e n=>u.slot b o e n hb (by simp)) (λb o _ e n=>u.free b o e n (by simp)) (λb o _ e=>u.there b o e (by simp)) u.tups u.frzs u.tbls (λm' hm=>by
  obtain⟨o',es',ep',ho',r'⟩:=hm;rw[ho] at ho';cases ho';exact⟨_,es',ep',hL,r'⟩) hok I.bare
theorem Inv.call {g':Array GenState} {t':Nat} {d':Drawn} {ch:List Addr} (I:Inv X pins σ H s) (u:Un (Oj X.stack) ch H H' s.heap h') (hok:HS X.prog X.w H' h') (hg:AllBare g')
  (hch:∀b∈ch,(b∈X.ex\/X.s₀.heap.objs.size<=b)/\b≠X.env.locals/\(∀x c,X.env.cells.lookup x=some c->c≠b)/\∀p∈X.pn++pins,p.1≠b) :
  Inv X pins σ H' { s with heap:=h',gens:=g',drawn:=d',toks:=t' }:=by
 obtain⟨m,⟨o,es,ep,ho,r⟩,_⟩:=id I.loc;obtain⟨sl,hL⟩:=u.any ho I.free λz=>(hch _ z).2.1 rfl
 exact I.step (ch:=ch) hch (λb o hL hb hc e n=>u.keep b o e n (λz=>(aM.mp (I.stkSub b z)).elim hL hb) hc) (λb o _ _ hc e n=>u.any e n hc) (λb o hc e n=>u.free b o e n hc) (λb o hc e=>u.there b o e hc) u.tups u.frzs u.tbls (λm' hm=>by
  obtain⟨o',es',ep',ho',r'⟩:=hm;rw[ho] at ho';cases ho';exact⟨_,es',ep',hL,r'⟩) hok hg
theorem Inv.turned {t':Nat} {it:Addr} (I:Inv X pins σ H s) (k:∀b o,b≠it->s.heap.get? b=some o->h'.get? b=some o) (hn:H it=none) (hL:it≠X.env.locals)
  (h1:it∈X.ex\/X.s₀.heap.objs.size<=it) (h2:∀x c,X.env.cells.lookup x=some c->c≠it) (h3:∀p∈X.pn++pins,p.1≠it):Inv X pins σ H { s with heap:=h',toks:=t' }:=by
 have nit:∀b u,H b=some u->b≠it:=λb u e z=>by rw[z,hn] at e;cases e
 refine I.step (g':=s.gens) (d':=s.drawn) (ch:=[it]) (λb hb=>?_) (λb o _ _ hc e _=>k b o (λz=>hc (by simp[z])) e) (λb o _ _ hc e _=>⟨o.slots,k b o (λz=>hc (by simp[z])) e⟩) (λ_ _ _ _ n=>n)
  (λb o hc e=>⟨o,k b o (λz=>hc (by simp[z])) e⟩) (λ_ _ e=>e) (λ_ _ _ e=>e) (λb ps e=>⟨#[],by rw[e];simp⟩) (λm hm=>?_) (λb u e=>?_) I.bare
 ·have e:b=it:=by simpa using hb
  subst e;exact⟨h1,hL,h2,h3⟩
 ·obtain⟨o,es,ep,ho,r⟩:=hm;exact⟨o,es,ep,k _ o (Ne.symm hL) ho,r⟩
 ·refine(I.hok b u e).stay (λc v hc q=>k c v ?_ q) (λ_ q=>q) λ_ _ q=>q
  rcases hc with z|z
  ·rw[z];exact nit b u e
  ·exact nit c _ z
theorem Inv.tok (I:Inv X pins σ H s)(t:Nat):Inv X pins σ H { s with toks:=t }:=I.un (h':=s.heap) (t':=t) Un.refl I.hok
theorem Inv.kept {t':Nat}(I:Inv X pins σ H s)(k:∀b u,s.heap.get? b=some u->h'.get? b=some u):Inv X pins σ H { s with heap:=h',toks:=t' }:=I.un (Un.kept k) (I.hok.kept k)
theorem Inv.laid {a:Addr}{o:HO}{t':Nat}(I:Inv X pins σ H s)(k:∀b u,s.heap.get? b=some u->h'.get? b=some u)(hp:s.heap.objs.size<=a)(new:Bw X.prog X.w (upd H a o) h' a o) :
  Inv X pins σ (upd H a o) { s with heap:=h',toks:=t' }:=I.un (Un.laid k hp (I.hok.fresh hp)) (I.hok.laid k hp new)
theorem Inv.write {x e:Addr} {o:HO} {t':Nat} (I:Inv X pins σ H s) (mu:XT (H x)) (he:e=x\/H e=some (.own x)) (k:∀b u,b≠e->s.heap.get? b=some u->h'.get? b=some u) (heo:∃u,h'.get? e=some u)
  (new:Bw X.prog X.w (upd H x o) h' x o):Inv X pins σ (upd H x o) { s with heap:=h',toks:=t' }:=I.un (Un.write mu he k heo) (I.hok.write mu he k heo new)
theorem Inv.pins_of {pins':List (Addr×Obj)}(I:Inv X pins σ H s)(h:∀p∈pins',s.heap.get? p.1=some p.2/\H p.1=none/\p.1≠X.env.locals/\p.1∉X.fs/\∀v,p.2.data≠.cell v):Inv X pins' σ H s:=
 ⟨I.ok,I.os,I.bare,I.base,I.loc,I.cell,I.free,I.freeC,λp hp=>(ai.mp hp).elim (λz=>I.pin p (iF _ z)) (h p),I.hok,I.len⟩
theorem On {N:List Str}(hN:N.Nodup){i j:Nat}{x:Str}(a:N[i]?=some x)(b:N[j]?=some x):i=j:=by
 obtain⟨h1,e1⟩:=aj.mp a;obtain⟨h2,e2⟩:=aj.mp b;exact(List.getElem_inj hN).mp (e1.trans e2.symm)
theorem Sv {M:Model} {A:Around} {E:Value->Shared->Prop} {i:Nat} {x:Str} {v:V} {u:Value} {Q:Unit->Shared->Prop} (I:Inv X pins σ H s) (hN:X.N.Nodup) (hi:X.N[i]?=some x) (hx:Loc X.env.scope x) (r:RelV v u)
  (h:∀s',Inv X pins (σ.set i (some v)) H s'->(∃a,Heap.SameBut a s.heap s'.heap/\(a=X.env.locals\/X.env.cells.lookup x=some a))->Q () s') (hf:X.fn x=true\/X.env.scope.names.lookup x=some .local:=by first|exact .inl rfl|exact .inr rfl|assumption):wpAny M A (storeName X.env x u) Q E s:=by
 obtain⟨m,hn,hl⟩:=id I.loc;have hcls:(X.env.scope.kind == .class||(X.env.scope.kind == .module&&X.env.locals != X.env.globals))=false:=by rw[I.ok.kind];rfl
 have hiσ:i<σ.length:=by rw[I.len];exact(aj.mp hi).1
 have cne:=I.cne;have tracked:∀{a:Addr} {h':Heap},(∃o,s.heap.get? a=some o/\H a=none)->Heap.SameBut a s.heap h'->HS X.prog X.w H h':=λ{a h'} ha hs b ob e=>by
  obtain⟨_,_,hfree⟩:=ha;refine(I.hok b ob e).stay (λc w' hc q=>(hs.2 c ?_).trans q) (λ_ q=>q) λ_ _ q=>q
  rintro rfl
  rcases hc with rfl|hc
  ·rw[hfree] at e;cases e
  ·rw[hfree] at hc;cases hc
 rcases hx with hk|hk
 ·refine wpAny_storeName_local hk hn (λh' hn' hs=>?_) hcls;obtain⟨oL,_,_,hoL,_⟩:=id hn;refine h _ ⟨I.ok,I.os,I.bare,⟨λb o e n hb hx=>?_,λb o e n hb hx=>?_,I.base.free,λb o e hx=>?_,I.base.tups,I.base.frzs,I.base.tbls⟩,⟨_,hn',λj y v' e1 e2 e3=>?_⟩,λy c e=>?_,I.free,I.freeC,λp hp=>?_,tracked ⟨oL,hoL,I.free⟩ hs,by simpa using I.len⟩ ⟨_,hs,.inl rfl⟩
  ·exact(hs.2 b (aX (bh (aP e) I.ok.above))).trans (I.base.keep b o e n hb hx)
  ·obtain⟨sl,e1⟩:=I.base.slot b o e n hb hx;exact⟨sl,(hs.2 b (aX (bh (aP e) I.ok.above))).trans e1⟩
  ·obtain⟨o',e1⟩:=I.base.there b o e hx;exact⟨o',(hs.2 b (aX (bh (aP e) I.ok.above))).trans e1⟩
  ·by_cases hj:j=i
   ·subst hj;rw[hi] at e1;cases e1;rw[hZ hiσ] at e2;cases e2;exact⟨u,r,.inl ⟨hk,by simp⟩⟩
   ·rw[iG (Ne.symm hj)] at e2;obtain⟨u',r',q⟩:=hl j y v' e1 e2 e3;refine⟨u',r',?_⟩;rcases q with⟨k,e⟩|⟨k,c,e,z⟩
    ·refine .inl ⟨k,?_⟩;have:y≠x:=λe=>hj (On hN e1 (e▸hi))
     simp[this,e]
    ·exact .inr ⟨k,c,e,z.sameBut hs (cne y c e)⟩
  ·obtain⟨w',z⟩:=I.cell y c e;exact⟨w',z.sameBut hs (cne y c e)⟩
  ·obtain⟨e,n,ne,nf,d⟩:=I.pin p hp;exact⟨(hs.2 p.1 ne).trans e,n,ne,nf,d⟩
 ·have hfn:X.fn x=true:=by
   rcases hf with z|z
   ·exact z
   ·rw[z] at hk;cases hk
  obtain⟨c,hc⟩:=I.ok.has x (.inl hk);obtain⟨w',z⟩:=I.cell x c hc;refine wpAny_storeName_cell I.ok.kind hk hc z (λh' hc' hs=>?_);obtain⟨oc,hoc,hocd⟩:=id z;refine h { s with heap:=h' } ⟨I.ok,I.os,I.bare,⟨λb o e n hb hx=>?_,λb o e n hb hx=>?_,I.base.free,λb o e hx=>?_,I.base.tups,I.base.frzs,I.base.tbls⟩,⟨m,hn.sameBut hs (Ne.symm (cne x c hc)),λj y v' e1 e2 e3=>?_⟩,λy c' e=>?_,I.free,I.freeC,λp hp=>?_,tracked ⟨oc,hoc,I.freeC x c hc⟩ hs,by simpa using I.len⟩ ⟨c,hs,.inr hc⟩
  ·exact(hs.2 b (aX (bh (aP e) (I.ok.cab x c hfn hc)))).trans (I.base.keep b o e n hb hx)
  ·obtain⟨sl,e1⟩:=I.base.slot b o e n hb hx;exact⟨sl,(hs.2 b (aX (bh (aP e) (I.ok.cab x c hfn hc)))).trans e1⟩
  ·obtain⟨o',e1⟩:=I.base.there b o e hx;exact⟨o',(hs.2 b (aX (bh (aP e) (I.ok.cab x c hfn hc)))).trans e1⟩
  ·by_cases hj:j=i
   ·subst hj;rw[hi] at e1;cases e1;rw[hZ hiσ] at e2;cases e2;exact⟨u,r,.inr ⟨.inl hk,c,hc,hc'⟩⟩
   ·rw[iG (Ne.symm hj)] at e2;obtain⟨u',r',q⟩:=hl j y v' e1 e2 e3;refine⟨u',r',?_⟩;rcases q with q|⟨k,c',e,z'⟩
    ·exact .inl q
    ·refine .inr ⟨k,c',e,z'.sameBut hs ?_⟩
     rintro rfl
     exact hj (On hN e1 (I.ok.inj _ _ _ e hc▸hi))
  ·by_cases hcc:c'=c
   ·subst hcc;exact⟨_,hc'⟩
   ·obtain⟨w2,z2⟩:=I.cell y c' e;exact⟨w2,z2.sameBut hs hcc⟩
  ·obtain⟨e,n,ne,nf,d⟩:=I.pin p hp;refine⟨(hs.2 p.1 ?_).trans e,n,ne,nf,d⟩;intro q;rw[q,hoc] at e;have q':oc=p.2:=aA e;exact d w' (by rw[<-q'];exact hocd)
theorem IB {M:Model} {A:Around} {E:Value->Shared->Prop} {i:Nat} {x:Str} {v:V} {u:Value} {Q:Unit->Shared->Prop} (I:Inv X pins σ H s) (hN:X.N.Nodup) (hi:X.N[i]?=some x) (hx:Loc X.env.scope x) (r:RelV v u)
  (h:∀s',Inv X pins (σ.set i (some v)) H s'->Q () s') (hf:X.fn x=true\/X.env.scope.names.lookup x=some .local:=by first|exact .inl rfl|exact .inr rfl|assumption):wpAny M A (storeName X.env x u) Q E s:=
 Sv I hN hi hx r (λs' I' _=>h s' I') hf
theorem Inv.call' {s':Shared} {ch:List Addr} (I:Inv X pins σ H s) (ho:s'.os=s.os) (u:Un (Oj X.stack) ch H H' s.heap s'.heap) (hok:HS X.prog X.w H' s'.heap) (hg:AllBare s'.gens)
  (hch:∀b∈ch,(b∈X.ex\/X.s₀.heap.objs.size<=b)/\b≠X.env.locals/\(∀x c,X.env.cells.lookup x=some c->c≠b)/\∀p∈X.pn++pins,p.1≠b):Inv X pins σ H' s':=by
 obtain⟨h',g',d',t',o'⟩:=s';have e:o'=s.os:=ho;subst e;exact I.call (g':=g') (t':=t') (d':=d') u hok hg hch
end
abbrev XK:=Value->Option Addr->Hp->Prop
abbrev St:=List (Option V)
abbrev VK:=V->Hp->Prop
abbrev TE:=St->Hp->VK->Prop
abbrev TT:=St->Hp->(Bool->Hp->Prop)->Prop
abbrev TA:=St->Hp->(List V->Hp->Prop)->Prop
structure Ends where
 nx:St->Hp->Prop
 rt:VK
 bk:St->Hp->Prop:=λ_ _=>False
 ct:St->Hp->Prop:=λ_ _=>False
abbrev TS:=Ends->St->Hp->Prop
def EP (X:Cx)(pins:List (Addr×Obj))(σ:St)(Q:VK)(u:Value)(s':Shared):Prop:=∃v H',Inv X pins σ H' s'/\RelV v u/\Q v H'
def TP (X:Cx)(pins:List (Addr×Obj))(σ:St)(Q:Bool->Hp->Prop)(b:Bool)(s':Shared):Prop:=∃H',Inv X pins σ H' s'/\Q b H'
def AP (X:Cx)(pins:List (Addr×Obj))(σ:St)(Q:List V->Hp->Prop)(us:List Value)(s':Shared):Prop:=∃vs H',Inv X pins σ H' s'/\AW vs us/\Q vs H'
def SP (X:Cx)(pins:List (Addr×Obj))(D:Ends)(f:Flow)(s':Shared):Prop:=
 match f with
 | .next=>∃σ' H',Inv X pins σ' H' s'/\D.nx σ' H'
 | .brk=>∃σ' H',Inv X pins σ' H' s'/\D.bk σ' H'
 | .cont=>∃σ' H',Inv X pins σ' H' s'/\D.ct σ' H'
 | .ret u=>∃v σ' H',Inv X pins σ' H' s'/\RelV v u/\D.rt v H'
def PE (X:Cx)(e:Expr)(t:TE):Prop:=
 ∀(pins:List (Addr×Obj)) (s:Shared) (σ:St) (H:Hp) (Q:VK),Inv X pins σ H s->t σ H Q->wpAny (model X.prog X.w) X.A (eval e X.env) (EP X pins σ Q) X.xe s
def PT (X:Cx)(e:Expr)(t:TT):Prop:=
 ∀(pins:List (Addr×Obj)) (s:Shared) (σ:St) (H:Hp) (Q:Bool->Hp->Prop),Inv X pins σ H s->t σ H Q->wpAny (model X.prog X.w) X.A (isTrue e X.env (eval e X.env)) (TP X pins σ Q) X.xe s
def PW (X:Cx)(e:Expr)(t:TT):Prop:=
 ∀(whole:Sem Value) (pins:List (Addr×Obj)) (s:Shared) (σ:St) (H:Hp) (Q:Bool->Hp->Prop),Inv X pins σ H s->t σ H Q->wpAny (model X.prog X.w) X.A (isTrue e X.env whole) (TP X pins σ Q) X.xe s
theorem PW.pt {X:Cx}{e:Expr}{t:TT}(h:PW X e t):PT X e t:=h _
def PA (X:Cx)(es:List Expr)(t:TA):Prop:=
 ∀(pos:Pos) (pins:List (Addr×Obj)) (s:Shared) (σ:St) (H:Hp) (Q:List V->Hp->Prop),Inv X pins σ H s->t σ H Q->wpAny (model X.prog X.w) X.A (spliced (backTo pos (starEach es X.env))) (AP X pins σ Q) X.xe s
def PS (X:Cx)(st:Stmt)(t:TS):Prop:=
 ∀(pins:List (Addr×Obj)) (s:Shared) (σ:St) (H:Hp) (D:Ends),Inv X pins σ H s->t D σ H->wpAny (model X.prog X.w) X.A (exec st X.env) (SP X pins D) X.xe s
def PJ (X:Cx)(st:List Stmt)(t:TS):Prop:=
 ∀(pins:List (Addr×Obj)) (s:Shared) (σ:St) (H:Hp) (D:Ends),Inv X pins σ H s->t D σ H->wpAny (model X.prog X.w) X.A (execs st X.env) (SP X pins D) X.xe s
theorem Bm {α:Type}{t:Sem α}{Q Q':α->Shared->Prop}{M:Model}{A:Around}{E:Value->Shared->Prop}{s:Shared}(h:wpAny M A t Q E s)(hQ:∀a s,Q a s->Q' a s):wpAny M A t Q' E s:=bD h hQ λ_ _ x=>x
section
variable {X:Cx}
theorem bin {a b:Expr} {ta tb:TE} (ha:PE X a ta) (hb:PE X b tb) {pins:List (Addr×Obj)} {s:Shared} {σ:St} {H:Hp} {R:V->V->Hp->Prop} (I:Inv X pins σ H s) (h:ta σ H λx H1=>tb σ H1 λy H2=>R x y H2)
  {α:Type} {Q:α->Shared->Prop} {f:Value->Value->Sem α}
  (hf:∀v u s2 x y H2,Inv X pins σ H2 s2->RelV x v->RelV y u->R x y H2->wpAny (model X.prog X.w) X.A (f v u) Q X.xe s2) :
  wpAny (model X.prog X.w) X.A (eval a X.env) (λv s₁=>wpAny (model X.prog X.w) X.A (eval b X.env) (λu s₂=>wpAny (model X.prog X.w) X.A (f v u) Q X.xe s₂) X.xe s₁) X.xe s:=by
 refine Bm (ha pins s σ H _ I h) λv s1 z9=>?_
 obtain⟨x,H1,I1,r1,q1⟩:=z9;refine Bm (hb pins s1 σ H1 _ I1 q1) λu s2 z9=>?_
 obtain⟨y,H2,I2,r2,q2⟩:=z9;exact hf v u s2 x y H2 I2 r1 r2 q2
def TJ (i:Nat):TE:=λσ H Q=>∃v,σ[i]?=some (some v)/\Q v H
def tC (v:V):TE:=λ_ H Q=>Q v H
theorem Xi {i:Nat}{x:Str}{pos:Pos}(hN:X.N[i]?=some x)(hv:YA X.env.scope x)(hd:(x == ("__debug__":Str))=false:=by decide)(hcd:(x == ("__classdict__":Str))=false:=by decide):PE X (.Name x pos) (TJ i):=by
 intro pins s σ H Q I h;obtain⟨v,e,h⟩:=h;obtain⟨m,hn,hl⟩:=I.loc;obtain⟨u,r,l⟩:=hl i x v hN e hv;have fin:EP X pins σ Q u s:=⟨v,H,I,r,h⟩
 rcases l with⟨hk,hm⟩|⟨hk,c,hc,hcell⟩
 ·exact wpAny_Name (wpAny_loadName_local I.ok.kind hk hn hm fin) hd
 ·rcases hk with hk|hk
  ·exact wpAny_Name (wpAny_loadName_cell I.ok.kind hk hc hcell fin) hd
  ·exact wpAny_Name (wpAny_loadName_free I.ok.kind hk hc hcell fin hcd) hd
theorem Ai {i j pos}:PE X (.Constant (.int i) j pos) (tC (.int i)):=λ_ _ _ H _ I h=>gC ⟨.int i,H,I.tok _,⟨_,rfl⟩,h⟩
theorem Ed {b j pos}:PE X (.Constant (.bool b) j pos) (tC (.bl b)):=λ_ _ _ H _ I h=>Constant_bool ⟨.bl b,H,I,rfl,h⟩
theorem Eh {j pos}:PE X (.Constant .none j pos) (tC .non):=λ_ _ _ H _ I h=>Constant_none ⟨.non,H,I,rfl,h⟩
theorem BP {x j pos}:PE X (.Constant (.str x) j pos) (tC (.str x)):=λ_ _ _ H _ I h=>Calls.Constant_str ⟨.str x,H,I.tok _,⟨_,rfl⟩,h⟩
def Gl (X:Cx)(x:Str):Prop:=X.env.kindOf x=some .globalImplicit
theorem Je {E:Value->Shared->Prop} {pins:List (Addr×Obj)} {s:Shared} {σ:St} {H:Hp} {x:Str} {u:Value} {pos:Pos} {Q:Value->Shared->Prop} (I:Inv X pins σ H s) (hg:Gl X x) (hm:X.mg x=some u) (h:Q u s)
  (hd:(x == ("__debug__":Str))=false:=by decide):wpAny (model X.prog X.w) X.A (eval (.Name x pos) X.env) Q E s:=
 iH I.ok.kind hg (Calls.loadGlobal_global (by rw[I.ok.glob];exact I.mod.glob.keeps I.bk) hm h) hd
theorem Ii {E:Value->Shared->Prop} {pins:List (Addr×Obj)} {s:Shared} {σ:St} {H:Hp} {x:Str} {u:Value} {pos:Pos} {Q:Value->Shared->Prop} (I:Inv X pins σ H s) (hg:Gl X x) (hm:X.mg x=none) (hv:bootBuiltins x=some u) (h:Q u s)
  (hn:x≠"__name__":=by decide) (hd:(x == ("__debug__":Str))=false:=by decide):wpAny (model X.prog X.w) X.A (eval (.Name x pos) X.env) Q E s:=by
 obtain⟨mb,h1,h2⟩:=I.mod.blt;exact iH I.ok.kind hg (Calls.loadGlobal_builtin (by rw[I.ok.glob];exact I.mod.glob.keeps I.bk) hm (by rw[I.ok.blt];exact h1.keeps I.bk) ((h2 x hn).trans hv) h) hd
theorem QU {x:Str}{v:V}{u:Value}{pos:Pos}(hg:Gl X x)(hm:X.mg x=some u)(r:RelV v u)(hd:(x == ("__debug__":Str))=false:=by decide):PE X (.Name x pos) (tC v):=
 λ_ _ _ H _ I h=>Je I hg hm ⟨v,H,I,r,h⟩ hd
theorem U5 {x:Str}{v:V}{u:Value}{pos:Pos}(hg:Gl X x)(hm:X.mg x=none)(hv:bootBuiltins x=some u)(r:RelV v u)(hn:x≠"__name__":=by decide)(hd:(x == ("__debug__":Str))=false:=by decide):PE X (.Name x pos) (tC v):=
 λ_ _ _ H _ I h=>Ii I hg hm hv ⟨v,H,I,r,h⟩ hn hd
variable {a b:Expr}{ta tb:TE}{pos:Pos}
def PC (X:Cx)(op:CmpOp)(a b:Expr)(t:TE):Prop:=
 ∀(pins:List (Addr×Obj)) (s:Shared) (σ:St) (H:Hp) (Q:VK),Inv X pins σ H s->t σ H Q->
  wpAny (model X.prog X.w) X.A (eval a X.env) (λv s₁=>wpAny (model X.prog X.w) X.A (eval b X.env) (λu s₂=>wpAny (model X.prog X.w) X.A (compareOp op v u) (EP X pins σ Q) X.xe s₂) X.xe s₁) X.xe s
theorem C7 (b:Expr){op:CmpOp}(h:op≠.In)(h2:op≠.NotIn):behindInMarks op b=false:=by
 have e1:(op == CmpOp.In)=false:=by cases op<;>first|rfl|exact absurd rfl h
 have e2:(op == CmpOp.NotIn)=false:=by cases op<;>first|rfl|exact absurd rfl h2
 cases b<;>simp[behindInMarks,e1,e2]
def Y3 (ta:TE):TE:=λσ H Q=>ta σ H λx H1=>Q (.bl (decide (x=.non))) H1
def Yo (ta:TE):TE:=λσ H Q=>ta σ H λx H1=>Q (.bl (!decide (x=.non))) H1
theorem RelV.none_iff {x:V}{v:Value}(r:RelV x v):(v == Value.none)=decide (x=.non):=by
 cases x with
 |non=>cases r;rfl
 |bl _=>cases r;rfl
 |int _=>obtain⟨t,rfl⟩:=r;rfl
 |str _=>obtain⟨t,rfl⟩:=r;rfl
 |byt _=>obtain⟨t,rfl⟩:=r;rfl
 |flt _=>obtain⟨t,rfl⟩:=r;rfl
 |ref _=>cases r;rfl
 |ty _=>cases r;rfl
theorem PR {j pos'}(ha:PE X a ta):PC X .Is a (.Constant .none j pos') (Y3 ta):=by
 intro pins s σ H Q I h;refine Bm (ha pins s σ H _ I h) λv s1 z9=>?_
 obtain⟨x,H1,I1,r1,q1⟩:=z9;exact Constant_none (is_none_gen ⟨.bl _,H1,I1,by rw[r1.none_iff];rfl,q1⟩)
theorem Nw {j pos'}(ha:PE X a ta):PC X .IsNot a (.Constant .none j pos') (Yo ta):=by
 intro pins s σ H Q I h;refine Bm (ha pins s σ H _ I h) λv s1 z9=>?_
 obtain⟨x,H1,I1,r1,q1⟩:=z9;exact Constant_none (isnot_none_gen ⟨.bl _,H1,I1,by rw[r1.none_iff];rfl,q1⟩)
def tB (t:TE):TT:=λσ H Q=>t σ H λx H1=>∃c,x=.bl c/\Q c H1
theorem GE {op:CmpOp}{t:TE}(h:PC X op a b t)(h1:behindInMarks op b=false:=by first|exact C7 _ (by decide) (by decide)|rfl):PT X (.Compare a [op] [b] pos) (tB t):=by
 intro pins s σ H Q I hw;refine wpAny_isTrue_Compare1 (Bm (h pins s σ H _ I hw) λv s1 h1=>Bm h1 λu s2 h2=>Bm h2 λc s3 z9=>?_) h1;obtain⟨x,H1,I1,r1,q1⟩:=z9;obtain⟨d,rfl,q⟩:=q1;cases r1;exact cf ⟨H1,I1,q⟩
theorem BK {e:Expr}{t:TE}(h:PE X e t)(he:∀whole,isTrue e X.env whole=(do let v <-whole;standAt e.pos;holding [v] (truthy v)):=by intro _;rfl):PT X e (tB t):=by
 intro pins s σ H Q I hw;refine isTrue_plain (Bm (h pins s σ H _ I hw) λv s1 z9=>?_) (he _);obtain⟨x,H1,I1,r1,q1⟩:=z9;obtain⟨d,rfl,q⟩:=q1;cases r1;exact cf ⟨H1,I1,q⟩
variable {tA tB':TT}{rest:List Expr}
def Yb (t u:TT):TT:=λσ H Q=>t σ H λc H1=>if c=true then u σ H1 Q else Q false H1
def Zh (t u:TT):TT:=λσ H Q=>t σ H λc H1=>if c=true then Q true H1 else u σ H1 Q
def YZ (t:TT):TT:=λσ H Q=>t σ H λc H1=>Q (!c) H1
theorem Rq (ha:PT X a tA):PW X (.BoolOp .And [a] pos) tA:=by
 intro wh pins s σ H Q I h;refine isTrue_and (Bm (ha pins s σ H Q I h) λc s1 e=>?_);cases c with
 |true=>exact isTrue_and_nil e
 |false=>exact e
theorem DH (ha:PT X a tA):PW X (.BoolOp .Or [a] pos) tA:=by
 intro wh pins s σ H Q I h;refine isTrue_or (Bm (ha pins s σ H Q I h) λc s1 e=>?_);cases c with
 |false=>exact isTrue_or_nil e
 |true=>exact e
theorem TB (ha:PT X a tA)(hb:PW X (.BoolOp .And (b::rest) pos) tB'):PW X (.BoolOp .And (a::b::rest) pos) (Yb tA tB'):=by
 intro wh pins s σ H Q I h;refine isTrue_and (Bm (ha pins s σ H _ I h) λc s1 z9=>?_);obtain⟨H1,I1,q1⟩:=z9;cases c with
 |true=>exact hb wh pins s1 σ H1 Q I1 q1
 |false=>exact⟨H1,I1,q1⟩
theorem Fg (ha:PT X a tA)(hb:PW X (.BoolOp .Or (b::rest) pos) tB'):PW X (.BoolOp .Or (a::b::rest) pos) (Zh tA tB'):=by
 intro wh pins s σ H Q I h;refine isTrue_or (Bm (ha pins s σ H _ I h) λc s1 z9=>?_);obtain⟨H1,I1,q1⟩:=z9;cases c with
 |true=>exact⟨H1,I1,q1⟩
 |false=>exact hb wh pins s1 σ H1 Q I1 q1
theorem Co (ha:PT X a tA):PT X (.UnaryOp .Not a pos) (YZ tA):=by
 intro pins s σ H Q I h;exact isTrue_not (ha pins s σ H (λc H1=>Q (!c) H1) I h)
def Wb (ta tb:TE):TE:=λσ H Q=>ta σ H λx H1=>∃c,x=.bl c/\if c=true then tb σ H1 Q else Q (.bl false) H1
def Ym (ta tb:TE):TE:=λσ H Q=>ta σ H λx H1=>∃c,x=.bl c/\if c=true then Q (.bl true) H1 else tb σ H1 Q
def Yq (ta:TE):TE:=λσ H Q=>ta σ H λx H1=>∃c,x=.bl c/\Q (.bl (!c)) H1
theorem Fy {op}{t:TE}(h:PE X a t):PE X (.BoolOp op [a] pos) t:=λpins s σ H Q I hw=>BoolOp_one (h pins s σ H Q I hw)
theorem FM (ha:PE X a ta)(hb:PE X (.BoolOp .And (b::rest) pos) tb):PE X (.BoolOp .And (a::b::rest) pos) (Wb ta tb):=by
 intro pins s σ H Q I h;refine BoolOp_and (Bm (ha pins s σ H _ I h) λv s1 z9=>?_);obtain⟨x,H1,I1,r1,q1⟩:=z9;obtain⟨c,rfl,q1⟩:=q1;cases r1;refine cf ?_;cases c with
 |true=>exact hb pins s1 σ H1 Q I1 q1
 |false=>exact⟨.bl false,H1,I1,rfl,q1⟩
theorem Wu (ha:PE X a ta)(hb:PE X (.BoolOp .Or (b::rest) pos) tb):PE X (.BoolOp .Or (a::b::rest) pos) (Ym ta tb):=by
 intro pins s σ H Q I h;refine BoolOp_or (Bm (ha pins s σ H _ I h) λv s1 z9=>?_);obtain⟨x,H1,I1,r1,q1⟩:=z9;obtain⟨c,rfl,q1⟩:=q1;cases r1;refine cf ?_;cases c with
 |false=>exact hb pins s1 σ H1 Q I1 q1
 |true=>exact⟨.bl true,H1,I1,rfl,q1⟩
theorem XB (ha:PE X a ta):PE X (.UnaryOp .Not a pos) (Yq ta):=by
 intro pins s σ H Q I h;refine UnaryOp_ (Bm (ha pins s σ H _ I h) λv s1 z9=>?_);obtain⟨x,H1,I1,r1,q1⟩:=z9;obtain⟨c,rfl,q1⟩:=q1;cases r1;exact not_of (cf ⟨.bl (!c),H1,I1,rfl,q1⟩)
def Zr (t:TT)(ta tb:TE):TE:=λσ H Q=>t σ H λc H1=>if c=true then ta σ H1 Q else tb σ H1 Q
theorem OV {c:Expr}(hc:PT X c tA)(ha:PE X a ta)(hb:PE X b tb):PE X (.IfExp c a b pos) (Zr tA ta tb):=by
 intro pins s σ H Q I h;refine wpAny_IfExp (Bm (hc pins s σ H _ I h) λd s1 z9=>?_);obtain⟨H1,I1,q1⟩:=z9;cases d with
 |true=>exact ha pins s1 σ H1 Q I1 q1
 |false=>exact hb pins s1 σ H1 Q I1 q1
end
def AJ (K:PySem.W.Frag)(H:Hp)(a:Addr)(xs:List V):Prop:=
 Rd H a (.lst xs)\/
  ∃(o:Obj) (its:Array Value) (n:Nat),K.lookup a=some o/\o.cls=.type "list"/\o.dict=none/\o.data=.seq its n/\its.size<=sizeLine/\AW xs its.toList
def A8 (K:PySem.W.Frag)(H:Hp)(a:Addr)(xs:List V):Prop:=
 Rd H a (.tup xs)\/
  ∃(o:Obj) (its:Array Value) (n:Nat),K.lookup a=some o/\o.cls=.type "tuple"/\o.data=.seq its n/\its.size<=sizeLine/\AW xs its.toList
def Za:Value->Option V
 | .none=>some .non
 | .bool b=>some (.bl b)
 | .int i _=>some (.int i)
 | .str x _=>some (.str x)
 | .bytes b _=>some (.byt b)
 | .float b _=>some (.flt b)
 | .ref a=>some (.ref a)
 | .type n=>some (.ty n)
 |_=>none
theorem RelV.abs {x:V}{u:Value}(r:RelV x u):Za u=some x:=by
 cases x with
 |non=>cases r;rfl
 |bl _=>cases r;rfl
 |int _=>obtain⟨t,rfl⟩:=r;rfl
 |str _=>obtain⟨t,rfl⟩:=r;rfl
 |byt _=>obtain⟨t,rfl⟩:=r;rfl
 |flt _=>obtain⟨t,rfl⟩:=r;rfl
 |ref _=>cases r;rfl
 |ty _=>cases r;rfl
theorem RelV.inj {x y:V}{u:Value}(r:RelV x u)(q:RelV y u):x=y:=aA (r.abs.symm.trans q.abs)
theorem AW.inj:∀{xs ys:List V} {us:List Value},AW xs us->AW ys us->xs=ys
 |_,_,_,.nil,.nil=>rfl
 |_,_,_,.cons r t,.cons r' t'=>by rw[r.inj r',AW.inj t t']
section
variable {X:Cx}{pins:List (Addr×Obj)}{σ:St}{H:Hp}{s:Shared}{a:Addr}{xs ys:List V}
theorem AJ.of {K:PySem.W.Frag}(h:H a=some (.lst xs)):AJ K H a xs:=.inl (.inl h)
theorem A8.of {K:PySem.W.Frag}(h:H a=some (.tup xs)):A8 K H a xs:=.inl (.inl h)
theorem Inv.list (I:Inv X pins σ H s)(h:AJ X.K H a xs):∃its:List Value,AW xs its/\PlainL s.heap a its.toArray/\xs.length<=sizeLine:=by
 rcases h with h|⟨o,its,n,hk,hc,hd,hs,hz,r⟩
 ·obtain⟨z,its,n,r,e⟩:=h.ok I.hok;exact⟨its,r,⟨_,n,e,rfl,rfl,rfl⟩,z⟩
 ·refine⟨its.toList,r,⟨o,n,I.kIn a o hk,hc,hd,by simpa using hs⟩,?_⟩;have e:=r.length;simp only[Array.length_toList] at e
  lia
theorem Inv.tuple (I:Inv X pins σ H s)(h:A8 X.K H a xs):∃its:List Value,AW xs its/\IsTup s.heap a its.toArray/\xs.length<=sizeLine:=by
 rcases h with h|⟨o,its,n,hk,hc,hs,hz,r⟩
 ·obtain⟨z,its,r,p⟩:=h.ok I.hok;exact⟨its,r,p.is,z⟩
 ·refine⟨its.toList,r,⟨o,I.kIn a o hk,hc,n,by simpa using hs⟩,?_⟩;have e:=r.length;simp only[Array.length_toList] at e
  lia
theorem Inv.list_inj (I:Inv X pins σ H s)(h:AJ X.K H a xs)(h':AJ X.K H a ys):xs=ys:=by
 obtain⟨its,r,⟨o,n,e,_,_,d⟩,_⟩:=I.list h;obtain⟨its',r',⟨o',n',e',_,_,d'⟩,_⟩:=I.list h';rw[e] at e';cases e';rw[d] at d';injection d' with d1 _
 have:its=its':=by simpa using congrArg Array.toList d1
 subst this;exact r.inj r'
theorem Inv.tuple_inj (I:Inv X pins σ H s)(h:A8 X.K H a xs)(h':A8 X.K H a ys):xs=ys:=by
 obtain⟨its,r,⟨o,e,_,n,d⟩,_⟩:=I.tuple h;obtain⟨its',r',⟨o',e',_,n',d'⟩,_⟩:=I.tuple h';rw[e] at e';cases e';rw[d] at d';injection d' with d1 _
 have:its=its':=by simpa using congrArg Array.toList d1
 subst this;exact r.inj r'
end
abbrev Cx.wish (X:Cx)(E:Value->Shared->Prop):Cx:={ X with xe:=E }
abbrev Cx.nox (X:Cx):Cx:=X.wish λ_ _=>False
theorem Cx.Ok.wish {X:Cx}(ok:X.Ok)(E:Value->Shared->Prop):(X.wish E).Ok:=
 ⟨ok.mod,ok.kind,ok.glob,ok.blt,ok.above,ok.inj,ok.has,ok.cab,ok.hd,ok.frames,ok.stk,ok.exf,ok.bs,ok.bsz,ok.noex,ok.exfs,ok.funs,ok.frf⟩
theorem Cx.Ok.unwish {X:Cx}{E:Value->Shared->Prop}(ok:(X.wish E).Ok):X.Ok:=
 ⟨ok.mod,ok.kind,ok.glob,ok.blt,ok.above,ok.inj,ok.has,ok.cab,ok.hd,ok.frames,ok.stk,ok.exf,ok.bs,ok.bsz,ok.noex,ok.exfs,ok.funs,ok.frf⟩
section
variable {X:Cx}{pins:List (Addr×Obj)}{σ:St}{H:Hp}{s:Shared}{E:Value->Shared->Prop}
theorem Inv.wish (I:Inv X pins σ H s)(E:Value->Shared->Prop):Inv (X.wish E) pins σ H s:=⟨I.ok.wish E,I.os,I.bare,I.base,I.loc,I.cell,I.free,I.freeC,I.pin,I.hok,I.len⟩
theorem Inv.unwish (I:Inv (X.wish E) pins σ H s):Inv X pins σ H s:=⟨I.ok.unwish,I.os,I.bare,I.base,I.loc,I.cell,I.free,I.freeC,I.pin,I.hok,I.len⟩
theorem SP.unwish {D:Ends}{f:Flow}{s':Shared}(h:SP (X.wish E) pins D f s'):SP X pins D f s':=by
 cases f with
 |next=>obtain⟨σ',H',I,q⟩:=h;exact⟨σ',H',I.unwish,q⟩
 |brk=>obtain⟨σ',H',I,q⟩:=h;exact⟨σ',H',I.unwish,q⟩
 |cont=>obtain⟨σ',H',I,q⟩:=h;exact⟨σ',H',I.unwish,q⟩
 |ret u=>obtain⟨v,σ',H',I,r,q⟩:=h;exact⟨v,σ',H',I.unwish,r,q⟩
theorem PJ.nox {st:List Stmt}{t:TS}(h:PJ X.nox st t):PJ X st t:=λpins s σ H D I hw=>
 bD (h pins s σ H D (I.wish _) hw) (λ_ _ q=>q.unwish) λ_ _ z=>False.elim z
end
section
variable {X:Cx}{st:Stmt}{rest:List Stmt}{t u:TS}{e:Expr}{te:TE}{pos:Pos}
def O9:TS:=λD σ H=>D.nx σ H
def V8 (t u:TS):TS:=λD σ H=>t { D with nx:=u D } σ H
theorem Au:PJ X [] O9:=λ_ _ σ H _ I h=>eW ⟨σ,H,I,h⟩
theorem Af (h1:PS X st t)(h2:PJ X rest u):PJ X (st::rest) (V8 t u):=by
 intro pins s σ H D I h;refine gO (Bm (h1 pins s σ H { D with nx:=u D } I h) λf s1 q=>?_);cases f with
 |next=>
  obtain⟨σ',H',I',q⟩:=q;exact h2 pins s1 σ' H' D I' q
 |ret v=>exact q
 |brk=>exact q
 |cont=>exact q
theorem Ak (h1:PS X st t):PJ X [st] t:=by
 intro pins s σ H D I h;refine gO (Bm (h1 pins s σ H D I h) λf s1 q=>?_);cases f with
 |next=>exact eW q
 |ret v=>exact q
 |brk=>exact q
 |cont=>exact q
theorem Inv.quiet {pins:List (Addr×Obj)}{σ:St}{H:Hp}{s:Shared}(I:Inv X pins σ H s):interactive X.env=false:=by simp[interactive,I.ok.kind]
def XW (te:TE):TS:=λD σ H=>te σ H λ_ H1=>D.nx σ H1
theorem AN (he:PE X e te)(hs:swapsWith e none pos.line X.env=pure false:=by rfl):PS X (.Expr e pos) (XW te):=by
 intro pins s σ H D I h;exact wpAny_Expr_any (Bm (he pins s σ H _ I h) (by rintro v s1 ⟨x,H1,I1,r1,q1⟩;exact⟨σ,H1,I1,q1⟩)) I.quiet hs
def YV (te:TE):TS:=λD σ H=>te σ H D.rt
theorem Ao (he:PE X e te):PS X (.Return (some e) pos) (YV te):=by
 intro pins s σ H D I h;exact wpAny_Return_some (Bm (he pins s σ H _ I h) (by rintro v s1 ⟨x,H1,I1,r1,q1⟩;exact⟨x,σ,H1,I1,r1,q1⟩))
def Uk (c:TT)(t u:TS):TS:=λD σ H=>c σ H λb H1=>if b=true then t D σ H1 else u D σ H1
theorem AL {c:Expr}{a b:List Stmt}{tc:TT}(hc:PT X c tc)(ha:PJ X a t)(hb:PJ X b u):PS X (.If c a b pos) (Uk tc t u):=by
 intro pins s σ H D I h;refine wpAny_If (Bm (hc pins s σ H _ I h) λd s1 z9=>?_);obtain⟨H1,I1,q1⟩:=z9;cases d with
 |true=>exact ha pins s1 σ H1 D I1 q1
 |false=>exact hb pins s1 σ H1 D I1 q1
def XD:TS:=λ_ _ _=>False
theorem CL:PS X st XD:=λ_ _ _ _ _ _ h=>h.elim
end
abbrev TG:=V->St->Hp->(St->Hp->Prop)->Prop
abbrev Wr:=List V->St->Hp->(St->Hp->Prop)->Prop
def PG (X:Cx)(target:Expr)(t:TG):Prop:=
 ∀(pins:List (Addr×Obj)) (s:Shared) (σ:St) (H:Hp) (v:V) (u:Value) (Q:St->Hp->Prop),Inv X pins σ H s->RelV v u->t v σ H Q->
  wpAny (model X.prog X.w) X.A (assign target X.env u) (λ_ s'=>∃σ' H',Inv X pins σ' H' s'/\Q σ' H') X.xe s
def X1 (X:Cx)(ts:List Expr)(t:Wr):Prop:=
 ∀(pins:List (Addr×Obj)) (s:Shared) (σ:St) (H:Hp) (vs:List V) (us:List Value) (Q:St->Hp->Prop),Inv X pins σ H s->AW vs us->t vs σ H Q->
  wpAny (model X.prog X.w) X.A (assignInOrder ((assignEach ts X.env).map (·.2)) us) (λ_ s'=>∃σ' H',Inv X pins σ' H' s'/\Q σ' H') X.xe s
abbrev Y7:=V->V->Hp->VK->Prop
def Zp (X:Cx)(op:Operator)(t:Y7):Prop:=
 ∀(pins:List (Addr×Obj)) (s:Shared) (σ:St) (H:Hp) (x y:V) (v u:Value) (Q:VK),Inv X pins σ H s->RelV x v->RelV y u->t x y H Q->
  wpAny (model X.prog X.w) X.A (inplaceOp op v u) (EP X pins σ Q) X.xe s
section
variable {X:Cx}{pos:Pos}
def BH (i:Nat):TG:=λv σ H Q=>Q (σ.set i (some v)) H
theorem An {i:Nat}{x:Str}(hN:X.N.Nodup)(hi:X.N[i]?=some x)(hx:Loc X.env.scope x)(hf:X.fn x=true\/X.env.scope.names.lookup x=some .local:=by first|exact .inl rfl|exact .inr rfl|assumption):PG X (.Name x pos) (BH i):=by
 intro pins s σ H v u Q I r h;exact wpAny_assign_Name (IB I hN hi hx r (λs' I'=>⟨_,H,I',h⟩) hf)
def VW:Wr:=λvs σ H Q=>vs=[]/\Q σ H
def Lu (t:TG)(u:Wr):Wr:=λvs σ H Q=>∃v r,vs=v::r/\t v σ H λσ' H'=>u r σ' H' Q
theorem BF:X1 X [] VW:=by
 intro pins s σ H vs us Q I r h;obtain⟨e,h⟩:=h;subst e;cases r;exact assignInOrder_nil ⟨σ,H,I,h⟩
theorem AA {e:Expr} {es:List Expr} {t:TG} {u:Wr} (h1:PG X e t) (h2:X1 X es u)
  (hs:(assignEach (e::es) X.env).map (·.2)=assign e X.env::(assignEach es X.env).map (·.2):=by rfl):X1 X (e::es) (Lu t u):=by
 intro pins s σ H vs us Q I r h;obtain⟨v,vr,e1,h⟩:=h;subst e1;cases r with
 |cons r rr=>
  rw[hs];refine assignInOrder_cons (Bm (h1 pins s σ H _ _ _ I r h) λ_ s1 z9=>?_);obtain⟨σ1,H1,I1,q1⟩:=z9;exact h2 pins s1 σ1 H1 _ _ Q I1 rr q1
def TR (K:PySem.W.Frag)(n:Nat)(t:Wr):TG:=λv σ H Q=>∃a xs,v=.ref a/\A8 K H a xs/\xs.length=n/\t xs σ H Q
theorem FD {es:List Expr} {k:Nat} {t:Wr} {n:Nat} (hc:X.calm=true) (h:X1 X es t)
  (hn:(assignEach es X.env).length=n:=by rfl) (hst:(assignEach es X.env).findIdx? (·.1)=none:=by rfl):PG X (.Tuple es k pos) (TR X.K n t):=by
 intro pins s σ H v u Q I r hw;obtain⟨a,xs,e1,hq,hl,hw⟩:=hw;subst e1;cases r;obtain⟨its,rv,ht,hz⟩:=I.tuple hq;refine assign_Tuple_tuple (I.ok.hd hc) ht (by simp[hn,<-hl,rv.length]) hst λh' hx=>?_
 have I1:Inv X pins σ H { s with heap:=h' }:=I.kept (t':=s.toks) λb o e=>hx b o (aX (aP e)) e
 exact h pins _ σ H xs _ Q I1 (by simpa using rv) hw
def Vj (te:TE)(g:TG):TS:=λD σ H=>te σ H λx H1=>g x σ H1 D.nx
theorem Ap {i:Nat}{x:Str}{e:Expr}{te:TE}{pos':Pos}(hN:X.N.Nodup)(hi:X.N[i]?=some x)(hx:Loc X.env.scope x)(he:PE X e te)(hs:swapsWith e (some (.Name x pos')) pos.line X.env=pure false:=by rfl)(hf:X.fn x=true\/X.env.scope.names.lookup x=some .local:=by first|exact .inl rfl|exact .inr rfl|assumption) :
  PS X (.Assign [.Name x pos'] e pos) (Vj te (BH i)):=by
 intro pins s σ H D I h;refine wpAny_Assign_Name (Bm (he pins s σ H _ I h) λv s1 z9=>?_) hs;obtain⟨y,H1,I1,r1,q1⟩:=z9;exact IB I1 hN hi hx r1 (λs2 I2=>⟨_,H1,I2,q1⟩) hf
def YC (i:Nat)(te:TE)(ti:Y7):TS:=λD σ H=>∃x,σ[i]?=some (some x)/\te σ H λy H1=>ti x y H1 λz H2=>D.nx (σ.set i (some z)) H2
theorem P4 {i:Nat}{x:Str}{e:Expr}{te:TE}{op:Operator}{ti:Y7}{pos':Pos}(hN:X.N.Nodup)(hi:X.N[i]?=some x)(hx:Loc X.env.scope x)(he:PE X e te)(ho:Zp X op ti)(hf:X.fn x=true\/X.env.scope.names.lookup x=some .local:=by first|exact .inl rfl|exact .inr rfl|assumption) :
  PS X (.AugAssign (.Name x pos') op e pos) (YC i te ti):=by
 intro pins s σ H D I h;obtain⟨v,e1,h⟩:=h;obtain⟨m,hn,hl⟩:=I.loc;have vis:YA X.env.scope x:=by rcases hx with k|k;exact .inl k;exact .inr (.inl k)
 obtain⟨u,r,l⟩:=hl i x v hi e1 vis;refine wpAny_AugAssign_Name ?_;have go:wpAny (model X.prog X.w) X.A (eval e X.env) (λw s₂=>wpAny (model X.prog X.w) X.A (inplaceOp op u w) (λr s₃=>wpAny (model X.prog X.w) X.A (storeName X.env x r) (λ_=>SP X pins D .next) X.xe s₃) X.xe s₂) X.xe s:=by
  refine Bm (he pins s σ H _ I h) λw s1 z9=>?_
  obtain⟨y,H1,I1,r1,q1⟩:=z9;refine Bm (ho pins s1 σ H1 v y u w _ I1 r r1 q1) λz s2 z9=>?_
  obtain⟨zv,H2,I2,r2,q2⟩:=z9;exact IB I2 hN hi hx r2 (λs3 I3=>⟨_,H2,I3,q2⟩) hf
 rcases l with⟨hk,hm⟩|⟨hk,c,hc,hcell⟩
 ·exact wpAny_loadName_local I.ok.kind hk hn hm go
 ·rcases hk with hk|hk
  ·exact wpAny_loadName_cell I.ok.kind hk hc hcell go
  ·rcases hx with k|k
   ·have:X.env.scope.names.lookup x=some .free:=hk;rw[k] at this;cases this
   ·have:X.env.scope.names.lookup x=some .free:=hk;rw[k] at this;cases this
end
section
variable {X:Cx}{pos:Pos}
def W0 (c:TT)(tb:TS):TS:=λD σ H=>∃W:Nat->St->Hp->Prop,(∃m,W m σ H)/\∀m σ H,W m σ H->
 c σ H λb H1=>if b=true then ∃N:St->Hp->Prop,(∀σ' H',N σ' H'->∃m',m'<m/\W m' σ' H')/\tb { D with nx:=N,ct:=N,bk:=D.nx } σ H1 else D.nx σ H1
theorem IS {c:Expr}{body:List Stmt}{tc:TT}{tb:TS}(hp:PassesOwn (model X.prog X.w) X.A X.env X.xe)(hc:PT X c tc)(hb:PJ X body tb):PS X (.While c body [] pos) (W0 tc tb):=by
 intro pins s σ H D I h;obtain⟨W,⟨m0,w0⟩,turn⟩:=h;refine wpAny_While (codeAny_whileLoop (λn s'=>∃σ' H',Inv X pins σ' H' s'/\W n σ' H') ?_ m0 ⟨σ,H,I,w0⟩)
 rintro n s1 ⟨σ1,H1,I1,w1⟩
 refine dw hp (Bm (hc pins s1 σ1 H1 _ I1 (turn n σ1 H1 w1)) λb s2 z9=>?_);obtain⟨H2,I2,q2⟩:=z9;cases b with
 |true=>
  obtain⟨N,hN,q2⟩:=q2;rw[aC rfl];refine dw hp (Bm (hb pins s2 σ1 H2 _ I2 q2) λf s3 q3=>?_);cases f with
  |next=>
   obtain⟨σ3,H3,I3,n3⟩:=q3;obtain⟨m',hm,w3⟩:=hN σ3 H3 n3;exact⟨m',hm,σ3,H3,I3,w3⟩
  |cont=>
   obtain⟨σ3,H3,I3,n3⟩:=q3;obtain⟨m',hm,w3⟩:=hN σ3 H3 n3;exact⟨m',hm,σ3,H3,I3,w3⟩
  |brk=>exact q3
  |ret v=>exact q3
 |false=>
  rw[ay aB];exact eW ⟨σ1,H2,I2,q2⟩
end
structure It where
 go:Nat->Hp->Prop
 yld:Nat->Hp->V->Hp->Prop
 stop:Nat->Hp->Prop
def IR (X:Cx)(pins:List (Addr×Obj))(H:Hp)(b:Addr):Prop:=
 H b=none/\b≠X.env.locals/\b∉X.fs/\(b∈X.ex\/X.s₀.heap.objs.size<=b)/\(∀x c,X.env.cells.lookup x=some c->c≠b)/\∀p∈X.pn++pins,p.1≠b
theorem Inv.fpOk {X:Cx}{pins:List (Addr×Obj)}{σ:St}{H H':Hp}{s:Shared}{b:Addr}(I:Inv X pins σ H s)(hb:s.heap.objs.size<=b)(hn:H' b=none):IR X pins H' b:=by
 refine⟨hn,fq (bh I.lt hb),I.nofs hb,.inr (aY I.sz hb),λx c e z=>?_,λp hp z=>?_⟩
 ·obtain⟨v,q⟩:=I.cell x c e;exact absurd (bh q.lt (by rw[z];exact hb)) (cL _)
 ·exact absurd (bh (aP (I.pin p hp).1) (by rw[z];exact hb)) (cL _)
structure Turn (P:Program) (w:World) (K:PySem.W.Frag) (tg:Expr) (J:It) (fp:List Addr) (it:Addr) (tn:Nat->Heap->Prop):Prop where
 mem:it∈fp
 obj:∀i h,tn i h->∀b∈fp,∃o,h.get? b=some o/\∀v,o.data≠.cell v
 keep:∀i h h',tn i h->(∀b∈fp,∀o,h.get? b=some o->h'.get? b=some o)->tn i h'
 item:∀(X:Cx),X.prog=P->X.w=w->X.K=K->X.calm=true->∀(i:Nat) (pins:List (Addr×Obj)) (s:Shared) (σ:St) (H:Hp) (E:Value->Shared->Prop),Inv X pins σ H s->(∀b∈fp,IR X pins H b)->tn i s.heap->J.go i H->
  wpAny (model P w) X.A (pyNext (.ref it)) (λr s1=>∃u,r=some u/\
   wpAny (model P w) X.A (letOwnedTupleGo tg (.ref it) u) (λ_ s2=>∃x H',Inv X pins σ H' s2/\RelV x u/\J.yld i H x H'/\tn (i+1) s2.heap/\∀b∈fp,H' b=none) E s1) E s
 done:∀(X:Cx),X.prog=P->X.w=w->X.K=K->X.calm=true->∀(i:Nat) (pins:List (Addr×Obj)) (s:Shared) (σ:St) (H:Hp) (E:Value->Shared->Prop),Inv X pins σ H s->(∀b∈fp,IR X pins H b)->tn i s.heap->J.stop i H->
  wpAny (model P w) X.A (pyNext (.ref it)) (λr s1=>r=none/\Inv X pins σ H s1) E s
 self:∀(A:Around) (i:Nat) (s:Shared) (Q:Value->Shared->Prop) (E:Value->Shared->Prop),tn i s.heap->Q (.ref it) s->wpAny (model P w) A (pyIter (.ref it)) Q E s
abbrev TI:=St->Hp->(It->Hp->Prop)->Prop
def Zi (X:Cx)(pins:List (Addr×Obj))(σ:St)(tg:Expr)(R:It->Hp->Prop)(itv:Value)(s2:Shared):Prop:=
 ∃(it:Addr) (fp:List Addr) (tn:Nat->Heap->Prop) (J:It) (H':Hp),itv=.ref it/\Inv X pins σ H' s2/\Turn X.prog X.w X.K tg J fp it tn/\tn 0 s2.heap/\(∀b∈fp,IR X pins H' b)/\R J H'
def PI (X:Cx)(tg iter:Expr)(wi:TI):Prop:=
 ∀(pins:List (Addr×Obj)) (s:Shared) (σ:St) (H:Hp) (R:It->Hp->Prop),Inv X pins σ H s->wi σ H R->
  wpAny (model X.prog X.w) X.A (eval iter X.env) (λv s1=>wpAny (model X.prog X.w) X.A (pyIter v) (Zi X pins σ tg R) X.xe s1) X.xe s
theorem Ow {M:Model} {A:Around} {E:Value->Shared->Prop} {s:Shared} {tg:Expr} {it:Addr} {u:Value} {o:Obj} {n:String} {vs:Array Value} {Q:Unit->Shared->Prop} (ho:s.heap.get? it=some o) (hc:o.cls=.type n) (hd:o.data=.fields vs)
  (hn:["enumerate","zip","dict_itemiterator","dict_reverseitemiterator","odict_iterator","itertools.zip_longest","itertools.pairwise"].contains n=false) (hQ:Q () s):wpAny M A (letOwnedTupleGo tg (.ref it) u) Q E s:=by
 unfold letOwnedTupleGo;cases tg<;>first
  |exact aw hQ
  |(cases u<;>first
    |exact aw hQ
    |(refine af (wpAny_load ho ?_)
      rw[hc,hd];show wpAny M A (if(["enumerate","zip","dict_itemiterator","dict_reverseitemiterator","odict_iterator","itertools.zip_longest","itertools.pairwise"].contains n&&vs[0]? == some (rawInt _))=true then _ else _) Q E s;rw[ay (by intro h;rw[hn,Bool.false_and] at h;cases h)];exact aw hQ))
def W6 (K:PySem.W.Frag)(a:Addr):It:=
 ⟨λi H=>∃xs x,AJ K H a xs/\xs[i]?=some x,λi H x H'=>H'=H/\∀xs,AJ K H a xs->xs[i]?=some x,λi H=>∃xs,AJ K H a xs/\xs.length<=i⟩
def XG (K:PySem.W.Frag)(a:Addr):It:=
 ⟨λi H=>∃xs x,A8 K H a xs/\xs[i]?=some x,λi H x H'=>H'=H/\∀xs,A8 K H a xs->xs[i]?=some x,λi H=>∃xs,A8 K H a xs/\xs.length<=i⟩
def VS (lo:Int)(n:Nat):It:=⟨λi _=>i<n,λi H x H'=>H'=H/\x=.int (lo+i),λi _=>n<=i⟩
theorem RJ {P:Program}{w:World}{K:PySem.W.Frag}{tg:Expr}(a it:Addr):Turn P w K tg (W6 K a) [it] it (λi h=>h.IsListIter it a i) where
 mem:=by simp
 obj:=λi h st b hb=>by
  have e:b=it:=by simpa using hb
  subst e;obtain⟨o,e,c,d⟩:=st;exact⟨o,e,λv z=>by rw[d] at z;cases z⟩
 keep:=λi h h' st k=>st.at λo e=>k it (by simp) o e
 item:=by
  intro X hP hw hK hc i pins s σ H E I hf st hg;subst hP hw hK;obtain⟨xs,x,hq,hx⟩:=hg;obtain⟨its,rv,p,hz⟩:=I.list hq;obtain⟨u,hu,ru⟩:=rv.get hx;obtain⟨f0,f1,f2,f3,f4,f5⟩:=hf it (by simp);refine wpAny_pyNext_list_item st p.isList (x:=u) (by simpa using hu) λh' st' sb=>?_
  have I1:Inv X pins σ H { s with heap:=h' }:=I.turned (t':=s.toks) (λb o hb e=>(sb.2 b hb).trans e) f0 f1 f3 f4 f5;obtain⟨o,e,c,d⟩:=id st';exact⟨u,rfl,Ow (s:={ s with heap:=h' }) e c d (by decide) ⟨x,H,I1,ru,⟨rfl,λys hy=>by rw[I.list_inj hy hq];exact hx⟩,st',λb hb=>(hf b hb).1⟩⟩
 done:=by
  intro X hP hw hK hc i pins s σ H E I hf st hg;subst hP hw hK;obtain⟨xs,hq,hx⟩:=hg;obtain⟨its,rv,p,hz⟩:=I.list hq;obtain⟨f0,f1,f2,f3,f4,f5⟩:=hf it (by simp);have hl:=rv.length;exact wpAny_pyNext_list_end (I.ok.hd hc) st p.isList (by simp;lia) λh' eb=>⟨rfl,I.turned (t':=s.toks) (λb o hb e=>eb b o hb e) f0 f1 f3 f4 f5⟩
 self:=λ_ _ _ _ _ st h=>wpAny_pyIter_listiter st h
theorem PN {P:Program}{w:World}{K:PySem.W.Frag}{tg:Expr}(a it:Addr):Turn P w K tg (XG K a) [it] it (λi h=>h.IsTupleIter it a i) where
 mem:=by simp
 obj:=λi h st b hb=>by
  have e:b=it:=by simpa using hb
  subst e;obtain⟨o,e,c,d⟩:=st;exact⟨o,e,λv z=>by rw[d] at z;cases z⟩
 keep:=λi h h' st k=>st.at λo e=>k it (by simp) o e
 item:=by
  intro X hP hw hK hc i pins s σ H E I hf st hg;subst hP hw hK;obtain⟨xs,x,hq,hx⟩:=hg;obtain⟨its,rv,p,hz⟩:=I.tuple hq;obtain⟨u,hu,ru⟩:=rv.get hx;obtain⟨f0,f1,f2,f3,f4,f5⟩:=hf it (by simp);refine wpAny_pyNext_tuple_item st (show s.heap.IsTuple a its.toArray from p) (x:=u) (by simpa using hu) λh' st' sb=>?_
  have I1:Inv X pins σ H { s with heap:=h' }:=I.turned (t':=s.toks) (λb o hb e=>(sb.2 b hb).trans e) f0 f1 f3 f4 f5;obtain⟨o,e,c,d⟩:=id st';exact⟨u,rfl,Ow (s:={ s with heap:=h' }) e c d (by decide) ⟨x,H,I1,ru,⟨rfl,λys hy=>by rw[I.tuple_inj hy hq];exact hx⟩,st',λb hb=>(hf b hb).1⟩⟩
 done:=by
  intro X hP hw hK hc i pins s σ H E I hf st hg;subst hP hw hK;obtain⟨xs,hq,hx⟩:=hg;obtain⟨its,rv,p,hz⟩:=I.tuple hq;obtain⟨f0,f1,f2,f3,f4,f5⟩:=hf it (by simp);have hl:=rv.length;exact wpAny_pyNext_tuple_end (I.ok.hd hc) st (show s.heap.IsTuple a its.toArray from p) (by simp;lia) λh' eb=>⟨rfl,I.turned (t':=s.toks) (λb o hb e=>eb b o hb e) f0 f1 f3 f4 f5⟩
 self:=λ_ _ _ _ _ st h=>wpAny_pyIter_tupleiter st h
theorem QD {P:Program}{w:World}{K:PySem.W.Frag}{tg:Expr}(it:Addr)(lo:Int)(n:Nat):Turn P w K tg (VS lo n) [it] it (λi h=>IsRangeIter h it (lo+(i:Nat)*1) ((n:Int)-(i:Nat)) 1) where
 mem:=by simp
 obj:=λi h st b hb=>by
  have e:b=it:=by simpa using hb
  subst e;exact⟨_,st,λv z=>by
   have z':Data.fields _=Data.cell v:=z;cases z'⟩
 keep:=λi h h' st k=>k it (by simp) _ st
 item:=by
  intro X hP hw hK hc i pins s σ H E I hf st hg;subst hP hw hK;obtain⟨f0,f1,f2,f3,f4,f5⟩:=hf it (by simp);have W:=Walks.range (prog:=X.prog) (w:=X.w) (I.ok.hd hc) it lo 1 n;refine W.item i s _ _ hg st λv h' tk hv st' kk=>?_
  obtain⟨t,rfl⟩:=hv;have I1:Inv X pins σ H { s with heap:=h',toks:=tk }:=I.turned (λb o hb e=>kk b o (by simpa using hb) e) f0 f1 f3 f4 f5;refine⟨_,rfl,Ow (s:={ s with heap:=h',toks:=tk }) (n:="range_iterator") st' rfl rfl (by decide) ⟨.int (lo+i),H,I1,⟨t,?_⟩,⟨rfl,rfl⟩,st',λb hb=>(hf b hb).1⟩⟩;rw[Int.mul_one]
 done:=by
  intro X hP hw hK hc i pins s σ H E I hf st hg;subst hP hw hK;obtain⟨f0,f1,f2,f3,f4,f5⟩:=hf it (by simp);exact wpAny_pyNext_range_end (I.ok.hd hc) st (by have:n<=i:=hg;lia) λh' eb=>⟨rfl,I.turned (t':=s.toks) (λb o hb e=>eb b o hb e) f0 f1 f3 f4 f5⟩
 self:=λ_ _ _ _ _ st h=>wpAny_pyIter_rangeiter st h
section
variable {X:Cx}{tg:Expr}
def X4 (K:PySem.W.Frag)(tl:TE):TI:=λσ H R=>tl σ H λx H1=>∃a,x=.ref a/\(∃xs,AJ K H1 a xs)/\R (W6 K a) H1
def Zc (K:PySem.W.Frag)(tl:TE):TI:=λσ H R=>tl σ H λx H1=>∃a,x=.ref a/\(∃xs,A8 K H1 a xs)/\R (XG K a) H1
theorem A2 {l:Expr}{tl:TE}(hl:PE X l tl):PI X tg l (X4 X.K tl):=by
 intro pins s σ H R I h;refine Bm (hl pins s σ H _ I h) λv s1 z9=>?_
 obtain⟨x,H1,I1,r1,q1⟩:=z9;obtain⟨a,e,⟨xs,hq⟩,q⟩:=q1;subst e;cases r1;obtain⟨its,rv,p,hz⟩:=I1.list hq;refine dD p.isList ?_;refine⟨s1.heap.objs.size,[s1.heap.objs.size],_,_,H1,rfl,I1.kept (t':=s1.toks) λb o e=>aq _ e,RJ a _,⟨_,aQ _ rfl,rfl,rfl⟩,λb hb=>?_,q⟩;have e:b=s1.heap.objs.size:=by simpa using hb
 subst e;exact I1.fpOk (ah _) (I1.hok.fresh (ah _))
theorem Dr {l:Expr}{tl:TE}(hl:PE X l tl):PI X tg l (Zc X.K tl):=by
 intro pins s σ H R I h;refine Bm (hl pins s σ H _ I h) λv s1 z9=>?_
 obtain⟨x,H1,I1,r1,q1⟩:=z9;obtain⟨a,e,⟨xs,hq⟩,q⟩:=q1;subst e;cases r1;obtain⟨its,rv,p,hz⟩:=I1.tuple hq;refine wpAny_pyIter_tuple (show s1.heap.IsTuple a its.toArray from p) ?_;refine⟨s1.heap.objs.size,[s1.heap.objs.size],_,_,H1,rfl,I1.kept (t':=s1.toks) λb o e=>aq _ e,PN a _,⟨_,aQ _ rfl,rfl,rfl⟩,λb hb=>?_,q⟩;have e:b=s1.heap.objs.size:=by simpa using hb
 subst e;exact I1.fpOk (ah _) (I1.hok.fresh (ah _))
theorem SS {pins:List (Addr×Obj)} {σ:St} {H:Hp} {s:Shared} {R:It->Hp->Prop} {E:Value->Shared->Prop} {lo hi:Int} {t u v:Tok} {tk:Nat} (I:Inv X pins σ H s) (h1:-(2^62)<=lo) (h2:lo<2^62) (h3:-(2^62)<=hi) (h4:hi<2^62)
  (q:R (VS lo (hi-lo).toNat) H):wpAny (model X.prog X.w) X.A (pyIter (.ref s.heap.objs.size)) (Zi X pins σ tg R) E { s with heap:=s.heap.push { cls:=.type "range",data:=.fields #[.int lo t,.int hi u,.int 1 v] },toks:=tk }:=by
 refine wpAny_pyIter_range (IsRange.new ..) (small_one h1 h2 h3 h4) ?_;have I1:Inv X pins σ H { s with heap:=s.heap.push { cls:=.type "range",data:=.fields #[.int lo t,.int hi u,.int 1 v] },toks:=tk }:=I.kept λb o e=>aq _ e
 refine⟨(s.heap.push { cls:=.type "range",data:=.fields #[.int lo t,.int hi u,.int 1 v] }).objs.size,[(s.heap.push { cls:=.type "range",data:=.fields #[.int lo t,.int hi u,.int 1 v] }).objs.size],_,_,H,rfl,
  I1.kept (t':=tk) λb o e=>aq _ e,QD _ lo (hi-lo).toNat,?_,λb hb=>?_,q⟩
 ·have e1:lo+((0:Nat):Int)*1=lo:=by simp
  have e2:(((hi-lo).toNat:Nat):Int)-((0:Nat):Int)=Builtin.Range.rangeSize lo hi 1:=by rw[rangeSize_one];split<;>lia
  show IsRangeIter _ _ (lo+((0:Nat):Int)*1) ((((hi-lo).toNat:Nat):Int)-((0:Nat):Int)) 1;rw[e1,e2];exact aQ _ rfl
 ·have e:b=(s.heap.push { cls:=.type "range",data:=.fields #[.int lo t,.int hi u,.int 1 v] }).objs.size:=by simpa using hb
  subst e;exact I1.fpOk (ah _) (I1.hok.fresh (ah _))
def X6 (ta:TA):TI:=λσ H R=>ta σ H λvs H1=>∃j:Int,vs=[.int j]/\-(2^62)<=j/\j<2^62/\R (VS 0 j.toNat) H1
theorem D3 {a:Expr}{ta:TA}{p pos:Pos}(hg:Gl X "range")(hm:X.mg "range"=none)(ha:PA X [a] ta)(hs:starEach [a] X.env=[(false,eval a X.env)]:=by rfl):PI X tg (.Call (.Name "range" p) [a] [] pos) (X6 ta):=by
 intro pins s σ H R I h;refine Call_ (Ii I hg hm boot_range (eI (Bm (ha pos pins s σ H _ I h) λus s1 z9=>?_) hs rfl));obtain⟨vs,H1,I1,r1,q1⟩:=z9;obtain⟨j,e,q1,q2,q⟩:=q1;subst e;cases r1 with
 |cons r rr=>
  cases rr;obtain⟨t,rfl⟩:=r;exact call_range_1 (SS I1 (by lia) (by lia) q1 q2 (by simpa using q))
def YL (wi:TI)(g:TG)(tb:TS):TS:=λD σ H=>wi σ H λJ H1=>∃W:Nat->Nat->St->Hp->Prop,(∃m,W 0 m σ H1)/\∀i m σ H,W i m σ H->
 (J.stop i H/\D.nx σ H)\/(J.go i H/\∃N:St->Hp->Prop,(∀σ' H',N σ' H'->∃m',m'<m/\W (i+1) m' σ' H')/\∀x H',J.yld i H x H'->g x σ H' λσ2 H2=>tb { D with nx:=N,ct:=N,bk:=D.nx } σ2 H2)
def K9 (fp:List Addr)(h:Heap):List (Addr×Obj):=fp.filterMap λb=>(h.get? b).map λo=>(b,o)
theorem Fz {fp:List Addr}{h:Heap}{b:Addr}{o:Obj}(hb:b∈fp)(e:h.get? b=some o):(b,o)∈K9 fp h:=List.mem_filterMap.mpr ⟨b,hb,by rw[e];rfl⟩
theorem Sz {fp:List Addr}{h:Heap}{p:Addr×Obj}(hp:p∈K9 fp h):p.1∈fp/\h.get? p.1=some p.2:=by
 obtain⟨b,hb,e⟩:=List.mem_filterMap.mp hp;cases q:h.get? b with
 |none=>rw[q] at e;cases e
 |some o=>
  rw[q] at e;have e':(b,o)=p:=aA e;subst e';exact⟨hb,q⟩
theorem Inv.pinned {pins:List (Addr×Obj)}{σ:St}{H:Hp}{s:Shared}{fp:List Addr}(I:Inv X pins σ H s)(hf:∀b∈fp,IR X pins H b)(ho:∀b∈fp,∃o,s.heap.get? b=some o/\∀v,o.data≠.cell v):Inv X (pins++K9 fp s.heap) σ H s:=
 I.pins_of λp hp=>(ai.mp hp).elim (λz=>I.pin p (bA _ z)) λz=>by
  obtain⟨hb,e⟩:=Sz z;obtain⟨f0,f1,f2,_⟩:=hf p.1 hb;obtain⟨o,e',d⟩:=ho p.1 hb;rw[e] at e';cases e';exact⟨e,f0,f1,f2,d⟩
theorem Inv.unpinned {pins pl:List (Addr×Obj)}{σ:St}{H:Hp}{s:Shared}(I:Inv X (pins++pl) σ H s):Inv X pins σ H s:=I.pins_of λp hp=>I.pin p (bA _ (iF _ hp))
theorem Bn {iter:Expr} {body:List Stmt} {wi:TI} {g:TG} {tb:TS} {pos:Pos} (hp:PassesOwn (model X.prog X.w) X.A X.env X.xe) (hc:X.calm=true) (hi:PI X tg iter wi) (hg:PG X tg g) (hb:PJ X body tb)
  (hs:∀x,foldedSetIterable iter X.env x=pure x:=by intro _;rfl):PS X (.For tg iter body [] pos) (YL wi g tb):=by
 intro pins s σ H D I h;refine wpAny_For (Bm (hi pins s σ H _ I h) λv s1 h1=>Bm h1 λitv s2 h2=>?_) hs;obtain⟨it,fp,tn,J,H2,e,I2,T,st2,f2,W,⟨m0,w0⟩,turn⟩:=h2;subst e;have stat:∀{H':Hp},(∀b∈fp,H' b=none)->∀b∈fp,IR X pins H' b:=λhn b hb=>⟨hn b hb,(f2 b hb).2⟩
 refine codeAny_forLoop_any (λn s'=>∃i σ' H',Inv X pins σ' H' s'/\tn i s'.heap/\(∀b∈fp,H' b=none)/\W i n σ' H') ?_ m0 ⟨0,σ,H2,I2,st2,λb hb=>(f2 b hb).1,w0⟩
 rintro n s3 ⟨i,σ3,H3,I3,st3,fr3,w3⟩
 rcases turn i n σ3 H3 w3 with⟨stop,qn⟩|⟨go,N,hN,step⟩
 ·refine dw hp (Bm (T.done X rfl rfl rfl hc i pins s3 σ3 H3 X.xe I3 (stat fr3) st3 stop) λr s4 ⟨hr,I4⟩=>?_);subst hr;exact eW ⟨σ3,H3,I4,qn⟩
 ·refine dw hp (Bm (T.item X rfl rfl rfl hc i pins s3 σ3 H3 X.xe I3 (stat fr3) st3 go) λr s4 z9=>?_);obtain⟨u,hr,h4⟩:=z9;subst hr;refine dw hp (Bm h4 λ_ s5 z9=>?_);obtain⟨x,H5,I5,r5,y5,st5,fr5⟩:=z9;have I5':=I5.pinned (stat fr5) (T.obj _ _ st5);refine dw hp (Bm (hg _ s5 σ3 H5 x u _ I5' r5 (step x H5 y5)) λ_ s6 z9=>?_);obtain⟨σ6,H6,I6,q6⟩:=z9;refine dw hp (Bm (hb _ s6 σ6 H6 _ I6 q6) λf s7 q7=>?_);have again:∀{σ7:St} {H7:Hp},Inv X (pins++K9 fp s5.heap) σ7 H7 s7->N σ7 H7->∃m,m<n/\∃i σ' H',Inv X pins σ' H' s7/\tn i s7.heap/\(∀b∈fp,H' b=none)/\W i m σ' H':=λ{σ7 H7} I7 n7=>by
   obtain⟨m',hm,w7⟩:=hN σ7 H7 n7;refine⟨m',hm,i+1,σ7,H7,I7.unpinned,T.keep _ _ _ st5 λb hb o e=>(I7.pin (b,o) (bA _ (bA _ (Fz hb e)))).1,λb hb=>?_,w7⟩;obtain⟨o,e,d⟩:=T.obj _ _ st5 b hb;exact(I7.pin (b,o) (bA _ (bA _ (Fz hb e)))).2.1
  cases f with
  |next=>obtain⟨σ7,H7,I7,n7⟩:=q7;exact again I7 n7
  |cont=>obtain⟨σ7,H7,I7,n7⟩:=q7;exact again I7 n7
  |brk=>obtain⟨σ7,H7,I7,q7⟩:=q7;exact⟨σ7,H7,I7.unpinned,q7⟩
  |ret v=>obtain⟨x7,σ7,H7,I7,r7,q7⟩:=q7;exact⟨x7,σ7,H7,I7.unpinned,r7,q7⟩
end
theorem BD {K:PySem.W.Frag} {a:Addr} {xs:List V} {g:TG} {tb:TS} {D:Ends} {σ:St} {H:Hp} (Pv:Nat->St->Hp->Prop) (h0:Pv 0 σ H) (hl:∀i σ H,i<=xs.length->Pv i σ H->AJ K H a xs)
  (hs:∀i x σ H,xs[i]?=some x->Pv i σ H->g x σ H λσ2 H2=>tb { D with nx:=Pv (i+1),ct:=Pv (i+1),bk:=D.nx } σ2 H2) (hd:∀σ H,Pv xs.length σ H->D.nx σ H) :
  ∃W:Nat->Nat->St->Hp->Prop,(∃m,W 0 m σ H)/\∀i m σ H,W i m σ H->
   ((W6 K a).stop i H/\D.nx σ H)\/((W6 K a).go i H/\∃N:St->Hp->Prop,(∀σ' H',N σ' H'->∃m',m'<m/\W (i+1) m' σ' H')/\∀x H',(W6 K a).yld i H x H'->g x σ H' λσ2 H2=>tb { D with nx:=N,ct:=N,bk:=D.nx } σ2 H2):=by
 refine⟨λi m σ H=>m=xs.length-i/\i<=xs.length/\Pv i σ H,⟨xs.length,by simp,aR _,h0⟩,?_⟩
 rintro i m σ H ⟨rfl,hi,p⟩
 have q:=hl i σ H hi p
 by_cases hlt:i<xs.length
 ·refine .inr ⟨⟨xs,xs[i],q,by simp[hlt]⟩,Pv (i+1),λσ' H' p'=>⟨xs.length-(i+1),by lia,rfl,hlt,p'⟩,λx H' y=>?_⟩;obtain⟨e,y⟩:=y;subst e;exact hs i x σ _ (y xs q) p
 ·have e:i=xs.length:=by lia
  subst e;exact .inl ⟨⟨xs,q,ah _⟩,hd σ H p⟩
theorem K3 {K:PySem.W.Frag} {a:Addr} {xs:List V} {g:TG} {tb:TS} {D:Ends} {σ:St} {H:Hp} (Pv:Nat->St->Hp->Prop) (h0:Pv 0 σ H) (hl:∀i σ H,i<=xs.length->Pv i σ H->A8 K H a xs)
  (hs:∀i x σ H,xs[i]?=some x->Pv i σ H->g x σ H λσ2 H2=>tb { D with nx:=Pv (i+1),ct:=Pv (i+1),bk:=D.nx } σ2 H2) (hd:∀σ H,Pv xs.length σ H->D.nx σ H) :
  ∃W:Nat->Nat->St->Hp->Prop,(∃m,W 0 m σ H)/\∀i m σ H,W i m σ H->
   ((XG K a).stop i H/\D.nx σ H)\/((XG K a).go i H/\∃N:St->Hp->Prop,(∀σ' H',N σ' H'->∃m',m'<m/\W (i+1) m' σ' H')/\∀x H',(XG K a).yld i H x H'->g x σ H' λσ2 H2=>tb { D with nx:=N,ct:=N,bk:=D.nx } σ2 H2):=by
 refine⟨λi m σ H=>m=xs.length-i/\i<=xs.length/\Pv i σ H,⟨xs.length,by simp,aR _,h0⟩,?_⟩
 rintro i m σ H ⟨rfl,hi,p⟩
 have q:=hl i σ H hi p
 by_cases hlt:i<xs.length
 ·refine .inr ⟨⟨xs,xs[i],q,by simp[hlt]⟩,Pv (i+1),λσ' H' p'=>⟨xs.length-(i+1),by lia,rfl,hlt,p'⟩,λx H' y=>?_⟩;obtain⟨e,y⟩:=y;subst e;exact hs i x σ _ (y xs q) p
 ·have e:i=xs.length:=by lia
  subst e;exact .inl ⟨⟨xs,q,ah _⟩,hd σ H p⟩
theorem JN {lo:Int} {n:Nat} {g:TG} {tb:TS} {D:Ends} {σ:St} {H:Hp} (Pv:Nat->St->Hp->Prop) (h0:Pv 0 σ H)
  (hs:∀i σ H,i<n->Pv i σ H->g (.int (lo+i)) σ H λσ2 H2=>tb { D with nx:=Pv (i+1),ct:=Pv (i+1),bk:=D.nx } σ2 H2) (hd:∀σ H,Pv n σ H->D.nx σ H) :
  ∃W:Nat->Nat->St->Hp->Prop,(∃m,W 0 m σ H)/\∀i m σ H,W i m σ H->
   ((VS lo n).stop i H/\D.nx σ H)\/((VS lo n).go i H/\∃N:St->Hp->Prop,(∀σ' H',N σ' H'->∃m',m'<m/\W (i+1) m' σ' H')/\∀x H',(VS lo n).yld i H x H'->g x σ H' λσ2 H2=>tb { D with nx:=N,ct:=N,bk:=D.nx } σ2 H2):=by
 refine⟨λi m σ H=>m=n-i/\i<=n/\Pv i σ H,⟨n,by simp,aR _,h0⟩,?_⟩
 rintro i m σ H ⟨rfl,hi,p⟩
 by_cases hlt:i<n
 ·refine .inr ⟨hlt,Pv (i+1),λσ' H' p'=>⟨n-(i+1),by lia,rfl,hlt,p'⟩,λx H' y=>?_⟩;obtain⟨e,y⟩:=y;subst e y;exact hs i σ _ hlt p
 ·have e:i=n:=by lia
  subst e;exact .inl ⟨ah _,hd σ H p⟩
abbrev R2:=V->V->Hp->VK->Prop
def Im (X:Cx)(f:Value->Value->Sem Value)(r:R2):Prop:=
 ∀(pins:List (Addr×Obj)) (s:Shared) (σ:St) (H:Hp) (x y:V) (v u:Value) (Q:VK),Inv X pins σ H s->RelV x v->RelV y u->r x y H Q->
  wpAny (model X.prog X.w) X.A (f v u) (EP X pins σ Q) X.xe s
def YF (X:Cx)(f:Value->Sem Value)(r:V->Hp->VK->Prop):Prop:=
 ∀(pins:List (Addr×Obj)) (s:Shared) (σ:St) (H:Hp) (x:V) (v:Value) (Q:VK),Inv X pins σ H s->RelV x v->r x H Q->
  wpAny (model X.prog X.w) X.A (f v) (EP X pins σ Q) X.xe s
def DS (X:Cx)(f:Value)(r:List V->Hp->VK->Prop):Prop:=
 ∀(pins:List (Addr×Obj)) (s:Shared) (σ:St) (H:Hp) (xs:List V) (us:List Value) (Q:VK),Inv X pins σ H s->AW xs us->r xs H Q->
  wpAny (model X.prog X.w) X.A (call f us) (EP X pins σ Q) X.xe s
def Wa (r:R2)(ta tb:TE):TE:=λσ H Q=>ta σ H λx H1=>tb σ H1 λy H2=>r x y H2 Q
def Zt (r:V->Hp->VK->Prop)(ta:TE):TE:=λσ H Q=>ta σ H λx H1=>r x H1 Q
def rI (C:Int->Int->Prop)(g:Int->Int->V):R2:=λx y H Q=>∃i j,x=.int i/\y=.int j/\C i j/\Q (g i j) H
def SK (g:Int->Int->V):R2:=λx y H Q=>∃i j,x=.int i/\y=.int j/\Q (g i j) H
def rU (g:Int->V):V->Hp->VK->Prop:=λx H Q=>∃i,x=.int i/\Q (g i) H
section
variable {X:Cx}{a b c:Expr}{ta tb tc:TE}{pos:Pos}
theorem WV (ha:PE X a ta) (hb:PE X b tb) {pins:List (Addr×Obj)} {s:Shared} {σ:St} {H:Hp} {R:V->V->Hp->Prop} (I:Inv X pins σ H s)
  (h:ta σ H λx H1=>tb σ H1 λy H2=>R x y H2) {Q:Value->Shared->Prop} {f:Value->Value->Sem Value}
  (hf:∀v u s2 x y H2,Inv X pins σ H2 s2->RelV x v->RelV y u->R x y H2->wpAny (model X.prog X.w) X.A (f v u) Q X.xe s2) :
  wpAny (model X.prog X.w) X.A (eval a X.env) (λv s₁=>wpAny (model X.prog X.w) X.A (eval b X.env) (λu s₂=>wpAny (model X.prog X.w) X.A (f v u) Q X.xe s₂) X.xe s₁) X.xe s:=by
 refine Bm (ha pins s σ H _ I h) λv s1 z9=>?_
 obtain⟨x,H1,I1,r1,q1⟩:=z9;refine Bm (hb pins s1 σ H1 _ I1 q1) λu s2 z9=>?_
 obtain⟨y,H2,I2,r2,q2⟩:=z9;exact hf v u s2 x y H2 I2 r1 r2 q2
theorem Ar {op:Operator}{r:R2}(ho:Im X (binaryOp op) r)(ha:PE X a ta)(hb:PE X b tb):PE X (.BinOp a op b pos) (Wa r ta tb):=by
 intro pins s σ H Q I h;exact wpAny_BinOp (WV ha hb I h λv u s2 x y H2 I2 rx ry q=>ho pins s2 σ H2 x y v u Q I2 rx ry q)
theorem Ki {op:UnaryOp}{r:V->Hp->VK->Prop}(ho:YF X (unaryOp op) r)(ha:PE X a ta):PE X (.UnaryOp op a pos) (Zt r ta):=by
 intro pins s σ H Q I h;exact UnaryOp_ (Bm (ha pins s σ H _ I h) (by rintro v s1 ⟨x,H1,I1,r1,q1⟩;exact ho pins s1 σ H1 x v Q I1 r1 q1))
theorem Yy {f:Value->Value->Sem Value} {C:Int->Int->Prop} {g:Int->Int->Int}
  (rule:∀(i j:Int) (t u:Tok) (s:Shared) (Q:Value->Shared->Prop) (E:Value->Shared->Prop),C i j->Q (.int (g i j) s.toks) { s with toks:=s.toks+1 }->wpAny (model X.prog X.w) X.A (f (.int i t) (.int j u)) Q E s) :
  Im X f (rI C λi j=>.int (g i j)):=by
 intro pins s σ H x y v u Q I rx ry h;obtain⟨i,j,rfl,rfl,hc,q⟩:=h;obtain⟨t,rfl⟩:=rx;obtain⟨t',rfl⟩:=ry;exact rule i j t t' s _ _ hc ⟨.int (g i j),H,I.tok _,⟨_,rfl⟩,q⟩
theorem Vk {f:Value->Value->Sem Value} {g:Int->Int->Int}
  (rule:∀(i j:Int) (t u:Tok) (s:Shared) (Q:Value->Shared->Prop) (E:Value->Shared->Prop),Q (.int (g i j) s.toks) { s with toks:=s.toks+1 }->wpAny (model X.prog X.w) X.A (f (.int i t) (.int j u)) Q E s) :
  Im X f (SK λi j=>.int (g i j)):=by
 intro pins s σ H x y v u Q I rx ry h;obtain⟨i,j,rfl,rfl,q⟩:=h;obtain⟨t,rfl⟩:=rx;obtain⟨t',rfl⟩:=ry;exact rule i j t t' s _ _ ⟨.int (g i j),H,I.tok _,⟨_,rfl⟩,q⟩
theorem VL {f:Value->Value->Sem Value} {g:Int->Int->Bool}
  (rule:∀(i j:Int) (t u:Tok) (s:Shared) (Q:Value->Shared->Prop) (E:Value->Shared->Prop),Q (.bool (g i j)) s->wpAny (model X.prog X.w) X.A (f (.int i t) (.int j u)) Q E s) :
  Im X f (SK λi j=>.bl (g i j)):=by
 intro pins s σ H x y v u Q I rx ry h;obtain⟨i,j,rfl,rfl,q⟩:=h;obtain⟨t,rfl⟩:=rx;obtain⟨t',rfl⟩:=ry;exact rule i j t t' s _ _ ⟨.bl (g i j),H,I,rfl,q⟩
def YR (i j:Int):Prop:=0<j/\j<1073741824
def Yn (i j:Int):Prop:=0<=j/\j<=1000000/\i.natAbs<2^64
def Wy (i j:Int):Prop:=(-(2^64)<i/\i<2^64)\/(-(2^64)<j/\j<2^64)
theorem Wy.ok {i j:Int}(h:Wy i j):IntMulOk i j:=by
 rcases h with⟨h1,h2⟩|⟨h1,h2⟩
 ·exact .of_left (intBits_le_64 h1 h2)
 ·exact .of_right (intBits_le_64 h1 h2)
theorem Bu:Im X (binaryOp .Add) (SK λi j=>.int (i+j)):=Vk λ_ _ _ _ _ _ _ q=>add_int q
theorem Gu:Im X (binaryOp .Sub) (SK λi j=>.int (i-j)):=Vk λ_ _ _ _ _ _ _ q=>sub_int q
theorem DN:Im X (binaryOp .Mult) (rI Wy λi j=>.int (i*j)):=Yy λ_ _ _ _ _ _ _ hc q=>mul_int q hc.ok
theorem EK:Im X (binaryOp .FloorDiv) (rI YR λi j=>.int (i/j)):=Yy λi j _ _ _ _ _ hc q=>by
 have h1:(0:Int)<j:=hc.1;have h2:j<1073741824:=hc.2;exact floordiv_int (by lia) (by rw[Int.fdiv_eq_ediv_of_nonneg i (by lia)];exact q) (.inl (PyProof.noPylong_small (by lia)))
theorem Bd:Im X (binaryOp .Mod) (rI (λ_ j=>0<j) λi j=>.int (i%j)):=Yy λi j _ _ _ _ _ hc q=>by
 have h1:(0:Int)<j:=hc;exact mod_int' (by lia) (by rw[Int.fmod_eq_emod_of_nonneg i (by lia)];exact q)
theorem LZ:Im X (binaryOp .Pow) (rI Yn λi j=>.int (i^j.toNat)):=Yy λ_ _ _ _ _ _ _ hc q=>pow_int_small hc.1 hc.2.1 hc.2.2 q
theorem FB:Im X (inplaceOp .Add) (SK λi j=>.int (i+j)):=Vk λ_ _ _ _ _ _ _ q=>iadd_int q
theorem VF:Im X (inplaceOp .Sub) (SK λi j=>.int (i-j)):=Vk λ_ _ _ _ _ _ _ q=>isub_int q
theorem Zq {f:Value->Sem Value} {g:Int->Int}
  (rule:∀(i:Int) (t:Tok) (s:Shared) (Q:Value->Shared->Prop) (E:Value->Shared->Prop),Q (.int (g i) s.toks) { s with toks:=s.toks+1 }->wpAny (model X.prog X.w) X.A (f (.int i t)) Q E s) :
  YF X f (rU λi=>.int (g i)):=by
 intro pins s σ H x v Q I rx h;obtain⟨i,rfl,q⟩:=h;obtain⟨t,rfl⟩:=rx;exact rule i t s _ _ ⟨.int (g i),H,I.tok _,⟨_,rfl⟩,q⟩
theorem Gh:YF X (unaryOp .USub) (rU λi=>.int (-i)):=Zq λ_ _ _ _ _ q=>neg_int q
end
def X7:V->V->Bool
 | .non,.non=>true | .non,.int _=>true | .int _,.non=>true | .non,.bl _=>true | .bl _,.non=>true | .non,.str _=>true | .str _,.non=>true
 | .int _,.int _=>true | .bl _,.bl _=>true | .str _,.str _=>true | .byt _,.byt _=>true
 | .int _,.str _=>true | .str _,.int _=>true | .bl _,.str _=>true | .str _,.bl _=>true
 |_,_=>false
def Zn:R2:=λx y H Q=>X7 x y=true/\Q (.bl (decide (x=y))) H
def Zs:R2:=λx y H Q=>X7 x y=true/\Q (.bl (!decide (x=y))) H
theorem Fx {i j:Int}:decide (V.int i=V.int j)=(i == j):=by
 rw[bT];simp
theorem UM {i j:Bool}:decide (V.bl i=V.bl j)=(i == j):=by
 rw[bT];simp
theorem Nv {i j:Str}:decide (V.str i=V.str j)=(i == j):=by
 rw[bT];simp
theorem Rl {i j:Array UInt8}:decide (V.byt i=V.byt j)=(i.toList == j.toList):=by
 rw[bT];cases i;cases j;simp
section
variable {X:Cx}{a b c:Expr}{ta tb tc:TE}{pos:Pos}
theorem Bc {pins:List (Addr×Obj)}{σ:St}{H:Hp}{s:Shared}{Q:VK}{k k':Bool}(I:Inv X pins σ H s)(q:Q (.bl k) H)(e:k=k'):EP X pins σ Q (.bool k') s:=by
 subst e;exact⟨.bl k,H,I,rfl,q⟩
theorem Bb:Im X (compareOp .Eq) Zn:=by
 intro pins s σ H x y v u Q I rx ry h;obtain⟨hs,q⟩:=h;cases x with
 |non=>
  cases rx;cases y with
  |non=>cases ry;exact PySem.EqNone.eq_none_none (Bc I q (by simp))
  |bl j=>cases ry;exact PySem.EqNone.eq_none_bool (Bc I q (by simp))
  |int j=>obtain⟨t',rfl⟩:=ry;exact PySem.EqNone.eq_none_int (Bc I q (by simp))
  |str j=>obtain⟨t',rfl⟩:=ry;exact PySem.EqNone.eq_none_str (Bc I q (by simp))
  |_=>exact absurd (show false=true from hs) aB
 |bl i=>
  cases rx;cases y with
  |non=>cases ry;exact PySem.EqNone.eq_bool_none (Bc I q (by simp))
  |bl j=>cases ry;exact eq_bool (Bc I q UM)
  |str j=>obtain⟨t',rfl⟩:=ry;exact PySem.EqMixed.eq_bool_str (Bc I q (by simp))
  |_=>exact absurd (show false=true from hs) aB
 |int i=>
  obtain⟨t,rfl⟩:=rx;cases y with
  |non=>cases ry;exact PySem.EqNone.eq_int_none (Bc I q (by simp))
  |int j=>obtain⟨t',rfl⟩:=ry;exact eq_int (Bc I q Fx)
  |str j=>obtain⟨t',rfl⟩:=ry;exact PySem.EqMixed.eq_int_str (Bc I q (by simp))
  |_=>exact absurd (show false=true from hs) aB
 |str i=>
  obtain⟨t,rfl⟩:=rx;cases y with
  |non=>cases ry;exact PySem.EqNone.eq_str_none (Bc I q (by simp))
  |bl j=>cases ry;exact PySem.EqMixed.eq_str_bool (Bc I q (by simp))
  |int j=>obtain⟨t',rfl⟩:=ry;exact PySem.EqMixed.eq_str_int (Bc I q (by simp))
  |str j=>obtain⟨t',rfl⟩:=ry;exact eq_str (Bc I q Nv)
  |_=>exact absurd (show false=true from hs) aB
 |byt i=>
  obtain⟨t,rfl⟩:=rx;cases y with
  |byt j=>obtain⟨t',rfl⟩:=ry;exact PySem.W.eq_bytes (Bc I q Rl)
  |_=>exact absurd (show false=true from hs) aB
 |_=>cases y<;>exact absurd (show false=true from hs) aB
theorem MN:Im X (compareOp .NotEq) Zs:=by
 intro pins s σ H x y v u Q I rx ry h;obtain⟨hs,q⟩:=h;cases x with
 |non=>
  cases rx;cases y with
  |non=>cases ry;exact PySem.EqNone.ne_none_none (Bc I q (by simp))
  |bl j=>cases ry;exact PySem.EqNone.ne_none_bool (Bc I q (by simp))
  |int j=>obtain⟨t',rfl⟩:=ry;exact PySem.EqNone.ne_none_int (Bc I q (by simp))
  |str j=>obtain⟨t',rfl⟩:=ry;exact PySem.EqNone.ne_none_str (Bc I q (by simp))
  |_=>exact absurd (show false=true from hs) aB
 |bl i=>
  cases rx;cases y with
  |non=>cases ry;exact PySem.EqNone.ne_bool_none (Bc I q (by simp))
  |bl j=>cases ry;exact ne_bool (Bc I q (congrArg not UM))
  |str j=>obtain⟨t',rfl⟩:=ry;exact PySem.EqMixed.ne_bool_str (Bc I q (by simp))
  |_=>exact absurd (show false=true from hs) aB
 |int i=>
  obtain⟨t,rfl⟩:=rx;cases y with
  |non=>cases ry;exact PySem.EqNone.ne_int_none (Bc I q (by simp))
  |int j=>obtain⟨t',rfl⟩:=ry;exact ne_int (Bc I q (congrArg not Fx))
  |str j=>obtain⟨t',rfl⟩:=ry;exact PySem.EqMixed.ne_int_str (Bc I q (by simp))
  |_=>exact absurd (show false=true from hs) aB
 |str i=>
  obtain⟨t,rfl⟩:=rx;cases y with
  |non=>cases ry;exact PySem.EqNone.ne_str_none (Bc I q (by simp))
  |bl j=>cases ry;exact PySem.EqMixed.ne_str_bool (Bc I q (by simp))
  |int j=>obtain⟨t',rfl⟩:=ry;exact PySem.EqMixed.ne_str_int (Bc I q (by simp))
  |str j=>obtain⟨t',rfl⟩:=ry;exact ne_str (Bc I q (congrArg not Nv))
  |_=>exact absurd (show false=true from hs) aB
 |byt i=>
  obtain⟨t,rfl⟩:=rx;cases y with
  |byt j=>obtain⟨t',rfl⟩:=ry;exact PySem.W.ne_bytes (Bc I q (congrArg not Rl))
  |_=>exact absurd (show false=true from hs) aB
 |_=>cases y<;>exact absurd (show false=true from hs) aB
theorem QM:Im X (compareOp .Lt) (SK λi j=>.bl (decide (i<j))):=VL λ_ _ _ _ _ _ _ q=>lt_int q
theorem QS:Im X (compareOp .LtE) (SK λi j=>.bl (decide (i<=j))):=VL λ_ _ _ _ _ _ _ q=>le_int q
theorem FX:Im X (compareOp .Gt) (SK λi j=>.bl (decide (j<i))):=VL λ_ _ _ _ _ _ _ q=>gt_int q
theorem XY:Im X (compareOp .GtE) (SK λi j=>.bl (decide (j<=i))):=VL λ_ _ _ _ _ _ _ q=>ge_int q
theorem RN:Im X (compareOp .In) (λx y H Q=>∃i j,x=.str i/\y=.str j/\Q (.bl (!(Builtin.Str.occurrences j i 0 j.length 1).isEmpty)) H):=by
 intro pins s σ H x y v u Q I rx ry h;obtain⟨i,j,rfl,rfl,q⟩:=h;obtain⟨t,rfl⟩:=rx;obtain⟨t',rfl⟩:=ry;exact in_str (Bc I q rfl)
theorem Av (b:Expr){op:CmpOp}(h:op≠.In:=by decide)(h2:op≠.NotIn:=by decide):behindInMarks op b=false:=by
 have e1:(op == CmpOp.In)=false:=by cases op<;>first|rfl|exact absurd rfl h
 have e2:(op == CmpOp.NotIn)=false:=by cases op<;>first|rfl|exact absurd rfl h2
 cases b<;>simp[behindInMarks,e1,e2]
theorem BW {op:CmpOp}{r:R2}(ho:Im X (compareOp op) r)(ha:PE X a ta)(hb:PE X b tb)(hm:behindInMarks op b=false):PE X (.Compare a [op] [b] pos) (Wa r ta tb):=by
 intro pins s σ H Q I h;exact wpAny_Compare1 (WV ha hb I h λv u s2 x y H2 I2 rx ry q=>ho pins s2 σ H2 x y v u Q I2 rx ry q) hm
def Uq (t:TE):TT:=λσ H Q=>t σ H λx H'=>∃k,x=.bl k/\Q k H'
theorem Aw {op:CmpOp}{r:R2}(ho:Im X (compareOp op) r)(ha:PE X a ta)(hb:PE X b tb)(hm:behindInMarks op b=false):PT X (.Compare a [op] [b] pos) (Uq (Wa r ta tb)):=by
 intro pins s σ H Q I h;refine wpAny_isTrue_Compare1 (Bm (ha pins s σ H _ I h) λv s1 ⟨x,H1,I1,r1,q1⟩=>Bm (hb pins s1 σ H1 _ I1 q1) λu s2 ⟨y,H2,I2,r2,q2⟩=>
  Bm (ho pins s2 σ H2 x y v u _ I2 r1 r2 q2) λc s3 ⟨z,H3,I3,r3,k,e,q3⟩=>?_) hm
 subst e;cases r3;exact cf ⟨H3,I3,q3⟩
def Tj (r r':R2)(ta tb tc:TE):TE:=λσ H Q=>ta σ H λx H1=>tb σ H1 λy H2=>r x y H2 λz H3=>∃k,z=.bl k/\
 (if k=true then tc σ H3 λw' H4=>r' y w' H4 Q else Q (.bl false) H3)
theorem SZ {op op':CmpOp} {r r':R2} (ho:Im X (compareOp op) r) (ho':Im X (compareOp op') r') (ha:PE X a ta) (hb:PE X b tb) (hc:PE X c tc)
  (hm:lastMarks [op,op'] [b,c]=false:=by with_unfolding_all rfl):PE X (.Compare a [op,op'] [b,c] pos) (Tj r r' ta tb tc):=by
 intro pins s σ H Q I h;refine Compare_chain (Bm (ha pins s σ H _ I h) λv s1 ⟨x,H1,I1,r1,q1⟩=>chain_link (Bm (hb pins s1 σ H1 _ I1 q1) λu s2 ⟨y,H2,I2,r2,q2⟩=>
  Bm (ho pins s2 σ H2 x y v u _ I2 r1 r2 q2) λd s3 ⟨z,H3,I3,r3,k,e,q3⟩=>?_)) hm
 subst e;cases r3;refine cf ?_;cases k with
 |false=>exact ite_ff ⟨.bl false,H3,I3,rfl,q3⟩
 |true=>exact ite_tt (chain_last (Bm (hc pins s3 σ H3 _ I3 q3) (by rintro w' s4 ⟨z',H4,I4,r4,q4⟩;exact ho' pins s4 σ H4 y z' u w' Q I4 r2 r4 q4)))
theorem Ug {op op':CmpOp} {r r':R2} (ho:Im X (compareOp op) r) (ho':Im X (compareOp op') r') (ha:PE X a ta) (hb:PE X b tb) (hc:PE X c tc)
  (hm:lastMarks [op,op'] [b,c]=false:=by with_unfolding_all rfl):PT X (.Compare a [op,op'] [b,c] pos) (Uq (Tj r r' ta tb tc)):=by
 intro pins s σ H Q I h;refine isTrue_chain (Bm (ha pins s σ H _ I h) λv s1 ⟨x,H1,I1,r1,q1⟩=>test_link (Bm (hb pins s1 σ H1 _ I1 q1) λu s2 ⟨y,H2,I2,r2,q2⟩=>
  Bm (ho pins s2 σ H2 x y v u _ I2 r1 r2 q2) λd s3 ⟨z,H3,I3,r3,k,e,q3⟩=>?_)) hm
 subst e;cases r3;refine cf ?_;cases k with
 |false=>
  obtain⟨k',e',q'⟩:=q3;cases e';exact ite_ff ⟨H3,I3,q'⟩
 |true=>
  refine ite_tt (test_last (Bm (hc pins s3 σ H3 _ I3 q3) λw' s4 ⟨z',H4,I4,r4,q4⟩=>Bm (ho' pins s4 σ H4 y z' u w' _ I4 r2 r4 q4) λd' s5 z9=>?_));obtain⟨z2,H5,I5,r5,k2,e2,q5⟩:=z9;subst e2;cases r5;exact cf ⟨H5,I5,q5⟩
theorem Mo:(sizeLine:Nat)<2^63:=by rw[eJ];decide
theorem Bq:Im X (binaryOp .Add) (λx y H Q=>∃i j,x=.str i/\y=.str j/\i.length+j.length<=sizeLine/\Q (.str (i++j)) H):=by
 intro pins s σ H x y v u Q I rx ry h;obtain⟨i,j,rfl,rfl,hz,q⟩:=h;obtain⟨t,rfl⟩:=rx;obtain⟨t',rfl⟩:=ry;exact add_str (λt' tk=>⟨.str (i++j),H,I.tok _,⟨_,rfl⟩,q⟩) hz
theorem vals1 {x:V}{us:List Value}(r:AW [x] us):∃u,us=[u]/\RelV x u:=by
 cases r with
 |cons r1 r2=>cases r2;exact⟨_,rfl,r1⟩
theorem vals2 {x y:V}{us:List Value}(r:AW [x,y] us):∃u w',us=[u,w']/\RelV x u/\RelV y w':=by
 cases r with
 |cons r1 r2=>
  cases r2 with
  |cons r3 r4=>cases r4;exact⟨_,_,rfl,r1,r3⟩
theorem Pu:DS X (.builtin "abs") (λxs H Q=>∃i,xs=[.int i]/\Q (.int (if i<0 then -i else i)) H):=by
 intro pins s σ H xs us Q I r h;obtain⟨i,rfl,q⟩:=h;obtain⟨u,rfl,t,rfl⟩:=vals1 r;exact call_abs_int λu tk=>⟨.int (if i<0 then -i else i),H,I.tok _,⟨_,rfl⟩,q⟩
theorem Se (hc:X.calm=true):DS X (.builtin "min") (λxs H Q=>∃i j,xs=[.int i,.int j]/\Q (.int (if j<i then j else i)) H):=by
 intro pins s σ H xs us Q I r h;obtain⟨i,j,rfl,q⟩:=h;obtain⟨u,w',rfl,⟨t,rfl⟩,⟨t',rfl⟩⟩:=vals2 r;refine min_two_ints (I.ok.hd hc) λh' tk k=>⟨_,H,I.kept k,?_,q⟩
 by_cases hj:j<i
 ·rw[aC hj,aC hj];exact⟨_,rfl⟩
 ·rw[ay hj,ay hj];exact⟨_,rfl⟩
end
structure ObjM (h:Heap) (x dx C:Addr) (mA:Str->Option Value):Prop where
 obj:h.get? x=some (PySem.W.instObj C dx)
 ns:h.Ns1 dx mA
 ne:dx≠x
theorem Rz {h:Heap}{dx:Addr}{mA:Str->Option Value}(n:h.Ns1 dx mA):∃od,h.get? dx=some od/\∀name,PySem.W.lookIn name od=some (mA name):=by
 obtain⟨o,es,ep,ho,hd,hk,_,hm⟩:=n;refine⟨o,ho,λname=>?_⟩;have e:=hm name;unfold nsFind findBy at e;rw[<-Array.find?_toList] at e;unfold PySem.W.lookIn;rw[hd];dsimp only
 split
 ·rename_i y q
  rw[q] at e;exact congrArg some e
 ·rename_i q
  rw[q] at e;have a:es.toList.any (·.refKey)=false:=by
   rw[List.any_eq_false];intro y hy;obtain⟨z,t,hkey⟩:=hk y (Array.mem_toList_iff.mp hy);simp[DictEntry.refKey,hkey]
  have a':¬es.toList.any (·.refKey)=true:=by rw[a];exact aB
  rw[ay a'];exact congrArg some e
theorem ObjM.look {h:Heap}{x dx C:Addr}{mA:Str->Option Value}(I:ObjM h x dx C mA):∃od,PySem.W.InstAt h x (PySem.W.instObj C dx) C (some od)/\∀name,PySem.W.lookIn name od=some (mA name):=
 let⟨od,ho,hl⟩:=Rz I.ns
 ⟨od,⟨I.obj,rfl,rfl,ho⟩,hl⟩
section
variable {prog:Program}{w:World}{A:Around}{E:Value->Shared->Prop}{s:Shared}{K:PySem.W.Frag}{x dx C f:Addr}{mA:Str->Option Value}{name:Str}{v:Value}
theorem get_map {expr:Bool} {Q:Value->Shared->Prop} (X:K.In s.heap) (I:ObjM s.heap x dx C mA) (hg:PySem.W.plainGet K C name=true) (hh:PySem.W.hasDictIn K C=true)
  (ha:PySem.W.findIn K (.ref C) name=some none) (hv:mA name=some v) (hv':PySem.W.handedIn v=true) (h:Q v { s with toks:=s.toks+1 }) :
  wpAny (model prog w) A (getAttr (.ref x) name expr) Q E s:=by
 obtain⟨od,J,hl⟩:=I.look;exact PySem.W.get_value X J (fR hg).1 (PySem.W.findObj_own hh ha rfl (by rw[hl,hv])) hv' h
theorem Uo {pl:Sem Bool} {Q:Value×List Value->Shared->Prop} (X:K.In s.heap) (I:ObjM s.heap x dx C mA) (hg:PySem.W.plainGet K C name=true)
  (hf:PySem.W.findIn K (.ref C) name=some (some (.ref f))) (ht:PySem.W.isFn K (.ref f)=true) (hv:mA name=none) (h:Q (.ref f,[.ref x]) s) :
  wpAny (model prog w) A (getMethod (.ref x) name pl) Q E s:=by
 obtain⟨od,J,hl⟩:=I.look;exact PySem.W.method_fn X J (fR hg).1 (fR hg).2 hf (cX.mp ht) (by show(PySem.W.lookIn name od).map (·.isSome)=some false;rw[hl,hv];rfl) h
theorem VQ {ns:List Str} {Q:Unit->Shared->Prop} (X:K.In s.heap) (I:ObjM s.heap x dx C mA)
  (hs:PySem.W.findIn K (.ref C) "__setattr__"=some (some (.builtin "object.__setattr__"))) (hp:PySem.W.plainOver K C=true) (ht:PySem.W.takerIn K C name=some none) (hh:PySem.W.hasDictIn K C=true)
  (hw:PySem.Within mA ns) (hsz:ns.length<=sizeLine)
  (h:∀h',ObjM h' x dx C (λy=>if y=name then some v else mA y)->Heap.SameBut dx s.heap h'->Q () { s with heap:=h',toks:=s.toks+2 }) :
  wpAny (model prog w) A (setAttr (.ref x) name v) Q E s:=by
 obtain⟨od,J,hl⟩:=I.look;refine PySem.W.set_plain X J hs (PySem.W.osa_open (s:={ s with toks:=s.toks+1 }) (r:=none) X J hp ht λb=>?_);obtain⟨cd,hc,hd'⟩:=PySem.W.any_some hh;have hx:s.heap.get? x=some ⟨.ref C,some dx,.plain,#[]⟩:=I.obj;refine af (aw (af (af (wpAny_loadPart hx (af (PySem.W.Looks.here (s:={ s with toks:=s.toks+1 }) (PySem.W.looks_clsIn X hc) ?_))))));rw[hd'];refine aw (a:=some dx) (af (aw (af ?_)));refine wpAny_nsSet1 (s:={ s with toks:=s.toks+1 }) I.ns λh' hn2 hs2=>?_
 obtain⟨oD,esD,epD,hoD,hdD,hcD⟩:=hn2.count (PySem.Within.cons name v hw);refine af (wpAny_lookBehind hoD (by rw[hdD];exact pastItsLine_dict (aY hcD (by rw[aL];lia))) ?_);exact aw (h _ ⟨(hs2.2 _ (Ne.symm I.ne)).trans I.obj,hn2,I.ne⟩ hs2)
theorem Um {R:Result->Shared->Prop} {vs:List Value} {kw:List (Str×Value)} (X:K.In s.heap) (hm:PySem.W.makesIn K C=true)
  (hi:PySem.W.findIn K (.ref C) "__init__"=some (some (.ref f))) (hf:PySem.W.typeIn K (.ref f)=some (.type "function"))
  (h:codeAny (model prog w) (A.under (.builtin "type.__call__" ⟨.ref C::vs,kw⟩)) (.call (.ref f) ⟨.ref (s.heap.objs.size+1)::vs,kw⟩) (PySem.W.InitBack (s.heap.objs.size+1) R)
   { s with heap:=(s.heap.push PySem.W.emptyDict).push (PySem.W.instObj C s.heap.objs.size) }) :
  codeAny (model prog w) A (.call (.ref C) ⟨vs,kw⟩) R s:=by
 obtain⟨hh,g,d,t,os⟩:=s;exact PySem.W.make_core (PySem.W.makes_of X hm) (PySem.W.looks_findIn X hi) (λself=>PySem.W.bind_fn X self hf) (.inl rfl) h
end
def DB (f:Str)(v:V):List (Str×V)->List (Str×V)
 |[]=>[(f,v)]
 |(g,x)::r=>if g=f then(g,v)::r else(g,x)::DB f v r
theorem J2 (f g:Str)(v:V):∀fs:List (Str×V),(DB f v fs).lookup g=if g=f then some v else fs.lookup g
 |[]=>by
  show List.lookup g [(f,v)]=_
  by_cases h:g=f
  ·have hb:(g == f)=true:=cX.mpr h;simp only[List.lookup,hb,if_pos h]
  ·have hb:(g == f)=false:=dG.mpr h;simp only[List.lookup,hb,if_neg h]
 |(k,x)::r=>by
  have ih:=J2 f g v r;rw[show DB f v ((k,x)::r)=(if k=f then(k,v)::r else(k,x)::DB f v r) from rfl]
  by_cases hk:k=f
  ·rw[aC hk]
   by_cases h:g=k
   ·have hb:(g == k)=true:=cX.mpr h;simp only[List.lookup,hb,if_pos (h.trans hk)]
   ·have hb:(g == k)=false:=dG.mpr h;simp only[List.lookup,hb,if_neg (λe:g=f=>h (e.trans hk.symm))]
  ·rw[ay hk]
   by_cases h:g=k
   ·have hb:(g == k)=true:=cX.mpr h;simp only[List.lookup,hb,if_neg (λe:g=f=>hk (h.symm.trans e))]
   ·have hb:(g == k)=false:=dG.mpr h;simp only[List.lookup,hb];exact ih
theorem Jt (f:Str)(v:V):∀fs:List (Str×V),f∈(DB f v fs).map (·.1)/\∀g,g∈fs.map (·.1)->g∈(DB f v fs).map (·.1)
 |[]=>⟨by simp[DB],λg h=>by simp at h⟩
 |(k,x)::r=>by
  obtain⟨i1,i2⟩:=Jt f v r;rw[show DB f v ((k,x)::r)=(if k=f then(k,v)::r else(k,x)::DB f v r) from rfl]
  by_cases hk:k=f
  ·rw[aC hk];subst hk;exact⟨by simp,λg h=>by simpa using h⟩
  ·rw[ay hk];refine⟨?_,λg h=>?_⟩
   ·rw[au];exact ao _ i1
   ·rw[au] at h ⊢;rcases aM.mp h with e|e
    ·exact aM.mpr (.inl e)
    ·exact ao _ (i2 g e)
theorem Kf (f:Str)(v:V):∀fs:List (Str×V),(DB f v fs).length<=fs.length+1
 |[]=>by simp[DB]
 |(k,x)::r=>by
  have ih:=Kf f v r;rw[show DB f v ((k,x)::r)=(if k=f then(k,v)::r else(k,x)::DB f v r) from rfl]
  by_cases hk:k=f
  ·rw[aC hk,aL,aL];lia
  ·rw[ay hk,aL,aL];lia
theorem EA.some_of {v:V}{o:Option Value}(r:EA (some v) o):∃u,o=some u/\RelV v u:=by
 cases o with
 |none=>exact(show False from r).elim
 |some u=>exact⟨u,rfl,r⟩
theorem EA.none_of {o:Option Value}(r:EA none o):o=none:=by
 cases o with
 |none=>rfl
 |some u=>exact(show False from r).elim
theorem SA {v:V}{u:Value}(r:RelV v u):PySem.W.handedIn u=true:=by
 cases v with
 |non=>cases(show u=Value.none from r);rfl
 |bl b=>cases(show u=Value.bool b from r);rfl
 |int i=>obtain⟨t,e⟩:=(show ∃t,u=Value.int i t from r);cases e;rfl
 |str x=>obtain⟨t,e⟩:=(show ∃t,u=Value.str x t from r);cases e;rfl
 |byt b=>obtain⟨t,e⟩:=(show ∃t,u=Value.bytes b t from r);cases e;rfl
 |flt b=>obtain⟨t,e⟩:=(show ∃t,u=Value.float b t from r);cases e;rfl
 |ref a=>cases(show u=Value.ref a from r);rfl
 |ty n=>cases(show u=Value.type n from r);rfl
section
variable {P:Program}{w:World}{H H':Hp}{h h':Heap}{a C dx:Addr}{fs fs':List (Str×V)}
theorem K2 (hok:HS P w H h)(e:H a=some (.ins C dx fs)):∃mA,ObjM h a dx C mA/\(∀f,EA (fs.lookup f) (mA f))/\PySem.Within mA (fs.map (·.1))/\fs.length<=1000/\H dx=some (.own a):=by
 obtain⟨d,z,ne,ob,mA,n,r,q⟩:=(show Bw P w H h a (.ins C dx fs) from hok a _ e)
 exact⟨mA,⟨ob,n,ne⟩,r,q,z,d⟩
end
structure Cls (K:PySem.W.Frag) (C:Addr):Prop where
 pg:PySem.W.plainGet K C Str.empty=true
 hd:PySem.W.hasDictIn K C=true
 po:PySem.W.plainOver K C=true
 sa:PySem.W.findIn K (.ref C) "__setattr__"=some (some (.builtin "object.__setattr__"))
theorem Cls.get {K:PySem.W.Frag}{C:Addr}(c:Cls K C)(f:Str):PySem.W.plainGet K C f=true:=c.pg
def AS (K:PySem.W.Frag)(C:Addr)(f:Str):Prop:=PySem.W.findIn K (.ref C) f=some none
theorem AS.taker {K:PySem.W.Frag}{C:Addr}{f:Str}(n:AS K C f):PySem.W.takerIn K C f=some none:=by
 unfold PySem.W.takerIn;rw[show PySem.W.findIn K (.ref C) f=some none from n];rfl
structure Meth (K:PySem.W.Frag) (C:Addr) (m:Str) (f:Addr):Prop where
 at_:PySem.W.findIn K (.ref C) m=some (some (.ref f))
 fn:PySem.W.isFn K (.ref f)=true
 kp:PySem.W.keepIn K (.ref f)=true
section
variable {X:Cx}{pins:List (Addr×Obj)}{σ:St}{H:Hp}{s:Shared}{a C dx:Addr}{fs:List (Str×V)}{f:Str}{v:V}{A:Around}{E:Value->Shared->Prop}
theorem LH {b:Bool} {Q:Value->Shared->Prop} (I:Inv X pins σ H s) (e:H a=some (.ins C dx fs)) (c:Cls X.K C) (n:AS X.K C f) (l:fs.lookup f=some v)
  (h:∀u s',Inv X pins σ H s'->RelV v u->Q u s'):wpAny (model X.prog X.w) A (getAttr (.ref a) f b) Q E s:=by
 obtain⟨mA,O,r,_,_,_⟩:=K2 I.hok e;obtain⟨u,hu,ru⟩:=EA.some_of (v:=v) (o:=mA f) (by rw[<-l];exact r f);exact get_map I.kIn O (c.get f) c.hd n hu (SA ru) (h u _ (I.tok _) ru)
theorem Ig {m:Str} {g:Addr} {pl:Sem Bool} {Q:Value×List Value->Shared->Prop} (I:Inv X pins σ H s) (e:H a=some (.ins C dx fs)) (c:Cls X.K C) (k:Meth X.K C m g) (l:fs.lookup m=none)
  (h:Q (.ref g,[.ref a]) s):wpAny (model X.prog X.w) A (getMethod (.ref a) m pl) Q E s:=by
 obtain⟨mA,O,r,_,_,_⟩:=K2 I.hok e;have hn:mA m=none:=EA.none_of (by rw[<-l];exact r m);exact Uo I.kIn O (c.get m) k.at_ k.fn hn h
theorem Lz {y:V} {u:Value} {Q:Unit->Shared->Prop} (I:Inv X pins σ H s) (e:H a=some (.ins C dx fs)) (c:Cls X.K C) (n:AS X.K C f) (hl:fs.length<1000) (ry:RelV y u)
  (h:∀s',Inv X pins σ (upd H a (.ins C dx (DB f y fs))) s'->Q () s'):wpAny (model X.prog X.w) A (setAttr (.ref a) f u) Q E s:=by
 obtain⟨mA,O,r,wi,_,ho⟩:=K2 I.hok e;have hz:(fs.map (·.1)).length<=sizeLine:=by rw[ab,eJ];lia
 refine VQ I.kIn O c.sa c.po n.taker c.hd wi hz λh' O' sb=>h _ ?_
 have hd:∃o,h'.get? dx=some o:=let⟨o,_,_,e',_⟩:=O'.ns;⟨o,e'⟩;refine I.write (x:=a) (e:=dx) (by rw[e];exact True.intro) (.inr ho) (λb q hb z=>(sb.2 b hb).trans z) hd ?_;refine⟨by rw[Aj O.ne];exact ho,?_,O.ne,O'.obj,_,O'.ns,λg=>?_,λg hg=>?_⟩
 ·have:=Kf f y fs;lia
 ·show EA ((DB f y fs).lookup g) (if g=f then some u else mA g);rw[J2]
  by_cases q:g=f
  ·rw[aC q,aC q];exact ry
  ·rw[ay q,ay q];exact r g
 ·by_cases q:g=f
  ·rw[q];exact(Jt f y fs).1
  ·refine(Jt f y fs).2 g (wi g λz=>hg ?_);show(if g=f then some u else mA g)=none;rw[ay q];exact z
theorem Inv.made (I:Inv X pins σ H s):Inv X pins σ (upd (upd H s.heap.objs.size (.own (s.heap.objs.size+1))) (s.heap.objs.size+1) (.ins C s.heap.objs.size []))
  { s with heap:=(s.heap.push PySem.W.emptyDict).push (PySem.W.instObj C s.heap.objs.size) }:=by
 have e1:(s.heap.push PySem.W.emptyDict).get? s.heap.objs.size=some PySem.W.emptyDict:=aQ s.heap rfl;have e2:((s.heap.push PySem.W.emptyDict).push (PySem.W.instObj C s.heap.objs.size)).get? (s.heap.objs.size+1)=some (PySem.W.instObj C s.heap.objs.size):=by
  have:=aQ (s.heap.push PySem.W.emptyDict) (o:=PySem.W.instObj C s.heap.objs.size) rfl
  rwa [bW] at this
 have e3:(s.heap.push PySem.W.emptyDict).Ns s.heap.objs.size (λ_=>none):=⟨PySem.W.emptyDict,#[],_,e1,rfl,(λe he=>absurd he (by simp)),λ_=>rfl⟩
 have I1:=I.laid (a:=s.heap.objs.size) (o:=.own (s.heap.objs.size+1)) (h':=s.heap.push PySem.W.emptyDict) (t':=s.toks) (λb u q=>aq _ q) (ah _) ⟨_,e1⟩;refine I1.laid (a:=s.heap.objs.size+1) (o:=.ins C s.heap.objs.size []) (t':=s.toks) (λb u q=>aq _ q) (dB (bW _ _)) ?_;have ne:s.heap.objs.size≠s.heap.objs.size+1:=aX (fc _);refine⟨by rw[Aj ne,Ag],aR _,ne,e2,λ_=>none,(Heap.Ns1.of_empty e3).at λo q=>aq _ q,λ_=>True.intro,λy hy=>absurd rfl hy⟩
theorem UU {prog:Program} {w:World} {env:Env} {e:Expr} {f:Str} {pos:Pos} {s:Shared} {Q:Value->Shared->Prop} (hb:attributeBase e f env (eval e env)=eval e env)
  (h:wpAny (model prog w) A (eval e env) (λo s₁=>wpAny (model prog w) A (getAttr o f true) Q E s₁) E s):wpAny (model prog w) A (eval (.Attribute e f pos) env) Q E s:=
 Attribute_any_ h (by rw[arm_eval_Attribute,hb])
end
def YK (K:PySem.W.Frag)(ta:TE)(f:Str):TE:=λσ H Q=>ta σ H λx H1=>∃a C dx fs v,x=.ref a/\H1 a=some (.ins C dx fs)/\Cls K C/\AS K C f/\fs.lookup f=some v/\Q v H1
def YX (K:PySem.W.Frag)(ta tv:TE)(f:Str):TS:=λD σ H=>tv σ H λy H1=>ta σ H1 λx H2=>∃a C dx fs,x=.ref a/\H2 a=some (.ins C dx fs)/\Cls K C/\AS K C f/\fs.length<1000/\
 D.nx σ (upd H2 a (.ins C dx (DB f y fs)))
def YY (X:Cx)(op:Operator)(rd:V->V->Hp->VK->Prop):Prop:=
 ∀(pins:List (Addr×Obj)) (s:Shared) (σ:St) (H:Hp) (x y:V) (u v:Value) (Q:VK),Inv X pins σ H s->RelV x u->RelV y v->rd x y H Q->wpAny (model X.prog X.w) X.A (inplaceOp op u v) (EP X pins σ Q) X.xe s
def U8 (K:PySem.W.Frag)(ta tv:TE)(rd:V->V->Hp->VK->Prop)(f:Str):TS:=λD σ H=>ta σ H λx H1=>∃a C dx fs v,x=.ref a/\H1 a=some (.ins C dx fs)/\Cls K C/\AS K C f/\fs.lookup f=some v/\
 tv σ H1 λy H2=>rd v y H2 λz H3=>∃dx' fs',H3 a=some (.ins C dx' fs')/\fs'.length<1000/\D.nx σ (upd H3 a (.ins C dx' (DB f z fs')))
section
variable {X:Cx}{o e value:Expr}{f:Str}{pos pos' tpos:Pos}{ta tv:TE}
theorem AU (he:PE X e ta)(hb:attributeBase e f X.env (eval e X.env)=eval e X.env):PE X (.Attribute e f pos) (YK X.K ta f):=by
 intro pins s σ H Q I h;refine UU hb (Bm (he pins s σ H _ I h) λu s1 z9=>?_);obtain⟨x,H1,I1,rx,a,C,dx,fs,v,ex,ea,c,n,l,q⟩:=z9;subst ex;obtain rfl:u=Value.ref a:=rx;exact LH I1 ea c n l λu' s2 I2 ru=>⟨v,H1,I2,ru,q⟩
theorem Cd (ha:PE X o ta)(hv:PE X value tv)(hs:swapsWith value (some (.Attribute o f pos')) pos.line X.env=pure false):PS X (.Assign [.Attribute o f pos'] value pos) (YX X.K ta tv f):=by
 intro pins s σ H D I h;refine plainObj_wpAny_Assign_Attribute (Bm (hv pins s σ H _ I h) λu s1 ⟨y,H1,I1,ry,q⟩=>Bm (ha pins s1 σ H1 _ I1 q) λov s2 z9=>?_) hs;obtain⟨x,H2,I2,rx,a,C,dx,fs,ex,ea,c,n,l,q2⟩:=z9;subst ex;obtain rfl:ov=Value.ref a:=rx;exact Lz I2 ea c n l ry λs3 I3=>⟨σ,_,I3,q2⟩
theorem Fh {op:Operator}{rd:V->V->Hp->VK->Prop}(ha:PE X o ta)(hv:PE X value tv)(hop:YY X op rd):PS X (.AugAssign (.Attribute o f tpos) op value pos) (U8 X.K ta tv rd f):=by
 intro pins s σ H D I h;refine wpAny_AugAssign_AttributeAny (Bm (ha pins s σ H _ I h) λov s1 z9=>?_);obtain⟨x,H1,I1,rx,a,C,dx,fs,v,ex,ea,c,n,l,q⟩:=z9;subst ex;obtain rfl:ov=Value.ref a:=rx;refine LH I1 ea c n l λu s2 I2 ru=>Bm (hv pins s2 σ H1 _ I2 q) λw3 s3 ⟨y,H2,I3,ry,q3⟩=>Bm (hop pins s3 σ H2 v y u w3 _ I3 ru ry q3) λw4 s4 z9=>?_
 obtain⟨z,H3,I4,rz,dx',fs',ea',l',q4⟩:=z9;exact Lz I4 ea' c n l' rz λs5 I5=>⟨σ,_,I5,q4⟩
theorem Wp {pl:Sem Bool} {m:Str} {apos:Pos} {args:List Expr} {pins:List (Addr×Obj)} {s:Shared} {σ:St} {H:Hp} {Q:Value->Shared->Prop} {te:TE} (he:PE X e te) (I:Inv X pins σ H s)
  (h:te σ H λx H1=>∃a C dx fs g,x=.ref a/\H1 a=some (.ins C dx fs)/\Cls X.K C/\Meth X.K C m g/\fs.lookup m=none/\
   ∀s1,Inv X pins σ H1 s1->wpAny (model X.prog X.w) X.A (callWith pos (.ref g) [.ref a] (backTo pos (starEach args X.env)) (backToKw pos (keywordEach [] X.env))) Q X.xe s1)
  (ht:eval (.Call (.Attribute e m apos) args [] pos) X.env=(do
   let ov <-eval e X.env
   standAt apos.atName
   let(f,first) <-holding [ov] (getMethod ov m pl)
   callWith pos f first (backTo pos (starEach args X.env)) (backToKw pos (keywordEach [] X.env)))) :
  wpAny (model X.prog X.w) X.A (eval (.Call (.Attribute e m apos) args [] pos) X.env) Q X.xe s:=by
 refine fG (pl:=pl) (Bm (he pins s σ H _ I h) λu s1 z9=>?_) ht;obtain⟨x,H1,I1,rx,a,C,dx,fs,g,ex,ea,c,k,l,q⟩:=z9;subst ex;obtain rfl:u=Value.ref a:=rx;exact Ig I1 ea c k l (q s1 I1)
end
section
variable {X:Cx}{pins:List (Addr×Obj)}{σ:St}{H:Hp}{s:Shared}{A:Around}{E:Value->Shared->Prop}{Q:Value->Shared->Prop}{c:Value}{b:Bool}
inductive TyOf (K:PySem.W.Frag) (H:Hp):V->Value->Prop where
 |non:TyOf K H .non (.type "NoneType")
 |bl (x:Bool):TyOf K H (.bl x) (.type "bool")
 |int (i:Int):TyOf K H (.int i) (.type "int")
 |str (x:Str):TyOf K H (.str x) (.type "str")
 |flt (x:UInt64):TyOf K H (.flt x) (.type "float")
 |lst {a:Addr} {xs:List V} (e:H a=some (.lst xs)):TyOf K H (.ref a) (.type "list")
 |frz {a:Addr} {o:Obj} {xs:List V} (e:H a=some (.frz o (.lst xs))):TyOf K H (.ref a) (.type "list")
 |tup {a:Addr} {xs:List V} (e:H a=some (.tup xs)):TyOf K H (.ref a) (.type "tuple")
 |dK {a:Addr} {kvs:List (Key×V)} (e:H a=some (.dK kvs)):TyOf K H (.ref a) (.type "dict")
 |dT {a:Addr} {kvs:List (List Key×V)} (e:H a=some (.dT kvs)):TyOf K H (.ref a) (.type "dict")
 |ins {a C dx:Addr} {fs:List (Str×V)} (e:H a=some (.ins C dx fs)) (cl:Cls K C) (ha:PySem.W.findIn K (.ref C) "__class__"=some (some (.builtin "object.__class__")))
   (hn:PySem.W.specialIn K (.builtin "object.__class__") "__get__"=some (some (.builtin "getset_descriptor.__get__"))) (htk:PySem.W.takesIn K (.builtin "object.__class__")=some true)
   (hm:PySem.W.mroIn K C (.type "object")=some true):TyOf K H (.ref a) (.ref C)
theorem RX {x:V}{u t:Value}(I:Inv X pins σ H s)(rx:RelV x u)(ty:TyOf X.K H x t)(e:PySem.W.kitOne X.K t c=some b)(h:∀tk,Q (.bool b) { s with toks:=tk }) :
  wpAny (model X.prog X.w) A (call (.builtin "isinstance") [u,c]) Q E s:=by
 cases ty with
 |non=>cases(show u=Value.none from rx);exact cv PySem.W.kitx_none I.kIn True.intro e (λz=>nomatch z) h
 |bl y=>cases(show u=Value.bool y from rx);exact cv PySem.W.kitx_bool I.kIn True.intro e (λz=>nomatch z) h
 |int i=>obtain⟨t,q⟩:=(show ∃t,u=Value.int i t from rx);cases q;exact cv PySem.W.kitx_int I.kIn True.intro e (λz=>nomatch z) h
 |str y=>obtain⟨t,q⟩:=(show ∃t,u=Value.str y t from rx);cases q;exact cv PySem.W.kitx_str I.kIn True.intro e (λz=>nomatch z) h
 |flt y=>obtain⟨t,q⟩:=(show ∃t,u=Value.float y t from rx);cases q;exact cv PySem.W.kitx_float I.kIn True.intro e (λz=>nomatch z) h
 |@lst a xs ea=>
  cases(show u=Value.ref a from rx);obtain⟨_,_,n,_,h1⟩:=(show Bw X.prog X.w H s.heap a (.lst xs) from I.hok a _ ea)
  exact cv PySem.W.kitx_list I.kIn ⟨_,h1,rfl⟩ e (λz=>nomatch z) h
 |@frz a ob xs ea=>
  cases(show u=Value.ref a from rx);obtain⟨_,_,_,n,_,h1⟩:=(show Bw X.prog X.w H s.heap a (.frz ob (.lst xs)) from I.hok a _ ea)
  exact cv PySem.W.kitx_list I.kIn ⟨_,h1,rfl⟩ e (λz=>nomatch z) h
 |@tup a xs ea=>
  cases(show u=Value.ref a from rx);obtain⟨_,_,_,p⟩:=(show Bw X.prog X.w H s.heap a (.tup xs) from I.hok a _ ea)
  obtain⟨o,h1,h2,_⟩:=p;exact cv PySem.W.kitx_tuple I.kIn ⟨o,h1,h2⟩ e (λz=>nomatch z) h
 |@dK a kvs ea=>
  cases(show u=Value.ref a from rx);obtain⟨_,_,vs,_,p⟩:=(show Bw X.prog X.w H s.heap a (.dK kvs) from I.hok a _ ea)
  obtain⟨o,es,ep,h1,h2,_⟩:=p;exact cv PySem.W.kitx_dict I.kIn ⟨o,h1,h2.1⟩ e (λz=>nomatch z) h
 |@dT a kvs ea=>
  cases(show u=Value.ref a from rx);obtain⟨_,_,xs,_,o,es,ep,h1,h2,_⟩:=(show Bw X.prog X.w H s.heap a (.dT kvs) from I.hok a _ ea)
  exact cv PySem.W.kitx_dict I.kIn ⟨o,h1,h2.1⟩ e (λz=>nomatch z) h
 |@ins a C dx fs ea cl ha hn htk hm=>
  cases(show u=Value.ref a from rx);obtain⟨mA,O,_⟩:=K2 I.hok ea;obtain⟨od,J,_⟩:=O.look;exact cv (PySem.W.kitx_own (cl.get _) cl.hd ha hn htk hm) I.kIn J e (λz=>nomatch z) h
end
structure Room (k:Nat) (A:Around):Prop where
 hd:A.handled=none
 dp:A.depth+3*k+5<recursionLimit
 un:A.units+16*k+200<cLine
theorem Room.mono {j k:Nat}{A:Around}(r:Room k A)(h:j<=k):Room j A:=⟨r.hd,by have:=r.dp;lia,by have:=r.un;lia⟩
theorem Room.deeper {k:Nat}{A:Around}(r:Room (k+1) A)(env:Env):Room k (A.deeper env):=
 ⟨r.hd,by have:=r.dp;show A.depth+1+3*k+5<_;lia,by have:=r.un;show A.units+3+16*k+200<_;lia⟩
theorem P0 {A:Around}{C:Addr}{us:List Value}{kw:List (Str×Value)}:(A.under (.builtin "type.__call__" ⟨.ref C::us,kw⟩)).depth=A.depth+1:=by
 first|rfl|simp[Around.under,Code.weight,Code.isCreation,Code.isGuard,Code.isCaller,Code.frames,Code.isFrame,guardIds]
theorem PH {A:Around}{C:Addr}{us:List Value}{kw:List (Str×Value)}:(A.under (.builtin "type.__call__" ⟨.ref C::us,kw⟩)).units=A.units+1:=by
 first|rfl|simp[Around.under,Code.cUnits,Code.frames,Code.isFrame]
theorem Room.make {k:Nat}{A:Around}(r:Room (k+1) A)(C:Addr)(us:List Value)(kw:List (Str×Value)):Room k (A.under (.builtin "type.__call__" ⟨.ref C::us,kw⟩)):=
 ⟨r.hd,by have:=r.dp;rw[P0];lia,by have:=r.un;rw[PH];lia⟩
theorem Room.depth {k:Nat}{A:Around}(r:Room k A):A.depth<recursionLimit:=by have:=r.dp;lia
theorem Room.units {k:Nat}{A:Around}(r:Room k A):A.units+64<cLine:=by have:=r.un;lia
def OG:TA:=λ_ H Q=>Q [] H
def Wm (ta:TE)(tr:TA):TA:=λσ H Q=>ta σ H λx H1=>tr σ H1 λxs H2=>Q (x::xs) H2
section
variable {X:Cx}{e:Expr}{es:List Expr}{te:TE}{t:TA}{pos:Pos}
theorem Ah:PA X [] OG:=λ_ _ _ _ H Q I h=>dF ⟨[],H,I,.nil,h⟩
theorem Ac (ha:PE X e te)(hr:PA X es t)(hs:starEach (e::es) X.env=(false,eval e X.env)::starEach es X.env:=by rfl):PA X (e::es) (Wm te t):=by
 intro pos pins s σ H Q I h;rw[hs];show wpAny _ _ (spliced ((false,eval e X.env)::backTo pos (starEach es X.env))) _ _ s;refine cA (Bm (ha pins s σ H _ I h) λu s1 z9=>?_);obtain⟨x,H1,I1,r1,q1⟩:=z9;exact Bm (hr pos pins s1 σ H1 _ I1 q1) (by rintro us s2 ⟨xs,H2,I2,r2,q2⟩;exact⟨x::xs,H2,I2,.cons r1 r2,q2⟩)
def YT (t:TA):TE:=λσ H Q=>t σ H λxs H1=>xs.length<=sizeLine/\∀p,H1 p=none->Q (.ref p) (upd H1 p (.tup xs))
def YD (t:TA):TE:=λσ H Q=>t σ H λxs H1=>xs.length<=sizeLine/\∀p,H1 p=none->Q (.ref p) (upd H1 p (.lst xs))
theorem DE {x1}(h:PA X es t):PE X (.Tuple es x1 pos) (YT t):=by
 intro pins s σ H Q I hq;refine wpAny_Tuple_spliced (Bm (h pos pins s σ H _ I hq) λus s1 ⟨xs,H1,I1,r,z,q⟩=>⟨by rw[<-r.length];exact z,?_⟩);have hf:H1 s1.heap.objs.size=none:=I1.hok.fresh (ah _);refine⟨.ref s1.heap.objs.size,upd H1 s1.heap.objs.size (.tup xs),I1.laid (t':=s1.toks) (λb u e=>aq _ e) (ah _) ?_,rfl,q _ hf⟩;exact⟨z,us,r,⟨_,aQ _ rfl,rfl,_,rfl,λ_=>rfl⟩⟩
theorem Be (h:PA X es t):PE X (.List es pos) (YD t):=by
 intro pins s σ H Q I hq;refine wpAny_List_spliced (Bm (h pos pins s σ H _ I hq) λus s1 ⟨xs,H1,I1,r,z,q⟩=>⟨by rw[<-r.length];exact z,?_⟩);have hf:H1 s1.heap.objs.size=none:=I1.hok.fresh (ah _);refine⟨.ref s1.heap.objs.size,upd H1 s1.heap.objs.size (.lst xs),I1.laid (t':=s1.toks) (λb u e=>aq _ e) (ah _) ?_,rfl,q _ hf⟩;exact⟨z,us,0,r,aQ _ rfl⟩
end
abbrev Sp:=List V->Hp->VK->XK->Prop
abbrev Ut:=List Env->Hp->Shared->XK->Value->Shared->Prop
structure Env0 (P:Program) (w:World) (K:PySem.W.Frag) (mg:Str->Option Value) (base:Heap) (A:Around) (outer:List Env) (s:Shared) (H:Hp):Prop where
 frames:A.frames=some outer
 mod:Mod K mg base
 bs:∀b o,base.get? b=some o->s.heap.get? b=some o/\H b=none
 bsz:base.objs.size<=s.heap.objs.size
 funs:s.heap.FunFrames base outer
 frf:∀b∈Oj outer,H b=none
 hok:HS P w H s.heap
 bare:AllBare s.gens
def CE (outer:List Env)(P:Program)(w:World)(H:Hp)(s:Shared)(Q:VK)(u:Value)(s':Shared):Prop:=
 ∃v H',s'.os=s.os/\AllBare s'.gens/\Un (Oj outer) [] H H' s.heap s'.heap/\HS P w H' s'.heap/\RelV v u/\Q v H'
def CR (CX:Ut)(outer:List Env)(P:Program)(w:World)(H:Hp)(s:Shared)(Q:VK)(E:XK)(r:Result)(s':Shared):Prop:=
 match r with
 | .ok (.ret u)=>CE outer P w H s Q u s'
 | .ok _=>False
 | .error e=>CX outer H s E e s'
structure FnOk (P:Program) (w:World) (K:PySem.W.Frag) (mg:Str->Option Value) (base:Heap) (CX:Ut) (k:Nat) (f:Addr) (fd:FuncData) (ps:List Str) (sp:Sp):Prop where
 len:∀vs H Q E,sp vs H Q E->vs.length=ps.length
 run:∀(A:Around) (outer:List Env) (s:Shared) (H:Hp) (args:Args) (us:List Value) (vs:List V) (Q:VK) (E:XK),Room k A->Env0 P w K mg base A outer s H->BindsTo s fd args (ps.zip us)->AW vs us->sp vs H Q E->
  codeAny (model P w) A (.call (.ref f) args) (CR CX outer P w H s Q E) s
theorem Env0.make {P:Program}{w:World}{K:PySem.W.Frag}{mg:Str->Option Value}{base:Heap}{A:Around}{outer:List Env}{s:Shared}{H:Hp}(e:Env0 P w K mg base A outer s H)(C:Addr)(us:List Value)(kw:List (Str×Value)) :
  Env0 P w K mg base (A.under (.builtin "type.__call__" ⟨.ref C::us,kw⟩)) outer s H:=⟨by first|exact e.frames|(simpa [Around.under,Code.envs,Code.isFrame,pushEnvs] using e.frames),e.mod,e.bs,e.bsz,e.funs,e.frf,e.hok,e.bare⟩
section
variable {X:Cx}{pins:List (Addr×Obj)}{σ:St}{H:Hp}{s s':Shared}
theorem Inv.env0 (I:Inv X pins σ H s):Env0 X.prog X.w X.K X.mg X.base X.A X.stack s H:=
 ⟨I.ok.frames,I.ok.mod,I.bs,aY I.ok.bsz I.sz,I.stack,I.stkFree,I.hok,I.bare⟩
theorem Inv.after {Q:VK}{u:Value}(I:Inv X pins σ H s)(h:CE X.stack X.prog X.w H s Q u s'):EP X pins σ Q u s':=by
 obtain⟨v,H',os,bare,un,hok,r,q⟩:=h;obtain⟨hh,g,d,t,os'⟩:=s';obtain rfl:os'=s.os:=os;exact⟨v,H',I.call (h':=hh) (g':=g) (d':=d) (t':=t) (ch:=[]) un hok bare (λb z=>absurd z (by simp)),r,q⟩
end
def Ro (sp:Sp)(dvs:List V)(E:XK)(t:TA):TE:=λσ H Q=>t σ H λvs H1=>sp (vs++dvs) H1 Q E
def Q2 (C:Addr)(m:Str)(sp:Sp)(dvs:List V)(E:XK)(ta:TE)(t:TA):TE:=λσ H Q=>ta σ H λx H1=>∃a dx fs,x=.ref a/\H1 a=some (.ins C dx fs)/\fs.lookup m=none/\
 t σ H1 λvs H2=>sp (x::(vs++dvs)) H2 Q E
def Ws (C:Addr)(sp:Sp)(dvs:List V)(E:XK)(t:TA):TE:=λσ H Q=>t σ H λvs H1=>∀x dx,H1 x=none->H1 dx=none->dx≠x->
 sp (.ref x::(vs++dvs)) (upd (upd H1 dx (.own x)) x (.ins C dx [])) (λv H2=>v=.non/\Q (.ref x) H2) E
def Binds (K:PySem.W.Frag)(fd:FuncData)(ps:List Str)(ds:List Value):Prop:=
 ∀(s:Shared) (us:List Value),K.In s.heap->(us++ds).length=ps.length->BindsTo s fd ⟨us,[]⟩ (ps.zip (us++ds))
theorem Binds.all {K:PySem.W.Frag}{fd:FuncData}{ps:List Str}(h:∀us:List Value,us.length=ps.length->bindArgs fd ⟨us,[]⟩=pure (ps.zip us)):Binds K fd ps []:=λs us _ hl=>by
 rw[bY] at hl ⊢;exact .of_eq (h us hl)
def GF (CX:Ut)(X:Cx)(E:XK):Prop:=∀(pins:List (Addr×Obj)) (σ:St) (H:Hp) (s:Shared) (e:Value) (s':Shared),Inv X pins σ H s->CX X.stack H s E e s'->X.xe e s'
section
variable {X:Cx}{CX:Ut}{k:Nat}{f C:Addr}{fd:FuncData}{ps:List Str}{sp:Sp}{dvs:List V}{ds:List Value}{E:XK}{x m:Str}{p pos apos:Pos}{e o:Expr}{es:List Expr}{ta:TE}{t:TA}
theorem Oh {pins:List (Addr×Obj)} {σ:St} {H:Hp} {s:Shared} {Q:VK} {us:List Value} {vs:List V} (F:FnOk X.prog X.w X.K X.mg X.base CX k f fd ps sp) (hr:Room k X.A) (hb:Binds X.K fd ps ds) (hd:AW dvs ds) (hx:GF CX X E)
  (I:Inv X pins σ H s) (r:AW vs us) (h:sp (vs++dvs) H Q E):wpAny (model X.prog X.w) X.A (call (.ref f) us) (EP X pins σ Q) X.xe s:=by
 have r2:AW (vs++dvs) (us++ds):=r.append hd;have hl:(us++ds).length=ps.length:=by rw[<-r2.length];exact F.len _ _ _ _ h
 refine gB (du (F.run X.A X.stack s H ⟨us,[]⟩ (us++ds) (vs++dvs) Q E hr I.env0 (hb s us I.kIn hl) r2 h) λr s' hq=>?_);cases r with
 |error e=>exact hx pins σ H s e s' I hq
 |ok fl=>
  cases fl with
  |ret u=>exact I.after hq
  |next=>exact False.elim hq
  |brk=>exact False.elim hq
  |cont=>exact False.elim hq
theorem UQ (F:FnOk X.prog X.w X.K X.mg X.base CX k f fd ps sp) (hr:Room k X.A) (hg:Gl X x) (hm:X.mg x=some (.ref f)) (hk:PySem.W.keepIn X.K (.ref f)=true) (hb:Binds X.K fd ps ds) (hd:AW dvs ds) (hx:GF CX X E)
  (ha:PA X (e::es) t) (hdb:(x == ("__debug__":Str))=false:=by decide) (he:starEach (e::es) X.env=(false,eval e X.env)::starEach es X.env:=by rfl) (hpl:(backTo pos (starEach es X.env)).any (·.1)=false:=by rfl) :
  PE X (.Call (.Name x p) (e::es) [] pos) (Ro sp dvs E t):=by
 intro pins s σ H Q I h;refine cS (Je I hg hm ?_ hdb);refine fW (h₀:=X.base) I.ok.mod.kin hk (Bm (ha pos pins s σ H _ I h) λus s1 ⟨vs,H1,I1,r,q⟩=>⟨I1.kIn,?_⟩) he hpl;exact Oh F hr hb hd hx I1 r q
theorem UJ (F:FnOk X.prog X.w X.K X.mg X.base CX k f fd ps sp) (hr:Room k X.A) (hg:Gl X x) (hm:X.mg x=some (.ref f)) (hk:PySem.W.keepIn X.K (.ref f)=true) (hb:Binds X.K fd ps ds) (hd:AW dvs ds) (hx:GF CX X E)
  (hdb:(x == ("__debug__":Str))=false:=by decide):PE X (.Call (.Name x p) [] [] pos) (Ro sp dvs E OG):=by
 intro pins s σ H Q I h;refine cS (Je I hg hm ?_ hdb);exact iL I.kIn hk (Oh (us:=[]) F hr hb hd hx I .nil h)
theorem VR {pl:Sem Bool} (he:PE X o ta) (c:Cls X.K C) (hm:Meth X.K C m f) (F:FnOk X.prog X.w X.K X.mg X.base CX k f fd ps sp) (hr:Room k X.A) (hb:Binds X.K fd ps ds) (hd:AW dvs ds) (hx:GF CX X E) (ha:PA X (e::es) t)
  (hst:starEach (e::es) X.env=(false,eval e X.env)::starEach es X.env:=by rfl) (hpl:(backTo pos (starEach es X.env)).any (·.1)=false:=by rfl)
  (ht:eval (.Call (.Attribute o m apos) (e::es) [] pos) X.env=(do
   let ov <-eval o X.env
   standAt apos.atName
   let(f,first) <-holding [ov] (getMethod ov m pl)
   callWith pos f first (backTo pos (starEach (e::es) X.env)) (backToKw pos (keywordEach [] X.env))):=by rfl) :
  PE X (.Call (.Attribute o m apos) (e::es) [] pos) (Q2 C m sp dvs E ta t):=by
 intro pins s σ H Q I h;refine fG (pl:=pl) (Bm (he pins s σ H _ I h) λu s1 z9=>?_) ht;obtain⟨x,H1,I1,rx,a,dx,fs,ex,ea,l,q⟩:=z9;subst ex;obtain rfl:u=Value.ref a:=rx;refine Ig I1 ea c hm l ?_;refine fW (first:=[.ref a]) (h₀:=X.base) I.ok.mod.kin hm.kp (Bm (ha pos pins s1 σ H1 _ I1 q) λus s2 ⟨vs,H2,I2,r,q2⟩=>⟨I2.kIn,?_⟩) hst hpl;exact Oh (us:=.ref a::us) (vs:=.ref a::vs) F hr hb hd hx I2 (.cons rfl r) q2
theorem SY {pl:Sem Bool} (he:PE X o ta) (c:Cls X.K C) (hm:Meth X.K C m f) (F:FnOk X.prog X.w X.K X.mg X.base CX k f fd ps sp) (hr:Room k X.A) (hb:Binds X.K fd ps ds) (hd:AW dvs ds) (hx:GF CX X E)
  (ht:eval (.Call (.Attribute o m apos) [] [] pos) X.env=(do
   let ov <-eval o X.env
   standAt apos.atName
   let(f,first) <-holding [ov] (getMethod ov m pl)
   callWith pos f first (backTo pos (starEach [] X.env)) (backToKw pos (keywordEach [] X.env))):=by rfl) :
  PE X (.Call (.Attribute o m apos) [] [] pos) (Q2 C m sp dvs E ta OG):=by
 intro pins s σ H Q I h;refine fG (pl:=pl) (Bm (he pins s σ H _ I h) λu s1 z9=>?_) ht;obtain⟨x,H1,I1,rx,a,dx,fs,ex,ea,l,q⟩:=z9;subst ex;obtain rfl:u=Value.ref a:=rx;refine Ig I1 ea c hm l ?_;exact iL (first:=[.ref a]) I1.kIn hm.kp (Oh (us:=[.ref a]) (vs:=[.ref a]) F hr hb hd hx I1 (.cons rfl .nil) q)
structure Mk (K:PySem.W.Frag) (C f:Addr):Prop where
 makes:PySem.W.makesIn K C=true
 init:PySem.W.findIn K (.ref C) "__init__"=some (some (.ref f))
 fn:PySem.W.isFn K (.ref f)=true
 kp:PySem.W.keepIn K (.ref C)=true
theorem Tv {pins:List (Addr×Obj)} {σ:St} {H:Hp} {s:Shared} {Q:VK} {us:List Value} {vs:List V} (M:Mk X.K C f) (F:FnOk X.prog X.w X.K X.mg X.base CX k f fd ps sp) (hr:Room (k+1) X.A) (hb:Binds X.K fd ps ds) (hd:AW dvs ds)
  (hx:GF CX X E) (I:Inv X pins σ H s) (r:AW vs us)
  (h:∀x dx,H x=none->H dx=none->dx≠x->sp (.ref x::(vs++dvs)) (upd (upd H dx (.own x)) x (.ins C dx [])) (λv H2=>v=.non/\Q (.ref x) H2) E) :
  wpAny (model X.prog X.w) X.A (call (.ref C) us) (EP X pins σ Q) X.xe s:=by
 have hq:=h (s.heap.objs.size+1) s.heap.objs.size (I.hok.fresh (eu _)) (I.hok.fresh (ah _)) (aX (fc _));have I2:=Inv.made (C:=C) I;have r2:AW (V.ref (s.heap.objs.size+1)::(vs++dvs)) (Value.ref (s.heap.objs.size+1)::(us++ds)):=.cons rfl (r.append hd);have hl:(Value.ref (s.heap.objs.size+1)::us++ds).length=ps.length:=by
  have e:=r2.length;rw[F.len _ _ _ _ hq] at e;exact e.symm
 refine gB (Um (f:=f) I.kIn M.makes M.init (cX.mp M.fn) (du (F.run _ X.stack _ _ ⟨Value.ref (s.heap.objs.size+1)::us,[]⟩ (Value.ref (s.heap.objs.size+1)::(us++ds)) _ _ E (hr.make C us [])
  (I2.env0.make C us []) (hb _ (Value.ref (s.heap.objs.size+1)::us) I2.kIn hl) r2 hq) λr s' hq'=>?_))
 cases r with
 |error e=>exact hx pins σ _ _ e s' I2 hq'
 |ok fl=>
  cases fl with
  |ret u=>
   obtain⟨v,H',I3,rv,ev,q3⟩:=I2.after hq';subst ev;exact⟨rv,⟨V.ref (s.heap.objs.size+1),H',I3,rfl,q3⟩⟩
  |next=>exact False.elim hq'
  |brk=>exact False.elim hq'
  |cont=>exact False.elim hq'
theorem U9 (M:Mk X.K C f) (F:FnOk X.prog X.w X.K X.mg X.base CX k f fd ps sp) (hr:Room (k+1) X.A) (hg:Gl X x) (hm:X.mg x=some (.ref C)) (hb:Binds X.K fd ps ds) (hd:AW dvs ds) (hx:GF CX X E)
  (ha:PA X (e::es) t) (hdb:(x == ("__debug__":Str))=false:=by decide) (he:starEach (e::es) X.env=(false,eval e X.env)::starEach es X.env:=by rfl) (hpl:(backTo pos (starEach es X.env)).any (·.1)=false:=by rfl) :
  PE X (.Call (.Name x p) (e::es) [] pos) (Ws C sp dvs E t):=by
 intro pins s σ H Q I h;refine cS (Je I hg hm ?_ hdb);refine fW (h₀:=X.base) I.ok.mod.kin M.kp (Bm (ha pos pins s σ H _ I h) λus s1 ⟨vs,H1,I1,r,q⟩=>⟨I1.kIn,?_⟩) he hpl;exact Tv M F hr hb hd hx I1 r q
end
structure FnScope (N P:List Str) (sc:Scope):Prop where
 kind:sc.kind=.function
 co:sc.isCoroutine=false
 gen:sc.isGenerator=false
 nd:N.Nodup
 pre:N.take P.length=P
 par:∀x∈P,sc.names.lookup x=some .local\/sc.names.lookup x=some .cell
 nofree:∀y∈sc.names,y.2≠.free
theorem Nk {kindOf:Str->Option NameKind}{x:Str}:∀{binds:List (Str×Value)} {m:Str->Option Value},(∀v,(x,v)∉binds)->bindL kindOf binds m x=m x
 |[],_,_=>rfl
 |(n,v)::r,m,h=>by
  unfold bindL;rw[Nk λw hw=>h w (ao _ hw)]
  split
  ·have:x≠n:=by rintro rfl;exact h v av
   simp[this]
  ·rfl
theorem MP {kindOf:Str->Option NameKind}{x:Str}:∀{binds:List (Str×Value)} {m:Str->Option Value},(∀v,(x,v)∉binds)->bindC kindOf binds m x=m x
 |[],_,_=>rfl
 |(n,v)::r,m,h=>by
  unfold bindC;rw[MP λw hw=>h w (ao _ hw)]
  split
  ·rfl
  ·have:x≠n:=by rintro rfl;exact h v av
   simp[this]
theorem Ni {kindOf:Str->Option NameKind}{x:Str}{v:Value}:∀{P:List Str} {vs:List Value} {i:Nat} {m:Str->Option Value},P.Nodup->P[i]?=some x->vs[i]?=some v->kindOf x=some .local->
  bindL kindOf (P.zip vs) m x=some v
 |[],_,_,_,_,h,_,_=>by simp at h
 |_::_,[],_,_,_,_,h,_=>by simp at h
 |p::P,w::vs,0,m,nd,h1,h2,hk=>by
  simp at h1 h2;subst h1;subst h2;show bindL kindOf ((p,w)::P.zip vs) m p=_;unfold bindL;rw[Nk λv hv=>(bF.mp nd).1 (eD hv).1,aC hk];simp
 |p::P,w::vs,i+1,m,nd,h1,h2,hk=>by
  show bindL kindOf ((p,w)::P.zip vs) m x=_;unfold bindL;exact Ni (i:=i) (bF.mp nd).2 (by simpa using h1) (by simpa using h2) hk
theorem MZ {kindOf:Str->Option NameKind}{x:Str}{v:Value}:∀{P:List Str} {vs:List Value} {i:Nat} {m:Str->Option Value},P.Nodup->P[i]?=some x->vs[i]?=some v->kindOf x≠some .local->
  bindC kindOf (P.zip vs) m x=some v
 |[],_,_,_,_,h,_,_=>by simp at h
 |_::_,[],_,_,_,_,h,_=>by simp at h
 |p::P,w::vs,0,m,nd,h1,h2,hk=>by
  simp at h1 h2;subst h1;subst h2;show bindC kindOf ((p,w)::P.zip vs) m p=_;unfold bindC;rw[MP λv hv=>(bF.mp nd).1 (eD hv).1,ay hk];simp
 |p::P,w::vs,i+1,m,nd,h1,h2,hk=>by
  show bindC kindOf ((p,w)::P.zip vs) m x=_;unfold bindC;exact MZ (i:=i) (bF.mp nd).2 (by simpa using h1) (by simpa using h2) hk
def start (N:List Str)(vs:List V):St:=vs.map some++List.replicate (N.length-vs.length) none
def BM (CX:Ut)(P:Program)(w:World)(K:PySem.W.Frag)(mg:Str->Option Value)(base:Heap)(N:List Str)(qual:Str)(scope:Scope)(f:Addr)(cd:Value)(A:Around)(outer:List Env)(s:Shared)(H:Hp)(E:XK):Cx where
 prog:=P
 w:=w
 K:=K
 mg:=mg
 base:=base
 A:=A.deeper (envOfC qual scope s.heap.objs.size f cd)
 N:=N
 s₀:=s
 H₀:=H
 env:=envOfC qual scope s.heap.objs.size f cd
 outer:=outer
 stack:=envOfC qual scope s.heap.objs.size f cd::outer
 ex:=[]
 calm:=true
 fn:=λ_=>true
 pn:=[]
 xe:=λe s'=>wpAny (model P w) (A.deeper (envOfC qual scope s.heap.objs.size f cd)) (leaving (envOfC qual scope s.heap.objs.size f cd) e) (λ_ s''=>CX outer H s E e s'') (λe' s''=>CX outer H s E e' s'') s'
theorem Pe {sc:Scope}{n:Nat}{x:Str}(h:sc.names.lookup x=some .cell):∃c,(cellsFrom n sc.names []).lookup x=some c:=by
 have q:=g7 sc.names n [] (.inl h);exact Option.isSome_iff_exists.mp q
theorem RC {CX:Ut} {P:Program} {w:World} {K:PySem.W.Frag} {mg:Str->Option Value} {base:Heap} {N ps:List Str} {qual:Str} {scope:Scope} {f:Addr} {cd:Value} {A:Around} {outer:List Env} {s s1:Shared} {H:Hp} {E:XK} {us:List Value} {vs:List V}
  (S:FnScope N ps scope) (hd:A.handled=none) (e0:Env0 P w K mg base A outer s H) (hl:vs.length=ps.length) (r:AW vs us)
  (x:InCallC s s.heap.objs.size (bindL (envOfC qual scope s.heap.objs.size f cd).kindOf (ps.zip us) λ_=>none) (cellsFrom (s.heap.objs.size+1) scope.names []) (bindC (envOfC qual scope s.heap.objs.size f cd).kindOf (ps.zip us) λ_=>none) s1) :
  Inv (BM CX P w K mg base N qual scope f cd A outer s H E) [] (start N vs) H s1:=by
 have hpl:ps.length<=N.length:=by have:=congrArg List.length S.pre;rw[bu] at this;lia
 obtain⟨h1,tk,rfl,hk⟩:=x.done;have noA:∀b:Addr,b∉(BM CX P w K mg base N qual scope f cd A outer s H E).ex:=λb z=>absurd (show b∈([]:List Addr) from z) (by simp)
 refine⟨⟨e0.mod,S.kind,rfl,rfl,ah _,λy z c h1 h2=>?_,λy hy=>?_,λy c _ h=>?_,λ_=>hd,Around.frames_deeper e0.frames,.inr ⟨rfl,rfl⟩,λb z=>absurd z (noA b),e0.bs,e0.bsz,λb _ _=>noA b,λb z=>absurd z (noA b),e0.funs,e0.frf⟩,
  rfl,e0.bare,Un.kept hk,⟨_,x.toInCall.ns,λi y v h1 h2 h3=>?_⟩,λy c h=>⟨_,x.cell y c h⟩,e0.hok.fresh (ah _),λy c h=>?_,λp hp=>absurd (show p∈([]:List (Addr×Obj)) from hp) (by simp),e0.hok.kept hk,?_⟩
 ·exact name_of_addr x.apart (ck h1) (ck h2)
 ·have hy:scope.names.lookup y=some .cell\/scope.names.lookup y=some .free:=hy;rcases hy with hy|hy
  ·exact Pe hy
  ·exact absurd rfl (S.nofree _ (ck hy))
 ·exact fY (x.above y c (ck h))
 ·have hi:i<vs.length:=by
   unfold start at h2
   by_cases hi:i<vs.length
   ·exact hi
   ·rw[bK (by simpa using hi)] at h2;rw[List.getElem?_replicate] at h2
    split at h2<;>cases h2
  have ha:vs[i]?=some v:=by
   unfold start at h2;rw[bG (by simpa using hi),aD] at h2;cases e:vs[i]? with
   |none=>rw[e] at h2;cases h2
   |some a=>rw[e] at h2;cases h2;rfl
  obtain⟨u,hu,rv⟩:=r.get ha;have hp:ps[i]?=some y:=by
   rw[<-S.pre,List.getElem?_take_of_lt (by lia)];exact h1
  have ndP:ps.Nodup:=by rw[<-S.pre];exact S.nd.sublist (List.take_sublist _ _)
  refine⟨u,rv,?_⟩;rcases S.par y (az hp) with k|k
  ·exact .inl ⟨k,Ni ndP hp hu k⟩
  ·obtain⟨c,e⟩:=Pe (n:=s.heap.objs.size+1) k;refine .inr ⟨.inl k,c,e,?_⟩;have q:=x.cell y c e;rw[MZ ndP hp hu (by show scope.names.lookup y≠_;rw[k];decide)] at q;exact q
 ·exact e0.hok.fresh (fY (x.above y c (ck h)))
 ·unfold start;show _=N.length;rw[ar,ab,iw]
  lia
theorem X2 {CX:Ut} {P:Program} {w:World} {K:PySem.W.Frag} {mg:Str->Option Value} {base:Heap} {k:Nat} {f:Addr} {name qual:Str} {params:Arguments} {body:List Stmt} {scope:Scope} {dV kV doc pm cdv ct oc:Value} {an od:Option Addr}
  {osl:Array (Option Value)} {N ps:List Str} {sp:Sp} (lk:K.lookup f=some ⟨oc,od,.func (PySem.W.fnOf name qual params body scope dV kV doc pm an cdv ct),osl⟩) (hcd:PySem.W.codeIn K cdv qual=true) (S:FnScope N ps scope)
  (len:∀vs H Q E,sp vs H Q E->vs.length=ps.length)
  (hbody:∀(A:Around) (outer:List Env) (s:Shared) (H:Hp) (vs:List V) (Q:VK) (E:XK),Room k (A.deeper (envOfC qual scope s.heap.objs.size f cdv))->sp vs H Q E->
   ∃t,PJ (BM CX P w K mg base N qual scope f cdv A outer s H E) body t/\t { nx:=λ_ H'=>Q .non H',rt:=Q } (start N vs) H) :
  FnOk P w K mg base CX (k+1) f (PySem.W.fnOf name qual params body scope dV kV doc pm an cdv ct) ps sp:=by
 refine⟨len,λA outer s H args us vs Q E hr e0 hb r hsp=>?_⟩;have hl:=len _ _ _ _ hsp;have KX:K.In s.heap:=e0.mod.kin.keeps λb o e=>(e0.bs b o e).1
 have lim:s.heap.NoLimit:=e0.mod.nolimit.keeps λb o e=>(e0.bs b o e).1
 have hkind:∀y∈ps.zip us,scope.names.lookup y.1=some .local\/(scope.names.lookup y.1=some .cell/\((cellsFrom (s.heap.objs.size+1) scope.names []).lookup y.1).isSome=true):=λ⟨n,v⟩ hy=>by
  rcases S.par n (eD hy).1 with q|q
  ·exact .inl q
  ·exact .inr ⟨q,g7 _ _ _ (.inl q)⟩
 refine codeAny_call_function hr.depth (KX _ _ lk) rfl S.co S.gen rfl (PySem.W.codeRec_of KX hcd) (hb _ _ _ _ ?_);refine wpAny_newFunctionEnv_cells S.kind hkind λenv he s1 x=>?_
 subst he;refine⟨lim.keeps x.toInCall.keep,codeAny_func ?_⟩;obtain⟨t,ht,hq⟩:=hbody A outer s H vs Q E (hr.deeper _) hsp;have I:Inv (BM CX P w K mg base N qual scope f cdv A outer s H E) [] (start N vs) H s1:=RC S hr.hd e0 hl r x;refine bD (ht [] s1 (start N vs) H _ I hq) (λfl s' hs=>?_) λe s' hs=>hs
 have fin:∀{σ':St} {H':Hp} {v:V} {u:Value},Inv (BM CX P w K mg base N qual scope f cdv A outer s H E) [] σ' H' s'->RelV v u->Q v H'->CE outer P w H s Q u s':=
  λ{σ' H' v u} J rv q=>⟨v,H',J.os,J.bare,J.base,J.hok,rv,q⟩
 cases fl with
 |ret u=>
  obtain⟨v,σ',H',J,rv,q⟩:=hs;exact fin J rv q
 |next=>
  obtain⟨σ',H',J,q⟩:=hs;exact fin (v:=V.non) (u:=Value.none) J rfl q
 |brk=>
  obtain⟨_,_,_,q⟩:=hs;exact False.elim q
 |cont=>
  obtain⟨_,_,_,q⟩:=hs;exact False.elim q
section
variable {X:Cx}{x:Str}{p pos:Pos}{e:Expr}{es:List Expr}{t:TA}{id T:String}{r:List V->Hp->VK->Prop}
def Y2 (r:List V->Hp->VK->Prop)(t:TA):TE:=λσ H Q=>t σ H λvs H1=>r vs H1 Q
theorem Aq (hc:DS X (.builtin id) r) (hg:Gl X x) (hm:X.mg x=none) (hv:bootBuiltins x=some (.builtin id)) (ha:PA X (e::es) t) (hn:x≠"__name__":=by decide) (hdb:(x == ("__debug__":Str))=false:=by decide)
  (he:starEach (e::es) X.env=(false,eval e X.env)::starEach es X.env:=by rfl) (hpl:(backTo pos (starEach es X.env)).any (·.1)=false:=by rfl):PE X (.Call (.Name x p) (e::es) [] pos) (Y2 r t):=by
 intro pins s σ H Q I h;refine cS (Ii I hg hm hv ?_ hn hdb);exact PyProof.Rows.callWith_builtin1 (Bm (ha pos pins s σ H _ I h) (by rintro us s1 ⟨vs,H1,I1,r1,q1⟩;exact hc pins s1 σ H1 vs us Q I1 r1 q1)) he hpl
theorem Cz (hc:DS X (.type T) r) (hg:Gl X x) (hm:X.mg x=none) (hv:bootBuiltins x=some (.type T)) (ha:PA X (e::es) t) (hn:x≠"__name__":=by decide) (hdb:(x == ("__debug__":Str))=false:=by decide)
  (he:starEach (e::es) X.env=(false,eval e X.env)::starEach es X.env:=by rfl) (hpl:(backTo pos (starEach es X.env)).any (·.1)=false:=by rfl):PE X (.Call (.Name x p) (e::es) [] pos) (Y2 r t):=by
 intro pins s σ H Q I h;refine cS (Ii I hg hm hv ?_ hn hdb);exact eI (Bm (ha pos pins s σ H _ I h) (by rintro us s1 ⟨vs,H1,I1,r1,q1⟩;exact hc pins s1 σ H1 vs us Q I1 r1 q1)) he hpl
end
end L2
namespace HT
open PySem PyProof.Rows
section
variable {prog:Program}{w:World}{A:Around}{E:Value->Shared->Prop}{s:Shared}
def C0 (n d:Nat):Option Int->Nat
 |none=>d
 |some v=>if v<0 then(v+(n:Int)).toNat else min v.toNat n
theorem TM (n d:Nat):C0 n d none=d:=rfl
theorem NJ (n d k:Nat):C0 n d (some (k:Int))=min k n:=by
 show(if(k:Int)<0 then((k:Int)+(n:Int)).toNat else min (k:Int).toNat n)=min k n;rw[ay (by lia),gf]
theorem W3 (n d:Nat)(hd:d<=n)(o:Option Int):C0 n d o<=n:=by
 cases o with
 |none=>exact hd
 |some v=>
  show(if v<0 then(v+(n:Int)).toNat else min v.toNat n)<=n
  by_cases hv:v<0
  ·rw[aC hv];lia
  ·rw[ay hv];exact Nat.min_le_right _ _
theorem QR (v:Int)(n d:Nat):(if v<0 then max (v+(n:Int)) 0 else min v (n:Int))=((C0 n d (some v):Nat):Int):=by
 show(if v<0 then max (v+(n:Int)) 0 else min v (n:Int))=(((if v<0 then(v+(n:Int)).toNat else min v.toNat n):Nat):Int)
 by_cases hv:v<0
 ·simp only[if_pos hv];lia
 ·simp only[if_neg hv];lia
theorem Qk (lo hi:Option Int)(n:Nat):Builtin.Slice.sliceAdjust lo hi 1 (n:Int)=(((C0 n 0 lo:Nat):Int),((C0 n n hi:Nat):Int)):=by
 have h1:¬((1:Int)<0):=by lia
 unfold Builtin.Slice.sliceAdjust;simp only[h1,if_false];refine Prod.ext ?_ ?_
 ·cases lo with
  |none=>rfl
  |some v=>exact QR v n 0
 ·cases hi with
  |none=>rfl
  |some v=>exact QR v n n
theorem QF (i j:Nat):Builtin.Slice.slicePlaces (i:Int) (j:Int) 1=j-i:=by
 unfold Builtin.Slice.slicePlaces;have h1:(1:Int)>0:=by lia
 simp only[h1,if_true,Int.ediv_one]
 split<;>lia
theorem Mg {v:Value}{o:Option Int}{Q:Option Int->Shared->Prop}(p:IsPart v o)(h:Q o s):wpAny (model prog w) A (Builtin.Slice.slicePartIndex v) Q E s:=by
 cases p with
 |none=>exact slicePart_none h
 |int i t=>exact slicePart_int h
theorem JC {sl:Addr} {vl vu:Value} {lo hi:Option Int} {n:Nat} {Q:Int×Int×Nat->Shared->Prop} (hs:s.heap.IsSliceOf sl vl vu .none) (pl:IsPart vl lo) (pu:IsPart vu hi)
  (h:Q (((C0 n 0 lo:Nat):Int),1,C0 n n hi-C0 n 0 lo) s):wpAny (model prog w) A (Builtin.Slice.sliceApplied (.ref sl) (pure (n:Int))) Q E s:=by
 obtain⟨os,hos,hcs,hds⟩:=id hs;unfold Builtin.Slice.sliceApplied Builtin.Slice.sliceFields;refine af (af (wpAny_field hos hds (x:=vl) rfl (af (wpAny_field hos hds (x:=vu) rfl (af (wpAny_field hos hds (x:=.none) rfl (aw ?_)))))));refine af (slicePart_none ?_);show wpAny _ _ (if((1:Int) == 0)=true then _ else _) _ _ s;rw[ay (by decide)];refine af (Mg pl (af (Mg pu (af (aw ?_)))));show wpAny _ _ (match Builtin.Slice.sliceAdjust lo hi 1 (n:Int) with|(lo,hi)=>pure (lo,(1:Int),Builtin.Slice.slicePlaces lo hi 1)) _ _ s;rw[Qk lo hi n];show wpAny _ _ (pure (((C0 n 0 lo:Nat):Int),(1:Int),Builtin.Slice.slicePlaces ((C0 n 0 lo:Nat):Int) ((C0 n n hi:Nat):Int) 1)) _ _ s;rw[QF];exact aw h
theorem Tc (xs:Array Value)(i k:Nat):((List.range k).filterMap λ(m:Nat)=>xs[((i:Int)+(m:Int)*1).toNat]?).toArray=((xs.toList.drop i).take k).toArray:=by
 have e:(λ(m:Nat)=>xs[((i:Int)+(m:Int)*1).toNat]?)=λm=>xs[i+m]?:=by
  funext m
  have:((i:Int)+(m:Int)*1).toNat=i+m:=by lia
  rw[this]
 rw[e];have:=pick_run xs i k;rw[List.filterMap_map] at this;have e2:((λx=>xs[x]?)∘λx=>i+x)=λm=>xs[i+m]?:=rfl
 rw[e2] at this;rw[this]
theorem IW {t sl:Addr} {items:Array Value} {vl vu:Value} {lo hi:Option Int} {Q:Value->Shared->Prop} (ht:IsTup s.heap t items) (hs:s.heap.IsSliceOf sl vl vu .none) (pl:IsPart vl lo) (pu:IsPart vu hi)
  (hw:¬(C0 items.size 0 lo=0/\C0 items.size items.size hi=items.size))
  (h:Q (.ref s.heap.objs.size) { s with heap:=s.heap.push { cls:=.type "tuple",data:=.seq ((items.toList.drop (C0 items.size 0 lo)).take (C0 items.size items.size hi-C0 items.size 0 lo)).toArray } })
  (hsz:items.size<=sizeLine):wpAny (model prog w) A (getItem (.ref t) (.ref sl)) Q E s:=by
 have htake:sizeOk (.seq ((items.toList.drop (C0 items.size 0 lo)).take (C0 items.size items.size hi-C0 items.size 0 lo)).toArray):=by
  show((items.toList.drop (C0 items.size 0 lo)).take (C0 items.size items.size hi-C0 items.size 0 lo)).toArray.size<=sizeLine;rw[aW,bu,bP,dI]
  lia
 have hj:C0 items.size items.size hi<=items.size:=W3 _ _ (ah _) hi;obtain⟨os,hos,hcs,hds⟩:=id hs;have hTs:s.TypeIs (.ref sl) "slice":=⟨os,hos,hcs⟩
 unfold getItem
 try with_reducible refine cz ?_
 first|refine af (aw ?_)|skip
 refine af (wpAny_sequenceKey ht.typeIs (by decide) ?_);refine af (fM (name:=Str.ofString "__getitem__") ht.typeIs gi
  (cQ gi ht.typeIs entry_tuple_getitem ?_ (args_tuple_getitem _ _)))
 show wpAny _ _ (Builtin.Tuple.tupleItemsOf (.ref t) >>= _) _ _ s;refine af (tupleItemsOf_ ht ?_);refine af (wpAny_typeOf hTs ?_);rw[aC (by decide)];refine af (JC hs pl pu ?_);have hno:¬((((C0 items.size 0 lo:Nat):Int) == 0&&(1:Int) == 1&&(C0 items.size items.size hi-C0 items.size 0 lo) == items.size)=true):=by
  intro q;rw[bq,bq] at q;have q1:((C0 items.size 0 lo:Nat):Int)=0:=eq_of_beq q.1.1;have q2:C0 items.size items.size hi-C0 items.size 0 lo=items.size:=eq_of_beq q.2;exact hw ⟨by lia,by lia⟩
 show wpAny _ _ (if(((C0 items.size 0 lo:Nat):Int) == 0&&(1:Int) == 1&&(C0 items.size items.size hi-C0 items.size 0 lo) == items.size)=true then _ else _) _ _ s;rw[ay hno,Tc]
 first
  |exact af (m:=Builtin.Tuple.tupleExact _) (cw (aw ⟨_,rfl,aw h⟩) htake)
  |exact af (m:=Builtin.Tuple.tupleExact _) (cw (af (aw (aw ⟨_,rfl,aw h⟩))) htake)
  |exact af (af (m:=Builtin.Tuple.tupleExact _) (cw (aw (aw ⟨_,rfl,aw h⟩)) htake))
  |exact af (af (m:=Builtin.Tuple.tupleExact _) (cw (aw ⟨_,rfl,aw h⟩) htake))
end
end HT
namespace L2
open PySem PySem.Spec PyProof.Rows
abbrev TO:=St->Hp->(Option Int->Hp->Prop)->Prop
def PO (X:Cx)(e:Option Expr)(t:TO):Prop:=
 ∀(pins:List (Addr×Obj)) (s:Shared) (σ:St) (H:Hp) (Q:Option Int->Hp->Prop),Inv X pins σ H s->t σ H Q->
  wpAny (model X.prog X.w) X.A (evalPart e X.env) (λu s'=>∃o H',Inv X pins σ H' s'/\IsPart u o/\Q o H') X.xe s
def V6:TO:=λ_ H Q=>Q none H
def Yi (t:TE):TO:=λσ H Q=>t σ H λx H1=>∃i,x=.int i/\Q (some i) H1
theorem intsAre_of {ns:List Int}:∀{us:List Value},AW (ns.map V.int) us->IntsAre us ns:=by
 induction ns with
 |nil=>intro us r;rw[dC] at r;cases r;exact .nil
 |cons n ns ih=>
  intro us r;rw[au] at r;cases r with
  |cons r1 r2=>
   obtain⟨t,e⟩:=r1;subst e;exact .cons n t (ih r2)
section
variable {X:Cx}{e:Expr}{te:TE}{lo hi:Option Expr}{tl th:TO}{pos p2:Pos}
theorem Dv:PO X none V6:=by
 intro pins s σ H Q I h;rw[evalPart_none];exact aw ⟨none,H,I,.none,h⟩
theorem BG (h:PE X e te):PO X (some e) (Yi te):=by
 intro pins s σ H Q I hw;rw[evalPart_some];refine Bm (h pins s σ H _ I hw) λu s1 z9=>?_
 obtain⟨x,H1,I1,r1,q1⟩:=z9;obtain⟨i,rfl,q⟩:=q1;obtain⟨t,rfl⟩:=r1;exact⟨some i,H1,I1,.int i t,q⟩
def Yv (X:Cx)(r:V->Option Int->Option Int->Hp->VK->Prop):Prop:=
 ∀(pins:List (Addr×Obj)) (s:Shared) (σ:St) (H:Hp) (x:V) (v vl vu:Value) (lo hi:Option Int) (sl:Addr) (Q:VK),Inv X pins σ H s->RelV x v->s.heap.IsSliceOf sl vl vu .none->IsPart vl lo->IsPart vu hi->r x lo hi H Q->
  ∃T id,typeLookup (.type T) "__getitem__"=pure (some (.builtin id))/\s.TypeIs v T/\wpAny (model X.prog X.w) X.A (getItem v (.ref sl)) (EP X pins σ Q) X.xe s
def Zu (r:V->Option Int->Option Int->Hp->VK->Prop)(te:TE)(tl th:TO):TE:=λσ H Q=>te σ H λx H1=>tl σ H1 λl H2=>th σ H2 λu H3=>r x l u H3 Q
theorem BN {r:V->Option Int->Option Int->Hp->VK->Prop}(hr:Yv X r)(he:PE X e te)(hl:PO X lo tl)(hu:PO X hi th):PE X (.Subscript e (.Slice lo hi none p2) pos) (Zu r te tl th):=by
 intro pins s σ H Q I h;refine Subscript_ (Bm (he pins s σ H _ I h) λv s1 z9=>?_);obtain⟨x,H1,I1,r1,q1⟩:=z9;refine wpAny_Slice (Bm (hl pins s1 σ H1 _ I1 q1) λvl s2 ⟨l,H2,I2,pl,q2⟩=>Bm (hu pins s2 σ H2 _ I2 q2) λvu s3 z9=>?_);obtain⟨u,H3,I3,pu,q3⟩:=z9;rw[evalPart_none];refine aw ?_;have I4:Inv X pins σ H3 { s3 with heap:=s3.heap.push { cls:=.type "slice",data:=.fields #[vl,vu,.none] } }:=I3.kept (t':=s3.toks) λb ob q=>aq _ q
 obtain⟨T,id,hT,ht,hg⟩:=hr pins { s3 with heap:=s3.heap.push { cls:=.type "slice",data:=.fields #[vl,vu,.none] } } σ H3 x v vl vu l u s3.heap.objs.size Q I4 r1 (Heap.IsSliceOf.new ..) pl pu q3;show wpAny (model X.prog X.w) X.A (subscriptTail e (.Slice lo hi none p2) v (.ref s3.heap.objs.size)) (EP X pins σ Q) X.xe { s3 with heap:=s3.heap.push { cls:=.type "slice",data:=.fields #[vl,vu,.none] } };exact tail_any (ops:=[.ref s3.heap.objs.size,v]) ht hT hg (by with_unfolding_all rfl)
def Dn (xs:List V)(lo hi:Option Int):List V:=(xs.drop (HT.C0 xs.length 0 lo)).take (HT.C0 xs.length xs.length hi-HT.C0 xs.length 0 lo)
theorem Ko (xs:List V)(lo hi:Option Int):(Dn xs lo hi).length<=xs.length:=by
 unfold Dn;rw[bu,bP]
 lia
def Y9 (K:PySem.W.Frag):V->Option Int->Option Int->Hp->VK->Prop:=λx lo hi H Q=>∃a xs,x=.ref a/\A8 K H a xs/\
 ¬(HT.C0 xs.length 0 lo=0/\HT.C0 xs.length xs.length hi=xs.length)/\∀p,H p=none->Q (.ref p) (upd H p (.tup (Dn xs lo hi)))
theorem TQ:Yv X (Y9 X.K):=by
 intro pins s σ H x v vl vu lo hi sl Q I rx hs pl pu h;obtain⟨a,xs,rfl,hx,hw,q⟩:=h;cases rx;obtain⟨its,r,ht,hz⟩:=I.tuple hx;have hlen:its.toArray.size=xs.length:=by rw[aW];exact r.length.symm
 refine⟨"tuple",_,PyProof.Rows.slot_tuple_getitem.lookup,ht.typeIs,?_⟩;refine HT.IW ht hs pl pu (by rw[hlen];exact hw) ?_ (by rw[hlen];exact hz);rw[hlen];refine⟨.ref s.heap.objs.size,_,I.laid (t':=s.toks) (o:=.tup (Dn xs lo hi)) (λb ob q=>aq _ q) (ah _) ?_,rfl,q _ (I.hok.fresh (ah _))⟩;exact⟨aY (Ko xs lo hi) hz,_,(r.drop (HT.C0 xs.length 0 lo)).take (HT.C0 xs.length xs.length hi-HT.C0 xs.length 0 lo),KM.new _ _⟩
end
def SC (n:Nat)(i:Int):Option Nat:=if 0<=i then(if i<n then some i.toNat else none) else if -(n:Int)<=i then some (i+n).toNat else none
def He {α:Type}(xs:List α)(i:Int):Option α:=(SC xs.length i).bind λj=>xs[j]?
theorem U2 {n:Nat}{i:Int}{j:Nat}(h:SC n i=some j):seqIndex? i n=some j/\j<n/\-(n:Int)<=i/\i<n:=by
 unfold SC at h
 by_cases h0:0<=i
 ·rw[aC h0] at h
  by_cases h1:i<n
  ·rw[aC h1] at h;have e:i.toNat=j:=aA h;exact⟨by rw[seqIndex_of h0 h1,e],by lia,by lia,h1⟩
  ·rw[ay h1] at h;cases h
 ·rw[ay h0] at h
  by_cases h1:-(n:Int)<=i
  ·rw[aC h1] at h;have e:(i+n).toNat=j:=aA h;exact⟨by rw[seqIndex_neg (by lia) h1,e],by lia,h1,by lia⟩
  ·rw[ay h1] at h;cases h
theorem N1 {α:Type}{xs:List α}{i:Int}{v:α}(h:He xs i=some v):∃j,seqIndex? i xs.length=some j/\xs[j]?=some v/\j<xs.length/\-(xs.length:Int)<=i/\i<xs.length:=by
 unfold He at h;cases e:SC xs.length i with
 |none=>rw[e] at h;cases h
 |some j=>
  rw[e] at h;obtain⟨h1,h2,h3,h4⟩:=U2 e;exact⟨j,h1,h,h2,h3,h4⟩
theorem C4 {α:Type}{xs:List α}{j:Nat}{v:α}(h:xs[j]?=some v):He xs (j:Int)=some v:=by
 have hj:j<xs.length:=(aj.mp h).1;have e:SC xs.length (j:Int)=some j:=by
  unfold SC;rw[aC (by lia),aC (by lia)];simp
 unfold He;rw[e];exact h
theorem TU {α:Type}(xs:List α)(v:α):He (xs++[v]) (-1)=some v:=by
 have hl:(xs++[v]).length=xs.length+1:=by simp
 have e:SC (xs++[v]).length (-1)=some xs.length:=by
  unfold SC;rw[hl,ay (by decide),aC (by lia)]
  congr 1
  lia
 unfold He;rw[e];show(xs++[v])[xs.length]?=some v;simp
def VY (b:Expr):Prop:=∀o i,subscripted b false o i=operate [o,i] (getItem o i)
def XM (X:Cx)(r:R2):Prop:=
 ∀(value slice:Expr) (pins:List (Addr×Obj)) (s:Shared) (σ:St) (H:Hp) (x y:V) (v u:Value) (Q:VK),Inv X pins σ H s->RelV x v->RelV y u->r x y H Q->
  subscripted slice false v u=operate [v,u] (getItem v u)->wpAny (model X.prog X.w) X.A (subscriptTail value slice v u) (EP X pins σ Q) X.xe s
def XO (X:Cx)(id:String)(r:V->List V->Hp->VK->Prop):Prop:=
 ∀(pins:List (Addr×Obj)) (s:Shared) (σ:St) (H:Hp) (x:V) (xs:List V) (v:Value) (us:List Value) (Q:VK),Inv X pins σ H s->RelV x v->AW xs us->r x xs H Q->
  wpAny (model X.prog X.w) X.A (call (.builtin id) (v::us)) (EP X pins σ Q) X.xe s
section
variable {X:Cx}{a b:Expr}{ta tb:TE}{pos:Pos}
theorem Ax {r:R2}(hr:XM X r)(ha:PE X a ta)(hb:PE X b tb)(hs:VY b):PE X (.Subscript a b pos) (Wa r ta tb):=by
 intro pins s σ H Q I h;exact Subscript_ (WV ha hb I h λv u s2 x y H2 I2 rx ry q=>hr a b pins s2 σ H2 x y v u Q I2 rx ry q (hs _ _))
def YU (K:PySem.W.Frag):R2:=λx y H Q=>∃p xs i v,x=.ref p/\y=.int i/\AJ K H p xs/\He xs i=some v/\Q v H
def Yl (K:PySem.W.Frag):R2:=λx y H Q=>∃p xs i v,x=.ref p/\y=.int i/\A8 K H p xs/\He xs i=some v/\Q v H
def Y0:R2:=λx y H Q=>∃z i c,x=.str z/\y=.int i/\z.length<=sizeLine/\He z.cps.toList i=some c/\Q (.str ⟨#[c]⟩) H
theorem A6:XM X (YU X.K):=by
 intro value slice pins s σ H x y v u Q I rx ry h hs;obtain⟨p,xs,i,z,rfl,rfl,hq,he,q⟩:=h;cases rx;obtain⟨t,rfl⟩:=ry;obtain⟨its,r,pl,hz⟩:=I.list hq;obtain⟨j,h1,h2,h3,h4,h5⟩:=N1 he;obtain⟨w,ew,rw'⟩:=r.get h2;have hl:=r.length;have hn:=Mo;have fin:EP X pins σ Q w s:=⟨z,H,I,rw',q⟩
 by_cases h0:0<=i
 ·have hj:i.toNat=j:=by
   rw[seqIndex_of h0 h5] at h1;exact aA h1
  exact item_listR pl.isList h0 (by lia) (by rw[hj];simpa using ew) fin hs
 ·have hj:(i+(its.toArray.size:Int)).toNat=j:=by
   rw[seqIndex_neg (by lia) h4] at h1;rw[aW,<-hl];exact aA h1
  exact subscriptTail_builtinR (x:=w) pl.isList.typeIs slot_list_getitem.lookup
   (wpAny_getItem_list_neg (Q:=λr s'=>r=w/\EP X pins σ Q r s') pl.isList (by lia) (by rw[aW]<;>lia) (by lia) (by rw[hj];simpa using ew) ⟨rfl,fin⟩) hs
theorem AE:XM X (Yl X.K):=by
 intro value slice pins s σ H x y v u Q I rx ry h hs;obtain⟨p,xs,i,z,rfl,rfl,hq,he,q⟩:=h;cases rx;obtain⟨t,rfl⟩:=ry;obtain⟨its,r,pl,hz⟩:=I.tuple hq;obtain⟨j,h1,h2,h3,h4,h5⟩:=N1 he;obtain⟨w,ew,rw'⟩:=r.get h2;have hl:=r.length;have hn:=Mo;have fin:EP X pins σ Q w s:=⟨z,H,I,rw',q⟩
 exact subscriptTail_builtinR (x:=w) pl.typeIs slot_tuple_getitem.lookup
  (getItem_tuple (j:=j) (Q:=λr s'=>r=w/\EP X pins σ Q r s') pl (by lia) (by lia) (by rw[aW,<-hl];exact h1) (by simpa using ew) ⟨rfl,fin⟩) hs
theorem Le:XM X Y0:=by
 intro value slice pins s σ H x y v u Q I rx ry h hs;obtain⟨z,i,c,rfl,rfl,hz,he,q⟩:=h;obtain⟨t,rfl⟩:=rx;obtain⟨t',rfl⟩:=ry;obtain⟨j,h1,h2,h3,h4,h5⟩:=N1 he;have hl:z.cps.toList.length=z.length:=by simp[Str.length]
 rw[hl] at h1 h4 h5;have hn:=Mo;exact tail_any (typeIs_str s z t) slot_str_getitem.lookup (getItem_str (c:=c) (by
  have e1:decide (i < -(2^63:Int))=false:=aS (by lia);have e2:decide (i≥2^63)=false:=aS (by lia);rw[e1,e2,Bool.or_false]) (by rw[h1];simpa using h2) ⟨.str ⟨#[c]⟩,H,I.tok _,⟨_,rfl⟩,q⟩) hs
theorem Nx (lo hi:Option Int)(n:Nat):(sliceBounds lo hi none n).1=((HT.C0 n 0 lo:Nat):Int)/\(sliceBounds lo hi none n).2.1=((HT.C0 n n hi:Nat):Int)/\(sliceBounds lo hi none n).2.2=1:=by
 refine⟨?_,?_,rfl⟩
 ·cases lo with
  |none=>simp[sliceBounds,HT.C0]
  |some i=>
   simp only[sliceBounds,HT.C0,Option.getD_none,show(1:Int)>0 by decide,if_true]
   by_cases h:i<0
   ·simp only[h,if_true]<;>lia
   ·simp only[h,if_false]<;>lia
 ·cases hi with
  |none=>simp[sliceBounds,HT.C0]
  |some i=>
   simp only[sliceBounds,HT.C0,Option.getD_none,show(1:Int)>0 by decide,if_true]
   by_cases h:i<0
   ·simp only[h,if_true]<;>lia
   ·simp only[h,if_false]<;>lia
theorem Mu (its:List Value)(lo hi:Option Int):slicePick its.toArray lo hi none=((its.drop (HT.C0 its.length 0 lo)).take (HT.C0 its.length its.length hi-HT.C0 its.length 0 lo)).toArray:=by
 obtain⟨h1,h2,h3⟩:=Nx lo hi its.toArray.size;unfold slicePick;rw[h1,h2,h3];simp only[sliceRange_one,pick_run,List.size_toArray]<;>rfl
def YN (K:PySem.W.Frag):V->Option Int->Option Int->Hp->VK->Prop:=λx lo hi H Q=>∃a xs,x=.ref a/\AJ K H a xs/\∀p,H p=none->Q (.ref p) (upd H p (.lst (Dn xs lo hi)))
theorem Fv:Yv X (YN X.K):=by
 intro pins s σ H x v vl vu lo hi sl Q I rx hs pl pu h;obtain⟨a,xs,rfl,hx,q⟩:=h;cases rx;obtain⟨its,r,ht,hz⟩:=I.list hx;have hlen:=r.length;refine⟨"list",_,slot_list_getitem.lookup,ht.isList.typeIs,?_⟩;refine wpAny_getItem_list_slice ht.isList hs pl pu .none (by simp) ?_ (by rw[aW]<;>lia);rw[Mu,<-hlen];refine⟨.ref s.heap.objs.size,_,I.laid (t':=s.toks) (o:=.lst (Dn xs lo hi)) (λb ob q=>aq _ q) (ah _) ?_,rfl,q _ (I.hok.fresh (ah _))⟩;exact⟨aY (Ko xs lo hi) hz,_,0,(r.drop (HT.C0 xs.length 0 lo)).take (HT.C0 xs.length xs.length hi-HT.C0 xs.length 0 lo),aQ _ rfl⟩
def S5:V->Bool
 | .non=>true
 | .bl _=>true
 | .int _=>true
 | .str _=>true
 |_=>false
def Xe:V->V->Bool
 | .non,.non=>true
 | .bl a,.bl b=>a == b
 | .bl a,.int b=>(if a then 1 else 0) == b
 | .int a,.bl b=>a == (if b then 1 else 0)
 | .int a,.int b=>a == b
 | .str a,.str b=>a == b
 |_,_=>false
theorem WG {A:Around}{s:Shared}{y x:V}{u v:Value}(ry:RelV y u)(rx:RelV x v)(fy:S5 y=true)(fx:S5 x=true):SeqAt.EqAt A s u v (Xe y x):=by
 cases y with
 |non=>
  cases ry;cases x with
  |non=>cases rx;exact SeqAt.EqAt.same _
  |bl b=>cases rx;exact SeqAt.EqAt.none_bool b
  |int b=>obtain⟨t,rfl⟩:=rx;exact SeqAt.EqAt.none_int b t
  |str b=>obtain⟨t,rfl⟩:=rx;exact SeqAt.EqAt.none_str b t
  |_=>exact absurd (show false=true from fx) aB
 |bl a=>
  cases ry;cases x with
  |non=>cases rx;exact SeqAt.EqAt.bool_none a
  |bl b=>cases rx;exact SeqAt.EqAt.bool_bool a b
  |int b=>obtain⟨t,rfl⟩:=rx;exact SeqAt.EqAt.bool_int a b t
  |str b=>obtain⟨t,rfl⟩:=rx;exact SeqAt.EqAt.bool_str a b t
  |_=>exact absurd (show false=true from fx) aB
 |int a=>
  obtain⟨t',rfl⟩:=ry;cases x with
  |non=>cases rx;exact SeqAt.EqAt.int_none a t'
  |bl b=>cases rx;exact SeqAt.EqAt.int_bool a t' b
  |int b=>obtain⟨t,rfl⟩:=rx;exact SeqAt.EqAt.int_int a t' b t
  |str b=>obtain⟨t,rfl⟩:=rx;exact gE a t' b t
  |_=>exact absurd (show false=true from fx) aB
 |str a=>
  obtain⟨t',rfl⟩:=ry;cases x with
  |non=>cases rx;exact SeqAt.EqAt.str_none a t'
  |bl b=>cases rx;exact SeqAt.EqAt.str_bool a t' b
  |int b=>obtain⟨t,rfl⟩:=rx;exact gD a t' b t
  |str b=>obtain⟨t,rfl⟩:=rx;exact SeqAt.EqAt.str_str a t' b t
  |_=>exact absurd (show false=true from fx) aB
 |_=>exact absurd (show false=true from fy) aB
theorem Az:DS X (.builtin "len") (λxs H Q=>∃p ys,xs=[.ref p]/\(AJ X.K H p ys\/A8 X.K H p ys)/\Q (.int ys.length) H):=by
 intro pins s σ H xs us Q I r h;obtain⟨p,ys,rfl,hq,q⟩:=h;obtain⟨u,rfl,rx⟩:=vals1 r;cases rx;have hn:=Mo;rcases hq with hq|hq
 ·obtain⟨its,r',pl,hz⟩:=I.list hq;have hlen:=r'.length;exact Calls.call_len_list pl.isList (by simp only[List.size_toArray]<;>lia) ⟨.int ys.length,H,I.tok _,⟨s.toks+1,by rw[aW,hlen]⟩,q⟩
 ·obtain⟨its,r',pl,hz⟩:=I.tuple hq;have hlen:=r'.length;exact len_tuple pl (by simp only[List.size_toArray]<;>lia) ⟨.int ys.length,H,I.tok _,⟨s.toks+1,by rw[aW,hlen]⟩,q⟩
theorem Bs:DS X (.builtin "len") (λxs H Q=>∃z,xs=[.str z]/\z.length<=sizeLine/\Q (.int z.length) H):=by
 intro pins s σ H xs us Q I r h;obtain⟨z,rfl,hz,q⟩:=h;obtain⟨u,rfl,t,rfl⟩:=vals1 r;have hn:=Mo;exact len_str (by lia) ⟨.int z.length,H,I.tok _,⟨_,rfl⟩,q⟩
theorem DZ:DS X (.type "list") (λxs H Q=>∃p ys,xs=[.ref p]/\(AJ X.K H p ys\/A8 X.K H p ys)/\∀l,H l=none->Q (.ref l) (upd H l (.lst ys))):=by
 intro pins s σ H xs us Q I r h;obtain⟨p,ys,rfl,hq,q⟩:=h;obtain⟨u,rfl,rx⟩:=vals1 r;cases rx;have fin:∀(its:List Value),AW ys its->ys.length<=sizeLine->∀(h':Heap) (c':Nat),(∀b o',s.heap.get? b=some o'->h'.get? b=some o')->
   h'.get? s.heap.objs.size=some { cls:=.type "list",dict:=none,data:=.seq its.toArray c',slots:=#[] }->EP X pins σ Q (.ref s.heap.objs.size) { s with heap:=h' }:=λits r' hz h' c' kp e=>
  ⟨.ref s.heap.objs.size,_,I.laid (t':=s.toks) kp (ah _) (show Bw X.prog X.w _ h' _ (.lst ys) from⟨hz,its,c',r',e⟩),rfl,q _ (I.hok.fresh (ah _))⟩
 rcases hq with hq|hq
 ·obtain⟨its,r',pl,hz⟩:=I.list hq;have hlen:=r'.length;obtain⟨o,ho,hc,n,hd⟩:=pl.isList;exact call_list_seq p (.inl rfl) ho hc hd (λh' c' kp e=>fin its r' hz h' c' kp e) (by simp only[List.size_toArray]<;>lia)
 ·obtain⟨its,r',pl,hz⟩:=I.tuple hq;have hlen:=r'.length;obtain⟨o,ho,hc,n,hd⟩:=pl;exact call_list_seq p (.inr rfl) ho hc hd (λh' c' kp e=>fin its r' hz h' c' kp e) (by simp only[List.size_toArray]<;>lia)
theorem Hk:DS X (.type "tuple") (λxs H Q=>∃p ys,xs=[.ref p]/\((AJ X.K H p ys/\∀l,H l=none->Q (.ref l) (upd H l (.tup ys)))\/(A8 X.K H p ys/\Q (.ref p) H))):=by
 intro pins s σ H xs us Q I r h;obtain⟨p,ys,rfl,h⟩:=h;obtain⟨u,rfl,rx⟩:=vals1 r;cases rx;rcases h with⟨hq,q⟩|⟨hq,q⟩
 ·obtain⟨its,r',pl,hz⟩:=I.list hq;have hlen:=r'.length;refine call_tuple_list pl.isList (λh' kp=>?_) (by simp only[List.size_toArray]<;>lia);have I1:Inv X pins σ H { s with heap:=h' }:=I.kept (t':=s.toks) kp;have I2:Inv X pins σ (upd H h'.objs.size (.tup ys)) { s with heap:=h'.push { cls:=.type "tuple",data:=.seq its.toArray } }:=
   I1.laid (t':=s.toks) (λb o e=>aq _ e) (ah _) (show Bw X.prog X.w _ _ _ (.tup ys) from⟨hz,its,r',KM.new _ _⟩)
  exact⟨.ref h'.objs.size,_,I2,rfl,q _ (I1.hok.fresh (ah _))⟩
 ·obtain⟨its,r',pl,hz⟩:=I.tuple hq;exact call_tuple_same pl ⟨.ref p,H,I,rfl,q⟩
def YQ (K:PySem.W.Frag)(T:String)(x:V)(H:Hp):Prop:=match x with
 | .str _=>T="str"
 | .int _=>T="int"
 | .ref p=>(T="list"/\∃xs,AJ K H p xs)\/(T="tuple"/\∃o,K.lookup p=some o/\o.cls=.type "tuple"/\o.dict=none)\/
   (T="dict"/\((∃kvs,H p=some (.dK kvs))\/∃kvs,H p=some (.dT kvs)))\/(T="set"/\∃S n,H p=some (.set S n))
 |_=>False
theorem S3 {pins:List (Addr×Obj)}{σ:St}{H:Hp}{s:Shared}{T:String}{x:V}{v:Value}(I:Inv X pins σ H s)(r:RelV x v)(ty:YQ X.K T x H) :
  s.TypeIs v T/\∀a,v=.ref a->∃ob,s.heap.get? a=some ob/\ob.dict=none:=by
 cases x with
 |str z=>
  obtain⟨t,rfl⟩:=r;cases(show T="str" from ty);exact⟨typeIs_str s z t,λ_ e=>nomatch e⟩
 |int i=>
  obtain⟨t,rfl⟩:=r;cases(show T="int" from ty);exact⟨typeIs_int s i t,λ_ e=>nomatch e⟩
 |ref p=>
  cases r;rcases ty with⟨rfl,xs,hq⟩|⟨rfl,o,hk,hc,hd⟩|⟨rfl,hk⟩|⟨rfl,S,n,hk⟩
  ·obtain⟨its,_,pl,_⟩:=I.list hq;refine⟨pl.isList.typeIs,λa e=>?_⟩;cases e;obtain⟨o,n,e,c,hd,_⟩:=pl;exact⟨o,e,hd⟩
  ·refine⟨⟨o,I.kIn p o hk,hc⟩,λa e=>?_⟩;cases e;exact⟨o,I.kIn _ o hk,hd⟩
  ·have z:∃o,s.heap.get? p=some o/\o.ExactDict:=by
    rcases hk with⟨kvs,hk⟩|⟨kvs,hk⟩
    ·obtain⟨_,_,_,_,o,_,_,e,ex,_⟩:=I.hok p _ hk;exact⟨o,e,ex⟩
    ·obtain⟨_,_,_,_,o,_,_,e,ex,_⟩:=I.hok p _ hk;exact⟨o,e,ex⟩
   obtain⟨o,e,ex⟩:=z;refine⟨⟨o,e,ex.1⟩,λa e2=>?_⟩;cases e2;exact⟨o,e,ex.2.1⟩
  ·obtain⟨o,_,_,_,e,ex,_⟩:=I.hok p _ hk;refine⟨⟨o,e,ex.1⟩,λa e2=>?_⟩;cases e2;exact⟨o,e,ex.2.1⟩
 |_=>exact False.elim ty
def Ze (K:PySem.W.Frag)(T:String)(r:V->List V->Hp->VK->Prop)(to:TE):TE:=λσ H Q=>to σ H λx H1=>YQ K T x H1/\r x [] H1 Q
def Zm (K:PySem.W.Frag)(T:String)(r:V->List V->Hp->VK->Prop)(to:TE)(t:TA):TE:=λσ H Q=>to σ H λx H1=>YQ K T x H1/\t σ H1 λxs H2=>r x xs H2 Q
variable {o e:Expr}{es:List Expr}{to:TE}{t:TA}{name:Str}{apos cpos:Pos}{T id:String}{r:V->List V->Hp->VK->Prop}
theorem Xl (pa:PlainAttrs T) (slot:Slot T name id) (hty:typeOf (.builtin id)=pure (.type "method_descriptor")) (hm:XO X id r) (ho:PE X o to)
  (hbase:attributeBase o name X.env (eval o X.env)=eval o X.env:=by rfl) (hline:(apos.endLine == cpos.line)=true:=by rfl):PE X (.Call (.Attribute o name apos) [] [] cpos) (Ze X.K T r to):=by
 intro pins s σ H Q I h;refine wpAny_Call_method0_late hbase hline (Bm (ho pins s σ H _ I h) λv s1 z9=>?_);obtain⟨x,H1,I1,r1,ty,q1⟩:=z9;obtain⟨h1,h2⟩:=S3 I1 r1 ty;exact⟨T,id,pa,slot,hty,h1,h2,cq rfl (iK (hm pins s1 σ H1 x [] v [] Q I1 r1 .nil q1))⟩
theorem Ca (pa:PlainAttrs T) (slot:Slot T name id) (hty:typeOf (.builtin id)=pure (.type "method_descriptor")) (hm:XO X id r) (ho:PE X o to) (ha:PA X (e::es) t)
  (hbase:attributeBase o name X.env (eval o X.env)=eval o X.env:=by rfl)
  (hfew:((backTo cpos (starEach (e::es) X.env)).all (λx=>!x.1)&&(backToKw cpos (keywordEach [] X.env)).all (λx=>x.1.isSome)
   && decide ((e::es).length+([]:List Keyword).length+(if([]:List Keyword).isEmpty then 0 else 1)<30))=true:=by rfl)
  (hline:(apos.endLine == cpos.line)=true:=by rfl) (hs:starEach (e::es) X.env=(false,eval e X.env)::starEach es X.env:=by rfl) (hplain:(backTo cpos (starEach es X.env)).any (·.1)=false:=by rfl) :
  PE X (.Call (.Attribute o name apos) (e::es) [] cpos) (Zm X.K T r to t):=by
 intro pins s σ H Q I h;refine wpAny_Call_method_late hbase hfew hline rfl (Bm (ho pins s σ H _ I h) λv s1 z9=>?_);obtain⟨x,H1,I1,r1,ty,q1⟩:=z9;obtain⟨h1,h2⟩:=S3 I1 r1 ty;refine⟨T,id,pa,slot,hty,h1,h2,?_⟩;have hA:=ha cpos pins s1 σ H1 _ I1 q1;rw[hs] at hA ⊢;refine cq (by show(false||(backTo cpos (starEach es X.env)).any (·.1))=false;rw[hplain]<;>rfl) (da ?_);exact Bm hA (by rintro us s2 ⟨vs,H2,I2,r2,q2⟩;exact hm pins s2 σ H2 x vs v us Q I2 r1 r2 q2)
end
def Yz (X:Cx)(id:String)(r:V->List V->Hp->VK->Prop):Prop:=
 ∀(pins:List (Addr×Obj)) (s:Shared) (σ:St) (H:Hp) (x:V) (xs:List V) (v:Value) (us:List Value) (Q:VK),Inv X pins σ H s->RelV x v->AW xs us->r x xs H Q->
  wpAny (model X.prog X.w) X.A (call (.builtin id) (v::us)) (EP X pins σ Q) X.xe s
theorem AW.one:∀{x:V} {us:List Value},AW [x] us->∃u,us=[u]/\RelV x u
 |_,_,.cons r .nil=>⟨_,rfl,r⟩
theorem AW.zero:∀{us:List Value},AW [] us->us=[]
 |_,.nil=>rfl
theorem AW.dropLast {xs:List V}{us:List Value}(h:AW xs us):AW xs.dropLast us.dropLast:=by
 induction h with
 |nil=>exact .nil
 |cons r t ih=>
  cases t with
  |nil=>exact .nil
  |cons q t'=>exact .cons r ih
theorem AW.eraseIdx:∀{xs:List V} {us:List Value} (i:Nat),AW xs us->AW (xs.eraseIdx i) (us.eraseIdx i)
 |_,_,_,.nil=>.nil
 |_,_,0,.cons _ t=>t
 |_,_,i+1,.cons r t=>.cons r (AW.eraseIdx i t)
theorem PD {α:Type}(l:List α):l.eraseIdx (l.length-1)=l.dropLast:=by
 induction l with
 |nil=>rfl
 |cons a r ih=>
  cases r with
  |nil=>rfl
  |cons b r=>
   have e:(a::b::r).length-1=((b::r).length-1)+1:=by
    have h1:(a::b::r).length=r.length+2:=rfl;have h2:(b::r).length=r.length+1:=rfl
    lia
   rw[e,List.eraseIdx_cons_succ,ih]
   all_goals rfl
theorem Nj {α:Type}:∀(l:List α) (i:Nat),(l.eraseIdx i).length<=l.length
 |[],_=>ah _
 |_::_,0=>eu _
 |_::r,i+1=>Nat.succ_le_succ (Nj r i)
section
variable {X:Cx}{pins:List (Addr×Obj)}{σ:St}{H:Hp}{s:Shared}{l b:Addr}{xs ys zs:List V}
theorem Inv.lset {its its':List Value} {n:Nat} {f:Array Value->Array Value} {t':Nat} (I:Inv X pins σ H s) (hH:H l=some (.lst xs))
  (e:s.heap.get? l=some { cls:=.type "list",data:=.seq its.toArray n }) (hf:f its.toArray=its'.toArray) (hv:AW ys its') (hz:ys.length<=sizeLine) :
  Inv X pins σ (upd H l (.lst ys)) { s with heap:=s.heap.update l (Obj.mapSeq f),toks:=t' }:=by
 have q:=PySem.IsL.update e f;rw[hf] at q;refine I.write (x:=l) (e:=l) (by rw[hH];exact trivial) (.inl rfl) (λb' u hb hu=>(cE s.heap (Obj.mapSeq f) (Ne.symm hb)).trans hu) ⟨_,q⟩ ?_;exact⟨hz,its',_,hv,q⟩
theorem Inv.lnew {its:List Value}{t':Nat}(I:Inv X pins σ H s)(hv:AW ys its)(hz:ys.length<=sizeLine) :
  Inv X pins σ (upd H s.heap.objs.size (.lst ys)) { s with heap:=s.heap.push { cls:=.type "list",data:=.seq its.toArray },toks:=t' }:=
 I.laid (λ_ _ q=>aq _ q) (ah _) ⟨hz,its,0,hv,aQ _ rfl⟩
theorem Inv.fresh (I:Inv X pins σ H s):H s.heap.objs.size=none:=I.hok.fresh (ah _)
theorem Inv.lstM (I:Inv X pins σ H s)(hH:H l=some (.lst xs)):xs.length<=sizeLine/\∃(its:List Value) (n:Nat),AW xs its/\xs.length=its.length/\s.heap.get? l=some { cls:=.type "list",data:=.seq its.toArray n }:=by
 obtain⟨z,its,n,r,e⟩:=I.hok l _ hH;exact⟨z,its,n,r,r.length,e⟩
theorem Tf {n:Nat}(h:n<=sizeLine):Builtin.List.listTooLong n=false:=by
 unfold Builtin.List.listTooLong;exact aS (by lia)
end
section
variable {X:Cx}
def U0:V->List V->Hp->VK->Prop:=λx vs H Q=>∃l xs y,x=.ref l/\vs=[y]/\H l=some (.lst xs)/\xs.length<sizeLine/\Q .non (upd H l (.lst (xs++[y])))
theorem Bp:Yz X "list.append" U0:=by
 intro pins s σ H x vs v us Q I rx rv h;obtain⟨l,xs,y,rfl,rfl,hH,hz,q⟩:=h;cases rx;obtain⟨u,rfl,ru⟩:=rv.one;obtain⟨z,its,n,r,hl,e⟩:=I.lstM hH;refine iD F.slot_list_append ⟨_,e,rfl⟩ F.entry_list_append (F.args_list_append_2 _ _) (PySem.list_append l its.toArray n u (by rw[aW];lia)) ⟨e,?_⟩;refine⟨.non,_,I.lset (its':=its++[u]) hH e (by simp) (r.append (.cons ru .nil)) ?_,rfl,q⟩;rw[ar,dq]
 lia
def Vs:V->List V->Hp->VK->Prop:=λx vs H Q=>∃l b xs zs,x=.ref l/\vs=[.ref b]/\H l=some (.lst xs)/\H b=some (.lst zs)/\xs.length+zs.length<=sizeLine/\Q .non (upd H l (.lst (xs++zs)))
theorem GX:Yz X "list.extend" Vs:=by
 intro pins s σ H x vs v us Q I rx rv h;obtain⟨l,b,xs,zs,rfl,rfl,hH,hB,hz,q⟩:=h;cases rx;obtain⟨u,rfl,ru⟩:=rv.one;cases ru;obtain⟨z,its,n,r,hl,e⟩:=I.lstM hH;obtain⟨z2,its2,n2,r2,hl2,e2⟩:=I.lstM hB;have hsz:its.toArray.size+its2.toArray.size<=sizeLine:=by rw[aW,aW];lia
 have hlong:¬(!its.toArray.isEmpty&&Builtin.List.listTooLong (its.toArray.size+its2.toArray.size))=true:=by
  rw[Tf hsz,Bool.and_false];exact aB
 refine iD F.slot_list_extend ⟨_,e,rfl⟩ F.entry_list_extend (F.args_list_extend_2 _ _)
  (AutoSeq1.list_extend_list_list_0 l its.toArray n b its2.toArray n2 hlong (by rw[aW];lia) (by lia)) ⟨e,e2,?_⟩
 refine⟨.non,_,I.lset (its':=its++its2) hH e (by simp) (r.append r2) ?_,rfl,q⟩;rw[ar]
 lia
def YW:V->List V->Hp->VK->Prop:=λx vs H Q=>∃l xs y,x=.ref l/\vs=[]/\H l=some (.lst xs)/\xs[xs.length-1]?=some y/\Q y (upd H l (.lst xs.dropLast))
theorem WX:Yz X "list.pop" YW:=by
 intro pins s σ H x vs v us Q I rx rv h;obtain⟨l,xs,y,rfl,rfl,hH,hy,q⟩:=h;cases rx;have hus:=rv.zero;subst hus;obtain⟨z,its,n,r,hl,e⟩:=I.lstM hH;obtain⟨u,hu,ru⟩:=r.get hy;have hy':its.toArray[its.toArray.size-1]?=some u:=by
  show its.toArray[its.length-1]?=some u;rw[<-cF,<-hl];exact hu
 refine iD F.slot_list_pop ⟨_,e,rfl⟩ F.entry_list_pop (F.args_list_pop_1 _) (MeetsSeq.list_pop_last l its.toArray n u hy' (by rw[aW];lia)) ⟨e,?_⟩;refine⟨y,_,I.lset (its':=its.dropLast) hH e ?_ r.dropLast ?_,ru,q⟩
 ·show its.toArray.eraseIdxIfInBounds (its.toArray.size-1)=its.dropLast.toArray;rw[aW,gj,PD]
 ·rw[fN]
  lia
def WK:V->List V->Hp->VK->Prop:=λx vs H Q=>∃l xs i k y,x=.ref l/\vs=[.int i]/\H l=some (.lst xs)/\-(2^63)<=i/\i<2^63/\seqIndex? i xs.length=some k/\xs[k]?=some y/\Q y (upd H l (.lst (xs.eraseIdx k)))
theorem UI:Yz X "list.pop" WK:=by
 intro pins s σ H x vs v us Q I rx rv h;obtain⟨l,xs,i,k,y,rfl,rfl,hH,h1,h2,hk,hy,q⟩:=h;cases rx;obtain⟨u,rfl,ru⟩:=rv.one;obtain⟨t,rfl⟩:=ru;obtain⟨z,its,n,r,hl,e⟩:=I.lstM hH;obtain⟨w,hw,rw'⟩:=r.get hy;refine iD F.slot_list_pop ⟨_,e,rfl⟩ F.entry_list_pop (F.args_list_pop_2 _ _)
  (MeetsSeq.list_pop_at l its.toArray n i t k w (fitsIndex_both h1 h2) (by rw[aW,<-hl];exact hk) (by rw[<-cF];exact hw) (by rw[aW];lia)) ⟨e,?_⟩
 refine⟨y,_,I.lset (its':=its.eraseIdx k) hH e ?_ (r.eraseIdx k) ?_,rw',q⟩
 ·show its.toArray.eraseIdxIfInBounds k=(its.eraseIdx k).toArray;rw[gj]
 ·have:=Nj xs k
  lia
end
end L2
namespace Att
open PySem PySem.W PySem.Calls PyProof.Rows
theorem Ky {P:Params}{h:Heap}:∀(ns:List Int) (vs:List Value),WellAll P h vs (ns.map WData.int)->IntsAre vs ns:=by
 intro ns
 induction ns with
 |nil=>
  intro vs w;rw[dC] at w;cases w;exact .nil
 |cons n ns ih=>
  intro vs w;rw[au] at w;cases w with
  |cons a b=>
   cases a;exact .cons _ _ (ih _ b)
theorem SD {l:OpenLaw} {n:Nat} (hn:l.most=some n) {P:Params} {h:Heap} {args:List WData} {vals:List Value}
  (hpre:l.row.toRowW.claim.pre args=true) (hwl:WellAll P h vals args) :
  ∃a vs ns,vals=[Value.ref a]/\args=[WData.list (ns.map WData.int)]/\h.get? a=some { cls:=.type "list",data:=.seq vs.toArray }/\IntsAre vs ns/\ns.length<=n:=by
 have hsh:WShape.hasAll [] args [.list .int]=true:=(pre_splitW hpre).1;have hc:l.pre.holds [] { args:=args }=true:=(pre_splitW hpre).2;obtain⟨d,r,rfl,h1,h2⟩:=hasAllW_cons hsh;obtain rfl:=hasAllW_nil h2;obtain⟨xs,rfl,h3⟩:=hasW_list h1;obtain⟨ns,rfl⟩:=items_int h3;have hlen:ns.length<=n:=by
  unfold OpenLaw.pre at hc;have h4:(WTm.not (.lt (.lit (.int (n:Int))) (.len (.arg 0)))).holds [] { args:=[.list (ns.map .int)] }=true:=by
   have h4:=(holds_andW hc).1;rw[hn] at h4;exact h4
  have h5:=condW_of h4 (w_not (w_lt w_lit (w_len_list (w_arg rfl))));rw[ab] at h5;refine Nat.le_of_not_lt λq=>?_
  have q':(n:Int)<((ns.length:Nat):Int):=by lia
  first
   |(rw[aH q'] at h5;exact absurd h5 (by decide))
   |(simp at h5;lia)
 cases hwl with
 |cons w1 w2=>
  cases w2;cases w1 with
  |list ho hall=>exact⟨_,_,ns,rfl,rfl,ho,Ky ns _ hall,hlen⟩
theorem Sg (l:OpenLaw)(args:List WData):l.row.toRowW.claim.post args (.bool true) args=true:=
 postW_of (r:=l.row.toRowW) (X:=(true == true))
  (show WShape.has [] (.bool true) .bool=true by first|rfl|decide|simp[WShape.has,WShape.arms,WShape.armsAll])
  (show(WTm.eq .res (.lit (.bool true))).value [] { args:=args,res:=some (.bool true),after:=args }=some (.bool (true == true)) from w_eq_bool (w_res rfl) w_lit) rfl
theorem OP {l:OpenLaw} {n:Nat} {q:Program} {loose:List Str} {XP:(Str->Option Value)->Heap->Prop} {YP:World->Heap->Prop} {d:DefRec}
  (hn:l.most=some n) (hdf:d.params.defaults=[])
  (call:∀(w:World) (s₀ s₁:Shared) (mg mb:Str->Option Value) (fa:Addr) (o:Obj) (pm cd doc:Value) (a:Addr) (vs:List Value) (ns:List Int),
   Ground q loose [] XP w s₀ mg mb s₁.heap->YP w s₁.heap->
   s₁.heap.get? fa=some o->o.data=.func (docDef d.name d.params d.body d.scope pm cd doc)->s₁.heap.CodeRec cd d.name->mg d.name=some (.ref fa)->
   s₁.heap.get? a=some { cls:=.type "list",data:=.seq vs.toArray }->IntsAre vs ns->ns.length<=n->s₁.gens = #[]->
   codeAny (model l.prog w) callerA (.call (.ref fa) ⟨[.ref a],[]⟩) (λr s'=>r=.ok (.ret (.bool true))/\OldK s₁.heap s'.heap/\s'.os=s₁.os/\AllBare s'.gens) s₁) :
  WalkO q loose XP YP l.row.toRowW d [] (λf vs=>PySem.call f vs):=by
 intro w s₀ s₁ mg mb G Y fa o pm cd doc dV kV ho hd hcd hD hmg hg args vals as hpre hlay hrd hwl hlo;obtain rfl:dV=.none:=Dflts.none hD hdf;obtain rfl:kV=.none:=Dflts.noKw hD;obtain⟨a,vs,ns,rfl,rfl,hobj,hints,hlen⟩:=SD hn hpre hwl;refine enter_call (du (call w s₀ s₁ mg mb fa o pm cd doc a vs ns G Y ho (fd_plain hd) hcd hmg hobj hints hlen hg) λr s' hq=>?_);obtain⟨rfl,h2,h3,h4⟩:=hq;exact⟨.inl ⟨.bool true,.bool true,[],rfl,λ_=>rfl,.bool true,Sg l _,λ_=>⟨List.Pairwise.nil,λ_ hm=>(nomatch hm)⟩⟩,h2,h3,h4⟩
end Att
namespace L2
open PySem PySem.Spec PyProof.Rows
theorem MY:∀{vs:List Value} {ns:List Int},IntsAre vs ns->AW (ns.map V.int) vs
 |_,_,.nil=>.nil
 |_,_,.cons n t h=>.cons ⟨t,rfl⟩ (MY h)
def WL (H:Hp):Prop:=∀b,H b=none\/∃o xs,H b=some (.frz o (.lst xs))
theorem T9 {P:Program} {w:World} {K:PySem.W.Frag} {mg mb:Str->Option Value} {CX:Ut} {k:Nat} {fa a:Addr} {fd:FuncData} {x:Str} {sp:Sp} {s₁:Shared} {vs:List Value} {ns:List Int}
  (KX:K.In s₁.heap) (hns:s₁.heap.Ns mainGlobals mg) (hb:s₁.heap.Ns builtinsNs mb) (hbb:∀x:Str,x≠"__name__"->mb x=bootBuiltins x) (hlim:s₁.heap.NoLimit) (hg:s₁.gens = #[])
  (ha:s₁.heap.get? a=some { cls:=.type "list",data:=.seq vs.toArray }) (hi:IntsAre vs ns) (hl:ns.length<=sizeLine) (hr:Room k callerA)
  (F:∀base:Heap,K.In base->base.Ns mainGlobals mg->FnOk P w K mg base CX k fa fd [x] sp) (hbind:∀(s:Shared) (u:Value),BindsTo s fd ⟨[u],[]⟩ [(x,u)])
  (hsp:∀H:Hp,WL H->AJ K H a (ns.map V.int)->sp [.ref a] H (λv _=>v=.bl true) λ_ _ _=>False)
  (hCX:∀H e s',CX [] H s₁ (λ_ _ _=>False) e s'->False) :
  codeAny (model P w) callerA (.call (.ref fa) ⟨[.ref a],[]⟩) (λr s'=>r=.ok (.ret (.bool true))/\OldK s₁.heap s'.heap/\s'.os=s₁.os/\AllBare s'.gens) s₁:=by
 have rv:=MY hi;have lenV:=hi.length;have core:∀H:Hp,WL H->AJ K H a (ns.map V.int)->HS P w H s₁.heap->(∀b,H b≠none->b=a)->(H a≠none->K.lookup a=none)->
   codeAny (model P w) callerA (.call (.ref fa) ⟨[.ref a],[]⟩) (λr s'=>r=.ok (.ret (.bool true))/\OldK s₁.heap s'.heap/\s'.os=s₁.os/\AllBare s'.gens) s₁:=by
  intro H hO hS hok hA hK;have base_of:∀{b:Addr} {o:Obj},s₁.heap.get? b=some o->H b=none->(NZ s₁.heap H).get? b=some o:=λe n=>Uv e n
  have noA:∀{b:Addr} {o:Obj} {es:Array DictEntry} {ep:Nat},s₁.heap.get? b=some o->o.data=.dict es ep->H b=none:=λ{b o es ep} e d=>by
   cases q:H b with
   |none=>rfl
   |some u=>
    have e':b=a:=hA b (by rw[q];simp);subst e';rw[ha] at e;cases e;have d':Data.seq vs.toArray _=Data.dict es ep:=d;cases d'
  have nsK:∀{b:Addr} {m:Str->Option Value},s₁.heap.Ns b m->(NZ s₁.heap H).Ns b m:=λ{b m} ⟨o,es,ep,e,d,r⟩=>⟨o,es,ep,base_of e (noA e d),d,r⟩
  have hKb:K.In (NZ s₁.heap H):=λb o e=>base_of (KX b o e) (by
   cases q:H b with
   |none=>rfl
   |some u=>
    have e':b=a:=hA b (by rw[q];simp);subst e';rw[hK (by rw[q];simp)] at e;cases e)
  have hM:Mod K mg (NZ s₁.heap H):=⟨hKb,nsK hns,⟨mb,nsK hb,hbb⟩,let⟨mc,h1,h2⟩:=hlim;⟨mc,nsK h1,h2⟩⟩
  have e0:Env0 P w K mg (NZ s₁.heap H) callerA [] s₁ H:=⟨rfl,hM,λb o e=>VH e,dB (SE _ _),trivial,λb hb=>absurd (show b∈([]:List Addr) from hb) (by simp),hok,.of_eq hg⟩
  refine du ((F _ hKb (nsK hns)).run callerA [] s₁ H ⟨[.ref a],[]⟩ [.ref a] [.ref a] _ _ hr e0 (hbind s₁ (.ref a)) (.cons rfl .nil) (hsp H hO hS)) λr s' h=>?_
  cases r with
  |error e=>exact(hCX H e s' h).elim
  |ok fl=>
   cases fl with
   |next=>exact False.elim h
   |brk=>exact False.elim h
   |cont=>exact False.elim h
   |ret u=>
    obtain⟨v,H',os,bare,un,hok',r',q⟩:=h;have q':v=.bl true:=q;subst q';obtain rfl:u=Value.bool true:=r';refine⟨rfl,OldK.of_keep λb o e=>?_,os,bare⟩;cases q:H b with
    |none=>exact un.keep b o e q (by intro z;exact absurd (show b∈([]:List Addr) from z) (by simp)) (by simp)
    |some u=>
     rcases hO b with z|⟨ob,xs,z⟩
     ·rw[q] at z;cases z
     ·have z2:=un.frzs b ob _ z;obtain⟨e1,_⟩:=hok b _ z;obtain⟨e2,_⟩:=hok' b _ z2;rw[e] at e1;cases e1;exact e2
 cases hk:K.lookup a with
 |some o=>
  have e:=KX a o hk;rw[ha] at e;cases e;refine core (λ_=>none) (λ_=>.inl rfl) (.inr ⟨_,vs.toArray,_,hk,rfl,rfl,rfl,by rw[aW,lenV];exact hl,by simpa using rv⟩) (λb u z=>by have z':(none:Option HO)=some u:=z;cases z') (λb z=>absurd rfl z) λz=>absurd rfl z
 |none=>
  refine core (λb=>if b=a then some (.frz { cls:=.type "list",data:=.seq vs.toArray } (.lst (ns.map V.int))) else none) (λb=>?_) (.inl (.inr ⟨{ cls:=.type "list",data:=.seq vs.toArray },aC rfl⟩)) (λb u z=>?_) (λb z=>?_) λ_=>hk
  ·by_cases hb:b=a
   ·exact .inr ⟨_,_,aC hb⟩
   ·exact .inl (ay hb)
  ·by_cases hb:b=a
   ·have z':=(aC hb).symm.trans z;cases z';subst hb;exact⟨ha,by rw[ab];exact hl,vs,_,rv,ha⟩
   ·have z':=(ay hb).symm.trans z;cases z'
  ·by_cases hb:b=a
   ·exact hb
   ·exact absurd (ay hb) z
theorem VA {l:PySem.W.OpenLaw} {n k:Nat} {q:Program} {loose:List Str} {XP:(Str->Option Value)->Heap->Prop} {YP:World->Heap->Prop} {d:DefRec} {K:Params->PySem.W.Frag} {CX:World->Ut} {sp:World->Sp} {x:Str}
  (hn:l.most=some n) (hn2:n<=sizeLine) (hdf:d.params.defaults=[]) (hr:Room k callerA)
  (hY:∀(w:World) (h:Heap),YP w h->(K w.params).In h)
  (F:∀(w:World) (mg:Str->Option Value) (fa:Addr) (h:Heap),(K w.params).In h->h.Ns mainGlobals mg->mg d.name=some (.ref fa)->
   ∃fd:FuncData,(∀(s:Shared) (u:Value),BindsTo s fd ⟨[u],[]⟩ [(x,u)])/\
    ∀base:Heap,(K w.params).In base->base.Ns mainGlobals mg->FnOk l.prog w (K w.params) mg base (CX w) k fa fd [x] (sp w))
  (hsp:∀(w:World) (H:Hp) (a:Addr) (ns:List Int),ns.length<=n->WL H->AJ (K w.params) H a (ns.map V.int)->sp w [.ref a] H (λv _=>v=.bl true) λ_ _ _=>False)
  (hCX:∀(w:World) (H:Hp) (s:Shared) (e:Value) (s':Shared),CX w [] H s (λ_ _ _=>False) e s'->False) :
  PySem.W.WalkO q loose XP YP l.row.toRowW d [] (λf vs=>PySem.call f vs):=by
 refine Att.OP hn hdf λw s₀ s₁ mg mb fa o pm cd doc a vs ns G Y ho hd hcd hmg hobj hints hlen hg=>?_
 have KX:=hY w _ Y;obtain⟨fd,hb,hF⟩:=F w mg fa _ KX G.T.g hmg;exact T9 KX G.T.g G.T.b G.T.builtins G.T.nolimit hg hobj hints (aY hlen hn2) hr hF hb (λH hO hS=>hsp w H a ns hlen hO hS) λH e s'=>hCX w H s₁ e s'
def inClass (s:Stmt)(j:Nat):Stmt:=match s with
 | .ClassDef _ _ _ body _ _ _ _ _ _ _=>body.getD j (.Pass ⟨0,0,0,0⟩)
 |_=>.Pass ⟨0,0,0,0⟩
def IU (s:Stmt):Arguments:=match s with
 | .FunctionDef _ a _ _ _ _ _ _ _ _=>a
 |_=>{ posonlyargs:=[],args:=[],vararg:=none,kwonlyargs:=[],kw_defaults:=[],kwarg:=none,defaults:=[] }
def GY (s:Stmt):List Stmt:=match s with
 | .FunctionDef _ _ b _ _ _ _ _ _ _=>b
 |_=>[]
def Am (s:Stmt):Scope:=match s with
 | .FunctionDef _ _ _ _ _ _ sc _ _ _=>sc
 |_=>{ kind:=.function,names:=[],isGenerator:=false,isCoroutine:=false }
abbrev BI:Ut:=λ_ _ _ _ _ _=>False
abbrev E0:XK:=λ_ _ _=>False
theorem O2 {X:Cx}:GF BI X E0:=λ_ _ _ _ _ _ _ h=>h.elim
structure Fun (K:PySem.W.Frag) (x qual:Str) (st:Stmt) (f:Addr) (fd:FuncData):Prop where
 ex:∃(oc:Value) (od:Option Addr) (kV doc pm:Value) (an:Option Addr) (cdv ct:Value) (osl:Array (Option Value)),
  fd=PySem.W.fnOf x qual (IU st) (GY st) (Am st) .none kV doc pm an cdv ct/\K.lookup f=some ⟨oc,od,.func fd,osl⟩/\PySem.W.codeIn K cdv qual=true
 kp:PySem.W.keepIn K (.ref f)=true
section
variable {P:Program}{w:World}{K:PySem.W.Frag}{mg:Str->Option Value}{base:Heap}
theorem Fun.ok {x qual:Str} {st:Stmt} {f:Addr} {fd:FuncData} {N ps:List Str} {k:Nat} {sp:Sp} (F:Fun K x qual st f fd) (S:FnScope N ps (Am st)) (len:∀vs H Q E,sp vs H Q E->vs.length=ps.length)
  (hbody:∀(cdv:Value) (A:Around) (outer:List Env) (s:Shared) (H:Hp) (vs:List V) (Q:VK) (E:XK),Room k (A.deeper (envOfC qual (Am st) s.heap.objs.size f cdv))->sp vs H Q E->
   ∃t,PJ (BM BI P w K mg base N qual (Am st) f cdv A outer s H E).nox (GY st) t/\t { nx:=λ_ H'=>Q .non H',rt:=Q } (start N vs) H):FnOk P w K mg base BI (k+1) f fd ps sp:=by
 obtain⟨oc,od,kV,doc,pm,an,cdv,ct,osl,rfl,lk,hcd⟩:=F.ex;refine X2 lk hcd S len λA outer s H vs Q E hr hsp=>?_
 obtain⟨t,h,q⟩:=hbody cdv A outer s H vs Q E hr hsp;exact⟨t,h.nox,q⟩
theorem Fun.binds {x qual:Str} {st:Stmt} {f:Addr} {fd:FuncData} {ps:List Str} (F:Fun K x qual st f fd)
  (h:∀(kV doc pm:Value) (an:Option Addr) (cdv ct:Value) (us:List Value),us.length=ps.length->bindArgs (PySem.W.fnOf x qual (IU st) (GY st) (Am st) .none kV doc pm an cdv ct) ⟨us,[]⟩=pure (ps.zip us)):Binds K fd ps []:=by
 obtain⟨oc,od,kV,doc,pm,an,cdv,ct,osl,rfl,lk,hcd⟩:=F.ex;exact .all (h kV doc pm an cdv ct)
theorem SN {x qual:Str} {st:Stmt} {f:Addr} {oc:Value} {od an:Option Addr} {osl:Array (Option Value)} {kV doc pm cdv ct:Value} (l:K.lookup f=some ⟨oc,od,.func (PySem.W.fnOf x qual (IU st) (GY st) (Am st) .none kV doc pm an cdv ct),osl⟩)
  (c:PySem.W.codeIn K cdv qual=true) (k:PySem.W.keepIn K (.ref f)=true):Fun K x qual st f (PySem.W.fnOf x qual (IU st) (GY st) (Am st) .none kV doc pm an cdv ct):=⟨⟨oc,od,kV,doc,pm,an,cdv,ct,osl,rfl,l,c⟩,k⟩
end
theorem BL {A:Around}{k:Nat}(hr:Room k A):A.units+1<cLine:=Nat.lt_of_le_of_lt (Nat.add_le_add_left (by decide:1<=64) _) hr.units
section
variable {X:Cx}
theorem pv (i:Nat) {x:Str} {pos:Pos} (hN:X.N[i]?=some x:=by rfl) (hv:YA X.env.scope x:=by first|exact Or.inl rfl|exact Or.inr (Or.inl rfl)|exact Or.inr (Or.inr rfl)) (hd:(x == ("__debug__":Str))=false:=by decide)
  (hcd:(x == ("__classdict__":Str))=false:=by decide):PE X (.Name x pos) (TJ i):=Xi hN hv hd hcd
end
theorem YE {A B:Prop}(h:A):if true=true then A else B:=by
 rw[aC rfl];exact h
theorem Cs {c A B:Prop}[Decidable c](h1:c->A)(h2:¬c->B):if c then A else B:=by
 by_cases h:c
 ·rw[aC h];exact h1 h
 ·rw[ay h];exact h2 h
def As (H H':Hp):Prop:=∀b o,H b=some o->H' b=some o
theorem As.refl (H:Hp):As H H:=λ_ _ h=>h
theorem As.trans {H H1 H2:Hp}(a:As H H1)(b:As H1 H2):As H H2:=λc o h=>b c o (a c o h)
theorem As.free {H H':Hp}(e:As H H'){l:Addr}(h:H' l=Option.none):H l=Option.none:=by
 cases q:H l with
 |none=>rfl
 |some o=>
  rw[e l o q] at h;cases h
theorem As.seq {K:PySem.W.Frag}{H H':Hp}{a:Addr}{xs:List V}(e:As H H')(h:AJ K H a xs):AJ K H' a xs:=by
 rcases h with(h|⟨o,h⟩)|h
 ·exact .inl (.inl (e _ _ h))
 ·exact .inl (.inr ⟨o,e _ _ h⟩)
 ·exact .inr h
end L2
set_option maxHeartbeats 1000000
namespace L2
open PySem PySem.Spec PyProof.Rows
section
variable {prog:Program}{w:World}{A:Around}{env:Env}{elt target iter:Expr}{ifs:List Expr}{scope:Scope}{pos:Pos}{it acc:Value}
abbrev VJ (env:Env)(ifs:List Expr):Sem Bool:=forIn ifs true λc r=>(if r=true then(do let ok <-isTrue c env (eval c env);pure (ForInStep.yield ok)) else pure (ForInStep.yield r))
abbrev QK (prog:Program)(w:World)(A:Around)(env:Env)(elt target:Expr)(ifs:List Expr)(it acc:Value)(Ee:Value->Shared->Prop)(over on:Shared->Prop):Shared->Prop:=
 wpAny (model prog w) A (pyNext it) (fun|none,s1=>over s1|some v,s1=>wpAny (model prog w) A (letOwnedTupleGo target it v) (λ_ s2=>wpAny (model prog w) A (assign target env v) (λ_ s3=>wpAny (model prog w) A (VJ env ifs) (λok s4=>
  if ok=true then wpAny (model prog w) A (eval elt env) (λx s5=>wpAny (model prog w) A (call (.builtin "list.append") [acc,x]) (λ_=>on) (λ_ _=>False) s5) Ee s4 else on s4) Ee s3) Ee s2) (λ_ _=>False) s1) (λ_ _=>False)
theorem OC {R:Result->Shared->Prop} {Ee:Value->Shared->Prop} (I:Nat->Shared->Prop) (hE:∀x s,Ee x s->notedBy (model prog w) A env (λx s=>R (.error x) s) x s)
  (turn:∀n s,I n s->QK prog w A env elt target ifs it acc Ee (R (.ok .next)) (λs'=>∃m,m<n/\I m s') s) (n:Nat) {s:Shared} (h:I n s) :
  codeAny (model prog w) A (.compLoop (.ListComp elt [⟨target,iter,ifs,0⟩] scope pos) 0 it acc env) R s:=by
 have none':∀{Z:Value->Shared->Prop} (x:Value) (s:Shared),False->Z x s:=λ_ _ z=>z.elim
 refine codeAny_loop rfl I (λk s1 h1=>?_) n h
 change wpAny _ A ((compTurn (.ListComp elt [⟨target,iter,ifs,0⟩] scope pos) 0 it acc env).onRaise (λx=>do noteFrame x env;theTreesLotGoes x)) _ _ s1
 refine wpAny_noted ?_;rw[compTurn_list];refine af (gw (af (bD (turn k s1 h1) (λr s2 h2=>?_) none')))
 match r,h2 with
 |none,h2=>exact aw h2
 |some v,h2=>
  refine af (bD h2 (λ_ s3 h3=>af (bD h3 (λ_ s4 h4=>af (bD h4 (λok s5 h5=>?_) hE)) hE)) none')
  match ok,h5 with
  |false,h5=>exact aw ⟨rfl,h5⟩
  |true,h5=>exact af (af (bD h5 (λx s6 h6=>af (bD h6 (λ_ s7 h7=>aw (aw ⟨rfl,h7⟩)) none')) hE))
theorem Qu {R:Result->Shared->Prop}(I:Nat->Shared->Prop)(turn:∀n s,I n s->QK prog w A env elt target ifs it acc (λ_ _=>False) (R (.ok .next)) (λs'=>∃m,m<n/\I m s') s)(n:Nat){s:Shared}(h:I n s) :
  codeAny (model prog w) A (.compLoop (.ListComp elt [⟨target,iter,ifs,0⟩] scope pos) 0 it acc env) R s:=OC I (λ_ _ z=>z.elim) turn n h
end
def Qg (X:Cx)(ifs:List Expr)(t:TT):Prop:=
 ∀(pins:List (Addr×Obj)) (s:Shared) (σ:St) (H:Hp) (Q:Bool->Hp->Prop),Inv X pins σ H s->t σ H Q->
  wpAny (model X.prog X.w) X.A (forIn ifs true λc r=>if r=true then do let ok <-isTrue c X.env (eval c X.env);pure (ForInStep.yield ok) else pure (ForInStep.yield r)) (TP X pins σ Q) X.xe s
def Qw:TT:=λ_ H Q=>Q true H
theorem AM {X:Cx}:Qg X [] Qw:=λ_ _ _ H _ I h=>wpAny_tests_nil ⟨H,I,h⟩
theorem Ub {X:Cx}{c:Expr}{t:TT}(h:PT X c t):Qg X [c] t:=λpins s σ H Q I q=>wpAny_tests_one (h pins s σ H Q I q)
def Bv (X:Cx)(scope:Scope)(cl:List (Str×Addr))(N:List Str)(C:Addr)(s:Shared)(H:Hp)(fp:List Addr):Cx:=
 { prog:=X.prog,w:=X.w,K:=X.K,mg:=X.mg,base:=X.base,A:=X.A,N:=N,s₀:=s,H₀:=H,env:=compEnvC scope cl C X.env,outer:=X.stack,stack:=X.stack,ex:=fp,fn:=λ_=>false,calm:=X.calm,pn:=[],xe:=λ_ _=>False }
def stC (fr:List (Option Nat))(σ:St):St:=fr.map λo=>o.bind λi=>(σ[i]?).bind id
def Fm (fr:List (Option Nat))(g:TG)(tt:TT)(te:TE)(σ:St)(Q:VK)(J:It)(H1:Hp):Prop:=∀l,H1 l=none->∃W:Nat->Nat->St->Hp->Prop,(∃m,W 0 m (stC fr σ) (upd H1 l (.lst [])))/\∀i m σ H,W i m σ H->
 (J.stop i H/\Q (.ref l) H)\/(J.go i H/\∀x H',J.yld i H x H'->g x σ H' λσ2 H2=>tt σ2 H2 λb H3=>if b=true then te σ2 H3 λv H4=>∃xs,H4 l=some (.lst xs)/\xs.length<sizeLine/\∃m',m'<m/\W (i+1) m' σ2 (upd H4 l (.lst (xs++[v])))
  else ∃m',m'<m/\W (i+1) m' σ2 H3)
def MR (fr:List (Option Nat))(wi:TI)(g:TG)(tt:TT)(te:TE):TE:=λσ H Q=>wi σ H (Fm fr g tt te σ Q)
def G8 (XN:List Str)(xs sc:Scope)(N:List Str)(fr:List (Option Nat)):Bool:=
 decide (sc.kind=.function)&&decide (fr.length=N.length)&&(sc.names.all λy=>!decide (y.2=.cell))&&(sc.names.all λy=>!decide (y.2=.local)||decide (sc.names.lookup y.1=some .local)) &&
 (sc.names.all λy=>!decide (y.2=.free)||(decide (xs.names.lookup y.1=some .cell)||decide (xs.names.lookup y.1=some .free))) &&
 ((N.zip fr).all λp=>match p.2 with|none=>true|some i=>decide (XN[i]?=some p.1)&&decide (sc.names.lookup p.1=some .free))
def Qz (cells:List (Str×Addr)):List (Str×Addr)->Prop
 |[]=>True
 |p::r=>cells.lookup p.1=some p.2/\Qz cells r
theorem Qz.get {cells:List (Str×Addr)}:∀{cl:List (Str×Addr)},Qz cells cl->∀{x:Str} {c:Addr},cl.lookup x=some c->cells.lookup x=some c
 |[],_,_,_,h=>by cases h
 |(y,d)::r,k,x,c,h=>by
  rw[fg] at h;cases e:x == y with
  |true=>
   rw[e] at h;cases h;rw[eq_of_beq e];exact k.1
  |false=>
   rw[e] at h;exact Qz.get k.2 h
def Jf (cl:List (Str×Addr)):List (Str×NameKind)->Prop
 |[]=>True
 |p::r=>(p.2=.free->∃c,cl.lookup p.1=some c)/\Jf cl r
theorem Jf.get {cl:List (Str×Addr)}:∀{ns:List (Str×NameKind)},Jf cl ns->∀y∈ns,y.2=.free->∃c,cl.lookup y.1=some c
 |[],_,_,h=>by cases h
 |p::r,k,y,h=>by
  rcases aM.mp h with rfl|h
  ·exact k.1
  ·exact Jf.get k.2 y h
theorem FE {env:Env}:∀{names:List (Str×NameKind)} {x:Str} {k:NameKind},(names.map λ(n,k)=>if(k == NameKind.free&&env.scope.kind == .function&&env.kindOf n == some .cell) then(n,NameKind.cell) else(n,k)).lookup x=some k->
  names.lookup x=some k\/(k=.cell/\names.lookup x=some .free)
 |[],_,_,h=>by cases h
 |(n,k0)::r,x,k,h=>by
  have ih:=@FE env r x k
  by_cases hc:(k0 == NameKind.free&&env.scope.kind == .function&&env.kindOf n == some .cell)=true
  ·simp only[List.map_cons,if_pos hc,List.lookup_cons] at h;rw[fg];cases e:x == n with
   |true=>
    rw[e] at h;cases h;simp only[Bool.and_eq_true] at hc;have:k0=.free:=by simpa using hc.1.1
    exact .inr ⟨rfl,by rw[this]⟩
   |false=>rw[e] at h;exact ih h
  ·simp only[List.map_cons,if_neg hc,List.lookup_cons] at h;rw[fg];cases e:x == n with
   |true=>rw[e] at h;exact .inl h
   |false=>rw[e] at h;exact ih h
theorem IY {env:Env}:∀{names:List (Str×NameKind)} {x:Str},names.lookup x=some .free->
  (names.map λ(n,k)=>if(k == NameKind.free&&env.scope.kind == .function&&env.kindOf n == some .cell) then(n,NameKind.cell) else(n,k)).lookup x=some .cell\/
  (names.map λ(n,k)=>if(k == NameKind.free&&env.scope.kind == .function&&env.kindOf n == some .cell) then(n,NameKind.cell) else(n,k)).lookup x=some .free
 |[],_,h=>by cases h
 |(n,k0)::r,x,h=>by
  have ih:=@IY env r x;rw[fg] at h
  by_cases hc:(k0 == NameKind.free&&env.scope.kind == .function&&env.kindOf n == some .cell)=true
  ·simp only[List.map_cons,if_pos hc,List.lookup_cons];cases e:x == n with
   |true=>exact .inl rfl
   |false=>rw[e] at h;exact ih h
  ·simp only[List.map_cons,if_neg hc,List.lookup_cons];cases e:x == n with
   |true=>rw[e] at h;exact .inr h
   |false=>rw[e] at h;exact ih h
section
variable {X:Cx}
theorem Nh (N:List Str) (fr:List (Option Nat)) {elt tg iter:Expr} {ifs:List Expr} {scope:Scope} {pos fpos:Pos} {wi:TI} {g:TG} {tt:TT} {te:TE} {cl:List (Str×Addr)}
  (hc:X.calm=true) (hi:PI X tg iter wi) (hchk:G8 X.N X.env.scope scope N fr=true) (hclos:closureFor scope X.env=pure cl) (hcl:Qz X.env.cells cl) (hall:Jf cl scope.names)
  (hb:∀(C:Addr) (s:Shared) (H:Hp) (fp:List Addr),PG (Bv X scope cl N C s H fp) tg g/\Qg (Bv X scope cl N C s H fp) ifs tt/\PE (Bv X scope cl N C s H fp) elt te)
  (hs:∀x,foldedSetIterable iter X.env x=pure x) {pins:List (Addr×Obj)} {s:Shared} {σ:St} {H:Hp} {Q:VK} {use:Option (Value->Sem Unit)} {Qc:Value->Shared->Prop} (I:Inv X pins σ H s) (h:MR fr wi g tt te σ H Q)
  (hfin:∀(l:Addr) (H':Hp) (s':Shared) (C:Addr),Inv X pins σ H' s'->IR X pins H' C->(∃m,s'.heap.Ns C m)->Q (.ref l) H'->compPost (model X.prog X.w) X.A X.xe use Qc (.ref l) C (.ok .next) s') :
  wpAny (model X.prog X.w) X.A (comprehension (.ListComp elt [⟨tg,iter,ifs,0⟩] scope pos) scope X.env fpos (newList []) (firstAsync [⟨tg,iter,ifs,0⟩]) (firstIter [⟨tg,iter,ifs,0⟩] X.env) use) Qc X.xe s:=by
 simp only[G8,Bool.and_eq_true,decide_eq_true_eq,List.all_eq_true,Bool.or_eq_true,Bool.not_eq_true',decide_eq_false_iff_not] at hchk;obtain⟨⟨⟨⟨⟨hkind,hlen⟩,hcell⟩,hnames⟩,hfree⟩,hfr⟩:=hchk;have hnames':∀x∈scope.names,x.2=.local->scope.names.lookup x.1=some .local:=λy hy e=>(hnames y hy).resolve_left λz=>z e
 have hcell':∀x∈scope.names,x.2≠.cell:=λy hy=>hcell y hy
 refine wpAny_comprehension_free (use:=use) rfl hs hclos hkind hnames' (Bm (hi pins s σ H _ I h) λv s1 h1=>Bm h1 λitv s2 h2=>?_);obtain⟨it,fp,tn,J,H2,e,I2,T,st2,f2,hQ⟩:=h2;subst e;refine cw (hd:=by size_fits) (wpAny_newFunctionEnv hcell' (by intro y hy;simp at hy) (λh₁ hns hsb=>?_) hkind);dsimp only at hns hsb ⊢;obtain⟨W,⟨m0,w0⟩,turn⟩:=hQ s2.heap.objs.size I2.fresh;have I3:Inv X pins σ (upd H2 s2.heap.objs.size (.lst [])) { s2 with heap:=s2.heap.push { cls:=.type "list",data:=.seq ([]:List Value).toArray },toks:=s2.toks }:=I2.lnew (its:=[]) .nil (aR _);generalize hh3:s2.heap.push { cls:=.type "list",dict:=none,data:=.seq ([]:List Value).toArray }=h3 at hns hsb ⊢;rw[show s2.heap.push { cls:=.type "list",data:=.seq ([]:List Value).toArray }=h3 from hh3] at I3;generalize hH3:upd H2 s2.heap.objs.size (.lst [])=H3 at I3 w0;generalize hl:s2.heap.objs.size=l at turn hH3 ⊢;have hl3:l<h3.objs.size:=by rw[<-hh3,<-hl,bW];exact fc _
 generalize hs3:({ s2 with heap:=h3,toks:=s2.toks }:Shared)=s3 at I3;have es3:s3.heap=h3:=by rw[<-hs3]
 have eos:s3.os=s2.os:=by rw[<-hs3]
 have egens:s3.gens=s2.gens:=by rw[<-hs3]
 generalize hC:h3.objs.size=C at hns hsb ⊢;have old:∀b o,h3.get? b=some o->h₁.get? b=some o:=λb o e=>
  hsb.extBut b o (by rw[<-hC];exact aX (aP e)) (aq _ e)
 have f3:∀b∈fp,IR X pins H3 b:=λb hb=>by
  obtain⟨g0,g1⟩:=f2 b hb;refine⟨?_,g1⟩;rw[<-hH3];have:b≠l:=by
   obtain⟨o,e,_⟩:=T.obj _ _ st2 b hb;rw[<-hl];exact aX (aP e)
  rw[Aj this];exact g0
 have st3:tn 0 h₁:=T.keep _ _ _ st2 λb hb o e=>old b o (by rw[<-hh3];exact aq _ e)
 have ok:(Bv X scope cl N C s3 H3 fp).Ok:=by
  refine⟨I3.ok.mod,?_,I3.ok.glob,I3.ok.blt,?_,λx y c e1 e2=>I3.ok.inj x y c (hcl.get e1) (hcl.get e2),λx hx=>?_,λx c hx=>(by cases hx),I3.ok.hd,I3.ok.frames,.inl rfl,λb hb=>?_,λb o e=>?_,?_,λb o e hb=>?_,λb hb hb2=>?_,?_,λb hb=>?_⟩
  ·exact hkind
  ·show s3.heap.objs.size<=C;rw[es3,hC];exact ah _
  ·have hx':(relabel scope X.env).names.lookup x=some .cell\/(relabel scope X.env).names.lookup x=some .free:=hx;have:scope.names.lookup x=some .free:=by
    rcases hx' with z|z
    ·rcases FE z with q|⟨_,q⟩
     ·exact absurd rfl (hcell' _ (ck q))
     ·exact q
    ·rcases FE z with q|⟨q,_⟩
     ·exact q
     ·cases q
   exact hall.get _ (ck this) rfl
  ·obtain⟨g0,g1,g2,g3,g4,g5⟩:=f3 b hb;obtain⟨o,e,_⟩:=T.obj _ _ st2 b hb;refine⟨?_,λx c e=>g4 x c (hcl.get e)⟩;show b≠C;rw[<-hC];exact aX (aP (by rw[<-hh3];exact aq _ e))
  ·have q:=I3.bs b o e;exact q
  ·show X.base.objs.size<=s3.heap.objs.size;exact aY I3.ok.bsz I3.sz
  ·obtain⟨g0,g1,g2,g3,g4,g5⟩:=f3 b hb;rcases g3 with z|z
   ·exact I3.ok.noex b o e z
   ·exact absurd (bh (aP e) (aY I3.ok.bsz z)) (cL _)
  ·obtain⟨g0,g1,g2,g3,g4,g5⟩:=f3 b hb;rcases aM.mp (I3.stkSub b hb2) with z|z
   ·exact g1 z
   ·exact g2 z
  ·show s3.heap.FunFrames X.base X.stack;exact I3.stack
  ·exact I3.stkFree b hb
 have I4:Inv (Bv X scope cl N C s3 H3 fp) [] (stC fr σ) H3 { s2 with heap:=h₁,toks:=s2.toks+([]:List (Str×Value)).length }:=by
  have hk3:∀b o,s3.heap.get? b=some o->h₁.get? b=some o:=λb o e=>old b o (by rw[<-es3];exact e)
  refine⟨ok,eos.symm▸rfl,egens▸I3.bare,Un.kept hk3,⟨_,hns,λi x v e1 e2 e3=>?_⟩,λx c e=>?_,?_,λx c e=>I3.freeC x c (hcl.get e),λp hp=>(by cases hp),I3.hok.kept hk3,?_⟩
  ·
   have e1':N[i]?=some x:=e1;have e2':(fr[i]?).map (λo=>o.bind λi=>(σ[i]?).bind id)=some (some v):=by
    have:(stC fr σ)[i]?=some (some v):=e2;rw[stC,aD] at this;exact this
   cases q:fr[i]? with
   |none=>rw[q] at e2';cases e2'
   |some o=>
    rw[q] at e2';cases o with
    |none=>cases e2'
    |some j=>
     have e2'':(σ[j]?).bind id=some v:=aA e2';obtain⟨p1,p2⟩:X.N[j]?=some x/\scope.names.lookup x=some .free:=by
      have hz:(x,some j)∈N.zip fr:=by
       have:(N.zip fr)[i]?=some (x,some j):=by
        rw[List.getElem?_zip_eq_some];exact⟨e1',q⟩
       exact az this
      have:=hfr _ hz;simpa using this
     have hv:X.env.scope.names.lookup x=some .cell\/X.env.scope.names.lookup x=some .free:=by
      rcases hfree _ (ck p2) with z|z
      ·exact absurd rfl z
      ·simpa using z
     have e3':σ[j]?=some (some v):=by
      cases q3:σ[j]? with
      |none=>rw[q3] at e2'';cases e2''
      |some w'=>rw[q3] at e2'';have:w'=some v:=e2'';rw[this]
     obtain⟨m,hn,hl'⟩:=I3.loc;obtain⟨u,ru,lk⟩:=hl' j x v p1 e3' (.inr hv);refine⟨u,ru,.inr ⟨IY p2,?_⟩⟩;rcases lk with⟨lk,_⟩|⟨_,c,ec,cc⟩
     ·have lk':X.env.scope.names.lookup x=some .local:=lk;rcases hv with z|z<;>(rw[z] at lk';cases lk')
     ·obtain⟨c',ec'⟩:=hall.get _ (ck p2) rfl;have:=hcl.get ec';rw[ec] at this;cases this;obtain⟨o,ho,hd⟩:=cc;exact⟨c,ec',o,hk3 _ _ ho,hd⟩
  ·obtain⟨v,o,ho,hd⟩:=I3.cell x c (hcl.get e);exact⟨v,o,hk3 _ _ ho,hd⟩
  ·show H3 C=none;exact I3.hok.fresh (by rw[es3,hC];exact ah _)
  ·show(stC fr σ).length=N.length;rw[stC,ab];exact hlen
 obtain⟨hg,ht,he⟩:=hb C s3 H3 fp;have fpc:∀{H':Hp},(∀b∈fp,H' b=none)->∀b∈fp,IR (Bv X scope cl N C s3 H3 fp) [] H' b:=λhn b hb=>by
  obtain⟨q1,q2⟩:=ok.exf b hb;exact⟨hn b hb,q1,ok.exfs b hb,.inl hb,q2,λp hp=>by cases hp⟩
 have fin:∀(σ':St) (H':Hp) (s':Shared),Inv (Bv X scope cl N C s3 H3 fp) [] σ' H' s'->Q (.ref l) H'->compPost (model X.prog X.w) X.A X.xe use Qc (.ref l) C (.ok .next) s':=λσ' H' s' I' q=>by
  obtain⟨m,hn,_⟩:=I'.loc;have nC:∀b o,s3.heap.get? b=some o->b≠C:=λb o e=>by
   rw[<-hC,<-es3];exact aX (aP e)
  have fC:H' C=none:=I'.free;have u:=I'.base;refine hfin l H' s' C ?_ (I3.fpOk (by rw[es3,hC];exact ah _) fC) ⟨m,hn⟩ q;refine I3.call' (s':=s') (ch:=fp) I'.os ⟨λb o e n hb hx=>u.keep b o e n hb hx,λb o e n hb hx=>u.slot b o e n hb hx,u.free,λb o e hx=>u.there b o e hx,u.tups,u.frzs,u.tbls⟩ (λb o e=>I'.hok b o e) I'.bare λb hb=>?_
  obtain⟨g0,g1,g2,g3,g4,g5⟩:=f3 b hb;exact⟨g3,g1,g4,g5⟩
 have loop:codeAny (model X.prog X.w) X.A (.compLoop (.ListComp elt [⟨tg,iter,ifs,0⟩] scope pos) 0 (.ref it) (.ref l) (compEnvC scope cl C X.env)) (compPost (model X.prog X.w) X.A X.xe use Qc (.ref l) C)
   { s2 with heap:=h₁,toks:=s2.toks+([]:List (Str×Value)).length }:=by
  refine Qu (λn s'=>∃i σ' H',Inv (Bv X scope cl N C s3 H3 fp) [] σ' H' s'/\tn i s'.heap/\(∀b∈fp,H' b=none)/\W i n σ' H') ?_ m0 ⟨0,_,H3,I4,st3,λb hb=>(f3 b hb).1,w0⟩
  rintro n s5 ⟨i,σ5,H5,I5,st5,fr5,w5⟩
  rcases turn i n σ5 H5 w5 with⟨stop,qn⟩|⟨go,step⟩
  ·refine Bm (T.done (Bv X scope cl N C s3 H3 fp) rfl rfl rfl hc i [] s5 σ5 H5 (λ_ _=>False) I5 (fpc fr5) st5 stop) λr s6 ⟨hr,I6⟩=>?_
   subst hr;exact fin σ5 H5 s6 I6 qn
  ·refine Bm (T.item (Bv X scope cl N C s3 H3 fp) rfl rfl rfl hc i [] s5 σ5 H5 (λ_ _=>False) I5 (fpc fr5) st5 go) λr s6 z9=>?_
   obtain⟨u,hr,h6⟩:=z9;subst hr;refine Bm h6 λ_ s7 z9=>?_
   obtain⟨x,H7,I7,r7,y7,st7,fr7⟩:=z9;have I7':=I7.pinned (fpc fr7) (T.obj _ _ st7);refine Bm (hg _ s7 σ5 H7 x u _ I7' r7 (step x H7 y7)) λ_ s8 z9=>?_
   obtain⟨σ8,H8,I8,q8⟩:=z9;have again:∀{σ9:St} {H9:Hp} {s9:Shared},Inv (Bv X scope cl N C s3 H3 fp) ([]++K9 fp s7.heap) σ9 H9 s9->(∃m',m'<n/\W (i+1) m' σ9 H9)->∃m,m<n/\∃i σ' H',Inv (Bv X scope cl N C s3 H3 fp) [] σ' H' s9/\tn i s9.heap/\(∀b∈fp,H' b=none)/\W i m σ' H':=λ{σ9 H9 s9} I9 n9=>by
    obtain⟨m',hm,w9⟩:=n9;refine⟨m',hm,i+1,σ9,H9,I9.unpinned,T.keep _ _ _ st7 λb hb o e=>(I9.pin (b,o) (bA _ (bA _ (Fz hb e)))).1,λb hb=>?_,w9⟩;obtain⟨o,e,d⟩:=T.obj _ _ st7 b hb;exact(I9.pin (b,o) (bA _ (bA _ (Fz hb e)))).2.1
   refine Bm (ht _ s8 σ8 H8 _ I8 q8) λok s9 z9=>?_
   obtain⟨H9,I9,q9⟩:=z9;cases ok with
   |false=>
    rw[ay aB] at q9 ⊢;exact again I9 q9
   |true=>
    rw[aC rfl] at q9 ⊢;refine Bm (he _ s9 σ8 H9 _ I9 q9) λy sa z9=>?_
    obtain⟨vy,Ha,Ia,ry,qa⟩:=z9;obtain⟨xs,hla,hsz,n9⟩:=qa;refine Bm (Bp _ sa σ8 Ha (.ref l) [vy] (.ref l) [y] (λ_ Hb=>∃m',m'<n/\W (i+1) m' σ8 Hb) Ia rfl (.cons ry .nil) ⟨l,xs,vy,rfl,rfl,hla,hsz,n9⟩) λ_ sb z9=>?_
    obtain⟨_,Hb,Ib,_,qb⟩:=z9;exact again Ib qb
 show codeAny (model X.prog X.w) X.A (.compStart (.ListComp elt [⟨tg,iter,ifs,0⟩] scope pos) 0 (.ref it) (.ref l) (compEnvC scope cl C X.env)) (compPost (model X.prog X.w) X.A X.xe use Qc (.ref l) C) { s2 with heap:=h₁,toks:=s2.toks+([]:List (Str×Value)).length };exact codeAny_compStart_list loop (T.self _ 0 _ _ _ st3 loop)
theorem G1 (N:List Str) (fr:List (Option Nat)) {elt tg iter:Expr} {ifs:List Expr} {scope:Scope} {pos:Pos} {wi:TI} {g:TG} {tt:TT} {te:TE} {cl:List (Str×Addr)}
  (hc:X.calm=true) (hi:PI X tg iter wi) (hchk:G8 X.N X.env.scope scope N fr=true) (hclos:closureFor scope X.env=pure cl) (hcl:Qz X.env.cells cl) (hall:Jf cl scope.names)
  (hb:∀(C:Addr) (s:Shared) (H:Hp) (fp:List Addr),PG (Bv X scope cl N C s H fp) tg g/\Qg (Bv X scope cl N C s H fp) ifs tt/\PE (Bv X scope cl N C s H fp) elt te)
  (hs:∀x,foldedSetIterable iter X.env x=pure x:=by intro _;rfl) :
  PE X (.ListComp elt [⟨tg,iter,ifs,0⟩] scope pos) (MR fr wi g tt te):=by
 intro pins s σ H Q I h;rw[eval_ListComp];refine Nh N fr hc hi hchk hclos hcl hall hb hs I h λl H' s' C I' fC ⟨m,hn⟩ q=>?_
 refine⟨m,hn,λh'' hs''=>⟨.ref l,H',?_,rfl,q⟩⟩;obtain⟨f0,f1,f2,f3,f4,f5⟩:=fC;exact I'.turned (t':=s'.toks) (λb o hb e=>(hs''.2 b hb).trans e) f0 f1 f3 f4 f5
theorem KS (N:List Str) (fr:List (Option Nat)) {i:Nat} {x:Str} {elt tg iter:Expr} {ifs:List Expr} {scope:Scope} {cpos pos pos':Pos} {wi:TI} {g:TG} {tt:TT} {te:TE} {cl:List (Str×Addr)}
  (hN:X.N.Nodup) (hi':X.N[i]?=some x) (hx:Loc X.env.scope x)
  (hc:X.calm=true) (hi:PI X tg iter wi) (hchk:G8 X.N X.env.scope scope N fr=true) (hclos:closureFor scope X.env=pure cl) (hcl:Qz X.env.cells cl) (hall:Jf cl scope.names)
  (hb:∀(C:Addr) (s:Shared) (H:Hp) (fp:List Addr),PG (Bv X scope cl N C s H fp) tg g/\Qg (Bv X scope cl N C s H fp) ifs tt/\PE (Bv X scope cl N C s H fp) elt te)
  (hs:∀x,foldedSetIterable iter X.env x=pure x:=by intro _;rfl)
  (hsw:swapsWith (.ListComp elt [⟨tg,iter,ifs,0⟩] scope cpos) (some (.Name x pos')) pos.line X.env=pure true:=by rfl)
  (hf:X.fn x=true\/X.env.scope.names.lookup x=some .local:=by first|exact .inl rfl|exact .inr rfl|assumption) :
  PS X (.Assign [.Name x pos'] (.ListComp elt [⟨tg,iter,ifs,0⟩] scope cpos) pos) (Vj (MR fr wi g tt te) (BH i)):=by
 intro pins s σ H D I h;rw[exec_Assign_arm];refine af (gw ?_);rw[show swapsWithSole [.Name x pos'] (.ListComp elt [⟨tg,iter,ifs,0⟩] scope cpos) pos.line X.env=pure true from hsw];refine af (aw ?_);rw[aC rfl,arm_evalThenUse_ListComp];refine af (af ?_);have h1:MR fr wi g tt te σ H λv H1=>D.nx (σ.set i (some v)) H1:=h
 refine Nh (use:=some _) N fr hc hi hchk hclos hcl hall hb hs I h1 λl H' s' C I' fC ⟨m,hn⟩ q=>?_
 obtain⟨f0,f1,f2,f3,f4,f5⟩:=fC;obtain⟨o,es,ep,ho,hd,hk,hm⟩:=hn;have Ip:Inv X (pins++[(C,o)]) σ H' s':=I'.pins_of λp hp=>(ai.mp hp).elim (λz=>I'.pin p (bA _ z)) λz=>by
  rw[ag.mp z];exact⟨ho,f0,f1,f2,λv e=>by rw[hd] at e;cases e⟩
 show wpAny _ _ (assignAll (.ref l) [assign (.Name x pos') X.env]) _ _ _;rw[assignAll.eq_2];refine wpAny_assign_Name (IB Ip hN hi' hx (v:=.ref l) rfl (λs2 I2=>?_) hf);have ho2:=(I2.pin (C,o) (bA _ (bA _ (List.mem_singleton_self _)))).1;refine⟨m,⟨o,es,ep,ho2,hd,hk,hm⟩,λh' hs'=>aw (aw ⟨_,H',?_,q⟩)⟩;exact I2.unpinned.turned (t':=s2.toks) (λb o hb e=>(hs'.2 b hb).trans e) f0 f1 f3 f4 f5
def Jd (sc:Scope):Bool:=
 decide (sc.kind=.function)&&(sc.names.all λy=>!decide (y.2=.cell))&&(sc.names.all λy=>!decide (y.2=.local)||decide (sc.names.lookup y.1=some .local))&&(sc.names.all λy=>!decide (y.2=.free))
theorem Bl (N:List Str) {elt tg iter:Expr} {ifs:List Expr} {scope:Scope} {pos:Pos} {wi:TI} {g:TG} {tt:TT} {te:TE}
  (hc:X.calm=true) (hi:PI X tg iter wi) (hchk:Jd scope=true)
  (hb:∀(C:Addr) (s:Shared) (H:Hp) (fp:List Addr),PG (Bv X scope [] N C s H fp) tg g/\Qg (Bv X scope [] N C s H fp) ifs tt/\PE (Bv X scope [] N C s H fp) elt te)
  (hs:∀x,foldedSetIterable iter X.env x=pure x:=by intro _;rfl) :
  PE X (.ListComp elt [⟨tg,iter,ifs,0⟩] scope pos) (MR (N.map λ_=>none) wi g tt te):=by
 simp only[Jd,Bool.and_eq_true,decide_eq_true_eq,List.all_eq_true,Bool.or_eq_true,Bool.not_eq_true',decide_eq_false_iff_not] at hchk;obtain⟨⟨⟨hkind,hcell⟩,hnames⟩,hfree⟩:=hchk;refine G1 (cl:=[]) N (N.map λ_=>none) hc hi ?_ (closureFor_none λx hx=>hfree x hx) trivial ?_ hb hs
 ·simp only[G8,Bool.and_eq_true,decide_eq_true_eq,List.all_eq_true,Bool.or_eq_true,Bool.not_eq_true',decide_eq_false_iff_not];refine⟨⟨⟨⟨⟨hkind,by simp⟩,hcell⟩,hnames⟩,λy hy=>.inl (hfree y hy)⟩,λp hp=>?_⟩;have:p.2∈N.map λ_=>(none:Option Nat):=(eD hp).2
  obtain⟨_,_,e⟩:=ae.mp this;rw[<-e]
 ·have:∀ns:List (Str×NameKind),(∀y∈ns,y.2≠.free)->Jf [] ns:=by
   intro ns
   induction ns with
   |nil=>intro _;exact trivial
   |cons p r ih=>intro h;exact⟨λe=>absurd e (h p av),ih λy hy=>h y (ao _ hy)⟩
  exact this _ λy hy=>hfree y hy
theorem IF (N:List Str) {i:Nat} {x:Str} {elt tg iter:Expr} {ifs:List Expr} {scope:Scope} {cpos pos pos':Pos} {wi:TI} {g:TG} {tt:TT} {te:TE}
  (hN:X.N.Nodup) (hi':X.N[i]?=some x) (hx:Loc X.env.scope x)
  (hc:X.calm=true) (hi:PI X tg iter wi) (hchk:Jd scope=true)
  (hb:∀(C:Addr) (s:Shared) (H:Hp) (fp:List Addr),PG (Bv X scope [] N C s H fp) tg g/\Qg (Bv X scope [] N C s H fp) ifs tt/\PE (Bv X scope [] N C s H fp) elt te)
  (hs:∀x,foldedSetIterable iter X.env x=pure x:=by intro _;rfl)
  (hsw:swapsWith (.ListComp elt [⟨tg,iter,ifs,0⟩] scope cpos) (some (.Name x pos')) pos.line X.env=pure true:=by rfl)
  (hf:X.fn x=true\/X.env.scope.names.lookup x=some .local:=by first|exact .inl rfl|exact .inr rfl|assumption) :
  PS X (.Assign [.Name x pos'] (.ListComp elt [⟨tg,iter,ifs,0⟩] scope cpos) pos) (Vj (MR (N.map λ_=>none) wi g tt te) (BH i)):=by
 simp only[Jd,Bool.and_eq_true,decide_eq_true_eq,List.all_eq_true,Bool.or_eq_true,Bool.not_eq_true',decide_eq_false_iff_not] at hchk;obtain⟨⟨⟨hkind,hcell⟩,hnames⟩,hfree⟩:=hchk;refine KS (cl:=[]) N (N.map λ_=>none) hN hi' hx hc hi ?_ (closureFor_none λx hx=>hfree x hx) trivial ?_ hb hs hsw hf
 ·simp only[G8,Bool.and_eq_true,decide_eq_true_eq,List.all_eq_true,Bool.or_eq_true,Bool.not_eq_true',decide_eq_false_iff_not];refine⟨⟨⟨⟨⟨hkind,by simp⟩,hcell⟩,hnames⟩,λy hy=>.inl (hfree y hy)⟩,λp hp=>?_⟩;have:p.2∈N.map λ_=>(none:Option Nat):=(eD hp).2
  obtain⟨_,_,e⟩:=ae.mp this;rw[<-e]
 ·have:∀ns:List (Str×NameKind),(∀y∈ns,y.2≠.free)->Jf [] ns:=by
   intro ns
   induction ns with
   |nil=>intro _;exact trivial
   |cons p r ih=>intro h;exact⟨λe=>absurd e (h p av),ih λy hy=>h y (ao _ hy)⟩
  exact this _ λy hy=>hfree y hy
end
def Def (P:Program)(w:World)(K:PySem.W.Frag)(mg:Str->Option Value)(base:Heap)(k:Nat)(x:Str)(ps:List Str)(sp:Sp):Prop:=
 ∃(f:Addr) (fd:FuncData),FnOk P w K mg base BI k f fd ps sp/\mg x=some (.ref f)/\PySem.W.keepIn K (.ref f)=true/\Binds K fd ps []
section
variable {X:Cx}{k:Nat}{x:Str}{ps:List Str}{sp:Sp}{e:Expr}{es:List Expr}{t:TA}{p pos:Pos}
theorem AG (D:Def X.prog X.w X.K X.mg X.base k x ps sp) (hr:Room k X.A) (hg:Gl X x) (ha:PA X (e::es) t)
  (hdb:(x == ("__debug__":Str))=false:=by decide) (he:starEach (e::es) X.env=(false,eval e X.env)::starEach es X.env:=by rfl) (hpl:(backTo pos (starEach es X.env)).any (·.1)=false:=by rfl) :
  PE X (.Call (.Name x p) (e::es) [] pos) (Ro sp [] E0 t):=by
 obtain⟨f,fd,F,hm,hk,hb⟩:=D;exact UQ F hr hg hm hk hb .nil O2 ha hdb he hpl
theorem NS (D:Def X.prog X.w X.K X.mg X.base k x ps sp) (hr:Room k X.A) (hg:Gl X x)
  (hdb:(x == ("__debug__":Str))=false:=by decide) :
  PE X (.Call (.Name x p) [] [] pos) (Ro sp [] E0 OG):=by
 obtain⟨f,fd,F,hm,hk,hb⟩:=D;exact UJ F hr hg hm hk hb .nil O2 hdb
end
section
variable {X:Cx}
theorem AB {x:Str}{i:Int}{pos:Pos}(hg:Gl X x)(hm:∃t,X.mg x=some (.int i t))(hd:(x == ("__debug__":Str))=false:=by decide):PE X (.Name x pos) (tC (.int i)):=by
 obtain⟨t,hm⟩:=hm;exact QU hg hm ⟨_,rfl⟩ hd
theorem Kg {x:Str}{T:String}{pos:Pos}(hg:Gl X x)(hm:X.mg x=none)(hv:bootBuiltins x=some (.type T))(hn:x≠"__name__":=by decide)(hd:(x == ("__debug__":Str))=false:=by decide):PE X (.Name x pos) (tC (.ty T)):=U5 hg hm hv rfl hn hd
theorem IA {x z:Str}{pos:Pos}(hg:Gl X x)(hm:∃t,X.mg x=some (.str z t))(hd:(x == ("__debug__":Str))=false:=by decide):PE X (.Name x pos) (tC (.str z)):=by
 obtain⟨t,hm⟩:=hm;exact QU hg hm ⟨_,rfl⟩ hd
end
theorem Bz:bootBuiltins "isinstance"=some (.builtin "isinstance"):=by decide +kernel
theorem Lj:bootBuiltins "all"=some (.builtin "all"):=by decide +kernel
theorem T4:bootBuiltins "sum"=some (.builtin "sum"):=by decide +kernel
theorem G0:bootBuiltins "sorted"=some (.builtin "sorted"):=by decide +kernel
theorem AZ:bootBuiltins "len"=some (.builtin "len"):=by decide +kernel
theorem Xb:bootBuiltins "max"=some (.builtin "max"):=by decide +kernel
theorem WY:bootBuiltins "min"=some (.builtin "min"):=by decide +kernel
theorem WT:bootBuiltins "int"=some (.type "int"):=by decide +kernel
theorem VI:bootBuiltins "bool"=some (.type "bool"):=by decide +kernel
theorem NT:bootBuiltins "str"=some (.type "str"):=by decide +kernel
theorem K1:bootBuiltins "list"=some (.type "list"):=by decide +kernel
theorem Fe:bootBuiltins "tuple"=some (.type "tuple"):=by decide +kernel
theorem WA:bootBuiltins "set"=some (.type "set"):=by decide +kernel
theorem Iq:bootBuiltins "enumerate"=some (.type "enumerate"):=by decide +kernel
theorem Xm {t c:String}{b:Bool}(h:(if(Value.type t == Value.type c)=true then some true else if PySem.W.kitMeta c=true then(fastBuiltinMro t).map (·.contains (.type c)) else none)=some b)(K:PySem.W.Frag) :
  PySem.W.kitOne K (.type t) (.type c)=some b:=h
section
variable {X:Cx}
def Y6 (K:PySem.W.Frag):List V->Hp->VK->Prop:=λxs H Q=>∃x c t b,xs=[x,.ty c]/\TyOf K H x t/\PySem.W.kitOne K t (.type c)=some b/\Q (.bl b) H
theorem Cc:DS X (.builtin "isinstance") (Y6 X.K):=by
 intro pins s σ H xs us Q I r h;obtain⟨x,c,t,b,rfl,ty,e,q⟩:=h;obtain⟨u,v,rfl,ru,rv⟩:=vals2 r;have ev:v=Value.type c:=rv;subst ev;exact RX I ru ty e λtk=>⟨.bl b,H,I.tok _,rfl,q⟩
end
def GN:V->Bool
 | .non=>true
 | .int _=>true
 | .str _=>true
 |_=>false
theorem MT {x:V}(h:GN x=true):S5 x=true:=by
 cases x<;>first|rfl|exact h
theorem pure_eq {x y:V}(hx:GN x=true)(hy:GN y=true):Xe x y=decide (x=y):=by
 cases x<;>first|exact absurd (show false=true from hx) aB|skip
 all_goals (cases y<;>first|exact absurd (show false=true from hy) aB|skip)
 ·rfl
 ·rfl
 ·rfl
 ·rfl
 ·exact Fx.symm
 ·rfl
 ·rfl
 ·rfl
 ·exact Nv.symm
theorem MB:∀(xs ys:List V),xs.length=ys.length->xs.all GN=true->ys.all GN=true->
  ((List.range xs.length).all λi=>Xe (xs.getD i .non) (ys.getD i .non))=decide (xs=ys):=by
 intro xs
 induction xs with
 |nil=>
  intro ys hl _ _;cases ys with
  |nil=>rfl
  |cons _ _=>simp at hl
 |cons x xs ih=>
  intro ys hl hx hy;cases ys with
  |nil=>simp at hl
  |cons y ys=>
   rw[fV,bq] at hx hy;have q:=ih ys (by simpa using hl) hx.2 hy.2;rw[aL,List.range_succ_eq_map,fV,ie];have e0:((λi=>Xe ((x::xs).getD i .non) ((y::ys).getD i .non))∘Nat.succ)=λi=>Xe (xs.getD i .non) (ys.getD i .non):=by
    funext i;simp
   rw[e0,q];show(Xe x y&&decide (xs=ys))=_;rw[pure_eq hx.1 hy.1]
   by_cases h1:x=y
   ·by_cases h2:xs=ys<;>simp[h1,h2]
   ·simp[h1]
theorem QH {xs:List V}{us:List Value}(r:AW xs us){j:Nat}(hj:j<us.length):∃x,xs[j]?=some x/\RelV x us[j]:=by
 have hl:=r.length;obtain⟨u,e1,e2⟩:=r.get (i:=j) (x:=xs[j]'(by lia)) (by simp[show j<xs.length by lia]);refine⟨xs[j]'(by lia),by simp[show j<xs.length by lia],?_⟩;rw[aa hj] at e1;cases e1;exact e2
section
variable {X:Cx}
theorem Tz {A:Around} {s:Shared} {a b:Addr} {xs ys:List V} {its its2:List Value} (hu:A.units<cLine) (r1:AW xs its) (r2:AW ys its2) (h1:s.heap.IsList a its.toArray) (h2:s.heap.IsList b its2.toArray)
  (f1:xs.all GN=true) (f2:ys.all GN=true):SeqAt.RcAt A s (.ref a) (.ref b) (decide (xs=ys)):=by
 have l1:=r1.length;have l2:=r2.length
 by_cases hl:xs.length=ys.length
 ·have q:=SeqAt.RcAt.lists (A:=A) (s:=s) (e:=λi=>Xe (xs.getD i .non) (ys.getD i .non)) h1 h2 (by simp;lia) hu (λj g1 g2=>by
   have g1':j<its.length:=by simpa using g1
   have g2':j<its2.length:=by simpa using g2
   obtain⟨x,e1,rx⟩:=QH r1 g1';obtain⟨y,e2,ry⟩:=QH r2 g2';have p1:GN x=true:=bZ.mp f1 x (az e1);have p2:GN y=true:=bZ.mp f2 y (az e2);have:=WG (A:=A.in1) (s:=s) rx ry (MT p1) (MT p2);simpa [List.getD,e1,e2] using this)
  have e:(its.toArray.size)=xs.length:=by simp;lia
  rw[e,MB xs ys hl f1 f2] at q;exact q
 ·have e:decide (xs=ys)=false:=aS λz=>hl (by rw[z])
  rw[e];exact SeqAt.RcAt.lists_lengths h1 h2 (by simp;lia) hu
def Y1 (K:PySem.W.Frag)(neg:Bool):R2:=λx y H Q=>∃a b xs ys,x=.ref a/\y=.ref b/\AJ K H a xs/\AJ K H b ys/\xs.all GN=true/\ys.all GN=true/\Q (.bl (if neg then !decide (xs=ys) else decide (xs=ys))) H
theorem Xa (hu:X.A.units+1<cLine):Im X (compareOp .Eq) (Y1 X.K false):=by
 intro pins s σ H x y v u Q I rx ry h;obtain⟨a,b,xs,ys,rfl,rfl,h1,h2,f1,f2,q⟩:=h;cases rx;cases ry;obtain⟨its,r1,p1,_⟩:=I.list h1;obtain⟨its2,r2,p2,_⟩:=I.list h2;exact Tz (by lia) r1 r2 p1.isList p2.isList f1 f2 _ _ _ _ ⟨.bl _,H,I,rfl,q⟩
end
theorem Kj:∀{bs:List Bool} {us:List Value},AW (bs.map V.bl) us->LSm.BoolsAre us bs
 |[],_,.nil=>.nil
 |b::bs,_,.cons r t=>by
  have e:_=Value.bool b:=r;subst e;exact .cons b (Kj t)
section
variable {prog:Program}{w:World}{A:Around}{E:Value->Shared->Prop}{s:Shared}{l:Addr}{vs:List Value}
theorem UC {bs:List Bool} {Q:Value->Shared->Prop} (hh:A.handled=none) (hl:s.heap.IsList l vs.toArray) (hb:LSm.BoolsAre vs bs)
  (h:∀h' tk,(∀b o,s.heap.get? b=some o->h'.get? b=some o)->Q (.bool (bs.all id)) { s with heap:=h',toks:=tk }):wpAny (model prog w) A (call (.builtin "all") [.ref l]) Q E s:=by
 have below:l<s.heap.objs.size:=(by rintro⟨_,e,_⟩;exact aP e:s.heap.IsList l vs.toArray->_) hl;have whole:((List.range vs.toArray.size).all λi=>(bs[i]?).getD true)=bs.all id:=by rw[aW,hb.length,LSm.range_all]
 exact call_all_walk (dD hl ⟨s.heap.objs.size,[s.heap.objs.size,l],[s.heap.objs.size],vs.toArray.size,_,_,λi=>(bs[i]?).getD true,rfl,Walks.list (A:=A.in1) hh _ l (aX below) vs.toArray,⟨⟨_,aQ _ rfl,rfl,rfl⟩,hl.push _⟩,
  (λi v s' Q' E' hP hQ=>by
   obtain⟨b,hg,hv⟩:=hb.get i v (by simpa using hP);have hQ':Q' b s':=by simpa [hg] using hQ
   subst hv;exact cf hQ'),
  λh' tk hk=>whole▸h h' tk (LSm.kept_iter hk)⟩)
end
section
variable {X:Cx}
theorem GA (hc:X.calm=true):DS X (.builtin "all") (λxs H Q=>∃(a:Addr) (bs:List Bool),xs=[.ref a]/\AJ X.K H a (bs.map V.bl)/\Q (.bl (bs.all id)) H):=by
 intro pins s σ H xs us Q I r h;obtain⟨a,bs,rfl,h1,q⟩:=h;obtain⟨u,rfl,ru⟩:=vals1 r;cases ru;obtain⟨its,r1,p1,_⟩:=I.list h1;exact UC (I.ok.hd hc) p1.isList (Kj r1) λh' tk hk=>⟨.bl _,H,I.kept hk,rfl,q⟩
theorem Oz (hc:X.calm=true):DS X (.builtin "sum") (λxs H Q=>∃(a:Addr) (ns:List Int),xs=[.ref a]/\AJ X.K H a (ns.map V.int)/\Q (.int ns.sum) H):=by
 intro pins s σ H xs us Q I r h;obtain⟨a,ns,rfl,h1,q⟩:=h;obtain⟨u,rfl,ru⟩:=vals1 r;cases ru;obtain⟨its,r1,p1,_⟩:=I.list h1;have hi:=intsAre_of r1;obtain⟨zs,hz⟩:=hi.allInts.items;have due:preSum (numAt zs) zs.size=ns.sum:=by
  have:zs.toList.map (·.1)=ns:=by rw[<-nums_intItems,<-hz];exact hi.numsOf
  rw[<-this,preSum_eq,aK (by simp)]
 exact sum_intListG (I.ok.hd hc) (hz▸p1.isList) λh' tk t' hk=>⟨.int ns.sum,H,I.kept hk,⟨_,by rw[due]⟩,q⟩
def X8 (K:PySem.W.Frag):R2:=λx y H Q=>∃l b xs zs,x=.ref l/\y=.ref b/\AJ K H l xs/\AJ K H b zs/\xs.length+zs.length<=sizeLine/\∀p,H p=none->Q (.ref p) (upd H p (.lst (xs++zs)))
theorem DY:Im X (binaryOp .Add) (X8 X.K):=by
 intro pins s σ H x y v u Q I rx ry h;obtain⟨l,b,xs,zs,rfl,rfl,h1,h2,hz,q⟩:=h;cases rx;cases ry;obtain⟨its,r,p1,_⟩:=I.list h1;obtain⟨its2,r2,p2,_⟩:=I.list h2;have l1:=r.length;have l2:=r2.length;obtain⟨⟨cls,dd,data,sl⟩,ho,hc,n,hd⟩:=id p1.isList;obtain⟨⟨cls2,dd2,data2,sl2⟩,ho2,hc2,n2,hd2⟩:=id p2.isList;simp only at hc hd hc2 hd2;subst hc hd hc2 hd2;have e:its.toArray++its2.toArray=(its++its2).toArray:=by simp
 refine concat_meets ⟨_,ho,rfl⟩ ⟨_,ho2,rfl⟩ noFill_list_add seq_list_add PySem.F.slot_list_add PySem.F.entry_list_add (PySem.F.args_list_add_2 _ _) (list_addW l b its.toArray its2.toArray n n2 dd dd2 sl sl2 (by rw[aW,aW];lia)) ⟨ho,ho2,?_⟩;rw[e];exact⟨.ref _,_,I.lnew (t':=s.toks) (r.append r2) (by rw[ar];lia),rfl,q _ I.fresh⟩
end
theorem Al {H:Hp}{p:Addr}(h:H p=none)(o:HO):As H (upd H p o):=λb u q=>by rw[Aj (AD q h)];exact q
theorem A5 {H H':Hp}{p:Addr}(s:As H H')(h:H p=none)(o:HO):As H (upd H' p o):=λb u q=>by rw[Aj (AD q h)];exact s b u q
theorem As.get {H H':Hp}{a:Addr}{o:HO}(s:As H H')(h:H a=some o):H' a=some o:=s a o h
theorem Jg:1000000<=sizeLine:=by decide
theorem small {n:Nat}(h:n<=1000000):n<=sizeLine:=aY h Jg
theorem A7 {n:Nat}(h:n<1000000):n<sizeLine:=bh h Jg
theorem Re {ns:List Int}{i:Nat}{y:V}(h:(ns.map V.int)[i]?=some y):∃z,y=V.int z/\ns[i]?=some z:=by
 rw[aD] at h;cases e:ns[i]? with
 |none=>rw[e] at h;cases h
 |some z=>rw[e] at h;exact⟨z,(aA h).symm,rfl⟩
theorem TZ {ns:List Int}{i:Int}(h0:0<=i)(h1:i<ns.length):He (ns.map V.int) i=some (.int (ns.getD i.toNat 0)):=by
 have hk:i.toNat<ns.length:=by lia
 have ek:i=((i.toNat:Nat):Int):=by lia
 have q:He (ns.map V.int) ((i.toNat:Nat):Int)=some (.int (ns.getD i.toNat 0)):=C4 (by rw[aD,aa hk];simp[List.getD,List.getElem?_eq_getElem hk]);rw[<-ek] at q;exact q
theorem Jl {xs:List V}{i j:Int}(hi:0<=i)(hj:0<=j):Dn xs (some i) (some j)=(xs.drop i.toNat).take (j.toNat-i.toNat):=by
 unfold Dn;rw[show i=((i.toNat:Nat):Int) by lia,show j=((j.toNat:Nat):Int) by lia,HT.NJ,HT.NJ,gf,gf];generalize i.toNat=a;generalize j.toNat=b;apply bV;intro k;rw[List.getElem?_take,List.getElem?_take,eQ,eQ]
 by_cases ha:a<=xs.length
 ·rw[fD ha]
  by_cases hb:b<=xs.length
  ·rw[fD hb]
  ·rw[gq (by lia)]
   by_cases h1:k<xs.length-a
   ·rw[aC h1,aC (by lia)]
   ·rw[ay h1]
    split
    ·rw[aN (by lia)]
    ·rfl
 ·rw[gq (show xs.length<=a by lia)];rw[aN (by lia),aN (by lia)]
  split<;>split<;>rfl
theorem Oy (ns:List Int)(lo hi:Option Int):∃ms:List Int,Dn (ns.map V.int) lo hi=ms.map V.int/\ms.length<=ns.length/\∀x∈ms,x∈ns:=by
 refine⟨(ns.drop (HT.C0 (ns.map V.int).length 0 lo)).take (HT.C0 (ns.map V.int).length (ns.map V.int).length hi-HT.C0 (ns.map V.int).length 0 lo),?_,?_,λx hx=>cU (cg hx)⟩
 ·unfold Dn;rw[fb,gP]
 ·rw[bu,bP];lia
theorem AV {c:Bool}{A B:Prop}(h:c=false)(b:B):if c=true then A else B:=by
 subst h;rw[ay aB];exact b
theorem Ci {c:Bool}{A B:Prop}(h:c=true)(b:A):if c=true then A else B:=by
 subst h;rw[aC rfl];exact b
theorem dec_true {c:Prop}[Decidable c](h:decide c=true):c:=bf h
theorem dec_false {c:Prop}[Decidable c](h:¬decide c=true):¬c:=λz=>h (aH z)
theorem OE {t u:TT}{σ:St}{H:Hp}{Q:Bool->Hp->Prop}(c d:Bool)(ht:∀R:Bool->Hp->Prop,R c H->t σ H R)(hu:c=false->∀R:Bool->Hp->Prop,R d H->u σ H R)(q:Q (c||d) H):Zh t u σ H Q:=by
 refine ht _ ?_;cases c with
 |true=>rw[aC rfl];exact q
 |false=>rw[ay aB];exact hu rfl _ q
theorem XE {t u:TT}{σ:St}{H:Hp}{Q:Bool->Hp->Prop}(c d:Bool)(ht:∀R:Bool->Hp->Prop,R c H->t σ H R)(hu:c=true->∀R:Bool->Hp->Prop,R d H->u σ H R)(q:Q (c&&d) H):Yb t u σ H Q:=by
 refine ht _ ?_;cases c with
 |false=>rw[ay aB];exact q
 |true=>rw[aC rfl];exact hu rfl _ q
def Pm (J:It)(H:Hp)(xs:List V):Prop:=∀H',As H H'->∀i:Nat,(i<xs.length->J.go i H')/\(∀x H'',J.yld i H' x H''->H''=H'/\(i<xs.length->xs[i]?=some x))/\(xs.length<=i->J.stop i H')
theorem Ck {K:PySem.W.Frag}{a:Addr}{H:Hp}{xs:List V}(h:AJ K H a xs):Pm (W6 K a) H xs:=λH' s i=>
 ⟨λhi=>⟨xs,xs[i],s.seq h,by simp[hi]⟩,λx H'' y=>⟨y.1,λ_=>y.2 xs (s.seq h)⟩,λhi=>⟨xs,s.seq h,hi⟩⟩
theorem comp_map {J:It} {xs:List V} {fr:List (Option Nat)} {k:Nat} {te:TE} {Q:VK} {σ:St} {H:Hp} (f:V->V) (hJ:Pm J H xs) (hn:xs.length<=1000000)
  (helt:∀(x:V) (H':Hp) (R:VK),x∈xs->As H H'->(∀H'',As H' H''->R (f x) H'')->te ((stC fr σ).set k (some x)) H' R)
  (hQ:∀l H',H l=none->As H H'->H' l=some (.lst (xs.map f))->Q (.ref l) H') :
  Fm fr (BH k) Qw te σ Q J H:=by
 intro l hl;refine⟨λi m σ' H'=>m=xs.length-i/\i<=xs.length/\(∀y,σ'.set k y=(stC fr σ).set k y)/\As H H'/\H' l=some (.lst ((xs.take i).map f)),⟨xs.length,by simp,aR _,λ_=>rfl,Al hl _,by rw[Ag,dA,dC]⟩,?_⟩
 rintro i m σ' H' ⟨rfl,hi,hσ,hs,hl'⟩
 obtain⟨h1,h2,h3⟩:=hJ H' hs i
 by_cases hlt:i<xs.length
 ·refine .inr ⟨h1 hlt,λx H'' y=>?_⟩;obtain⟨rfl,hx⟩:=h2 x H'' y;have hx:=hx hlt;show te (σ'.set k (some x)) H'' _;rw[hσ];refine helt x H'' _ (az hx) hs λH4 s4=>?_
  refine⟨_,s4.get hl',A7 (by rw[ab,bu];lia),xs.length-(i+1),by lia,rfl,hlt,λy=>by rw[dh],A5 (hs.trans s4) hl _,?_⟩;rw[Ag,bg,hx];simp
 ·have e:i=xs.length:=by lia
  subst e;exact .inl ⟨h3 (ah _),hQ l H' hl hs (by rw[hl',aK (ah _)])⟩
section
variable {X:Cx}{K:PySem.W.Frag}
theorem II (h:X.K=K):XM X (Yl K):=by subst h;exact AE
end
theorem O6 {J:It} {xs:List V} {fr:List (Option Nat)} {k:Nat} {tt:TT} {te:TE} {Q:VK} {σ:St} {H:Hp} (p:V->Bool) (f:V->V) (hJ:Pm J H xs) (hn:xs.length<=1000000)
  (htest:∀(x:V) (H':Hp) (R:Bool->Hp->Prop),x∈xs->As H H'->R (p x) H'->tt ((stC fr σ).set k (some x)) H' R)
  (helt:∀(x:V) (H':Hp) (R:VK),x∈xs->p x=true->As H H'->(∀H'',As H' H''->R (f x) H'')->te ((stC fr σ).set k (some x)) H' R)
  (hQ:∀l H',H l=none->As H H'->H' l=some (.lst ((xs.filter p).map f))->Q (.ref l) H'):Fm fr (BH k) tt te σ Q J H:=by
 intro l hl;refine⟨λi m σ' H'=>m=xs.length-i/\i<=xs.length/\(∀y,σ'.set k y=(stC fr σ).set k y)/\As H H'/\H' l=some (.lst (((xs.take i).filter p).map f)),⟨xs.length,by simp,aR _,λ_=>rfl,Al hl _,by rw[Ag];rfl⟩,?_⟩
 rintro i m σ' H' ⟨rfl,hi,hσ,hs,hl'⟩
 obtain⟨h1,h2,h3⟩:=hJ H' hs i
 by_cases hlt:i<xs.length
 ·refine .inr ⟨h1 hlt,λx H'' y=>?_⟩;obtain⟨rfl,hx⟩:=h2 x H'' y;have hx:=hx hlt;have hm:=az hx;have et:(xs.take (i+1)).filter p=(xs.take i).filter p++(if p x=true then[x] else[]):=by
   rw[bg,hx,eS];cases q:p x<;>simp[q]
  show tt (σ'.set k (some x)) H'' _;rw[hσ];refine htest x H'' _ hm hs ?_;refine Cs (λc=>?_) (λc=>?_)
  ·refine helt x H'' _ hm c hs λH4 s4=>?_
   refine⟨_,s4.get hl',A7 ?_,xs.length-(i+1),by lia,rfl,hlt,λy=>by rw[dh],A5 (hs.trans s4) hl _,?_⟩
   ·rw[ab];have a:=cP p (xs.take i);rw[bu] at a
    lia
   ·rw[Ag,et,aC c,aJ];rfl
  ·exact⟨xs.length-(i+1),by lia,rfl,hlt,λy=>by rw[dh],hs,by rw[hl',et,ay c,bY]⟩
 ·have e:i=xs.length:=by lia
  subst e;exact .inl ⟨h3 (ah _),hQ l H' hl hs (by rw[hl',aK (ah _)])⟩
def Ok (H:Hp):V->Prop
 | .non=>True
 | .bl _=>True
 | .int _=>True
 | .str z=>z.length<=1000
 | .ref a=>(∃xs,H a=some (.lst xs))\/∃xs,H a=some (.tup xs)
 |_=>False
def G9 (H:Hp):V->String
 | .non=>"NoneType"
 | .bl _=>"bool"
 | .int _=>"int"
 | .str _=>"str"
 | .ref a=>match H a with
  |some (.lst _)=>"list"
  |some (.tup _)=>"tuple"
  |_=>"?"
 |_=>"?"
theorem Ok.ty {H:Hp}{v:V}(h:Ok H v)(K:PySem.W.Frag):TyOf K H v (.type (G9 H v)):=by
 cases v with
 |non=>exact .non
 |bl b=>exact .bl b
 |int i=>exact .int i
 |str z=>exact .str z
 |ref a=>
  rcases h with⟨xs,e⟩|⟨xs,e⟩
  ·have q:G9 H (.ref a)="list":=by simp only[G9,e]
   rw[q];exact .lst e
  ·have q:G9 H (.ref a)="tuple":=by simp only[G9,e]
   rw[q];exact .tup e
 |_=>exact h.elim
def isA (t c:String):Bool:=t == c||(t == "bool"&&c == "int")
theorem Vn {t c:String}(K:PySem.W.Frag)(ht:t∈["NoneType","bool","int","str","list","tuple"])(hc:c∈["bool","int","str","list","tuple"]):PySem.W.kitOne K (.type t) (.type c)=some (isA t c):=by
 have all:∀t∈["NoneType","bool","int","str","list","tuple"],∀c∈["bool","int","str","list","tuple"],(if(Value.type t == Value.type c)=true then some true else if PySem.W.kitMeta c=true then(fastBuiltinMro t).map (·.contains (.type c)) else none)=some (isA t c):=by decide +kernel
 exact Xm (all t ht c hc) K
theorem Ok.tyMem {H:Hp}{v:V}(h:Ok H v):G9 H v∈["NoneType","bool","int","str","list","tuple"]:=by
 cases v with
 |ref a=>
  rcases h with⟨xs,e⟩|⟨xs,e⟩
  ·simp only[G9,e];decide
  ·simp only[G9,e];decide
 |byt _=>exact h.elim
 |flt _=>exact h.elim
 |ty _=>exact h.elim
 |_=>simp only[G9];decide
theorem Ok.kit {H:Hp}{v:V}(h:Ok H v)(K:PySem.W.Frag){c:String}(hc:c∈["bool","int","str","list","tuple"]:=by decide):PySem.W.kitOne K (.type (G9 H v)) (.type c)=some (isA (G9 H v) c):=Vn K h.tyMem hc
theorem K0 {t u:TE}{σ:St}{H:Hp}{Q:VK}(c d:Bool)(ht:∀R:VK,R (.bl c) H->t σ H R)(hu:c=true->∀R:VK,R (.bl d) H->u σ H R)(q:Q (.bl (c&&d)) H):Wb t u σ H Q:=by
 refine ht _ ⟨c,rfl,?_⟩;cases c with
 |false=>rw[ay aB];exact q
 |true=>rw[aC rfl];exact hu rfl _ q
theorem WC {t u:TE}{σ:St}{H:Hp}{Q:VK}(c d:Bool)(ht:∀R:VK,R (.bl c) H->t σ H R)(hu:c=false->∀R:VK,R (.bl d) H->u σ H R)(q:Q (.bl (c||d)) H):Ym t u σ H Q:=by
 refine ht _ ⟨c,rfl,?_⟩;cases c with
 |true=>rw[aC rfl];exact q
 |false=>rw[ay aB];exact hu rfl _ q
theorem V9 {H:Hp}{a:Addr}{xs:List V}(e:H a=some (.lst xs)):G9 H (.ref a)="list":=by simp only[G9,e]
theorem UO {H:Hp}{a:Addr}{xs:List V}(e:H a=some (.tup xs)):G9 H (.ref a)="tuple":=by simp only[G9,e]
theorem Ok.elim {H:Hp} {v:V} (ok:Ok H v) {C:Prop} (c1:v=.non->G9 H v="NoneType"->C) (c2:∀b,v=.bl b->G9 H v="bool"->C) (c3:∀i,v=.int i->G9 H v="int"->C) (c4:∀z,v=.str z->z.length<=1000->G9 H v="str"->C)
  (c5:∀a xs,v=.ref a->H a=some (.lst xs)->G9 H v="list"->C) (c6:∀a xs,v=.ref a->H a=some (.tup xs)->G9 H v="tuple"->C):C:=by
 cases v with
 |non=>exact c1 rfl rfl
 |bl b=>exact c2 b rfl rfl
 |int i=>exact c3 i rfl rfl
 |str z=>exact c4 z rfl ok rfl
 |ref a=>
  rcases ok with⟨xs,e⟩|⟨xs,e⟩
  ·exact c5 a xs rfl e (V9 e)
  ·exact c6 a xs rfl e (UO e)
 |_=>exact(show False from ok).elim
def Gp (H:Hp)(v:V):Bool:=isA (G9 H v) "int" && !isA (G9 H v) "bool"
theorem RI (H:Hp)(i:Int):Gp H (.int i)=true:=by
 show(isA "int" "int" && !isA "int" "bool")=true
 decide
theorem Uw {H:Hp}{v:V}(ok:Ok H v)(h:Gp H v=true):∃i,v=.int i:=by
 unfold Gp at h;refine ok.elim (λ_ e=>?_) (λ_ _ e=>?_) (λi e _=>⟨i,e⟩) (λ_ _ _ e=>?_) (λ_ _ _ _ e=>?_) (λ_ _ _ _ e=>?_)
 all_goals (rw[e] at h;exact absurd h (by decide))
def Kz (a b:Int):V->Bool
 | .int i=>decide (a<=i)&&decide (i<=b)
 |_=>false
theorem VT {H:Hp}{v:V}{a b:Int}(h:Gp H v=false):Kz a b v=false:=by
 cases v with
 |int i=>rw[RI] at h;cases h
 |_=>rfl
theorem SW {H:Hp}{v:V}(ok:Ok H v)(h:isA (G9 H v) "tuple"=true):∃a xs,v=.ref a/\H a=some (.tup xs):=by
 refine ok.elim (λ_ e=>?_) (λ_ _ e=>?_) (λ_ _ e=>?_) (λ_ _ _ e=>?_) (λ_ _ _ _ e=>?_) (λa xs e1 e2 _=>⟨a,xs,e1,e2⟩)
 all_goals (rw[e] at h;exact absurd h (by decide))
theorem Xw {H:Hp}{v:V}(ok:Ok H v)(h:isA (G9 H v) "str"=true):∃z,v=.str z/\z.length<=1000:=by
 refine ok.elim (λ_ e=>?_) (λ_ _ e=>?_) (λ_ _ e=>?_) (λz e1 e2 _=>⟨z,e1,e2⟩) (λ_ _ _ _ e=>?_) (λ_ _ _ _ e=>?_)
 all_goals (rw[e] at h;exact absurd h (by decide))
def WB (x:Str):It:=⟨λi _=>i<x.cps.size,λi H v H'=>H'=H/\∃c,x.cps[i]?=some c/\v=.str ⟨#[c]⟩,λi _=>x.cps.size<=i⟩
theorem PB {P:Program}{w:World}{K:PySem.W.Frag}{tg:Expr}(it:Addr)(x:Str)(t:Tok):Turn P w K tg (WB x) [it] it (λi h=>h.IsStrIter it "str_ascii_iterator" x t i) where
 mem:=by simp
 obj:=λi h st b hb=>by
  have e:b=it:=by simpa using hb
  subst e;obtain⟨o,e,c,d⟩:=st;exact⟨o,e,λv z=>by rw[d] at z;cases z⟩
 keep:=λi h h' st k=>by
  obtain⟨o,e,c,d⟩:=st;exact⟨o,k it (by simp) o e,c,d⟩
 item:=by
  intro X hP hw hK hc i pins s σ H E I hf st hg;subst hP hw hK;have hg':i<x.cps.size:=hg;obtain⟨f0,f1,f2,f3,f4,f5⟩:=hf it (by simp);refine wpAny_pyNext_ascii_item st (c:=x.cps[i]) (by simp[hg']) λh' st' sb=>?_
  have I1:Inv X pins σ H { s with heap:=h',toks:=s.toks+1 }:=I.turned (λb o hb e=>(sb.2 b hb).trans e) f0 f1 f3 f4 f5;obtain⟨o,e,c,d⟩:=id st';exact⟨_,rfl,Ow (s:={ s with heap:=h',toks:=s.toks+1 }) e c d (by decide) ⟨.str ⟨#[x.cps[i]]⟩,H,I1,⟨_,rfl⟩,⟨rfl,_,by simp[hg'],rfl⟩,st',λb hb=>(hf b hb).1⟩⟩
 done:=by
  intro X hP hw hK hc i pins s σ H E I hf st hg;subst hP hw hK;have hg':x.cps.size<=i:=hg;obtain⟨f0,f1,f2,f3,f4,f5⟩:=hf it (by simp);exact wpAny_pyNext_ascii_end (I.ok.hd hc) st (by simp[hg']) λh' eb=>⟨rfl,I.turned (t':=s.toks) (λb o hb e=>eb b o hb e) f0 f1 f3 f4 f5⟩
 self:=λ_ _ _ _ _ st h=>wpAny_pyIter_striter_ascii st h
theorem RW {P:Program}{w:World}{K:PySem.W.Frag}{tg:Expr}(it:Addr)(x:Str)(t:Tok):Turn P w K tg (WB x) [it] it (λi h=>h.IsStrIter it "str_iterator" x t i) where
 mem:=by simp
 obj:=λi h st b hb=>by
  have e:b=it:=by simpa using hb
  subst e;obtain⟨o,e,c,d⟩:=st;exact⟨o,e,λv z=>by rw[d] at z;cases z⟩
 keep:=λi h h' st k=>by
  obtain⟨o,e,c,d⟩:=st;exact⟨o,k it (by simp) o e,c,d⟩
 item:=by
  intro X hP hw hK hc i pins s σ H E I hf st hg;subst hP hw hK;have hg':i<x.cps.size:=hg;obtain⟨f0,f1,f2,f3,f4,f5⟩:=hf it (by simp);refine wpAny_pyNext_wide_item st (c:=x.cps[i]) (by simp[hg']) λh' st' sb=>?_
  have I1:Inv X pins σ H { s with heap:=h',toks:=s.toks+1 }:=I.turned (λb o hb e=>(sb.2 b hb).trans e) f0 f1 f3 f4 f5;obtain⟨o,e,c,d⟩:=id st';exact⟨_,rfl,Ow (s:={ s with heap:=h',toks:=s.toks+1 }) e c d (by decide) ⟨.str ⟨#[x.cps[i]]⟩,H,I1,⟨_,rfl⟩,⟨rfl,_,by simp[hg'],rfl⟩,st',λb hb=>(hf b hb).1⟩⟩
 done:=by
  intro X hP hw hK hc i pins s σ H E I hf st hg;subst hP hw hK;have hg':x.cps.size<=i:=hg;obtain⟨f0,f1,f2,f3,f4,f5⟩:=hf it (by simp);exact wpAny_pyNext_wide_end (I.ok.hd hc) st (by simp[hg']) λh' eb=>⟨rfl,I.turned (t':=s.toks) (λb o hb e=>eb b o hb e) f0 f1 f3 f4 f5⟩
 self:=λ_ _ _ _ _ st h=>wpAny_pyIter_striter_wide st h
section
variable {X:Cx}{tg:Expr}
def Y4 (tl:TE):TI:=λσ H R=>tl σ H λx H1=>∃z,x=.str z/\R (WB z) H1
theorem GC {l:Expr}{tl:TE}(hl:PE X l tl):PI X tg l (Y4 tl):=by
 intro pins s σ H R I h;refine Bm (hl pins s σ H _ I h) λv s1 z9=>?_
 obtain⟨x,H1,I1,r1,q1⟩:=z9;obtain⟨z,e,q⟩:=q1;subst e;obtain⟨t,rfl⟩:=r1;have fp:∀b∈[s1.heap.objs.size],IR X pins H1 b:=λb hb=>by
  have e:b=s1.heap.objs.size:=by simpa using hb
  subst e;exact I1.fpOk (ah _) (I1.hok.fresh (ah _))
 cases ha:z.cps.all (· < 128)
 ·exact wpAny_pyIter_wide ha ⟨s1.heap.objs.size,[s1.heap.objs.size],_,_,H1,rfl,I1.kept (t':=s1.toks) (λb o e=>aq _ e),RW _ z t,⟨_,aQ _ rfl,rfl,rfl⟩,fp,q⟩
 ·exact wpAny_pyIter_ascii ha ⟨s1.heap.objs.size,[s1.heap.objs.size],_,_,H1,rfl,I1.kept (t':=s1.toks) (λb o e=>aq _ e),PB _ z t,⟨_,aQ _ rfl,rfl,rfl⟩,fp,q⟩
end
theorem Rr {x:Str} {g:TG} {tb:TS} {D:Ends} {σ:St} {H:Hp} (Pv:Nat->St->Hp->Prop) (h0:Pv 0 σ H)
  (hs:∀i c σ H,x.cps[i]?=some c->Pv i σ H->g (.str ⟨#[c]⟩) σ H λσ2 H2=>tb { D with nx:=Pv (i+1),ct:=Pv (i+1),bk:=D.nx } σ2 H2) (hd:∀σ H,Pv x.cps.size σ H->D.nx σ H) :
  ∃W:Nat->Nat->St->Hp->Prop,(∃m,W 0 m σ H)/\∀i m σ H,W i m σ H->
   ((WB x).stop i H/\D.nx σ H)\/((WB x).go i H/\∃N:St->Hp->Prop,(∀σ' H',N σ' H'->∃m',m'<m/\W (i+1) m' σ' H')/\∀v H',(WB x).yld i H v H'->g v σ H' λσ2 H2=>tb { D with nx:=N,ct:=N,bk:=D.nx } σ2 H2):=by
 refine⟨λi m σ H=>m=x.cps.size-i/\i<=x.cps.size/\Pv i σ H,⟨x.cps.size,by simp,aR _,h0⟩,?_⟩
 rintro i m σ H ⟨rfl,hi,p⟩
 by_cases hlt:i<x.cps.size
 ·refine .inr ⟨hlt,Pv (i+1),λσ' H' p'=>⟨x.cps.size-(i+1),by lia,rfl,hlt,p'⟩,λv H' y=>?_⟩;obtain⟨e,c,hc,e2⟩:=y;subst e e2;exact hs i c σ _ hc p
 ·have e:i=x.cps.size:=by lia
  subst e;exact .inl ⟨ah _,hd σ H p⟩
theorem IX {x:Str}{H:Hp}:Pm (WB x) H (x.cps.toList.map λc=>V.str ⟨#[c]⟩):=λH' s i=>
 ⟨λhi=>(by simpa using hi:i<x.cps.size),λv H'' y=>⟨y.1,λhi=>by
  obtain⟨_,c,hc,e⟩:=y;rw[aD,cF,hc,e];rfl⟩,λhi=>(by simpa using hi:x.cps.size<=i)⟩
section
variable {X:Cx}
def Xg:V->List V->Hp->VK->Prop:=λx vs H Q=>∃t u,x=.str t/\vs=[.str u]/\0<=Txt.find t u/\Q (.int (Txt.find t u)) H
theorem GU (hc:X.calm=true):XO X "str.index" Xg:=by
 intro pins s σ H x vs v us Q I rx rv h;obtain⟨t,u,rfl,rfl,h0,q⟩:=h;obtain⟨tk,rfl⟩:=rx;obtain⟨y,rfl,ry⟩:=rv.one;obtain⟨tk2,rfl⟩:=ry;refine index_or (I.ok.hd hc) (λe=>absurd e (by lia)) λ_ _=>⟨.int (Txt.find t u),H,I.tok _,⟨_,rfl⟩,q⟩
end
section
variable {X:Cx}
def YJ:V->Option Int->Option Int->Hp->VK->Prop:=λx lo hi H Q=>∃z:Str,x=.str z/\z.length<=sizeLine/\Q (.str (PySem.Txt.slice z lo hi)) H
theorem Lr:Yv X YJ:=by
 intro pins s σ H x v vl vu lo hi sl Q I rx hs pl pu h;obtain⟨z,rfl,hz,q⟩:=h;obtain⟨t,rfl⟩:=rx;refine⟨"str",_,slot_str_getitem.lookup,typeIs_str _ _ _,?_⟩;cases pl with
 |none=>
  cases pu with
  |none=>exact dW (l:=none) (u:=none) (st:=none) hs rfl (fU ⟨aY (eO z _ _) hz,λt' k=>⟨.str _,H,I.tok k,⟨_,rfl⟩,q⟩⟩)
  |int j tj=>exact dW (l:=none) (u:=some (j,tj)) (st:=none) hs rfl (fU ⟨aY (eO z _ _) hz,λt' k=>⟨.str _,H,I.tok k,⟨_,rfl⟩,q⟩⟩)
 |int i ti=>
  cases pu with
  |none=>exact dW (l:=some (i,ti)) (u:=none) (st:=none) hs rfl (fU ⟨aY (eO z _ _) hz,λt' k=>⟨.str _,H,I.tok k,⟨_,rfl⟩,q⟩⟩)
  |int j tj=>exact dW (l:=some (i,ti)) (u:=some (j,tj)) (st:=none) hs rfl (fU ⟨aY (eO z _ _) hz,λt' k=>⟨.str _,H,I.tok k,⟨_,rfl⟩,q⟩⟩)
theorem Qm {ys:List Str}:∀{us:List Value},AW (ys.map V.str) us->StrsAre us ys:=by
 induction ys with
 |nil=>intro us r;rw[dC] at r;cases r;exact .nil
 |cons n ns ih=>
  intro us r;rw[au] at r;cases r with
  |cons r1 r2=>
   obtain⟨t,e⟩:=r1;subst e;exact .cons n t (ih r2)
def rJoin (K:PySem.W.Frag):V->List V->Hp->VK->Prop:=λx vs H Q=>∃(a:Addr) (z:Str) (ys:List Str),x=.str z/\vs=[.ref a]/\AJ K H a (ys.map V.str)/\(ys.map (·.length)).sum+ys.length*z.length<=16777216/\Q (.str (PySem.Txt.join z ys)) H
theorem NC (_:X.calm=true):XO X "str.join" (rJoin X.K):=by
 intro pins s σ H x vs v us Q I rx rv h;obtain⟨a,z,ys,rfl,rfl,hq,hz,q⟩:=h;obtain⟨tk,rfl⟩:=rx;obtain⟨y,rfl,ry⟩:=rv.one;cases ry;obtain⟨its,r1,p1,_⟩:=I.list hq;exact join_list p1.isList (Qm (by simpa using r1)) hz λt' k=>⟨.str _,H,I.tok k,⟨_,rfl⟩,q⟩
end
end L2
namespace L2
open PySem PySem.Spec PyProof.Rows PySem.Builtin.Str
abbrev A3 (z:Str):List Nat:=z.cps.toList
theorem AO (z:Str):(A3 z).length=z.length:=by simp[Str.length]
theorem Dz {x y:Str}(h:A3 x=A3 y):x=y:=by
 obtain⟨a⟩:=x;obtain⟨b⟩:=y;have:a=b:=Array.toList_inj.mp h;rw[this]
theorem DW (a y:Str):A3 (a++y)=A3 a++A3 y:=by
 show(a.cps++y.cps).toList=_;simp
theorem We (z:Str){j:Int}(h0:0<=j):A3 (PySem.Txt.slice z none (some j))=(A3 z).take j.toNat:=by
 have hc:StrLaws.sliceText z none (some j)=StrLaws.sliceText z none (some (min j z.length)):=by
  have e:strSliceIndices none (some j) 1 z.length=strSliceIndices none (some (min j z.length)) 1 z.length:=by
   unfold strSliceIndices;have e1:(if j<0 then j+(z.length:Int) else j)=j:=ay (by lia);have e2:(if min j (z.length:Int)<0 then min j (z.length:Int)+(z.length:Int) else min j (z.length:Int))=min j z.length:=ay (by lia);simp only[e1,e2];have e3:max 0 (min j (z.length:Int))=max 0 (min (min j (z.length:Int)) z.length):=by lia
   rw[e3];simp only[if_pos (show(1:Int)>0 by decide)]
  unfold StrLaws.sliceText;rw[e]
 show A3 (StrLaws.sliceText z none (some j))=_;rw[hc,StrLaws.sliceText_to ⟨by lia,by rw[AO z];lia⟩];show((A3 z).drop 0).take (min j (z.length:Int)-0).toNat=_;rw[cZ]
 by_cases h:j<=z.length
 ·congr 1;lia
 ·have hl:=AO z;rw[aK (by lia),aK (by lia)]
end L2
namespace L2
open PySem PySem.Spec PyProof.Rows
theorem Uz:bootBuiltins "abs"=some (.builtin "abs"):=by decide +kernel
theorem Vx (a v:Value):checkTypeCall "enumerate" ⟨[a],[("start",v)]⟩=pure ():=by kernel_rfl
theorem UZ (a v:Value):checkBuiltinCall "enumerate.__new__" ⟨[.type "enumerate",a],[("start",v)]⟩=pure ():=by kernel_rfl
theorem VC (obj a v:Value):argsOk "object.__init__" ⟨[obj,a],[("start",v)]⟩:=by kernel_rfl
theorem V3 (l:Addr)(items:Array Value)(m:Nat)(sl:Array (Option Value))(t:Tok):Meets (Builtin.«enumerate.__new__» ⟨[.type "enumerate",.ref l],[("start",.int 1 t)]⟩) λ_ R s=>
  s.heap.get? l=some { cls:=.type "list",dict:=none,data:=.seq items m,slots:=sl }/\R (.ok (.ret (.ref (s.heap.objs.size+1))))
   { s with heap:=(s.heap.push { cls:=.type "list_iterator",data:=.fields #[.ref l,.int 0 0] }).push { cls:=.type "enumerate",data:=.fields #[.none,.bool false,.ref s.heap.objs.size,rawInt 1,.none,.none] } }:=by
 refine .of_wp λprog w A R s h=>?_
 obtain⟨hl,h⟩:=h;have hsub:=sub_enumerate;have hL:s.heap.IsList l items:=⟨_,hl,rfl,m,rfl⟩
 obtain⟨hp,g,d,tk,os⟩:=s
 wp_walk using dY hl
 refine wpAny_stack_any λst=>aw ?_
 split
 ·rename_i c _ _ _ _ _
  cases hcc:(c == Value.type "enumerate")<;>wp_walk using dY hl,dD hL
  all_goals (refine⟨_,rfl,?_⟩;rw[bW];exact h)
 ·wp_walk using dY hl,dD hL
  refine⟨_,rfl,?_⟩;rw[bW];exact h
theorem UR {self a v:Value}:Meets (Builtin.«object.__init__» ⟨[self,a],[("start",v)]⟩) λ_ R s=>s.TypeIs self "enumerate"/\R (.ok (.ret .none)) s:=by
 have hl:=F.called_enumerate.init.lookup;have hm:=F.called_enumerate.made;have hne:(some "enumerate.__new__" != some "object.__new__")=true:=by decide
 refine .of_wp λprog w A R s h=>?_
 obtain⟨hT,hq⟩:=h
 repeat (any_goals (first|wp_step|assumption))
 all_goals exact⟨_,rfl,hq⟩
section
variable {prog:Program}{w:World}{A:Around}{E:Value->Shared->Prop}{s:Shared}
theorem RU {l:Addr} {items:Array Value} {m:Nat} {sl:Array (Option Value)} {t:Tok} {Q:Value->Shared->Prop} (hl:s.heap.get? l=some { cls:=.type "list",dict:=none,data:=.seq items m,slots:=sl })
  (h:Q (.ref (s.heap.objs.size+1)) { s with heap:=(s.heap.push { cls:=.type "list_iterator",data:=.fields #[.ref l,.int 0 0] }).push { cls:=.type "enumerate",data:=.fields #[.none,.bool false,.ref s.heap.objs.size,rawInt 1,.none,.none] } }) :
  wpAny (model prog w) A (call (.type "enumerate") [.ref l] [("start",.int 1 t)]) Q E s:=by
 have ft:=F.called_enumerate;obtain⟨c,tl,hmro⟩:=ft.mro;have hmade:=ft.made;have hsub:=ft.sub;have hct:=Vx (.ref l) (.int 1 t);refine gB (g6 (aw (?_:_/\_)));refine⟨Code.quiet_builtin _ (by decide +kernel),cY F.entry_type_call ?_⟩;rw[Around.under_plain (weight_type_call_type "enumerate" _ _) (units_type_call_type "enumerate" _ _)];have h1:=ft.notType;have h2:=ft.canCreate
 repeat (any_goals (first|wp_step|assumption))
 let s':Shared:={ s with heap:=(s.heap.push { cls:=.type "list_iterator",data:=.fields #[.ref l,.int 0 0] }).push { cls:=.type "enumerate",data:=.fields #[.none,.bool false,.ref s.heap.objs.size,rawInt 1,.none,.none] } }
 have key:codeAny (model prog w) A.in1 (.call (.builtin "enumerate.__new__") ⟨[.type "enumerate",.ref l],[("start",.int 1 t)]⟩) (λr s1=>r=.ok (.ret (.ref (s.heap.objs.size+1)))/\s1=s') s:=
  eK ft.plain F.entry_enumerate_new (gR (UZ _ _) (V3 l items m sl t prog w A.in1 (λr s1=>r=.ok (.ret (.ref (s.heap.objs.size+1)))/\s1=s') s ⟨hl,rfl,rfl⟩))
 refine du key λr s₁ hr=>?_
 obtain⟨rfl,rfl⟩:=hr;have hz:(s.heap.push { cls:=.type "list_iterator",data:=.fields #[.ref l,.int 0 0] }).objs.size=s.heap.objs.size+1:=bW ..;have hT:s'.TypeIs (.ref (s.heap.objs.size+1)) "enumerate":=⟨_,by rw[<-hz];exact aQ _ rfl,rfl⟩
 have hq:Q (.ref (s.heap.objs.size+1)) s':=h
 clear_value s'
 have hli:=ft.init.lookup;have hbi:=ft.init.bind (.ref (s.heap.objs.size+1));show wpAny _ _ _ _ _ _
 repeat (any_goals (first|wp_step|assumption))
 have key2:codeAny (model prog w) A.in1 (.call (.builtin "object.__init__") ⟨[.ref (s.heap.objs.size+1),.ref l],[("start",.int 1 t)]⟩) (λr s1=>r=.ok (.ret .none)/\s1=s') s':=
  eK ft.init.plain F.entry_object_init (ft.init.check _ _ _ _ _ _ _ _ hT (VC _ _ _) (UR prog w A.in1 (λr s1=>r=.ok (.ret .none)/\s1=s') s' ⟨hT,rfl,rfl⟩))
 refine du key2 λr s₂ hr=>?_
 obtain⟨rfl,rfl⟩:=hr;show wpAny _ _ _ _ _ _
 repeat (any_goals (first|wp_step|assumption))
theorem J3 (hh:A.handled=none)(it l:Addr)(hne:l≠it)(items:Array Value) :
  Draws prog w A it [it,l] (items.size+1) (λj v=>∃i,j=i+1/\items[i]?=some v) (λj h=>∃i,j=i+1/\h.IsListIter it l i/\h.IsList l items):=by
 have D:=Draws.list (prog:=prog) (w:=w) (A:=A) hh it l hne items;refine⟨(by rintro j h ⟨i,_,st⟩;exact D.live i h st),λj h h' ⟨i,e,st⟩ hk=>⟨i,e,D.frame i h h' st hk⟩,λj s Q E hj ⟨i,e,st⟩ hQ=>?_,λs Q E ⟨i,e,st⟩ hE=>?_⟩
 ·subst e;exact D.item i s Q E (by lia) st λx h' tk hx st' hs=>hQ x h' tk ⟨i,rfl,hx⟩ ⟨i+1,rfl,st'⟩ hs
 ·have e':i=items.size:=by lia
  subst e';exact D.done s Q E st hE
end
section
variable {X:Cx}{pins:List (Addr×Obj)}{σ:St}{H:Hp}{s:Shared}{h':Heap}
theorem Inv.turned2 {t':Nat} {e it T:Addr} {xs:List V} {us:List Value} (I:Inv X pins σ H s) (fe:IR X pins H e) (fi:IR X pins H it) (k:∀b o,b≠e->b≠it->s.heap.get? b=some o->h'.get? b=some o)
  (hT:s.heap.objs.size<=T) (r:AW xs us) (hz:xs.length<=sizeLine) (ht:KM (XX xs) h' T us.toArray):Inv X pins σ (upd H T (.tup xs)) { s with heap:=h',toks:=t' }:=by
 obtain⟨e0,e1,e2,e3,e4,e5⟩:=fe;obtain⟨i0,i1,i2,i3,i4,i5⟩:=fi;have hn:H T=none:=I.hok.fresh hT;have nT:∀b o,s.heap.get? b=some o->b≠T:=λb o q=>aX (bh (aP q) hT)
 have kc:∀b o,b∉[e,it]->s.heap.get? b=some o->h'.get? b=some o:=λb o hb q=>k b o (λz=>hb (by simp[z])) (λz=>hb (by simp[z])) q
 have up:∀b u,H b=some u->upd H T (.tup xs) b=some u:=λb u q=>by rw[Aj (AD q hn)];exact q
 refine I.step (g':=s.gens) (d':=s.drawn) (ch:=[e,it]) (λb hb=>?_) (λb o _ _ hc q _=>kc b o hc q) (λb o _ _ hc q _=>⟨o.slots,kc b o hc q⟩) (λb o _ q n=>by rw[Aj (nT b o q)];exact n)
  (λb o hc q=>⟨o,kc b o hc q⟩) (λb ys q=>up b _ q) (λb o u q=>up b _ q) (λb ps q=>⟨#[],by rw[up b _ q];simp⟩) (λm hm=>?_) (λb u q=>?_) I.bare
 ·rcases aM.mp hb with rfl|hb
  ·exact⟨e3,e1,e4,e5⟩
  ·rw[ag.mp hb];exact⟨i3,i1,i4,i5⟩
 ·obtain⟨o,es,ep,ho,hr⟩:=hm;exact⟨o,es,ep,k _ o (Ne.symm e1) (Ne.symm i1) ho,hr⟩
 ·by_cases hb:b=T
  ·subst hb;rw[Ag] at q;cases q;exact⟨hz,us,r,ht⟩
  ·rw[Aj hb] at q;have nn:∀c v,H c=some v->c≠e/\c≠it:=λc v z=>⟨λy=>(by rw[y,e0] at z;cases z),λy=>(by rw[y,i0] at z;cases z)⟩
   refine(I.hok b u q).stay (λc v hc z=>?_) (λc z=>up c _ z) λc ys z=>up c _ z
   rcases hc with y|y
   ·subst y;exact k c v (nn c u q).1 (nn c u q).2 z
   ·exact k c v (nn c _ y).1 (nn c _ y).2 z
theorem Inv.turned2n {t':Nat}{e it:Addr}(I:Inv X pins σ H s)(fe:IR X pins H e)(fi:IR X pins H it)(k:∀b o,b≠e->b≠it->s.heap.get? b=some o->h'.get? b=some o):Inv X pins σ H { s with heap:=h',toks:=t' }:=by
 obtain⟨e0,e1,e2,e3,e4,e5⟩:=fe;obtain⟨i0,i1,i2,i3,i4,i5⟩:=fi;have kc:∀b o,b∉[e,it]->s.heap.get? b=some o->h'.get? b=some o:=λb o hb q=>k b o (λz=>hb (by simp[z])) (λz=>hb (by simp[z])) q
 refine I.step (g':=s.gens) (d':=s.drawn) (ch:=[e,it]) (λb hb=>?_) (λb o _ _ hc q _=>kc b o hc q) (λb o _ _ hc q _=>⟨o.slots,kc b o hc q⟩) (λb o _ q n=>n)
  (λb o hc q=>⟨o,kc b o hc q⟩) (λb ys q=>q) (λb o u q=>q) (λb ps q=>⟨#[],by rw[q];simp⟩) (λm hm=>?_) (λb u q=>?_) I.bare
 ·rcases aM.mp hb with rfl|hb
  ·exact⟨e3,e1,e4,e5⟩
  ·rw[ag.mp hb];exact⟨i3,i1,i4,i5⟩
 ·obtain⟨o,es,ep,ho,hr⟩:=hm;exact⟨o,es,ep,k _ o (Ne.symm e1) (Ne.symm i1) ho,hr⟩
 ·have nn:∀c v,H c=some v->c≠e/\c≠it:=λc v z=>⟨λy=>(by rw[y,e0] at z;cases z),λy=>(by rw[y,i0] at z;cases z)⟩
  refine(I.hok b u q).stay (λc v hc z=>?_) (λc z=>z) λc ys z=>z
  rcases hc with y|y
  ·subst y;exact k c v (nn c u q).1 (nn c u q).2 z
  ·exact k c v (nn c _ y).1 (nn c _ y).2 z
end
def Ys (K:PySem.W.Frag)(a:Addr):It:=
 ⟨λi H=>∃xs x,AJ K H a xs/\xs[i]?=some x,λi H v H'=>∃T x,H T=none/\v=.ref T/\(∀xs,AJ K H a xs->xs[i]?=some x)/\H'=upd H T (.tup [.int ((i:Int)+1),x]),λi H=>∃xs,AJ K H a xs/\xs.length=i⟩
theorem RZ {P:Program}{w:World}{K:PySem.W.Frag}{els:List Expr}{kk:Nat}{pp:Pos}(a e it:Addr)(hei:e≠it):Turn P w K (.Tuple els kk pp) (Ys K a) [e,it] e (λi h=>(∃old,IsEnum h e it ((i:Int)+1) old)/\h.IsListIter it a i) where
 mem:=by simp
 obj:=λi h st b hb=>by
  obtain⟨⟨old,he⟩,o,ho,_,hd⟩:=st;rcases aM.mp hb with rfl|hb
  ·exact⟨_,he,λv z=>by cases z⟩
  ·rw[ag.mp hb];exact⟨o,ho,λv z=>by rw[hd] at z;cases z⟩
 keep:=λi h h' st hk=>by
  obtain⟨⟨old,he⟩,o,ho,r⟩:=st;exact⟨⟨old,hk e (by simp) _ he⟩,o,hk it (by simp) o ho,r⟩
 item:=λX hP hw hK hc i pins s σ H E I hf st hg=>by
  subst hP hw hK;obtain⟨xs,x,hq,hx⟩:=hg;obtain⟨its,rv,p,hz⟩:=I.list hq;obtain⟨⟨old,he⟩,hit⟩:=st;have fe:=hf e (by simp);have fi:=hf it (by simp);obtain⟨u,hu,ru⟩:=rv.get hx;have il:=p.isList;have nae:a≠e:=λz=>by
   obtain⟨o,ho,c1,_⟩:=il;rw[z,he] at ho;cases ho;injection c1 with y;exact absurd y (by decide)
  have nai:a≠it:=λz=>by
   obtain⟨o,ho,c1,_⟩:=il;obtain⟨o2,ho2,c2,_⟩:=hit;rw[z,ho2] at ho;cases ho;rw[c2] at c1;injection c1 with y;exact absurd y (by decide)
  have W:=fA (prog:=X.prog) (w:=X.w) (A:=X.A) (J3 (prog:=X.prog) (w:=X.w) (A:=X.A.in1) (I.ok.hd hc) it a nai its.toArray) e hei (by simp[hei,Ne.symm nae]) (by simp);refine W.item (i+1) s _ E (by have:=(aj.mp hu).1;simp;lia) ⟨⟨old,by simpa using he⟩,i,rfl,hit,il⟩ λT vals h1 tk ⟨t,y,⟨i',ei,hy⟩,ev⟩ hT htu hm hk=>?_
  refine⟨.ref T,rfl,W.go els kk pp (i+1) T _ _ E hm λh2 st2 hk2=>?_⟩;obtain⟨⟨old2,he2⟩,i2,e2,hit2,_⟩:=st2;have e3:i'=i:=by lia
  have e4:i2=i+1:=by lia
  subst e3 e4 ev;have ey:y=u:=by
   have q1:its.toArray[i']?=some u:=by simpa using hu
   exact aA (hy.symm.trans q1)
  subst ey;have hTw:T∉[e,it]:=W.apart _ _ _ hm;have ht2:KM true h2 T #[.int ((i':Int)+1) t,y]:=by
   obtain⟨o,ho,c,m,d⟩:=htu;exact⟨o,hk2 T o hTw ho,c,m,d,λz=>nomatch z⟩
  refine⟨.ref T,upd H T (.tup [.int ((i':Int)+1),x]),?_,rfl,⟨T,x,I.hok.fresh hT,rfl,λzs hzs=>(by rw[I.list_inj hzs hq];exact hx),rfl⟩,⟨⟨old2,by simpa using he2⟩,hit2⟩,λb hb=>?_⟩
  ·have I2:=I.turned2 (h':=h2) (t':=tk) (xs:=[.int ((i':Int)+1),x]) (us:=[.int ((i':Int)+1) t,y]) fe fi (λb o b1 b2 q=>hk2 b o (by simp[b1,b2]) (hk b o (by simp[b1,b2]) q)) hT (.cons ⟨_,rfl⟩ (.cons ru .nil)) (by show 2<=sizeLine;decide) ht2;exact I2
  ·have nb:b≠T:=λz=>hTw (z▸hb)
   rw[Aj nb];exact(hf b hb).1
 done:=λX hP hw hK hc i pins s σ H E I hf st hg=>by
  subst hP hw hK;obtain⟨xs,hq,hx⟩:=hg;obtain⟨its,rv,p,hz⟩:=I.list hq;obtain⟨⟨old,he⟩,hit⟩:=st;have fe:=hf e (by simp);have fi:=hf it (by simp);have il:=p.isList;have nae:a≠e:=λz=>by
   obtain⟨o,ho,c1,_⟩:=il;rw[z,he] at ho;cases ho;injection c1 with y;exact absurd y (by decide)
  have nai:a≠it:=λz=>by
   obtain⟨o,ho,c1,_⟩:=il;obtain⟨o2,ho2,c2,_⟩:=hit;rw[z,ho2] at ho;cases ho;rw[c2] at c1;injection c1 with y;exact absurd y (by decide)
  have W:=fA (prog:=X.prog) (w:=X.w) (A:=X.A) (J3 (prog:=X.prog) (w:=X.w) (A:=X.A.in1) (I.ok.hd hc) it a nai its.toArray) e hei (by simp[hei,Ne.symm nae]) (by simp);have el:its.toArray.size+1=i+1:=by rw[aW,<-rv.length,hx]
  refine W.done s _ E (by rw[el];exact⟨⟨old,by simpa using he⟩,i,rfl,hit,il⟩) λh' tk hk=>⟨rfl,?_⟩
  exact I.turned2n (h':=h') (t':=tk) fe fi λb o b1 b2 q=>hk b o (by simp[b1,b2]) q
 self:=λA i s Q E st h=>by
  obtain⟨⟨old,he⟩,_⟩:=st;exact fw he h
theorem Qv {M:Model} {A:Around} {E:Value->Shared->Prop} {s:Shared} {pos:Pos} {T:String} {args:List (Bool×Sem Value)} {kws:List (Option Str×Sem Value)} {Q:Value->Shared->Prop} (hp:args.any (·.1)=false) (hk:kws.any (·.1.isNone)=false)
  (h:wpAny M A (evalArgs (.type T) true args kws) (λz sz=>wpAny M A (call (.type T) z.pos z.kw) Q E sz) E s):wpAny M A (callWith pos (.type T) [] args kws) Q E s:=by
 unfold callWith;refine af (cz (bD h (λz sz hz=>af (gw ?_)) λ_ _ y=>y));simp only[hp,hk,Bool.or_false];refine af (aw (af (bD hz (λv sv hv=>af (cz (wpAny_point (aw hv)))) λ_ _ y=>y)))
section
variable {X:Cx}{els:List Expr}{kk:Nat}{pp:Pos}
def XR (K:PySem.W.Frag)(ta:TA):TI:=λσ H R=>ta σ H λvs H1=>∃a xs,vs=[.ref a]/\AJ K H1 a xs/\R (Ys K a) H1
theorem UT {l:Expr} {ta:TA} {p pos kp cp:Pos} {j} (hg:Gl X "enumerate") (hm:X.mg "enumerate"=none) (ha:PA X [l] ta)
  (he:backTo pos (starEach [l] X.env)=(false,eval l X.env)::backTo pos (starEach [] X.env):=by rfl)
  (hpl:(backTo pos (starEach [l] X.env)).any (·.1)=false:=by rfl) :
  PI X (.Tuple els kk pp) (.Call (.Name "enumerate" p) [l] [⟨some "start",.Constant (.int 1) j cp,kp⟩] pos) (XR X.K ta):=by
 intro pins s σ H R I h;refine cS (Ii I hg hm Iq (Qv hpl rfl ?_));have hsp:=ha pos pins s σ H _ I h;rw[he] at hsp ⊢;refine evalArgs_kwB rfl (Bm hsp λus s1 z9=>?_);obtain⟨vs,H1,I1,r1,q1⟩:=z9;refine kws_cons (gC (kws_nil ?_));obtain⟨a,xs,rfl,hq,q⟩:=q1;obtain⟨u,rfl,ru⟩:=vals1 r1;cases ru;have I2:=I1.tok (s1.toks+1);obtain⟨its,rv,⟨⟨oc,od,odt,sl⟩,m,pl,c1,c2,c3⟩,hz⟩:=I2.list hq;simp only at c1 c2 c3;subst c1 c2 c3;refine RU (items:=its.toArray) (m:=m) (sl:=sl) pl ?_;have hs:(s1.heap.push { cls:=.type "list_iterator",data:=.fields #[.ref a,.int 0 0] }).objs.size=s1.heap.objs.size+1:=bW ..;have hE:IsEnum ((s1.heap.push { cls:=.type "list_iterator",data:=.fields #[.ref a,.int 0 0] }).push { cls:=.type "enumerate",data:=.fields #[.none,.bool false,.ref s1.heap.objs.size,rawInt 1,.none,.none] }) (s1.heap.objs.size+1) s1.heap.objs.size 1 .none:=by
  rw[<-hs];exact aQ _ rfl
 refine fw hE ?_;refine⟨s1.heap.objs.size+1,[s1.heap.objs.size+1,s1.heap.objs.size],_,Ys X.K a,H1,rfl,I2.kept (t':=s1.toks+1) λb o e=>aq _ (aq _ e),RZ a (s1.heap.objs.size+1) s1.heap.objs.size (gn _),⟨⟨_,hE⟩,_,aq _ (aQ _ rfl),rfl,rfl⟩,λb hb=>?_,q⟩;rcases aM.mp hb with rfl|hb
 ·exact I2.fpOk (eu _) (I2.hok.fresh (eu _))
 ·rw[ag.mp hb];exact I2.fpOk (ah _) (I2.hok.fresh (ah _))
end
theorem Sr {K:PySem.W.Frag} {a:Addr} {xs:List V} {fr:List (Option Nat)} {i0 i1:Nat} {n:Nat} {te:TE} {Q:VK} {σ:St} {H:Hp} (f:Nat->V->V) (h1:H a=some (.lst xs)) (hn:xs.length<=1000000) (h2:n=2)
  (helt:∀(i:Nat) (x:V) (H':Hp) (R:VK),xs[i]?=some x->As H H'->(∀H'',As H' H''->R (f i x) H'')->te (((stC fr σ).set i0 (some (.int ((i:Int)+1)))).set i1 (some x)) H' R) (hne:i0≠i1)
  (hQ:∀l H',H l=none->As H H'->H' l=some (.lst ((List.range xs.length).map λi=>f i (xs.getD i .non)))->Q (.ref l) H') :
  Fm fr (TR K n (Lu (BH i0) (Lu (BH i1) VW))) Qw te σ Q (Ys K a) H:=by
 intro l hl;have hal:a≠l:=AD h1 hl;refine⟨λi m σ' H'=>m=xs.length-i/\i<=xs.length/\(∀y z,(σ'.set i0 y).set i1 z=((stC fr σ).set i0 y).set i1 z)/\As H H'/\H' l=some (.lst ((List.range i).map λi=>f i (xs.getD i .non))),⟨xs.length,by simp,aR _,λ_ _=>rfl,Al hl _,by rw[Ag];rfl⟩,?_⟩
 rintro i m σ' H' ⟨rfl,hi,hσ,hs,hl'⟩
 have ha':=hs.get h1
 by_cases hlt:i<xs.length
 ·refine .inr ⟨⟨xs,xs[i],AJ.of ha',by simp[hlt]⟩,?_⟩
  rintro x H'' ⟨T,y,hT,rfl,hy,rfl⟩
  have hyi:=hy xs (AJ.of ha');have st:=Al hT (.tup [.int ((i:Int)+1),y]);subst h2;refine⟨T,_,rfl,A8.of Ag,rfl,_,_,rfl,_,_,rfl,rfl,?_⟩;show te ((σ'.set i0 (some (.int ((i:Int)+1)))).set i1 (some y)) _ _;rw[hσ];refine helt i y _ _ hyi (hs.trans st) λH4 s4=>?_
  refine⟨_,s4.get (st.get hl'),A7 (by rw[ab,bU];lia),xs.length-(i+1),by lia,rfl,hlt,λy z=>?_,A5 ((hs.trans st).trans s4) hl _,?_⟩
  ·rw[List.set_comm _ _ (Ne.symm hne),dh,dh]
  ·rw[Ag,List.range_succ,aJ];simp[List.getD,hyi]
 ·have e:i=xs.length:=by lia
  subst e;exact .inl ⟨⟨xs,AJ.of ha',rfl⟩,hQ l H' hl hs hl'⟩
theorem Dx {X:Cx}{K:PySem.W.Frag}{pos:Pos}{es:List Expr}{k:Nat}{t:Wr}{n:Nat}(hK:X.K=K)(hc:X.calm=true)(h:X1 X es t)(hn:(assignEach es X.env).length=n:=by rfl)(hs:(assignEach es X.env).findIdx? (·.1)=none:=by rfl):PG X (.Tuple es k pos) (TR K n t):=by
 subst hK;exact FD hc h hn hs
theorem T5 {xs:List V}:Dn xs none (some (-1))=xs.dropLast:=by
 unfold Dn HT.C0;rw[List.dropLast_eq_take];simp only[List.drop_zero,Nat.sub_zero];rw[aC (by decide)]
 congr 1
 lia
section
variable {κ:Type}[DecidableEq κ]
def BB (kvs:List (κ×V))(k:κ):Option V:=(kvs.find? λkv=>decide (kv.1=k)).map (·.2)
def putK (kvs:List (κ×V))(k:κ)(v:V):List (κ×V):=
 if(kvs.any λkv=>decide (kv.1=k))=true then kvs.map (λkv=>if kv.1=k then(kv.1,v) else kv) else kvs++[(k,v)]
def Cp (kvs:List (κ×V))(k:κ):List (κ×V):=kvs.filter λkv=>decide (kv.1≠k)
theorem Gb {p:κ×V}{r:List (κ×V)}{k:κ}(e:p.1=k):BB (p::r) k=some p.2:=by simp[BB,List.find?_cons,e]
theorem Gw {p:κ×V}{r:List (κ×V)}{k:κ}(e:¬p.1=k):BB (p::r) k=BB r k:=by simp[BB,List.find?_cons,e]
theorem Mj (k:κ):∀kvs:List (κ×V),(kvs.any λkv=>decide (kv.1=k))=(BB kvs k).isSome
 |[]=>rfl
 |p::r=>by
  rw[eh]
  by_cases e:p.1=k
  ·simp only[Gb e,decide_eq_true e,Bool.true_or,Option.isSome_some]
  ·rw[Gw e,aS e,gQ];exact Mj k r
theorem GR (kvs:List (κ×V))(k:κ)(v:V):(putK kvs k v).length<=kvs.length+1:=by
 unfold putK
 split
 ·rw[ab];lia
 ·rw[ar,aL,gH];lia
theorem IZ {kvs:List (κ×V)}{k:κ}(v:V)(h:BB kvs k=none):putK kvs k v=kvs++[(k,v)]:=by
 unfold putK;rw[Mj,h];exact ay (by decide)
theorem EA.isSome_eq {o:Option V}{u:Option Value}(r:EA o u):o.isSome=u.isSome:=by
 cases o with
 |none=>cases u with
  |none=>rfl
  |some _=>exact(show False from r).elim
 |some _=>cases u with
  |none=>exact(show False from r).elim
  |some _=>rfl
theorem EA.getD {o:Option V}{u:Option Value}{d:V}{d':Value}(r:EA o u)(rd:RelV d d'):RelV (o.getD d) (u.getD d'):=by
 cases o with
 |none=>cases u with
  |none=>exact rd
  |some _=>exact(show False from r).elim
 |some _=>cases u with
  |none=>exact(show False from r).elim
  |some _=>exact r
theorem KV.val {kvs:List (κ×V)}{vs:List (κ×Value)}(r:KV kvs vs)(k:κ):EA (BB kvs k) (valueAt vs k):=by
 unfold KV at r
 induction r with
 |nil=>exact True.intro
 |@cons p q ps qs h t ih=>
  obtain⟨h1,h2⟩:=h
  by_cases e:p.1=k
  ·have e':q.1=k:=h1.symm.trans e;have b:valueAt (q::qs) k=some q.2:=by simp[valueAt,List.find?_cons,e']
   rw[Gb e,b];exact h2
  ·have e':¬q.1=k:=λz=>e (h1.trans z)
   have b:valueAt (q::qs) k=valueAt qs k:=by simp[valueAt,List.find?_cons,e']
   rw[Gw e,b];exact ih
theorem KV.any {kvs:List (κ×V)}{vs:List (κ×Value)}(r:KV kvs vs)(k:κ):(kvs.any λkv=>decide (kv.1=k))=vs.any λkv=>decide (kv.1=k):=by
 unfold KV at r
 induction r with
 |nil=>rfl
 |cons h t ih=>rw[eh,eh,ih,h.1]
theorem KV.repl {kvs:List (κ×V)}{vs:List (κ×Value)}(r:KV kvs vs)(k:κ){y:V}{u:Value}(ry:RelV y u) :
  KV (kvs.map λkv=>if kv.1=k then(kv.1,y) else kv) (vs.map λkv=>if kv.1=k then(kv.1,u) else kv):=by
 unfold KV at r ⊢
 induction r with
 |nil=>exact .nil
 |@cons p q ps qs h t ih=>
  rw[au,au];refine .cons ?_ ih;obtain⟨h1,h2⟩:=h
  by_cases e:p.1=k
  ·rw[aC e,aC (h1.symm.trans e)];exact⟨h1,ry⟩
  ·rw[ay e,ay (λz=>e (h1.trans z))];exact⟨h1,h2⟩
theorem KV.put {kvs:List (κ×V)}{vs:List (κ×Value)}(r:KV kvs vs)(k:κ){y:V}{u:Value}(ry:RelV y u):KV (putK kvs k y) (stored vs k u):=by
 unfold putK stored;rw[r.any k]
 by_cases e:(vs.any λkv=>decide (kv.1=k))=true
 ·rw[aC e,aC e];exact r.repl k ry
 ·rw[ay e,ay e];exact Paired.snoc r ⟨rfl,ry⟩
theorem KV.drop {kvs:List (κ×V)}{vs:List (κ×Value)}(r:KV kvs vs)(k:κ):KV (Cp kvs k) (without vs k):=by
 unfold KV at r ⊢;unfold Cp without
 induction r with
 |nil=>exact .nil
 |@cons p q ps qs h t ih=>
  obtain⟨h1,h2⟩:=h;rw[fj,fj]
  by_cases e:p.1=k
  ·have a:¬decide (p.1≠k)=true:=by simp[e]
   have b:¬decide (q.1≠k)=true:=by simp[h1.symm.trans e]
   rw[ay a,ay b];exact ih
  ·have e':¬q.1=k:=λz=>e (h1.trans z)
   have a:decide (p.1≠k)=true:=by simp[e]
   have b:decide (q.1≠k)=true:=by simp[e']
   rw[aC a,aC b];exact .cons ⟨h1,h2⟩ ih
theorem KV.length {kvs:List (κ×V)}{vs:List (κ×Value)}(r:KV kvs vs):kvs.length=vs.length:=fK r
theorem Pi (kvs:List (κ×V))(k:κ):(Cp kvs k).length<=kvs.length:=cP _ _
end
theorem Hm {P:Program}{w:World}{k:Key}{u:Value}(r:RelV (kV k) u):(AY P w).is k u=true:=by
 cases k with
 |inl i=>obtain⟨t,e⟩:=(show ∃t,u=Value.int i t from r);subst e;exact Pa P w i t
 |inr x=>obtain⟨t,e⟩:=(show ∃t,u=Value.str x t from r);subst e;exact Pp P w x t
theorem MM {P:Program}{w:World}:∀{ks:List Key} {us:List Value},AW (ks.map kV) us->ItemsAre (AY P w) ks us
 |[],_,r=>by rw[dC] at r;cases r;exact .nil
 |k::ks,_,r=>by
  rw[au] at r;cases r with
  |cons h t=>exact .cons (Hm h) (MM t)
abbrev KT (H:Hp):List (List Key×V)->List (List Key×Addr×Value)->Prop:=Paired λp q=>p.1=q.1/\H q.2.1=some (.tup (p.1.map kV))/\RelV p.2 q.2.2
theorem KT.val {H:Hp}{kvs:List (List Key×V)}{xs:List (List Key×Addr×Value)}(r:KT H kvs xs)(k:List Key):EA (BB kvs k) ((atKey xs k).map (·.2)):=by
 induction r with
 |nil=>exact True.intro
 |@cons p q ps qs h t ih=>
  obtain⟨h1,_,h2⟩:=h
  by_cases e:p.1=k
  ·have e':q.1=k:=h1.symm.trans e;have b:atKey (q::qs) k=some q.2:=by simp[atKey,List.find?_cons,e']
   rw[Gb e,b];exact h2
  ·have e':¬q.1=k:=λz=>e (h1.trans z)
   have b:atKey (q::qs) k=atKey qs k:=by simp[atKey,List.find?_cons,e']
   rw[Gw e,b];exact ih
theorem KT.repl {H:Hp}{kvs:List (List Key×V)}{xs:List (List Key×Addr×Value)}(r:KT H kvs xs)(k:List Key){y:V}{u:Value}(ry:RelV y u) :
  KT H (kvs.map λkv=>if kv.1=k then(kv.1,y) else kv) (xs.map (putAt k u)):=by
 induction r with
 |nil=>exact .nil
 |@cons p q ps qs h t ih=>
  rw[au,au];refine .cons ?_ ih;obtain⟨h1,h2,h3⟩:=h;unfold putAt
  by_cases e:p.1=k
  ·rw[aC e,aC (h1.symm.trans e)];exact⟨h1,h2,ry⟩
  ·rw[ay e,ay (λz=>e (h1.trans z))];exact⟨h1,h2,h3⟩
theorem KT.put {H:Hp}{kvs:List (List Key×V)}{xs:List (List Key×Addr×Value)}(r:KT H kvs xs)(k:List Key){b:Addr}{y:V}{u:Value}(hb:H b=some (.tup (k.map kV)))(ry:RelV y u) :
  KT H (putK kvs k y) (storedH xs k b u):=by
 have e:(kvs.any λkv=>decide (kv.1=k))=(atKey xs k).isSome:=by
  rw[Mj,(r.val k).isSome_eq,Option.isSome_map]
 unfold putK storedH;rw[e]
 by_cases q:(atKey xs k).isSome=true
 ·rw[aC q,aC q];exact r.repl k ry
 ·rw[ay q,ay q];exact Paired.snoc r ⟨rfl,hb,ry⟩
theorem KT.keeps {H H':Hp}{kvs:List (List Key×V)}{xs:List (List Key×Addr×Value)}(r:KT H kvs xs)(ht:∀b ys,H b=some (.tup ys)->H' b=some (.tup ys)):KT H' kvs xs:=
 Paired.mapP r λ_ _ z=>⟨z.1,ht _ _ z.2.1,z.2.2⟩
section
variable {P:Program}{w:World}{H:Hp}{h:Heap}{a:Addr}
theorem Wo {u:HO}(ok:HS P w H h)(e:Rd H a u):Bw P w H h a u:=e.ok ok
theorem Ka {kvs:List (Key×V)}(ok:HS P w H h)(e:Rd H a (.dK kvs)):kvs.length<=sizeLine/\(a == sysModules)=false/\∃vs,KV kvs vs/\h.DictOf (AY P w) a vs:=
 show Bw P w H h a (.dK kvs) from Wo ok e
theorem ML {kvs:List (Key×V)}(ok:HS P w H h)(e:H a=some (.dK kvs)):kvs.length<=sizeLine/\(a == sysModules)=false/\∃vs,KV kvs vs/\h.DictOf (AY P w) a vs:=Ka ok (.inl e)
theorem Jp {ks:List Key}(ok:HS P w H h)(e:H a=some (.tup (ks.map kV))):(tupleKind (AY P w)).is h ks a:=by
 obtain⟨_,its,r,o,h1,h2,n,h3⟩:=(show Bw P w H h a (.tup (ks.map kV)) from ok a _ e)
 exact⟨o,its.toArray,n,h1,h2,h3.1,by simpa using MM r⟩
theorem Mn {kvs:List (List Key×V)}(ok:HS P w H h)(e:Rd H a (.dT kvs)):kvs.length<=sizeLine/\(a == sysModules)=false/\
  ∃xs,KT H kvs xs/\h.DictOfH (tupleKind (AY P w)) a xs:=by
 obtain⟨z,y,xs,r,o,es,ep,h1,h2,h3,h4,h5⟩:=(show Bw P w H h a (.dT kvs) from Wo ok e)
 refine⟨z,y,xs,r,o,es,ep,h1,h2,h3,h4,λx hx=>?_,h5⟩;have all:∀{l:List (List Key×V)} {m:List (List Key×Addr×Value)},KT H l m->∀x∈m,(tupleKind (AY P w)).is h x.1 x.2.1:=by
  intro l m q
  induction q with
  |nil=>intro x hx;exact nomatch hx
  |@cons p q ps qs hq t ih=>
   intro x hx;rcases aM.mp hx with e|hx
   ·subst e;exact Jp ok (by rw[<-hq.1];exact hq.2.1)
   ·exact ih x hx
 exact all r x hx
theorem Yc {kvs:List (List Key×V)}(ok:HS P w H h)(e:H a=some (.dT kvs)):kvs.length<=sizeLine/\(a == sysModules)=false/\
  ∃xs,KT H kvs xs/\h.DictOfH (tupleKind (AY P w)) a xs:=Mn ok (.inl e)
end
def CN (H:Hp)(a:Addr)(y:V)(r:Option V):Prop:=
 (∃kvs k,Rd H a (.dK kvs)/\y=kV k/\r=BB kvs k)\/∃kvs k b,Rd H a (.dT kvs)/\y=.ref b/\H b=some (.tup (k.map kV))/\r=BB kvs k
def NN (H:Hp)(a:Addr)(y v:V)(H':Hp):Prop:=
 (∃kvs k,H a=some (.dK kvs)/\y=kV k/\kvs.length<sizeLine/\H'=upd H a (.dK (putK kvs k v)))\/
 ∃kvs k b,H a=some (.dT kvs)/\y=.ref b/\H b=some (.tup (k.map kV))/\kvs.length<sizeLine/\H'=upd H a (.dT (putK kvs k v))
theorem CN.k {H:Hp}{a:Addr}{kvs:List (Key×V)}{k:Key}(e:H a=some (.dK kvs)):CN H a (kV k) (BB kvs k):=.inl ⟨kvs,k,.inl e,rfl,rfl⟩
theorem NN.k {H:Hp}{a:Addr}{kvs:List (Key×V)}{k:Key}{v:V}(e:H a=some (.dK kvs))(hl:kvs.length<sizeLine):NN H a (kV k) v (upd H a (.dK (putK kvs k v))):=.inl ⟨kvs,k,e,rfl,hl,rfl⟩
section
variable {X:Cx}{pins:List (Addr×Obj)}{σ:St}{H:Hp}{s:Shared}{a:Addr}{y v:V}{u r:Value}{o:Option V}{A:Around}{E:Value->Shared->Prop}
theorem Inv.big (I:Inv X pins σ H s):sysModules<s.heap.objs.size:=by
 have h:mainGlobals<s.heap.objs.size:=(I.mod.glob.keeps I.bk).lt;exact Nat.lt_trans (by decide) h
theorem Sb {Q:Value->Shared->Prop}(hu:A.units+1<cLine)(I:Inv X pins σ H s)(g:CN H a y (some v))(ry:RelV y u)(h:∀w' s',Inv X pins σ H s'->RelV v w'->Q w' s') :
  wpAny (model X.prog X.w) A (getItem (.ref a) u) Q E s:=by
 rcases g with⟨kvs,k,e,ey,l⟩|⟨kvs,k,b,e,ey,eb,l⟩
 ·subst ey;obtain⟨z,hd,vs,rel,dd⟩:=Ka I.hok e;obtain⟨w',hw,rw'⟩:=EA.some_of (v:=v) (o:=valueAt vs k) (by rw[l];exact rel.val k);exact wpAny_getItem_of (Hm ry) dd.mapOf hw (h w' _ (I.tok _) rw')
 ·subst ey;cases(show u=Value.ref b from ry);obtain⟨z,hd,xs,rel,dd⟩:=Mn I.hok e;obtain⟨w',hw,rw'⟩:=EA.some_of (v:=v) (o:=(atKey xs k).map (·.2)) (by rw[l];exact rel.val k);obtain⟨p,hp,hp2⟩:=aV.mp hw;refine wpAny_getItem_heap (dS hu) (Jp I.hok eb) dd hp ?_;rw[hp2];exact h w' _ (I.tok _) rw'
theorem YM {Q:Value->Shared->Prop}(hu:A.units+1<cLine)(I:Inv X pins σ H s)(g:CN H a y o)(ry:RelV y u)(h:∀s',Inv X pins σ H s'->Q (.bool o.isSome) s') :
  wpAny (model X.prog X.w) A (compareOp .In u (.ref a)) Q E s:=by
 rcases g with⟨kvs,k,e,ey,l⟩|⟨kvs,k,b,e,ey,eb,l⟩
 ·subst ey;obtain⟨z,hd,vs,rel,dd⟩:=Ka I.hok e;refine wpAny_in_of (Hm ry) hd dd.mapOf ?_;rw[<-(rel.val k).isSome_eq,<-l];exact h _ (I.tok _)
 ·subst ey;cases(show u=Value.ref b from ry);obtain⟨z,hd,xs,rel,dd⟩:=Mn I.hok e;refine wpAny_in_heap (dS hu) (Jp I.hok eb) hd dd ?_;have q:=(rel.val k).isSome_eq;rw[Option.isSome_map] at q;rw[<-q,<-l];exact h _ (I.tok _)
theorem G7 {h':Heap}{t':Nat}{ob:HO}(I:Inv X pins σ H s)(mu:XT (H a))(hs:Heap.SameBut a s.heap h')(he:∃q,h'.get? a=some q)(new:Bw X.prog X.w (upd H a ob) h' a ob) :
  Inv X pins σ (upd H a ob) { s with heap:=h',toks:=t' }:=
 I.write (x:=a) (e:=a) mu (.inl rfl) (λb q hb z=>(hs.2 b hb).trans z) he new
theorem LX {P:Program}{w:World}{H':Hp}{h':Heap}{kvs:List (Key×V)}{vs:List (Key×Value)}(z:kvs.length<=sizeLine)(hd:(a == sysModules)=false)(rel:KV kvs vs)(dd:h'.DictOf (AY P w) a vs) :
  Bw P w H' h' a (.dK kvs):=⟨z,hd,vs,rel,dd⟩
theorem Sd {H':Hp}{Q:Unit->Shared->Prop}(hu:A.units+1<cLine)(I:Inv X pins σ H s)(g:NN H a y v H')(ry:RelV y u)(rv:RelV v r)(h:∀s',Inv X pins σ H' s'->Q () s') :
  wpAny (model X.prog X.w) A (setItem (.ref a) u r) Q E s:=by
 rcases g with⟨kvs,k,e,ey,l,eH⟩|⟨kvs,k,b,e,ey,eb,l,eH⟩
 ·subst ey eH;obtain⟨z,hd,vs,rel,dd⟩:=ML I.hok e;have hz:vs.length<=sizeLine:=by rw[<-rel.length];exact z
  have hl:(putK kvs k v).length<=sizeLine:=by have:=GR kvs k v;lia
  refine wpAny_setItem_pairs (hsz:=hz) (Hm ry) dd λh' dd' hs=>h _ ?_
  have he:∃q,h'.get? a=some q:=let⟨q,_,_,hq,_⟩:=dd';⟨q,hq⟩;exact G7 I (by rw[e];exact True.intro) hs he (LX hl hd (rel.put k rv) dd')
 ·subst ey eH;cases(show u=Value.ref b from ry);obtain⟨z,hd,xs,rel,dd⟩:=Yc I.hok e;have hz:xs.length<=sizeLine:=by rw[<-fK rel];exact z
  have hl:(putK kvs k v).length<=sizeLine:=by have:=GR kvs k v;lia
  refine wpAny_setItem_heap (hsz:=hz) (dS hu) (Jp I.hok eb) dd λh' dd' hs=>h _ ?_
  obtain⟨q,es,ep,hq,h2,h3,h4,_,h5⟩:=dd';refine G7 I (by rw[e];exact True.intro) hs ⟨q,hq⟩ ⟨hl,hd,_,(rel.put k eb rv).keeps λc ys ec=>?_,q,es,ep,hq,h2,h3,h4,h5⟩;rw[Aj (AQ ec e (λz=>nomatch z))];exact ec
end
section
variable {X:Cx}{pins:List (Addr×Obj)}{σ:St}{H:Hp}{s:Shared}{a:Addr}{kvs:List (Key×V)}{k:Key}{u:Value}{A:Around}{E:Value->Shared->Prop}
theorem XH {Q:Unit->Shared->Prop}(I:Inv X pins σ H s)(e:H a=some (.dK kvs))(ry:RelV (kV k) u)(l:(BB kvs k).isSome=true)(h:∀s',Inv X pins σ (upd H a (.dK (Cp kvs k))) s'->Q () s') :
  wpAny (model X.prog X.w) A (delItem (.ref a) u) Q E s:=by
 obtain⟨z,hd,vs,rel,dd⟩:=ML I.hok e;refine wpAny_delItem_slot dd.typeIs (by decide) gM
  (dv gM dd.typeIs PySem.F.entry_dict_delitem (PySem.F.args_dict_delitem_2 _ _) (meets_dict_delitem_pairs (AY X.prog X.w) a (Hm ry)) ⟨vs,dd,by rw[<-rel.length];exact z,by rw[<-(rel.val k).isSome_eq];exact l,λh' dd' hs=>h _ ?_⟩)
 have he:∃q,h'.get? a=some q:=let⟨q,_,_,hq,_⟩:=dd';⟨q,hq⟩;exact G7 I (by rw[e];exact True.intro) hs he (LX (aY (Pi kvs k) z) hd (rel.drop k) dd')
theorem Wk {v:V} {more:List Value} {Q:Value->Shared->Prop} (I:Inv X pins σ H s) (e:H a=some (.dK kvs)) (ry:RelV (kV k) u) (l:BB kvs k=some v) (hm:more=[]\/∃x,more=[x])
  (h:∀w' s',Inv X pins σ (upd H a (.dK (Cp kvs k))) s'->RelV v w'->Q w' s'):wpAny (model X.prog X.w) A (call (.builtin "dict.pop") (.ref a::u::more)) Q E s:=by
 obtain⟨z,hd,vs,rel,dd⟩:=ML I.hok e;obtain⟨w',hw,rw'⟩:=EA.some_of (v:=v) (o:=valueAt vs k) (by rw[<-l];exact rel.val k);have hp:(keyPart u).isSome=true:=by
  cases k with
  |inl i=>obtain⟨t,q⟩:=(show ∃t,u=Value.int i t from ry);subst q;rfl
  |inr x=>obtain⟨t,q⟩:=(show ∃t,u=Value.str x t from ry);subst q;rfl
 have ha:argsOk "dict.pop" ⟨.ref a::u::more,[]⟩:=by
  rcases hm with q|⟨x,q⟩
  ·subst q;exact PySem.F.args_dict_pop_2 _ _
  ·subst q;exact gV _ _ _
 refine dv dX dd.typeIs hV ha (meets_dict_pop_there (AY X.prog X.w) a (Hm ry) more hm hp)
  ⟨vs,w',dd,by rw[<-rel.length];exact z,hw,λh' dd' hs=>h w' _ ?_ rw'⟩
 have he:∃q,h'.get? a=some q:=let⟨q,_,_,hq,_⟩:=dd';⟨q,hq⟩;exact G7 I (by rw[e];exact True.intro) hs he (LX (aY (Pi kvs k) z) hd (rel.drop k) dd')
theorem WH {r:Value}{Q:Value->Shared->Prop}(I:Inv X pins σ H s)(e:H a=some (.dK kvs))(ry:RelV (kV k) u)(l:BB kvs k=none)(h:∀s',Inv X pins σ H s'->Q r s') :
  wpAny (model X.prog X.w) A (call (.builtin "dict.pop") [.ref a,u,r]) Q E s:=by
 obtain⟨z,hd,vs,rel,dd⟩:=ML I.hok e;have hn:valueAt vs k=none:=EA.none_of (by rw[<-l];exact rel.val k);have hp:(keyPart u).isSome=true:=by
  cases k with
  |inl i=>obtain⟨t,q⟩:=(show ∃t,u=Value.int i t from ry);subst q;rfl
  |inr x=>obtain⟨t,q⟩:=(show ∃t,u=Value.str x t from ry);subst q;rfl
 exact dv dX dd.typeIs hV (gV _ _ _) (meets_dict_pop_default (AY X.prog X.w) a (Hm ry) hd hp r) ⟨vs,dd,hn,h _ (I.tok _)⟩
theorem Vp {Q:Value->Shared->Prop}(I:Inv X pins σ H s)(e:H a=some (.dK kvs))(h:∀s',Inv X pins σ (upd H a (.dK [])) s'->Q .none s'):wpAny (model X.prog X.w) A (call (.builtin "dict.clear") [.ref a]) Q E s:=by
 obtain⟨z,hd,vs,rel,dd⟩:=ML I.hok e;refine dv gT dd.typeIs PySem.F.entry_dict_clear (PySem.F.args_dict_clear_1 _) (meets_dict_clear (AY X.prog X.w) a) ⟨vs,dd,by rw[<-rel.length];exact z,λh' dd' hs=>h _ ?_⟩;have he:∃q,h'.get? a=some q:=let⟨q,_,_,hq,_⟩:=dd';⟨q,hq⟩;exact G7 (t':=s.toks) I (by rw[e];exact True.intro) hs he (LX (aR _) hd .nil dd')
theorem X5 {Q:Value->Shared->Prop}(I:Inv X pins σ H s)(e:Rd H a (.dK kvs))(h:∀t s',Inv X pins σ H s'->Q (.int kvs.length t) s'):wpAny (model X.prog X.w) A (call (.builtin "len") [.ref a]) Q E s:=by
 obtain⟨z,hd,vs,rel,dd⟩:=Ka I.hok e;refine call_len_dict hd dd (by rw[<-rel.length];rw[eJ] at z;lia) ?_;rw[<-rel.length];exact h _ _ (I.tok _)
end
def X9 (i:Expr):Prop:=∀ov iv,subscripted i false ov iv=operate [ov,iv] (getItem ov iv)
theorem VM {prog:Program} {w:World} {A:Around} {E:Value->Shared->Prop} {s:Shared} {env:Env} {value slice:Expr} {pos:Pos} {T id:String} {Q:Value->Shared->Prop}
  (hl:typeLookup (.type T) "__getitem__"=pure (some (.builtin id))) (hs:X9 slice)
  (h:wpAny (model prog w) A (eval value env) (λo s₁=>wpAny (model prog w) A (eval slice env) (λi s₂=>s₂.TypeIs o T/\wpAny (model prog w) A (getItem o i) Q E s₂) E s₁) E s) :
  wpAny (model prog w) A (eval (.Subscript value slice pos) env) Q E s:=by
 refine Subscript_ (bD h (λo s₁ h₁=>bD h₁ (λi s₂ h₂=>?_) λ_ _ x=>x) λ_ _ x=>x);obtain⟨hT,h₂⟩:=h₂;unfold subscriptTail;refine af ?_;rw[getitemInPython_of_ne hT.not_modules];refine af (wpAny_specialOf hT hl ?_);have fin:wpAny (model prog w) A (subscripted slice false o i) (λr s₃=>wpAny (model prog w) A (letTemporaryGo value o r >>= λ_=>pure r) Q E s₃) E s₂:=by
  rw[hs o i];exact wpAny_operating (bD h₂ (λr s₃ h₃=>af (wpAny_letTemporaryGo (aw h₃))) λ_ _ x=>x)
 first
  |exact aw (af fin)
  |exact af (aw (af fin))
  |exact af fin
theorem OO {X:Cx}{pins:List (Addr×Obj)}{σ:St}{H:Hp}{s:Shared}{a:Addr}{y:V}{o:Option V}(I:Inv X pins σ H s)(g:CN H a y o):s.TypeIs (.ref a) "dict":=by
 rcases g with⟨kvs,k,e,_,_⟩|⟨kvs,k,b,e,_,_,_⟩
 ·obtain⟨_,_,vs,_,dd⟩:=Ka I.hok e;exact dd.typeIs
 ·obtain⟨_,_,xs,_,dd⟩:=Mn I.hok e;exact dd.typeIs
def XJ (td ty:TE):TE:=λσ H Q=>td σ H λx H1=>ty σ H1 λy H2=>∃a v,x=.ref a/\CN H2 a y (some v)/\Q v H2
def YH (ty td:TE):TE:=λσ H Q=>ty σ H λy H1=>td σ H1 λx H2=>∃a o,x=.ref a/\CN H2 a y o/\Q (.bl o.isSome) H2
def XQ (td ty tv:TE):TS:=λD σ H=>tv σ H λv H1=>td σ H1 λx H2=>ty σ H2 λy H3=>∃a H4,x=.ref a/\NN H3 a y v H4/\D.nx σ H4
section
variable {X:Cx}{o i e value:Expr}{pos pos' tpos:Pos}{td ty tv:TE}
theorem EF (hu:X.A.units+1<cLine)(ho:PE X o td)(hi:PE X i ty)(hs:X9 i):PE X (.Subscript o i pos) (XJ td ty):=by
 intro pins s σ H Q I h;refine VM PySem.F.slot_dict_getitem.lookup hs (Bm (ho pins s σ H _ I h) λu s1 ⟨x,H1,I1,rx,q1⟩=>Bm (hi pins s1 σ H1 _ I1 q1) λiv s2 z9=>?_);obtain⟨y,H2,I2,ry,a,v,ex,g,q2⟩:=z9;subst ex;obtain rfl:u=Value.ref a:=rx;exact⟨OO I2 g,Sb hu I2 g ry λw' s3 I3 rw'=>⟨v,H2,I3,rw',q2⟩⟩
theorem Tp (hu:X.A.units+1<cLine)(hi:PE X i ty)(ho:PE X o td):PC X .In i o (YH ty td):=by
 intro pins s σ H Q I h;refine Bm (hi pins s σ H _ I h) λiv s1 ⟨y,H1,I1,ry,q1⟩=>Bm (ho pins s1 σ H1 _ I1 q1) λu s2 z9=>?_
 obtain⟨x,H2,I2,rx,a,ov,ex,g,q2⟩:=z9;subst ex;obtain rfl:u=Value.ref a:=rx;exact YM hu I2 g ry λs3 I3=>⟨.bl ov.isSome,H2,I3,rfl,q2⟩
theorem IM (hu:X.A.units+1<cLine)(ho:PE X o td)(hi:PE X i ty)(hv:PE X value tv)(hs:swapsWith value (some (.Subscript o i pos')) pos.line X.env=pure false) :
  PS X (.Assign [.Subscript o i pos'] value pos) (XQ td ty tv):=by
 intro pins s σ H D I h;refine wpAny_Assign_Subscript (Bm (hv pins s σ H _ I h) λr s1 ⟨v,H1,I1,rv,q1⟩=>Bm (ho pins s1 σ H1 _ I1 q1) λu s2 ⟨x,H2,I2,rx,q2⟩=>Bm (hi pins s2 σ H2 _ I2 q2) λiv s3 z9=>?_) hs;obtain⟨y,H3,I3,ry,a,H4,ex,g,q3⟩:=z9;subst ex;obtain rfl:u=Value.ref a:=rx;exact Sd hu I3 g ry rv λs4 I4=>⟨σ,H4,I4,q3⟩
end
theorem Ui {P:Program}{w:World}{H:Hp}(h:Heap)(hb:sysModules<h.objs.size):Bw P w H (h.push { cls:=.type "dict",data:=.dict #[] }) h.objs.size (.dK []):=
 ⟨aR _,dG.mpr (Ne.symm (aX hb)),[],.nil,Heap.DictOf.new h⟩
def Xp:TE:=λ_ H Q=>∀p,H p=none->Q (.ref p) (upd H p (.dK []))
section
variable {X:Cx}{pos:Pos}
theorem Ek:PE X (.Dict [] [] pos) Xp:=λpins s σ H Q I h=>
 wpAny_Dict_empty ⟨.ref s.heap.objs.size,_,I.laid (a:=s.heap.objs.size) (o:=.dK []) (t':=s.toks) (λ_ _ q=>aq _ q) (ah _) (Ui s.heap I.big),rfl,h _ (I.hok.fresh (ah _))⟩
end
structure M1 (X:Cx) (o:Expr) (m:Str) (apos:Pos) (e:Expr) (cpos:Pos):Prop where
 base:attributeBase o m X.env (eval o X.env)=eval o X.env
 few:((backTo cpos (starEach [e] X.env)).all (λx=>!x.1)&&(backToKw cpos (keywordEach [] X.env)).all (λx=>x.1.isSome)
  && decide (([e]:List Expr).length+([]:List Keyword).length+(if([]:List Keyword).isEmpty then 0 else 1)<30))=true
 line:(apos.endLine == cpos.line)=true
 trees:backTo cpos (starEach [e] X.env)=[(false,eval e X.env)]
structure M2 (X:Cx) (o:Expr) (m:Str) (apos:Pos) (e f:Expr) (cpos:Pos):Prop where
 base:attributeBase o m X.env (eval o X.env)=eval o X.env
 few:((backTo cpos (starEach [e,f] X.env)).all (λx=>!x.1)&&(backToKw cpos (keywordEach [] X.env)).all (λx=>x.1.isSome)
  && decide (([e,f]:List Expr).length+([]:List Keyword).length+(if([]:List Keyword).isEmpty then 0 else 1)<30))=true
 line:(apos.endLine == cpos.line)=true
 trees:backTo cpos (starEach [e,f] X.env)=[(false,eval e X.env),(false,eval f X.env)]
def XI (H:Hp)(a:Addr):Prop:=(∃kvs,Rd H a (.dK kvs))\/∃kvs,Rd H a (.dT kvs)
theorem JE {X:Cx}{pins:List (Addr×Obj)}{σ:St}{H:Hp}{s:Shared}{a:Addr}(I:Inv X pins σ H s)(d:XI H a) :
  s.TypeIs (.ref a) "dict"/\(∀b,Value.ref a=.ref b->∃ob,s.heap.get? b=some ob/\ob.dict=none)/\(a == sysModules)=false:=by
 rcases d with⟨kvs,e⟩|⟨kvs,e⟩
 ·obtain⟨_,hd,vs,_,dd⟩:=Ka I.hok e;refine⟨dd.typeIs,λb q=>?_,hd⟩;cases q;obtain⟨ob,_,_,h1,h2,_⟩:=dd;exact⟨ob,h1,h2.2.1⟩
 ·obtain⟨_,hd,xs,_,dd⟩:=Mn I.hok e;refine⟨dd.typeIs,λb q=>?_,hd⟩;cases q;obtain⟨ob,_,_,h1,h2,_⟩:=dd;exact⟨ob,h1,h2.2.1⟩
section
variable {X:Cx}{pins:List (Addr×Obj)}{σ:St}{H:Hp}{s:Shared}{a:Addr}{y d:V}{u r:Value}{o:Option V}{A:Around}{E:Value->Shared->Prop}
theorem W4 {Q:Value->Shared->Prop}(hu:A.units+1<cLine)(I:Inv X pins σ H s)(g:CN H a y o)(ry:RelV y u)(h:∀w' s',Inv X pins σ H s'->RelV (o.getD .non) w'->Q w' s') :
  wpAny (model X.prog X.w) A (call (.builtin "dict.get") [.ref a,u]) Q E s:=by
 rcases g with⟨kvs,k,e,ey,l⟩|⟨kvs,k,b,e,ey,eb,l⟩
 ·subst ey;obtain⟨z,hd,vs,rel,dd⟩:=Ka I.hok e;refine dv cO dd.typeIs dQ (gX _ _) (meets_dict_get (AY X.prog X.w) a (Hm ry) hd) ⟨_,dd.mapOf,h _ _ (I.tok _) ?_⟩;rw[l];exact(rel.val k).getD rfl
 ·subst ey;cases(show u=Value.ref b from ry);obtain⟨z,hd,xs,rel,dd⟩:=Mn I.hok e;refine dv cO dd.typeIs dQ (gX _ _) (meetsH_dict_get (tupleKind (AY X.prog X.w)) a b hd) ⟨dS hu,k,xs,Jp I.hok eb,dd,h _ _ (I.tok _) ?_⟩;rw[l];exact(rel.val k).getD rfl
theorem Xr {Q:Value->Shared->Prop}(hu:A.units+1<cLine)(I:Inv X pins σ H s)(g:CN H a y o)(ry:RelV y u)(rd:RelV d r)(h:∀w' s',Inv X pins σ H s'->RelV (o.getD d) w'->Q w' s') :
  wpAny (model X.prog X.w) A (call (.builtin "dict.get") [.ref a,u,r]) Q E s:=by
 rcases g with⟨kvs,k,e,ey,l⟩|⟨kvs,k,b,e,ey,eb,l⟩
 ·subst ey;obtain⟨z,hd,vs,rel,dd⟩:=Ka I.hok e;refine dv cO dd.typeIs dQ (gW _ _ _) (meets_dict_get_default (AY X.prog X.w) a (Hm ry) hd r) ⟨_,dd.mapOf,h _ _ (I.tok _) ?_⟩;rw[l];exact(rel.val k).getD rd
 ·subst ey;cases(show u=Value.ref b from ry);obtain⟨z,hd,xs,rel,dd⟩:=Mn I.hok e;refine dv cO dd.typeIs dQ (gW _ _ _) (meetsH_dict_get_default (tupleKind (AY X.prog X.w)) a b hd r) ⟨dS hu,k,xs,Jp I.hok eb,dd,h _ _ (I.tok _) ?_⟩;rw[l];exact(rel.val k).getD rd
end
def Xk (td ty:TE):TE:=λσ H Q=>td σ H λx H1=>∃a,x=.ref a/\XI H1 a/\ty σ H1 λy H2=>∃o,CN H2 a y o/\Q (o.getD .non) H2
def W2 (td ty tx:TE):TE:=λσ H Q=>td σ H λx H1=>∃a,x=.ref a/\XI H1 a/\ty σ H1 λy H2=>tx σ H2 λz H3=>∃o,CN H3 a y o/\Q (o.getD z) H3
def Xt (td ty:TE):TE:=λσ H Q=>td σ H λx H1=>∃a,x=.ref a/\XI H1 a/\ty σ H1 λy H2=>∃kvs k v,H2 a=some (.dK kvs)/\y=kV k/\BB kvs k=some v/\Q v (upd H2 a (.dK (Cp kvs k)))
def Xx (td ty tx:TE):TE:=λσ H Q=>td σ H λx H1=>∃a,x=.ref a/\XI H1 a/\ty σ H1 λy H2=>tx σ H2 λz H3=>∃kvs k,H3 a=some (.dK kvs)/\y=kV k/\
 (∀v,BB kvs k=some v->Q v (upd H3 a (.dK (Cp kvs k))))/\(BB kvs k=none->Q z H3)
section
variable {X:Cx}{o e f:Expr}{apos cpos:Pos}{td ty tx:TE}
theorem S1 (hu:X.A.units+1<cLine)(ho:PE X o td)(he:PE X e ty)(m:M1 X o "get" apos e cpos):PE X (.Call (.Attribute o "get" apos) [e] [] cpos) (Xk td ty):=by
 intro pins s σ H Q I h;refine dE m.base m.few m.line cJ cO ip (Bm (ho pins s σ H _ I h) λu s1 z9=>?_);obtain⟨x,H1,I1,rx,a,ex,d,q1⟩:=z9;subst ex;obtain rfl:u=Value.ref a:=rx;obtain⟨t1,t2,_⟩:=JE I1 d;refine⟨t1,t2,?_⟩;rw[m.trees];refine cq rfl (da (cA (Bm (he pins s1 σ H1 _ I1 q1) λiv s2 ⟨y,H2,I2,ry,ov,g,q2⟩=>dF ?_)));exact W4 hu I2 g ry λw' s3 I3 rw'=>⟨_,H2,I3,rw',q2⟩
theorem S4 (hu:X.A.units+1<cLine)(ho:PE X o td)(he:PE X e ty)(hf:PE X f tx)(m:M2 X o "get" apos e f cpos):PE X (.Call (.Attribute o "get" apos) [e,f] [] cpos) (W2 td ty tx):=by
 intro pins s σ H Q I h;refine dE m.base m.few m.line cJ cO ip (Bm (ho pins s σ H _ I h) λu s1 z9=>?_);obtain⟨x,H1,I1,rx,a,ex,d,q1⟩:=z9;subst ex;obtain rfl:u=Value.ref a:=rx;obtain⟨t1,t2,_⟩:=JE I1 d;refine⟨t1,t2,?_⟩;rw[m.trees];refine cq rfl (da (cA (Bm (he pins s1 σ H1 _ I1 q1) λiv s2 ⟨y,H2,I2,ry,q2⟩=>
  cA (Bm (hf pins s2 σ H2 _ I2 q2) λfv s3 ⟨z,H3,I3,rz,ov,g,q3⟩=>dF ?_))))
 exact Xr hu I3 g ry rz λw' s4 I4 rw'=>⟨_,H3,I4,rw',q3⟩
theorem OB (ho:PE X o td)(he:PE X e ty)(m:M1 X o "pop" apos e cpos):PE X (.Call (.Attribute o "pop" apos) [e] [] cpos) (Xt td ty):=by
 intro pins s σ H Q I h;refine dE m.base m.few m.line cJ dX ij (Bm (ho pins s σ H _ I h) λu s1 z9=>?_);obtain⟨x,H1,I1,rx,a,ex,d,q1⟩:=z9;subst ex;obtain rfl:u=Value.ref a:=rx;obtain⟨t1,t2,_⟩:=JE I1 d;refine⟨t1,t2,?_⟩;rw[m.trees];refine cq rfl (da (cA (Bm (he pins s1 σ H1 _ I1 q1) λiv s2 ⟨y,H2,I2,ry,kvs,k,v,ea,ey,l,q2⟩=>dF ?_)));subst ey;exact Wk I2 ea ry l (.inl rfl) λw' s3 I3 rw'=>⟨v,_,I3,rw',q2⟩
theorem Ts (ho:PE X o td)(he:PE X e ty)(hf:PE X f tx)(m:M2 X o "pop" apos e f cpos):PE X (.Call (.Attribute o "pop" apos) [e,f] [] cpos) (Xx td ty tx):=by
 intro pins s σ H Q I h;refine dE m.base m.few m.line cJ dX ij (Bm (ho pins s σ H _ I h) λu s1 z9=>?_);obtain⟨x,H1,I1,rx,a,ex,d,q1⟩:=z9;subst ex;obtain rfl:u=Value.ref a:=rx;obtain⟨t1,t2,_⟩:=JE I1 d;refine⟨t1,t2,?_⟩;rw[m.trees];refine cq rfl (da (cA (Bm (he pins s1 σ H1 _ I1 q1) λiv s2 ⟨y,H2,I2,ry,q2⟩=>
  cA (Bm (hf pins s2 σ H2 _ I2 q2) λfv s3 ⟨z,H3,I3,rz,kvs,k,ea,ey,q3,q4⟩=>dF ?_))))
 subst ey;cases l:BB kvs k with
 |some v=>exact Wk I3 ea ry l (.inr ⟨fv,rfl⟩) λw' s4 I4 rw'=>⟨v,_,I4,rw',q3 v l⟩
 |none=>exact WH I3 ea ry l λs4 I4=>⟨z,H3,I4,rz,q4 l⟩
end
inductive Tr where
 |non
 |bl (b:Bool)
 |int (i:Int)
 |str (z:Str)
 |tup (ts:List Tr)
 |lst (ts:List Tr)
mutual
def Rep (F:Addr->Prop)(H:Hp):Tr->V->Prop
 | .non,v=>v=.non
 | .bl b,v=>v=.bl b
 | .int i,v=>v=.int i
 | .str z,v=>v=.str z
 | .tup ts,v=>∃a vs,v=.ref a/\H a=some (.tup vs)/\AI F H ts vs
 | .lst ts,v=>∃a vs,v=.ref a/\F a/\H a=some (.lst vs)/\AI F H ts vs
def AI (F:Addr->Prop)(H:Hp):List Tr->List V->Prop
 |[],vs=>vs=[]
 |t::ts,vs=>∃v us,vs=v::us/\Rep F H t v/\AI F H ts us
end
mutual
def Tr.dep:Tr->Nat
 | .tup ts=>1+Tr.deps ts
 | .lst ts=>1+Tr.deps ts
 |_=>1
def Tr.deps:List Tr->Nat
 |[]=>0
 |t::ts=>max (Tr.dep t) (Tr.deps ts)
end
mutual
def Tr.ok:Tr->Prop
 | .str z=>z.length<=1000
 | .tup ts=>ts.length<=1000/\Tr.oks ts
 | .lst ts=>ts.length<=1000/\Tr.oks ts
 |_=>True
def Tr.oks:List Tr->Prop
 |[]=>True
 |t::ts=>Tr.ok t/\Tr.oks ts
end
mutual
theorem Rep.same {F:Addr->Prop}{H H':Hp}(s:As H H'):∀(t:Tr) (v:V),Rep F H t v->Rep F H' t v
 | .non,_,h=>h
 | .bl _,_,h=>h
 | .int _,_,h=>h
 | .str _,_,h=>h
 | .tup ts,_,⟨a,vs,e,ha,hr⟩=>⟨a,vs,e,s.get ha,AI.same s ts vs hr⟩
 | .lst ts,_,⟨a,vs,e,fa,ha,hr⟩=>⟨a,vs,e,fa,s.get ha,AI.same s ts vs hr⟩
theorem AI.same {F:Addr->Prop}{H H':Hp}(s:As H H'):∀(ts:List Tr) (vs:List V),AI F H ts vs->AI F H' ts vs
 |[],_,h=>h
 |t::ts,_,⟨v,us,e,h1,h2⟩=>⟨v,us,e,Rep.same s t v h1,AI.same s ts us h2⟩
end
theorem AI.len {F:Addr->Prop}{H:Hp}:∀(ts:List Tr) (vs:List V),AI F H ts vs->vs.length=ts.length
 |[],_,h=>by rw[show _=[] from h];rfl
 |t::ts,_,⟨v,us,e,_,h2⟩=>by rw[e,aL,aL,AI.len ts us h2]
theorem AI.get {F:Addr->Prop}{H:Hp}:∀{ts:List Tr} {vs:List V},AI F H ts vs->∀{i:Nat} {v:V},vs[i]?=some v->∃t,ts[i]?=some t/\Rep F H t v
 |[],_,h,i,v,hv=>by rw[show _=[] from h] at hv;simp at hv
 |t::ts,_,⟨w,us,e,h1,h2⟩,0,v,hv=>by
  rw[e] at hv;cases(aA hv);exact⟨t,rfl,h1⟩
 |t::ts,_,⟨w,us,e,h1,h2⟩,i+1,v,hv=>by
  rw[e] at hv;obtain⟨t',e1,e2⟩:=AI.get h2 (i:=i) (v:=v) (by simpa using hv);exact⟨t',by simpa using e1,e2⟩
theorem AI.append {F:Addr->Prop}{H:Hp}:∀{ts us:List Tr} {vs ws:List V},AI F H ts vs->AI F H us ws->AI F H (ts++us) (vs++ws)
 |[],us,_,ws,h,h2=>by rw[show _=[] from h];exact h2
 |t::ts,us,_,ws,⟨w,vs,e,h1,hr⟩,h2=>by
  rw[e];exact⟨w,vs++ws,rfl,h1,AI.append hr h2⟩
theorem AI.one {F:Addr->Prop}{H:Hp}{t:Tr}{v:V}(h:Rep F H t v):AI F H [t] [v]:=⟨v,[],rfl,h,rfl⟩
theorem Rep.ok {F:Addr->Prop}{H:Hp}:∀{t:Tr} {v:V},Rep F H t v->t.ok->Ok H v
 | .non,_,h,_=>by rw[show _=V.non from h];trivial
 | .bl _,_,h,_=>by rw[show _=V.bl _ from h];trivial
 | .int _,_,h,_=>by rw[show _=V.int _ from h];trivial
 | .str z,_,h,o=>by rw[show _=V.str z from h];exact o
 | .tup ts,_,⟨a,vs,e,ha,_⟩,_=>by rw[e];exact .inr ⟨vs,ha⟩
 | .lst ts,_,⟨a,vs,e,_,ha,_⟩,_=>by rw[e];exact .inl ⟨vs,ha⟩
mutual
theorem Rep.mono {F G:Addr->Prop}{H:Hp}(h:∀a,F a->G a):∀(t:Tr) (v:V),Rep F H t v->Rep G H t v
 | .non,_,q=>q
 | .bl _,_,q=>q
 | .int _,_,q=>q
 | .str _,_,q=>q
 | .tup ts,_,⟨a,vs,e,ha,hr⟩=>⟨a,vs,e,ha,AI.mono h ts vs hr⟩
 | .lst ts,_,⟨a,vs,e,fa,ha,hr⟩=>⟨a,vs,e,h a fa,ha,AI.mono h ts vs hr⟩
theorem AI.mono {F G:Addr->Prop}{H:Hp}(h:∀a,F a->G a):∀(ts:List Tr) (vs:List V),AI F H ts vs->AI G H ts vs
 |[],_,q=>q
 |t::ts,_,⟨v,us,e,h1,h2⟩=>⟨v,us,e,Rep.mono h t v h1,AI.mono h ts us h2⟩
end
theorem Pb {J:It} {xs:List V} {fr:List (Option Nat)} {k:Nat} {te:TE} {Q:VK} {σ:St} {H:Hp} (P:Nat->Hp->V->Hp->Prop) (hP:∀i H1 y H2 H3,P i H1 y H2->As H2 H3->P i H1 y H3)
  (hU:∀i H1 y H2 l us us' ws,P i H1 y H2->H1 l=some (.lst ws)->H2 l=some (.lst us)->P i H1 y (upd H2 l (.lst us'))) (hJ:Pm J H xs) (hn:xs.length<=1000000)
  (helt:∀(i:Nat) (x:V) (H':Hp) (R:VK),xs[i]?=some x->As H H'->(∀y H'',As H' H''->P i H' y H''->R y H'')->te ((stC fr σ).set k (some x)) H' R)
  (hQ:∀l H' (ys:List V),H l=none->As H H'->H' l=some (.lst ys)->ys.length=xs.length->(∀(i:Nat) y,ys[i]?=some y->∃H1,As H H1/\P i H1 y H')->Q (.ref l) H') :
  Fm fr (BH k) Qw te σ Q J H:=by
 intro l hl;refine⟨λi m σ' H'=>m=xs.length-i/\i<=xs.length/\(∀y,σ'.set k y=(stC fr σ).set k y)/\As H H'/\∃ys:List V,H' l=some (.lst ys)/\ys.length=i/\(∀(i:Nat) y,ys[i]?=some y->∃H1 ws,As H H1/\H1 l=some (.lst ws)/\P i H1 y H'),
  ⟨xs.length,by simp,aR _,λ_=>rfl,Al hl _,[],Ag,rfl,λi y h=>by simp at h⟩,?_⟩
 rintro i m σ' H' ⟨rfl,hi,hσ,hs,ys,hl',hlen,hp⟩
 obtain⟨h1,h2,h3⟩:=hJ H' hs i
 by_cases hlt:i<xs.length
 ·refine .inr ⟨h1 hlt,λx H'' y=>?_⟩;obtain⟨rfl,hx⟩:=h2 x H'' y;have hx:=hx hlt;show te (σ'.set k (some x)) H'' _;rw[hσ];refine helt i x H'' _ hx hs λy H4 s4 py=>?_
  refine⟨_,s4.get hl',A7 (by lia),xs.length-(i+1),by lia,rfl,hlt,λy=>by rw[dh],A5 (hs.trans s4) hl _,ys++[y],Ag,by rw[ar,hlen];rfl,λj y' hy'=>?_⟩
  by_cases hj:j<ys.length
  ·rw[bG hj] at hy';obtain⟨H1,ws,a1,a2,a3⟩:=hp j y' hy';exact⟨H1,ws,a1,a2,hU _ _ _ _ _ _ _ _ (hP _ _ _ _ _ a3 s4) a2 (s4.get hl')⟩
  ·rw[bK (by lia)] at hy'
   by_cases hj2:j=ys.length
   ·subst hj2;rw[Nat.sub_self] at hy';cases(aA hy':y=y');rw[hlen];exact⟨H'',ys,hs,hl',hU _ _ _ _ _ _ _ _ py hl' (s4.get hl')⟩
   ·rw[aN (by simp;lia)] at hy';cases hy'
 ·have e:i=xs.length:=by lia
  subst e;exact .inl ⟨h3 (ah _),hQ l H' ys hl hs hl' hlen λi y hy=>(let⟨H1,_,a1,_,a3⟩:=hp i y hy;⟨H1,a1,a3⟩)⟩
theorem DA {K:PySem.W.Frag}{a:Addr}{H:Hp}{xs:List V}(h:H a=some (.tup xs)):Pm (XG K a) H xs:=λH' s i=>
 ⟨λhi=>⟨xs,xs[i],A8.of (s.get h),by simp[hi]⟩,λx H'' y=>⟨y.1,λ_=>y.2 xs (A8.of (s.get h))⟩,λhi=>⟨xs,A8.of (s.get h),hi⟩⟩
def Tr.ty:Tr->String
 | .non=>"NoneType"
 | .bl _=>"bool"
 | .int _=>"int"
 | .str _=>"str"
 | .tup _=>"tuple"
 | .lst _=>"list"
theorem Rep.tyN {F:Addr->Prop}{H:Hp}:∀{t:Tr} {v:V},Rep F H t v->L2.G9 H v=t.ty
 | .non,_,h=>by rw[show _=V.non from h];rfl
 | .bl _,_,h=>by rw[show _=V.bl _ from h];rfl
 | .int _,_,h=>by rw[show _=V.int _ from h];rfl
 | .str z,_,h=>by rw[show _=V.str z from h];rfl
 | .tup ts,_,⟨a,vs,e,ha,_⟩=>by rw[e];simp only[L2.G9,ha];rfl
 | .lst ts,_,⟨a,vs,e,_,ha,_⟩=>by rw[e];simp only[L2.G9,ha];rfl
theorem E4 {A:Around}{k:Nat}(hr:Room k A):A.units+150<cLine:=by have:=hr.un;lia
def BJ (P:Program)(w:World)(K:PySem.W.Frag)(mg:Str->Option Value)(base:Heap)(k:Nat)(C:Addr)(m:Str)(ps:List Str)(sp:Sp):Prop:=
 ∃(f:Addr) (fd:FuncData),FnOk P w K mg base BI k f fd ps sp/\Meth K C m f/\Binds K fd ps []
def Su (P:Program)(w:World)(K:PySem.W.Frag)(mg:Str->Option Value)(base:Heap)(k:Nat)(C:Addr)(x:Str)(ps:List Str)(sp:Sp):Prop:=
 ∃(f:Addr) (fd:FuncData),FnOk P w K mg base BI k f fd ps sp/\Mk K C f/\mg x=some (.ref C)/\Binds K fd ps []
section
variable {X:Cx}{k:Nat}{x m:Str}{C:Addr}{ps:List Str}{sp:Sp}{e o:Expr}{es:List Expr}{t:TA}{ta:TE}{p apos pos:Pos}
theorem Of (D:Su X.prog X.w X.K X.mg X.base k C x ps sp) (hr:Room (k+1) X.A) (hg:Gl X x) (ha:PA X (e::es) t)
  (hdb:(x == ("__debug__":Str))=false:=by decide) (he:starEach (e::es) X.env=(false,eval e X.env)::starEach es X.env:=by rfl) (hpl:(backTo pos (starEach es X.env)).any (·.1)=false:=by rfl) :
  PE X (.Call (.Name x p) (e::es) [] pos) (Ws C sp [] E0 t):=by
 obtain⟨f,fd,F,M,hm,hb⟩:=D;exact U9 M F hr hg hm hb .nil O2 ha hdb he hpl
theorem A4 {pl:Sem Bool} (ho:PE X o ta) (c:Cls X.K C) (D:BJ X.prog X.w X.K X.mg X.base k C m ps sp) (hr:Room k X.A) (ha:PA X (e::es) t)
  (hst:starEach (e::es) X.env=(false,eval e X.env)::starEach es X.env:=by rfl) (hpl:(backTo pos (starEach es X.env)).any (·.1)=false:=by rfl)
  (ht:eval (.Call (.Attribute o m apos) (e::es) [] pos) X.env=(do
   let ov <-eval o X.env
   standAt apos.atName
   let(f,first) <-holding [ov] (getMethod ov m pl)
   callWith pos f first (backTo pos (starEach (e::es) X.env)) (backToKw pos (keywordEach [] X.env))):=by rfl) :
  PE X (.Call (.Attribute o m apos) (e::es) [] pos) (Q2 C m sp [] E0 ta t):=by
 obtain⟨f,fd,F,M,hb⟩:=D;exact VR ho c M F hr hb .nil O2 ha hst hpl ht
theorem Dy {pl:Sem Bool} (ho:PE X o ta) (c:Cls X.K C) (D:BJ X.prog X.w X.K X.mg X.base k C m ps sp) (hr:Room k X.A)
  (ht:eval (.Call (.Attribute o m apos) [] [] pos) X.env=(do
   let ov <-eval o X.env
   standAt apos.atName
   let(f,first) <-holding [ov] (getMethod ov m pl)
   callWith pos f first (backTo pos (starEach [] X.env)) (backToKw pos (keywordEach [] X.env))):=by rfl) :
  PE X (.Call (.Attribute o m apos) [] [] pos) (Q2 C m sp [] E0 ta OG):=by
 obtain⟨f,fd,F,M,hb⟩:=D;exact SY ho c M F hr hb .nil O2 ht
end
def R1 (K:PySem.W.Frag)(a:Addr):It:=
 ⟨λi H=>∃xs x,AJ K H a xs/\xs[i]?=some x,λi H v H'=>∃T x,H T=none/\v=.ref T/\(∀xs,AJ K H a xs->xs[i]?=some x)/\H'=upd H T (.tup [.int (i:Int),x]),λi H=>∃xs,AJ K H a xs/\xs.length=i⟩
theorem Qq {P:Program}{w:World}{K:PySem.W.Frag}{els:List Expr}{kk:Nat}{pp:Pos}(a e it:Addr)(hei:e≠it):Turn P w K (.Tuple els kk pp) (R1 K a) [e,it] e (λi h=>(∃old,IsEnum h e it (i:Int) old)/\h.IsListIter it a i) where
 mem:=by simp
 obj:=λi h st b hb=>by
  obtain⟨⟨old,he⟩,o,ho,_,hd⟩:=st;rcases aM.mp hb with rfl|hb
  ·exact⟨_,he,λv z=>by cases z⟩
  ·rw[ag.mp hb];exact⟨o,ho,λv z=>by rw[hd] at z;cases z⟩
 keep:=λi h h' st hk=>by
  obtain⟨⟨old,he⟩,o,ho,r⟩:=st;exact⟨⟨old,hk e (by simp) _ he⟩,o,hk it (by simp) o ho,r⟩
 item:=λX hP hw hK hc i pins s σ H E I hf st hg=>by
  subst hP hw hK;obtain⟨xs,x,hq,hx⟩:=hg;obtain⟨its,rv,p,hz⟩:=I.list hq;obtain⟨⟨old,he⟩,hit⟩:=st;have fe:=hf e (by simp);have fi:=hf it (by simp);obtain⟨u,hu,ru⟩:=rv.get hx;have il:=p.isList;have nae:a≠e:=λz=>by
   obtain⟨o,ho,c1,_⟩:=il;rw[z,he] at ho;cases ho;injection c1 with y;exact absurd y (by decide)
  have nai:a≠it:=λz=>by
   obtain⟨o,ho,c1,_⟩:=il;obtain⟨o2,ho2,c2,_⟩:=hit;rw[z,ho2] at ho;cases ho;rw[c2] at c1;injection c1 with y;exact absurd y (by decide)
  have W:=fA (prog:=X.prog) (w:=X.w) (A:=X.A) (Draws.list (prog:=X.prog) (w:=X.w) (A:=X.A.in1) (I.ok.hd hc) it a nai its.toArray) e hei (by simp[hei,Ne.symm nae]) (by simp);refine W.item i s _ E (by have:=(aj.mp hu).1;simp;lia) ⟨⟨old,he⟩,hit,il⟩ λT vals h1 tk ⟨t,y,hy,ev⟩ hT htu hm hk=>?_
  refine⟨.ref T,rfl,W.go els kk pp i T _ _ E hm λh2 st2 hk2=>?_⟩;obtain⟨⟨old2,he2⟩,hit2,_⟩:=st2;subst ev;have ey:y=u:=by
   have q1:its.toArray[i]?=some u:=by simpa using hu
   exact aA (hy.symm.trans q1)
  subst ey;have hTw:T∉[e,it]:=W.apart _ _ _ hm;have ht2:KM true h2 T #[.int (i:Int) t,y]:=by
   obtain⟨o,ho,c,m,d⟩:=htu;exact⟨o,hk2 T o hTw ho,c,m,d,λz=>nomatch z⟩
  refine⟨.ref T,upd H T (.tup [.int (i:Int),x]),?_,rfl,⟨T,x,I.hok.fresh hT,rfl,λzs hzs=>(by rw[I.list_inj hzs hq];exact hx),rfl⟩,⟨⟨old2,by simpa using he2⟩,hit2⟩,λb hb=>?_⟩
  ·have I2:=I.turned2 (h':=h2) (t':=tk) (xs:=[.int (i:Int),x]) (us:=[.int (i:Int) t,y]) fe fi (λb o b1 b2 q=>hk2 b o (by simp[b1,b2]) (hk b o (by simp[b1,b2]) q)) hT (.cons ⟨_,rfl⟩ (.cons ru .nil)) (by show 2<=sizeLine;decide) ht2;exact I2
  ·have nb:b≠T:=λz=>hTw (z▸hb)
   rw[Aj nb];exact(hf b hb).1
 done:=λX hP hw hK hc i pins s σ H E I hf st hg=>by
  subst hP hw hK;obtain⟨xs,hq,hx⟩:=hg;obtain⟨its,rv,p,hz⟩:=I.list hq;obtain⟨⟨old,he⟩,hit⟩:=st;have fe:=hf e (by simp);have fi:=hf it (by simp);have il:=p.isList;have nae:a≠e:=λz=>by
   obtain⟨o,ho,c1,_⟩:=il;rw[z,he] at ho;cases ho;injection c1 with y;exact absurd y (by decide)
  have nai:a≠it:=λz=>by
   obtain⟨o,ho,c1,_⟩:=il;obtain⟨o2,ho2,c2,_⟩:=hit;rw[z,ho2] at ho;cases ho;rw[c2] at c1;injection c1 with y;exact absurd y (by decide)
  have W:=fA (prog:=X.prog) (w:=X.w) (A:=X.A) (Draws.list (prog:=X.prog) (w:=X.w) (A:=X.A.in1) (I.ok.hd hc) it a nai its.toArray) e hei (by simp[hei,Ne.symm nae]) (by simp);have el:its.toArray.size=i:=by rw[aW,<-rv.length,hx]
  refine W.done s _ E (by rw[el];exact⟨⟨old,he⟩,hit,il⟩) λh' tk hk=>⟨rfl,?_⟩
  exact I.turned2n (h':=h') (t':=tk) fe fi λb o b1 b2 q=>hk b o (by simp[b1,b2]) q
 self:=λA i s Q E st h=>by
  obtain⟨⟨old,he⟩,_⟩:=st;exact fw he h
section
variable {X:Cx}{els:List Expr}{kk:Nat}{pp:Pos}
def Xh (K:PySem.W.Frag)(ta:TA):TI:=λσ H R=>ta σ H λvs H1=>∃a xs,vs=[.ref a]/\AJ K H1 a xs/\R (R1 K a) H1
theorem Ot {l:Expr}{ta:TA}{p pos:Pos}(hg:Gl X "enumerate")(hm:X.mg "enumerate"=none)(ha:PA X [l] ta)(hs:starEach [l] X.env=[(false,eval l X.env)]:=by rfl):PI X (.Tuple els kk pp) (.Call (.Name "enumerate" p) [l] [] pos) (Xh X.K ta):=by
 intro pins s σ H R I h;refine Call_ (Ii I hg hm Iq (eI (Bm (ha pos pins s σ H _ I h) λus s1 z9=>?_) hs rfl));obtain⟨vs,H1,I1,r1,q1⟩:=z9;obtain⟨a,xs,rfl,hq,q⟩:=q1;obtain⟨u,rfl,ru⟩:=vals1 r1;cases ru;obtain⟨its,rv,pl,hz⟩:=I1.list hq;refine call_enumerate_list pl.isList λh' hE hit hz' hk=>?_
 refine fw hE ?_;refine⟨s1.heap.objs.size+1,[s1.heap.objs.size+1,s1.heap.objs.size],_,R1 X.K a,H1,rfl,I1.kept (t':=s1.toks) hk,Qq a (s1.heap.objs.size+1) s1.heap.objs.size (gn _),⟨⟨_,hE⟩,hit⟩,λb hb=>?_,q⟩;rcases aM.mp hb with rfl|hb
 ·exact I1.fpOk (eu _) (I1.hok.fresh (eu _))
 ·rw[ag.mp hb];exact I1.fpOk (ah _) (I1.hok.fresh (ah _))
end
theorem MX {K:PySem.W.Frag} {a:Addr} {xs:List V} {g:TG} {tb:TS} {D:Ends} {σ:St} {H:Hp} (Pv:Nat->St->Hp->Prop) (h0:Pv 0 σ H) (hl:∀(i:Nat) (σ:St) (H:Hp),i<=xs.length->Pv i σ H->AJ K H a xs)
  (turn:∀(i:Nat) (x:V) (σ:St) (H:Hp) (T:Addr),xs[i]?=some x->Pv i σ H->H T=none->g (.ref T) σ (upd H T (.tup [.int (i:Int),x])) λσ2 H2=>tb { nx:=Pv (i+1),rt:=D.rt,bk:=D.nx,ct:=Pv (i+1) } σ2 H2)
  (done:∀(σ:St) (H:Hp),Pv xs.length σ H->D.nx σ H) :
  ∃W:Nat->Nat->St->Hp->Prop,(∃m,W 0 m σ H)/\∀i m σ H,W i m σ H->
   ((R1 K a).stop i H/\D.nx σ H)\/((R1 K a).go i H/\∃N:St->Hp->Prop,(∀σ' H',N σ' H'->∃m',m'<m/\W (i+1) m' σ' H')/\∀x H',(R1 K a).yld i H x H'->g x σ H' λσ2 H2=>tb { D with nx:=N,ct:=N,bk:=D.nx } σ2 H2):=by
 refine⟨λi m σ H=>m=xs.length-i/\i<=xs.length/\Pv i σ H,⟨_,rfl,aR _,h0⟩,?_⟩
 rintro i m σ H ⟨rfl,hi,hp⟩
 by_cases hlt:i<xs.length
 ·refine .inr ⟨⟨xs,xs[i],hl i σ H hi hp,by simp[hlt]⟩,Pv (i+1),λσ' H' hn=>⟨xs.length-(i+1),by lia,rfl,hlt,hn⟩,?_⟩
  rintro x H' ⟨T,y,hT,rfl,hy,rfl⟩
  exact turn i y σ H T (hy xs (hl i σ H hi hp)) hp hT
 ·have e:i=xs.length:=by lia
  subst e;exact .inl ⟨⟨xs,hl _ σ H hi hp,rfl⟩,done σ H hp⟩
theorem TK {P:Program}{w:World}{k:Key}{u:Value}(h:(AY P w).is k u=true):RelV (kV k) u:=by
 rcases By h with⟨i,t,rfl,rfl⟩|⟨x,t,rfl,rfl⟩
 ·exact⟨t,rfl⟩
 ·exact⟨t,rfl⟩
section
variable {X:Cx}
structure M0 (X:Cx) (o:Expr) (m:Str) (apos cpos:Pos):Prop where
 base:attributeBase o m X.env (eval o X.env)=eval o X.env
 few:((backTo cpos (starEach [] X.env)).all (λx=>!x.1)&&(backToKw cpos (keywordEach [] X.env)).all (λx=>x.1.isSome)
  && decide (([]:List Expr).length+([]:List Keyword).length+(if([]:List Keyword).isEmpty then 0 else 1)<30))=true
 line:(apos.endLine == cpos.line)=true
 trees:backTo cpos (starEach [] X.env)=[]
def VU (td:TE):TE:=λσ H Q=>td σ H λx H1=>∃a kvs,x=.ref a/\H1 a=some (.dK kvs)/\Q .non (upd H1 a (.dK []))
theorem RR {o:Expr}{td:TE}{apos cpos:Pos}(ho:PE X o td)(m:M0 X o "clear" apos cpos):PE X (.Call (.Attribute o "clear" apos) [] [] cpos) (VU td):=by
 intro pins s σ H Q I h;refine dE m.base m.few m.line cJ gT PySem.F.type_dict_clear (Bm (ho pins s σ H _ I h) λu s1 z9=>?_);obtain⟨x,H1,I1,rx,a,kvs,ex,ea,q1⟩:=z9;subst ex;obtain rfl:u=Value.ref a:=rx;obtain⟨t1,t2,_⟩:=JE I1 (.inl ⟨kvs,.inl ea⟩);refine⟨t1,t2,?_⟩;rw[m.trees];exact cq rfl (iK (Vp I1 ea λs3 I3=>⟨.non,_,I3,rfl,q1⟩))
end
theorem G6 {t u:TS}{D:Ends}{σ:St}{H:Hp}(M:St->Hp->Prop)(h1:∀N:St->Hp->Prop,(∀σ' H',M σ' H'->N σ' H')->t { D with nx:=N } σ H)(h2:∀σ' H',M σ' H'->u D σ' H'):V8 t u D σ H:=h1 (u D) h2
theorem KY {J:It} {xs:List V} {fr:List (Option Nat)} {k:Nat} {te:TE} {Q:VK} {σ:St} {H:Hp} (I:Nat->List V->Addr->Hp->Prop) (hn:xs.length<=1000000)
  (hJ:∀i ys l H',I i ys l H'->(i<xs.length->J.go i H')/\(∀x H'',J.yld i H' x H''->H''=H'/\(i<xs.length->xs[i]?=some x))/\(xs.length<=i->J.stop i H'))
  (h0:∀l,H l=none->I 0 [] l (upd H l (.lst [])))
  (step:∀(i:Nat) (x:V) (ys:List V) (l:Addr) (H':Hp) (R:VK),xs[i]?=some x->H l=none->H' l=some (.lst ys)->ys.length=i->I i ys l H'->(∀y H'',H'' l=some (.lst ys)->I (i+1) (ys++[y]) l (upd H'' l (.lst (ys++[y])))->R y H'')->te ((stC fr σ).set k (some x)) H' R)
  (hQ:∀l H' (ys:List V),H l=none->H' l=some (.lst ys)->ys.length=xs.length->I xs.length ys l H'->Q (.ref l) H'):Fm fr (BH k) Qw te σ Q J H:=by
 intro l hl;refine⟨λi m σ' H'=>m=xs.length-i/\i<=xs.length/\(∀y,σ'.set k y=(stC fr σ).set k y)/\∃ys:List V,H' l=some (.lst ys)/\ys.length=i/\I i ys l H',⟨xs.length,by simp,aR _,λ_=>rfl,[],Ag,rfl,h0 l hl⟩,?_⟩
 rintro i m σ' H' ⟨rfl,hi,hσ,ys,hl',hlen,hI⟩
 obtain⟨h1,h2,h3⟩:=hJ i ys l H' hI
 by_cases hlt:i<xs.length
 ·refine .inr ⟨h1 hlt,λx H'' y=>?_⟩;obtain⟨rfl,hx⟩:=h2 x H'' y;have hx:=hx hlt;show te (σ'.set k (some x)) H'' _;rw[hσ];refine step i x ys l H'' _ hx hl hl' hlen hI λy H4 hl4 hI4=>?_
  exact⟨ys,hl4,A7 (by lia),xs.length-(i+1),by lia,rfl,hlt,λy=>by rw[dh],ys++[y],Ag,by rw[ar,hlen];rfl,hI4⟩
 ·have e:i=xs.length:=by lia
  subst e;exact .inl ⟨h3 (ah _),hQ l H' ys hl hl' hlen hI⟩
theorem Qa {lo:Int}{n i:Nat}{H:Hp}:(i<((List.range n).map λ(i:Nat)=>V.int (lo+(i:Int))).length->(VS lo n).go i H)/\(∀x H'',(VS lo n).yld i H x H''->H''=H/\(i<((List.range n).map λ(i:Nat)=>V.int (lo+(i:Int))).length->((List.range n).map λ(i:Nat)=>V.int (lo+(i:Int)))[i]?=some x))/\(((List.range n).map λ(i:Nat)=>V.int (lo+(i:Int))).length<=i->(VS lo n).stop i H):=by
 rw[ab,bU];refine⟨λh=>h,λx H'' y=>⟨y.1,λh=>?_⟩,λh=>h⟩;rw[aD,List.getElem?_range h,y.2];rfl
end L2
namespace L2
section
open PySem
open Sem (wp wp_bind' wp_mono)
def YG (o:Obj):Prop:=∃vs,o.data=.fields vs/\vs[2]?=some .none
def DictAt (h:Heap)(e:Addr)(d:Option Addr):Prop:=∃o,h.objs[e]?=some o/\o.dict=d/\YG o
variable {α β:Type}
end
end L2
namespace L2
open PySem PySem.Spec PyProof.Rows
structure Fly (P:Program) (w:World) (outer:List Env) (H:Hp) (s:Shared) (ea:Addr) (cls:Value) (H':Hp) (B:Heap) (a0:Value) (s':Shared):Prop where
 os:s'.os=s.os
 bare:AllBare s'.gens
 un:Un (Oj outer) [] H H' s.heap s'.heap
 hok:HS P w H' B
 fl:Heap.FlyingW B outer ea cls a0 s'.heap
 kp:∀b o,s.heap.get? b=some o->H b=none->b∉Oj outer->B.get? b=some o
 th:∀b o,s.heap.get? b=some o->b∉Oj outer->∃o',B.get? b=some o'
 dj:∃d,DictAt s'.heap ea d
section
variable {P:Program}{w:World}{outer:List Env}{H H':Hp}{s s':Shared}{ea:Addr}{cls a0:Value}{B h' base:Heap}
theorem Fly.stay (F:Fly P w outer H s ea cls H' B a0 s')(hl:s.heap.FunFrames base outer)(hn:∀b∈Oj outer,H b=none)(sB:B.StaysIn h')(up:s'.heap.UpToSlots h'):Un (Oj outer) [] H H' s.heap h':=by
 have sl:∀b o,s.heap.get? b=some o->b∈Oj outer->∃sl,h'.get? b=some { o with slots:=sl }:=λb o q hb=>by
  obtain⟨z,e⟩:=F.un.slot b o q (hn b hb) hb (by simp);obtain⟨_,o',ho',hd⟩:=hl.mem hb;rw[q] at ho';cases ho';exact up b { o with slots:=z } e hd
 refine⟨λb o q n hb _=>sB b o (F.kp b o q n hb),λb o q _ hb _=>sl b o q hb,F.un.free,λb o q _=>?_,F.un.tups,F.un.frzs,F.un.tbls⟩
 by_cases hb:b∈Oj outer
 ·obtain⟨z,e⟩:=sl b o q hb;exact⟨_,e⟩
 ·obtain⟨o',e⟩:=F.th b o q hb;exact⟨o',sB b o' e⟩
end
section
variable {X:Cx}{pins:List (Addr×Obj)}{σ:St}{H H':Hp}{s s':Shared}{ea:Addr}{cls a0:Value}{B h':Heap}
theorem Inv.landed (I:Inv X pins σ H s)(F:Fly X.prog X.w X.stack H s ea cls H' B a0 s')(sB:B.StaysIn h')(up:s'.heap.UpToSlots h'):Inv X pins σ H' { s' with heap:=h' }:=
 I.call' (s':={ s' with heap:=h' }) (ch:=[]) F.os (F.stay I.stack I.stkFree sB up) (F.hok.kept sB) F.bare (λb z=>nomatch z)
end
abbrev XS:=Value->St->Hp->Prop
abbrev TX:=Ends->XS->St->Hp->Prop
def XP (X:Cx)(pins:List (Addr×Obj))(Ex:XS)(e:Value)(s':Shared):Prop:=
 ∃(ea:Addr) (cls:Value) (σ':St) (H1 H':Hp) (s1:Shared) (B:Heap) (a0:Value),e=.ref ea/\Inv X pins σ' H1 s1/\Fly X.prog X.w X.stack H1 s1 ea cls H' B a0 s'/\Ex cls σ' H'
def PX (X:Cx)(st:Stmt)(t:TX):Prop:=
 ∀(pins:List (Addr×Obj)) (s:Shared) (σ:St) (H:Hp) (D:Ends) (Ex:XS),Inv X pins σ H s->t D Ex σ H->wpAny (model X.prog X.w) X.A (exec st X.env) (SP X pins D) (XP X pins Ex) s
def Zf (X:Cx)(st:List Stmt)(t:TX):Prop:=
 ∀(pins:List (Addr×Obj)) (s:Shared) (σ:St) (H:Hp) (D:Ends) (Ex:XS),Inv X pins σ H s->t D Ex σ H->wpAny (model X.prog X.w) X.A (execs st X.env) (SP X pins D) (XP X pins Ex) s
section
variable {X:Cx}{st:Stmt}{rest:List Stmt}{e:Expr}{pos:Pos}
theorem QJ {t:TS}(h:PS X.nox st t):PX X st (λD _=>t D):=λpins s σ H D Ex I q=>
 bD (h pins s σ H D (I.wish _) q) (λ_ _ z=>z.unwish) λ_ _ z=>False.elim z
theorem QV {t:TX}(h1:PX X st t):Zf X [st] t:=by
 intro pins s σ H D Ex I h;refine gO (Bm (h1 pins s σ H D Ex I h) λf s1 q=>?_);cases f with
 |next=>exact eW q
 |ret v=>exact q
 |brk=>exact q
 |cont=>exact q
end
def Cx.held (X:Cx)(e:Value):Cx:={ X with A:=X.A.mark (some e),calm:=false,xe:=λ_ _=>False }
section
variable {X:Cx}{pins:List (Addr×Obj)}{σ:St}{H:Hp}{s:Shared}{e:Value}
theorem Inv.held (I:Inv X pins σ H s)(e:Value):Inv (X.held e) pins σ H s:=
 ⟨⟨I.ok.mod,I.ok.kind,I.ok.glob,I.ok.blt,I.ok.above,I.ok.inj,I.ok.has,I.ok.cab,(λz=>nomatch z),I.ok.frames,I.ok.stk,I.ok.exf,I.ok.bs,I.ok.bsz,I.ok.noex,I.ok.exfs,I.ok.funs,I.ok.frf⟩,I.os,I.bare,I.base,I.loc,I.cell,I.free,I.freeC,I.pin,I.hok,I.len⟩
theorem Inv.unheld (J:Inv X pins σ H s){σ':St}{H':Hp}{s':Shared}(I:Inv (X.held e) pins σ' H' s'):Inv X pins σ' H' s':=
 ⟨J.ok,I.os,I.bare,I.base,I.loc,I.cell,I.free,I.freeC,I.pin,I.hok,I.len⟩
theorem SP.unheld (J:Inv X pins σ H s){D:Ends}{f:Flow}{s':Shared}(h:SP (X.held e) pins D f s'):SP X pins D f s':=by
 cases f with
 |next=>obtain⟨σ',H',I,q⟩:=h;exact⟨σ',H',J.unheld I,q⟩
 |brk=>obtain⟨σ',H',I,q⟩:=h;exact⟨σ',H',J.unheld I,q⟩
 |cont=>obtain⟨σ',H',I,q⟩:=h;exact⟨σ',H',J.unheld I,q⟩
 |ret u=>obtain⟨v,σ',H',I,r,q⟩:=h;exact⟨v,σ',H',J.unheld I,r,q⟩
end
section
variable {X:Cx}{x:Str}{c:Value}{body orelse suite:List Stmt}{b₀:Stmt}{np hpos pos:Pos}
def Zb (K:PySem.W.Frag)(c:Value)(tb:TX)(te ts:TS):TS:=λD σ H=>tb { D with nx:=te D } (λcls σ' H'=>PySem.W.exmOne K cls c=some true/\ts D σ' H') σ H
theorem SQ {tb:TX} {te ts:TS} (hst:X.stack=X.env::X.outer/\X.env.frame=some X.env.locals) (hm:X.mg x=some c) (hg:Gl X x) (hb:Zf X body tb) (he:PJ X orelse te) (hs:∀e,PJ (X.held e) (b₀::suite) ts)
  (hd:(x == ("__debug__":Str))=false:=by decide):PS X (.Try body [.ExceptHandler (some (.Name x np)) none (b₀::suite) hpos] orelse [] pos) (Zb X.K c tb te ts):=by
 intro pins s σ H D I h;refine wpAny_Try_except (bD (hb pins s σ H _ _ I h) (λf s1 q=>?_) λe s1 q=>?_)
 ·cases f with
  |next=>
   obtain⟨σ',H',I',q⟩:=q;exact he pins s1 σ' H' D I' q
  |ret v=>exact q
  |brk=>exact q
  |cont=>exact q
 ·obtain⟨ea,cls,σ',H1,H',s2,B,a0,rfl,I2,F,hx,q⟩:=q;have hfr:=I.ok.frames;have fl:=F.fl;rw[hst.1] at hfr fl;refine wpAny_looks_onW hfr hst.2 fl λh4 held4 up4=>?_
  refine wpAny_landsW held4 λh5 fl5 up5=>?_
  have J5:=I2.landed F fl5.1 (up4.trans up5);refine wpAny_handleBy_cons (codeAny_handlers_test (Je (J5.held (.ref ea)) hg hm ?_ hd)) (by intro z;cases z);obtain⟨ob,hob,hcls⟩:=fl5.there;have LT:PySem.W.Looks (model X.prog X.w) h5 (typeOf (.ref ea)) cls:=by
   subst hcls;exact(PySem.W.Looks.ld hob).andThen .now
  refine(PySem.W.exm_one J5.kIn LT hx).here ?_;refine codeAny_handlers_suite (lands_againW fl5 λh6 fl6 up6=>?_);have J6:=I2.landed F fl6.1 ((up4.trans up5).trans up6);exact bD (hs (.ref ea) pins _ σ' H' D (J6.held (.ref ea)) q) (λf s7 z=>z.unheld J6) λ_ _ z=>False.elim z
end
theorem Ti {X:Cx} {K:PySem.W.Frag} {T:String} {name:Str} {id:String} {r:V->List V->Hp->VK->Prop} {o e:Expr} {es:List Expr} {to:TE} {t:TA} {apos cpos:Pos} (hK:X.K=K) (pa:PlainAttrs T) (slot:Slot T name id) (hty:typeOf (.builtin id)=pure (.type "method_descriptor")) (hm:XO X id r) (ho:PE X o to) (ha:PA X (e::es) t)
  (hbase:attributeBase o name X.env (eval o X.env)=eval o X.env:=by rfl)
  (hfew:((backTo cpos (starEach (e::es) X.env)).all (λx=>!x.1)&&(backToKw cpos (keywordEach [] X.env)).all (λx=>x.1.isSome)
   && decide ((e::es).length+([]:List Keyword).length+(if([]:List Keyword).isEmpty then 0 else 1)<30))=true:=by rfl)
  (hline:(apos.endLine == cpos.line)=true:=by rfl) (hs:starEach (e::es) X.env=(false,eval e X.env)::starEach es X.env:=by rfl) (hplain:(backTo cpos (starEach es X.env)).any (·.1)=false:=by rfl) :
  PE X (.Call (.Attribute o name apos) (e::es) [] cpos) (Zm K T r to t):=by
 subst hK;exact Ca pa slot hty hm ho ha hbase hfew hline hs hplain
end L2
namespace L2
open PySem PySem.Spec PyProof.Rows
end L2
namespace L2
end L2
namespace L2
end L2
namespace L2
open PySem PySem.Spec PyProof.Rows
end L2
namespace L2
end L2
namespace L2
open PySem PySem.Calls PySem.Spec PyProof.Rows PySem.Builtin.Str
end L2
namespace L2
open PySem PySem.Spec PyProof.Rows
end L2
namespace L2
end L2
namespace L2
section
open PySem PySem.Calls PyProof.Rows
variable {prog:Program}{w:World}{A:Around}{E:Value->Shared->Prop}{s:Shared}
theorem OY (h:Heap):h.get? h.objs.size=none:=by
 cases e:h.get? h.objs.size with
 |none=>rfl
 |some o=>exact absurd (aP e) (cL _)
def WN (S:Addr)(Q:List Value->Shared->Prop)(r:Result)(s':Shared):Prop:=∃acc c,r=.ok (.ret (.ref S))/\s'.heap.get? S=some { cls:=.type "list",dict:=none,data:=.seq acc c,slots:=#[] }/\Q acc.toList s'
theorem J8 {x:Value} {Q:List Value->Shared->Prop} (h:wpAny (model prog w) A.in1 (Builtin.List.listExtendWith (.ref s.heap.objs.size) x (.ref s.heap.objs.size))
   (λfin s'=>match fin with | .done f=>WN s.heap.objs.size Q (.ok f) s' | .again c'=>c'.quiet=true/\codeAny (model prog w) A c' (WN s.heap.objs.size Q) s') (λe s'=>WN s.heap.objs.size Q (.error e) s')
   { s with heap:=s.heap.push { cls:=.type "list",data:=.seq #[] } }):wpAny (model prog w) A (collect x) Q E s:=by
 unfold collect;refine af (wpAny_runValue (cY PySem.F.entry_proto_collect ?_));rw[dc PySem.F.plain_proto_collect _];refine af (cw (aw ⟨dO gU _,cY PySem.F.entry_list_iadd ?_⟩));rw[dc gU _];refine bD h (λfin s' z=>?_) (λe s' z=>?_)
 ·cases fin with
  |done f=>
   obtain⟨acc,c,e,hS,q⟩:=z;cases e;exact af (wpAny_load hS (aw q))
  |again c'=>
   refine⟨z.1,du z.2 λr s2 z2=>?_⟩;obtain⟨acc,c,rfl,hS,q⟩:=z2;exact af (wpAny_load hS (aw q))
 ·obtain⟨acc,c,e,_⟩:=z;cases e
theorem OJ {T:String} {r d:Addr} {n:Nat} {P:Nat->Value->Prop} {OK:Heap->Prop} {Q:List Value->Shared->Prop} (S:PySem.W.KdlSrc prog w T r d n P OK) (hh:A.handled=none) (ok:OK s.heap) (hn:n<=sizeLine)
  (q:∀h' tk (vs:List Value),(∀b o,s.heap.get? b=some o->h'.get? b=some o)->vs.length=n->(∀j v,vs[j]?=some v->P j v)->Q vs { s with heap:=h',toks:=tk }):wpAny (model prog w) A (collect (.ref r)) Q E s:=by
 obtain⟨lr,ld⟩:=S.there _ ok;refine J8 (PySem.W.kdl_extend S hh (S.keep _ _ ok λb _ o e=>aq _ e) s.heap.objs.size (fq lr) (fq ld) (.ref s.heap.objs.size) 0 (aQ _ rfl) (λh' tk acc c k hS it=>?_) hn);refine⟨acc,c,rfl,hS,q h' tk acc.toList (λb o e=>k b o (aX (aP e)) (aq _ e)) (by rw[dI];exact it.1) λj v e=>it.2 j v (by rw[<-cF];exact e)⟩
theorem Nb:Manifest.owners.lookup (String.ofList "rotareti_tes".toList.reverse)=some Manifest.sig_set_iterator:=by kernel_rfl
theorem Jn:Slot "set_iterator" "__next__" "set_iterator.__next__":=
 .of (owner:="set_iterator") (n:="__next__") (by rw[typeLookup_type,builtinLookup_eq_fast];kernel_rfl) (by decide +kernel) (by decide +kernel) (by decide +kernel) (by first|exact .inl (by decide +kernel)|exact .inr (by decide +kernel)) (by rw[iC];kernel_rfl)
theorem Nr:entryFor table "set_iterator.__next__"=some Builtin.«set_iterator.__next__»:=entryFor_of_fast (by kernel_rfl)
theorem OQ (a:Value):argsOk "set_iterator.__next__" ⟨[a],[]⟩:=by
 unfold argsOk;rw[signature?_of (id:="set_iterator.__next__") (n:="__txen__".toList) (o:="rotareti_tes".toList) (by kernel_rfl) Nb]
 kernel_rfl
theorem Lk:entryFor table "set.__iter__"=some Builtin.«frozenset.__iter__»:=entryFor_alias (id':="frozenset.__iter__") (by kernel_rfl) rfl (by decide +kernel) (by kernel_rfl)
theorem Qj {it:Addr} {T id:String} {B:Builtin} {Q:Option Value->Shared->Prop} (slot:Slot T "__next__" id) (hT:s.TypeIs (.ref it) T) (entry:entryFor table id=some B) (args:argsOk id ⟨[.ref it],[]⟩)
  (h:wpAny (model prog w) A.in1 (B ⟨[.ref it],[]⟩) (λfin s'=>∃v,fin=.done (.ret v)/\Q (some v) s') (λ_ _=>False) s):wpAny (model prog w) A (pyNext (.ref it)) Q E s:=by
 unfold pyNext;refine af (iQ (fM (name:=Str.ofString "__next__") hT slot (cQ slot hT entry (bD h (λfin s' z=>?_) λ_ _ z=>z.elim) args)));obtain⟨v,rfl,q⟩:=z;exact⟨v,rfl,aw q⟩
theorem QC {it:Addr} {T id:String} {B:Builtin} {Q:Option Value->Shared->Prop} (slot:Slot T "__next__" id) (hT:s.TypeIs (.ref it) T) (entry:entryFor table id=some B) (args:argsOk id ⟨[.ref it],[]⟩)
  (h:wpAny (model prog w) A.in1 (B ⟨[.ref it],[]⟩) (λ_ _=>False) (λx s'=>∃a o,x=.ref a/\s'.heap.get? a=some o/\o.cls=.type "StopIteration"/\Q none s') s):wpAny (model prog w) A (pyNext (.ref it)) Q E s:=by
 unfold pyNext;refine af (iQ (fM (name:=Str.ofString "__next__") hT slot (cQ slot hT entry (bD h (λ_ _ z=>z.elim) λx s' z=>?_) args)));obtain⟨a,o,rfl,e,c,q⟩:=z;exact af (wpAny_isInstance (T:="StopIteration") (b:=true) ⟨o,e,c⟩ isSubtype_stop (aw q))
theorem Sw {α:Type} {Q:α->Shared->Prop} (hh:A.handled=none)
  (q:∀h' x,(∀b o,s.heap.get? b=some o->h'.get? b=some o)->(∃o,h'.get? x=some o/\o.cls=.type "StopIteration")->E (.ref x) { s with heap:=h' }) :
  wpAny (model prog w) A (newExc (.type "StopIteration") [] >>= raiseNew:Sem α) Q E s:=by
 refine af ?_;simp only[newExc,newTuple];refine af (cw ?_ (by size_fits));refine af (m:=firstArgMember _ _) (gR (a:=Value.none) (by simp only[firstArgMember];rfl) (cw ?_ (by size_fits)));unfold raiseNew;refine af (wpAny_handled ?_);rw[hh];exact wpAny_throw (q _ _ (λb o z=>aq _ (aq _ z)) ⟨_,aQ _ rfl,rfl⟩)
theorem Hq:Slot "set_iterator" "__iter__" "set_iterator.__iter__":=
 .of (owner:="set_iterator") (n:="__iter__") (by rw[typeLookup_type,builtinLookup_eq_fast];kernel_rfl) (by decide +kernel) (by decide +kernel) (by decide +kernel) (by first|exact .inl (by decide +kernel)|exact .inr (by decide +kernel)) (by rw[iC];kernel_rfl)
theorem LL:entryFor table "set_iterator.__iter__"=some Builtin.«dict_keyiterator.__iter__»:=entryFor_alias (id':="dict_keyiterator.__iter__") (by kernel_rfl) rfl (by decide +kernel) (by kernel_rfl)
theorem MG (a:Value):argsOk "set_iterator.__iter__" ⟨[a],[]⟩:=by
 unfold argsOk;rw[signature?_of (id:="set_iterator.__iter__") (n:="__reti__".toList) (o:="rotareti_tes".toList) (by kernel_rfl) Nb]
 kernel_rfl
def GM (h:Heap)(a:Addr)(es:Array (Int×Value))(ep:Nat)(t:SetTable):Prop:=∃o,h.get? a=some o/\o.cls=.type "set"/\o.data=.set es ep t
def J4 (h:Heap)(it a:Addr)(first:Value)(i n ep:Nat):Prop:=∃o,h.get? it=some o/\o.cls=.type "set_iterator"/\o.data=.fields #[first,rawInt i,.ref a,rawInt n,rawInt ep]
theorem GM.keep {h h':Heap}{a:Addr}{es:Array (Int×Value)}{ep:Nat}{t:SetTable}(x:GM h a es ep t)(k:∀o,h.get? a=some o->h'.get? a=some o):GM h' a es ep t:=let⟨o,e,r⟩:=x;⟨o,k o e,r⟩
theorem J4.keep {h h':Heap}{it a:Addr}{f:Value}{i n ep:Nat}(x:J4 h it a f i n ep)(k:∀o,h.get? it=some o->h'.get? it=some o):J4 h' it a f i n ep:=let⟨o,e,r⟩:=x;⟨o,k o e,r⟩
theorem J4.typeIs {it a:Addr}{f:Value}{i n ep:Nat}(x:J4 s.heap it a f i n ep):s.TypeIs (.ref it) "set_iterator":=let⟨o,e,c,_⟩:=x;⟨o,e,c⟩
theorem J4.self {it a:Addr}{f:Value}{i n ep:Nat}{Q:Value->Shared->Prop}(x:J4 s.heap it a f i n ep)(q:Q (.ref it) s):wpAny (model prog w) A (pyIter (.ref it)) Q E s:=by
 refine wpAny_pyIter_slot x.typeIs Hq (cQ Hq x.typeIs LL ?_ (MG _));exact aw ⟨_,rfl,"set_iterator",_,x.typeIs,Jn.lookup,q⟩
theorem Gg {a:Addr}{es:Array (Int×Value)}{ep:Nat}{t:SetTable}{Q:Array (Int×Value)->Shared->Prop}(x:GM s.heap a es ep t)(f:t.fits es.size=true)(q:Q es s):wpAny (model prog w) A (setEntries a) Q E s:=
 let⟨_,e,_,d⟩:=x;wpAny_setEntries_of e d f q
end
end L2
namespace L2
section
open PySem PySem.Calls PyProof.Rows
variable {prog:Program}{w:World}{A:Around}{E:Value->Shared->Prop}{s:Shared}
theorem JO {it:Addr} {vs:Array Value} {k:Nat} {x:Value} {Q:Unit->Shared->Prop} {o:Obj} (ho:s.heap.get? it=some o) (hc:o.cls=.type "set_iterator") (hd:o.data=.fields vs) (hk:k<vs.size)
  (q:∀h' o',h'.get? it=some o'->o'.cls=.type "set_iterator"->o'.data=.fields (vs.setIfInBounds k x)->(∀b o,b∉[it]->s.heap.get? b=some o->h'.get? b=some o)->Q () { s with heap:=h' }):wpAny (model prog w) A (setField (.ref it) k x) Q E s:=
 wpAny_setField ho hd hk (q _ _ (cW _ ho (Obj.isFreed_of_fields (Obj.data_mapFields hd _))) ((Obj.cls_mapFields ..).trans hc) (Obj.data_mapFields hd _) λb o hb e=>(cE _ _ (λz=>hb (by simp[z]))).trans e)
theorem RD (hh:A.handled=none) (I a:Addr) (hne:a≠I) (xs:List Value) (sl:Nat->Nat) (es:Array (Int×Value)) (ep:Nat) (t:SetTable) (f:t.fits es.size=true) (hn:es.size=xs.length)
  (nx:∀(i:Nat) (A:Around) (E:Value->Shared->Prop) (s:Shared) (Q:Option (Value×Nat)->Shared->Prop),i<=xs.length->GM s.heap a es ep t->Q (xs[i]?.map λv=>(v,sl (i+1))) s->wpAny (model prog w) A (setNext a (sl i) i ep) Q E s) :
  Walks prog w A I [I,a] [I] xs.length (λi v=>xs[i]?=some v) (λi h=>J4 h I a (rawInt (sl i)) i xs.length ep/\GM h a es ep t) where
 sub:=λb z=>by simp at z;simp[z]
 frame:=λ_ _ _ st k=>⟨st.1.keep λo e=>k I (by simp) o e,st.2.keep λo e=>k a (by simp) o e⟩
 self:=λ_ _ _ _ st q=>st.1.self q
 item:=λi s Q E hi st qq=>by
  refine Qj Jn st.1.typeIs Nr (OQ _) ?_;obtain⟨o,ho,hc,hd⟩:=st.1;unfold Builtin.«set_iterator.__next__»;refine af (aw ?_);dsimp only;refine af (wpAny_fieldsOf ho hd ?_);refine af (m:=setEntries a) (Gg st.2 f ?_);rw[ay (by rw[hn];simp)];refine af (m:=setNext a (sl i) i ep) (nx i _ _ _ _ (fY hi) st.2 ?_);obtain⟨v,hv⟩:∃v,xs[i]?=some v:=⟨xs[i],by simp[hi]⟩
  rw[hv];dsimp only[Option.map];refine af (JO ho hc hd (by simp) λh1 o1 e1 c1 d1 k1=>?_);refine af (JO e1 c1 d1 (by simp) λh2 o2 e2 c2 d2 k2=>?_);exact aw ⟨v,rfl,qq v h2 s.toks hv ⟨⟨o2,e2,c2,d2⟩,st.2.keep λo e=>k2 a o (by simp[hne]) (k1 a o (by simp[hne]) e)⟩ λb o hb e=>k2 b o hb (k1 b o hb e)⟩
 done:=λs Q E st hQ=>by
  refine QC Jn st.1.typeIs Nr (OQ _) ?_;obtain⟨o,ho,hc,hd⟩:=st.1;unfold Builtin.«set_iterator.__next__»;refine af (aw ?_);dsimp only;refine af (wpAny_fieldsOf ho hd ?_);refine af (m:=setEntries a) (Gg st.2 f ?_);rw[ay (by rw[hn];simp)];refine af (m:=setNext a (sl xs.length) xs.length ep) (nx xs.length _ _ _ _ (ah _) st.2 ?_);rw[aN (ah _)];dsimp only[Option.map];refine af (JO ho hc hd (by simp) λh1 o1 e1 c1 d1 k1=>?_);refine Sw hh (by rintro h2 x k2 ⟨ox,ex,cx⟩;exact⟨x,ox,rfl,ex,cx,hQ h2 s.toks λb o hb e=>k2 b o (k1 b o hb e)⟩)
theorem Pj {α:Type}:∀{l:List α} {i:Nat} (h:i<l.length),(l[i]::l.eraseIdx i).Perm l
 |x::r,0,_=>List.Perm.refl _
 |x::r,i+1,h=>by
  have z:=Pj (l:=r) (i:=i) (by simpa using h);exact(List.Perm.swap ..).trans (List.Perm.cons x z)
theorem Rv {α:Type}(next:Nat->Nat):∀(fuel k:Nat) (left:List α) (out:Array α),fuel=left.length->(pickOrder.go next fuel k left out).toList.Perm (out.toList++left)
 |0,k,left,out,h=>by
  have e:left=[]:=fh.mp h.symm;subst e;unfold pickOrder.go;rw[bY]
 |fuel+1,k,left,out,h=>by
  unfold pickOrder.go;have hi:next k%left.length<left.length:=Nat.mod_lt _ (by lia);rw[aa hi];dsimp only;refine(Rv next fuel _ _ _ (by rw[List.length_eraseIdx_of_lt hi];lia)).trans ?_;rw[dr,aE];exact bE _ (Pj hi)
theorem RV {α:Type}(next:Nat->Nat)(xs:Array α):(pickOrder next xs).toList.Perm xs.toList:=by
 unfold pickOrder;exact Rv next _ _ _ _ (by simp)
def BE (w:World):Bool:=w.params.followText "set-order"
theorem Ux {a:Addr}{Q:Bool->Shared->Prop}(hT:s.TypeIs (.ref a) "set")(q:Q false s):wpAny (model prog w) A (Builtin.List.listLengthHint (.ref a)) Q E s:=by
 unfold Builtin.List.listLengthHint;refine af (wpAny_specialOf hT PySem.F.slot_set_len.lookup ?_);generalize e0:("set.__len__":String)=d0
 wp_delta
 rw[show splitId d0=some ("set","__len__") from by subst e0;decide +kernel];subst e0;refine af (wpAny_isInstance (T:="set") (b:=true) hT (by rw[iC];kernel_rfl) ?_);refine dy (λc=>absurd c (by decide)) (λ_=>dy (λ_=>?_) (λc=>absurd (by decide +kernel) c));exact af (wpAny_typeOf hT (aw q))
theorem Qp {xs:List Value}{acc:Array Value}(z:ItemsOf (λi v=>xs[i]?=some v) acc xs.length):acc.toList=xs:=by
 refine bV λi=>?_
 rw[cF];cases e:acc[i]? with
 |some v=>exact(z.2 i v e).symm
 |none=>
  have:acc.size<=i:=by simpa using e
  rw[z.1] at this;exact(aN this).symm
end
end L2
namespace L2
section
open PySem PySem.Calls PyProof.Rows
variable {prog:Program}{w:World}{A:Around}{E:Value->Shared->Prop}{s:Shared}
theorem SU (x:Value){Q₁:Value->Shared->Prop}(q:Q₁ (.ref s.heap.objs.size) { s with heap:=s.heap.push { cls:=.type "set",dict:=none,data:=.set #[] 0 (.fresh 0 0 (!BE w)) } }) :
  codeAny (model prog w) A (.call (.builtin "set.__new__") ⟨[.type "set",x],[]⟩) (wants Q₁ E) s:=by
 refine g6 ?_;refine af (m:=checkBuiltinCall "set.__new__" ⟨[.type "set",x],[]⟩) (gR (PySem.F.newCall_set_1 x) (aw ⟨dO iu _,cY PySem.F.entry_set_new ?_⟩));rw[dc iu _];unfold Builtin.«set.__new__»;unfold Builtin.Frozenset.newClass;have hsub:=sub_set_self;obtain⟨hp,g,d,tk,os⟩:=s;dsimp only
 wp_walk
 refine eG (aw ?_);dsimp only;simp only[newObj];exact af (wpAny_alloc (aw (aw q)))
end
end L2
namespace L2
end L2
namespace L2
section
open PySem PySem.Calls PyProof.Rows
variable {X:Cx}{pins:List (Addr×Obj)}{σ:St}{H:Hp}{s:Shared}
theorem Q1:∀{kvs:List (Key×V)} {vs:List (Key×Value)},KV kvs vs->vs.map (·.1)=kvs.map (·.1)
 |_,_,.nil=>rfl
 |_,_,.cons h t=>by rw[au,au,Q1 t,h.1]
end
end L2
namespace L2
open PySem
end L2
namespace L2
open PySem PySem.Spec PyProof.Rows
theorem Io:∀{ns:List Int} {its:List Value},IntsAre its ns->AW (ns.map V.int) its
 |[],_,.nil=>.nil
 |_::_,_,.cons n t h=>.cons ⟨_,rfl⟩ (Io h)
end L2
namespace L2
end L2
namespace L2
section
open PySem PyProof.Rows
variable {prog:Program}{w:World}{A:Around}{E:Value->Shared->Prop}{s:Shared}{a₀:Array Keyed}
theorem Nq:∀(fuel n r:Nat),minRun' fuel n r<=n+r
 |0,_,_=>ah _
 |fuel+1,n,r=>by
  rw[minRun'_succ]
  by_cases h:n<64
  ·rw[aC h];exact ah _
  ·rw[ay h];have:=Nq fuel (n/2) (max r (n%2))
   lia
theorem Pq {st:SortSt}{Q:Option Nat->SortSt->Prop}(h0:IntKeys a₀)(h1:1<=a₀.size)(hB:SBase a₀ st)(up:SortedTo (arrOf st) a₀.size)(h:Q (some a₀.size) st) :
  wpS (model prog w) A E s (countRun' 0 a₀.size) Q st:=by
 rw[countRun0_eq];have one:SortedTo (arrOf st) 1:=λi j hij hj=>by
  obtain rfl:i=j:=by lia
  exact e8 _
 refine aF (wpS_ascLoop h0 (ah _) (ah 1) h1 hB one λn hn1 hn2 _ hor=>?_);have hn:n=a₀.size:=by
  rcases hor with e|lt
  ·exact e
  ·by_cases e:n=a₀.size
   ·exact e
   ·have:=up (n-1) n (by lia) (by lia)
    lia
 subst hn;dsimp only;rw[aC (by simp)];exact aO h
theorem P3 {st:SortSt} {Q:Unit->SortSt->Prop} (h0:IntKeys a₀) (hB:SBase a₀ st) (h2:2<=a₀.size) (up:SortedTo (arrOf st) a₀.size)
  (h:∀st',(arrOf st').Perm a₀->failedOf st'=none->SortedTo (arrOf st') a₀.size->Q () st'):wpS (model prog w) A E s sortRuns' Q st:=by
 rw[sortRuns'_eq];refine aF (eV ?_);have hm:minRun' a₀.size a₀.size 0<=a₀.size:=Nq _ _ 0;simp only[hB.size];generalize minRun' a₀.size a₀.size 0=mr at hm;have D:=hB.done up;refine aF (cV (bX (I:=λx c st'=>(x=0/\c=(none,0)/\st'=st)\/(0<x/\c=(none,a₀.size)/\SDone a₀ st')) (Q:=λc st'=>c=(none,a₀.size)/\SDone a₀ st') (λx c st' _ hx hI=>?_) (λc st' hI=>?_) (.inl ⟨rfl,rfl,rfl⟩)) λc st' hc=>?_)
 ·rcases hI with⟨rfl,rfl,rfl⟩|⟨hx1,rfl,hD⟩
  ·dsimp only;rw[ay (by lia)];simp only[Nat.sub_zero,Nat.zero_add];refine aF (Pq h0 (by lia) hB up ?_);dsimp only;rw[ay (by lia)];refine aF (eV ?_);have hb:(pendingOf st').back?=none:=by rw[hB.pend];rfl
   rw[hb];dsimp only;exact aF (fQ (aO (.inr ⟨by lia,rfl,D⟩)))
  ·dsimp only;rw[aC (ah _)];exact aO ⟨rfl,hD⟩
 ·rcases hI with⟨hx,_⟩|⟨_,hc,hD⟩
  ·lia
  ·exact⟨hc,hD⟩
 ·obtain⟨rfl,hD⟩:=hc;dsimp only;refine aF (cV (bX (I:=λ_ c st2=>c=(none,())/\st2=st') (Q:=λc st2=>c=(none,())/\st2=st') (λx c st2 _ _ hI=>?_) (λ_ _ hh=>hh) ⟨rfl,rfl⟩) λc st2 hc=>?_)
  ·obtain⟨rfl,rfl⟩:=hI;refine aF (eV ?_);rw[aC (by rw[hD.2.2.1];exact ah 1)];exact aO ⟨rfl,rfl⟩
  ·obtain⟨rfl,rfl⟩:=hc;exact aO (h _ hD.1 hD.2.1 hD.2.2.2)
theorem Tb {vs:List Value}{ns:List Int}(hI:IntsAre vs ns)(up:ns.Pairwise (·<=·)):SortedTo (pairsOf vs) (pairsOf vs).size:=by
 have en:=hI.nums;intro i j hij hj;have hjv:j<vs.length:=by rw[iJ] at hj;exact hj
 have kk:∀k,(hk:k<vs.length)->K (pairsOf vs) k=(vs.map numOf)[k]'(by rw[ab];exact hk):=λk hk=>by
  rw[K_eq (by rw[iJ];exact hk)];simp[pairsOf]
 rw[kk i (by lia),kk j hjv];subst en
 by_cases e:i=j
 ·subst e;exact e8 _
 ·exact List.pairwise_iff_getElem.mp up i j _ _ (by lia)
theorem Vf {a:Addr} {vs:List Value} {ns:List Int} {n:Nat} {P:PySem.Fin->Shared->Prop} (ho:s.heap.get? a=some (seqObj "list" vs.toArray n)) (hI:IntsAre vs ns) (up:vs.length<64\/(vs.length<=sizeLine/\ns.Pairwise (·<=·)))
  (h:∀(out:Array Value) (ns':List Int),IntsAre out.toList ns'->ns'.Perm ns->ns'.Pairwise (·<=·)->P (.done (.ret .none)) { s with heap:=sortedHeap s.heap a vs out }) :
  wpAny (model prog w) A (Builtin.«list.sort» ⟨[.ref a],[]⟩) P E s:=by
 by_cases few:vs.length<64
 ·exact list_sort_tree ho hI few h
 have hz:=(up.resolve_left few).1;have up':=(up.resolve_left few).2;rw[list_sort_plain];have ha:a<s.heap.objs.size:=aP ho;refine af (listItems_at ho rfl (af (gZ ho rfl ?_)));obtain⟨e1,h1⟩:∃e,(s.heap.update a (Obj.mapSeq λ_=>#[])).get? a=some (seqObj "list" #[] e):=⟨_,get?_update_seq ho (λ_=>#[])⟩
 refine af (seqEpoch_at h1 rfl (af (wpAny_newTuple (af (gy (cz ?_))))));have n1:a≠(s.heap.update a (Obj.mapSeq λ_=>#[])).objs.size:=by rw[fP];exact aX ha
 have n2:a≠((s.heap.update a (Obj.mapSeq λ_=>#[])).push (seqObj "tuple" vs.toArray 0)).objs.size:=by rw[bW,fP];exact aX (cT ha)
 have h2:(((s.heap.update a (Obj.mapSeq λ_=>#[])).push (seqObj "tuple" vs.toArray 0)).push (seqObj "list" #[] 0)).get? a=some (seqObj "list" #[] e1):=by
  rw[fF _ _ _ n2,fF _ _ _ n1];exact h1
 show wpAny (model prog w) A _ P E { s with heap:=((s.heap.update a (Obj.mapSeq λ_=>#[])).push (seqObj "tuple" vs.toArray 0)).push (seqObj "list" #[] 0) };dsimp only;have hs2:¬vs.toArray.size<2:=by simp;lia
 have ps:=iJ vs;rw[ay hs2,ay hs2];obtain⟨v1,v2,rest,rfl⟩:∃v1 v2 rest,vs=v1::v2::rest:=by
  match vs,few with
  |[],q=>exact absurd (by decide) q
  |[_],q=>exact absurd (by show 1<64;decide) q
  |v1::v2::rest,_=>exact⟨v1,v2,rest,rfl⟩
 rw[keyKind_ints hI];refine af (aw (af (bD (P3 (a₀:=pairsOf (v1::v2::rest)) (st:=SortSt.mk' oneType' ((v1::v2::rest).toArray.zip (v1::v2::rest).toArray) #[] 7 none)
  (Q:=λ_ st'=>(arrOf st').Perm (pairsOf (v1::v2::rest))/\failedOf st'=none/\SortedTo (arrOf st') (pairsOf (v1::v2::rest)).size)
  hI.intKeys ⟨Array.Perm.refl _,rfl,rfl,rfl⟩ (by rw[ps];simp) (Tb hI up') λst' a1 a2 a3=>⟨a1,a2,a3⟩) (λr s' hr=>?_) λ_ _ e=>e)))
 obtain⟨⟨⟩,st'⟩:=r;obtain⟨rfl,hp,hf,hs⟩:=hr;dsimp only;refine af (seqEpoch_at h2 rfl (af (gZ h2 rfl ?_ (hsz2:=?_))))
 ·rw[hf];simp only[bne_self_eq_false,Bool.false_eq_true,if_false];obtain⟨ns',g1,g2,g3⟩:=sorted_out hI hp hs;exact aw (h _ ns' g1 g2 g3)
 ·rw[Array.size_map,hp.size_eq,ps];exact Nat.le_succ_of_le hz
end
end L2
namespace L2
section
open PySem PySem.Calls PyProof.Rows
variable {prog:Program}{w:World}{A:Around}{E:Value->Shared->Prop}{s:Shared}
def UG (Q:Value->Shared->Prop)(vs:List Value)(s1:Shared):Prop:=∃ns,IntsAre vs ns/\(vs.length<64\/(vs.length<=sizeLine/\ns.Pairwise (·<=·)))/\
 ∀h' p (out:List Value) ns' c,IntsAre out ns'->ns'.Perm ns->ns'.Pairwise (·<=·)->s1.heap.objs.size<=p->(∀b o,s1.heap.get? b=some o->h'.get? b=some o)->
  h'.get? p=some (seqObj "list" out.toArray c)->Q (.ref p) { s1 with heap:=h' }
theorem LG {x:Value}{Q:Value->Shared->Prop}(hc:wpAny (model prog w) A.in1 (collect x) (UG Q) E s):wpAny (model prog w) A (call (.builtin "sorted") [x]) Q E s:=by
 refine iP kind_sorted plain_sorted entry_sorted (args_sorted1 x) ?_;unfold Builtin.«sorted»;refine af (m:=checkCount "sorted" 1 1 _) (aw (af (bD hc (λvs s1 z=>?_) λ_ _ e=>e)));obtain⟨ns,hI,few,q⟩:=z;have there:(s1.heap.push (seqObj "list" vs.toArray 0)).get? s1.heap.objs.size=some (seqObj "list" vs.toArray 0):=aQ _ rfl;refine af (gy (af (cz (cQ slot_list_sort ⟨_,there,rfl⟩ entry_list_sort (Vf there hI few λout ns' a1 a2 a3=>⟨_,rfl,?_⟩) (args_list_sort _)))));obtain⟨c,hp⟩:=sortedHeap_at (out:=out) there;refine aw ⟨_,rfl,q _ _ out.toList ns' c a1 a2 a3 (ah _) (λb o e=>?_) (by rw[iI];exact hp)⟩;have lt:=aP e;show Heap.get? _ b=some o;rw[sortedHeap_old (aX lt) (by rw[bW];exact cT lt)];exact aq _ e
end
section
open PySem PySem.Spec PyProof.Rows
variable {X:Cx}
theorem Ry:∀{vs:List Value} {ns:List Int},vs.length=ns.length->(∀(j:Nat) v,vs[j]?=some v->∃n t,ns[j]?=some n/\v=.int n t)->IntsAre vs ns
 |[],[],_,_=>.nil
 |[],_::_,h,_=>by cases h
 |_::_,[],h,_=>by cases h
 |v::vs,n::ns,h,k=>by
  obtain⟨n',t,e,rfl⟩:=k 0 v rfl;cases e;exact .cons _ _ (Ry (by simpa using h) λj v e=>k (j+1) v (by simpa using e))
theorem TY {pins:List (Addr×Obj)} {σ:St} {H:Hp} {s:Shared} {a:Addr} {kvs:List (Key×V)} {k:Key} {u r:Value} {z:V} {A:Around} {E:Value->Shared->Prop} {Q:Value->Shared->Prop} (I:Inv X pins σ H s) (e:H a=some (.dK kvs)) (ry:RelV (kV k) u) (rz:RelV z r) (hl:kvs.length<sizeLine)
  (h1:∀v w' s',BB kvs k=some v->Inv X pins σ H s'->RelV v w'->Q w' s') (h2:BB kvs k=none->∀s',Inv X pins σ (upd H a (.dK (putK kvs k z))) s'->Q r s'):wpAny (model X.prog X.w) A (call (.builtin "dict.setdefault") [.ref a,u,r]) Q E s:=by
 obtain⟨z0,hd,vs,rel,dd⟩:=ML I.hok e;have ki:=Hm (P:=X.prog) (w:=X.w) ry;cases hv:BB kvs k with
 |some v=>
  obtain⟨w',hw,rw'⟩:=EA.some_of (v:=v) (o:=valueAt vs k) (by rw[<-hv];exact rel.val k);refine dv eB dd.typeIs gA (gk _ _ _) (meets_dict_setdefault (AY X.prog X.w) a ki hd r) ⟨_,dd.mapOf,?_,λv' e'=>?_,λe'=>?_⟩
  ·obtain⟨o,es,ep,ho,_,hx,_,hp,_⟩:=id dd;intro o' es' ep' g1 g2;rw[ho] at g1;cases g1;rw[hx] at g2;cases g2;have:=hp.length;rw[dI] at this;rw[this,<-rel.length];exact z0
  ·rw[hw] at e';cases e';exact h1 v _ _ hv (I.tok _) rw'
  ·rw[hw] at e';cases e'
 |none=>
  have hn:valueAt vs k=none:=EA.none_of (by rw[<-hv];exact rel.val k);obtain⟨o,es,ep,ho,hc,hx,hk,hp,nd⟩:=id dd;refine cQ eB dd.typeIs gA ?_ (gk _ _ _);refine af (af (wpAny_notOrdered_dict dd.typeIs (aw ?_)))
  change wpAny _ _ (if(a == sysModules)=true then _ else(dictSetDefault a u r >>= _)) _ _ s
  rw[ay (by rw[hd];exact aB)];have le:es.size<=sizeLine:=by
   have:=hp.length;rw[dI] at this;rw[this,<-rel.length];exact z0
  have nk:∀kv∈vs,decide (kv.1=k)=false:=λkv hkv=>by
   cases q:decide (kv.1=k) with
   |false=>rfl
   |true=>
    unfold valueAt at hn;rw[dg,di] at hn;exact absurd q (hn kv hkv)
  have fi:(es.findIdx? λe=>(AY X.prog X.w).is k e.key)=none:=by
   have h3:(es.toList.findIdx? λe=>(AY X.prog X.w).is k e.key)=none:=by rw[hp.findIdx k];exact List.findIdx?_eq_none_iff.mpr nk
   obtain⟨l⟩:=es;simpa using h3
  unfold dictSetDefault;refine af (cz (af ((AY X.prog X.w).pyHash ki (af (wpAny_dictFind_of (s:={ s with toks:=s.toks+1 }) ki ho hx hk ?_)))));rw[fi];have est:stored vs k r=vs++[(k,r)]:=by
   unfold stored;rw[ay λq=>by obtain⟨kv,h3,h4⟩:=c9.mp q;rw[nk kv h3] at h4;cases h4]
  refine af (dR (af (wpAny_updateDictKeys (hz:=le) (s:={ s with toks:=s.toks+1 }) ho hx (aw (aw ⟨r,rfl,h2 hv _ ?_⟩)))));have hlp:(putK kvs k z).length<=sizeLine:=by have:=GR kvs k z;lia
  refine G7 (I.tok _) (by rw[e];exact True.intro) (Heap.SameBut.update ..) ⟨_,cW _ ho (Obj.isFreed_of_dict (fX hx _))⟩ (LX hlp hd (rel.put k rz) ?_);rw[est];refine⟨_,_,ep+1,cW _ ho (Obj.isFreed_of_dict (fX hx _)),hc.mapDictKeys _,fX hx _,hk.push ki _,?_,?_⟩
  ·have:=hp.append ki ((AY X.prog X.w).hash k) r;obtain⟨l⟩:=es;simpa using this
  ·rw[aJ];refine cm.mpr ⟨nd,by simp,λx hx y hy h5=>?_⟩;obtain⟨kv,h3,rfl⟩:=ae.mp hx;have h6:=nk kv h3;rw[decide_eq_false_iff_not] at h6;rw[au,dC,ag] at hy;exact h6 (h5.trans hy)
def XF (td ty tx:TE):TE:=λσ H Q=>td σ H λx H1=>∃a,x=.ref a/\XI H1 a/\ty σ H1 λy H2=>tx σ H2 λz H3=>∃kvs k,H3 a=some (.dK kvs)/\y=kV k/\kvs.length<sizeLine/\(∀v,BB kvs k=some v->Q v H3)/\(BB kvs k=none->Q z (upd H3 a (.dK (putK kvs k z))))
theorem Up {o e f:Expr}{td ty tx:TE}{apos cpos:Pos}(ho:PE X o td)(he:PE X e ty)(hf:PE X f tx)(m:M2 X o "setdefault" apos e f cpos):PE X (.Call (.Attribute o "setdefault" apos) [e,f] [] cpos) (XF td ty tx):=by
 intro pins s σ H Q I h;refine dE m.base m.few m.line cJ eB PySem.F.type_dict_setdefault (Bm (ho pins s σ H _ I h) λu s1 z9=>?_);obtain⟨x,H1,I1,rx,a,ex,d,q1⟩:=z9;subst ex;obtain rfl:u=Value.ref a:=rx;obtain⟨t1,t2,_⟩:=JE I1 d;refine⟨t1,t2,?_⟩;rw[m.trees];refine cq rfl (da (cA (Bm (he pins s1 σ H1 _ I1 q1) λiv s2 ⟨y,H2,I2,ry,q2⟩=>cA (Bm (hf pins s2 σ H2 _ I2 q2) λr s3 ⟨z,H3,I3,rz,kvs,k,hd,ey,hl,q3,q4⟩=>dF ?_))));subst ey;exact TY I3 hd ry rz hl (λv w' s' hv I' rw'=>⟨v,H3,I',rw',q3 v hv⟩) λhv s' I'=>⟨z,_,I',rz,q4 hv⟩
end
section
open PySem PySem.Calls PyProof.Rows
variable {prog:Program}{w:World}{A:Around}{E:Value->Shared->Prop}{I S:Addr}{fp wr:List Addr}{n:Nat}{P:Nat->Value->Prop}{St:Nat->Heap->Prop}{bt:Nat->Nat->Bool}{d:Value}{R:Result->Shared->Prop}
def Xf (P:Nat->Value->Prop)(bt:Nat->Nat->Bool)(i:Nat)(arr:List Value):Prop:=(arr=[]/\i=0)\/∃v,arr=[v,v]/\0<i/\P (argBest bt (i-1)) v
theorem Si (W:Walks prog w A.in1 I fp wr n P St)(hcmp:CmpOf prog w A.in1 .Gt P bt)(hSf:S∉fp):∀(k i:Nat) (s:Shared) (arr:List Value) (c:Nat),i+k=n->St i s.heap->s.heap.get? S=some { cls:=.type "list",dict:=none,data:=.seq arr.toArray c,slots:=#[] }->Xf P bt i arr->
  (∀r h' tk,(n=0/\r=d\/0<n/\P (argBest bt (n-1)) r)->(∀b o,b∉wr->b≠S->s.heap.get? b=some o->h'.get? b=some o)->R (.ok (.ret r)) { s with heap:=h',toks:=tk })->
  codeAny (model prog w) A (.builtin "max.loop" ⟨[.ref I,.none,.ref S],[("default",d)]⟩) R s:=by
 have hSw:S∉wr:=λh=>hSf (W.sub _ h)
 intro k
 induction k with
 |zero=>
  intro i s arr c hk hst hS hb hR;cases(show i=n by lia);refine cY g9 ?_;rw[dc cK _];refine af (m:=seqItems? (.ref S)) (wpAny_seqItems hS rfl (af (iB (W.done s _ _ hst λh' tk k'=>?_))));rcases hb with⟨rfl,i0⟩|⟨v,rfl,i0,hv⟩
  ·exact af (dR (aw (hR d h' tk (.inl ⟨i0,rfl⟩) λb o hb _ e=>k' b o hb e)))
  ·exact af (fT (k' S _ hSw hS) rfl (af (gS (aw (hR v _ tk (.inr ⟨i0,hv⟩) λb o hb hS e=>(cE _ _ (Ne.symm hS)).trans (k' b o hb e))))))
 |succ k ih=>
  intro i s arr c hk hst hS hb hR;refine cY g9 ?_;rw[dc cK _];refine af (m:=seqItems? (.ref S)) (wpAny_seqItems hS rfl (af (iB (W.item i s _ _ (by lia) hst λx h' tk hP st' k'=>?_))));have hS':=k' S _ hSw hS;have nm:(toString "max"++toString ".loop":String)="max.loop":=by decide
  have la:arr.toArray.size<=sizeLine:=by
   rw[eJ];rcases hb with⟨rfl,_⟩|⟨v,rfl,_⟩
   ·exact aR _
   ·show 2<=_;lia
  have put:∀(tk':Nat),P (argBest bt i) x->wpAny (model prog w) A.in1 (updateSeq S (λ_=>#[x,x])) (λ_ s'=>codeAny (model prog w) A (.builtin "max.loop" ⟨[.ref I,.none,.ref S],[("default",d)]⟩) R s') (λe s'=>R (.error e) s') { s with heap:=h',toks:=tk' }:=λtk' hx=>by
   refine fT (hz:=la) (s:={ s with heap:=h',toks:=tk' }) hS' rfl (ih (i+1) _ [x,x] _ (by lia) (W.frame _ _ _ st' λb hb o e=>?_) (cW _ hS' rfl) (.inr ⟨x,rfl,Nat.succ_pos _,hx⟩) λr h2 tk2 hr k2=>?_)
   ·exact(cE _ _ (λz:S=b=>hSf (by rw[z];exact hb))).trans e
   ·exact hR r h2 tk2 hr λb o hb hbS e=>k2 b o hb hbS ((cE _ _ (Ne.symm hbS)).trans (k' b o hb e))
  rcases hb with⟨rfl,i0⟩|⟨v,rfl,i0,hv⟩
  ·subst i0;refine af (aw (af (bD (put tk hP) (λ_ s' q=>?_) λ_ _ q=>q)));rw[nm];exact aw ⟨dO cK _,q⟩
  ·refine af (aw (af (iB (cz (af (hcmp i (argBest bt (i-1)) x v _ _ _ hP hv (af (cz (cf (af (gS (aw ?_))))))))))));have ea:argBest bt i=if bt i (argBest bt (i-1)) then i else argBest bt (i-1):=by
    obtain⟨j,rfl⟩:∃j,i=j+1:=⟨i-1,by lia⟩
    rfl
   cases q:bt i (argBest bt (i-1)) with
   |true=>
    rw[q,aC rfl] at ea;rw[aC rfl];refine af (bD (put tk (by rw[ea];exact hP)) (λ_ s' z=>af (gS ?_)) λ_ _ z=>z);rw[nm];exact aw ⟨dO cK _,z⟩
   |false=>
    rw[q,ay aB] at ea;rw[ay aB];refine af (gS ?_);rw[nm];refine aw ⟨dO cK _,ih (i+1) _ [v,v] _ (by lia) st' hS' (.inr ⟨v,rfl,Nat.succ_pos _,?_⟩) λr h2 tk2 hr k2=>hR r h2 tk2 hr λb o hb hbS e=>k2 b o hb hbS (k' b o hb e)⟩;show P (argBest bt i) v;rw[ea];exact hv
theorem V5 (l:Addr)(d:Value):checkBuiltinCall "max" ⟨[.ref l],[("default",d)]⟩=pure ():=by kernel_rfl
theorem RQ {l:Addr} {items:Array Value} {Q:Value->Shared->Prop} {s:Shared} (hh:A.handled=none) (hl:s.heap.IsList l items) (val:Nat->Int) (hval:∀i v,items[i]?=some v->∃t,v=Value.int (val i) t)
  (q:∀r h' tk,(items.size=0/\r=d\/0<items.size/\items[argBest (λi j=>decide (val j<val i)) (items.size-1)]?=some r)->(∀b o,s.heap.get? b=some o->h'.get? b=some o)->Q r { s with heap:=h',toks:=tk }):wpAny (model prog w) A (call (.builtin "max") [.ref l] [("default",d)]) Q E s:=by
 refine gB (eK PySem.F.plain_max PySem.F.entry_max ?_);rw[V5];refine aw ?_;have nm:(toString "max"++toString ".loop":String)="max.loop":=by decide
 change wpAny _ A.in1 (Builtin.Builtins.bindParams "max" ["key","default"] 0 ⟨[],[("default",d)]⟩ >>= _) _ _ s
 refine af (gR (show Builtin.Builtins.bindParams "max" ["key","default"] 0 ⟨[],[("default",d)]⟩=pure [none,some d] from rfl) (af (aw (af (dD hl ?_)))));refine af (cw ?_);rw[nm];have ll:l<s.heap.objs.size:=let⟨_,ho,_⟩:=hl;aP ho;have sz:(s.heap.push { cls:=.type "list_iterator",data:=.fields #[.ref l,.int 0 0] }).objs.size=s.heap.objs.size+1:=bW ..;refine aw ⟨dO cK _,Si (P:=λi v=>items[i]?=some v) (Walks.list (A:=A.in1) (show A.in1.handled=none from hh) s.heap.objs.size l (aX ll) items) (CmpOf.ints_gt val hval) (S:=(s.heap.push { cls:=.type "list_iterator",data:=.fields #[.ref l,.int 0 0] }).objs.size) ?_ items.size 0 _ [] 0 (hW _) ?_ ?_ (.inl ⟨rfl,rfl⟩) λr h' tk hr k=>?_⟩
 ·rw[sz];intro z;rcases aM.mp z with z|z
  ·exact gn _ z
  ·exact fq (cT ll) (ag.mp z)
 ·refine⟨⟨_,aq _ (aQ _ rfl),rfl,rfl⟩,hl.at λo e=>aq _ (aq _ e)⟩
 ·exact aQ _ rfl
 ·refine q r h' tk hr λb o e=>k b o ?_ ?_ (aq _ (aq _ e))
  ·exact λz=>aX (aP e) (ag.mp z)
  ·rw[sz];exact aX (cT (aP e))
theorem Uy {M:Model} {A:Around} {E:Value->Shared->Prop} {s:Shared} {pos:Pos} {id:String} {args:List (Bool×Sem Value)} {kws:List (Option Str×Sem Value)} {Q:Value->Shared->Prop} (hp:args.any (·.1)=false) (hk:kws.any (·.1.isNone)=false)
  (h:wpAny M A (evalArgs (.builtin id) true args kws) (λz sz=>wpAny M A (call (.builtin id) z.pos z.kw) Q E sz) E s):wpAny M A (callWith pos (.builtin id) [] args kws) Q E s:=by
 unfold callWith;refine af (cz (bD h (λz sz hz=>af (gw ?_)) λ_ _ y=>y));simp only[hp,hk,Bool.or_false];refine af (aw (af (bD hz (λv sv hv=>af (cz (wpAny_point (aw hv)))) λ_ _ y=>y)))
end
section
open PySem PySem.Spec PyProof.Rows PySem.Calls
variable {X:Cx}
def Ql:List Int->Int
 |[]=>0
 |x::l=>l.foldl (λa b=>if a<b then b else a) x
theorem Sa {l:List Int}(h:l≠[])(x:Int):Ql (l++[x])=if Ql l<x then x else Ql l:=by
 cases l with
 |nil=>exact absurd rfl h
 |cons y l=>
  show(l++[x]).foldl (λa b=>if a<b then b else a) y=_;rw[eZ];rfl
theorem Nn (ns:List Int):∀k,k<ns.length->argBest (λi j=>decide (ns.getD j 0<ns.getD i 0)) k<ns.length/\Ql (ns.take (k+1))=ns.getD (argBest (λi j=>decide (ns.getD j 0<ns.getD i 0)) k) 0
 |0,h=>by
  cases ns with
  |nil=>exact absurd h (eC _)
  |cons x l=>exact⟨h,rfl⟩
 |k+1,h=>by
  obtain⟨h1,h2⟩:=Nn ns k (by lia);have e:ns.take (k+1+1)=ns.take (k+1)++[ns.getD (k+1) 0]:=by
   rw[bg,cB,aa h];rfl
  have ne:ns.take (k+1)≠[]:=λz=>by
   have:=congrArg List.length z;rw[bu,gH] at this
   lia
  rw[e,Sa ne,h2];show(if decide (_<_)=true then k+1 else _)<_/\_=ns.getD (if decide (_<_)=true then k+1 else _) 0
  by_cases q:ns.getD (argBest (λi j=>decide (ns.getD j 0<ns.getD i 0)) k) 0<ns.getD (k+1) 0
  ·rw[aC q,aC (aH q)];exact⟨h,rfl⟩
  ·rw[ay q,ay (by rw[aS q];exact aB)];exact⟨h1,rfl⟩
theorem LP:∀{its:List Value} {ns:List Int},IntsAre its ns->∀{i:Nat} {v:Value},its[i]?=some v->∃t,v=Value.int (ns.getD i 0) t
 |_,_,.nil,i,v,h=>by simp at h
 |_,_,.cons n t r,0,v,h=>by simp at h;exact⟨t,h.symm⟩
 |_,_,.cons n t r,i+1,v,h=>LP r (by simpa using h)
def XZ (K:PySem.W.Frag)(ta:TA):TE:=λσ H Q=>ta σ H λvs H1=>∃(a:Addr) (ns:List Int),vs=[.ref a]/\AJ K H1 a (ns.map V.int)/\Q (.int (Ql ns)) H1
theorem VE {l:Expr} {ta:TA} {p pos kp cp:Pos} {j} (hc:X.calm=true) (hg:Gl X "max") (hm:X.mg "max"=none) (ha:PA X [l] ta)
  (he:backTo pos (starEach [l] X.env)=(false,eval l X.env)::backTo pos (starEach [] X.env):=by rfl)
  (hpl:(backTo pos (starEach [l] X.env)).any (·.1)=false:=by rfl) :
  PE X (.Call (.Name "max" p) [l] [⟨some "default",.Constant (.int 0) j cp,kp⟩] pos) (XZ X.K ta):=by
 intro pins s σ H Q I h;refine cS (Ii I hg hm Xb (Uy hpl rfl ?_));have hsp:=ha pos pins s σ H _ I h;rw[he] at hsp ⊢;refine evalArgs_kwB rfl (Bm hsp λus s1 z9=>?_);obtain⟨vs,H1,I1,r1,q1⟩:=z9;refine kws_cons (gC (kws_nil ?_));obtain⟨a,ns,rfl,hq,q⟩:=q1;obtain⟨u,rfl,ru⟩:=vals1 r1;cases ru;have I2:=I1.tok (s1.toks+1);obtain⟨its,rv,p1,hz⟩:=I2.list hq;have hi:=intsAre_of rv;have ln:its.length=ns.length:=IntsAre.length hi;refine RQ (items:=its.toArray) (d:=.int 0 s1.toks) (I2.ok.hd hc) p1.isList (λi=>ns.getD i 0) (λi v e=>LP hi (by simpa using e)) λr h' tk hr k=>?_
 obtain⟨t,rfl⟩:∃t,r=Value.int (Ql ns) t:=by
  rcases hr with⟨h0,rfl⟩|⟨h0,h1⟩
  ·have:ns=[]:=bC (by rw[<-ln];simpa using h0);subst this;exact⟨_,rfl⟩
  ·have h2:0<ns.length:=by rw[<-ln];simpa using h0
   obtain⟨t,e⟩:=LP hi (i:=argBest (λi j=>decide (ns.getD j 0<ns.getD i 0)) (ns.length-1)) (v:=r) (by rw[<-ln];simpa using h1);have:=(Nn ns (ns.length-1) (by lia)).2;rw[show ns.length-1+1=ns.length by lia,cM] at this;exact⟨t,by rw[e,this]⟩
 exact⟨.int (Ql ns),H1,I2.kept (t':=tk) k,⟨t,rfl⟩,q⟩
end
end L2
namespace L2
end L2
namespace L2
end L2
namespace L2
end L2
namespace L2
end L2
namespace L2
end L2
namespace L2
end L2
namespace L2
end L2
namespace L2
end L2
namespace L2
end L2
namespace L2
end L2
namespace L2
section
open PySem PySem.Calls PySem.Spec PyProof.Rows PySem.Builtin.Str
variable {X:Cx}
def Yf:List V->Hp->VK->Prop:=λxs H Q=>∃n:Int,xs=[.int n]/\0<=n/\n<10^10/\Q (.str (PySem.Str.ofString (toString n))) H
theorem MV:DS X (.type "str") Yf:=by
 intro pins s σ H xs us Q I r h;obtain⟨n,rfl,h0,h1,q⟩:=h;obtain⟨u,rfl,ru⟩:=vals1 r;obtain⟨t,rfl⟩:=ru;refine PySem.P.str_of_int ?_ ⟨.str _,H,I.tok _,⟨_,rfl⟩,q⟩;have h2:n.natAbs<2^34:=by lia
 by_cases hz:n.natAbs=0
 ·rw[hz];decide
 ·exact Nat.lt_trans ((Nat.log2_lt hz).mpr h2) (by decide)
end
end L2
namespace L2
open PySem PySem.Spec PyProof.Rows
def X0:Bool->String
 |true=>"list_iterator"
 |false=>"tuple_iterator"
abbrev Wn (k:Bool)(a:Addr):Obj:={ cls:=.type (X0 k),data:=.fields #[.ref a,.int 0 0] }
abbrev Yr (k:Bool)(h:Heap)(a:Addr):Heap:=h.push (Wn k a)
abbrev Y5 (k j:Bool)(h:Heap)(a b:Addr):Heap:=(Yr k h a).push (Wn j b)
abbrev Zk (k j:Bool)(h:Heap)(a b:Addr):Heap:=(Y5 k j h a b).push { cls:=.type "tuple",data:=.seq #[.ref h.objs.size,.ref (Yr k h a).objs.size] }
end L2
namespace L2
end L2
namespace L2
end L2
namespace L2
end L2
namespace L2
end L2
namespace L2
end L2
namespace L2
end L2
namespace L2
end L2
namespace L2
end L2
namespace L2
end L2
namespace L2
end L2
namespace L2
section
open PySem
variable {α:Type}
theorem Jv {K:PySem.W.Frag} {J:It} {ps:List α} {g:α->Addr} {A B f:α->V} {fr:List (Option Nat)} {i0 i1 n:Nat} {te:TE} {Q:VK} {σ:St} {H:Hp} (hJ:Pm J H (ps.map λx=>V.ref (g x))) (hpr:∀x∈ps,H (g x)=some (.tup [A x,B x])) (hn:ps.length<=1000000) (h2:n=2) (hne:i0≠i1)
  (helt:∀x∈ps,∀(H':Hp) (R:VK),As H H'->(∀H'',As H' H''->R (f x) H'')->te (((stC fr σ).set i0 (some (A x))).set i1 (some (B x))) H' R)
  (hQ:∀l H',H l=none->As H H'->H' l=some (.lst (ps.map f))->Q (.ref l) H'):Fm fr (TR K n (Lu (BH i0) (Lu (BH i1) VW))) Qw te σ Q J H:=by
 subst h2;intro l hl;refine⟨λi m σ' H'=>m=ps.length-i/\i<=ps.length/\(∀y z,(σ'.set i0 y).set i1 z=((stC fr σ).set i0 y).set i1 z)/\As H H'/\H' l=some (.lst ((ps.take i).map f)),⟨ps.length,by simp,aR _,λ_ _=>rfl,Al hl _,by rw[Ag];rfl⟩,?_⟩
 rintro i m σ' H' ⟨rfl,hi,hσ,hs,hl'⟩
 obtain⟨h1,h2,h3⟩:=hJ H' hs i;rw[ab] at h1 h2 h3
 by_cases hlt:i<ps.length
 ·refine .inr ⟨h1 hlt,λx H'' y=>?_⟩;obtain⟨rfl,hx⟩:=h2 x H'' y;have hx:=hx hlt;rw[aD,aa hlt] at hx;cases hx;have hm:ps[i]∈ps:=bQ hlt;refine⟨g ps[i],_,rfl,A8.of (hs.get (hpr _ hm)),rfl,_,_,rfl,_,_,rfl,rfl,?_⟩;show te ((σ'.set i0 (some (A ps[i]))).set i1 (some (B ps[i]))) _ _;rw[hσ];refine helt _ hm H'' _ hs λH4 s4=>?_
  refine⟨_,s4.get hl',A7 (by rw[ab,bu];lia),ps.length-(i+1),by lia,rfl,hlt,λy z=>?_,A5 (hs.trans s4) hl _,?_⟩
  ·rw[List.set_comm _ _ (Ne.symm hne),dh,dh]
  ·rw[Ag,bg,aa hlt,aJ];rfl
 ·have e:i=ps.length:=by lia
  subst e;exact .inl ⟨h3 (ah _),hQ l H' hl hs (by rw[hl',aK (ah _)])⟩
end
end L2
namespace L2
end L2
namespace L2
end L2
namespace L2
end L2
namespace L2
end L2
namespace L2
end L2
namespace L2
end L2
namespace L2
end L2
namespace L2
end L2
namespace L2
end L2
namespace L2
open PySem
end L2
namespace L2
end L2
namespace L2
end L2
namespace L2
end L2
namespace L2
end L2
namespace L2
end L2
namespace L2
end L2
namespace L2
end L2
namespace L2
end L2
namespace L2
open PySem PySem.Spec PyProof.Rows
end L2
namespace L2
end L2
namespace L2
noncomputable instance trDec:DecidableEq Tr:=λa b=>Classical.propDecidable (a=b)
end L2
namespace L2
end L2
namespace L2
end L2
namespace L2
section
open PySem PySem.Calls PyProof.Rows
variable {prog:Program}{w:World}{A:Around}{E:Value->Shared->Prop}{s:Shared}
def T8 (w:World)(h:Heap)(a:Addr):Prop:=h.get? a=some { cls:=.type "set",dict:=none,data:=.set #[] 0 (.fresh 0 0 (!BE w)) }
theorem T8.at {h:Heap}{a:Addr}(x:T8 w h a):GM h a #[] 0 (.fresh 0 0 (!BE w)):=⟨_,x,rfl,rfl⟩
theorem Yg {a:Addr}{i:Nat}{Q:Option (Value×Nat)->Shared->Prop}(x:GM s.heap a #[] 0 (.fresh 0 0 (!BE w)))(q:Q none s):wpAny (model prog w) A (setNext a 0 i 0) Q E s:=by
 obtain⟨o,eo,_,d⟩:=x;have f:(SetTable.fresh 0 0 (!BE w)).fits (#[]:Array (Int×Value)).size=true:=rfl;unfold setNext setsByText;refine af (gJ eo d f ?_);dsimp only;simp only[bind_assoc,pure_bind];refine af (eG ?_);refine dy (λbt=>?_) (λbt=>?_)
 ·rw[ay (by simp)];unfold setWalk setsByText;simp only[bind_assoc,pure_bind];refine af (gJ eo d f ?_);dsimp only;refine af (eG ?_);refine af (dy (λ_=>?_) (λc=>absurd bt c));refine af (eG (aw ?_));have e:(pickOrder (w.params.setOrder a 0) (#[]:Array (Int×Value)))[i]?=none:=by
   have:=(RV (w.params.setOrder a 0) (#[]:Array (Int×Value))).length_eq;rw[dI] at this;exact Array.getElem?_eq_none (by rw[this];exact aR _)
  have q':Q ((pickOrder (w.params.setOrder a 0) (#[]:Array (Int×Value)))[i]?.map λe=>(e.2,0)) s:=by rw[e];exact q
  exact aw q'
 ·refine dy (λc=>absurd c (show ¬(!(SetTable.fresh 0 0 (!BE w)).plain&&decide ((#[]:Array (Int×Value)).size>1))=true by simp)) (λ_=>?_);refine af (?_:wpAny _ _ (if(!(!BE w) && !(#[]:Array (Int×Value)).isEmpty)=true then unsupported "set:maker-not-led" else pure ()) _ _ _);rw[ay (by simp)];exact aw (aw q)
theorem Yp {a:Addr} {Q:Value->Shared->Prop} (x:GM s.heap a #[] 0 (.fresh 0 0 (!BE w)))
  (q:∀h' I fp St,(∀b o,s.heap.get? b=some o->h'.get? b=some o)->(∀A:Around,A.handled=none->Walks prog w A I fp [I] 0 (λi v=>([]:List Value)[i]?=some v) St)->St 0 h'->
   (∀b∈fp,b=a\/s.heap.get? b=none)->s.heap.get? I=none->Q (.ref I) { s with heap:=h' }):wpAny (model prog w) A (pyIter (.ref a)) Q E s:=by
 obtain⟨o,eo,co,dd⟩:=id x;have hT:s.TypeIs (.ref a) "set":=⟨o,eo,co⟩
 have hlt:=aP eo;have f:(SetTable.fresh 0 0 (!BE w)).fits (#[]:Array (Int×Value)).size=true:=rfl;refine wpAny_pyIter_slot hT iq (cQ iq hT Lk ?_ (PySem.F.args_set_iter_1 _));unfold Builtin.«frozenset.__iter__» Builtin.Frozenset.slot0 slotArgs;simp only[bind_assoc,bne_self_eq_false,List.isEmpty_nil,List.length_nil,Bool.not_true,Bool.false_eq_true,↓reduceIte];refine af (aw ?_);dsimp only;refine af (m:=Builtin.Frozenset.addrOf (.ref a)) (aw ?_);unfold Builtin.Frozenset.sizeOf;simp only[bind_assoc,pure_bind];refine af (Gg x f ?_);unfold setDrawn setsByText;simp only[bind_assoc,pure_bind];refine af (gJ eo dd f ?_);dsimp only;refine af (eG ?_);refine dy (λc=>absurd c (show ¬(!BE w&&(!(SetTable.fresh 0 0 (!BE w)).plain&&decide ((#[]:Array (Int×Value)).size>1)))=true by simp)) (λ_=>?_);refine af (wpAny_setEpoch_of eo dd f ?_);refine af (cw (aw ⟨_,rfl,"set_iterator",_,⟨_,aQ _ rfl,rfl⟩,Jn.lookup,?_⟩));refine q _ s.heap.objs.size _ _ (λb o e=>aq _ e) (λA hh=>RD hh s.heap.objs.size a (aX hlt) [] (λ_=>0) #[] 0 (.fresh 0 0 (!BE w)) f rfl λi A E s Q li x q=>Yg x (by simpa using q)) ⟨⟨_,aQ _ rfl,rfl,rfl⟩,x.keep λo e=>aq _ e⟩ (λb hb=>?_) (OY _);simp only[List.mem_cons,List.not_mem_nil,or_false] at hb;rcases hb with rfl|rfl
 ·exact .inr (OY _)
 ·exact .inl rfl
theorem Tt {a:Addr} {Q:List Value->Shared->Prop} (hh:A.handled=none) (x:GM s.heap a #[] 0 (.fresh 0 0 (!BE w)))
  (q:∀h' tk,(∀b o,s.heap.get? b=some o->h'.get? b=some o)->Q [] { s with heap:=h',toks:=tk }):wpAny (model prog w) A (collect (.ref a)) Q E s:=by
 refine J8 ?_;have x1:GM (s.heap.push { cls:=.type "list",data:=.seq #[] }) a #[] 0 (.fresh 0 0 (!BE w)):=x.keep λo e=>aq _ e
 have lt:a<s.heap.objs.size:=let⟨_,e,_⟩:=x;aP e;unfold Builtin.List.listExtendWith;have hT:Shared.TypeIs { s with heap:=s.heap.push { cls:=.type "list",data:=.seq #[] } } (.ref a) "set":=let⟨o,e,c,_⟩:=x1;⟨o,e,c⟩;refine af (wpAny_typeOf hT ?_);have n1:Builtin.List.listSameRef (.ref s.heap.objs.size) (.ref a)=false:=by simp[Builtin.List.listSameRef,Nat.ne_of_gt lt]
 have n2:(Value.type "set" == Value.type "list")=false:=by decide
 have n3:(Value.type "set" == Value.type "tuple")=false:=by decide
 simp only[n1,n2,n3,Bool.or_false,Bool.false_eq_true,if_false];refine af (Yp x1 λh1 I fp St k1 W st fr nI0=>?_);have hS1:h1.get? s.heap.objs.size=some { cls:=.type "list",data:=.seq #[] }:=k1 _ _ (aQ _ rfl);have hSf:s.heap.objs.size∉fp:=λhm=>by
  rcases fr _ hm with z|z
  ·exact absurd z (fq lt)
  ·rw[show(s.heap.push { cls:=.type "list",data:=.seq #[] }).get? s.heap.objs.size=some { cls:=.type "list",data:=.seq #[] } from aQ _ rfl] at z;cases z
 have nI:∀b o,s.heap.get? b=some o->b∉s.heap.objs.size::[I]:=λb o e hm=>by
  rcases aM.mp hm with z|z
  ·exact absurd (aP e) (by rw[z];exact cL _)
  ·rw[ag] at z;subst z;rw[aq _ e] at nI0;cases nI0
 refine af (cz (Ux (let⟨o,e,c,_⟩:=x1;⟨o,k1 _ _ e,c⟩) ?_));refine dy (λ_=>?_) (λc=>absurd (by decide) c);refine af (dR ?_);refine af ?_;show wpAny _ _ (updateSeq s.heap.objs.size (·.push .none) >>= λ_=>updateSeq s.heap.objs.size (·.pop)) _ _ _;refine af (fT hS1 rfl ?_);have hS2:=cW (Obj.mapSeq (·.push Value.none)) hS1 rfl;refine fT (hz:=by seq_fits) hS2 rfl ?_;have hS3:=cW (Obj.mapSeq (·.pop)) hS2 rfl;have oth:∀b o,b≠s.heap.objs.size->h1.get? b=some o->((h1.update s.heap.objs.size (Obj.mapSeq (·.push Value.none))).update s.heap.objs.size (Obj.mapSeq (·.pop))).get? b=some o:=
  λb o n e=>(cE _ _ (Ne.symm n)).trans ((cE _ _ (Ne.symm n)).trans e)
 refine aw ⟨dO PySem.F.plain_extend_loop _,codeAny_extend_loopS (W A.in1 hh).toS (aR _) s.heap.objs.size hSf (.ref s.heap.objs.size) 0 0 _ #[] _ rfl (aR _) ((W A hh).frame 0 _ _ st λb hb o e=>oth b o (λz=>hSf (z▸hb)) e) hS3 (ItemsOf.nil _) λs' acc c hm hS' it=>?_⟩;refine⟨acc,c,rfl,hS',?_⟩;rw[Qp (xs:=[]) it,Moved.eq_with hm];exact q _ _ (λb o e=>hm.heap b o (nI b o e) (oth b o (aX (aP e)) (k1 b o (aq _ e))))
theorem TC {lq:Addr} {Q:Value->Shared->Prop} (hh:A.handled=none) (hl:s.heap.IsList lq #[])
  (q:∀h' tk,(∀b o,s.heap.get? b=some o->h'.get? b=some o)->T8 w h' s.heap.objs.size->Q (.ref s.heap.objs.size) { s with heap:=h',toks:=tk }):wpAny (model prog w) A (call (.type "set") [.ref lq]) Q E s:=by
 obtain⟨c,tl,hmro⟩:=PySem.F.called_set.mro;have hmade:=PySem.F.called_set.made;have hsub:=PySem.F.called_set.sub;refine gB (g6 (aw ⟨Code.quiet_builtin _ (by decide +kernel),cY PySem.F.entry_type_call ?_⟩));rw[Around.under_plain (weight_type_call_type "set" [.ref lq] []) rfl];have h1:=PySem.F.called_set.notType;have h2:=PySem.F.called_set.canCreate;have hct:=PySem.F.typeCall_set_1 (.ref lq)
 repeat (any_goals (first|assumption|wp_step))
 refine du (SU (.ref lq) (E:=E) (Q₁:=λobj s₁=>obj=.ref s.heap.objs.size/\s₁={ s with heap:=s.heap.push { cls:=.type "set",dict:=none,data:=.set #[] 0 (.fresh 0 0 (!BE w)) } }) ⟨rfl,rfl⟩) λr s₁ hr=>?_
 match r,hr with
 | .error e,hr=>exact hr
 | .ok (.ret obj),hr=>
  obtain⟨rfl,rfl⟩:=hr;have hS:(s.heap.push { cls:=.type "set",dict:=none,data:=.set #[] 0 (.fresh 0 0 (!BE w)) }).get? s.heap.objs.size=some { cls:=.type "set",dict:=none,data:=.set #[] 0 (.fresh 0 0 (!BE w)) }:=aQ _ rfl;have hT:Shared.TypeIs { s with heap:=s.heap.push { cls:=.type "set",dict:=none,data:=.set #[] 0 (.fresh 0 0 (!BE w)) } } (.ref s.heap.objs.size) "set":=⟨_,hS,rfl⟩
  have hli:=PySem.F.called_set.init.lookup;have hbi:=PySem.F.called_set.init.bind (.ref s.heap.objs.size)
  repeat (any_goals (first|assumption|wp_step))
  refine du (eK (R:=wants (λr s₂=>r=.none/\∃h' tk,s₂={ s with heap:=h',toks:=tk }/\(∀b o,s.heap.get? b=some o->h'.get? b=some o)/\T8 w h' s.heap.objs.size) E) PySem.F.called_set.init.plain PySem.F.entry_set_init (check_set_init_1 hT ?_)) λr₂ s₂ hr₂=>?_
  ·obtain⟨⟨cl,dl,tl,sl⟩,el,hcl,nl,hdl⟩:=hl;simp only at hcl hdl;subst hcl;subst hdl;have el':=aq ({ cls:=.type "set",dict:=none,data:=.set #[] 0 (.fresh 0 0 (!BE w)) }:Obj) el;have lt:lq<s.heap.objs.size:=aP el;have l1:(s.heap.push { cls:=.type "set",dict:=none,data:=.set #[] 0 (.fresh 0 0 (!BE w)) }).IsList lq #[]:=⟨_,el',rfl,nl,rfl⟩
   have n1:=PySem.F.sub_list_set;have n2:=PySem.F.sub_list_frozenset;have n3:(Value.type "list" == Value.type "dict")=false:=by decide
   unfold Builtin.«set.__init__» Builtin.Frozenset.updateFrom noKeywords;generalize ePI:pyIter=PI
   wp_walk
   subst ePI;refine dD l1 (af (wpAny_runValue ?_));have nI:lq≠(s.heap.push { cls:=.type "set",dict:=none,data:=.set #[] 0 (.fresh 0 0 (!BE w)) }).objs.size:=by rw[bW];exact aX (cT lt)
   have hA:A.in1.in1.in1.handled=none:=by simp[hh]
   have W:=Walks.list (prog:=prog) (w:=w) hA (s.heap.push { cls:=.type "set",dict:=none,data:=.set #[] 0 (.fresh 0 0 (!BE w)) }).objs.size lq nI #[];refine cY PyProof.Rows.F.entry_set_update_loop ?_;rw[dc PyProof.Rows.F.plain_set_update_loop _];refine af (m:=pyNext (.ref _)) (W.done _ _ _ ⟨⟨_,aQ _ rfl,rfl,rfl⟩,l1.push _⟩ λh' tk k'=>aw ?_);have nz:∀b o,s.heap.get? b=some o->b≠(s.heap.push { cls:=.type "set",dict:=none,data:=.set #[] 0 (.fresh 0 0 (!BE w)) }).objs.size:=λb o e z=>by
    have lb:=aP e;rw[z,bW] at lb;exact absurd lb (Nat.not_lt.mpr (eu _))
   refine aw (aw ⟨rfl,h',tk,rfl,λb o e=>k' b o (λz=>nz b o e (ag.mp z)) (aq _ (aq _ e)),k' _ _ (λz=>?_) (aq _ hS)⟩);have z:=ag.mp z;rw[bW] at z;exact absurd z (aX (fc _))
  ·match r₂,hr₂ with
   | .error e,hr₂=>exact hr₂
   | .ok (.ret r),hr₂=>
    obtain⟨rfl,h',tk,rfl,k',T⟩:=hr₂
    repeat (any_goals (first|assumption|wp_step))
    exact q _ _ k' T
   | .ok .next,hr₂=>exact hr₂.elim
end
section
open PySem PySem.Calls PyProof.Rows
variable {X:Cx}
def S0 (w:World)(p:Addr):HO:=.ext λh=>T8 w h p
def XU (w:World)(K:PySem.W.Frag):List V->Hp->VK->Prop:=λxs H Q=>∃(a:Addr),xs=[.ref a]/\AJ K H a []/\∀p,H p=none->Q (.ref p) (upd H p (S0 w p))
theorem RB {w:World}{K:PySem.W.Frag}(hw:X.w=w)(hK:X.K=K)(hc:X.calm=true):DS X (.type "set") (XU w K):=by
 subst hw hK;intro pins s σ H xs us Q I r h;obtain⟨a,rfl,h1,q⟩:=h;obtain⟨u,rfl,ru⟩:=vals1 r;cases ru;obtain⟨its,r1,p1,_⟩:=I.list h1;cases r1;refine TC (I.ok.hd hc) p1.isList λh' tk k T=>⟨.ref s.heap.objs.size,_,I.laid (t':=tk) k (ah _) (?_:Bw X.prog X.w _ h' _ (S0 X.w s.heap.objs.size)),rfl,q _ (I.hok.fresh (ah _))⟩
 exact⟨T,⟨_,T⟩,λh1 h2 T1 kk=>kk _ T1⟩
def Xv (w:World):List V->Hp->VK->Prop:=λxs H Q=>∃(a:Addr),xs=[.ref a]/\H a=some (S0 w a)/\∀p,H p=none->Q (.ref p) (upd H p (.lst []))
theorem Qt {w:World}(hw:X.w=w)(hc:X.calm=true):DS X (.builtin "sorted") (Xv w):=by
 subst hw;intro pins s σ H xs us Q I r h;obtain⟨a,rfl,h1,q⟩:=h;obtain⟨u,rfl,ru⟩:=vals1 r;cases ru;obtain⟨T,_⟩:Bw X.prog X.w H s.heap a (S0 X.w a):=I.hok a _ h1;refine LG (Tt (by simpa using I.ok.hd hc) T.at λh' tk k=>⟨[],.nil,.inl (by decide),λh2 p out ns' c ho pe _ lp k2 e=>?_⟩);have en:ns'=[]:=List.perm_nil.mp pe;subst en;cases ho;have I1:Inv X pins σ H { s with heap:=h',toks:=tk }:=I.kept (t':=tk) k;exact⟨.ref p,_,I1.laid (t':=tk) k2 lp (show Bw X.prog X.w _ h2 p (.lst []) from⟨aR _,[],c,.nil,e⟩),rfl,q p (I1.hok.fresh lp)⟩
end
end L2
namespace L2
section
open PySem PySem.Spec PyProof.Rows
variable {X:Cx}
theorem Sf:DS X (.builtin "len") (λxs H Q=>∃d kvs,xs=[V.ref d]/\H d=some (.dK kvs)/\Q (.int kvs.length) H):=by
 rintro pins s σ H xs us Q I r ⟨d,kvs,rfl,hd,q⟩
 obtain⟨_,rfl,ru⟩:=vals1 r;cases ru;exact X5 I (.inl hd) λt _ I'=>⟨.int kvs.length,H,I',⟨t,rfl⟩,q⟩
end
end L2
namespace L2
open PySem
end L2
namespace L2
open PySem PySem.Spec PyProof.Rows
variable {X:Cx}
variable {X:Cx}
end L2
namespace L2
end L2
namespace L2
open PySem
end L2
namespace L2
end L2
namespace L2
end L2
namespace L2
open PySem PySem.Spec PyProof.Rows
section
variable {P:Program}{w:World}{K:PySem.W.Frag}{h:Heap}{mg:Str->Option Value}{base:Heap}{x q m p:Str}{st:Stmt}{f C:Addr}{d:FuncData}{ps:List Str}{k:Nat}{sp:Sp}
def Each:List Str->(List Value->Prop)->Prop
 |[],R=>R []
 |_::ps,R=>∀v,Each ps λus=>R (v::us)
theorem Each.all:∀{ps:List Str} {R:List Value->Prop},Each ps R->∀us:List Value,us.length=ps.length->R us
 |[],_,z,[],_=>z
 |[],_,_,_::_,e=>nomatch e
 |_::_,_,_,[],e=>nomatch e
 |_::_,_,z,v::us,e=>Each.all (z v) us (Nat.succ.inj e)
def Zo (e:Value×Value×Value×Option Addr×Value×Value)(x q:Str)(st:Stmt):FuncData:=PySem.W.fnOf x q (IU st) (GY st) (Am st) .none e.1 e.2.1 e.2.2.1 e.2.2.2.1 e.2.2.2.2.1 e.2.2.2.2.2
def O1 (x q:Str)(st:Stmt)(ps:List Str):Prop:=∀e,Each ps λus=>bindArgs (Zo e x q st) ⟨us,[]⟩=pure (ps.zip us)
theorem Fun.bindE (F:Fun K x q st f d)(z:O1 x q st ps):Binds K d ps []:=F.binds λkV doc pm an cdv ct=>(z ⟨kV,doc,pm,an,cdv,ct⟩).all
theorem Fun.bind1 {y:Str}(F:Fun K x q st f d)(z:O1 x q st [y]):∀(s:Shared) (v:Value),BindsTo s d ⟨[v],[]⟩ [(y,v)]:=by
 obtain⟨oc,od,kV,doc,pm,an,cdv,ct,osl,rfl,lk,hcd⟩:=F.ex;exact λs v=>.of_eq (z ⟨kV,doc,pm,an,cdv,ct⟩ v)
abbrev Xu (K:PySem.W.Frag)(x:Str)(C:Addr):Prop:=PySem.W.nsIn K mainGlobals x=some (some (.ref C))
abbrev Ol (K:PySem.W.Frag)(x:Str):Prop:=PySem.W.nsIn K mainGlobals x=some none
def J1 (K:PySem.W.Frag)(x:Str)(n:Int):Prop:=∃t,PySem.W.nsIn K mainGlobals x=some (some (.int n t))
def Yt (K:PySem.W.Frag)(x:Str)(y:String):Prop:=∃t,PySem.W.nsIn K mainGlobals x=some (some (.str (PySem.Str.ofString y) t))
structure Sees (P:Program) (w:World) (K:PySem.W.Frag) (mg:Str->Option Value) (base:Heap):Prop where
 v:∀{x:Str} {v:Value},PySem.W.nsIn K mainGlobals x=some (some v)->mg x=some v
 o:∀{x:Str},Ol K x->mg x=none
theorem Sees.of (X:K.In h)(G:h.Ns mainGlobals mg):Sees P w K mg base:=⟨PySem.W.mg_of X G,PySem.W.mg_none_of X G⟩
theorem Sees.i {n:Int}(N:Sees P w K mg base)(z:J1 K x n):∃t,mg x=some (.int n t):=by
 obtain⟨t,e⟩:=z;exact⟨t,N.v e⟩
theorem Sees.s {y:String}(N:Sees P w K mg base)(z:Yt K x y):∃t,mg x=some (.str (PySem.Str.ofString y) t):=by
 obtain⟨t,e⟩:=z;exact⟨t,N.v e⟩
structure NsF (K:PySem.W.Frag) (x:Str) (st:Stmt) (f:Addr) (d:FuncData):Prop where
 a:Xu K x f
 F:Fun K x x st f d
structure ClF (K:PySem.W.Frag) (C:Addr) (m q:Str) (st:Stmt) (f:Addr) (d:FuncData):Prop where
 a:PySem.W.findIn K (.ref C) m=some (some (.ref f))
 i:PySem.W.isFn K (.ref f)=true
 F:Fun K m q st f d
structure NsC (K:PySem.W.Frag) (x:Str) (C:Addr):Prop where
 a:Xu K x C
 c:Cls K C
 m:PySem.W.makesIn K C=true
 k:PySem.W.keepIn K (.ref C)=true
theorem NsF.dd (D:NsF K x st f d)(N:Sees P w K mg base)(o:FnOk P w K mg base BI k f d ps sp)(z:O1 x x st ps):Def P w K mg base k x ps sp:=⟨f,d,o,N.v D.a,D.F.kp,D.F.bindE z⟩
theorem ClF.dd (D:ClF K C m q st f d)(N:Sees P w K mg base)(o:FnOk P w K mg base BI k f d ps sp)(z:O1 m q st ps):BJ P w K mg base k C m ps sp:=⟨f,d,o,⟨D.a,D.i,D.F.kp⟩,D.F.bindE z⟩
theorem ClF.c (D:ClF K C "__init__" q st f d)(N:Sees P w K mg base)(c:NsC K x C)(o:FnOk P w K mg base BI k f d ps sp)(z:O1 "__init__" q st ps):Su P w K mg base k C x ps sp:=⟨f,d,o,⟨c.m,D.a,D.i,c.k⟩,N.v c.a,D.F.bindE z⟩
end
end L2
namespace L2
section
open PySem PySem.Calls PyProof.Rows
variable {prog:Program}{w:World}{A:Around}{E:Value->Shared->Prop}{s:Shared}{a₀:Array Keyed}{p:Array (Nat×Nat×Nat)}
structure SB (a₀:Array Keyed) (p:Array (Nat×Nat×Nat)) (st:SortSt):Prop where
 perm:(arrOf st).Perm a₀
 kind:kindOf st=oneType'
 failed:failedOf st=none
 pend:pendingOf st=p
theorem SB.size {st:SortSt}(h:SB a₀ p st):(arrOf st).size=a₀.size:=h.perm.size_eq
theorem SB.set {st:SortSt}(h:SB a₀ p st){xs:Array Keyed}(hp:xs.Perm (arrOf st)):SB a₀ p (setArr st xs):=⟨hp.trans h.perm,h.kind,h.failed,h.pend⟩
def IK (x:Keyed):Prop:=∃n t,x.1=.int n t
theorem SB.ik {st:SortSt}(h:SB a₀ p st)(h0:IntKeys a₀){x:Keyed}(hx:x∈(arrOf st).toList):IK x:=h0 _ ((cN.mp h.perm).mem_iff.mp hx)
theorem SB.at {st:SortSt}(h:SB a₀ p st)(h0:IntKeys a₀){i:Nat}(hi:i<a₀.size):∃x,(arrOf st)[i]?=some x/\IK x:=by
 have z:=h.size;exact⟨(arrOf st)[i]'(by lia),dP _ i _,h.ik h0 (by simp)⟩
theorem A1 {st:SortSt}{xs:Array Keyed}{i:Nat}{x:Keyed}{Q:Keyed->SortSt->Prop}(e:xs[i]?=some x)(h:Q x st):wpS (model prog w) A E s (elem' xs i) Q st:=by
 rw[elem'_eq,e];exact aO h
theorem Jk {st:SortSt}{x y:Keyed}{Q:Option Bool->SortSt->Prop}(hk:kindOf st=oneType')(hx:IK x)(hy:IK y)(h:∀b,Q (some b) st):wpS (model prog w) A E s (lt' x y) Q st:=by
 obtain⟨a,t,e1⟩:=hx;obtain⟨b,u,e2⟩:=hy;rw[lt'_eq];refine aF (eV ?_);rw[hk,keyLt'_oneType,e1,e2];refine aF (gL (iQ (oneLt_int ⟨rfl,?_⟩)));exact aO (h _)
theorem G2 {st:SortSt}{i j:Nat}{Q:Option Bool->SortSt->Prop}(hB:SB a₀ p st)(h0:IntKeys a₀)(hi:i<a₀.size)(hj:j<a₀.size)(h:∀b,Q (some b) st):wpS (model prog w) A E s (ltAt' i j) Q st:=by
 obtain⟨x,e1,k1⟩:=hB.at h0 hi;obtain⟨y,e2,k2⟩:=hB.at h0 hj;rw[ltAt'_eq];refine aF (eV ?_);exact aF (A1 e1 (aF (A1 e2 (Jk hB.kind k1 k2 h))))
theorem KW {st:SortSt}{i j:Nat}{Q:Unit->SortSt->Prop}(hB:SB a₀ p st)(h:∀st',SB a₀ p st'->Q () st'):wpS (model prog w) A E s (reverseSlice' i j) Q st:=wpS_reverse (h _ (hB.set (mirror_perm _ _ _ _)))
theorem UH {st:SortSt}{lo nrem:Nat}{Q:Option Nat->SortSt->Prop}(h0:IntKeys a₀)(hn:lo+nrem<=a₀.size)(h1:1<=nrem)(hB:SB a₀ p st)(h:∀m st',SB a₀ p st'->1<=m->m<=nrem->Q (some m) st'):wpS (model prog w) A E s (countRun' lo nrem) Q st:=by
 rw[countRun'_eq];refine aF (cV (bX (I:=λx c st'=>c=(none,x)/\SB a₀ p st') (Q:=λc st'=>∃m,c=(none,m)/\1<=m/\m<=nrem/\SB a₀ p st') (λy c st' hay hyn hI=>?_) (λc st' hI=>?_) ⟨rfl,hB⟩) λc st' hc=>?_)
 ·obtain⟨rfl,hB'⟩:=hI;refine aF (G2 hB' h0 (by dsimp only;lia) (by dsimp only;lia) λb=>?_);cases b with
  |true=>exact aO ⟨y,rfl,hay,by lia,hB'⟩
  |false=>exact aO ⟨rfl,hB'⟩
 ·obtain⟨rfl,hB'⟩:=hI;exact⟨_,rfl,by lia,by lia,hB'⟩
 obtain⟨n,rfl,n1,n2,hB1⟩:=hc;generalize st'=st1 at hB1 ⊢;dsimp only
 by_cases hnn:n=nrem
 ·rw[aC (by simpa using hnn)];exact aO (h _ _ hB1 n1 n2)
 rw[ay (by simpa using hnn)]
 by_cases h2:n>1
 all_goals first
  |(rw[aC h2]
    refine aF (G2 hB1 h0 (by lia) (by lia) λb=>?_);cases b
    rotate_left
    exact aO (h _ _ hB1 n1 n2);refine aF (KW hB1 λst2 hB2=>?_))
  |(rw[ay h2]
    have hB2:=hB1)
 all_goals
  refine aF (gL (dR ⟨rfl,?_⟩));refine aF (cV (bX (I:=λx c st'=>∃q,c=(none,x,q)/\SB a₀ p st') (Q:=λc st'=>∃x q,c=(none,x,q)/\n+1<=x/\x<=nrem/\SB a₀ p st') (λx c st' hax hxn hI=>?_) (λc st' hI=>?_) ⟨0,rfl,hB2⟩) λc st3 hc=>?_)
  ·obtain⟨q,rfl,hB'⟩:=hI;refine aF (G2 hB' h0 (by dsimp only;lia) (by dsimp only;lia) λb=>?_);cases b with
   |true=>
    dsimp only;rw[aC rfl]
    by_cases hq:q>0
    ·rw[aC hq];exact aF (KW hB' λst4 hB4=>aO ⟨0,rfl,hB4⟩)
    ·rw[ay hq];exact aO ⟨0,rfl,hB'⟩
   |false=>
    dsimp only;rw[ay aB];refine aF (G2 hB' h0 (by lia) (by lia) λb2=>?_);cases b2 with
    |true=>exact aO ⟨x,q,rfl,hax,by lia,hB'⟩
    |false=>exact aO ⟨q+1,rfl,hB'⟩
  ·obtain⟨q,rfl,hB'⟩:=hI;exact⟨_,q,rfl,by lia,by lia,hB'⟩
  obtain⟨x,q,rfl,h3,h4,hB3⟩:=hc;dsimp only
  by_cases hq:q>0
  all_goals first
   |(rw[aC hq]
     refine aF (KW hB3 λst4 hB4=>?_))
   |(rw[ay hq]
     have hB4:=hB3)
  all_goals
   refine aF (KW hB4 λst5 hB5=>?_);refine aF (cV (bX (I:=λx c st'=>c=(none,x)/\SB a₀ p st') (Q:=λc st'=>∃m,c=(none,m)/\x<=m/\m<=nrem/\SB a₀ p st') (λy c st' hay hyn hI=>?_) (λc st' hI=>?_) ⟨rfl,hB5⟩) λc st' hc=>?_)
   ·obtain⟨rfl,hB'⟩:=hI;refine aF (G2 hB' h0 (by dsimp only;lia) (by dsimp only;lia) λb=>?_);cases b with
    |true=>exact aO ⟨y,rfl,hay,by lia,hB'⟩
    |false=>exact aO ⟨rfl,hB'⟩
   ·obtain⟨rfl,hB'⟩:=hI;exact⟨_,rfl,by lia,by lia,hB'⟩
   obtain⟨m,rfl,k1,k2,hB6⟩:=hc;exact aO (h _ _ hB6 (by lia) k2)
theorem SF {st:SortSt}{lo n ok:Nat}{Q:Bool->SortSt->Prop}(h0:IntKeys a₀)(hn:lo+n<=a₀.size)(hB:SB a₀ p st)(h:∀st',SB a₀ p st'->Q true st'):wpS (model prog w) A E s (binarySort' lo n ok) Q st:=by
 rw[binarySort'_eq];refine aF (cV (bX (I:=λk c st'=>c=(none,())/\SB a₀ p st') (Q:=λc st'=>c=(none,())/\SB a₀ p st') (λk c st' hak hkn hI=>?_) (λc st' hI=>hI) ⟨rfl,hB⟩) λc st' hc=>?_)
 ·obtain⟨rfl,hB'⟩:=hI;refine aF (cV (bX (I:=λx c st''=>SB a₀ p st''/\∃l r,c=(none,l,r)/\r<=k) (Q:=λc st''=>SB a₀ p st''/\∃l r,c=(none,l,r)/\r<=k) (λx c st'' _ hxk hI=>?_) (λc st'' hI=>hI) ⟨hB',0,k,rfl,ah _⟩) λc st'' hc=>?_)
  ·obtain⟨hB2,l,r,rfl,hr⟩:=hI;dsimp only
   by_cases hge:l≥r
   ·rw[aC hge];exact aO ⟨hB2,l,r,rfl,hr⟩
   ·rw[ay hge];refine aF (G2 hB2 h0 (by lia) (by lia) λb=>?_);cases b with
    |true=>exact aO ⟨hB2,l,_,rfl,by lia⟩
    |false=>exact aO ⟨hB2,_,r,rfl,hr⟩
  ·obtain⟨hB2,l,r,rfl,hr⟩:=hc;show wpS _ _ _ _ (do moveDown' (lo+k) (lo+l);pure (ForInStep.yield (none,()))) _ _;rw[moveDown'_eq];exact aF (fQ (aO ⟨rfl,hB2.set (bubble_perm _ _ _)⟩))
 ·obtain⟨rfl,hB'⟩:=hc;exact aO (h st' hB')
def Vt:Bool->Keyed->Array Keyed->Nat->Nat->Nat->StateT SortSt Sem (Option Nat):=sortPriv% PySem.Builtin.gallop
theorem GW {st:SortSt}{left:Bool}{key:Keyed}{arr:Array Keyed}{base n hint:Nat}{Q:Option Nat->SortSt->Prop}(hk:kindOf st=oneType')(ik:IK key)(ia:∀i,base+i<base+n->∃x,arr[base+i]?=some x/\IK x)(hh:hint<n)(h:∀k,k<=n->Q (some k) st):wpS (model prog w) A E s (Vt left key arr base n hint) Q st:=by
 have bey:∀(i:Nat) (R:Option Bool->SortSt->Prop),i<n->(∀b,R (some b) st)->wpS (model prog w) A E s (do
   let x <-elem' arr (base+i)
   if left=true then lt' x key else do
    let __do_lift <-lt' key x
    pure (Option.map (λx=>!x) __do_lift)) R st:=λi R hi q=>by
  obtain⟨x,e,ix⟩:=ia i (by lia);refine aF (A1 e ?_);cases left with
  |true=>exact Jk hk ix ik q
  |false=>exact aF (Jk hk ik ix λb=>aO (q _))
 refine aF (bey hint _ hh λright=>?_);cases right
 all_goals
  dsimp only
  first
   |rw[aC rfl]
   |rw[ay aB]
  refine aF (cV (bX (I:=λx c st'=>st'=st/\∃l r,c=(none,l,r)) (Q:=λc st'=>st'=st/\∃l r,c=(none,l,r)) (λx c st' _ hxn hI=>?_) (λc st' hI=>hI) ⟨rfl,0,1,rfl⟩) λc st' hc=>?_)
  ·obtain⟨rfl,l,r,rfl⟩:=hI;dsimp only
   split
   ·exact aO ⟨rfl,l,r,rfl⟩
   ·first
     |refine aF (bey (hint+r) _ (by lia) λb=>?_)
     |refine aF (bey (hint-r) _ (by lia) λb=>?_)
    cases b with
    |true=>exact aO ⟨rfl,_,_,rfl⟩
    |false=>exact aO ⟨rfl,_,_,rfl⟩
  ·obtain⟨rfl,l,r,rfl⟩:=hc;dsimp only;refine aF (cV (bX (I:=λx c st2=>st2=st'/\∃l r,c=(none,l,r)/\r<=n) (Q:=λc st2=>st2=st'/\∃l r,c=(none,l,r)/\r<=n) (λx c st2 _ hxn hI=>?_) (λc st2 hI=>hI) ⟨rfl,_,_,rfl,by lia⟩) λc st2 hc=>?_)
   ·obtain⟨rfl,l,r,rfl,hr⟩:=hI;dsimp only
    by_cases hge:l≥r
    ·rw[aC hge];exact aO ⟨rfl,l,r,rfl,hr⟩
    ·rw[ay hge];refine aF (bey (l+(r-l)/2) _ (by lia) λb=>?_);cases b with
     |true=>exact aO ⟨rfl,_,_,rfl,hr⟩
     |false=>exact aO ⟨rfl,_,_,rfl,by lia⟩
   ·obtain⟨rfl,l,r,rfl,hr⟩:=hc;exact aO (h _ hr)
def Uh:Nat->StateT SortSt Sem Unit:=sortPriv% PySem.Builtin.setMinGallop
theorem RE (g:Nat):Uh g=modify λs=>SortSt.mk' (kindOf s) (arrOf s) (pendingOf s) g (failedOf s):=rfl
def T2:Array Keyed->Array Keyed->StateT SortSt Sem (Array Keyed):=sortPriv% PySem.Builtin.mergeLo
def JM (a b out:Array Keyed)(ia ib:Nat):Prop:=(out.toList++(a.toList.drop ia++b.toList.drop ib)).Perm (a.toList++b.toList)
theorem Dc (a:Array Keyed)(i j:Nat):(a.extract i j).toList=(a.toList.drop i).take (j-i):=by
 rw[Array.toList_extract,List.extract_eq_take_drop]
theorem Rm {a:Array Keyed}{i:Nat}{x:Keyed}(e:a[i]?=some x):a.toList.drop i=x::a.toList.drop (i+1):=by
 have e':a.toList[i]?=some x:=by rw[<-e];simp
 obtain⟨h,e2⟩:=aj.mp e';rw[bN h,e2]
theorem JM.pushB {a b out:Array Keyed}{ia ib:Nat}{x:Keyed}(j:JM a b out ia ib)(e:b[ib]?=some x):JM a b (out.push x) ia (ib+1):=by
 unfold JM at *;rw[Rm e] at j;rw[dr,aE];refine List.Perm.trans (bE _ ?_) j;show(x::(List.drop ia a.toList++List.drop (ib+1) b.toList)).Perm _;exact List.perm_middle.symm
theorem JM.pushA {a b out:Array Keyed}{ia ib:Nat}{x:Keyed}(j:JM a b out ia ib)(e:a[ia]?=some x):JM a b (out.push x) (ia+1) ib:=by
 unfold JM at *;rw[Rm e] at j;rw[dr,aE];exact j
theorem JM.runA {a b out:Array Keyed}{ia ib k:Nat}(j:JM a b out ia ib):JM a b (out++a.extract ia (ia+k)) (ia+k) ib:=by
 unfold JM at *;rw[bB,Dc,gY,aE,<-aE (List.take _ _),<-eT,dm];exact j
theorem JM.runB {a b out:Array Keyed}{ia ib k:Nat}(j:JM a b out ia ib):JM a b (out++b.extract ib (ib+k)) ia (ib+k):=by
 unfold JM at *;rw[bB,Dc,gY,aE];refine List.Perm.trans (bE _ ?_) j;rw[<-aE];refine(dk _ cu).trans ?_;rw[aE,<-eT,dm]
theorem JM.done {a b out:Array Keyed}{ia ib:Nat}(j:JM a b out ia ib):(out++a.extract ia a.size++b.extract ib b.size).toList.Perm (a.toList++b.toList):=by
 unfold JM at j;have e1:(a.extract ia a.size).toList=a.toList.drop ia:=by rw[Dc];exact aK (by rw[bP];exact ah _)
 have e2:(b.extract ib b.size).toList=b.toList.drop ib:=by rw[Dc];exact aK (by rw[bP];exact ah _)
 rw[bB,bB,e1,e2,aE];exact j
theorem JM.last {a b out:Array Keyed}{ia ib:Nat}(j:JM a b out ia ib):(out++b.extract ib b.size++a.extract ia a.size).toList.Perm (a.toList++b.toList):=by
 unfold JM at j;have e1:(a.extract ia a.size).toList=a.toList.drop ia:=by rw[Dc];exact aK (by rw[bP];exact ah _)
 have e2:(b.extract ib b.size).toList=b.toList.drop ib:=by rw[Dc];exact aK (by rw[bP];exact ah _)
 rw[bB,bB,e1,e2,aE];exact(bE _ cu).trans j
structure SM (st st':SortSt):Prop where
 kind:kindOf st'=kindOf st
 arr:arrOf st'=arrOf st
 pend:pendingOf st'=pendingOf st
 failed:failedOf st'=failedOf st
theorem SM.mg {st st':SortSt}(h:SM st st')(g:Nat):SM st (SortSt.mk' (kindOf st') (arrOf st') (pendingOf st') g (failedOf st')):=⟨h.kind,h.arr,h.pend,h.failed⟩
theorem NA {st:SortSt}{g:Nat}{Q:Unit->SortSt->Prop}(h:Q () (SortSt.mk' (kindOf st) (arrOf st) (pendingOf st) g (failedOf st))):wpS (model prog w) A E s (Uh g) Q st:=by
 rw[RE];exact fQ h
def RS (a b:Array Keyed)(st:SortSt)(X:Nat)(r:Option (Array Keyed))(out:Array Keyed)(ia ib:Nat)(st':SortSt):Prop:=SM st st'/\match r with
 |some r=>r.toList.Perm (a.toList++b.toList)
 |none=>JM a b out ia ib/\ia+1<a.size/\ib<b.size/\X<=ia+ib
theorem VN {α β γ δ ε:Type}{P:α×β×γ×δ×ε->Prop}(h:∀a b c d e,P (a,b,c,d,e))(c:α×β×γ×δ×ε):P c:=h _ _ _ _ _
theorem US {α β γ δ ε ζ:Type}{P:α×β×γ×δ×ε×ζ->Prop}(h:∀a b c d e f,P (a,b,c,d,e,f))(c:α×β×γ×δ×ε×ζ):P c:=h _ _ _ _ _ _
theorem UV {α β γ δ ε ζ η:Type}{P:α×β×γ×δ×ε×ζ×η->Prop}(h:∀a b c d e f g,P (a,b,c,d,e,f,g))(c:α×β×γ×δ×ε×ζ×η):P c:=h _ _ _ _ _ _ _
theorem UW {st:SortSt}{a b:Array Keyed}{Q:Array Keyed->SortSt->Prop}(hk:kindOf st=oneType')(ka:∀x∈a.toList,IK x)(kb:∀x∈b.toList,IK x)(ha:0<a.size)(hb:0<b.size)(h:∀out st',SM st st'->out.toList.Perm (a.toList++b.toList)->Q out st'):wpS (model prog w) A E s (T2 a b) Q st:=by
 have at1:∀{c:Array Keyed} {i:Nat},(∀x∈c.toList,IK x)->i<c.size->∃x,c[i]?=some x/\IK x:=λ{c i} k hi=>⟨c[i],dP _ i hi,k _ (by simp)⟩
 obtain⟨b0,eb0,_⟩:=at1 kb hb;refine aF (gL (dR ⟨rfl,?_⟩));refine aF (A1 eb0 ?_);have j0:JM a b #[] 0 0:=by unfold JM;simp
 have j1:=j0.pushB eb0
 by_cases c1:1=b.size
 ·rw[aC (by simpa using c1)];exact aO (h _ _ ⟨rfl,rfl,rfl,rfl⟩ j1.done)
 rw[ay (by simpa using c1)]
 by_cases c2:0+1=a.size
 ·rw[aC (by simpa using c2)];exact aO (h _ _ ⟨rfl,rfl,rfl,rfl⟩ j1.last)
 rw[ay (by simpa using c2)];refine aF (eV ?_);refine aF (cV (bX (I:=λx c st'=>c.fst=none/\RS a b st x none c.snd.fst c.snd.snd.fst c.snd.snd.snd.fst st') (Q:=λc st'=>∃r,c.fst=some r/\SM st st'/\r.toList.Perm (a.toList++b.toList)) (λX c st' _ hX hI=>?_) (λc st' hI=>?_) ⟨rfl,⟨rfl,rfl,rfl,rfl⟩,j1,by show 0+1<a.size;lia,by show 1<b.size;lia,aR _⟩) λc st' hc=>?_)
 ·revert hI c
  refine VN ?_;intro o out ia ib g hI;obtain⟨e,sm,j,b1,b2,b3⟩:=hI;have e:o=none:=e;subst e;have j:JM a b out ia ib:=j;have b1:ia+1<a.size:=b1;have b2:ib<b.size:=b2;have b3:X<=ia+ib:=b3;dsimp only;refine aF (cV (bX (I:=λx c st'=>c.fst=none/\RS a b st (X+x) none c.snd.fst c.snd.snd.fst c.snd.snd.snd.fst st') (Q:=λc st'=>RS a b st (X+1) c.fst c.snd.fst c.snd.snd.fst c.snd.snd.snd.fst st') (λx c st' _ hx hI=>?_) (λc st' hI=>?_) ⟨rfl,sm,j,b1,b2,b3⟩) λc st' hc=>?_)
  ·revert hI c
   refine US ?_;intro o out ia ib ac bc hI;obtain⟨e,sm,j,b1,b2,b3⟩:=hI;have e:o=none:=e;subst e;have j:JM a b out ia ib:=j;have b1:ia+1<a.size:=b1;have b2:ib<b.size:=b2;have b3:X+x<=ia+ib:=b3;obtain⟨y,ey,iy⟩:=at1 kb b2;obtain⟨z,ez,iz⟩:=at1 ka (show ia<a.size by lia);dsimp only;refine aF (A1 ey (aF (A1 ez (aF (Jk (sm.kind.trans hk) iy iz λbw=>?_)))));cases bw with
   |true=>
    dsimp only;rw[aC rfl];refine aF (A1 ey ?_);have j':=j.pushB ey
    by_cases e1:ib+1=b.size
    ·rw[aC (by simpa using e1)];exact aO ⟨sm,j'.done⟩
    ·rw[ay (by simpa using e1)]
     split
     ·exact aO ⟨sm,j',b1,by dsimp only;lia,by dsimp only;lia⟩
     ·exact aO ⟨rfl,sm,j',b1,by dsimp only;lia,by dsimp only;lia⟩
   |false=>
    dsimp only;rw[ay aB];refine aF (A1 ez ?_);have j':=j.pushA ez
    by_cases e1:ia+1+1=a.size
    ·rw[aC (by simpa using e1)];exact aO ⟨sm,j'.last⟩
    ·rw[ay (by simpa using e1)]
     split
     ·exact aO ⟨sm,j',by dsimp only;lia,b2,by dsimp only;lia⟩
     ·exact aO ⟨rfl,sm,j',by dsimp only;lia,b2,by dsimp only;lia⟩
  ·obtain⟨_,_,_,d1,d2,d3⟩:=hI;exfalso
   lia
  ·revert hc c
   refine US ?_;intro o out ia ib ac bc hc;cases o with
   |some r=>exact aO ⟨r,rfl,hc⟩
   |none=>
    obtain⟨sm,j,b1,b2,b3⟩:=hc;have j:JM a b out ia ib:=j;have b1:ia+1<a.size:=b1;have b2:ib<b.size:=b2;have b3:X+1<=ia+ib:=b3;dsimp only;refine aF (gL (dR ⟨rfl,?_⟩));refine aF (cV (bX (I:=λx c st'=>c.fst=none/\RS a b st (X+1+x) none c.snd.fst c.snd.snd.fst c.snd.snd.snd.fst st') (Q:=λc st'=>RS a b st (X+1) c.fst c.snd.fst c.snd.snd.fst c.snd.snd.snd.fst st') (λx c st' _ hx hI=>?_) (λc st' hI=>?_) ⟨rfl,sm,j,b1,b2,b3⟩) λc st' hc=>?_)
    ·revert hI c
     refine UV ?_;intro o out ia ib g2 ac bc hI;obtain⟨e,sm,j,b1,b2,b3⟩:=hI;have e:o=none:=e;subst e;have j:JM a b out ia ib:=j;have b1:ia+1<a.size:=b1;have b2:ib<b.size:=b2;have b3:X+1+x<=ia+ib:=b3;obtain⟨y,ey,iy⟩:=at1 kb b2;have j0:JM a b (out++a.extract ia (ia+0)) (ia+0) ib:=j.runA;dsimp only
     by_cases g1:g2>1
     all_goals
      first
       |rw[aC g1]
       |rw[ay g1]
      refine aF (NA ?_);have smg:=λg=>sm.mg g
      refine aF (A1 ey (aF (GW ((smg _).kind.trans hk) iy (λi hi=>at1 ka (by lia)) (by lia) λk hk9=>?_)));dsimp only
      by_cases k0:k>0
      all_goals first
       |(rw[aC k0]
         have j2:JM a b (out++a.extract ia (ia+k)) (ia+k) ib:=j.runA
         by_cases e1:ia+k+1=a.size
         ·rw[aC (by simpa using e1)];exact aO ⟨smg _,j2.last⟩
         rw[ay (by simpa using e1)]
         by_cases e2:ia+k=a.size
         ·rw[aC (by simpa using e2)];exact aO ⟨smg _,j2.done⟩
         rw[ay (by simpa using e2)];have b4:ia+k+1<a.size:=by lia
         have b5:X+1+x<=ia+k+ib:=by lia
         generalize out++a.extract ia (ia+k)=out2 at j2 ⊢;generalize ia+k=ia2 at j2 b4 b5 ⊢)
       |(rw[ay k0]
         have j2:=j;have b4:=b1;have b5:=b3;generalize out=out2 at j2 ⊢;generalize ia=ia2 at j2 b4 b5 ⊢)
      all_goals
       obtain⟨z,ez,iz⟩:=at1 ka (show ia2<a.size by lia);refine aF (A1 ey ?_);have j3:=j2.pushB ey
       by_cases e3:ib+1=b.size
       ·rw[aC (by simpa using e3)];exact aO ⟨smg _,j3.done⟩
       rw[ay (by simpa using e3)];refine aF (A1 ez (aF (GW ((smg _).kind.trans hk) iz (λi hi=>at1 kb (by lia)) (by lia) λk2 hk2=>?_)));dsimp only
       by_cases k1:k2>0
       all_goals first
        |(rw[aC k1]
          have j4:JM a b (out2.push y++b.extract (ib+1) (ib+1+k2)) ia2 (ib+1+k2):=j3.runB
          by_cases e4:ib+1+k2=b.size
          ·rw[aC (by simpa using e4)];exact aO ⟨smg _,j4.done⟩
          rw[ay (by simpa using e4)];have b6:ib+1+k2<b.size:=by lia
          have b7:X+1+x<=ia2+(ib+1+k2):=by lia
          generalize out2.push y++b.extract (ib+1) (ib+1+k2)=out3 at j4 ⊢;generalize ib+1+k2=ib3 at j4 b6 b7 ⊢)
        |(rw[ay k1]
          have j4:=j3;have b6:ib+1<b.size:=by lia
          have b7:X+1+x<=ia2+(ib+1):=by lia
          generalize out2.push y=out3 at j4 ⊢;generalize ib+1=ib3 at j4 b6 b7 ⊢)
       all_goals
        refine aF (A1 ez ?_);have j5:=j4.pushA ez
        by_cases e5:ia2+1+1=a.size
        ·rw[aC (by simpa using e5)];exact aO ⟨smg _,j5.last⟩
        rw[ay (by simpa using e5)]
        split
        ·exact aO ⟨smg _,j5,by dsimp only;lia,b6,by dsimp only;lia⟩
        ·exact aO ⟨rfl,smg _,j5,by dsimp only;lia,b6,by dsimp only;lia⟩
    ·obtain⟨_,_,_,d1,d2,d3⟩:=hI;exfalso
     lia
    ·revert hc c
     refine UV ?_;intro o out ia ib g2 ac bc hc;cases o with
     |some r=>exact aO ⟨r,rfl,hc⟩
     |none=>
      obtain⟨sm,j,b1,b2,b3⟩:=hc;dsimp only;exact aF (NA (aO ⟨rfl,sm.mg _,j,b1,b2,b3⟩))
 ·obtain⟨_,_,_,d1,d2,d3⟩:=hI;exfalso
  lia
 ·obtain⟨r,e,sm,pm⟩:=hc
  revert e c
  refine VN ?_;intro o out ia ib g e;have e:o=some r:=e;subst e;exact aO (h r _ sm pm)
def SX:Array Keyed->Array Keyed->StateT SortSt Sem (Array Keyed):=sortPriv% PySem.Builtin.mergeHi
def JH (a b out:Array Keyed)(na nb:Nat):Prop:=(out.toList++(a.toList.take na++b.toList.take nb)).Perm (a.toList++b.toList)
theorem Rg {a:Array Keyed}{i:Nat}{x:Keyed}(e:a[i]?=some x):a.toList.take (i+1)=a.toList.take i++[x]:=by
 have e':a.toList[i]?=some x:=by rw[<-e];simp
 rw[bg,e'];rfl
theorem Iv (a:Array Keyed){i j:Nat}(h:i<=j):a.toList.take j=a.toList.take i++(a.extract i j).toList:=by
 rw[Dc,<-List.take_add]
 congr 1
 lia
theorem JH.pushB {a b out:Array Keyed}{na nb:Nat}{x:Keyed}(j:JH a b out na (nb+1))(e:b[nb]?=some x):JH a b (out.push x) na nb:=by
 unfold JH at *;rw[Rg e] at j;rw[dr,aE];refine List.Perm.trans (bE _ ?_) j;rw[<-aE (List.take na _)];exact cu
theorem JH.pushA {a b out:Array Keyed}{na nb:Nat}{x:Keyed}(j:JH a b out (na+1) nb)(e:a[na]?=some x):JH a b (out.push x) na nb:=by
 unfold JH at *;rw[Rg e] at j;rw[dr,aE];refine List.Perm.trans (bE _ ?_) j;rw[aE];show(x::(List.take na a.toList++List.take nb b.toList)).Perm (List.take na a.toList++x::List.take nb b.toList);exact List.perm_middle.symm
theorem JH.pA {a b out:Array Keyed}{na nb:Nat}{x:Keyed}(j:JH a b out na nb)(h:1<=na)(e:a[na-1]?=some x):JH a b (out.push x) (na-1) nb:=by
 obtain⟨m,rfl⟩:∃m,na=m+1:=⟨na-1,by lia⟩
 exact j.pushA e
theorem JH.pB {a b out:Array Keyed}{na nb:Nat}{x:Keyed}(j:JH a b out na nb)(h:1<=nb)(e:b[nb-1]?=some x):JH a b (out.push x) na (nb-1):=by
 obtain⟨m,rfl⟩:∃m,nb=m+1:=⟨nb-1,by lia⟩
 exact j.pushB e
theorem JH.runA {a b out:Array Keyed}{na nb k:Nat}(j:JH a b out na nb)(h:k<=na):JH a b (out++(a.extract k na).reverse) k nb:=by
 unfold JH at *;rw[Iv a h] at j;rw[bB,aE,eA];refine List.Perm.trans (bE _ ?_) j;rw[<-aE];exact dk _ (cu.trans (bE _ (eY _)))
theorem JH.runB {a b out:Array Keyed}{na nb k:Nat}(j:JH a b out na nb)(h:k<=nb):JH a b (out++(b.extract k nb).reverse) na k:=by
 unfold JH at *;rw[Iv b h] at j;rw[bB,aE,eA];refine List.Perm.trans (bE _ ?_) j;rw[<-aE (List.take na _)];exact cu.trans (bE _ (eY _))
theorem Vb (a:Array Keyed)(n:Nat):(a.extract 0 n).toList=a.toList.take n:=by rw[Dc];rfl
theorem JH.done {a b out:Array Keyed}{na nb:Nat}(j:JH a b out na nb):(a.extract 0 na++b.extract 0 nb++out.reverse).toList.Perm (a.toList++b.toList):=by
 unfold JH at j;rw[bB,bB,Vb,Vb,eA];exact(cu.trans (dk _ (eY _))).trans j
theorem JH.last {a b out:Array Keyed}{na nb:Nat}(j:JH a b out na nb):(b.extract 0 nb++a.extract 0 na++out.reverse).toList.Perm (a.toList++b.toList):=by
 unfold JH at j;rw[bB,bB,Vb,Vb,eA];exact(cu.trans ((dk _ (eY _)).trans (bE _ cu))).trans j
def RH (a b:Array Keyed)(st:SortSt)(X:Nat)(r:Option (Array Keyed))(na nb:Nat)(out:Array Keyed)(st':SortSt):Prop:=SM st st'/\match r with
 |some r=>r.toList.Perm (a.toList++b.toList)
 |none=>JH a b out na nb/\1<=na/\na<=a.size/\2<=nb/\nb<=b.size/\X+na+nb<=a.size+b.size
theorem VX {st:SortSt}{a b:Array Keyed}{Q:Array Keyed->SortSt->Prop}(hk:kindOf st=oneType')(ka:∀x∈a.toList,IK x)(kb:∀x∈b.toList,IK x)(ha:0<a.size)(hb:0<b.size)(h:∀out st',SM st st'->out.toList.Perm (a.toList++b.toList)->Q out st'):wpS (model prog w) A E s (SX a b) Q st:=by
 have at1:∀{c:Array Keyed} {i:Nat},(∀x∈c.toList,IK x)->i<c.size->∃x,c[i]?=some x/\IK x:=λ{c i} k hi=>⟨c[i],dP _ i hi,k _ (by simp)⟩
 obtain⟨a0,ea0,_⟩:=at1 ka (show a.size-1<a.size by lia);refine aF (gL (dR ⟨rfl,?_⟩));refine aF (A1 ea0 ?_);have j0:JH a b #[] (a.size-1+1) b.size:=by
  unfold JH;rw[aK (by show a.size<=_;lia),aK (by show b.size<=_;lia)];simp
 have j1:=j0.pushA ea0
 by_cases c1:a.size-1=0
 ·rw[aC (by simpa using c1)];exact aO (h _ _ ⟨rfl,rfl,rfl,rfl⟩ j1.done)
 rw[ay (by simpa using c1)]
 by_cases c2:b.size=1
 ·rw[aC (by simpa using c2)];exact aO (h _ _ ⟨rfl,rfl,rfl,rfl⟩ j1.last)
 rw[ay (by simpa using c2)];refine aF (eV ?_);refine aF (cV (bX (I:=λx c st'=>c.fst=none/\RH a b st x none c.snd.fst c.snd.snd.fst c.snd.snd.snd.fst st') (Q:=λc st'=>∃r,c.fst=some r/\SM st st'/\r.toList.Perm (a.toList++b.toList)) (λX c st' _ hX hI=>?_) (λc st' hI=>?_) ⟨rfl,⟨rfl,rfl,rfl,rfl⟩,j1,by show 1<=a.size-1;lia,by show a.size-1<=a.size;lia,by show 2<=b.size;lia,ah _,by show 0+(a.size-1)+b.size<=_;lia⟩) λc st' hc=>?_)
 ·revert hI c
  refine VN ?_;intro o na nb out g hI;obtain⟨e,sm,j,b1,b2,b3,b4,b5⟩:=hI;have e:o=none:=e;subst e;dsimp only;refine aF (cV (bX (I:=λx c st'=>c.fst=none/\RH a b st (X+x) none c.snd.fst c.snd.snd.fst c.snd.snd.snd.fst st') (Q:=λc st'=>RH a b st (X+1) c.fst c.snd.fst c.snd.snd.fst c.snd.snd.snd.fst st') (λx c st' _ hx hI=>?_) (λc st' hI=>?_) ⟨rfl,sm,j,b1,b2,b3,b4,b5⟩) λc st' hc=>?_)
  ·revert hI c
   refine US ?_;intro o na nb out ac bc hI;obtain⟨e,sm,j,b1,b2,b3,b4,b5⟩:=hI;have e:o=none:=e;subst e;have j:JH a b out na nb:=j;have b1:1<=na:=b1;have b2:na<=a.size:=b2;have b3:2<=nb:=b3;have b4:nb<=b.size:=b4;have b5:X+x+na+nb<=a.size+b.size:=b5;obtain⟨y,ey,iy⟩:=at1 kb (show nb-1<b.size by lia);obtain⟨z,ez,iz⟩:=at1 ka (show na-1<a.size by lia);dsimp only;refine aF (A1 ey (aF (A1 ez (aF (Jk (sm.kind.trans hk) iy iz λbw=>?_)))));cases bw with
   |true=>
    dsimp only;rw[aC rfl];refine aF (A1 ez ?_);have j':=j.pA b1 ez
    by_cases e1:na-1=0
    ·rw[aC (by simpa using e1)];exact aO ⟨sm,j'.done⟩
    ·rw[ay (by simpa using e1)]
     split
     ·exact aO ⟨sm,j',by dsimp only;lia,by dsimp only;lia,b3,b4,by dsimp only;lia⟩
     ·exact aO ⟨rfl,sm,j',by dsimp only;lia,by dsimp only;lia,b3,b4,by dsimp only;lia⟩
   |false=>
    dsimp only;rw[ay aB];refine aF (A1 ey ?_);have j':=j.pB (by lia) ey
    by_cases e1:nb-1=1
    ·rw[aC (by simpa using e1)];exact aO ⟨sm,j'.last⟩
    ·rw[ay (by simpa using e1)]
     split
     ·exact aO ⟨sm,j',b1,b2,by dsimp only;lia,by dsimp only;lia,by dsimp only;lia⟩
     ·exact aO ⟨rfl,sm,j',b1,b2,by dsimp only;lia,by dsimp only;lia,by dsimp only;lia⟩
  ·obtain⟨_,_,_,d1,d2,d3,d4,d5⟩:=hI;exfalso
   lia
  ·revert hc c
   refine US ?_;intro o na nb out ac bc hc;cases o with
   |some r=>exact aO ⟨r,rfl,hc⟩
   |none=>
    obtain⟨sm,j,b1,b2,b3,b4,b5⟩:=hc;dsimp only;refine aF (gL (dR ⟨rfl,?_⟩));refine aF (cV (bX (I:=λx c st'=>c.fst=none/\RH a b st (X+1+x) none c.snd.fst c.snd.snd.fst c.snd.snd.snd.fst st') (Q:=λc st'=>RH a b st (X+1) c.fst c.snd.fst c.snd.snd.fst c.snd.snd.snd.fst st') (λx c st' _ hx hI=>?_) (λc st' hI=>?_) ⟨rfl,sm,j,b1,b2,b3,b4,b5⟩) λc st' hc=>?_)
    ·revert hI c
     refine UV ?_;intro o na nb out g2 ac bc hI;obtain⟨e,sm,j,b1,b2,b3,b4,b5⟩:=hI;have e:o=none:=e;subst e;have j:JH a b out na nb:=j;have b1:1<=na:=b1;have b2:na<=a.size:=b2;have b3:2<=nb:=b3;have b4:nb<=b.size:=b4;have b5:X+1+x+na+nb<=a.size+b.size:=b5;obtain⟨y,ey,iy⟩:=at1 kb (show nb-1<b.size by lia);dsimp only
     by_cases g1:g2>1
     all_goals
      first
       |rw[aC g1]
       |rw[ay g1]
      refine aF (NA ?_);have smg:=λg=>sm.mg g
      refine aF (A1 ey (aF (GW ((smg _).kind.trans hk) iy (λi hi=>at1 ka (by lia)) (by lia) λk hk9=>?_)));dsimp only
      by_cases k0:na-k>0
      all_goals first
       |(rw[aC k0]
         have j2:JH a b (out++(a.extract k na).reverse) k nb:=j.runA hk9
         by_cases e1:k=0
         ·rw[aC (by simpa using e1)];exact aO ⟨smg _,j2.done⟩
         rw[ay (by simpa using e1)];have c1:1<=k:=by lia
         have c2:k<=a.size:=by lia
         have c5:X+1+x+k+nb<=a.size+b.size:=by lia
         generalize out++(a.extract k na).reverse=out2 at j2 ⊢;generalize na-k=ak at k0 ⊢;generalize k=na2 at j2 c1 c2 c5 ⊢)
       |(rw[ay k0]
         have j2:=j;have c1:=b1;have c2:=b2;have c5:=b5;generalize na-k=ak at k0 ⊢;generalize out=out2 at j2 ⊢;generalize na=na2 at j2 c1 c2 c5 ⊢)
      all_goals
       obtain⟨z,ez,iz⟩:=at1 ka (show na2-1<a.size by lia);refine aF (A1 ey ?_);have j3:=j2.pB (by lia) ey
       by_cases e3:nb-1=1
       ·rw[aC (by simpa using e3)];exact aO ⟨smg _,j3.last⟩
       rw[ay (by simpa using e3)];refine aF (A1 ez (aF (GW ((smg _).kind.trans hk) iz (λi hi=>at1 kb (by lia)) (by lia) λk2 hk2=>?_)));dsimp only
       by_cases k1:nb-1-k2>0
       all_goals first
        |(rw[aC k1]
          have j4:JH a b (out2.push y++(b.extract k2 (nb-1)).reverse) na2 k2:=j3.runB hk2
          by_cases e4:k2=1
          ·rw[aC (by simpa using e4)];exact aO ⟨smg _,j4.last⟩
          rw[ay (by simpa using e4)]
          by_cases e6:k2=0
          ·rw[aC (by simpa using e6)];exact aO ⟨smg _,j4.done⟩
          rw[ay (by simpa using e6)];have b6:2<=k2:=by lia
          have b7:k2<=b.size:=by lia
          have b8:X+1+x+na2+k2<=a.size+b.size:=by lia
          generalize out2.push y++(b.extract k2 (nb-1)).reverse=out3 at j4 ⊢;generalize nb-1-k2=bk at k1 ⊢;generalize k2=nb3 at j4 b6 b7 b8 ⊢)
        |(rw[ay k1]
          have j4:=j3;have b6:2<=nb-1:=by lia
          have b7:nb-1<=b.size:=by lia
          have b8:X+1+x+na2+(nb-1)<=a.size+b.size:=by lia
          generalize out2.push y=out3 at j4 ⊢;generalize nb-1-k2=bk at k1 ⊢;generalize nb-1=nb3 at j4 b6 b7 b8 ⊢)
       all_goals
        refine aF (A1 ez ?_);have j5:=j4.pA c1 ez
        by_cases e5:na2-1=0
        ·rw[aC (by simpa using e5)];exact aO ⟨smg _,j5.done⟩
        rw[ay (by simpa using e5)]
        split
        ·exact aO ⟨smg _,j5,by dsimp only;lia,by dsimp only;lia,b6,b7,by dsimp only;lia⟩
        ·exact aO ⟨rfl,smg _,j5,by dsimp only;lia,by dsimp only;lia,b6,b7,by dsimp only;lia⟩
    ·obtain⟨_,_,_,d1,d2,d3,d4,d5⟩:=hI;exfalso
     lia
    ·revert hc c
     refine UV ?_;intro o na nb out g2 ac bc hc;cases o with
     |some r=>exact aO ⟨r,rfl,hc⟩
     |none=>
      obtain⟨sm,j,b⟩:=hc;dsimp only;exact aF (NA (aO ⟨rfl,sm.mg _,j,b⟩))
 ·obtain⟨_,_,_,d1,d2,d3,d4,d5⟩:=hI;exfalso
  lia
 ·obtain⟨r,e,sm,pm⟩:=hc
  revert e c
  refine VN ?_;intro o na nb out g e;have e:o=some r:=e;subst e;exact aO (h r _ sm pm)
def Cu:List (Nat×Nat×Nat)->Nat->Nat->Prop
 |[],a,b=>a=b
 |x::r,a,b=>x.1=a/\1<=x.2.1/\Cu r (a+x.2.1) b
theorem Cu.le:∀{l:List (Nat×Nat×Nat)} {a b:Nat},Cu l a b->a<=b
 |[],_,_,h=>dB h
 |x::r,a,b,h=>by have:=h.2.2.le;lia
theorem Cu.merge:∀{l:List (Nat×Nat×Nat)} {a b i:Nat} {x y:Nat×Nat×Nat},Cu l a b->l[i]?=some x->l[i+1]?=some y->Cu ((l.set i (x.1,x.2.1+y.2.1,x.2.2)).eraseIdx (i+1)) a b/\y.1=x.1+x.2.1/\1<=x.2.1/\1<=y.2.1/\y.1+y.2.1<=b
 |u::v::l,a,b,0,x,y,h,ex,ey=>by
  cases ex;cases ey;obtain⟨h1,h2,h3,h4,h5⟩:=h;have:=h5.le;refine⟨⟨h1,by show 1<=u.2.1+v.2.1;lia,?_⟩,by lia,h2,h4,by lia⟩;show Cu l (a+(u.2.1+v.2.1)) b;rw[<-Nat.add_assoc];exact h5
 |u::l,a,b,i+1,x,y,h,ex,ey=>by
  obtain⟨h1,h2,h3⟩:=h;obtain⟨k1,k2⟩:=h3.merge (i:=i) ex ey;exact⟨⟨h1,h2,k1⟩,k2⟩
 |[],_,_,_,_,_,_,ex,_=>by cases ex
 |[u],_,_,0,_,_,_,_,ey=>by cases ey
theorem Cu.push {l:List (Nat×Nat×Nat)}{a b n w:Nat}(h:Cu l a b)(hn:1<=n):Cu (l++[(b,n,w)]) a (b+n):=by
 induction l generalizing a with
 |nil=>exact⟨h.symm,hn,by show a+n=b+n;rw[show a=b from h]⟩
 |cons x l ih=>exact⟨h.1,h.2.1,ih h.2.2⟩
theorem Cu.pw {l:List (Nat×Nat×Nat)}{a b i w:Nat}(h:Cu l a b):Cu (l.modify i λx=>(x.1,x.2.1,w)) a b:=by
 induction l generalizing a i with
 |nil=>cases i<;>exact h
 |cons x l ih=>
  cases i with
  |zero=>exact h
  |succ i=>exact⟨h.1,h.2.1,ih h.2.2⟩
theorem Q6 {sa:Nat}:∀(m:List Keyed) (k:Nat) (xs:Array Keyed) (pre mid post:List Keyed),xs.toList=pre++mid++post->pre.length=sa+k->mid.length=m.length->((m.zipIdx k).foldl (λa pj=>a.setIfInBounds (sa+pj.2) pj.1) xs).toList=pre++m++post
 |[],k,xs,pre,mid,post,e,_,l=>by
  rw[fh.mp l] at e;exact e
 |x::m,k,xs,pre,[],post,e,_,l=>by cases l
 |x::m,k,xs,pre,y::mid,post,e,h,l=>by
  rw[List.zipIdx_cons,List.foldl_cons];have:=Q6 (sa:=sa) m (k+1) (xs.setIfInBounds (sa+k) x) (pre++[x]) mid post (by
   rw[gK,e,<-h,aE,List.set_append_right _ _ (ah _),Nat.sub_self];simp) (by rw[ar,h];rfl) (by simpa using l)
  rw[this];simp
theorem U6 {st st2:SortSt}{Q:PUnit->SortSt->Prop}(h:Q ⟨⟩ st2):wpS (model prog w) A E s (set st2:StateT SortSt Sem PUnit) Q st:=by
 unfold wpS;rw[StateT.run_set];exact aw ⟨rfl,h⟩
structure SR (a₀:Array Keyed) (b:Nat) (st:SortSt):Prop where
 perm:(arrOf st).Perm a₀
 kind:kindOf st=oneType'
 failed:failedOf st=none
 runs:Cu (pendingOf st).toList 0 b
theorem QI {st:SortSt}{b i:Nat}{Q:Bool->SortSt->Prop}(h0:IntKeys a₀)(hb:b<=a₀.size)(hB:SR a₀ b st)(hi:i+1<(pendingOf st).size)(h:∀st',SR a₀ b st'->Q true st'):wpS (model prog w) A E s (mergeAt' i) Q st:=by
 refine aF (eV ?_);have e1:(pendingOf st)[i]?=some ((pendingOf st)[i]'(by lia)):=dP _ i _;have e2:(pendingOf st)[i+1]?=some ((pendingOf st)[i+1]'hi):=dP _ (i+1) _;obtain⟨k1,k2,k3,k4,k5⟩:=hB.runs.merge (i:=i) (by rw[cF];exact e1) (by rw[cF];exact e2);rw[e1,e2];generalize (pendingOf st)[i]'(by lia)=x at k1 k2 k3 k4 k5 ⊢;generalize (pendingOf st)[i+1]'hi=y at k1 k2 k3 k4 k5 ⊢;obtain⟨sa,na,pw⟩:=x;obtain⟨sb,nb,pw2⟩:=y;dsimp only at k1 k2 k3 k4 k5 ⊢;subst k2;refine aF (U6 (st2:=setPending st (((pendingOf st).setIfInBounds i (sa,na+nb,pw)).eraseIdxIfInBounds (i+1))) ?_);have sz:(arrOf st).size=a₀.size:=hB.perm.size_eq;have at1:∀{j:Nat},j<a₀.size->∃x,(arrOf st)[j]?=some x/\IK x:=λ{j} hj=>⟨(arrOf st)[j]'(by lia),dP _ j _,h0 _ ((cN.mp hB.perm).mem_iff.mp (by simp))⟩
 have R2:∀st',SM (setPending st (((pendingOf st).setIfInBounds i (sa,na+nb,pw)).eraseIdxIfInBounds (i+1))) st'->SR a₀ b st':=λst' sm=>⟨by rw[sm.arr];exact hB.perm,sm.kind.trans hB.kind,sm.failed.trans hB.failed,by
  rw[sm.pend];show Cu (((pendingOf st).setIfInBounds i (sa,na+nb,pw)).eraseIdxIfInBounds (i+1)).toList 0 b;rw[Array.toList_eraseIdxIfInBounds,gK];exact k1⟩
 have e3:arrOf (setPending st (((pendingOf st).setIfInBounds i (sa,na+nb,pw)).eraseIdxIfInBounds (i+1)))=arrOf st:=rfl;have e4:kindOf (setPending st (((pendingOf st).setIfInBounds i (sa,na+nb,pw)).eraseIdxIfInBounds (i+1)))=oneType':=hB.kind;generalize setPending st (((pendingOf st).setIfInBounds i (sa,na+nb,pw)).eraseIdxIfInBounds (i+1))=st1 at R2 e3 e4 ⊢;obtain⟨z,ez,iz⟩:=at1 (show sa+na<a₀.size by lia);refine aF (A1 ez (aF (GW e4 iz (λj hj=>at1 (by lia)) (by lia) λk hk=>?_)));dsimp only
 by_cases c1:na-k=0
 ·rw[aC (by simpa using c1)];exact aO (h _ (R2 _ ⟨rfl,rfl,rfl,rfl⟩))
 rw[ay (by simpa using c1)];obtain⟨z2,ez2,iz2⟩:=at1 (show sa+k+(na-k)-1<a₀.size by lia);refine aF (A1 ez2 (aF (GW e4 iz2 (λj hj=>at1 (by lia)) (by lia) λn2 hn2=>?_)));dsimp only
 by_cases c2:n2=0
 ·rw[aC (by simpa using c2)];exact aO (h _ (R2 _ ⟨rfl,rfl,rfl,rfl⟩))
 rw[ay (by simpa using c2)];have ikx:∀{i j:Nat},∀x∈((arrOf st).extract i j).toList,IK x:=λ{i j} x hx=>by
  rw[Dc] at hx;exact h0 _ ((cN.mp hB.perm).mem_iff.mp (cU (cg hx)))
 have zx:0<((arrOf st).extract (sa+k) (sa+na)).size:=by rw[Array.size_extract];lia
 have zy:0<((arrOf st).extract (sa+na) (sa+na+n2)).size:=by rw[Array.size_extract];lia
 have t1:=Iv (arrOf st) (show sa+k<=sa+na by lia);have t2:=Iv (arrOf st) (show sa+na<=sa+na+n2 by lia);have el:(arrOf st).toList=(arrOf st).toList.take (sa+k)++(((arrOf st).extract (sa+k) (sa+na)).toList++((arrOf st).extract (sa+na) (sa+na+n2)).toList)++(arrOf st).toList.drop (sa+na+n2):=by
  conv=>lhs;rw[<-dm (sa+na+n2) (arrOf st).toList,t2,t1]
  rw[aE (List.take _ _)]
 have pl:((arrOf st).toList.take (sa+k)).length=sa+k+0:=by
  rw[bu];have:(arrOf st).toList.length=(arrOf st).size:=rfl
  lia
 have ix:=ikx (i:=sa+k) (j:=sa+na);have iy:=ikx (i:=sa+na) (j:=sa+na+n2);generalize (arrOf st).extract (sa+k) (sa+na)=x at zx el ix ⊢;generalize (arrOf st).extract (sa+na) (sa+na+n2)=y at zy el iy ⊢;have fin:∀(mg:Array Keyed) (st2:SortSt),SM st1 st2->mg.toList.Perm (x.toList++y.toList)->SR a₀ b (setArr st2 (List.foldl (λa x=>a.setIfInBounds (sa+k+x.snd) x.fst) (arrOf st2) mg.toList.zipIdx)):=λmg st2 sm pm=>by
  have r:=R2 st2 sm;refine⟨?_,r.kind,r.failed,r.runs⟩;show Array.Perm (List.foldl (λa x=>a.setIfInBounds (sa+k+x.snd) x.fst) (arrOf st2) mg.toList.zipIdx) a₀;have e9:arrOf st2=arrOf st:=sm.arr.trans e3;have w:=Q6 (sa:=sa+k) mg.toList 0 (arrOf st2) _ _ _ (by rw[e9];exact el) pl pm.length_eq.symm;refine Array.Perm.trans (cN.mpr ?_) hB.perm;rw[w];have q:=dk ((arrOf st).toList.drop (sa+na+n2)) (bE ((arrOf st).toList.take (sa+k)) pm);rw[<-el] at q;exact q
 have go:∀(mg:Array Keyed) (st2:SortSt),SM st1 st2->mg.toList.Perm (x.toList++y.toList)->wpS (model prog w) A E s (do
   modify λs=>setArr s (List.foldl (λa x=>a.setIfInBounds (sa+k+x.snd) x.fst) (arrOf s) mg.toList.zipIdx)
   let __do_lift <-get
   pure (failedOf __do_lift).isNone) Q st2:=λmg st2 sm pm=>by
  have r:=fin mg st2 sm pm;refine aF (fQ (aF (eV (aO ?_))));rw[r.failed];exact h _ r
 by_cases c3:na-k<=n2
 ·rw[aC c3];exact aF (UW e4 ix iy zx zy go)
 ·rw[ay c3];exact aF (VX e4 ix iy zx zy go)
theorem RK {st:SortSt}{Q:Unit->SortSt->Prop}(h0:IntKeys a₀)(hB:SB a₀ #[] st)(h:∀st',(arrOf st').Perm a₀->failedOf st'=none->Q () st'):wpS (model prog w) A E s sortRuns' Q st:=by
 rw[sortRuns'_eq];refine aF (eV ?_);have sz:(arrOf st).size=a₀.size:=hB.size;simp only[sz];generalize minRun' a₀.size a₀.size 0=mr;refine aF (cV (bX (I:=λx c st'=>∃lo,c=(none,lo)/\lo<=a₀.size/\SR a₀ lo st') (Q:=λc st'=>∃lo,c=(none,lo)/\lo<=a₀.size/\SR a₀ lo st') (λX c st' _ hX hI=>?_) (λc st' hI=>hI) ⟨0,rfl,aR _,hB.perm,hB.kind,hB.failed,by rw[hB.pend];rfl⟩) λc st' hc=>?_)
 ·obtain⟨lo,rfl,hl,hR⟩:=hI;dsimp only
  by_cases c1:lo≥a₀.size
  ·rw[aC c1];exact aO ⟨lo,rfl,hl,hR⟩
  rw[ay c1];have hS:SB a₀ (pendingOf st') st':=⟨hR.perm,hR.kind,hR.failed,rfl⟩
  refine aF (UH h0 (by lia) (by lia) hS λm st2 hB2 m1 m2=>?_);dsimp only
  by_cases c2:m<mr
  all_goals first
   |(rw[aC c2]
     refine aF (gL (dR ⟨rfl,?_⟩));refine aF (SF h0 (by lia) hB2 λst3 hB3=>?_);rw[ay (by simp)];have n1:1<=min (a₀.size-lo) mr:=by lia
     have n2:lo+min (a₀.size-lo) mr<=a₀.size:=by lia
     generalize min (a₀.size-lo) mr=n at n1 n2 ⊢)
   |(rw[ay c2]
     have hB3:=hB2;have n1:=m1;have n2:lo+m<=a₀.size:=by lia
     generalize st2=st3 at hB3 ⊢;generalize m=n at n1 n2 ⊢)
  all_goals
   have R3:SR a₀ lo st3:=⟨hB3.perm,hB3.kind,hB3.failed,by rw[hB3.pend];exact hR.runs⟩
   refine aF (eV ?_);have out:∀st4,SR a₀ lo st4->SR a₀ (lo+n) (setPending st4 ((pendingOf st4).push (lo,n,0))):=λst4 r=>⟨r.perm,r.kind,r.failed,by
    show Cu ((pendingOf st4).push (lo,n,0)).toList 0 _;rw[dr];exact r.runs.push n1⟩
   cases eb:(pendingOf st3).back? with
   |none=>
    dsimp only;exact aF (fQ (aO ⟨_,rfl,n2,out _ R3⟩))
   |some q=>
    obtain⟨s1,nn,pw⟩:=q;dsimp only;refine aF (cV (bX (I:=λx c st'=>c=(none,())/\SR a₀ lo st') (Q:=λc st'=>c=(none,())/\SR a₀ lo st') (λx c st4 _ hx hI=>?_) (λc st4 hI=>hI) ⟨rfl,R3⟩) λc st4 hc=>?_)
    ·obtain⟨rfl,R4⟩:=hI;refine aF (eV ?_)
     by_cases c3:(pendingOf st4).size>1
     ·have e2:(if(pendingOf st4).size>1 then(pendingOf st4)[(pendingOf st4).size-2]? else none)=some ((pendingOf st4)[(pendingOf st4).size-2]'(by lia)):=by rw[aC c3];exact dP _ _ _
      rw[e2];dsimp only
      split
      ·exact aO ⟨rfl,R4⟩
      ·refine aF (QI h0 hl R4 (by lia) λst5 R5=>?_);rw[ay (by simp)];exact aO ⟨rfl,R5⟩
     ·have e2:(if(pendingOf st4).size>1 then(pendingOf st4)[(pendingOf st4).size-2]? else none)=none:=ay c3;rw[e2];exact aO ⟨rfl,R4⟩
    ·obtain⟨rfl,R4⟩:=hc;dsimp only;refine aF (fQ (aF (fQ (aO ⟨_,rfl,n2,out _ ⟨R4.perm,R4.kind,R4.failed,?_⟩⟩))));show Cu ((pendingOf st4).modify _ _).toList 0 lo;rw[Array.toList_modify];exact R4.runs.pw
 ·obtain⟨lo,rfl,hl,hR⟩:=hc;dsimp only;refine aF (cV (bX (I:=λx c st'=>c=(none,())/\SR a₀ lo st') (Q:=λc st'=>c=(none,())/\SR a₀ lo st') (λx c st4 _ hx hI=>?_) (λc st4 hI=>hI) ⟨rfl,hR⟩) λc st4 hc=>?_)
  ·obtain⟨rfl,R4⟩:=hI;refine aF (eV ?_)
   by_cases c3:(pendingOf st4).size<=1
   ·rw[aC c3];exact aO ⟨rfl,R4⟩
   ·rw[ay c3];have two:∀q:Bool,(if q=true then(pendingOf st4).size-2-1 else(pendingOf st4).size-2)+1<(pendingOf st4).size:=λq=>by cases q<;>simp<;>lia
    refine aF (QI h0 hl R4 (two _) λst5 R5=>?_);rw[ay (by simp)];exact aO ⟨rfl,R5⟩
  ·obtain⟨rfl,R4⟩:=hc;exact aO (h _ R4.perm R4.failed)
theorem UE {vs:List Value}{ns:List Int}(hI:IntsAre vs ns){xs:Array Keyed}(hp:xs.Perm (pairsOf vs)):∃ns',IntsAre (xs.map (·.2)).toList ns'/\ns'.Perm ns:=by
 have hl:=(cN.mp hp).map Prod.snd;rw[pairsOf_toList,gr (ah _)] at hl;have en:=hl.map numOf;rw[hI.nums] at en;refine⟨_,?_,en⟩;rw[Array.toList_map];exact intsAre_map _ λv hv=>hI.all v (hl.mem_iff.mp hv)
theorem So {a:Addr} {vs:List Value} {ns:List Int} {n:Nat} {P:PySem.Fin->Shared->Prop} (ho:s.heap.get? a=some (seqObj "list" vs.toArray n)) (hI:IntsAre vs ns) (hz:vs.length<=sizeLine)
  (h:∀(out:Array Value) (ns':List Int),IntsAre out.toList ns'->ns'.Perm ns->P (.done (.ret .none)) { s with heap:=sortedHeap s.heap a vs out }) :
  wpAny (model prog w) A (Builtin.«list.sort» ⟨[.ref a],[]⟩) P E s:=by
 by_cases few:vs.length<64
 ·exact list_sort_tree ho hI few λout ns' a1 a2 _=>h out ns' a1 a2
 rw[list_sort_plain];have ha:a<s.heap.objs.size:=aP ho;refine af (listItems_at ho rfl (af (gZ ho rfl ?_)));obtain⟨e1,h1⟩:∃e,(s.heap.update a (Obj.mapSeq λ_=>#[])).get? a=some (seqObj "list" #[] e):=⟨_,get?_update_seq ho (λ_=>#[])⟩
 refine af (seqEpoch_at h1 rfl (af (wpAny_newTuple (af (gy (cz ?_))))));have n1:a≠(s.heap.update a (Obj.mapSeq λ_=>#[])).objs.size:=by rw[fP];exact aX ha
 have n2:a≠((s.heap.update a (Obj.mapSeq λ_=>#[])).push (seqObj "tuple" vs.toArray 0)).objs.size:=by rw[bW,fP];exact aX (cT ha)
 have h2:(((s.heap.update a (Obj.mapSeq λ_=>#[])).push (seqObj "tuple" vs.toArray 0)).push (seqObj "list" #[] 0)).get? a=some (seqObj "list" #[] e1):=by
  rw[fF _ _ _ n2,fF _ _ _ n1];exact h1
 dsimp only;have hs2:¬vs.toArray.size<2:=by simp;lia
 have ps:=iJ vs;rw[ay hs2,ay hs2];obtain⟨v1,v2,rest,rfl⟩:∃v1 v2 rest,vs=v1::v2::rest:=by
  match vs,few with
  |[],q=>exact absurd (by decide) q
  |[_],q=>exact absurd (by show 1<64;decide) q
  |v1::v2::rest,_=>exact⟨v1,v2,rest,rfl⟩
 rw[keyKind_ints hI];refine af (aw (af (bD (RK (a₀:=pairsOf (v1::v2::rest)) (st:=SortSt.mk' oneType' ((v1::v2::rest).toArray.zip (v1::v2::rest).toArray) #[] 7 none)
  (Q:=λ_ st'=>(arrOf st').Perm (pairsOf (v1::v2::rest))/\failedOf st'=none)
  hI.intKeys ⟨Array.Perm.refl _,rfl,rfl,rfl⟩ λst' a1 a2=>⟨a1,a2⟩) (λr s' hr=>?_) λ_ _ e=>e)))
 obtain⟨⟨⟩,st'⟩:=r;obtain⟨rfl,hp,hf⟩:=hr;dsimp only;refine af (seqEpoch_at h2 rfl (af (gZ h2 rfl ?_ (hsz2:=?_))))
 ·rw[hf];rw[ay (by simp)];obtain⟨ns',g1,g2⟩:=UE hI hp;exact aw (h _ ns' g1 g2)
 ·rw[Array.size_map,hp.size_eq,ps];exact Nat.le_succ_of_le hz
def Ua (Q:Value->Shared->Prop)(vs:List Value)(s1:Shared):Prop:=∃ns,IntsAre vs ns/\vs.length<=sizeLine/\
 ∀h' p (out:List Value) ns' c,IntsAre out ns'->ns'.Perm ns->s1.heap.objs.size<=p->(∀b o,s1.heap.get? b=some o->h'.get? b=some o)->
  h'.get? p=some (seqObj "list" out.toArray c)->Q (.ref p) { s1 with heap:=h' }
theorem LW {x:Value}{Q:Value->Shared->Prop}(hc:wpAny (model prog w) A.in1 (collect x) (Ua Q) E s):wpAny (model prog w) A (call (.builtin "sorted") [x]) Q E s:=by
 refine iP kind_sorted plain_sorted entry_sorted (args_sorted1 x) ?_;unfold Builtin.«sorted»;refine af (m:=checkCount "sorted" 1 1 _) (aw (af (bD hc (λvs s1 z=>?_) λ_ _ e=>e)));obtain⟨ns,hI,few,q⟩:=z;have there:(s1.heap.push (seqObj "list" vs.toArray 0)).get? s1.heap.objs.size=some (seqObj "list" vs.toArray 0):=aQ _ rfl;refine af (gy (af (cz (cQ slot_list_sort ⟨_,there,rfl⟩ entry_list_sort (So there hI few λout ns' a1 a2=>⟨_,rfl,?_⟩) (args_list_sort _)))));obtain⟨c,hp⟩:=sortedHeap_at (out:=out) there;refine aw ⟨_,rfl,q _ _ out.toList ns' c a1 a2 (ah _) (λb o e=>?_) (by rw[iI];exact hp)⟩;have lt:=aP e;show Heap.get? _ b=some o;rw[sortedHeap_old (aX lt) (by rw[bW];exact cT lt)];exact aq _ e
end
section
open PySem PySem.Spec PyProof.Rows
variable {X:Cx}
def VP:List V->Hp->VK->Prop:=λxs H Q=>∃(d:Addr) (kvs:List (Key×V)) (ns:List Int),xs=[.ref d]/\H d=some (.dK kvs)/\kvs.map (·.1)=ns.map .inl/\ns.length<=100000/\∀(ms:List Int) (p:Addr),ms.Perm ns->H p=none->Q (.ref p) (upd H p (.lst (ms.map V.int)))
theorem GL (hc:X.calm=true):DS X (.builtin "sorted") VP:=by
 intro pins s σ H xs us Q I r h;obtain⟨d,kvs,ns,rfl,h1,hk,few,q⟩:=h;obtain⟨u,rfl,ru⟩:=vals1 r;cases ru;obtain⟨_,lo,vs,rv,o,es,ep,ho,h2,h3,h4⟩:Bw X.prog X.w H s.heap d (.dK kvs):=I.hok d _ h1;have D:s.heap.DictAt (AY X.prog X.w) d vs ep:=⟨o,es,ho,h2,h3,h4⟩
 have ln:vs.length=ns.length:=by
  have:=congrArg List.length hk;rw[ab,ab] at this;rw[<-this];exact rv.length.symm
 refine LW (OJ (PySem.W.kdl_dict (knd:=AY X.prog X.w) (kvs:=vs) (ep:=ep) lo) (by simpa using I.ok.hd hc) D (by rw[ln,eJ];lia) λh' tk us k lu it=>?_);have hs:IntsAre us ns:=by
  refine Ry (by rw[lu,ln]) λj v e=>?_
  obtain⟨ky,x,e1,e2⟩:=it j v e;have e3:(kvs.map (·.1))[j]?=some ky:=by rw[<-Q1 rv,aD,e1];rfl
  rw[hk,aD] at e3;cases z:ns[j]? with
  |none=>rw[z] at e3;cases e3
  |some y=>
   rw[z] at e3;injection e3 with e3
   subst e3;obtain⟨t,rfl⟩:=TK e2;exact⟨_,t,rfl,rfl⟩
 have I1:Inv X pins σ H { s with heap:=h',toks:=tk }:=I.kept (t':=tk) k;refine⟨ns,hs,by rw[lu,ln,eJ];lia,λh2 p out ns' c a1 a2 lp k2 hp=>⟨.ref p,_,I1.laid (t':=tk) k2 lp (?_:Bw X.prog X.w _ h2 p (.lst (ns'.map V.int))),rfl,q ns' p a2 (I1.hok.fresh lp)⟩⟩;refine⟨?_,out,c,Io a1,hp⟩;rw[ab,a2.length_eq,eJ]
 lia
end
end L2
namespace M06
def wsum:Nat->List Int->Int
 |_,[]=>0
 |k,x::xs=>x*((k:Int)+1)+wsum (k+1) xs
def mk (ns:List Int):Int:=wsum 0 ns%2147483647
theorem J0:∀(xs ys:List Int) (k:Nat),wsum k (xs++ys)=wsum k xs+wsum (k+xs.length) ys
 |[],ys,k=>by simp[wsum]
 |x::xs,ys,k=>by
  rw[gu,wsum,wsum,J0 xs ys (k+1),aL,show k+1+xs.length=k+(xs.length+1) by lia]
  lia
theorem Sx {ns:List Int}{i:Nat}(h:i<ns.length):wsum 0 (ns.take (i+1))=wsum 0 (ns.take i)+ns[i]*((i:Int)+1):=by
 rw[bg,aa h,J0,bu,fD (by lia),hW];simp[wsum]
theorem SH (ns:List Int):((List.range ns.length).map λi=>ns.getD i 0*((i:Int)+1)).sum=wsum 0 ns:=by
 have key:∀i,i<=ns.length->((List.range i).map λi=>ns.getD i 0*((i:Int)+1)).sum=wsum 0 (ns.take i):=by
  intro i
  induction i with
  |zero=>intro _;simp[wsum]
  |succ i ih=>
   intro hi;rw[List.range_succ,aJ,gF,ih (by lia),Sx (by lia)];simp[List.getD,List.getElem?_eq_getElem (show i<ns.length by lia)]
 have:=key ns.length (ah _);rw[aK (ah _)] at this;exact this
def Ta (x:Int):Bool:=decide (0<=x)&&decide (x<=2147483646)
def sound (ns:List Int):Bool:=(!decide (ns=[]))&&(ns.all Ta&&decide (ns.getLastD 0=mk ns.dropLast))
theorem Yh (ns:List Int):0<=mk ns/\mk ns<=2147483646:=by
 unfold mk
 lia
theorem Vo {x:Int}:Ta x=true↔0<=x/\x<=2147483646:=by simp[Ta]
theorem RA {ns:List Int}:sound ns=true↔ns≠[]/\(∀x∈ns,0<=x/\x<=2147483646)/\ns.getLastD 0=mk ns.dropLast:=by
 unfold sound;simp only[Bool.and_eq_true,Bool.not_eq_true',decide_eq_false_iff_not,List.all_eq_true,Vo,decide_eq_true_eq]
theorem N3 {ns:List Int}(h:∀x∈ns,0<=x/\x<=2147483646):sound (ns++[mk ns])=true:=by
 rw[RA];refine⟨by simp,λx hx=>?_,by simp⟩;rcases ai.mp hx with hx|hx
 ·exact h x hx
 ·rw[ag.mp hx];exact Yh ns
end M06
namespace M08
def cut (F:List Nat->Bool):List Nat->List Nat->List (List Nat)
 |acc,[]=>if acc=[] then[] else[acc]
 |acc,c::r=>if F (acc++[c])=true then(acc++[c])::cut F [] r else cut F (acc++[c]) r
theorem OW {F:List Nat->Bool}{l:List Nat}{i:Nat}{c:Nat}{gs:List (List Nat)}{acc:List Nat}(hi:l[i]?=some c)(h:cut F [] l=gs++cut F acc (l.drop i)) :
  (F (acc++[c])=true->cut F [] l=(gs++[acc++[c]])++cut F [] (l.drop (i+1)))/\(¬F (acc++[c])=true->cut F [] l=gs++cut F (acc++[c]) (l.drop (i+1))):=by
 obtain⟨hl,e⟩:=aj.mp hi;have hd:l.drop i=c::l.drop (i+1):=by rw[<-e];exact bN hl
 rw[hd] at h;refine⟨λq=>?_,λq=>?_⟩
 ·rw[h,cut,aC q,aE];rfl
 ·rw[h,cut,ay q]
theorem KZ (F:List Nat->Bool):∀(l acc:List Nat),(cut F acc l).length<=l.length+1
 |[],acc=>by
  unfold cut
  split<;>simp
 |c::r,acc=>by
  unfold cut
  split
  ·rw[aL,aL];have:=KZ F r [];lia
  ·have:=KZ F r (acc++[c]);rw[aL];lia
end M08
namespace M10
def Fi:Nat->List Int->List Int
 |m,[]=>if 0<m then[(m:Int)] else[]
 |m,x::r=>if m+1=8\/(2<=m+1/\x%3=0) then((m:Int)+1)::Fi 0 r else Fi (m+1) r
theorem K7:∀(l:List Int) (m:Nat),(Fi m l).sum=(m:Int)+l.length
 |[],m=>by
  unfold Fi
  split
  ·simp
  ·have:m=0:=by lia
   subst this;simp
 |x::r,m=>by
  unfold Fi
  split
  ·rw[bR,K7 r 0,aL];lia
  ·rw[K7 r (m+1),aL];lia
theorem Oe:∀(l:List Int) (m:Nat),(Fi m l).length<=l.length+1
 |[],m=>by
  unfold Fi
  split<;>simp
 |x::r,m=>by
  unfold Fi
  split
  ·rw[aL,aL];have:=Oe r 0;lia
  ·have:=Oe r (m+1);rw[aL];lia
end M10
set_option maxHeartbeats 4000000
namespace K32
local macro_rules | `(!$x) => do
  let (f, a) ← match x with | `($f:ident $a*) => pure (f, a) | `($f:ident) => pure (f, #[]) | _ => Lean.Macro.throwUnsupported
  let some (n, m, t) := ([([`Ah, `Au, `AM, `BF, `Dv], 1, 0, ""), ([`CL, `Ek], 2, 0, ""), ([`Ak, `BK, `Eh, `BG, `QJ, `QV, `Ub], 3, 0, ""), ([`XB, `Ao, `Co, `DH, `Ed, `GC, `Be, `Dr, `Ai, `A2, `BP, `Rq], 4, 0, ""), ([`AN], 4, 2, "r"), ([`IA, `AB], 4, 3, "d"), ([`Kg], 4, 5, "dd"), ([`Fy, `Af, `Nw, `PR, `DE, `Tp, `RR], 5, 0, ""), ([`AU], 5, 2, "f"), ([`Ac, `AA], 5, 3, "r"), ([`Ki, `GE, `EF, `IS], 6, 0, ""), ([`D3], 6, 4, "r"), ([`FD], 6, 4, "rr"), ([`FM, `Fg, `Ax, `S1, `TB, `OB, `Wu], 7, 0, ""), ([`NS], 7, 4, "tfd"), ([`AL, `Ar, `Bn, `Aw, `OV], 8, 0, ""), ([`Cd], 8, 3, "f"), ([`BW], 8, 4, "f"), ([`Ot], 8, 4, "r"), ([`VE], 8, 6, "rr"), ([`S4, `Up, `Ts], 9, 0, ""), ([`IM], 9, 5, "f"), ([`Xl], 9, 7, "rr"), ([`Aq, `Cz], 9, 9, "ddrr"), ([`BN, `Fh], 10, 0, ""), ([`AG], 10, 7, "drr"), ([`UT], 11, 5, "rr"), ([`Dy], 11, 5, "tr"), ([`Of], 11, 7, "drr"), ([`SZ, `Ug], 12, 0, ""), ([`Ca], 12, 11, "rrrrr"), ([`SQ], 13, 7, "d"), ([`A4], 14, 8, "rrr")] : List (List Lean.Name × Nat × Nat × String)).findSome? (λ(l, n) => if l.contains f.getId then some n else none) | Lean.Macro.throwUnsupported
  let u ← `(_)
  let us := Array.replicate n u
  let mut p := #[]
  for c in t.toList.drop (t.length + a.size - m) do
    let v ← if c == 'r' then `(by rfl) else if c == 'd' then `(by decide) else if c == 'f' then `(rfl) else `(by trivial)
    p := p.push v
  `(@$f $us* $a* $p*)
set_option hygiene false
local macro_rules | `(tactic| exists $t) => `(tactic| refine F.ok $t (fun vs H Q E h => ?_) (fun cdv A outer s H vs Q E hr h => ?_))
set_option hygiene true
local macro_rules | `(tactic| trivial) => `(tactic| first | exact .inl rfl | exact .inr rfl | assumption | exact ⟨rfl, rfl, rfl, by decide +kernel, rfl, by decide +kernel, by decide +kernel⟩ | exact L2.Room.mono (by assumption) (by decide))
open PySem L2 M06 M10
theorem Hf : 0 <= sizeLine := small (by decide)
theorem Qx : 1 <= sizeLine := small (by decide)
theorem Ms : 2 <= sizeLine := small (by decide)
theorem UF : 3 <= sizeLine := small (by decide)
theorem Zd : 4 <= sizeLine := small (by decide)
theorem Y8 : 7 <= sizeLine := small (by decide)
def top (i:Nat):Stmt:=PySem.Challenge.pw_stemshelf_k32_whole_one_tag_for_one_cont.main.body.getD i (.Pass ⟨0,0,0,0⟩)
abbrev HA:Stmt:=top 2
theorem OR:FnScope ["thing"] ["thing"] (Am HA):=by trivial
abbrev FP:Stmt:=top 3
theorem MH:FnScope ["thing","least","most"] ["thing","least","most"] (Am FP):=by trivial
abbrev ER:Stmt:=top 4
theorem LU:FnScope ["thing","many"] ["thing","many"] (Am ER):=by trivial
abbrev GI:Stmt:=top 7
theorem N5:FnScope ["sign"] ["sign"] (Am GI):=by trivial
abbrev JI:Stmt:=top 8
theorem QA:FnScope ["number"] ["number"] (Am JI):=by trivial
abbrev JB:Stmt:=top 9
theorem PP:FnScope ["thing","least","most"] ["thing","least","most"] (Am JB):=by trivial
abbrev Et:Stmt:=top 24
theorem EG:FnScope ["thing","words","part"] ["thing"] (Am Et):=by trivial
abbrev HV:Stmt:=top 25
theorem Gd:FnScope ["words","reader","thing"] ["words"] (Am HV):=by trivial
abbrev Dk:Stmt:=inClass (top 26) 0
theorem HN:FnScope ["self","words"] ["self","words"] (Am Dk):=by trivial
abbrev B9:Stmt:=inClass (top 26) 1
theorem EN:FnScope ["self"] ["self"] (Am B9):=by trivial
abbrev Cr:Stmt:=inClass (top 26) 2
theorem F1:FnScope ["self","most"] ["self","most"] (Am Cr):=by trivial
abbrev C9:Stmt:=top 27
theorem Du:FnScope ["reader","deep","first","many"] ["reader","deep"] (Am C9):=by trivial
abbrev Ga:Stmt:=top 28
theorem IC:FnScope ["reader","many"] ["reader"] (Am Ga):=by trivial
abbrev JV:Stmt:=top 44
theorem Qr:FnScope ["thing"] ["thing"] (Am JV):=by trivial
abbrev LA:Stmt:=top 45
theorem Sm:FnScope ["thing"] ["thing"] (Am LA):=by trivial
abbrev Ic:Stmt:=top 46
theorem Pn:FnScope ["thing"] ["thing"] (Am Ic):=by trivial
abbrev Ei:Stmt:=top 47
theorem KB:FnScope ["thing","level"] ["thing","level"] (Am Ei):=by trivial
abbrev EV:Stmt:=top 48
theorem Gq:FnScope ["thing","names"] ["thing"] (Am EV):=by trivial
abbrev HR:Stmt:=top 49
theorem Pk:FnScope ["thing"] ["thing"] (Am HR):=by trivial
abbrev Mm:Stmt:=top 50
theorem G5:FnScope ["block","total","number"] ["block"] (Am Mm):=by trivial
abbrev Eb:Stmt:=top 51
theorem Cg:FnScope ["block","told","name","kind","tag"] ["block"] (Am Eb):=by trivial
abbrev Ju:Stmt:=top 52
theorem QB:FnScope ["block"] ["block"] (Am Ju):=by trivial
abbrev Jw:Stmt:=top 53
theorem QE:FnScope ["block"] ["block"] (Am Jw):=by trivial
abbrev GB:Stmt:=top 56
theorem CD:FnScope ["content","pieces","piece","sign"] ["content"] (Am GB):=by trivial
abbrev DG:Stmt:=top 57
theorem JA:FnScope ["piece"] ["piece"] (Am DG):=by trivial
abbrev GK:Stmt:=top 58
theorem CC:FnScope ["sums","groups","many","one"] ["sums"] (Am GK):=by trivial
abbrev E1:Stmt:=top 60
theorem B2:FnScope ["pool","content","birth","tags","level","rows"] ["pool","content","birth"] (Am E1):=by trivial
abbrev HI:Stmt:=top 61
theorem DC:FnScope ["pool","tags","level","birth","rows","begin","many"] ["pool","tags","level","birth"] (Am HI):=by trivial
abbrev C5:Stmt:=top 62
theorem E6:FnScope ["pool","tag","block"] ["pool","tag"] (Am C5):=by trivial
abbrev EW:Stmt:=inClass (top 66) 0
theorem La:FnScope ["self","many"] ["self","many"] (Am EW):=by trivial
abbrev EY:Stmt:=inClass (top 66) 1
theorem LN:FnScope ["self"] ["self"] (Am EY):=by trivial
abbrev Es:Stmt:=inClass (top 66) 2
theorem FU:FnScope ["self","board","number","row","shelf"] ["self","board","number","row"] (Am Es):=by trivial
abbrev EU:Stmt:=inClass (top 66) 3
theorem F7:FnScope ["self","board","number","row"] ["self","board","number"] (Am EU):=by trivial
abbrev Ea:Stmt:=inClass (top 66) 8
theorem KC:FnScope ["self","number"] ["self","number"] (Am Ea):=by trivial
abbrev Eu:Stmt:=inClass (top 66) 10
theorem KD:FnScope ["self","board"] ["self","board"] (Am Eu):=by trivial
abbrev JJ:Stmt:=top 69
theorem P9:FnScope ["words"] ["words"] (Am JJ):=by trivial
abbrev Mb:Stmt:=top 70
theorem SI:FnScope ["words"] ["words"] (Am Mb):=by trivial
abbrev HK:Stmt:=top 71
theorem Kc:FnScope ["row","words"] ["row"] (Am HK):=by trivial
abbrev Te:Stmt:=top 73
theorem Qy:FnScope ["boards","number","birth","block","row","board"] ["boards","number","birth","block"] (Am Te):=by trivial
abbrev JQ:Stmt:=top 74
theorem Ij:FnScope ["boards","tag","board","block"] ["boards","tag"] (Am JQ):=by trivial
abbrev HC:Stmt:=top 75
theorem J9:FnScope ["boards","board","tag","told"] ["boards","board","tag"] (Am HC):=by trivial
abbrev HX:Stmt:=top 76
theorem Gi:FnScope ["boards","board","number","row","words"] ["boards","board","number"] (Am HX):=by trivial
abbrev Dp:Stmt:=inClass (top 78) 0
theorem I0:FnScope ["self","own_tag","block"] ["self","own_tag","block"] (Am Dp):=by trivial
abbrev F8:Stmt:=inClass (top 79) 0
theorem NX:FnScope ["self","boards"] ["self","boards"] (Am F8):=by trivial
abbrev Hw:Stmt:=inClass (top 79) 1
theorem Gy:FnScope ["self","block","birth","found","tag"] ["self","block","birth"] (Am Hw):=by trivial
abbrev FF:Stmt:=inClass (top 79) 2
theorem Dw:FnScope ["self","block","unread","number","found"] ["self","block"] (Am FF):=by trivial
abbrev CQ:Stmt:=inClass (top 79) 3
theorem Hc:FnScope ["self"] ["self"] (Am CQ):=by trivial
abbrev Gf:Stmt:=inClass (top 79) 4
theorem DU:FnScope ["self","tag","block","cell","same_sum","named"] ["self","tag","block"] (Am Gf):=by trivial
abbrev Dg:Stmt:=inClass (top 79) 5
theorem Ie:FnScope ["self","folder"] ["self","folder"] (Am Dg):=by trivial
abbrev DL:Stmt:=inClass (top 79) 6
theorem Fd:FnScope ["self","folder","steps"] ["self","folder"] (Am DL):=by trivial
abbrev FG:Stmt:=inClass (top 79) 7
theorem Mw:FnScope ["self","tag"] ["self","tag"] (Am FG):=by trivial
abbrev F6:Stmt:=inClass (top 79) 8
theorem IG:FnScope ["self","tag","cell"] ["self","tag"] (Am F6):=by trivial
abbrev Ec:Stmt:=inClass (top 79) 9
theorem CO:FnScope ["self","tag","waiting","number","cell"] ["self","tag"] (Am Ec):=by trivial
abbrev FI:Stmt:=inClass (top 79) 10
theorem CK:FnScope ["self","unnamed","number","named","tag"] ["self"] (Am FI):=by trivial
abbrev F4:Stmt:=inClass (top 79) 11
theorem Og:FnScope ["self","number"] ["self","number"] (Am F4):=by trivial
abbrev Do:Stmt:=inClass (top 79) 12
theorem EE:FnScope ["self","number"] ["self"] (Am Do):=by trivial
abbrev D7:Stmt:=inClass (top 79) 13
theorem KJ:FnScope ["self"] ["self"] (Am D7):=by trivial
abbrev HU:Stmt:=inClass (top 79) 14
theorem Ov:FnScope ["self","number"] ["self","number"] (Am HU):=by trivial
abbrev FJ:Stmt:=inClass (top 79) 16
theorem MD:FnScope ["self","number"] ["self","number"] (Am FJ):=by trivial
abbrev Gm:Stmt:=inClass (top 79) 17
theorem Oc:FnScope ["self","number"] ["self","number"] (Am Gm):=by trivial
abbrev D8:Stmt:=inClass (top 79) 18
theorem KA:FnScope ["self","number"] ["self","number"] (Am D8):=by trivial
abbrev GV:Stmt:=inClass (top 79) 19
theorem N9:FnScope ["self","number"] ["self","number"] (Am GV):=by trivial
abbrev D6:Stmt:=top 81
theorem Ku:FnScope ["_law_script","_law_k"] ["_law_script","_law_k"] (Am D6):=by trivial
abbrev Hy:Stmt:=top 82
theorem Ct:FnScope ["_law_cell","_law_many","_law_found","_law_number","_law_k"] ["_law_cell","_law_many"] (Am Hy):=by trivial
abbrev FQ:Stmt:=top 83
theorem MF:FnScope [] [] (Am FQ):=by trivial
abbrev HB:Stmt:=top 84
theorem Bt:FnScope ["_law_block","_law_told","_law_name","_law_kind","_law_tag","_law_number","_law_one"] ["_law_block"] (Am HB):=by trivial
abbrev Gc:Stmt:=top 85
theorem Bh:FnScope ["_law_row_here","_law_signs_here","_law_runs","_law_number","_law_run","_law_k","_law_step","_law_text_here"] ["_law_row_here"] (Am Gc):=by trivial
abbrev Hz:Stmt:=top 86
theorem Cq:FnScope ["_law_text_here","_law_pieces","_law_piece","_law_sign","_law_ahead"] ["_law_text_here"] (Am Hz):=by trivial
abbrev Er:Stmt:=top 87
theorem KN:FnScope ["_law_level","_law_forms_here"] ["_law_level","_law_forms_here"] (Am Er):=by trivial
abbrev Gr:Stmt:=top 88
theorem Ba:FnScope ["_law_forms_here","_law_level","_law_rows_here","_law_group","_law_k","_law_form","_law_total","_law_whole","_law_number","_law_one","_law_other"] ["_law_forms_here","_law_level"] (Am Gr):=by trivial
abbrev FK:Stmt:=top 89
theorem Br:FnScope ["_law_text_here","_law_forms_here","_law_found","_law_level"] ["_law_text_here"] (Am FK):=by trivial
abbrev GO:Stmt:=top 90
theorem CA:FnScope ["_law_row_here","_law_some","_law_text_here","_law_at","_law_many","_law_put"] ["_law_row_here","_law_some"] (Am GO):=by trivial
abbrev FN:Stmt:=top 91
theorem BS:FnScope ["_law_pool","_law_held","_law_known","_law_text_here","_law_tag","_law_form","_law_other","_law_elder"] ["_law_pool","_law_held"] (Am FN):=by trivial
abbrev TH:Stmt:=top 92
theorem Ey:FnScope ["_law_script","_law_text_here","_law_cell","_law_pool","_law_some","_law_held","_law_birth","_law_row_here","_law_tag"] ["_law_script"] (Am TH):=by trivial
structure Txt (K:W.Frag) (mg:Str->Option Value) (Ab:Addr) (Ad:Addr) (Aa:Addr) (Ae:Addr) (XC:Nat->Addr):Prop where
 cl_WordReader:Cls K Ab
 n_WordReader_words:AS K Ab "words"
 n_WordReader_place:AS K Ab "place"
 cl_Boards:Cls K Ad
 n_Boards_shelves:AS K Ad "shelves"
 n_Boards_writes:AS K Ad "writes"
 n_Boards_writes_left:AS K Ad "writes_left"
 cl_TakenCell:Cls K Aa
 n_TakenCell_own_tag:AS K Aa "own_tag"
 n_TakenCell_own_size:AS K Aa "own_size"
 n_TakenCell_named:AS K Aa "named"
 n_TakenCell_times_named:AS K Aa "times_named"
 n_TakenCell_entries_beneath:AS K Aa "entries_beneath"
 n_TakenCell_steps_beneath:AS K Aa "steps_beneath"
 cl_Pool:Cls K Ae
 n_Pool_boards:AS K Ae "boards"
 n_Pool_taken:AS K Ae "taken"
 n_Pool_by_sums:AS K Ae "by_sums"
 n_Pool_draft:AS K Ae "draft"
 n_Pool_first_maybe_free:AS K Ae "first_maybe_free"
 x_Lost:mg "Lost"=some (.ref (XC 0))
 x_NoThing:mg "NoThing"=some (.ref (XC 1))
 b_abs:mg "abs"=none
 b_all:mg "all"=none
 b_bool:mg "bool"=none
 b_enumerate:mg "enumerate"=none
 b_int:mg "int"=none
 b_isinstance:mg "isinstance"=none
 b_len:mg "len"=none
 b_list:mg "list"=none
 b_max:mg "max"=none
 b_min:mg "min"=none
 b_range:mg "range"=none
 b_set:mg "set"=none
 b_sorted:mg "sorted"=none
 b_str:mg "str"=none
 b_sum:mg "sum"=none
 b_tuple:mg "tuple"=none
 c_SIGNS:∃t,mg "SIGNS"=some (.str (PySem.Str.ofString " !\"#$&'()*+,-./0123456789:;<=>?@ABCDEFGHIJKLMNOPQRSTUVWXYZ[\\]^_`abcdefghijklmnopqrstuvwxyz{|}~") t)
 c_MOST_NUMBER:∃t,mg "MOST_NUMBER"=some (.int 999999999 t)
 c_MOST_SIGNS:∃t,mg "MOST_SIGNS"=some (.int 400 t)
 c_MOST_PARTS:∃t,mg "MOST_PARTS"=some (.int 100 t)
 c_MOST_DEEP:∃t,mg "MOST_DEEP"=some (.int 8 t)
 c_NUMBER_WORD:∃t,mg "NUMBER_WORD"=some (.int 0 t)
 c_TEXT_WORD:∃t,mg "TEXT_WORD"=some (.int 1 t)
 c_TUPLE_WORD:∃t,mg "TUPLE_WORD"=some (.int 2 t)
 c_PIECE:∃t,mg "PIECE"=some (.int 0 t)
 c_ROW:∃t,mg "ROW"=some (.int 1 t)
 c_FOLDER:∃t,mg "FOLDER"=some (.int 2 t)
 c_FILE_ENTRY:∃t,mg "FILE_ENTRY"=some (.int 1 t)
 c_FOLDER_ENTRY:∃t,mg "FOLDER_ENTRY"=some (.int 2 t)
 c_NAME_SIGNS:∃t,mg "NAME_SIGNS"=some (.str (PySem.Str.ofString "0123456789abcdefghijklmnopqrstuvwxyz") t)
 c_MOST_NAME_SIGNS:∃t,mg "MOST_NAME_SIGNS"=some (.int 8 t)
 c_MOST_CELL:∃t,mg "MOST_CELL"=some (.int 999999 t)
 c_MOST_BIRTH:∃t,mg "MOST_BIRTH"=some (.int 999999999 t)
 c_SUM_RESTS:∃t,mg "SUM_RESTS"=some (.int 997 t)
 c_MOST_PIECE_SIGNS:∃t,mg "MOST_PIECE_SIGNS"=some (.int 8 t)
 c_MOST_LEVEL:∃t,mg "MOST_LEVEL"=some (.int 9 t)
 c_MOST_TAGS:∃t,mg "MOST_TAGS"=some (.int 8 t)
 c_MOST_ENTRIES:∃t,mg "MOST_ENTRIES"=some (.int 16 t)
 c_MOST_IN_ONE:∃t,mg "MOST_IN_ONE"=some (.int 8 t)
 c_LEAST_BOARDS:∃t,mg "LEAST_BOARDS"=some (.int 2 t)
 c_MOST_BOARDS:∃t,mg "MOST_BOARDS"=some (.int 4 t)
 c_MARK_RESTS:∃t,mg "MARK_RESTS"=some (.int 2147483647 t)
theorem Di {t:TS}{D:Ends}{σ:St}{H:Hp}(h:∀E,D=E->t E σ H):t D σ H:=h _ rfl
abbrev SG:Str:=PySem.Str.ofString " !\"#$&'()*+,-./0123456789:;<=>?@ABCDEFGHIJKLMNOPQRSTUVWXYZ[\\]^_`abcdefghijklmnopqrstuvwxyz{|}~"
theorem Tq:SG.cps.toList.length=94:=by decide +kernel
theorem QQ:SG.length<=sizeLine:=small (by decide +kernel)
theorem U3:∀k:Nat,k<94->PySem.Txt.find SG ⟨#[SG.cps.toList.getD k 0]⟩=(k:Int):=by decide +kernel
theorem Ya {i:Int}(h0:0<=i)(h1:i<94):He SG.cps.toList i=some (SG.cps.toList.getD i.toNat 0):=by
 have hk:i.toNat<SG.cps.toList.length:=by rw[Tq];lia
 have q:He SG.cps.toList ((i.toNat:Nat):Int)=some (SG.cps.toList.getD i.toNat 0):=C4 (by rw[aa hk];simp only[List.getD,List.getElem?_eq_getElem hk,Option.getD_some]);have ek:((i.toNat:Nat):Int)=i:=by lia
 rw[ek] at q;exact q
section
variable {P:Program}{w:World}{K:W.Frag}{mg:Str->Option Value}{base:Heap}{f Ab Ad Aa Ae:Addr}{XC:Nat->Addr}{fd:FuncData}
def CY (K:W.Frag):Sp:=λvs H Q _=>∃v,vs=[v]/\Ok H v/\Q (.bl (Gp H v)) H
theorem OU (T:Txt K mg Ab Ad Aa Ae XC)(F:Fun K "is_whole" "is_whole" HA f fd):FnOk P w K mg base BI 1 f fd ["thing"] (CY K):=by
 exists OR
 ·obtain⟨c,rfl,_⟩:=h;rfl
 obtain⟨v,rfl,ok,q⟩:=h;refine⟨_,(!Ak (!Ao (!FM (!Aq Cc (by rfl) T.b_isinstance Bz (!Ac (pv 0) (!Ac (!Kg rfl T.b_int WT) (!Ah)))) (!Fy (!XB (!Aq Cc (by rfl) T.b_isinstance Bz (!Ac (pv 0) (!Ac (!Kg rfl T.b_bool VI) (!Ah))))))))),?_⟩;exact K0 _ _ (λR q=>⟨_,rfl,_,_,_,_,rfl,ok.ty K,ok.kit K,q⟩) (λ_ R q=>⟨_,rfl,_,_,_,_,rfl,ok.ty K,ok.kit K,_,rfl,q⟩) q
def BA (K:W.Frag):Sp:=λvs H Q _=>∃v a b,vs=[v,.int a,.int b]/\Ok H v/\Q (.bl (Kz a b v)) H
theorem ME (T:Txt K mg Ab Ad Aa Ae XC)(F:Fun K "is_between" "is_between" FP f fd)(Bg:Def P w K mg base 1 "is_whole" ["thing"] (CY K)):FnOk P w K mg base BI 2 f fd ["thing","least","most"] (BA K):=by
 exists MH
 ·obtain⟨v,a,b,rfl,_⟩:=h;rfl
 obtain⟨v,a,b,rfl,ok,q⟩:=h;refine⟨_,(!Ak (!Ao (!FM (!AG Bg (by trivial) rfl (!Ac (pv 0) (!Ah))) (!Fy (!SZ QS QS (pv 1) (pv 0) (pv 2) (by with_unfolding_all rfl)))))),?_⟩;refine K0 (Gp H v) (Kz a b v) (λR q=>⟨_,rfl,v,rfl,ok,q⟩) (λhw R q=>?_) ?_
 ·obtain⟨i,rfl⟩:=Uw ok hw;refine⟨_,rfl,_,rfl,_,_,rfl,rfl,_,rfl,?_⟩;refine Cs (λc=>?_) (λc=>?_)
  ·have e:Kz a b (.int i)=decide (i<=b):=by show(decide (a<=i)&&decide (i<=b))=_;rw[c];rfl
   rw[e] at q;exact⟨_,rfl,_,_,rfl,rfl,q⟩
  ·have e:Kz a b (.int i)=false:=by show(decide (a<=i)&&decide (i<=b))=_;rw[Bool.eq_false_iff.mpr c];rfl
   rw[e] at q;exact q
 ·cases hw:Gp H v with
  |true=>exact q
  |false=>rw[VT hw] at q;exact q
def DR (t:Str)(z:Str):Bool:=(A3 z).all λc=>decide (c∈A3 t)
def Ma (a b:Int):V->Bool
 | .str z=>decide (a<=(z.length:Int))&&decide ((z.length:Int)<=b)&&DR SG z
 |_=>false
theorem Th {H:Hp}{v:V}{a b:Int}(h:isA (G9 H v) "str"=false):Ma a b v=false:=by
 cases v with
 |str z=>exact absurd (show isA "str" "str"=false from h) (by decide)
 |_=>rfl
def Ih (K:W.Frag):Sp:=λvs H Q _=>∃v a b,vs=[v,.int a,.int b]/\Ok H v/\∀H',As H H'->Q (.bl (Ma a b v)) H'
theorem RY (t z:Str):((A3 z).map λc=>V.str ⟨#[c]⟩).map (λv=>match v with|V.str y=>V.bl (!(Builtin.Str.occurrences t y 0 t.length 1).isEmpty)|_=>V.non)=((A3 z).map λc=>decide (c∈A3 t)).map V.bl:=by
 rw[aI,aI];refine cC λc _=>?_
 show V.bl (!(Builtin.Str.occurrences t ⟨#[c]⟩ 0 t.length 1).isEmpty)=V.bl (decide (c∈A3 t));rw[PySem.StrLaws.found_one]
theorem PL (T:Txt K mg Ab Ad Aa Ae XC)(F:Fun K "is_text" "is_text" JB f fd):FnOk P w K mg base BI 1 f fd ["thing","least","most"] (Ih K):=by
 exists PP
 ·obtain⟨v,a,b,rfl,_⟩:=h;rfl
 obtain⟨v,a,b,rfl,ok,q⟩:=h;refine⟨_,(!Af (!AL (@PW.pt _ _ _ (!Fg (!Co (!BK (!Aq Cc (by rfl) T.b_isinstance Bz (!Ac (pv 0) (!Ac (!Kg rfl T.b_str NT) (!Ah)))) (by intro _;rfl))) (!DH (!Co (!Ug QS QS (pv 1) (!Aq Bs (by rfl) T.b_len AZ (!Ac (pv 0) (!Ah))) (pv 2) (by with_unfolding_all rfl)))))) (!Ak (!Ao (!Ed))) (!Au)) (!Ak (!Ao (!Aq (GA rfl) (by rfl) T.b_all Lj (!Ac (@Bl _ ["sign"] _ _ _ _ _ _ _ _ _ _ rfl (!GC (pv 0)) (by decide +kernel) (λC s H fp=>⟨(@An _ _ (0) _ (show(["sign"]:List Str).Nodup by decide +kernel) rfl (by trivial) (by trivial)),(!AM),(!BW RN (pv 0) (!IA rfl T.c_SIGNS))⟩) (by intro _;rfl)) (!Ah)))))),?_⟩;refine⟨_,rfl,_,_,_,_,rfl,ok.ty K,ok.kit K,_,rfl,?_⟩;cases hw:isA (G9 H v) "str" with
 |false=>
  refine Ci rfl ?_;have:=q H (As.refl _);rw[Th hw] at this;exact this
 |true=>
  refine AV rfl ?_;obtain⟨z,rfl,hz⟩:=Xw ok hw;have zl:=AO z;refine⟨_,rfl,_,rfl,_,rfl,small (by lia),_,_,rfl,rfl,_,rfl,?_⟩;refine Cs (λc=>?_) (λc=>?_)
  ·refine⟨_,rfl,_,_,rfl,rfl,_,rfl,?_⟩;refine Cs (λd=>?_) (λd=>?_)
   ·have d':decide ((z.length:Int)<=b)=false:=by simpa using d
    have e:Ma a b (.str z)=false:=by show(decide (a<=(z.length:Int))&&decide ((z.length:Int)<=b)&&DR SG z)=_;rw[d',Bool.and_false];rfl
    have:=q H (As.refl _);rw[e] at this;exact this
   ·have d':decide ((z.length:Int)<=b)=true:=by simpa using d
    refine⟨_,rfl,z,rfl,?_⟩;refine comp_map (λv=>match v with | .str y=>.bl (!(Builtin.Str.occurrences SG y 0 SG.length 1).isEmpty)|_=>.non) IX (by rw[ab];exact aY (dB zl) (by lia)) (λx H' R hx s' hR=>?_) λl H7 n7 s7 h7=>?_
    ·obtain⟨u,_,rfl⟩:=ae.mp hx;exact⟨_,rfl,_,_,rfl,rfl,hR H' (As.refl _)⟩
    rw[RY] at h7;refine⟨l,_,rfl,AJ.of h7,?_⟩;have e:Ma a b (.str z)=((A3 z).map λc=>decide (c∈A3 SG)).all id:=by
     show(decide (a<=(z.length:Int))&&decide ((z.length:Int)<=b)&&DR SG z)=_;unfold DR;rw[c,d',ie];rfl
    have:=q H7 s7;rw[e] at this;exact this
  ·have c':decide (a<=(z.length:Int))=false:=Bool.eq_false_iff.mpr c;have e:Ma a b (.str z)=false:=by show(decide (a<=(z.length:Int))&&decide ((z.length:Int)<=b)&&DR SG z)=_;rw[c',Bool.false_and];rfl
   have:=q H (As.refl _);rw[e] at this;exact⟨_,rfl,this⟩
def LS (K:W.Frag):Sp:=λ_ _ _ _=>False
theorem PQ (T:Txt K mg Ab Ad Aa Ae XC)(F:Fun K "is_name" "is_name" JV f fd)(Fb:Def P w K mg base 1 "is_text" ["thing","least","most"] (Ih K)):FnOk P w K mg base BI 2 f fd ["thing"] (LS K):=
 F.ok Qr (λvs H Q E h=>h.elim) (λcdv A outer s H vs Q E hr h=>h.elim)
def RL (H:Hp)(v:V)(n:Int):Bool:=match v with
 | .ref a=>match H a with
  |some (.tup xs)=>decide ((xs.length:Int)=n)
  |_=>false
 |_=>false
theorem LR {H:Hp}{a:Addr}{xs:List V}{n:Int}(h:H a=some (.tup xs)):RL H (.ref a) n=decide ((xs.length:Int)=n):=by simp only[RL,h]
theorem Vu {H:Hp}{v:V}{n:Int}(ok:Ok H v)(h:isA (G9 H v) "tuple"=false):RL H v n=false:=by
 refine ok.elim (λe _=>?_) (λ_ e _=>?_) (λ_ e _=>?_) (λ_ e _ _=>?_) (λa xs e e2 _=>?_) (λ_ _ _ _ e=>?_)
 ·rw[e];rfl
 ·rw[e];rfl
 ·rw[e];rfl
 ·rw[e];rfl
 ·rw[e];simp only[RL,e2]
 ·rw[e] at h;exact absurd h (by decide)
def C8 (K:W.Frag):Sp:=λvs H Q _=>∃v n,vs=[v,.int n]/\Ok H v/\Q (.bl (RL H v n)) H
theorem LB (T:Txt K mg Ab Ad Aa Ae XC)(F:Fun K "is_tuple_of" "is_tuple_of" ER f fd):FnOk P w K mg base BI 1 f fd ["thing","many"] (C8 K):=by
 exists LU
 ·obtain⟨v,n,rfl,_⟩:=h;rfl
 obtain⟨v,n,rfl,ok,q⟩:=h;refine⟨_,(!Ak (!Ao (!FM (!Aq Cc (by rfl) T.b_isinstance Bz (!Ac (pv 0) (!Ac (!Kg rfl T.b_tuple Fe) (!Ah)))) (!Fy (!BW Bb (!Aq Az (by rfl) T.b_len AZ (!Ac (pv 0) (!Ah))) (pv 1) (Av _)))))),?_⟩;refine K0 (isA (G9 H v) "tuple") (RL H v n) (λR q=>⟨_,rfl,_,_,_,_,rfl,ok.ty K,ok.kit K,q⟩) (λhw R q=>?_) ?_
 ·obtain⟨a,xs,rfl,e⟩:=SW ok hw;rw[LR e] at q;refine⟨_,rfl,a,xs,rfl,.inr (A8.of e),_,rfl,rfl,?_⟩;rw[Fx,iA];exact q
 ·cases hw:isA (G9 H v) "tuple" with
  |true=>exact q
  |false=>rw[Vu ok hw] at q;exact q
def CF (K:W.Frag):Sp:=λvs H Q _=>∃u:Str,vs=[.str u]/\0<=PySem.Txt.find SG u/\Q (.int (PySem.Txt.find SG u)) H
theorem NO (T:Txt K mg Ab Ad Aa Ae XC)(F:Fun K "number_of" "number_of" GI f fd):FnOk P w K mg base BI 1 f fd ["sign"] (CF K):=by
 exists N5
 ·obtain⟨u,rfl,_⟩:=h;rfl
 obtain⟨u,rfl,h0,q⟩:=h;refine⟨_,(!Ak (!Ao (!Ca cj df de (GU rfl) (!IA rfl T.c_SIGNS) (!Ac (pv 0) (!Ah))))),?_⟩;exact⟨rfl,_,rfl,_,_,rfl,rfl,h0,q⟩
def LV (K:W.Frag):Sp:=λvs H Q _=>∃i:Int,vs=[.int i]/\0<=i/\i<94/\Q (.str ⟨#[SG.cps.toList.getD i.toNat 0]⟩) H
theorem P8 (T:Txt K mg Ab Ad Aa Ae XC)(F:Fun K "sign_of" "sign_of" JI f fd):FnOk P w K mg base BI 1 f fd ["number"] (LV K):=by
 exists QA
 ·obtain⟨u,rfl,_⟩:=h;rfl
 obtain⟨i,rfl,h0,h1,q⟩:=h;refine⟨_,(!Ak (!Ao (!Ax Le (!IA rfl T.c_SIGNS) (pv 0) (λ_ _=>rfl)))),?_⟩;exact⟨_,rfl,_,_,_,rfl,rfl,QQ,Ya h0 h1,q⟩
def Ez:Nat->Tr->Bool
 |0,_=>false
 |_+1,.int i=>decide (0<=i)&&decide (i<=999999999)
 |_+1,.str z=>decide ((z.length:Int)<=400)&&DR SG z
 |n+1,.tup ts=>decide (ts.length<=100)&&ts.all (Ez n)
 |_+1,_=>false
def All:Addr->Prop:=λ_=>True
def NL:Addr->Prop:=λ_=>False
mutual
theorem De {H H':Hp}(k:∀c xs,H c=some (.tup xs)->H' c=some (.tup xs)):∀(t:Tr) (v:V),Rep NL H t v->Rep NL H' t v
 | .non,_,h=>h
 | .bl _,_,h=>h
 | .int _,_,h=>h
 | .str _,_,h=>h
 | .tup ts,_,⟨a,vs,e,ha,hr⟩=>⟨a,vs,e,k a _ ha,Bf k ts vs hr⟩
 | .lst _,_,⟨_,_,_,fa,_⟩=>fa.elim
theorem Bf {H H':Hp}(k:∀c xs,H c=some (.tup xs)->H' c=some (.tup xs)):∀(ts:List Tr) (vs:List V),AI NL H ts vs->AI NL H' ts vs
 |[],_,h=>h
 |t::ts,_,⟨v,us,e,h1,h2⟩=>⟨v,us,e,De k t v h1,Bf k ts us h2⟩
end
theorem GZ {H:Hp}{t:Tr}{v:V}(h:Rep NL H t v):Rep All H t v:=Rep.mono (λ_ z=>z.elim) t v h
mutual
theorem PF:∀(n:Nat) (t:Tr),Ez n t=true->t.ok
 |0,_,h=>nomatch h
 |n+1,.non,h=>nomatch h
 |n+1,.bl _,h=>nomatch h
 |n+1,.int _,_=>trivial
 |n+1,.str z,h=>by
  have h':(decide ((z.length:Int)<=400)&&DR SG z)=true:=h;rw[bq,aG] at h';show z.length<=1000
  lia
 |n+1,.tup ts,h=>by
  have h':(decide (ts.length<=100)&&ts.all (Ez n))=true:=h;rw[bq,aG] at h';exact⟨by lia,QZ n ts h'.2⟩
 |n+1,.lst _,h=>nomatch h
theorem QZ:∀(n:Nat) (ts:List Tr),ts.all (Ez n)=true->Tr.oks ts
 |_,[],_=>trivial
 |n,t::ts,h=>by
  rw[fV,bq] at h;exact⟨PF n t h.1,QZ n ts h.2⟩
end
def idx (c:Nat):Int:=PySem.Txt.find SG ⟨#[c]⟩
theorem HZ {c:Nat}(h:c∈A3 SG):0<=idx c/\idx c<94/\SG.cps.toList.getD (idx c).toNat 0=c:=by
 obtain⟨k,hk,e⟩:=bx (show c∈SG.cps.toList from h);have hk':k<94:=by rw[Tq] at hk;exact hk
 have eg:SG.cps.toList.getD k 0=c:=by simp only[List.getD,List.getElem?_eq_getElem hk,Option.getD_some];exact e
 have:=U3 k hk';rw[eg] at this;have ei:idx c=(k:Int):=this;rw[ei];exact⟨by lia,by lia,eg⟩
mutual
def wT:Tr->List Int
 | .int i=>[0,i]
 | .str z=>1::(z.length:Int)::(A3 z).map idx
 | .tup ts=>2::(ts.length:Int)::wTs ts
 |_=>[]
def wTs:List Tr->List Int
 |[]=>[]
 |t::ts=>wT t++wTs ts
end
theorem K5:∀(a b:List Tr),wTs (a++b)=wTs a++wTs b
 |[],_=>rfl
 |t::a,b=>by
  show wT t++wTs (a++b)=(wT t++wTs a)++wTs b;rw[K5 a b,aE]
theorem Iu {ts:List Tr}{i:Nat}{t:Tr}(h:ts[i]?=some t):wTs (ts.take (i+1))=wTs (ts.take i)++wT t:=by
 rw[bg,h,K5];show wTs (ts.take i)++(wT t++[])=_;rw[bY]
theorem Xn {ts:List Tr}(i:Nat):(wTs (ts.take i)).length<=(wTs ts).length:=by
 have:=congrArg List.length (K5 (ts.take i) (ts.drop i));rw[dm,ar] at this
 lia
theorem Va {ts:List Tr}{i:Nat}{t:Tr}(h:ts[i]?=some t):(wTs (ts.take i)).length+(wT t).length<=(wTs ts).length:=by
 have:=Xn (ts:=ts) (i+1);rw[Iu h,ar] at this;exact this
theorem K6 {n:Nat}{z:Str}(h:Ez n (.str z)=true):z.length<=400/\∀c∈A3 z,c∈A3 SG:=by
 cases n with
 |zero=>cases h
 |succ n=>
  have h':(decide ((z.length:Int)<=400)&&DR SG z)=true:=h;rw[bq,aG] at h';refine⟨by lia,λc hc=>?_⟩;have:=bZ.mp h'.2 c hc;simpa using this
theorem CG {n:Nat}{ts:List Tr}(h:Ez (n+1) (.tup ts)=true):ts.length<=100/\∀(i:Nat) t,ts[i]?=some t->Ez n t=true:=by
 have h':(decide (ts.length<=100)&&ts.all (Ez n))=true:=h;rw[bq,aG] at h';exact⟨h'.1,λi t ht=>bZ.mp h'.2 t (az ht)⟩
theorem Ue (ts:List Tr):wT (.tup ts)=2::(ts.length:Int)::wTs ts:=rfl
theorem W5 (z:Str):wT (.str z)=1::(z.length:Int)::(A3 z).map idx:=rfl
def Q7 (n:Nat)(K:W.Frag):Sp:=λvs H Q _=>∃(v:V) (t:Tr),vs=[v]/\Rep NL H t v/\Ez n t=true/\(wT t).length<=900000/\∀l H',As H H'->H l=none->H' l=some (.lst ((wT t).map V.int))->Q (.ref l) H'
def Ge (K:W.Frag):Sp:=Q7 8 K
theorem V0 (T:Txt K mg Ab Ad Aa Ae XC)(F:Fun K "words_of" "words_of" Et f fd)(Bg:Def P w K mg base 1 "is_whole" ["thing"] (CY K))(AX:Def P w K mg base 1 "number_of" ["sign"] (CF K))(n:Nat)(Cy:Def P w K mg base (1+n) "words_of" ["thing"] (Q7 n K)):FnOk P w K mg base BI (1+n+1) f fd ["thing"] (Q7 (n+1) K):=by
 exists EG
 ·obtain⟨v,t,rfl,_⟩:=h;rfl
 obtain⟨v,t,rfl,hv,ht,hw,q⟩:=h;have ok:=PF _ _ ht;have okv:=(GZ hv).ok ok;have ety:=(GZ hv).tyN;refine⟨_,(!Af (!AL (!BK (!AG Bg (hr.mono (by lia)) rfl (!Ac (pv 0) (!Ah))) (by intro _;rfl)) (!Ak (!Ao (!Be (!Ac (!AB rfl T.c_NUMBER_WORD) (!Ac (pv 0) (!Ah)))))) (!Au)) (!Af (!AL (!BK (!Aq Cc (by rfl) T.b_isinstance Bz (!Ac (pv 0) (!Ac (!Kg rfl T.b_str NT) (!Ah)))) (by intro _;rfl)) (!Ak (!Ao (!Ar DY (!Be (!Ac (!AB rfl T.c_TEXT_WORD) (!Ac (!Aq Bs (by rfl) T.b_len AZ (!Ac (pv 0) (!Ah))) (!Ah)))) (@Bl _ ["sign"] _ _ _ _ _ _ _ _ _ _ rfl (!GC (pv 0)) (by decide +kernel) (λC s H fp=>⟨(@An _ _ (0) _ (show(["sign"]:List Str).Nodup by decide +kernel) rfl (by trivial) (by trivial)),(!AM),(!AG AX (hr.mono (by lia)) rfl (!Ac (pv 0) (!Ah)))⟩) (by intro _;rfl))))) (!Au)) (!Af (@Ap _ _ (1) _ _ _ _ EG.nd rfl (by trivial) (!Be (!Ac (!AB rfl T.c_TUPLE_WORD) (!Ac (!Aq Az (by rfl) T.b_len AZ (!Ac (pv 0) (!Ah))) (!Ah)))) (by rfl) (by trivial)) (!Af (!Bn aU rfl (!Dr (pv 0)) (@An _ _ (2) _ EG.nd rfl (by trivial) (by trivial)) (!Ak (!AN (!Ca aT dM dJ GX (pv 1) (!Ac (!AG Cy (hr.mono (by lia)) rfl (!Ac (pv 2) (!Ah))) (!Ah))))) (by intro _;rfl)) (!Ak (!Ao (pv 1))))))),?_⟩;refine⟨_,rfl,v,rfl,okv,_,rfl,?_⟩;cases t with
 |int i=>
  cases(show v=V.int i from hv);refine Ci rfl ?_;exact⟨_,rfl,Ms,λl hl=>q l _ (Al hl _) hl Ag⟩
 |str z=>
  cases(show v=V.str z from hv);obtain⟨zl,zs⟩:=K6 ht;have zc:=AO z;refine AV rfl ?_;refine⟨_,rfl,_,_,_,_,rfl,okv.ty K,okv.kit K,_,rfl,Ci (by rw[ety];show isA "str" "str"=true;decide) ?_⟩;refine⟨_,rfl,_,rfl,small (by lia),Ms,λp1 hp1=>?_⟩;refine⟨_,rfl,z,rfl,?_⟩;refine comp_map (λv=>match v with | .str y=>.int (PySem.Txt.find SG y)|_=>.non) IX (by rw[ab];exact aY (dB zc) (by lia)) (λx H' R hx s' hR=>?_) λl H7 n7 s7 h7=>?_
  ·obtain⟨u,hu,rfl⟩:=ae.mp hx;exact⟨_,rfl,_,rfl,(HZ (zs u hu)).1,hR H' (As.refl _)⟩
  have e7:((z.cps.toList.map λc=>V.str ⟨#[c]⟩).map λv=>match v with|V.str y=>V.int (PySem.Txt.find SG y)|_=>V.non)=((A3 z).map idx).map V.int:=by
   rw[aI,aI];rfl
  rw[e7] at h7;have s1:=Al hp1 (.lst [V.int 1,V.int (z.length:Int)]);refine⟨p1,l,_,_,rfl,rfl,AJ.of (s7.get Ag),AJ.of h7,small (by rw[ab,ab];show 2+_<=_;lia),λp hp=>?_⟩;exact q p _ ((s1.trans s7).trans (Al hp _)) ((s1.trans s7).free hp) Ag
 |tup ts=>
  obtain⟨a,vs,rfl,ha,hr'⟩:=hv;have lv:=AI.len ts vs hr';obtain⟨tl,tt⟩:=CG ht;rw[Ue] at hw q;have hw2:(wTs ts).length<=899998:=by simp only[List.length_cons] at hw;lia
  refine AV (by unfold Gp;rw[ety];rfl) ?_;refine⟨_,rfl,_,_,_,_,rfl,okv.ty K,okv.kit K,_,rfl,AV (by rw[ety];show isA "tuple" "str"=false;decide) ?_⟩;refine⟨_,rfl,a,_,rfl,.inr (A8.of ha),Ms,λg hg=>?_⟩;rw[lv];refine⟨_,rfl,a,rfl,⟨_,A8.of ((Al hg _).get ha)⟩,K3 (K:=K) (a:=a) (xs:=vs) (λi σ H2=>∃(v2:Option V),σ=[some (.ref a),some (.ref g),v2]/\As H H2/\H2 g=some (.lst ((2::(ts.length:Int)::wTs (ts.take i)).map V.int)))
   ⟨none,rfl,Al hg _,Ag⟩ (by rintro i σ H2 _ ⟨_,_,s2,_⟩;exact A8.of (s2.get ha)) ?_ ?_⟩
  ·rintro i y σ H2 hi ⟨v2,rfl,s2,hg2⟩
   obtain⟨ty,et,ry⟩:=AI.get hr' hi;have b1:=Va et;refine⟨_,rfl,.inl ⟨rfl,_,AJ.of hg2⟩,_,rfl,y,ty,rfl,Rep.same s2 _ _ ry,tt i ty et,by lia,λl3 H3 s3 n3 h3=>?_⟩;refine⟨g,l3,_,_,rfl,rfl,s3.get hg2,h3,small (by simp only[List.length_map,List.length_cons];lia),?_⟩;refine⟨_,rfl,A5 (s2.trans s3) hg _,?_⟩;rw[Ag,<-aJ,Iu et];rfl
  ·rintro σ H2 ⟨v2,rfl,s2,hg2⟩
   rw[lv,aK (ah _)] at hg2;exact⟨_,rfl,q g H2 s2 hg hg2⟩
 |non=>cases n<;>cases ht
 |bl b=>cases n<;>cases ht
 |lst ts=>cases n<;>cases ht
theorem Uj (T:Txt K mg Ab Ad Aa Ae XC)(F:Fun K "words_of" "words_of" Et f fd)(Bg:Def P w K mg base 1 "is_whole" ["thing"] (CY K))(AX:Def P w K mg base 1 "number_of" ["sign"] (CF K))(hm:mg "words_of"=some (.ref f))(hk:W.keepIn K (.ref f)=true)(hb:Binds K fd ["thing"] []):∀n,FnOk P w K mg base BI (1+n) f fd ["thing"] (Q7 n K)
 |0=>by
  exists EG
  ·obtain⟨v,t,rfl,_,ht,_⟩:=h;cases ht
  ·obtain⟨v,t,rfl,_,ht,_⟩:=h;cases ht
 |n+1=>V0 T F Bg AX n ⟨f,fd,Uj T F Bg AX hm hk hb n,hm,hk,hb⟩
theorem OH (T:Txt K mg Ab Ad Aa Ae XC)(F:Fun K "words_of" "words_of" Et f fd)(Bg:Def P w K mg base 1 "is_whole" ["thing"] (CY K))(AX:Def P w K mg base 1 "number_of" ["sign"] (CF K))(hm:mg "words_of"=some (.ref f))(hk:W.keepIn K (.ref f)=true)(hb:Binds K fd ["thing"] []):FnOk P w K mg base BI 9 f fd ["thing"] (Ge K):=
 Uj T F Bg AX hm hk hb 8
def HD (K:W.Frag):Sp:=λvs H Q _=>∃(a:Addr) (ns:List Int),vs=[.ref a]/\H a=some (.lst (ns.map V.int))/\ns.length<=1000/\∀H',As H H'->Q (.int (mk ns)) H'
def fI (i:Nat):V->V
 | .int x=>.int (x*((i:Int)+1))
 |v=>v
theorem WR (ns:List Int):(List.range (ns.map V.int).length).map (λi=>fI i ((ns.map V.int).getD i .non))=((List.range ns.length).map λi=>ns.getD i 0*((i:Int)+1)).map V.int:=by
 rw[ab,aI];refine cC λi hi=>?_
 have hl:i<ns.length:=eP.mp hi;simp[List.getD,List.getElem?_eq_getElem hl,fI]
theorem PU (T:Txt K mg Ab Ad Aa Ae XC)(F:Fun K "mark_of" "mark_of" JJ f fd):FnOk P w K mg base BI 1 f fd ["words"] (HD K):=by
 exists P9
 ·obtain⟨a,ns,rfl,_⟩:=h;rfl
 obtain⟨a,ns,rfl,hS,hlen,q⟩:=h;refine⟨_,(!Ak (!Ao (!Ar Bd (!Aq (Oz rfl) (by rfl) T.b_sum T4 (!Ac (@Bl _ ["place","word"] _ _ _ _ _ _ _ _ _ _ rfl (!UT rfl T.b_enumerate (!Ac (pv 0) (!Ah))) (by decide +kernel) (λC s H fp=>⟨(@Dx _ (K) _ _ _ _ (2) (by rfl) rfl (!AA (@An _ _ (0) _ (show(["place","word"]:List Str).Nodup by decide +kernel) rfl (by trivial) (by trivial)) (!AA (@An _ _ (1) _ (show(["place","word"]:List Str).Nodup by decide +kernel) rfl (by trivial) (by trivial)) (!BF))) (by rfl) (by rfl)),(!AM),(!Ar DN (pv 1) (pv 0))⟩) (by intro _;rfl)) (!Ah))) (!AB rfl T.c_MARK_RESTS)))),?_⟩;refine⟨_,rfl,a,_,rfl,AJ.of hS,?_⟩;refine Sr fI hS (by rw[ab];lia) rfl (λi x H' R hx s' hR=>?_) (by decide) λl H' nl s' hl=>?_
 ·obtain⟨z,rfl,hz⟩:=Re hx;have hil:i<ns.length:=(aj.mp hz).1;exact⟨_,rfl,_,rfl,_,_,rfl,rfl,.inr ⟨by lia,by lia⟩,hR H' (As.refl _)⟩
 ·rw[WR] at hl;refine⟨l,_,rfl,AJ.of hl,?_⟩;refine⟨_,_,rfl,rfl,(by show(0:Int)<2147483647;decide),?_⟩;rw[SH];exact q _ s'
def MU (K:W.Frag):Sp:=λvs H Q _=>∃(a:Addr) (ns:List Int),vs=[.ref a]/\H a=some (.lst (ns.map V.int))/\ns.length<=1000/\
 ∀(r:Addr) (H':Hp),As H H'->H r=none->H' r=some (.lst ((ns++[mk ns]).map V.int))->Q (.ref r) H'
theorem Sn (T:Txt K mg Ab Ad Aa Ae XC)(F:Fun K "sealed" "sealed" Mb f fd)(D1:Def P w K mg base 1 "mark_of" ["words"] (HD K)):FnOk P w K mg base BI 2 f fd ["words"] (MU K):=by
 exists SI
 ·obtain⟨a,ns,rfl,_⟩:=h;rfl
 obtain⟨a,ns,rfl,hS,hlen,q⟩:=h;refine⟨_,(!Ak (!Ao (!Ar DY (pv 0) (!Be (!Ac (!AG D1 (by trivial) rfl (!Ac (pv 0) (!Ah))) (!Ah)))))),?_⟩;refine⟨_,rfl,_,rfl,a,ns,rfl,hS,hlen,λH1 s1=>?_⟩;refine⟨Qx,λg hg=>?_⟩;refine⟨a,g,_,_,rfl,rfl,AJ.of ((Al hg _).get (s1.get hS)),AJ.of Ag,small (by rw[ab];show ns.length+1<=1000000;lia),λp hp=>?_⟩;refine q p _ ((s1.trans (Al hg _)).trans (Al hp _)) (s1.free ((Al hg _).free hp)) ?_;rw[Ag,aJ];rfl
def Kr (K:W.Frag):Sp:=λvs H Q _=>∃(a:Addr) (ns:List Int),vs=[.ref a]/\H a=some (.lst (ns.map V.int))/\ns.length<=1000/\
 (sound ns=false->∀H',As H H'->Q .non H')/\(sound ns=true->∀(r:Addr) (H':Hp),As H H'->H r=none->H' r=some (.lst (ns.dropLast.map V.int))->Q (.ref r) H')
def fB:V->V
 | .int x=>.bl (Ta x)
 |v=>v
theorem Ou (T:Txt K mg Ab Ad Aa Ae XC)(F:Fun K "unsealed" "unsealed" HK f fd)(D1:Def P w K mg base 1 "mark_of" ["words"] (HD K))(AC:Def P w K mg base 2 "is_between" ["thing","least","most"] (BA K)):FnOk P w K mg base BI 3 f fd ["row"] (Kr K):=by
 exists Kc
 ·obtain⟨a,ns,rfl,_⟩:=h;rfl
 obtain⟨a,ns,rfl,hS,hlen,q0,q1⟩:=h;refine⟨_,(!Af (!AL (@PW.pt _ _ _ (!Fg (!Aw Bb (!Aq Az (by rfl) T.b_len AZ (!Ac (pv 0) (!Ah))) (!Ai) (Av _)) (!DH (!Co (!BK (!Aq (GA rfl) (by rfl) T.b_all Lj (!Ac (@Bl _ ["word"] _ _ _ _ _ _ _ _ _ _ rfl (!A2 (pv 0)) (by decide +kernel) (λC s H fp=>⟨(@An _ _ (0) _ (show(["word"]:List Str).Nodup by decide +kernel) rfl (by trivial) (by trivial)),(!AM),(!AG AC (by trivial) rfl (!Ac (pv 0) (!Ac (!Ai) (!Ac (!Ar Gu (!AB rfl T.c_MARK_RESTS) (!Ai)) (!Ah)))))⟩) (by intro _;rfl)) (!Ah))) (by intro _;rfl)))))) (!Ak (!Ao (!Eh))) (!Au)) (!Af (@Ap _ _ (1) _ _ _ _ Kc.nd rfl (by trivial) (!BN Fv (pv 0) (!Dv) (!BG (!Ki Gh (!Ai)))) (by rfl) (by trivial)) (!Af (!AL (!Aw MN (!Ax A6 (pv 0) (!Ki Gh (!Ai)) (λ_ _=>rfl)) (!AG D1 (by trivial) rfl (!Ac (pv 1) (!Ah))) (Av _)) (!Ak (!Ao (!Eh))) (!Au)) (!Ak (!Ao (pv 1)))))),?_⟩;dsimp only[BM,Cx.nox,Cx.wish];refine⟨_,rfl,a,_,rfl,.inl (AJ.of hS),rfl,_,rfl,?_⟩;refine Cs (λc=>?_) (λc=>?_)
 ·have hn:ns=[]:=by simpa using c
  subst hn;exact YE (q0 (by decide) _ (As.refl _))
 have hne:ns≠[]:=by simpa using c
 refine⟨_,rfl,a,rfl,⟨_,AJ.of hS⟩,?_⟩;refine comp_map fB (Ck (AJ.of hS)) (by rw[ab];lia) (λx H' R hx s' hR=>?_) λl H1 nl s1 hl=>?_
 ·obtain⟨u,_,rfl⟩:=ae.mp hx;exact⟨_,rfl,_,_,rfl,rfl,.int u,0,_,rfl,trivial,hR H' (As.refl _)⟩
 have el:(ns.map V.int).map fB=(ns.map Ta).map V.bl:=by rw[aI,aI];rfl
 rw[el] at hl;refine⟨l,ns.map Ta,rfl,AJ.of hl,_,rfl,?_⟩;have ea:(ns.map Ta).all id=ns.all Ta:=by rw[ie];rfl
 rw[ea];refine Cs (λc2=>?_) (λc2=>?_)
 ·have hf:sound ns=false:=by
   unfold sound;have:ns.all Ta=false:=by simpa using c2
   rw[this];simp
  exact q0 hf _ s1
 have hal:ns.all Ta=true:=by
  cases e:ns.all Ta with
  |true=>rfl
  |false=>rw[e] at c2;exact absurd rfl c2
 refine⟨_,rfl,_,rfl,_,rfl,a,_,rfl,AJ.of (s1.get hS),λp hp=>?_⟩;have ec:Dn (ns.map V.int) none (some (-1))=ns.dropLast.map V.int:=by rw[T5,List.map_dropLast]
 have s2:=s1.trans (Al hp (.lst (ns.dropLast.map V.int)));have eH:upd H1 p (.lst (Dn (ns.map V.int) none (some (-1))))=upd H1 p (.lst (ns.dropLast.map V.int)):=by rw[ec]
 rw[show(-(1:Int)) = -1 from rfl,eH];have at1:He (ns.map V.int) (-1)=some (.int (ns.getLastD 0)):=by
  have e1:ns=ns.dropLast++[ns.getLast hne]:=(gI hne).symm;have e2:ns.getLastD 0=ns.getLast hne:=by rw[List.getLastD_eq_getLast?,List.getLast?_eq_some_getLast hne];rfl
  rw[e2]
  conv=>lhs;rw[e1]
  rw[aJ];exact TU _ _
 refine⟨_,rfl,_,rfl,a,_,_,_,rfl,rfl,AJ.of (s2.get hS),at1,_,rfl,p,_,rfl,Ag,by rw[fN];lia,λH3 s3=>?_⟩;refine⟨rfl,_,rfl,?_⟩;refine Cs (λc3=>?_) (λc3=>?_)
 ·have hf:sound ns=false:=by
   unfold sound;have:¬ns.getLastD 0=mk ns.dropLast:=by simpa using c3
   rw[aS this];simp
  exact q0 hf _ (s2.trans s3)
 ·have he:ns.getLastD 0=mk ns.dropLast:=by simpa using c3
  have ht:sound ns=true:=by
   unfold sound;rw[hal,aH he,aS hne];rfl
  exact⟨_,rfl,q1 ht p _ (s2.trans s3) (s1.free hp) (s3.get Ag)⟩
theorem Mh {g:Array Nat}(hg:g.toList=[]):∀(xs:List Str) (acc:Array Nat),(xs.foldl (λacc p=>acc++g++p.cps) acc).toList=acc.toList++(xs.map A3).flatten
 |[],acc=>by simp
 |x::xs,acc=>by
  rw[List.foldl_cons,Mh hg xs,bB,bB,hg,bY,au,bI,aE]
theorem Lq {g:Str}(hg:A3 g=[])(ys:List Str):A3 (PySem.Txt.join g ys)=(ys.map A3).flatten:=by
 unfold PySem.Txt.join PySem.Builtin.Str.glued
 change Array.toList (List.foldl _ _ _)=_
 rw[Mh (g:=g.cps) hg];cases ys with
 |nil=>rfl
 |cons y ys=>simp
abbrev KP:Str:=PySem.Str.ofString ""
def Kp (H H':Hp)(p:Addr):Prop:=∀b o,H b=some o->b≠p->H' b=some o
theorem Kp.refl (H:Hp)(p:Addr):Kp H H p:=λ_ _ e _=>e
theorem Kp.trans {H H1 H2:Hp}{p:Addr}(a:Kp H H1 p)(b:Kp H1 H2 p):Kp H H2 p:=λc o e n=>b c o (a c o e n) n
theorem Kp.put {H:Hp}{p:Addr}(o:HO):Kp H (upd H p o) p:=λc u e n=>by rw[Aj n];exact e
theorem As.kp {H H':Hp}(s:As H H')(p:Addr):Kp H H' p:=λc o e _=>s c o e
theorem Kp.new {H H':Hp}{p l:Addr}(a:Kp H H' p)(h:H l=none)(o:HO):Kp H (upd H' l o) p:=λc u e n=>by rw[Aj (AD e h)];exact a c u e n
def Ss (wl:Addr)(k:Int):List (Str×V):=[("words",.ref wl),("place",.int k)]
def Eg (K:W.Frag)(Ab:Addr):Sp:=λvs H Q _=>∃(p dx wl:Addr),vs=[.ref p,.ref wl]/\H p=some (.ins Ab dx [])/\Q .non (upd H p (.ins Ab dx (Ss wl 0)))
def BU (K:W.Frag)(Ab:Addr):Sp:=λvs H Q _=>∃(p dx wl:Addr) (ws:List Int) (k:Nat),vs=[.ref p]/\H p=some (.ins Ab dx (Ss wl k))/\H wl=some (.lst (ws.map V.int))/\Q (.bl (decide (k=ws.length))) H
theorem HP (T:Txt K mg Ab Ad Aa Ae XC)(F:Fun K "__init__" "WordReader.__init__" Dk f fd):FnOk P w K mg base BI 1 f fd ["self","words"] (Eg K Ab):=by
 exists HN
 ·obtain⟨p,dx,wl,rfl,_⟩:=h;rfl
 obtain⟨p,dx,wl,rfl,h1,q⟩:=h;refine⟨_,(!Af (!Cd (pv 0) (pv 1)) (!Ak (!Cd (pv 0) (!Ai)))),?_⟩;refine⟨_,rfl,_,rfl,p,Ab,dx,[],rfl,h1,T.cl_WordReader,T.n_WordReader_words,(by show 0<1000;decide),?_⟩;refine⟨_,rfl,p,Ab,dx,_,rfl,Ag,T.cl_WordReader,T.n_WordReader_place,(by show 1<1000;decide),?_⟩;rw[ED];exact q
theorem EX (T:Txt K mg Ab Ad Aa Ae XC)(F:Fun K "is_through" "WordReader.is_through" B9 f fd):FnOk P w K mg base BI 1 f fd ["self"] (BU K Ab):=by
 exists EN
 ·obtain⟨p,dx,wl,ws,k,rfl,_⟩:=h;rfl
 obtain⟨p,dx,wl,ws,k,rfl,h1,h2,q⟩:=h;refine⟨_,(!Ak (!Ao (!BW Bb (!AU (pv 0)) (!Aq Az (by rfl) T.b_len AZ (!Ac (!AU (pv 0)) (!Ah))) (Av _)))),?_⟩;refine⟨_,rfl,p,Ab,dx,_,_,rfl,h1,T.cl_WordReader,T.n_WordReader_place,rfl,_,rfl,p,Ab,dx,_,_,rfl,h1,T.cl_WordReader,T.n_WordReader_words,rfl,wl,_,rfl,.inl (AJ.of h2),rfl,?_⟩;have e:decide (V.int (k:Int)=V.int ((ws.map V.int).length:Int))=decide (k=ws.length):=by
  rw[Fx,ab];rw[bT];simp
  lia
 rw[e];exact q
theorem E7 {ws:List Int}{k:Nat}{x:Int}{r:List Int}(h:ws.drop k=x::r):ws[k]?=some x/\ws.drop (k+1)=r:=by
 constructor
 ·have:(ws.drop k)[0]?=some x:=by rw[h];rfl
  rw[eQ] at this;simpa using this
 ·have:(ws.drop k).drop 1=r:=by rw[h];rfl
  rw[eT] at this;exact this
def Bj (K:W.Frag)(Ab:Addr):Sp:=λvs H Q _=>∃(p dx wl:Addr) (ws:List Int) (k:Nat) (x m:Int),vs=[.ref p,.int m]/\H p=some (.ins Ab dx (Ss wl k))/\H wl=some (.lst (ws.map V.int))/\ws[k]?=some x/\0<=x/\x<=m/\
 Q (.int x) (upd H p (.ins Ab dx (Ss wl ((k+1:Nat):Int))))
theorem F2 (T:Txt K mg Ab Ad Aa Ae XC)(F:Fun K "word_to" "WordReader.word_to" Cr f fd)(A0:BJ P w K mg base 1 Ab "is_through" ["self"] (BU K Ab))(AC:Def P w K mg base 2 "is_between" ["thing","least","most"] (BA K)):FnOk P w K mg base BI 3 f fd ["self","most"] (Bj K Ab):=by
 exists F1
 ·obtain⟨p,dx,wl,ws,k,x,m,rfl,_⟩:=h;rfl
 obtain⟨p,dx,wl,ws,k,x,m,rfl,h1,h2,hx,x0,x1,q⟩:=h;have hk:k<ws.length:=(aj.mp hx).1;have ax:He (ws.map V.int) (k:Int)=some (V.int x):=C4 (by rw[aD,hx];rfl);have nwp:wl≠p:=AQ h2 h1 (by intro z;cases z);refine⟨_,(!Af (!AL (@PW.pt _ _ _ (!Fg (!BK (!Dy (pv 0) T.cl_WordReader A0) (by intro _;rfl)) (!DH (!Co (!BK (!AG AC (by trivial) rfl (!Ac (!Ax A6 (!AU (pv 0)) (!AU (pv 0)) (λ_ _=>rfl)) (!Ac (!Ai) (!Ac (pv 1) (!Ah))))) (by intro _;rfl)))))) (!Ak (!CL)) (!Au)) (!Af (!Fh (pv 0) (!Ai) FB) (!Ak (!Ao (!Ax A6 (!AU (pv 0)) (!Ar Gu (!AU (pv 0)) (!Ai)) (λ_ _=>rfl)))))),?_⟩;refine OE false false (λR q=>⟨_,rfl,p,dx,_,rfl,h1,rfl,p,dx,wl,ws,k,rfl,h1,h2,_,rfl,?_⟩) (λ_ R q=>?_) ?_
 ·rw[aS (by lia)];exact q
 ·refine⟨_,rfl,p,Ab,dx,_,_,rfl,h1,T.cl_WordReader,T.n_WordReader_words,rfl,_,rfl,p,Ab,dx,_,_,rfl,h1,T.cl_WordReader,T.n_WordReader_place,rfl,wl,_,_,_,rfl,rfl,AJ.of h2,ax,_,rfl,V.int x,0,m,rfl,trivial,_,rfl,?_⟩;have:Kz 0 m (V.int x)=true:=by show(decide (0<=x)&&decide (x<=m))=true;rw[aH x0,aH x1];rfl
  rw[this];exact q
 refine AV rfl ?_;refine⟨_,rfl,p,Ab,dx,_,_,rfl,h1,T.cl_WordReader,T.n_WordReader_place,rfl,_,_,rfl,rfl,dx,_,h1,(by show 2<1000;decide),?_⟩;have q':Q (.int x) (upd H p (.ins Ab dx (DB "place" (V.int ((k:Int)+1)) (Ss wl k)))):=q;refine⟨_,rfl,p,Ab,dx,_,_,rfl,Ag,T.cl_WordReader,T.n_WordReader_words,rfl,_,rfl,p,Ab,dx,_,_,rfl,Ag,T.cl_WordReader,T.n_WordReader_place,rfl,_,_,rfl,rfl,wl,_,_,_,rfl,rfl,AJ.of (by rw[Aj nwp];exact h2),?_,q'⟩;have:(k:Int)+1-1=(k:Int):=by lia
 show He (ws.map V.int) ((k:Int)+1-1)=_;rw[this];exact ax
def DX (K:W.Frag)(Ab:Addr):Sp:=λvs H Q _=>∃(p dx wl:Addr) (ws:List Int) (k:Nat) (z:Str) (r:List Int),vs=[.ref p]/\H p=some (.ins Ab dx (Ss wl k))/\H wl=some (.lst (ws.map V.int))/\ws.drop k=(z.length:Int)::((A3 z).map idx++r)/\z.length<=400/\(∀c∈A3 z,c∈A3 SG)/\
 ∀H',Kp H H' p->H' p=some (.ins Ab dx (Ss wl ((k+1+z.length:Nat):Int)))->Q (.str z) H'
theorem Vy:(SG.length:Int)-1=93:=by decide +kernel
theorem N8 (T:Txt K mg Ab Ad Aa Ae XC)(F:Fun K "read_text" "read_text" Ga f fd)(Ay:BJ P w K mg base 3 Ab "word_to" ["self","most"] (Bj K Ab))(JL:Def P w K mg base 1 "sign_of" ["number"] (LV K)):FnOk P w K mg base BI 4 f fd ["reader"] (DX K Ab):=by
 exists IC
 ·obtain⟨p,dx,wl,ws,k,z,r,rfl,_⟩:=h;rfl
 obtain⟨p,dx,wl,ws,k,z,r,rfl,h1,h2,hd,zl,zs,q⟩:=h;obtain⟨g1,g2⟩:=E7 hd;have zc:=AO z;have nwp:wl≠p:=AQ h2 h1 (by intro z;cases z);refine⟨_,(!Af (@Ap _ _ (1) _ _ _ _ IC.nd rfl (by trivial) (!A4 (pv 0) T.cl_WordReader Ay (by trivial) (!Ac (!AB rfl T.c_MOST_SIGNS) (!Ah))) (by rfl) (by trivial)) (!Ak (!Ao (!Ca cj fJ fH (NC rfl) (!BP) (!Ac (@G1 _ ["sign","reader"] [none,some 0] _ _ _ _ _ _ _ _ _ _ _ rfl (!D3 rfl T.b_range (!Ac (pv 1) (!Ah))) (by rfl) rfl (by repeat (first|exact trivial|refine⟨rfl,?_⟩)) (by repeat (first|exact trivial|refine⟨λh=>(by first|exact⟨_,rfl⟩|cases h),?_⟩)) (λC s H fp=>⟨(@An _ _ (0) _ (show(["sign","reader"]:List Str).Nodup by decide +kernel) rfl (by trivial) (by trivial)),(!AM),(!AG JL (by trivial) rfl (!Ac (!A4 (pv 1) T.cl_WordReader Ay (by trivial) (!Ac (!Ar Gu (!Aq Bs (by rfl) T.b_len AZ (!Ac (!IA rfl T.c_SIGNS) (!Ah))) (!Ai)) (!Ah))) (!Ah)))⟩) (by intro _;rfl)) (!Ah)))))),?_⟩;refine⟨_,rfl,p,dx,_,rfl,h1,rfl,p,dx,wl,ws,k,_,400,rfl,h1,h2,g1,by lia,by lia,?_⟩;refine⟨rfl,_,rfl,(z.length:Int),rfl,by lia,by lia,?_⟩;refine KY (xs:=(List.range ((z.length:Int)).toNat).map λ(i:Nat)=>V.int (0+(i:Int))) (λi ys l H'=>Kp (upd H p (.ins Ab dx (Ss wl ((k+1:Nat):Int)))) H' p/\H' p=some (.ins Ab dx (Ss wl ((k+1+i:Nat):Int)))/\ys=((A3 z).take i).map λc=>V.str ⟨#[c]⟩) (by rw[ab,bU];lia) (λi ys l H' _=>Qa) (λl hl=>⟨(Kp.refl _ p).new hl _,by rw[Aj (AD Ag hl)];exact Ag,rfl⟩) (λi x ys l H' R hx hl hl' hlen hI hR=>?_) λl H1 ys n1 hl1 ly hI=>?_
 ·obtain⟨kp,hp,hy⟩:=hI;have hi:i<z.length:=by
   have:=(aj.mp hx).1;rw[ab,bU] at this
   lia
  obtain⟨c,hc⟩:∃c,(A3 z)[i]?=some c:=⟨(A3 z)[i]'(by lia),aa _⟩
  obtain⟨i0,i1,i2⟩:=HZ (zs c (az hc));have hw':H' wl=some (.lst (ws.map V.int)):=kp wl _ (by rw[Aj nwp];exact h2) nwp;have gx:ws[k+1+i]?=some (idx c):=by
   have:(ws.drop (k+1))[i]?=some (idx c):=by
    rw[g2,bG (by rw[ab];lia),aD,hc];rfl
   rw[eQ] at this;exact this
  have npl:l≠p:=AQ hl' hp (by intro z;cases z);refine⟨_,rfl,p,dx,_,rfl,hp,rfl,SG,rfl,QQ,_,_,rfl,rfl,p,dx,wl,ws,k+1+i,idx c,_,rfl,hp,hw',gx,i0,?_,?_⟩
  ·rw[Vy];lia
  refine⟨idx c,rfl,i0,i1,hR _ _ (by rw[Aj npl];exact hl') ⟨?_,?_,?_⟩⟩
  ·exact(kp.trans (Kp.put _)).new hl _
  ·rw[Aj npl.symm,Ag];rfl
  ·rw[hy,bg,hc,i2];simp
 ·obtain⟨kp,hp,hy⟩:=hI;have ez:z.length=((List.range ((z.length:Int)).toNat).map λ(i:Nat)=>V.int (0+(i:Int))).length:=by rw[ab,bU];lia
  rw[<-ez] at hp hy;rw[aK (by lia)] at hy;have hy':ys=((A3 z).map λc=>(⟨#[c]⟩:Str)).map V.str:=by rw[hy,aI];rfl
  rw[hy'] at hl1;refine⟨l,KP,_,rfl,rfl,AJ.of hl1,?_,?_⟩
  ·have:(((A3 z).map λc=>(⟨#[c]⟩:Str)).map (·.length)).sum<=(A3 z).length:=by
    generalize A3 z=l
    induction l with
    |nil=>exact ah _
    |cons c l ih=>
     simp only[List.map_cons,List.sum_cons,List.length_cons];have:(⟨#[c]⟩:Str).length=1:=rfl
     lia
   have e0:KP.length=0:=rfl;rw[e0]
   lia
  ·have ej:PySem.Txt.join KP ((A3 z).map λc=>(⟨#[c]⟩:Str))=z:=by
    refine Dz ?_;rw[Lq rfl,aI];show((A3 z).map λc=>[c]).flatten=_;generalize A3 z=l
    induction l with
    |nil=>rfl
    |cons c l ih=>rw[au,bI,ih];rfl
   rw[ej];exact q H1 ((Kp.put _).trans kp) hp
def Rx (n:Nat)(K:W.Frag)(Ab:Addr):Sp:=λvs H Q _=>∃(p dx wl:Addr) (ws:List Int) (k:Nat) (t:Tr) (r:List Int),vs=[.ref p,.int (n:Int)]/\H p=some (.ins Ab dx (Ss wl k))/\H wl=some (.lst (ws.map V.int))/\ws.drop k=wT t++r/\Ez n t=true/\
 ∀v H',Kp H H' p->H' p=some (.ins Ab dx (Ss wl ((k+(wT t).length:Nat):Int)))->Rep NL H' t v->Q v H'
def Hr (K:W.Frag)(Ab:Addr):Sp:=Rx 8 K Ab
theorem Vh (T:Txt K mg Ab Ad Aa Ae XC)(F:Fun K "read_thing" "read_thing" C9 f fd)(Ay:BJ P w K mg base 3 Ab "word_to" ["self","most"] (Bj K Ab))(Cb:Def P w K mg base 4 "read_text" ["reader"] (DX K Ab))(n:Nat)(Dd:Def P w K mg base (4+n) "read_thing" ["reader","deep"] (Rx n K Ab)):FnOk P w K mg base BI (4+n+1) f fd ["reader","deep"] (Rx (n+1) K Ab):=by
 exists Du
 ·obtain⟨p,dx,wl,ws,k,t,r,rfl,_⟩:=h;rfl
 obtain⟨p,dx,wl,ws,k,t,r,rfl,h1,h2,hd,ht,q⟩:=h;have nwp:wl≠p:=AQ h2 h1 (by intro z;cases z);refine⟨_,(!Af (!AL (!Aw Bb (pv 1) (!Ai) (Av _)) (!Ak (!CL)) (!Au)) (!Af (@Ap _ _ (2) _ _ _ _ Du.nd rfl (by trivial) (!A4 (pv 0) T.cl_WordReader Ay (hr.mono (by lia)) (!Ac (!AB rfl T.c_TUPLE_WORD) (!Ah))) (by rfl) (by trivial)) (!Af (!AL (!Aw Bb (pv 2) (!AB rfl T.c_NUMBER_WORD) (Av _)) (!Ak (!Ao (!A4 (pv 0) T.cl_WordReader Ay (hr.mono (by lia)) (!Ac (!AB rfl T.c_MOST_NUMBER) (!Ah))))) (!Au)) (!Af (!AL (!Aw Bb (pv 2) (!AB rfl T.c_TEXT_WORD) (Av _)) (!Ak (!Ao (!AG Cb (hr.mono (by lia)) rfl (!Ac (pv 0) (!Ah))))) (!Au)) (!Af (@Ap _ _ (3) _ _ _ _ Du.nd rfl (by trivial) (!A4 (pv 0) T.cl_WordReader Ay (hr.mono (by lia)) (!Ac (!AB rfl T.c_MOST_PARTS) (!Ah))) (by rfl) (by trivial)) (!Ak (!Ao (!Cz Hk (by rfl) T.b_tuple Fe (!Ac (@G1 _ ["part","reader","deep"] [none,some 0,some 1] _ _ _ _ _ _ _ _ _ _ _ rfl (!D3 rfl T.b_range (!Ac (pv 3) (!Ah))) (by rfl) rfl (by repeat (first|exact trivial|refine⟨rfl,?_⟩)) (by repeat (first|exact trivial|refine⟨λh=>(by first|exact⟨_,rfl⟩|cases h),?_⟩)) (λC s H fp=>⟨(@An _ _ (0) _ (show(["part","reader","deep"]:List Str).Nodup by decide +kernel) rfl (by trivial) (by trivial)),(!AM),(!AG Dd (hr.mono (by lia)) rfl (!Ac (pv 1) (!Ac (!Ar Gu (pv 2) (!Ai)) (!Ah))))⟩) (by intro _;rfl)) (!Ah)))))))))),?_⟩;refine⟨_,rfl,rfl,_,rfl,AV ?_ ?_⟩
 ·rw[Fx];simp;lia
 have hw1:∀o,upd H p o wl=some (.lst (ws.map V.int)):=λo=>by rw[Aj nwp];exact h2
 cases t with
 |int i=>
  have i01:(decide (0<=i)&&decide (i<=999999999))=true:=ht;rw[bq,aG,aG] at i01;obtain⟨g1,g2⟩:=E7 (r:=i::r) hd;obtain⟨g3,_⟩:=E7 g2;refine⟨_,rfl,p,dx,_,rfl,h1,rfl,p,dx,wl,ws,k,0,2,rfl,h1,h2,g1,by lia,by lia,?_⟩;refine⟨_,rfl,rfl,_,rfl,Ci rfl ?_⟩;refine⟨_,rfl,p,dx,_,rfl,Ag,rfl,p,dx,wl,ws,k+1,i,999999999,rfl,Ag,hw1 _,g3,i01.1,i01.2,?_⟩;exact q _ _ ((Kp.put _).trans (Kp.put _)) Ag rfl
 |str z=>
  obtain⟨zl,zs⟩:=K6 ht;obtain⟨g1,g2⟩:=E7 (r:=(z.length:Int)::((A3 z).map idx++r)) hd;refine⟨_,rfl,p,dx,_,rfl,h1,rfl,p,dx,wl,ws,k,1,2,rfl,h1,h2,g1,by lia,by lia,?_⟩;refine⟨_,rfl,rfl,_,rfl,AV rfl ?_⟩;refine⟨_,rfl,rfl,_,rfl,Ci rfl ?_⟩;refine⟨_,rfl,p,dx,wl,ws,k+1,z,r,rfl,Ag,hw1 _,g2,zl,zs,λH' kp hp=>?_⟩;refine q _ _ ((Kp.put _).trans kp) ?_ rfl;rw[hp,W5];have:k+1+1+z.length=k+(1::(z.length:Int)::(A3 z).map idx).length:=by
   simp only[List.length_cons,List.length_map,AO];lia
  rw[this]
 |tup ts=>
  obtain⟨tl,tt⟩:=CG ht;rw[Ue] at hd q;obtain⟨g1,g2⟩:=E7 (r:=(ts.length:Int)::(wTs ts++r)) hd;obtain⟨g3,g4⟩:=E7 (r:=wTs ts++r) g2;refine⟨_,rfl,p,dx,_,rfl,h1,rfl,p,dx,wl,ws,k,2,2,rfl,h1,h2,g1,by lia,by lia,?_⟩;refine⟨_,rfl,rfl,_,rfl,AV rfl ?_⟩;refine⟨_,rfl,rfl,_,rfl,AV rfl ?_⟩;refine⟨_,rfl,p,dx,_,rfl,Ag,rfl,p,dx,wl,ws,k+1,_,100,rfl,Ag,hw1 _,g3,by lia,by lia,?_⟩;rw[ED];refine⟨_,rfl,(ts.length:Int),rfl,by lia,by lia,?_⟩;refine KY (xs:=(List.range ((ts.length:Int)).toNat).map λ(i:Nat)=>V.int (0+(i:Int))) (λi ys l H'=>Kp (upd H p (.ins Ab dx (Ss wl ((k+1+1:Nat):Int)))) H' p/\H' p=some (.ins Ab dx (Ss wl ((k+2+(wTs (ts.take i)).length:Nat):Int)))/\AI NL H' (ts.take i) ys) (by rw[ab,bU];lia) (λi ys l H' _=>Qa) (λl hl=>⟨(Kp.refl _ p).new hl _,by rw[Aj (AD Ag hl)];exact Ag,rfl⟩) (λi x ys l H' R hx hl hl' hlen hI hR=>?_) λl H1 ys n1 hl1 ly hI=>?_
  ·obtain⟨kp,hp,hrs⟩:=hI;have hi:i<ts.length:=by
    have:=(aj.mp hx).1;rw[ab,bU] at this
    lia
   obtain⟨ti,eti⟩:∃ti,ts[i]?=some ti:=⟨ts[i],aa _⟩
   have hw':H' wl=some (.lst (ws.map V.int)):=kp wl _ (hw1 _) nwp;have npl:l≠p:=AQ hl' hp (by intro z;cases z);have gd:ws.drop (k+2+(wTs (ts.take i)).length)=wT ti++(wTs (ts.drop (i+1))++r):=by
    have e1:wTs ts=wTs (ts.take i)++(wT ti++wTs (ts.drop (i+1))):=by
     have:=K5 (ts.take (i+1)) (ts.drop (i+1));rw[dm,Iu eti,aE] at this;exact this
    have e2:(ws.drop (k+1+1)).drop (wTs (ts.take i)).length=wT ti++(wTs (ts.drop (i+1))++r):=by
     rw[g4,e1,aE,aE,List.drop_left]
    rw[eT] at e2;exact e2
   have ed:((n+1:Nat):Int)-1=(n:Int):=by lia
   refine⟨_,rfl,_,rfl,_,_,rfl,rfl,p,dx,wl,ws,_,ti,_,?_,hp,hw',gd,tt i ti eti,λv H'' kp2 hp2 rv=>?_⟩
   ·show[V.ref p,V.int (((n+1:Nat):Int)-1)]=_;rw[ed]
   have hl2:H'' l=some (.lst ys):=kp2 l _ hl' npl;have keepT:∀c xs,H'' c=some (.tup xs)->upd H'' l (.lst (ys++[v])) c=some (.tup xs):=λc xs e=>by rw[Aj (AQ e hl2 (by intro z;cases z))];exact e
   refine hR v H'' hl2 ⟨(kp.trans kp2).new hl _,?_,?_⟩
   ·rw[Aj npl.symm,hp2,Iu eti,ar,Nat.add_assoc]
   ·rw[bg,eti];refine AI.append (Bf keepT _ _ (Bf (λc xs e=>kp2 c _ e (AQ e hp (by intro z;cases z))) _ _ hrs)) (AI.one (De keepT _ _ rv))
  ·obtain⟨kp,hp,hrs⟩:=hI;have ez:ts.length=((List.range ((ts.length:Int)).toNat).map λ(i:Nat)=>V.int (0+(i:Int))).length:=by rw[ab,bU];lia
   rw[<-ez,aK (ah _)] at hp hrs;refine⟨l,ys,rfl,.inl ⟨AJ.of hl1,λu hu=>?_⟩⟩;have su:=Al hu (.tup ys);refine q _ _ (((Kp.put _).trans kp).trans (As.kp su p)) ?_ ⟨u,ys,rfl,Ag,AI.same su _ _ hrs⟩;rw[su _ _ hp];have:k+2+(wTs ts).length=k+(2::(ts.length:Int)::wTs ts).length:=by simp only[List.length_cons];lia
   rw[this]
 |non=>cases n<;>cases ht
 |bl b=>cases n<;>cases ht
 |lst ts=>cases n<;>cases ht
theorem UL (T:Txt K mg Ab Ad Aa Ae XC)(F:Fun K "read_thing" "read_thing" C9 f fd)(Ay:BJ P w K mg base 3 Ab "word_to" ["self","most"] (Bj K Ab))(Cb:Def P w K mg base 4 "read_text" ["reader"] (DX K Ab))(hm:mg "read_thing"=some (.ref f))(hk:W.keepIn K (.ref f)=true)(hb:Binds K fd ["reader","deep"] []):∀n,FnOk P w K mg base BI (4+n) f fd ["reader","deep"] (Rx n K Ab)
 |0=>by
  exists Du
  ·obtain⟨p,dx,wl,ws,k,t,r,rfl,_,_,_,ht,_⟩:=h;cases ht
  ·obtain⟨p,dx,wl,ws,k,t,r,rfl,_,_,_,ht,_⟩:=h;cases ht
 |n+1=>Vh T F Ay Cb n ⟨f,fd,UL T F Ay Cb hm hk hb n,hm,hk,hb⟩
theorem Mq (T:Txt K mg Ab Ad Aa Ae XC)(F:Fun K "read_thing" "read_thing" C9 f fd)(Ay:BJ P w K mg base 3 Ab "word_to" ["self","most"] (Bj K Ab))(Cb:Def P w K mg base 4 "read_text" ["reader"] (DX K Ab))(hm:mg "read_thing"=some (.ref f))(hk:W.keepIn K (.ref f)=true)(hb:Binds K fd ["reader","deep"] []):FnOk P w K mg base BI 12 f fd ["reader","deep"] (Hr K Ab):=
 UL T F Ay Cb hm hk hb 8
def Ke (K:W.Frag):Sp:=λvs H Q _=>∃(wl:Addr) (t:Tr),vs=[.ref wl]/\H wl=some (.lst ((wT t).map V.int))/\Ez 8 t=true/\∀v H',As H H'->Rep NL H' t v->Q v H'
theorem Pf (T:Txt K mg Ab Ad Aa Ae XC)(F:Fun K "thing_of" "thing_of" HV f fd)(Da:Su P w K mg base 1 Ab "WordReader" ["self","words"] (Eg K Ab))(Dd:Def P w K mg base 12 "read_thing" ["reader","deep"] (Hr K Ab))(A0:BJ P w K mg base 1 Ab "is_through" ["self"] (BU K Ab)):FnOk P w K mg base BI 13 f fd ["words"] (Ke K):=by
 exists Gd
 ·obtain⟨wl,t,rfl,_⟩:=h;rfl
 obtain⟨wl,t,rfl,hw,ht,q⟩:=h;refine⟨_,(!Af (@Ap _ _ (1) _ _ _ _ Gd.nd rfl (by trivial) (!Of Da (by trivial) rfl (!Ac (pv 0) (!Ah))) (by rfl) (by trivial)) (!Af (@Ap _ _ (2) _ _ _ _ Gd.nd rfl (by trivial) (!AG Dd (by trivial) rfl (!Ac (pv 1) (!Ac (!AB rfl T.c_MOST_DEEP) (!Ah)))) (by rfl) (by trivial)) (!Af (!AL (!Co (!BK (!Dy (pv 1) T.cl_WordReader A0) (by intro _;rfl))) (!Ak (!CL)) (!Au)) (!Ak (!Ao (pv 2)))))),?_⟩;refine⟨_,rfl,?_⟩;intro x dx nx ndx _;have nwx:wl≠x:=AD hw nx;have nwd:wl≠dx:=AD hw ndx;refine⟨x,dx,wl,rfl,Ag,rfl,?_⟩;rw[ED];have hw1:∀o,upd (upd H dx (.own x)) x o wl=some (.lst ((wT t).map V.int)):=λo=>by rw[Aj nwx,Aj nwd];exact hw
 refine⟨_,rfl,x,dx,wl,wT t,0,t,[],rfl,Ag,hw1 _,by simp,ht,λv H' kp hp rv=>?_⟩;have hw':H' wl=some (.lst ((wT t).map V.int)):=kp wl _ (hw1 _) nwx;refine⟨_,rfl,x,dx,_,rfl,hp,rfl,x,dx,wl,wT t,_,rfl,hp,hw',_,rfl,AV ?_ ?_⟩
 ·simp
 refine⟨_,rfl,q v H' (λb o e=>?_) rv⟩;have n1:=AD e nx;exact kp b o (by rw[Aj n1,Aj (AD e ndx)];exact e) n1
def YB (g:List Int->Option (Tr×List Int)):Nat->List Int->Option (List Tr×List Int)
 |0,ws=>some ([],ws)
 |i+1,ws=>match YB g i ws with
  |none=>none
  |some (ts,r)=>match g r with
   |none=>none
   |some (t,r')=>some (ts++[t],r')
def T7 (x:Int):Nat:=SG.cps.toList.getD x.toNat 0
def Yx:Nat->List Int->Option (List Nat×List Int)
 |0,ws=>some ([],ws)
 |i+1,ws=>match Yx i ws with
  |some (cs,x::r)=>if 0<=x/\x<=93 then some (cs++[T7 x],r) else none
  |_=>none
def rd:Nat->List Int->Option (Tr×List Int)
 |0,_=>none
 |n+1,ws=>match ws with
  |[]=>none
  |x::ws1=>if 0<=x/\x<=2 then match ws1 with
    |[]=>none
    |m::r=>if x=0 then(if 0<=m/\m<=999999999 then some (.int m,r) else none)
     else if x=1 then(if 0<=m/\m<=400 then(match Yx m.toNat r with|some (cs,r')=>some (.str ⟨cs.toArray⟩,r')|none=>none) else none)
     else(if 0<=m/\m<=100 then(match YB (rd n) m.toNat r with|some (ts,r')=>some (.tup ts,r')|none=>none) else none)
   else none
theorem Qi {c:Nat}(h:c∈A3 SG):T7 (idx c)=c:=(HZ h).2.2
theorem OL:∀(cs:List Nat) (r:List Int),(∀c∈cs,c∈A3 SG)->∀i,i<=cs.length->Yx i (cs.map idx++r)=some (cs.take i,(cs.drop i).map idx++r)
 |cs,r,h,0,_=>rfl
 |cs,r,h,i+1,hi=>by
  have ih:=OL cs r h i (by lia);obtain⟨c,hc⟩:∃c,cs[i]?=some c:=⟨cs[i],aa _⟩
  have hd:cs.drop i=c::cs.drop (i+1):=by rw[bN (by lia)];congr 1;rw[aa (by lia)] at hc;exact aA hc
  obtain⟨b1,b2,b3⟩:=HZ (h c (az hc));unfold Yx;rw[ih,hd];show(if 0<=idx c/\idx c<=93 then _ else _)=_;rw[aC ⟨b1,by lia⟩,bg,hc,Qi (h c (az hc))];rfl
theorem Pr {g:List Int->Option (Tr×List Int)}(ts:List Tr)(r:List Int)(hg:∀t∈ts,∀r,g (wT t++r)=some (t,r)):∀i,i<=ts.length->YB g i (wTs ts++r)=some (ts.take i,wTs (ts.drop i)++r)
 |0,_=>rfl
 |i+1,hi=>by
  have ih:=Pr ts r hg i (by lia);obtain⟨t,ht⟩:∃t,ts[i]?=some t:=⟨ts[i],aa _⟩
  have hd:ts.drop i=t::ts.drop (i+1):=by rw[bN (by lia)];congr 1;rw[aa (by lia)] at ht;exact aA ht
  unfold YB;rw[ih,hd];show(match g ((wT t++wTs (ts.drop (i+1)))++r) with|none=>none|some (t,r')=>some (ts.take i++[t],r'))=_;rw[aE,hg t (az ht),bg,ht];rfl
theorem Nz:∀(n:Nat) (t:Tr) (r:List Int),Ez n t=true->rd n (wT t++r)=some (t,r)
 |0,_,_,h=>nomatch h
 |n+1,.non,_,h=>nomatch h
 |n+1,.bl _,_,h=>nomatch h
 |n+1,.lst _,_,h=>nomatch h
 |n+1,.int i,r,h=>by
  have h':(decide (0<=i)&&decide (i<=999999999))=true:=h;rw[bq,aG,aG] at h';show rd (n+1) (0::i::r)=_;unfold rd;dsimp only;rw[aC ⟨by decide,by decide⟩,aC rfl,aC h']
 |n+1,.str z,r,h=>by
  obtain⟨zl,zs⟩:=K6 h;have zc:=AO z;show rd (n+1) (1::(z.length:Int)::((A3 z).map idx++r))=_;unfold rd;dsimp only;rw[aC ⟨by decide,by decide⟩];rw[ay (by decide),aC rfl,aC ⟨by lia,by lia⟩,OL (A3 z) r zs _ (by lia),aK (by lia),h9 (by lia)];have:(⟨(A3 z).toArray⟩:Str)=z:=Dz rfl;show some (Tr.str ⟨(A3 z).toArray⟩,r)=_;rw[this]
 |n+1,.tup ts,r,h=>by
  obtain⟨tl,tt⟩:=CG h;have hg:∀t∈ts,∀r,rd n (wT t++r)=some (t,r):=λt ht r=>by
   obtain⟨i,hi⟩:=fO ht;exact Nz n t r (tt i t hi)
  show rd (n+1) (2::(ts.length:Int)::(wTs ts++r))=_;unfold rd;dsimp only;rw[aC ⟨by decide,by decide⟩];rw[ay (by decide),ay (by decide),aC ⟨by lia,by lia⟩,Pr ts r hg _ (by lia),aK (by lia),h9 (by lia)];rfl
theorem Lp {n:Nat}{t u:Tr}(ht:Ez n t=true)(hu:Ez n u=true)(h:wT t=wT u):t=u:=by
 have e1:=Nz n t [] ht;rw[h,Nz n u [] hu] at e1;exact(Prod.mk.inj (aA e1)).1.symm
theorem QO {H:Hp}:∀(n:Nat) (t u:Tr) (v:V),Ez n t=true->Ez n u=true->Rep NL H t v->Rep NL H u v->t=u
 |0,_,_,_,h,_,_,_=>nomatch h
 |n+1,.int i,.int j,v,_,_,h1,h2=>by
  have e1:v=V.int i:=h1;have e2:v=V.int j:=h2;rw[e1] at e2;cases e2;rfl
 |n+1,.int i,.str z,v,_,_,h1,h2=>by
  have e1:v=V.int i:=h1;have e2:v=V.str z:=h2;rw[e1] at e2;cases e2
 |n+1,.int i,.tup ts,v,_,_,h1,⟨a,vs,e2,_⟩=>by
  have e1:v=V.int i:=h1;rw[e1] at e2;cases e2
 |n+1,.str z,.int j,v,_,_,h1,h2=>by
  have e1:v=V.str z:=h1;have e2:v=V.int j:=h2;rw[e1] at e2;cases e2
 |n+1,.str z,.str y,v,_,_,h1,h2=>by
  have e1:v=V.str z:=h1;have e2:v=V.str y:=h2;rw[e1] at e2;cases e2;rfl
 |n+1,.str z,.tup ts,v,_,_,h1,⟨a,vs,e2,_⟩=>by
  have e1:v=V.str z:=h1;rw[e1] at e2;cases e2
 |n+1,.tup ts,.int j,v,_,_,⟨a,vs,e1,_⟩,h2=>by
  have e2:v=V.int j:=h2;rw[e1] at e2;cases e2
 |n+1,.tup ts,.str y,v,_,_,⟨a,vs,e1,_⟩,h2=>by
  have e2:v=V.str y:=h2;rw[e1] at e2;cases e2
 |n+1,.tup ts,.tup us,v,ht,hu,⟨a,vs,e1,ha,r1⟩,⟨b,ws,e2,hb,r2⟩=>by
  subst e1;cases e2;rw[ha] at hb;cases hb;obtain⟨_,tt⟩:=CG ht;obtain⟨_,tu⟩:=CG hu;have l1:=AI.len ts vs r1;have l2:=AI.len us vs r2;have:ts=us:=by
   refine bV λi=>?_
   by_cases hi:i<vs.length
   ·obtain⟨t1,g1,p1⟩:=AI.get r1 (aa hi);obtain⟨t2,g2,p2⟩:=AI.get r2 (aa hi);rw[g1,g2,QO n t1 t2 _ (tt i t1 g1) (tu i t2 g2) p1 p2]
   ·rw[aN (by lia),aN (by lia)]
  rw[this]
 |n+1,.non,_,_,h,_,_,_=>nomatch h
 |n+1,.bl _,_,_,h,_,_,_=>nomatch h
 |n+1,.lst _,_,_,h,_,_,_=>nomatch h
 |n+1,.int _,.non,_,_,h,_,_=>nomatch h
 |n+1,.int _,.bl _,_,_,h,_,_=>nomatch h
 |n+1,.int _,.lst _,_,_,h,_,_=>nomatch h
 |n+1,.str _,.non,_,_,h,_,_=>nomatch h
 |n+1,.str _,.bl _,_,_,h,_,_=>nomatch h
 |n+1,.str _,.lst _,_,_,h,_,_=>nomatch h
 |n+1,.tup _,.non,_,_,h,_,_=>nomatch h
 |n+1,.tup _,.bl _,_,_,h,_,_=>nomatch h
 |n+1,.tup _,.lst _,_,_,h,_,_=>nomatch h
theorem Ce {n:Nat}{t u:Tr}(ht:Ez n t=true)(hu:Ez n u=true){b:Bool}(h:b=true↔t=u):decide (wT t=wT u)=b:=by
 rw[bT,aG,h];exact⟨Lp ht hu,λe=>by rw[e]⟩
theorem Mf {n:Nat}{ts us:List Tr}(ht:Ez (n+1) (.tup ts)=true)(hu:Ez (n+1) (.tup us)=true):decide (wT (.tup ts)=wT (.tup us))=((List.range (min ts.length us.length)).all (λj=>decide (wT (ts.getD j .non)=wT (us.getD j .non)))&&ts.length == us.length):=by
 obtain⟨_,tt⟩:=CG ht;obtain⟨_,tu⟩:=CG hu;refine Ce ht hu ?_;rw[bq,bZ,cX];constructor
 ·rintro⟨h1,h2⟩
  congr 1
  refine bV λi=>?_
  by_cases hi:i<ts.length
  ·have e:=h1 i (eP.mpr (by lia));obtain⟨t1,g1⟩:∃t1,ts[i]?=some t1:=⟨ts[i],aa hi⟩
   obtain⟨t2,g2⟩:∃t2,us[i]?=some t2:=⟨us[i]'(by lia),aa _⟩
   simp only[List.getD,g1,g2,Option.getD_some,decide_eq_true_eq] at e;rw[g1,g2,Lp (tt i t1 g1) (tu i t2 g2) e]
  ·rw[aN (by lia),aN (by lia)]
 ·intro h;cases h;exact⟨λi _=>aH rfl,rfl⟩
section
variable {X:Cx}{pins:List (Addr×Obj)}{σ:St}{H:Hp}{s:Shared}
theorem Us (I:Inv X pins σ H s):∀(n:Nat) (t u:Tr) (A:Around) (v w:V) (vv ww:Value),Ez n t=true->Ez n u=true->A.units+n<cLine->Rep NL H t v->Rep NL H u w->RelV v vv->RelV w ww->SeqAt.EqAt A s vv ww (decide (wT t=wT u))
 |0,_,_,_,_,_,_,_,h,_,_,_,_,_,_=>nomatch h
 |n+1,t,u,A,v,w,vv,ww,ht,hu,hA,h1,h2,r1,r2=>by
  cases t with
  |int i=>
   cases(show v=V.int i from h1);obtain⟨t1,rfl⟩:=r1;cases u with
   |int j=>
    cases(show w=V.int j from h2);obtain⟨t2,rfl⟩:=r2;rw[Ce ht hu (b:=i == j) (by rw[cX];exact⟨λe=>by rw[e],λe=>by cases e;rfl⟩)];exact SeqAt.EqAt.int_int i t1 j t2
   |str z=>
    cases(show w=V.str z from h2);obtain⟨t2,rfl⟩:=r2;rw[Ce ht hu (b:=false) ⟨(λe=>nomatch e),(λe=>nomatch e)⟩];exact gE i t1 z t2
   |tup us=>
    obtain⟨b,ws,rfl,hb,_⟩:=h2;cases r2;obtain⟨its,_,p,_⟩:=I.tuple (A8.of (K:=X.K) hb);rw[Ce ht hu (b:=false) ⟨(λe=>nomatch e),(λe=>nomatch e)⟩];exact SeqAt.EqAt.int_tuple i t1 p (by lia)
   |non=>cases hu
   |bl _=>cases hu
   |lst _=>cases hu
  |str y=>
   cases(show v=V.str y from h1);obtain⟨t1,rfl⟩:=r1;cases u with
   |int j=>
    cases(show w=V.int j from h2);obtain⟨t2,rfl⟩:=r2;rw[Ce ht hu (b:=false) ⟨(λe=>nomatch e),(λe=>nomatch e)⟩];exact gD y t1 j t2
   |str z=>
    cases(show w=V.str z from h2);obtain⟨t2,rfl⟩:=r2;rw[Ce ht hu (b:=y == z) (by rw[cX];exact⟨λe=>by rw[e],λe=>by cases e;rfl⟩)];exact SeqAt.EqAt.str_str y t1 z t2
   |tup us=>
    obtain⟨b,ws,rfl,hb,_⟩:=h2;cases r2;obtain⟨its,_,p,_⟩:=I.tuple (A8.of (K:=X.K) hb);rw[Ce ht hu (b:=false) ⟨(λe=>nomatch e),(λe=>nomatch e)⟩];exact SeqAt.EqAt.str_tuple y t1 p (by lia)
   |non=>cases hu
   |bl _=>cases hu
   |lst _=>cases hu
  |tup ts=>
   obtain⟨a,vs,rfl,ha,hr1⟩:=h1;cases r1;obtain⟨its,rv1,p1,_⟩:=I.tuple (A8.of (K:=X.K) ha);cases u with
   |int j=>
    cases(show w=V.int j from h2);obtain⟨t2,rfl⟩:=r2;rw[Ce ht hu (b:=false) ⟨(λe=>nomatch e),(λe=>nomatch e)⟩];exact SeqAt.EqAt.tuple_int j t2 p1 (by lia)
   |str z=>
    cases(show w=V.str z from h2);obtain⟨t2,rfl⟩:=r2;rw[Ce ht hu (b:=false) ⟨(λe=>nomatch e),(λe=>nomatch e)⟩];exact SeqAt.EqAt.tuple_str z t2 p1 (by lia)
   |tup us=>
    obtain⟨b,ws,rfl,hb,hr2⟩:=h2;cases r2;obtain⟨its2,rv2,p2,_⟩:=I.tuple (A8.of (K:=X.K) hb)
    by_cases hab:a=b
    ·subst hab;have:=QO (n+1) (.tup ts) (.tup us) (.ref a) ht hu ⟨a,vs,rfl,ha,hr1⟩ ⟨a,ws,rfl,hb,hr2⟩;rw[this,aH rfl];exact SeqAt.EqAt.same _
    obtain⟨_,tt⟩:=CG ht;obtain⟨_,tu⟩:=CG hu;have l1:=rv1.length.symm.trans (AI.len ts vs hr1);have l2:=rv2.length.symm.trans (AI.len us ws hr2);have q:=SeqAt.RcAt.tuples (A:=A) (s:=s) (e:=λj=>decide (wT (ts.getD j .non)=wT (us.getD j .non))) p1 p2 (by lia) (λj g1 g2=>by
     have g1':j<its.length:=by simpa using g1
     have g2':j<its2.length:=by simpa using g2
     have lv1:=rv1.length;have lv2:=rv2.length;obtain⟨x1,hx1⟩:∃x1,vs[j]?=some x1:=⟨vs[j]'(by lia),aa _⟩
     obtain⟨x2,hx2⟩:∃x2,ws[j]?=some x2:=⟨ws[j]'(by lia),aa _⟩
     obtain⟨y1,hy1,ry1⟩:=rv1.get hx1;obtain⟨y2,hy2,ry2⟩:=rv2.get hx2;obtain⟨t1,e1,p1'⟩:=AI.get hr1 hx1;obtain⟨t2,e2,p2'⟩:=AI.get hr2 hx2;have:=Us I n t1 t2 A.in1 x1 x2 y1 y2 (tt j t1 e1) (tu j t2 e2) (by show A.units+1+n<cLine;lia) p1' p2' ry1 ry2;rw[aa g1'] at hy1;rw[aa g2'] at hy2;cases hy1;cases hy2;simp only[List.getD,e1,e2,Option.getD_some];simpa using this)
    rw[Mf ht hu];simp only[List.size_toArray,l1,l2] at q;exact SeqAt.EqAt.of_refs hab q
   |non=>cases hu
   |bl _=>cases hu
   |lst _=>cases hu
  |non=>cases ht
  |bl _=>cases ht
  |lst _=>cases ht
end
section
variable {X:Cx}
def Ye (neg:Bool):R2:=λx y H Q=>∃t u,Ez 8 t=true/\Ez 8 u=true/\Rep NL H t x/\Rep NL H u y/\Q (.bl (if neg then !decide (wT t=wT u) else decide (wT t=wT u))) H
theorem Pt {pins:List (Addr×Obj)} {σ:St} {H:Hp} {s:Shared} (I:Inv X pins σ H s) {n:Nat} {A:Around} {ts us:List Tr} {vs ws:List V} {its its2:List Value} (hA:A.units+1+n<cLine) (tt:∀(i:Nat) t,ts[i]?=some t->Ez n t=true) (tu:∀(i:Nat) t,us[i]?=some t->Ez n t=true)
  (hr1:AI NL H ts vs) (hr2:AI NL H us ws) (rv1:AW vs its) (rv2:AW ws its2) (j:Nat) (g1:j<its.toArray.size) (g2:j<its2.toArray.size):SeqAt.EqAt A.in1 s its.toArray[j] its2.toArray[j] (decide (wT (ts.getD j .non)=wT (us.getD j .non))):=by
 have g1':j<its.length:=by simpa using g1
 have g2':j<its2.length:=by simpa using g2
 have lv1:=rv1.length;have lv2:=rv2.length;obtain⟨x1,hx1⟩:∃x1,vs[j]?=some x1:=⟨vs[j]'(by lia),aa _⟩
 obtain⟨x2,hx2⟩:∃x2,ws[j]?=some x2:=⟨ws[j]'(by lia),aa _⟩
 obtain⟨y1,hy1,ry1⟩:=rv1.get hx1;obtain⟨y2,hy2,ry2⟩:=rv2.get hx2;obtain⟨t1,e1,p1'⟩:=AI.get hr1 hx1;obtain⟨t2,e2,p2'⟩:=AI.get hr2 hx2;have:=Us I n t1 t2 A.in1 x1 x2 y1 y2 (tt j t1 e1) (tu j t2 e2) (by show A.units+1+n<cLine;lia) p1' p2' ry1 ry2;rw[aa g1'] at hy1;rw[aa g2'] at hy2;cases hy1;cases hy2;simp only[List.getD,e1,e2,Option.getD_some];simpa using this
theorem Ul (hu9:X.A.units+150<cLine):Im X (compareOp .Eq) (Ye false):=by
 intro pins s σ H x y v u Q I rx ry h;obtain⟨t,w,ht,hw,h1,h2,q⟩:=h;have fin:∀b:Bool,decide (wT t=wT w)=b->SeqAt.RcAt X.A s v u b->wpAny (model X.prog X.w) X.A (compareOp .Eq v u) (EP X pins σ Q) X.xe s:=λb e r=>by
  rw[e] at q;exact r _ _ _ _ ⟨.bl _,H,I,rfl,q⟩
 cases t with
 |int i=>
  cases(show x=V.int i from h1);obtain⟨t1,rfl⟩:=rx;cases w with
  |int j=>
   cases(show y=V.int j from h2);obtain⟨t2,rfl⟩:=ry;exact fin (i == j) (Ce ht hw (by rw[cX];exact⟨λe=>by rw[e],λe=>by cases e;rfl⟩)) (SeqAt.RcAt.int_int i t1 j t2)
  |str z=>
   cases(show y=V.str z from h2);obtain⟨t2,rfl⟩:=ry;exact fin false (Ce ht hw ⟨(λe=>nomatch e),(λe=>nomatch e)⟩) (SeqAt.RcAt.int_str i t1 z t2)
  |tup us=>
   obtain⟨b,ws,rfl,hb,_⟩:=h2;cases ry;obtain⟨its,_,p,_⟩:=I.tuple (A8.of (K:=X.K) hb);exact fin false (Ce ht hw ⟨(λe=>nomatch e),(λe=>nomatch e)⟩) (SeqAt.RcAt.int_tuple i t1 p (by lia))
  |non=>cases hw
  |bl _=>cases hw
  |lst _=>cases hw
 |str a=>
  cases(show x=V.str a from h1);obtain⟨t1,rfl⟩:=rx;cases w with
  |int j=>
   cases(show y=V.int j from h2);obtain⟨t2,rfl⟩:=ry;exact fin false (Ce ht hw ⟨(λe=>nomatch e),(λe=>nomatch e)⟩) (SeqAt.RcAt.str_int a t1 j t2)
  |str z=>
   cases(show y=V.str z from h2);obtain⟨t2,rfl⟩:=ry;exact fin (a == z) (Ce ht hw (by rw[cX];exact⟨λe=>by rw[e],λe=>by cases e;rfl⟩)) (SeqAt.RcAt.str_str a t1 z t2)
  |tup us=>
   obtain⟨b,ws,rfl,hb,_⟩:=h2;cases ry;obtain⟨its,_,p,_⟩:=I.tuple (A8.of (K:=X.K) hb);exact fin false (Ce ht hw ⟨(λe=>nomatch e),(λe=>nomatch e)⟩) (SeqAt.RcAt.str_tuple a t1 p (by lia))
  |non=>cases hw
  |bl _=>cases hw
  |lst _=>cases hw
 |tup ts=>
  obtain⟨a,vs,rfl,ha,hr1⟩:=h1;cases rx;obtain⟨its,rv1,p1,_⟩:=I.tuple (A8.of (K:=X.K) ha);cases w with
  |int j=>
   cases(show y=V.int j from h2);obtain⟨t2,rfl⟩:=ry;exact fin false (Ce ht hw ⟨(λe=>nomatch e),(λe=>nomatch e)⟩) (SeqAt.RcAt.tuple_int j t2 p1 (by lia))
  |str z=>
   cases(show y=V.str z from h2);obtain⟨t2,rfl⟩:=ry;exact fin false (Ce ht hw ⟨(λe=>nomatch e),(λe=>nomatch e)⟩) (SeqAt.RcAt.tuple_str z t2 p1 (by lia))
  |tup us=>
   obtain⟨b,ws,rfl,hb,hr2⟩:=h2;cases ry;obtain⟨its2,rv2,p2,_⟩:=I.tuple (A8.of (K:=X.K) hb);have l1:=rv1.length.symm.trans (AI.len ts vs hr1);have l2:=rv2.length.symm.trans (AI.len us ws hr2);have r:=SeqAt.RcAt.tuples (A:=X.A) (s:=s) (e:=λj=>decide (wT (ts.getD j .non)=wT (us.getD j .non))) p1 p2 (by lia) (λj g1 g2=>Pt I (n:=7) (by lia) (CG ht).2 (CG hw).2 hr1 hr2 rv1 rv2 j g1 g2);simp only[List.size_toArray,l1,l2] at r;exact fin _ (Mf ht hw) r
  |non=>cases hw
  |bl _=>cases hw
  |lst _=>cases hw
 |non=>cases ht
 |bl _=>cases ht
 |lst _=>cases ht
theorem W7 (hu9:X.A.units+150<cLine):Im X (compareOp .NotEq) (Ye true):=by
 intro pins s σ H x y v u Q I rx ry h;obtain⟨t,w,ht,hw,h1,h2,q⟩:=h;have fin:∀b:Bool,decide (wT t=wT w)=b->SeqAt.RcNeAt X.A s v u (!b)->wpAny (model X.prog X.w) X.A (compareOp .NotEq v u) (EP X pins σ Q) X.xe s:=λb e r=>by
  rw[e] at q;exact r _ _ _ _ ⟨.bl _,H,I,rfl,q⟩
 cases t with
 |int i=>
  cases(show x=V.int i from h1);obtain⟨t1,rfl⟩:=rx;cases w with
  |int j=>
   cases(show y=V.int j from h2);obtain⟨t2,rfl⟩:=ry;exact fin (i == j) (Ce ht hw (by rw[cX];exact⟨λe=>by rw[e],λe=>by cases e;rfl⟩)) (SeqAt.RcNeAt.int_int i t1 j t2)
  |str z=>
   cases(show y=V.str z from h2);obtain⟨t2,rfl⟩:=ry;exact fin false (Ce ht hw ⟨(λe=>nomatch e),(λe=>nomatch e)⟩) (SeqAt.RcNeAt.int_str i t1 z t2)
  |tup us=>
   obtain⟨b,ws,rfl,hb,_⟩:=h2;cases ry;obtain⟨its,_,p,_⟩:=I.tuple (A8.of (K:=X.K) hb);exact fin false (Ce ht hw ⟨(λe=>nomatch e),(λe=>nomatch e)⟩) (SeqAt.RcNeAt.int_tuple i t1 p (by lia))
  |non=>cases hw
  |bl _=>cases hw
  |lst _=>cases hw
 |str a=>
  cases(show x=V.str a from h1);obtain⟨t1,rfl⟩:=rx;cases w with
  |int j=>
   cases(show y=V.int j from h2);obtain⟨t2,rfl⟩:=ry;exact fin false (Ce ht hw ⟨(λe=>nomatch e),(λe=>nomatch e)⟩) (SeqAt.RcNeAt.str_int a t1 j t2)
  |str z=>
   cases(show y=V.str z from h2);obtain⟨t2,rfl⟩:=ry;exact fin (a == z) (Ce ht hw (by rw[cX];exact⟨λe=>by rw[e],λe=>by cases e;rfl⟩)) (SeqAt.RcNeAt.str_str a t1 z t2)
  |tup us=>
   obtain⟨b,ws,rfl,hb,_⟩:=h2;cases ry;obtain⟨its,_,p,_⟩:=I.tuple (A8.of (K:=X.K) hb);exact fin false (Ce ht hw ⟨(λe=>nomatch e),(λe=>nomatch e)⟩) (SeqAt.RcNeAt.str_tuple a t1 p (by lia))
  |non=>cases hw
  |bl _=>cases hw
  |lst _=>cases hw
 |tup ts=>
  obtain⟨a,vs,rfl,ha,hr1⟩:=h1;cases rx;obtain⟨its,rv1,p1,_⟩:=I.tuple (A8.of (K:=X.K) ha);cases w with
  |int j=>
   cases(show y=V.int j from h2);obtain⟨t2,rfl⟩:=ry;exact fin false (Ce ht hw ⟨(λe=>nomatch e),(λe=>nomatch e)⟩) (SeqAt.RcNeAt.tuple_int j t2 p1 (by lia))
  |str z=>
   cases(show y=V.str z from h2);obtain⟨t2,rfl⟩:=ry;exact fin false (Ce ht hw ⟨(λe=>nomatch e),(λe=>nomatch e)⟩) (SeqAt.RcNeAt.tuple_str z t2 p1 (by lia))
  |tup us=>
   obtain⟨b,ws,rfl,hb,hr2⟩:=h2;cases ry;obtain⟨its2,rv2,p2,_⟩:=I.tuple (A8.of (K:=X.K) hb);have l1:=rv1.length.symm.trans (AI.len ts vs hr1);have l2:=rv2.length.symm.trans (AI.len us ws hr2);have r:=SeqAt.RcNeAt.tuples (A:=X.A) (s:=s) (e:=λj=>decide (wT (ts.getD j .non)=wT (us.getD j .non))) p1 p2 (by lia) (λj g1 g2=>Pt I (n:=7) (by lia) (CG ht).2 (CG hw).2 hr1 hr2 rv1 rv2 j g1 g2);simp only[List.size_toArray,l1,l2] at r;exact fin _ (Mf ht hw) r
  |non=>cases hw
  |bl _=>cases hw
  |lst _=>cases hw
 |non=>cases ht
 |bl _=>cases ht
 |lst _=>cases ht
end
end
section
variable {P:Program}{w:World}{K:W.Frag}{mg:Str->Option Value}{base:Heap}{f Ab Ad Aa Ae:Addr}{XC:Nat->Addr}{fd:FuncData}
abbrev CJ:=List (Int×List Int)
def Ft (b:CJ)(k:Int)(row:List Int):CJ:=if(b.any λx=>decide (x.1=k))=true then b.map (λx=>if x.1=k then(x.1,row) else x) else b++[(k,row)]
def Cm (b:CJ)(k:Int):Option (List Int):=(b.find? λx=>decide (x.1=k)).map (·.2)
def YO (H:Hp):Key×V->Int×List Int->Prop:=λkv x=>kv.1=Sum.inl x.1/\∃r,kv.2=.ref r/\H r=some (.lst (x.2.map V.int))
def Cw (H:Hp)(kvs:List (Key×V))(b:CJ):Prop:=Paired (YO H) kvs b
theorem Cw.same {H H':Hp}{kvs:List (Key×V)}{b:CJ}(r:Cw H kvs b)(s:∀a xs,H a=some (.lst xs)->H' a=some (.lst xs)):Cw H' kvs b:=Paired.mapP r (by rintro _ _ ⟨h1,a,h2,h3⟩;exact⟨h1,a,h2,s _ _ h3⟩)
theorem VO (a k:Int):decide ((Sum.inl a:Key)=Sum.inl k)=decide (a=k):=by
 by_cases e:a=k
 ·rw[e];simp
 ·rw[aS e,aS λz=>e (cH z)]
theorem Cw.any {H:Hp}{kvs:List (Key×V)}{b:CJ}(r:Cw H kvs b)(k:Int):(kvs.any λkv=>decide (kv.1=Sum.inl k))=(b.any λx=>decide (x.1=k)):=by
 unfold Cw at r
 induction r with
 |nil=>rfl
 |cons h t ih=>rw[eh,eh,ih,h.1,VO]
theorem Cw.put {H:Hp}{kvs:List (Key×V)}{b:CJ}(r:Cw H kvs b)(k:Int){l:Addr}{row:List Int}(hl:H l=some (.lst (row.map V.int))):Cw H (putK kvs (Sum.inl k) (.ref l)) (Ft b k row):=by
 unfold putK Ft;rw[r.any k]
 by_cases hc:(b.any λx=>decide (x.1=k))=true
 ·rw[aC hc,aC hc]
  clear hc
  unfold Cw at r ⊢
  induction r with
  |nil=>exact .nil
  |@cons kv x ps qs h t ih=>
   rw[au,au];refine .cons ?_ ih
   by_cases e:x.1=k
   ·rw[aC (by rw[h.1,e]),aC e];exact⟨h.1,l,rfl,hl⟩
   ·rw[ay (by rw[h.1];exact λz=>e (cH z)),ay e];exact h
 ·rw[ay hc,ay hc];exact Paired.snoc r ⟨rfl,l,rfl,hl⟩
theorem Cw.get {H:Hp}{kvs:List (Key×V)}{b:CJ}(r:Cw H kvs b)(k:Int):(BB kvs (Sum.inl k)=none/\Cm b k=none)\/∃a row,BB kvs (Sum.inl k)=some (.ref a)/\Cm b k=some row/\H a=some (.lst (row.map V.int)):=by
 unfold Cw at r
 induction r with
 |nil=>exact .inl ⟨rfl,rfl⟩
 |@cons kv x ps qs h t ih=>
  obtain⟨h1,a,h2,h3⟩:=h
  by_cases e:x.1=k
  ·refine .inr ⟨a,x.2,?_,?_,h3⟩
   ·rw[Gb (by rw[h1,e]),h2]
   ·unfold Cm;rw[cR,aH e];rfl
  ·have g1:Cm (x::qs) k=Cm qs k:=by unfold Cm;rw[cR,aS e]
   have g2:BB (kv::ps) (Sum.inl k)=BB ps (Sum.inl k):=Gw (by rw[h1];exact λz=>e (cH z));rw[g1,g2];exact ih
theorem Cw.len {H:Hp}{kvs:List (Key×V)}{b:CJ}(r:Cw H kvs b):kvs.length=b.length:=fK r
theorem UK (b:CJ)(k:Int)(row:List Int):(Ft b k row).length<=b.length+1:=by
 unfold Ft
 split
 ·rw[ab];lia
 ·rw[ar];show b.length+1<=_;lia
theorem LY {α β:Type}{F G:α->β->Prop}:∀{l₁:List α} {l₂:List β},Paired F l₁ l₂->(∀a∈l₁,∀b,F a b->G a b)->Paired G l₁ l₂
 |_,_,.nil,_=>.nil
 |_,_,.cons r t,f=>.cons (f _ av _ r) (LY t λa ha=>f a (ao _ ha))
theorem D0 {α β:Type}{F:α->β->Prop}:∀{l₁:List α} {l₂:List β} {i:Nat} {a:α},Paired F l₁ l₂->l₁[i]?=some a->∃b,l₂[i]?=some b/\F a b
 |_,_,_,_,.nil,e=>by simp at e
 |_,_,0,_,.cons r _,e=>by simp at e;subst e;exact⟨_,rfl,r⟩
 |_,_,i+1,a,.cons _ t,e=>by
  obtain⟨b,h1,h2⟩:=D0 (i:=i) (a:=a) t (by simpa using e);exact⟨b,by simpa using h1,h2⟩
theorem Sh {b:CJ}{k:Int}{row:List Int}(h:(b.any λx=>decide (x.1=k))=true):(Ft b k row).map (·.1)=b.map (·.1):=by
 unfold Ft;rw[aC h,aI];refine cC λx _=>?_
 show(if x.1=k then(x.1,row) else x).1=x.1
 split<;>rfl
theorem UA {b:CJ}{k:Int}{row:List Int}(h:k∉b.map (·.1)):Ft b k row=b++[(k,row)]:=by
 unfold Ft;rw[ay];intro z;obtain⟨x,hx,e⟩:=c9.mp z;exact h (ae.mpr ⟨x,hx,bf e⟩)
theorem Qd {b:CJ}{k:Int}{row:List Int}(h:(b.map (·.1)).Nodup):((Ft b k row).map (·.1)).Nodup:=by
 by_cases c:k∈b.map (·.1)
 ·rw[Sh]
  ·exact h
  ·obtain⟨x,hx,e⟩:=ae.mp c;exact c9.mpr ⟨x,hx,aH e⟩
 ·rw[UA c,aJ,cm];refine⟨h,by simp,λe he g hg=>?_⟩;rw[show g=k by simpa using hg];intro z;exact c (z▸he)
def SL (H:Hp)(ds:List Addr)(bs:List CJ):Prop:=Paired (λd b=>∃kvs,H d=some (.dK kvs)/\Cw H kvs b/\(b.map (·.1)).Nodup) ds bs
theorem SL.same {H H':Hp}{ds:List Addr}{bs:List CJ}(r:SL H ds bs)(s:∀a xs,H a=some (.lst xs)->H' a=some (.lst xs))(k:∀d∈ds,∀kvs,H d=some (.dK kvs)->H' d=some (.dK kvs)):SL H' ds bs:=
 LY r (by rintro d hd _ ⟨kvs,h1,h2,h3⟩;exact⟨kvs,k d hd kvs h1,h2.same s,h3⟩)
theorem SL.set {H H':Hp}{d:Addr}{b':CJ}(s:∀a xs,H a=some (.lst xs)->H' a=some (.lst xs))(hd:∃kvs,H' d=some (.dK kvs)/\Cw H' kvs b'/\(b'.map (·.1)).Nodup):∀{ds:List Addr} {bs:List CJ},SL H ds bs->ds.Nodup->(∀e∈ds,e≠d->∀kvs,H e=some (.dK kvs)->H' e=some (.dK kvs))->∀{i:Nat},ds[i]?=some d->SL H' ds (bs.set i b')
 |_,_,.nil,_,_,i,hi=>by simp at hi
 |_,_,.cons h t,nd,k,0,hi=>by
  simp at hi;subst hi;refine .cons hd (LY t (by rintro e he _ ⟨kvs,h1,h2,h3⟩;exact⟨kvs,k e (ao _ he) (λz=>(bF.mp nd).1 (z▸he)) kvs h1,h2.same s,h3⟩))
 |e::es,_,.cons h t,nd,k,i+1,hi=>by
  have hi':es[i]?=some d:=by simpa using hi
  obtain⟨kvs,h1,h2,h3⟩:=h;refine .cons ⟨kvs,k e av (λz=>(bF.mp nd).1 (by rw[z];exact az hi')) kvs h1,h2.same s,h3⟩ ?_;exact SL.set s hd t (bF.mp nd).2 (λe' he'=>k e' (ao _ he')) hi'
def Nl (s:Addr)(n:Int)(lf:V):List (Str×V):=[("shelves",.ref s),("writes",.int n),("writes_left",lf)]
theorem WO (s:Addr)(n y:Int)(lf:V):DB "writes" (.int y) (Nl s n lf)=Nl s y lf:=by
 unfold Nl;simp only[DB];rfl
def FZ (Ad:Addr)(H:Hp)(p:Addr)(ds:List Addr)(bs:List CJ)(n:Int)(lf:V):Prop:=∃dx s,H p=some (.ins Ad dx (Nl s n lf))/\H s=some (.lst (ds.map V.ref))/\ds.Nodup/\SL H ds bs
theorem FZ.len {Ad:Addr}{H:Hp}{p:Addr}{ds:List Addr}{bs:List CJ}{n:Int}{lf:V}(h:FZ Ad H p ds bs n lf):ds.length=bs.length:=by
 obtain⟨_,_,_,_,_,r⟩:=h;exact fK r
def Kb (H H':Hp)(p:Addr)(ds:List Addr):Prop:=∀b o,H b=some o->b≠p->b∉ds->H' b=some o
theorem FZ.same {Ad:Addr}{H H':Hp}{p:Addr}{ds:List Addr}{bs:List CJ}{n:Int}{lf:V}(h:FZ Ad H p ds bs n lf)(s:As H H'):FZ Ad H' p ds bs n lf:=by
 obtain⟨dx,s0,h1,h2,h3,h4⟩:=h;exact⟨dx,s0,s.get h1,s.get h2,h3,h4.same (λa xs e=>s.get e) λd _ kvs e=>s.get e⟩
theorem As.kb {H H':Hp}(s:As H H')(p:Addr)(ds:List Addr):Kb H H' p ds:=λb o e _ _=>s b o e
theorem Kb.trans {H H1 H2:Hp}{p:Addr}{ds:List Addr}(a:Kb H H1 p ds)(b:Kb H1 H2 p ds):Kb H H2 p ds:=λc o e h1 h2=>b c o (a c o e h1 h2) h1 h2
theorem FZ.notin {Ad:Addr}{H:Hp}{p:Addr}{ds:List Addr}{bs:List CJ}{n:Int}{lf:V}(g:FZ Ad H p ds bs n lf){b:Addr}{o:HO}(e:H b=some o)(z:∀kvs,o≠.dK kvs):b∉ds:=λhb=>by
 obtain⟨_,_,_,_,_,g4⟩:=g;obtain⟨i,hi,ei⟩:=bx hb;obtain⟨c,_,kvs,q1,_⟩:=D0 (i:=i) g4 (by rw[aa hi,ei]);rw[e] at q1;exact z kvs (aA q1)
theorem FZ.there {Ad:Addr}{H:Hp}{p:Addr}{ds:List Addr}{bs:List CJ}{n:Int}{lf:V}(g:FZ Ad H p ds bs n lf):∀d∈ds,∃kvs,H d=some (.dK kvs):=λd hb=>by
 obtain⟨_,_,_,_,_,g4⟩:=g;obtain⟨i,hi,ei⟩:=bx hb;obtain⟨c,_,kvs,q1,_⟩:=D0 (i:=i) g4 (by rw[aa hi,ei]);exact⟨kvs,q1⟩
def GP (K:W.Frag)(Ad:Addr):Sp:=λvs H Q _=>∃(p dx:Addr) (m:Nat),vs=[.ref p,.int m]/\2<=m/\m<=4/\H p=some (.ins Ad dx [])/\∀H' ds,FZ Ad H' p ds (List.replicate m []) 0 .non->(∀d∈ds,H d=none)->(∀b o,H b=some o->b≠p->H' b=some o)->Q .non H'
def Ep (K:W.Frag)(Ad:Addr):Sp:=λvs H Q _=>∃p ds bs n lf,vs=[.ref p]/\FZ Ad H p ds bs n lf/\Q (.int (bs.length:Int)) H
def DQ (K:W.Frag)(Ad:Addr):Sp:=λvs H Q _=>∃p ds bs n lf,∃(b:Nat),vs=[.ref p,.int (b:Int)]/\FZ Ad H p ds bs n lf/\b<bs.length/\∀d,ds[b]?=some d->Q (.ref d) H
def FV (K:W.Frag)(Ad:Addr):Sp:=λvs H Q _=>∃p ds bs n,∃(b:Nat) (z:Int) (a:Addr) (row:List Int),vs=[.ref p,.int (b:Int),.int z,.ref a]/\FZ Ad H p ds bs n .non/\b<bs.length/\(∀c∈bs,c.length<100000)/\H a=some (.lst (row.map V.int))/\
 ∀H',FZ Ad H' p ds (bs.set b (Ft (bs.getD b []) z row)) (n+1) .non->Kb H H' p ds->Q .non H'
def Gk (K:W.Frag)(Ad:Addr):Sp:=λvs H Q _=>∃p ds bs n lf,∃(b:Nat) (z:Int),vs=[.ref p,.int (b:Int),.int z]/\FZ Ad H p ds bs n lf/\b<bs.length/\(Cm (bs.getD b []) z=none->Q .non H)/\
 ∀row,Cm (bs.getD b []) z=some row->∀l,H l=none->Q (.ref l) (upd H l (.lst (row.map V.int)))
theorem LD (T:Txt K mg Ab Ad Aa Ae XC)(F:Fun K "many" "Boards.many" EY f fd):FnOk P w K mg base BI 1 f fd ["self"] (Ep K Ad):=by
 exists LN
 ·obtain⟨p,ds,bs,n,lf,rfl,_⟩:=h;rfl
 obtain⟨p,ds,bs,n,lf,rfl,hB,q⟩:=h;have hl:=hB.len;obtain⟨dx,s0,h1,h2,h3,h4⟩:=hB;refine⟨_,(!Ak (!Ao (!Aq Az (by rfl) T.b_len AZ (!Ac (!AU (pv 0)) (!Ah))))),?_⟩;refine⟨_,rfl,p,Ad,dx,_,_,rfl,h1,T.cl_Boards,T.n_Boards_shelves,rfl,s0,_,rfl,.inl (AJ.of h2),?_⟩;rw[ab,hl];exact q
theorem KE (T:Txt K mg Ab Ad Aa Ae XC)(F:Fun K "shelf" "Boards.shelf" Eu f fd)(AC:Def P w K mg base 2 "is_between" ["thing","least","most"] (BA K))(BR:BJ P w K mg base 1 Ad "many" ["self"] (Ep K Ad)):FnOk P w K mg base BI 3 f fd ["self","board"] (DQ K Ad):=by
 exists KD
 ·obtain⟨p,ds,bs,n,lf,b,rfl,_⟩:=h;rfl
 obtain⟨p,ds,bs,n,lf,b,rfl,hB,b1,q⟩:=h;have hl:=hB.len;obtain⟨dx,s0,h1,h2,h3,h4⟩:=id hB;refine⟨_,(!Af (!AL (!Co (!BK (!AG AC (by trivial) rfl (!Ac (pv 1) (!Ac (!Ai) (!Ac (!Ar Gu (!Dy (pv 0) T.cl_Boards BR) (!Ai)) (!Ah))))) (by intro _;rfl))) (!Ak (!CL)) (!Au)) (!Ak (!Ao (!Ax A6 (!AU (pv 0)) (pv 1) (λ_ _=>rfl))))),?_⟩;refine⟨_,rfl,_,rfl,p,dx,_,rfl,h1,rfl,p,ds,bs,n,lf,rfl,hB,_,_,rfl,rfl,.int (b:Int),0,_,rfl,trivial,_,rfl,AV ?_ ?_⟩
 ·show(!(decide ((0:Int)<=(b:Int))&&decide ((b:Int)<=(bs.length:Int)-1)))=false;rw[aH (show(0:Int)<=(b:Int) by lia),aH (show(b:Int)<=(bs.length:Int)-1 by lia)];rfl
 have hk:b<ds.length:=by lia
 exact⟨_,rfl,p,Ad,dx,_,_,rfl,h1,T.cl_Boards,T.n_Boards_shelves,rfl,_,rfl,s0,_,_,_,rfl,rfl,AJ.of h2,C4 (j:=b) (by rw[aD,aa hk];rfl),q _ (aa hk)⟩
theorem Vq {H H':Hp} {p dx s0 l:Addr} {ds:List Addr} {bs:List CJ} {n y:Int} {lf lf2:V} {b:Nat} {d:Addr} {z:Int} {row:List Int} {kvs:List (Key×V)} (h1:H p=some (.ins Ad dx (Nl s0 n lf))) (h2:H s0=some (.lst (ds.map V.ref))) (h3:ds.Nodup) (h4:SL H ds bs) (hb:ds[b]?=some d) (hd:H d=some (.dK kvs))
  (hl:H l=none) (e:H'=upd (upd (upd H p (.ins Ad dx (Nl s0 y lf2))) l (.lst (row.map V.int))) d (.dK (putK kvs (Sum.inl z) (.ref l)))):FZ Ad H' p ds (bs.set b (Ft (bs.getD b []) z row)) y lf2/\Kb H H' p ds:=by
 have npd:p≠d:=AQ h1 hd (by intro z;cases z);have nld:l≠d:=λz=>by rw[z,hd] at hl;cases hl
 have nlp:l≠p:=λz=>by rw[z,h1] at hl;cases hl
 have lists:∀a xs,H a=some (.lst xs)->H' a=some (.lst xs):=λa xs q=>by
  rw[e,Aj (AQ q hd (by intro z;cases z)),Aj (AD q hl),Aj (AQ q h1 (by intro z;cases z))];exact q
 have hl':H' l=some (.lst (row.map V.int)):=by rw[e,Aj nld,Ag]
 obtain⟨b0,g1,kvs0,g2,g3,g5⟩:=D0 h4 hb;rw[hd] at g2;cases g2;have eb:bs.getD b []=b0:=by simp[List.getD,g1]
 refine⟨⟨dx,s0,?_,lists _ _ h2,h3,?_⟩,λc o q hc hcd=>?_⟩
 ·rw[e,Aj npd,Aj nlp.symm,Ag]
 ·rw[eb];refine SL.set lists ⟨_,by rw[e,Ag],(g3.same lists).put z hl',Qd g5⟩ h4 h3 (λe' he' ne' kvs' q=>?_) hb;rw[e,Aj ne',Aj (AD q hl),Aj (AQ q h1 (by intro z;cases z))];exact q
 ·rw[e,Aj (λz=>hcd (by rw[z];exact az hb)),Aj (AD q hl),Aj hc];exact q
theorem Kt (T:Txt K mg Ab Ad Aa Ae XC)(F:Fun K "write" "Boards.write" Es f fd)(B3:BJ P w K mg base 3 Ad "shelf" ["self","board"] (DQ K Ad)):FnOk P w K mg base BI 4 f fd ["self","board","number","row"] (FV K Ad):=by
 exists FU
 ·obtain⟨p,ds,bs,n,b,z,a,row,rfl,_⟩:=h;rfl
 obtain⟨p,ds,bs,n,b,z,a,row,rfl,hB,b1,b2,ha,q⟩:=h;have hl:=hB.len;obtain⟨dx,s0,h1,h2,h3,h4⟩:=id hB;have hu:=BL hr;refine⟨_,(!Af (@Ap _ _ (4) _ _ _ _ FU.nd rfl (by trivial) (!A4 (pv 0) T.cl_Boards B3 (by trivial) (!Ac (pv 1) (!Ah))) (by rfl) (by trivial)) (!Af (!AL (!Aw Bb (!AU (pv 0)) (!Ai) (Av _)) (!Ak (!CL)) (!Au)) (!Af (!AL (!GE (!Nw (!AU (pv 0))) (by first|exact C7 _ (by decide) (by decide)|rfl)) (!Ak (!CL)) (!Au)) (!Af (!Fh (pv 0) (!Ai) FB) (!Ak (!IM hu (pv 4) (pv 2) (!Cz DZ (by rfl) T.b_list K1 (!Ac (pv 3) (!Ah))))))))),?_⟩;dsimp only[BM];refine⟨_,rfl,p,dx,_,rfl,h1,rfl,_,rfl,p,ds,bs,n,.non,b,rfl,hB,b1,λd hd=>?_⟩;obtain⟨c0,g1,kvs,e1,g3,g5⟩:=D0 h4 hd;have npd:p≠d:=AQ h1 e1 (by intro z;cases z);have npa:a≠p:=AQ ha h1 (by intro z;cases z);have kl:kvs.length<100000:=by rw[g3.len];exact b2 _ (az g1)
 dsimp only;refine⟨_,rfl,p,Ad,dx,_,_,rfl,h1,T.cl_Boards,T.n_Boards_writes_left,rfl,rfl,_,rfl,AV rfl ?_⟩;refine⟨_,rfl,p,Ad,dx,_,_,rfl,h1,T.cl_Boards,T.n_Boards_writes_left,rfl,_,rfl,AV rfl ?_⟩;refine⟨_,rfl,p,Ad,dx,_,_,rfl,h1,T.cl_Boards,T.n_Boards_writes,rfl,_,_,rfl,rfl,dx,_,h1,(by show 3<1000;decide),?_⟩;rw[WO];refine⟨_,rfl,a,_,rfl,.inl (AJ.of (by rw[Aj npa];exact ha)),λl hl0=>?_⟩;have nlp:l≠p:=λz=>by rw[z,Ag] at hl0;cases hl0
 have hlH:H l=none:=by rw[Aj nlp] at hl0;exact hl0
 have ndl:d≠l:=AD e1 hlH;refine⟨_,rfl,_,rfl,d,_,rfl,NN.k (k:=Sum.inl z) (by rw[Aj ndl,Aj npd.symm];exact e1) (A7 (by lia)),?_⟩;obtain⟨x1,x2⟩:=Vq (Ad:=Ad) (y:=n+1) (lf2:=.non) (row:=row) (z:=z) h1 h2 h3 h4 hd e1 hlH rfl;exact q _ x1 x2
theorem Mc (T:Txt K mg Ab Ad Aa Ae XC)(F:Fun K "cell" "Boards.cell" EU f fd)(B3:BJ P w K mg base 3 Ad "shelf" ["self","board"] (DQ K Ad)):FnOk P w K mg base BI 4 f fd ["self","board","number"] (Gk K Ad):=by
 exists F7
 ·obtain⟨p,ds,bs,n,lf,b,z,rfl,_⟩:=h;rfl
 obtain⟨p,ds,bs,n,lf,b,z,rfl,hB,b1,q0,q1⟩:=h;obtain⟨dx,s0,h1,h2,h3,h4⟩:=id hB;have hu:=BL hr;refine⟨_,(!Af (@Ap _ _ (3) _ _ _ _ F7.nd rfl (by trivial) (!S1 hu (!A4 (pv 0) T.cl_Boards B3 (by trivial) (!Ac (pv 1) (!Ah))) (pv 2) ⟨rfl,rfl,rfl,rfl⟩) (by rfl) (by trivial)) (!Af (!AL (!GE (!PR (pv 3)) (by first|exact C7 _ (by decide) (by decide)|rfl)) (!Ak (!Ao (!Eh))) (!Au)) (!Ak (!Ao (!Cz DZ (by rfl) T.b_list K1 (!Ac (pv 3) (!Ah))))))),?_⟩
 try dsimp only[BM,Cx.nox,Cx.wish]
 refine⟨_,rfl,p,dx,_,rfl,h1,rfl,_,rfl,p,ds,bs,n,lf,b,rfl,hB,b1,λd hd=>?_⟩;obtain⟨c0,g1,kvs,e1,g3,g5⟩:=D0 h4 hd;have eb:bs.getD b []=c0:=by simp[List.getD,g1]
 rw[eb] at q0 q1;refine⟨d,rfl,.inl ⟨kvs,.inl e1⟩,_,rfl,_,CN.k (k:=Sum.inl z) e1,?_⟩;rcases g3.get z with⟨v1,v2⟩|⟨a,row,v1,v2,v3⟩
 ·rw[v1];exact⟨_,rfl,_,rfl,Ci rfl (q0 v2)⟩
 ·rw[v1];refine⟨_,rfl,_,rfl,AV rfl ?_⟩;exact⟨_,rfl,a,_,rfl,.inl (AJ.of v3),λl hl=>q1 row v2 l hl⟩
theorem LC (T:Txt K mg Ab Ad Aa Ae XC)(F:Fun K "__init__" "Boards.__init__" EW f fd)(AC:Def P w K mg base 2 "is_between" ["thing","least","most"] (BA K)):FnOk P w K mg base BI 3 f fd ["self","many"] (GP K Ad):=by
 exists La
 ·obtain⟨p,dx,m,rfl,_⟩:=h;rfl
 obtain⟨p,dx,m,rfl,m1,m2,h1,q⟩:=h;refine⟨_,(!Af (!AL (!Co (!BK (!AG AC (by trivial) rfl (!Ac (pv 1) (!Ac (!AB rfl T.c_LEAST_BOARDS) (!Ac (!AB rfl T.c_MOST_BOARDS) (!Ah))))) (by intro _;rfl))) (!Ak (!CL)) (!Au)) (!Af (!Cd (pv 0) (@Bl _ ["board"] _ _ _ _ _ _ _ _ _ _ rfl (!D3 rfl T.b_range (!Ac (pv 1) (!Ah))) (by decide +kernel) (λC s H fp=>⟨(@An _ _ (0) _ (show(["board"]:List Str).Nodup by decide +kernel) rfl (by trivial) (by trivial)),(!AM),(!Ek)⟩) (by intro _;rfl))) (!Af (!Cd (pv 0) (!Ai)) (!Ak (!Cd (pv 0) (!Eh)))))),?_⟩
 try dsimp only[BM,Cx.nox,Cx.wish]
 refine⟨_,rfl,.int m,2,4,rfl,trivial,_,rfl,AV ?_ ?_⟩
 ·show(!(decide ((2:Int)<=(m:Int))&&decide ((m:Int)<=4)))=false;rw[aH (show(2:Int)<=(m:Int) by lia),aH (show(m:Int)<=4 by lia)];rfl
 refine⟨_,rfl,m,rfl,by lia,by lia,?_⟩;refine KY (xs:=(List.range (m:Int).toNat).map λ(i:Nat)=>V.int (0+(i:Int))) (λi ys l H'=>As H H'/\∃ds:List Addr,ys=ds.map V.ref/\ds.Nodup/\∀d∈ds,H' d=some (.dK [])/\H d=none) (by rw[ab,bU];lia) (λi ys l H' _=>Qa) (λl hl=>⟨Al hl _,[],rfl,cI,λ_ h=>nomatch h⟩) (λi x ys l H' R hx hl hl' hlen hI hR d hd=>?_) λl H1 ys hl hl1 ly hI=>?_
 ·obtain⟨s',ds,rfl,nd,hds⟩:=hI;have nld:l≠d:=AD hl' hd;refine hR _ _ (by rw[Aj nld];exact hl') ⟨A5 (A5 s' (s'.free hd) _) hl _,ds++[d],by rw[aJ];rfl,?_,λe he=>?_⟩
  ·rw[cm];refine⟨nd,by simp,λe he g hg=>?_⟩;rw[ag.mp hg];intro z;have:=(hds e he).1;rw[z,hd] at this;cases this
  ·have nel:∀{o},H' e=some (.dK o)->e≠l:=λq=>AQ q hl' (by intro z;cases z)
   rcases ai.mp he with he|he
   ·obtain⟨g1,g2⟩:=hds e he;exact⟨by rw[Aj (nel g1),Aj (AD g1 hd)];exact g1,g2⟩
   ·rw[ag.mp he];exact⟨by rw[Aj nld.symm,Ag],s'.free hd⟩
 obtain⟨s1,ds,rfl,nd,hds⟩:=hI;have lds:ds.length=m:=by rw[ab,ab,bU] at ly;lia
 have p1:=s1.get h1;have npl:l≠p:=AQ hl1 p1 (by intro z;cases z);refine⟨_,rfl,p,Ad,dx,[],rfl,p1,T.cl_Boards,T.n_Boards_shelves,(by show 0<1000;decide),?_⟩;refine⟨_,rfl,p,Ad,dx,_,rfl,Ag,T.cl_Boards,T.n_Boards_writes,(by show 1<1000;decide),?_⟩;refine⟨_,rfl,p,Ad,dx,_,rfl,Ag,T.cl_Boards,T.n_Boards_writes_left,(by show 2<1000;decide),?_⟩;rw[ED,ED];refine q _ ds ⟨dx,l,Ag,by rw[Aj npl];exact hl1,nd,?_⟩ (λd hd=>(hds d hd).2) λb o e hb=>?_
 ·have all:∀(es:List Addr),(∀d∈es,d∈ds)->SL (upd H1 p (.ins Ad dx (DB "writes_left" V.non (DB "writes" (V.int 0) (DB "shelves" (V.ref l) []))))) es (List.replicate es.length []):=by
   intro es
   induction es with
   |nil=>intro _;exact .nil
   |cons d es ih=>
    intro hm;refine .cons ⟨[],?_,.nil,cI⟩ (ih λe he=>hm e (ao _ he));have:=(hds d (hm d av)).1;rw[Aj (AQ this p1 (by intro z;cases z))];exact this
  have:=all ds λ_ h=>h
  rw[lds] at this;exact this
 ·rw[Aj hb];exact s1.get e
abbrev Tg:=Int×Int×Int
inductive Bk where
 |piece (z:Str)
 |row (lv:Int) (ts:List Tg)
 |folder
def Ej (t:Tg):Tr:=.tup [.int t.1,.int t.2.1,.int t.2.2]
def CI:Bk->Tr
 | .piece z=>.tup [.int 0,.str z]
 | .row lv ts=>.tup [.int 1,.int lv,.tup (ts.map Ej)]
 | .folder=>.tup [.int 2,.tup []]
def SO (t:Tg):Prop:=(1<=t.1/\t.1<=999999)/\(0<=t.2.1/\t.2.1<=999999999)/\0<=t.2.2/\t.2.2<=996
def Wh (lv:Int)(ts:List Tg):Prop:=ts.length<=8/\(1<lv->ts≠[])/\∀t∈ts,SO t
def Dl:Bk->Prop
 | .piece z=>Ma 1 8 (.str z)=true
 | .row lv ts=>(1<=lv/\lv<=9)/\Wh lv ts
 | .folder=>True
theorem Em {H:Hp}{t:Tg}{v:V}(h:Rep NL H (Ej t) v):∃a,v=.ref a/\H a=some (.tup [.int t.1,.int t.2.1,.int t.2.2]):=by
 obtain⟨a,vs,rfl,e,x1,u1,rfl,rfl,x2,u2,rfl,rfl,x3,u3,rfl,rfl,rfl⟩:=h;exact⟨a,rfl,e⟩
theorem LM {H:Hp}{t:Tg}{a:Addr}(e:H a=some (.tup [.int t.1,.int t.2.1,.int t.2.2])):Rep NL H (Ej t) (.ref a):=⟨a,_,rfl,e,_,_,rfl,rfl,_,_,rfl,rfl,_,_,rfl,rfl,rfl⟩
theorem D2 {H:Hp}{z:Str}{v:V}(h:Rep NL H (CI (.piece z)) v):∃a,v=.ref a/\H a=some (.tup [.int 0,.str z]):=by
 obtain⟨a,vs,rfl,e,x1,u1,rfl,rfl,x2,u2,rfl,rfl,rfl⟩:=h;exact⟨a,rfl,e⟩
theorem IE {H:Hp}{lv:Int}{ts:List Tg}{v:V}(h:Rep NL H (CI (.row lv ts)) v):∃a b vs,v=.ref a/\H a=some (.tup [.int 1,.int lv,.ref b])/\H b=some (.tup vs)/\AI NL H (ts.map Ej) vs:=by
 obtain⟨a,vs,rfl,e,x1,u1,rfl,rfl,x2,u2,rfl,rfl,x3,u3,rfl,⟨b,us,rfl,e2,r⟩,rfl⟩:=h;exact⟨a,b,us,rfl,e,e2,r⟩
theorem Dm {H:Hp}{v:V}(h:Rep NL H (CI .folder) v):∃a b,v=.ref a/\H a=some (.tup [.int 2,.ref b])/\H b=some (.tup []):=by
 obtain⟨a,vs,rfl,e,x1,u1,rfl,rfl,x2,u2,rfl,⟨b,us,rfl,e2,r⟩,rfl⟩:=h;cases r;exact⟨a,b,rfl,e,e2⟩
theorem G4 {α:Type}{g:α->Tr}{H:Hp}{xs:List α}{vs:List V}(h:AI NL H (xs.map g) vs){v:V}(hv:v∈vs):∃x∈xs,Rep NL H (g x) v:=by
 obtain⟨i,hi,e⟩:=bx hv;obtain⟨t,ht,r⟩:=AI.get h (show vs[i]?=some v by rw[aa hi,e]);rw[aD] at ht;cases z:xs[i]? with
 |none=>rw[z] at ht;cases ht
 |some x=>
  rw[z] at ht;cases ht;exact⟨x,az z,r⟩
theorem GS {t:Tg}(h:SO t)(n:Nat):Ez (n+2) (Ej t)=true:=by
 obtain⟨⟨a1,a2⟩,⟨b1,b2⟩,c1,c2⟩:=h;simp only[Ej,Ez,List.all_cons,List.all_nil,List.length_cons,List.length_nil,Bool.and_true,Bool.and_eq_true,decide_eq_true_eq]
 lia
theorem Jy {b:Bk}(h:Dl b):Ez 8 (CI b)=true:=by
 cases b with
 |piece z=>
  have h':(decide ((1:Int)<=(z.length:Int))&&decide ((z.length:Int)<=8)&&DR SG z)=true:=h;simp only[Bool.and_eq_true,decide_eq_true_eq] at h';simp only[CI,Ez,List.all_cons,List.all_nil,List.length_cons,List.length_nil,Bool.and_true,Bool.and_eq_true,decide_eq_true_eq,h'.2,and_true]
  lia
 |row lv ts=>
  obtain⟨l,n,_,o⟩:=h;have d:(ts.map Ej).all (Ez 6)=true:=bZ.mpr λt ht=>by
   obtain⟨x,hx,rfl⟩:=ae.mp ht;exact GS (o x hx) 4
  simp only[CI,Ez,List.all_cons,List.all_nil,List.length_cons,List.length_nil,List.length_map,Bool.and_true,Bool.and_eq_true,decide_eq_true_eq,d,and_true]
  lia
 |folder=>rfl
theorem NQ {H:Hp}{t:Tr}{v:V}{n:Nat}(h:Rep NL H t v)(i:Ez n t=true):Ok H v:=(GZ h).ok (PF _ _ i)
theorem Wv {H:Hp}{l:Addr}{us:List V}(h:H l=some (.lst (us.map λ_=>V.bl true))):H l=some (.lst ((us.map λ_=>true).map V.bl)):=by rw[h,aI];rfl
theorem R7 (us:List V):(us.map λ_=>true).all id=true:=by simp
theorem Wg {Q:VK}{H:Hp}{us:List V}(q:Q (.bl true) H):Q (.bl ((us.map λ_=>true).all id)) H:=by rw[R7];exact q
theorem Gn {J:It}{fr:List (Option Nat)}{g:TG}{tt:TT}{te:TE}{Q:VK}{σ:St}{H:Hp}(hJ:Pm J H [])(hQ:∀l,H l=none->Q (.ref l) (upd H l (.lst []))):Fm fr g tt te σ Q J H:=by
 intro l hl;refine⟨λi m σ' H'=>i=0/\H'=upd H l (.lst []),⟨0,rfl,rfl⟩,?_⟩
 rintro i m σ' H' ⟨rfl,rfl⟩
 exact .inl ⟨(hJ _ (Al hl _) 0).2.2 (ah _),hQ l hl⟩
theorem AF {t u:TS}{D:Ends}{σ:St}{H:Hp}(h:∀N,u D=N->t { D with nx:=N } σ H):V8 t u D σ H:=h _ rfl
def Jz (K:W.Frag):Sp:=λvs H Q _=>∃v t,vs=[v]/\Rep NL H (Ej t) v/\SO t/\Q (.bl true) H
theorem RP (T:Txt K mg Ab Ad Aa Ae XC)(F:Fun K "is_tag" "is_tag" LA f fd)(AC:Def P w K mg base 2 "is_between" ["thing","least","most"] (BA K))(Bx:Def P w K mg base 1 "is_tuple_of" ["thing","many"] (C8 K)):FnOk P w K mg base BI 3 f fd ["thing"] (Jz K):=by
 exists Sm
 ·obtain⟨v,t,rfl,_⟩:=h;rfl
 obtain⟨v,t,rfl,hv,ok,q⟩:=h;have okv:=NQ hv (GS ok 0);obtain⟨a,rfl,e⟩:=Em hv;obtain⟨⟨a1,a2⟩,⟨b1,b2⟩,c1,c2⟩:=ok;refine⟨_,(!Af (!AL (!Co (!BK (!AG Bx (by trivial) rfl (!Ac (pv 0) (!Ac (!Ai) (!Ah)))) (by intro _;rfl))) (!Ak (!Ao (!Ed))) (!Au)) (!Af (!AL (@PW.pt _ _ _ (!Fg (!Co (!BK (!AG AC (by trivial) rfl (!Ac (!Ax AE (pv 0) (!Ai) (λ_ _=>rfl)) (!Ac (!Ai) (!Ac (!AB rfl T.c_MOST_CELL) (!Ah))))) (by intro _;rfl))) (!DH (!Co (!BK (!AG AC (by trivial) rfl (!Ac (!Ax AE (pv 0) (!Ai) (λ_ _=>rfl)) (!Ac (!Ai) (!Ac (!AB rfl T.c_MOST_BIRTH) (!Ah))))) (by intro _;rfl)))))) (!Ak (!Ao (!Ed))) (!Au)) (!Ak (!Ao (!AG AC (by trivial) rfl (!Ac (!Ax AE (pv 0) (!Ai) (λ_ _=>rfl)) (!Ac (!Ai) (!Ac (!Ar Gu (!AB rfl T.c_SUM_RESTS) (!Ai)) (!Ah))))))))),?_⟩;refine⟨_,rfl,_,3,rfl,okv,_,rfl,AV (by rw[LR e];rfl) ?_⟩;dsimp only[O9,V8,Uk];have w1:Kz 1 999999 (.int t.1)=true:=by show(decide (1<=t.1)&&decide (t.1<=999999))=true;simp;lia
 have w2:Kz 0 999999999 (.int t.2.1)=true:=by show(decide (0<=t.2.1)&&decide (t.2.1<=999999999))=true;simp;lia
 have w3:Kz 0 996 (.int t.2.2)=true:=by show(decide (0<=t.2.2)&&decide (t.2.2<=996))=true;simp;lia
 refine OE (!Kz 1 999999 (.int t.1)) (!Kz 0 999999999 (.int t.2.1)) (λR q=>⟨_,rfl,a,_,_,_,rfl,rfl,A8.of e,rfl,_,1,999999,rfl,trivial,_,rfl,q⟩) (λ_ R q=>⟨_,rfl,a,_,_,_,rfl,rfl,A8.of e,rfl,_,0,999999999,rfl,trivial,_,rfl,q⟩) ?_;rw[w1,w2];refine AV rfl ?_;refine⟨_,rfl,a,_,_,_,rfl,rfl,A8.of e,rfl,_,_,rfl,rfl,_,0,996,rfl,trivial,?_⟩;rw[w3];exact q
def FW (K:W.Frag):Sp:=λvs H Q _=>∃v lv ts,vs=[v,.int lv]/\Rep NL H (.tup (ts.map Ej)) v/\Wh lv ts/\∀H',As H H'->Q (.bl true) H'
theorem KI (T:Txt K mg Ab Ad Aa Ae XC)(F:Fun K "are_row_tags" "are_row_tags" Ei f fd)(Gx:Def P w K mg base 3 "is_tag" ["thing"] (Jz K)):FnOk P w K mg base BI 4 f fd ["thing","level"] (FW K):=by
 exists KB
 ·obtain⟨v,lv,ts,rfl,_⟩:=h;rfl
 obtain⟨v,lv,ts,rfl,hv,ok,q⟩:=h;have okv:Ok H v:=NQ (n:=3) hv (by
  show(decide ((ts.map Ej).length<=100)&&(ts.map Ej).all (Ez 2))=true;rw[bq,aG,ab];refine⟨by have:=ok.1;lia,bZ.mpr λt ht=>?_⟩;obtain⟨x,hx,rfl⟩:=ae.mp ht;exact GS (ok.2.2 x hx) 0)
 have ety:=(GZ hv).tyN;obtain⟨a,us,rfl,e,r⟩:=hv;have lu:=AI.len _ _ r;rw[ab] at lu;obtain⟨o1,o2,o3⟩:=ok;have alls:∀(te:TE) (l0:Nat),True:=λ_ _=>trivial
 clear alls
 refine⟨_,(!Af (!AL (@PW.pt _ _ _ (!Fg (!Co (!BK (!Aq Cc (by rfl) T.b_isinstance Bz (!Ac (pv 0) (!Ac (!Kg rfl T.b_tuple Fe) (!Ah)))) (by intro _;rfl))) (!DH (!Aw FX (!Aq Az (by rfl) T.b_len AZ (!Ac (pv 0) (!Ah))) (!AB rfl T.c_MOST_TAGS) (Av _))))) (!Ak (!Ao (!Ed))) (!Au)) (!Af (!AL (@PW.pt _ _ _ (!TB (!Aw Bb (!Aq Az (by rfl) T.b_len AZ (!Ac (pv 0) (!Ah))) (!Ai) (Av _)) (!Rq (!Aw FX (pv 1) (!Ai) (Av _))))) (!Ak (!Ao (!Ed))) (!Au)) (!Ak (!Ao (!Aq (GA rfl) (by rfl) T.b_all Lj (!Ac (@Bl _ ["tag"] _ _ _ _ _ _ _ _ _ _ rfl (!Dr (pv 0)) (by decide +kernel) (λC s H fp=>⟨(@An _ _ (0) _ (show(["tag"]:List Str).Nodup by decide +kernel) rfl (by trivial) (by trivial)),(!AM),(!AG Gx (by trivial) rfl (!Ac (pv 0) (!Ah)))⟩) (by intro _;rfl)) (!Ah))))))),?_⟩;refine⟨_,rfl,_,_,_,_,rfl,okv.ty K,okv.kit K,_,rfl,AV (by rw[ety];show(!isA "tuple" "tuple")=false;decide) ?_⟩;refine⟨_,rfl,a,_,rfl,.inr (A8.of e),_,_,rfl,rfl,_,rfl,AV (aS (by lia)) ?_⟩;refine⟨_,rfl,a,_,rfl,.inr (A8.of e),rfl,_,rfl,Cs (λc=>?_) (λc=>?_)⟩
 ·have c':V.int (us.length:Int)=V.int 0:=dec_true c;have z:us.length=0:=by injection c' with c';lia
  have lz:¬1<lv:=λy=>o2 y (fh.mp (by lia))
  refine⟨_,rfl,_,_,rfl,rfl,_,rfl,AV (aS lz) ?_⟩;refine⟨_,rfl,a,rfl,⟨_,A8.of e⟩,comp_map (λ_=>V.bl true) (DA e) (by lia) (λx H' R hx s' hR=>?_) λl H7 n7 s7 h7=>?_⟩
  ·obtain⟨t,ht,rt⟩:=G4 r hx;exact⟨_,rfl,x,t,rfl,Rep.same s' _ _ rt,o3 t ht,hR H' (As.refl _)⟩
  ·exact⟨l,us.map λ_=>true,rfl,AJ.of (Wv h7),Wg (q H7 s7)⟩
 ·refine AV rfl ?_;refine⟨_,rfl,a,rfl,⟨_,A8.of e⟩,comp_map (λ_=>V.bl true) (DA e) (by lia) (λx H' R hx s' hR=>?_) λl H7 n7 s7 h7=>?_⟩
  ·obtain⟨t,ht,rt⟩:=G4 r hx;exact⟨_,rfl,x,t,rfl,Rep.same s' _ _ rt,o3 t ht,hR H' (As.refl _)⟩
  ·exact⟨l,us.map λ_=>true,rfl,AJ.of (Wv h7),Wg (q H7 s7)⟩
def Kl (K:W.Frag):Sp:=λ_ _ _ _=>False
theorem O3 (T:Txt K mg Ab Ad Aa Ae XC)(F:Fun K "is_entry" "is_entry" HR f fd)(AC:Def P w K mg base 2 "is_between" ["thing","least","most"] (BA K))(Gx:Def P w K mg base 3 "is_tag" ["thing"] (Jz K))(Bx:Def P w K mg base 1 "is_tuple_of" ["thing","many"] (C8 K))(MJ:Def P w K mg base 2 "is_name" ["thing"] (LS K)):FnOk P w K mg base BI 4 f fd ["thing"] (Kl K):=
 F.ok Pk (λvs H Q E h=>h.elim) (λcdv A outer s H vs Q E hr h=>h.elim)
def GG (K:W.Frag):Sp:=λvs H Q _=>∃a,vs=[.ref a]/\H a=some (.tup [])/\∀H',As H H'->Q (.bl true) H'
theorem LK (T:Txt K mg Ab Ad Aa Ae XC)(F:Fun K "are_entries" "are_entries" EV f fd)(HJ:Def P w K mg base 4 "is_entry" ["thing"] (Kl K)):FnOk P w K mg base BI 5 f fd ["thing"] (GG K):=by
 exists Gq
 ·obtain⟨a,rfl,_⟩:=h;rfl
 obtain⟨a,rfl,e,q⟩:=h;have hv:Rep NL H (.tup []) (.ref a):=⟨a,[],rfl,e,rfl⟩
 have okv:Ok H (.ref a):=NQ (n:=1) hv rfl;have ety:=(GZ hv).tyN;have hu:=BL hr;refine⟨_,(!Af (!AL (@PW.pt _ _ _ (!Fg (!Co (!BK (!Aq Cc (by rfl) T.b_isinstance Bz (!Ac (pv 0) (!Ac (!Kg rfl T.b_tuple Fe) (!Ah)))) (by intro _;rfl))) (!DH (!Aw FX (!Aq Az (by rfl) T.b_len AZ (!Ac (pv 0) (!Ah))) (!AB rfl T.c_MOST_ENTRIES) (Av _))))) (!Ak (!Ao (!Ed))) (!Au)) (!Af (!AL (!Co (!BK (!Aq (GA rfl) (by rfl) T.b_all Lj (!Ac (@Bl _ ["entry"] _ _ _ _ _ _ _ _ _ _ rfl (!Dr (pv 0)) (by decide +kernel) (λC s H fp=>⟨(@An _ _ (0) _ (show(["entry"]:List Str).Nodup by decide +kernel) rfl (by trivial) (by trivial)),(!AM),(!AG HJ (by trivial) rfl (!Ac (pv 0) (!Ah)))⟩) (by intro _;rfl)) (!Ah))) (by intro _;rfl))) (!Ak (!Ao (!Ed))) (!Au)) (!Af (@IF _ ["name","kind","tag"] (1) _ _ _ _ _ _ _ _ _ _ _ _ _ Gq.nd rfl (by trivial) rfl (!Dr (pv 0)) (by decide +kernel) (λC s H fp=>⟨(@Dx _ (K) _ _ _ _ (3) (by rfl) rfl (!AA (@An _ _ (0) _ (show(["name","kind","tag"]:List Str).Nodup by decide +kernel) rfl (by trivial) (by trivial)) (!AA (@An _ _ (1) _ (show(["name","kind","tag"]:List Str).Nodup by decide +kernel) rfl (by trivial) (by trivial)) (!AA (@An _ _ (2) _ (show(["name","kind","tag"]:List Str).Nodup by decide +kernel) rfl (by trivial) (by trivial)) (!BF)))) (by rfl) (by rfl)),(!AM),(pv 0)⟩) (by intro _;rfl) (by rfl) (by trivial)) (!Ak (!Ao (!BW (Xa hu) (pv 1) (!Aq (Qt (w:=w) (by rfl) rfl) (by rfl) T.b_sorted G0 (!Ac (!Cz (RB (w:=w) (K:=K) (by rfl) (by rfl) rfl) (by rfl) T.b_set WA (!Ac (pv 1) (!Ah))) (!Ah))) (Av _))))))),?_⟩;refine⟨_,rfl,_,_,_,_,rfl,okv.ty K,okv.kit K,_,rfl,AV (by rw[ety];show(!isA "tuple" "tuple")=false;decide) ?_⟩;refine⟨_,rfl,a,_,rfl,.inr (A8.of e),_,_,rfl,rfl,_,rfl,AV rfl ?_⟩;refine⟨_,rfl,a,rfl,⟨_,A8.of e⟩,Gn (DA e) λl hl=>?_⟩;have s1:=Al hl (.lst []);refine⟨l,[],rfl,AJ.of Ag,_,rfl,AV rfl ?_⟩;refine⟨_,rfl,a,rfl,⟨_,A8.of (s1.get e)⟩,Gn (DA (s1.get e)) λl2 hl2=>?_⟩;have s2:=Al hl2 (.lst []);refine⟨_,rfl,_,rfl,l2,rfl,AJ.of Ag,λp hp=>?_⟩;have s3:=Al hp (S0 w p);refine⟨p,rfl,Ag,λp2 hp2=>?_⟩;have s4:=Al hp2 (.lst []);refine⟨l2,p2,_,_,rfl,rfl,AJ.of (s4.get (s3.get Ag)),AJ.of Ag,rfl,rfl,?_⟩;exact q _ (((s1.trans s2).trans s3).trans s4)
def Ks (K:W.Frag):Sp:=λvs H Q _=>∃v b,vs=[v]/\Rep NL H (CI b) v/\Dl b/\∀H',As H H'->Q (.bl true) H'
theorem Pd (T:Txt K mg Ab Ad Aa Ae XC)(F:Fun K "is_block" "is_block" Ic f fd)(E2:Def P w K mg base 5 "are_entries" ["thing"] (GG K))(Bg:Def P w K mg base 1 "is_whole" ["thing"] (CY K))(Fb:Def P w K mg base 1 "is_text" ["thing","least","most"] (Ih K))(AC:Def P w K mg base 2 "is_between" ["thing","least","most"] (BA K))(D5:Def P w K mg base 4 "are_row_tags" ["thing","level"] (FW K)):FnOk P w K mg base BI 6 f fd ["thing"] (Ks K):=by
 exists Pn
 ·obtain⟨v,b,rfl,_⟩:=h;rfl
 obtain⟨v,b,rfl,hv,ok,q⟩:=h;have okv:Ok H v:=NQ hv (Jy ok);have ety:=(GZ hv).tyN;have tyt:G9 H v="tuple":=by rw[ety];cases b<;>rfl
 refine⟨_,(!Af (!AL (@PW.pt _ _ _ (!Fg (!Co (!BK (!Aq Cc (by rfl) T.b_isinstance Bz (!Ac (pv 0) (!Ac (!Kg rfl T.b_tuple Fe) (!Ah)))) (by intro _;rfl))) (!Fg (!Aw Bb (!Aq Az (by rfl) T.b_len AZ (!Ac (pv 0) (!Ah))) (!Ai) (Av _)) (!DH (!Co (!BK (!AG Bg (by trivial) rfl (!Ac (!Ax AE (pv 0) (!Ai) (λ_ _=>rfl)) (!Ah))) (by intro _;rfl))))))) (!Ak (!Ao (!Ed))) (!Au)) (!Af (!AL (!Aw Bb (!Ax AE (pv 0) (!Ai) (λ_ _=>rfl)) (!AB rfl T.c_PIECE) (Av _)) (!Ak (!Ao (!FM (!BW Bb (!Aq Az (by rfl) T.b_len AZ (!Ac (pv 0) (!Ah))) (!Ai) (Av _)) (!Fy (!AG Fb (by trivial) rfl (!Ac (!Ax AE (pv 0) (!Ai) (λ_ _=>rfl)) (!Ac (!Ai) (!Ac (!AB rfl T.c_MOST_PIECE_SIGNS) (!Ah))))))))) (!Au)) (!Af (!AL (!Aw Bb (!Ax AE (pv 0) (!Ai) (λ_ _=>rfl)) (!AB rfl T.c_ROW) (Av _)) (!Ak (!Ao (!FM (!BW Bb (!Aq Az (by rfl) T.b_len AZ (!Ac (pv 0) (!Ah))) (!Ai) (Av _)) (!FM (!AG AC (by trivial) rfl (!Ac (!Ax AE (pv 0) (!Ai) (λ_ _=>rfl)) (!Ac (!Ai) (!Ac (!AB rfl T.c_MOST_LEVEL) (!Ah))))) (!Fy (!AG D5 (by trivial) rfl (!Ac (!Ax AE (pv 0) (!Ai) (λ_ _=>rfl)) (!Ac (!Ax AE (pv 0) (!Ai) (λ_ _=>rfl)) (!Ah))))))))) (!Au)) (!Ak (!Ao (!FM (!BW Bb (!Ax AE (pv 0) (!Ai) (λ_ _=>rfl)) (!AB rfl T.c_FOLDER) (Av _)) (!FM (!BW Bb (!Aq Az (by rfl) T.b_len AZ (!Ac (pv 0) (!Ah))) (!Ai) (Av _)) (!Fy (!AG E2 (by trivial) rfl (!Ac (!Ax AE (pv 0) (!Ai) (λ_ _=>rfl)) (!Ah))))))))))),?_⟩;refine⟨_,rfl,_,_,_,_,rfl,okv.ty K,okv.kit K,_,rfl,AV (by rw[tyt];decide) ?_⟩;cases b with
 |piece z=>
  obtain⟨a,rfl,e⟩:=D2 hv;refine⟨_,rfl,a,_,rfl,.inr (A8.of e),rfl,_,rfl,AV rfl ?_⟩;refine⟨_,rfl,a,_,_,_,rfl,rfl,A8.of e,rfl,_,rfl,trivial,_,rfl,AV rfl ?_⟩;have ok':Ma 1 8 (.str z)=true:=ok;have zl:z.length<=1000:=by
   have h':(decide ((1:Int)<=(z.length:Int))&&decide ((z.length:Int)<=8)&&DR SG z)=true:=ok;simp only[Bool.and_eq_true,decide_eq_true_eq] at h'
   lia
  refine⟨_,rfl,a,_,_,_,rfl,rfl,A8.of e,rfl,rfl,_,rfl,Ci rfl ?_⟩;refine⟨_,rfl,a,_,rfl,.inr (A8.of e),rfl,_,rfl,Ci rfl ?_⟩;exact⟨_,rfl,a,_,_,_,rfl,rfl,A8.of e,rfl,_,1,8,rfl,zl,λH1 s1=>by rw[ok'];exact q H1 s1⟩
 |row lv ts=>
  obtain⟨a,b,us,rfl,e,e2,r⟩:=IE hv;obtain⟨⟨l1,l2⟩,ok2⟩:=ok;have w2:Kz 1 9 (.int lv)=true:=by show(decide (1<=lv)&&decide (lv<=9))=true;simp;lia
  refine⟨_,rfl,a,_,rfl,.inr (A8.of e),rfl,_,rfl,AV rfl ?_⟩;refine⟨_,rfl,a,_,_,_,rfl,rfl,A8.of e,rfl,_,rfl,trivial,_,rfl,AV rfl ?_⟩;refine⟨_,rfl,a,_,_,_,rfl,rfl,A8.of e,rfl,rfl,_,rfl,AV rfl ?_⟩;refine⟨_,rfl,a,_,_,_,rfl,rfl,A8.of e,rfl,rfl,_,rfl,Ci rfl ?_⟩;refine⟨_,rfl,a,_,rfl,.inr (A8.of e),rfl,_,rfl,Ci rfl ?_⟩;refine⟨_,rfl,a,_,_,_,rfl,rfl,A8.of e,rfl,_,1,9,rfl,trivial,_,rfl,Ci w2 ?_⟩;exact⟨_,rfl,a,_,_,_,rfl,rfl,A8.of e,rfl,_,rfl,a,_,_,_,rfl,rfl,A8.of e,rfl,_,lv,ts,rfl,⟨b,us,rfl,e2,r⟩,ok2,q⟩
 |folder=>
  obtain⟨a,b,rfl,e,e2⟩:=Dm hv;refine⟨_,rfl,a,_,rfl,.inr (A8.of e),rfl,_,rfl,AV rfl ?_⟩;refine⟨_,rfl,a,_,_,_,rfl,rfl,A8.of e,rfl,_,rfl,trivial,_,rfl,AV rfl ?_⟩;refine⟨_,rfl,a,_,_,_,rfl,rfl,A8.of e,rfl,rfl,_,rfl,AV rfl ?_⟩;refine⟨_,rfl,a,_,_,_,rfl,rfl,A8.of e,rfl,rfl,_,rfl,AV rfl ?_⟩;refine⟨_,rfl,a,_,_,_,rfl,rfl,A8.of e,rfl,rfl,_,rfl,Ci rfl ?_⟩;refine⟨_,rfl,a,_,rfl,.inr (A8.of e),rfl,_,rfl,Ci rfl ?_⟩;exact⟨_,rfl,a,_,_,_,rfl,rfl,A8.of e,rfl,b,rfl,e2,q⟩
def told:Bk->List Int
 | .piece z=>(A3 z).map idx
 | .row lv ts=>lv::ts.map (·.2.2)
 | .folder=>[]
theorem idx_map (z:Str):((z.cps.toList.map λc=>V.str ⟨#[c]⟩).map λv=>match v with|V.str y=>V.int (PySem.Txt.find SG y)|_=>V.non)=((A3 z).map idx).map V.int:=by
 rw[aI,aI];rfl
theorem ON:∀{ts:List Tg} {us:List V} {H:Hp},AI NL H (ts.map Ej) us->(us.map λv=>match v with | .ref x=>(match H x with|some (.tup [_,_,y])=>y|_=>.non)|_=>.non)=(ts.map (·.2.2)).map V.int
 |[],us,H,r=>by rw[show us=[] from r];rfl
 |e::es,us,H,r=>by
  obtain⟨v,us',rfl,r1,r2⟩:=r;obtain⟨a,rfl,e1⟩:=Em r1;rw[au,au,au,ON r2];simp only[e1]
def F0 (K:W.Frag):Sp:=λvs H Q _=>∃v b,vs=[v]/\Rep NL H (CI b) v/\Dl b/\∀l H',As H H'->H l=none->H' l=some (.lst ((told b).map V.int))->Q (.ref l) H'
theorem KH (T:Txt K mg Ab Ad Aa Ae XC)(F:Fun K "numbers_told" "numbers_told" Eb f fd)(AX:Def P w K mg base 1 "number_of" ["sign"] (CF K)):FnOk P w K mg base BI 2 f fd ["block"] (F0 K):=by
 exists Cg
 ·obtain⟨v,b,rfl,_⟩:=h;rfl
 obtain⟨v,b,rfl,hv,ok,q⟩:=h;refine⟨_,(!Af (!AL (!Aw Bb (!Ax AE (pv 0) (!Ai) (λ_ _=>rfl)) (!AB rfl T.c_PIECE) (Av _)) (!Ak (!Ao (@Bl _ ["sign"] _ _ _ _ _ _ _ _ _ _ rfl (!GC (!Ax AE (pv 0) (!Ai) (λ_ _=>rfl))) (by decide +kernel) (λC s H fp=>⟨(@An _ _ (0) _ (show(["sign"]:List Str).Nodup by decide +kernel) rfl (by trivial) (by trivial)),(!AM),(!AG AX (by trivial) rfl (!Ac (pv 0) (!Ah)))⟩) (by intro _;rfl)))) (!Au)) (!Af (!AL (!Aw Bb (!Ax AE (pv 0) (!Ai) (λ_ _=>rfl)) (!AB rfl T.c_ROW) (Av _)) (!Ak (!Ao (!Ar DY (!Be (!Ac (!Ax AE (pv 0) (!Ai) (λ_ _=>rfl)) (!Ah))) (@Bl _ ["tag"] _ _ _ _ _ _ _ _ _ _ rfl (!Dr (!Ax AE (pv 0) (!Ai) (λ_ _=>rfl))) (by decide +kernel) (λC s H fp=>⟨(@An _ _ (0) _ (show(["tag"]:List Str).Nodup by decide +kernel) rfl (by trivial) (by trivial)),(!AM),(!Ax (II (K:=K) (by rfl)) (pv 0) (!Ai) (λ_ _=>rfl))⟩) (by intro _;rfl))))) (!Au)) (!Af (@Ap _ _ (1) _ _ _ _ Cg.nd rfl (by trivial) (!Be (!Ah)) (by rfl) (by trivial)) (!Af (!Bn aU rfl (!Dr (!Ax AE (pv 0) (!Ai) (λ_ _=>rfl))) (!FD rfl (!AA (@An _ _ (2) _ Cg.nd rfl (by trivial) (by trivial)) (!AA (@An _ _ (3) _ Cg.nd rfl (by trivial) (by trivial)) (!AA (@An _ _ (4) _ Cg.nd rfl (by trivial) (by trivial)) (!BF))))) (!Af (!AN (!Ca aT dM dJ GX (pv 1) (!Ac (@Bl _ ["sign"] _ _ _ _ _ _ _ _ _ _ rfl (!GC (pv 2)) (by decide +kernel) (λC s H fp=>⟨(@An _ _ (0) _ (show(["sign"]:List Str).Nodup by decide +kernel) rfl (by trivial) (by trivial)),(!AM),(!AG AX (by trivial) rfl (!Ac (pv 0) (!Ah)))⟩) (by intro _;rfl)) (!Ah)))) (!Ak (!AN (!Ca aT dM dJ GX (pv 1) (!Ac (!Be (!Ac (pv 3) (!Ac (!Ax AE (pv 4) (!Ai) (λ_ _=>rfl)) (!Ah)))) (!Ah)))))) (by intro _;rfl)) (!Ak (!Ao (pv 1))))))),?_⟩;cases b with
 |piece z=>
  obtain⟨a,rfl,e⟩:=D2 hv;have h':(decide ((1:Int)<=(z.length:Int))&&decide ((z.length:Int)<=8)&&DR SG z)=true:=ok;simp only[Bool.and_eq_true,decide_eq_true_eq] at h';have zs:∀c∈A3 z,c∈A3 SG:=λc hc=>by simpa using bZ.mp h'.2 c hc
  refine⟨_,rfl,a,_,_,_,rfl,rfl,A8.of e,rfl,rfl,_,rfl,Ci rfl ?_⟩;refine⟨_,rfl,a,_,_,_,rfl,rfl,A8.of e,rfl,z,rfl,?_⟩;refine comp_map (λv=>match v with | .str y=>.int (PySem.Txt.find SG y)|_=>.non) IX (by rw[ab];exact aY (dB (AO z)) (by lia)) (λx H' R hx s' hR=>?_) λl H7 n7 s7 h7=>?_
  ·obtain⟨u,hu,rfl⟩:=ae.mp hx;exact⟨_,rfl,_,rfl,(HZ (zs u hu)).1,hR H' (As.refl _)⟩
  rw[idx_map] at h7;exact q l H7 s7 n7 h7
 |row lv ts=>
  obtain⟨a,b,us,rfl,e,e2,r⟩:=IE hv;have lu:=AI.len _ _ r;rw[ab] at lu;have l8:=ok.2.1;refine⟨_,rfl,a,_,_,_,rfl,rfl,A8.of e,rfl,rfl,_,rfl,AV rfl ?_⟩;refine⟨_,rfl,a,_,_,_,rfl,rfl,A8.of e,rfl,rfl,_,rfl,Ci rfl ?_⟩;refine⟨_,rfl,a,_,_,_,rfl,rfl,A8.of e,rfl,Qx,λp1 hp1=>?_⟩;have s1:=Al hp1 (.lst [V.int lv]);have e2':=s1.get e2;have r':=AI.same s1 _ _ r;refine⟨_,rfl,a,_,_,_,rfl,rfl,A8.of (s1.get e),rfl,b,rfl,⟨_,A8.of e2'⟩,comp_map (λv=>match v with | .ref x=>(match(upd H p1 (.lst [V.int lv])) x with|some (.tup [_,_,y])=>y|_=>.non)|_=>.non) (DA e2') (by lia) (λx H' R hx s' hR=>?_) λl H7 n7 s7 h7=>?_⟩
  ·obtain⟨t,ht,rt⟩:=G4 r' hx;obtain⟨c,rfl,ec⟩:=Em rt;have:=hR H' (As.refl _);simp only[ec] at this;exact⟨_,rfl,c,_,_,_,rfl,rfl,A8.of (s'.get ec),rfl,this⟩
  rw[ON r'] at h7;refine⟨p1,l,_,_,rfl,rfl,AJ.of (s7.get Ag),AJ.of h7,small (by rw[ab,ab];show 1+ts.length<=1000000;lia),λp hp=>?_⟩;exact q p _ ((s1.trans s7).trans (Al hp _)) ((s1.trans s7).free hp) Ag
 |folder=>
  obtain⟨a,b,rfl,e,e2⟩:=Dm hv;refine⟨_,rfl,a,_,_,_,rfl,rfl,A8.of e,rfl,rfl,_,rfl,AV rfl ?_⟩;refine⟨_,rfl,a,_,_,_,rfl,rfl,A8.of e,rfl,rfl,_,rfl,AV rfl ?_⟩;refine⟨Hf,λg hg=>?_⟩;have sg:=Al hg (.lst []);refine⟨_,rfl,a,_,_,_,rfl,rfl,A8.of (sg.get e),rfl,b,rfl,⟨_,A8.of (sg.get e2)⟩,K3 (K:=K) (a:=b) (xs:=[]) (λi σ H2=>σ=[some (.ref a),some (.ref g),none,none,none]/\H2=upd H g (.lst [])) ⟨rfl,rfl⟩ (λi σ H2 _ ⟨_,z⟩=>by rw[z];exact A8.of (sg.get e2)) (λi y σ H2 hi=>by cases hi) ?_⟩
  rintro σ H2 ⟨rfl,rfl⟩
  exact⟨_,rfl,q g _ sg hg Ag⟩
def kindB:Bk->Int
 | .piece _=>0
 | .row _ _=>1
 | .folder=>2
def AR (b:Bk):Int:=(told b).foldl (λt n=>(31*t+n+1)%997) (1+kindB b)
theorem Mi {H:Hp}{b:Bk}{v:V}(h:Rep NL H (CI b) v):∃a xs,v=.ref a/\H a=some (.tup (.int (kindB b)::xs)):=by
 cases b with
 |piece z=>obtain⟨a,rfl,e⟩:=D2 h;exact⟨a,_,rfl,e⟩
 |row lv ts=>obtain⟨a,b,us,rfl,e,_⟩:=IE h;exact⟨a,_,rfl,e⟩
 |folder=>obtain⟨a,b,rfl,e,_⟩:=Dm h;exact⟨a,_,rfl,e⟩
theorem Jm {x:V}{xs:List V}:He (x::xs) 0=some x:=by
 unfold He SC;simp
theorem ints_get {ns:List Int}{i:Nat}{y:V}(h:(ns.map V.int)[i]?=some y):∃n,y=.int n/\ns[i]?=some n:=by
 rw[aD] at h;cases z:ns[i]? with
 |none=>rw[z] at h;cases h
 |some n=>rw[z] at h;cases h;exact⟨n,rfl,rfl⟩
theorem JP {f:Int->Int->Int}{z:Int}{ns:List Int}{i:Nat}{n:Int}(h:ns[i]?=some n):(ns.take (i+1)).foldl f z=f ((ns.take i).foldl f z) n:=by
 rw[bg,h,eZ];rfl
def G3 (K:W.Frag):Sp:=λvs H Q _=>∃v b,vs=[v]/\Rep NL H (CI b) v/\Dl b/\∀H',As H H'->Q (.int (AR b)) H'
theorem Sy (T:Txt K mg Ab Ad Aa Ae XC)(F:Fun K "sum_of" "sum_of" Mm f fd)(D4:Def P w K mg base 2 "numbers_told" ["block"] (F0 K)):FnOk P w K mg base BI 3 f fd ["block"] (G3 K):=by
 exists G5
 ·obtain⟨v,b,rfl,_⟩:=h;rfl
 obtain⟨v,b,rfl,hv,ok,q⟩:=h;obtain⟨a,xs,rfl,e⟩:=Mi hv;refine⟨_,(!Af (@Ap _ _ (1) _ _ _ _ G5.nd rfl (by trivial) (!Ar Bu (!Ai) (!Ax AE (pv 0) (!Ai) (λ_ _=>rfl))) (by rfl) (by trivial)) (!Af (!Bn aU rfl (!A2 (!AG D4 (by trivial) rfl (!Ac (pv 0) (!Ah)))) (@An _ _ (2) _ G5.nd rfl (by trivial) (by trivial)) (!Ak (@Ap _ _ (1) _ _ _ _ G5.nd rfl (by trivial) (!Ar Bd (!Ar Bu (!Ar Bu (!Ar DN (!Ai) (pv 1)) (pv 2)) (!Ai)) (!AB rfl T.c_SUM_RESTS)) (by rfl) (by trivial))) (by intro _;rfl)) (!Ak (!Ao (pv 1))))),?_⟩;refine⟨_,rfl,a,_,_,_,rfl,rfl,A8.of e,Jm,_,_,rfl,rfl,?_⟩;refine⟨_,rfl,_,b,rfl,hv,ok,λl H1 s1 n1 h1=>?_⟩;refine⟨l,rfl,⟨_,AJ.of h1⟩,BD (K:=K) (a:=l) (xs:=(told b).map V.int) (λi σ H2=>∃v2,σ=[some (.ref a),some (.int (((told b).take i).foldl (λt n=>(31*t+n+1)%997) (1+kindB b))),v2]/\As H1 H2) ⟨none,rfl,As.refl _⟩ (by rintro i σ H2 _ ⟨_,_,s2⟩;exact AJ.of (s2.get h1)) ?_ ?_⟩
 ·rintro i y σ H2 hi ⟨v2,rfl,s2⟩
  obtain⟨n,rfl,hn⟩:=ints_get hi;refine⟨_,rfl,_,_,rfl,rfl,.inl ⟨by decide,by decide⟩,_,rfl,_,_,rfl,rfl,_,_,rfl,rfl,_,_,rfl,rfl,(show(0:Int)<997 by decide),?_⟩;refine⟨some (.int n),?_,s2⟩;rw[JP hn];rfl
 ·rintro σ H2 ⟨v2,rfl,s2⟩
  rw[ab,cM];exact⟨_,rfl,q H2 (s1.trans s2)⟩
theorem Sl (ts:List Tg):(wTs (ts.map Ej)).length=8*ts.length:=by
 induction ts with
 |nil=>rfl
 |cons t r ih=>
  rw[au];show(wT (Ej t)++wTs (r.map Ej)).length=_;rw[ar,ih,aL];have:(wT (Ej t)).length=8:=rfl
  lia
def Wi:Bk->Nat
 | .piece z=>6+z.length
 | .row _ ts=>8+8*ts.length
 | .folder=>6
theorem QN (b:Bk):(wT (CI b)).length=Wi b:=by
 cases b with
 |piece z=>
  show(2::(2:Int)::([0,0]++((1::(z.length:Int)::(A3 z).map idx)++[]))).length=6+z.length;simp only[List.length_cons,List.length_append,List.length_map,AO,List.length_nil]
  lia
 |row lv ts=>
  show(2::(3:Int)::([0,1]++([0,lv]++((2::((ts.map Ej).length:Int)::wTs (ts.map Ej))++[])))).length=8+8*ts.length;simp only[List.length_cons,List.length_append,List.length_nil,Sl]
  lia
 |folder=>rfl
theorem size_le {b:Bk}(h:Dl b):Wi b<=500:=by
 cases b with
 |piece z=>
  have h':(decide ((1:Int)<=(z.length:Int))&&decide ((z.length:Int)<=8)&&DR SG z)=true:=h;simp only[Bool.and_eq_true,decide_eq_true_eq] at h';show 6+z.length<=500
  lia
 |row lv ts=>
  have:=h.2.1;show 8+8*ts.length<=500
  lia
 |folder=>show 6<=500;decide
end
open M06 M10
section
variable {P:Program}{w:World}{K:W.Frag}{mg:Str->Option Value}{base:Heap}{f Ab Ad Aa Ae:Addr}{XC:Nat->Addr}{fd:FuncData}
def DM (K:W.Frag)(C:Addr):Sp:=λvs H Q _=>∃p ds bs n lf z,vs=[.ref p,.int z]/\FZ C H p ds bs n lf/\0<bs.length/\∀a,H a=none->Q (.ref a) (upd H a (.tup [.int (z%(bs.length:Int)),.int ((z+1)%(bs.length:Int))]))
theorem KO (T:Txt K mg Ab Ad Aa Ae XC)(F:Fun K "twins" "Boards.twins" Ea f fd)(BR:BJ P w K mg base 1 Ad "many" ["self"] (Ep K Ad)):FnOk P w K mg base BI 2 f fd ["self","number"] (DM K Ad):=by
 exists KC
 ·obtain⟨p,ds,bs,n,lf,z,rfl,_⟩:=h;rfl
 obtain⟨p,ds,bs,n,lf,z,rfl,hB,b0,q⟩:=h;obtain⟨dx,s0,h1,h2,h3,h4⟩:=id hB;refine⟨_,(!Ak (!Ao (!DE (!Ac (!Ar Bd (pv 1) (!Dy (pv 0) T.cl_Boards BR)) (!Ac (!Ar Bd (!Ar Bu (pv 1) (!Ai)) (!Dy (pv 0) T.cl_Boards BR)) (!Ah)))))),?_⟩;refine⟨_,rfl,_,rfl,p,dx,_,rfl,h1,rfl,p,ds,bs,n,lf,rfl,hB,_,_,rfl,rfl,(by lia),_,rfl,_,_,rfl,rfl,_,rfl,p,dx,_,rfl,h1,rfl,p,ds,bs,n,lf,rfl,hB,_,_,rfl,rfl,(by lia),Ms,λa ha=>q a ha⟩
def Dj (t:Tr):List Int:=wT t++[mk (wT t)]
def FS (z y:Int)(b:Bk):Tr:=.tup [.int z,.int y,CI b]
theorem VZ {b:Bk}(h:Dl b):Ez 7 (CI b)=true:=by
 cases b with
 |piece z=>
  have h':(decide ((1:Int)<=(z.length:Int))&&decide ((z.length:Int)<=8)&&DR SG z)=true:=h;simp only[Bool.and_eq_true,decide_eq_true_eq] at h';simp only[CI,Ez,List.all_cons,List.all_nil,List.length_cons,List.length_nil,Bool.and_true,Bool.and_eq_true,decide_eq_true_eq,h'.2,and_true]
  lia
 |row lv ts=>
  obtain⟨l,n,_,o⟩:=h;have d:(ts.map Ej).all (Ez 5)=true:=bZ.mpr λt ht=>by
   obtain⟨x,hx,rfl⟩:=ae.mp ht;exact GS (o x hx) 3
  simp only[CI,Ez,List.all_cons,List.all_nil,List.length_cons,List.length_nil,List.length_map,Bool.and_true,Bool.and_eq_true,decide_eq_true_eq,d,and_true]
  lia
 |folder=>rfl
def Jr (z y:Int):Prop:=(0<=z/\z<=999999999)/\0<=y/\y<=999999999
theorem KR {z y:Int}{b:Bk}(n:Jr z y)(h:Dl b):Ez 8 (FS z y b)=true:=by
 have d:=VZ h;obtain⟨⟨a1,a2⟩,a3,a4⟩:=n;show(decide (3<=100)&&((decide (0<=z)&&decide (z<=999999999))&&((decide (0<=y)&&decide (y<=999999999))&&(Ez 7 (CI b)&&true))))=true;simp only[d,Bool.and_true,Bool.and_eq_true,decide_eq_true_eq]
 lia
theorem QX {z y:Int}{b:Bk}(h:Dl b):(wT (FS z y b)).length<=600:=by
 have l:=QN b;have s:=size_le h;show(2::(3:Int)::([0,z]++([0,y]++(wT (CI b)++[])))).length<=600;simp only[List.length_cons,List.length_append,List.length_nil]
 lia
mutual
theorem Wc:∀(n:Nat) (t:Tr),Ez n t=true->∀x∈wT t,0<=x/\x<=2147483646
 |0,_,h=>nomatch h
 |n+1,.non,h=>nomatch h
 |n+1,.bl _,h=>nomatch h
 |n+1,.int i,h=>λx hx=>by
  have h':(decide (0<=i)&&decide (i<=999999999))=true:=h;simp only[Bool.and_eq_true,decide_eq_true_eq] at h';rcases aM.mp hx with rfl|hx
  ·lia
  ·rw[ag.mp hx];lia
 |n+1,.str z,h=>λx hx=>by
  obtain⟨zl,zs⟩:=K6 h;rcases aM.mp hx with rfl|hx
  ·lia
  rcases aM.mp hx with rfl|hx
  ·lia
  obtain⟨c,hc,rfl⟩:=ae.mp hx;have:=HZ (zs c hc)
  lia
 |n+1,.tup ts,h=>λx hx=>by
  have h':(decide (ts.length<=100)&&ts.all (Ez n))=true:=h;rw[bq,aG] at h';rcases aM.mp hx with rfl|hx
  ·lia
  rcases aM.mp hx with rfl|hx
  ·lia
  exact Uc n ts h'.2 x hx
 |n+1,.lst _,h=>nomatch h
theorem Uc:∀(n:Nat) (ts:List Tr),ts.all (Ez n)=true->∀x∈wTs ts,0<=x/\x<=2147483646
 |_,[],_=>λx hx=>nomatch hx
 |n,t::ts,h=>λx hx=>by
  rw[fV,bq] at h;rcases ai.mp hx with hx|hx
  ·exact Wc n t h.1 x hx
  ·exact Uc n ts h.2 x hx
end
theorem OZ {t:Tr}{n:Nat}(h:Ez n t=true):sound (Dj t)=true:=N3 (Wc n t h)
theorem HQ (t:Tr):(Dj t).dropLast=wT t:=by unfold Dj;rw[List.dropLast_concat]
theorem R6 (t:Tr):(Dj t).length=(wT t).length+1:=by unfold Dj;rw[ar];rfl
def Kk (K:W.Frag)(C:Addr):Sp:=λvs H Q _=>∃p ds bs n lf,∃(b:Nat) (z:Int),vs=[.ref p,.int (b:Int),.int z]/\FZ C H p ds bs n lf/\b<bs.length/\((Cm (bs.getD b []) z=none/\Q .non H)\/∃t,Cm (bs.getD b []) z=some (Dj t)/\Ez 8 t=true/\(wT t).length<=900/\∀v H',As H H'->Rep NL H' t v->Q v H')
theorem Ox (T:Txt K mg Ab Ad Aa Ae XC)(F:Fun K "thing_on" "thing_on" HX f fd)(E5:BJ P w K mg base 4 Ad "cell" ["self","board","number"] (Gk K Ad))(HW:Def P w K mg base 3 "unsealed" ["row"] (Kr K))(HE:Def P w K mg base 13 "thing_of" ["words"] (Ke K)):FnOk P w K mg base BI 14 f fd ["boards","board","number"] (Kk K Ad):=by
 exists Gi
 ·obtain⟨p,ds,bs,n,lf,b,z,rfl,_⟩:=h;rfl
 obtain⟨p,ds,bs,n,lf,b,z,rfl,hB,b1,q⟩:=h;obtain⟨dx,s0,h1,h2,h3,h4⟩:=id hB;refine⟨_,(!Af (@Ap _ _ (3) _ _ _ _ Gi.nd rfl (by trivial) (!A4 (pv 0) T.cl_Boards E5 (by trivial) (!Ac (pv 1) (!Ac (pv 2) (!Ah)))) (by rfl) (by trivial)) (!Af (!AL (!GE (!PR (pv 3)) (by first|exact C7 _ (by decide) (by decide)|rfl)) (!Ak (!Ao (!Eh))) (!Au)) (!Af (@Ap _ _ (4) _ _ _ _ Gi.nd rfl (by trivial) (!AG HW (by trivial) rfl (!Ac (pv 3) (!Ah))) (by rfl) (by trivial)) (!Af (!AL (!GE (!PR (pv 4)) (by first|exact C7 _ (by decide) (by decide)|rfl)) (!Ak (!Ao (!Eh))) (!Au)) (!Ak (!SQ ⟨rfl,rfl⟩ T.x_NoThing rfl (!QV (!QJ (!Ao (!AG HE (by trivial) rfl (!Ac (pv 4) (!Ah)))))) (!Au) (λe=>(!Ak (!Ao (!Eh)))))))))),?_⟩;refine⟨_,rfl,p,dx,_,rfl,h1,rfl,_,rfl,_,rfl,p,ds,bs,n,lf,b,z,rfl,hB,b1,?_⟩;rcases q with⟨g,q⟩|⟨t,g,it,wl,q⟩
 ·refine⟨λ_=>⟨_,rfl,_,rfl,Ci rfl q⟩,λrow e=>?_⟩;rw[g] at e;cases e
 ·refine⟨(λe=>by rw[g] at e;cases e),λrow e l hl=>?_⟩;rw[g] at e;cases e;have s1:=Al hl (.lst ((Dj t).map V.int));refine⟨_,rfl,_,rfl,AV rfl ?_⟩;refine⟨_,rfl,l,Dj t,rfl,Ag,by rw[R6];lia,(λz=>by rw[OZ it] at z;cases z),λ_ r H2 s2 nr hr2=>?_⟩;rw[HQ] at hr2;refine⟨_,rfl,_,rfl,AV rfl ?_⟩;exact⟨_,rfl,r,t,rfl,hr2,it,λv H3 s3 rv=>q v H3 ((s1.trans s2).trans s3) rv⟩
theorem MS (z y:Int)(b:Bk):(Dj (FS z y b))[5]?=some y:=rfl
theorem QG {z y:Int}(n:Jr z y):Ez 8 (.tup [.int z,.int y])=true:=by
 obtain⟨⟨a1,a2⟩,a3,a4⟩:=n;show(decide (2<=100)&&((decide (0<=z)&&decide (z<=999999999))&&((decide (0<=y)&&decide (y<=999999999))&&true)))=true;simp only[Bool.and_true,Bool.and_eq_true,decide_eq_true_eq]
 lia
def Gj (K:W.Frag)(C:Addr):Sp:=λvs H Q _=>∃p ds bs n lf,∃(b:Nat) (ta:Addr) (z y k:Int),vs=[.ref p,.int (b:Int),.ref ta]/\FZ C H p ds bs n lf/\b<bs.length/\H ta=some (.tup [.int z,.int y,.int k])/\
 ((Cm (bs.getD b []) z=none/\Q .non H)\/∃y' bk,Cm (bs.getD b []) z=some (Dj (FS z y' bk))/\Dl bk/\Jr z y'/\Jr z y/\(y'=y->AR bk=k)/\(y'=y->∀v H',As H H'->Rep NL H' (CI bk) v->Q v H')/\(y'≠y->∀H',As H H'->Q .non H'))
theorem Po (T:Txt K mg Ab Ad Aa Ae XC)(F:Fun K "block_on" "block_on" HC f fd)(HH:Def P w K mg base 14 "thing_on" ["boards","board","number"] (Kk K Ad))(Bx:Def P w K mg base 1 "is_tuple_of" ["thing","many"] (C8 K))(HF:Def P w K mg base 6 "is_block" ["thing"] (Ks K))(C6:Def P w K mg base 3 "sum_of" ["block"] (G3 K)):FnOk P w K mg base BI 15 f fd ["boards","board","tag"] (Gj K Ad):=by
 exists J9
 ·obtain⟨p,ds,bs,n,lf,b,ta,z,y,k,rfl,_⟩:=h;rfl
 obtain⟨p,ds,bs,n,lf,b,ta,z,y,k,rfl,hB,b1,ht,q⟩:=h;have hu9:=E4 hr;refine⟨_,(!Af (@Ap _ _ (3) _ _ _ _ J9.nd rfl (by trivial) (!AG HH (by trivial) rfl (!Ac (pv 0) (!Ac (pv 1) (!Ac (!Ax AE (pv 2) (!Ai) (λ_ _=>rfl)) (!Ah))))) (by rfl) (by trivial)) (!Af (!AL (@PW.pt _ _ _ (!Fg (!Co (!BK (!AG Bx (by trivial) rfl (!Ac (pv 3) (!Ac (!Ai) (!Ah)))) (by intro _;rfl))) (!DH (!Aw (W7 hu9) (!BN TQ (pv 3) (!Dv) (!BG (!Ai))) (!BN TQ (pv 2) (!Dv) (!BG (!Ai))) (Av _))))) (!Ak (!Ao (!Eh))) (!Au)) (!Af (!AL (@PW.pt _ _ _ (!Fg (!Co (!BK (!AG HF (by trivial) rfl (!Ac (!Ax AE (pv 3) (!Ai) (λ_ _=>rfl)) (!Ah))) (by intro _;rfl))) (!DH (!Aw MN (!AG C6 (by trivial) rfl (!Ac (!Ax AE (pv 3) (!Ai) (λ_ _=>rfl)) (!Ah))) (!Ax AE (pv 2) (!Ai) (λ_ _=>rfl)) (Av _))))) (!Ak (!Ao (!Eh))) (!Au)) (!Ak (!Ao (!Ax AE (pv 3) (!Ai) (λ_ _=>rfl))))))),?_⟩;refine⟨_,rfl,_,rfl,_,rfl,ta,_,_,_,rfl,rfl,A8.of ht,rfl,p,ds,bs,n,lf,b,z,rfl,hB,b1,?_⟩;rcases q with⟨g,q⟩|⟨y',bk,g,ok,nb,nb',es,q,qn⟩
 ·refine .inl ⟨g,?_⟩;exact⟨_,rfl,.non,3,rfl,trivial,_,rfl,Ci rfl q⟩
 ·refine .inr ⟨FS z y' bk,g,KR nb ok,by have:=QX (z:=z) (y:=y') ok;lia,λv H1 s1 rv=>?_⟩;obtain⟨a,us,rfl,e,u1,us,rfl,r1,u2,us,rfl,r2,u3,us,rfl,r3,rfl⟩:=rv;cases(show u1=V.int z from r1);cases(show u2=V.int y' from r2);have okv:Ok H1 (.ref a):=.inr ⟨_,e⟩;have ht1:=s1.get ht;refine⟨_,rfl,.ref a,3,rfl,okv,_,rfl,AV (by rw[LR e];rfl) ?_⟩;refine⟨_,rfl,2,rfl,a,_,rfl,A8.of e,(show ¬(HT.C0 3 0 none=0/\HT.C0 3 3 (some 2)=3) by decide),λp1 hp1=>?_⟩;have s2:=Al hp1 (.tup [V.int z,V.int y']);refine⟨_,rfl,2,rfl,ta,_,rfl,A8.of (s2.get ht1),(show ¬(HT.C0 3 0 none=0/\HT.C0 3 3 (some 2)=3) by decide),λp2 hp2=>?_⟩;have s3:=Al hp2 (.tup [V.int z,V.int y]);have s13:=s2.trans s3;refine⟨.tup [.int z,.int y'],.tup [.int z,.int y],QG nb,QG nb',⟨p1,_,rfl,s3.get Ag,_,_,rfl,rfl,_,_,rfl,rfl,rfl⟩,⟨p2,_,rfl,Ag,_,_,rfl,rfl,_,_,rfl,rfl,rfl⟩,?_⟩;rw[aC rfl]
  by_cases ey:y'=y
  ·subst ey;refine⟨_,rfl,AV (by rw[aH rfl];rfl) ?_⟩;have r3':=Rep.same s13 _ _ r3;have e3:=s13.get e;refine⟨_,rfl,a,_,_,_,rfl,rfl,A8.of e3,rfl,u3,bk,rfl,r3',ok,λH4 s4=>⟨_,rfl,AV rfl ?_⟩⟩;refine⟨_,rfl,a,_,_,_,rfl,rfl,A8.of (s4.get e3),rfl,u3,bk,rfl,Rep.same s4 _ _ r3',ok,λH5 s5=>?_⟩;have s45:=s4.trans s5;refine⟨_,rfl,ta,_,_,_,rfl,rfl,A8.of (s45.get (s13.get ht1)),rfl,rfl,_,rfl,AV (by rw[es rfl];simp) ?_⟩;exact⟨_,rfl,a,_,_,_,rfl,rfl,A8.of (s45.get e3),rfl,q rfl u3 H5 ((s1.trans s13).trans s45) (Rep.same s45 _ _ r3')⟩
  ·have ne:¬wT (.tup [.int z,.int y'])=wT (.tup [.int z,.int y]):=λh=>by
    have:some y'=some y:=congrArg (λl:List Int=>l[5]?) h;exact ey (aA this)
   exact⟨_,rfl,Ci (by rw[aS ne];rfl) (qn ey _ (s1.trans s13))⟩
def Lies (bs:List CJ)(z y:Int)(bk:Bk):Prop:=∀b,b<bs.length->Cm (bs.getD b []) z=none\/∃y' bk',Cm (bs.getD b []) z=some (Dj (FS z y' bk'))/\Dl bk'/\Jr z y'/\(y'=y->bk'=bk)
def hasB (bs:List CJ)(z y:Int)(b:Int):Bool:=match Cm (bs.getD b.toNat []) z with
 |some row=>decide (row[5]?=some y)
 |none=>false
def HM (bs:List CJ)(z:Int):List Int:=[z%(bs.length:Int),(z+1)%(bs.length:Int)]
theorem Ny {bs:List CJ}{z:Int}(h:0<bs.length):∀x∈HM bs z,0<=x/\x<(bs.length:Int):=λx hx=>by
 have e:x=z%(bs.length:Int)\/x=(z+1)%(bs.length:Int):=by simpa [HM] using hx
 rcases e with rfl|rfl
 ·exact⟨bJ _ (by lia),bS _ (by lia)⟩
 ·exact⟨bJ _ (by lia),bS _ (by lia)⟩
theorem Wx {H:Hp} {p ta:Addr} {ds:List Addr} {bs:List CJ} {n:Int} {lf:V} {z y:Int} {bk:Bk} {x:Int} {Q:VK} (hB:FZ Ad H p ds bs n lf) (x0:0<=x) (x1:x<(bs.length:Int)) (ht:H ta=some (.tup [.int z,.int y,.int (AR bk)])) (hl:Lies bs z y bk) (nb:Jr z y)
  (q0:hasB bs z y x=false->∀H',As H H'->Q .non H') (q1:hasB bs z y x=true->∀v H',As H H'->Rep NL H' (CI bk) v->Q v H'):Gj K Ad [.ref p,.int x,.ref ta] H Q E0:=by
 have ex:((x.toNat:Nat):Int)=x:=by lia
 refine⟨p,ds,bs,n,lf,x.toNat,ta,z,y,AR bk,by rw[ex],hB,by lia,ht,?_⟩;rcases hl x.toNat (by lia) with e|⟨y',bk',e,ok,nb',h⟩
 ·exact .inl ⟨e,q0 (by unfold hasB;rw[e]) H (As.refl _)⟩
 ·refine .inr ⟨y',bk',e,ok,nb',nb,λz=>by rw[h z],λz v H' s rv=>q1 ?_ v H' s (by rw[<-h z];exact rv),λz=>q0 ?_⟩
  ·unfold hasB;rw[e];exact aH (by rw[MS,z])
  ·unfold hasB;rw[e];exact aS (by rw[MS];exact λh=>z (aA h))
def Lb (K:W.Frag)(C:Addr):Sp:=λvs H Q _=>∃p ds bs n lf,∃(ta:Addr) (z y:Int) (bk:Bk),vs=[.ref p,.ref ta]/\FZ C H p ds bs n lf/\0<bs.length/\H ta=some (.tup [.int z,.int y,.int (AR bk)])/\Lies bs z y bk/\Jr z y/\(HM bs z).filter (hasB bs z y)≠[]/\∀v H',As H H'->Rep NL H' (CI bk) v->Q v H'
theorem PV (T:Txt K mg Ab Ad Aa Ae XC)(F:Fun K "fetched" "fetched" JQ f fd)(BX:BJ P w K mg base 2 Ad "twins" ["self","number"] (DM K Ad))(HG:Def P w K mg base 15 "block_on" ["boards","board","tag"] (Gj K Ad)):FnOk P w K mg base BI 16 f fd ["boards","tag"] (Lb K Ad):=by
 exists Ij
 ·obtain⟨p,ds,bs,n,lf,ta,z,y,bk,rfl,_⟩:=h;rfl
 obtain⟨p,ds,bs,n,lf,ta,z,y,bk,rfl,hB,b0,ht,hl,nb,q0,q⟩:=h;obtain⟨dx,s0,h1,h2,h3,h4⟩:=id hB;refine⟨_,(!Af (!Bn aU rfl (!Dr (!A4 (pv 0) T.cl_Boards BX (by trivial) (!Ac (!Ax AE (pv 1) (!Ai) (λ_ _=>rfl)) (!Ah)))) (@An _ _ (2) _ Ij.nd rfl (by trivial) (by trivial)) (!Af (@Ap _ _ (3) _ _ _ _ Ij.nd rfl (by trivial) (!AG HG (by trivial) rfl (!Ac (pv 0) (!Ac (pv 2) (!Ac (pv 1) (!Ah))))) (by rfl) (by trivial)) (!Ak (!AL (!GE (!Nw (pv 3)) (by first|exact C7 _ (by decide) (by decide)|rfl)) (!Ak (!Ao (pv 3))) (!Au)))) (by intro _;rfl)) (!Ak (!CL))),?_⟩;dsimp only[BM];refine⟨_,rfl,p,dx,_,rfl,h1,rfl,_,rfl,ta,_,_,_,rfl,rfl,A8.of ht,rfl,p,ds,bs,n,lf,z,rfl,hB,b0,λtp htp=>?_⟩;have s1:=Al htp (.tup [V.int (z%(bs.length:Int)),V.int ((z+1)%(bs.length:Int))]);have etp:(upd H tp (.tup [V.int (z%(bs.length:Int)),V.int ((z+1)%(bs.length:Int))])) tp=some (.tup ((HM bs z).map V.int)):=Ag;generalize upd H tp (.tup [V.int (z%(bs.length:Int)),V.int ((z+1)%(bs.length:Int))])=H0 at s1 etp;refine⟨tp,rfl,⟨_,A8.of etp⟩,K3 (K:=K) (a:=tp) (xs:=(HM bs z).map V.int) (λi σ H2=>∃v2 v3,σ=[some (.ref p),some (.ref ta),v2,v3]/\As H0 H2/\((HM bs z).take i).filter (hasB bs z y)=[]) ⟨none,none,rfl,As.refl _,rfl⟩ (by rintro i σ H2 _ ⟨_,_,_,s2,_⟩;exact A8.of (s2.get etp)) ?_ ?_⟩
 ·rintro i x σ H2 hi ⟨v2,v3,rfl,s2,hf⟩
  obtain⟨k,rfl,hk⟩:=ints_get hi;obtain⟨k0,k1⟩:=Ny b0 k (az hk);have u:=s1.trans s2;refine⟨_,rfl,_,rfl,_,rfl,?_⟩;dsimp only[OG,List.append_nil];refine Wx (hB.same u) k0 k1 (u.get ht) hl nb (λe H3 s3=>?_) (λe v H3 s3 rv=>?_)
  ·refine⟨_,rfl,_,rfl,AV rfl ?_⟩;refine⟨_,_,rfl,s2.trans s3,?_⟩;rw[bg,hk,eS,hf];show[k].filter (hasB bs z y)=[];rw[bM (by rw[e];exact aB),List.filter_nil]
  ·have nv:v≠.non:=by
    obtain⟨a,xs,rfl,_⟩:=Mi rv;intro z;cases z
   refine⟨_,rfl,_,rfl,Ci (by rw[aS nv];rfl) ?_⟩;exact⟨_,rfl,q v H3 (u.trans s3) rv⟩
 ·rintro σ H2 ⟨v2,v3,rfl,s2,hf⟩
  rw[aK (by rw[ab];exact ah _)] at hf;exact absurd hf q0
def wr (bs:List CJ)(z:Int)(row:List Int)(l:List Int):List CJ:=l.foldl (λbs x=>bs.set x.toNat (Ft (bs.getD x.toNat []) z row)) bs
theorem T3 (z:Int)(row:List Int):∀(l:List Int) (bs:List CJ),(wr bs z row l).length=bs.length
 |[],_=>rfl
 |x::l,bs=>by
  show(wr (bs.set _ _) z row l).length=_;rw[T3 z row l,fE]
theorem U4 (bs:List CJ)(z:Int)(row:List Int)(l:List Int)(x:Int):wr bs z row (l++[x])=(wr bs z row l).set x.toNat (Ft ((wr bs z row l).getD x.toNat []) z row):=by
 unfold wr;rw[eZ];rfl
theorem Lg {z:Int}{row:List Int}{M:Nat}:∀(l:List Int) {bs:List CJ},(∀c∈bs,c.length<=M)->∀c∈wr bs z row l,c.length<=M+l.length:=λl=>by
 induction l generalizing M with
 |nil=>intro bs h;exact h
 |cons x l ih=>
  intro bs h c hc;have:∀c∈bs.set x.toNat (Ft (bs.getD x.toNat []) z row),c.length<=M+1:=λc hc=>by
   rcases List.mem_or_eq_of_mem_set hc with hc|rfl
   ·have:=h c hc;lia
   ·have:=UK (bs.getD x.toNat []) z row;have:(bs.getD x.toNat []).length<=M:=by
     unfold List.getD;cases e:bs[x.toNat]? with
     |none=>exact aR _
     |some c=>exact h c (az e)
    lia
  have:=ih this c hc;rw[aL]
  lia
def S2 (K:W.Frag)(C:Addr):Sp:=λvs H Q _=>∃p ds bs n,∃(z y:Int) (bv:V) (bk:Bk),vs=[.ref p,.int z,.int y,bv]/\FZ C H p ds bs n .non/\0<bs.length/\(∀c∈bs,c.length<=90000)/\Rep NL H (CI bk) bv/\Dl bk/\Jr z y/\
 ∀H',FZ C H' p ds (wr bs z (Dj (FS z y bk)) (HM bs z)) (n+2) .non->Kb H H' p ds->Q .non H'
theorem WU (T:Txt K mg Ab Ad Aa Ae XC)(F:Fun K "lay" "lay" Te f fd)(Ln:Def P w K mg base 2 "sealed" ["words"] (MU K))(BX:BJ P w K mg base 2 Ad "twins" ["self","number"] (DM K Ad))(Cy:Def P w K mg base 9 "words_of" ["thing"] (Ge K))(El:BJ P w K mg base 4 Ad "write" ["self","board","number","row"] (FV K Ad)):FnOk P w K mg base BI 10 f fd ["boards","number","birth","block"] (S2 K Ad):=by
 exists Qy
 ·obtain⟨p,ds,bs,n,z,y,bv,bk,rfl,_⟩:=h;rfl
 obtain⟨p,ds,bs,n,z,y,bv,bk,rfl,hB,b0,bb,hv,ok,nb,q⟩:=h;refine⟨_,(!Af (@Ap _ _ (4) _ _ _ _ Qy.nd rfl (by trivial) (!AG Ln (by trivial) rfl (!Ac (!AG Cy (by trivial) rfl (!Ac (!DE (!Ac (pv 1) (!Ac (pv 2) (!Ac (pv 3) (!Ah))))) (!Ah))) (!Ah))) (by rfl) (by trivial)) (!Ak (!Bn aU rfl (!Dr (!A4 (pv 0) T.cl_Boards BX (by trivial) (!Ac (pv 1) (!Ah)))) (@An _ _ (5) _ Qy.nd rfl (by trivial) (by trivial)) (!Ak (!AN (!A4 (pv 0) T.cl_Boards El (by trivial) (!Ac (pv 5) (!Ac (pv 1) (!Ac (pv 4) (!Ah))))))) (by intro _;rfl)))),?_⟩;dsimp only[BM];refine⟨_,rfl,_,rfl,_,rfl,UF,λtr htr=>?_⟩;have s1:=Al htr (.tup [V.int z,V.int y,bv]);have hrec:Rep NL (upd H tr (.tup [V.int z,V.int y,bv])) (FS z y bk) (.ref tr):=⟨tr,_,rfl,Ag,_,_,rfl,rfl,_,_,rfl,rfl,_,_,rfl,Rep.same s1 _ _ hv,rfl⟩
 have rl:=QX (z:=z) (y:=y) ok;refine⟨.ref tr,FS z y bk,rfl,hrec,KR nb ok,by lia,λwl H2 s2 nw hw=>?_⟩;refine⟨wl,_,rfl,hw,by lia,λrw_ H3 s3 nr hrw=>?_⟩;have s03:=(s1.trans s2).trans s3;have hB3:=hB.same s03;obtain⟨dx,sh,h1,h2,h3,h4⟩:=id hB3;refine⟨_,rfl,p,dx,_,rfl,h1,rfl,_,rfl,p,ds,bs,n,.non,z,rfl,hB3,b0,λtp htp=>?_⟩;have s4:=Al htp (.tup [V.int (z%(bs.length:Int)),V.int ((z+1)%(bs.length:Int))]);have etp:(upd H3 tp (.tup [V.int (z%(bs.length:Int)),V.int ((z+1)%(bs.length:Int))])) tp=some (.tup ((HM bs z).map V.int)):=Ag;have hB4:=hB3.same s4;have hrw4:=s4.get hrw;have s04:=s03.trans s4;generalize upd H3 tp (.tup [V.int (z%(bs.length:Int)),V.int ((z+1)%(bs.length:Int))])=H4 at s4 etp hB4 hrw4 s04;obtain⟨dx4,sh4,g1,_,_,_⟩:=id hB4;have ntp:tp≠p:=AQ etp g1 (by intro z;cases z);have ndp:tp∉ds:=hB4.notin etp (by intro kvs z;cases z);have nrp:rw_≠p:=AQ hrw4 g1 (by intro z;cases z);have ndr:rw_∉ds:=hB4.notin hrw4 (by intro kvs z;cases z);refine⟨tp,rfl,⟨_,A8.of etp⟩,K3 (K:=K) (a:=tp) (xs:=(HM bs z).map V.int) (λi σ H2=>∃v5,σ=[some (.ref p),some (.int z),some (.int y),some bv,some (.ref rw_),v5]/\FZ Ad H2 p ds (wr bs z (Dj (FS z y bk)) ((HM bs z).take i)) (n+(i:Int)) .non/\Kb H4 H2 p ds) ⟨none,rfl,by rw[dA,show n+((0:Nat):Int)=n by lia];exact hB4,λ_ _ h _ _=>h⟩ (by rintro i σ H2 _ ⟨_,_,_,k2⟩;exact A8.of (k2 _ _ etp ntp ndp)) ?_ ?_⟩
 ·rintro i x σ H5 hi ⟨v5,rfl,hB5,k5⟩
  obtain⟨k,rfl,hk⟩:=ints_get hi;obtain⟨k0,k1⟩:=Ny b0 k (az hk);have i2:i<2:=(aj.mp hk).1;have ek:((k.toNat:Nat):Int)=k:=by lia
  obtain⟨dx5,sh5,e1,e2,e3,e4⟩:=id hB5;refine⟨_,rfl,p,dx5,_,rfl,e1,rfl,_,rfl,_,rfl,_,rfl,p,ds,_,_,k.toNat,z,rw_,Dj (FS z y bk),by rw[ek];rfl,hB5,by rw[T3];lia,λc hc=>?_,k5 _ _ hrw4 nrp ndr,λH6 hB6 k6=>?_⟩
  ·have:=Lg _ bb c hc;have:((HM bs z).take i).length<=2:=by rw[bu];exact aY (Nat.min_le_right _ _) (ah 2)
   lia
  ·refine⟨_,rfl,?_,k5.trans k6⟩;rw[bg,hk];show FZ _ _ _ _ (wr bs z _ ((HM bs z).take i++[k])) _ _;rw[U4,show n+((i+1:Nat):Int)=n+(i:Int)+1 by lia];exact hB6
 ·rintro σ H5 ⟨v5,rfl,hB5,k5⟩
  rw[aK (by rw[ab];exact ah _)] at hB5;exact q H5 hB5 ((As.kb s04 p ds).trans k5)
end
open M06 M10
section
variable {P:Program}{w:World}{K:W.Frag}{mg:Str->Option Value}{base:Heap}{f Ab Ad Aa Ae:Addr}{XC:Nat->Addr}{fd:FuncData}
def Lo (K:W.Frag):Sp:=λvs H Q _=>∃v b,vs=[v]/\Rep NL H (CI b) v/\Dl b/\∀H',As H H'->Q (.int ((wT (CI b)).length:Int)) H'
theorem PK (T:Txt K mg Ab Ad Aa Ae XC)(F:Fun K "size_of" "size_of" Ju f fd)(Cy:Def P w K mg base 9 "words_of" ["thing"] (Ge K)):FnOk P w K mg base BI 10 f fd ["block"] (Lo K):=by
 exists QB
 ·obtain⟨v,b,rfl,_⟩:=h;rfl
 obtain⟨v,b,rfl,hv,ok,q⟩:=h;refine⟨_,(!Ak (!Ao (!Aq Az (by rfl) T.b_len AZ (!Ac (!AG Cy (by trivial) rfl (!Ac (pv 0) (!Ah))) (!Ah))))),?_⟩
 try dsimp only[BM,Cx.nox,Cx.wish]
 have:=QN b;have:=size_le ok;refine⟨_,rfl,v,CI b,rfl,hv,Jy ok,by lia,λwl H2 s2 nw hw=>⟨wl,_,rfl,.inl (AJ.of hw),?_⟩⟩;rw[ab];exact q _ s2
def AK:Bk->List Tg
 | .piece _=>[]
 | .row _ ts=>ts
 | .folder=>[]
def Qf (H:Hp):V->V
 | .ref a=>match H a with
  |some (.tup [_,_,t])=>t
  |_=>.non
 |_=>.non
theorem O4 {H:Hp}{a:Addr}{x y z:V}(h:H a=some (.tup [x,y,z])):Qf H (.ref a)=z:=by
 show(match H a with|some (.tup [_,_,t])=>t|_=>V.non)=z;rw[h]
def Ew (K:W.Frag):Sp:=λvs H Q _=>∃v b,vs=[v]/\Rep NL H (CI b) v/\Dl b/\∀l us H',As H H'->H l=none->H' l=some (.lst us)->AI NL H' ((AK b).map Ej) us->Q (.ref l) H'
theorem Qn (T:Txt K mg Ab Ad Aa Ae XC)(F:Fun K "tags_in" "tags_in" Jw f fd):FnOk P w K mg base BI 1 f fd ["block"] (Ew K):=by
 exists QE
 ·obtain⟨v,b,rfl,_⟩:=h;rfl
 obtain⟨v,b,rfl,hv,ok,q⟩:=h;refine⟨_,(!Af (!AL (!Aw Bb (!Ax AE (pv 0) (!Ai) (λ_ _=>rfl)) (!AB rfl T.c_PIECE) (Av _)) (!Ak (!Ao (!Be (!Ah)))) (!Au)) (!Af (!AL (!Aw Bb (!Ax AE (pv 0) (!Ai) (λ_ _=>rfl)) (!AB rfl T.c_ROW) (Av _)) (!Ak (!Ao (!Cz DZ (by rfl) T.b_list K1 (!Ac (!Ax AE (pv 0) (!Ai) (λ_ _=>rfl)) (!Ah))))) (!Au)) (!Ak (!Ao (@Bl _ ["name","kind","tag"] _ _ _ _ _ _ _ _ _ _ rfl (!Dr (!Ax AE (pv 0) (!Ai) (λ_ _=>rfl))) (by decide +kernel) (λC s H fp=>⟨(@Dx _ (K) _ _ _ _ (3) (by rfl) rfl (!AA (@An _ _ (0) _ (show(["name","kind","tag"]:List Str).Nodup by decide +kernel) rfl (by trivial) (by trivial)) (!AA (@An _ _ (1) _ (show(["name","kind","tag"]:List Str).Nodup by decide +kernel) rfl (by trivial) (by trivial)) (!AA (@An _ _ (2) _ (show(["name","kind","tag"]:List Str).Nodup by decide +kernel) rfl (by trivial) (by trivial)) (!BF)))) (by rfl) (by rfl)),(!AM),(pv 2)⟩) (by intro _;rfl)))))),?_⟩
 try dsimp only[BM,Cx.nox,Cx.wish]
 cases b with
 |piece z=>
  obtain⟨a,rfl,e⟩:=D2 hv;refine⟨_,rfl,a,_,_,_,rfl,rfl,A8.of e,rfl,rfl,_,rfl,Ci rfl ?_⟩;exact⟨Hf,λl hl=>q l [] _ (Al hl _) hl Ag rfl⟩
 |row lv ts=>
  obtain⟨a,d,us,rfl,e,e2,r⟩:=IE hv;refine⟨_,rfl,a,_,_,_,rfl,rfl,A8.of e,rfl,rfl,_,rfl,AV rfl ?_⟩;refine⟨_,rfl,a,_,_,_,rfl,rfl,A8.of e,rfl,rfl,_,rfl,Ci rfl ?_⟩;exact⟨_,rfl,a,_,_,_,rfl,rfl,A8.of e,rfl,d,_,rfl,.inr (A8.of e2),λl hl=>q l us _ (Al hl _) hl Ag (AI.same (Al hl _) _ _ r)⟩
 |folder=>
  obtain⟨a,d,rfl,e,e2⟩:=Dm hv;refine⟨_,rfl,a,_,_,_,rfl,rfl,A8.of e,rfl,rfl,_,rfl,AV rfl ?_⟩;refine⟨_,rfl,a,_,_,_,rfl,rfl,A8.of e,rfl,rfl,_,rfl,AV rfl ?_⟩;exact⟨_,rfl,a,_,_,_,rfl,rfl,A8.of e,rfl,d,rfl,⟨_,A8.of e2⟩,Gn (DA e2) λl hl=>q l [] _ (Al hl _) hl Ag rfl⟩
def CM (t:Addr)(n:Int)(l:Addr)(k e s:Int):List (Str×V):=[("own_tag",.ref t),("own_size",.int n),("named",.ref l),("times_named",.int k),("entries_beneath",.int e),("steps_beneath",.int s)]
def EH (K:W.Frag)(C:Addr):Sp:=λvs H Q _=>∃(x dx ta:Addr) (v:V) (b:Bk),vs=[.ref x,.ref ta,v]/\H x=some (.ins C dx [])/\Rep NL H (CI b) v/\Dl b/\
 ∀l us H',(∀c o,H c=some o->c≠x->H' c=some o)->H l=none->H' l=some (.lst us)->AI NL H' ((AK b).map Ej) us->H' x=some (.ins C dx (CM ta ((wT (CI b)).length:Int) l 0 0 0))->Q .non H'
theorem IL (T:Txt K mg Ab Ad Aa Ae XC)(F:Fun K "__init__" "TakenCell.__init__" Dp f fd)(JG:Def P w K mg base 10 "size_of" ["block"] (Lo K))(BY:Def P w K mg base 1 "tags_in" ["block"] (Ew K)):FnOk P w K mg base BI 11 f fd ["self","own_tag","block"] (EH K Aa):=by
 exists I0
 ·obtain⟨x,dx,ta,v,b,rfl,_⟩:=h;rfl
 obtain⟨x,dx,ta,v,b,rfl,hx,hv,ok,q⟩:=h;refine⟨_,(!Af (!Cd (pv 0) (pv 1)) (!Af (!Cd (pv 0) (!AG JG (by trivial) rfl (!Ac (pv 2) (!Ah)))) (!Af (!Cd (pv 0) (!AG BY (by trivial) rfl (!Ac (pv 2) (!Ah)))) (!Af (!Cd (pv 0) (!Ai)) (!Af (!Cd (pv 0) (!Ai)) (!Ak (!Cd (pv 0) (!Ai)))))))),?_⟩
 try dsimp only[BM,Cx.nox,Cx.wish]
 have tp:∀(o:HO) c ys,H c=some (.tup ys)->(upd H x o) c=some (.tup ys):=λo c ys h=>by rw[Aj (AQ h hx (by intro z;cases z))];exact h
 refine⟨_,rfl,_,rfl,x,Aa,dx,[],rfl,hx,T.cl_TakenCell,T.n_TakenCell_own_tag,(by show 0<1000;decide),?_⟩;refine⟨_,rfl,v,b,rfl,De (tp _) _ _ hv,ok,λH1 s1=>⟨_,rfl,x,Aa,dx,_,rfl,s1.get Ag,T.cl_TakenCell,T.n_TakenCell_own_size,(by show 1<1000;decide),?_⟩⟩;have hx1:∀o,(upd H1 x o) x=some o:=λo=>Ag
 have k1:∀o c u,H c=some u->c≠x->(upd H1 x o) c=some u:=λo c u h n=>by rw[Aj n];exact s1.get (by rw[Aj n];exact h)
 refine⟨_,rfl,v,b,rfl,De (λc ys h=>k1 _ c _ h (AQ h hx (by intro z;cases z))) _ _ hv,ok,λl us H2 s2 nl hl r=>⟨_,rfl,x,Aa,dx,_,rfl,s2.get (hx1 _),T.cl_TakenCell,T.n_TakenCell_named,(by show 2<1000;decide),?_⟩⟩;have nlx:l≠x:=λz=>by rw[z,hx1] at nl;cases nl
 refine⟨_,rfl,x,Aa,dx,_,rfl,Ag,T.cl_TakenCell,T.n_TakenCell_times_named,(by show 3<1000;decide),?_⟩;refine⟨_,rfl,x,Aa,dx,_,rfl,Ag,T.cl_TakenCell,T.n_TakenCell_entries_beneath,(by show 4<1000;decide),?_⟩;refine⟨_,rfl,x,Aa,dx,_,rfl,Ag,T.cl_TakenCell,T.n_TakenCell_steps_beneath,(by show 5<1000;decide),?_⟩;rw[ED,ED,ED];have nlH:H l=none:=by
  cases h:H l with
  |none=>rfl
  |some o=>rw[k1 _ l o h nlx] at nl;cases nl
 refine q l us _ (λc o h n=>by rw[Aj n];exact s2.get (k1 _ c o h n)) nlH (by rw[Aj nlx];exact hl) (Bf (λc ys h=>?_) _ _ r) Ag;rw[Aj (λz=>by have:=s2.get (hx1 (.ins Aa dx (DB "own_size" (V.int ((wT (CI b)).length:Int)) (DB "own_tag" (V.ref ta) []))));rw[z,this] at h;cases h)];exact h
def Hn (bo dt dz dd:Addr)(n:Int):List (Str×V):=[("boards",.ref bo),("taken",.ref dt),("by_sums",.ref dz),("draft",.ref dd),("first_maybe_free",.int n)]
def IJ (K:W.Frag)(C:Addr):Sp:=λvs H Q _=>∃(x dx bo:Addr),vs=[.ref x,.ref bo]/\H x=some (.ins C dx [])/\
 ∀dt dz dd H',(∀c o,H c=some o->c≠x->H' c=some o)->dt≠dz->dt≠dd->dz≠dd->H' dt=some (.dK [])->H' dz=some (.dK [])->H' dd=some (.dK [])->H' x=some (.ins C dx (Hn bo dt dz dd 1))->(H dt=none/\H dz=none/\H dd=none)->Q .non H'
theorem N6 (T:Txt K mg Ab Ad Aa Ae XC)(F:Fun K "__init__" "Pool.__init__" F8 f fd):FnOk P w K mg base BI 1 f fd ["self","boards"] (IJ K Ae):=by
 exists NX
 ·obtain⟨x,dx,bo,rfl,_⟩:=h;rfl
 obtain⟨x,dx,bo,rfl,hx,q⟩:=h;refine⟨_,(!Af (!Cd (pv 0) (pv 1)) (!Af (!Cd (pv 0) (!Ek)) (!Af (!Cd (pv 0) (!Ek)) (!Af (!Cd (pv 0) (!Ek)) (!Ak (!Cd (pv 0) (!Ai))))))),?_⟩
 try dsimp only[BM,Cx.nox,Cx.wish]
 refine⟨_,rfl,_,rfl,x,Ae,dx,[],rfl,hx,T.cl_Pool,T.n_Pool_boards,(by show 0<1000;decide),?_⟩;refine λdt hdt=>?_
 have n1:dt≠x:=λz=>by rw[z,Ag] at hdt;cases hdt
 refine⟨_,rfl,x,Ae,dx,_,rfl,(Al hdt _).get Ag,T.cl_Pool,T.n_Pool_taken,(by show 1<1000;decide),?_⟩;refine λdz hdz=>?_
 have n2:dz≠x:=λz=>by rw[z,Ag] at hdz;cases hdz
 have e1:dz≠dt:=λz=>by rw[z,Aj n1,Ag] at hdz;cases hdz
 refine⟨_,rfl,x,Ae,dx,_,rfl,(Al hdz _).get Ag,T.cl_Pool,T.n_Pool_by_sums,(by show 2<1000;decide),?_⟩;refine λdd hdd=>?_
 have n3:dd≠x:=λz=>by rw[z,Ag] at hdd;cases hdd
 have e2:dd≠dz:=λz=>by rw[z,Aj n2,Ag] at hdd;cases hdd
 have e3:dd≠dt:=λz=>by rw[z,Aj n1,Aj (Ne.symm e1),Aj n1,Ag] at hdd;cases hdd
 refine⟨_,rfl,x,Ae,dx,_,rfl,(Al hdd _).get Ag,T.cl_Pool,T.n_Pool_draft,(by show 3<1000;decide),?_⟩;refine⟨_,rfl,x,Ae,dx,_,rfl,Ag,T.cl_Pool,T.n_Pool_first_maybe_free,(by show 4<1000;decide),?_⟩;refine q dt dz dd _ (λc o h n=>?_) (Ne.symm e1) (Ne.symm e3) (Ne.symm e2) ?_ ?_ ?_ Ag ⟨by rw[Aj n1] at hdt;exact hdt,by rw[Aj n2,Aj e1,Aj n2] at hdz;exact hdz,by rw[Aj n3,Aj e2,Aj n3,Aj e3,Aj n3] at hdd;exact hdd⟩
 ·have a1:c≠dt:=λz=>by rw[<-z,Aj n,h] at hdt;cases hdt
  have b1:=h;have a2:c≠dz:=λz=>by rw[<-z,Aj n,Aj a1,Aj n,h] at hdz;cases hdz
  have a3:c≠dd:=λz=>by rw[<-z,Aj n,Aj a2,Aj n,Aj a1,Aj n,h] at hdd;cases hdd
  rw[Aj n,Aj n,Aj a3,Aj n,Aj a2,Aj n,Aj a1,Aj n];exact h
 ·rw[Aj n1,Aj n1,Aj (Ne.symm e3),Aj n1,Aj (Ne.symm e1),Aj n1,Ag]
 ·rw[Aj n2,Aj n2,Aj (Ne.symm e2),Aj n2,Ag]
 ·rw[Aj n3,Aj n3,Ag]
structure Cl where
 z:Int
 y:Int
 bk:Bk
 v:V
 c:Addr
 dx:Addr
 ta:Addr
 l:Addr
 k:Int
 en:Int
 st:Int
structure Pl where
 dp:Addr
 bo:Addr
 dt:Addr
 dz:Addr
 dd:Addr
 n:Int
 D:List Int
def Js (C:Addr)(H:Hp)(e:Cl):Prop:=H e.c=some (.ins C e.dx (CM e.ta ((wT (CI e.bk)).length:Int) e.l e.k e.en e.st))/\H e.ta=some (.tup [.int e.z,.int e.y,.int (AR e.bk)])/\Rep NL H (CI e.bk) e.v/\Dl e.bk
def Jo (cs:List Cl):List (Key×V):=cs.map λe=>(Sum.inl e.z,.ref e.c)
def Hu (D:List Int)(cs:List Cl):List (Key×V):=(cs.filter λe=>decide (e.z∈D)).map λe=>(Sum.inl e.z,e.v)
def Fk (CP CT:Addr)(H:Hp)(p:Addr)(q:Pl)(cs:List Cl):Prop:=H p=some (.ins CP q.dp (Hn q.bo q.dt q.dz q.dd q.n))/\H q.dt=some (.dK (Jo cs))/\(∀e∈cs,Js CT H e)/\(cs.map (·.z)).Nodup
theorem LJ {κ:Type}[DecidableEq κ]:∀{kvs:List (κ×V)} (_:(kvs.map (·.1)).Nodup) {k:κ} {v:V},(k,v)∈kvs->BB kvs k=some v
 |[],_,_,_,h=>nomatch h
 |x::kvs,nd,k,v,h=>by
  rw[au,bF] at nd;rcases aM.mp h with rfl|h
  ·exact Gb rfl
  ·rw[Gw (λe=>nd.1 (by rw[e];exact ae.mpr ⟨_,h,rfl⟩))];exact LJ nd.2 h
theorem JD {g:Cl->V}:∀{cs:List Cl},(cs.map (·.z)).Nodup->((cs.map λe=>((Sum.inl e.z:Key),g e)).map (·.1)).Nodup
 |[],_=>cI
 |e::cs,h=>by
  rw[au,bF] at h;rw[au,au,bF];refine⟨λq=>h.1 ?_,JD h.2⟩;obtain⟨x,hx,e1⟩:=ae.mp q;obtain⟨u,hu,rfl⟩:=ae.mp hx;exact ae.mpr ⟨u,hu,cH e1⟩
theorem Hv {cs:List Cl}(nd:(cs.map (·.z)).Nodup){e:Cl}(h:e∈cs):BB (Jo cs) (Sum.inl e.z)=some (.ref e.c):=LJ (JD nd) (ae.mpr ⟨e,h,rfl⟩)
theorem To {D:List Int}{cs:List Cl}(nd:(cs.map (·.z)).Nodup){e:Cl}(h:e∈cs)(hD:e.z∈D):BB (Hu D cs) (Sum.inl e.z)=some e.v:=LJ (JD ((List.filter_sublist.map _).nodup nd)) (ae.mpr ⟨e,bH.mpr ⟨h,aH hD⟩,rfl⟩)
theorem V2 {D:List Int}{cs:List Cl}{z:Int}(hD:z∉D):BB (Hu D cs) (Sum.inl z)=none:=by
 unfold BB;rw[dg,di];intro x hx y;obtain⟨e,he,rfl⟩:=ae.mp hx;have:=cH (bf y);exact hD (this▸bf (bH.mp he).2)
def Wt (CB:Addr)(H:Hp)(q:Pl)(cs:List Cl):Prop:=∃ds bs n lf,FZ CB H q.bo ds bs n lf/\0<bs.length/\∀e∈cs,e.z∉q.D->Lies bs e.z e.y e.bk/\Jr e.z e.y/\(HM bs e.z).filter (hasB bs e.z e.y)≠[]
theorem Wt.same {CB:Addr}{H H':Hp}{q:Pl}{cs:List Cl}(s:As H H')(h:Wt CB H q cs):Wt CB H' q cs:=by
 obtain⟨ds,bs,n,lf,hB,r⟩:=h;exact⟨ds,bs,n,lf,hB.same s,r⟩
def EM (K:W.Frag)(CP CT:Addr):Sp:=λvs H Q _=>∃p q cs e,vs=[.ref p,.int e.z]/\Fk CP CT H p q cs/\e∈cs/\Q (.ref e.ta) H
theorem OF (T:Txt K mg Ab Ad Aa Ae XC)(F:Fun K "tag" "Pool.tag" HU f fd):FnOk P w K mg base BI 1 f fd ["self","number"] (EM K Ae Aa):=by
 exists Ov
 ·obtain⟨p,q,cs,e,rfl,_⟩:=h;rfl
 obtain⟨p,q,cs,e,rfl,⟨h1,h2,h4,nd⟩,he,hq⟩:=h;have hu:=BL hr;refine⟨_,(!Ak (!Ao (!AU (!EF hu (!AU (pv 0)) (pv 1) (λ_ _=>rfl))))),?_⟩
 try dsimp only[BM,Cx.nox,Cx.wish]
 have g:CN H q.dt (.int e.z) (some (.ref e.c)):=by
  have:=CN.k (k:=Sum.inl e.z) h2;rw[Hv nd he] at this;exact this
 exact⟨_,rfl,p,Ae,q.dp,_,_,rfl,h1,T.cl_Pool,T.n_Pool_taken,rfl,_,rfl,q.dt,_,rfl,g,e.c,Aa,e.dx,_,_,rfl,(h4 e he).1,T.cl_TakenCell,T.n_TakenCell_own_tag,rfl,hq⟩
def FY (K:W.Frag)(_CP _CT:Addr):Sp:=λ_ _ _ _=>False
theorem KG (T:Txt K mg Ab Ad Aa Ae XC)(F:Fun K "entries" "Pool.entries" D8 f fd):FnOk P w K mg base BI 1 f fd ["self","number"] (FY K Ae Aa):=
 F.ok KA (λvs H Q E h=>h.elim) (λcdv A outer s H vs Q E hr h=>h.elim)
def IT (K:W.Frag)(_CP _CT:Addr):Sp:=λ_ _ _ _=>False
theorem Oa (T:Txt K mg Ab Ad Aa Ae XC)(F:Fun K "deep" "Pool.deep" GV f fd):FnOk P w K mg base BI 1 f fd ["self","number"] (IT K Ae Aa):=
 F.ok N9 (λvs H Q E h=>h.elim) (λcdv A outer s H vs Q E hr h=>h.elim)
def Cj (K:W.Frag)(CP CT CB:Addr):Sp:=λvs H Q _=>∃p q cs e,∃(ta:Addr),vs=[.ref p,.ref ta]/\Fk CP CT H p q cs/\H q.dd=some (.dK (Hu q.D cs))/\Wt CB H q cs/\e∈cs/\H ta=some (.tup [.int e.z,.int e.y,.int (AR e.bk)])/\∀v H',As H H'->Rep NL H' (CI e.bk) v->Q v H'
theorem Mp (T:Txt K mg Ab Ad Aa Ae XC)(F:Fun K "block" "Pool.block" FG f fd)(JF:Def P w K mg base 16 "fetched" ["boards","tag"] (Lb K Ad)):FnOk P w K mg base BI 17 f fd ["self","tag"] (Cj K Ae Aa Ad):=by
 exists Mw
 ·obtain⟨p,q,cs,e,ta,rfl,_⟩:=h;rfl
 have hu:=BL hr;refine⟨_,(!Af (!AL (!GE (!Tp hu (!Ax AE (pv 1) (!Ai) (λ_ _=>rfl)) (!AU (pv 0))) (by first|exact C7 _ (by decide) (by decide)|rfl)) (!Ak (!Ao (!EF hu (!AU (pv 0)) (!Ax AE (pv 1) (!Ai) (λ_ _=>rfl)) (λ_ _=>rfl)))) (!Au)) (!Ak (!Ao (!AG JF (by trivial) rfl (!Ac (!AU (pv 0)) (!Ac (pv 1) (!Ah))))))),?_⟩
 try dsimp only[BM,Cx.nox,Cx.wish]
 obtain⟨p,q,cs,e,ta,rfl,⟨h1,h2,h4,nd⟩,h3,⟨ds,bs,n,lf,hB,b0,br⟩,he,ht,hq⟩:=h
 by_cases hD:e.z∈q.D
 ·have g:CN H q.dd (.int e.z) (some e.v):=by
   have:=CN.k (k:=Sum.inl e.z) h3;rw[To nd he hD] at this;exact this
  refine⟨_,rfl,ta,_,_,_,rfl,rfl,A8.of ht,rfl,_,rfl,p,Ae,q.dp,_,_,rfl,h1,T.cl_Pool,T.n_Pool_draft,rfl,q.dd,_,rfl,g,?_⟩;refine⟨_,rfl,Ci rfl ?_⟩;exact⟨_,rfl,p,Ae,q.dp,_,_,rfl,h1,T.cl_Pool,T.n_Pool_draft,rfl,_,rfl,ta,_,_,_,rfl,rfl,A8.of ht,rfl,q.dd,_,rfl,g,hq _ H (As.refl _) (h4 e he).2.2.1⟩
 ·obtain⟨li,nb,ha⟩:=br e he hD;have g:CN H q.dd (.int e.z) none:=by
   have:=CN.k (k:=Sum.inl e.z) h3;rw[V2 hD] at this;exact this
  refine⟨_,rfl,ta,_,_,_,rfl,rfl,A8.of ht,rfl,_,rfl,p,Ae,q.dp,_,_,rfl,h1,T.cl_Pool,T.n_Pool_draft,rfl,q.dd,_,rfl,g,?_⟩;refine⟨_,rfl,AV rfl ?_⟩;exact⟨_,rfl,p,Ae,q.dp,_,_,rfl,h1,T.cl_Pool,T.n_Pool_boards,rfl,_,rfl,q.bo,ds,bs,n,lf,ta,e.z,e.y,e.bk,rfl,hB,b0,ht,li,nb,ha,hq⟩
def Fn (K:W.Frag)(CP CT:Addr):Sp:=λvs H Q _=>∃p q cs e,∃(ta:Addr) (y k:V),vs=[.ref p,.ref ta]/\Fk CP CT H p q cs/\e∈cs/\H ta=some (.tup [.int e.z,y,k])/\Q .non (upd H e.c (.ins CT e.dx (CM e.ta ((wT (CI e.bk)).length:Int) e.l (e.k+1) e.en e.st)))
theorem NI (T:Txt K mg Ab Ad Aa Ae XC)(F:Fun K "hold" "Pool.hold" F6 f fd):FnOk P w K mg base BI 1 f fd ["self","tag"] (Fn K Ae Aa):=by
 exists IG
 ·obtain⟨p,q,cs,e,ta,y,k,rfl,_⟩:=h;rfl
 obtain⟨p,q,cs,e,ta,y,k,rfl,⟨h1,h2,h4,nd⟩,he,ht,hq⟩:=h;have hu:=BL hr;refine⟨_,(!Af (@Ap _ _ (2) _ _ _ _ IG.nd rfl (by trivial) (!EF hu (!AU (pv 0)) (!Ax AE (pv 1) (!Ai) (λ_ _=>rfl)) (λ_ _=>rfl)) (by rfl) (by trivial)) (!Ak (!Fh (pv 2) (!Ai) FB))),?_⟩
 try dsimp only[BM,Cx.nox,Cx.wish]
 have g:CN H q.dt (.int e.z) (some (.ref e.c)):=by
  have:=CN.k (k:=Sum.inl e.z) h2;rw[Hv nd he] at this;exact this
 have hc:=(h4 e he).1;refine⟨_,rfl,p,Ae,q.dp,_,_,rfl,h1,T.cl_Pool,T.n_Pool_taken,rfl,_,rfl,ta,_,_,_,rfl,rfl,A8.of ht,rfl,q.dt,_,rfl,g,?_⟩;exact⟨_,rfl,e.c,Aa,e.dx,_,_,rfl,hc,T.cl_TakenCell,T.n_TakenCell_times_named,rfl,_,_,rfl,rfl,e.dx,_,hc,(by show 6<1000;decide),hq⟩
theorem Gv {α:Type}[DecidableEq α]:∀{l m:List α},l.Nodup->(∀x∈l,x∈m)->l.length<=m.length
 |[],_,_,_=>aR _
 |a::l,m,nd,h=>by
  rw[bF] at nd;have ha:=h a av;have:=Gv (m:=m.erase a) nd.2 λx hx=>(List.mem_erase_of_ne (λz=>nd.1 (by rw[<-z];exact hx))).mpr (h x (ao _ hx))
  rw[List.length_erase_of_mem ha] at this;have:0<m.length:=List.length_pos_of_mem ha;rw[aL]
  lia
theorem VB {n:Nat}{l:List Int}(h:∀i:Int,1<=i->i<=n->i∈l):n<=l.length:=by
 have nd:((List.range n).map λi:Nat=>(i:Int)+1).Nodup:=gc _ (λa b (h:a≠b) e=>h (by lia)) List.nodup_range;have:=Gv (m:=l) nd λx hx=>by
  obtain⟨i,hi,rfl⟩:=ae.mp hx;have:=eP.mp hi;exact h _ (by lia) (by lia)
 rw[ab,bU] at this;exact this
def Below (cs:List Cl)(m:Int):Prop:=∀i:Int,1<=i->i<m->∃e∈cs,e.z=i
def DT (K:W.Frag)(CP CT:Addr):Sp:=λvs H Q _=>∃p q cs,vs=[.ref p]/\Fk CP CT H p q cs/\Below cs q.n/\1<=q.n/\
 ∀(m:Int) H',1<=m->m<=(cs.length:Int)+1->Below cs m->(∀e∈cs,e.z≠m)->H' p=some (.ins CP q.dp (Hn q.bo q.dt q.dz q.dd m))->(∀b,b≠p->H' b=H b)->Q (.int m) H'
theorem Below.le {cs:List Cl}{m:Int}(h:Below cs m)(h1:1<=m):m<=(cs.length:Int)+1:=by
 have:=VB (n:=(m-1).toNat) (l:=cs.map (·.z)) λi i1 i2=>by
  obtain⟨e,he,rfl⟩:=h i i1 (by lia);exact ae.mpr ⟨e,he,rfl⟩
 rw[ab] at this
 lia
theorem Hd (T:Txt K mg Ab Ad Aa Ae XC)(F:Fun K "free_number" "Pool.free_number" CQ f fd):FnOk P w K mg base BI 1 f fd ["self"] (DT K Ae Aa):=by
 exists Hc
 ·obtain⟨p,q,cs,rfl,_⟩:=h;rfl
 obtain⟨p,q,cs,rfl,⟨h1,h2,h4,nd⟩,bl,n1,hq⟩:=h;have hu:=BL hr;refine⟨_,(!Af (!IS aU (!GE (!Tp hu (!AU (pv 0)) (!AU (pv 0))) (by first|exact C7 _ (by decide) (by decide)|rfl)) (!Ak (!Fh (pv 0) (!Ai) FB))) (!Ak (!Ao (!AU (pv 0))))),?_⟩
 try dsimp only[BM,Cx.nox,Cx.wish]
 have nt:q.dt≠p:=AQ h2 h1 (by intro z;cases z);refine⟨λm σ H2=>∃j:Int,m=((cs.length:Int)+1-j).toNat/\1<=j/\Below cs j/\σ=[some (.ref p)]/\H2 p=some (.ins Ae q.dp (Hn q.bo q.dt q.dz q.dd j))/\∀b,b≠p->H2 b=H b,⟨_,q.n,rfl,n1,bl,rfl,h1,λ_ _=>rfl⟩,?_⟩
 rintro m σ H2 ⟨j,rfl,j1,bj,rfl,hp,ho⟩
 have hdt:H2 q.dt=some (.dK (Jo cs)):=by rw[ho _ nt];exact h2
 refine⟨_,rfl,p,Ae,q.dp,_,_,rfl,hp,T.cl_Pool,T.n_Pool_first_maybe_free,rfl,_,rfl,p,Ae,q.dp,_,_,rfl,hp,T.cl_Pool,T.n_Pool_taken,rfl,q.dt,_,rfl,CN.k (k:=Sum.inl j) hdt,_,rfl,Cs (λc=>?_) (λc=>?_)⟩
 ·have ex:∃e∈cs,e.z=j:=bO λz=>by
   have:BB (Jo cs) (Sum.inl j)=none:=by
    unfold BB;rw[dg,di];intro x hx;obtain⟨e,he,rfl⟩:=ae.mp hx;intro y;exact z ⟨e,he,cH (bf y)⟩
   rw[this] at c;cases c
  have bj1:Below cs (j+1):=λi i1 i2=>by
   by_cases hi:i=j
   ·rw[hi];exact ex
   ·exact bj i i1 (by lia)
  have:=bj1.le (by lia);refine⟨λσ H'=>σ=[some (.ref p)]/\H' p=some (.ins Ae q.dp (Hn q.bo q.dt q.dz q.dd (j+1)))/\∀b,b≠p->H' b=H b,?_,?_⟩
  ·rintro σ' H' ⟨rfl,a1,a2⟩
   exact⟨((cs.length:Int)+1-(j+1)).toNat,by lia,j+1,rfl,by lia,bj1,rfl,a1,a2⟩
  ·refine⟨_,rfl,p,Ae,q.dp,_,_,rfl,hp,T.cl_Pool,T.n_Pool_first_maybe_free,rfl,_,_,rfl,rfl,q.dp,_,hp,(by show 5<1000;decide),rfl,Ag,λb hb=>?_⟩;rw[Aj hb];exact ho b hb
 ·refine⟨_,rfl,p,Ae,q.dp,_,_,rfl,hp,T.cl_Pool,T.n_Pool_first_maybe_free,rfl,hq j H2 j1 (bj.le j1) bj (λe he z=>c ?_) hp ho⟩;subst z;rw[Hv nd he];rfl
theorem Js.tup {C:Addr}{H H':Hp}{e:Cl}(hc:H' e.c=H e.c)(ht:∀c ys,H c=some (.tup ys)->H' c=some (.tup ys))(h:Js C H e):Js C H' e:=⟨by rw[hc];exact h.1,ht _ _ h.2.1,De ht _ _ h.2.2.1,h.2.2.2⟩
theorem Fk.same {CP CT:Addr}{H H':Hp}{p:Addr}{q:Pl}{cs:List Cl}(s:As H H')(h:Fk CP CT H p q cs):Fk CP CT H' p q cs:=
 ⟨s.get h.1,s.get h.2.1,λe he=>(h.2.2.1 e he).tup ((s.get (h.2.2.1 e he).1).trans (h.2.2.1 e he).1.symm) (λc ys h=>s.get h),h.2.2.2⟩
def En (K:W.Frag)(_CP _CT:Addr):Sp:=λvs H Q _=>∃p v,vs=[p,v]/\Rep NL H (CI .folder) v/\∀H',As H H'->Q (.int 0) H'
theorem HY (T:Txt K mg Ab Ad Aa Ae XC)(F:Fun K "entries_of" "Pool.entries_of" Dg f fd)(Ef:BJ P w K mg base 1 Ae "entries" ["self","number"] (FY K Ae Aa)):FnOk P w K mg base BI 2 f fd ["self","folder"] (En K Ae Aa):=by
 exists Ie
 ·obtain⟨p,v,rfl,_⟩:=h;rfl
 obtain⟨p,v,rfl,hv,hq⟩:=h;have hu:=BL hr;refine⟨_,(!Ak (!Ao (!Aq (Oz rfl) (by rfl) T.b_sum T4 (!Ac (@G1 _ ["name","kind","tag","self"] [none,none,none,some 0] _ _ _ _ _ _ _ _ _ _ _ rfl (!Dr (!Ax AE (pv 1) (!Ai) (λ_ _=>rfl))) (by rfl) rfl (by repeat (first|exact trivial|refine⟨rfl,?_⟩)) (by repeat (first|exact trivial|refine⟨λh=>(by first|exact⟨_,rfl⟩|cases h),?_⟩)) (λC s H fp=>⟨(@Dx _ (K) _ _ _ _ (3) (by rfl) rfl (!AA (@An _ _ (0) _ (show(["name","kind","tag","self"]:List Str).Nodup by decide +kernel) rfl (by trivial) (by trivial)) (!AA (@An _ _ (1) _ (show(["name","kind","tag","self"]:List Str).Nodup by decide +kernel) rfl (by trivial) (by trivial)) (!AA (@An _ _ (2) _ (show(["name","kind","tag","self"]:List Str).Nodup by decide +kernel) rfl (by trivial) (by trivial)) (!BF)))) (by rfl) (by rfl)),(!AM),(!Ar Bu (!Ai) (!OV (!Aw Bb (pv 1) (!AB rfl T.c_FOLDER_ENTRY) (Av _)) (!A4 (pv 3) T.cl_Pool Ef (by trivial) (!Ac (!Ax (II (K:=K) (by rfl)) (pv 2) (!Ai) (λ_ _=>rfl)) (!Ah))) (!Ai)))⟩) (by intro _;rfl)) (!Ah))))),?_⟩
 try dsimp only[BM,Cx.nox,Cx.wish]
 obtain⟨a,b,rfl,e1,e2⟩:=Dm hv;exact⟨_,rfl,a,_,_,_,rfl,rfl,A8.of e1,rfl,b,rfl,⟨_,A8.of e2⟩,Gn (DA e2) λl hl=>⟨l,[],rfl,AJ.of Ag,hq _ (Al hl _)⟩⟩
def Ff (K:W.Frag)(_CP _CT:Addr):Sp:=λvs H Q _=>∃p v,vs=[p,v]/\Rep NL H (CI .folder) v/\∀H',As H H'->Q (.int 0) H'
theorem JR (T:Txt K mg Ab Ad Aa Ae XC)(F:Fun K "steps_of" "Pool.steps_of" DL f fd)(F9:BJ P w K mg base 1 Ae "deep" ["self","number"] (IT K Ae Aa)):FnOk P w K mg base BI 2 f fd ["self","folder"] (Ff K Ae Aa):=by
 exists Fd
 ·obtain⟨p,v,rfl,_⟩:=h;rfl
 obtain⟨p,v,rfl,hv,hq⟩:=h;have hu:=BL hr;refine⟨_,(!Af (@KS _ ["name","kind","tag","self"] [none,none,none,some 0] (2) _ _ _ _ _ _ _ _ _ _ _ _ _ _ Fd.nd rfl (by trivial) rfl (!Dr (!Ax AE (pv 1) (!Ai) (λ_ _=>rfl))) (by rfl) rfl (by repeat (first|exact trivial|refine⟨rfl,?_⟩)) (by repeat (first|exact trivial|refine⟨λh=>(by first|exact⟨_,rfl⟩|cases h),?_⟩)) (λC s H fp=>⟨(@Dx _ (K) _ _ _ _ (3) (by rfl) rfl (!AA (@An _ _ (0) _ (show(["name","kind","tag","self"]:List Str).Nodup by decide +kernel) rfl (by trivial) (by trivial)) (!AA (@An _ _ (1) _ (show(["name","kind","tag","self"]:List Str).Nodup by decide +kernel) rfl (by trivial) (by trivial)) (!AA (@An _ _ (2) _ (show(["name","kind","tag","self"]:List Str).Nodup by decide +kernel) rfl (by trivial) (by trivial)) (!BF)))) (by rfl) (by rfl)),(!AM),(!Ar Bu (!Ai) (!OV (!Aw Bb (pv 1) (!AB rfl T.c_FOLDER_ENTRY) (Av _)) (!A4 (pv 3) T.cl_Pool F9 (by trivial) (!Ac (!Ax (II (K:=K) (by rfl)) (pv 2) (!Ai) (λ_ _=>rfl)) (!Ah))) (!Ai)))⟩) (by intro _;rfl) (by rfl) (by trivial)) (!Ak (!Ao (!VE rfl (by rfl) T.b_max (!Ac (pv 2) (!Ah)))))),?_⟩
 try dsimp only[BM,Cx.nox,Cx.wish]
 obtain⟨a,b,rfl,e1,e2⟩:=Dm hv;exact⟨_,rfl,a,_,_,_,rfl,rfl,A8.of e1,rfl,b,rfl,⟨_,A8.of e2⟩,Gn (DA e2) λl hl=>⟨_,rfl,l,[],rfl,AJ.of Ag,hq _ (Al hl _)⟩⟩
theorem map_one {α β:Type}{g:α->β}(hg:∀a b,g a=g b->a=b):∀{l l':List α},l.map g=l'.map g->l=l'
 |[],[],_=>rfl
 |[],_::_,h=>nomatch h
 |_::_,[],h=>nomatch h
 |x::l,y::l',h=>by
  rw[au,au] at h;injection h with h1 h2
  rw[hg x y h1,map_one hg h2]
theorem Rh (a b:Tg)(h:Ej a=Ej b):a=b:=by
 obtain⟨a1,a2,a3⟩:=a;obtain⟨b1,b2,b3⟩:=b;injection h with h
 injection h with h1 h
 injection h with h2 h
 injection h with h3 _
 injection h1 with h1
 injection h2 with h2
 injection h3 with h3
 dsimp only at h1 h2 h3;rw[h1,h2,h3]
theorem Rp {a b:Bk}(h:CI a=CI b):a=b:=by
 cases a with
 |piece z=>
  cases b with
  |piece z'=>injection h with h;injection h with _ h;injection h with h _;injection h with h;rw[h]
  |row lv ts=>injection h with h;injection h with h _;injection h with h;cases h
  |folder=>injection h with h;injection h with h _;injection h with h;cases h
 |row lv ts=>
  cases b with
  |piece z'=>injection h with h;injection h with h _;injection h with h;cases h
  |row lv' ts'=>
   injection h with h;injection h with _ h;injection h with h1 h;injection h with h2 _
   injection h1 with h1
   injection h2 with h2
   rw[h1,map_one Rh h2]
  |folder=>injection h with h;injection h with h _;injection h with h;cases h
 |folder=>
  cases b with
  |piece z'=>injection h with h;injection h with h _;injection h with h;cases h
  |row lv ts=>injection h with h;injection h with h _;injection h with h;cases h
  |folder=>rfl
theorem AH {α β:Type}{g:α->β}:∀{l:List α},(l.map g).Nodup->∀{x y:α},x∈l->y∈l->g x=g y->x=y
 |[],_,_,_,h,_,_=>nomatch h
 |a::l,nd,x,y,hx,hy,e=>by
  rw[au,bF] at nd;rcases aM.mp hx with hx|hx
  ·rcases aM.mp hy with hy|hy
   ·rw[hx,hy]
   ·exact(nd.1 (by rw[<-hx,e];exact ae.mpr ⟨_,hy,rfl⟩)).elim
  ·rcases aM.mp hy with hy|hy
   ·exact(nd.1 (by rw[<-hy,<-e];exact ae.mpr ⟨_,hx,rfl⟩)).elim
   ·exact AH nd.2 hx hy e
def bump (zs:List Int)(e:Cl):Cl:={ e with k:=e.k+(zs.count e.z:Int) }
theorem RM (zs ys:List Int)(e:Cl):bump ys (bump zs e)=bump (zs++ys) e:=by
 unfold bump;rw[gb];simp only[Int.natCast_add,Int.add_assoc]
theorem T6 (e:Cl):bump [] e=e:=by
 unfold bump;simp
theorem RF (cs:List Cl):cs.map (bump [])=cs:=by
 rw[show(bump []:Cl->Cl)=id from funext T6];simp
theorem Qh (zs ys:List Int)(cs:List Cl):(cs.map (bump zs)).map (bump ys)=cs.map (bump (zs++ys)):=by
 rw[aI];exact cC λe _=>RM zs ys e
theorem S9 (zs:List Int)(cs:List Cl):Jo (cs.map (bump zs))=Jo cs:=by unfold Jo;rw[aI];rfl
theorem TN (D zs:List Int)(cs:List Cl):Hu D (cs.map (bump zs))=Hu D cs:=by unfold Hu;rw[eE,aI];rfl
theorem Vl (D:List Int)(cs:List Cl):(Hu D cs).length<=cs.length:=by unfold Hu;rw[ab];exact cP _ _
theorem Vm (zs:List Int)(cs:List Cl):(cs.map (bump zs)).map (·.z)=cs.map (·.z):=by rw[aI];rfl
theorem N0 (zs:List Int)(cs:List Cl):(cs.map (bump zs)).map (·.c)=cs.map (·.c):=by rw[aI];rfl
def Cv (cs:List Cl)(s:Int):List Int:=(cs.filter (λe=>decide (AR e.bk=s))).map (·.z)
theorem M8 (zs:List Int)(s:Int):∀cs:List Cl,Cv (cs.map (bump zs)) s=Cv cs s
 |[]=>rfl
 |e::cs=>by
  have ih:=M8 zs s cs;unfold Cv at ih ⊢;rw[au,fj,fj];have:decide (AR (bump zs e).bk=s)=decide (AR e.bk=s):=rfl;rw[this];cases decide (AR e.bk=s)
  ·exact ih
  ·show(bump zs e).z::_=e.z::_;rw[ih];rfl
theorem M9 (cs:List Cl)(e:Cl)(s:Int):Cv (cs++[e]) s=Cv cs s++if AR e.bk=s then[e.z] else[]:=by
 unfold Cv;rw[eS,aJ]
 by_cases h:AR e.bk=s
 ·rw[aC h,bL (by simpa using h)];rfl
 ·rw[ay h,bM (by simpa using h)];rfl
theorem Fc {cs:List Cl}{s z:Int}:z∈Cv cs s↔∃e∈cs,AR e.bk=s/\e.z=z:=by
 unfold Cv;rw[ae];constructor
 ·rintro⟨e,he,rfl⟩
  rw[bH,aG] at he;exact⟨e,he.1,he.2,rfl⟩
 ·rintro⟨e,he,hs,rfl⟩
  exact⟨e,bH.mpr ⟨he,by simpa using hs⟩,rfl⟩
theorem O8 (cs:List Cl)(s:Int):(Cv cs s).length<=cs.length:=by
 unfold Cv;rw[ab];exact cP _ _
def KQ (ns:List Int):List (Key×V):=ns.map λz=>(Sum.inl z,V.bl true)
def Uu (bs:List (Int×Addr)):List (Key×V):=bs.map λx=>(Sum.inl x.1,V.ref x.2)
theorem Ml {κ:Type}[DecidableEq κ]{kvs:List (κ×V)}{k:κ}(h:∀x∈kvs,x.1≠k):BB kvs k=none:=by
 unfold BB;rw[dg,di];intro x hx z;exact h x hx (bf z)
theorem VD {κ:Type}[DecidableEq κ]{kvs:List (κ×V)}{k:κ}{v:V}(h:BB kvs k=some v):(k,v)∈kvs:=by
 unfold BB at h;rw[aV] at h;obtain⟨x,hx,rfl⟩:=h;have:=List.mem_of_find?_eq_some hx;have e:x.1=k:=by simpa using List.find?_some hx
 rw[<-e];exact this
theorem UY (b:Bk):0<=AR b/\AR b<997:=by
 have key:∀(l:List Int) (t:Int),0<=t/\t<997->0<=l.foldl (λt n=>(31*t+n+1)%997) t/\l.foldl (λt n=>(31*t+n+1)%997) t<997:=by
  intro l
  induction l with
  |nil=>intro t h;exact h
  |cons n l ih=>intro t _;exact ih _ ⟨bJ _ (by decide),bS _ (by decide)⟩
 unfold AR;refine key _ _ ?_;cases b with
 |piece _=>exact⟨by show(0:Int)<=1+0;decide,by show(1:Int)+0<997;decide⟩
 |row _ _=>exact⟨by show(0:Int)<=1+1;decide,by show(1:Int)+1<997;decide⟩
 |folder=>exact⟨by show(0:Int)<=1+2;decide,by show(1:Int)+2<997;decide⟩
theorem Xc {bs:List (Int×Addr)}(nd:(bs.map (·.1)).Nodup)(h:∀x∈bs,0<=x.1/\x.1<997):bs.length<=997:=by
 have:=Gv (m:=(List.range 997).map λi:Nat=>(i:Int)) nd λx hx=>by
  obtain⟨y,hy,rfl⟩:=ae.mp hx;have:=h y hy;exact ae.mpr ⟨y.1.toNat,eP.mpr (by lia),by lia⟩
 rw[ab,ab,bU] at this;exact this
structure BsAt (H:Hp) (q:Pl) (cs:List Cl) (bs:List (Int×Addr)):Prop where
 h:H q.dz=some (.dK (Uu bs))
 k:(bs.map (·.1)).Nodup
 a:(bs.map (·.2)).Nodup
 d:∀x∈bs,H x.2=some (.dK (KQ (Cv cs x.1)))/\x.2≠q.dt/\x.2≠q.dz/\x.2≠q.dd
 all:∀e∈cs,∃x∈bs,x.1=AR e.bk
theorem PZ {bs:List (Int×Addr)}(nd:(bs.map (·.1)).Nodup){x:Int×Addr}(h:x∈bs):BB (Uu bs) (Sum.inl x.1)=some (.ref x.2):=by
 refine LJ ?_ (ae.mpr ⟨x,h,rfl⟩);unfold Uu;rw[aI,show((λy:Key×V=>y.1)∘λx:Int×Addr=>((Sum.inl x.1:Key),V.ref x.2))=(λz:Int=>(Sum.inl z:Key))∘(λx:Int×Addr=>x.1) from rfl,<-aI];exact gc _ (λa b n e=>n (cH e)) nd
theorem Td {bs:List (Int×Addr)}{s:Int}{v:V}(h:BB (Uu bs) (Sum.inl s)=some v):∃x∈bs,x.1=s/\v=.ref x.2:=by
 obtain⟨x,hx,e⟩:=ae.mp (VD h);exact⟨x,hx,cH (congrArg Prod.fst e),(congrArg Prod.snd e).symm⟩
theorem BsAt.no {H:Hp}{q:Pl}{cs:List Cl}{bs:List (Int×Addr)}(B:BsAt H q cs bs){s:Int}(h:BB (Uu bs) (Sum.inl s)=none):Cv cs s=[]:=by
 rw[List.eq_nil_iff_forall_not_mem];intro z hz;obtain⟨e,he,rfl,rfl⟩:=Fc.mp hz;obtain⟨x,hx,hs⟩:=B.all e he;rw[<-hs,PZ B.k hx] at h;cases h
structure PAt (CP CT:Addr) (H:Hp) (p:Addr) (q:Pl) (cs:List Cl) (bs:List (Int×Addr)):Prop where
 t:Fk CP CT H p q cs
 d:H q.dd=some (.dK (Hu q.D cs))
 b:BsAt H q cs bs
 n1:q.dt≠q.dz
 n2:q.dt≠q.dd
 n3:q.dz≠q.dd
 c:(cs.map (·.c)).Nodup
 z:∀e∈cs,1<=e.z
 w:∀x∈bs,0<=x.1/\x.1<997
 f1:1<=q.n
 f2:Below cs q.n
def A9 (p:Addr)(q:Pl)(cs:List Cl)(bs:List (Int×Addr)):List Addr:=p::q.dt::q.dz::q.dd::(bs.map (·.2)++cs.map (·.c))
def Om (L:List Addr)(H H':Hp):Prop:=∀a o,H a=some o->a∉L->H' a=some o
theorem As.frm {L:List Addr}{H H':Hp}(s:As H H'):Om L H H':=λ_ _ h _=>s.get h
theorem PAt.same {CP CT:Addr}{H H':Hp}{p:Addr}{q:Pl}{cs:List Cl}{bs:List (Int×Addr)}(s:As H H')(h:PAt CP CT H p q cs bs):PAt CP CT H' p q cs bs:=
 { h with t:=h.t.same s,d:=s.get h.d,b:={ h.b with h:=s.get h.b.h,d:=λx hx=>⟨s.get (h.b.d x hx).1,(h.b.d x hx).2⟩ } }
theorem PAt.apart {CP CT:Addr}{H:Hp}{p:Addr}{q:Pl}{cs:List Cl}{bs:List (Int×Addr)}(h:PAt CP CT H p q cs bs){a:Addr}{o:HO}(e:H a=some o)(n1:∀C d fs,o≠.ins C d fs)(n2:∀kvs,o≠.dK kvs):a∉A9 p q cs bs:=by
 have no:∀{b u},H b=some u->u≠o->a≠b:=λ{b u} hb hn z=>hn (by rw[z,hb] at e;exact aA e)
 unfold A9;simp only[List.mem_cons,List.mem_append,List.mem_map,not_or];refine⟨no h.t.1 (Ne.symm (n1 _ _ _)),no h.t.2.1 (Ne.symm (n2 _)),no h.b.h (Ne.symm (n2 _)),no h.d (Ne.symm (n2 _)),?_,?_⟩
 ·rintro⟨x,hx,z⟩
  exact no (h.b.d x hx).1 (Ne.symm (n2 _)) z.symm
 ·rintro⟨x,hx,z⟩
  exact no (h.t.2.2.1 x hx).1 (Ne.symm (n1 _ _ _)) z.symm
theorem Fk.hold {CP CT:Addr}{H:Hp}{p:Addr}{q:Pl}{cs:List Cl}(h:Fk CP CT H p q cs)(nc:(cs.map (·.c)).Nodup){e:Cl}(he:e∈cs):Fk CP CT (upd H e.c (.ins CT e.dx (CM e.ta ((wT (CI e.bk)).length:Int) e.l (e.k+1) e.en e.st))) p q (cs.map (bump [e.z])):=by
 obtain⟨h1,h2,h4,nd⟩:=h;have hc:=(h4 e he).1;have n1:p≠e.c:=λz=>by
  rw[z,hc] at h1;have:=aA h1;injection this with _ _ this
  injection this with this _
  injection this with this _
  revert this
  decide
 refine⟨by rw[Aj n1];exact h1,by rw[Aj (AQ h2 hc (by intro z;cases z)),S9];exact h2,λx hx=>?_,by rw[Vm];exact nd⟩;obtain⟨y,hy,rfl⟩:=ae.mp hx;have ht:∀c ys,H c=some (.tup ys)->(upd H e.c (.ins CT e.dx (CM e.ta ((wT (CI e.bk)).length:Int) e.l (e.k+1) e.en e.st))) c=some (.tup ys):=λc ys h=>by rw[Aj (AQ h hc (by intro z;cases z))];exact h
 obtain⟨a1,a2,a3,a4⟩:=h4 y hy
 by_cases hz:y.z=e.z
 ·obtain rfl:=AH nd hy he hz;refine⟨?_,ht _ _ a2,De ht _ _ a3,a4⟩;show upd H y.c _ y.c=some (.ins CT y.dx (CM y.ta ((wT (CI y.bk)).length:Int) y.l (y.k+(([y.z].count y.z:Nat):Int)) y.en y.st));rw[Ag,gN];rfl
 ·have nn:y.c≠e.c:=λz=>hz (by rw[AH nc hy he z])
  refine⟨?_,ht _ _ a2,De ht _ _ a3,a4⟩;show upd H e.c _ y.c=some (.ins CT y.dx (CM y.ta ((wT (CI y.bk)).length:Int) y.l (y.k+(([e.z].count y.z:Nat):Int)) y.en y.st));rw[Aj nn,a1,cG.mpr (by simpa using hz)];simp
def Yw (_:List Cl)(_:Bk):Int×Int:=(0,0)
def Hs (K:W.Frag)(CP CT CB:Addr):Sp:=λvs H Q _=>∃p q cs bs v b,vs=[.ref p,v]/\PAt CP CT H p q cs bs/\Wt CB H q cs/\cs.length<=600/\Rep NL H (CI b) v/\Dl b/\(∀e∈cs,e.bk=b->∀H',As H H'->Q (.ref e.ta) H')/\((∀e∈cs,e.bk≠b)->∀H',As H H'->Q .non H')
theorem Mx (T:Txt K mg Ab Ad Aa Ae XC)(F:Fun K "alike" "Pool.alike" FF f fd)(C6:Def P w K mg base 3 "sum_of" ["block"] (G3 K))(Bi:BJ P w K mg base 17 Ae "block" ["self","tag"] (Cj K Ae Aa Ad))(BQ:BJ P w K mg base 1 Ae "tag" ["self","number"] (EM K Ae Aa)):FnOk P w K mg base BI 18 f fd ["self","block"] (Hs K Ae Aa Ad):=by
 exists Dw
 ·obtain⟨p,q,cs,bs,v,b,rfl,_⟩:=h;rfl
 obtain⟨p,q,cs,bs,v,b,rfl,pa,brd,few,hv,ok,hq1,hq2⟩:=h;have hu:=BL hr;have hu9:=E4 hr;refine⟨_,(!Af (@Ap _ _ (2) _ _ _ _ Dw.nd rfl (by trivial) (!Be (!Ah)) (by rfl) (by trivial)) (!Af (!Bn aU rfl (!A2 (!Aq (GL rfl) (by rfl) T.b_sorted G0 (!Ac (!S4 hu (!AU (pv 0)) (!AG C6 (by trivial) rfl (!Ac (pv 1) (!Ah))) (!Ek) ⟨rfl,rfl,rfl,rfl⟩) (!Ah)))) (@An _ _ (3) _ Dw.nd rfl (by trivial) (by trivial)) (!Ak (!SQ ⟨rfl,rfl⟩ T.x_Lost rfl (!QV (!QJ (@Ap _ _ (4) _ _ _ _ Dw.nd rfl (by trivial) (!A4 (pv 0) T.cl_Pool Bi (by trivial) (!Ac (!A4 (pv 0) T.cl_Pool BQ (by trivial) (!Ac (pv 3) (!Ah))) (!Ah))) (by rfl) (by trivial)))) (!Ak (!AL (!Aw (Ul hu9) (pv 4) (pv 1) (Av _)) (!Ak (!Ao (!A4 (pv 0) T.cl_Pool BQ (by trivial) (!Ac (pv 3) (!Ah))))) (!Au))) (λe=>(!Ak (!CL))))) (by intro _;rfl)) (!Af (!AL (!Aw FX (!Aq Az (by rfl) T.b_len AZ (!Ac (pv 2) (!Ah))) (!Ai) (Av _)) (!Ak (!CL)) (!Au)) (!Ak (!Ao (!Eh)))))),?_⟩
 try dsimp only[BM,Cx.nox,Cx.wish]
 refine⟨Hf,λun hun=>?_⟩;have s1:=Al hun (.lst []);have pa1:=pa.same s1;refine⟨_,rfl,p,Ae,q.dp,_,_,rfl,pa1.t.1,T.cl_Pool,T.n_Pool_by_sums,rfl,q.dz,rfl,.inl ⟨_,.inl pa1.b.h⟩,?_⟩;refine⟨_,rfl,v,b,rfl,Rep.same s1 _ _ hv,ok,λH2 s2 dn hdn=>?_⟩;have s3:=(s1.trans s2).trans (Al hdn (.dK []));have pa3:=pa.same s3;obtain⟨d,hd,hd2⟩:∃d,(((BB (Uu bs) (Sum.inl (AR b))).getD (.ref dn))=.ref d)/\(upd H2 dn (.dK [])) d=some (.dK (KQ (Cv cs (AR b)))):=by
  cases hc:BB (Uu bs) (Sum.inl (AR b)) with
  |none=>exact⟨dn,rfl,by rw[pa.b.no hc];exact Ag⟩
  |some u=>
   obtain⟨x,hx,hs,rfl⟩:=Td hc;exact⟨x.2,rfl,by rw[(pa3.b.d x hx).1,hs]⟩
 refine⟨_,CN.k (k:=Sum.inl (AR b)) pa3.b.h,d,_,Cv cs (AR b),?_,hd2,?_,?_,λms pl pm hpl=>?_⟩
 ·rw[hd]
 ·unfold KQ;rw[aI];rfl
 ·have:=O8 cs (AR b)
  lia
 have s4:=s3.trans (Al hpl (.lst (ms.map V.int)));have pa4:=pa.same s4;have hun4:(upd (upd H2 dn (.dK [])) pl (.lst (ms.map V.int))) un=some (.lst []):=(Al hpl _).get ((Al hdn _).get (s2.get Ag));have hpl4:(upd (upd H2 dn (.dK [])) pl (.lst (ms.map V.int))) pl=some (.lst (ms.map V.int)):=Ag;generalize (upd (upd H2 dn (.dK [])) pl (.lst (ms.map V.int)))=H4 at s4 pa4 hun4 hpl4;have brd4:=brd.same s4;refine⟨pl,rfl,⟨_,AJ.of hpl4⟩,BD (K:=K) (a:=pl) (xs:=ms.map V.int) (λi σ H'=>As H4 H'/\(∃v3 v4,σ=[some (.ref p),some v,some (.ref un),v3,v4])/\∀(j:Nat) n,j<i->ms[j]?=some n->∀e∈cs,e.z=n->e.bk≠b) ⟨As.refl _,⟨_,_,rfl⟩,λj _ h=>absurd h (eC j)⟩ ?_ ?_ ?_⟩
 ·rintro i σ H' _ ⟨s5,_⟩
  exact AJ.of (s5.get hpl4)
 ·rintro i x σ H' hx ⟨s5,⟨v3,v4,rfl⟩,hb⟩
  obtain⟨n,rfl,hn⟩:=ints_get hx;obtain⟨e,he,hs,hz⟩:=Fc.mp (pm.mem_iff.mp (az hn));subst hz;have pa5:=pa4.same s5;have ce:=pa5.t.2.2.1 e he;refine⟨_,rfl,p,q.dp,_,rfl,pa5.t.1,rfl,_,rfl,p,q.dp,_,rfl,pa5.t.1,rfl,_,rfl,p,q,cs,e,rfl,pa5.t,he,?_⟩;refine⟨p,q,cs,e,e.ta,rfl,pa5.t,pa5.d,brd4.same s5,he,ce.2.1,λbv H6 s6 rv=>?_⟩;have pa6:=pa5.same s6;refine⟨_,rfl,_,rfl,CI e.bk,CI b,Jy ce.2.2.2,Jy ok,rv,Rep.same ((s4.trans s5).trans s6) _ _ hv,_,rfl,Cs (λhk=>?_) (λhk=>?_)⟩
  ·have hk:decide (wT (CI e.bk)=wT (CI b))=true:=hk;have eb:e.bk=b:=Rp (Lp (Jy ce.2.2.2) (Jy ok) (bf hk));exact⟨_,rfl,p,q.dp,_,rfl,pa6.t.1,rfl,_,rfl,p,q,cs,e,rfl,pa6.t,he,hq1 e he eb _ ((s4.trans s5).trans s6)⟩
  ·have hk:¬decide (wT (CI e.bk)=wT (CI b))=true:=hk;refine⟨s5.trans s6,⟨_,_,rfl⟩,λj n hj hm e' he' hz=>?_⟩
   by_cases hji:j<i
   ·exact hb j n hji hm e' he' hz
   ·obtain rfl:j=i:=by lia
    rw[hn] at hm;obtain rfl:=AH pa4.t.2.2.2 he he' ((aA hm).trans hz.symm);intro z;exact hk (by rw[z];exact aH rfl)
 ·rintro σ H' ⟨s5,⟨v3,v4,rfl⟩,hb⟩
  refine⟨_,rfl,un,_,rfl,.inl (AJ.of (s5.get hun4)),_,_,rfl,rfl,_,rfl,AV rfl ?_⟩;refine hq2 (λe he z=>?_) _ (s4.trans s5);have:e.z∈ms:=pm.mem_iff.mpr (Fc.mpr ⟨e,he,by rw[z],rfl⟩);obtain⟨j,hj,hje⟩:=bx this;exact hb j e.z (by rw[ab];exact hj) (by rw[aa hj,hje]) e he rfl z
theorem BsAt.same {H H':Hp}{q:Pl}{cs:List Cl}{bs:List (Int×Addr)}(s:As H H')(h:BsAt H q cs bs):BsAt H' q cs bs:={ h with h:=s.get h.h,d:=λx hx=>⟨s.get (h.d x hx).1,(h.d x hx).2⟩ }
theorem BsAt.ins {H:Hp}{q:Pl}{cs:List Cl}{bs:List (Int×Addr)}{x C d:Addr}{fs:List (Str×V)}{o:HO}(hx:H x=some (.ins C d fs))(h:BsAt H q cs bs):BsAt (upd H x o) q cs bs:=
 { h with h:=by rw[Aj (AQ h.h hx (by intro z;cases z))];exact h.h,d:=λy hy=>⟨by rw[Aj (AQ (h.d y hy).1 hx (by intro z;cases z))];exact(h.d y hy).1,(h.d y hy).2⟩ }
theorem BsAt.bump {H:Hp}{q:Pl}{cs:List Cl}{bs:List (Int×Addr)}(zs:List Int)(h:BsAt H q cs bs):BsAt H q (cs.map (bump zs)) bs:=
 { h with d:=λx hx=>by rw[M8];exact h.d x hx,all:=λe he=>(ae.mp he).elim λy hy=>(by rw[<-hy.2];exact h.all y hy.1) }
theorem Vv {ns:List Int}{z:Int}(h:z∉ns):putK (KQ ns) (Sum.inl z) (.bl true)=KQ (ns++[z]):=by
 rw[IZ _ (Ml λx hx=>?_)]
 ·unfold KQ;rw[aJ];rfl
 ·obtain⟨y,hy,rfl⟩:=ae.mp hx;intro e;exact h (by rw[<-cH e];exact hy)
theorem BsAt.snoc {H:Hp}{q:Pl}{cs:List Cl}{bs:List (Int×Addr)}{d:Addr}{e:Cl}(h:BsAt H q cs bs)(hd:(AR e.bk,d)∈bs)(hz:e.z∉Cv cs (AR e.bk)):BsAt (upd H d (.dK (putK (KQ (Cv cs (AR e.bk))) (Sum.inl e.z) (.bl true)))) q (cs++[e]) bs where
 h:=by rw[Aj (Ne.symm (h.d _ hd).2.2.1)];exact h.h
 k:=h.k
 a:=h.a
 d:=λx hx=>by
  by_cases hs:x.1=AR e.bk
  ·obtain rfl:x=(AR e.bk,d):=AH h.k hx hd hs;exact⟨by rw[Ag,Vv hz,M9,aC rfl],(h.d _ hx).2⟩
  ·have n:x.2≠d:=λz=>hs (congrArg Prod.fst (AH h.a hx hd z))
   rw[Aj n,M9,ay (λz=>hs z.symm),bY];exact h.d x hx
 all:=λx hx=>by
  rcases ai.mp hx with hx|hx
  ·exact h.all x hx
  ·rw[ag.mp hx];exact⟨_,hd,rfl⟩
theorem BsAt.fresh {H:Hp}{q:Pl}{cs:List Cl}{bs:List (Int×Addr)}{dn:Addr}{s:Int}(h:BsAt H q cs bs)(hv:BB (Uu bs) (Sum.inl s)=none)(hd:H dn=none)(n1:dn≠q.dt)(n2:dn≠q.dd):BsAt (upd (upd H dn (.dK [])) q.dz (.dK (putK (Uu bs) (Sum.inl s) (.ref dn)))) q cs (bs++[(s,dn)]):=by
 have nz:dn≠q.dz:=λz=>by rw[z,h.h] at hd;cases hd
 have nb:∀x∈bs,x.2≠dn:=λx hx z=>by have:=(h.d x hx).1;rw[z,hd] at this;cases this
 refine⟨?_,?_,?_,λx hx=>?_,λe he=>?_⟩
 ·rw[Ag,IZ _ hv];unfold Uu;rw[aJ];rfl
 ·rw[aJ,cm];refine⟨h.k,by simp,λa ha b hb=>?_⟩;obtain⟨x,hx,rfl⟩:=ae.mp ha;have:b=s:=by simpa using hb
  rw[this];intro z;rw[<-z,PZ h.k hx] at hv;cases hv
 ·rw[aJ,cm];refine⟨h.a,by simp,λa ha b hb=>?_⟩;obtain⟨x,hx,rfl⟩:=ae.mp ha;have:b=dn:=by simpa using hb
  rw[this];exact nb x hx
 ·rcases ai.mp hx with hx|hx
  ·rw[Aj (h.d x hx).2.2.1,Aj (nb x hx)];exact h.d x hx
  ·rw[ag.mp hx];refine⟨?_,n1,nz,n2⟩;show upd _ _ _ dn=some (.dK (KQ (Cv cs s)));rw[Aj nz,Ag,h.no hv];rfl
 ·obtain⟨x,hx,e1⟩:=h.all e he;exact⟨x,ai.mpr (.inl hx),e1⟩
structure Md (CP CT:Addr) (H H':Hp) (p:Addr) (q:Pl) (cs:List Cl) (own:List Addr) (e:Cl) (us:List V) (dtk:List (Key×V)):Prop where
 f:Om own H H'
 p:H' p=some (.ins CP q.dp (Hn q.bo q.dt q.dz q.dd q.n))
 t:H' q.dt=some (.dK dtk)
 d:H' q.dd=some (.dK (Hu q.D cs))
 c:∀x∈cs,Js CT H' x
 n:Js CT H' e
 l:H' e.l=some (.lst us)
 u:AI NL H' ((AK e.bk).map Ej) us
theorem Md.put {CP CT:Addr}{H H':Hp}{p:Addr}{q:Pl}{cs:List Cl}{own:List Addr}{e:Cl}{us:List V}{dtk:List (Key×V)}(M:Md CP CT H H' p q cs own e us dtk){x:Addr}{o:HO}(hx:x∈own\/H x=none)(nt:x≠q.dt)(nd:x≠q.dd)(k:∀u,H' x=some u->∃kvs,u=.dK kvs):Md CP CT H (upd H' x o) p q cs own e us dtk:=by
 have no:∀{a u},H' a=some u->(∀kvs,u≠.dK kvs)->a≠x:=λ{a u} h n z=>by
  rw[z] at h;obtain⟨kvs,e⟩:=k _ h;exact n kvs e
 have ht:∀c ys,H' c=some (.tup ys)->(upd H' x o) c=some (.tup ys):=λc ys h=>by rw[Aj (no h (by intro kvs z;cases z))];exact h
 refine⟨λa u h n=>?_,?_,?_,?_,λy hy=>?_,?_,?_,Bf ht _ _ M.u⟩
 ·have:a≠x:=λz=>by
   rcases hx with hx|hx
   ·exact n (by rw[z];exact hx)
   ·rw[z,hx] at h;cases h
  rw[Aj this];exact M.f a u h n
 ·rw[Aj (no M.p (by intro kvs z;cases z))];exact M.p
 ·rw[Aj (Ne.symm nt)];exact M.t
 ·rw[Aj (Ne.symm nd)];exact M.d
 ·exact(M.c y hy).tup (Aj (no (M.c y hy).1 (by intro kvs z;cases z))) ht
 ·exact M.n.tup (Aj (no M.n.1 (by intro kvs z;cases z))) ht
 ·rw[Aj (no M.l (by intro kvs z;cases z))];exact M.l
theorem Md.putT {CP CT:Addr}{H H':Hp}{p:Addr}{q:Pl}{cs:List Cl}{own:List Addr}{e:Cl}{us:List V}{dtk dt2:List (Key×V)}(M:Md CP CT H H' p q cs own e us dtk)(hx:q.dt∈own)(nd:q.dt≠q.dd):Md CP CT H (upd H' q.dt (.dK dt2)) p q cs own e us dt2:=by
 have no:∀{a u},H' a=some u->(∀kvs,u≠.dK kvs)->a≠q.dt:=λ{a u} h n z=>by
  rw[z,M.t] at h;exact n _ (aA h).symm
 have ht:∀c ys,H' c=some (.tup ys)->(upd H' q.dt (.dK dt2)) c=some (.tup ys):=λc ys h=>by rw[Aj (no h (by intro kvs z;cases z))];exact h
 refine⟨λa u h n=>?_,?_,Ag,?_,λy hy=>?_,?_,?_,Bf ht _ _ M.u⟩
 ·rw[Aj (λz=>n (by rw[z];exact hx))];exact M.f a u h n
 ·rw[Aj (no M.p (by intro kvs z;cases z))];exact M.p
 ·rw[Aj (Ne.symm nd)];exact M.d
 ·exact(M.c y hy).tup (Aj (no (M.c y hy).1 (by intro kvs z;cases z))) ht
 ·exact M.n.tup (Aj (no M.n.1 (by intro kvs z;cases z))) ht
 ·rw[Aj (no M.l (by intro kvs z;cases z))];exact M.l
def C3 (z y:Int)(b:Bk)(v:V)(c dx ta l:Addr)(cs:List Cl):Cl:=⟨z,y,b,v,c,dx,ta,l,0,(Yw cs b).1,(Yw cs b).2⟩
def Iz (K:W.Frag)(CP CT:Addr):Sp:=λvs H Q _=>∃p q cs bs v b,∃(ta:Addr) (z y:Int),vs=[.ref p,.ref ta,v]/\PAt CP CT H p q cs bs/\cs.length<=600/\Rep NL H (CI b) v/\Dl b/\H ta=some (.tup [.int z,.int y,.int (AR b)])/\(∀e∈cs,e.z≠z)/\(∀t∈AK b,∃e∈cs,e.z=t.1)/\
 ∀H' c dx l bs',H c=none->H l=none->(∃us,H' l=some (.lst us)/\AI NL H' ((AK b).map Ej) us)->Fk CP CT H' p q ((cs++[C3 z y b v c dx ta l cs]).map (bump ((AK b).map (·.1))))->BsAt H' q ((cs++[C3 z y b v c dx ta l cs]).map (bump ((AK b).map (·.1)))) bs'->H' q.dd=some (.dK (Hu q.D cs))->Om (A9 p q cs bs) H H'->(∀x∈bs',x∈bs\/(x.1=AR b/\H x.2=none))->Q .non H'
theorem NK (T:Txt K mg Ab Ad Aa Ae XC)(F:Fun K "take" "Pool.take" Gf f fd)(Dq:Su P w K mg base 11 Aa "TakenCell" ["self","own_tag","block"] (EH K Aa))(Dh:BJ P w K mg base 2 Ae "entries_of" ["self","folder"] (En K Ae Aa))(DF:BJ P w K mg base 2 Ae "steps_of" ["self","folder"] (Ff K Ae Aa))(CW:BJ P w K mg base 1 Ae "hold" ["self","tag"] (Fn K Ae Aa)):FnOk P w K mg base BI 13 f fd ["self","tag","block"] (Iz K Ae Aa):=by
 exists DU
 ·obtain⟨p,q,cs,bs,v,b,ta,z,y,rfl,_⟩:=h;rfl
 obtain⟨p,q,cs,bs,v,b,ta,z,y,rfl,pa,few,hv,ok,hta,hz,hn,hq⟩:=h;have hu:=BL hr;refine⟨_,(!Af (@Ap _ _ (3) _ _ _ _ DU.nd rfl (by trivial) (!Of Dq (by trivial) rfl (!Ac (pv 1) (!Ac (pv 2) (!Ah)))) (by rfl) (by trivial)) (!Af (!AL (!Aw Bb (!Ax AE (pv 2) (!Ai) (λ_ _=>rfl)) (!AB rfl T.c_FOLDER) (Av _)) (!Af (!Cd (pv 3) (!A4 (pv 0) T.cl_Pool Dh (by trivial) (!Ac (pv 2) (!Ah)))) (!Ak (!Cd (pv 3) (!A4 (pv 0) T.cl_Pool DF (by trivial) (!Ac (pv 2) (!Ah)))))) (!Au)) (!Af (!IM hu (!AU (pv 0)) (!Ax AE (pv 1) (!Ai) (λ_ _=>rfl)) (pv 3)) (!Af (@Ap _ _ (4) _ _ _ _ DU.nd rfl (by trivial) (!Up (!AU (pv 0)) (!Ax AE (pv 1) (!Ai) (λ_ _=>rfl)) (!Ek) ⟨rfl,rfl,rfl,rfl⟩) (by rfl) (by trivial)) (!Af (!IM hu (pv 4) (!Ax AE (pv 1) (!Ai) (λ_ _=>rfl)) (!Ed)) (!Ak (!Bn aU rfl (!A2 (!AU (pv 3))) (@An _ _ (5) _ DU.nd rfl (by trivial) (by trivial)) (!Ak (!AN (!A4 (pv 0) T.cl_Pool CW (by trivial) (!Ac (pv 5) (!Ah))))) (by intro _;rfl)))))))),?_⟩
 try dsimp only[BM,Cx.nox,Cx.wish]
 refine⟨_,rfl,_,rfl,λc dx hc hdx hcd=>?_⟩;have hH1:∀a o,H a=some o->(upd (upd H dx (.own c)) c (.ins Aa dx [])) a=some o:=λa o h=>by
  rw[Aj (λz=>by rw[z,hc] at h;cases h),Aj (λz=>by rw[z,hdx] at h;cases h)];exact h
 refine⟨c,dx,ta,v,b,rfl,Ag,De (λc ys h=>hH1 c _ h) _ _ hv,ok,λl us H2 f2 nl hl r hc2=>⟨rfl,?_⟩⟩;have s2:As H H2:=λa o h=>f2 a o (hH1 a o h) (λz=>by rw[z,hc] at h;cases h)
 have nlH:H l=none:=by
  cases h:H l with
  |none=>rfl
  |some o=>rw[hH1 l o h] at nl;cases nl
 dsimp only[BH];refine G6 (λσ' H'=>σ'=[some (.ref p),some (.ref ta),some v,some (.ref c),none,none]/\As H H'/\H' c=some (.ins Aa dx (CM ta ((wT (CI b)).length:Int) l 0 (Yw cs b).1 (Yw cs b).2))/\H' l=some (.lst us)/\AI NL H' ((AK b).map Ej) us) (λN hN=>?_) ?_
 ·obtain⟨va,xs,rfl,hva⟩:=Mi hv;refine⟨_,rfl,va,_,_,_,rfl,rfl,A8.of (s2.get hva),Jm,rfl,_,rfl,Cs (λhk=>?_) (λhk=>?_)⟩
  ·cases b with
   |folder=>
    refine⟨_,rfl,p,q.dp,_,rfl,(pa.same s2).t.1,rfl,_,rfl,_,_,rfl,Rep.same s2 _ _ hv,λH4 s4=>?_⟩;refine⟨_,rfl,c,Aa,dx,_,rfl,s4.get hc2,T.cl_TakenCell,T.n_TakenCell_entries_beneath,(by show 6<1000;decide),?_⟩;have s5:As H (upd H4 c (.ins Aa dx (CM ta ((wT (CI .folder)).length:Int) l 0 0 0))):=A5 (s2.trans s4) hc _;refine⟨_,rfl,p,q.dp,_,rfl,(pa.same s5).t.1,rfl,_,rfl,_,_,rfl,Rep.same s5 _ _ hv,λH6 s6=>?_⟩;refine⟨_,rfl,c,Aa,dx,_,rfl,s6.get Ag,T.cl_TakenCell,T.n_TakenCell_steps_beneath,(by show 6<1000;decide),?_⟩;have nlc:l≠c:=AQ hl hc2 (by intro z;cases z);refine hN _ _ ⟨rfl,A5 (s5.trans s6) hc _,Ag,?_,?_⟩
    ·rw[Aj nlc];exact s6.get (by rw[Aj nlc];exact s4.get hl)
    ·cases r;rfl
   |piece _=>cases hk
   |row _ _=>cases hk
  ·refine hN _ _ ⟨rfl,s2,?_,hl,r⟩;cases b with
   |folder=>exact absurd rfl hk
   |piece _=>exact hc2
   |row _ _=>exact hc2
 rintro σ' H3 ⟨rfl,s3,hc3,hl3,r3⟩
 have pa3:=pa.same s3;have M3:Md Ae Aa H H3 p q cs (A9 p q cs bs) (C3 z y b v c dx ta l cs) us (Jo cs):=⟨As.frm s3,pa3.t.1,pa3.t.2.1,pa3.d,pa3.t.2.2.1,⟨hc3,s3.get hta,Rep.same s3 _ _ hv,ok⟩,hl3,r3⟩
 have fz:∀e∈cs,e.z≠z:=hz;have tkl:(Jo cs).length<100000:=by unfold Jo;rw[ab];lia
 have ht3:=s3.get hta;refine⟨_,rfl,_,rfl,p,Ae,q.dp,_,_,rfl,M3.p,T.cl_Pool,T.n_Pool_taken,rfl,_,rfl,ta,_,_,_,rfl,rfl,A8.of ht3,rfl,q.dt,_,rfl,NN.k (k:=Sum.inl z) M3.t (A7 (by lia)),?_⟩;have etk:putK (Jo cs) (Sum.inl z) (.ref c)=Jo (cs++[C3 z y b v c dx ta l cs]):=by
  rw[IZ _ (Ml λx hx=>?_)]
  ·unfold Jo;rw[aJ];rfl
  ·obtain⟨e,he,rfl⟩:=ae.mp hx;intro z;exact fz e he (cH z)
 rw[etk];have ot:q.dt∈A9 p q cs bs:=by unfold A9;simp
 have oz:q.dz∈A9 p q cs bs:=by unfold A9;simp
 have M4:=M3.putT (dt2:=Jo (cs++[C3 z y b v c dx ta l cs])) ot pa.n2;have B4:BsAt (upd H3 q.dt (.dK (Jo (cs++[C3 z y b v c dx ta l cs])))) q cs bs:={ pa3.b with h:=by rw[Aj (Ne.symm pa.n1)];exact pa3.b.h,d:=λx hx=>⟨by rw[Aj (pa3.b.d x hx).2.1];exact(pa3.b.d x hx).1,(pa3.b.d x hx).2⟩ }
 have hz4:∀a,(upd H3 q.dt (.dK (Jo (cs++[C3 z y b v c dx ta l cs])))) a=none->H a=none:=λa h=>by
  cases ha:H a with
  |none=>rfl
  |some o=>
   have:=s3.get ha
   by_cases e:a=q.dt
   ·rw[e,Ag] at h;cases h
   ·rw[Aj e,this] at h;cases h
 generalize (upd H3 q.dt (.dK (Jo (cs++[C3 z y b v c dx ta l cs]))))=H4 at M4 B4 hz4;have bl:bs.length<=997:=Xc pa.b.k pa.w;dsimp only;refine G6 (λσ' H'=>∃d bs',σ'=[some (.ref p),some (.ref ta),some v,some (.ref c),some (.ref d),none]/\Md Ae Aa H H' p q cs (A9 p q cs bs) (C3 z y b v c dx ta l cs) us (Jo (cs++[C3 z y b v c dx ta l cs]))/\BsAt H' q cs bs'/\(AR b,d)∈bs'/\(∀x∈bs',x∈bs\/(x.1=AR b/\H x.2=none))/\(d∈A9 p q cs bs\/H d=none)) (λN hN=>?_) ?_
 ·refine⟨_,rfl,p,Ae,q.dp,_,_,rfl,M4.p,T.cl_Pool,T.n_Pool_by_sums,rfl,q.dz,rfl,.inl ⟨_,.inl B4.h⟩,_,rfl,ta,_,_,_,rfl,rfl,A8.of M4.n.2.1,rfl,λdn hdn=>?_⟩;have ndn:∀{a o},H4 a=some o->dn≠a:=λ{a o} h z=>by rw[z,h] at hdn;cases hdn
  have M5:=M4.put (x:=dn) (o:=.dK []) (.inr (hz4 _ hdn)) (ndn M4.t) (ndn M4.d) (λu h=>by rw[hdn] at h;cases h);have B5:=B4.same (Al hdn (.dK []));refine⟨_,Sum.inl (AR b),B5.h,rfl,A7 (by unfold Uu;rw[ab];lia),λu hv=>?_,λhv=>?_⟩
  ·obtain⟨x,hx,hs,rfl⟩:=Td hv;refine hN _ _ ⟨x.2,bs,rfl,M5,B5,by rw[<-hs];exact hx,(λ_ h=>.inl h),.inl ?_⟩;unfold A9;simp only[List.mem_cons,List.mem_append];exact .inr (.inr (.inr (.inr (.inl (ae.mpr ⟨x,hx,rfl⟩)))))
  ·refine hN _ _ ⟨dn,bs++[(AR b,dn)],rfl,M5.put (.inl oz) (Ne.symm pa.n1) pa.n3 (λu h=>⟨_,by rw[B5.h] at h;exact(aA h).symm⟩),B4.fresh hv hdn (ndn M4.t) (ndn M4.d),by simp,(λx hx=>(ai.mp hx).imp id λh=>by rw[ag.mp h];exact⟨rfl,hz4 _ hdn⟩),.inr (hz4 _ hdn)⟩
 rintro σ' H5 ⟨d,bs',rfl,M5,B5,hd5,bfr,od⟩
 have hd6:=B5.d _ hd5;refine⟨_,rfl,_,rfl,ta,_,_,_,rfl,rfl,A8.of M5.n.2.1,rfl,d,_,rfl,NN.k (k:=Sum.inl z) hd6.1 (A7 (by unfold KQ;rw[ab];have:=O8 cs (AR b);show(Cv cs (AR b)).length<1000000;lia)),?_⟩;have B6:=B5.snoc (e:=C3 z y b v c dx ta l cs) hd5 (λh=>by
  obtain⟨e,he,_,hz'⟩:=Fc.mp h;exact fz e he hz')
 have M6:=M5.put (x:=d) (o:=.dK (putK (KQ (Cv cs (AR b))) (Sum.inl z) (.bl true))) od hd6.2.1 hd6.2.2.2 (λu h=>⟨_,by rw[hd6.1] at h;exact(aA h).symm⟩);have e6:(upd H5 d (.dK (putK (KQ (Cv cs (AR b))) (Sum.inl z) (.bl true))))=(upd H5 d (.dK (putK (KQ (Cv cs (AR (C3 z y b v c dx ta l cs).bk))) (Sum.inl (C3 z y b v c dx ta l cs).z) (.bl true)))):=rfl;rw[<-e6] at B6;dsimp only;generalize (upd H5 d (.dK (putK (KQ (Cv cs (AR b))) (Sum.inl z) (.bl true))))=H6 at M6 B6;have nc6:((cs++[C3 z y b v c dx ta l cs]).map (·.c)).Nodup:=by
  rw[aJ,cm];refine⟨pa.c,by simp,λa ha b' hb=>?_⟩;obtain⟨x,hx,rfl⟩:=ae.mp ha;have:b'=c:=ag.mp hb;rw[this];intro zz;have:=(pa.t.2.2.1 x hx).1;rw[zz,hc] at this;cases this
 have P6:Fk Ae Aa H6 p q (cs++[C3 z y b v c dx ta l cs]):=by
  refine⟨M6.p,M6.t,λe he=>?_,?_⟩
  ·rcases ai.mp he with he|he
   ·exact M6.c e he
   ·rw[ag.mp he];exact M6.n
  ·rw[aJ,cm];refine⟨pa.t.2.2.2,by simp,λa ha b' hb=>?_⟩;obtain⟨x,hx,rfl⟩:=ae.mp ha;have:b'=z:=ag.mp hb;rw[this];exact fz x hx
 refine⟨_,rfl,c,Aa,dx,_,_,rfl,M6.n.1,T.cl_TakenCell,T.n_TakenCell_named,rfl,l,rfl,⟨_,AJ.of M6.l⟩,?_⟩;refine BD (K:=K) (a:=l) (xs:=us) (λi σ H'=>(∃v5,σ=[some (.ref p),some (.ref ta),some v,some (.ref c),some (.ref d),v5])/\Fk Ae Aa H' p q ((cs++[C3 z y b v c dx ta l cs]).map (bump (((AK b).map (·.1)).take i)))/\BsAt H' q (cs++[C3 z y b v c dx ta l cs]) bs'/\H' q.dd=some (.dK (Hu q.D cs))/\H' l=some (.lst us)/\AI NL H' ((AK b).map Ej) us/\Om (A9 p q cs bs) H H') ⟨⟨_,rfl⟩,by rw[dA,RF];exact P6,B6,M6.d,M6.l,M6.u,M6.f⟩ ?_ ?_ ?_
 ·rintro i σ H' _ ⟨_,_,_,_,h,_⟩
  exact AJ.of h
 ·rintro i x σ H' hx ⟨⟨v5,rfl⟩,P7,B7,d7,l7,u7,f7⟩
  obtain⟨t,ht,rt⟩:=AI.get u7 hx;rw[aD] at ht;obtain⟨g,hg,rfl⟩:=aV.mp ht;obtain⟨tx,rfl,htx⟩:=Em rt;obtain⟨e,he,hze⟩:=hn g (az hg);have he7:bump (((AK b).map (·.1)).take i) e∈(cs++[C3 z y b v c dx ta l cs]).map (bump (((AK b).map (·.1)).take i)):=ae.mpr ⟨e,ai.mpr (.inl he),rfl⟩;have hz7:(bump (((AK b).map (·.1)).take i) e).z=g.1:=hze;have H7:=P7.hold (by rw[N0];exact nc6) he7;have c7:=(P7.2.2.1 _ he7).1;rw[<-hz7] at htx;dsimp only[BH];refine Di λEB eEB=>?_
  refine⟨_,rfl,p,q.dp,_,rfl,P7.1,rfl,_,rfl,p,q,_,_,tx,_,_,rfl,P7,he7,htx,?_⟩;have tp:∀a ys,H' a=some (.tup ys)->(upd H' (bump (((AK b).map (·.1)).take i) e).c (.ins Aa (bump (((AK b).map (·.1)).take i) e).dx (CM (bump (((AK b).map (·.1)).take i) e).ta ((wT (CI (bump (((AK b).map (·.1)).take i) e).bk)).length:Int) (bump (((AK b).map (·.1)).take i) e).l ((bump (((AK b).map (·.1)).take i) e).k+1) (bump (((AK b).map (·.1)).take i) e).en (bump (((AK b).map (·.1)).take i) e).st))) a=some (.tup ys):=λa ys h=>by rw[Aj (AQ h c7 (by intro z;cases z))];exact h
  subst eEB;refine⟨⟨_,rfl⟩,?_,B7.ins c7,by rw[Aj (AQ d7 c7 (by intro z;cases z))];exact d7,by rw[Aj (AQ l7 c7 (by intro z;cases z))];exact l7,Bf tp _ _ u7,λa o h n=>?_⟩
  ·rw[Qh,hz7] at H7;rw[bg,aD,hg];exact H7
  ·rw[Aj (λzz=>n (by rw[zz];unfold A9;simp only[List.mem_cons,List.mem_append];exact .inr (.inr (.inr (.inr (.inr (ae.mpr ⟨e,he,rfl⟩)))))))];exact f7 a o h n
 ·rintro σ H' ⟨⟨v5,rfl⟩,P7,B7,d7,l7,u7,f7⟩
  have lu:us.length=((AK b).map (·.1)).length:=by rw[AI.len _ _ u7,ab,ab]
  rw[lu,cM] at P7;exact hq H' c dx l bs' hc nlH ⟨us,l7,u7⟩ P7 (B7.bump _) d7 f7 bfr
theorem PAt.lst {CP CT:Addr}{H:Hp}{p:Addr}{q:Pl}{cs:List Cl}{bs:List (Int×Addr)}{l:Addr}{us us':List V}(h:PAt CP CT H p q cs bs)(hl:H l=some (.lst us)):PAt CP CT (upd H l (.lst us')) p q cs bs:=by
 have no:∀{a o},H a=some o->(∀ys,o≠.lst ys)->(upd H l (.lst us')) a=some o:=λ{a o} h1 n=>by rw[Aj (λz=>by rw[z,hl] at h1;exact n _ (aA h1).symm)];exact h1
 have nk:∀{a kvs},H a=some (.dK kvs)->(upd H l (.lst us')) a=some (.dK kvs):=λ{a kvs} h1=>no h1 (by intro ys z;cases z)
 refine⟨⟨no h.t.1 (by intro ys z;cases z),nk h.t.2.1,λe he=>?_,h.t.2.2.2⟩,nk h.d,{ h.b with h:=nk h.b.h,d:=λx hx=>⟨nk (h.b.d x hx).1,(h.b.d x hx).2⟩ },h.n1,h.n2,h.n3,h.c,h.z,h.w,h.f1,h.f2⟩;have hc:=(h.t.2.2.1 e he).1;exact(h.t.2.2.1 e he).tup ((no hc (by intro ys z;cases z)).trans hc.symm) λc ys h1=>no h1 (by intro ys z;cases z)
theorem PAt.setn {CP CT:Addr}{H H':Hp}{p:Addr}{q:Pl}{cs:List Cl}{bs:List (Int×Addr)}{m:Int}(h:PAt CP CT H p q cs bs)(hp:H' p=some (.ins CP q.dp (Hn q.bo q.dt q.dz q.dd m)))(ho:∀b,b≠p->H' b=H b)(m1:1<=m)(m2:Below cs m):PAt CP CT H' p { q with n:=m } cs bs:=by
 have no:∀{a o},H a=some o->(∀C d fs,o≠.ins C d fs)->H' a=some o:=λ{a o} h1 n=>by rw[ho a (λz=>by rw[z,h.t.1] at h1;exact n _ _ _ (aA h1).symm)];exact h1
 have nk:∀{a kvs},H a=some (.dK kvs)->H' a=some (.dK kvs):=λ{a kvs} h1=>no h1 (by intro C d fs z;cases z)
 refine⟨⟨hp,nk h.t.2.1,λe he=>?_,h.t.2.2.2⟩,nk h.d,{ h.b with h:=nk h.b.h,d:=λx hx=>⟨nk (h.b.d x hx).1,(h.b.d x hx).2⟩ },h.n1,h.n2,h.n3,h.c,h.z,h.w,m1,m2⟩;have hc:=(h.t.2.2.1 e he).1;refine(h.t.2.2.1 e he).tup (ho _ λz=>?_) λc ys h1=>no h1 (by intro C d fs z;cases z)
 rw[z,h.t.1] at hc;have:=aA hc;injection this with _ _ this
 injection this with this _
 injection this with this _
 revert this
 decide
def EL (K:W.Frag)(CP CT CB:Addr):Sp:=λvs H Q _=>∃p q cs bs v b,∃(y:Int),vs=[.ref p,v,.int y]/\PAt CP CT H p q cs bs/\Wt CB H q cs/\cs.length<=600/\Rep NL H (CI b) v/\Dl b/\(∀t∈AK b,∃e∈cs,e.z=t.1)/\
 (∀e∈cs,e.bk=b->∀H',As H H'->Q (.ref e.ta) H')/\
 ((∀e∈cs,e.bk≠b)->∀(m:Int) H' c dx l ta bs',1<=m->m<=(cs.length:Int)+1->(∀e∈cs,e.z≠m)->H c=none->H l=none->H ta=none->(∃us,H' l=some (.lst us)/\AI NL H' ((AK b).map Ej) us)->PAt CP CT H' p { q with n:=m,D:=m::q.D } ((cs++[C3 m y b v c dx ta l cs]).map (bump ((AK b).map (·.1)))) bs'->Om (A9 p q cs bs) H H'->(∀x∈bs',x∈bs\/H x.2=none)->Q (.ref ta) H')
theorem OI (T:Txt K mg Ab Ad Aa Ae XC)(F:Fun K "put" "Pool.put" Hw f fd)(Fl:BJ P w K mg base 18 Ae "alike" ["self","block"] (Hs K Ae Aa Ad))(GJ:BJ P w K mg base 13 Ae "take" ["self","tag","block"] (Iz K Ae Aa))(CU:BJ P w K mg base 1 Ae "free_number" ["self"] (DT K Ae Aa))(C6:Def P w K mg base 3 "sum_of" ["block"] (G3 K)):FnOk P w K mg base BI 19 f fd ["self","block","birth"] (EL K Ae Aa Ad):=by
 exists Gy
 ·obtain⟨p,q,cs,bs,v,b,y,rfl,_⟩:=h;rfl
 obtain⟨p,q,cs,bs,v,b,y,rfl,pa,brd,few,hv,ok,hn,hq1,hq2⟩:=h;have hu:=BL hr;refine⟨_,(!Af (@Ap _ _ (3) _ _ _ _ Gy.nd rfl (by trivial) (!A4 (pv 0) T.cl_Pool Fl (by trivial) (!Ac (pv 1) (!Ah))) (by rfl) (by trivial)) (!Af (!AL (!GE (!Nw (pv 3)) (by first|exact C7 _ (by decide) (by decide)|rfl)) (!Ak (!Ao (pv 3))) (!Au)) (!Af (@Ap _ _ (4) _ _ _ _ Gy.nd rfl (by trivial) (!DE (!Ac (!Dy (pv 0) T.cl_Pool CU) (!Ac (pv 2) (!Ac (!AG C6 (by trivial) rfl (!Ac (pv 1) (!Ah))) (!Ah))))) (by rfl) (by trivial)) (!Af (!AN (!A4 (pv 0) T.cl_Pool GJ (by trivial) (!Ac (pv 4) (!Ac (pv 1) (!Ah))))) (!Af (!IM hu (!AU (pv 0)) (!Ax AE (pv 4) (!Ai) (λ_ _=>rfl)) (pv 1)) (!Ak (!Ao (pv 4)))))))),?_⟩
 try dsimp only[BM,Cx.nox,Cx.wish]
 refine⟨_,rfl,p,q.dp,_,rfl,pa.t.1,rfl,_,rfl,p,q,cs,bs,v,b,rfl,pa,brd,few,hv,ok,λe he eb H1 s1=>?_,λhne H1 s1=>?_⟩
 ·exact⟨_,rfl,_,rfl,Ci rfl ⟨_,rfl,hq1 e he eb H1 s1⟩⟩
 refine⟨_,rfl,_,rfl,AV rfl ?_⟩;have pa1:=pa.same s1;refine⟨_,rfl,p,q.dp,_,rfl,pa1.t.1,rfl,p,q,cs,rfl,pa1.t,pa.f2,pa.f1,λm H2 m1 m2 bm fm hp2 ho2=>?_⟩;have pa2:PAt Ae Aa H2 p { q with n:=m } cs bs:=pa1.setn hp2 ho2 m1 bm;have tp2:∀a ys,H1 a=some (.tup ys)->H2 a=some (.tup ys):=λa ys h=>by rw[ho2 a (AQ h pa1.t.1 (by intro z;cases z))];exact h
 have k2:∀a o,H a=some o->∃o',H2 a=some o':=λa o h=>by
  by_cases e:a=p
  ·exact⟨_,by rw[e];exact hp2⟩
  ·exact⟨o,by rw[ho2 a e];exact s1.get h⟩
 refine⟨_,rfl,_,rfl,v,b,rfl,De tp2 _ _ (Rep.same s1 _ _ hv),ok,λH3 s3=>?_⟩;refine⟨UF,λta hta=>?_⟩;have s4:=s3.trans (Al hta (.tup [.int m,.int y,.int (AR b)]));have pa4:=pa2.same s4;have t4:(upd H3 ta (.tup [.int m,.int y,.int (AR b)])) ta=some (.tup [.int m,.int y,.int (AR b)]):=Ag;have hv4:=Rep.same s4 _ _ (De tp2 _ _ (Rep.same s1 _ _ hv));generalize (upd H3 ta (.tup [.int m,.int y,.int (AR b)]))=H4 at s4 pa4 t4 hv4;refine⟨_,rfl,p,q.dp,_,rfl,pa4.t.1,rfl,_,rfl,_,rfl,p,_,cs,bs,v,b,ta,_,y,rfl,pa4,few,hv4,ok,t4,fm,hn,λH5 c dx l bs' hc hl4 ⟨us,l5,u5⟩ P5 B5 d5 f5 bfr=>?_⟩;have t5:=f5 ta _ t4 (pa4.apart t4 (by intro C d fs z;cases z) (by intro kvs z;cases z));refine⟨_,rfl,_,rfl,p,Ae,q.dp,_,_,rfl,P5.1,T.cl_Pool,T.n_Pool_draft,rfl,_,rfl,ta,_,_,_,rfl,rfl,A8.of t5,rfl,q.dd,_,rfl,NN.k (k:=Sum.inl m) d5 (A7 (by have:=Vl q.D cs;show(Hu q.D cs).length<1000000;lia)),?_⟩;have fr:∀a,H4 a=none->H a=none:=λa hc=>by
  cases h:H a with
  |none=>rfl
  |some o=>
   obtain⟨o',h'⟩:=k2 a o h;rw[s4.get h'] at hc;cases hc
 have hcH:=fr c hc;have fr3:∀a,H3 a=none->H a=none:=λa hc=>by
  cases h:H a with
  |none=>rfl
  |some o=>
   obtain⟨o',h'⟩:=k2 a o h;rw[s3.get h'] at hc;cases hc
 have edr:putK (Hu q.D cs) (Sum.inl m) v=Hu (m::q.D) ((cs++[C3 m y b v c dx ta l cs]).map (bump ((AK b).map (·.1)))):=by
  rw[TN,IZ _ (Ml λx hx=>?_)]
  ·unfold Hu;rw[eS,aJ]
   congr 1
   ·refine congrArg _ (fZ λe he=>?_);rw[bT,aG,aG,aM];exact⟨.inr,λh=>h.resolve_left (fm e he)⟩
   ·rw[bL (by show decide (m∈m::q.D)=true;exact aH av)];rfl
  ·obtain⟨e,he,rfl⟩:=ae.mp hx;intro zz;exact fm e (bH.mp he).1 (cH zz)
 have d5:H5 q.dd=some (.dK (Hu q.D cs)):=d5;rw[edr];have nt0:∀{a u},H5 a=some u->(∀kvs,u≠.dK kvs)->a≠q.dd:=λ{a u} h n zz=>by
  rw[zz,d5] at h;exact n _ (aA h).symm
 refine⟨_,rfl,hq2 hne m _ c dx l ta bs' m1 m2 fm hcH (fr l hl4) (fr3 ta hta) ⟨us,by rw[Aj (nt0 l5 (by intro kvs z;cases z))];exact l5,Bf (λa ys h=>by rw[Aj (nt0 h (by intro kvs z;cases z))];exact h) _ _ u5⟩ ?_ (λa o h n=>?_) λx hx=>(bfr x hx).imp id λh=>fr x.2 h.2⟩
 ·have nt:∀{a u},H5 a=some u->(∀kvs,u≠.dK kvs)->a≠q.dd:=λ{a u} h n zz=>by
   rw[zz,d5] at h;exact n _ (aA h).symm
  refine⟨⟨?_,?_,λe he=>?_,P5.2.2.2⟩,Ag,{ B5 with h:=?_,d:=λx hx=>⟨?_,(B5.d x hx).2⟩ },pa.n1,pa.n2,pa.n3,?_,λe h=>?_,?_,?_,?_⟩
  ·rw[Aj (nt P5.1 (by intro kvs z;cases z))];exact P5.1
  ·rw[Aj pa.n2];exact P5.2.1
  ·exact(P5.2.2.1 e he).tup (Aj (nt (P5.2.2.1 e he).1 (by intro kvs z;cases z))) λa ys h=>by rw[Aj (nt h (by intro kvs z;cases z))];exact h
  ·rw[Aj pa.n3];exact B5.h
  ·rw[Aj (B5.d x hx).2.2.2];exact(B5.d x hx).1
  ·rw[N0,aJ,cm];refine⟨pa.c,by simp,λa ha b' hb=>?_⟩;obtain⟨x,hx,rfl⟩:=ae.mp ha;have:b'=c:=ag.mp hb;rw[this];intro zz;have:=(pa.t.2.2.1 x hx).1;rw[zz,hcH] at this;cases this
  ·obtain⟨x,hx,rfl⟩:=ae.mp h;show 1<=x.z;rcases ai.mp hx with hx|hx
   ·exact pa.z x hx
   ·rw[ag.mp hx];exact m1
  ·intro x hx;rcases bfr x hx with h|h
   ·exact pa.w x h
   ·rw[h.1];exact UY b
  ·exact m1
  ·intro i i1 i2;obtain⟨e,he,rfl⟩:=bm i i1 i2;exact⟨bump _ e,ae.mpr ⟨e,ai.mpr (.inl he),rfl⟩,rfl⟩
 ·have na:a≠q.dd:=λzz=>n (by rw[zz];unfold A9;simp)
  have np:a≠p:=λzz=>n (by rw[zz];unfold A9;simp)
  rw[Aj na];exact f5 a o (s4.get (by rw[ho2 a np];exact s1.get h)) n
end
open M06 M10
section
variable {P:Program}{w:World}{K:W.Frag}{mg:Str->Option Value}{base:Heap}{f Ab Ad Aa Ae:Addr}{XC:Nat->Addr}{fd:FuncData}
def Hj (K:W.Frag)(CP CT:Addr):Sp:=λvs H Q _=>∃p q cs e,vs=[.ref p,.int e.z]/\Fk CP CT H p q cs/\e∈cs/\Q (.int e.k) H
theorem Mr (T:Txt K mg Ab Ad Aa Ae XC)(F:Fun K "count" "Pool.count" FJ f fd):FnOk P w K mg base BI 1 f fd ["self","number"] (Hj K Ae Aa):=by
 exists MD
 ·obtain⟨p,q,cs,e,rfl,_⟩:=h;rfl
 obtain⟨p,q,cs,e,rfl,⟨h1,h2,h4,nd⟩,he,hq⟩:=h;have hu:=BL hr;refine⟨_,(!Ak (!Ao (!AU (!EF hu (!AU (pv 0)) (pv 1) (λ_ _=>rfl))))),?_⟩
 try dsimp only[BM,Cx.nox,Cx.wish]
 have g:CN H q.dt (.int e.z) (some (.ref e.c)):=by
  have:=CN.k (k:=Sum.inl e.z) h2;rw[Hv nd he] at this;exact this
 exact⟨_,rfl,p,Ae,q.dp,_,_,rfl,h1,T.cl_Pool,T.n_Pool_taken,rfl,_,rfl,q.dt,_,rfl,g,e.c,Aa,e.dx,_,_,rfl,(h4 e he).1,T.cl_TakenCell,T.n_TakenCell_times_named,rfl,hq⟩
def Jj (K:W.Frag)(CP CT:Addr):Sp:=λvs H Q _=>∃p q cs e us,vs=[.ref p,.int e.z]/\Fk CP CT H p q cs/\e∈cs/\H e.l=some (.lst us)/\∀l,H l=none->Q (.ref l) (upd H l (.lst us))
theorem NG (T:Txt K mg Ab Ad Aa Ae XC)(F:Fun K "tags" "Pool.tags" Gm f fd):FnOk P w K mg base BI 1 f fd ["self","number"] (Jj K Ae Aa):=by
 exists Oc
 ·obtain⟨p,q,cs,e,us,rfl,_⟩:=h;rfl
 obtain⟨p,q,cs,e,us,rfl,⟨h1,h2,h4,nd⟩,he,hl,hq⟩:=h;have hu:=BL hr;have hu9:=E4 hr;refine⟨_,(!Ak (!Ao (!Cz DZ (by rfl) T.b_list K1 (!Ac (!AU (!EF hu (!AU (pv 0)) (pv 1) (λ_ _=>rfl))) (!Ah))))),?_⟩
 try dsimp only[BM,Cx.nox,Cx.wish]
 have g:CN H q.dt (.int e.z) (some (.ref e.c)):=by
  have:=CN.k (k:=Sum.inl e.z) h2;rw[Hv nd he] at this;exact this
 exact⟨_,rfl,p,Ae,q.dp,_,_,rfl,h1,T.cl_Pool,T.n_Pool_taken,rfl,_,rfl,q.dt,_,rfl,g,e.c,Aa,e.dx,_,_,rfl,(h4 e he).1,T.cl_TakenCell,T.n_TakenCell_named,rfl,e.l,_,rfl,.inl (AJ.of hl),λl nl=>hq l nl⟩
def DJ (K:W.Frag)(CP CT:Addr):Sp:=λvs H Q _=>∃p q cs,vs=[.ref p]/\Fk CP CT H p q cs/\cs.length<=600/\∀(ms:List Int) l,ms.Perm (cs.map (·.z))->H l=none->Q (.ref l) (upd H l (.lst (ms.map V.int)))
theorem Kv (T:Txt K mg Ab Ad Aa Ae XC)(F:Fun K "numbers" "Pool.numbers" D7 f fd):FnOk P w K mg base BI 1 f fd ["self"] (DJ K Ae Aa):=by
 exists KJ
 ·obtain⟨p,q,cs,rfl,_⟩:=h;rfl
 obtain⟨p,q,cs,rfl,pa,few,hq⟩:=h;have hu:=BL hr;refine⟨_,(!Ak (!Ao (!Aq (GL rfl) (by rfl) T.b_sorted G0 (!Ac (!AU (pv 0)) (!Ah))))),?_⟩
 try dsimp only[BM,Cx.nox,Cx.wish]
 exact⟨_,rfl,p,Ae,q.dp,_,_,rfl,pa.1,T.cl_Pool,T.n_Pool_taken,rfl,q.dt,_,cs.map (·.z),rfl,pa.2.1,by unfold Jo;rw[aI,aI];rfl,(by rw[ab];lia),λms l pm nl=>hq ms l pm nl⟩
def Ds (z:Int)(cs:List Cl):List Cl:=cs.filter λe=>decide (e.z≠z)
theorem Cf {z:Int}{cs:List Cl}{e:Cl}:e∈Ds z cs↔e∈cs/\e.z≠z:=by
 unfold Ds;rw[bH,aG]
theorem Lx {g:Cl->V}(z:Int):∀cs:List Cl,Cp (cs.map λe=>((Sum.inl e.z:Key),g e)) (Sum.inl z)=(Ds z cs).map λe=>((Sum.inl e.z:Key),g e)
 |[]=>rfl
 |e::cs=>by
  have ih:=Lx (g:=g) z cs;unfold Cp Ds at ih ⊢;rw[au]
  by_cases h:e.z=z
  ·rw[bM (by simp[h]),bM (by simp[h])];exact ih
  ·rw[bL (by simp[h]),bL (by simp[h]),au,ih]
theorem Q4 (z:Int):∀ns:List Int,Cp (KQ ns) (Sum.inl z)=KQ (ns.filter λn=>decide (n≠z))
 |[]=>rfl
 |n::ns=>by
  have ih:=Q4 z ns;unfold Cp KQ at ih ⊢;rw[au]
  by_cases h:n=z
  ·rw[bM (by simp[h]),bM (by simp[h])];exact ih
  ·rw[bL (by simp[h]),bL (by simp[h]),au,ih]
theorem OX (z s:Int)(cs:List Cl):Cv (Ds z cs) s=(Cv cs s).filter λn=>decide (n≠z):=by
 unfold Cv Ds;rw[eE,eR,eR]
 congr 1
 exact fZ λe _=>Bool.and_comm _ _
theorem Vw {CP CT:Addr} {H H':Hp} {p:Addr} {q:Pl} {cs:List Cl} {bs:List (Int×Addr)} {e:Cl} {x:Int×Addr} (pa:PAt CP CT H p q cs bs) (he:e∈cs) (hx:x∈bs) (hs:x.1=AR e.bk) (hp:H' p=some (.ins CP q.dp (Hn q.bo q.dt q.dz q.dd (if e.z<q.n then e.z else q.n))))
  (ht:H' q.dt=some (.dK (Jo (Ds e.z cs)))) (hd:H' q.dd=some (.dK (Hu q.D (Ds e.z cs)))) (hz:H' x.2=some (.dK (KQ (Cv (Ds e.z cs) x.1)))) (g:∀a,a≠p->a≠q.dt/\a≠q.dd/\a≠x.2->H' a=H a):PAt CP CT H' p { q with n:=if e.z<q.n then e.z else q.n } (Ds e.z cs) bs:=by
 have no:∀{a o},H a=some o->a≠p->(∀kvs,o≠.dK kvs)->H' a=some o:=λ{a o} h n1 n=>(g a n1 ⟨(λz=>by rw[z,pa.t.2.1] at h;exact n _ (aA h).symm),(λz=>by rw[z,pa.d] at h;exact n _ (aA h).symm),λz=>by rw[z,(pa.b.d x hx).1] at h;exact n _ (aA h).symm⟩).trans h
 have nt:∀a ys,H a=some (.tup ys)->H' a=some (.tup ys):=λa ys h=>no h (AQ h pa.t.1 (by intro z;cases z)) (by intro kvs z;cases z)
 have npk:∀{a kvs},H a=some (.dK kvs)->a≠p:=λ{a kvs} h=>AQ h pa.t.1 (by intro z;cases z)
 have z1:=pa.z e he;have f1:=pa.f1;refine⟨⟨hp,ht,λy hy=>?_,pa.t.2.2.2.sublist (gv _ eF)⟩,hd,⟨?_,pa.b.k,pa.b.a,λy hy=>?_,λy hy=>pa.b.all y (Cf.mp hy).1⟩,pa.n1,pa.n2,pa.n3,pa.c.sublist (gv _ eF),λy hy=>pa.z y (Cf.mp hy).1,pa.w,?_,λi i1 i2=>?_⟩
 ·have hc:=pa.t.2.2.1 y (Cf.mp hy).1;have ncp:y.c≠p:=λz=>by
   have h1:=hc.1;rw[z,pa.t.1] at h1;have:=aA h1;injection this with _ _ this
   injection this with this _
   injection this with this _
   revert this
   decide
  exact hc.tup ((no hc.1 ncp (by intro kvs z;cases z)).trans hc.1.symm) nt
 ·show H' q.dz=_;rw[g q.dz (npk pa.b.h) ⟨Ne.symm pa.n1,pa.n3,Ne.symm (pa.b.d x hx).2.2.1⟩];exact pa.b.h
 ·refine⟨?_,(pa.b.d y hy).2⟩
  by_cases hyx:y=x
  ·subst hyx;exact hz
  ·have n2:y.2≠x.2:=λz=>hyx (AH pa.b.a hy hx z)
   have n1:y.1≠x.1:=λz=>hyx (AH pa.b.k hy hx z)
   rw[g y.2 (npk (pa.b.d y hy).1) ⟨(pa.b.d y hy).2.1,(pa.b.d y hy).2.2.2,n2⟩,(pa.b.d y hy).1,OX]
   congr 2
   refine(congrArg KQ (dH.mpr λn hn=>?_)).symm;rw[aG];intro z;obtain⟨e',he',hs',hz'⟩:=Fc.mp hn;obtain rfl:=AH pa.t.2.2.2 he' he (hz'.trans z);exact n1 (hs'.symm.trans hs.symm)
 ·show 1<=if e.z<q.n then e.z else q.n
  split<;>lia
 ·have i2:i<if e.z<q.n then e.z else q.n:=i2;obtain⟨y,hy,rfl⟩:=pa.f2 i i1 (by split at i2<;>lia);refine⟨y,Cf.mpr ⟨hy,λz=>?_⟩,rfl⟩
  split at i2<;>lia
theorem Vd {kvs:List (Key×V)}{k:Key}(h:BB kvs k=none):Cp kvs k=kvs:=by
 unfold BB at h;rw[dg,di] at h;unfold Cp;refine dH.mpr λx hx=>aH λe=>h x hx (aH e)
theorem UX (D:List Int)(z:Int)(cs:List Cl):Cp (Hu D cs) (Sum.inl z)=Hu D (Ds z cs):=by
 unfold Hu;rw[Lx]
 congr 1
 unfold Ds;rw[eR,eR];exact fZ λe _=>Bool.and_comm _ _
def Fj (K:W.Frag)(CP CT:Addr):Sp:=λvs H Q _=>∃p q cs bs e,vs=[.ref p,.int e.z]/\PAt CP CT H p q cs bs/\e∈cs/\∀(m:Int) H',PAt CP CT H' p { q with n:=m } (Ds e.z cs) bs->(∀a o,H a=some o->a≠p->(∀kvs,o≠.dK kvs)->H' a=some o)->Om (A9 p q cs bs) H H'->Q .non H'
theorem NP (T:Txt K mg Ab Ad Aa Ae XC)(F:Fun K "free" "Pool.free" F4 f fd)(BQ:BJ P w K mg base 1 Ae "tag" ["self","number"] (EM K Ae Aa)):FnOk P w K mg base BI 2 f fd ["self","number"] (Fj K Ae Aa):=by
 exists Og
 ·obtain⟨p,q,cs,bs,e,rfl,_⟩:=h;rfl
 obtain⟨p,q,cs,bs,e,rfl,pa,he,hq⟩:=h;have hu:=BL hr;refine⟨_,(!Af (!AN (!OB (!EF hu (!AU (pv 0)) (!Ax AE (!A4 (pv 0) T.cl_Pool BQ (by trivial) (!Ac (pv 1) (!Ah))) (!Ai) (λ_ _=>rfl)) (λ_ _=>rfl)) (pv 1) ⟨rfl,rfl,rfl,rfl⟩)) (!Af (!AN (!Ts (!AU (pv 0)) (pv 1) (!Eh) ⟨rfl,rfl,rfl,rfl⟩)) (!Af (!AN (!OB (!AU (pv 0)) (pv 1) ⟨rfl,rfl,rfl,rfl⟩)) (!Ak (!Cd (pv 0) (!Aq (Se rfl) (by rfl) T.b_min WY (!Ac (!AU (pv 0)) (!Ac (pv 1) (!Ah))))))))),?_⟩
 try dsimp only[BM,Cx.nox,Cx.wish]
 have ce:=pa.t.2.2.1 e he;obtain⟨x,hx,hs⟩:=pa.b.all e he;have gz:CN H q.dz (.int (AR e.bk)) (some (.ref x.2)):=by
  have:=CN.k (k:=Sum.inl (AR e.bk)) pa.b.h;rw[<-hs,PZ pa.b.k hx,hs] at this;exact this
 refine⟨_,rfl,p,Ae,q.dp,_,_,rfl,pa.t.1,T.cl_Pool,T.n_Pool_by_sums,rfl,_,rfl,p,q.dp,_,rfl,pa.t.1,rfl,_,rfl,p,q,cs,e,rfl,pa.t,he,e.ta,_,_,_,rfl,rfl,A8.of ce.2.1,rfl,q.dz,_,rfl,gz,x.2,rfl,.inl ⟨_,.inl (pa.b.d x hx).1⟩,_,rfl,_,Sum.inl e.z,.bl true,(pa.b.d x hx).1,rfl,?_,?_⟩
 ·refine LJ ?_ (ae.mpr ⟨e.z,Fc.mpr ⟨e,he,hs.symm,rfl⟩,rfl⟩);unfold KQ;rw[aI];refine gc _ (λa b (n:a≠b) e=>n (cH e)) ?_;exact List.Nodup.sublist (gv _ eF) pa.t.2.2.2
 have hdd:(upd H x.2 (.dK (Cp (KQ (Cv cs x.1)) (Sum.inl e.z)))) q.dd=some (.dK (Hu q.D cs)):=by rw[Aj (Ne.symm (pa.b.d x hx).2.2.2)];exact pa.d
 have hdt:(upd H x.2 (.dK (Cp (KQ (Cv cs x.1)) (Sum.inl e.z)))) q.dt=some (.dK (Jo cs)):=by rw[Aj (Ne.symm (pa.b.d x hx).2.1)];exact pa.t.2.1
 have nd:∀{a o},H a=some o->(∀kvs,o≠.dK kvs)->a≠x.2:=λ{a o} h n z=>by rw[z,(pa.b.d x hx).1] at h;exact n _ (aA h).symm
 have hp:(upd H x.2 (.dK (Cp (KQ (Cv cs x.1)) (Sum.inl e.z)))) p=_:=(Aj (nd pa.t.1 (by intro kvs z;cases z))).trans pa.t.1;have g1:∀a,a≠x.2->(upd H x.2 (.dK (Cp (KQ (Cv cs x.1)) (Sum.inl e.z)))) a=H a:=λa n=>Aj n
 have gx:(upd H x.2 (.dK (Cp (KQ (Cv cs x.1)) (Sum.inl e.z)))) x.2=_:=Ag;generalize (upd H x.2 (.dK (Cp (KQ (Cv cs x.1)) (Sum.inl e.z))))=H1 at hdd hdt hp g1 gx;have eH:BB (Hu q.D cs) (Sum.inl e.z)=none->H1=upd H1 q.dd (.dK (Cp (Hu q.D cs) (Sum.inl e.z))):=λhv=>by
  rw[Vd hv]
  funext a
  by_cases ha:a=q.dd
  ·rw[ha,Ag];exact hdd
  ·rw[Aj ha]
 refine⟨_,rfl,p,Ae,q.dp,_,_,rfl,hp,T.cl_Pool,T.n_Pool_draft,rfl,q.dd,rfl,.inl ⟨_,.inl hdd⟩,_,rfl,_,Sum.inl e.z,hdd,rfl,λv hv=>?_,λhv=>?_⟩
 all_goals
  try rw[eH hv]
  dsimp only;generalize e1:upd H1 q.dd (.dK (Cp (Hu q.D cs) (Sum.inl e.z)))=H2;have npd:p≠q.dd:=AQ pa.t.1 pa.d (by intro z;cases z);have npt:p≠q.dt:=AQ pa.t.1 pa.t.2.1 (by intro z;cases z);have hp2:H2 p=some (.ins Ae q.dp (Hn q.bo q.dt q.dz q.dd q.n)):=by rw[<-e1,Aj npd];exact hp
  have ht2:H2 q.dt=some (.dK (Jo cs)):=by rw[<-e1,Aj pa.n2];exact hdt
  refine⟨_,rfl,p,Ae,q.dp,_,_,rfl,hp2,T.cl_Pool,T.n_Pool_taken,rfl,q.dt,rfl,.inl ⟨_,.inl ht2⟩,_,rfl,_,Sum.inl e.z,_,ht2,rfl,Hv pa.t.2.2.2 he,?_⟩;generalize e2:upd H2 q.dt (.dK (Cp (Jo cs) (Sum.inl e.z)))=H3;have hp3:H3 p=some (.ins Ae q.dp (Hn q.bo q.dt q.dz q.dd q.n)):=by rw[<-e2,Aj npt];exact hp2
  refine⟨_,rfl,p,Ae,q.dp,_,_,rfl,hp3,T.cl_Pool,T.n_Pool_first_maybe_free,rfl,_,rfl,_,_,rfl,?_⟩;refine⟨_,rfl,p,Ae,q.dp,_,rfl,hp3,T.cl_Pool,T.n_Pool_first_maybe_free,(by show 5<1000;decide),?_⟩;have nx:∀{a o},H a=some o->(∀kvs,o≠.dK kvs)->a≠q.dt/\a≠q.dd/\a≠x.2:=λ{a o} h n=>⟨(λz=>by rw[z,pa.t.2.1] at h;exact n _ (aA h).symm),(λz=>by rw[z,pa.d] at h;exact n _ (aA h).symm),nd h n⟩
  have g:∀{a},a≠p->a≠q.dt/\a≠q.dd/\a≠x.2->∀o,(upd H3 p o) a=H a:=λ{a} n1 n2 o=>by rw[Aj n1,<-e2,Aj n2.1,<-e1,Aj n2.2.1,g1 _ n2.2.2]
  have npx:p≠x.2:=nd pa.t.1 (by intro kvs z;cases z);refine hq (if e.z<q.n then e.z else q.n) _ (Vw pa he hx hs Ag ?_ ?_ ?_ λa n1 n2=>g n1 n2 _) (λa o h n1 n2=>(g n1 (nx h n2) _).trans h) λa o h n=>?_
  ·rw[Aj (Ne.symm npt),<-e2,Ag];unfold Jo;rw[Lx]
  ·rw[Aj (Ne.symm npd),<-e2,Aj (Ne.symm pa.n2),<-e1,Ag,UX]
  ·rw[Aj (Ne.symm npx),<-e2,Aj (pa.b.d x hx).2.1,<-e1,Aj (pa.b.d x hx).2.2.2,gx,Q4,OX]
  ·unfold A9 at n;simp only[List.mem_cons,List.mem_append,not_or] at n;exact(g n.1 ⟨n.2.1,n.2.2.2.1,λz=>n.2.2.2.2.1 (by rw[z];exact ae.mpr ⟨x,hx,rfl⟩)⟩ _).trans h
def Nf (L:List (Int×List Int))(X:List Int)(z:Int):Prop:=(∀x∈L,z∉x.2)/\z∉X
def Ll (z:Int)(L:List (Int×List Int)):List (Int×List Int):=L.filter λx=>decide (x.1≠z)
theorem DD {z:Int}{L:List (Int×List Int)}{x:Int×List Int}:x∈Ll z L↔x∈L/\x.1≠z:=by
 unfold Ll;rw[bH,aG]
theorem Nf.sub {L M:List (Int×List Int)}{X Y:List Int}{z:Int}(h:Nf L X z)(hs:∀x∈M,x∈L)(hx:∀x∈Y,x∈X):Nf M Y z:=⟨λx hx=>h.1 x (hs x hx),λhz=>h.2 (hx z hz)⟩
inductive Cas (X:List Int) (Z:Int->Prop):List (Int×List Int)->List (Int×List Int)->Prop
 |refl (L:List (Int×List Int)):Cas X Z L L
 |step {L M:List (Int×List Int)} (z:Int) (h:Nf L X z) (hz:¬Z z) (t:Cas X Z (Ll z L) M):Cas X Z L M
theorem Cas.trans {X:List Int}{Z:Int->Prop}{L M N:List (Int×List Int)}(a:Cas X Z L M)(b:Cas X Z M N):Cas X Z L N:=by
 induction a with
 |refl=>exact b
 |step z h hz _ ih=>exact .step z h hz (ih b)
theorem Cas.weak {X Y:List Int}{Z W:Int->Prop}{L M:List (Int×List Int)}(a:Cas X Z L M)(hx:∀x∈Y,x∈X)(hz:∀z,W z->Z z):Cas Y W L M:=by
 induction a with
 |refl=>exact .refl _
 |step z h hn _ ih=>exact .step z (h.sub (λ_ h=>h) hx) (λw=>hn (hz z w)) ih
theorem Cas.sub {X:List Int}{Z:Int->Prop}{L M:List (Int×List Int)}(a:Cas X Z L M):∀x∈M,x∈L:=by
 induction a with
 |refl=>exact λ_ h=>h
 |step z h hn _ ih=>exact λx hx=>(DD.mp (ih x hx)).1
theorem Cas.keep {X:List Int}{Z:Int->Prop}{L M:List (Int×List Int)}(a:Cas X Z L M){x:Int×List Int}(hx:x∈L)(hz:Z x.1):x∈M:=by
 induction a with
 |refl=>exact hx
 |step z h hn _ ih=>exact ih (DD.mpr ⟨hx,λe=>hn (by rw[<-e];exact hz)⟩)
theorem Cas.conf {X:List Int}{Z:Int->Prop}{L M N:List (Int×List Int)}(a:Cas X Z L M)(hs:∀x∈N,x∈L)(hc:∀x∈N,Nf N X x.1->Z x.1):∀x∈N,x∈M:=by
 induction a with
 |refl=>exact hs
 |step z h hn _ ih=>exact ih λx hx=>DD.mpr ⟨hs x hx,λe=>hn (by rw[<-e];exact hc x hx (by rw[e];exact h.sub hs λ_ h=>h))⟩
def Lc (cs:List Cl):List (Int×List Int):=cs.map λe=>(e.z,(AK e.bk).map (·.1))
theorem JK (z:Int)(cs:List Cl):Lc (Ds z cs)=Ll z (Lc cs):=by
 unfold Lc Ds Ll;rw[eE];rfl
theorem D9 {cs:List Cl}{e:Cl}(h:e∈cs):(e.z,(AK e.bk).map (·.1))∈Lc cs:=ae.mpr ⟨e,h,rfl⟩
def NV (L:List (Int×List Int))(z:Int):Nat:=(L.map λx=>x.2.count z).sum
theorem F5 (x:Int×List Int)(L:List (Int×List Int))(z:Int):NV (x::L) z=x.2.count z+NV L z:=by unfold NV;rw[au,bR]
theorem V7 (L M:List (Int×List Int))(z:Int):NV (L++M) z=NV L z+NV M z:=by unfold NV;rw[aJ,gF]
theorem E8 {z:Int}:∀{L:List (Int×List Int)},NV L z=0↔∀x∈L,z∉x.2
 |[]=>⟨(λ_ _ h=>nomatch h),λ_=>rfl⟩
 |x::L=>by
  rw[F5,Nat.add_eq_zero_iff,cG,E8];exact⟨λh y hy=>(aM.mp hy).elim (λe=>by rw[e];exact h.1) (h.2 y),λh=>⟨h x av,λy hy=>h y (ao _ hy)⟩⟩
theorem VG {L:List (Int×List Int)}(nd:(L.map (·.1)).Nodup){x:Int×List Int}(hx:x∈L)(z:Int):NV L z=x.2.count z+NV (Ll x.1 L) z:=by
 induction L with
 |nil=>nomatch hx
 |cons y L ih=>
  rw[au,bF] at nd;rcases aM.mp hx with rfl|hx
  ·have e:Ll x.1 (x::L)=L:=by
    unfold Ll;rw[bM (by simp)];exact dH.mpr λy hy=>by
     have n:y.1≠x.1:=λz=>nd.1 (ae.mpr ⟨y,hy,z⟩)
     simpa using n
   rw[e,F5]
  ·have n:y.1≠x.1:=λz=>nd.1 (by rw[z];exact ae.mpr ⟨x,hx,rfl⟩)
   have e:Ll x.1 (y::L)=y::Ll x.1 L:=by
    unfold Ll;rw[bL (by simpa using n)]
   rw[e,F5,F5,ih nd.2 hx]
   lia
structure Rt (cs:List Cl) (X:List Int):Prop where
 k:∀e∈cs,e.k=(NV (Lc cs) e.z:Int)+(X.count e.z:Int)
 x:∀z∈X,∃e∈cs,e.z=z
 n:∀e∈cs,∀t∈AK e.bk,∃c∈cs,c.z=t.1
def kf (g:Cl->Int)(e:Cl):Cl:={ e with k:=g e }
theorem W8 (g:Cl->Int)(cs:List Cl):Jo (cs.map (kf g))=Jo cs:=by unfold Jo;rw[aI];rfl
theorem W9 (D:List Int)(g:Cl->Int)(cs:List Cl):Hu D (cs.map (kf g))=Hu D cs:=by unfold Hu;rw[eE,aI];rfl
theorem Yd (g:Cl->Int)(cs:List Cl):(cs.map (kf g)).map (·.z)=cs.map (·.z):=by rw[aI];rfl
theorem Wd (g:Cl->Int)(cs:List Cl):(cs.map (kf g)).map (·.c)=cs.map (·.c):=by rw[aI];rfl
theorem Km (g:Cl->Int)(cs:List Cl):Lc (cs.map (kf g))=Lc cs:=by unfold Lc;rw[aI];rfl
theorem V4 (g:Cl->Int)(s:Int)(cs:List Cl):Cv (cs.map (kf g)) s=Cv cs s:=by
 unfold Cv;rw[eE,aI];rfl
theorem PAt.setK {CP CT:Addr}{H H':Hp}{p:Addr}{q:Pl}{cs:List Cl}{bs:List (Int×Addr)}{g:Cl->Int}(h:PAt CP CT H p q cs bs)(hc:∀e∈cs,H' e.c=some (.ins CT e.dx (CM e.ta ((wT (CI e.bk)).length:Int) e.l (g e) e.en e.st)))(ho:∀a,a∉cs.map (·.c)->H' a=H a):PAt CP CT H' p q (cs.map (kf g)) bs:=by
 have nc:∀{a o},H a=some o->(∀C d fs,o≠.ins C d fs)->H' a=some o:=λ{a o} h1 n=>(ho a λhm=>by
  obtain⟨e,he,rfl⟩:=ae.mp hm;rw[(h.t.2.2.1 e he).1] at h1;exact n _ _ _ (aA h1).symm).trans h1
 have np:p∉cs.map (·.c):=λhm=>by
  obtain⟨e,he,z⟩:=ae.mp hm;have h1:=(h.t.2.2.1 e he).1;rw[z,h.t.1] at h1;have:=aA h1;injection this with _ _ this
  injection this with this _
  injection this with this _
  revert this
  decide
 have nt:∀a ys,H a=some (.tup ys)->H' a=some (.tup ys):=λa ys h1=>nc h1 (by intro C d fs z;cases z)
 refine⟨⟨(ho p np).trans h.t.1,by rw[W8];exact nc h.t.2.1 (by intro C d fs z;cases z),λe he=>?_,by rw[Yd];exact h.t.2.2.2⟩,by rw[W9];exact nc h.d (by intro C d fs z;cases z),⟨nc h.b.h (by intro C d fs z;cases z),h.b.k,h.b.a,λx hx=>⟨by rw[V4];exact nc (h.b.d x hx).1 (by intro C d fs z;cases z),(h.b.d x hx).2⟩,λe he=>?_⟩,h.n1,h.n2,h.n3,by rw[Wd];exact h.c,λe he=>?_,h.w,h.f1,λi i1 i2=>?_⟩
 ·obtain⟨y,hy,rfl⟩:=ae.mp he;obtain⟨a1,a2,a3,a4⟩:=h.t.2.2.1 y hy;exact⟨hc y hy,nt _ _ a2,De nt _ _ a3,a4⟩
 ·obtain⟨y,hy,rfl⟩:=ae.mp he;exact h.b.all y hy
 ·obtain⟨y,hy,rfl⟩:=ae.mp he;exact h.z y hy
 ·obtain⟨y,hy,rfl⟩:=h.f2 i i1 i2;exact⟨kf g y,ae.mpr ⟨y,hy,rfl⟩,rfl⟩
theorem Rt.congr {cs:List Cl}{X Y:List Int}(h:Rt cs X)(e:∀z,X.count z=Y.count z):Rt cs Y:=
 ⟨λc hc=>by rw[<-e];exact h.k c hc,λz hz=>h.x z (by rw[<-List.count_pos_iff,e,List.count_pos_iff];exact hz),h.n⟩
def minus (e x:Cl):Int:=if x.z=e.z then e.k-1 else x.k
theorem Rt.dec {cs:List Cl}{X:List Int}{e:Cl}(h:Rt cs (e.z::X))(nd:(cs.map (·.z)).Nodup)(he:e∈cs):Rt (cs.map (kf (minus e))) X:=by
 have up:∀z:Int,(∃c∈cs,c.z=z)->∃c∈cs.map (kf (minus e)),c.z=z:=λz ⟨c,hc,hz⟩=>⟨_,ae.mpr ⟨c,hc,rfl⟩,hz⟩
 refine⟨λc hc=>?_,λz hz=>up z (h.x z (ao _ hz)),λc hc t ht=>?_⟩
 ·obtain⟨y,hy,rfl⟩:=ae.mp hc;rw[Km];show minus e y=(NV (Lc cs) y.z:Int)+(X.count y.z:Int);have hk:=h.k y hy;unfold minus
  by_cases hz:y.z=e.z
  ·obtain rfl:=AH nd hy he hz;rw[aC rfl,hk,List.count_cons_self]
   lia
  ·rw[ay hz,hk,List.count_cons_of_ne (λz=>hz z.symm)]
 ·obtain⟨y,hy,rfl⟩:=ae.mp hc;exact up _ (h.n y hy t ht)
theorem NU {cs:List Cl}(nd:(cs.map (·.z)).Nodup):((Lc cs).map (·.1)).Nodup:=by
 unfold Lc;rw[aI];exact nd
theorem Rt.none {cs:List Cl}{X:List Int}{e:Cl}(h:Rt cs X)(he:e∈cs)(hk:e.k=0):Nf (Lc cs) X e.z:=by
 have:=h.k e he;exact⟨E8.mp (by lia),cG.mp (by lia)⟩
theorem Rt.out {cs:List Cl}{X:List Int}{e:Cl}(h:Rt cs X)(nd:(cs.map (·.z)).Nodup)(he:e∈cs)(hk:e.k=0):Rt (Ds e.z cs) ((AK e.bk).map (·.1)++X):=by
 have nf:=h.none he hk;have ex:∀z:Int,z≠e.z->(∃c∈cs,c.z=z)->∃c∈Ds e.z cs,c.z=z:=λz n ⟨c,hc,hz⟩=>⟨c,Cf.mpr ⟨hc,by rw[hz];exact n⟩,hz⟩
 refine⟨λc hc=>?_,λz hz=>?_,λc hc t ht=>?_⟩
 ·have hc':=(Cf.mp hc).1;rw[h.k c hc',VG (NU nd) (D9 he) c.z,JK,gb];simp only[Int.natCast_add]
  lia
 ·rcases ai.mp hz with hz|hz
  ·obtain⟨t,ht,rfl⟩:=ae.mp hz;exact ex _ (λz=>nf.1 _ (D9 he) (by rw[<-z];exact ae.mpr ⟨t,ht,rfl⟩)) (h.n e he t ht)
  ·exact ex z (λe1=>nf.2 (by rw[<-e1];exact hz)) (h.x z hz)
 ·have hc':=(Cf.mp hc).1;exact ex _ (λz=>nf.1 _ (D9 hc') (by rw[<-z];exact ae.mpr ⟨t,ht,rfl⟩)) (h.n c hc' t ht)
def Ri (H:Hp)(cs:List Cl):Prop:=∀e∈cs,∃us,H e.l=some (.lst us)/\AI NL H ((AK e.bk).map Ej) us
def Px (H:Hp)(zs:List Int)(us:List V):Prop:=us.length=zs.length/\∀(i:Nat) z,zs[i]?=some z->∃a r,us[i]?=some (.ref a)/\H a=some (.tup (.int z::r))
theorem R0 {b:Bk}(ok:Dl b):(AK b).length<=16:=by
 cases b with
 |piece z=>exact aR _
 |row lv ts=>
  have:=ok.2.1;show ts.length<=16
  lia
 |folder=>exact aR _
def Py (cs:List Cl):Nat:=(cs.map λe=>(AK e.bk).length).sum
theorem Ra {cs:List Cl}(nd:(cs.map (·.z)).Nodup){e:Cl}(he:e∈cs):Py cs=(AK e.bk).length+Py (Ds e.z cs):=by
 unfold Py
 induction cs with
 |nil=>nomatch he
 |cons y L ih=>
  rw[au,bF] at nd;rcases aM.mp he with rfl|hx
  ·have e1:Ds e.z (e::L)=L:=by
    unfold Ds;rw[bM (by simp)];exact dH.mpr λy hy=>by
     have n:y.z≠e.z:=λz=>nd.1 (ae.mpr ⟨y,hy,z⟩)
     simpa using n
   rw[e1,au,bR]
  ·have n:y.z≠e.z:=λz=>nd.1 (by rw[z];exact ae.mpr ⟨e,hx,rfl⟩)
   have e1:Ds e.z (y::L)=y::Ds e.z L:=by
    unfold Ds;rw[bL (by simpa using n)]
   rw[e1,au,au,bR,bR,ih nd.2 hx]
   lia
theorem WW {cs:List Cl}(h:∀e∈cs,(AK e.bk).length<=16):Py cs<=16*cs.length:=by
 unfold Py
 induction cs with
 |nil=>exact aR _
 |cons y L ih=>
  rw[au,bR,aL];have:=h y av;have:=ih λe he=>h e (ao _ he)
  lia
theorem S6 (g:Cl->Int)(cs:List Cl):Py (cs.map (kf g))=Py cs:=by unfold Py;rw[aI];rfl
theorem PAt.cp {CP CT:Addr}{H:Hp}{p:Addr}{q:Pl}{cs:List Cl}{bs:List (Int×Addr)}(h:PAt CP CT H p q cs bs){e:Cl}(he:e∈cs):e.c≠p:=λz=>by
 have h1:=(h.t.2.2.1 e he).1;rw[z,h.t.1] at h1;have:=aA h1;injection this with _ _ this
 injection this with this _
 injection this with this _
 revert this
 decide
theorem Px.app {H:Hp}{zs ys:List Int}{us vs:List V}(h1:Px H zs us)(h2:Px H ys vs):Px H (zs++ys) (us++vs):=by
 refine⟨by rw[ar,ar,h1.1,h2.1],λi z h=>?_⟩
 by_cases hi:i<zs.length
 ·rw[bG hi] at h;rw[bG (by rw[h1.1];exact hi)];exact h1.2 i z h
 ·rw[bK (by lia)] at h;rw[bK (by rw[h1.1];lia),h1.1];exact h2.2 _ z h
theorem Px.reps {H:Hp}{ts:List Tg}{us:List V}(h:AI NL H (ts.map Ej) us):Px H (ts.map (·.1)) us:=by
 refine⟨by rw[AI.len _ _ h,ab,ab],λi z hz=>?_⟩;have hi:i<ts.length:=by have:=(aj.mp hz).1;rwa [ab] at this
 have lu:=AI.len _ _ h;rw[ab] at lu;obtain⟨t,e1,e2⟩:=AI.get h (aa (by lia:i<us.length));rw[aD,aa hi] at e1 hz;cases e1;cases hz;obtain⟨a,ea,ha⟩:=Em e2;exact⟨a,_,by rw[aa (by lia),ea],ha⟩
theorem Px.keep {H H':Hp}{zs:List Int}{us:List V}(h:Px H zs us)(k:∀a ys,H a=some (.tup ys)->H' a=some (.tup ys)):Px H' zs us:=⟨h.1,λi z hz=>by
 obtain⟨a,r,h1,h2⟩:=h.2 i z hz;exact⟨a,r,h1,k _ _ h2⟩⟩
def DP (K:W.Frag)(CP CT:Addr):Sp:=λvs H Q _=>∃p q cs bs,∃(ta:Addr) (z:Int) (r:List V) (X:List Int),vs=[.ref p,.ref ta]/\PAt CP CT H p q cs bs/\cs.length<=600/\H ta=some (.tup (.int z::r))/\Ri H cs/\Rt cs (z::X)/\
 ∀(m:Int) H' cs',PAt CP CT H' p { q with n:=m } cs' bs->Ri H' cs'->Rt cs' X->Cas X (λu=>Nf (Lc cs) X u/\u≠z) (Lc cs) (Lc cs')->(∀x∈Lc cs',Nf (Lc cs') X x.1->Nf (Lc cs) X x.1/\x.1≠z)->(∀e∈cs',∃k,{ e with k:=k }∈cs)->Om (A9 p q cs bs) H H'->Q .non H'
theorem KF (T:Txt K mg Ab Ad Aa Ae XC)(F:Fun K "release" "Pool.release" Ec f fd)(CZ:BJ P w K mg base 2 Ae "free" ["self","number"] (Fj K Ae Aa)):FnOk P w K mg base BI 3 f fd ["self","tag"] (DP K Ae Aa):=by
 exists CO
 ·obtain⟨p,q,cs,bs,ta,z,r,X,rfl,_⟩:=h;rfl
 obtain⟨p,q,cs,bs,ta,z,r,X,rfl,pa,few,hta,na,rt,hq⟩:=h;have hu:=BL hr;refine⟨_,(!Af (@Ap _ _ (2) _ _ _ _ CO.nd rfl (by trivial) (!Be (!Ac (pv 1) (!Ah))) (by rfl) (by trivial)) (!Ak (!IS aU (!Aw FX (!Aq Az (by rfl) T.b_len AZ (!Ac (pv 2) (!Ah))) (!Ai) (Av _)) (!Af (@Ap _ _ (3) _ _ _ _ CO.nd rfl (by trivial) (!Ax AE (!Xl aT ir ig WX (pv 2)) (!Ai) (λ_ _=>rfl)) (by rfl) (by trivial)) (!Af (@Ap _ _ (4) _ _ _ _ CO.nd rfl (by trivial) (!EF hu (!AU (pv 0)) (pv 3) (λ_ _=>rfl)) (by rfl) (by trivial)) (!Af (!Fh (pv 4) (!Ai) VF) (!Ak (!AL (!Aw Bb (!AU (pv 4)) (!Ai) (Av _)) (!Af (!AN (!A4 (pv 0) T.cl_Pool CZ (by trivial) (!Ac (pv 3) (!Ah)))) (!Ak (!AN (!Ca aT dM dJ GX (pv 2) (!Ac (!AU (pv 4)) (!Ah)))))) (!Au))))))))),?_⟩
 try dsimp only[BM,Cx.nox,Cx.wish]
 have hwl0:∀{wl:Addr},H wl=none->∀e∈cs,e.l≠wl:=λh e he z=>by
  obtain⟨us,h1,_⟩:=na e he;rw[z,h] at h1;cases h1
 refine⟨_,rfl,Qx,λwl hwl=>?_⟩;have nwl:=hwl0 hwl;have s1:=Al hwl (.lst [.ref ta]);refine⟨λm σ H2=>∃(cs1:List Cl) (m1:Int) (W:List Int) (us:List V) (v3 v4:Option V),m=Py cs1+W.length/\m<=10000/\σ=[some (.ref p),some (.ref ta),some (.ref wl),v3,v4]/\PAt Ae Aa H2 p { q with n:=m1 } cs1 bs/\Ri H2 cs1/\H2 wl=some (.lst us)/\Px H2 W us/\Rt cs1 (W++X)/\
  Cas X (λu=>Nf (Lc cs) X u/\u≠z) (Lc cs) (Lc cs1)/\(∀u∈W,¬(Nf (Lc cs) X u/\u≠z))/\(∀x∈Lc cs1,Nf (Lc cs1) (W++X) x.1->Nf (Lc cs) X x.1/\x.1≠z)/\(∀e∈cs1,∃k,{ e with k:=k }∈cs)/\Om (A9 p q cs bs) H H2,⟨_,cs,q.n,[z],[.ref ta],none,none,rfl,?_,rfl,pa.same s1,?_,Ag,⟨rfl,λi z' h=>?_⟩,rt,.refl _,?_,?_,λe he=>⟨e.k,he⟩,As.frm s1⟩,?_⟩
 ·have:=WW λe he=>R0 (pa.t.2.2.1 e he).2.2.2
  show Py cs+1<=10000
  lia
 ·intro e he;obtain⟨us,h1,h2⟩:=na e he;exact⟨us,s1.get h1,AI.same s1 _ _ h2⟩
 ·cases i with
  |zero=>cases h;exact⟨ta,r,rfl,s1.get hta⟩
  |succ i=>simp at h
 ·intro u hu;rw[ag.mp hu];exact λh=>h.2 rfl
 ·intro x hx h;exact⟨h.sub (λ_ h=>h) (λy hy=>ao _ hy),λe=>h.2 (by rw[e];exact av)⟩
 rintro m σ H2 ⟨cs1,m1,W,us,v3,v4,rfl,hm,rfl,pa1,na1,hw,wa,rt1,ca,nz,cl,sb,fr⟩
 refine⟨_,rfl,wl,_,rfl,.inl (AJ.of hw),_,_,rfl,rfl,_,rfl,Cs (λc=>?_) (λc=>?_)⟩
 ·have c:0<us.length:=by have:=bf c;lia
  refine⟨λσ' H'=>∃(cs1':List Cl) (m1:Int) (W':List Int) (us:List V) (v3 v4:Option V),Py cs1'+W'.length<Py cs1+W.length/\σ'=[some (.ref p),some (.ref ta),some (.ref wl),v3,v4]/\PAt Ae Aa H' p { q with n:=m1 } cs1' bs/\Ri H' cs1'/\H' wl=some (.lst us)/\Px H' W' us/\Rt cs1' (W'++X)/\
   Cas X (λu=>Nf (Lc cs) X u/\u≠z) (Lc cs) (Lc cs1')/\(∀u∈W',¬(Nf (Lc cs) X u/\u≠z))/\(∀x∈Lc cs1',Nf (Lc cs1') (W'++X) x.1->Nf (Lc cs) X x.1/\x.1≠z)/\(∀e∈cs1',∃k,{ e with k:=k }∈cs)/\Om (A9 p q cs bs) H H',(by rintro σ' H' ⟨c1,c2,c3,c4,c5,c6,c7,c8⟩;exact⟨_,c7,c1,c2,c3,c4,c5,c6,rfl,by lia,c8⟩),?_⟩
  have wn:W≠[]:=λz=>by rw[z] at wa;have:=wa.1;rw[gH] at this;lia
  obtain⟨W',n,rfl⟩:∃W' n,W=W'++[n]:=⟨W.dropLast,W.getLast wn,(gI wn).symm⟩
  have lw:=wa.1;rw[ar,dq] at lw;obtain⟨a,ra,hla,ha⟩:=wa.2 W'.length n (by simp);have hl2:us[us.length-1]?=some (.ref a):=by rw[show us.length-1=W'.length by lia];exact hla
  have s3:∀b o,H2 b=some o->b≠wl->(upd H2 wl (.lst us.dropLast)) b=some o:=λb o h n=>by rw[Aj n];exact h
  have t3:∀b ys,H2 b=some (.tup ys)->(upd H2 wl (.lst us.dropLast)) b=some (.tup ys):=λb ys h=>s3 b _ h (AQ h hw (by intro z;cases z))
  have kp:∀(b:Addr) o,H2 b=some o->(∀ys,o≠.lst ys)->(upd H2 wl (.lst us.dropLast)) b=some o:=λb o h n=>s3 b o h (λz=>by rw[z,hw] at h;exact n _ (aA h).symm)
  have pa3:PAt Ae Aa (upd H2 wl (.lst us.dropLast)) p { q with n:=m1 } cs1 bs:=pa1.lst hw;obtain⟨e,he,hze⟩:=rt1.x n (by simp);subst hze;have ce:=pa3.t.2.2.1 e he;have g:CN (upd H2 wl (.lst us.dropLast)) q.dt (.int e.z) (some (.ref e.c)):=by
   have:=CN.k (k:=Sum.inl e.z) pa3.t.2.1;rw[Hv pa3.t.2.2.2 he] at this;exact this
  refine Di λEB eEB=>?_
  refine⟨_,rfl,.inl ⟨rfl,_,AJ.of hw⟩,wl,us,_,rfl,rfl,hw,hl2,a,_,_,_,rfl,rfl,A8.of (t3 a _ ha),Jm,?_⟩;refine⟨_,rfl,p,Ae,q.dp,_,_,rfl,pa3.t.1,T.cl_Pool,T.n_Pool_taken,rfl,_,rfl,q.dt,_,rfl,g,?_⟩;refine⟨_,rfl,e.c,Aa,e.dx,_,_,rfl,ce.1,T.cl_TakenCell,T.n_TakenCell_times_named,rfl,_,_,rfl,rfl,e.dx,_,ce.1,(by show 6<1000;decide),?_⟩;have rt2:Rt (cs1.map (kf (minus e))) (W'++X):=(rt1.congr (Y:=e.z::(W'++X)) λz=>by simp only[List.count_append,List.count_cons,List.count_nil];lia).dec pa3.t.2.2.2 he;generalize e4:upd (upd H2 wl (.lst us.dropLast)) e.c (.ins Aa e.dx (CM e.ta ((wT (CI e.bk)).length:Int) e.l (e.k-1) e.en e.st))=H4;have e4':upd (upd H2 wl (.lst us.dropLast)) e.c (.ins Aa e.dx (DB "times_named" (V.int (e.k-1)) (CM e.ta ((wT (CI e.bk)).length:Int) e.l e.k e.en e.st)))=H4:=e4;rw[e4'];have k4:∀(b:Addr) o,H2 b=some o->b≠wl->(∀C d fs,o≠.ins C d fs)->H4 b=some o:=λb o h n1 n2=>by
   have h3:=s3 b o h n1;rw[<-e4,Aj (λz=>by rw[z,ce.1] at h3;exact n2 _ _ _ (aA h3).symm)];exact h3
  have t4:∀b ys,H2 b=some (.tup ys)->H4 b=some (.tup ys):=λb ys h=>k4 b _ h (AQ h hw (by intro z;cases z)) (by intro C d fs z;cases z)
  have pa4:PAt Ae Aa H4 p { q with n:=m1 } (cs1.map (kf (minus e))) bs:=by
   refine pa3.setK (λx hx=>?_) λa ha=>?_
   ·unfold minus
    by_cases hz:x.z=e.z
    ·obtain rfl:=AH pa3.t.2.2.2 hx he hz;rw[aC rfl,<-e4,Ag]
    ·rw[ay hz,<-e4,Aj (λz=>hz (by rw[AH pa3.c hx he z]))];exact(pa3.t.2.2.1 x hx).1
   ·rw[<-e4,Aj (λz=>ha (by rw[z];exact ae.mpr ⟨e,he,rfl⟩))]
  have nl1:∀x∈cs1,x.l≠wl:=λx hx=>by
   obtain⟨k,hk⟩:=sb x hx;have:=nwl _ hk;exact this
  have na4:Ri H4 (cs1.map (kf (minus e))):=λx hx=>by
   obtain⟨y,hy,rfl⟩:=ae.mp hx;obtain⟨ys,h1,h2⟩:=na1 y hy;exact⟨ys,k4 _ _ h1 (nl1 y hy) (by intro C d fs z;cases z),Bf t4 _ _ h2⟩
  have hw4:H4 wl=some (.lst us.dropLast):=by rw[<-e4,Aj (λz=>by have:=ce.1;rw[<-z,Ag] at this;cases this),Ag]
  have wa4:Px H4 W' us.dropLast:=⟨by rw[fN];lia,λi z' h=>by
   have hi:i<W'.length:=(aj.mp h).1;obtain⟨b,rb,h1,h2⟩:=wa.2 i z' (by rw[bG hi];exact h);exact⟨b,rb,by rw[List.getElem?_dropLast,aC (by lia)];exact h1,t4 _ _ h2⟩⟩
  have sb4:∀x∈cs1.map (kf (minus e)),∃k,{ x with k:=k }∈cs:=λx hx=>by
   obtain⟨y,hy,rfl⟩:=ae.mp hx;exact sb y hy
  have mc:e.c∈A9 p q cs bs:=by
   obtain⟨k,hk⟩:=sb e he;unfold A9;simp only[List.mem_cons,List.mem_append];exact .inr (.inr (.inr (.inr (.inr (ae.mpr ⟨_,hk,rfl⟩)))))
  have fr4:Om (A9 p q cs bs) H H4:=λa o h n=>by
   rw[<-e4,Aj (λz=>n (by rw[z];exact mc)),Aj (λz=>by rw[z,hwl] at h;cases h)];exact fr a o h n
  have he4:kf (minus e) e∈cs1.map (kf (minus e)):=ae.mpr ⟨e,he,rfl⟩;have hc4:=(pa4.t.2.2.1 _ he4).1;have ek:minus e e=e.k-1:=by unfold minus;rw[aC rfl]
  have hc4':H4 e.c=some (.ins Aa e.dx (CM e.ta ((wT (CI e.bk)).length:Int) e.l (e.k-1) e.en e.st)):=by rw[<-ek];exact hc4
  refine⟨_,rfl,e.c,Aa,e.dx,_,_,rfl,hc4',T.cl_TakenCell,T.n_TakenCell_times_named,rfl,rfl,_,rfl,Cs (λc0=>?_) (λc0=>?_)⟩
  ·have c0:e.k-1=0:=V.int.inj (bf c0);have ek0:(kf (minus e) e).k=0:=ek.trans c0;refine⟨_,rfl,p,q.dp,_,rfl,pa4.t.1,rfl,_,rfl,p,_,_,bs,kf (minus e) e,rfl,pa4,he4,λm5 H5 pa5 kp5 fr5=>?_⟩;obtain⟨zs,hz1,hz2⟩:=na4 _ he4;have kt5:∀a ys,H4 a=some (.tup ys)->H5 a=some (.tup ys):=λa ys h=>kp5 a _ h (AQ h pa4.t.1 (by intro z;cases z)) (by intro kvs z;cases z)
   have kl5:∀a ys,H4 a=some (.lst ys)->H5 a=some (.lst ys):=λa ys h=>kp5 a _ h (AQ h pa4.t.1 (by intro z;cases z)) (by intro kvs z;cases z)
   have l5:H5 e.l=some (.lst zs):=kl5 _ _ hz1;have w5:=kl5 _ _ hw4;have c5:=kp5 _ _ hc4' (pa3.cp he) (by intro kvs z;cases z);have z5:AI NL H5 ((AK e.bk).map Ej) zs:=Bf kt5 _ _ hz2;have lz:zs.length=(AK e.bk).length:=by rw[AI.len _ _ z5,ab]
   have mo:=Ra pa3.t.2.2.2 he;have lw4:=wa4.1;have hm2:Py cs1+(W'.length+1)<=10000:=by simpa using hm
   refine⟨_,rfl,.inl ⟨rfl,_,AJ.of w5⟩,_,rfl,e.c,Aa,e.dx,_,_,rfl,c5,T.cl_TakenCell,T.n_TakenCell_named,rfl,wl,e.l,_,_,rfl,rfl,w5,l5,small (by show us.dropLast.length+zs.length<=1000000;lia),?_⟩;have k6:∀a ys,H5 a=some (.tup ys)->(upd H5 wl (.lst (us.dropLast++zs))) a=some (.tup ys):=λa ys h=>by rw[Aj (AQ h w5 (by intro z;cases z))];exact h
   subst eEB;refine⟨Ds e.z (cs1.map (kf (minus e))),m5,W'++(AK e.bk).map (·.1),us.dropLast++zs,_,_,?_,rfl,pa5.lst w5,λx hx=>?_,Ag,(wa4.app (Px.reps hz2)).keep λa ys h=>k6 a ys (kt5 a ys h),?_,?_,λu hu=>?_,λx hx hn=>?_,λx hx=>sb4 x (Cf.mp hx).1,λa o h n=>?_⟩
   ·have:Py (cs1.map (kf (minus e)))=_:=Ra (pa4.t.2.2.2) he4;rw[S6] at this;have this:Py cs1=(AK e.bk).length+Py (Ds e.z (cs1.map (kf (minus e)))):=this;rw[ar,ar,ab,dq]
    lia
   ·have hx':=(Cf.mp hx).1;obtain⟨ys,h1,h2⟩:=na4 x hx';obtain⟨y,hy,rfl⟩:=ae.mp hx';refine⟨ys,by rw[Aj (show(kf (minus e) y).l≠wl from nl1 y hy)];exact kl5 _ _ h1,Bf (λa ys h=>k6 a ys (kt5 a ys h)) _ _ h2⟩
   ·exact(rt2.out pa4.t.2.2.2 he4 ek0).congr λz=>by
     show((AK e.bk).map (·.1)++(W'++X)).count z=_;simp only[List.count_append];lia
   ·refine ca.trans (.step e.z ?_ (nz e.z (by simp)) ?_)
    ·have:=rt2.none he4 ek0;rw[Km] at this;exact this.sub (λ_ h=>h) λy hy=>ai.mpr (.inr hy)
    ·rw[JK,Km];exact .refl _
   ·rcases ai.mp hu with hu|hu
    ·exact nz u (ai.mpr (.inl hu))
    ·obtain⟨k,hk⟩:=sb e he;exact λh=>h.1.1 _ (D9 hk) hu
   ·rw[JK,Km] at hx hn;have hx':=DD.mp hx;refine cl x hx'.1 ⟨λy hy=>?_,λhm=>?_⟩
    ·by_cases hy1:y.1=e.z
     ·have:y=(e.z,(AK e.bk).map (·.1)):=AH (NU pa3.t.2.2.2) hy (D9 he) hy1;rw[this];exact λh=>hn.2 (ai.mpr (.inl (ai.mpr (.inr h))))
     ·exact hn.1 y (DD.mpr ⟨hy,hy1⟩)
    ·rcases ai.mp hm with hm|hm
     ·rcases ai.mp hm with hm|hm
      ·exact hn.2 (ai.mpr (.inl (ai.mpr (.inl hm))))
      ·exact hx'.2 (ag.mp hm)
     ·exact hn.2 (ai.mpr (.inr hm))
   ·rw[Aj (λz=>by rw[z,hwl] at h;cases h)];refine fr5 a o (fr4 a o h n) λhm=>n ?_
    unfold A9 at hm ⊢;simp only[List.mem_cons,List.mem_append] at hm ⊢;rcases hm with hm|hm|hm|hm|hm|hm
    ·exact .inl hm
    ·exact .inr (.inl hm)
    ·exact .inr (.inr (.inl hm))
    ·exact .inr (.inr (.inr (.inl hm)))
    ·exact .inr (.inr (.inr (.inr (.inl hm))))
    ·refine .inr (.inr (.inr (.inr (.inr ?_))));rw[Wd] at hm;obtain⟨x,hx,rfl⟩:=ae.mp hm;obtain⟨k,hk⟩:=sb x hx;exact ae.mpr ⟨_,hk,rfl⟩
  ·have c0:e.k-1≠0:=λz=>c0 (aH (by rw[z]))
   subst eEB;refine⟨cs1.map (kf (minus e)),m1,W',us.dropLast,_,_,?_,rfl,pa4,na4,hw4,wa4,rt2,by rw[Km];exact ca,λu hu=>nz u (ai.mpr (.inl hu)),λx hx hn=>?_,sb4,fr4⟩
   ·rw[S6,ar,dq]
    lia
   ·rw[Km] at hx hn;refine cl x hx ⟨hn.1,λhm=>?_⟩;rcases ai.mp hm with hm|hm
    ·rcases ai.mp hm with hm|hm
     ·exact hn.2 (ai.mpr (.inl hm))
     ·have xe:=ag.mp hm;have h1:=rt2.k _ he4;rw[Km] at h1;have h1:e.k-1=(NV (Lc cs1) e.z:Int)+((W'++X).count e.z:Int):=ek.symm.trans h1;rw[xe] at hn;have:=E8.mpr hn.1;have:=cG.mpr hn.2
      lia
    ·exact hn.2 (ai.mpr (.inr hm))
 ·have c:¬0<us.length:=λz=>c (aH (by lia))
  have:W=[]:=bC (by have:=wa.1;lia);subst this;exact hq m1 H2 cs1 pa1 na1 rt1 ca cl sb fr
theorem sub_len {cs cs':List Cl}(nd:(cs'.map (·.z)).Nodup)(h:∀e∈cs',∃k,{ e with k:=k }∈cs):cs'.length<=cs.length:=by
 have:=Gv (m:=cs.map (·.z)) nd λx hx=>by
  obtain⟨e,he,rfl⟩:=ae.mp hx;obtain⟨k,hk⟩:=h e he;exact ae.mpr ⟨_,hk,rfl⟩
 rw[ab,ab] at this;exact this
theorem K4 {p:Addr}{q:Pl}{m:Int}{cs cs':List Cl}{bs:List (Int×Addr)}(h:∀e∈cs',∃k,{ e with k:=k }∈cs){a:Addr}(hm:a∈A9 p { q with n:=m } cs' bs):a∈A9 p q cs bs:=by
 unfold A9 at hm ⊢;simp only[List.mem_cons,List.mem_append] at hm ⊢;rcases hm with hm|hm|hm|hm|hm|hm
 ·exact .inl hm
 ·exact .inr (.inl hm)
 ·exact .inr (.inr (.inl hm))
 ·exact .inr (.inr (.inr (.inl hm)))
 ·exact .inr (.inr (.inr (.inr (.inl hm))))
 ·refine .inr (.inr (.inr (.inr (.inr ?_))));obtain⟨x,hx,rfl⟩:=ae.mp hm;obtain⟨k,hk⟩:=h x hx;exact ae.mpr ⟨_,hk,rfl⟩
theorem Sk {cs cs' cs'':List Cl}(h:∀e∈cs',∃k,{ e with k:=k }∈cs)(h':∀e∈cs'',∃k,{ e with k:=k }∈cs'):∀e∈cs'',∃k,{ e with k:=k }∈cs:=λe he=>by
 obtain⟨k,hk⟩:=h' e he;have:=h _ hk;exact this
def zk (cs:List Cl):V->Bool
 | .int n=>cs.any λe=>decide (e.z=n)&&decide (e.k=0)
 |_=>false
theorem UB {cs:List Cl}(nd:(cs.map (·.z)).Nodup){e:Cl}(he:e∈cs):zk cs (.int e.z)=decide (e.k=0):=by
 rw[bT,aG];show(cs.any λx=>decide (x.z=e.z)&&decide (x.k=0))=true↔_;rw[c9];constructor
 ·rintro⟨x,hx,h⟩
  rw[bq,aG,aG] at h;rw[<-AH nd hx he h.1];exact h.2
 ·exact λh=>⟨e,he,by rw[bq,aG,aG];exact⟨rfl,h⟩⟩
theorem Jq (f:V->Bool):∀ms:List Int,(ms.map V.int).filter f=(ms.filter λn=>f (.int n)).map V.int
 |[]=>rfl
 |n::ms=>by
  rw[au];cases h:f (.int n) with
  |true=>rw[bL h,bL (p:=λn=>f (.int n)) h,au,Jq f ms]
  |false=>rw[bM (by rw[h];exact aB),bM (p:=λn=>f (.int n)) (by rw[h];exact aB),Jq f ms]
def Hl (K:W.Frag)(CP CT:Addr):Sp:=λvs H Q _=>∃p q cs bs,∃(X:List Int),vs=[.ref p]/\PAt CP CT H p q cs bs/\cs.length<=600/\Ri H cs/\Rt cs X/\
 ∀(m:Int) H' cs',PAt CP CT H' p { q with n:=m } cs' bs->Ri H' cs'->Rt cs' X->Cas X (λ_=>False) (Lc cs) (Lc cs')->(∀x∈Lc cs',¬Nf (Lc cs') X x.1)->(∀e∈cs',∃k,{ e with k:=k }∈cs)->Om (A9 p q cs bs) H H'->Q .non H'
theorem Mv (T:Txt K mg Ab Ad Aa Ae XC)(F:Fun K "sweep" "Pool.sweep" FI f fd)(GH:BJ P w K mg base 1 Ae "tags" ["self","number"] (Jj K Ae Aa))(CZ:BJ P w K mg base 2 Ae "free" ["self","number"] (Fj K Ae Aa))(B0:BJ P w K mg base 1 Ae "numbers" ["self"] (DJ K Ae Aa))(B8:BJ P w K mg base 3 Ae "release" ["self","tag"] (DP K Ae Aa))(FR:BJ P w K mg base 1 Ae "count" ["self","number"] (Hj K Ae Aa)):FnOk P w K mg base BI 4 f fd ["self"] (Hl K Ae Aa):=by
 exists CK
 ·obtain⟨p,q,cs,bs,X,rfl,_⟩:=h;rfl
 obtain⟨p,q,cs,bs,X,rfl,pa,few,na,rt,hq⟩:=h;have hu:=BL hr;refine⟨_,(!Af (@KS _ ["number","self"] [none,some 0] (1) _ _ _ _ _ _ _ _ _ _ _ _ _ _ CK.nd rfl (by trivial) rfl (!A2 (!Dy (pv 0) T.cl_Pool B0)) (by rfl) rfl (by repeat (first|exact trivial|refine⟨rfl,?_⟩)) (by repeat (first|exact trivial|refine⟨λh=>(by first|exact⟨_,rfl⟩|cases h),?_⟩)) (λC s H fp=>⟨(@An _ _ (0) _ (show(["number","self"]:List Str).Nodup by decide +kernel) rfl (by trivial) (by trivial)),(!Ub (!Aw Bb (!A4 (pv 1) T.cl_Pool FR (by trivial) (!Ac (pv 0) (!Ah))) (!Ai) (Av _))),(pv 0)⟩) (by intro _;rfl) (by rfl) (by trivial)) (!Ak (!Bn aU rfl (!A2 (pv 1)) (@An _ _ (2) _ CK.nd rfl (by trivial) (by trivial)) (!Af (@Ap _ _ (3) _ _ _ _ CK.nd rfl (by trivial) (!A4 (pv 0) T.cl_Pool GH (by trivial) (!Ac (pv 2) (!Ah))) (by rfl) (by trivial)) (!Af (!AN (!A4 (pv 0) T.cl_Pool CZ (by trivial) (!Ac (pv 2) (!Ah)))) (!Ak (!Bn aU rfl (!A2 (pv 3)) (@An _ _ (4) _ CK.nd rfl (by trivial) (by trivial)) (!Ak (!AN (!A4 (pv 0) T.cl_Pool B8 (by trivial) (!Ac (pv 4) (!Ah))))) (by intro _;rfl))))) (by intro _;rfl)))),?_⟩
 try dsimp only[BM,Cx.nox,Cx.wish]
 refine⟨_,rfl,p,q.dp,_,rfl,pa.t.1,rfl,p,q,cs,rfl,pa.t,few,λms l pm nl=>?_⟩;have s1:=Al nl (.lst (ms.map V.int));refine⟨l,rfl,⟨_,AJ.of Ag⟩,?_⟩;refine O6 (xs:=ms.map V.int) (zk cs) (λv=>v) (Ck (AJ.of Ag)) (by rw[ab,pm.length_eq,ab];lia) (λx H2 R hx s2 hR=>?_) (λx H2 R hx hb s2 hR=>?_) λul H2 nl2 s2 hl2=>?_
 ·obtain⟨n,hn,rfl⟩:=ae.mp hx;obtain⟨e,he,rfl⟩:=ae.mp (pm.mem_iff.mp hn);have pa2:=pa.same (s1.trans s2);refine⟨_,rfl,p,q.dp,_,rfl,pa2.t.1,rfl,_,rfl,p,q,cs,e,rfl,pa2.t,he,rfl,_,rfl,?_⟩;rw[UB pa.t.2.2.2 he] at hR;have e0:decide (V.int e.k=V.int 0)=decide (e.k=0):=by rw[bT,aG,aG];exact⟨V.int.inj,λh=>by rw[h]⟩
  rw[e0];exact hR
 ·exact⟨x,rfl,hR H2 (As.refl _)⟩
 have s3:=s1.trans s2;rw[Jq,List.map_id'' (λ_=>rfl)] at hl2;generalize eU:ms.filter (λn=>zk cs (.int n))=U at hl2;have inU:∀u,u∈U↔∃e∈cs,e.z=u/\e.k=0:=λu=>by
  rw[<-eU,bH];constructor
  ·rintro⟨h1,h2⟩
   obtain⟨e,he,rfl⟩:=ae.mp (pm.mem_iff.mp h1);rw[UB pa.t.2.2.2 he] at h2;exact⟨e,he,rfl,bf h2⟩
  ·rintro⟨e,he,rfl,hk⟩
   exact⟨pm.mem_iff.mpr (ae.mpr ⟨e,he,rfl⟩),by rw[UB pa.t.2.2.2 he];exact aH hk⟩
 have ndU:U.Nodup:=by rw[<-eU];exact((pm.nodup_iff).mpr pa.t.2.2.2).sublist eF
 have nulH:H ul=none:=by
  cases h:H ul with
  |none=>rfl
  |some o=>rw[s1.get h] at nl2;cases nl2
 refine⟨_,rfl,ul,rfl,⟨_,AJ.of hl2⟩,BD (K:=K) (a:=ul) (xs:=U.map V.int) (λi σ H'=>∃(cs1:List Cl) (m1:Int) (v2 v3 v4:Option V),σ=[some (.ref p),some (.ref ul),v2,v3,v4]/\PAt Ae Aa H' p { q with n:=m1 } cs1 bs/\Ri H' cs1/\Rt cs1 X/\H' ul=some (.lst (U.map V.int))/\
  Cas X (λ_=>False) (Lc cs) (Lc cs1)/\(∀x∈Lc cs1,Nf (Lc cs1) X x.1->x.1∈U.drop i)/\(∀u∈U.drop i,∃e∈cs1,e.z=u/\Nf (Lc cs1) X u)/\(∀e∈cs1,∃k,{ e with k:=k }∈cs)/\Om (A9 p q cs bs) H H') ⟨cs,q.n,_,_,_,rfl,pa.same s3,λe he=>?_,rt,hl2,.refl _,λx hx h=>?_,λu hu=>?_,λe he=>⟨e.k,he⟩,As.frm s3⟩ ?_ ?_ ?_⟩
 ·obtain⟨us,h1,h2⟩:=na e he;exact⟨us,s3.get h1,AI.same s3 _ _ h2⟩
 ·rw[cZ];obtain⟨e,he,rfl⟩:=ae.mp hx;have hk:=rt.k e he;have h1:NV (Lc cs) e.z=0:=E8.mpr h.1;have h2:X.count e.z=0:=cG.mpr h.2;exact(inU _).mpr ⟨e,he,rfl,by lia⟩
 ·rw[cZ] at hu;obtain⟨e,he,rfl,hk⟩:=(inU u).mp hu;exact⟨e,he,rfl,rt.none he hk⟩
 ·rintro i σ H' _ ⟨_,_,_,_,_,_,_,_,_,h,_⟩
  exact AJ.of h
 ·rintro i x σ H' hx ⟨cs1,m1,v2,v3,v4,rfl,pa1,na1,rt1,hul,ca,cl,un,sb,fr⟩
  obtain⟨u,rfl,hu⟩:=ints_get hx;have ui:i<U.length:=(aj.mp hu).1;have dU:U.drop i=u::U.drop (i+1):=by rw[bN ui,(aj.mp hu).2]
  obtain⟨e,he,rfl,nf⟩:=un u (by rw[dU];exact av);have hk:e.k=0:=by
   have:=rt1.k e he;have:=E8.mpr nf.1;have:=cG.mpr nf.2
   lia
  obtain⟨zs,hz1,hz2⟩:=na1 e he;dsimp only[BH];refine Di λEB eEB=>?_
  refine⟨_,rfl,p,q.dp,_,rfl,pa1.t.1,rfl,_,rfl,p,_,cs1,e,zs,rfl,pa1.t,he,hz1,λnl hnl=>?_⟩;have s4:=Al hnl (.lst zs);have pa4:=pa1.same s4;refine⟨_,rfl,p,q.dp,_,rfl,pa4.t.1,rfl,_,rfl,p,_,cs1,bs,e,rfl,pa4,he,λm5 H5 pa5 kp5 fr5=>?_⟩;have kl5:∀a ys,(upd H' nl (.lst zs)) a=some (.lst ys)->H5 a=some (.lst ys):=λa ys h=>kp5 a _ h (AQ h pa4.t.1 (by intro z;cases z)) (by intro kvs z;cases z)
  have kt5:∀a ys,(upd H' nl (.lst zs)) a=some (.tup ys)->H5 a=some (.tup ys):=λa ys h=>kp5 a _ h (AQ h pa4.t.1 (by intro z;cases z)) (by intro kvs z;cases z)
  have rt5:=rt1.out pa1.t.2.2.2 he hk;have fz:∀a,(upd H' nl (.lst zs)) a=none->True:=λ_ _=>trivial
  have nlH:H nl=none\/nl∈A9 p q cs bs:=by
   cases h:H nl with
   |none=>exact .inl rfl
   |some o=>
    by_cases hm:nl∈A9 p q cs bs
    ·exact .inr hm
    ·rw[fr _ _ h hm] at hnl;cases hnl
  have ulH:H ul=none:=nulH;generalize eN:(AK e.bk).map (·.1)=N at rt5;have wa5:Px H5 N zs:=by rw[<-eN];exact(Px.reps hz2).keep λa ys h=>kt5 a ys (s4.get h)
  have sb5:∀x∈Ds e.z cs1,∃k,{ x with k:=k }∈cs:=λx hx=>sb x (Cf.mp hx).1
  have fr5':Om (A9 p q cs bs) H H5:=λa o h n=>fr5 a o (s4.get (fr a o h n)) λhm=>n (K4 sb hm)
  refine⟨_,rfl,nl,rfl,⟨_,AJ.of (kl5 nl zs Ag)⟩,BD (K:=K) (a:=nl) (xs:=zs) (λj σ H'=>∃(cs3:List Cl) (m3:Int) (v4:Option V),σ=[some (.ref p),some (.ref ul),some (.int e.z),some (.ref nl),v4]/\PAt Ae Aa H' p { q with n:=m3 } cs3 bs/\Ri H' cs3/\Rt cs3 (N.drop j++X)/\H' ul=some (.lst (U.map V.int))/\H' nl=some (.lst zs)/\Px H' N zs/\
   Cas X (λ_=>False) (Lc cs) (Lc cs3)/\(∀x∈Lc cs3,Nf (Lc cs3) (N.drop j++X) x.1->x.1∈U.drop (i+1))/\(∀u∈U.drop (i+1),∃e∈cs3,e.z=u/\Nf (Lc cs3) (N.drop j++X) u)/\(∀e∈cs3,∃k,{ e with k:=k }∈cs)/\Om (A9 p q cs bs) H H') ⟨Ds e.z cs1,m5,_,rfl,pa5,λx hx=>?_,by rw[cZ];exact rt5,kl5 _ _ (s4.get hul),kl5 nl zs Ag,wa5,ca.trans (.step e.z nf (λh=>h) (by rw[JK];exact .refl _)),λx hx h=>?_,λu' hu'=>?_,sb5,fr5'⟩ ?_ ?_ ?_⟩
  ·obtain⟨ys,h1,h2⟩:=na1 x (Cf.mp hx).1;exact⟨ys,kl5 _ _ (s4.get h1),Bf (λa ys h=>kt5 a ys (s4.get h)) _ _ h2⟩
  ·rw[JK] at hx h;have hx':=DD.mp hx;rw[cZ] at h;have:=cl x hx'.1 ⟨λy hy=>?_,λhm=>h.2 (ai.mpr (.inr hm))⟩
   ·rw[dU] at this;exact(aM.mp this).resolve_left hx'.2
   ·by_cases hy1:y.1=e.z
    ·have:y=(e.z,(AK e.bk).map (·.1)):=AH (NU pa1.t.2.2.2) hy (D9 he) hy1;rw[this,eN];exact λhm=>h.2 (ai.mpr (.inl hm))
    ·exact h.1 y (DD.mpr ⟨hy,hy1⟩)
  ·obtain⟨c,hc,rfl,nc⟩:=un u' (by rw[dU];exact ao _ hu');have ne:c.z≠e.z:=λz=>by
    have:=ndU.sublist (List.drop_sublist i U);rw[dU,bF] at this;exact this.1 (by rw[<-z];exact hu')
   refine⟨c,Cf.mpr ⟨hc,ne⟩,rfl,?_⟩;rw[JK,cZ];refine⟨λy hy=>nc.1 y (DD.mp hy).1,λhm=>?_⟩;rcases ai.mp hm with hm|hm
   ·exact nc.1 _ (D9 he) (by rw[eN];exact hm)
   ·exact nc.2 hm
  ·rintro j σ H' _ ⟨_,_,_,_,_,_,_,_,h,_⟩
   exact AJ.of h
  ·rintro j x σ H6 hx6 ⟨cs3,m3,v4,rfl,pa6,na6,rt6,hul6,hnl6,wa6,ca6,cl6,un6,sb6,fr6⟩
   have jz:j<zs.length:=(aj.mp hx6).1;have jN:j<N.length:=by have:=wa6.1;lia
   obtain⟨a,r,ha1,ha2⟩:=wa6.2 j N[j] (aa jN);rw[hx6] at ha1;cases ha1;have dN:N.drop j=N[j]::N.drop (j+1):=bN jN;rw[dN] at rt6 cl6 un6;have len6:cs3.length<=600:=aY (sub_len pa6.t.2.2.2 sb6) few;dsimp only[BH];refine Di λEC eEC=>?_
   refine⟨_,rfl,p,q.dp,_,rfl,pa6.t.1,rfl,_,rfl,p,_,cs3,bs,a,N[j],r,N.drop (j+1)++X,rfl,pa6,len6,ha2,na6,rt6,λm7 H7 cs7 pa7 na7 rt7 ca7 cl7 sb7 fr7=>?_⟩;have nla:∀{b o},H6 b=some o->(∀C d fs,o≠.ins C d fs)->(∀kvs,o≠.dK kvs)->H7 b=some o:=λ{b o} h n1 n2=>fr7 b o h (pa6.apart h n1 n2)
   have kl7:∀b ys,H6 b=some (.lst ys)->H7 b=some (.lst ys):=λb ys h=>nla h (by intro C d fs z;cases z) (by intro kvs z;cases z)
   have kt7:∀b ys,H6 b=some (.tup ys)->H7 b=some (.tup ys):=λb ys h=>nla h (by intro C d fs z;cases z) (by intro kvs z;cases z)
   subst eEC;refine⟨cs7,m7,_,rfl,pa7,na7,rt7,kl7 _ _ hul6,kl7 _ _ hnl6,wa6.keep kt7,ca6.trans (ca7.weak (λy hy=>ai.mpr (.inr hy)) (λ_ h=>h.elim)),λy hy h=>?_,λu' hu'=>?_,Sk sb6 sb7,λb o h n=>fr7 b o (fr6 b o h n) λhm=>n (K4 sb6 hm)⟩
   ·obtain⟨h1,h2⟩:=cl7 y hy h;refine cl6 y (ca7.sub y hy) ⟨h1.1,λhm=>?_⟩;rcases aM.mp hm with hm|hm
    ·exact h2 hm
    ·exact h1.2 hm
   ·obtain⟨c,hc,rfl,nc⟩:=un6 u' hu';have kp:=ca7.keep (D9 hc) ⟨nc.sub (λ_ h=>h) (λy hy=>ao _ hy),λz=>nc.2 (by rw[show c.z=N[j] from z];exact av)⟩;obtain⟨c',hc',ec⟩:=ae.mp kp;refine⟨c',hc',congrArg Prod.fst ec,nc.sub ca7.sub (λy hy=>ao _ hy)⟩
  ·rintro σ H6 ⟨cs3,m3,v4,rfl,pa6,na6,rt6,hul6,hnl6,wa6,ca6,cl6,un6,sb6,fr6⟩
   have e0:N.drop zs.length=[]:=fu (by have:=wa6.1;lia);rw[e0] at rt6 cl6 un6;subst eEB;exact⟨cs3,m3,_,_,_,rfl,pa6,na6,rt6,hul6,ca6,cl6,un6,sb6,fr6⟩
 ·rintro σ H' ⟨cs1,m1,v2,v3,v4,rfl,pa1,na1,rt1,hul,ca,cl,un,sb,fr⟩
  have e0:U.drop (U.map V.int).length=[]:=fu (by rw[ab];exact ah _);rw[e0] at cl;exact hq m1 H' cs1 pa1 na1 rt1 ca (λx hx h=>nomatch cl x hx h) sb fr
end
open M06 M10
section
variable {P:Program}{w:World}{K:W.Frag}{mg:Str->Option Value}{base:Heap}{f Ab Ad Aa Ae:Addr}{XC:Nat->Addr}{fd:FuncData}
theorem PAt.keep {CP CT:Addr}{H H':Hp}{p:Addr}{q:Pl}{cs:List Cl}{bs:List (Int×Addr)}(h:PAt CP CT H p q cs bs)(ko:∀a o,a∈A9 p q cs bs->H a=some o->H' a=some o)(kt:∀c ys,H c=some (.tup ys)->H' c=some (.tup ys)):PAt CP CT H' p q cs bs:=by
 have m1:p∈A9 p q cs bs:=by unfold A9;simp
 have m2:q.dt∈A9 p q cs bs:=by unfold A9;simp
 have m3:q.dz∈A9 p q cs bs:=by unfold A9;simp
 have m4:q.dd∈A9 p q cs bs:=by unfold A9;simp
 have m5:∀x∈bs,x.2∈A9 p q cs bs:=λx hx=>by
  unfold A9;simp only[List.mem_cons,List.mem_append];exact .inr (.inr (.inr (.inr (.inl (ae.mpr ⟨x,hx,rfl⟩)))))
 have m6:∀x∈cs,x.c∈A9 p q cs bs:=λx hx=>by
  unfold A9;simp only[List.mem_cons,List.mem_append];exact .inr (.inr (.inr (.inr (.inr (ae.mpr ⟨x,hx,rfl⟩)))))
 refine{ h with t:=⟨ko _ _ m1 h.t.1,ko _ _ m2 h.t.2.1,λe he=>?_,h.t.2.2.2⟩,d:=ko _ _ m4 h.d,b:={ h.b with h:=ko _ _ m3 h.b.h,d:=λx hx=>⟨ko _ _ (m5 x hx) (h.b.d x hx).1,(h.b.d x hx).2⟩ } };have hc:=(h.t.2.2.1 e he).1;exact(h.t.2.2.1 e he).tup ((ko _ _ (m6 e he) hc).trans hc.symm) kt
def Yk (p:Addr)(q:Pl)(cs:List Cl)(bs:List (Int×Addr))(bo:Addr)(ds:List Addr):Prop:=bo∉A9 p q cs bs/\∀d∈ds,d∉A9 p q cs bs
theorem PAt.kb {CP CT CB:Addr}{H H':Hp}{p:Addr}{q:Pl}{cs:List Cl}{bs:List (Int×Addr)}{bo:Addr}{ds:List Addr}{b0:List CJ}{n:Int}{lf:V}(h:PAt CP CT H p q cs bs)(hB:FZ CB H bo ds b0 n lf)(ap:Yk p q cs bs bo ds)(k:Kb H H' bo ds):PAt CP CT H' p q cs bs:=by
 obtain⟨dx,s0,h1,_⟩:=id hB;exact h.keep (λa o ha e=>k a o e (λz=>ap.1 (by rw[<-z];exact ha)) λz=>ap.2 a z ha) λc ys e=>k c _ e (AQ e h1 (by intro z;cases z)) (hB.notin e (by intro kvs z;cases z))
theorem R8 {α β:Type}{f:α->β}{us vs:List β}(h:us.Perm vs):∀{qs:List α},vs=qs.map f->∃us':List α,us'.Perm qs/\us'.map f=us:=by
 induction h with
 |nil=>intro qs e;exact⟨[],by rw[iN.mp e.symm],rfl⟩
 |cons x _ ih=>
  intro qs e;cases qs with
  |nil=>cases e
  |cons q qs=>
   rw[au] at e;injection e with e1 e2
   obtain⟨us',h1,h2⟩:=ih e2;exact⟨q::us',h1.cons q,by rw[au,h2,e1]⟩
 |swap x y l=>
  intro qs e;cases qs with
  |nil=>cases e
  |cons q qs=>
   cases qs with
   |nil=>cases e
   |cons q' qs=>
    rw[au,au] at e;injection e with e1 e2
    injection e2 with e2 e3
    exact⟨q'::q::qs,List.Perm.swap _ _ _,by rw[au,au,e1,e2,e3]⟩
 |trans _ _ ih1 ih2=>
  intro qs e;obtain⟨a,h1,h2⟩:=ih2 e;obtain⟨b,h3,h4⟩:=ih1 h2.symm;exact⟨b,h3.trans h1,h4⟩
def Kx (e:Cl):List Int:=Dj (FS e.z e.y e.bk)
def Pz (m:Int)(e:Cl):List (Int×Int×List Int):=[(e.z%m,e.z,Kx e),((e.z+1)%m,e.z,Kx e)]
def ops (m:Int):List Cl->List (Int×Int×List Int)
 |[]=>[]
 |e::ss=>Pz m e++ops m ss
def ID (bs:List CJ)(l:List (Int×Int×List Int)):List CJ:=l.foldl (λbs x=>bs.set x.1.toNat (Ft (bs.getD x.1.toNat []) x.2.1 x.2.2)) bs
theorem U7 (bs:List CJ)(l m:List (Int×Int×List Int)):ID bs (l++m)=ID (ID bs l) m:=eZ
theorem Fp:∀(l:List (Int×Int×List Int)) (bs:List CJ),(ID bs l).length=bs.length
 |[],_=>rfl
 |x::l,bs=>by
  show(ID (bs.set _ _) l).length=_;rw[Fp l,fE]
theorem WQ (bs:List CJ)(z:Int)(row:List Int)(l:List Int):wr bs z row l=ID bs (l.map λx=>(x,z,row)):=by
 unfold wr ID;rw[List.foldl_map]
theorem Q5 (m:Int):∀ss:List Cl,(ops m ss).length=2*ss.length
 |[]=>rfl
 |e::ss=>by
  show(Pz m e++ops m ss).length=_;rw[ar,Q5 m ss,aL];show 2+_=_
  lia
theorem LF {m:Int}:∀{ss:List Cl} {i:Nat} {e:Cl},ss[i]?=some e->∀k,k<=2->(ops m ss).take (2*i+k)=ops m (ss.take i)++(Pz m e).take k
 |[],_,_,h,_,_=>nomatch h
 |x::ss,0,e,h,k,hk=>by
  cases h;show(Pz m x++ops m ss).take (0+k)=[]++_;rw[hW,List.nil_append,List.take_append_of_le_length hk]
 |x::ss,i+1,e,h,k,hk=>by
  have ih:=LF (m:=m) (ss:=ss) (i:=i) (e:=e) h k hk;show(Pz m x++ops m ss).take (2*(i+1)+k)=(Pz m x++ops m (ss.take i))++_;rw[show 2*(i+1)+k=(Pz m x).length+(2*i+k) by show _=2+_;lia,List.take_length_add_append,ih,aE]
def Kd (H H':Hp):Prop:=∀c o,H c=some o->(∀C d fs,o≠.ins C d fs)->(∀kvs,o≠.dK kvs)->H' c=some o
theorem Kd.t {H H':Hp}(k:Kd H H'):∀c ys,H c=some (.tup ys)->H' c=some (.tup ys):=λc ys h=>k c _ h (by intro C d fs z;cases z) (by intro kvs z;cases z)
theorem Kd.l {H H':Hp}(k:Kd H H'):∀c ys,H c=some (.lst ys)->H' c=some (.lst ys):=λc ys h=>k c _ h (by intro C d fs z;cases z) (by intro kvs z;cases z)
def Wq (q:Pl)(cs:List Cl):List Cl:=cs.filter λe=>decide (e.z∈q.D)
def EI (K:W.Frag)(CP CT CB:Addr):Sp:=λvs H Q _=>∃p q cs bs ds b0 n,vs=[.ref p]/\PAt CP CT H p q cs bs/\cs.length<=600/\FZ CB H q.bo ds b0 n .non/\Yk p q cs bs q.bo ds/\2<=b0.length/\(∀c∈b0,c.length<=60000)/\(∀e∈cs,Jr e.z e.y)/\
 ∀ss,ss.Perm (Wq q cs)->∀H',PAt CP CT H' p { q with D:=[] } cs bs->FZ CB H' q.bo ds (ID b0 (ops b0.length ss)) (n+2*(ss.length:Int)) .non->Kd H H'->Q .non H'
theorem Ji (T:Txt K mg Ab Ad Aa Ae XC)(F:Fun K "lay_draft" "Pool.lay_draft" Do f fd)(Tn:Def P w K mg base 10 "lay" ["boards","number","birth","block"] (S2 K Ad))(BQ:BJ P w K mg base 1 Ae "tag" ["self","number"] (EM K Ae Aa)):FnOk P w K mg base BI 11 f fd ["self"] (EI K Ae Aa Ad):=by
 exists EE
 ·obtain⟨p,q,cs,bs,ds,b0,n,rfl,_⟩:=h;rfl
 obtain⟨p,q,cs,bs,ds,b0,n,rfl,pa,few,hB,ap,b2,be,nbs,hq⟩:=h;have hu:=BL hr;refine⟨_,(!Af (!Bn aU rfl (!A2 (!Aq (GL rfl) (by rfl) T.b_sorted G0 (!Ac (!AU (pv 0)) (!Ah)))) (@An _ _ (1) _ EE.nd rfl (by trivial) (by trivial)) (!Ak (!AN (!AG Tn (by trivial) rfl (!Ac (!AU (pv 0)) (!Ac (pv 1) (!Ac (!Ax AE (!A4 (pv 0) T.cl_Pool BQ (by trivial) (!Ac (pv 1) (!Ah))) (!Ai) (λ_ _=>rfl)) (!Ac (!EF hu (!AU (pv 0)) (pv 1) (λ_ _=>rfl)) (!Ah)))))))) (by intro _;rfl)) (!Ak (!AN (!RR (!AU (pv 0)) ⟨rfl,rfl,rfl,rfl⟩)))),?_⟩
 try dsimp only[BM,Cx.nox,Cx.wish]
 have dl:(Wq q cs).length<=cs.length:=cP _ _;refine⟨_,rfl,p,Ae,q.dp,_,_,rfl,pa.t.1,T.cl_Pool,T.n_Pool_draft,rfl,q.dd,_,(Wq q cs).map (·.z),rfl,pa.d,by unfold Hu;rw[aI,aI];rfl,(by rw[ab];lia),λms l pm nl=>?_⟩;obtain⟨ss,pss,rfl⟩:=R8 pm rfl;have lss:ss.length<=600:=by rw[pss.length_eq];lia
 have s1:=Al nl (.lst ((ss.map (·.z)).map V.int));have hB1:=hB.same s1;have sm:∀{i:Nat} {e:Cl},ss[i]?=some e->e∈cs/\e.z∈q.D:=λ{i e} h=>by
  have:=bH.mp (pss.mem_iff.mp (az h));exact⟨this.1,bf this.2⟩
 refine⟨l,rfl,⟨_,AJ.of Ag⟩,?_⟩;refine BD (K:=K) (a:=l) (xs:=(ss.map (·.z)).map V.int) (λi σ H'=>∃v1,σ=[some (.ref p),v1]/\PAt Ae Aa H' p q cs bs/\FZ Ad H' q.bo ds (ID b0 (ops b0.length (ss.take i))) (n+2*(i:Int)) .non/\(∀c∈ID b0 (ops b0.length (ss.take i)),c.length<=60000+2*i)/\H' l=some (.lst ((ss.map (·.z)).map V.int))/\Kb H H' q.bo ds)
  ⟨none,rfl,pa.same s1,by rw[dA,show n+2*((0:Nat):Int)=n by lia];exact hB1,be,Ag,As.kb s1 _ _⟩ ?_ ?_ ?_
 ·rintro i σ H' _ ⟨_,_,_,_,_,h,_⟩
  exact AJ.of h
 ·rintro i x σ H' hx ⟨v1,rfl,pa',hB',cb,hl',kb⟩
  rw[aD,aD] at hx;obtain⟨zz,hz,rfl⟩:=aV.mp hx;obtain⟨e,hss,rfl⟩:=aV.mp hz;obtain⟨he,hD⟩:=sm hss;have il:i<ss.length:=(aj.mp hss).1;have ce:=pa'.t.2.2.1 e he;have g:CN H' q.dd (.int e.z) (some e.v):=by
   have:=CN.k (k:=Sum.inl e.z) pa'.d;rw[To pa'.t.2.2.2 he hD] at this;exact this
  have lb:(ID b0 (ops b0.length (ss.take i))).length=b0.length:=Fp _ _;have ek:∀k,k<=2->wr (ID b0 (ops b0.length (ss.take i))) e.z (Dj (FS e.z e.y e.bk)) ((HM (ID b0 (ops b0.length (ss.take i))) e.z).take k)=ID b0 ((ops b0.length ss).take (2*i+k)):=λk hk=>by
   rw[LF hss k hk,U7,WQ,fb];unfold HM;rw[lb];rfl
  dsimp only[BH];refine Di λEB eEB=>?_
  refine⟨_,rfl,p,Ae,q.dp,_,_,rfl,pa'.t.1,T.cl_Pool,T.n_Pool_boards,rfl,_,rfl,_,rfl,p,q.dp,_,rfl,pa'.t.1,rfl,_,rfl,p,q,cs,e,rfl,pa'.t,he,e.ta,_,_,_,rfl,rfl,A8.of ce.2.1,rfl,_,rfl,p,Ae,q.dp,_,_,rfl,pa'.t.1,T.cl_Pool,T.n_Pool_draft,rfl,_,rfl,q.dd,_,rfl,g,q.bo,ds,_,_,e.z,e.y,e.v,e.bk,rfl,hB',by rw[lb];lia,λc hc=>?_,ce.2.2.1,ce.2.2.2,nbs e he,λH2 hB2 k2=>?_⟩
  ·have:=cb c hc
   lia
  ·have e2:=ek 2 (ah 2);rw[aK (show(HM _ e.z).length<=2 from ah 2)] at e2;have e3:ID b0 (ops b0.length (ss.take (i+1)))=ID b0 ((ops b0.length ss).take (2*i+2)):=by
    rw[LF hss 2 (ah 2),bg,hss]
    congr 1
    have:∀a:List Cl,ops (b0.length:Int) (a++[e])=ops b0.length a++Pz b0.length e:=λa=>by
     induction a with
     |nil=>show Pz _ e++[]=_;rw[bY];rfl
     |cons x a ih=>show Pz _ x++ops _ (a++[e])=(Pz _ x++ops _ a)++_;rw[ih,aE]
    exact this _
   have nll:l≠q.bo:=by
    obtain⟨dx,s0,h1,_⟩:=id hB';exact AQ hl' h1 (by intro z;cases z)
   subst eEB;refine⟨_,rfl,pa'.kb hB' ap k2,?_,λc hc=>?_,k2 _ _ hl' nll (hB'.notin hl' (by intro kvs z;cases z)),kb.trans k2⟩
   ·rw[e3,<-e2,show n+2*((i+1:Nat):Int)=n+2*(i:Int)+2 by lia];exact hB2
   ·rw[e3,<-e2] at hc;have:=Lg _ cb c hc;have:(HM (ID b0 (ops b0.length (ss.take i))) e.z).length=2:=rfl
    lia
 ·rintro σ H' ⟨v1,rfl,pa',hB',cb,hl',kb⟩
  rw[ab,ab] at hB';rw[cM] at hB';refine⟨_,rfl,p,Ae,q.dp,_,_,rfl,pa'.t.1,T.cl_Pool,T.n_Pool_draft,rfl,q.dd,_,rfl,pa'.d,?_⟩;have mdd:q.dd∈A9 p q cs bs:=by unfold A9;simp
  have no:∀{a u},H' a=some u->(∀kvs,u≠.dK kvs)->a≠q.dd:=λ{a u} h n zz=>by
   rw[zz,pa'.d] at h;exact n _ (aA h).symm
  obtain⟨dx,s0,h1,h2,h3,h4⟩:=id hB';have tp:∀c ys,H' c=some (.tup ys)->(upd H' q.dd (.dK [])) c=some (.tup ys):=λc ys h=>by rw[Aj (no h (by intro kvs z;cases z))];exact h
  have lp:∀c ys,H' c=some (.lst ys)->(upd H' q.dd (.dK [])) c=some (.lst ys):=λc ys h=>by rw[Aj (no h (by intro kvs z;cases z))];exact h
  obtain⟨dxb,sb,hb1,_⟩:=id hB;refine hq ss pss _ ⟨⟨?_,?_,λe he=>?_,pa'.t.2.2.2⟩,?_,{ pa'.b with h:=?_,d:=λx hx=>⟨?_,(pa'.b.d x hx).2⟩ },pa'.n1,pa'.n2,pa'.n3,pa'.c,pa'.z,pa'.w,pa'.f1,pa'.f2⟩ ⟨dx,s0,?_,lp _ _ h2,h3,?_⟩ (λc o h n1 n2=>?_)
  ·rw[Aj (no pa'.t.1 (by intro kvs z;cases z))];exact pa'.t.1
  ·show(upd H' q.dd (.dK [])) q.dt=_;rw[Aj pa'.n2];exact pa'.t.2.1
  ·have hc:=(pa'.t.2.2.1 e he).1;exact(pa'.t.2.2.1 e he).tup (Aj (no hc (by intro kvs z;cases z))) tp
  ·show(upd H' q.dd (.dK [])) q.dd=some (.dK (Hu [] cs));rw[Ag];have:cs.filter (λe=>decide (e.z∈([]:List Int)))=[]:=List.filter_eq_nil_iff.mpr λe _ h=>nomatch bf h
   unfold Hu;rw[this];rfl
  ·show(upd H' q.dd (.dK [])) q.dz=_;rw[Aj pa'.n3];exact pa'.b.h
  ·show(upd H' q.dd (.dK [])) x.2=_;rw[Aj (pa'.b.d x hx).2.2.2];exact(pa'.b.d x hx).1
  ·rw[Aj (no h1 (by intro kvs z;cases z))];exact h1
  ·exact h4.same lp λd hd kvs h=>by rw[Aj (λz=>ap.2 d hd (by rw[z];exact mdd))];exact h
  ·have h5:=kb c _ h (AQ h hb1 (n1 _ _ _)) (hB.notin h n2);rw[Aj (no h5 n2)];exact h5
end
open M06 M08 M10
section
variable {P:Program}{w:World}{K:W.Frag}{mg:Str->Option Value}{base:Heap}{f Ab Ad Aa Ae:Addr}{XC:Nat->Addr}{fd:FuncData}
def C2 (z:Str):Prop:=∀c∈A3 z,c∈A3 SG
def num (c:Nat):Int:=PySem.Txt.find SG ⟨#[c]⟩
theorem num_nonneg:∀c∈A3 SG,0<=num c:=by decide +kernel
def full (p:List Nat):Bool:=decide (2<=p.length)&&(decide (p.length=8)||decide ((num (p.getD (p.length-1) 0)+7*num (p.getD (p.length-2) 0))%5=0))
abbrev toS (l:List Nat):Str:=⟨l.toArray⟩
theorem BV (l:List Nat):A3 (toS l)=l:=rfl
theorem DV (l:List Nat):(toS l).length=l.length:=by rw[<-AO,BV]
theorem QY (l:List Nat)(c:Nat):toS l++⟨#[c]⟩=toS (l++[c]):=Dz (DW _ _)
theorem at_neg {l:List Nat}{k:Nat}(h1:1<=k)(h2:k<=l.length):He l (-(k:Int))=some (l.getD (l.length-k) 0):=by
 have e:SC l.length (-(k:Int))=some (l.length-k):=by
  unfold SC;rw[ay (by lia),aC (by lia)];exact congrArg some (by lia)
 have hk:l.length-k<l.length:=by lia
 unfold He;rw[e];show l[l.length-k]?=_;rw[aa hk];simp only[List.getD,List.getElem?_eq_getElem hk,Option.getD_some]
theorem Xj {l:List Nat}{i:Int}(h0:0<=i)(h1:i<l.length):He l i=some (l.getD i.toNat 0):=by
 have hk:i.toNat<l.length:=by lia
 have q:He l ((i.toNat:Nat):Int)=some (l.getD i.toNat 0):=C4 (by rw[aa hk];simp only[List.getD,List.getElem?_eq_getElem hk,Option.getD_some]);have ek:((i.toNat:Nat):Int)=i:=by lia
 rw[ek] at q;exact q
theorem getD_mem {l:List Nat}{k:Nat}(h:k<l.length):l.getD k 0∈l:=by
 simp only[List.getD,List.getElem?_eq_getElem h,Option.getD_some];exact bQ h
def E9 (K:W.Frag):Sp:=λvs H Q _=>∃p:List Nat,vs=[.str (toS p)]/\p.length<=1000/\(∀c∈p,c∈A3 SG)/\Q (.bl (full p)) H
def CH (gs:List (List Nat)):List V:=gs.map λl=>V.str (toS l)
theorem BC (gs:List (List Nat)):(CH gs).length=gs.length:=ab _
theorem Jb (gs:List (List Nat))(l:List Nat):CH gs++[V.str (toS l)]=CH (gs++[l]):=by simp[CH]
def IQ (K:W.Frag):Sp:=λvs H Q _=>∃z:Str,vs=[.str z]/\z.length<=1000/\C2 z/\
 ∀(r:Addr) (H':Hp),As H H'->H r=none->H' r=some (.lst (CH (cut full [] (A3 z))))->Q (.ref r) H'
def piece (l:List Nat)(b e:Nat):List Nat:=(l.drop b).take (e-b)
theorem JW (T:Txt K mg Ab Ad Aa Ae XC)(F:Fun K "is_piece_full" "is_piece_full" DG f fd)(AX:Def P w K mg base 1 "number_of" ["sign"] (CF K)):FnOk P w K mg base BI 2 f fd ["piece"] (E9 K):=by
 exists JA
 ·obtain⟨a,rfl,_⟩:=h;rfl
 obtain⟨p,rfl,hl,hp,q⟩:=h;refine⟨_,(!Af (!AL (!Aw QM (!Aq Bs (by rfl) T.b_len AZ (!Ac (pv 0) (!Ah))) (!Ai) (Av _)) (!Ak (!Ao (!Ed))) (!Au)) (!Ak (!Ao (!Wu (!BW Bb (!Aq Bs (by rfl) T.b_len AZ (!Ac (pv 0) (!Ah))) (!AB rfl T.c_MOST_IN_ONE) (Av _)) (!Fy (!BW Bb (!Ar Bd (!Ar Bu (!AG AX (by trivial) rfl (!Ac (!Ax Le (pv 0) (!Ki Gh (!Ai)) (λ_ _=>rfl)) (!Ah))) (!Ar DN (!Ai) (!AG AX (by trivial) rfl (!Ac (!Ax Le (pv 0) (!Ki Gh (!Ai)) (λ_ _=>rfl)) (!Ah))))) (!Ai)) (!Ai) (Av _))))))),?_⟩;have el:(toS p).length=p.length:=DV p;refine⟨_,rfl,_,rfl,small (by lia),_,_,rfl,rfl,_,rfl,?_⟩;refine Cs (λc=>?_) (λc=>?_)
 ·have c':=dec_true c;have:full p=false:=by unfold full;rw[aS (by lia)];rfl
  rw[this] at q;exact q
 ·have c':=dec_false c;have h2:2<=p.length:=by lia
  refine⟨_,rfl,_,rfl,small (by lia),rfl,_,rfl,?_⟩;refine Cs (λd=>?_) (λd=>?_)
  ·have d':p.length=8:=by
    have:=V.int.inj (dec_true d);lia
   have:full p=true:=by unfold full;rw[aH h2,aH d'];rfl
   rw[this] at q;exact q
  ·have d':¬p.length=8:=by
    intro z;exact dec_false d (by rw[el,z];rfl)
   have n1:0<=num (p.getD (p.length-1) 0):=num_nonneg _ (hp _ (getD_mem (by lia)));have n2:0<=num (p.getD (p.length-2) 0):=num_nonneg _ (hp _ (getD_mem (by lia)));refine⟨_,rfl,_,rfl,_,_,_,rfl,rfl,small (by lia),at_neg (l:=p) (k:=1) (by decide) (by lia),_,rfl,n1,_,rfl,_,rfl,_,_,_,rfl,rfl,small (by lia),at_neg (l:=p) (k:=2) (by decide) (by lia),_,rfl,n2,_,_,rfl,rfl,.inl ⟨by decide,by decide⟩,_,_,rfl,rfl,_,_,rfl,rfl,(by show(0:Int)<5;decide),rfl,?_⟩;have:full p=decide (V.int ((num (p.getD (p.length-1) 0)+7*num (p.getD (p.length-2) 0))%5)=V.int 0):=by
    unfold full;rw[aH h2,aS d',Fx,iA];rfl
   rw[this] at q;exact q
theorem NR (T:Txt K mg Ab Ad Aa Ae XC)(F:Fun K "pieces_of" "pieces_of" GB f fd)(DI:Def P w K mg base 2 "is_piece_full" ["piece"] (E9 K)):FnOk P w K mg base BI 3 f fd ["content"] (IQ K):=by
 exists CD
 ·obtain⟨a,rfl,_⟩:=h;rfl
 obtain⟨z,rfl,hlen,hz,q⟩:=h;refine⟨_,(!Af (@Ap _ _ (1) _ _ _ _ CD.nd rfl (by trivial) (!Be (!Ah)) (by rfl) (by trivial)) (!Af (@Ap _ _ (2) _ _ _ _ CD.nd rfl (by trivial) (!BP) (by rfl) (by trivial)) (!Af (!Bn aU rfl (!GC (pv 0)) (@An _ _ (3) _ CD.nd rfl (by trivial) (by trivial)) (!Af (@Ap _ _ (2) _ _ _ _ CD.nd rfl (by trivial) (!Ar Bq (pv 2) (pv 3)) (by rfl) (by trivial)) (!Ak (!AL (!BK (!AG DI (by trivial) rfl (!Ac (pv 2) (!Ah))) (by intro _;rfl)) (!Af (!AN (!Ca aT ba aZ Bp (pv 1) (!Ac (pv 2) (!Ah)))) (!Ak (@Ap _ _ (2) _ _ _ _ CD.nd rfl (by trivial) (!BP) (by rfl) (by trivial)))) (!Au)))) (by intro _;rfl)) (!Af (!AL (!Aw MN (pv 2) (!BP) (Av _)) (!Ak (!AN (!Ca aT ba aZ Bp (pv 1) (!Ac (pv 2) (!Ah))))) (!Au)) (!Ak (!Ao (pv 1))))))),?_⟩;have zl:=AO z;refine⟨Hf,λg hg=>?_⟩;refine⟨_,rfl,z,rfl,Rr (λi σ H2=>∃(gs:List (List Nat)) (p:List Nat) (v:Option V),σ=[some (.str z),some (.ref g),some (.str (toS p)),v]/\As H H2/\H2 g=some (.lst (CH gs))/\cut full [] (A3 z)=gs++cut full p ((A3 z).drop i)/\gs.length<=i/\p.length<=i/\∀c∈p,c∈A3 SG)
  ⟨[],[],none,rfl,Al hg _,Ag,by simp,aR _,aR _,λ_ h=>nomatch h⟩ ?_ ?_⟩
 ·rintro i c σ H2 hi ⟨gs,p,v,rfl,s2,hg2,hcut,hle,hpl,hp⟩
  have hi':(A3 z)[i]?=some c:=by simpa using hi
  have hil:i<(A3 z).length:=(aj.mp hi').1;have hp':∀c'∈p++[c],c'∈A3 SG:=λc' hc=>by
   rcases ai.mp hc with hc|hc
   ·exact hp c' hc
   ·rw[ag.mp hc];exact hz c (az hi')
  have pl:=DV p;refine⟨_,rfl,_,rfl,_,_,rfl,rfl,small (by rw[pl];show p.length+1<=_;lia),?_⟩;rw[QY];refine⟨_,rfl,p++[c],rfl,by rw[ar];show p.length+1<=_;lia,hp',_,rfl,?_⟩;obtain⟨p1,p2⟩:=OW hi' hcut;refine Cs (λd=>?_) (λd=>?_)
  ·refine⟨_,rfl,.inl ⟨rfl,_,AJ.of hg2⟩,_,rfl,g,_,_,rfl,rfl,hg2,A7 (by rw[BC];lia),?_⟩;refine⟨gs++[p++[c]],[],_,rfl,A5 s2 hg _,?_,p1 d,?_,aR _,λ_ h=>nomatch h⟩
   ·rw[Ag,Jb]
   ·rw[ar];show gs.length+1<=_;lia
  ·exact⟨gs,p++[c],_,rfl,s2,hg2,p2 d,by lia,by rw[ar];show p.length+1<=_;lia,hp'⟩
 ·rintro σ H2 ⟨gs,p,v,rfl,s2,hg2,hcut,hle,hpl,hp⟩
  rw[show z.cps.size=(A3 z).length by simp,fk] at hcut;have hle':gs.length<=(A3 z).length:=by simpa using hle
  refine⟨_,rfl,rfl,_,rfl,?_⟩;refine Cs (λc=>?_) (λc=>?_)
  ·have c':¬p=[]:=by
    rintro rfl
    exact absurd c (by decide)
   refine⟨_,rfl,.inl ⟨rfl,_,AJ.of hg2⟩,_,rfl,g,_,_,rfl,rfl,hg2,A7 (by rw[BC];lia),?_⟩;refine⟨_,rfl,q g _ (A5 s2 hg _) hg ?_⟩;rw[Ag,hcut,cut,ay c',Jb]
  ·have c':p=[]:=by
    have:V.str (toS p)=V.str (PySem.Str.ofString ""):=bO λh=>c (by rw[aS h];rfl)
    have:=V.str.inj this;have e:=congrArg A3 this;rw[BV] at e;exact e
   refine⟨_,rfl,q g _ s2 hg ?_⟩;rw[hg2,hcut,cut,aC c',bY]
def IH (K:W.Frag):Sp:=λvs H Q _=>∃(a:Addr) (ns:List Int),vs=[.ref a]/\AJ K H a (ns.map V.int)/\ns.length<=1000/\
 ∀(r:Addr) (H':Hp),As H H'->H r=none->H' r=some (.lst ((Fi 0 ns).map V.int))->Q (.ref r) H'
theorem Ud {ns:List Int}{i m:Nat}{z:Int}{gs:List Int}(hi:ns[i]?=some z)(h:Fi 0 ns=gs++Fi m (ns.drop i)) :
  (m+1=8\/(2<=m+1/\z%3=0)->Fi 0 ns=(gs++[((m:Int)+1)])++Fi 0 (ns.drop (i+1)))/\(¬(m+1=8\/(2<=m+1/\z%3=0))->Fi 0 ns=gs++Fi (m+1) (ns.drop (i+1))):=by
 obtain⟨hl,e⟩:=aj.mp hi;have hd:ns.drop i=z::ns.drop (i+1):=by rw[<-e];exact bN hl
 rw[hd] at h;refine⟨λc=>?_,λc=>?_⟩
 ·rw[h,Fi,aC c,aE];rfl
 ·rw[h,Fi,ay c]
theorem FH:∀(u:List Int),(∀x∈u,0<=x)->0<=u.sum
 |[],_=>by simp
 |a::u,hu=>by
  rw[bR];have h1:=hu a av;have h2:=FH u λx hx=>hu x (ao _ hx)
  lia
theorem ND (T:Txt K mg Ab Ad Aa Ae XC)(F:Fun K "groups_of" "groups_of" GK f fd):FnOk P w K mg base BI 1 f fd ["sums"] (IH K):=by
 exists CC
 ·obtain⟨a,ns,rfl,_⟩:=h;rfl
 obtain⟨a,ns,rfl,hS,hlen,q⟩:=h;refine⟨_,(!Af (@Ap _ _ (1) _ _ _ _ CC.nd rfl (by trivial) (!Be (!Ah)) (by rfl) (by trivial)) (!Af (@Ap _ _ (2) _ _ _ _ CC.nd rfl (by trivial) (!Ai) (by rfl) (by trivial)) (!Af (!Bn aU rfl (!A2 (pv 0)) (@An _ _ (3) _ CC.nd rfl (by trivial) (by trivial)) (!Af (@P4 _ _ (2) _ _ _ _ _ _ CC.nd rfl (by trivial) (!Ai) FB (by trivial)) (!Ak (!AL (@PW.pt _ _ _ (!Fg (!Aw Bb (pv 2) (!AB rfl T.c_MOST_IN_ONE) (Av _)) (!DH (@PW.pt _ _ _ (!TB (!Aw XY (pv 2) (!Ai) (Av _)) (!Rq (!Aw Bb (!Ar Bd (pv 3) (!Ai)) (!Ai) (Av _)))))))) (!Af (!AN (!Ca aT ba aZ Bp (pv 1) (!Ac (pv 2) (!Ah)))) (!Ak (@Ap _ _ (2) _ _ _ _ CC.nd rfl (by trivial) (!Ai) (by rfl) (by trivial)))) (!Au)))) (by intro _;rfl)) (!Af (!AL (!Aw FX (pv 2) (!Ai) (Av _)) (!Ak (!AN (!Ca aT ba aZ Bp (pv 1) (!Ac (pv 2) (!Ah))))) (!Au)) (!Ak (!Ao (pv 1))))))),?_⟩;refine⟨Hf,λg hg=>?_⟩;refine⟨_,rfl,a,rfl,⟨_,(Al hg _).seq hS⟩,BD (K:=K) (a:=a) (xs:=ns.map V.int) (λi σ H2=>∃(gs:List Int) (m:Nat) (v:Option V),σ=[some (.ref a),some (.ref g),some (.int m),v]/\As H H2/\H2 g=some (.lst (gs.map V.int))/\Fi 0 ns=gs++Fi m (ns.drop i)/\gs.length<=i)
  ⟨[],0,none,rfl,Al hg _,Ag,by simp,aR _⟩ (by rintro i σ H2 _ ⟨_,_,_,_,s2,_⟩;exact s2.seq hS) ?_ ?_⟩
 ·rintro i y σ H2 hi ⟨gs,m,v,rfl,s2,hg2,hgrp,hle⟩
  obtain⟨z,rfl,hz⟩:=Re hi;have hil:i<ns.length:=(aj.mp hz).1;refine⟨_,rfl,_,_,rfl,rfl,?_⟩;dsimp only[BH,Uk];refine OE (decide (V.int ((m:Int)+1)=V.int 8)) (decide ((2:Int)<=(m:Int)+1)&&decide (V.int (z%3)=V.int 0)) (λR q=>⟨_,rfl,rfl,_,rfl,q⟩) (λ_ R q=>XE _ _ (λR q=>⟨_,rfl,_,_,rfl,rfl,_,rfl,q⟩) (λ_ R q=>⟨_,rfl,_,_,rfl,rfl,(by show(0:Int)<3;decide),rfl,_,rfl,q⟩) q) ?_;obtain⟨p1,p2⟩:=Ud hz hgrp;refine Cs (λc=>?_) (λc=>?_)
  ·have c':m+1=8\/(2<=m+1/\z%3=0):=by
    simp only[Bool.or_eq_true,Bool.and_eq_true,decide_eq_true_eq,V.int.injEq] at c
    lia
   refine⟨_,rfl,.inl ⟨rfl,_,AJ.of hg2⟩,_,rfl,g,_,_,rfl,rfl,hg2,A7 (by rw[ab];lia),?_⟩;refine⟨gs++[((m:Int)+1)],0,_,rfl,A5 s2 hg _,?_,p1 c',?_⟩
   ·rw[Ag,aJ];rfl
   ·rw[ar];simp;lia
  ·have c':¬(m+1=8\/(2<=m+1/\z%3=0)):=by
    simp only[Bool.or_eq_true,Bool.and_eq_true,decide_eq_true_eq,V.int.injEq] at c
    lia
   exact⟨gs,m+1,_,rfl,s2,hg2,p2 c',by lia⟩
 ·rintro σ H2 ⟨gs,m,v,rfl,s2,hg2,hgrp,hle⟩
  rw[ab,fk] at hgrp;rw[ab] at hle;refine⟨_,rfl,_,_,rfl,rfl,_,rfl,?_⟩;refine Cs (λc=>?_) (λc=>?_)
  ·have c':0<m:=by have:=dec_true c;lia
   refine⟨_,rfl,.inl ⟨rfl,_,AJ.of hg2⟩,_,rfl,g,_,_,rfl,rfl,hg2,A7 (by rw[ab];lia),?_⟩;refine⟨_,rfl,q g _ (A5 s2 hg _) hg ?_⟩;rw[Ag,hgrp,Fi,aC c',aJ];rfl
  ·have c':¬0<m:=by have:=dec_false c;lia
   refine⟨_,rfl,q g _ s2 hg ?_⟩;rw[hg2,hgrp,Fi,ay c',bY]
def Kn (H H':Hp):Prop:=∀a o,H a=some o->(∀C d fs,o≠.ins C d fs)->(∀kvs,o≠.dK kvs)->H' a=some o
theorem Kn.trans {H H' H'':Hp}(e:Kn H H')(g:Kn H' H''):Kn H H'':=λa o h n1 n2=>g a o (e a o h n1 n2) n1 n2
theorem As.kn {H H':Hp}(s:As H H'):Kn H H':=λ_ _ h _ _=>s.get h
theorem Kn.tup {H H':Hp}(e:Kn H H'):∀c ys,H c=some (.tup ys)->H' c=some (.tup ys):=λc ys h=>e c _ h (by intro C d fs z;cases z) (by intro kvs z;cases z)
theorem Kn.lst {H H':Hp}(e:Kn H H'){c:Addr}{ys:List V}(h:H c=some (.lst ys)):H' c=some (.lst ys):=e c _ h (by intro C d fs z;cases z) (by intro kvs z;cases z)
theorem Kn.upd {H H':Hp}{a:Addr}{o:HO}(e:Kn H H')(n:H a=none):Kn H (upd H' a o):=λc u h n1 n2=>by
 rw[Aj (λz=>by rw[z,n] at h;cases h)];exact e c u h n1 n2
theorem Rf:∀(l:List Int) (t:Int),0<=t->t<=996->0<=l.foldl (λt n=>(31*t+n+1)%997) t/\l.foldl (λt n=>(31*t+n+1)%997) t<=996
 |[],t,h0,h1=>⟨h0,h1⟩
 |x::l,t,_,_=>Rf l ((31*t+x+1)%997) (by lia) (by lia)
theorem sum_in (b:Bk):0<=AR b/\AR b<=996:=by
 have k:0<=kindB b/\kindB b<=2:=by cases b<;>simp[kindB]
 exact Rf _ _ (by lia) (by lia)
def At (cs:List Cl)(t:Tg)(b:Bk):Prop:=∃e∈cs,(e.z,e.y,AR e.bk)=t/\e.bk=b
def EO (cs cs':List Cl):Prop:=∀t b,At cs t b->At cs' t b
theorem EO.refl {cs:List Cl}:EO cs cs:=λ_ _ h=>h
theorem EO.trans {a b c:List Cl}(g:EO a b)(h:EO b c):EO a c:=λt b q=>h t b (g t b q)
def chunk:List Int->List Tg->List (List Tg)
 |[],_=>[]
 |g::gs,ts=>ts.take g.toNat::chunk gs (ts.drop g.toNat)
def Ik (ts:List Tg):List (List Tg):=if ts=[] then[[]] else chunk (Fi 0 (ts.map (·.2.2))) ts
def FA (cs:List Cl)(lv:Int)(ts us:List Tg):Prop:=us.length=(Ik ts).length/\∀(k:Nat) u c,us[k]?=some u->(Ik ts)[k]?=some c->At cs u (.row lv c)
theorem FA.grow {cs cs':List Cl}(g:EO cs cs'){lv:Int}{ts us:List Tg}(h:FA cs lv ts us):FA cs' lv ts us:=⟨h.1,λk u c h1 h2=>g _ _ (h.2 k u c h1 h2)⟩
def Tw (cs:List Cl)(ts0:List Tg):Nat->List Tg->Prop
 |0,us=>us=ts0
 |l+1,us=>∃ts,Tw cs ts0 l ts/\FA cs ((l:Int)+1) ts us/\(0<l->2<=ts.length)
theorem Tw.grow {cs cs':List Cl}(g:EO cs cs'){ts0:List Tg}:∀{l:Nat} {us:List Tg},Tw cs ts0 l us->Tw cs' ts0 l us
 |0,_,h=>h
 |l+1,_,h=>by
  obtain⟨ts,h1,h2,h3⟩:=h;exact⟨ts,Tw.grow g h1,h2.grow g,h3⟩
def DK (cs:List Cl)(ts0:List Tg)(ps:List (List Nat)):Prop:=ts0.length=ps.length/\∀(k:Nat) t p,ts0[k]?=some t->ps[k]?=some p->At cs t (.piece (toS p))
theorem DK.grow {cs cs':List Cl}(g:EO cs cs'){ts0:List Tg}{ps:List (List Nat)}(h:DK cs ts0 ps):DK cs' ts0 ps:=⟨h.1,λk u c h1 h2=>g _ _ (h.2 k u c h1 h2)⟩
theorem chunk_len:∀(gs:List Int) (ts:List Tg),(chunk gs ts).length=gs.length
 |[],_=>rfl
 |g::gs,ts=>by
  show(chunk gs _).length+1=_;rw[chunk_len gs];rfl
theorem Nu:∀(l:List Int) (m:Nat),∀x∈Fi m l,1<=x/\x<=(m:Int)+l.length
 |[],m,x,hx=>by
  unfold Fi at hx
  split at hx
  ·rw[ag.mp hx];simp;lia
  ·cases hx
 |a::r,m,x,hx=>by
  unfold Fi at hx;rw[aL]
  split at hx
  ·rcases aM.mp hx with rfl|hx
   ·lia
   ·have:=Nu r 0 x hx;lia
  ·have:=Nu r (m+1) x hx;lia
theorem N2:∀(l:List Int) (m:Nat),m<=7->∀x∈Fi m l,x<=8
 |[],m,hm,x,hx=>by
  unfold Fi at hx
  split at hx
  ·rw[ag.mp hx];lia
  ·cases hx
 |a::r,m,hm,x,hx=>by
  unfold Fi at hx
  split at hx
  ·rcases aM.mp hx with rfl|hx
   ·lia
   ·exact N2 r 0 (by lia) x hx
  ·rename_i h
   exact N2 r (m+1) (by lia) x hx
theorem Lh:∀(l:List Int) (m:Nat),m<=7->2*(Fi m l).length<=l.length+(if m=0 then 1 else 2)/\(l=[]->m<=1->(Fi m l).length=m)
 |[],m,hm=>by
  unfold Fi;refine⟨?_,λ_ h=>?_⟩
  ·split
   ·rw[ay (by lia)];simp
   ·simp
  ·split
   ·simp;lia
   ·simp;lia
 |a::r,m,hm=>by
  unfold Fi;refine⟨?_,λh=>by cases h⟩
  split
  ·rename_i h
   have:=(Lh r 0 (by lia)).1;rw[aC rfl] at this;rw[aL,aL]
   by_cases hm0:m=0
   ·lia
   ·rw[ay hm0];lia
  ·rename_i h
   have:=(Lh r (m+1) (by lia)).1;rw[ay (by lia)] at this;rw[aL]
   by_cases hm0:m=0
   ·rw[aC hm0];lia
   ·rw[ay hm0];lia
theorem OS {σ:St}{H:Hp}{Q:List V->Hp->Prop}(h:Q [] H):OG σ H Q:=h
theorem M7 {α:Type}{g:α->Tr}{H:Hp}:∀(n:Nat) {ts:List α} {ys:List V},AI NL H (ts.map g) ys->AI NL H ((ts.drop n).map g) (ys.drop n)
 |0,_,_,h=>h
 |n+1,[],ys,h=>by rw[show ys=[] from h];exact rfl
 |n+1,t::ts,ys,h=>by
  obtain⟨v,vs,rfl,_,h2⟩:=h;exact M7 n h2
theorem Na {α:Type}{g:α->Tr}{H:Hp}:∀(n:Nat) {ts:List α} {ys:List V},AI NL H (ts.map g) ys->AI NL H ((ts.take n).map g) (ys.take n)
 |0,_,ys,_=>by rw[dA,dA];exact rfl
 |n+1,[],ys,h=>by rw[show ys=[] from h];exact rfl
 |n+1,t::ts,ys,h=>by
  obtain⟨v,vs,rfl,h1,h2⟩:=h;exact⟨v,_,rfl,h1,Na n h2⟩
theorem JS {α:Type}{g:α->Tr}{H:Hp}{t:α}{v:V}(hv:Rep NL H (g t) v):∀{ts:List α} {ys:List V},AI NL H (ts.map g) ys->AI NL H ((ts++[t]).map g) (ys++[v])
 |[],ys,h=>by rw[show ys=[] from h];exact⟨v,[],rfl,hv,rfl⟩
 |_::_,ys,h=>by
  obtain⟨u,vs,rfl,h1,h2⟩:=h;exact⟨u,_,rfl,h1,JS hv h2⟩
theorem JX {H:Hp}:∀{ts:List Tg} {ys:List V},AI NL H (ts.map Ej) ys->ys.map (Qf H)=(ts.map (·.2.2)).map V.int
 |[],ys,h=>by rw[show ys=[] from h];rfl
 |t::ts,ys,h=>by
  obtain⟨v,vs,rfl,h1,h2⟩:=h;obtain⟨a,rfl,ha⟩:=Em h1;rw[au,O4 ha,JX h2];rfl
theorem Nt:∀(gs:List Int) (ts:List Tg),(∀g∈gs,1<=g)->∀{i:Nat} {g:Int},gs[i]?=some g->(chunk gs ts)[i]?=some ((ts.drop (gs.take i).sum.toNat).take g.toNat)
 |[],_,_,i,g,h=>by cases h
 |x::gs,ts,hp,0,g,h=>by
  cases h;rfl
 |x::gs,ts,hp,i+1,g,h=>by
  have hx:=hp x av;have hs:=FH (gs.take i) λy hy=>gh (by decide) (hp y (ao _ (cg hy)))
  show(chunk gs (ts.drop x.toNat))[i]?=_;rw[Nt gs _ (λy hy=>hp y (ao _ hy)) h,eT,iM,bR,show(x+(gs.take i).sum).toNat=x.toNat+(gs.take i).sum.toNat by lia]
theorem J7:∀(gs:List Int),(∀g∈gs,1<=g)->∀{i:Nat} {g:Int},gs[i]?=some g->(gs.take i).sum+g<=gs.sum
 |[],_,i,g,h=>by cases h
 |x::gs,hp,0,g,h=>by
  cases h;rw[dA,List.sum_nil,bR];have:=FH gs λy hy=>gh (by decide) (hp y (ao _ hy))
  lia
 |x::gs,hp,i+1,g,h=>by
  rw[iM,bR,bR];have:=J7 gs (λy hy=>hp y (ao _ hy)) (i:=i) h
  lia
def Hg (n:Nat)(t:Tg):Prop:=n+1=8\/(2<=n+1/\t.2.2%3=0)
instance (n:Nat) (t:Tg):Decidable (Hg n t):=by unfold Hg;infer_instance
def SJ:List Tg->List Tg->List (List Tg)
 |acc,[]=>if acc=[] then[] else[acc]
 |acc,t::r=>if Hg acc.length t then(acc++[t])::SJ [] r else SJ (acc++[t]) r
theorem JT:∀(l acc:List Tg),SJ acc l=chunk (Fi acc.length (l.map (·.2.2))) (acc++l)
 |[],acc=>by
  rw[SJ,dC,Fi]
  by_cases h:acc=[]
  ·rw[aC h,h];rfl
  ·have h0:0<acc.length:=cD.mpr h;rw[ay h,aC h0];show[acc]=[(acc++[]).take acc.length];rw[bY,cM]
 |t::r,acc=>by
  rw[SJ,au,Fi]
  by_cases h:Hg acc.length t
  ·rw[aC h,aC (show acc.length+1=8\/(2<=acc.length+1/\t.2.2%3=0) from h),JT r []];show _=(acc++t::r).take ((acc.length:Int)+1).toNat::chunk (Fi 0 _) ((acc++t::r).drop ((acc.length:Int)+1).toNat);rw[show((acc.length:Int)+1).toNat=(acc++[t]).length by simp,show acc++t::r=(acc++[t])++r by simp,List.take_left,List.drop_left];rfl
  ·rw[ay h,ay (show ¬(acc.length+1=8\/(2<=acc.length+1/\t.2.2%3=0)) from h),JT r (acc++[t])];rw[show(acc++[t]).length=acc.length+1 by simp,show acc++[t]++r=acc++t::r by simp]
theorem Ru {ts:List Tg}(ne:ts≠[]):Ik ts=SJ [] ts:=by
 unfold Ik;rw[ay ne,JT];rfl
theorem Ly:∀(l acc:List Tg),(SJ acc l).flatten=acc++l
 |[],acc=>by
  rw[SJ]
  by_cases h:acc=[]
  ·rw[aC h,h];rfl
  ·rw[ay h];simp
 |t::r,acc=>by
  rw[SJ]
  by_cases h:Hg acc.length t
  ·rw[aC h,bI,Ly r []];simp
  ·rw[ay h,Ly r (acc++[t])];simp
theorem IP {ts:List Tg}(ne:ts≠[]):(Ik ts).flatten=ts:=by rw[Ru ne,Ly];rfl
end
open M06 M08 M10
section
variable {P:Program}{w:World}{K:W.Frag}{mg:Str->Option Value}{base:Heap}{f Ab Ad Aa Ae:Addr}{XC:Nat->Addr}{fd:FuncData}
theorem Tu (c:CJ)(k:Int)(row:List Int)(z:Int):Cm (Ft c k row) z=if z=k then some row else Cm c z:=by
 unfold Ft
 by_cases h:(c.any λx=>decide (x.1=k))=true
 ·rw[aC h];unfold Cm
  induction c with
  |nil=>cases h
  |cons x c ih=>
   rw[au,cR,cR]
   by_cases e:x.1=k
   ·rw[aC e]
    by_cases ez:z=k
    ·rw[aC ez,aH (show(x.1,row).1=z by rw[ez];exact e)];rfl
    ·rw[ay ez,aS (show ¬(x.1,row).1=z from λy=>ez (y.symm.trans e))]
     by_cases h':(c.any λx=>decide (x.1=k))=true
     ·have:=ih h';rw[ay ez] at this;exact this
     ·have same:c.map (λx=>if x.1=k then(x.1,row) else x)=c:=by
       have:∀x∈c,(if x.1=k then(x.1,row) else x)=x:=λx hx=>ay λy=>h' (c9.mpr ⟨x,hx,aH y⟩)
       calc c.map (λx=>if x.1=k then(x.1,row) else x)=c.map (λx=>x):=cC this
        _=c:=List.map_id' c
      rw[same]
   ·rw[ay e];have h':(c.any λx=>decide (x.1=k))=true:=by
     rw[eh,aS e,gQ] at h;exact h
    by_cases ex:x.1=z
    ·rw[aH ex,ay (λy=>e (ex.trans y))]
    ·rw[aS ex];exact ih h'
 ·rw[ay h];unfold Cm;rw[List.find?_append]
  by_cases ez:z=k
  ·have:c.find? (λx=>decide (x.1=z))=none:=di.mpr λx hx y=>h (c9.mpr ⟨x,hx,by rw[<-ez];exact y⟩)
   rw[this,aC ez,cR,aH ez.symm];rfl
  ·rw[ay ez,cR,aS (show ¬(k,row).1=z from λy=>ez y.symm),List.find?_nil];cases c.find? (λx=>decide (x.1=z))<;>rfl
theorem S8 {bs:List CJ}{i b:Nat}{c:CJ}(hb:b<bs.length):(bs.set i c).getD b []=if i=b then c else bs.getD b []:=by
 unfold List.getD;rw[List.getElem?_set]
 by_cases e:i=b
 ·rw[aC e,aC e,aC (by lia)];rfl
 ·rw[ay e,ay e]
theorem Qb {bs:List CJ}{z:Int}(h:0<bs.length):∀y∈HM bs z,0<=y:=λy hy=>(Ny h y hy).1
theorem QP {b:List CJ}{a:Int×Int×List Int}{j:Nat}{z:Int}(hj:j<b.length)(h0:0<=a.1):Cm ((b.set a.1.toNat (Ft (b.getD a.1.toNat []) a.2.1 a.2.2)).getD j []) z=if a.1=(j:Int)/\z=a.2.1 then some a.2.2 else Cm (b.getD j []) z:=by
 rw[S8 hj]
 by_cases h:a.1.toNat=j
 ·rw[aC h,Tu]
  by_cases hz:z=a.2.1
  ·rw[aC hz,aC ⟨by lia,hz⟩]
  ·rw[ay hz,ay (λw=>hz w.2),h]
 ·rw[ay h,ay (λw=>h (by lia))]
theorem Qe {z:Int}{j:Nat}:∀{l:List (Int×Int×List Int)} {b:List CJ},j<b.length->(∀x∈l,0<=x.1)->(∀x∈l,¬(x.1=(j:Int)/\z=x.2.1))->Cm ((ID b l).getD j []) z=Cm (b.getD j []) z
 |[],_,_,_,_=>rfl
 |a::l,b,hj,h0,h=>by
  show Cm ((ID (b.set _ _) l).getD j []) z=_;rw[Qe (by rw[fE];exact hj) (λx hx=>h0 x (ao _ hx)) λx hx=>h x (ao _ hx),QP hj (h0 a av),ay (h a av)]
theorem S7 {z:Int}{j:Nat}{row:List Int}:∀{l:List (Int×Int×List Int)} {b:List CJ},j<b.length->(∀x∈l,0<=x.1)->(∀x∈l,x.1=(j:Int)->z=x.2.1->x.2.2=row)->(∃x∈l,x.1=(j:Int)/\z=x.2.1)->Cm ((ID b l).getD j []) z=some row
 |[],_,_,_,_,h=>nomatch h.choose_spec.1
 |a::l,b,hj,h0,hr,h=>by
  have hj':j<(b.set a.1.toNat (Ft (b.getD a.1.toNat []) a.2.1 a.2.2)).length:=by rw[fE];exact hj
  have h0':∀x∈l,0<=x.1:=λx hx=>h0 x (ao _ hx)
  show Cm ((ID (b.set _ _) l).getD j []) z=_
  by_cases hl:∃x∈l,x.1=(j:Int)/\z=x.2.1
  ·exact S7 hj' h0' (λx hx=>hr x (ao _ hx)) hl
  ·have ha:a.1=(j:Int)/\z=a.2.1:=by
    obtain⟨x,hx,e⟩:=h;rcases aM.mp hx with rfl|hx
    ·exact e
    ·exact absurd ⟨x,hx,e⟩ hl
   rw[Qe hj' h0' (λx hx e=>hl ⟨x,hx,e⟩),QP hj (h0 a av),aC ha,hr a av ha.1 ha.2]
theorem NH {m:Int}{x:Int×Int×List Int}:∀{ss:List Cl},x∈ops m ss↔∃e∈ss,x∈Pz m e
 |[]=>⟨(λh=>nomatch h),(by rintro⟨_,h,_⟩;exact nomatch h)⟩
 |e::ss=>by
  show x∈Pz m e++ops m ss↔_;rw[ai,NH (ss:=ss)];constructor
  ·rintro(h|⟨c,hc,h⟩)
   ·exact⟨e,av,h⟩
   ·exact⟨c,ao _ hc,h⟩
  ·rintro⟨c,hc,h⟩
   rcases aM.mp hc with rfl|hc
   ·exact .inl h
   ·exact .inr ⟨c,hc,h⟩
theorem KU {b:List CJ}{x:Int×Int×List Int}{e:Cl}(h:x∈Pz (b.length:Int) e):x.1∈HM b e.z/\x.2.1=e.z/\x.2.2=Kx e:=by
 rcases aM.mp h with rfl|h
 ·exact⟨av,rfl,rfl⟩
 ·rw[ag.mp h];exact⟨ao _ av,rfl,rfl⟩
theorem Wz {b:List CJ}{e:Cl}{x:Int}(h:x∈HM b e.z):(x,e.z,Kx e)∈Pz (b.length:Int) e:=by
 rcases aM.mp h with rfl|h
 ·exact av
 ·rw[ag.mp h];exact ao _ av
structure Bo (b:List CJ) (cs:List Cl) (D:List Int) (i:Int):Prop where
 two:2<=b.length
 four:b.length<=4
 st:∀(z:Int) (j:Nat) (row:List Int),j<b.length->Cm (b.getD j []) z=some row->(j:Int)∈HM b z/\∃y bk,row=Dj (FS z y bk)/\Dl bk/\Jr z y/\y<i
 un:∀e∈cs,e.z∈D->∀(j:Nat) (row:List Int),j<b.length->Cm (b.getD j []) e.z=some row->row[5]?≠some e.y
 la:∀e∈cs,e.z∉D->∀j:Nat,j<b.length->(j:Int)∈HM b e.z->Cm (b.getD j []) e.z=some (Kx e)
variable {b:List CJ}{cs cs':List Cl}{D:List Int}{i:Int}
theorem Bo.sub (h:Bo b cs D i)(s:∀e∈cs',∃c∈cs,c.z=e.z/\c.y=e.y/\c.bk=e.bk):Bo b cs' D i:=by
 refine⟨h.two,h.four,h.st,λe he hD j row hj g=>?_,λe he hD j hj hm=>?_⟩
 ·obtain⟨c,hc,e1,e2,e3⟩:=s e he;rw[<-e2];exact h.un c hc (by rw[e1];exact hD) j row hj (by rw[e1];exact g)
 ·obtain⟨c,hc,e1,e2,e3⟩:=s e he;have:=h.la c hc (by rw[e1];exact hD) j hj (by rw[e1];exact hm);unfold Kx at this ⊢;rw[<-e1,<-e2,<-e3];exact this
theorem Bo.later (h:Bo b cs D i){k:Int}(hk:i<=k):Bo b cs D k:=⟨h.two,h.four,λz j row hj g=>by
 obtain⟨h1,y,bk,h2,h3,h4,h5⟩:=h.st z j row hj g;exact⟨h1,y,bk,h2,h3,h4,Int.lt_of_lt_of_le h5 hk⟩,h.un,h.la⟩
theorem UN {z y:Int}{a c:Bk}(oa:Dl a)(oc:Dl c)(n:Jr z y)(h:Dj (FS z y a)=Dj (FS z y c)):a=c:=by
 have h:wT (FS z y a)=wT (FS z y c):=by rw[<-HQ,<-HQ (FS z y c),h]
 have:=Lp (KR n oa) (KR n oc) h;injection this with this
 injection this with _ this
 injection this with _ this
 injection this with this _
 exact Rp this
theorem Bo.lies (h:Bo b cs D i){e:Cl}(he:e∈cs)(ok:Dl e.bk):Lies b e.z e.y e.bk:=λj hj=>by
 cases g:Cm (b.getD j []) e.z with
 |none=>exact .inl rfl
 |some row=>
  obtain⟨h1,y,bk,rfl,h3,h4,_⟩:=h.st _ j _ hj g;refine .inr ⟨y,bk,rfl,h3,h4,λey=>?_⟩
  by_cases hD:e.z∈D
  ·exact absurd (by rw[MS,ey]) (h.un e he hD j _ hj g)
  ·have:=h.la e he hD j hj h1;rw[g] at this;have:=aA this;unfold Kx at this;subst ey;exact UN h3 ok h4 this
theorem Rj {b:List CJ}{z x:Int}(h2:2<=b.length)(h:x∈HM b z):x.toNat<b.length/\((x.toNat:Nat):Int)=x:=by
 obtain⟨h0,h1⟩:=Ny (bs:=b) (z:=z) (by lia) x h;exact⟨by lia,by lia⟩
theorem U1 {b:List CJ}{z y x:Int}{row:List Int}(h:Cm (b.getD x.toNat []) z=some row):hasB b z y x=decide (row[5]?=some y):=by unfold hasB;rw[h]
theorem Bo.laid (h:Bo b cs D i){e:Cl}(he:e∈cs)(hD:e.z∉D):(HM b e.z).filter (hasB b e.z e.y)=HM b e.z:=dH.mpr λx hx=>by
 obtain⟨h1,h2⟩:=Rj h.two hx;rw[U1 (h.la e he hD x.toNat h1 (by rw[h2];exact hx))];exact aH (MS e.z e.y e.bk)
structure Wrt (b:List CJ) (l:List (Int×Int×List Int)) (ss:List Cl):Prop where
 m:∀x∈l,∃e∈ss,x∈Pz (b.length:Int) e
theorem Wrt.pos {l:List (Int×Int×List Int)}{ss:List Cl}(w:Wrt b l ss)(h2:2<=b.length):∀x∈l,0<=x.1:=λx hx=>by
 obtain⟨e,_,h⟩:=w.m x hx;exact Qb (by lia) _ (KU h).1
theorem Wrt.on {l:List (Int×Int×List Int)}{ss:List Cl}(w:Wrt b l ss)(h2:2<=b.length)(nd:(ss.map (·.z)).Nodup){e:Cl}(he:e∈ss){x:Int}(hx:x∈HM b e.z)(hl:(x,e.z,Kx e)∈l):Cm ((ID b l).getD x.toNat []) e.z=some (Kx e):=by
 obtain⟨h1,h3⟩:=Rj h2 hx;refine S7 h1 (w.pos h2) (λy hy e1 e2=>?_) ⟨_,hl,h3.symm,rfl⟩;obtain⟨c,hc,h⟩:=w.m y hy;obtain⟨_,g2,g3⟩:=KU h;rw[g3,AH nd hc he (g2.symm.trans e2.symm)]
theorem Wrt.off {l:List (Int×Int×List Int)}{ss:List Cl}(w:Wrt b l ss)(h2:2<=b.length){z:Int}{j:Nat}(hj:j<b.length)(h:∀e∈ss,e.z=z->((j:Int),e.z,Kx e)∉l):Cm ((ID b l).getD j []) z=Cm (b.getD j []) z:=
 Qe hj (w.pos h2) λy hy ⟨e1,e2⟩=>by
  obtain⟨c,hc,g⟩:=w.m y hy;obtain⟨_,g2,g3⟩:=KU g;refine h c hc (g2.symm.trans e2.symm) ?_;have:y=((j:Int),c.z,Kx c):=by rw[<-e1,<-g2,<-g3]
  rw[<-this];exact hy
theorem Q8 (b:List CJ)(l:List (Int×Int×List Int))(z:Int):HM (ID b l) z=HM b z:=by unfold HM;rw[Fp]
theorem Bo.lay (h:Bo b cs D i){ss:List Cl}(hs:∀e,e∈ss↔e∈cs/\e.z∈D)(nd:(cs.map (·.z)).Nodup)(ns:(ss.map (·.z)).Nodup)(ok:∀e∈cs,Dl e.bk/\Jr e.z e.y/\e.y<i):Bo (ID b (ops b.length ss)) cs [] i:=by
 have w:Wrt b (ops b.length ss) ss:=⟨λ_ hx=>NH.mp hx⟩
 have two:=h.two;have on:∀e∈ss,∀j:Nat,j<b.length->(j:Int)∈HM b e.z->Cm ((ID b (ops b.length ss)).getD j []) e.z=some (Kx e):=λe he j hj hm=>by
  have:=w.on two ns he hm (NH.mpr ⟨e,he,Wz hm⟩);rw[show((j:Int)).toNat=j by lia] at this;exact this
 refine⟨by rw[Fp];exact two,by rw[Fp];exact h.four,λz j row hj g=>?_,(λ_ _ h=>nomatch h),λe he _ j hj hm=>?_⟩
 ·rw[Fp] at hj;rw[Q8]
  by_cases hz:∃e∈ss,e.z=z/\(j:Int)∈HM b e.z
  ·obtain⟨e,he,rfl,hm⟩:=hz;rw[on e he j hj hm] at g;obtain⟨o1,o2,o3⟩:=ok e ((hs e).mp he).1;exact⟨hm,e.y,e.bk,(aA g).symm,o1,o2,o3⟩
  ·rw[w.off two hj λe he ez hl=>hz ⟨e,he,ez,by
    obtain⟨c,_,g⟩:=w.m _ hl;obtain⟨g1,g2,_⟩:=KU g;have g2:e.z=c.z:=g2;rw[g2];exact g1⟩] at g
   exact h.st z j row hj g
 ·rw[Fp] at hj;rw[Q8] at hm
  by_cases hD:e.z∈D
  ·exact on e ((hs e).mpr ⟨he,hD⟩) j hj hm
  ·rw[w.off two hj λc hc ez _=>hD (by rw[<-ez];exact((hs c).mp hc).2)];exact h.la e he hD j hj hm
theorem Bo.put (h:Bo b cs D i){N:Cl}(hN:∀e∈cs,e.z≠N.z)(hy:i<=N.y):Bo b (cs++[N]) (N.z::D) i:=by
 refine⟨h.two,h.four,h.st,λe he hD j row hj g=>?_,λe he hD j hj hm=>?_⟩
 ·rcases ai.mp he with he|he
  ·exact h.un e he ((aM.mp hD).resolve_left (hN e he)) j row hj g
  ·have e1:=ag.mp he;subst e1;obtain⟨_,y,bk,rfl,_,_,hi⟩:=h.st _ j row hj g;rw[MS];intro z;have:=aA z
   lia
 ·rcases ai.mp he with he|he
  ·exact h.la e he (λz=>hD (ao _ z)) j hj hm
  ·exact absurd (by rw[ag.mp he];exact av) hD
theorem Vz {α:Type}{l m:List α}(d1:l.Nodup)(d2:m.Nodup)(h:∀a,a∈l↔a∈m):l.Perm m:=(List.perm_ext_iff_of_nodup d1 d2).mpr h
section
variable {CB CP CT:Addr}{H H' H2 H3:Hp}{x xb cl:Addr}{ds:List Addr}{b:List CJ}{n:Int}{q:Pl}{cs cs':List Cl}{bs:List (Int×Addr)}{i:Int}
theorem Ri.same {H H':Hp}{cs:List Cl}(s:As H H')(h:Ri H cs):Ri H' cs:=λe he=>(h e he).elim λus hu=>⟨us,s.get hu.1,AI.same s _ _ hu.2⟩
theorem JU {α β:Type}{F G:α->β->Prop}:∀{l₁:List α} {l₂:List β},Paired F l₁ l₂->(∀a∈l₁,∀b∈l₂,F a b->G a b)->Paired G l₁ l₂
 |_,_,.nil,_=>.nil
 |_,_,.cons r t,f=>.cons (f _ av _ av r) (JU t λa ha b hb=>f a (ao _ ha) b (ao _ hb))
theorem Ur {c:CJ}(nd:(c.map (·.1)).Nodup){y:Int×List Int}(hy:y∈c):Cm c y.1=some y.2:=by
 induction c with
 |nil=>cases hy
 |cons u c ih=>
  rw[au,bF] at nd;unfold Cm;rcases aM.mp hy with rfl|hy
  ·rw[cR,aH rfl];rfl
  ·rw[cR,aS (λz=>nd.1 (by rw[z];exact ae.mpr ⟨y,hy,rfl⟩))];exact ih nd.2 hy
theorem FZ.app {D:List Int}{l:Addr}{us us':List V}(h:FZ CB H xb ds b n .non)(bo:Bo b cs D i)(hl:H l=some (.lst us))(hu:us=[]\/(∃a r ys,us=.ref a::r/\H a=some (.tup ys))\/∃z r,us=.str z::r):FZ CB (upd H l (.lst us')) xb ds b n .non:=by
 have hlen:=h.len;obtain⟨dx,s0,h1,h2,h3,h4⟩:=h;have two:=bo.two;have ns:s0≠l:=λz=>by
  rw[z,hl] at h2;have e:us=ds.map V.ref:=by injection h2 with h2;injection h2
  cases ds with
  |nil=>rw[<-hlen] at two;exact absurd two (by decide)
  |cons d ds=>
   rcases hu with rfl|⟨a,r,ys,rfl,ha⟩|⟨z,r,rfl⟩
   ·cases e
   ·have ed:a=d:=by injection e with e _;injection e
    have:SL H (d::ds) b:=h4;cases b with
    |nil=>cases this
    |cons c b=>
     cases this with
     |cons g _=>
      obtain⟨kvs,g1,_⟩:=g;rw[<-ed,ha] at g1;cases g1
   ·cases e
 have nx:∀{a o},H a=some o->(∀ys,o≠.lst ys)->(upd H l (.lst us')) a=some o:=λ{a o} h1 n=>by rw[Aj (λz=>by rw[z,hl] at h1;exact n _ (aA h1).symm)];exact h1
 refine⟨dx,s0,nx h1 (by intro ys z;cases z),by rw[Aj ns];exact h2,h3,JU h4 λd hd c hc ⟨kvs,g1,g2,g3⟩=>⟨kvs,nx g1 (by intro ys z;cases z),JU g2 λkv hkv y hy ⟨k1,r,k2,k3⟩=>⟨k1,r,k2,?_⟩,g3⟩⟩;have nr:r≠l:=λz=>by
  rw[z,hl] at k3;have e:us=y.2.map V.int:=by injection k3 with k3;injection k3
  obtain⟨j,hj⟩:=fO hc;have hj':=(aj.mp hj).1;have eg:b.getD j []=c:=by simp[List.getD,hj]
  obtain⟨_,y',bk',e2,_⟩:=bo.st y.1 j y.2 hj' (by rw[eg];exact Ur g3 hy);have e5:=MS y.1 y' bk';rw[<-e2] at e5;rcases hu with rfl|⟨a,r',ys,rfl,ha⟩|⟨z,r',rfl⟩
  ·cases hy2:y.2 with
   |nil=>rw[hy2] at e5;cases e5
   |cons _ _=>rw[hy2] at e;cases e
  ·cases hy2:y.2 with
   |nil=>rw[hy2] at e;cases e
   |cons _ _=>rw[hy2] at e;injection e with e _;cases e
  ·cases hy2:y.2 with
   |nil=>rw[hy2] at e;cases e
   |cons _ _=>rw[hy2] at e;injection e with e _;cases e
 rw[Aj nr];exact k3
theorem FZ.frm {lf:V}(h:FZ CB H q.bo ds b n lf)(pa:PAt CP CT H x q cs bs)(ap:Yk x q cs bs q.bo ds)(f:Om (A9 x q cs bs) H H'):FZ CB H' q.bo ds b n lf:=by
 obtain⟨dx,s0,h1,h2,h3,h4⟩:=h;have l:∀a xs,H a=some (.lst xs)->H' a=some (.lst xs):=λa xs h=>f a _ h (pa.apart h (by intro C d fs z;cases z) (by intro kvs z;cases z))
 exact⟨dx,s0,f _ _ h1 ap.1,l _ _ h2,h3,h4.same l λd hd kvs e=>f d _ e (ap.2 d hd)⟩
theorem V1 (sb:∀e∈cs',∃k,{ e with k:=k }∈cs):∀e∈cs',∃c∈cs,c.z=e.z/\c.y=e.y/\c.bk=e.bk:=λe he=>by
 obtain⟨k,hk⟩:=sb e he;exact⟨_,hk,rfl,rfl,rfl⟩
theorem Q3 (zs:List Int)(cs:List Cl):Lc (cs.map (bump zs))=Lc cs:=Km (λe=>e.k+(zs.count e.z:Int)) cs
theorem Rt.hold {X:List Int}{e:Cl}(h:Rt cs X)(he:e∈cs):Rt (cs.map (bump [e.z])) (X++[e.z]):=by
 refine⟨λc hc=>?_,λz hz=>?_,λc hc t ht=>?_⟩
 ·obtain⟨d,hd,rfl⟩:=ae.mp hc;rw[Q3];show d.k+(([e.z].count d.z:Nat):Int)=(NV (Lc cs) d.z:Int)+(((X++[e.z]).count d.z:Nat):Int);rw[h.k d hd,gb]
  lia
 ·rcases ai.mp hz with hz|hz
  ·obtain⟨d,hd,rfl⟩:=h.x z hz;exact⟨_,ae.mpr ⟨d,hd,rfl⟩,rfl⟩
  ·rw[ag.mp hz];exact⟨_,ae.mpr ⟨e,he,rfl⟩,rfl⟩
 ·obtain⟨d,hd,rfl⟩:=ae.mp hc;obtain⟨c,hc,ez⟩:=h.n d hd t ht;exact⟨_,ae.mpr ⟨c,hc,rfl⟩,ez⟩
theorem PAt.hold (h:PAt CP CT H x q cs bs){e:Cl}(he:e∈cs):PAt CP CT (upd H e.c (.ins CT e.dx (CM e.ta ((wT (CI e.bk)).length:Int) e.l (e.k+1) e.en e.st))) x q (cs.map (bump [e.z])) bs:=by
 refine h.setK (g:=λd=>d.k+(([e.z].count d.z:Nat):Int)) (λd hd=>?_) (λa ha=>Aj λz=>ha (ae.mpr ⟨e,he,z.symm⟩))
 by_cases hz:d.z=e.z
 ·obtain rfl:=AH h.t.2.2.2 hd he hz;rw[Ag,gN];rfl
 ·rw[Aj (λz=>hz (by rw[AH h.c hd he z])),(h.t.2.2.1 d hd).1,cG.mpr (by simpa using hz)];simp
theorem Yj {e:Cl}(h:e∈cs):e.c∈A9 x q cs bs:=by
 unfold A9;simp only[List.mem_cons,List.mem_append];exact .inr (.inr (.inr (.inr (.inr (ae.mpr ⟨e,h,rfl⟩)))))
theorem Rt.put {X:List Int}{N:Cl}(h:Rt cs X)(hm:∀e∈cs,e.z≠N.z)(hk:N.k=0)(hn:∀t∈AK N.bk,∃e∈cs,e.z=t.1):Rt ((cs++[N]).map (bump ((AK N.bk).map (·.1)))) X:=by
 have eL:Lc (cs++[N])=Lc cs++[(N.z,(AK N.bk).map (·.1))]:=by unfold Lc;rw[aJ];rfl
 refine⟨λc hc=>?_,λz hz=>?_,λc hc t ht=>?_⟩
 ·obtain⟨d,hd,rfl⟩:=ae.mp hc;rw[Q3,eL,V7,F5];show d.k+((((AK N.bk).map (·.1)).count d.z:Nat):Int)=((NV (Lc cs) d.z+(((AK N.bk).map (·.1)).count d.z+NV [] d.z):Nat):Int)+((X.count d.z:Nat):Int);rw[show NV [] d.z=0 from rfl];rcases ai.mp hd with hd|hd
  ·rw[h.k d hd]
   lia
  ·have z1:NV (Lc cs) N.z=0:=E8.mpr λy hy hz=>by
    obtain⟨e,he,rfl⟩:=ae.mp hy;obtain⟨t,ht,ez⟩:=ae.mp hz;obtain⟨c,hc,ec⟩:=h.n e he t ht;exact hm c hc (ec.trans ez)
   have z2:X.count N.z=0:=cG.mpr λhx=>by
    obtain⟨e,he,ez⟩:=h.x _ hx;exact hm e he ez
   rw[ag.mp hd,hk,z1,z2]
   lia
 ·obtain⟨d,hd,rfl⟩:=h.x z hz;exact⟨_,ae.mpr ⟨d,ai.mpr (.inl hd),rfl⟩,rfl⟩
 ·obtain⟨d,hd,rfl⟩:=ae.mp hc;have up:(∃c∈cs,c.z=t.1)->∃c∈(cs++[N]).map (bump ((AK N.bk).map (·.1))),c.z=t.1:=λ⟨c0,h0,z0⟩=>⟨_,ae.mpr ⟨c0,ai.mpr (.inl h0),rfl⟩,z0⟩
  rcases ai.mp hd with hd|hd
  ·exact up (h.n d hd t ht)
  ·rw[ag.mp hd] at ht;exact up (hn t ht)
theorem Rk {m:Int}{zs:List Int}{N:Cl}{bs':List (Int×Addr)}(hc:H N.c=none)(hb:∀x∈bs',x∈bs\/H x.2=none){a:Addr}{o:HO}(ho:H a=some o)(hm:a∈A9 x { q with n:=m,D:=m::q.D } ((cs++[N]).map (bump zs)) bs'):a∈A9 x q cs bs:=by
 unfold A9 at hm ⊢;simp only[List.mem_cons,List.mem_append] at hm ⊢;rcases hm with hm|hm|hm|hm|hm|hm
 ·exact .inl hm
 ·exact .inr (.inl hm)
 ·exact .inr (.inr (.inl hm))
 ·exact .inr (.inr (.inr (.inl hm)))
 ·obtain⟨y,hy,rfl⟩:=ae.mp hm;rcases hb y hy with h|h
  ·exact .inr (.inr (.inr (.inr (.inl (ae.mpr ⟨y,h,rfl⟩)))))
  ·rw[ho] at h;cases h
 ·refine .inr (.inr (.inr (.inr (.inr ?_))));obtain⟨y,hy,rfl⟩:=ae.mp hm;obtain⟨d,hd,rfl⟩:=ae.mp hy;rcases ai.mp hd with h|h
  ·exact ae.mpr ⟨d,h,rfl⟩
  ·have e:=ag.mp h;have ho:H d.c=some o:=ho;rw[e,hc] at ho;cases ho
def MO:Bk->Int
 | .piece _=>0
 | .row v _=>v
 | .folder=>99
def Lv (cs:List Cl):Prop:=∀e∈cs,∀t∈AK e.bk,∃d∈cs,(d.z,d.y,AR d.bk)=t/\MO d.bk+1=MO e.bk
structure Pg (CB CP CT:Addr) (H:Hp) (x:Addr) (ds:List Addr) (b:List CJ) (n:Int) (q:Pl) (cs:List Cl) (bs:List (Int×Addr)) (X:List Int) (i:Int):Prop where
 pa:PAt CP CT H x q cs bs
 na:Ri H cs
 rt:Rt cs X
 nb:(cs.map (·.bk)).Nodup
 B:FZ CB H q.bo ds b n .non
 ap:Yk x q cs bs q.bo ds
 bo:Bo b cs q.D i
 yi:∀e∈cs,SO (e.z,e.y,AR e.bk)
 lv:Lv cs
 ym:∀e∈cs,e.y<=i
theorem Pg.same {X:List Int}(s:As H H')(h:Pg CB CP CT H x ds b n q cs bs X i):Pg CB CP CT H' x ds b n q cs bs X i:={ h with pa:=h.pa.same s,na:=h.na.same s,B:=h.B.same s }
theorem Pg.later {X:List Int}(h:Pg CB CP CT H x ds b n q cs bs X i){k:Int}(hk:i<=k):Pg CB CP CT H x ds b n q cs bs X k:={ h with bo:=h.bo.later hk,ym:=λe he=>gh (h.ym e he) hk }
end
section
variable {CB CP CT:Addr}{H H':Hp}{x:Addr}{ds:List Addr}{b:List CJ}{n:Int}{q:Pl}{cs:List Cl}{bs:List (Int×Addr)}{X:List Int}{i:Int}
theorem Pg.put {m y:Int} {bk:Bk} {bv:V} {c dxc ta l:Addr} {bs':List (Int×Addr)} (I:Pg CB CP CT H x ds b n q cs bs X i) (few:cs.length<=600) (hne:∀e∈cs,e.bk≠bk) (m1:1<=m) (m2:m<=(cs.length:Int)+1) (hm:∀e∈cs,e.z≠m) (hc:H c=none) (hlR:∃us,H' l=some (.lst us)/\AI NL H' ((AK bk).map Ej) us)
  (pa':PAt CP CT H' x { q with n:=m,D:=m::q.D } ((cs++[C3 m y bk bv c dxc ta l cs]).map (bump ((AK bk).map (·.1)))) bs') (f:Om (A9 x q cs bs) H H') (hb:∀x∈bs',x∈bs\/H x.2=none) (iy:i=y) (yb:0<=y/\y<=999999999) (hn:∀t∈AK bk,∃e∈cs,e.z=t.1) (hv:∀t∈AK bk,∃d∈cs,(d.z,d.y,AR d.bk)=t/\MO d.bk+1=MO bk) :
  Pg CB CP CT H' x ds b n { q with n:=m,D:=m::q.D } ((cs++[C3 m y bk bv c dxc ta l cs]).map (bump ((AK bk).map (·.1)))) bs' X i:=by
 have kt:∀a ys,H a=some (.tup ys)->H' a=some (.tup ys):=λa ys h=>f a _ h (I.pa.apart h (by intro C d fs z;cases z) (by intro kvs z;cases z))
 have kl:∀a ys,H a=some (.lst ys)->H' a=some (.lst ys):=λa ys h=>f a _ h (I.pa.apart h (by intro C d fs z;cases z) (by intro kvs z;cases z))
 obtain⟨dxb,s0,xbH,_,_,h4⟩:=id I.B;have sb:=sum_in bk;refine⟨pa',λe he=>?_,I.rt.put (N:=C3 m y bk bv c dxc ta l cs) hm rfl hn,?_,I.B.frm I.pa I.ap f,⟨λh=>I.ap.1 (Rk (N:=C3 m y bk bv c dxc ta l cs) hc hb xbH h),λd hd h=>?_⟩,?_,λe he=>?_,λe he t ht=>?_,λe he=>?_⟩
 ·obtain⟨d,hd,rfl⟩:=ae.mp he;rcases ai.mp hd with h|h
  ·obtain⟨us1,h1,h2⟩:=I.na d h;exact⟨us1,kl _ _ h1,Bf kt _ _ h2⟩
  ·rw[ag.mp h];exact hlR
 ·rw[aI];show((cs++[C3 m y bk bv c dxc ta l cs]).map λe=>e.bk).Nodup;rw[aJ,cm];refine⟨I.nb,by simp,λu hu' w hw=>?_⟩;obtain⟨e0,h0,rfl⟩:=ae.mp hu';have:w=bk:=ag.mp hw;rw[this];exact hne e0 h0
 ·obtain⟨kvs,g⟩:=I.B.there d hd;exact I.ap.2 d hd (Rk (N:=C3 m y bk bv c dxc ta l cs) hc hb g h)
 ·have b1:=I.bo.put (N:=C3 m y bk bv c dxc ta l cs) hm (Int.le_of_eq iy);refine b1.sub λe he=>?_
  obtain⟨d,hd,rfl⟩:=ae.mp he;exact⟨d,hd,rfl,rfl,rfl⟩
 ·obtain⟨d,hd,rfl⟩:=ae.mp he;rcases ai.mp hd with h|h
  ·exact I.yi d h
  ·rw[ag.mp h];exact⟨⟨m1,by show m<=999999;lia⟩,yb,sb⟩
 ·obtain⟨d,hd,rfl⟩:=ae.mp he;have up:∀{v:Int},(∃d∈cs,(d.z,d.y,AR d.bk)=t/\MO d.bk+1=v)->∃d∈(cs++[C3 m y bk bv c dxc ta l cs]).map (bump ((AK bk).map (·.1))),(d.z,d.y,AR d.bk)=t/\MO d.bk+1=v:=λ⟨u,hu,h1,h2⟩=>⟨_,ae.mpr ⟨u,ai.mpr (.inl hu),rfl⟩,h1,h2⟩
  rcases ai.mp hd with h|h
  ·exact up (I.lv d h t ht)
  ·rw[ag.mp h] at ht ⊢;exact up (hv t ht)
 ·obtain⟨d,hd,rfl⟩:=ae.mp he;rcases ai.mp hd with h|h
  ·exact I.ym d h
  ·rw[ag.mp h];exact Int.le_of_eq iy.symm
end
end
open M06 M08 M10
section
variable {P:Program}{w:World}{K:W.Frag}{mg:Str->Option Value}{base:Heap}{f Ab Ad Aa Ae:Addr}{XC:Nat->Addr}{fd:FuncData}
theorem Pg.brd {CB CP CT:Addr}{H:Hp}{x:Addr}{ds:List Addr}{b:List CJ}{n:Int}{q:Pl}{cs:List Cl}{bs:List (Int×Addr)}{X:List Int}{i:Int}(pg:Pg CB CP CT H x ds b n q cs bs X i):Wt CB H q cs:=
 ⟨ds,b,n,.non,pg.B,by have:=pg.bo.two;lia,λe he hD=>by
  have z:=pg.yi e he;refine⟨pg.bo.lies he (pg.pa.t.2.2.1 e he).2.2.2,⟨⟨by have:=z.1.1;lia,by have:=z.1.2;lia⟩,z.2.1⟩,?_⟩;rw[pg.bo.laid he hD];exact List.cons_ne_nil _ _⟩
theorem NF {y:Int} {H:Hp} {x:Addr} {ds:List Addr} {b:List CJ} {n:Int} {q:Pl} {cs:List Cl} {bs:List (Int×Addr)} {X:List Int} {i:Int} {v:V} {bk:Bk} {Q:VK} {E:XK} (pg:Pg Ad Ae Aa H x ds b n q cs bs X i) (few:cs.length<=600) (hv:Rep NL H (CI bk) v) (ok:Dl bk) (hn:∀t∈AK bk,∃b',At cs t b'/\MO b'+1=MO bk) (iy:i=y) (yb:0<=y/\y<=999999999)
  (k:∀H' q' cs' bs' t a,Pg Ad Ae Aa H' x ds b n q' cs' bs' X i->q'.bo=q.bo->EO cs cs'->cs'.length<=cs.length+1->At cs' t bk->H' a=some (.tup [.int t.1,.int t.2.1,.int t.2.2])->Kn H H'->(∀e∈cs',(∃e0∈cs,e.l=e0.l)\/H e.l=none)->Q (.ref a) H'):EL K Ae Aa Ad [.ref x,v,.int y] H Q E:=by
 have hn':∀t∈AK bk,∃e∈cs,e.z=t.1:=λt ht=>by
  obtain⟨b',⟨e,he,rfl,_⟩,_⟩:=hn t ht;exact⟨e,he,rfl⟩
 have hv':∀t∈AK bk,∃d∈cs,(d.z,d.y,AR d.bk)=t/\MO d.bk+1=MO bk:=λt ht=>by
  obtain⟨b',⟨e,he,et,rfl⟩,h⟩:=hn t ht;exact⟨e,he,et,h⟩
 refine⟨x,q,cs,bs,v,bk,y,rfl,pg.pa,pg.brd,few,hv,ok,hn',λe he eb H' s'=>?_,λhne m H' c dx l ta bs' m1 m2 hm hc hl0 hta hlR pa' f' bfr=>?_⟩
 ·exact k H' q cs bs _ e.ta (pg.same s') rfl EO.refl (by lia) ⟨e,he,rfl,eb⟩ (s'.get (pg.pa.t.2.2.1 e he).2.1) (As.kn s') λe he=>.inl ⟨e,he,rfl⟩
 ·have mem:bump ((AK bk).map (·.1)) (C3 m y bk v c dx ta l cs)∈(cs++[C3 m y bk v c dx ta l cs]).map (bump ((AK bk).map (·.1))):=ae.mpr ⟨_,ai.mpr (.inr (ag.mpr rfl)),rfl⟩;refine k H' _ _ bs' (m,y,AR bk) ta (pg.put few hne m1 m2 hm hc hlR pa' f' bfr iy yb hn' hv') rfl (λt b0 h=>?_) (by rw[ab,ar];exact ah _) ⟨_,mem,rfl,rfl⟩ (pa'.t.2.2.1 _ mem).2.1 (λa o h n1 n2=>f' a o h (pg.pa.apart h n1 n2)) λe he=>?_
  ·obtain⟨e0,he0,e1,e2⟩:=h;exact⟨bump _ e0,ae.mpr ⟨e0,ai.mpr (.inl he0),rfl⟩,e1,e2⟩
  ·obtain⟨d,hd,rfl⟩:=ae.mp he;rcases ai.mp hd with h|h
   ·exact .inl ⟨d,h,rfl⟩
   ·rw[ag.mp h];exact .inr hl0
theorem Pg.lst {CB CP CT:Addr}{H:Hp}{x:Addr}{ds:List Addr}{b:List CJ}{n:Int}{q:Pl}{cs:List Cl}{bs:List (Int×Addr)}{X:List Int}{i:Int}{l:Addr}{us us':List V}(h:Pg CB CP CT H x ds b n q cs bs X i)(hl:H l=some (.lst us))(nl:∀e∈cs,e.l≠l)(hu:us=[]\/(∃a r ys,us=.ref a::r/\H a=some (.tup ys))\/∃z r,us=.str z::r):Pg CB CP CT (upd H l (.lst us')) x ds b n q cs bs X i:=
 { h with
  pa:=h.pa.lst hl
  na:=λe he=>by
   obtain⟨us1,h1,h2⟩:=h.na e he;exact⟨us1,by rw[Aj (nl e he)];exact h1,Bf (λc ys g=>by rw[Aj (AQ g hl (by intro z;cases z))];exact g) _ _ h2⟩
  B:=h.B.app h.bo hl hu }
theorem Pg.nl {CB CP CT:Addr}{H:Hp}{x:Addr}{ds:List Addr}{b:List CJ}{n:Int}{q:Pl}{cs:List Cl}{bs:List (Int×Addr)}{X:List Int}{i:Int}{l:Addr}(h:Pg CB CP CT H x ds b n q cs bs X i)(hl:H l=none):∀e∈cs,e.l≠l:=λe he z=>by
 obtain⟨us1,h1,_⟩:=h.na e he;rw[z,hl] at h1;cases h1
end
open M06 M08 M10
section
variable {P:Program}{w:World}{K:W.Frag}{mg:Str->Option Value}{base:Heap}{f Ab Ad Aa Ae:Addr}{XC:Nat->Addr}{fd:FuncData}
def MC (H:Hp)(cs cs':List Cl):Prop:=∀l ys,H l=some (.lst ys)->(∀e∈cs,e.l≠l)->∀e∈cs',e.l≠l
def Kh (K:W.Frag)(CB CP CT:Addr):Sp:=λvs H Q _=>∃p ds b0 n q cs bs X i0 tl ys ts lv y,vs=[.ref p,.ref tl,.int lv,.int y]/\Pg CB CP CT H p ds b0 n q cs bs X i0/\cs.length+ts.length<=590/\H tl=some (.lst ys)/\AI NL H (ts.map Ej) ys/\(∀t∈ts,∃b,At cs t b/\MO b+1=lv)/\ts.length<=1000/\(1<=lv/\lv<=9)/\(1<lv->ts≠[])/\(0<=y/\y<=999999999)/\i0=y/\
 ∀H' q' cs' bs' rl us zs,Pg CB CP CT H' p ds b0 n q' cs' bs' X i0->q'.bo=q.bo->EO cs cs'->cs'.length<=cs.length+(Ik ts).length->Kn H H'->MC H cs cs'->H' rl=some (.lst zs)->AI NL H' (us.map Ej) zs->FA cs' lv ts us->Q (.ref rl) H'
theorem Os (T:Txt K mg Ab Ad Aa Ae XC)(F:Fun K "put_rows" "put_rows" HI f fd)(GT:Def P w K mg base 1 "groups_of" ["sums"] (IH K))(CS:BJ P w K mg base 19 Ae "put" ["self","block","birth"] (EL K Ae Aa Ad)):FnOk P w K mg base BI 20 f fd ["pool","tags","level","birth"] (Kh K Ad Ae Aa):=by
 exists DC
 ·obtain⟨p,ds,b0,n,q,cs,bs,X,i0,tl,ys,ts,lv,y,rfl,_⟩:=h;rfl
 obtain⟨p,ds,b0,n,q,cs,bs,X,i0,tl,ys,ts,lv,y,rfl,pg,few,htl,ry,kn,l1000,lvb,lvn,yb,iy,hq⟩:=h;have pa:=pg.pa;have hu:=BL hr;have hu9:=E4 hr;refine⟨_,(!Af (!AL (!Aw Bb (!Aq Az (by rfl) T.b_len AZ (!Ac (pv 1) (!Ah))) (!Ai) (Av _)) (!Ak (!Ao (!Be (!Ac (!A4 (pv 0) T.cl_Pool CS (by trivial) (!Ac (!DE (!Ac (!AB rfl T.c_ROW) (!Ac (pv 2) (!Ac (!DE (!Ah)) (!Ah))))) (!Ac (pv 3) (!Ah)))) (!Ah))))) (!Au)) (!Af (@Ap _ _ (4) _ _ _ _ DC.nd rfl (by trivial) (!Be (!Ah)) (by rfl) (by trivial)) (!Af (@Ap _ _ (5) _ _ _ _ DC.nd rfl (by trivial) (!Ai) (by rfl) (by trivial)) (!Af (!Bn aU rfl (!A2 (!AG GT (by trivial) rfl (!Ac (@Bl _ ["tag"] _ _ _ _ _ _ _ _ _ _ rfl (!A2 (pv 1)) (by decide +kernel) (λC s H fp=>⟨(@An _ _ (0) _ (show(["tag"]:List Str).Nodup by decide +kernel) rfl (by trivial) (by trivial)),(!AM),(!Ax (II (K:=K) (by rfl)) (pv 0) (!Ai) (λ_ _=>rfl))⟩) (by intro _;rfl)) (!Ah)))) (@An _ _ (6) _ DC.nd rfl (by trivial) (by trivial)) (!Af (!AN (!Ca aT ba aZ Bp (pv 4) (!Ac (!A4 (pv 0) T.cl_Pool CS (by trivial) (!Ac (!DE (!Ac (!AB rfl T.c_ROW) (!Ac (pv 2) (!Ac (!Cz Hk (by rfl) T.b_tuple Fe (!Ac (!BN Fv (pv 1) (!BG (pv 5)) (!BG (!Ar Bu (pv 5) (pv 6)))) (!Ah))) (!Ah))))) (!Ac (pv 3) (!Ah)))) (!Ah)))) (!Ak (@P4 _ _ (5) _ _ _ _ _ _ DC.nd rfl (by trivial) (pv 6) FB (by trivial)))) (by intro _;rfl)) (!Ak (!Ao (pv 4))))))),?_⟩
 try dsimp only[BM,Cx.nox,Cx.wish]
 have ly:ys.length=ts.length:=by rw[AI.len _ _ ry,ab]
 refine⟨_,rfl,tl,_,rfl,.inl (AJ.of htl),rfl,_,rfl,Cs (λhk=>?_) (λhk=>?_)⟩
 ·have e0:ts=[]:=by
   have:=V.int.inj (bf hk);exact bC (by lia)
  subst e0;refine⟨_,rfl,p,q.dp,_,rfl,pa.t.1,rfl,_,rfl,Hf,λt1 ht1=>⟨UF,λt2 ht2=>⟨_,rfl,OS ?_⟩⟩⟩;have s1:=Al ht1 (.tup []);have s2:=Al ht2 (.tup [.int 1,.int lv,.ref t1]);refine NF (bk:=.row lv []) (pg.same (s1.trans s2)) (by lia) ⟨t2,_,rfl,Ag,_,_,rfl,rfl,_,_,rfl,rfl,_,_,rfl,⟨t1,_,rfl,s2.get Ag,rfl⟩,rfl⟩ ⟨lvb,by show 0<=8;decide,λh=>absurd rfl (lvn h),λ_ h=>nomatch h⟩ (λ_ h=>nomatch h) iy yb λH3 q3 cs3 bs3 t a pg3 eq3 g3 l3 at3 ha kn3 nw3=>?_
  refine⟨Qx,λrl hrl=>?_⟩;have s4:=Al hrl (.lst [.ref a]);refine hq _ q3 cs3 bs3 rl [t] [.ref a] (pg3.same s4) eq3 g3 l3 (((As.kn (s1.trans s2)).trans kn3).trans (As.kn s4)) (λl ys hl hn e he z=>by
   rcases nw3 e he with⟨e0,h0,z0⟩|z0
   ·exact hn e0 h0 (z0.symm.trans z)
   ·rw[z] at z0;have:=(s1.trans s2).get hl;rw[z0] at this;cases this) Ag ⟨_,_,rfl,LM (s4.get ha),rfl⟩ ⟨rfl,λk u c h1 h2=>?_⟩
  cases k with
  |zero=>cases h1;cases h2;exact at3
  |succ k=>cases h1
 have ne:ts≠[]:=λz=>hk (aH (by rw[ly,z];rfl))
 refine⟨Hf,λrl hrl=>?_⟩;have s1:=Al hrl (.lst []);refine⟨_,rfl,tl,rfl,⟨_,AJ.of (s1.get htl)⟩,?_⟩;refine comp_map (xs:=ys) (Qf H) (Ck (AJ.of (s1.get htl))) (by lia) (λx H2 R hx s2 hR=>?_) λl2 H2 nl2 s2 hl2=>?_
 ·obtain⟨t,ht,rt⟩:=G4 ry hx;obtain⟨a,rfl,ha⟩:=Em rt;have hR:=hR H2 (As.refl _);rw[O4 ha] at hR;exact⟨_,rfl,a,_,_,_,rfl,rfl,A8.of (s2.get (s1.get ha)),rfl,hR⟩
 rw[JX ry] at hl2;refine⟨l2,ts.map (·.2.2),rfl,AJ.of hl2,by rw[ab];exact l1000,λgl H3 s3 ngl hgl=>⟨gl,rfl,⟨_,AJ.of hgl⟩,?_⟩⟩;have gp:=λg hg=>(Nu (ts.map (·.2.2)) 0 g hg).1
 have g8:=N2 (ts.map (·.2.2)) 0 (by decide);have gsum:(Fi 0 (ts.map (·.2.2))).sum=(ts.length:Int):=by
  have:=K7 (ts.map (·.2.2)) 0;rw[ab] at this
  lia
 have glen:=Oe (ts.map (·.2.2)) 0;rw[ab] at glen;have hch:Ik ts=chunk (Fi 0 (ts.map (·.2.2))) ts:=ay ne;rw[hch,chunk_len] at hq;have k13:Kn H H3:=As.kn ((s1.trans s2).trans s3);have rl3:H3 rl=some (.lst []):=s3.get (s2.get Ag);have pg3:=pg.same ((s1.trans s2).trans s3);have nrg:rl≠gl:=λz=>by rw[<-z,s2.get Ag] at ngl;cases ngl
 generalize Fi 0 (ts.map (·.2.2))=gs at gp g8 gsum glen hch hq hgl;refine BD (K:=K) (a:=gl) (xs:=gs.map V.int) (λi σ H'=>∃q' cs' bs',∃(us:List Tg) (zs:List V) (v6:Option V),σ=[some (.ref p),some (.ref tl),some (.int lv),some (.int y),some (.ref rl),some (.int (gs.take i).sum),v6]/\Pg Ad Ae Aa H' p ds b0 n q' cs' bs' X i0/\MC H cs cs'/\(∀e∈cs',e.l≠rl)/\q'.bo=q.bo/\EO cs cs'/\cs'.length<=cs.length+i/\Kn H H'/\H' rl=some (.lst zs)/\H' gl=some (.lst (gs.map V.int))/\AI NL H' (us.map Ej) zs/\us.length=i/\∀(k:Nat) u c,us[k]?=some u->(chunk gs ts)[k]?=some c->At cs' u (.row lv c))
  ⟨q,cs,bs,[],[],none,rfl,pg3,(λ_ _ _ hn=>hn),pg.nl hrl,rfl,EO.refl,ah _,k13,rl3,hgl,rfl,rfl,λk u c h=>by cases h⟩ ?_ ?_ ?_
 ·rintro i σ H' _ ⟨q',cs',bs',us,zs,v6,_,_,_,_,_,_,_,_,_,h,_⟩
  exact AJ.of h
 ·rintro i x σ H' hx ⟨q',cs',bs',us,zs,v6,rfl,pg',nw',nr',eq',g',l',kn',rl',gl',rz,lus,hat⟩
  have pa':=pg'.pa;obtain⟨g,rfl,hg⟩:=ints_get hx;have hil:i<gs.length:=(aj.mp hg).1;have gm:=az hg;have g1:=gp g gm;have gg:=g8 g gm;have ts0:=FH (gs.take i) λy hy=>gh (by decide) (gp y (cg hy))
  have tsl:=J7 gs gp hg;have hc:=Nt gs ts gp hg;have htl':=kn'.lst htl;have ry':=Bf kn'.tup _ _ ry;dsimp only[BH];refine Di λEB eEB=>?_
  refine AF λN eN=>?_
  refine⟨_,rfl,.inl ⟨rfl,_,AJ.of rl'⟩,_,rfl,p,q'.dp,_,rfl,pa'.t.1,rfl,_,rfl,_,rfl,_,rfl,_,rfl,_,rfl,_,rfl,_,_,rfl,rfl,_,rfl,tl,ys,rfl,AJ.of htl',λl5 hl5=>⟨l5,_,rfl,.inl ⟨AJ.of Ag,λl6 hl6=>⟨UF,λl7 hl7=>⟨_,rfl,OS ?_⟩⟩⟩⟩⟩;have ec:Dn ys (some (gs.take i).sum) (some ((gs.take i).sum+g))=(ys.drop (gs.take i).sum.toNat).take g.toNat:=by
   rw[Jl ts0 (by lia),show((gs.take i).sum+g).toNat-(gs.take i).sum.toNat=g.toNat by lia]
  have s5:=Al hl5 (.lst (Dn ys (some (gs.take i).sum) (some ((gs.take i).sum+g))));have s6:=Al hl6 (.tup (Dn ys (some (gs.take i).sum) (some ((gs.take i).sum+g))));have s7:=Al hl7 (.tup [.int 1,.int lv,.ref l6]);have s57:=(s5.trans s6).trans s7;have rc:AI NL (upd (upd (upd H' l5 (.lst (Dn ys (some (gs.take i).sum) (some ((gs.take i).sum+g))))) l6 (.tup (Dn ys (some (gs.take i).sum) (some ((gs.take i).sum+g))))) l7 (.tup [.int 1,.int lv,.ref l6])) (((ts.drop (gs.take i).sum.toNat).take g.toNat).map Ej) (Dn ys (some (gs.take i).sum) (some ((gs.take i).sum+g))):=by
   have:=AI.same s57 _ _ (Na g.toNat (M7 (gs.take i).sum.toNat ry'));rw[<-ec] at this;exact this
  have lc:((ts.drop (gs.take i).sum.toNat).take g.toNat).length=g.toNat:=by rw[bu,bP];lia
  have sub:∀t∈(ts.drop (gs.take i).sum.toNat).take g.toNat,∃b,At cs' t b/\MO b+1=lv:=λt ht=>by
   obtain⟨b,hb,hl⟩:=kn t (cU (cg ht));exact⟨b,g' t b hb,hl⟩
  refine NF (bk:=.row lv ((ts.drop (gs.take i).sum.toNat).take g.toNat)) (pg'.same s57) (by lia) ⟨l7,_,rfl,Ag,_,_,rfl,rfl,_,_,rfl,rfl,_,_,rfl,⟨l6,_,rfl,s7.get Ag,rc⟩,rfl⟩ ⟨lvb,by rw[lc];lia,λ_ z=>by rw[z] at lc;simp at lc;lia,λt ht=>?_⟩ sub iy yb λH8 q8 cs8 bs8 t a pg8 eq8 g8' l8 at8 ha kn8 nw8=>?_
  ·obtain⟨b,⟨e,he,rfl,_⟩,_⟩:=sub t ht;exact pg'.yi e he
  have k8:Kn H' H8:=(As.kn s57).trans kn8;have lz:zs.length=us.length:=by rw[AI.len _ _ rz,ab]
  refine⟨rl,zs,_,rfl,rfl,k8.lst rl',A7 (by lia),?_⟩;have rl8:=k8.lst rl';have nw9:MC H cs cs8:=λl ys9 hl9 hn9 e he z=>by
   rcases nw8 e he with⟨e0,h0,z0⟩|z0
   ·exact nw' l ys9 hl9 hn9 e0 h0 (z0.symm.trans z)
   ·rw[z] at z0;have:=s57.get (kn'.lst hl9);rw[z0] at this;cases this
  have nr8:∀e∈cs8,e.l≠rl:=λe he z=>by
   rcases nw8 e he with⟨e0,h0,z0⟩|z0
   ·exact nr' e0 h0 (z0.symm.trans z)
   ·rw[z] at z0;have:=s57.get rl';rw[z0] at this;cases this
  have tp:∀c ys,H8 c=some (.tup ys)->(upd H8 rl (.lst (zs++[.ref a]))) c=some (.tup ys):=λc ys h=>by rw[Aj (AQ h rl8 (by intro z;cases z))];exact h
  subst eN
  try dsimp only
  refine⟨_,rfl,_,rfl,_,_,rfl,rfl,?_⟩;dsimp only[BH];subst eEB;refine⟨q8,cs8,bs8,us++[t],zs++[.ref a],some (.int g),?_,pg8.lst rl8 nr8 ?_,nw9,nr8,eq8.trans eq',g'.trans g8',by lia,(kn'.trans k8).upd hrl,Ag,by rw[Aj (Ne.symm nrg)];exact k8.lst gl',JS (LM (tp _ _ ha)) (Bf (λc ys h=>tp _ _ (k8.tup _ _ h)) _ _ rz),by rw[ar,lus];rfl,λk u c h1 h2=>?_⟩
  ·rw[bg,hg];simp only[Option.toList_some,List.sum_append,List.sum_cons,List.sum_nil,Int.add_zero];rfl
  ·cases zs with
   |nil=>exact .inl rfl
   |cons z0 zs=>
    obtain⟨t0,_,rt⟩:=G4 rz av;obtain⟨a0,rfl,ha0⟩:=Em rt;exact .inr (.inl ⟨a0,_,_,rfl,k8.tup _ _ ha0⟩)
  ·by_cases hk':k<us.length
   ·rw[bG hk'] at h1;exact g8' _ _ (hat k u c h1 h2)
   ·rw[bK (by lia)] at h1;obtain⟨h3,h4⟩:=aj.mp h1;have:k=i:=by
     have:k-us.length<1:=h3
     lia
    subst this;have h4:t=u:=by
     simp only[lus,Nat.sub_self,List.getElem_cons_zero] at h4;exact h4
    rw[hc] at h2;cases h2;rw[<-h4];exact at8
 ·rintro σ H' ⟨q',cs',bs',us,zs,v6,rfl,pg',nw',nr',eq',g',l',kn',rl',gl',rz,lus,hat⟩
  rw[ab] at l' lus;have ro:FA cs' lv ts us:=⟨by rw[hch,chunk_len];exact lus,by rw[hch];exact hat⟩
  exact⟨_,rfl,hq H' q' cs' bs' rl us zs pg' eq' g' l' kn' nw' rl' rz ro⟩
end
open M06 M08 M10
section
variable {P:Program}{w:World}{K:W.Frag}{mg:Str->Option Value}{base:Heap}{f Ab Ad Aa Ae:Addr}{XC:Nat->Addr}{fd:FuncData}
theorem Od:∀(l acc:List Nat),acc.length<=7->(∀c∈acc,c∈A3 SG)->(∀c∈l,c∈A3 SG)->∀p∈cut full acc l,p≠[]/\p.length<=8/\∀c∈p,c∈A3 SG
 |[],acc,ha,hs,_,p,hp=>by
  unfold cut at hp
  split at hp
  ·cases hp
  ·rename_i h
   rw[ag.mp hp];exact⟨h,by lia,hs⟩
 |c::r,acc,ha,hs,hl,p,hp=>by
  have hs':∀x∈acc++[c],x∈A3 SG:=λx hx=>by
   rcases ai.mp hx with h|h
   ·exact hs x h
   ·rw[ag.mp h];exact hl c av
  have hr:∀x∈r,x∈A3 SG:=λx hx=>hl x (ao _ hx)
  have la:(acc++[c]).length=acc.length+1:=by simp
  unfold cut at hp
  split at hp
  ·rcases aM.mp hp with rfl|hp
   ·exact⟨by simp,by lia,hs'⟩
   ·exact Od r [] (by decide) (λ_ h=>nomatch h) hr p hp
  ·rename_i h
   refine Od r (acc++[c]) ?_ hs' hr p hp
   by_cases h8:(acc++[c]).length=8
   ·exact absurd (by unfold full;rw[h8];rfl) h
   ·lia
theorem O7 {p:List Nat}(h:p≠[]/\p.length<=8/\∀c∈p,c∈A3 SG):Dl (.piece (toS p)):=by
 obtain⟨h1,h2,h3⟩:=h;have h0:0<p.length:=cD.mpr h1;show(decide ((1:Int)<=((toS p).length:Int))&&decide (((toS p).length:Int)<=8)&&DR SG (toS p))=true;unfold DR;rw[DV,BV,bq,bq,aG,aG,bZ];exact⟨⟨by lia,by lia⟩,λc hc=>aH (h3 c hc)⟩
theorem Iw {ts:List Tg}(ne:ts≠[]):2*(Ik ts).length<=ts.length+1/\1<=(Ik ts).length:=by
 unfold Ik;rw[ay ne,chunk_len];have h1:=(Lh (ts.map (·.2.2)) 0 (by decide)).1;rw[aC rfl,ab] at h1;refine⟨h1,?_⟩;have h2:=K7 (ts.map (·.2.2)) 0;rw[ab] at h2;have h0:0<ts.length:=cD.mpr ne;cases hg:Fi 0 (ts.map (·.2.2)) with
 |nil=>rw[hg] at h2;simp at h2;lia
 |cons a l=>simp
theorem Tw.len {cs:List Cl}{ts0:List Tg}(ne:ts0≠[]):∀{l:Nat} {us:List Tg},Tw cs ts0 l us->us≠[]/\us.length<=ts0.length
 |0,us,h=>by rw[show us=ts0 from h];exact⟨ne,ah _⟩
 |l+1,us,h=>by
  obtain⟨ts,h1,h2,_⟩:=h;obtain⟨n1,n2⟩:=Tw.len ne h1;have c:=Iw n1;have e:=h2.1;have h0:0<ts.length:=cD.mpr n1;exact⟨λz=>by rw[z] at e;simp at e;lia,by lia⟩
def GD (K:W.Frag)(CB CP CT:Addr):Sp:=λvs H Q _=>∃p ds b0 n q cs bs X i0 z y,vs=[.ref p,.str z,.int y]/\Pg CB CP CT H p ds b0 n q cs bs X i0/\cs.length<=350/\z.length<=80/\C2 z/\(0<=y/\y<=999999999)/\i0=y/\
 ∀H' q' cs' bs' a t lv ts0,Pg CB CP CT H' p ds b0 n q' cs' bs' X i0->q'.bo=q.bo->EO cs cs'->cs'.length<=cs.length+180->Kn H H'->MC H cs cs'->H' a=some (.tup [.int t.1,.int t.2.1,.int t.2.2])->lv<=8->Tw cs' ts0 (lv+1) [t]->DK cs' ts0 (M08.cut full [] (A3 z))->Q (.ref a) H'
theorem Lm (T:Txt K mg Ab Ad Aa Ae XC)(F:Fun K "put_content" "put_content" E1 f fd)(Fw:Def P w K mg base 20 "put_rows" ["pool","tags","level","birth"] (Kh K Ad Ae Aa))(CS:BJ P w K mg base 19 Ae "put" ["self","block","birth"] (EL K Ae Aa Ad))(Gs:Def P w K mg base 3 "pieces_of" ["content"] (IQ K)):FnOk P w K mg base BI 21 f fd ["pool","content","birth"] (GD K Ad Ae Aa):=by
 exists B2
 ·obtain⟨p,ds,b0,n,q,cs,bs,X,i0,z,y,rfl,_⟩:=h;rfl
 obtain⟨p,ds,b0,n,q,cs,bs,X,i0,z,y,rfl,pg,few,lz,zs,yb,iy,hq⟩:=h;have pa:=pg.pa;have hu:=BL hr;have hu9:=E4 hr;refine⟨_,(!Af (@KS _ ["piece","birth","pool"] [none,some 2,some 0] (3) _ _ _ _ _ _ _ _ _ _ _ _ _ _ B2.nd rfl (by trivial) rfl (!A2 (!AG Gs (by trivial) rfl (!Ac (pv 1) (!Ah)))) (by rfl) rfl (by repeat (first|exact trivial|refine⟨rfl,?_⟩)) (by repeat (first|exact trivial|refine⟨λh=>(by first|exact⟨_,rfl⟩|cases h),?_⟩)) (λC s H fp=>⟨(@An _ _ (0) _ (show(["piece","birth","pool"]:List Str).Nodup by decide +kernel) rfl (by trivial) (by trivial)),(!AM),(!A4 (pv 2) T.cl_Pool CS (by trivial) (!Ac (!DE (!Ac (!AB rfl T.c_PIECE) (!Ac (pv 0) (!Ah)))) (!Ac (pv 1) (!Ah))))⟩) (by intro _;rfl) (by rfl) (by trivial)) (!Af (@Ap _ _ (4) _ _ _ _ B2.nd rfl (by trivial) (!Ai) (by rfl) (by trivial)) (!Af (@Ap _ _ (5) _ _ _ _ B2.nd rfl (by trivial) (!AG Fw (by trivial) rfl (!Ac (pv 0) (!Ac (pv 3) (!Ac (pv 4) (!Ac (pv 2) (!Ah)))))) (by rfl) (by trivial)) (!Af (!IS aU (!Aw FX (!Aq Az (by rfl) T.b_len AZ (!Ac (pv 5) (!Ah))) (!Ai) (Av _)) (!Af (@P4 _ _ (4) _ _ _ _ _ _ B2.nd rfl (by trivial) (!Ai) FB (by trivial)) (!Ak (@Ap _ _ (5) _ _ _ _ B2.nd rfl (by trivial) (!AG Fw (by trivial) rfl (!Ac (pv 0) (!Ac (pv 5) (!Ac (pv 4) (!Ac (pv 2) (!Ah)))))) (by rfl) (by trivial))))) (!Ak (!Ao (!Ax A6 (pv 5) (!Ai) (λ_ _=>rfl)))))))),?_⟩
 try dsimp only[BM,Cx.nox,Cx.wish]
 have insg:∀c∈A3 z,c∈A3 SG:=zs;refine⟨_,rfl,z,rfl,by lia,zs,λr H1 s1 nr hr=>⟨r,rfl,⟨_,AJ.of hr⟩,?_⟩⟩;have okp:=Od (A3 z) [] (by decide) (λ_ h=>nomatch h) insg;have lps:=KZ full (A3 z) [];rw[AO] at lps;have eps:z.length=0->cut full [] (A3 z)=[]:=λh=>by
  have:A3 z=[]:=bC (by rw[AO];exact h);rw[this];rfl
 generalize cut full [] (A3 z)=ps at hr okp lps eps hq;have pg1:=pg.same s1;refine KY (xs:=CH ps) (λi ys l H'=>∃q' cs' bs',∃ts0:List Tg,Pg Ad Ae Aa H' p ds b0 n q' cs' bs' X i0/\MC H1 cs cs'/\(∀e∈cs',e.l≠l)/\q'.bo=q.bo/\EO cs cs'/\cs'.length<=cs.length+i/\Kn H1 H'/\ts0.length=i/\AI NL H' (ts0.map Ej) ys/\∀(k:Nat) t c,ts0[k]?=some t->ps[k]?=some c->At cs' t (.piece (toS c))) (by rw[BC];lia) (λi ys l H' hI=>?_) (λl hl=>⟨q,cs,bs,[],pg1.same (Al hl _),(λ_ _ _ hn=>hn),pg1.nl hl,rfl,EO.refl,ah _,As.kn (Al hl _),rfl,rfl,λk t c h=>by cases h⟩) (λi x ys l H' R hx hl hl' ly hI hR=>?_) λtl H2 ys hl htl ly hI=>?_
 ·obtain⟨_,_,_,_,_,_,_,_,_,_,kn',_⟩:=hI;exact Ck (AJ.of (kn'.lst hr)) H' (As.refl _) i
 ·obtain⟨q',cs',bs',ts0,pg',nw',nr',eq',g',l',kn',lt,rt,hat⟩:=hI;have pa':=pg'.pa;unfold CH at hx;rw[aD] at hx;obtain⟨c,hc,rfl⟩:=aV.mp hx;have il:i<ps.length:=(aj.mp hc).1;refine⟨_,rfl,p,q'.dp,_,rfl,pa'.t.1,rfl,_,rfl,Ms,λt1 ht1=>⟨_,rfl,OS ?_⟩⟩;have s2:=Al ht1 (.tup [.int 0,.str (toS c)]);refine NF (bk:=.piece (toS c)) (pg'.same s2) (by lia) ⟨t1,_,rfl,Ag,_,_,rfl,rfl,_,_,rfl,rfl,rfl⟩ (O7 (okp c (az hc))) (λ_ h=>nomatch h) iy yb λH3 q3 cs3 bs3 t a pg3 eq3 g3 l3 at3 ha kn3 nw3=>?_
  have k3:Kn H' H3:=(As.kn s2).trans kn3;have hl3:=k3.lst hl';have nw9:MC H1 cs cs3:=λl9 ys9 hl9 hn9 e he z=>by
   rcases nw3 e he with⟨e0,h0,z0⟩|z0
   ·exact nw' l9 ys9 hl9 hn9 e0 h0 (z0.symm.trans z)
   ·rw[z] at z0;have:=s2.get (kn'.lst hl9);rw[z0] at this;cases this
  have nr9:∀e∈cs3,e.l≠l:=λe he z=>by
   rcases nw3 e he with⟨e0,h0,z0⟩|z0
   ·exact nr' e0 h0 (z0.symm.trans z)
   ·rw[z] at z0;have:=s2.get hl';rw[z0] at this;cases this
  have hu9:ys=[]\/(∃a r zs,ys=V.ref a::r/\H3 a=some (.tup zs))\/∃z r,ys=V.str z::r:=by
   cases ys with
   |nil=>exact .inl rfl
   |cons z0 ys=>
    obtain⟨t0,_,r0⟩:=G4 rt av;obtain⟨a0,rfl,ha0⟩:=Em r0;exact .inr (.inl ⟨a0,_,_,rfl,k3.tup _ _ ha0⟩)
  have tp:∀c ys',H3 c=some (.tup ys')->(upd H3 l (.lst (ys++[.ref a]))) c=some (.tup ys'):=λc ys' h=>by rw[Aj (AQ h hl3 (by intro z;cases z))];exact h
  refine hR _ _ hl3 ⟨q3,cs3,bs3,ts0++[t],pg3.lst hl3 nr9 hu9,nw9,nr9,eq3.trans eq',g'.trans g3,by lia,(kn'.trans k3).upd hl,by rw[ar,lt];rfl,JS (LM (tp _ _ ha)) (Bf (λc ys h=>tp _ _ (k3.tup _ _ h)) _ _ rt),λk u c' h1 h2=>?_⟩
  by_cases hk':k<ts0.length
  ·rw[bG hk'] at h1;exact g3 _ _ (hat k u c' h1 h2)
  ·rw[bK (by lia)] at h1;obtain⟨h3,h4⟩:=aj.mp h1;have:k=i:=by
    have:k-ts0.length<1:=h3
    lia
   subst this;have h4:t=u:=by
    simp only[lt,Nat.sub_self,List.getElem_cons_zero] at h4;exact h4
   rw[hc] at h2;cases h2;rw[<-h4];exact at3
 obtain⟨q2,cs2,bs2,ts0,pg2,nw2,_,eq2,g2,l2,kn2,lt,rt,hat⟩:=hI;rw[BC] at l2 lt;have base0:DK cs2 ts0 ps:=⟨lt,hat⟩
 refine⟨_,rfl,_,rfl,_,rfl,_,rfl,p,ds,b0,n,q2,cs2,bs2,X,i0,tl,ys,ts0,1,y,rfl,pg2,by lia,htl,rt,λt ht=>?_,by lia,⟨by decide,by decide⟩,λh=>by lia,yb,iy,λH3 q3 cs3 bs3 rl us rs pg3 eq3 g3 l3 kn3 nw3 hrl rz ro=>?_⟩
 ·obtain⟨k,hk,rfl⟩:=bx ht;exact⟨_,hat k _ _ (aa hk) (aa (by lia)),rfl⟩
 have kn13:Kn H H3:=((As.kn s1).trans kn2).trans kn3;have nw13:MC H cs cs3:=λl9 ys9 hl9 hn9=>nw3 l9 ys9 (kn2.lst (s1.get hl9)) (nw2 l9 ys9 (s1.get hl9) hn9)
 have ucl:us.length=(Ik ts0).length:=ro.1;have c0:ts0=[]->(Ik ts0).length=1:=λh=>by rw[h];rfl
 have c1:1<=(Ik ts0).length/\(Ik ts0).length<=41:=by
  by_cases h:ts0=[]
  ·rw[c0 h];decide
  ·have:=Iw h;lia
 refine⟨λm σ H'=>∃(lv:Nat) (q':Pl) (cs':List Cl) (bs':List (Int×Addr)) (rl:Addr) (us:List Tg) (rs:List V),m=us.length/\σ=[some (.ref p),some (.str z),some (.int y),some (.ref tl),some (.int ((lv:Int)+1)),some (.ref rl)]/\Pg Ad Ae Aa H' p ds b0 n q' cs' bs' X i0/\MC H cs cs'/\q'.bo=q.bo/\EO cs cs'/\Kn H H'/\H' rl=some (.lst rs)/\AI NL H' (us.map Ej) rs/\Tw cs' ts0 (lv+1) us/\DK cs' ts0 ps/\us.length<=2^(8-lv)/\1<=us.length/\cs'.length+us.length<=cs.length+165+lv/\lv<=8/\(∀t∈us,∃b,At cs' t b/\MO b=(lv:Int)+1),
  ⟨_,0,q3,cs3,bs3,rl,us,rs,rfl,rfl,pg3,nw13,eq3.trans eq2,g2.trans g3,kn13,hrl,rz,⟨ts0,rfl,ro,λh=>absurd h (cL _)⟩,base0.grow g3,by show us.length<=256;lia,by lia,by lia,by decide,λt ht=>?_⟩,?_⟩
 ·obtain⟨k,hk,rfl⟩:=bx ht;exact⟨_,ro.2 k _ _ (aa hk) (aa (by lia)),rfl⟩
 rintro m σ H' ⟨lv,q',cs',bs',rl,us,rs,rfl,rfl,pg',nw',eq',g',kn',hrl',rz',tw,bo,h256,h1,hsum,l8,kat⟩
 have lrs:rs.length=us.length:=by rw[AI.len _ _ rz',ab]
 refine⟨_,rfl,rl,_,rfl,.inl (AJ.of hrl'),_,_,rfl,rfl,_,rfl,Cs (λhk=>?_) (λhk=>?_)⟩
 ·have h2:2<=us.length:=by
   have:=bf hk
   lia
  have l7:lv<=7:=bO λh=>by
   have:lv=8:=by lia
   subst this;have:us.length<=1:=h256
   lia
  have ne:us≠[]:=λz=>by rw[z] at h2;simp at h2
  have cl:=Iw ne;have e2:2^(8-lv)=2*2^(8-(lv+1)):=by rw[show 8-lv=(8-(lv+1))+1 by lia,Nat.pow_succ];lia
  have u256:us.length<=256:=aY h256 (Nat.pow_le_pow_right (n:=2) (by decide) (show 8-lv<=8 by lia));refine⟨λσ' H''=>∃m' ,m'<us.length/\∃(lv:Nat) (q':Pl) (cs':List Cl) (bs':List (Int×Addr)) (rl:Addr) (us:List Tg) (rs:List V),m'=us.length/\σ'=[some (.ref p),some (.str z),some (.int y),some (.ref tl),some (.int ((lv:Int)+1)),some (.ref rl)]/\Pg Ad Ae Aa H'' p ds b0 n q' cs' bs' X i0/\MC H cs cs'/\q'.bo=q.bo/\EO cs cs'/\Kn H H''/\H'' rl=some (.lst rs)/\AI NL H'' (us.map Ej) rs/\Tw cs' ts0 (lv+1) us/\DK cs' ts0 ps/\us.length<=2^(8-lv)/\1<=us.length/\cs'.length+us.length<=cs.length+165+lv/\lv<=8/\(∀t∈us,∃b,At cs' t b/\MO b=(lv:Int)+1),λσ' H'' h=>h,?_⟩;refine⟨_,rfl,_,_,rfl,rfl,_,rfl,_,rfl,_,rfl,_,rfl,p,ds,b0,n,q',cs',bs',X,i0,rl,rs,us,(lv:Int)+1+1,y,rfl,pg',by lia,hrl',rz',(λt ht=>(kat t ht).imp λb hb=>⟨hb.1,by rw[hb.2]⟩),by lia,⟨by lia,by lia⟩,λ_=>ne,yb,iy,λH4 q4 cs4 bs4 rl4 us4 rs4 pg4 eq4 g4 l4 kn4 nw4 hrl4 rz4 ro4=>?_⟩;have u4:us4.length=(Ik us).length:=ro4.1;refine⟨_,?_,lv+1,q4,cs4,bs4,rl4,us4,rs4,rfl,?_,pg4,(λl9 ys9 hl9 hn9=>nw4 l9 ys9 (kn'.lst hl9) (nw' l9 ys9 hl9 hn9)),eq4.trans eq',g'.trans g4,kn'.trans kn4,hrl4,rz4,⟨us,tw.grow g4,?_,λ_=>h2⟩,bo.grow g4,?_,by lia,by lia,by lia,λt ht=>?_⟩
  ·lia
  ·have:(((lv+1:Nat):Int)+1)=(lv:Int)+1+1:=by lia
   rw[this];rfl
  ·have:(((lv+1:Nat):Int)+1)=(lv:Int)+1+1:=by lia
   rw[this];exact ro4
  ·lia
  ·obtain⟨k,hk,rfl⟩:=bx ht;exact⟨_,ro4.2 k _ _ (aa hk) (aa (by lia)),by show(lv:Int)+1+1=((lv+1:Nat):Int)+1;lia⟩
 ·have h11:us.length=1:=bO λh=>hk (aH (by lia))
  obtain⟨t,rfl⟩:∃t,us=[t]:=by
   match us,h11 with
   |[t],_=>exact⟨t,rfl⟩
  obtain⟨v,vs,rfl,r1,_⟩:=rz';obtain⟨a,rfl,ha⟩:=Em r1;exact⟨_,rfl,rl,_,_,_,rfl,rfl,AJ.of hrl',Jm,hq H' q' cs' bs' a t lv ts0 pg' eq' g' (by have:([t]:List Tg).length=1:=rfl;lia) kn' nw' ha l8 tw bo⟩
end
open M06 M08 M10
section
variable {P:Program}{w:World}{K:W.Frag}{mg:Str->Option Value}{base:Heap}{f Ab Ad Aa Ae:Addr}{XC:Nat->Addr}{fd:FuncData}
def RS (CP CT CB:Addr)(H:Hp)(p:Addr)(q:Pl)(cs:List Cl):Prop:=Fk CP CT H p q cs/\H q.dd=some (.dK (Hu q.D cs))/\Wt CB H q cs
theorem RS.same {CP CT CB:Addr}{H H':Hp}{p:Addr}{q:Pl}{cs:List Cl}(s:As H H')(h:RS CP CT CB H p q cs):RS CP CT CB H' p q cs:=⟨h.1.same s,s.get h.2.1,h.2.2.same s⟩
theorem RS.at0 {CP CT CB:Addr}{H:Hp}{p:Addr}{q:Pl}{cs:List Cl}(h:RS CP CT CB H p q cs):Fk CP CT H p q cs:=h.1
theorem Pg.rs {CB CP CT:Addr}{H:Hp}{x:Addr}{ds:List Addr}{b:List CJ}{n:Int}{q:Pl}{cs:List Cl}{bs:List (Int×Addr)}{X:List Int}{i:Int}(h:Pg CB CP CT H x ds b n q cs bs X i):RS CP CT CB H x q cs:=⟨h.pa.t,h.pa.d,h.brd⟩
theorem LQ {CP CT CB:Addr}{H:Hp}{p ta:Addr}{q:Pl}{cs:List Cl}{e:Cl}{Q:VK}{E:XK}(rs:RS CP CT CB H p q cs)(he:e∈cs)(hta:H ta=some (.tup [.int e.z,.int e.y,.int (AR e.bk)]))(k:∀v H',As H H'->Rep NL H' (CI e.bk) v->Q v H'):Cj K CP CT CB [.ref p,.ref ta] H Q E:=
 ⟨p,q,cs,e,ta,rfl,rs.1,rs.2.1,rs.2.2,he,hta,k⟩
theorem O0 {x:List Nat}:∀{ls:List (List Nat)},x∈ls->x.length<=ls.flatten.length
 |[],h=>nomatch h
 |y::ls,h=>by
  rw[bI,ar];rcases aM.mp h with rfl|h
  ·lia
  ·have:=O0 h;lia
def Cn (cs:List Cl):Nat->Tg->List Nat->Prop
 |0,_,_=>False
 |n+1,t,l=>At cs t (.piece (toS l))\/∃(lv:Int) (c:List Tg) (ls:List (List Nat)),At cs t (.row lv c)/\ls.length=c.length/\(∀(i:Nat) u x,c[i]?=some u->ls[i]?=some x->Cn cs n u x)/\l=ls.flatten
def QT (n:Nat)(K:W.Frag)(CP CT CB:Addr):Sp:=λvs H Q _=>∃p q cs,∃(ta:Addr) (t:Tg) (l:List Nat),vs=[.ref p,.ref ta]/\RS CP CT CB H p q cs/\H ta=some (.tup [.int t.1,.int t.2.1,.int t.2.2])/\Cn cs n t l/\l.length<=1000/\∀H',As H H'->Q (.str (toS l)) H'
def Ht (K:W.Frag)(CP CT CB:Addr):Sp:=QT 11 K CP CT CB
theorem VV (T:Txt K mg Ab Ad Aa Ae XC)(F:Fun K "content_at" "content_at" C5 f fd)(Bi:BJ P w K mg base 17 Ae "block" ["self","tag"] (Cj K Ae Aa Ad))(BY:Def P w K mg base 1 "tags_in" ["block"] (Ew K))(n:Nat)(Df:Def P w K mg base (17+n) "content_at" ["pool","tag"] (QT n K Ae Aa Ad)):FnOk P w K mg base BI (17+n+1) f fd ["pool","tag"] (QT (n+1) K Ae Aa Ad):=by
 exists E6
 ·obtain⟨p,q,cs,ta,t,l,rfl,_⟩:=h;rfl
 obtain⟨p,q,cs,ta,t,l,rfl,rs,hta,cn,l1000,hq⟩:=h;refine⟨_,(!Af (@Ap _ _ (2) _ _ _ _ E6.nd rfl (by trivial) (!A4 (pv 0) T.cl_Pool Bi (hr.mono (by lia)) (!Ac (pv 1) (!Ah))) (by rfl) (by trivial)) (!Af (!AL (!Aw Bb (!Ax AE (pv 2) (!Ai) (λ_ _=>rfl)) (!AB rfl T.c_PIECE) (Av _)) (!Ak (!Ao (!Ax AE (pv 2) (!Ai) (λ_ _=>rfl)))) (!Au)) (!Ak (!Ao (!Ca cj fJ fH (NC rfl) (!BP) (!Ac (@G1 _ ["below","pool"] [none,some 0] _ _ _ _ _ _ _ _ _ _ _ rfl (!A2 (!AG BY (hr.mono (by lia)) rfl (!Ac (pv 2) (!Ah)))) (by rfl) rfl (by repeat (first|exact trivial|refine⟨rfl,?_⟩)) (by repeat (first|exact trivial|refine⟨λh=>(by first|exact⟨_,rfl⟩|cases h),?_⟩)) (λC s H fp=>⟨(@An _ _ (0) _ (show(["below","pool"]:List Str).Nodup by decide +kernel) rfl (by trivial) (by trivial)),(!AM),(!AG Df (hr.mono (by lia)) rfl (!Ac (pv 1) (!Ac (pv 0) (!Ah))))⟩) (by intro _;rfl)) (!Ah))))))),?_⟩
 try dsimp only[BM,Cx.nox,Cx.wish]
 have hn:∀{e:Cl} {b:Bk},(e.z,e.y,AR e.bk)=t->H ta=some (.tup [.int e.z,.int e.y,.int (AR e.bk)]):=λet=>by rw[hta,<-et]
 rcases cn with⟨e,he,et,eb⟩|⟨lv,c,ls,⟨e,he,et,eb⟩,lls,hls,rfl⟩
 ·refine⟨_,rfl,p,q.dp,_,rfl,rs.at0.1,rfl,_,rfl,OS (LQ rs he (hn (b:=e.bk) et) λv H1 s1 rv=>?_)⟩;rw[eb] at rv;obtain⟨va,rfl,hva⟩:=D2 rv;exact⟨_,rfl,va,_,_,_,rfl,rfl,A8.of hva,rfl,rfl,_,rfl,Ci rfl ⟨_,rfl,va,_,_,_,rfl,rfl,A8.of hva,rfl,hq H1 s1⟩⟩
 ·have okb:=(rs.at0.2.2.1 e he).2.2.2;refine⟨_,rfl,p,q.dp,_,rfl,rs.at0.1,rfl,_,rfl,OS (LQ rs he (hn (b:=e.bk) et) λv H1 s1 rv=>?_)⟩;rw[eb] at rv okb;obtain⟨va,d,ws,rfl,hva,hd,rws⟩:=IE rv;refine⟨_,rfl,va,_,_,_,rfl,rfl,A8.of hva,rfl,rfl,_,rfl,AV rfl ?_⟩;refine⟨rfl,_,rfl,_,.row lv c,rfl,rv,okb,λtl us H2 s2 ntl htl rus=>⟨tl,rfl,⟨_,AJ.of htl⟩,?_⟩⟩;have lus:us.length=c.length:=by rw[AI.len _ _ rus,ab];rfl
  have c8:c.length<=8:=okb.2.1;have s12:=s1.trans s2;refine Pb (λi _ y _=>y=.str (toS (ls.getD i []))) (λ_ _ _ _ _ h _=>h) (λ_ _ _ _ _ _ _ _ h _ _=>h) (Ck (AJ.of htl)) (by lia) (λi x H3 R hx s3 hR=>?_) λl3 H3 sys nl3 s3 hl3 lsy hsy=>?_
  ·obtain⟨tr,ht',rt⟩:=AI.get rus hx;have ht':((AK (.row lv c)).map Ej)[i]?=some tr:=ht';rw[aD] at ht';obtain⟨u,hu',rfl⟩:=aV.mp ht';have hu':c[i]?=some u:=hu';obtain⟨xa,rfl,hxa⟩:=Em rt;have ic:i<c.length:=(aj.mp hu').1;have il:i<ls.length:=by lia
   have cni:=hls i u ls[i] hu' (aa il);have ll:ls[i].length<=1000:=by
    exact aY (O0 (bQ il)) l1000
   refine⟨_,rfl,_,rfl,p,q,cs,xa,u,ls[i],rfl,rs.same (s12.trans s3),s3.get hxa,cni,ll,λH4 s4=>hR _ H4 s4 ?_⟩;rw[cB,aa il];rfl
  have esy:sys=(ls.map toS).map V.str:=by
   refine bV λi=>?_
   by_cases hi:i<ls.length
   ·have h1:i<sys.length:=by lia
    obtain⟨_,_,e⟩:=hsy i _ (aa h1);rw[aa h1,e,aD,aD,aa hi,cB,aa hi];rfl
   ·rw[aN (by lia),aN (by rw[ab,ab];lia)]
  rw[esy] at hl3;refine⟨l3,KP,ls.map toS,rfl,rfl,AJ.of hl3,?_,?_⟩
  ·have e1:((ls.map toS).map (·.length)).sum=ls.flatten.length:=by
    rw[aI,iO]
    congr 1
   have e2:KP.length=0:=rfl;rw[e1,e2,Nat.mul_zero]
   lia
  ·have ej:PySem.Txt.join KP (ls.map toS)=toS ls.flatten:=Dz (by
    rw[Lq (by rfl),aI,BV]
    congr 1
    exact List.map_id _)
   have:=hq H3 (s12.trans s3);rw[<-ej] at this;exact this
theorem TV (T:Txt K mg Ab Ad Aa Ae XC)(F:Fun K "content_at" "content_at" C5 f fd)(Bi:BJ P w K mg base 17 Ae "block" ["self","tag"] (Cj K Ae Aa Ad))(BY:Def P w K mg base 1 "tags_in" ["block"] (Ew K))(hm:mg "content_at"=some (.ref f))(hk:W.keepIn K (.ref f)=true)(hb:Binds K fd ["pool","tag"] []):∀n,FnOk P w K mg base BI (17+n) f fd ["pool","tag"] (QT n K Ae Aa Ad)
 |0=>by
  exists E6
  ·obtain⟨p,q,cs,ta,t,l,rfl,_⟩:=h;rfl
  ·obtain⟨p,q,cs,ta,t,l,rfl,_,_,cn,_⟩:=h;exact cn.elim
 |n+1=>VV T F Bi BY n ⟨f,fd,TV T F Bi BY hm hk hb n,hm,hk,hb⟩
theorem MI (T:Txt K mg Ab Ad Aa Ae XC)(F:Fun K "content_at" "content_at" C5 f fd)(Bi:BJ P w K mg base 17 Ae "block" ["self","tag"] (Cj K Ae Aa Ad))(BY:Def P w K mg base 1 "tags_in" ["block"] (Ew K))(hm:mg "content_at"=some (.ref f))(hk:W.keepIn K (.ref f)=true)(hb:Binds K fd ["pool","tag"] []):FnOk P w K mg base BI 28 f fd ["pool","tag"] (Ht K Ae Aa Ad):=
 TV T F Bi BY hm hk hb 11
end
open M06 M08 M10
section
variable {P:Program}{w:World}{K:W.Frag}{mg:Str->Option Value}{base:Heap}{f Ab Ad Aa Ae:Addr}{XC:Nat->Addr}{fd:FuncData}
def FT (K:W.Frag):Sp:=λvs H Q _=>∃(a:Addr) (ns:List Int) (k:Int),vs=[.ref a,.int k]/\0<=k/\AJ K H a (ns.map V.int)/\∀z:Int,Q (.int z) H
theorem KL (T:Txt K mg Ab Ad Aa Ae XC)(F:Fun K "_law_cell_at" "_law_cell_at" D6 f fd):FnOk P w K mg base BI 1 f fd ["_law_script","_law_k"] (FT K):=by
 exists Ku
 ·obtain⟨a,ns,k,rfl,_⟩:=h;rfl
 obtain⟨a,ns,k,rfl,hk,hS,q⟩:=h;refine⟨_,(!Af (!AL (!Aw QM (pv 1) (!Aq Az (by rfl) T.b_len AZ (!Ac (pv 0) (!Ah))) (Av _)) (!Ak (!Ao (!Ax A6 (pv 0) (pv 1) (λ_ _=>rfl)))) (!Au)) (!Ak (!Ao (!Ai)))),?_⟩;refine⟨_,rfl,_,rfl,a,_,rfl,.inl hS,_,_,rfl,rfl,_,rfl,Cs (λc=>?_) (λc=>q 0)⟩;have c':=dec_true c;rw[ab] at c';exact⟨_,rfl,_,rfl,a,_,_,_,rfl,rfl,hS,TZ hk c',q _⟩
def JZ (K:W.Frag):Sp:=λvs H Q _=>∃(c m:Int),vs=[.int c,.int m]/\0<=m/\m<=1000/\
 ∀(r:Addr) (H':Hp) (ns:List Int),As H H'->H r=none->H' r=some (.lst (ns.map V.int))->ns.length=m.toNat->(∀x∈ns,0<=x/\x<1000000)->Q (.ref r) H'
theorem Pc (T:Txt K mg Ab Ad Aa Ae XC)(F:Fun K "_law_row" "_law_row" Hy f fd):FnOk P w K mg base BI 1 f fd ["_law_cell","_law_many"] (JZ K):=by
 exists Ct
 ·obtain⟨c,m,rfl,_⟩:=h;rfl
 obtain⟨c,m,rfl,hm0,hm1,q⟩:=h;refine⟨_,(!Af (@Ap _ _ (2) _ _ _ _ Ct.nd rfl (by trivial) (!Be (!Ah)) (by rfl) (by trivial)) (!Af (@Ap _ _ (3) _ _ _ _ Ct.nd rfl (by trivial) (pv 0) (by rfl) (by trivial)) (!Af (!AL (!Aw QM (!Aq Pu (by rfl) T.b_abs Uz (!Ac (pv 0) (!Ah))) (!Ar LZ (!Ai) (!Ai)) (Av _)) (!Ak (@Ap _ _ (3) _ _ _ _ Ct.nd rfl (by trivial) (!Ar Bu (!Ar Bd (pv 0) (!Ai)) (!Ai)) (by rfl) (by trivial))) (!Au)) (!Af (!Bn aU rfl (!D3 rfl T.b_range (!Ac (pv 1) (!Ah))) (@An _ _ (4) _ Ct.nd rfl (by trivial) (by trivial)) (!Ak (!AL (!Aw QM (!Aq Pu (by rfl) T.b_abs Uz (!Ac (pv 0) (!Ah))) (!Ar LZ (!Ai) (!Ai)) (Av _)) (!Af (@Ap _ _ (3) _ _ _ _ Ct.nd rfl (by trivial) (!Ar Bd (!Ar DN (pv 3) (!Ai)) (!Ai)) (by rfl) (by trivial)) (!Ak (!AN (!Ca aT ba aZ Bp (pv 2) (!Ac (!Ar Bd (!Ar EK (!Ar Bd (!Ar Bu (!Ar Bu (!Ar DN (pv 3) (pv 3)) (!Ar DN (!Ai) (pv 3))) (pv 4)) (!Ai)) (!Ai)) (!Ar LZ (!Ai) (!Ai))) (!Ah)))))) (!Af (!AN (!Ca aT ba aZ Bp (pv 2) (!Ac (!Ar Bd (pv 3) (!Ar LZ (!Ai) (!Ai))) (!Ah)))) (!Ak (@Ap _ _ (3) _ _ _ _ Ct.nd rfl (by trivial) (!Ar EK (pv 3) (!Ar LZ (!Ai) (!Ai))) (by rfl) (by trivial)))))) (by intro _;rfl)) (!Ak (!Ao (pv 2))))))),?_⟩;refine⟨Hf,λg hg=>?_⟩;refine⟨_,rfl,?_⟩;have z1:∀(N:St->Hp->Prop),(∀z:Int,N [some (.int c),some (.int m),some (.ref g),some (.int z),none] (upd H g (.lst [])))->Uk (Uq (Wa (SK λi j=>V.bl (decide (i<j))) (Y2 (λxs H Q=>∃i,xs=[V.int i]/\Q (V.int (if i<0 then -i else i)) H) (Wm (TJ 0) OG)) (Wa (rI Yn λi j=>V.int (i^j.toNat)) (tC (V.int 10)) (tC (V.int 18))))) (Vj (Wa (SK λi j=>V.int (i+j)) (Wa (rI (λx j=>0<j) λi j=>V.int (i%j)) (TJ 0) (tC (V.int 2147483647))) (tC (V.int 1))) (BH 3)) O9 { nx:=N,rt:=Q } [some (.int c),some (.int m),some (.ref g),some (.int c),none] (upd H g (.lst [])):=λN hN=>by
  refine⟨_,rfl,_,rfl,_,_,rfl,rfl,⟨by decide,by decide,by decide⟩,_,_,rfl,rfl,_,rfl,Cs (λ_=>?_) (λ_=>?_)⟩
  ·exact⟨_,rfl,_,_,rfl,rfl,(by show(0:Int)<2147483647;decide),_,_,rfl,rfl,hN _⟩
  ·exact hN _
 refine z1 _ λz0=>?_
 refine⟨_,rfl,m,rfl,by lia,by lia,JN (lo:=0) (n:=m.toNat) (λi σ H2=>∃(ns:List Int) (z:Int) (v:Option V),σ=[some (.int c),some (.int m),some (.ref g),some (.int z),v]/\As H H2/\H2 g=some (.lst (ns.map V.int))/\ns.length=i/\∀x∈ns,0<=x/\x<1000000)
  ⟨[],_,none,rfl,Al hg _,Ag,rfl,λ_ h=>nomatch h⟩ ?_ ?_⟩
 ·rintro i σ H2 hi ⟨ns,z,v,rfl,s2,hg2,hl,hb⟩
  refine⟨_,rfl,_,rfl,_,_,rfl,rfl,⟨by decide,by decide,by decide⟩,_,_,rfl,rfl,_,rfl,Cs (λ_=>?_) (λ_=>?_)⟩
  ·refine⟨_,rfl,_,_,rfl,rfl,.inr ⟨by decide,by decide⟩,_,_,rfl,rfl,(by show(0:Int)<2147483647;decide),?_⟩;have b0:=bJ (z*48271) (show(2147483647:Int)≠0 by decide);have b1:=bS (z*48271) (show(0:Int)<2147483647 by decide);dsimp only;generalize z*48271%2147483647=y at b0 b1;refine⟨_,rfl,.inl ⟨rfl,_,AJ.of hg2⟩,_,rfl,_,rfl,_,_,rfl,rfl,.inl ⟨by lia,by lia⟩,_,rfl,_,_,rfl,rfl,.inl ⟨by decide,by decide⟩,_,_,rfl,rfl,_,rfl,_,_,rfl,rfl,_,_,rfl,rfl,(by show(0:Int)<2147483629;decide),_,_,rfl,rfl,⟨by decide,by decide⟩,_,_,rfl,rfl,⟨by decide,by decide,by decide⟩,_,_,rfl,rfl,(by show(0:Int)<10^(6:Int).toNat;decide),?_⟩;refine⟨g,_,_,rfl,rfl,hg2,A7 (by rw[ab];lia),?_⟩;refine⟨ns++[_],_,_,rfl,A5 s2 hg _,by rw[Ag,aJ];rfl,by rw[ar,hl];rfl,λx hx=>?_⟩;rcases ai.mp hx with hx|hx
   ·exact hb x hx
   ·rw[ag.mp hx];exact⟨bJ _ (by decide),bS _ (by decide)⟩
  ·refine⟨_,rfl,.inl ⟨rfl,_,AJ.of hg2⟩,_,rfl,_,_,rfl,rfl,⟨by decide,by decide,by decide⟩,_,_,rfl,rfl,(by show(0:Int)<10^(6:Int).toNat;decide),g,_,_,rfl,rfl,hg2,A7 (by rw[ab];lia),?_⟩;refine⟨_,rfl,_,_,rfl,rfl,⟨by decide,by decide,by decide⟩,_,_,rfl,rfl,⟨by decide,by decide⟩,?_⟩;refine⟨ns++[_],_,_,rfl,A5 s2 hg _,by rw[Ag,aJ];rfl,by rw[ar,hl];rfl,λx hx=>?_⟩;rcases ai.mp hx with hx|hx
   ·exact hb x hx
   ·rw[ag.mp hx];exact⟨bJ _ (by decide),bS _ (by decide)⟩
 ·rintro σ H2 ⟨ns,z,v,rfl,s2,hg2,hl,hb⟩
  exact⟨_,rfl,q g _ ns s2 hg hg2 hl hb⟩
theorem C2.app {x y:Str}(hx:C2 x)(hy:C2 y):C2 (x++y):=λc hc=>by
 rw[DW] at hc;rcases ai.mp hc with h|h
 ·exact hx c h
 ·exact hy c h
theorem len_app (x y:Str):(x++y).length=x.length+y.length:=by rw[<-AO,DW,ar,AO,AO]
theorem C2.one {c:Nat}(h:c∈A3 SG):C2 ⟨#[c]⟩:=λu hu=>by
 have:u=c:=by simpa [A3] using hu
 rw[this];exact h
theorem W1 {z:Str}{i:Int}(h0:0<=i)(h1:i<(A3 z).length):∃c,He z.cps.toList i=some c/\c∈A3 z:=by
 obtain⟨k,rfl⟩:=fo h0;have hk:k<z.cps.toList.length:=by have:((k:Nat):Int)<(A3 z).length:=h1;exact_mod_cast this
 refine⟨z.cps.toList[k],?_,bQ hk⟩;have hk2:k<z.cps.size:=by simpa using hk
 unfold He SC;rw[aC h0];simp[hk2]
theorem YS:(A3 SG).length=94:=by decide +kernel
theorem WE:PySem.Str.ofString " !\"#$&'()*+,-./0123456789:;<=>?@ABCDEFGHIJKLMNOPQRSTUVWXYZ[\\]^_`abcdefghijklmnopqrstuvwxyz{|}~"=SG:=by decide +kernel
def Fu (K:W.Frag):Sp:=λvs H Q _=>∃(rl:Addr) (row:List Int),vs=[.ref rl]/\H rl=some (.lst (row.map V.int))/\row.length=4/\(∀x∈row,0<=x/\x<1000000)/\∀z H',As H H'->z.length<=100->C2 z->Q (.str z) H'
theorem N4 (T:Txt K mg Ab Ad Aa Ae XC)(F:Fun K "_law_text" "_law_text" Gc f fd):FnOk P w K mg base BI 1 f fd ["_law_row_here"] (Fu K):=by
 exists Bh
 ·obtain⟨rl,row,rfl,_⟩:=h;rfl
 obtain⟨rl,row,rfl,hrl,lr,br,q⟩:=h;have hu:=BL hr;have hu9:=E4 hr;refine⟨_,(!Af (@Ap _ _ (1) _ _ _ _ Bh.nd rfl (by trivial) (!BP) (by rfl) (by trivial)) (!Af (@Ap _ _ (2) _ _ _ _ Bh.nd rfl (by trivial) (!Be (!Ah)) (by rfl) (by trivial)) (!Af (!Bn aU rfl (!A2 (!BN Fv (pv 0) (!BG (!Ai)) (!BG (!Ai)))) (@An _ _ (3) _ Bh.nd rfl (by trivial) (by trivial)) (!Af (@Ap _ _ (4) _ _ _ _ Bh.nd rfl (by trivial) (!BP) (by rfl) (by trivial)) (!Af (!Bn aU rfl (!D3 rfl T.b_range (!Ac (!Ar Bu (!Ai) (!Ar Bd (pv 3) (!Ai))) (!Ah))) (@An _ _ (5) _ Bh.nd rfl (by trivial) (by trivial)) (!Af (@Ap _ _ (6) _ _ _ _ Bh.nd rfl (by trivial) (!Ar Bu (!Ar DN (!Ar DN (!Ar Bd (!Ar EK (pv 3) (!Ai)) (!Ai)) (pv 5)) (pv 5)) (pv 5)) (by rfl) (by trivial)) (!Ak (@Ap _ _ (4) _ _ _ _ Bh.nd rfl (by trivial) (!Ar Bq (pv 4) (!Ax Le (pv 1) (!Ar Bd (!Ar Bu (!Ar EK (pv 3) (!Ai)) (pv 6)) (!Ai)) (λ_ _=>rfl))) (by rfl) (by trivial)))) (by intro _;rfl)) (!Ak (!AN (!Ca aT ba aZ Bp (pv 2) (!Ac (pv 4) (!Ah))))))) (by intro _;rfl)) (!Af (@Ap _ _ (7) _ _ _ _ Bh.nd rfl (by trivial) (!BP) (by rfl) (by trivial)) (!Af (!Bn aU rfl (!D3 rfl T.b_range (!Ac (!Ar Bd (!Ax A6 (pv 0) (!Ai) (λ_ _=>rfl)) (!Ai)) (!Ah))) (@An _ _ (5) _ Bh.nd rfl (by trivial) (by trivial)) (!Ak (@Ap _ _ (7) _ _ _ _ Bh.nd rfl (by trivial) (!Ar Bq (pv 7) (!Ax A6 (pv 2) (!Ar Bd (!Ar EK (!Ar EK (!Ax A6 (pv 0) (!Ai) (λ_ _=>rfl)) (!Ai)) (!Ax A6 (!Be (!Ac (!Ai) (!Ac (!Ai) (!Ac (!Ai) (!Ac (!Ai) (!Ac (!Ai) (!Ac (!Ai) (!Ac (!Ai) (!Ah))))))))) (pv 5) (λ_ _=>rfl))) (!Ai)) (λ_ _=>rfl))) (by rfl) (by trivial))) (by intro _;rfl)) (!Ak (!Ao (pv 7)))))))),?_⟩
 try dsimp only[BM,Cx.nox,Cx.wish]
 rw[WE];have gx:∀k:Int,0<=k->k<4->He (row.map V.int) k=some (.int (row.getD k.toNat 0)):=λk h0 h1=>TZ h0 (by lia)
 refine⟨Hf,λg hg=>?_⟩;have s1:=Al hg (.lst []);refine⟨_,rfl,1,rfl,4,rfl,rl,_,rfl,AJ.of (s1.get hrl),λcl hcl=>?_⟩;have ecl:Dn (row.map V.int) (some 1) (some 4)=((row.drop 1).take 3).map V.int:=by rw[Jl (by decide) (by decide),<-gP,<-fb];rfl
 rw[ecl];have lms:((row.drop 1).take 3).length=3:=by rw[bu,bP];lia
 have bms:∀x∈(row.drop 1).take 3,0<=x/\x<1000000:=λx hx=>br x (cU (cg hx))
 generalize (row.drop 1).take 3=ms at lms bms;have s2:=s1.trans (Al hcl (.lst (ms.map V.int)));have ngc:g≠cl:=λz=>by rw[<-z,Ag] at hcl;cases hcl
 refine⟨cl,rfl,⟨_,AJ.of Ag⟩,?_⟩;refine BD (K:=K) (a:=cl) (xs:=ms.map V.int) (λi σ H'=>∃(zs:List Str) (v3 v4 v5 v6:Option V),σ=[some (.ref rl),some (.str SG),some (.ref g),v3,v4,v5,v6,none]/\As H H'/\H' g=some (.lst (zs.map V.str))/\H' cl=some (.lst (ms.map V.int))/\zs.length=i/\∀z∈zs,z.length<=9/\C2 z) ⟨[],none,none,none,none,rfl,s2,(Al hcl _).get Ag,Ag,rfl,λ_ h=>nomatch h⟩ ?_ ?_ ?_
 ·rintro i σ H' _ ⟨_,_,_,_,_,_,_,_,h,_⟩
  exact AJ.of h
 ·rintro i x σ H' hx ⟨zs,v3,v4,v5,v6,rfl,s',hg',hcl',lzs,hzs⟩
  obtain⟨n,rfl,hn⟩:=ints_get hx;have hi:i<ms.length:=(aj.mp hn).1;obtain⟨n0,n1⟩:=bms n (az hn);dsimp only[BH];refine Di λEB eEB=>?_
  refine⟨_,rfl,_,_,rfl,rfl,(by show(0:Int)<9;decide),_,_,rfl,rfl,_,rfl,by lia,by lia,?_⟩;refine JN (lo:=0) (λj σ H2=>∃(z:Str) (v5 v6:Option V),σ=[some (.ref rl),some (.str SG),some (.ref g),some (.int n),some (.str z),v5,v6,none]/\H2=H'/\z.length=j/\C2 z) ⟨_,_,_,rfl,rfl,rfl,(λc hc=>by cases hc)⟩ ?_ ?_
  ·rintro j σ H2 hj ⟨z,v5,v6,rfl,rfl,lz,hz⟩
   have j9:(j:Int)<9:=by lia
   dsimp only[BH];refine Di λEC eEC=>?_
   refine⟨_,rfl,_,_,rfl,rfl,⟨by decide,by decide⟩,_,_,rfl,rfl,(by show(0:Int)<13;decide),_,rfl,_,_,rfl,rfl,.inr ⟨by lia,by lia⟩,_,rfl,_,_,rfl,rfl,.inr ⟨by lia,by lia⟩,_,rfl,_,_,rfl,rfl,?_⟩;obtain⟨c,hc,mc⟩:=W1 (z:=SG) (i:=(n/9+(n/846%13*(0+(j:Int))*(0+(j:Int))+(0+(j:Int))))%94) (bJ _ (by decide)) (by rw[YS];exact bS _ (by decide));refine⟨_,rfl,_,rfl,_,rfl,_,_,rfl,rfl,⟨by decide,by decide⟩,_,rfl,_,_,rfl,rfl,_,_,rfl,rfl,(by show(0:Int)<94;decide),_,_,c,rfl,rfl,small (by show SG.length<=1000000;decide +kernel),hc,_,_,rfl,rfl,small (by show z.length+1<=1000000;lia),?_⟩;subst eEC;exact⟨z++⟨#[c]⟩,_,_,rfl,rfl,by rw[len_app,lz];rfl,hz.app (.one mc)⟩
  ·rintro σ H2 ⟨z,v5,v6,rfl,rfl,lz,hz⟩
   refine⟨_,rfl,.inl ⟨rfl,_,AJ.of hg'⟩,_,rfl,g,_,_,rfl,rfl,hg',A7 (by rw[ab];lia),?_⟩;subst eEB;refine⟨zs++[z],_,_,_,_,rfl,A5 s' hg _,by rw[Ag,aJ];rfl,by rw[Aj (Ne.symm ngc)];exact hcl',by rw[ar,lzs];rfl,λu hu=>?_⟩;rcases ai.mp hu with h|h
   ·exact hzs u h
   ·rw[ag.mp h];exact⟨by lia,hz⟩
 ·rintro σ H' ⟨zs,v3,v4,v5,v6,rfl,s',hg',hcl',lzs,hzs⟩
  rw[ab,lms] at lzs;have r0:=br (row.getD (0:Int).toNat 0) (by rw[cB,aa (show(0:Int).toNat<row.length by rw[lr];decide)];exact bQ _);have a0:=gx 0 (by decide) (by decide);generalize row.getD (0:Int).toNat 0=x0 at r0 a0;refine⟨_,rfl,rl,_,_,_,rfl,rfl,AJ.of (s'.get hrl),a0,_,_,rfl,rfl,(by show(0:Int)<8;decide),_,rfl,by lia,by lia,?_⟩;refine JN (lo:=0) (λj σ H2=>∃(z:Str) (v5:Option V),σ=[some (.ref rl),some (.str SG),some (.ref g),v3,v4,v5,v6,some (.str z)]/\As H H2/\H2 g=some (.lst (zs.map V.str))/\z.length<=9*j/\C2 z) ⟨_,_,rfl,s',hg',aR _,(λc hc=>by cases hc)⟩ ?_ ?_
  ·rintro j σ H2 hj ⟨z,v5,rfl,s2',hg2,lz,hz⟩
   dsimp only[BH];refine Di λEC eEC=>?_
   have j7:j<7:=by lia
   obtain⟨w7,hw7,w71,w72⟩:∃w:Int,He ([1,3,9,27,81,243,729].map V.int) (0+(j:Int))=some (.int w)/\1<=w/\w<=729:=by
    have hh:∀j<7,1<=([1,3,9,27,81,243,729]:List Int).getD j 0/\([1,3,9,27,81,243,729]:List Int).getD j 0<=729:=by decide
    have h1:([1,3,9,27,81,243,729]:List Int)[j]?=some (([1,3,9,27,81,243,729]:List Int).getD j 0):=by
     rw[cB,aa (show j<([1,3,9,27,81,243,729]:List Int).length from j7)];rfl
    refine⟨_,?_,hh j j7⟩;rw[Int.zero_add];exact C4 (by rw[aD,h1];rfl)
   refine⟨_,rfl,_,rfl,_,rfl,rl,_,_,_,rfl,rfl,AJ.of (s2'.get hrl),a0,_,_,rfl,rfl,⟨by decide,by decide⟩,Y8,λl1 hl1=>?_⟩;have s3':=Al hl1 (.lst ([1,3,9,27,81,243,729].map V.int));obtain⟨u,hu',hat⟩:∃u∈zs,He (zs.map V.str) (x0/8/w7%3)=some (.str u):=by
    have h1:=bS (x0/8/w7) (show(0:Int)<3 by decide);have h2:=bJ (x0/8/w7) (show(3:Int)≠0 by decide);have hk:(x0/8/w7%3).toNat<zs.length:=by lia
    refine⟨zs[(x0/8/w7%3).toNat],bQ hk,?_⟩;have:=C4 (show(zs.map V.str)[(x0/8/w7%3).toNat]?=some (.str zs[(x0/8/w7%3).toNat]) by rw[aD,aa hk];rfl);rw[show(((x0/8/w7%3).toNat:Nat):Int)=x0/8/w7%3 by lia] at this;exact this
   refine⟨_,rfl,l1,_,_,_,rfl,rfl,AJ.of Ag,hw7,_,_,rfl,rfl,⟨by lia,by lia⟩,_,_,rfl,rfl,(by show(0:Int)<3;decide),g,_,_,_,rfl,rfl,AJ.of (s3'.get hg2),hat,_,_,rfl,rfl,small (by have:=(hzs u hu').1;lia),?_⟩;subst eEC;exact⟨z++u,_,rfl,s2'.trans s3',s3'.get hg2,by rw[len_app];have:=(hzs u hu').1;lia,hz.app (hzs u hu').2⟩
  ·rintro σ H2 ⟨z,v5,rfl,s2',hg2,lz,hz⟩
   exact⟨_,rfl,q z H2 s2' (by lia) hz⟩
end
open M06 M08 M10
section
variable {P:Program}{w:World}{K:W.Frag}{mg:Str->Option Value}{base:Heap}{f Ab Ad Aa Ae:Addr}{XC:Nat->Addr}{fd:FuncData}
def ES (K:W.Frag):Sp:=λvs H Q _=>vs=[]/\Q (.str SG) H
theorem Mz (T:Txt K mg Ab Ad Aa Ae XC)(F:Fun K "_law_signs" "_law_signs" FQ f fd):FnOk P w K mg base BI 1 f fd [] (ES K):=by
 exists MF
 ·obtain⟨rfl,_⟩:=h;rfl
 obtain⟨rfl,q⟩:=h;refine⟨_,(!Ak (!Ao (!BP))),?_⟩;exact q
def JY (K:W.Frag):Sp:=λvs H Q _=>∃v z,vs=[v]/\Rep NL H (CI (.piece z)) v/\Dl (.piece z)/\∀H',As H H'->Q (.int (AR (.piece z))) H'
theorem OD (T:Txt K mg Ab Ad Aa Ae XC)(F:Fun K "_law_sum" "_law_sum" HB f fd)(BO:Def P w K mg base 1 "_law_signs" [] (ES K)):FnOk P w K mg base BI 2 f fd ["_law_block"] (JY K):=by
 exists Bt
 ·obtain⟨v,b,rfl,_⟩:=h;rfl
 obtain⟨v,z,rfl,hv,ok,q⟩:=h;refine⟨_,(!Af (@Ap _ _ (1) _ _ _ _ Bt.nd rfl (by trivial) (!Be (!Ah)) (by rfl) (by trivial)) (!Af (!AL (!Aw Bb (!Ax AE (pv 0) (!Ai) (λ_ _=>rfl)) (!Ai) (Av _)) (!Ak (@IF _ ["_law_sign"] (1) _ _ _ _ _ _ _ _ _ _ _ _ _ Bt.nd rfl (by trivial) rfl (!GC (!Ax AE (pv 0) (!Ai) (λ_ _=>rfl))) (by decide +kernel) (λC s H fp=>⟨(@An _ _ (0) _ (show(["_law_sign"]:List Str).Nodup by decide +kernel) rfl (by trivial) (by trivial)),(!AM),(@Ti _ (K) _ _ _ _ _ _ _ _ _ _ _ rfl cj df de (GU rfl) (!NS BO) (!Ac (pv 0) (!Ah)) (by rfl) (by rfl) (by rfl) (by rfl) (by rfl))⟩) (by intro _;rfl) (by rfl) (by trivial))) (!Ak (!AL (!Aw Bb (!Ax AE (pv 0) (!Ai) (λ_ _=>rfl)) (!Ai) (Av _)) (!Ak (@Ap _ _ (1) _ _ _ _ Bt.nd rfl (by trivial) (!Ar DY (!Be (!Ac (!Ax AE (pv 0) (!Ai) (λ_ _=>rfl)) (!Ah))) (@Bl _ ["_law_tag"] _ _ _ _ _ _ _ _ _ _ rfl (!Dr (!Ax AE (pv 0) (!Ai) (λ_ _=>rfl))) (by decide +kernel) (λC s H fp=>⟨(@An _ _ (0) _ (show(["_law_tag"]:List Str).Nodup by decide +kernel) rfl (by trivial) (by trivial)),(!AM),(!Ax (II (K:=K) (by rfl)) (pv 0) (!Ai) (λ_ _=>rfl))⟩) (by intro _;rfl))) (by rfl) (by trivial))) (!Ak (!Bn aU rfl (!Dr (!Ax AE (pv 0) (!Ai) (λ_ _=>rfl))) (!FD rfl (!AA (@An _ _ (2) _ Bt.nd rfl (by trivial) (by trivial)) (!AA (@An _ _ (3) _ Bt.nd rfl (by trivial) (by trivial)) (!AA (@An _ _ (4) _ Bt.nd rfl (by trivial) (by trivial)) (!BF))))) (!Ak (@Ap _ _ (1) _ _ _ _ Bt.nd rfl (by trivial) (!Ar DY (!Ar DY (pv 1) (@Bl _ ["_law_sign"] _ _ _ _ _ _ _ _ _ _ rfl (!GC (pv 2)) (by decide +kernel) (λC s H fp=>⟨(@An _ _ (0) _ (show(["_law_sign"]:List Str).Nodup by decide +kernel) rfl (by trivial) (by trivial)),(!AM),(@Ti _ (K) _ _ _ _ _ _ _ _ _ _ _ rfl cj df de (GU rfl) (!NS BO) (!Ac (pv 0) (!Ah)) (by rfl) (by rfl) (by rfl) (by rfl) (by rfl))⟩) (by intro _;rfl))) (!Be (!Ac (pv 3) (!Ac (!Ax AE (pv 4) (!Ai) (λ_ _=>rfl)) (!Ah))))) (by rfl) (by trivial))) (by intro _;rfl)))))) (!Af (@Ap _ _ (5) _ _ _ _ Bt.nd rfl (by trivial) (!Ar Bu (!Ai) (!Ax AE (pv 0) (!Ai) (λ_ _=>rfl))) (by rfl) (by trivial)) (!Af (!Bn aU rfl (!A2 (pv 1)) (@An _ _ (6) _ Bt.nd rfl (by trivial) (by trivial)) (!Ak (@Ap _ _ (5) _ _ _ _ Bt.nd rfl (by trivial) (!Ar Bd (!Ar Bu (!Ar Bu (!Ar DN (!Ai) (pv 5)) (pv 6)) (!Ai)) (!Ai)) (by rfl) (by trivial))) (by intro _;rfl)) (!Ak (!Ao (pv 5))))))),?_⟩
 try dsimp only[BM,Cx.nox,Cx.wish]
 refine⟨Hf,λt0 ht0=>?_⟩;have s0:=Al ht0 (.lst []);have hv0:=Rep.same s0 _ _ hv;generalize upd H t0 (.lst [])=H0 at s0 hv0;dsimp only;obtain⟨a,rfl,e⟩:=D2 hv0;have h':(decide ((1:Int)<=(z.length:Int))&&decide ((z.length:Int)<=8)&&DR SG z)=true:=ok;simp only[Bool.and_eq_true,decide_eq_true_eq] at h';have zs:∀c∈A3 z,c∈A3 SG:=λc hc=>by simpa using bZ.mp h'.2 c hc
 refine⟨_,rfl,a,_,_,_,rfl,rfl,A8.of e,rfl,rfl,_,rfl,Ci rfl ?_⟩;refine⟨_,rfl,a,_,_,_,rfl,rfl,A8.of e,rfl,z,rfl,?_⟩;refine comp_map (λv=>match v with | .str y=>.int (PySem.Txt.find SG y)|_=>.non) IX (by rw[ab];exact aY (dB (AO z)) (by lia)) (λx H' R hx s' hR=>?_) λl H7 n7 s7 h7=>?_
 ·obtain⟨u,hu,rfl⟩:=ae.mp hx;exact⟨rfl,rfl,_,rfl,_,_,rfl,rfl,(HZ (zs u hu)).1,hR H' (As.refl _)⟩
 have h7:H7 l=some (.lst (((A3 z).map idx).map V.int)):=h7.trans (congrArg (λx=>some (HO.lst x)) (idx_map _));have ef:(told (.piece z)).foldl (λt n=>(31*t+n+1)%997) (1+kindB (.piece z))=AR (.piece z):=rfl;have h7:H7 l=some (.lst ((told (.piece z)).map V.int)):=h7;generalize told (.piece z)=tl at ef h7;refine⟨_,rfl,a,_,_,_,rfl,rfl,A8.of (s7.get e),rfl,_,_,rfl,rfl,?_⟩;refine⟨_,rfl,l,rfl,⟨_,AJ.of h7⟩,BD (K:=K) (a:=l) (xs:=tl.map V.int) (λi σ H2=>∃v6,σ=[some (.ref a),some (.ref l),none,none,none,some (.int ((tl.take i).foldl (λt n=>(31*t+n+1)%997) (1+kindB (.piece z)))),v6]/\As H7 H2) ⟨none,rfl,As.refl _⟩ (by rintro i σ H2 _ ⟨_,_,s2⟩;exact AJ.of (s2.get h7)) ?_ ?_⟩
 ·rintro i y σ H2 hi ⟨v6,rfl,s2⟩
  obtain⟨n,rfl,hn⟩:=ints_get hi;refine⟨_,rfl,_,_,rfl,rfl,.inl ⟨by decide,by decide⟩,_,rfl,_,_,rfl,rfl,_,_,rfl,rfl,_,_,rfl,rfl,(show(0:Int)<997 by decide),?_⟩;refine⟨some (.int n),?_,s2⟩;rw[JP hn];rfl
 ·rintro σ H2 ⟨v6,rfl,s2⟩
  rw[ab,cM,ef];exact⟨_,rfl,q H2 (s0.trans (s7.trans s2))⟩
def Kq (K:W.Frag):Sp:=λvs H Q _=>∃z:Str,vs=[.str z]/\z.length<=1000/\C2 z/\∀(r:Addr) (H':Hp),As H H'->H r=none->H' r=some (.lst (CH (M08.cut full [] (A3 z))))->Q (.ref r) H'
theorem Oo (T:Txt K mg Ab Ad Aa Ae XC)(F:Fun K "_law_cut" "_law_cut" Hz f fd)(BO:Def P w K mg base 1 "_law_signs" [] (ES K)):FnOk P w K mg base BI 2 f fd ["_law_text_here"] (Kq K):=by
 exists Cq
 ·obtain⟨z,rfl,_⟩:=h;rfl
 obtain⟨z,rfl,lz,zs,q⟩:=h;have hu:=BL hr;have hu9:=E4 hr;refine⟨_,(!Af (@Ap _ _ (1) _ _ _ _ Cq.nd rfl (by trivial) (!Be (!Ah)) (by rfl) (by trivial)) (!Af (@Ap _ _ (2) _ _ _ _ Cq.nd rfl (by trivial) (!BP) (by rfl) (by trivial)) (!Af (!Bn aU rfl (!GC (pv 0)) (@An _ _ (3) _ Cq.nd rfl (by trivial) (by trivial)) (!Af (@Ap _ _ (2) _ _ _ _ Cq.nd rfl (by trivial) (!Ar Bq (pv 2) (pv 3)) (by rfl) (by trivial)) (!Ak (!AL (!Aw FX (!Aq Bs (by rfl) T.b_len AZ (!Ac (pv 2) (!Ah))) (!Ai) (Av _)) (!Af (@Ap _ _ (4) _ _ _ _ Cq.nd rfl (by trivial) (!Ca cj df de (GU rfl) (!NS BO) (!Ac (!Ax Le (pv 2) (!Ar Gu (!Aq Bs (by rfl) T.b_len AZ (!Ac (pv 2) (!Ah))) (!Ai)) (λ_ _=>rfl)) (!Ah))) (by rfl) (by trivial)) (!Ak (!AL (@PW.pt _ _ _ (!Fg (!Aw Bb (!Ar Bd (!Ar Bu (!Ca cj df de (GU rfl) (!NS BO) (!Ac (pv 3) (!Ah))) (!Ar DN (!Ai) (pv 4))) (!Ai)) (!Ai) (Av _)) (!DH (!Aw Bb (!Aq Bs (by rfl) T.b_len AZ (!Ac (pv 2) (!Ah))) (!Ai) (Av _))))) (!Af (!AN (!Ca aT ba aZ Bp (pv 1) (!Ac (pv 2) (!Ah)))) (!Ak (@Ap _ _ (2) _ _ _ _ Cq.nd rfl (by trivial) (!BP) (by rfl) (by trivial)))) (!Au)))) (!Au)))) (by intro _;rfl)) (!Af (!AL (!Aw MN (pv 2) (!BP) (Av _)) (!Ak (!AN (!Ca aT ba aZ Bp (pv 1) (!Ac (pv 2) (!Ah))))) (!Au)) (!Ak (!Ao (pv 1))))))),?_⟩
 try dsimp only[BM,Cx.nox,Cx.wish]
 have zl:=AO z;refine⟨Hf,λg hg=>?_⟩;refine⟨_,rfl,z,rfl,Rr (λi σ H2=>∃(gs:List (List Nat)) (p:List Nat) (v v4:Option V),σ=[some (.str z),some (.ref g),some (.str (toS p)),v,v4]/\As H H2/\H2 g=some (.lst (CH gs))/\cut full [] (A3 z)=gs++cut full p ((A3 z).drop i)/\gs.length<=i/\p.length<=i/\∀c∈p,c∈A3 SG)
  ⟨[],[],none,none,rfl,Al hg _,Ag,by simp,aR _,aR _,λ_ h=>nomatch h⟩ ?_ ?_⟩
 ·rintro i c σ H2 hi ⟨gs,p,v,v4,rfl,s2,hg2,hcut,hle,hpl,hp⟩
  have hi':(A3 z)[i]?=some c:=by simpa using hi
  have hil:i<(A3 z).length:=(aj.mp hi').1;have mc:=zs c (az hi');have hp':∀c'∈p++[c],c'∈A3 SG:=λc' hc=>by
   rcases ai.mp hc with hc|hc
   ·exact hp c' hc
   ·rw[ag.mp hc];exact mc
  have pl:=DV p;refine⟨_,rfl,_,rfl,_,_,rfl,rfl,small (by rw[pl];show p.length+1<=_;lia),?_⟩;rw[QY];have lp:(p++[c]).length=p.length+1:=by simp
  have lp':(toS (p++[c])).length=p.length+1:=by rw[DV,lp]
  obtain⟨p1,p2⟩:=OW hi' hcut;refine⟨_,rfl,_,rfl,small (by rw[lp'];lia),_,_,rfl,rfl,_,rfl,Cs (λd1=>?_) (λd1=>?_)⟩
  ·have d1':2<=p.length+1:=by
    have:=bf d1;rw[lp'] at this
    lia
   have hat:He (toS (p++[c])).cps.toList (((toS (p++[c])).length:Int)-2)=some ((p++[c]).getD (p.length-1) 0):=by
    have:=Xj (l:=p++[c]) (i:=((p.length:Int)+1)-2) (by lia) (by rw[lp];lia);rw[show(((p.length:Int)+1)-2).toNat=p.length-1 by lia] at this;rw[lp',show(((p.length+1:Nat):Int)-2)=((p.length:Int)+1)-2 by lia];exact this
   have m2:=hp' _ (getD_mem (l:=p++[c]) (k:=p.length-1) (by lia));refine⟨rfl,rfl,_,rfl,_,rfl,_,rfl,small (by rw[lp'];lia),_,_,rfl,rfl,_,_,_,rfl,rfl,small (by rw[lp'];lia),hat,_,_,rfl,rfl,num_nonneg _ m2,?_⟩;dsimp only[BH,Uk];refine OE (decide (V.int ((num c+7*num ((p++[c]).getD (p.length-1) 0))%5)=V.int 0)) (decide (V.int ((toS (p++[c])).length:Int)=V.int 8)) (λR q=>⟨rfl,rfl,_,rfl,_,_,rfl,rfl,num_nonneg _ mc,_,rfl,_,_,rfl,rfl,.inl ⟨by decide,by decide⟩,_,_,rfl,rfl,_,_,rfl,rfl,(by show(0:Int)<5;decide),rfl,_,rfl,q⟩) (λ_ R q=>⟨_,rfl,_,rfl,small (by rw[lp'];lia),rfl,_,rfl,q⟩) ?_;have lastc:(p++[c]).getD ((p++[c]).length-1) 0=c:=by
    rw[lp,cB,bK (by lia)];simp
   have ef:full (p++[c])=(decide (V.int ((num c+7*num ((p++[c]).getD (p.length-1) 0))%5)=V.int 0)||decide (V.int ((toS (p++[c])).length:Int)=V.int 8)):=by
    unfold full;rw[lastc,lp',lp,show p.length+1-2=p.length-1 by lia,aH d1',Bool.true_and,Bool.or_comm]
    congr 1
    ·rw[bT,aG,aG,V.int.injEq]
    ·rw[bT,aG,aG,V.int.injEq]
     lia
   rw[<-ef];refine Cs (λd=>?_) (λd=>?_)
   ·refine⟨_,rfl,.inl ⟨rfl,_,AJ.of hg2⟩,_,rfl,g,_,_,rfl,rfl,hg2,A7 (by rw[BC];lia),?_⟩;refine⟨gs++[p++[c]],[],_,_,rfl,A5 s2 hg _,?_,p1 d,?_,aR _,λ_ h=>nomatch h⟩
    ·rw[Ag,Jb]
    ·rw[ar];show gs.length+1<=_;lia
   ·exact⟨gs,p++[c],_,_,rfl,s2,hg2,p2 d,by lia,by lia,hp'⟩
  ·have d:¬full (p++[c])=true:=by
    have:¬2<=p.length+1:=λh=>d1 (aH (by rw[lp'];lia))
    unfold full;rw[lp,aS this];simp
   exact⟨gs,p++[c],_,_,rfl,s2,hg2,p2 d,by lia,by lia,hp'⟩
 ·rintro σ H2 ⟨gs,p,v,v4,rfl,s2,hg2,hcut,hle,hpl,hp⟩
  rw[show z.cps.size=(A3 z).length by simp,fk] at hcut;have hle':gs.length<=(A3 z).length:=by simpa using hle
  refine⟨_,rfl,rfl,_,rfl,?_⟩;refine Cs (λc=>?_) (λc=>?_)
  ·have c':¬p=[]:=by
    rintro rfl
    exact absurd c (by decide)
   refine⟨_,rfl,.inl ⟨rfl,_,AJ.of hg2⟩,_,rfl,g,_,_,rfl,rfl,hg2,A7 (by rw[BC];lia),?_⟩;refine⟨_,rfl,q g _ (A5 s2 hg _) hg ?_⟩;rw[Ag,hcut,cut,ay c',Jb]
  ·have c':p=[]:=by
    have:V.str (toS p)=V.str (PySem.Str.ofString ""):=bO λh=>c (by rw[aS h];rfl)
    have e:=congrArg A3 (V.str.inj this);rw[BV] at e;exact e
   refine⟨_,rfl,q g _ s2 hg ?_⟩;rw[hg2,hcut,cut,aC c',bY]
end
open M06 M08 M10
section
variable {P:Program}{w:World}{K:W.Frag}{mg:Str->Option Value}{base:Heap}{f Ab Ad Aa Ae:Addr}{XC:Nat->Addr}{fd:FuncData}
def K8 (n:Int):Str:=PySem.Str.ofString (toString n)
theorem QL {n:Int}(h:0<=n):∀c∈A3 (K8 n),48<=c/\c<=57:=by
 intro c hc;obtain⟨m,rfl⟩:=fo h;rw[show A3 (K8 (m:Int))=(Nat.toDigits 10 m).map Char.toNat from W.KIN.signs_num m] at hc;obtain⟨ch,hch,e⟩:=ae.mp hc;rw[<-e];exact PyProof.Rows.digit_range (Nat.isDigit_of_mem_toDigits (by decide) (by decide) hch)
theorem Ja {n:Int}(h:0<=n)(h1:n<=999999999):(K8 n).length<=9:=PyProof.Rows.toString_length_le h (by decide) (show n<10^9 by lia)
theorem WD {n:Int}(h:0<=n):A3 (K8 n)≠[]:=by
 obtain⟨m,rfl⟩:=fo h;rw[show A3 (K8 (m:Int))=(Nat.toDigits 10 m).map Char.toNat from W.KIN.signs_num m];intro e;have h:=PySem.toDigits_len_ge 10 m;rw[iN.mp e] at h;exact absurd h (by decide)
theorem QW {n m:Int}(h:0<=n)(h1:n<=999999999)(g:0<=m)(g1:m<=999999999)(e:A3 (K8 n)=A3 (K8 m)):n=m:=by
 have a:PySem.intText? (K8 n)=some n:=W.KIN.num_reads h (by lia);have b:PySem.intText? (K8 m)=some m:=W.KIN.num_reads g (by lia);rw[Dz e,b] at a;exact(aA a).symm
theorem Qo {c:Nat}:∀{a b r s:List Nat},c∉a->c∉b->a++c::r=b++c::s->a=b/\r=s
 |[],[],r,s,_,_,h=>by injection h with _ h;exact⟨rfl,h⟩
 |[],y::b,r,s,_,nb,h=>by
  injection h with h _
  exact absurd (by rw[h];exact av) nb
 |x::a,[],r,s,na,_,h=>by
  injection h with h _
  exact absurd (by rw[h];exact av) na
 |x::a,y::b,r,s,na,nb,h=>by
  injection h with h1 h2
  obtain⟨e,e2⟩:=Qo (λz=>na (ao _ z)) (λz=>nb (ao _ z)) h2;exact⟨by rw[h1,e],e2⟩
def ET (f:List Nat):List Nat:=A3 (K8 (f.length:Int))++58::f
def RT (lv:Int)(ls:List (List Nat)):List Nat:=A3 (K8 lv)++40::((ls.map ET).flatten++[41])
theorem N7 {n:Int}(h:0<=n){c:Nat}(hc:¬(48<=c/\c<=57)):c∉A3 (K8 n):=λz=>hc (QL h c z)
theorem Jh {n:Int}(h:0<=n){r s:List Nat}{c:Nat}(e:A3 (K8 n)++r=c::s):48<=c/\c<=57:=by
 cases hx:A3 (K8 n) with
 |nil=>exact absurd hx (WD h)
 |cons x l=>
  rw[hx] at e;injection e with e _
  rw[<-e];exact QL h x (by rw[hx];exact av)
theorem OM:∀{ls ms:List (List Nat)},(∀f∈ls,f.length<=999999999)->(∀f∈ms,f.length<=999999999)->(ls.map ET).flatten++[41]=(ms.map ET).flatten++[41]->ls=ms
 |[],[],_,_,_=>rfl
 |[],f::ms,_,_,h=>by
  rw[au,bI,ET,aE,aE] at h;exact absurd (Jh (cy _) h.symm).1 (by decide)
 |f::ls,[],_,_,h=>by
  rw[au,bI,ET,aE,aE] at h;exact absurd (Jh (cy _) h).1 (by decide)
 |f::ls,g::ms,bl,bm,h=>by
  have lf:=bl f av;have lg:=bm g av;rw[au,au,bI,bI,ET,ET,aE,aE,aE,aE,gu,gu] at h;obtain⟨e1,e2⟩:=Qo (N7 (cy _) (by decide)) (N7 (cy _) (by decide)) h;have el:=QW (cy _) (by lia) (cy _) (by lia) e1;obtain⟨e3,e4⟩:=List.append_inj e2 (by lia);rw[e3,OM (λx hx=>bl x (ao _ hx)) (λx hx=>bm x (ao _ hx)) e4]
theorem Xq {lv lw:Int}{ls ms:List (List Nat)}(h0:0<=lv)(h1:lv<=100)(g0:0<=lw)(g1:lw<=100)(bl:∀f∈ls,f.length<=999999999)(bm:∀f∈ms,f.length<=999999999)(h:RT lv ls=RT lw ms):lv=lw/\ls=ms:=by
 obtain⟨e1,e2⟩:=Qo (N7 h0 (by decide)) (N7 g0 (by decide)) h;exact⟨QW h0 (by lia) g0 (by lia) e1,OM bl bm e2⟩
theorem WS {lv:Int}{ls:List (List Nat)}(h0:0<=lv)(h1:lv<=100)(bl:∀f∈ls,f.length<=999999999):(RT lv ls).length<=11+((ls.map λf=>f.length).sum+10*ls.length):=by
 have key:∀{ls:List (List Nat)},(∀f∈ls,f.length<=999999999)->((ls.map ET).flatten).length<=(ls.map λf=>f.length).sum+10*ls.length:=by
  intro ls
  induction ls with
  |nil=>intro _;simp
  |cons f ls ih=>
   intro b;have i:=ih λx hx=>b x (ao _ hx)
   have l:=b f av;have d:=Ja (n:=(f.length:Int)) (cy _) (by lia);rw[au,bI,ar,au,bR,ET,ar,aL,aL,AO]
   lia
 have k:=key bl;have d:=Ja (n:=lv) h0 (by lia);unfold RT;rw[ar,aL,ar,dq,AO]
 lia
def Fo (cs:List Cl):Nat->Tg->List Nat->Prop
 |0,t,f=>∃p,At cs t (.piece (toS p))/\f=112::p
 |l+1,t,f=>∃(c:List Tg) (ls:List (List Nat)),At cs t (.row ((l:Int)+1) c)/\ls.length=c.length/\(∀(i:Nat) u x,c[i]?=some u->ls[i]?=some x->Fo cs l u x)/\(∀x∈ls,x.length<=999999999)/\f=RT ((l:Int)+1) ls
theorem At.tag {cs:List Cl}(nb:(cs.map (·.bk)).Nodup){t t':Tg}{b:Bk}(h:At cs t b)(h':At cs t' b):t=t':=by
 obtain⟨e,he,et,eb⟩:=h;obtain⟨e',he',et',eb'⟩:=h';rw[<-et,<-et',AH nb he he' (eb.trans eb'.symm)]
theorem At.bk {cs:List Cl}(nd:(cs.map (·.z)).Nodup){t:Tg}{b b':Bk}(h:At cs t b)(h':At cs t b'):b=b':=by
 obtain⟨e,he,et,rfl⟩:=h;obtain⟨e',he',et',rfl⟩:=h';rw[AH nd he he' (congrArg Prod.fst (et.trans et'.symm))]
theorem Rn {a b:List Nat}(h:toS a=toS b):a=b:=by rw[<-BV a,h,BV]
theorem Fo.lv {cs:List Cl}:∀{l:Nat} {t:Tg} {f:List Nat},Fo cs l t f->∃b,At cs t b/\MO b=(l:Int)
 |0,_,_,⟨p,h,_⟩=>⟨_,h,rfl⟩
 |l+1,_,_,⟨c,ls,h,_⟩=>⟨_,h,rfl⟩
theorem Fo.inj {cs:List Cl}(nd:(cs.map (·.z)).Nodup)(nb:(cs.map (·.bk)).Nodup):∀{l l':Nat} {t t':Tg} {f:List Nat},l<=90->l'<=90->Fo cs l t f->Fo cs l' t' f->t=t'
 |0,0,t,t',f,_,_,⟨p,h1,e1⟩,⟨p',h2,e2⟩=>by
  rw[e1] at e2;injection e2 with _ e2
  rw[<-e2] at h2;exact h1.tag nb h2
 |0,l'+1,t,t',f,_,_,⟨p,h1,e1⟩,⟨c,ls,h2,_,_,_,e2⟩=>by
  rw[e1,RT] at e2;exact absurd (Jh (by lia) e2.symm).2 (by decide)
 |l+1,0,t,t',f,_,_,⟨c,ls,h2,_,_,_,e2⟩,⟨p,h1,e1⟩=>by
  rw[e1,RT] at e2;exact absurd (Jh (by lia) e2.symm).2 (by decide)
 |l+1,l'+1,t,t',f,b1,b2,⟨c,ls,h1,k1,m1,z1,e1⟩,⟨c',ls',h2,k2,m2,z2,e2⟩=>by
  rw[e1] at e2;obtain⟨ev,el⟩:=Xq (by lia) (by lia) (by lia) (by lia) z1 z2 e2;have ev:l=l':=by lia
  subst ev;subst el;have ec:c=c':=by
   refine bV λi=>?_
   by_cases hi:i<c.length
   ·have hi':i<c'.length:=by lia
    have hl:i<ls.length:=by lia
    rw[aa hi,aa hi'];exact congrArg some (Fo.inj nd nb (by lia) (by lia) (m1 i _ _ (aa hi) (aa hl)) (m2 i _ _ (aa hi') (aa hl)))
   ·rw[aN (by lia),aN (by lia)]
  rw[<-ec] at h2;exact h1.tag nb h2
theorem Fo.det {cs:List Cl}(nd:(cs.map (·.z)).Nodup):∀{l:Nat} {t:Tg} {f f':List Nat},Fo cs l t f->Fo cs l t f'->f=f'
 |0,t,f,f',⟨p,h1,e1⟩,⟨p',h2,e2⟩=>by
  have:=h1.bk nd h2;injection this with this
  rw[e1,e2,Rn this]
 |l+1,t,f,f',⟨c,ls,h1,k1,m1,z1,e1⟩,⟨c',ls',h2,k2,m2,z2,e2⟩=>by
  have:=h1.bk nd h2;injection this with _ this
  subst this;have el:ls=ls':=by
   refine bV λi=>?_
   by_cases hi:i<c.length
   ·have h1:i<ls.length:=by lia
    have h2:i<ls'.length:=by lia
    rw[aa h1,aa h2];exact congrArg some (Fo.det nd (m1 i _ _ (aa hi) (aa h1)) (m2 i _ _ (aa hi) (aa h2)))
   ·rw[aN (by lia),aN (by lia)]
  rw[e1,e2,el]
abbrev Fq:=Addr×Tg×List Nat
def My (H:Hp)(ps:List Fq):Prop:=∀x∈ps,H x.1=some (.tup [.str (toS x.2.2),.int x.2.1.2.2])
def C1:List Fq->List Fq->List (List Fq)
 |acc,[]=>if acc=[] then[] else[acc]
 |acc,t::r=>if Hg acc.length t.2.1 then(acc++[t])::C1 [] r else C1 (acc++[t]) r
theorem RG {l gs acc:List Fq}{i:Nat}{c:Fq}{rs:List (List Fq)}(hi:l[i]?=some c)(h:C1 [] l=rs++C1 acc (l.drop i)) :
  (Hg acc.length c.2.1->C1 [] l=(rs++[acc++[c]])++C1 [] (l.drop (i+1)))/\(¬Hg acc.length c.2.1->C1 [] l=rs++C1 (acc++[c]) (l.drop (i+1))):=by
 obtain⟨hl,e⟩:=aj.mp hi;have hd:l.drop i=c::l.drop (i+1):=by rw[<-e];exact bN hl
 rw[hd] at h;refine⟨λq=>?_,λq=>?_⟩
 ·rw[h,C1,aC q,aE];rfl
 ·rw[h,C1,ay q]
theorem LI:∀(l acc:List Fq),(C1 acc l).map (λg=>g.map λx=>x.2.1)=SJ (acc.map λx=>x.2.1) (l.map λx=>x.2.1)
 |[],acc=>by
  rw[C1,dC,SJ]
  by_cases h:acc=[]
  ·rw[aC h,h];rfl
  ·rw[ay h,ay (by simpa using h)];rfl
 |t::r,acc=>by
  rw[C1,au,SJ,ab]
  by_cases h:Hg acc.length t.2.1
  ·rw[aC h,aC h,au,LI r [],aJ];rfl
  ·rw[ay h,ay h,LI r (acc++[t]),aJ];rfl
theorem Jx:∀(l acc:List Fq),(C1 acc l).flatten=acc++l
 |[],acc=>by
  rw[C1]
  by_cases h:acc=[]
  ·rw[aC h,h];rfl
  ·rw[ay h];simp
 |t::r,acc=>by
  rw[C1]
  by_cases h:Hg acc.length t.2.1
  ·rw[aC h,bI,Jx r []];simp
  ·rw[ay h,Jx r (acc++[t])];simp
def sumF (fs:List (List Nat)):Nat:=(fs.map λf=>f.length).sum
def DO (K:W.Frag):Sp:=λvs H Q _=>∃(lv:Int) (l:Addr) (ls:List (List Nat)),vs=[.int lv,.ref l]/\H l=some (.lst (CH ls))/\0<=lv/\lv<=100/\ls.length<=8/\sumF ls<=100000/\∀H',As H H'->Q (.str (toS (RT lv ls))) H'
theorem O5 {f:List Nat}{ls:List (List Nat)}(h:f∈ls):f.length<=sumF ls:=by
 unfold sumF
 induction ls with
 |nil=>nomatch h
 |cons x ls ih=>
  rw[au,bR];rcases aM.mp h with rfl|h
  ·lia
  ·have:=ih h;lia
theorem Kw (T:Txt K mg Ab Ad Aa Ae XC)(F:Fun K "_law_written" "_law_written" Er f fd):FnOk P w K mg base BI 1 f fd ["_law_level","_law_forms_here"] (DO K):=by
 exists KN
 ·obtain⟨lv,l,ls,rfl,_⟩:=h;rfl
 obtain⟨lv,l,ls,rfl,hl,h0,h1,l8,sm,q⟩:=h;have hu:=BL hr;refine⟨_,(!Ak (!Ao (!Ar Bq (!Ar Bq (!Ar Bq (!Cz MV (by rfl) T.b_str NT (!Ac (pv 0) (!Ah))) (!BP)) (!Ca cj fJ fH (NC rfl) (!BP) (!Ac (@Bl _ ["_law_form"] _ _ _ _ _ _ _ _ _ _ rfl (!A2 (pv 1)) (by decide +kernel) (λC s H fp=>⟨(@An _ _ (0) _ (show(["_law_form"]:List Str).Nodup by decide +kernel) rfl (by trivial) (by trivial)),(!AM),(!Ar Bq (!Ar Bq (!Cz MV (by rfl) T.b_str NT (!Ac (!Aq Bs (by rfl) T.b_len AZ (!Ac (pv 0) (!Ah))) (!Ah))) (!BP)) (pv 0))⟩) (by intro _;rfl)) (!Ah)))) (!BP)))),?_⟩
 try dsimp only[BM,Cx.nox,Cx.wish]
 have dl:=Ja h0 (by lia);have fl:∀f∈ls,f.length<=100000:=λf hf=>aY (O5 hf) sm
 refine⟨_,rfl,lv,rfl,h0,by lia,_,_,rfl,rfl,small (by show(K8 lv).length+1<=_;lia),?_⟩;dsimp only;refine⟨rfl,_,rfl,l,rfl,⟨_,AJ.of hl⟩,?_⟩;refine comp_map (xs:=CH ls) (λv=>match v with | .str y=>.str ((K8 (y.length:Int)++PySem.Str.ofString ":")++y)|_=>.non) (Ck (AJ.of hl)) (by rw[BC];lia) (λx H2 R hx s2 hR=>?_) λl2 H2 nl2 s2 hl2=>?_
 ·obtain⟨f,hf,rfl⟩:=ae.mp hx;have lf:=fl f hf;have lt:=DV f;have d:=Ja (n:=((toS f).length:Int)) (cy _) (by lia);exact⟨_,rfl,_,rfl,small (by lia),_,rfl,by lia,by lia,_,_,rfl,rfl,small (by show(K8 ((toS f).length:Int)).length+1<=_;lia),_,rfl,_,_,rfl,rfl,small (by rw[len_app];show((K8 ((toS f).length:Int)).length+1)+_<=_;lia),hR H2 (As.refl _)⟩
 have ex:(CH ls).map (λv=>match v with | .str y=>V.str ((K8 (y.length:Int)++PySem.Str.ofString ":")++y)|_=>.non)=(ls.map λf=>toS (ET f)).map V.str:=by
  unfold CH;rw[aI,aI];refine cC λf _=>?_
  show V.str ((K8 ((toS f).length:Int)++PySem.Str.ofString ":")++toS f)=V.str (toS (ET f));refine congrArg V.str (Dz ?_);rw[DW,DW,BV,BV,DV,ET,aE];rfl
 rw[ex] at hl2;have sl:(((ls.map λf=>toS (ET f)).map (·.length)).sum)<=sumF ls+10*ls.length:=by
  clear hl2 ex q
  have key:∀ls:List (List Nat),(∀f∈ls,f.length<=100000)->((ls.map λf=>toS (ET f)).map (·.length)).sum<=sumF ls+10*ls.length:=by
   intro ls
   induction ls with
   |nil=>intro _;exact aR _
   |cons f ls ih=>
    intro b;have i:=ih λx hx=>b x (ao _ hx)
    have lf:=b f av;have d:=Ja (n:=(f.length:Int)) (cy _) (by lia);have e:(toS (ET f)).length=(K8 (f.length:Int)).length+(f.length+1):=by
     rw[DV,ET,ar,aL,AO]
    rw[au,au,bR,e,aL];unfold sumF at i ⊢;rw[au,bR]
    lia
  exact key ls fl
 refine⟨l2,KP,ls.map λf=>toS (ET f),rfl,rfl,AJ.of hl2,?_,?_⟩
 ·have e2:KP.length=0:=rfl;rw[e2,Nat.mul_zero]
  lia
 have ej:A3 (PySem.Txt.join KP (ls.map λf=>toS (ET f)))=(ls.map ET).flatten:=by
  rw[Lq (by rfl),aI];rfl
 have lj:(PySem.Txt.join KP (ls.map λf=>toS (ET f))).length<=sumF ls+10*ls.length:=by
  rw[<-AO,ej];refine aY (dB ?_) sl;rw[iO,aI,aI];rfl
 refine⟨_,_,rfl,rfl,small (by rw[len_app];show(K8 lv).length+1+_<=_;lia),_,_,rfl,rfl,small (by rw[len_app,len_app];show(K8 lv).length+1+_+1<=_;lia),?_⟩;have:=q H2 s2;have ee:toS (RT lv ls)=((PySem.Str.ofString (toString lv)++PySem.Str.ofString "(")++PySem.Txt.join KP (ls.map λf=>toS (ET f)))++PySem.Str.ofString ")":=Dz (by
  rw[DW,DW,DW,ej,BV,RT,aE,aE];rfl)
 rw[ee] at this;exact this
end
open M06 M08 M10
section
variable {P:Program}{w:World}{K:W.Frag}{mg:Str->Option Value}{base:Heap}{f Ab Ad Aa Ae:Addr}{XC:Nat->Addr}{fd:FuncData}
theorem My.same {H H':Hp}{ps:List Fq}(s:As H H')(h:My H ps):My H' ps:=λx hx=>s.get (h x hx)
def LO (H:Hp)(lv:Int)(gs:List (List Fq))(as:List Addr):Prop:=as.length=gs.length/\∀(k:Nat) a g,as[k]?=some a->gs[k]?=some g->H a=some (.tup [.str (toS (RT lv (g.map λx=>x.2.2))),.int (AR (.row lv (g.map λx=>x.2.1)))])
theorem LO.keep {H H':Hp}{lv:Int}{gs:List (List Fq)}{as:List Addr}(kt:∀c ys,H c=some (.tup ys)->H' c=some (.tup ys))(h:LO H lv gs as):LO H' lv gs as:=⟨h.1,λk a g h1 h2=>kt _ _ (h.2 k a g h1 h2)⟩
theorem LO.snoc {H:Hp}{lv:Int}{gs:List (List Fq)}{as:List Addr}{g:List Fq}{a:Addr}(h:LO H lv gs as)(ha:H a=some (.tup [.str (toS (RT lv (g.map λx=>x.2.2))),.int (AR (.row lv (g.map λx=>x.2.1)))])):LO H lv (gs++[g]) (as++[a]):=by
 refine⟨by rw[ar,ar,h.1];rfl,λk u c h1 h2=>?_⟩
 by_cases hk:k<as.length
 ·rw[bG hk] at h1;rw[bG (by rw[<-h.1];exact hk)] at h2;exact h.2 k u c h1 h2
 ·rw[bK (by lia)] at h1;rw[bK (by rw[<-h.1];lia),<-h.1] at h2;have:k-as.length=0:=by
   have:k-as.length<1:=(aj.mp h1).1
   lia
  rw[this] at h1 h2;cases h1;cases h2;exact ha
theorem Vi {lv:Int}(ts:List Tg):AR (.row lv ts)=(ts.map (·.2.2)).foldl (λt n=>(31*t+n+1)%997) ((31*2+lv+1)%997):=rfl
def Ir (K:W.Frag):Sp:=λvs H Q _=>∃(lv:Int) (l:Addr) (ps:List Fq),vs=[.ref l,.int lv]/\H l=some (.lst (ps.map λx=>.ref x.1))/\My H ps/\0<=lv/\lv<=100/\ps.length<=100/\sumF (ps.map λx=>x.2.2)<=100000/\∀H' r as,As H H'->H r=none->H' r=some (.lst (as.map V.ref))->LO H' lv (C1 [] ps) as->Q (.ref r) H'
theorem OT (a b:List (List Nat)):sumF (a++b)=sumF a+sumF b:=by unfold sumF;rw[aJ,gF]
theorem Oi (T:Txt K mg Ab Ad Aa Ae XC)(F:Fun K "_law_rows" "_law_rows" Gr f fd)(BZ:Def P w K mg base 1 "_law_written" ["_law_level","_law_forms_here"] (DO K)):FnOk P w K mg base BI 2 f fd ["_law_forms_here","_law_level"] (Ir K):=by
 exists Ba
 ·obtain⟨lv,l,ps,rfl,_⟩:=h;rfl
 obtain⟨lv,l,ps,rfl,hl,hps,h0,h1,few,sm,q⟩:=h;have hu:=BL hr;refine⟨_,(!Af (@Ap _ _ (2) _ _ _ _ Ba.nd rfl (by trivial) (!Be (!Ah)) (by rfl) (by trivial)) (!Af (@Ap _ _ (3) _ _ _ _ Ba.nd rfl (by trivial) (!Be (!Ah)) (by rfl) (by trivial)) (!Af (!Bn aU rfl (!Ot rfl T.b_enumerate (!Ac (pv 0) (!Ah))) (!FD rfl (!AA (@An _ _ (4) _ Ba.nd rfl (by trivial) (by trivial)) (!AA (!FD rfl (!AA (@An _ _ (5) _ Ba.nd rfl (by trivial) (by trivial)) (!AA (@An _ _ (6) _ Ba.nd rfl (by trivial) (by trivial)) (!BF)))) (!BF)))) (!Af (!AN (!Ca aT ba aZ Bp (pv 3) (!Ac (!DE (!Ac (pv 5) (!Ac (pv 6) (!Ah)))) (!Ah)))) (!Af (@Ap _ _ (7) _ _ _ _ Ba.nd rfl (by trivial) (!Wu (!FM (!BW FX (!Aq Az (by rfl) T.b_len AZ (!Ac (pv 3) (!Ah))) (!Ai) (Av _)) (!Fy (!BW Bb (!Ar Bd (pv 6) (!Ai)) (!Ai) (Av _)))) (!Fy (!BW Bb (!Aq Az (by rfl) T.b_len AZ (!Ac (pv 3) (!Ah))) (!Ai) (Av _)))) (by rfl) (by trivial)) (!Ak (!AL (@PW.pt _ _ _ (!Fg (!BK (pv 7) (by intro _;rfl)) (!DH (!Aw Bb (pv 4) (!Ar Gu (!Aq Az (by rfl) T.b_len AZ (!Ac (pv 0) (!Ah))) (!Ai)) (Av _))))) (!Af (@Ap _ _ (8) _ _ _ _ Ba.nd rfl (by trivial) (!Ar Bd (!Ar Bu (!Ar Bu (!Ar DN (!Ai) (!Ai)) (pv 1)) (!Ai)) (!Ai)) (by rfl) (by trivial)) (!Af (!Bn aU rfl (!A2 (pv 3)) (!FD rfl (!AA (@An _ _ (9) _ Ba.nd rfl (by trivial) (by trivial)) (!AA (@An _ _ (10) _ Ba.nd rfl (by trivial) (by trivial)) (!BF)))) (!Ak (@Ap _ _ (8) _ _ _ _ Ba.nd rfl (by trivial) (!Ar Bd (!Ar Bu (!Ar Bu (!Ar DN (!Ai) (pv 8)) (pv 10)) (!Ai)) (!Ai)) (by rfl) (by trivial))) (by intro _;rfl)) (!Af (!AN (!Ca aT ba aZ Bp (pv 2) (!Ac (!DE (!Ac (!AG BZ (by trivial) rfl (!Ac (pv 1) (!Ac (@Bl _ ["_law_one","_law_other"] _ _ _ _ _ _ _ _ _ _ rfl (!A2 (pv 3)) (by decide +kernel) (λC s H fp=>⟨(@Dx _ (K) _ _ _ _ (2) (by rfl) rfl (!AA (@An _ _ (0) _ (show(["_law_one","_law_other"]:List Str).Nodup by decide +kernel) rfl (by trivial) (by trivial)) (!AA (@An _ _ (1) _ (show(["_law_one","_law_other"]:List Str).Nodup by decide +kernel) rfl (by trivial) (by trivial)) (!BF))) (by rfl) (by rfl)),(!AM),(pv 0)⟩) (by intro _;rfl)) (!Ah)))) (!Ac (pv 8) (!Ah)))) (!Ah)))) (!Ak (@Ap _ _ (3) _ _ _ _ Ba.nd rfl (by trivial) (!Be (!Ah)) (by rfl) (by trivial)))))) (!Au))))) (by intro _;rfl)) (!Ak (!Ao (pv 2)))))),?_⟩
 try dsimp only[BM,Cx.nox,Cx.wish]
 refine⟨Hf,λrl hrl=>⟨Hf,λgl hgl=>?_⟩⟩;have s1:=Al hrl (.lst []);have s2:=s1.trans (Al hgl (.lst []));have nrg:rl≠gl:=λz=>by rw[<-z,Ag] at hgl;cases hgl
 have hl2:=s2.get hl;refine⟨_,rfl,l,_,rfl,AJ.of hl2,?_⟩;refine MX (K:=K) (a:=l) (xs:=ps.map λx=>.ref x.1) (λi σ H'=>∃(gl:Addr) (acc ac2:List Fq) (gs:List (List Fq)) (as:List Addr) (v4 v5 v6 v7 v8 v9 v10:Option V),σ=[some (.ref l),some (.int lv),some (.ref rl),some (.ref gl),v4,v5,v6,v7,v8,v9,v10]/\As H H'/\H gl=none/\rl≠gl/\H' rl=some (.lst (as.map V.ref))/\H' gl=some (.lst (ac2.map λx=>.ref x.1))/\My H' ac2/\ac2.map (·.2)=acc.map (·.2)/\LO H' lv gs as/\C1 [] ps=gs++C1 acc (ps.drop i)/\acc.length<=7/\as.length<=i/\sumF (acc.map λx=>x.2.2)+sumF ((ps.drop i).map λx=>x.2.2)<=100000/\(i=ps.length->acc=[]))
  ⟨gl,[],[],[],[],none,none,none,none,none,none,none,rfl,s2,s1.free hgl,nrg,(Al hgl _).get Ag,Ag,(λ_ h=>nomatch h),rfl,⟨rfl,λk a g h=>by cases h⟩,rfl,by decide,aR _,by rw[cZ,show sumF (([]:List Fq).map λx=>x.2.2)=0 from rfl];lia,λ_=>rfl⟩ ?_ ?_ ?_
 ·rintro i σ H' _ ⟨gl,acc,ac2,gs,as,v4,v5,v6,v7,v8,v9,v10,_,s',_⟩
  exact AJ.of (s'.get hl)
 ·rintro i y σ H' T hi ⟨gl,acc,ac2,gs,as,v4,v5,v6,v7,v8,v9,v10,rfl,s',ngl,nrg,hrl',hgl',hacc,e2,hrw,hcut,a7,asi,sm',_⟩ hT
  rw[aD] at hi;obtain⟨x,hx,rfl⟩:=aV.mp hi;have il:i<ps.length:=(aj.mp hx).1;have hxt:=s'.get (hps x (az hx));have sT:=Al hT (.tup [V.int (i:Int),V.ref x.1]);have l2:ac2.length=acc.length:=by have:=congrArg List.length e2;rw[ab,ab] at this;exact this
  refine⟨T,_,rfl,A8.of Ag,rfl,_,_,rfl,_,_,rfl,x.1,_,rfl,A8.of (sT.get hxt),rfl,_,_,rfl,_,_,rfl,rfl,rfl,?_⟩;dsimp only;refine Di λEB eEB=>?_
  refine AF λN eN=>?_
  refine⟨_,rfl,.inl ⟨rfl,_,AJ.of (sT.get hgl')⟩,_,rfl,_,rfl,Ms,λtp htp=>?_⟩;have sP:=sT.trans (Al htp (.tup [V.str (toS x.2.2),V.int x.2.1.2.2]));have htp':(upd (upd H' T (.tup [V.int (i:Int),V.ref x.1])) tp (.tup [V.str (toS x.2.2),V.int x.2.1.2.2])) tp=some (.tup [V.str (toS x.2.2),V.int x.2.1.2.2]):=Ag;generalize upd (upd H' T (.tup [V.int (i:Int),V.ref x.1])) tp (.tup [V.str (toS x.2.2),V.int x.2.1.2.2])=H2 at sP htp';have hg2:=sP.get hgl';refine⟨gl,_,_,rfl,rfl,hg2,A7 (by rw[ab];lia),?_⟩;have kt:∀c ys,H2 c=some (.tup ys)->(upd H2 gl (.lst ((ac2.map λx=>V.ref x.1)++[.ref tp]))) c=some (.tup ys):=λc ys h=>by rw[Aj (AQ h hg2 (by intro z;cases z))];exact h
  have hs3:As H (upd H2 gl (.lst ((ac2.map λx=>V.ref x.1)++[.ref tp]))):=A5 (s'.trans sP) ngl _;have hg3:(upd H2 gl (.lst ((ac2.map λx=>V.ref x.1)++[.ref tp]))) gl=some (.lst ((ac2++[(tp,x.2)]).map λx=>.ref x.1)):=by rw[Ag,aJ];rfl
  have hr3:(upd H2 gl (.lst ((ac2.map λx=>V.ref x.1)++[.ref tp]))) rl=some (.lst (as.map V.ref)):=by rw[Aj nrg];exact sP.get hrl'
  have hrw3:LO (upd H2 gl (.lst ((ac2.map λx=>V.ref x.1)++[.ref tp]))) lv gs as:=hrw.keep λc ys h=>kt _ _ (sP.get h)
  have hf3:My (upd H2 gl (.lst ((ac2.map λx=>V.ref x.1)++[.ref tp]))) (ac2++[(tp,x.2)]):=λu hu=>by
   rcases ai.mp hu with h|h
   ·exact kt _ _ (sP.get (hacc u h))
   ·rw[ag.mp h];exact kt _ _ htp'
  have hl3:=hs3.get hl;have e3:(ac2++[(tp,x.2)]).map (·.2)=(acc++[x]).map (·.2):=by rw[aJ,aJ,e2];rfl
  have l3:((ac2++[(tp,x.2)]).map λx=>V.ref x.1).length=acc.length+1:=by simp[l2]
  generalize upd H2 gl (.lst ((ac2.map λx=>V.ref x.1)++[.ref tp]))=H3 at hs3 hg3 hr3 hrw3 hf3 hl3;generalize ac2++[(tp,x.2)]=ac3 at hg3 hf3 e3 l3;obtain⟨p1,p2⟩:=RG (gs:=[]) hx hcut;have hd:ps.drop i=x::ps.drop (i+1):=by
   obtain⟨hl,e⟩:=aj.mp hx;rw[<-e];exact bN hl
  have sm3:sumF ((acc++[x]).map λx=>x.2.2)+sumF ((ps.drop (i+1)).map λx=>x.2.2)<=100000:=by
   rw[hd] at sm';rw[aJ,OT];unfold sumF at sm' ⊢;simp only[List.map_cons,List.sum_cons,List.map_nil,List.sum_nil] at sm' ⊢
   lia
  have lac:(acc++[x]).length=acc.length+1:=by simp
  dsimp only;subst eN
  try dsimp only
  refine AF λN eN=>?_
  refine WC (decide ((1:Int)<((acc.length+1:Nat):Int))&&decide (V.int (x.2.1.2.2%3)=V.int 0)) (decide (V.int ((acc.length+1:Nat):Int)=V.int 8)) (λR q=>?_) (λ_ R q=>⟨_,rfl,gl,_,rfl,.inl (AJ.of hg3),rfl,by rw[l3];exact q⟩) ?_
  ·exact K0 _ _ (λR q=>⟨_,rfl,gl,_,rfl,.inl (AJ.of hg3),_,_,rfl,rfl,by rw[l3];exact q⟩) (λ_ R q=>⟨_,rfl,_,_,rfl,rfl,(by show(0:Int)<3;decide),rfl,q⟩) q
  have ew:(decide ((1:Int)<((acc.length+1:Nat):Int))&&decide (V.int (x.2.1.2.2%3)=V.int 0)||decide (V.int ((acc.length+1:Nat):Int)=V.int 8))=decide (Hg acc.length x.2.1):=by
   rw[bT,Bool.or_eq_true,bq,aG,aG,aG,aG,V.int.injEq,V.int.injEq];unfold Hg
   lia
  rw[ew];subst eN;dsimp only;refine OE (decide (Hg acc.length x.2.1)) (decide (V.int (i:Int)=V.int ((ps.length:Int)-1))) (λR q=>⟨_,rfl,_,rfl,q⟩) (λ_ R q=>⟨_,rfl,_,rfl,l,_,rfl,.inl (AJ.of hl3),_,_,rfl,rfl,rfl,_,rfl,by rw[ab];exact q⟩) ?_;refine Cs (λc=>?_) (λc=>?_)
  ·refine AF λN eN=>?_
   refine⟨_,_,rfl,rfl,.inl ⟨by decide,by decide⟩,_,rfl,_,_,rfl,rfl,_,_,rfl,rfl,_,_,rfl,rfl,(by show(0:Int)<997;decide),?_⟩;subst eN;dsimp only;refine AF λN eN=>?_
   have e4:ac3.map (λx=>x.2.1.2.2)=(acc++[x]).map (λx=>x.2.1.2.2):=by
    have:=congrArg (List.map λ(y:Tg×List Nat)=>y.1.2.2) e3;rw[aI,aI] at this;exact this
   have e5:ac3.map (λx=>x.2.2)=(acc++[x]).map (λx=>x.2.2):=by
    have:=congrArg (List.map λ(y:Tg×List Nat)=>y.2) e3;rw[aI,aI] at this;exact this
   refine⟨_,rfl,gl,rfl,⟨_,AJ.of hg3⟩,BD (K:=K) (a:=gl) (xs:=ac3.map λx=>.ref x.1) (λj σ H2=>∃v9 v10,σ=[some (.ref l),some (.int lv),some (.ref rl),some (.ref gl),some (.int (i:Int)),some (.str (toS x.2.2)),some (.int x.2.1.2.2),some (.bl (decide (Hg acc.length x.2.1))),some (.int (((ac3.map (λx=>x.2.1.2.2)).take j).foldl (λt n=>(31*t+n+1)%997) ((31*2+lv+1)%997))),v9,v10]/\H2=H3) ⟨_,_,rfl,rfl⟩ (by rintro j σ H2 _ ⟨_,_,_,e⟩;exact by rw[e];exact AJ.of hg3) ?_ ?_⟩
   ·rintro j y σ H2 hj ⟨v9,v10,rfl,rfl⟩
    rw[aD] at hj;obtain⟨u,hu',rfl⟩:=aV.mp hj;refine⟨u.1,_,rfl,A8.of (hf3 u (az hu')),rfl,_,_,rfl,_,_,rfl,rfl,?_⟩;refine⟨_,rfl,_,_,rfl,rfl,.inl ⟨by decide,by decide⟩,_,rfl,_,_,rfl,rfl,_,_,rfl,rfl,_,_,rfl,rfl,(show(0:Int)<997 by decide),?_⟩;refine⟨some (.str (toS u.2.2)),some (.int u.2.1.2.2),?_,rfl⟩;rw[JP (n:=u.2.1.2.2) (by rw[aD,hu'];rfl)];rfl
   ·rintro σ H2 ⟨v9,v10,rfl,rfl⟩
    have efold:((ac3.map (λx=>x.2.1.2.2)).take (ac3.map λx=>V.ref x.1).length).foldl (λt n=>(31*t+n+1)%997) ((31*2+lv+1)%997)=AR (.row lv ((acc++[x]).map λx=>x.2.1)):=by
     rw[ab,aK (by rw[ab];exact ah _),e4,Vi,aI];rfl
    rw[efold];subst eN;dsimp only;refine AF λN eN=>?_
    refine⟨_,rfl,.inl ⟨rfl,_,AJ.of hr3⟩,_,rfl,_,rfl,gl,rfl,⟨_,AJ.of hg3⟩,?_⟩;refine Jv (ps:=ac3) (g:=(·.1)) (A:=λx=>.str (toS x.2.2)) (B:=λx=>.int x.2.1.2.2) (f:=λx=>.str (toS x.2.2)) (Ck (AJ.of hg3)) hf3 (by rw[ab] at l3;lia) rfl (by decide) (λy hy H4 R s4 hR=>⟨_,rfl,hR H4 (As.refl _)⟩) λl4 H4 nl4 s4 hl4=>?_
    have hl4:H4 l4=some (.lst (CH ((acc++[x]).map λx=>x.2.2))):=by
     rw[hl4,<-e5];unfold CH;rw[aI];rfl
    refine⟨lv,l4,(acc++[x]).map λx=>x.2.2,rfl,hl4,h0,h1,by rw[ab,lac];lia,by lia,λH5 s5=>?_⟩;refine⟨_,rfl,Ms,λtp2 htp2=>?_⟩;have s35:=s4.trans (s5.trans (Al htp2 (.tup [V.str (toS (RT lv ((acc++[x]).map λx=>x.2.2))),V.int (AR (.row lv ((acc++[x]).map λx=>x.2.1)))])));have ht5:(upd H5 tp2 (.tup [V.str (toS (RT lv ((acc++[x]).map λx=>x.2.2))),V.int (AR (.row lv ((acc++[x]).map λx=>x.2.1)))])) tp2=some (.tup [V.str (toS (RT lv ((acc++[x]).map λx=>x.2.2))),V.int (AR (.row lv ((acc++[x]).map λx=>x.2.1)))]):=Ag;generalize upd H5 tp2 (.tup [V.str (toS (RT lv ((acc++[x]).map λx=>x.2.2))),V.int (AR (.row lv ((acc++[x]).map λx=>x.2.1)))])=H6 at s35 ht5;have hr6:=s35.get hr3;refine⟨rl,_,_,rfl,rfl,hr6,A7 (by rw[ab];lia),?_⟩;subst eN;dsimp only;refine⟨Hf,λg2 hg2=>?_⟩;have k6:∀c ys,H6 c=some (.tup ys)->(upd H6 rl (.lst (as.map V.ref++[.ref tp2]))) c=some (.tup ys):=λc ys h=>by rw[Aj (AQ h hr6 (by intro z;cases z))];exact h
    have s7:=Al hg2 (.lst []);have nr2:rl≠g2:=λz=>by rw[<-z,Ag] at hg2;cases hg2
    have hs7:As H (upd H6 rl (.lst (as.map V.ref++[.ref tp2]))):=A5 (hs3.trans s35) hrl _;have hpc:C1 [] ps=(gs++[acc++[x]])++C1 [] (ps.drop (i+1)):=by
     by_cases he:Hg acc.length x.2.1
     ·exact p1 he
     ·have hi2:i+1=ps.length:=by
       rw[aS he,gQ,aG,V.int.injEq] at c
       lia
      rw[p2 he,fu (by lia),C1,C1,ay (by simp),aC rfl,bY]
    subst eEB;refine⟨g2,[],[],gs++[acc++[x]],as++[tp2],_,_,_,_,_,_,_,rfl,hs7.trans s7,hs7.free hg2,nr2,s7.get (by rw[Ag,aJ];rfl),Ag,(λ_ h=>nomatch h),rfl,(LO.snoc (hrw3.keep λc ys h=>k6 _ _ (s35.get h)) (k6 _ _ ht5)).keep λc ys h=>s7.get h,hpc,by decide,by rw[ar];show as.length+1<=_;lia,?_,λ_=>rfl⟩;rw[show sumF (([]:List Fq).map λx=>x.2.2)=0 from rfl]
    lia
  ·rw[Bool.or_eq_true,not_or,aG,aG,V.int.injEq] at c;have a6:acc.length+1<=7:=by
    have:=c.1;unfold Hg at this
    lia
   subst eEB;exact⟨gl,acc++[x],ac3,gs,as,_,_,_,_,_,_,_,rfl,hs3,ngl,nrg,hr3,hg3,hf3,e3,hrw3,p2 c.1,by lia,by lia,sm3,λh=>absurd (show(i:Int)=(ps.length:Int)-1 by lia) c.2⟩
 ·rintro σ H' ⟨gl,acc,ac2,gs,as,v4,v5,v6,v7,v8,v9,v10,rfl,s',ngl,nrg,hrl',hgl',hacc,e2,hrw,hcut,a7,asi,sm',hend⟩
  rw[ab] at hcut hend;have ea:=hend rfl;subst ea;rw[fk,C1,aC rfl,bY] at hcut;refine⟨_,rfl,q H' rl as s' hrl hrl' ?_⟩;rw[hcut];exact hrw
end
open M06 M08 M10
section
variable {P:Program}{w:World}{K:W.Frag}{mg:Str->Option Value}{base:Heap}{f Ab Ad Aa Ae:Addr}{XC:Nat->Addr}{fd:FuncData}
theorem Rw {a b:List Nat}(h:toS a=toS b):a=b:=by have:=congrArg A3 h;rw[BV,BV] at this;exact this
theorem Gz {F:List Nat->Bool}:∀(l acc:List Nat),(cut F acc l).flatten=acc++l
 |[],acc=>by
  rw[cut]
  by_cases h:acc=[]
  ·rw[aC h,h];rfl
  ·rw[ay h];simp
 |c::r,acc=>by
  rw[cut]
  by_cases h:F (acc++[c])=true
  ·rw[aC h,bI,Gz r []];simp
  ·rw[ay h,Gz r (acc++[c])];simp
theorem Oq {g:Tg->List Nat}:∀(xs:List (List Tg)),(xs.map λc=>(c.map g).flatten).flatten=(xs.flatten.map g).flatten
 |[]=>rfl
 |c::xs=>by rw[au,bI,Oq xs,bI,aJ,List.flatten_append]
theorem Cn.more {cs:List Cl}:∀{n:Nat} {t:Tg} {l:List Nat},Cn cs n t l->Cn cs (n+1) t l
 |0,_,_,h=>h.elim
 |n+1,t,l,h=>by
  rcases h with h|⟨lv,c,ls,h1,h2,h3,h4⟩
  ·exact .inl h
  ·exact .inr ⟨lv,c,ls,h1,h2,λi u x a b=>(h3 i u x a b).more,h4⟩
theorem Cn.up {cs:List Cl}{n m:Nat}{t:Tg}{l:List Nat}(h:Cn cs n t l)(hm:n<=m):Cn cs m t l:=by
 induction m with
 |zero=>
  have:n=0:=by lia
  subst this;exact h
 |succ m ih=>
  by_cases e:n=m+1
  ·subst e;exact h
  ·exact(ih (by lia)).more
theorem Cn.fun {cs:List Cl}(nd:(cs.map (·.z)).Nodup):∀{n:Nat} {t:Tg} {l l':List Nat},Cn cs n t l->Cn cs n t l'->l=l'
 |0,_,_,_,h,_=>h.elim
 |n+1,t,l,l',h,h'=>by
  have ub:∀{b b'},At cs t b->At cs t b'->b=b':=λ{b b'} a a'=>by
   obtain⟨e,he,et,rfl⟩:=a;obtain⟨e',he',et',rfl⟩:=a';rw[AH nd he he' (congrArg Prod.fst (et.trans et'.symm))]
  rcases h with h|⟨lv,c,ls,h1,h2,h3,rfl⟩
  ·rcases h' with h'|⟨lv',c',ls',h1',_⟩
   ·injection ub h h' with e
    exact Rw e
   ·cases ub h h1'
  ·rcases h' with h'|⟨lv',c',ls',h1',h2',h3',rfl⟩
   ·cases ub h1 h'
   ·injection ub h1 h1' with _ e
    subst e
    congr 1
    refine bV λi=>?_
    by_cases hi:i<c.length
    ·rw[aa (show i<ls.length by lia),aa (show i<ls'.length by lia)];exact congrArg some ((h3 i _ _ (aa hi) (aa (by lia))).fun nd (h3' i _ _ (aa hi) (aa (by lia))))
    ·rw[aN (by lia),aN (by lia)]
open Classical in
theorem Wj {cs:List Cl}(nd:(cs.map (·.z)).Nodup){ts0:List Tg}(ne:ts0≠[]){ps:List (List Nat)}(bo:DK cs ts0 ps):∀{l:Nat} {us:List Tg},Tw cs ts0 l us->∃g:Tg->List Nat,(∀t∈us,Cn cs (l+1) t (g t))/\(us.map g).flatten=ps.flatten
 |0,us,h=>by
  have e:us=ts0:=h;subst e;have ub:∀{t:Tg} {b b'},At cs t b->At cs t b'->b=b':=λ{t b b'} a a'=>by
   obtain⟨e,he,et,rfl⟩:=a;obtain⟨e',he',et',rfl⟩:=a';rw[AH nd he he' (congrArg Prod.fst (et.trans et'.symm))]
  let g:Tg->List Nat:=λt=>if h:∃p,At cs t (.piece (toS p)) then Classical.choose h else[]
  have hg:∀{t p},At cs t (.piece (toS p))->g t=p:=λ{t p} h=>by
   have hx:∃p,At cs t (.piece (toS p)):=⟨p,h⟩
   have e1:g t=Classical.choose hx:=dif_pos hx;have:=ub (fL hx) h;injection this with this
   rw[e1];exact Rw this
  refine⟨g,λt ht=>?_,?_⟩
  ·obtain⟨i,hi,rfl⟩:=bx ht;have a:=bo.2 i _ _ (aa hi) (aa (show i<ps.length by rw[<-bo.1];exact hi));rw[hg a];exact .inl a
  ·congr 1
   refine bV λi=>?_
   by_cases hi:i<us.length
   ·have hp:i<ps.length:=by rw[<-bo.1];exact hi
    rw[aD,aa hi,aa hp];exact congrArg some (hg (bo.2 i _ _ (aa hi) (aa hp)))
   ·rw[aN (by rw[ab];lia),aN (by rw[<-bo.1];lia)]
 |l+1,us,h=>by
  obtain⟨ts,h1,ro,_⟩:=h;obtain⟨g,hg,hf⟩:=Wj nd ne bo h1;have nets:=(h1.len ne).1;have ub:∀{t:Tg} {b b'},At cs t b->At cs t b'->b=b':=λ{t b b'} a a'=>by
   obtain⟨e,he,et,rfl⟩:=a;obtain⟨e',he',et',rfl⟩:=a';rw[AH nd he he' (congrArg Prod.fst (et.trans et'.symm))]
  let g':Tg->List Nat:=λu=>if h:∃c,At cs u (.row ((l:Int)+1) c) then((Classical.choose h).map g).flatten else[]
  have hg':∀{u c},At cs u (.row ((l:Int)+1) c)->g' u=(c.map g).flatten:=λ{u c} h=>by
   have hx:∃c,At cs u (.row ((l:Int)+1) c):=⟨c,h⟩
   have e1:g' u=((Classical.choose hx).map g).flatten:=dif_pos hx;have:=ub (fL hx) h;injection this with _ this
   rw[e1,this]
  have row:∀i (hi:i<us.length),At cs us[i] (.row ((l:Int)+1) ((Ik ts)[i]'(by rw[<-ro.1];exact hi))):=λi hi=>ro.2 i _ _ (aa hi) (aa (by rw[<-ro.1];exact hi))
  refine⟨g',λu hu'=>?_,?_⟩
  ·obtain⟨i,hi,rfl⟩:=bx hu';have a:=row i hi;rw[hg' a];refine .inr ⟨_,_,((Ik ts)[i]'(by rw[<-ro.1];exact hi)).map g,a,by rw[ab],λj u x h2 h3=>?_,rfl⟩;rw[aD,h2] at h3;cases h3;refine hg u ?_;rw[<-IP nets];exact ff.mpr ⟨_,bQ (show i<(Ik ts).length by rw[<-ro.1];exact hi),az h2⟩
  ·have e1:us.map g'=(Ik ts).map λc=>(c.map g).flatten:=by
    refine bV λi=>?_
    by_cases hi:i<us.length
    ·rw[aD,aD,aa hi,aa (show i<(Ik ts).length by rw[<-ro.1];exact hi)];exact congrArg some (hg' (row i hi))
    ·rw[aN (by rw[ab];lia),aN (by rw[ab,<-ro.1];lia)]
   rw[e1,Oq,IP nets,hf]
theorem PM {cs:List Cl}(nb:(cs.map (·.bk)).Nodup){ts0:List Tg}:∀{l:Nat} {us us':List Tg},Tw cs ts0 l us->Tw cs ts0 l us'->us=us'
 |0,us,us',h,h'=>(show us=ts0 from h).trans (show us'=ts0 from h').symm
 |l+1,us,us',h,h'=>by
  obtain⟨ts,h1,ro,_⟩:=h;obtain⟨ts',h1',ro',_⟩:=h';have:=PM nb h1 h1';subst this;refine bV λi=>?_
  have e1:=ro.1;have e2:=ro'.1
  by_cases hi:i<us.length
  ·have hi':i<us'.length:=by lia
   have hc:i<(Ik ts).length:=by lia
   rw[aa hi,aa hi'];exact congrArg some ((ro.2 i _ _ (aa hi) (aa hc)).tag nb (ro'.2 i _ _ (aa hi') (aa hc)))
  ·rw[aN (by lia),aN (by lia)]
theorem Li {cs:List Cl}{ts0:List Tg}:∀{l:Nat} {us:List Tg},Tw cs ts0 l us->∀k,0<k->k<l->∃ts,Tw cs ts0 k ts/\2<=ts.length
 |0,_,_,k,_,h=>absurd h (eC _)
 |l+1,us,h,k,k0,kl=>by
  obtain⟨ts,h1,_,h2⟩:=h
  by_cases e:k=l
  ·subst e;exact⟨ts,h1,h2 k0⟩
  ·exact Li h1 k k0 (by lia)
theorem TL {cs:List Cl}(nb:(cs.map (·.bk)).Nodup){ts0 ts0':List Tg}{ps:List (List Nat)}(h:DK cs ts0 ps)(h':DK cs ts0' ps):ts0=ts0':=by
 refine bV λi=>?_
 have e1:=h.1;have e2:=h'.1
 by_cases hi:i<ts0.length
 ·have hi':i<ts0'.length:=by lia
  have hp:i<ps.length:=by lia
  rw[aa hi,aa hi'];exact congrArg some ((h.2 i _ _ (aa hi) (aa hp)).tag nb (h'.2 i _ _ (aa hi') (aa hp)))
 ·rw[aN (by lia),aN (by lia)]
def WZ (cs:List Cl)(z:List Nat)(t:Tg):Prop:=∃lv ts0,lv<=8/\Tw cs ts0 (lv+1) [t]/\DK cs ts0 (cut full [] z)
theorem WZ.tag {cs:List Cl}(nb:(cs.map (·.bk)).Nodup){z:List Nat}{t t':Tg}(h:WZ cs z t)(h':WZ cs z t'):t=t':=by
 obtain⟨lv,ts0,_,h1,h2⟩:=h;obtain⟨lv',ts0',_,h1',h2'⟩:=h';have:=TL nb h2 h2';subst this;have key:∀{a b:Nat} {t t':Tg},a<b->Tw cs ts0 (a+1) [t]->Tw cs ts0 (b+1) [t']->False:=λ{a b t t'} hab x y=>by
  obtain⟨ts,h3,h4⟩:=Li y (a+1) (by lia) (by lia);have:=PM nb x h3;rw[<-this] at h4;simp at h4
 have:lv=lv':=by
  rcases Nat.lt_trichotomy lv lv' with h|h|h
  ·exact(key h h1 h1').elim
  ·exact h
  ·exact(key h h1' h1).elim
 subst this;have:=PM nb h1 h1';simpa using this
theorem WZ.cn {cs:List Cl}(nd:(cs.map (·.z)).Nodup){z:List Nat}{t:Tg}(h:WZ cs z t):Cn cs 11 t z:=by
 obtain⟨lv,ts0,h1,h2,h3⟩:=h
 by_cases ne:ts0=[]
 ·subst ne;have hz:cut full [] z=[]:=bC h3.1.symm;have z0:z=[]:=by have:=Gz (F:=full) z [];rw[hz] at this;exact this.symm
  subst z0;cases lv with
  |zero=>
   obtain⟨ts,e,ro,_⟩:=h2;have e:ts=[]:=e;subst e;exact(Cn.up (n:=1) (.inr ⟨_,[],[],ro.2 0 t [] rfl rfl,rfl,(λi u x h=>by cases h),rfl⟩) (by lia))
  |succ lv=>
   obtain⟨ts,h4,h5⟩:=Li h2 1 (by lia) (by lia);obtain⟨ts',e,ro,_⟩:=h4;have e:ts'=[]:=e;subst e;have:=ro.1;have:(Ik ([]:List Tg)).length=1:=rfl
   lia
 ·obtain⟨g,hg,hf⟩:=Wj nd ne h3 h2;have c:=hg t (ag.mpr rfl);rw[Gz] at hf;have e:g t=z:=by simpa using hf
  rw[e] at c;exact c.up (by lia)
end
open M06 M08 M10
section
variable {P:Program}{w:World}{K:W.Frag}{mg:Str->Option Value}{base:Heap}{f Ab Ad Aa Ae:Addr}{XC:Nat->Addr}{fd:FuncData}
structure Tow (cs:List Cl) (L:Nat->List Tg) (lv:Nat) (z:List Nat) (t:Tg):Prop where
 top:L (lv+1)=[t]
 l8:lv<=8
 row:∀i,i<=lv->FA cs ((i:Int)+1) (L i) (L (i+1))
 two:∀i,0<i->i<=lv->2<=(L i).length
 base:DK cs (L 0) (cut full [] z)
theorem Q0 {cs:List Cl}{ts0:List Tg}:∀{l:Nat} {us:List Tg},Tw cs ts0 l us->∃L:Nat->List Tg,L 0=ts0/\L l=us/\(∀i,i<l->FA cs ((i:Int)+1) (L i) (L (i+1)))/\∀i,0<i->i<l->2<=(L i).length
 |0,us,h=>⟨λ_=>ts0,rfl,h.symm,λi h=>absurd h (eC _),λi _ h=>absurd h (eC _)⟩
 |l+1,us,h=>by
  obtain⟨ts,h1,h2,h3⟩:=h;obtain⟨L,e0,el,hr,ht⟩:=Q0 h1;have hn:∀k,k<=l->(λk=>if k=l+1 then us else L k) k=L k:=λk hk=>ay (by lia)
  have hl:(λk=>if k=l+1 then us else L k) (l+1)=us:=aC rfl;refine⟨λk=>if k=l+1 then us else L k,(hn 0 (by lia)).trans e0,hl,λi hi=>?_,λi i0 hi=>?_⟩
  ·by_cases e:i=l
   ·subst e;rw[hn i (ah _),hl,el];exact h2
   ·rw[hn i (by lia),hn (i+1) (by lia)];exact hr i (by lia)
  ·rw[hn i (by lia)]
   by_cases e:i=l
   ·subst e;rw[el];exact h3 i0
   ·exact ht i i0 (by lia)
theorem WI {cs:List Cl}{z:List Nat}{t:Tg}(h:WZ cs z t):∃L lv,Tow cs L lv z t:=by
 obtain⟨lv,ts0,h1,h2,h3⟩:=h;obtain⟨L,e0,el,hr,ht⟩:=Q0 h2;exact⟨L,lv,el,h1,λi hi=>hr i (by lia),λi i0 hi=>ht i i0 (by lia),by rw[e0];exact h3⟩
section
variable {cs:List Cl}{L:Nat->List Tg}{lv:Nat}{z:List Nat}{t:Tg}
theorem Tow.tw (h:Tow cs L lv z t):∀i,i<=lv+1->Tw cs (L 0) i (L i)
 |0,_=>rfl
 |i+1,hi=>⟨L i,h.tw i (by lia),h.row i (by lia),λi0=>h.two i i0 (by lia)⟩
theorem Tow.twr (h:Tow cs L lv z t):WZ cs z t:=⟨lv,L 0,h.l8,by have:=h.tw (lv+1) (ah _);rw[h.top] at this;exact this,h.base⟩
theorem Tow.at (h:Tow cs L lv z t):∀i,i<=lv+1->∀u∈L i,∃b,At cs u b/\MO b=(i:Int)
 |0,_,u,hu=>by
  obtain⟨k,hk,rfl⟩:=bx hu;exact⟨_,h.base.2 k _ _ (aa hk) (aa (by rw[<-h.base.1];exact hk)),rfl⟩
 |i+1,hi,u,hu=>by
  obtain⟨k,hk,rfl⟩:=bx hu;have r:=h.row i (by lia);exact⟨_,r.2 k _ _ (aa hk) (aa (by rw[<-r.1];exact hk)),rfl⟩
theorem Tow.up (h:Tow cs L lv z t){i:Nat}(hi:i<=lv){u:Tg}(hu:u∈L i):∃w∈L (i+1),∃c,At cs w (.row ((i:Int)+1) c)/\u∈c:=by
 have r:=h.row i hi;have ne:L i≠[]:=λe=>by rw[e] at hu;cases hu
 rw[<-IP ne] at hu;obtain⟨c,hc,huc⟩:=ff.mp hu;obtain⟨k,hk,rfl⟩:=bx hc;have hk2:k<(L (i+1)).length:=by rw[r.1];exact hk
 exact⟨_,bQ hk2,_,r.2 k _ _ (aa hk2) (aa hk),huc⟩
theorem Tow.down (nd:(cs.map (·.z)).Nodup)(h:Tow cs L lv z t){i:Nat}(hi:i<=lv){w:Tg}(hw:w∈L (i+1)){b:Bk}(hb:At cs w b):∀u∈AK b,u∈L i:=by
 have r:=h.row i hi;obtain⟨k,hk,rfl⟩:=bx hw;have hk2:k<(Ik (L i)).length:=by rw[<-r.1];exact hk
 rw[hb.bk nd (r.2 k _ _ (aa hk) (aa hk2))];intro u hu;have hu:u∈(Ik (L i))[k]:=hu
 by_cases ne:L i=[]
 ·have e:Ik (L i)=[[]]:=by rw[ne];rfl
  have:(Ik (L i))[k]∈([[]]:List (List Tg)):=by rw[<-e];exact bQ hk2
  rw[ag.mp this] at hu;cases hu
 ·rw[<-IP ne];exact ff.mpr ⟨_,bQ hk2,hu⟩
theorem Tow.len (h:Tow cs L lv z t)(hz:z.length<=80):∀i,i<=lv+1->(L i).length<=81/\(0<i->1<=(L i).length)
 |0,_=>by
  have:=KZ full z [];have:=h.base.1;exact⟨by lia,λh=>absurd h (cL _)⟩
 |i+1,hi=>by
  have r:=(h.row i (by lia)).1;have j:=h.len hz i (by lia)
  by_cases ne:L i=[]
  ·have e:(Ik (L i)).length=1:=by rw[ne];rfl
   lia
  ·have:=Iw ne;have:0<(L i).length:=cD.mpr ne
   lia
def Iy (L:Nat->List Tg):Nat->List Tg
 |0=>L 0
 |n+1=>Iy L n++L (n+1)
theorem Ng {u:Tg}:∀{n:Nat},u∈Iy L n↔∃i,i<=n/\u∈L i
 |0=>⟨λh=>⟨0,ah _,h⟩,(by rintro⟨i,hi,h⟩;exact by rw[iE.mp hi] at h;exact h)⟩
 |n+1=>by
  show u∈Iy L n++L (n+1)↔_;rw[ai,Ng];constructor
  ·rintro(⟨i,hi,h⟩|h)
   ·exact⟨i,by lia,h⟩
   ·exact⟨n+1,ah _,h⟩
  ·rintro⟨i,hi,h⟩
   by_cases e:i=n+1
   ·subst e;exact .inr h
   ·exact .inl ⟨i,by lia,h⟩
theorem Tow.size (h:Tow cs L lv z t)(hz:z.length<=80):(Iy L (lv+1)).length<=173:=by
 have key:∀n,n<=lv+1->(Iy L n).length+(L n).length<=2*(L 0).length+n+1:=by
  intro n
  induction n with
  |zero=>intro _;show(L 0).length+_<=_;lia
  |succ n ih=>
   intro hn;have i:=ih (by lia);have r:=(h.row n (by lia)).1;show(Iy L n++L (n+1)).length+_<=_;rw[ar]
   by_cases ne:L n=[]
   ·have e:(Ik (L n)).length=1:=by rw[ne];rfl
    have l0:(L n).length=0:=by rw[ne];rfl
    cases n with
    |zero=>
     have:(Iy L 0).length=(L 0).length:=rfl
     lia
    |succ m=>have:=(h.len hz (m+1) (by lia)).2 (by lia);lia
   ·have:=Iw ne;lia
 have k:=key (lv+1) (ah _);have l0:=(h.len hz 0 (by lia)).1;have lt:=(h.len hz (lv+1) (ah _)).2 (by lia);have:=h.l8
 lia
end
def Qs (cs:List Cl)(i:Nat)(ts:List Tg)(ps:List Fq):Prop:=ps.map (λx=>x.2.1)=ts/\∀x∈ps,Fo cs i x.2.1 x.2.2
theorem Wl {cs:List Cl}{H:Hp}{i:Nat}{as:List Addr}{us:List Tg}{fs:List (List Nat)}(h1:as.length=us.length)(h2:us.length=fs.length)(h:∀(k:Nat) a u f,as[k]?=some a->us[k]?=some u->fs[k]?=some f->Fo cs i u f/\H a=some (.tup [.str (toS f),.int u.2.2])) :
  ∃ps:List Fq,Qs cs i us ps/\ps.map (λx=>V.ref x.1)=as.map V.ref/\ps.map (λx=>x.2.2)=fs/\My H ps:=by
 have m:∀x∈as.zip (us.zip fs),∃k,as[k]?=some x.1/\us[k]?=some x.2.1/\fs[k]?=some x.2.2:=λx hx=>by
  obtain⟨k,hk,rfl⟩:=bx hx;have hk':k<min as.length (min us.length fs.length):=by rw[gG,gG] at hk;exact hk
  refine⟨k,?_,?_,?_⟩
  ·rw[dZ,aa (by lia)]
  ·rw[dZ,dZ,aa (by lia)]
  ·rw[dZ,dZ,aa (by lia)]
 have lz:(us.zip fs).length=us.length:=by rw[gG];lia
 have e1:(as.zip (us.zip fs)).map (·.1)=as:=List.map_fst_zip (by lia);have e2:(as.zip (us.zip fs)).map (·.2)=us.zip fs:=gr (by lia);refine⟨as.zip (us.zip fs),⟨?_,λx hx=>?_⟩,?_,?_,λx hx=>?_⟩
 ·have:=congrArg (List.map λy:Tg×List Nat=>y.1) e2;rw[aI,List.map_fst_zip (by lia)] at this;exact this
 ·obtain⟨k,a,b,c⟩:=m x hx;exact(h k _ _ _ a b c).1
 ·have:=congrArg (List.map V.ref) e1;rw[aI] at this;exact this
 ·have:=congrArg (List.map λy:Tg×List Nat=>y.2) e2;rw[aI,gr (by lia)] at this;exact this
 ·obtain⟨k,a,b,c⟩:=m x hx;exact(h k _ _ _ a b c).2
theorem Me {lv:Int}(h0:0<=lv)(h1:lv<=100):∀{gs:List (List Fq)},(∀g∈gs,∀x∈g,x.2.2.length<=999999999)->sumF (gs.map λg=>RT lv (g.map λx=>x.2.2))<=sumF (gs.flatten.map λx=>x.2.2)+10*gs.flatten.length+11*gs.length
 |[],_=>aR _
 |g::gs,b=>by
  have i:=Me h0 h1 (gs:=gs) λg hg=>b g (ao _ hg)
  have r:=WS (lv:=lv) (ls:=g.map λx=>x.2.2) h0 h1 λf hf=>by
   obtain⟨x,hx,rfl⟩:=ae.mp hf;exact b g av x hx
  rw[ab] at r;rw[bI,aJ,OT,ar,aL];unfold sumF at i ⊢;rw[au,au,bR]
  lia
theorem Nd {cs:List Cl}{H:Hp}{i:Nat}{ts us:List Tg}{ps:List Fq}{as:List Addr}(ro:FA cs ((i:Int)+1) ts us)(ne:ts≠[])(hi:i<=90)(h:Qs cs i ts ps)(b:∀x∈ps,x.2.2.length<=999999999)(rw':LO H ((i:Int)+1) (C1 [] ps) as) :
  ∃ps',Qs cs (i+1) us ps'/\ps'.map (λx=>V.ref x.1)=as.map V.ref/\sumF (ps'.map λx=>x.2.2)<=sumF (ps.map λx=>x.2.2)+10*ps.length+11*us.length/\My H ps':=by
 have eg:(C1 [] ps).map (λg=>g.map λx=>x.2.1)=Ik ts:=by rw[LI,h.1,Ru ne];rfl
 have lg:(C1 [] ps).length=us.length:=by rw[ro.1,<-eg,ab]
 have fl:=Jx ps [];rw[List.nil_append] at fl;have inp:∀g∈C1 [] ps,∀x∈g,x∈ps:=λg hg x hx=>by rw[<-fl];exact ff.mpr ⟨g,hg,hx⟩
 obtain⟨ps',h1,h2,h3,h4⟩:=Wl (cs:=cs) (H:=H) (i:=i+1) (as:=as) (us:=us) (fs:=(C1 [] ps).map λg=>RT ((i:Int)+1) (g.map λx=>x.2.2)) (by rw[rw'.1,lg]) (by rw[ab,lg]) λk a u f ha hu' hf=>by
  rw[aD] at hf;obtain⟨g,hg,rfl⟩:=aV.mp hf;have hgm:=az hg;have hc:(Ik ts)[k]?=some (g.map λx=>x.2.1):=by rw[<-eg,aD,hg];rfl
  have at1:=ro.2 k u _ hu' hc;refine⟨⟨_,g.map λx=>x.2.2,at1,by rw[ab,ab],λj v x h1 h2=>?_,λx hx=>?_,rfl⟩,?_⟩
  ·rw[aD] at h1 h2;obtain⟨y,hy,rfl⟩:=aV.mp h1;rw[hy] at h2;cases h2;exact h.2 y (inp g hgm y (az hy))
  ·obtain⟨y,hy,rfl⟩:=ae.mp hx;exact b y (inp g hgm y hy)
  ·have e:=rw'.2 k a g ha hg;obtain⟨c,hc',ec,eb⟩:=at1;rw[<-ec,eb];exact e
 refine⟨ps',h1,h2,?_,h4⟩;rw[h3];have s:=Me (lv:=(i:Int)+1) (gs:=C1 [] ps) (by lia) (by lia) λg hg x hx=>b x (inp g hg x hx)
 rw[fl] at s
 lia
end
open M06 M08 M10
section
variable {P:Program}{w:World}{K:W.Frag}{mg:Str->Option Value}{base:Heap}{f Ab Ad Aa Ae:Addr}{XC:Nat->Addr}{fd:FuncData}
def Zj (s:V):Addr:=match s with | .ref a=>a|_=>0
theorem SV {ys:List V}(h:∀v∈ys,∃a,v=V.ref a):ys=(ys.map Zj).map V.ref:=by
 rw[aI];refine(List.map_id' ys).symm.trans (cC λv hv=>?_);obtain⟨a,rfl⟩:=h v hv;rfl
def Hi (K:W.Frag):Sp:=λvs H Q _=>∃z cs L lv t,vs=[.str z]/\Tow cs L lv (A3 z) t/\(cs.map (·.z)).Nodup/\z.length<=80/\C2 z/\∀H' r (fs:List (List Nat)),As H H'->H r=none->H' r=some (.lst (CH fs))->fs.length<=1000->(∀f,f∈fs↔∃i u,i<=lv+1/\u∈L i/\Fo cs i u f)->(∀i u,i<=lv+1->u∈L i->∃f,Fo cs i u f)->Q (.ref r) H'
theorem Ld {ps:List Fq}{l:Addr}{Q:VK}{σ:St}{H:Hp}(hl:H l=some (.lst (ps.map λx=>V.ref x.1)))(hps:My H ps)(hn:ps.length<=1000000)(hQ:∀l H',H l=none->As H H'->H' l=some (.lst (CH (ps.map λx=>x.2.2)))->Q (.ref l) H') :
  Fm (List.map (λx=>none) [PySem.Str.ofString "_law_form",PySem.Str.ofString "_law_total"]) (TR K 2 (Lu (BH 0) (Lu (BH 1) VW))) Qw (TJ 0) σ Q (W6 K l) H:=by
 refine Jv (ps:=ps) (g:=(·.1)) (A:=λx=>.str (toS x.2.2)) (B:=λx=>.int x.2.1.2.2) (f:=λx=>.str (toS x.2.2)) (Ck (AJ.of hl)) hps hn rfl (by decide) (λy hy H4 R s4 hR=>⟨_,rfl,hR H4 (As.refl _)⟩) λl4 H4 nl4 s4 hl4=>hQ l4 H4 nl4 s4 ?_
 rw[hl4];unfold CH;rw[aI];rfl
theorem MQ {cs:List Cl}{i:Nat}{ts:List Tg}{ps:List Fq}(nd:(cs.map (·.z)).Nodup)(h:Qs cs i ts ps)(f:List Nat):f∈ps.map (λx=>x.2.2)↔∃u∈ts,Fo cs i u f:=by
 rw[ae];constructor
 ·rintro⟨x,hx,rfl⟩
  exact⟨x.2.1,by rw[<-h.1];exact ae.mpr ⟨x,hx,rfl⟩,h.2 x hx⟩
 ·rintro⟨u,hu,hf⟩
  rw[<-h.1] at hu;obtain⟨x,hx,rfl⟩:=ae.mp hu;exact⟨x,hx,(h.2 x hx).det nd hf⟩
theorem Ph (a b:List (List Nat)):CH a++CH b=CH (a++b):=by unfold CH;rw[aJ]
def Zg (H:Hp)(cs:List Cl)(L:Nat->List Tg)(lv:Nat)(z:Str)(m:Nat)(σ:St)(H':Hp):Prop:=∃(i:Nat) (rl fl:Addr) (ps:List Fq) (fs:List (List Nat)),m=lv-i/\i<=lv/\σ=[some (.str z),some (.ref rl),some (.ref fl),some (.int ((i:Int)+1))]/\As H H'/\H fl=none/\H' rl=some (.lst (ps.map λx=>.ref x.1))/\My H' ps/\Qs cs (i+1) (L (i+1)) ps/\H' fl=some (.lst (CH fs))/\fs.length<=81*(i+2)/\sumF (ps.map λx=>x.2.2)<=729+1701*(i+1)/\(∀f,f∈fs↔∃k u,k<=i+1/\u∈L k/\Fo cs k u f)/\∀k u,k<=i+1->u∈L k->∃f,Fo cs k u f
theorem OA {cs:List Cl}{L:Nat->List Tg}{i:Nat}{ps:List Fq}{fs:List (List Nat)}(nd:(cs.map (·.z)).Nodup)(h:Qs cs (i+1) (L (i+1)) ps)(hm:∀f,f∈fs↔∃k u,k<=i/\u∈L k/\Fo cs k u f)(f:List Nat):f∈fs++ps.map (λx=>x.2.2)↔∃k u,k<=i+1/\u∈L k/\Fo cs k u f:=by
 rw[ai,hm,MQ nd h];constructor
 ·rintro(⟨k,u,h1,h2,h3⟩|⟨u,h2,h3⟩)
  ·exact⟨k,u,by lia,h2,h3⟩
  ·exact⟨i+1,u,ah _,h2,h3⟩
 ·rintro⟨k,u,h1,h2,h3⟩
  by_cases e:k=i+1
  ·subst e;exact .inr ⟨u,h2,h3⟩
  ·exact .inl ⟨k,u,by lia,h2,h3⟩
theorem Pw {cs:List Cl}{i:Nat}{ts:List Tg}{ps:List Fq}(h:Qs cs i ts ps){u:Tg}(hu:u∈ts):∃f,Fo cs i u f:=by
 rw[<-h.1] at hu;obtain⟨x,hx,rfl⟩:=ae.mp hu;exact⟨_,h.2 x hx⟩
theorem Q9 {cs:List Cl}{L:Nat->List Tg}{i:Nat}{ps:List Fq}(h:Qs cs (i+1) (L (i+1)) ps)(hm:∀k u,k<=i->u∈L k->∃f,Fo cs k u f)(k:Nat)(u:Tg)(hk:k<=i+1)(hu:u∈L k):∃f,Fo cs k u f:=by
 by_cases e:k=i+1
 ·subst e;exact Pw h hu
 ·exact hm k u (by lia) hu
theorem Mt (T:Txt K mg Ab Ad Aa Ae XC)(F:Fun K "_law_forms" "_law_forms" FK f fd)(EJ:Def P w K mg base 2 "_law_rows" ["_law_forms_here","_law_level"] (Ir K))(HL:Def P w K mg base 2 "_law_sum" ["_law_block"] (JY K))(Il:Def P w K mg base 2 "_law_cut" ["_law_text_here"] (Kq K))(BZ:Def P w K mg base 1 "_law_written" ["_law_level","_law_forms_here"] (DO K)):FnOk P w K mg base BI 3 f fd ["_law_text_here"] (Hi K):=by
 exists Br
 ·obtain⟨z,cs,L,lv,t,rfl,_⟩:=h;rfl
 obtain⟨z,cs,L,lv,t,rfl,tw,nd,lz,zs,q⟩:=h;have hu:=BL hr;refine⟨_,(!Af (@IF _ ["_law_piece"] (1) _ _ _ _ _ _ _ _ _ _ _ _ _ Br.nd rfl (by trivial) rfl (!A2 (!AG Il (by trivial) rfl (!Ac (pv 0) (!Ah)))) (by decide +kernel) (λC s H fp=>⟨(@An _ _ (0) _ (show(["_law_piece"]:List Str).Nodup by decide +kernel) rfl (by trivial) (by trivial)),(!AM),(!DE (!Ac (!Ar Bq (!BP) (pv 0)) (!Ac (!AG HL (by trivial) rfl (!Ac (!DE (!Ac (!Ai) (!Ac (pv 0) (!Ah)))) (!Ah))) (!Ah))))⟩) (by intro _;rfl) (by rfl) (by trivial)) (!Af (@IF _ ["_law_form","_law_total"] (2) _ _ _ _ _ _ _ _ _ _ _ _ _ Br.nd rfl (by trivial) rfl (!A2 (pv 1)) (by decide +kernel) (λC s H fp=>⟨(@Dx _ (K) _ _ _ _ (2) (by rfl) rfl (!AA (@An _ _ (0) _ (show(["_law_form","_law_total"]:List Str).Nodup by decide +kernel) rfl (by trivial) (by trivial)) (!AA (@An _ _ (1) _ (show(["_law_form","_law_total"]:List Str).Nodup by decide +kernel) rfl (by trivial) (by trivial)) (!BF))) (by rfl) (by rfl)),(!AM),(pv 0)⟩) (by intro _;rfl) (by rfl) (by trivial)) (!Af (@Ap _ _ (3) _ _ _ _ Br.nd rfl (by trivial) (!Ai) (by rfl) (by trivial)) (!Af (@Ap _ _ (1) _ _ _ _ Br.nd rfl (by trivial) (!AG EJ (by trivial) rfl (!Ac (pv 1) (!Ac (pv 3) (!Ah)))) (by rfl) (by trivial)) (!Af (!AL (!Aw Bb (pv 0) (!BP) (Av _)) (!Ak (!Ao (!Be (!Ac (!AG BZ (by trivial) rfl (!Ac (!Ai) (!Ac (!Be (!Ah)) (!Ah)))) (!Ah))))) (!Au)) (!Af (@Ap _ _ (2) _ _ _ _ Br.nd rfl (by trivial) (!Ar DY (pv 2) (@Bl _ ["_law_form","_law_total"] _ _ _ _ _ _ _ _ _ _ rfl (!A2 (pv 1)) (by decide +kernel) (λC s H fp=>⟨(@Dx _ (K) _ _ _ _ (2) (by rfl) rfl (!AA (@An _ _ (0) _ (show(["_law_form","_law_total"]:List Str).Nodup by decide +kernel) rfl (by trivial) (by trivial)) (!AA (@An _ _ (1) _ (show(["_law_form","_law_total"]:List Str).Nodup by decide +kernel) rfl (by trivial) (by trivial)) (!BF))) (by rfl) (by rfl)),(!AM),(pv 0)⟩) (by intro _;rfl))) (by rfl) (by trivial)) (!Af (!IS aU (!Aw FX (!Aq Az (by rfl) T.b_len AZ (!Ac (pv 1) (!Ah))) (!Ai) (Av _)) (!Af (@Ap _ _ (3) _ _ _ _ Br.nd rfl (by trivial) (!Ar Bu (pv 3) (!Ai)) (by rfl) (by trivial)) (!Af (@Ap _ _ (1) _ _ _ _ Br.nd rfl (by trivial) (!AG EJ (by trivial) rfl (!Ac (pv 1) (!Ac (pv 3) (!Ah)))) (by rfl) (by trivial)) (!Ak (@Ap _ _ (2) _ _ _ _ Br.nd rfl (by trivial) (!Ar DY (pv 2) (@Bl _ ["_law_form","_law_total"] _ _ _ _ _ _ _ _ _ _ rfl (!A2 (pv 1)) (by decide +kernel) (λC s H fp=>⟨(@Dx _ (K) _ _ _ _ (2) (by rfl) rfl (!AA (@An _ _ (0) _ (show(["_law_form","_law_total"]:List Str).Nodup by decide +kernel) rfl (by trivial) (by trivial)) (!AA (@An _ _ (1) _ (show(["_law_form","_law_total"]:List Str).Nodup by decide +kernel) rfl (by trivial) (by trivial)) (!BF))) (by rfl) (by rfl)),(!AM),(pv 0)⟩) (by intro _;rfl))) (by rfl) (by trivial)))))) (!Ak (!Ao (pv 2)))))))))),?_⟩
 try dsimp only[BM,Cx.nox,Cx.wish]
 have tl:=tw.len (z:=A3 z) (by rw[AO];exact lz);have l0:=tw.base.1;have okp:=Od (A3 z) [] (by decide) (λ_ h=>nomatch h) zs;have e00:z.length≠0->L 0≠[]:=λh e=>by
  rw[e] at l0;have:=Gz (F:=full) (A3 z) [];rw[bC l0.symm] at this;have:=congrArg List.length this;simp at this;exact h this.symm
 have e01:z.length=0->L 0=[]:=λh=>by
  have e:A3 z=[]:=bC (by rw[AO];exact h);rw[e] at l0;exact bC l0
 refine AF λN eN=>?_
 refine⟨_,rfl,z,rfl,by lia,zs,λr H1 s1 nr hr=>⟨r,rfl,⟨_,AJ.of hr⟩,?_⟩⟩;have tb:=tw.base;generalize cut full [] (A3 z)=pc at hr okp l0 tb;have at0:∀(k:Nat) u c,(L 0)[k]?=some u->pc[k]?=some c->At cs u (.piece (toS c)):=tb.2;have l81:=(tl 0 (by lia)).1;refine Pb (λi H1 y H2=>∃a c,y=.ref a/\pc[i]?=some c/\H2 a=some (.tup [.str (toS (112::c)),.int (AR (.piece (toS c)))])) (λi H1 y H2 H3 ⟨a,c,h1,h2,h3⟩ s=>⟨a,c,h1,h2,s.get h3⟩) (λi H1 y H2 l us us' ws ⟨a,c,h1,h2,h3⟩ _ hl=>⟨a,c,h1,h2,by rw[Aj (AQ h3 hl (by intro z;cases z))];exact h3⟩) (Ck (AJ.of hr)) (by rw[BC];lia) (λi x H2 R hx s2 hR=>?_) λl2 H2 ys nl2 s2 hl2 ly hys=>?_
 ·unfold CH at hx;rw[aD] at hx;obtain⟨c,hc,rfl⟩:=aV.mp hx;have okc:=O7 (okp c (az hc));have lc:=(okp c (az hc)).2.1;refine⟨_,rfl,_,_,rfl,rfl,small (by rw[DV];show 1+c.length<=_;lia),_,rfl,Ms,λtp htp=>?_⟩;have s3:=Al htp (.tup [V.int 0,V.str (toS c)]);refine⟨_,toS c,rfl,⟨tp,_,rfl,Ag,_,_,rfl,rfl,_,_,rfl,rfl,rfl⟩,okc,λH4 s4=>?_⟩;refine⟨Ms,λt2 ht2=>?_⟩;exact hR _ _ (s3.trans (s4.trans (Al ht2 _))) ⟨t2,c,rfl,hc,by rw[Ag,show PySem.Str.ofString "p"++toS c=toS (112::c) from Dz (by rw[DW,BV,BV];rfl)]⟩
 rw[BC] at ly;have hys':∀(k:Nat) v,ys[k]?=some v->∃a c,v=.ref a/\pc[k]?=some c/\H2 a=some (.tup [.str (toS (112::c)),.int (AR (.piece (toS c)))]):=λk v hv=>by
  obtain⟨_,_,h⟩:=hys k v hv;exact h
 have er:=SV λv hv=>by
  obtain⟨k,hk⟩:=fO hv;obtain⟨a,c,e,_⟩:=hys' k v hk;exact⟨a,e⟩
 obtain⟨ps,hq,ea,ef,hfs⟩:=Wl (cs:=cs) (H:=H2) (i:=0) (as:=ys.map Zj) (us:=L 0) (fs:=pc.map λc=>112::c) (by rw[ab];lia) (by rw[ab];exact l0) λk a u f ha hu' hf=>by
  rw[aD] at ha hf;obtain⟨v,hv,rfl⟩:=aV.mp ha;obtain⟨c,hc,rfl⟩:=aV.mp hf;obtain⟨a,c',rfl,hc',h3⟩:=hys' k v hv;rw[hc] at hc';cases hc';have a1:=at0 k u c hu' hc;refine⟨⟨c,a1,rfl⟩,?_⟩;obtain⟨e,he,et,eb⟩:=a1;rw[<-et,eb];exact h3
 rw[er,<-ea] at hl2;have bp:∀x∈ps,x.2.2.length<=9:=λx hx=>by
  have:x.2.2∈pc.map λc=>112::c:=by rw[<-ef];exact ae.mpr ⟨x,hx,rfl⟩
  obtain⟨c,hc,e⟩:=ae.mp this;have:=(okp c hc).2.1;rw[<-e,aL]
  lia
 have lps:ps.length=(L 0).length:=by rw[<-hq.1,ab]
 have sm0:sumF (ps.map λx=>x.2.2)<=9*ps.length:=by
  clear ef hl2 ea hq hfs lps
  induction ps with
  |nil=>exact aR _
  |cons x ps ih=>
   have:=ih λy hy=>bp y (ao _ hy)
   have:=bp x av;unfold sumF at *;rw[au,au,bR,aL]
   lia
 have s12:=s1.trans s2
 clear hys' hys er ea ef okp
 subst eN;dsimp only;refine AF λN eN=>?_
 refine⟨_,rfl,l2,rfl,⟨_,AJ.of hl2⟩,Ld hl2 hfs (by lia) λl3 H3 nl3 s3 hl3=>?_⟩;subst eN;dsimp only;have m0:=MQ nd hq;have x0:∀u∈L 0,∃f,Fo cs 0 u f:=λu hu=>Pw hq hu
 have l3len:(CH (ps.map λx=>x.2.2)).length=ps.length:=by rw[BC,ab]
 refine AF λN eN=>?_
 change N _ _
 subst eN;refine AF λN eN=>?_
 refine⟨_,rfl,_,rfl,1,l2,ps,rfl,s3.get hl2,hfs.same s3,by decide,by decide,by lia,by lia,λH4 r4 as s4 nr4 hr4 hrw=>?_⟩;subst eN;dsimp only;refine AF λN eN=>?_
 refine⟨_,rfl,rfl,_,rfl,Cs (λc=>?_) (λc=>?_)⟩
 ·have z0:z.length=0:=by
   have:=V.str.inj (bf c);rw[this];rfl
  have ez:=e01 z0;have r0:=tw.row 0 (aR _);have c0:Ik (L 0)=[[]]:=by rw[ez];rfl
  have lv0:lv=0:=bO λh=>by
   have h2:=tw.two 1 (by decide) (by lia);have h3:=r0.1;rw[c0] at h3;have h3:(L 1).length=1:=h3
   lia
  subst lv0;have tp:L 1=[t]:=tw.top;have at1:At cs t (.row 1 []):=r0.2 0 t [] (by rw[show L (0+1)=[t] from tp];rfl) (by rw[c0];rfl);refine⟨Hf,λe he=>?_⟩;have s5:=Al he (.lst []);refine⟨1,e,[],rfl,Ag,by decide,by decide,by decide,aR _,λH6 s6=>?_⟩;refine⟨Qx,λg hg=>?_⟩;have s16:=s12.trans (s3.trans (s4.trans (s5.trans s6)));refine q _ g [RT 1 []] (s16.trans (Al hg _)) (s16.free hg) Ag (by show 1<=1000;decide) (λf=>?_) λi u hi hu'=>?_
  rw[ag];constructor
  ·rintro rfl
   exact⟨1,t,by decide,by rw[tp];exact ag.mpr rfl,[],[],at1,rfl,(λi u x h=>by cases h),(λ_ h=>nomatch h),rfl⟩
  ·rintro⟨i,u,hi,hu',hf⟩
   cases i with
   |zero=>rw[ez] at hu';cases hu'
   |succ i=>
    have:i=0:=by lia
    subst this;have hu':u∈L 1:=hu';rw[tp] at hu';rw[ag.mp hu'] at hf;exact hf.det nd ⟨[],[],at1,rfl,(λi u x h=>by cases h),(λ_ h=>nomatch h),rfl⟩
  ·cases i with
   |zero=>exact x0 u hu'
   |succ i=>
    have:i=0:=by lia
    subst this;have hu':u∈L 1:=hu';rw[tp] at hu';rw[ag.mp hu'];exact⟨_,[],[],at1,rfl,(λi u x h=>by cases h),(λ_ h=>nomatch h),rfl⟩
 have z1:z.length≠0:=λh=>c (aH (congrArg V.str (Dz (by
  have:A3 z=[]:=bC (by rw[AO];exact h);rw[this];rfl))))
 have ne0:=e00 z1;subst eN
 try dsimp only[O9]
 obtain⟨ps1,hq1,ea1,sm1,hfs1⟩:=Nd (tw.row 0 (aR _)) ne0 (by decide) hq (λx hx=>by have:=bp x hx;lia) hrw;rw[<-ea1] at hr4;have l1:=(tl 1 (by lia)).1;have l1':(L (0+1)).length<=81:=l1;have lp1:ps1.length=(L 1).length:=by rw[<-hq1.1,ab]
 refine AF λN eN=>?_
 refine⟨_,rfl,_,rfl,r4,rfl,⟨_,AJ.of hr4⟩,Ld hr4 hfs1 (by lia) λl5 H5 nl5 s5 hl5=>?_⟩;refine⟨l3,l5,_,_,rfl,rfl,AJ.of (s5.get (s4.get hl3)),AJ.of hl5,small (by rw[BC,BC,ab,ab];lia),λl6 hl6=>?_⟩;have s6:=Al hl6 (.lst (CH (ps.map λx=>x.2.2)++CH (ps1.map λx=>x.2.2)));have s15:=s12.trans (s3.trans (s4.trans s5));rw[Ph] at s6 ⊢;subst eN;dsimp only;refine AF λN eN=>?_
 refine⟨Zg H cs L lv z,⟨_,0,r4,l6,ps1,_,rfl,aR _,rfl,s15.trans s6,s15.free hl6,s6.get (s5.get hr4),(hfs1.same s5).same s6,hq1,Ag,by rw[ar,ab,ab];lia,by lia,OA (i:=0) nd hq1 λf=>by
  rw[m0];exact⟨(by rintro⟨u,h1,h2⟩;exact⟨0,u,ah _,h1,h2⟩),λ⟨k,u,h1,h2,h3⟩=>by
   have:k=0:=iE.mp h1;subst this;exact⟨u,h2,h3⟩⟩,Q9 (i:=0) hq1 λk u h1 h2=>by
  have:k=0:=iE.mp h1;subst this;exact x0 u h2⟩,?_⟩
 clear hl3 hl5 s6 s15 hr4 hl2 hfs hfs1 hq hq1 m0 sm0 sm1 bp
 rintro m σ H' ⟨i,rl,fl,ps,fs,rfl,hi,rfl,s',nfl,hrl,hfs,hq,hfl,lfs,sm,hm,hx⟩
 have lps:ps.length=(L (i+1)).length:=by rw[<-hq.1,ab]
 have li:=(tl (i+1) (by lia)).1;have lv8:=tw.l8;refine⟨_,rfl,rl,_,rfl,.inl (AJ.of hrl),_,_,rfl,rfl,_,rfl,Cs (λhk=>?_) (λhk=>?_)⟩
 ·have h2:2<=ps.length:=by
   have:=bf hk;rw[ab] at this
   lia
  have hlt:i<lv:=bO λh=>by
   have:i=lv:=by lia
   subst this;rw[tw.top] at lps;have:ps.length=1:=lps
   lia
  have nei:L (i+1)≠[]:=λe=>by
   rw[e] at lps;have:ps.length=0:=lps
   lia
  refine⟨λσ' H''=>∃m',m'<lv-i/\Zg H cs L lv z m' σ' H'',λσ' H'' h=>h,?_⟩;dsimp only;refine AF λM eM=>?_
  refine⟨_,rfl,_,_,rfl,rfl,?_⟩;subst eM;dsimp only;refine AF λM eM=>?_
  refine⟨_,rfl,_,rfl,(i:Int)+1+1,rl,ps,rfl,hrl,hfs,by lia,by lia,by lia,by lia,λH4 r4 as s4 nr4 hr4 hrw=>?_⟩;subst eM;dsimp only;have ei:((i+1:Nat):Int)+1=(i:Int)+1+1:=by lia
  rw[<-ei] at hrw;obtain⟨ps1,hq1,ea1,sm1,hfs1⟩:=Nd (tw.row (i+1) (by lia)) nei (by lia) hq (λx hx=>by
   have:=O5 (ls:=ps.map λx=>x.2.2) (ae.mpr ⟨x,hx,rfl⟩)
   lia) hrw
  rw[<-ea1] at hr4;have l1:=(tl (i+1+1) (by lia)).1;have lp1:ps1.length=(L (i+1+1)).length:=by rw[<-hq1.1,ab]
  refine⟨_,rfl,_,rfl,r4,rfl,⟨_,AJ.of hr4⟩,Ld hr4 hfs1 (by lia) λl5 H5 nl5 s5 hl5=>?_⟩;refine⟨fl,l5,_,_,rfl,rfl,AJ.of (s5.get (s4.get hfl)),AJ.of hl5,small (by rw[BC,BC,ab];lia),λl6 hl6=>?_⟩;have s6:=Al hl6 (.lst (CH fs++CH (ps1.map λx=>x.2.2)));have s15:=s'.trans (s4.trans s5);rw[Ph] at s6 ⊢;exact⟨_,(show lv-(i+1)<lv-i by lia),i+1,r4,l6,ps1,_,rfl,hlt,by rw[ei];rfl,s15.trans s6,s15.free hl6,s6.get (s5.get hr4),(hfs1.same s5).same s6,hq1,Ag,by rw[ar,ab];lia,by lia,OA nd hq1 hm,Q9 hq1 hx⟩
 ·have eil:i=lv:=bO λh=>by
   have h2:=tw.two (i+1) (by lia) (by lia);refine hk (aH ?_);rw[ab]
   lia
  subst eil;subst eN;exact⟨_,rfl,q H' fl fs s' nfl hfl (by lia) hm hx⟩
end
open M06 M08 M10
section
variable {P:Program}{w:World}{K:W.Frag}{mg:Str->Option Value}{base:Heap}{f Ab Ad Aa Ae:Addr}{XC:Nat->Addr}{fd:FuncData}
theorem Vr (z:Str){i:Int}(h0:0<=i):∃n,A3 (PySem.Txt.slice z (some i) none)=(A3 z).drop n:=by
 have hz:=AO z
 by_cases h:i<=z.length
 ·refine⟨i.toNat,?_⟩;show A3 (StrLaws.sliceText z (some i) none)=_;rw[StrLaws.sliceText_from ⟨h0,by rw[hz];exact h⟩];refine aK ?_;rw[bP];show(A3 z).length-i.toNat<=(((A3 z).length:Int)-i).toNat
  lia
 ·refine⟨z.length,?_⟩;have e:PySem.Builtin.Str.strSliceIndices (some i) none 1 z.length=PySem.Builtin.Str.strSliceIndices (some (z.length:Int)) none 1 z.length:=by
   unfold PySem.Builtin.Str.strSliceIndices;have e1:(if i<0 then i+(z.length:Int) else i)=i:=ay (by lia);have e2:(if(z.length:Int)<0 then(z.length:Int)+(z.length:Int) else(z.length:Int))=z.length:=ay (by lia);simp only[e1,e2];have e3:max 0 (min i (z.length:Int))=max 0 (min (z.length:Int) z.length):=by lia
   rw[e3];simp only[if_pos (show(1:Int)>0 by decide)]
  show A3 (StrLaws.sliceText z (some i) none)=_;have e':StrLaws.sliceText z (some i) none=StrLaws.sliceText z (some (z.length:Int)) none:=by
   unfold StrLaws.sliceText;rw[e]
  rw[e',StrLaws.sliceText_from ⟨by lia,by rw[hz];lia⟩];refine aK ?_;rw[bP];show(A3 z).length-z.length<=(((A3 z).length:Int)-(z.length:Int)).toNat
  lia
theorem UD {x y:Str}{n m:Nat}(hx:x.length<=n/\C2 x)(hy:y.length<=m/\C2 y):(x++y).length<=n+m/\C2 (x++y):=⟨by rw[len_app];lia,hx.2.app hy.2⟩
theorem Wf {x:Str}{n:Nat}{j:Int}(h0:0<=j)(hx:x.length<=n/\C2 x):(PySem.Txt.slice x none (some j)).length<=n/\C2 (PySem.Txt.slice x none (some j)):=by
 have e:=We x h0;refine⟨?_,λc hc=>hx.2 c (cg (by rw[<-e];exact hc))⟩;rw[<-AO,e,bu,AO]
 lia
theorem Ww {x:Str}(hx:C2 x):(PySem.Txt.slice x none (some 80)).length<=80/\C2 (PySem.Txt.slice x none (some 80)):=by
 have e:=We x (j:=80) (by decide);refine⟨?_,λc hc=>hx c (cg (by rw[<-e];exact hc))⟩;rw[<-AO,e,bu];exact Nat.min_le_left _ _
theorem Vg {x:Str}{n:Nat}{j:Int}(h0:0<=j)(hx:x.length<=n/\C2 x):(PySem.Txt.slice x (some j) none).length<=n/\C2 (PySem.Txt.slice x (some j) none):=by
 obtain⟨k,e⟩:=Vr x h0;refine⟨?_,λc hc=>hx.2 c (cU (by rw[<-e];exact hc))⟩;rw[<-AO,e,bP,AO]
 lia
theorem Xo (xs:List V)(k:Nat):Dn xs none (some (k:Int))=xs.take k:=by
 unfold Dn;rw[HT.TM,HT.NJ,cZ,Nat.sub_zero]
 by_cases h:k<=xs.length
 ·rw[fD h]
 ·rw[gq (by lia),aK (by lia),aK (by lia)]
theorem Ob {α:Type}{xs:List α}{i:Int}(h0:0<=i)(h1:i<xs.length):∃x∈xs,He xs i=some x:=by
 have hk:i.toNat<xs.length:=by lia
 refine⟨xs[i.toNat],bQ hk,?_⟩;have:=C4 (aa hk);rw[show((i.toNat:Nat):Int)=i by lia] at this;exact this
theorem TF {α:Type}{xs:List α}(h:xs≠[]):∃x∈xs,He xs (-1)=some x:=by
 have h0:0<xs.length:=cD.mpr h;refine⟨xs[xs.length-1],bQ (by lia),?_⟩;unfold He SC;rw[ay (by decide),aC (by lia),Option.bind_some,show(-1+(xs.length:Int)).toNat=xs.length-1 by lia,aa]
def IV (K:W.Frag):Sp:=λvs H Q _=>∃(rl sl:Addr) (row:List Int) (zs:List Str),vs=[.ref rl,.ref sl]/\H rl=some (.lst (row.map V.int))/\row.length=12/\(∀x∈row,0<=x/\x<1000000)/\H sl=some (.lst (zs.map V.str))/\zs≠[]/\(∀z∈zs,z.length<=80/\C2 z)/\∀z H',As H H'->z.length<=80->C2 z->Q (.str z) H'
theorem NW (T:Txt K mg Ab Ad Aa Ae XC)(F:Fun K "_law_next" "_law_next" GO f fd)(CV:Def P w K mg base 1 "_law_text" ["_law_row_here"] (Fu K)):FnOk P w K mg base BI 2 f fd ["_law_row_here","_law_some"] (IV K):=by
 exists CA
 ·obtain⟨rl,sl,row,zs,rfl,_⟩:=h;rfl
 obtain⟨rl,sl,row,zs,rfl,hrl,lr,br,hsl,nz,bz,q⟩:=h;have hu:=BL hr;have hu9:=E4 hr;refine⟨_,(!Af (@Ap _ _ (2) _ _ _ _ CA.nd rfl (by trivial) (!Ax A6 (pv 1) (!Ar Bd (!Ax A6 (pv 0) (!Ai) (λ_ _=>rfl)) (!Aq Az (by rfl) T.b_len AZ (!Ac (pv 1) (!Ah)))) (λ_ _=>rfl)) (by rfl) (by trivial)) (!Af (!AL (!Aw Bb (!Ar Bd (!Ax A6 (pv 0) (!Ai) (λ_ _=>rfl)) (!Ai)) (!Ai) (Av _)) (!Ak (@Ap _ _ (2) _ _ _ _ CA.nd rfl (by trivial) (!Ax A6 (pv 1) (!Ki Gh (!Ai)) (λ_ _=>rfl)) (by rfl) (by trivial))) (!Au)) (!Af (@Ap _ _ (3) _ _ _ _ CA.nd rfl (by trivial) (!Ar Bd (!Ax A6 (pv 0) (!Ai) (λ_ _=>rfl)) (!Ar Bu (!Aq Bs (by rfl) T.b_len AZ (!Ac (pv 2) (!Ah))) (!Ai))) (by rfl) (by trivial)) (!Af (@Ap _ _ (4) _ _ _ _ CA.nd rfl (by trivial) (!Ax A6 (!Be (!Ac (!Ai) (!Ac (!Ar Bd (!Ax A6 (pv 0) (!Ai) (λ_ _=>rfl)) (!Ai)) (!Ac (!Ar Bd (!Ax A6 (pv 0) (!Ai) (λ_ _=>rfl)) (!Ai)) (!Ah))))) (!Ar Bd (!Ar EK (!Ax A6 (pv 0) (!Ai) (λ_ _=>rfl)) (!Ai)) (!Ai)) (λ_ _=>rfl)) (by rfl) (by trivial)) (!Af (@Ap _ _ (5) _ _ _ _ CA.nd rfl (by trivial) (!Ax A6 (!Be (!Ac (!AG CV (by trivial) rfl (!Ac (!BN Fv (pv 0) (!Dv) (!BG (!Ai))) (!Ah))) (!Ac (!BP) (!Ac (!BN Lr (pv 2) (!Dv) (!BG (!Ar Bd (!Ax A6 (pv 0) (!Ai) (λ_ _=>rfl)) (!Ai)))) (!Ac (!BP) (!Ah)))))) (!Ar Bd (!Ar EK (!Ax A6 (pv 0) (!Ai) (λ_ _=>rfl)) (!Ai)) (!Ai)) (λ_ _=>rfl)) (by rfl) (by trivial)) (!Ak (!Ao (!BN Lr (!Ar Bq (!Ar Bq (!BN Lr (pv 2) (!Dv) (!BG (pv 3))) (pv 5)) (!BN Lr (pv 2) (!BG (!Ar Bu (pv 3) (pv 4))) (!Dv))) (!Dv) (!BG (!Ai)))))))))),?_⟩
 try dsimp only[BM,Cx.nox,Cx.wish]
 have gx:∀k:Nat,k<12->∃n:Int,He (row.map V.int) (k:Int)=some (.int n)/\0<=n/\n<1000000:=λk hk=>by
  have hk':k<row.length:=by lia
  exact⟨row[k],C4 (by rw[aD,aa hk'];rfl),br _ (bQ hk')⟩
 have lz0:0<zs.length:=cD.mpr nz;obtain⟨n4,a4,b4⟩:=gx 4 (by decide);obtain⟨n5,a5,b5⟩:=gx 5 (by decide);obtain⟨n6,a6,b6⟩:=gx 6 (by decide);obtain⟨n7,a7,b7⟩:=gx 7 (by decide);obtain⟨n8,a8,b8⟩:=gx 8 (by decide);obtain⟨v0,m0,at0⟩:=Ob (xs:=zs.map V.str) (i:=n4%((zs.map V.str).length:Int)) (bJ _ (by rw[ab];lia)) (bS _ (by rw[ab];lia));obtain⟨z0,mz0,rfl⟩:=ae.mp m0;refine AF λN eN=>?_
 refine⟨_,rfl,_,rfl,rl,_,_,_,rfl,rfl,AJ.of hrl,a4,_,rfl,sl,_,rfl,.inl (AJ.of hsl),_,_,rfl,rfl,(by show(0:Int)<((zs.map V.str).length:Int);rw[ab];lia),sl,_,_,_,rfl,rfl,AJ.of hsl,at0,?_⟩;subst eN;dsimp only;refine G6 (λσ' H'=>∃z∈zs,σ'=[some (.ref rl),some (.ref sl),some (.str z),none,none,none]/\H'=H) (λN hN=>?_) ?_
 ·refine⟨_,rfl,rl,_,_,_,rfl,rfl,AJ.of hrl,a5,_,_,rfl,rfl,(by show(0:Int)<4;decide),rfl,_,rfl,Cs (λc=>?_) (λc=>?_)⟩
  ·obtain⟨v1,m1,at1⟩:=TF (xs:=zs.map V.str) (by simpa using nz);obtain⟨z1,mz1,rfl⟩:=ae.mp m1;exact⟨_,rfl,_,rfl,sl,_,_,_,rfl,rfl,AJ.of hsl,at1,hN _ _ ⟨z1,mz1,rfl,rfl⟩⟩
  ·exact hN _ _ ⟨z0,mz0,rfl,rfl⟩
 rintro σ' H' ⟨z,mz,rfl,rfl⟩
 have okz:=bz z mz;refine AF λN eN=>?_
 refine⟨_,rfl,rl,_,_,_,rfl,rfl,AJ.of hrl,a6,_,rfl,_,rfl,small (by lia),_,_,rfl,rfl,_,_,rfl,rfl,(by show(0:Int)<(z.length:Int)+1;lia),?_⟩;subst eN;dsimp only;refine AF λN eN=>?_
 refine⟨_,rfl,rl,_,_,_,rfl,rfl,AJ.of hrl,a7,_,_,rfl,rfl,(by show(0:Int)<4;decide),_,rfl,rl,_,_,_,rfl,rfl,AJ.of hrl,a7,_,_,rfl,rfl,(by show(0:Int)<30;decide),UF,λl1 hl1=>?_⟩;have s1:=Al hl1 (.lst [V.int 0,V.int (n7%4),V.int (n7%30)]);dsimp only;obtain⟨v1,m1,at1⟩:=Ob (xs:=[V.int 0,V.int (n7%4),V.int (n7%30)]) (i:=n5/4%3) (bJ _ (by decide)) (bS _ (by decide));obtain⟨m,rfl,hm⟩:∃m:Int,v1=.int m/\0<=m:=by
  rcases aM.mp m1 with rfl|m1
  ·exact⟨_,rfl,e8 _⟩
  rcases aM.mp m1 with rfl|m1
  ·exact⟨_,rfl,bJ _ (by decide)⟩
  ·rw[ag.mp m1];exact⟨_,rfl,bJ _ (by decide)⟩
 refine⟨_,rfl,rl,_,_,_,rfl,rfl,AJ.of (s1.get hrl),a5,_,_,rfl,rfl,⟨by decide,by decide⟩,_,_,rfl,rfl,(by show(0:Int)<3;decide),l1,_,_,_,rfl,rfl,AJ.of Ag,at1,?_⟩;generalize upd H' l1 (.lst [V.int 0,V.int (n7%4),V.int (n7%30)])=H1 at s1;subst eN
 try dsimp only
 refine AF λN eN=>?_
 refine⟨_,rfl,4,rfl,rl,_,rfl,AJ.of (s1.get hrl),λcl hcl=>?_⟩;have ecl:Dn (row.map V.int) none (some 4)=(row.take 4).map V.int:=(Xo _ 4).trans (by rw[fb]);rw[ecl];have s2:=s1.trans (Al hcl (.lst ((row.take 4).map V.int)));refine⟨cl,row.take 4,rfl,Ag,by rw[bu];lia,λx hx=>br x (cg hx),λz1 H2 s3 lz1 Yr=>?_⟩;have s23:=s2.trans s3;refine⟨_,rfl,_,rfl,rl,_,_,_,rfl,rfl,AJ.of (s23.get hrl),a8,_,_,rfl,rfl,(by show(0:Int)<20;decide),?_⟩;dsimp only;have lz80:=okz.1;refine⟨_,rfl,z,rfl,small (by lia),Zd,λl2 hl2=>?_⟩;have okc:=Wf (x:=z) (j:=n8%20) (bJ _ (by decide)) okz;have s4:=s23.trans (Al hl2 (.lst [V.str z1,V.str (PySem.Str.ofString ""),V.str (PySem.Txt.slice z none (some (n8%20))),V.str (PySem.Str.ofString "a")]));obtain⟨v2,m2,at2⟩:=Ob (xs:=[V.str z1,V.str (PySem.Str.ofString ""),V.str (PySem.Txt.slice z none (some (n8%20))),V.str (PySem.Str.ofString "a")]) (i:=n5/12%4) (bJ _ (by decide)) (bS _ (by decide));obtain⟨pz,rfl,okp⟩:∃pz:Str,v2=.str pz/\pz.length<=100/\C2 pz:=by
  rcases aM.mp m2 with rfl|m2
  ·exact⟨_,rfl,lz1,Yr⟩
  rcases aM.mp m2 with rfl|m2
  ·exact⟨_,rfl,aR _,λc hc=>by cases hc⟩
  rcases aM.mp m2 with rfl|m2
  ·exact⟨_,rfl,by lia,okc.2⟩
  ·rw[ag.mp m2];exact⟨_,rfl,by decide +kernel,show ∀c∈A3 (PySem.Str.ofString "a"),c∈A3 SG by decide +kernel⟩
 try dsimp only
 refine⟨_,rfl,rl,_,_,_,rfl,rfl,AJ.of (s4.get hrl),a5,_,_,rfl,rfl,⟨by decide,by decide⟩,_,_,rfl,rfl,(by show(0:Int)<4;decide),l2,_,_,_,rfl,rfl,AJ.of Ag,at2,?_⟩;generalize upd H2 l2 (.lst [V.str z1,V.str (PySem.Str.ofString ""),V.str (PySem.Txt.slice z none (some (n8%20))),V.str (PySem.Str.ofString "a")])=H3 at s4;subst eN;have p0:(0:Int)<=n6%((z.length:Int)+1):=bJ _ (by lia);generalize n6%((z.length:Int)+1)=at' at p0;have okA:=Wf (x:=z) (j:=at') p0 okz;have okB:=Vg (x:=z) (j:=at'+m) (by lia) okz;have okC:=UD okA okp;have okD:=UD okC okB;have lpz:=okp.1;have lA:=okA.1;have lB:=okB.1;have lC:=okC.1;have lD:=okD.1;have okE:=Ww okD.2;exact⟨_,rfl,_,rfl,_,rfl,z,rfl,small (by lia),_,rfl,_,_,rfl,rfl,small (by lia),_,rfl,_,rfl,_,rfl,_,_,rfl,rfl,_,rfl,z,rfl,small (by lia),_,_,rfl,rfl,small (by lia),80,rfl,_,rfl,small (by lia),q _ H3 s4 okE.1 okE.2⟩
end
open M06 M08 M10
section
variable {P:Program}{w:World}{K:W.Frag}{mg:Str->Option Value}{base:Heap}{f Ab Ad Aa Ae:Addr}{XC:Nat->Addr}{fd:FuncData}
def WM (ks:List Str):List (Key×V):=ks.map λk=>(Sum.inr k,V.bl true)
theorem Ve (ks:List Str)(nm:Str):putK (WM ks) (.inr nm) (V.bl true)=WM (if nm∈ks then ks else ks++[nm]):=by
 unfold putK WM;have ea:(ks.map λk=>((Sum.inr k:Key),V.bl true)).any (λkv=>decide (kv.1=Sum.inr nm))=decide (nm∈ks):=by
  rw[bT,c9,decide_eq_true_iff];constructor
  ·rintro⟨x,hx,e⟩
   obtain⟨k,hk,rfl⟩:=ae.mp hx;rw[<-Sum.inr.inj (bf e)];exact hk
  ·exact λh=>⟨_,ae.mpr ⟨nm,h,rfl⟩,aH rfl⟩
 rw[ea]
 by_cases c:nm∈ks
 ·rw[aC (aH c),aC c,aI];refine cC λk _=>?_
  show(if(Sum.inr k:Key)=Sum.inr nm then((Sum.inr k:Key),V.bl true) else(Sum.inr k,V.bl true))=_
  split<;>rfl
 ·rw[ay (by rw[aS c];exact aB),ay c,aJ];rfl
structure Hx where
 a:Addr
 ta:Addr
 z:Str
 t:Tg
 L:Nat->List Tg
 lv:Nat
def PY (H:Hp)(hs:List Hx):Prop:=∀x∈hs,H x.a=some (.tup [.str x.z,.ref x.ta])/\H x.ta=some (.tup [.int x.t.1,.int x.t.2.1,.int x.t.2.2])
theorem PY.keep {H H':Hp}{hs:List Hx}(kt:∀c ys,H c=some (.tup ys)->H' c=some (.tup ys))(h:PY H hs):PY H' hs:=λx hx=>⟨kt _ _ (h x hx).1,kt _ _ (h x hx).2⟩
def Hh (cs:List Cl)(hs:List Hx):Prop:=∀x∈hs,Tow cs x.L x.lv (A3 x.z) x.t/\x.z.length<=80/\C2 x.z
def Zl (cs:List Cl)(x:Hx)(f:List Nat):Prop:=∃i u,i<=x.lv+1/\u∈x.L i/\Fo cs i u f
def Rc (cs:List Cl)(hs:List Hx):Prop:=∀e∈cs,∃x∈hs,∃i,i<=x.lv+1/\(e.z,e.y,AR e.bk)∈x.L i
theorem Jc {α β γ:Type}{f:α->β}{g:α->γ}:∀{l:List α},(l.map g).Nodup->(∀a∈l,∀b∈l,f a=f b->g a=g b)->(l.map f).Nodup
 |[],_,_=>cI
 |a::l,nd,h=>by
  rw[au,bF] at nd ⊢;refine⟨λhm=>nd.1 ?_,Jc nd.2 λx hx y hy=>h x (ao _ hx) y (ao _ hy)⟩;obtain⟨b,hb,e⟩:=ae.mp hm;exact ae.mpr ⟨b,hb,h b (ao _ hb) a av e⟩
theorem Fo.same {cs:List Cl}(nd:(cs.map (·.z)).Nodup){i j:Nat}{u:Tg}{f:List Nat}{b:Bk}(h:Fo cs i u f)(ha:At cs u b)(hb:MO b=(j:Int)):i=j:=by
 obtain⟨b',h1,h2⟩:=h.lv;rw[ha.bk nd h1] at hb
 lia
open Classical in
theorem Sq {cs:List Cl}{hs:List Hx}{ks:List Str}(nd:(cs.map (·.z)).Nodup)(nb:(cs.map (·.bk)).Nodup)(ok:Hh cs hs)(rc:Rc cs hs)(ex:∀x∈hs,∀i u,i<=x.lv+1->u∈x.L i->∃f,Fo cs i u f)(kn:ks.Nodup)(hk:∀s,s∈ks↔∃x∈hs,Zl cs x (A3 s)):ks.length=cs.length:=by
 let G:Cl->Str:=λe=>if h:∃f,∃i,i<=90/\Fo cs i (e.z,e.y,AR e.bk) f then toS (Classical.choose h) else KP
 have hG:∀e∈cs,∃f,G e=toS f/\∃i x,x∈hs/\i<=x.lv+1/\(e.z,e.y,AR e.bk)∈x.L i/\i<=90/\Fo cs i (e.z,e.y,AR e.bk) f:=λe he=>by
  obtain⟨x,hx,i,hi,hm⟩:=rc e he;obtain⟨tw,_,_⟩:=ok x hx;have l8:=tw.l8;obtain⟨f,hf⟩:=ex x hx i _ hi hm;have hh:∃f,∃i,i<=90/\Fo cs i (e.z,e.y,AR e.bk) f:=⟨f,i,by lia,hf⟩
  have e1:G e=toS (Classical.choose hh):=dif_pos hh;obtain⟨j,hj,hf2⟩:=fL hh;obtain⟨b,ha,hb⟩:=tw.at i hi _ hm;have eji:=hf2.same nd ha hb;subst eji;exact⟨_,e1,j,x,hx,hi,hm,hj,hf2⟩
 have p:ks.Perm (cs.map G):=Vz kn (Jc nd λa ha b hb e=>by
  obtain⟨f,e1,i,x,_,_,_,hi,h1⟩:=hG a ha;obtain⟨g,e2,j,y,_,_,_,hj,h2⟩:=hG b hb;have:f=g:=Rn (e1.symm.trans (e.trans e2));subst this;exact congrArg Prod.fst (h1.inj nd nb hi hj h2)) λs=>by
   rw[hk,ae];constructor
   ·rintro⟨x,hx,i,u,hi,hu,hf⟩
    obtain⟨tw,_,_⟩:=ok x hx;obtain⟨b,ha,hb⟩:=tw.at i hi u hu;obtain⟨e,he,et,eb⟩:=id ha;obtain⟨f,e1,j,y,_,_,_,_,h1⟩:=hG e he;rw[et] at h1;have eji:=h1.same nd ha hb;subst eji;refine⟨e,he,?_⟩;rw[e1,h1.det nd hf]
   ·rintro⟨e,he,rfl⟩
    obtain⟨f,e1,i,x,hx,hi,hm,_,h1⟩:=hG e he;refine⟨x,hx,i,_,hi,hm,?_⟩;rw[e1,BV];exact h1
 have:=p.length_eq
 rwa [ab] at this
end
open M06 M08 M10
section
variable {P:Program}{w:World}{K:W.Frag}{mg:Str->Option Value}{base:Heap}{f Ab Ad Aa Ae:Addr}{XC:Nat->Addr}{fd:FuncData}
def Ho (K:W.Frag)(CB CP CT:Addr):Sp:=λvs H Q _=>∃p ds b0 n q cs bs X i0 hl hs,vs=[.ref p,.ref hl]/\Pg CB CP CT H p ds b0 n q cs bs X i0/\cs.length<=590/\H hl=some (.lst (hs.map λx=>V.ref x.a))/\PY H hs/\Hh cs hs/\Rc cs hs/\hs.length<=2/\∀H',As H H'->Q (.bl true) H'
theorem Rb (ks:List Str):(WM ks).length=ks.length:=ab _
theorem MA (T:Txt K mg Ab Ad Aa Ae XC)(F:Fun K "_law_right" "_law_right" FN f fd)(FC:Def P w K mg base 3 "_law_forms" ["_law_text_here"] (Hi K))(B0:BJ P w K mg base 1 Ae "numbers" ["self"] (DJ K Ae Aa))(Df:Def P w K mg base 28 "content_at" ["pool","tag"] (Ht K Ae Aa Ad)):FnOk P w K mg base BI 29 f fd ["_law_pool","_law_held"] (Ho K Ad Ae Aa):=by
 exists BS
 ·obtain⟨p,ds,b0,n,q,cs,bs,X,i0,hl,hs,rfl,_⟩:=h;rfl
 obtain⟨p,ds,b0,n,q,cs,bs,X,i0,hl,hs,rfl,pg,few,hhl,hx,ok,rc,l2,hq⟩:=h;have hu:=BL hr;have hu9:=E4 hr;refine⟨_,(!Af (@Ap _ _ (2) _ _ _ _ BS.nd rfl (by trivial) (!Ek) (by rfl) (by trivial)) (!Af (!Bn aU rfl (!A2 (pv 1)) (!FD rfl (!AA (@An _ _ (3) _ BS.nd rfl (by trivial) (by trivial)) (!AA (@An _ _ (4) _ BS.nd rfl (by trivial) (by trivial)) (!BF)))) (!Af (!Bn aU rfl (!A2 (!AG FC (by trivial) rfl (!Ac (pv 3) (!Ah)))) (@An _ _ (5) _ BS.nd rfl (by trivial) (by trivial)) (!Ak (!IM hu (pv 2) (pv 5) (!Ed))) (by intro _;rfl)) (!Ak (!Bn aU rfl (!A2 (pv 1)) (!FD rfl (!AA (@An _ _ (6) _ BS.nd rfl (by trivial) (by trivial)) (!AA (@An _ _ (7) _ BS.nd rfl (by trivial) (by trivial)) (!BF)))) (!Ak (!AL (!Aw MN (!BW Bb (pv 3) (pv 6) (Av _)) (!BW (Ul hu9) (pv 4) (pv 7) (Av _)) (Av _)) (!Ak (!Ao (!Ed))) (!Au))) (by intro _;rfl)))) (by intro _;rfl)) (!Af (!AL (!Aw MN (!Aq Az (by rfl) T.b_len AZ (!Ac (!Dy (pv 0) T.cl_Pool B0) (!Ah))) (!Aq Sf (by rfl) T.b_len AZ (!Ac (pv 2) (!Ah))) (Av _)) (!Ak (!Ao (!Ed))) (!Au)) (!Ak (!Ao (!Aq (GA rfl) (by rfl) T.b_all Lj (!Ac (@G1 _ ["_law_text_here","_law_tag","_law_pool"] [none,none,some 0] _ _ _ _ _ _ _ _ _ _ _ rfl (!A2 (pv 1)) (by rfl) rfl (by repeat (first|exact trivial|refine⟨rfl,?_⟩)) (by repeat (first|exact trivial|refine⟨λh=>(by first|exact⟨_,rfl⟩|cases h),?_⟩)) (λC s H fp=>⟨(@Dx _ (K) _ _ _ _ (2) (by rfl) rfl (!AA (@An _ _ (0) _ (show(["_law_text_here","_law_tag","_law_pool"]:List Str).Nodup by decide +kernel) rfl (by trivial) (by trivial)) (!AA (@An _ _ (1) _ (show(["_law_text_here","_law_tag","_law_pool"]:List Str).Nodup by decide +kernel) rfl (by trivial) (by trivial)) (!BF))) (by rfl) (by rfl)),(!AM),(!BW Bb (!AG Df (by trivial) rfl (!Ac (pv 2) (!Ac (pv 1) (!Ah)))) (pv 0) (Av _))⟩) (by intro _;rfl)) (!Ah)))))))),?_⟩
 try dsimp only[BM,Cx.nox,Cx.wish]
 have nd:=pg.pa.t.2.2.2;have nb:=pg.nb;have tg:∀x∈hs,SO x.t:=λx hx=>by
  obtain⟨tw,_⟩:=ok x hx;obtain⟨b,⟨e,he,et,_⟩,_⟩:=tw.at (x.lv+1) (ah _) x.t (by rw[tw.top];exact ag.mpr rfl);rw[<-et];exact pg.yi e he
 refine AF λN eN=>?_
 refine λkd hkd=>?_
 have s1:=Al hkd (.dK []);have hk1:(upd H kd (.dK [])) kd=some (.dK (WM [])):=Ag;generalize upd H kd (.dK [])=H1 at s1 hk1;subst eN;dsimp only;have same:∀x∈hs,∀y∈hs,decide (V.str x.z=V.str y.z)=decide (wT (Ej x.t)=wT (Ej y.t)):=λx hx y hy=>by
  obtain⟨tx,_⟩:=ok x hx;obtain⟨ty,_⟩:=ok y hy;rw[bT,aG,aG,V.str.injEq];constructor
  ·intro e;have h2:=ty.twr;rw[<-e] at h2;rw[tx.twr.tag nb h2]
  ·intro e;have e2:=Rh _ _ (Lp (GS (tg x hx) 6) (GS (tg y hy) 6) e);have h1:=tx.twr.cn nd;rw[e2] at h1;exact Dz (h1.fun nd (ty.twr.cn nd))
 refine AF λN eN=>?_
 refine⟨_,rfl,hl,rfl,⟨_,AJ.of (s1.get hhl)⟩,?_⟩;refine BD (K:=K) (a:=hl) (xs:=hs.map λx=>V.ref x.a) (λi σ H'=>∃(ks:List Str) (v3 v4 v5 v6 v7:Option V),σ=[some (.ref p),some (.ref hl),some (.ref kd),v3,v4,v5,v6,v7]/\As H H'/\H' kd=some (.dK (WM ks))/\ks.Nodup/\ks.length<=1000*i/\(∀s,s∈ks↔∃x∈hs.take i,Zl cs x (A3 s))/\∀x∈hs.take i,∀i u,i<=x.lv+1->u∈x.L i->∃f,Fo cs i u f)
  ⟨[],none,none,none,none,none,rfl,s1,hk1,cI,aR _,(λs=>⟨(λh=>nomatch h),(by rintro⟨_,h,_⟩;exact nomatch h)⟩),λ_ h=>nomatch h⟩ ?_ ?_ ?_
 ·rintro i σ H' _ ⟨ks,v3,v4,v5,v6,v7,_,s',_⟩
  exact AJ.of (s'.get hhl)
 ·rintro i v σ H' hi ⟨ks,v3,v4,v5,v6,v7,rfl,s',hk,kn,lk,mk,mx⟩
  rw[aD] at hi;obtain⟨x,hxi,rfl⟩:=aV.mp hi;have il:i<hs.length:=(aj.mp hxi).1;have mem:=az hxi;have hxs:=hx.keep λc ys h=>s'.get h
  obtain⟨tw,lz,zs⟩:=ok x mem;refine⟨x.a,_,rfl,A8.of (hxs x mem).1,rfl,_,_,rfl,_,_,rfl,rfl,?_⟩;dsimp only;refine Di λEB eEB=>?_
  refine AF λM eM=>?_
  refine⟨_,rfl,x.z,cs,x.L,x.lv,x.t,rfl,tw,nd,lz,zs,λH2 fl fs s2 nfl hfl lfs hm hex=>⟨fl,rfl,⟨_,AJ.of hfl⟩,?_⟩⟩;have hk2:=s2.get hk;have s02:=s'.trans s2;refine BD (K:=K) (a:=fl) (xs:=CH fs) (λj σ H3=>∃(ks2:List Str) (v5:Option V),σ=[some (.ref p),some (.ref hl),some (.ref kd),some (.str x.z),some (.ref x.ta),v5,v6,v7]/\As H H3/\H3 fl=some (.lst (CH fs))/\H3 kd=some (.dK (WM ks2))/\ks2.Nodup/\ks2.length<=ks.length+j/\∀s,s∈ks2↔s∈ks\/A3 s∈fs.take j) ⟨ks,v5,rfl,s02,hfl,hk2,kn,ah _,λs=>⟨.inl,λh=>h.elim id λh=>nomatch h⟩⟩ ?_ ?_ ?_
  ·rintro j σ H3 _ ⟨ks2,v5,_,_,hfl3,_⟩
   exact AJ.of hfl3
  ·rintro j v σ H3 hj ⟨ks2,v5,rfl,s3,hfl3,hk3,kn2,lk2,mk2⟩
   unfold CH at hj;rw[aD] at hj;obtain⟨g,hg,rfl⟩:=aV.mp hj;have jl:j<fs.length:=(aj.mp hg).1;dsimp only[BH];refine Di λEC eEC=>?_
   refine⟨_,rfl,_,rfl,kd,_,rfl,NN.k (k:=Sum.inr (toS g)) hk3 (A7 (by rw[Rb];lia)),?_⟩;rw[Ve];subst eEC;refine⟨if toS g∈ks2 then ks2 else ks2++[toS g],_,rfl,A5 s3 hkd _,by rw[Aj (AQ hfl3 hk3 (by intro z;cases z))];exact hfl3,Ag,?_,?_,λs=>?_⟩
   ·split
    ·exact kn2
    ·rename_i h
     rw[cm];exact⟨kn2,by simp,λa ha b hb e=>h (by rw[<-ag.mp hb,<-e];exact ha)⟩
   ·split
    ·lia
    ·rw[ar];show ks2.length+1<=_;lia
   ·have et:fs.take (j+1)=fs.take j++[g]:=by rw[bg,hg];rfl
    have e1:(A3 s=g)↔s=toS g:=⟨λh=>by rw[<-h],λh=>by rw[h,BV]⟩
    rw[et,ai,ag,e1,<-or_assoc,<-mk2 s]
    split
    ·rename_i h
     exact⟨.inl,λh2=>h2.elim id λh2=>by rw[h2];exact h⟩
    ·rw[ai,ag]
  ·rintro σ H3 ⟨ks2,v5,rfl,s3,hfl3,hk3,kn2,lk2,mk2⟩
   rw[BC] at lk2 mk2;rw[cM] at mk2;subst eM;dsimp only;have hhl3:=s3.get hhl;have hx3:=hx.keep λc ys h=>s3.get h
   refine⟨_,rfl,hl,rfl,⟨_,AJ.of hhl3⟩,BD (K:=K) (a:=hl) (xs:=hs.map λx=>V.ref x.a) (λj σ H4=>∃(v6 v7:Option V),σ=[some (.ref p),some (.ref hl),some (.ref kd),some (.str x.z),some (.ref x.ta),v5,v6,v7]/\H4=H3) ⟨_,_,rfl,rfl⟩ (by rintro j σ H4 _ ⟨_,_,_,e⟩;exact by rw[e];exact AJ.of hhl3) ?_ ?_⟩
   ·rintro j v σ H4 hj ⟨v6,v7,rfl,rfl⟩
    rw[aD] at hj;obtain⟨y,hyj,rfl⟩:=aV.mp hj;have my:=az hyj;refine⟨y.a,_,rfl,A8.of (hx3 y my).1,rfl,_,_,rfl,_,_,rfl,rfl,?_⟩;dsimp only;refine Di λEC eEC=>?_
    refine⟨_,rfl,_,rfl,rfl,_,rfl,_,rfl,Ej x.t,Ej y.t,GS (tg x mem) 6,GS (tg y my) 6,LM (hx3 x mem).2,LM (hx3 y my).2,rfl,_,rfl,Cs (λc=>?_) (λc=>?_)⟩
    ·exfalso;have c:(!decide (V.bl (decide (V.str x.z=V.str y.z))=V.bl (decide (wT (Ej x.t)=wT (Ej y.t)))))=true:=c;rw[same x mem y my,aH rfl] at c;cases c
    ·subst eEC;exact⟨some (.str y.z),some (.ref y.ta),rfl,rfl⟩
   ·rintro σ H4 ⟨v6,v7,rfl,rfl⟩
    have et:hs.take (i+1)=hs.take i++[x]:=by rw[bg,hxi];rfl
    subst eEB;refine⟨ks2,_,_,_,_,_,rfl,s3,hk3,kn2,by lia,λs=>?_,λy hy=>?_⟩
    ·rw[mk2,mk,hm,et];constructor
     ·rintro(⟨y,hy,h⟩|h)
      ·exact⟨y,ai.mpr (.inl hy),h⟩
      ·exact⟨x,ai.mpr (.inr (ag.mpr rfl)),h⟩
     ·rintro⟨y,hy,h⟩
      rcases ai.mp hy with hy|hy
      ·exact .inl ⟨y,hy,h⟩
      ·rw[ag.mp hy] at h;exact .inr h
    ·rw[et] at hy;rcases ai.mp hy with hy|hy
     ·exact mx y hy
     ·rw[ag.mp hy];exact hex
 ·rintro σ H' ⟨ks,v3,v4,v5,v6,v7,rfl,s',hk,kn,lk,mk,mx⟩
  rw[ab,cM] at mk mx;have lc:=Sq nd nb ok rc mx kn mk;have pg':=pg.same s';have hx':=hx.keep λc ys h=>s'.get h
  subst eN;dsimp only;refine AF λN eN=>?_
  refine⟨_,rfl,p,q.dp,_,rfl,pg'.pa.t.1,rfl,p,q,cs,rfl,pg'.pa.t,by lia,λms l pm hl'=>?_⟩;have s2:=Al hl' (.lst (ms.map V.int));have lm:=pm.length_eq;rw[ab] at lm;refine⟨l,_,rfl,.inl (AJ.of Ag),_,rfl,kd,_,rfl,s2.get hk,rfl,_,rfl,?_⟩;refine AV ?_ ?_
  ·rw[ab,Rb,lm,lc,aH rfl];rfl
  have s02:=s'.trans s2;generalize upd H' l (.lst (ms.map V.int))=H2 at s2 s02;subst eN
  try dsimp only[O9]
  have pg2:=pg'.same s2;have hx2:=hx'.keep λc ys h=>s2.get h
  have hhl2:=s02.get hhl;refine⟨_,rfl,hl,rfl,⟨_,AJ.of hhl2⟩,?_⟩;refine Jv (ps:=hs) (g:=(·.a)) (A:=λx=>.str x.z) (B:=λx=>.ref x.ta) (f:=λx=>.bl true) (Ck (AJ.of hhl2)) (λx hx=>(hx2 x hx).1) (by lia) rfl (by decide) (λx mem H4 R s4 hR=>?_) λl4 H4 nl4 s4 hl4=>?_
  ·obtain⟨tw,lz,zs⟩:=ok x mem;refine⟨_,rfl,_,rfl,p,q,cs,x.ta,x.t,A3 x.z,rfl,(pg2.same s4).rs,s4.get (hx2 x mem).2,tw.twr.cn nd,by rw[AO];lia,λH5 s5=>⟨_,rfl,rfl,?_⟩⟩;have:=hR H5 s5;rw[show(decide (V.str (toS (A3 x.z))=V.str x.z))=true from aH rfl];exact this
  ·refine⟨l4,hs.map λ_=>true,rfl,AJ.of (by rw[hl4,aI];rfl),?_⟩;rw[show(hs.map λ_=>true).all id=true by rw[bZ];intro b hb;obtain⟨_,_,rfl⟩:=ae.mp hb;rfl];exact hq H4 (s02.trans s4)
end
open M06 M08 M10
section
variable {P:Program}{w:World}{K:W.Frag}{mg:Str->Option Value}{base:Heap}{f Ab Ad Aa Ae:Addr}{XC:Nat->Addr}{fd:FuncData}
section
variable {CB CP CT:Addr}{H H':Hp}{x:Addr}{ds:List Addr}{b:List CJ}{n:Int}{q:Pl}{cs cs':List Cl}{bs:List (Int×Addr)}{X:List Int}{i:Int}
theorem Pg.hold (I:Pg CB CP CT H x ds b n q cs bs X i){e:Cl}(he:e∈cs):Pg CB CP CT (upd H e.c (.ins CT e.dx (CM e.ta ((wT (CI e.bk)).length:Int) e.l (e.k+1) e.en e.st))) x ds b n q (cs.map (bump [e.z])) bs (X++[e.z]) i:=by
 have f:Om (A9 x q cs bs) H (upd H e.c (.ins CT e.dx (CM e.ta ((wT (CI e.bk)).length:Int) e.l (e.k+1) e.en e.st))):=λa o h n=>by
  rw[Aj (λz=>n (by rw[z];exact Yj he))];exact h
 have kt:∀a ys,H a=some (.tup ys)->(upd H e.c (.ins CT e.dx (CM e.ta ((wT (CI e.bk)).length:Int) e.l (e.k+1) e.en e.st))) a=some (.tup ys):=λa ys h=>f a _ h (I.pa.apart h (by intro C d fs z;cases z) (by intro kvs z;cases z))
 have kl:∀a ys,H a=some (.lst ys)->(upd H e.c (.ins CT e.dx (CM e.ta ((wT (CI e.bk)).length:Int) e.l (e.k+1) e.en e.st))) a=some (.lst ys):=λa ys h=>f a _ h (I.pa.apart h (by intro C d fs z;cases z) (by intro kvs z;cases z))
 have eo:A9 x q (cs.map (bump [e.z])) bs=A9 x q cs bs:=by unfold A9;rw[N0]
 refine⟨I.pa.hold he,λc hc=>?_,I.rt.hold he,by rw[aI];exact I.nb,I.B.frm I.pa I.ap f,by unfold Yk;rw[eo];exact I.ap,I.bo.sub λc hc=>?_,λc hc=>?_,λc hc t ht=>?_,λc hc=>?_⟩
 ·obtain⟨d,hd,rfl⟩:=ae.mp hc;obtain⟨us,h1,h2⟩:=I.na d hd;exact⟨us,kl _ _ h1,Bf kt _ _ h2⟩
 ·obtain⟨d,hd,rfl⟩:=ae.mp hc;exact⟨d,hd,rfl,rfl,rfl⟩
 ·obtain⟨d,hd,rfl⟩:=ae.mp hc;exact I.yi d hd
 ·obtain⟨d,hd,rfl⟩:=ae.mp hc;obtain⟨u,hu,h1,h2⟩:=I.lv d hd t ht;exact⟨_,ae.mpr ⟨u,hu,rfl⟩,h1,h2⟩
 ·obtain⟨d,hd,rfl⟩:=ae.mp hc;exact I.ym d hd
theorem Pg.less {Y:List Int}{m:Int}(I:Pg CB CP CT H x ds b n q cs bs X i)(pa':PAt CP CT H' x { q with n:=m } cs' bs)(na':Ri H' cs')(rt':Rt cs' Y)(sb:∀e∈cs',∃k,{ e with k:=k }∈cs)(f:Om (A9 x q cs bs) H H'):Pg CB CP CT H' x ds b n { q with n:=m } cs' bs Y i:=by
 refine⟨pa',na',rt',Jc pa'.t.2.2.2 λa ha c hc e=>?_,I.B.frm I.pa I.ap f,⟨λh=>I.ap.1 (K4 sb h),λd hd h=>I.ap.2 d hd (K4 sb h)⟩,I.bo.sub (V1 sb),λe he=>?_,λe he t ht=>?_,λe he=>?_⟩
 ·obtain⟨k,hk⟩:=sb a ha;obtain⟨j,hj⟩:=sb c hc;have:=AH I.nb hk hj e;have e2:=congrArg (λy:Cl=>y.z) this;exact e2
 ·obtain⟨k,hk⟩:=sb e he;have:=I.yi _ hk;exact this
 ·obtain⟨k,hk⟩:=sb e he;obtain⟨d,hd,h1,h2⟩:=I.lv _ hk t ht;obtain⟨c,hc,ez⟩:=rt'.n e he t ht;obtain⟨j,hj⟩:=sb c hc;have:=AH I.pa.t.2.2.2 hj hd (ez.trans (congrArg Prod.fst h1).symm);rw[<-this] at h1 h2;exact⟨c,hc,h1,h2⟩
 ·obtain⟨k,hk⟩:=sb e he;have:=I.ym _ hk;exact this
theorem Vc {e:Cl}:e∈Wq q cs↔e∈cs/\e.z∈q.D:=by unfold Wq;rw[bH,aG]
theorem Pg.lay {ss:List Cl}{n':Int}(I:Pg CB CP CT H x ds b n q cs bs X i)(pm:ss.Perm (Wq q cs))(pa':PAt CP CT H' x { q with D:=[] } cs bs)(hB:FZ CB H' q.bo ds (ID b (ops b.length ss)) n' .non)(k:Kd H H'):Pg CB CP CT H' x ds (ID b (ops b.length ss)) n' { q with D:=[] } cs bs X (i+1):=by
 have L:=I.later (k:=i+1) (by lia);refine⟨pa',λe he=>?_,I.rt,I.nb,hB,I.ap,?_,I.yi,I.lv,L.ym⟩
 ·obtain⟨us,h1,h2⟩:=I.na e he;exact⟨us,k.l _ _ h1,Bf k.t _ _ h2⟩
 ·refine L.bo.lay (λe=>pm.mem_iff.trans Vc) I.pa.t.2.2.2 ?_ λe he=>?_
  ·rw[(pm.map _).nodup_iff];unfold Wq;exact(List.filter_sublist.map _).nodup I.pa.t.2.2.2
  ·have z:=I.yi e he;have y:=I.ym e he;exact⟨(I.pa.t.2.2.1 e he).2.2.2,⟨⟨by have:=z.1.1;lia,by have:=z.1.2;lia⟩,z.2.1⟩,by lia⟩
end
theorem Np:∀(l:List (Int×Int×List Int)) {b:List CJ} {M:Nat},(∀c∈b,c.length<=M)->∀c∈ID b l,c.length<=M+l.length
 |[],_,_,h=>h
 |a::l,b,M,h=>λc hc=>by
  have:=Np l (M:=M+1) (Lg (z:=a.2.1) (row:=a.2.2) [a.1] h) c hc;rw[aL]
  lia
theorem Tow.keep {cs cs':List Cl}{L:Nat->List Tg}{lv:Nat}{z:List Nat}{t:Tg}(h:Tow cs L lv z t)(k:∀i,i<=lv+1->∀u∈L i,∀b,At cs u b->At cs' u b):Tow cs' L lv z t:=
 ⟨h.top,h.l8,λi hi=>⟨(h.row i hi).1,λj u c h1 h2=>k (i+1) (by lia) u (az h1) _ ((h.row i hi).2 j u c h1 h2)⟩,h.two,⟨h.base.1,λj u p h1 h2=>k 0 (by lia) u (az h1) _ (h.base.2 j u p h1 h2)⟩⟩
theorem Hh.grow {cs cs':List Cl}{hs:List Hx}(g:EO cs cs')(h:Hh cs hs):Hh cs' hs:=λx hx=>⟨(h x hx).1.keep λ_ _ u _ b ha=>g u b ha,(h x hx).2⟩
theorem Nc (zs:List Int)(cs:List Cl):EO cs (cs.map (bump zs)):=λt b ⟨e,he,h1,h2⟩=>⟨_,ae.mpr ⟨e,he,rfl⟩,h1,h2⟩
open Classical in
theorem Hh.stay {X:List Int}{Z:Int->Prop}{cs cs':List Cl}{hs:List Hx}(nd:(cs.map (·.z)).Nodup)(h:Hh cs hs)(hX:∀x∈hs,x.t.1∈X)(a:Cas X Z (Lc cs) (Lc cs'))(sb:∀e∈cs',∃k,{ e with k:=k }∈cs):Hh cs' hs:=by
 have key:=a.conf (N:=(Lc cs).filter λy=>decide (∃x∈hs,∃i,i<=x.lv+1/\∃u∈x.L i,u.1=y.1)) (λy hy=>(bH.mp hy).1) λy hy hn=>by
  exfalso;obtain⟨hy1,hy2⟩:=bH.mp hy;obtain⟨x,hx,i,hi,u,hu,e⟩:=bf hy2;obtain⟨tw,_⟩:=h x hx
  by_cases hi2:i=x.lv+1
  ·subst hi2;rw[tw.top] at hu;rw[ag.mp hu] at e;exact hn.2 (by rw[<-e];exact hX x hx)
  ·obtain⟨w,hw,c,⟨d,hd,et,eb⟩,huc⟩:=tw.up (show i<=x.lv by lia) hu;refine hn.1 (d.z,(AK d.bk).map (·.1)) (bH.mpr ⟨D9 hd,aH ⟨x,hx,i+1,by lia,w,hw,(congrArg Prod.fst et).symm⟩⟩) ?_;rw[eb,<-e];exact ae.mpr ⟨u,huc,rfl⟩
 refine λx hx=>⟨(h x hx).1.keep λi hi u hu b z9=>?_,(h x hx).2⟩
 obtain⟨e,he,et,eb⟩:=z9;have m:=key _ (bH.mpr ⟨D9 he,aH ⟨x,hx,i,hi,u,hu,(congrArg Prod.fst et).symm⟩⟩);obtain⟨d,hd,ed⟩:=ae.mp m;obtain⟨k,hk⟩:=sb d hd;have e2:=AH nd hk he (congrArg Prod.fst ed);refine⟨d,hd,?_,?_⟩
 ·rw[<-et,<-e2]
 ·rw[<-eb,<-e2]
theorem X3 {X:List Int}{cs:List Cl}{hs:List Hx}(nd:(cs.map (·.z)).Nodup)(h:Hh cs hs)(ok:∀e∈cs,Dl e.bk)(lv:Lv cs)(hX:∀z∈X,∃x∈hs,x.t.1=z)(hc:∀y∈Lc cs,¬Nf (Lc cs) X y.1):Rc cs hs:=by
 have hl:∀e∈cs,MO e.bk<=99:=λe he=>by
  have o:=ok e he;cases hb:e.bk with
  |piece z=>exact(by decide:(0:Int)<=99)
  |row v ts=>
   rw[hb] at o;have:=o.1.2;show v<=99
   lia
  |folder=>exact e8 _
 have key:∀(m:Nat) (e:Cl),e∈cs->100-MO e.bk<=(m:Int)->∃x∈hs,∃i,i<=x.lv+1/\(e.z,e.y,AR e.bk)∈x.L i:=by
  intro m
  induction m with
  |zero=>
   intro e he hm;have:=hl e he
   lia
  |succ m ih=>
   intro e he hm;have hn:=hc _ (D9 he)
   by_cases hz:e.z∈X
   ·obtain⟨x,hx,ex⟩:=hX _ hz;obtain⟨tw,_⟩:=h x hx;obtain⟨b,⟨d,hd,et,eb⟩,_⟩:=tw.at (x.lv+1) (ah _) x.t (by rw[tw.top];exact ag.mpr rfl);have:d=e:=AH nd hd he ((congrArg Prod.fst et).trans ex);subst this;exact⟨x,hx,x.lv+1,ah _,by rw[et,tw.top];exact ag.mpr rfl⟩
   ·obtain⟨y,hy,hm2⟩:∃y∈Lc cs,e.z∈y.2:=bO λhh=>hn ⟨λy hy hm=>hh ⟨y,hy,hm⟩,hz⟩
    obtain⟨d,hd,rfl⟩:=ae.mp hy;obtain⟨t,ht,et⟩:=ae.mp hm2;obtain⟨c,hc',h1,h2⟩:=lv d hd t ht;have:c=e:=AH nd hc' he ((congrArg Prod.fst h1).trans et);subst this;obtain⟨x,hx,j,hj,hm3⟩:=ih d hd (by lia);obtain⟨tw,_⟩:=h x hx;have atd:At cs (d.z,d.y,AR d.bk) d.bk:=⟨d,hd,rfl,rfl⟩
    cases j with
    |zero=>
     obtain⟨b,hb,hlb⟩:=tw.at 0 (aR _) _ hm3;rw[<-atd.bk nd hb] at hlb;cases hbk:d.bk with
     |piece z=>rw[hbk] at ht;cases ht
     |row v ts=>
      have o:=ok d hd;rw[hbk] at o hlb;have:=o.1.1;have:v=0:=hlb
      lia
     |folder=>
      rw[hbk] at hlb;cases hlb
    |succ j=>exact⟨x,hx,j,by lia,by rw[h1];exact tw.down nd (by lia) hm3 atd t ht⟩
 intro e he;exact key (100-MO e.bk).toNat e he (by lia)
theorem Xz {cs:List Cl}{hs:List Hx}(nd:(cs.map (·.z)).Nodup)(h:Hh cs hs)(rc:Rc cs hs):cs.length<=173*hs.length:=by
 have l1:∀hs:List Hx,Hh cs hs->(hs.flatMap λx=>Iy x.L (x.lv+1)).length<=173*hs.length:=by
  intro hs
  induction hs with
  |nil=>intro _;exact aR _
  |cons x hs ih=>
   intro h;have:=ih λy hy=>h y (ao _ hy)
   obtain⟨tw,lz,_⟩:=h x av;have:=tw.size (by rw[AO];exact lz);rw[List.flatMap_cons,ar,aL]
   lia
 have:=Gv (l:=cs.map λe=>(e.z,e.y,AR e.bk)) (m:=hs.flatMap λx=>Iy x.L (x.lv+1)) (Jc nd λa _ c _ e=>congrArg Prod.fst e) λt ht=>by
  obtain⟨e,he,rfl⟩:=ae.mp ht;obtain⟨x,hx,i,hi,hm⟩:=rc e he;exact List.mem_flatMap.mpr ⟨x,hx,Ng.mpr ⟨i,hi,hm⟩⟩
 have:=l1 hs h;rw[ab] at *
 lia
end
open M06 M08 M10
section
variable {P:Program}{w:World}{K:W.Frag}{mg:Str->Option Value}{base:Heap}{f Ab Ad Aa Ae:Addr}{XC:Nat->Addr}{fd:FuncData}
theorem made {C:Addr}{H1 H2:Hp}{x dx:Addr}(nx:H1 x=none)(ndx:H1 dx=none)(k:∀b o,(upd (upd H1 dx (.own x)) x (.ins C dx [])) b=some o->b≠x->H2 b=some o):As H1 H2:=λb o e=>by
 have n1:b≠x:=AD e nx;have n2:b≠dx:=AD e ndx;exact k b o (by rw[Aj n1,Aj n2];exact e) n1
theorem Sj {α:Type}{f:α->V}{zs:List α}(h:zs≠[]):∃ys:List α,Dn (zs.map f) (some (-4)) none=ys.map f/\ys≠[]/\∀y∈ys,y∈zs:=by
 have h0:0<zs.length:=cD.mpr h;have e:Dn (zs.map f) (some (-4)) none=(zs.drop (zs.length-4)).map f:=by
  unfold Dn HT.C0;rw[ab];show List.take (zs.length-(-4+(zs.length:Int)).toNat) (List.drop (-4+(zs.length:Int)).toNat (zs.map f))=_;rw[show(-4+(zs.length:Int)).toNat=zs.length-4 by lia,<-gP,<-fb,aK (by rw[bP];exact ah _)]
 refine⟨_,e,λz=>?_,λy hy=>cU hy⟩;have:=congrArg List.length z;rw[bP] at this;have:zs.length-(zs.length-4)=0:=this
 lia
structure Ls (H:Hp) (sl hl cl:Addr) (hs:List Hx) (zs:List Str) (ms:List Int) (cs:List Cl):Prop where
 lh:H hl=some (.lst (hs.map λx=>V.ref x.a))
 hx:PY H hs
 ls:H sl=some (.lst (zs.map V.str))
 lc:H cl=some (.lst (ms.map V.int))
 n1:sl≠hl
 n2:cl≠sl
 n3:cl≠hl
 ne:∀e∈cs,e.l≠sl/\e.l≠hl
 z1:zs≠[]
 zk:∀z∈zs,z.length<=80/\C2 z
section
variable {H H':Hp}{sl hl cl:Addr}{hs:List Hx}{zs:List Str}{ms:List Int}{cs cs':List Cl}
theorem Ls.kn (h:Ls H sl hl cl hs zs ms cs)(k:Kn H H')(ne:∀e∈cs',e.l≠sl/\e.l≠hl):Ls H' sl hl cl hs zs ms cs':={ h with lh:=k.lst h.lh,hx:=h.hx.keep k.tup,ls:=k.lst h.ls,lc:=k.lst h.lc,ne:=ne }
theorem Ls.same (h:Ls H sl hl cl hs zs ms cs)(s:As H H'):Ls H' sl hl cl hs zs ms cs:=h.kn (As.kn s) h.ne
theorem Ls.ne_new (h:Ls H sl hl cl hs zs ms cs)(nw:MC H cs cs'):∀e∈cs',e.l≠sl/\e.l≠hl:=λe he=>⟨nw sl _ h.ls (λe he=>(h.ne e he).1) e he,nw hl _ h.lh (λe he=>(h.ne e he).2) e he⟩
theorem Ls.tell (h:Ls H sl hl cl hs zs ms cs){z:Str}(hz:z.length<=80/\C2 z):Ls (upd H sl (.lst (zs.map V.str++[.str z]))) sl hl cl hs (zs++[z]) ms cs:=
 { h with
  lh:=by rw[Aj (Ne.symm h.n1)];exact h.lh
  hx:=h.hx.keep λc ys g=>by rw[Aj (AQ g h.ls (by intro z;cases z))];exact g
  ls:=by rw[Ag,aJ];rfl
  lc:=by rw[Aj h.n2];exact h.lc
  z1:=by simp
  zk:=λy hy=>by
   rcases ai.mp hy with hy|hy
   ·exact h.zk y hy
   ·rw[ag.mp hy];exact hz }
theorem Ls.held (h:Ls H sl hl cl hs zs ms cs){hs':List Hx}(hx:PY H hs'):Ls (upd H hl (.lst (hs'.map λx=>V.ref x.a))) sl hl cl hs' zs ms cs:=
 { h with
  lh:=Ag
  hx:=hx.keep λc ys g=>by rw[Aj (AQ g h.lh (by intro z;cases z))];exact g
  ls:=by rw[Aj h.n1];exact h.ls
  lc:=by rw[Aj h.n3];exact h.lc }
theorem Ls.hd (h:Ls H sl hl cl hs zs ms cs):(hs.map λx=>V.ref x.a)=[]\/(∃a r ys,(hs.map λx=>V.ref x.a)=.ref a::r/\H a=some (.tup ys))\/∃z r,(hs.map λx=>V.ref x.a)=.str z::r:=by
 cases hs with
 |nil=>exact .inl rfl
 |cons x hs=>exact .inr (.inl ⟨x.a,_,_,rfl,(h.hx x av).1⟩)
theorem Ls.sd (h:Ls H sl hl cl hs zs ms cs):(zs.map V.str)=[]\/(∃a r ys,(zs.map V.str)=.ref a::r/\H a=some (.tup ys))\/∃z r,(zs.map V.str)=.str z::r:=by
 cases zs with
 |nil=>exact .inl rfl
 |cons z zs=>exact .inr (.inr ⟨z,_,rfl⟩)
end
def Lw (CB CP CT:Addr)(x sl hl cl:Addr)(ms:List Int)(i M:Nat)(H:Hp)(hs:List Hx)(zs:List Str):Prop:=∃ds b n q cs bs,Pg CB CP CT H x ds b n q cs bs (hs.map λx=>x.t.1) (i:Int)/\Ls H sl hl cl hs zs ms cs/\Hh cs hs/\(∀c∈b,c.length<=1200*i)/\cs.length<=M
theorem Lw.same {CB CP CT x sl hl cl:Addr}{ms:List Int}{i M:Nat}{H H':Hp}{hs:List Hx}{zs:List Str}(s:As H H')(h:Lw CB CP CT x sl hl cl ms i M H hs zs):Lw CB CP CT x sl hl cl ms i M H' hs zs:=by
 obtain⟨ds,b,n,q,cs,bs,h1,h2,h3⟩:=h;exact⟨ds,b,n,q,cs,bs,h1.same s,h2.same s,h3⟩
theorem Lw.lc {CB CP CT x sl hl cl:Addr}{ms:List Int}{i M:Nat}{H:Hp}{hs:List Hx}{zs:List Str}(h:Lw CB CP CT x sl hl cl ms i M H hs zs):H cl=some (.lst (ms.map V.int)):=by
 obtain⟨ds,b,n,q,cs,bs,h1,h2,h3⟩:=h;exact h2.lc
theorem pop_at {hs:List Hx}(h3:hs.length=3){j:Int}(h0:0<=j)(h1:j<2):∃(k:Nat) (y:Hx),seqIndex? j (hs.map λx=>V.ref x.a).length=some k/\(hs.map λx=>V.ref x.a)[k]?=some (.ref y.a)/\y∈hs/\hs.Perm (y::hs.eraseIdx k)/\(hs.map λx=>V.ref x.a).eraseIdx k=(hs.eraseIdx k).map (λx=>V.ref x.a)/\(hs.eraseIdx k).length=2:=by
 obtain⟨a,b,c,rfl⟩:∃a b c,hs=[a,b,c]:=by
  cases hs with
  |nil=>cases h3
  |cons a hs=>
   cases hs with
   |nil=>cases h3
   |cons b hs=>
    cases hs with
    |nil=>cases h3
    |cons c hs=>
     cases hs with
     |nil=>exact⟨a,b,c,rfl⟩
     |cons d hs=>exact absurd h3 (by simp)
 rcases(show j=0\/j=1 by lia) with rfl|rfl
 ·exact⟨0,a,rfl,rfl,av,List.Perm.refl _,rfl,rfl⟩
 ·exact⟨1,b,rfl,rfl,by simp,List.Perm.swap _ _ _,rfl,rfl⟩
def NY (K:W.Frag):Sp:=λvs H Q _=>∃(a:Addr) (ns:List Int),vs=[.ref a]/\AJ K H a (ns.map V.int)/\ns.length<=63/\∀H',Q (.bl true) H'
theorem XA (T:Txt K mg Ab Ad Aa Ae XC)(F:Fun K "law" "law" TH f fd)(GQ:Su P w K mg base 1 Ae "Pool" ["self","boards"] (IJ K Ae))(E3:Su P w K mg base 3 Ad "Boards" ["self","many"] (GP K Ad))(Fs:Def P w K mg base 1 "_law_row" ["_law_cell","_law_many"] (JZ K))(EZ:Def P w K mg base 21 "put_content" ["pool","content","birth"] (GD K Ad Ae Aa))(CW:BJ P w K mg base 1 Ae "hold" ["self","tag"] (Fn K Ae Aa))(FL:BJ P w K mg base 4 Ae "sweep" ["self"] (Hl K Ae Aa))(CV:Def P w K mg base 1 "_law_text" ["_law_row_here"] (Fu K))(B8:BJ P w K mg base 3 Ae "release" ["self","tag"] (DP K Ae Aa))(Dt:BJ P w K mg base 11 Ae "lay_draft" ["self"] (EI K Ae Aa Ad))(FO:Def P w K mg base 29 "_law_right" ["_law_pool","_law_held"] (Ho K Ad Ae Aa))(Eo:Def P w K mg base 1 "_law_cell_at" ["_law_script","_law_k"] (FT K))(F3:Def P w K mg base 2 "_law_next" ["_law_row_here","_law_some"] (IV K)):FnOk P w K mg base BI 30 f fd ["_law_script"] (NY K):=by
 exists Ey
 ·obtain⟨a,ns,rfl,_⟩:=h;rfl
 obtain⟨a,ns,rfl,hS,n63,q⟩:=h;have hu:=BL hr;have hu9:=E4 hr;refine⟨_,(!Af (@Ap _ _ (1) _ _ _ _ Ey.nd rfl (by trivial) (!BP) (by rfl) (by trivial)) (!Af (!Bn aU rfl (!A2 (!BN Fv (pv 0) (!BG (!Ai)) (!BG (!Ai)))) (@An _ _ (2) _ Ey.nd rfl (by trivial) (by trivial)) (!Ak (@Ap _ _ (1) _ _ _ _ Ey.nd rfl (by trivial) (!Ar Bq (pv 1) (!AG CV (by trivial) rfl (!Ac (!AG Fs (by trivial) rfl (!Ac (pv 2) (!Ac (!Ai) (!Ah)))) (!Ah)))) (by rfl) (by trivial))) (by intro _;rfl)) (!Af (@Ap _ _ (3) _ _ _ _ Ey.nd rfl (by trivial) (!Of GQ (by trivial) rfl (!Ac (!Of E3 (by trivial) rfl (!Ac (!Ai) (!Ah))) (!Ah))) (by rfl) (by trivial)) (!Af (@Ap _ _ (4) _ _ _ _ Ey.nd rfl (by trivial) (!Be (!Ac (!BN Lr (pv 1) (!Dv) (!BG (!Ai))) (!Ah))) (by rfl) (by trivial)) (!Af (@Ap _ _ (5) _ _ _ _ Ey.nd rfl (by trivial) (!Be (!Ah)) (by rfl) (by trivial)) (!Af (!Bn aU rfl (!Ot rfl T.b_enumerate (!Ac (!Ar DY (!Be (!Ac (!AG Eo (by trivial) rfl (!Ac (pv 0) (!Ac (!Ai) (!Ah)))) (!Ah))) (!BN Fv (pv 0) (!BG (!Ai)) (!BG (!Ai)))) (!Ah))) (!FD rfl (!AA (@An _ _ (6) _ Ey.nd rfl (by trivial) (by trivial)) (!AA (@An _ _ (2) _ Ey.nd rfl (by trivial) (by trivial)) (!BF)))) (!Af (@Ap _ _ (7) _ _ _ _ Ey.nd rfl (by trivial) (!AG Fs (by trivial) rfl (!Ac (pv 2) (!Ac (!Ai) (!Ah)))) (by rfl) (by trivial)) (!Af (!AL (!Aw FX (pv 6) (!Ai) (Av _)) (!Ak (!AN (!Ca aT ba aZ Bp (pv 4) (!Ac (!AG F3 (by trivial) rfl (!Ac (pv 7) (!Ac (!BN Fv (pv 4) (!BG (!Ki Gh (!Ai))) (!Dv)) (!Ah)))) (!Ah))))) (!Au)) (!Af (@Ap _ _ (8) _ _ _ _ Ey.nd rfl (by trivial) (!AG EZ (by trivial) rfl (!Ac (pv 3) (!Ac (!Ax A6 (pv 4) (!Ki Gh (!Ai)) (λ_ _=>rfl)) (!Ac (pv 6) (!Ah))))) (by rfl) (by trivial)) (!Af (!AN (!A4 (pv 3) T.cl_Pool CW (by trivial) (!Ac (pv 8) (!Ah)))) (!Af (!AN (!Ca aT ba aZ Bp (pv 5) (!Ac (!DE (!Ac (!Ax A6 (pv 4) (!Ki Gh (!Ai)) (λ_ _=>rfl)) (!Ac (pv 8) (!Ah)))) (!Ah)))) (!Af (!AL (!Aw FX (!Aq Az (by rfl) T.b_len AZ (!Ac (pv 5) (!Ah))) (!Ai) (Av _)) (!Ak (!AN (!A4 (pv 3) T.cl_Pool B8 (by trivial) (!Ac (!Ax AE (!Ca aT ir ig UI (pv 5) (!Ac (!Ar Bd (!Ax A6 (pv 7) (!Ai) (λ_ _=>rfl)) (!Ai)) (!Ah))) (!Ai) (λ_ _=>rfl)) (!Ah))))) (!Au)) (!Af (!AN (!Dy (pv 3) T.cl_Pool FL)) (!Af (!AL (!Aw Bb (!Ar Bd (!Ax A6 (pv 7) (!Ai) (λ_ _=>rfl)) (!Ai)) (!Ai) (Av _)) (!Ak (!AN (!Dy (pv 3) T.cl_Pool Dt))) (!Au)) (!Ak (!AL (!Co (!BK (!AG FO (by trivial) rfl (!Ac (pv 3) (!Ac (pv 5) (!Ah)))) (by intro _;rfl))) (!Ak (!Ao (!Ed))) (!Au))))))))))) (by intro _;rfl)) (!Ak (!Ao (!Ed))))))))),?_⟩
 try dsimp only[BM,Cx.nox,Cx.wish]
 refine AF λN eN=>?_
 change N _ _
 subst eN;refine AF λN eN=>?_
 refine⟨_,rfl,1,rfl,5,rfl,a,_,rfl,hS,λc0 hc0=>?_⟩;obtain⟨m0,em0,lm0,_⟩:=Oy ns (some 1) (some 5);have l4:m0.length<=4:=by
  have:=congrArg List.length em0;rw[Jl (by decide) (by decide),bu,ab] at this
  lia
 rw[em0];have s0:=Al hc0 (.lst (m0.map V.int));refine⟨c0,rfl,⟨_,AJ.of Ag⟩,?_⟩;refine BD (K:=K) (a:=c0) (xs:=m0.map V.int) (λi σ H'=>∃(z:Str) (v2:Option V),σ=[some (.ref a),some (.str z),v2,none,none,none,none,none,none]/\As H H'/\H' c0=some (.lst (m0.map V.int))/\z.length<=100*i/\C2 z) ⟨_,_,rfl,s0,Ag,aR _,(λc hc=>by cases hc)⟩ ?_ ?_ ?_
 ·rintro i σ H' _ ⟨z,v2,_,_,h,_⟩
  exact AJ.of h
 ·rintro i v σ H' hi ⟨z,v2,rfl,s',hc',lz,zs⟩
  obtain⟨n,rfl,hn⟩:=ints_get hi;have il:i<m0.length:=(aj.mp hn).1;refine⟨_,rfl,_,rfl,n,4,rfl,by decide,by decide,λr H2 row s2 nr hr lr br=>?_⟩;refine⟨r,row,rfl,hr,lr,br,λz2 H3 s3 lz2 Y5=>?_⟩;refine⟨_,_,rfl,rfl,small (by lia),z++z2,_,rfl,s'.trans (s2.trans s3),s3.get (s2.get hc'),by rw[len_app];lia,zs.app Y5⟩
 rintro σ H' ⟨z,v2,rfl,s',_,lz,zs⟩
 rw[ab] at lz;have hS1:=s'.seq hS;subst eN;dsimp only;refine AF λN eN=>?_
 intro xb dxb nxb ndxb _;refine⟨xb,dxb,2,rfl,by decide,by decide,Ag,λH1 ds B1 n1 k1=>⟨rfl,?_⟩⟩;have s1:=made nxb ndxb k1;obtain⟨dxb',sh,hxb1,_⟩:=id B1;intro x dx nx ndx _;refine⟨x,dx,xb,rfl,Ag,λdt dz dd H2 k2 e1 e2 e3 hdt hdz hdd hx hnw=>⟨rfl,?_⟩⟩;have s2:=made nx ndx k2;have hS2:=s2.seq (s1.seq hS1);have hB2:=B1.same s2;have pa2:PAt Ae Aa H2 x ⟨dx,xb,dt,dz,dd,1,[]⟩ [] []:=⟨⟨hx,hdt,(λ_ h=>nomatch h),cI⟩,hdd,⟨hdz,cI,cI,(λ_ h=>nomatch h),(λ_ h=>nomatch h)⟩,e1,e2,e3,cI,(λe h=>nomatch h),(λe h=>nomatch h),e8 _,(λi h1 h2=>absurd h2 (by show ¬i<1;lia))⟩
 have old:∀{c o},H1 c=some o->c∉A9 x ⟨dx,xb,dt,dz,dd,1,[]⟩ [] []:=λ{c o} h=>by
  have hN:∀{d},(upd (upd H1 dx (.own x)) x (.ins Ae dx [])) d=none->c≠d:=λ{d} hd z=>by
   have n1:c≠x:=AD h nx;have n2:c≠dx:=AD h ndx;rw[<-z,Aj n1,Aj n2,h] at hd;cases hd
  unfold A9;simp only[List.mem_cons,List.mem_append,List.map_nil,List.not_mem_nil,or_false,not_or];exact⟨AD h nx,hN hnw.1,hN hnw.2.1,hN hnw.2.2⟩
 have bo0:Bo (List.replicate 2 []) [] [] 0:=by
  refine⟨by decide,by decide,λz j row hj g=>?_,(λ_ h=>nomatch h),(λ_ h=>nomatch h)⟩;rw[iw] at hj;have:(List.replicate 2 ([]:CJ)).getD j []=[]:=by rcases(show j=0\/j=1 by lia) with rfl|rfl<;>rfl
  rw[this] at g;cases g
 have pg0:Pg Ad Ae Aa H2 x ds (List.replicate 2 []) 0 ⟨dx,xb,dt,dz,dd,1,[]⟩ [] [] [] 0:=⟨pa2,(λ_ h=>nomatch h),⟨(λ_ h=>nomatch h),(λ_ h=>nomatch h),(λ_ h=>nomatch h)⟩,cI,hB2,⟨old hxb1,λd hd=>(B1.there d hd).elim λkvs g=>old g⟩,bo0,(λ_ h=>nomatch h),(λ_ h=>nomatch h),(λ_ h=>nomatch h)⟩
 subst eN;dsimp only
 clear pa2 old bo0 hB2
 refine AF λN eN=>?_
 refine⟨_,rfl,80,rfl,z,rfl,small (by lia),Qx,λsl hsl=>?_⟩;have ok80:=Ww zs;have hsl3:(upd H2 sl (.lst [V.str (PySem.Txt.slice z none (some 80))])) sl=some (.lst ([PySem.Txt.slice z none (some 80)].map V.str)):=Ag;have s3:=Al hsl (.lst [V.str (PySem.Txt.slice z none (some 80))]);generalize (upd H2 sl (.lst [V.str (PySem.Txt.slice z none (some 80))]))=H3 at s3 hsl3;subst eN
 try dsimp only
 refine AF λN eN=>?_
 refine⟨Hf,λhl hhl=>?_⟩;have s4:=Al hhl (.lst []);have nsh:sl≠hl:=λe=>by rw[<-e,hsl3] at hhl;cases hhl
 have hhl4:(upd H3 hl (.lst [])) hl=some (.lst []):=Ag;have hsl4:=s4.get hsl3;have s34:=s3.trans s4;generalize (upd H3 hl (.lst []))=H4 at s4 s34 hhl4 hsl4;subst eN
 try dsimp only
 refine AF λN eN=>?_
 have hS4:=s34.seq hS2;refine⟨_,rfl,a,ns,0,rfl,e8 0,hS4,λz0=>⟨Qx,λl1 hl1=>?_⟩⟩;have s5:=Al hl1 (.lst [V.int z0]);refine⟨_,rfl,5,rfl,25,rfl,a,_,rfl,s5.seq hS4,λc2 hc2=>?_⟩;obtain⟨m1,em1,_,_⟩:=Oy ns (some 5) (some 25);have l20:m1.length<=20:=by
  have:=congrArg List.length em1;rw[Jl (by decide) (by decide),bu,ab] at this
  lia
 rw[em1];have s6:=s5.trans (Al hc2 (.lst (m1.map V.int)));refine⟨l1,c2,_,_,rfl,rfl,AJ.of ((Al hc2 _).get Ag),AJ.of Ag,small (by rw[ab];show 1+m1.length<=_;lia),λcl hcl=>?_⟩;have s7:=s6.trans (Al hcl (.lst ([V.int z0]++m1.map V.int)));have ncs:cl≠sl:=λe=>by rw[e,s6.get hsl4] at hcl;cases hcl
 have nch:cl≠hl:=λe=>by rw[e,s6.get hhl4] at hcl;cases hcl
 have hcl7:(upd (upd (upd H4 l1 (.lst [V.int z0])) c2 (.lst (m1.map V.int))) cl (.lst ([V.int z0]++m1.map V.int))) cl=some (.lst ((z0::m1).map V.int)):=Ag;generalize (upd (upd (upd H4 l1 (.lst [V.int z0])) c2 (.lst (m1.map V.int))) cl (.lst ([V.int z0]++m1.map V.int)))=H7 at s7 hcl7;have lms:(z0::m1).length<=21:=by rw[aL];lia
 generalize z0::m1=ms at hcl7 lms;have w0:Lw Ad Ae Aa x sl hl cl ms 0 346 H7 [] [PySem.Txt.slice z none (some 80)]:=⟨ds,_,_,_,[],_,pg0.same (s34.trans s7),⟨s7.get hhl4,(λ_ h=>nomatch h),s7.get hsl4,hcl7,nsh,ncs,nch,(λ_ h=>nomatch h),by simp,λy hy=>by rw[ag.mp hy];exact ok80⟩,(λ_ h=>nomatch h),(λc hc=>by rw[List.eq_of_mem_replicate hc];exact aR _),by decide⟩
 clear pg0 s7 hcl7 s6 s5 s34 hsl4 hhl4 hsl3 s4 s3 hS4 hS2 hS1
 refine⟨cl,_,rfl,AJ.of w0.lc,?_⟩;refine MX (K:=K) (a:=cl) (xs:=ms.map V.int) (λi σ H'=>∃hs zs v2 v6 v7 v8,σ=[some (.ref a),some (.str z),v2,some (.ref x),some (.ref sl),some (.ref hl),v6,v7,v8]/\Lw Ad Ae Aa x sl hl cl ms i 346 H' hs zs/\hs.length<=2/\zs.length<=i+1) ⟨[],_,_,_,_,_,rfl,w0,aR _,ah _⟩ ?_ ?_ ?_
 ·rintro i σ H' _ ⟨hs,zs,v2,v6,v7,v8,_,w,_⟩
  exact AJ.of w.lc
 ·rintro i v σ H' T0 hi ⟨hs,zs,v2,v6,v7,v8,rfl,w,l2,lzs⟩ hT
  obtain⟨c,rfl,hn⟩:=ints_get hi;have il:i<ms.length:=(aj.mp hn).1;have sT:=Al hT (.tup [V.int (i:Int),V.int c]);refine⟨T0,_,rfl,A8.of Ag,rfl,_,_,rfl,_,_,rfl,rfl,?_⟩
  replace w:=w.same sT
  generalize upd H' T0 (.tup [V.int (i:Int),V.int c])=H1 at w
  clear sT hT
  dsimp only;refine Di λEB eEB=>?_
  refine AF λNB eNB=>?_
  refine⟨_,rfl,c,12,rfl,by decide,by decide,λr H2 row s2 nr hr lr br=>?_⟩;have nrs:r≠sl/\r≠hl:=by
   obtain⟨_,_,_,_,_,_,_,h2,_⟩:=w;exact⟨(λe=>by rw[e,h2.ls] at nr;cases nr),(λe=>by rw[e,h2.lh] at nr;cases nr)⟩
  replace w:=w.same s2
  dsimp only[BH];subst eNB
  try dsimp only
  have gx:∀k:Nat,k<12->∃n:Int,He (row.map V.int) (k:Int)=some (.int n)/\0<=n/\n<1000000:=λk hk=>by
   have hk':k<row.length:=by rw[lr];exact hk
   exact⟨row[k],C4 (by rw[aD,aa hk'];rfl),br _ (bQ hk')⟩
  obtain⟨n9,a9,b9⟩:=gx 9 (by decide);obtain⟨n10,a10,b10⟩:=gx 10 (by decide)
  clear gx
  refine G6 (λσ' H'=>∃zs,σ'=[some (.ref a),some (.str z),some (.int c),some (.ref x),some (.ref sl),some (.ref hl),some (.int (i:Int)),some (.ref r),v8]/\Lw Ad Ae Aa x sl hl cl ms i 346 H' hs zs/\H' r=some (.lst (row.map V.int))/\zs.length<=i+2) (λNM hN=>?_) ?_
  ·refine⟨_,rfl,_,_,rfl,rfl,_,rfl,Cs (λ_=>?_) (λ_=>hN _ _ ⟨zs,rfl,w,hr,by lia⟩)⟩;obtain⟨ds,b,n,q',cs,bs,pg,L,ok,bb,few⟩:=w;obtain⟨ys,ecy,ny,my⟩:=Sj (f:=V.str) L.z1;refine⟨_,rfl,.inl ⟨rfl,_,AJ.of L.ls⟩,_,rfl,_,rfl,_,rfl,_,rfl,sl,_,rfl,AJ.of L.ls,λc4 hc4=>?_⟩;rw[ecy];have s3:=Al hc4 (.lst (ys.map V.str));refine⟨r,c4,row,ys,rfl,s3.get hr,lr,br,Ag,ny,(λy hy=>L.zk y (my y hy)),λz3 H3 s4 lz3 Zk=>?_⟩;have s34:=s3.trans s4;have L3:=L.same s34;have pg3:=pg.same s34;refine⟨sl,_,_,rfl,rfl,L3.ls,A7 (by rw[ab];lia),?_⟩;refine hN _ _ ⟨zs++[z3],rfl,⟨ds,b,n,q',cs,bs,pg3.lst L3.ls (λe he=>(L3.ne e he).1) L3.sd,L3.tell ⟨lz3,Zk⟩,ok,bb,few⟩,?_,by rw[ar];show zs.length+1<=_;lia⟩;rw[Aj nrs.1];exact s34.get hr
  clear w hr lzs
  rintro σ' H' ⟨zs,rfl,⟨ds,b,n,q',cs,bs,pg,L,ok,bb,few⟩,hr,lzs⟩
  refine AF λNB eNB=>?_
  obtain⟨v,mv,atv⟩:=TF (xs:=zs.map V.str) (by simpa using L.z1);obtain⟨y,my,rfl⟩:=ae.mp mv;obtain⟨ly,zy⟩:=L.zk y my;refine⟨_,rfl,_,rfl,_,rfl,sl,_,_,_,rfl,rfl,AJ.of L.ls,atv,_,rfl,x,ds,b,n,q',cs,bs,_,(i:Int),y,(i:Int),rfl,pg,by lia,ly,zy,⟨by lia,by lia⟩,rfl,λH5 q5 cs5 bs5 ta t lv ts0 pg5 eq5 g5 l5 kn5 nw5 hta l8 tw bo=>?_⟩;dsimp only[BH];subst eNB
  try dsimp only
  refine AF λNB eNB=>?_
  obtain⟨Lf,lv',tow⟩:=WI ⟨lv,ts0,l8,tw,bo⟩;obtain⟨bt,⟨e,he,et,eb⟩,_⟩:=tow.at (lv'+1) (ah _) t (by rw[tow.top];exact ag.mpr rfl);have hte:H5 ta=some (.tup [.int e.z,.int e.y,.int (AR e.bk)]):=by rw[hta,<-et]
  refine⟨_,rfl,x,q5.dp,_,rfl,pg5.pa.t.1,rfl,_,rfl,x,q5,cs5,e,ta,_,_,rfl,pg5.pa.t,he,hte,?_⟩;have L5:Ls H5 sl hl cl hs zs ms cs5:=L.kn kn5 (L.ne_new nw5);have hr5:=kn5.lst hr;have ok5:=ok.grow g5;have pg6:=pg5.hold he;have kn6:Kn H5 (upd H5 e.c (.ins Aa e.dx (CM e.ta ((wT (CI e.bk)).length:Int) e.l (e.k+1) e.en e.st))):=λa o h n1 _=>by
   rw[Aj (λz=>by rw[z,(pg5.pa.t.2.2.1 e he).1] at h;exact n1 _ _ _ (aA h).symm)];exact h
  have L6:=L5.kn kn6 (cs':=cs5.map (bump [e.z])) λd hd=>by
   obtain⟨d',hd',rfl⟩:=ae.mp hd;exact L5.ne d' hd'
  have ok6:=ok5.grow (Nc [e.z] cs5);have hr6:=kn6.lst hr5;have hta6:=kn6.tup _ _ hta;have tow6:=tow.keep (cs':=cs5.map (bump [e.z])) λ_ _ u _ b ha=>Nc [e.z] cs5 u b ha
  have l6:(cs5.map (bump [e.z])).length<=526:=by rw[ab];lia
  have ez:[e.z]=[t].map (·.1):=by rw[<-et];rfl
  generalize (upd H5 e.c (.ins Aa e.dx (CM e.ta ((wT (CI e.bk)).length:Int) e.l (e.k+1) e.en e.st)))=H6 at pg6 kn6 L6 hr6 hta6;dsimp only;subst eNB
  try dsimp only
  clear pg hr5 L5 L pg5 hte ok tow
  refine AF λNB eNB=>?_
  refine⟨_,rfl,.inl ⟨rfl,_,AJ.of L6.lh⟩,_,rfl,_,rfl,sl,_,_,_,rfl,rfl,AJ.of L6.ls,atv,_,rfl,Ms,λtp htp=>?_⟩;have s7:=Al htp (.tup [V.str y,V.ref ta]);have htp7:(upd H6 tp (.tup [V.str y,V.ref ta])) tp=some (.tup [V.str y,V.ref ta]):=Ag;generalize upd H6 tp (.tup [V.str y,V.ref ta])=H7 at s7 htp7;have L7:=L6.same s7;have pg7:=pg6.same s7;refine⟨hl,_,_,rfl,rfl,L7.lh,A7 (by rw[ab];lia),?_⟩;subst eNB
  try dsimp only
  have hx8:PY H7 (hs++[⟨tp,ta,y,t,Lf,lv'⟩]):=λu hu=>by
   rcases ai.mp hu with hu|hu
   ·exact L7.hx u hu
   ·rw[ag.mp hu];exact⟨htp7,s7.get hta6⟩
  have ok8:Hh (cs5.map (bump [e.z])) (hs++[⟨tp,ta,y,t,Lf,lv'⟩]):=λu hu=>by
   rcases ai.mp hu with hu|hu
   ·exact ok6 u hu
   ·rw[ag.mp hu];exact⟨tow6,ly,zy⟩
  have L8:=L7.held hx8;have pg8:=pg7.lst (us':=(hs++[(⟨tp,ta,y,t,Lf,lv'⟩:Hx)]).map λx=>V.ref x.a) L7.lh (λd hd=>(L7.ne d hd).2) L7.hd;have hr8:(upd H7 hl (.lst ((hs++[(⟨tp,ta,y,t,Lf,lv'⟩:Hx)]).map λx=>V.ref x.a))) r=some (.lst (row.map V.int)):=by rw[Aj nrs.2];exact s7.get hr6
  have eX:hs.map (λx=>x.t.1)++[e.z]=(hs++[(⟨tp,ta,y,t,Lf,lv'⟩:Hx)]).map λx=>x.t.1:=by rw[aJ,ez];rfl
  rw[eX] at pg8;have el:hs.map (λx=>V.ref x.a)++[V.ref tp]=(hs++[(⟨tp,ta,y,t,Lf,lv'⟩:Hx)]).map λx=>V.ref x.a:=by rw[aJ];rfl
  rw[el];have l3:(hs++[(⟨tp,ta,y,t,Lf,lv'⟩:Hx)]).length<=3:=by rw[ar];show hs.length+1<=3;lia
  generalize upd H7 hl (.lst ((hs++[(⟨tp,ta,y,t,Lf,lv'⟩:Hx)]).map λx=>V.ref x.a))=H8 at L8 pg8 hr8;generalize hs++[(⟨tp,ta,y,t,Lf,lv'⟩:Hx)]=h3 at ok8 L8 pg8 l3
  clear eX el hx8 L7 pg7 s7 htp7 pg6 L6 ok6 tow6 l2 ok5 hr6
  generalize cs5.map (bump [e.z])=cs8 at pg8 L8 ok8 l6;refine G6 (λσ' H'=>∃hs n q cs,σ'=[some (.ref a),some (.str z),some (.int c),some (.ref x),some (.ref sl),some (.ref hl),some (.int (i:Int)),some (.ref r),some (.ref ta)]/\Pg Ad Ae Aa H' x ds b n q cs bs5 (hs.map λx=>x.t.1) (i:Int)/\Ls H' sl hl cl hs zs ms cs/\Hh cs hs/\cs.length<=526/\hs.length<=2/\H' r=some (.lst (row.map V.int))) (λNM hN=>?_) ?_
  ·refine⟨_,rfl,hl,_,rfl,.inl (AJ.of L8.lh),_,_,rfl,rfl,_,rfl,Cs (λhk=>?_) (λhk=>?_)⟩
   ·have e3:h3.length=3:=by
     have:=bf hk;rw[ab] at this
     lia
    obtain⟨k,u,hsi,hat,hu',pm,em,le⟩:=pop_at e3 (j:=n9%2) (bJ _ (by decide)) (bS _ (by decide));have u1:=L8.hx u hu';refine⟨_,rfl,x,q5.dp,_,rfl,pg8.pa.t.1,rfl,_,rfl,.inl ⟨rfl,_,AJ.of L8.lh⟩,_,rfl,r,_,_,_,rfl,rfl,AJ.of hr8,a9,_,_,rfl,rfl,(by show(0:Int)<2;decide),hl,_,_,k,_,rfl,rfl,L8.lh,by lia,by lia,hsi,hat,?_⟩;rw[em];have sb3:∀w∈h3.eraseIdx k,w∈h3:=λw hw=>List.mem_of_mem_eraseIdx hw
    have L9:=L8.held (hs':=h3.eraseIdx k) λw hw=>L8.hx w (sb3 w hw)
    have pg9:=pg8.lst (us':=(h3.eraseIdx k).map λx=>V.ref x.a) L8.lh (λd hd=>(L8.ne d hd).2) L8.hd;have t9:∀c ys,H8 c=some (.tup ys)->(upd H8 hl (.lst ((h3.eraseIdx k).map λx=>V.ref x.a))) c=some (.tup ys):=λc ys g=>by rw[Aj (AQ g L8.lh (by intro z;cases z))];exact g
    have ua:=t9 _ _ u1.1;have ut:=t9 _ _ u1.2;have hr9:(upd H8 hl (.lst ((h3.eraseIdx k).map λx=>V.ref x.a))) r=some (.lst (row.map V.int)):=by rw[Aj nrs.2];exact hr8
    generalize upd H8 hl (.lst ((h3.eraseIdx k).map λx=>V.ref x.a))=H9 at L9 pg9 ua ut hr9;dsimp only;refine⟨u.a,_,_,_,rfl,rfl,A8.of ua,C4 (j:=1) rfl,x,q5,cs8,bs5,u.ta,u.t.1,_,(h3.eraseIdx k).map (λx:Hx=>x.t.1),rfl,pg9.pa,by lia,ut,pg9.na,pg9.rt.congr λz=>(pm.map λx:Hx=>x.t.1).count_eq z,λm H10 cs' pa' na' rt' cas _ sb fr=>?_⟩;have kn:Kn H9 H10:=λa o h n1 n2=>fr a o h (pg9.pa.apart h n1 n2)
    exact hN _ _ ⟨h3.eraseIdx k,n,{ q5 with n:=m },cs',rfl,pg9.less pa' na' rt' sb fr,L9.kn kn λe he=>by
     obtain⟨j,hj⟩:=sb e he;have:=L8.ne _ hj;exact this,Hh.stay pg9.pa.t.2.2.2 (λw hw=>ok8 w (sb3 w hw)) (λw hw=>ae.mpr ⟨w,hw,rfl⟩) cas sb,aY (sub_len pa'.t.2.2.2 sb) l6,by lia,kn.lst hr9⟩
   ·refine hN _ _ ⟨h3,n,q5,cs8,rfl,pg8,L8,ok8,l6,?_,hr8⟩;have:=of_decide_eq_false (Bool.not_eq_true _▸hk);rw[ab] at this
    lia
  clear L8 pg8 hr8 ok8 l6 l3
  rintro σ' H' ⟨hs,n,q',cs,rfl,pg,L,ok,few,l2,hr⟩
  refine AF λNB eNB=>?_
  refine⟨_,rfl,x,q'.dp,_,rfl,pg.pa.t.1,rfl,x,q',cs,bs5,_,rfl,pg.pa,by lia,pg.na,pg.rt,λm H1 cs' pa' na' rt' cas nf sb fr=>?_⟩;have kn:Kn H' H1:=λa o h n1 n2=>fr a o h (pg.pa.apart h n1 n2)
  have pg1:=pg.less pa' na' rt' sb fr;have L1:=L.kn (cs':=cs') kn λe he=>by
   obtain⟨j,hj⟩:=sb e he;have:=L.ne _ hj;exact this
  have ok1:=Hh.stay pg.pa.t.2.2.2 ok (λw hw=>ae.mpr ⟨w,hw,rfl⟩) cas sb;have rc1:=X3 pg1.pa.t.2.2.2 ok1 (λe he=>(pg1.pa.t.2.2.1 e he).2.2.2) pg1.lv (λz hz=>by
   obtain⟨w,hw,e⟩:=ae.mp hz;exact⟨w,hw,e⟩) nf
  have few1:=Xz pg1.pa.t.2.2.2 ok1 rc1;have hr1:=kn.lst hr
  clear pg L ok
  dsimp only;subst eNB
  try dsimp only
  refine G6 (λσ' H'=>∃b n q,σ'=[some (.ref a),some (.str z),some (.int c),some (.ref x),some (.ref sl),some (.ref hl),some (.int (i:Int)),some (.ref r),some (.ref ta)]/\Pg Ad Ae Aa H' x ds b n q cs' bs5 (hs.map λx=>x.t.1) ((i+1:Nat):Int)/\Ls H' sl hl cl hs zs ms cs'/\∀c∈b,c.length<=1200*(i+1)) (λNM hN=>?_) ?_
  ·refine⟨_,rfl,r,_,_,_,rfl,rfl,AJ.of hr1,a10,_,_,rfl,rfl,(by show(0:Int)<2;decide),rfl,_,rfl,Cs (λ_=>?_) (λ_=>?_)⟩
   ·refine⟨_,rfl,x,q'.dp,_,rfl,pg1.pa.t.1,rfl,x,_,cs',bs5,ds,b,n,rfl,pg1.pa,by lia,pg1.B,pg1.ap,pg1.bo.two,λc hc=>aY (bb c hc) (by lia),λe he=>?_,λss pm H2 pa2 hB k=>?_⟩
    ·have z:=pg1.yi e he;exact⟨⟨by have:=z.1.1;lia,by have:=z.1.2;lia⟩,z.2.1⟩
    ·have pg2:=pg1.lay pm pa2 hB k;refine hN _ _ ⟨_,_,_,rfl,by rw[show((i+1:Nat):Int)=(i:Int)+1 by lia];exact pg2,L1.kn k L1.ne,λc hc=>?_⟩;have l1:=Np _ bb c hc;rw[Q5,pm.length_eq] at l1;have l2:(Wq { q' with n:=m } cs').length<=cs'.length:=cP _ _
     lia
   ·exact hN _ _ ⟨b,n,_,rfl,pg1.later (by lia),L1,λc hc=>aY (bb c hc) (by lia)⟩
  rintro σ' H2 ⟨b2,n2,q2,rfl,pg2,L2,bb2⟩
  refine⟨_,rfl,_,rfl,x,ds,b2,n2,q2,cs',bs5,_,_,hl,hs,rfl,pg2,by lia,L2.lh,L2.hx,ok1,rc1,l2,λH3 s3=>⟨_,rfl,AV rfl ?_⟩⟩;subst eEB;exact⟨hs,zs,_,_,_,_,rfl,⟨ds,b2,n2,q2,cs',bs5,pg2.same s3,L2.same s3,ok1,bb2,by lia⟩,l2,by lia⟩
 ·rintro σ H' ⟨hs,zs,v2,v6,v7,v8,rfl,w,l2,_⟩
  subst eN;exact q H'
end
theorem all_mk {l:W.OpenLaw} {w:World} {K:W.Frag} {h:Heap} {mg:Str->Option Value} {fa:Addr} (X:K.In h) (G:h.Ns mainGlobals mg) (hfa:mg "law"=some (.ref fa))
  {Ab Ad Aa Ae Tx MW f0 f1 f2 f3 f4 f5 f6 f7 f8 f9 f10 f11 f12 f13 f14 f15 f16 f17 f18 f19 f20 f21 f22 f23 f24 f25 f26 f27 f28 f29 f30 f31 f32 f33 f34 f35 f36 f37 f38 f39 f40 f41 f42 f43 f44 f45 f46 f47 f48 f49 f50 f51 f52 f53 f54 f55 f56 f57 f58 f59 f60 f61 f62 f63 f64 f65 f66 f67 f68 f69 f70 f71 f72 f73:Addr}
  {d0 d1 d2 d3 d4 d5 d6 d7 d8 d9 d10 d11 d12 d13 d14 d15 d16 d17 d18 d19 d20 d21 d22 d23 d24 d25 d26 d27 d28 d29 d30 d31 d32 d33 d34 d35 d36 d37 d38 d39 d40 d41 d42 d43 d44 d45 d46 d47 d48 d49 d50 d51 d52 d53 d54 d55 d56 d57 d58 d59 d60 d61 d62 d63 d64 d65 d66 d67 d68 d69 d70 d71 d72 d73:FuncData}
  (J_WordReader:NsC K "WordReader" Ab)
  (n_WordReader_words:AS K Ab "words")
  (n_WordReader_place:AS K Ab "place")
  (J_Boards:NsC K "Boards" Ad)
  (n_Boards_shelves:AS K Ad "shelves")
  (n_Boards_writes:AS K Ad "writes")
  (n_Boards_writes_left:AS K Ad "writes_left")
  (J_TakenCell:NsC K "TakenCell" Aa)
  (n_TakenCell_own_tag:AS K Aa "own_tag")
  (n_TakenCell_own_size:AS K Aa "own_size")
  (n_TakenCell_named:AS K Aa "named")
  (n_TakenCell_times_named:AS K Aa "times_named")
  (n_TakenCell_entries_beneath:AS K Aa "entries_beneath")
  (n_TakenCell_steps_beneath:AS K Aa "steps_beneath")
  (J_Pool:NsC K "Pool" Ae)
  (n_Pool_boards:AS K Ae "boards")
  (n_Pool_taken:AS K Ae "taken")
  (n_Pool_by_sums:AS K Ae "by_sums")
  (n_Pool_draft:AS K Ae "draft")
  (n_Pool_first_maybe_free:AS K Ae "first_maybe_free")
  (x_Lost:Xu K "Lost" Tx)
  (x_NoThing:Xu K "NoThing" MW)
  (L0:NsF K "is_whole" HA f0 d0)
  (L1:NsF K "is_between" FP f1 d1)
  (L2:NsF K "is_tuple_of" ER f2 d2)
  (L3:NsF K "number_of" GI f3 d3)
  (L4:NsF K "sign_of" JI f4 d4)
  (L5:NsF K "is_text" JB f5 d5)
  (L6:NsF K "words_of" Et f6 d6)
  (L7:NsF K "thing_of" HV f7 d7)
  (L8:ClF K Ab "__init__" "WordReader.__init__" Dk f8 d8)
  (L9:ClF K Ab "is_through" "WordReader.is_through" B9 f9 d9)
  (L10:ClF K Ab "word_to" "WordReader.word_to" Cr f10 d10)
  (L11:NsF K "read_thing" C9 f11 d11)
  (L12:NsF K "read_text" Ga f12 d12)
  (L13:NsF K "is_name" JV f13 d13)
  (L14:NsF K "is_tag" LA f14 d14)
  (L15:NsF K "is_block" Ic f15 d15)
  (L16:NsF K "are_row_tags" Ei f16 d16)
  (L17:NsF K "are_entries" EV f17 d17)
  (L18:NsF K "is_entry" HR f18 d18)
  (L19:NsF K "sum_of" Mm f19 d19)
  (L20:NsF K "numbers_told" Eb f20 d20)
  (L21:NsF K "size_of" Ju f21 d21)
  (L22:NsF K "tags_in" Jw f22 d22)
  (L23:NsF K "pieces_of" GB f23 d23)
  (L24:NsF K "is_piece_full" DG f24 d24)
  (L25:NsF K "groups_of" GK f25 d25)
  (L26:NsF K "put_content" E1 f26 d26)
  (L27:NsF K "put_rows" HI f27 d27)
  (L28:NsF K "content_at" C5 f28 d28)
  (L29:ClF K Ad "__init__" "Boards.__init__" EW f29 d29)
  (L30:ClF K Ad "many" "Boards.many" EY f30 d30)
  (L31:ClF K Ad "write" "Boards.write" Es f31 d31)
  (L32:ClF K Ad "cell" "Boards.cell" EU f32 d32)
  (L33:ClF K Ad "twins" "Boards.twins" Ea f33 d33)
  (L34:ClF K Ad "shelf" "Boards.shelf" Eu f34 d34)
  (L35:NsF K "mark_of" JJ f35 d35)
  (L36:NsF K "sealed" Mb f36 d36)
  (L37:NsF K "unsealed" HK f37 d37)
  (L38:NsF K "lay" Te f38 d38)
  (L39:NsF K "fetched" JQ f39 d39)
  (L40:NsF K "block_on" HC f40 d40)
  (L41:NsF K "thing_on" HX f41 d41)
  (L42:ClF K Aa "__init__" "TakenCell.__init__" Dp f42 d42)
  (L43:ClF K Ae "__init__" "Pool.__init__" F8 f43 d43)
  (L44:ClF K Ae "put" "Pool.put" Hw f44 d44)
  (L45:ClF K Ae "alike" "Pool.alike" FF f45 d45)
  (L46:ClF K Ae "free_number" "Pool.free_number" CQ f46 d46)
  (L47:ClF K Ae "take" "Pool.take" Gf f47 d47)
  (L48:ClF K Ae "entries_of" "Pool.entries_of" Dg f48 d48)
  (L49:ClF K Ae "steps_of" "Pool.steps_of" DL f49 d49)
  (L50:ClF K Ae "block" "Pool.block" FG f50 d50)
  (L51:ClF K Ae "hold" "Pool.hold" F6 f51 d51)
  (L52:ClF K Ae "release" "Pool.release" Ec f52 d52)
  (L53:ClF K Ae "sweep" "Pool.sweep" FI f53 d53)
  (L54:ClF K Ae "free" "Pool.free" F4 f54 d54)
  (L55:ClF K Ae "lay_draft" "Pool.lay_draft" Do f55 d55)
  (L56:ClF K Ae "numbers" "Pool.numbers" D7 f56 d56)
  (L57:ClF K Ae "tag" "Pool.tag" HU f57 d57)
  (L58:ClF K Ae "count" "Pool.count" FJ f58 d58)
  (L59:ClF K Ae "tags" "Pool.tags" Gm f59 d59)
  (L60:ClF K Ae "entries" "Pool.entries" D8 f60 d60)
  (L61:ClF K Ae "deep" "Pool.deep" GV f61 d61)
  (L62:NsF K "_law_cell_at" D6 f62 d62)
  (L63:NsF K "_law_row" Hy f63 d63)
  (L64:NsF K "_law_signs" FQ f64 d64)
  (L65:NsF K "_law_sum" HB f65 d65)
  (L66:NsF K "_law_text" Gc f66 d66)
  (L67:NsF K "_law_cut" Hz f67 d67)
  (L68:NsF K "_law_written" Er f68 d68)
  (L69:NsF K "_law_rows" Gr f69 d69)
  (L70:NsF K "_law_forms" FK f70 d70)
  (L71:NsF K "_law_next" GO f71 d71)
  (L72:NsF K "_law_right" FN f72 d72)
  (L73:NsF K "law" TH f73 d73)
  (z_abs:Ol K "abs")
  (z_all:Ol K "all")
  (z_bool:Ol K "bool")
  (z_enumerate:Ol K "enumerate")
  (z_int:Ol K "int")
  (z_isinstance:Ol K "isinstance")
  (z_len:Ol K "len")
  (z_list:Ol K "list")
  (z_max:Ol K "max")
  (z_min:Ol K "min")
  (z_range:Ol K "range")
  (z_set:Ol K "set")
  (z_sorted:Ol K "sorted")
  (z_str:Ol K "str")
  (z_sum:Ol K "sum")
  (z_tuple:Ol K "tuple")
  (w_SIGNS:Yt K "SIGNS" " !\"#$&'()*+,-./0123456789:;<=>?@ABCDEFGHIJKLMNOPQRSTUVWXYZ[\\]^_`abcdefghijklmnopqrstuvwxyz{|}~")
  (w_MOST_NUMBER:J1 K "MOST_NUMBER" 999999999)
  (w_MOST_SIGNS:J1 K "MOST_SIGNS" 400)
  (w_MOST_PARTS:J1 K "MOST_PARTS" 100)
  (w_MOST_DEEP:J1 K "MOST_DEEP" 8)
  (w_NUMBER_WORD:J1 K "NUMBER_WORD" 0)
  (w_TEXT_WORD:J1 K "TEXT_WORD" 1)
  (w_TUPLE_WORD:J1 K "TUPLE_WORD" 2)
  (w_PIECE:J1 K "PIECE" 0)
  (w_ROW:J1 K "ROW" 1)
  (w_FOLDER:J1 K "FOLDER" 2)
  (w_FILE_ENTRY:J1 K "FILE_ENTRY" 1)
  (w_FOLDER_ENTRY:J1 K "FOLDER_ENTRY" 2)
  (w_NAME_SIGNS:Yt K "NAME_SIGNS" "0123456789abcdefghijklmnopqrstuvwxyz")
  (w_MOST_NAME_SIGNS:J1 K "MOST_NAME_SIGNS" 8)
  (w_MOST_CELL:J1 K "MOST_CELL" 999999)
  (w_MOST_BIRTH:J1 K "MOST_BIRTH" 999999999)
  (w_SUM_RESTS:J1 K "SUM_RESTS" 997)
  (w_MOST_PIECE_SIGNS:J1 K "MOST_PIECE_SIGNS" 8)
  (w_MOST_LEVEL:J1 K "MOST_LEVEL" 9)
  (w_MOST_TAGS:J1 K "MOST_TAGS" 8)
  (w_MOST_ENTRIES:J1 K "MOST_ENTRIES" 16)
  (w_MOST_IN_ONE:J1 K "MOST_IN_ONE" 8)
  (w_LEAST_BOARDS:J1 K "LEAST_BOARDS" 2)
  (w_MOST_BOARDS:J1 K "MOST_BOARDS" 4)
  (w_MARK_RESTS:J1 K "MARK_RESTS" 2147483647) :
  ∃fd:FuncData,(∀(s:Shared) (v:Value),BindsTo s fd ⟨[v],[]⟩ [("_law_script",v)])/\∀base:Heap,K.In base->base.Ns mainGlobals mg->FnOk l.prog w K mg base BI 30 fa fd ["_law_script"] (NY K):=by
 cases hfa.symm.trans (W.mg_of X G L73.a);refine⟨d73,L73.F.bind1 λ_ _=>rfl,λbase _ _=>?_⟩;have N:Sees l.prog w K mg base:=.of X G;have T:Txt K mg Ab Ad Aa Ae (λn=>match n with|0=>Tx|1=>MW|_=>0):=⟨J_WordReader.c,n_WordReader_words,n_WordReader_place,J_Boards.c,n_Boards_shelves,n_Boards_writes,n_Boards_writes_left,J_TakenCell.c,n_TakenCell_own_tag,n_TakenCell_own_size,n_TakenCell_named,n_TakenCell_times_named,n_TakenCell_entries_beneath,n_TakenCell_steps_beneath,J_Pool.c,n_Pool_boards,n_Pool_taken,n_Pool_by_sums,n_Pool_draft,n_Pool_first_maybe_free,N.v x_Lost,N.v x_NoThing,N.o z_abs,N.o z_all,N.o z_bool,N.o z_enumerate,N.o z_int,N.o z_isinstance,N.o z_len,N.o z_list,N.o z_max,N.o z_min,N.o z_range,N.o z_set,N.o z_sorted,N.o z_str,N.o z_sum,N.o z_tuple,N.s w_SIGNS,N.i w_MOST_NUMBER,N.i w_MOST_SIGNS,N.i w_MOST_PARTS,N.i w_MOST_DEEP,N.i w_NUMBER_WORD,N.i w_TEXT_WORD,N.i w_TUPLE_WORD,N.i w_PIECE,N.i w_ROW,N.i w_FOLDER,N.i w_FILE_ENTRY,N.i w_FOLDER_ENTRY,N.s w_NAME_SIGNS,N.i w_MOST_NAME_SIGNS,N.i w_MOST_CELL,N.i w_MOST_BIRTH,N.i w_SUM_RESTS,N.i w_MOST_PIECE_SIGNS,N.i w_MOST_LEVEL,N.i w_MOST_TAGS,N.i w_MOST_ENTRIES,N.i w_MOST_IN_ONE,N.i w_LEAST_BOARDS,N.i w_MOST_BOARDS,N.i w_MARK_RESTS⟩
 have Bg:=L0.dd N (OU T L0.F) (λ_ _=>rfl);have Bx:=L2.dd N (LB T L2.F) (λ_ _ _=>rfl);have AX:=L3.dd N (NO T L3.F) (λ_ _=>rfl);have JL:=L4.dd N (P8 T L4.F) (λ_ _=>rfl);have Fb:=L5.dd N (PL T L5.F) (λ_ _ _ _=>rfl);have Da:=L8.c N J_WordReader (HP T L8.F) (λ_ _ _=>rfl);have A0:=L9.dd N (EX T L9.F) (λ_ _=>rfl);have BY:=L22.dd N (Qn T L22.F) (λ_ _=>rfl);have GT:=L25.dd N (ND T L25.F) (λ_ _=>rfl);have BR:=L30.dd N (LD T L30.F) (λ_ _=>rfl);have D1:=L35.dd N (PU T L35.F) (λ_ _=>rfl);have GQ:=L43.c N J_Pool (N6 T L43.F) (λ_ _ _=>rfl);have CU:=L46.dd N (Hd T L46.F) (λ_ _=>rfl);have CW:=L51.dd N (NI T L51.F) (λ_ _ _=>rfl);have B0:=L56.dd N (Kv T L56.F) (λ_ _=>rfl);have BQ:=L57.dd N (OF T L57.F) (λ_ _ _=>rfl);have FR:=L58.dd N (Mr T L58.F) (λ_ _ _=>rfl);have GH:=L59.dd N (NG T L59.F) (λ_ _ _=>rfl);have Ef:=L60.dd N (KG T L60.F) (λ_ _ _=>rfl);have F9:=L61.dd N (Oa T L61.F) (λ_ _ _=>rfl);have Eo:=L62.dd N (KL T L62.F) (λ_ _ _=>rfl);have Fs:=L63.dd N (Pc T L63.F) (λ_ _ _=>rfl);have BO:=L64.dd N (Mz T L64.F) (λ_=>rfl);have CV:=L66.dd N (N4 T L66.F) (λ_ _=>rfl);have BZ:=L68.dd N (Kw T L68.F) (λ_ _ _=>rfl);have AC:=L1.dd N (ME T L1.F Bg) (λ_ _ _ _=>rfl);have MJ:=L13.dd N (PQ T L13.F Fb) (λ_ _=>rfl);have D4:=L20.dd N (KH T L20.F AX) (λ_ _=>rfl);have DI:=L24.dd N (JW T L24.F AX) (λ_ _=>rfl);have BX:=L33.dd N (KO T L33.F BR) (λ_ _ _=>rfl);have Ln:=L36.dd N (Sn T L36.F D1) (λ_ _=>rfl);have Dh:=L48.dd N (HY T L48.F Ef) (λ_ _ _=>rfl);have DF:=L49.dd N (JR T L49.F F9) (λ_ _ _=>rfl);have CZ:=L54.dd N (NP T L54.F BQ) (λ_ _ _=>rfl);have HL:=L65.dd N (OD T L65.F BO) (λ_ _=>rfl);have Il:=L67.dd N (Oo T L67.F BO) (λ_ _=>rfl);have EJ:=L69.dd N (Oi T L69.F BZ) (λ_ _ _=>rfl);have F3:=L71.dd N (NW T L71.F CV) (λ_ _ _=>rfl);have Ay:=L10.dd N (F2 T L10.F A0 AC) (λ_ _ _=>rfl);have Gx:=L14.dd N (RP T L14.F AC Bx) (λ_ _=>rfl);have C6:=L19.dd N (Sy T L19.F D4) (λ_ _=>rfl);have Gs:=L23.dd N (NR T L23.F DI) (λ_ _=>rfl);have E3:=L29.c N J_Boards (LC T L29.F AC) (λ_ _ _=>rfl);have B3:=L34.dd N (KE T L34.F AC BR) (λ_ _ _=>rfl);have HW:=L37.dd N (Ou T L37.F D1 AC) (λ_ _=>rfl);have B8:=L52.dd N (KF T L52.F CZ) (λ_ _ _=>rfl);have FC:=L70.dd N (Mt T L70.F EJ HL Il BZ) (λ_ _=>rfl);have Cb:=L12.dd N (N8 T L12.F Ay JL) (λ_ _=>rfl);have D5:=L16.dd N (KI T L16.F Gx) (λ_ _ _=>rfl);have HJ:=L18.dd N (O3 T L18.F AC Gx Bx MJ) (λ_ _=>rfl);have El:=L31.dd N (Kt T L31.F B3) (λ_ _ _ _ _=>rfl);have E5:=L32.dd N (Mc T L32.F B3) (λ_ _ _ _=>rfl);have FL:=L53.dd N (Mv T L53.F GH CZ B0 B8 FR) (λ_ _=>rfl);have E2:=L17.dd N (LK T L17.F HJ) (λ_ _=>rfl);have HF:=L15.dd N (Pd T L15.F E2 Bg Fb AC D5) (λ_ _=>rfl);have Cy:=L6.dd N (OH T L6.F Bg AX (N.v L6.a) L6.F.kp (L6.F.bindE (λ_ _=>rfl))) (λ_ _=>rfl);have JG:=L21.dd N (PK T L21.F Cy) (λ_ _=>rfl);have Tn:=L38.dd N (WU T L38.F Ln BX Cy El) (λ_ _ _ _ _=>rfl);have Dq:=L42.c N J_TakenCell (IL T L42.F JG BY) (λ_ _ _ _=>rfl);have Dt:=L55.dd N (Ji T L55.F Tn BQ) (λ_ _=>rfl);have Dd:=L11.dd N (Mq T L11.F Ay Cb (N.v L11.a) L11.F.kp (L11.F.bindE (λ_ _ _=>rfl))) (λ_ _ _=>rfl);have HE:=L7.dd N (Pf T L7.F Da Dd A0) (λ_ _=>rfl);have GJ:=L47.dd N (NK T L47.F Dq Dh DF CW) (λ_ _ _ _=>rfl);have HH:=L41.dd N (Ox T L41.F E5 HW HE) (λ_ _ _ _=>rfl);have HG:=L40.dd N (Po T L40.F HH Bx HF C6) (λ_ _ _ _=>rfl);have JF:=L39.dd N (PV T L39.F BX HG) (λ_ _ _=>rfl);have Bi:=L50.dd N (Mp T L50.F JF) (λ_ _ _=>rfl);have Fl:=L45.dd N (Mx T L45.F C6 Bi BQ) (λ_ _ _=>rfl);have CS:=L44.dd N (OI T L44.F Fl GJ CU C6) (λ_ _ _ _=>rfl);have Fw:=L27.dd N (Os T L27.F GT CS) (λ_ _ _ _ _=>rfl);have EZ:=L26.dd N (Lm T L26.F Fw CS Gs) (λ_ _ _ _=>rfl);have Df:=L28.dd N (MI T L28.F Bi BY (N.v L28.a) L28.F.kp (L28.F.bindE (λ_ _ _=>rfl))) (λ_ _ _=>rfl);have FO:=L72.dd N (MA T L72.F FC B0 Df) (λ_ _ _=>rfl);exact XA T L73.F GQ E3 Fs EZ CW FL CV B8 Dt FO Eo F3
theorem walk {l:W.OpenLaw} {q:Program} {loose:List Str} {XP:(Str->Option Value)->Heap->Prop} {YP:World->Heap->Prop} {d:DefRec} {K:Params->W.Frag} (hn:l.most=some 63) (hdf:d.params.defaults=[])
  (hY:∀(w:World) (h:Heap),YP w h->(K w.params).In h)
  (F:∀(w:World) (mg:Str->Option Value) (fa:Addr) (h:Heap),(K w.params).In h->h.Ns mainGlobals mg->mg d.name=some (.ref fa)->
   ∃fd:FuncData,(∀(s:Shared) (u:Value),BindsTo s fd ⟨[u],[]⟩ [("_law_script",u)])/\∀base:Heap,(K w.params).In base->base.Ns mainGlobals mg->FnOk l.prog w (K w.params) mg base BI 30 fa fd ["_law_script"] (NY (K w.params))) :
  W.WalkO q loose XP YP l.row.toRowW d [] (λf vs=>PySem.call f vs):=
 L2.VA (n:=63) (k:=30) (x:="_law_script") (CX:=λ_=>BI) (sp:=λw=>NY (K w.params)) hn (by decide) hdf ⟨rfl,by decide,by decide⟩ hY F (λ_ _ a ns hl _ hS=>⟨a,ns,rfl,hS,hl,λ_=>rfl⟩) λ_ _ _ _ _ z=>z
end K32
def PySem.W.Fast.tw15641715125113993005:Type:=PySem.Expr
theorem PySem.W.Fast.te15641715125113993005:PySem.Expr = PySem.W.Fast.tw15641715125113993005:=rfl
def PySem.W.Fast.tw90343872475197607:Type:=PySem.Params
theorem PySem.W.Fast.te90343872475197607:PySem.Params = PySem.W.Fast.tw90343872475197607:=rfl
open PySem PySem.W PyProof.Rows
set_option maxRecDepth 100000 in
set_option maxHeartbeats 0 in
theorem PySem.Challenge.cw_stemshelf_k32_whole_one_tag_for_one_cont_holds : PySem.Challenge.rw_stemshelf_k32_whole_one_tag_for_one_cont.Holds := by
 w_on;o_law;k_head;(case hw=>w_witness2)
 k_fill
 refine K32.walk (l:=PySem.Challenge.rw_stemshelf_k32_whole_one_tag_for_one_cont) rfl rfl (λw h Y=>W.kIn_of Y) ?F
 case F=>
  intro w mg fa h KX G hmg;apply K32.all_mk KX G hmg
  all_goals first
   |exact L2.NsF.mk (by delta L2.Xu;k_is) (L2.SN (by k_is) (by k_is) (by k_is))
   |exact L2.ClF.mk (by k_is) (by k_is) (L2.SN (by k_is) (by k_is) (by k_is))
   |exact L2.NsC.mk (by delta L2.Xu;k_is) ⟨by k_is,by k_is,by k_is,by k_is⟩ (by k_is) (by k_is)
   |(delta L2.J1;exact⟨_,by k_is⟩)
   |(delta L2.Yt;exact⟨_,by k_is⟩)
   |(delta L2.AS;k_is)
   |(delta L2.Xu;k_is)
   |(delta L2.Ol;k_is)
