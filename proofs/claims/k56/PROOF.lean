import PyProof.Rows.All
import Wide.All
import OpenK.AllK
import Wide.FinOn
import Lean
import PyProof.EqAt
import PyProof.EqKinds
import PyProof.TupleCall
import PySem.Challenge.RW_stemshelf_k56_holders
set_option Elab.async false
set_option linter.all false
set_option maxRecDepth 100000
def aa:=@List.length_map
def ab:=@PySem.wpAny_bind
def ae:=@List.getElem?_eq_getElem
def af:=@PySem.Heap.get?_push_of_some
def ah:=@List.mem_map
def ai:=@List.mem_singleton
def aj:=@List.map_append
def ak:=@Nat.le_refl
def ao:=@List.length_append
def aq:=@List.map_cons
def ar:=@List.map_map
def au:=@List.mem_append
def av:=@PySem.wpAny_pure
def aw:=@List.getElem?_eq_some_iff
def ax:=@List.mem_cons_self
def ay:=@Bool.false_ne_true
def az:=@List.mem_of_getElem?
def aA:=@Option.some.inj
def aB:=@List.getElem?_map
def aC:=@List.mem_append_right
def aD:=@PySem.Heap.lt_size
def aE:=@if_pos
def aF:=@List.size_toArray
def aG:=@PySem.Heap.get?_push_size
def aH:=@if_neg
def aI:=@decide_eq_true
def aJ:=@List.mem_append_left
def aK:=@PySem.F.plainAttrs_list
def aL:=@List.mem_cons
def aM:=@List.mem_cons_of_mem
def aN:=@Nat.ne_of_lt
def aO:=@List.mem_map_of_mem
def aP:=@List.length_take
def aQ:=@of_decide_eq_true
def aR:=@List.take_add_one
def aS:=@List.pairwise_iff_getElem
def aU:=@Bool.and_eq_true
def aV:=@Int.emod_lt_of_pos
def aW:=@PySem.PassesOwn.never
def aX:=@List.all_eq_true
def aY:=@Nat.lt_of_lt_of_le
def aZ:=@decide_eq_false
def ba:=@List.take_of_length_le
def bc:=@List.length_cons
def bf:=@PySem.F.type_list_append
def bg:=@PySem.F.slot_list_append
def bh:=@Int.emod_nonneg
def bj:=@PySem.Heap.get?_update_other
def bq:=@Nat.le_trans
def br:=@PySem.sizeLine_eq
def bu:=@PySem.wpAny_mono
def bw:=@Nat.zero_le
def bz:=@List.mem_filter
def bA:=@decide_eq_true_eq
def bB:=@List.nodup_append
def bC:=@PySem.wpAny_holding
def bD:=@List.getElem?_append_right
def bE:=@List.length_filter_le
def bF:=@List.getElem?_append_left
def bG:=@List.getElem_mem
def bH:=@Sum.inl.inj
def bI:=@List.length_singleton
def bJ:=@Option.map_eq_some_iff
def bK:=@List.map_congr_left
def bL:=@List.length_range
def bM:=@List.getElem?_of_mem
def bN:=@List.getD_eq_getElem?_getD
def bO:=@List.nodup_cons
def bP:=@PySem.Heap.size_push
def bQ:=@PySem.mem_of_lookup
def bR:=@Nat.lt_succ_of_lt
def bS:=@List.nodup_nil
def bT:=@PySem.W.kia_one
def bU:=@PySem.wpAny_truthy_bool
def bV:=@List.getElem_map
def bW:=@List.pairwise_map
def bX:=@List.length_pos_iff
def bY:=@Array.length_toList
def bZ:=@List.append_nil
def cb:=@List.take_length
def cf:=@PySem.F.type_list_extend
def cg:=@PySem.F.slot_list_extend
def ck:=@List.ext_getElem?
def cm:=@beq_eq_false_iff_ne
def cn:=@List.getElem_of_mem
def cq:=@PySem.F.plain_max_loop
def cu:=@List.map_nil
def cw:=@List.getElem?_eq_none
def cx:=@Array.getElem?_toList
def cy:=@Classical.byContradiction
def cz:=@List.append_assoc
def cA:=@PyProof.Rows.slot_tuple_getitem
def cB:=@PySem.wpAny_newObj_type
def cC:=@List.mem_range
def cD:=@List.length_drop
def cE:=@PySem.Around.under_plainId
def cF:=@Nat.ne_of_gt
def cG:=@PySem.Heap.size_update
def cH:=@PyProof.Rows.listUpdate_at
def cI:=@List.take_sublist
def cJ:=@PySem.wpAny_Call_Name_kw
def cK:=@PySem.Calls.callWith_builtin
def cL:=@PySem.wpAny_passesOwn
def cM:=@beq_iff_eq
def cN:=@Nat.lt_succ_self
def cO:=@Nat.le_of_eq
def cP:=@List.filter_cons
def cQ:=@Nat.lt_irrefl
def cR:=@Bool.eq_iff_iff
def cS:=@PySem.wpAny_call_entry
def cT:=@List.find?_eq_none
def cU:=@List.filter_append
def cV:=@PySem.wpAny_newList
def cW:=@PySem.plainId_quiet
def cX:=@PySem.Paired.length
def cY:=@Option.map_eq_none_iff
def cZ:=@Nat.succ.inj
def dc:=@PySem.codeAny_builtin
def dg:=@PySem.SeqAt.EqAt.same
def di:=@PySem.tupleKind_room_in1
def dm:=@PySem.Calls.spliced_cons
def dq:=@PySem.wpAny_getItem_str_slice
def dr:=@List.eq_nil_or_concat
def du:=@List.concat_eq_append
def dv:=@PySem.wpAny_pyIter_list
def dw:=@PySem.F.slot_dict_setdefault
def dy:=@PySem.Heap.get?_update_self
def dA:=@PySem.Txt.slice_le
def dB:=@Nat.lt_or_gt_of_ne
def dC:=@List.take_zero
def dD:=@List.getElem?_take
def dE:=@List.getElem?_drop
def dF:=@PySem.Heap.get?_none_of_le
def dG:=@Array.getElem?_eq_some_iff
def dH:=@PySem.wpAny_execs_nil
def dI:=@List.drop_eq_getElem_cons
def dJ:=@List.Sublist.refl
def dM:=@Bool.eq_false_iff
def dN:=@PySem.F.args_tuple_add_2
def dO:=@List.any_cons
def dP:=@List.all_cons
def dQ:=@PySem.W.KasT.kasWp_bind
def dR:=@decide_eq_false_iff_not
def dS:=@PySem.F.plainAttrs_dict
def dU:=@PySem.F.entry_tuple_add
def dW:=@List.lookup_cons
def dX:=@Array.toList_inj
def dY:=@PyProof.Rows.seqEpoch_at
def dZ:=@PySem.F.slot_tuple_add
def d3:=@PySem.F.plainAttrs_str
def d4:=@List.set_set
def d6:=@List.find?_cons_of_pos
def d8:=@List.find?_cons_of_neg
def d9:=@PySem.Calls.call_function_entry
def ej:=@PyProof.Rows.get?_update_seq
def eu:=@PySem.SeqAt.RcAt.tuples
def eA:=@List.of_mem_zip
def eB:=@PySem.Heap.get?_push_ne
def eC:=@PySem.W.methodCall_KW
def eD:=@PySem.F.slot_dict_get
def eE:=@List.take_append_drop
def eF:=@List.mem_of_mem_take
def eG:=@List.dropLast_concat
def eI:=@Int.le_refl
def eJ:=@PySem.wpAny_typeOf
def eK:=@PySem.codeAny_mono
def eL:=@PySem.W.plainGet_of
def eM:=@List.getElem?_range
def eN:=@List.filter_eq_self
def eO:=@List.filterMap_cons
def eP:=@PySem.post_val_or_str
def eQ:=@PySem.W.callWith_K
def eR:=@PySem.wpAny_tryCatch
def eS:=@PySem.wpAny_letGo
def eT:=@Option.isSome_map
def eU:=@PySem.Obj.data_mapDictKeys
def eV:=@Nat.zero_add
def eW:=@Nat.le_of_lt
def eX:=@List.map_set
def eY:=@List.getElem?_set
def eZ:=@List.find?_append
def fb:=@PySem.Calls.evalArgs_plain
def fc:=@PyProof.Rows.wpS_bind
def fe:=@PySem.W.kdl_dict
def ff:=@PySem.F.args_dict_setdefault_3
def fg:=@PySem.wpAny_standAt
def fh:=@PyProof.Rows.subscriptTail_builtinR
def fj:=@PySem.F.entry_dict_setdefault
def fk:=@Nat.le_succ
def fm:=@PySem.wpAny_rule
def fq:=@PySem.wpAny_Constant_int
def ft:=@PyProof.Rows.entry_list_sort
def fu:=@PySem.SeqAt.EqAt.str_int
def fw:=@PySem.SeqAt.EqAt.of_refs
def fA:=@PySem.SeqAt.EqAt.int_str
def fB:=@PyProof.Rows.callWith_type1
def fD:=@PySem.wpAny_Call_method
def fE:=@PySem.concat_meets
def fF:=@PySem.call_meetsIn
def fG:=@PySem.Calls.spliced_nil
def fH:=@Array.perm_iff_toList_perm
def fI:=@PyProof.Rows.slot_list_sort
def fJ:=@List.mem_of_find?_eq_some
def fK:=@PySem.wpAny_execs_cons
def fL:=@PySem.noFill_tuple_add
def fM:=@PySem.SeqAt.RcAt.lists
def fN:=@List.sum_cons
def fO:=@PySem.seqIndex_of
def fP:=@PySem.F.slot_dict_clear
def fQ:=@PySem.F.plain_list_iadd
def fR:=@PySem.F.args_dict_get_3
def fS:=@PySem.W.cellsFrom_some
def fT:=@PySem.F.entry_max_loop
def fU:=@PySem.F.entry_dict_get
def fV:=@List.getElem?_set_self
def fW:=@List.drop_eq_nil_of_le
def fX:=@List.all_map
def fY:=@PySem.F.type_str_join
def fZ:=@PySem.F.type_list_pop
def gb:=@PySem.F.slot_str_join
def gc:=@PySem.F.slot_list_pop
def gd:=@PySem.wpAny_newTuple
def gf:=@PySem.wpAny_load
def gh:=@PySem.wpAny_call
def gi:=@PySem.wpAny_Name
def gj:=@PySem.call_meets
def gm:=@PySem.Walks.list
def gp:=@Sum.inr.inj
def gq:=@PySem.SeqAt.RcNeAt.lists_lengths
def gu:=@List.mem_of_mem_drop
def gv:=@List.getElem?_set_ne
def gw:=@PySem.Calls.Name_function_global
def gx:=@Array.toArray_toList
def gy:=@PyProof.Rows.plain_sorted
def gz:=@PyProof.Rows.listItems_at
def gA:=@PyProof.Rows.entry_sorted
def gB:=@PySem.evalArgs_none
def gC:=@PySem.W.codeHd_of_K
def gD:=@List.map_eq_nil_iff
def gE:=@List.filter_sublist
def gF:=@Array.toList_append
def gG:=@PySem.seq_tuple_add
def gH:=@PySem.SeqAt.RcAt.lists_lengths
def gI:=@PySem.wpAny_callSpecial?_slot
namespace L2
open PySem PySem.Spec PyProof.Rows
abbrev Key:=Sum Int Str
def Kf:Key->Value->Bool
 | .inl k,v=>Value.isInt k v
 | .inr x,v=>Value.isStrOf x v
def Vz (w:World):Key->Int
 | .inl k=>hashInt k
 | .inr x=>hashStr w x
theorem Bl:∀{k:Key} {v:Value},Kf k v=true->(∃i t,k=Sum.inl i/\v=Value.int i t)\/(∃x t,k=Sum.inr x/\v=Value.str x t)
 | .inl i,v,h=>by
  obtain⟨t,e⟩:=Value.isInt_shape (k:=i) (v:=v) h;exact .inl ⟨i,t,rfl,e⟩
 | .inr x,v,h=>by
  obtain⟨t,e⟩:=Value.isStrOf_shape (x:=x) (v:=v) h;exact .inr ⟨x,t,rfl,e⟩
theorem OX (i:Int)(t:Tok):Kf (.inl i) (.int i t)=true:=by simp[Kf,Value.isInt]
theorem OT (x:Str)(t:Tok):Kf (.inr x) (.str x t)=true:=by simp[Kf,Value.isStrOf]
theorem Tc (a b:Int):decide ((Sum.inl a:Key)=Sum.inl b)=(a == b):=by
 by_cases e:a=b
 ·subst e;simp
 ·have h:¬(Sum.inl a:Key)=Sum.inl b:=λq=>e (bH q)
  rw[aZ h];exact(cm.mpr e).symm
theorem S9 (a b:Str):decide ((Sum.inr a:Key)=Sum.inr b)=decide (a=b):=by
 by_cases e:a=b
 ·subst e;simp
 ·have h:¬(Sum.inr a:Key)=Sum.inr b:=λq=>e (gp q)
  rw[aZ h,aZ e]
theorem Ti (a:Int)(b:Str):decide ((Sum.inl a:Key)=Sum.inr b)=false:=aZ (λq=>nomatch q)
theorem Ud (a:Str)(b:Int):decide ((Sum.inr a:Key)=Sum.inl b)=false:=aZ (λq=>nomatch q)
def AK (prog:Program)(w:World):PySem.KeyKind prog w Key where
 is:=Kf
 hash:=Vz w
 inj:=λv a b ha hb=>by
  rcases Bl ha with⟨i,t,rfl,rfl⟩|⟨x,t,rfl,rfl⟩
  ·rcases Bl hb with⟨j,u,rfl,e⟩|⟨y,u,rfl,e⟩
   ·injection e with e1 _;rw[e1]
   ·exact nomatch e
  ·rcases Bl hb with⟨j,u,rfl,e⟩|⟨y,u,rfl,e⟩
   ·exact nomatch e
   ·injection e with e1 _;rw[e1]
 byValue:=λk v h=>by
  rcases Bl h with⟨i,t,rfl,rfl⟩|⟨x,t,rfl,rfl⟩<;>rfl
 pyHash:=λhv h=>by
  rcases Bl hv with⟨i,t,rfl,rfl⟩|⟨x,t,rfl,rfl⟩
  ·exact wpAny_pyHash_int h
  ·exact wpAny_pyHash_str h
 eqBool:=λhu hv h=>by
  rcases Bl hu with⟨i,t,rfl,rfl⟩|⟨x,t,rfl,rfl⟩
  ·rcases Bl hv with⟨j,u,rfl,rfl⟩|⟨y,u,rfl,rfl⟩
   ·rw[Tc] at h;exact wpAny_eqBool_int h
   ·rw[Ti] at h;exact fA i t y u _ _ _ _ h
  ·rcases Bl hv with⟨j,u,rfl,rfl⟩|⟨y,u,rfl,rfl⟩
   ·rw[Ud] at h;exact fu x t j u _ _ _ _ h
   ·rw[S9] at h;exact wpAny_eqBool_str h
 «strs»:=λk x t v h=>by
  rcases Bl h with⟨i,u,rfl,e⟩|⟨y,u,rfl,e⟩
  ·exact nomatch e
  ·injection e with e1 _
   subst e1;cases v<;>rfl
theorem LS (prog:Program)(w:World)(i:Int)(t:Tok):(AK prog w).is (.inl i) (.int i t)=true:=OX i t
theorem LH (prog:Program)(w:World)(x:Str)(t:Tok):(AK prog w).is (.inr x) (.str x t)=true:=OT x t
inductive V where
 |non|bl (b:Bool)|int (i:Int)|str (x:Str)|byt (b:Array UInt8)|flt (b:UInt64)|ref (a:Addr)|ty (n:String)
 deriving DecidableEq
def RelV:V->Value->Prop
 | .non,u=>u=Value.none
 | .bl b,u=>u=Value.bool b
 | .int i,u=>∃t,u=Value.int i t
 | .str x,u=>∃t,u=Value.str x t
 | .byt b,u=>∃t,u=Value.bytes b t
 | .flt b,u=>∃t,u=Value.float b t
 | .ref a,u=>u=Value.ref a
 | .ty n,u=>u=Value.type n
abbrev AD:List V->List Value->Prop:=Paired RelV
theorem AD.length {xs:List V}{us:List Value}(r:AD xs us):xs.length=us.length:=cX r
theorem AD.get:∀{xs:List V} {us:List Value} {i:Nat} {x:V},AD xs us->xs[i]?=some x->∃u,us[i]?=some u/\RelV x u
 |_,_,_,_,.nil,e=>by simp at e
 |_,_,0,_,.cons r _,e=>by simp at e;subst e;exact⟨_,rfl,r⟩
 |_,_,i+1,x,.cons _ t,e=>by
  obtain⟨u,h1,h2⟩:=AD.get (i:=i) (x:=x) t (by simpa using e);exact⟨u,by simpa using h1,h2⟩
theorem AD.set {x:V}{u:Value}(r:RelV x u):∀{xs:List V} {us:List Value} (i:Nat),AD xs us->AD (xs.set i x) (us.set i u)
 |_,_,_,.nil=>.nil
 |_,_,0,.cons _ t=>.cons r t
 |_,_,i+1,.cons q t=>.cons q (AD.set r i t)
theorem AD.append:∀{xs ys:List V} {us ws:List Value},AD xs us->AD ys ws->AD (xs++ys) (us++ws)
 |_,_,_,_,.nil,s=>s
 |_,_,_,_,.cons r t,s=>.cons r (AD.append t s)
theorem AD.take:∀{xs:List V} {us:List Value} (n:Nat),AD xs us->AD (xs.take n) (us.take n)
 |_,_,0,_=>.nil
 |_,_,_+1,.nil=>.nil
 |_,_,n+1,.cons r t=>.cons r (AD.take n t)
theorem AD.drop:∀{xs:List V} {us:List Value} (n:Nat),AD xs us->AD (xs.drop n) (us.drop n)
 |_,_,0,r=>r
 |_,_,_+1,.nil=>.nil
 |_,_,n+1,.cons _ t=>AD.drop n t
def EA:Option V->Option Value->Prop
 |some v,some u=>RelV v u
 |none,none=>True
 |_,_=>False
def KV {κ:Type}:List (κ×V)->List (κ×Value)->Prop:=Paired λ(p:κ×V) (q:κ×Value)=>p.1=q.1/\RelV p.2 q.2
def kV:Key->V
 | .inl i=>.int i
 | .inr x=>.str x
inductive HO where
 |lst (xs:List V)
 |tup (xs:List V)
 |dK (kvs:List (Key×V))|dT (kvs:List (List Key×V))
 |set (S:Int->Bool) (n:Nat)
 |ins (C dx:Addr) (fs:List (Str×V))
 |own (x:Addr)
 |xd (fs:List (Str×V))
 |met (f x:Addr)
 |rng (lo hi:Int)
 |frz (o:Obj) (u:HO)
 |tbl (ps:Array Value)
 |ext (φ:Heap->Prop)
abbrev Hp:=Addr->Option HO
def upd (H:Hp)(a:Addr)(o:HO):Hp:=λb=>if b=a then some o else H b
theorem Ac {H:Hp}{a:Addr}{o:HO}:upd H a o a=some o:=by unfold upd;rw[aE rfl]
theorem Af {H:Hp}{a b:Addr}{o:HO}(h:b≠a):upd H a o b=H b:=by unfold upd;rw[aH h]
theorem Gh {H:Hp}{a:Addr}{o u:HO}:upd (upd H a o) a u=upd H a u:=by
 funext b;unfold upd;split<;>rfl
theorem Bs {H:Hp}{a b:Addr}{o u:HO}(h:H a=some o)(h':H b=some u)(d:o≠u):a≠b:=by
 intro e;subst e;rw[h] at h';exact d (aA h')
theorem Bh {H:Hp}{a b:Addr}{o:HO}(h:H a=some o)(h':H b=none):a≠b:=by
 intro e;subst e;rw[h] at h';cases h'
def VM:List V->Bool
 |[.int _,_]=>true
 |_=>false
def JX (b:Bool)(h:Heap)(a:Addr)(items:Array Value):Prop:=∃o,h.get? a=some o/\o.cls=.type "tuple"/\∃n,o.data=.seq items n/\(b=false->o.dict=none)
theorem JX.is {b:Bool}{h:Heap}{a:Addr}{items:Array Value}(x:JX b h a items):IsTup h a items:=let⟨o,e,c,n,d,_⟩:=x;⟨o,e,c,n,d⟩
theorem JX.lt {b:Bool}{h:Heap}{a:Addr}{items:Array Value}(x:JX b h a items):a<h.objs.size:=x.is.lt
theorem JX.new {b:Bool}(h:Heap)(items:Array Value):JX b (h.push { cls:=.type "tuple",data:=.seq items }) h.objs.size items:=⟨_,aG _ rfl,rfl,_,rfl,λ_=>rfl⟩
section
variable (P:Program)(w:World)
def A4 (H:Hp)(h:Heap)(a:Addr):HO->Prop
 | .lst xs=>xs.length<=sizeLine/\∃(its:List Value) (n:Nat),AD xs its/\h.get? a=some { cls:=.type "list",data:=.seq its.toArray n }
 | .tup xs=>xs.length<=sizeLine/\∃its:List Value,AD xs its/\JX (VM xs) h a its.toArray
 | .dK kvs=>kvs.length<=sizeLine/\(a == sysModules)=false/\∃vs,KV kvs vs/\h.DictOf (AK P w) a vs
 | .dT kvs=>kvs.length<=sizeLine/\(a == sysModules)=false/\∃xs:List (List Key×Addr×Value),
   Paired (λ(p:List Key×V) (q:List Key×Addr×Value)=>p.1=q.1/\H q.2.1=some (.tup (p.1.map kV))/\RelV p.2 q.2.2) kvs xs/\
   ∃o es ep,h.get? a=some o/\o.ExactDict/\o.data=.dict es ep/\es.toList=xs.map (entryOfKey (tupleKind (AK P w)))/\(xs.map (·.1)).Nodup
 | .set S n=>h.SetOf (intKind P w) a S n
 | .ins C dx fs=>H dx=some (.own a)/\fs.length<=1000/\dx≠a/\h.get? a=some (PySem.W.instObj C dx)/\
   ∃mA,h.Ns1 dx mA/\(∀f,EA (fs.lookup f) (mA f))/\PySem.Within mA (fs.map (·.1))
 | .own _=>∃o,h.get? a=some o
 | .xd fs=>∃mA,h.Ns1 a mA/\∀f,EA (fs.lookup f) (mA f)
 | .rng lo hi=>∃t u v,h.get? a=some { cls:=.type "range",data:=.fields #[.int lo t,.int hi u,.int 1 v] }
 | .frz o u=>h.get? a=some o/\A4 H h a u
 | .tbl ps=>h.get? a=some { cls:=.none,data:=.fields ps }
 | .met f x=>h.get? a=some (PySem.W.methodObj (.ref f) (.ref x))
 | .ext φ=>φ h/\(∃o,h.get? a=some o)/\∀h1 h2:Heap,φ h1->(∀o,h1.get? a=some o->h2.get? a=some o)->φ h2
def Gw (H:Hp)(h:Heap):Prop:=∀a o,H a=some o->A4 P w H h a o
end
section
variable {P:Program}{w:World}{H H':Hp}{h h':Heap}{a:Addr}{o:HO}
theorem A4.lt (x:A4 P w H h a o):a<h.objs.size:=by
 cases o with
 |lst xs=>obtain⟨_,_,_,_,e⟩:=x;exact aD e
 |tup xs=>obtain⟨_,_,_,p⟩:=x;exact p.lt
 |dK kvs=>obtain⟨_,_,_,_,o,_,_,e,_⟩:=x;exact aD e
 |dT kvs=>obtain⟨_,_,_,_,o,_,_,e,_⟩:=x;exact aD e
 |set S n=>obtain⟨o,_,_,_,e,_⟩:=x;exact aD e
 |ins C dx fs=>obtain⟨_,_,_,e,_⟩:=x;exact aD e
 |own y=>obtain⟨_,e⟩:=x;exact aD e
 |xd fs=>obtain⟨_,⟨_,_,_,e,_⟩,_⟩:=x;exact aD e
 |rng lo hi=>obtain⟨_,_,_,e⟩:=x;exact aD e
 |frz ob u=>obtain⟨e,_⟩:=x;exact aD e
 |tbl ps=>exact aD (show h.get? a=some _ from x)
 |met f y=>exact aD (show h.get? a=some _ from x)
 |ext φ=>obtain⟨_,⟨_,e⟩,_⟩:=x;exact aD e
theorem Paired.mapP {α β:Type}{F G:α->β->Prop}:∀{l₁:List α} {l₂:List β},Paired F l₁ l₂->(∀a b,F a b->G a b)->Paired G l₁ l₂
 |_,_,.nil,_=>.nil
 |_,_,.cons r t,f=>.cons (f _ _ r) (Paired.mapP t f)
theorem A4.stay (x:A4 P w H h a o) (k:∀b u,(b=a\/H b=some (.own a))->h.get? b=some u->h'.get? b=some u)
  (ho:∀b,H b=some (.own a)->H' b=some (.own a)) (ht:∀b xs,H b=some (.tup xs)->H' b=some (.tup xs)):A4 P w H' h' a o:=by
 induction o with
 |lst xs=>obtain⟨z,its,n,r,e⟩:=x;exact⟨z,its,n,r,k _ _ (.inl rfl) e⟩
 |tup xs=>obtain⟨z,its,r,ob,e,c⟩:=x;exact⟨z,its,r,ob,k _ _ (.inl rfl) e,c⟩
 |dK kvs=>obtain⟨z,y,vs,r,ob,es,ep,e,c⟩:=x;exact⟨z,y,vs,r,ob,es,ep,k _ _ (.inl rfl) e,c⟩
 |dT kvs=>
  obtain⟨z,y,xs,r,ob,es,ep,e,c⟩:=x;exact⟨z,y,xs,Paired.mapP r λp q z=>⟨z.1,ht _ _ z.2.1,z.2.2⟩,ob,es,ep,k _ _ (.inl rfl) e,c⟩
 |set S n=>obtain⟨ob,es,ep,t,e,c⟩:=x;exact⟨ob,es,ep,t,k _ _ (.inl rfl) e,c⟩
 |ins C dx fs=>
  obtain⟨d,z,ne,e,mA,⟨od,es,ep,e2,c⟩,r⟩:=x;exact⟨ho _ d,z,ne,k _ _ (.inl rfl) e,mA,⟨od,es,ep,k _ _ (.inr d) e2,c⟩,r⟩
 |own y=>obtain⟨ob,e⟩:=x;exact⟨ob,k _ _ (.inl rfl) e⟩
 |xd fs=>obtain⟨mA,⟨od,es,ep,e,c⟩,r⟩:=x;exact⟨mA,⟨od,es,ep,k _ _ (.inl rfl) e,c⟩,r⟩
 |rng lo hi=>obtain⟨t,u,v,e⟩:=x;exact⟨t,u,v,k _ _ (.inl rfl) e⟩
 |frz ob u ih=>obtain⟨e,q⟩:=x;exact⟨k _ _ (.inl rfl) e,ih q⟩
 |tbl ps=>
  have e:h.get? a=some { cls:=.none,data:=.fields ps }:=x;show h'.get? a=some { cls:=.none,data:=.fields ps };exact k a _ (.inl rfl) e
 |met f y=>
  have e:h.get? a=some (PySem.W.methodObj (.ref f) (.ref y)):=x;show h'.get? a=some (PySem.W.methodObj (.ref f) (.ref y));exact k a _ (.inl rfl) e
 |ext φ=>obtain⟨p,⟨o,e⟩,st⟩:=x;exact⟨st _ _ p λo q=>k _ _ (.inl rfl) q,⟨o,k _ _ (.inl rfl) e⟩,st⟩
theorem Gw.lt (x:Gw P w H h)(e:H a=some o):a<h.objs.size:=(x a o e).lt
theorem Gw.fresh (x:Gw P w H h)(e:h.objs.size<=a):H a=none:=by
 cases q:H a with
 |none=>rfl
 |some u=>exact absurd (aY (x.lt q) e) (cQ _)
theorem Gw.kept (x:Gw P w H h)(k:∀b u,h.get? b=some u->h'.get? b=some u):Gw P w H h':=λa o e=>
 (x a o e).stay (λb u _ q=>k b u q) (λ_ q=>q) λ_ _ q=>q
theorem Gw.laid (x:Gw P w H h)(k:∀b u,h.get? b=some u->h'.get? b=some u)(hp:h.objs.size<=a)(new:A4 P w (upd H a o) h' a o):Gw P w (upd H a o) h':=λb u e=>by
 have hn:=x.fresh hp
 by_cases hb:b=a
 ·subst hb;rw[Ac] at e;cases e;exact new
 ·rw[Af hb] at e;exact(x b u e).stay (λc v _ q=>k c v q) (λc q=>by rw[Af (Bh q hn)];exact q) λc xs q=>by rw[Af (Bh q hn)];exact q
end
def Rd (H:Hp)(a:Addr)(u:HO):Prop:=H a=some u\/∃o,H a=some (.frz o u)
theorem Rd.ok {P:Program}{w:World}{H:Hp}{h:Heap}{a:Addr}{u:HO}(r:Rd H a u)(x:Gw P w H h):A4 P w H h a u:=by
 rcases r with r|⟨o,r⟩
 ·exact x a u r
 ·obtain⟨_,q⟩:=x a _ r;exact q
def UO:Option HO->Prop
 |some (.lst _)=>True
 |some (.dK _)=>True
 |some (.dT _)=>True
 |some (.set _ _)=>True
 |some (.ins _ _ _)=>True
 |some (.ext _)=>True
 |_=>False
section
variable {P:Program}{w:World}{H:Hp}{h h':Heap}{x e:Addr}{o':HO}
theorem Gw.write (ok:Gw P w H h) (mu:UO (H x)) (he:e=x\/H e=some (.own x)) (k:∀b u,b≠e->h.get? b=some u->h'.get? b=some u) (heo:∃u,h'.get? e=some u)
  (new:A4 P w (upd H x o') h' x o'):Gw P w (upd H x o') h':=λb u q=>by
 have nown:∀c y,H c=some (.own y)->c≠x:=λc y r z=>by subst z;rw[r] at mu;exact mu
 have ntup:∀c xs,H c=some (.tup xs)->c≠x:=λc xs r z=>by subst z;rw[r] at mu;exact mu
 by_cases hb:b=x
 ·subst hb;rw[Ac] at q;cases q;exact new
 ·rw[Af hb] at q
  by_cases hbe:b=e
  ·have q':H b=some (.own x):=by
    rcases he with z|z
    ·exact absurd (hbe.trans z) hb
    ·rw[hbe];exact z
   rw[q] at q';cases q';obtain⟨v,hv⟩:=heo;exact⟨v,by rw[hbe];exact hv⟩
  ·refine(ok b u q).stay (λc v hc r=>k c v ?_ r) (λc r=>by rw[Af (nown c b r)];exact r) λc xs r=>by rw[Af (ntup c xs r)];exact r
   rcases hc with rfl|hc
   ·exact hbe
   ·rintro rfl
    rcases he with z|z
    ·exact nown c b hc z
    ·rw[hc] at z;cases z;exact hb rfl
end
structure Un (fs ex:List Addr) (H H':Hp) (h h':Heap):Prop where
 keep:∀b o,h.get? b=some o->H b=none->b∉fs->b∉ex->h'.get? b=some o
 slot:∀b o,h.get? b=some o->H b=none->b∈fs->b∉ex->∃sl,h'.get? b=some { o with slots:=sl }
 free:∀b o,h.get? b=some o->H b=none->b∉ex->H' b=none
 there:∀b o,h.get? b=some o->b∉ex->∃o',h'.get? b=some o'
 tups:∀b xs,H b=some (.tup xs)->H' b=some (.tup xs)
 frzs:∀b o u,H b=some (.frz o u)->H' b=some (.frz o u)
 tbls:∀b ps,H b=some (.tbl ps)->∃more,H' b=some (.tbl (ps++more))
section
variable {fs fs' ex ex':List Addr}{H H1 H2:Hp}{h h1 h2 h':Heap}{a x e:Addr}{o:HO}
theorem Un.any (u:Un fs ex H H1 h h1){b:Addr}{ob:Obj}(q:h.get? b=some ob)(n:H b=none)(hx:b∉ex):∃sl,h1.get? b=some { ob with slots:=sl }:=by
 by_cases hb:b∈fs
 ·exact u.slot b ob q n hb hx
 ·exact⟨ob.slots,u.keep b ob q n hb hx⟩
theorem Un.kept (k:∀b u,h.get? b=some u->h'.get? b=some u):Un fs ex H H h h':=
 ⟨λb ob q _ _ _=>k b ob q,λb ob q _ _ _=>⟨ob.slots,k b ob q⟩,λ_ _ _ n _=>n,λb ob q _=>⟨ob,k b ob q⟩,λ_ _ q=>q,λ_ _ _ q=>q,λ_ ps q=>⟨#[],by rw[q];simp⟩⟩
theorem Un.refl:Un fs ex H H h h:=Un.kept λ_ _ q=>q
theorem Un.laid (k:∀b u,h.get? b=some u->h'.get? b=some u)(hp:h.objs.size<=a)(hn:H a=none):Un fs ex H (upd H a o) h h' where
 keep:=λb u q _ _ _=>k b u q
 slot:=λb u q _ _ _=>⟨u.slots,k b u q⟩
 free:=λb u q n _=>by rw[Af (aN (aY (aD q) hp))];exact n
 there:=λb u q _=>⟨u,k b u q⟩
 tups:=λb xs q=>by rw[Af (Bh q hn)];exact q
 frzs:=λb u xs q=>by rw[Af (Bh q hn)];exact q
 tbls:=λb ps q=>⟨#[],by rw[Af (Bh q hn),q];simp⟩
theorem Un.write (mu:UO (H x))(he:e=x\/H e=some (.own x))(k:∀b u,b≠e->h.get? b=some u->h'.get? b=some u)(heo:∃u,h'.get? e=some u):Un fs ex H (upd H x o) h h':=by
 have hx:∀b,H b=none->b≠x:=λb n z=>by subst z;rw[n] at mu;exact mu
 have hb:∀b,H b=none->b≠e:=λb n z=>by
  subst z;rcases he with r|r
  ·exact hx b n r
  ·rw[n] at r;cases r
 have hm:∀b u,H b=some u->¬UO (some u)->b≠x:=λb u q nm z=>by subst z;rw[q] at mu;exact nm mu
 refine⟨λb u q n _ _=>k b u (hb b n) q,λb u q n _ _=>⟨u.slots,k b u (hb b n) q⟩,λb u q n _=>by rw[Af (hx b n)];exact n,λb u q _=>?_,
  λb xs q=>by rw[Af (hm b _ q λz=>z)];exact q,λb u xs q=>by rw[Af (hm b _ q λz=>z)];exact q,λb ps q=>⟨#[],by rw[Af (hm b _ q λz=>z),q];simp⟩⟩
 by_cases hbe:b=e
 ·subst hbe;exact heo
 ·exact⟨u,k b u hbe q⟩
end
def Va (h:Heap)(H:Hp):List Addr:=(List.range h.objs.size).filter λa=>(H a).isSome
def KM (h:Heap)(H:Hp):Heap:=PySem.W.hideAll h (Va h H)
theorem O7 (h:Heap)(H:Hp):(KM h H).objs.size=h.objs.size:=PySem.W.hideAll_size _ _
theorem Jc {h:Heap}{H:Hp}{b:Addr}{o:Obj}(e:h.get? b=some o)(n:H b=none):(KM h H).get? b=some o:=
 PySem.W.hideAll_get _ e λhm=>by
  have q:(H b).isSome=true:=(bz.mp hm).2;rw[n] at q;simp at q
theorem R1 {h:Heap}{H:Hp}{b:Addr}{o:Obj}(e:(KM h H).get? b=some o):h.get? b=some o/\H b=none:=by
 have e':h.get? b=some o:=PySem.W.of_hideAll (Va h H) e;refine⟨e',?_⟩;cases q:H b with
 |none=>rfl
 |some x=>
  have hm:b∈Va h H:=bz.mpr ⟨cC.mpr (aD e'),by simp[q]⟩;have z:(KM h H).get? b=none:=PySem.W.hideAll_none (Va h H) hm;rw[z] at e;cases e
def RN (g h:Heap)(L:Addr):List (Addr×Obj):=(List.range h.objs.size).filterMap λa=>if a=L\/(g.get? a).isSome=true then none else(h.get? a).map λo=>(a,o)
def rest (g h:Heap)(L d:Addr):List (Addr×Obj):=(RN g h L).filter λp=>decide (p.1≠d)
structure Mod (K:PySem.W.Frag) (mg:Str->Option Value) (base:Heap):Prop where
 kin:K.In base
 glob:base.Ns mainGlobals mg
 blt:∃mb,base.Ns builtinsNs mb/\∀x:Str,x≠"__name__"->mb x=bootBuiltins x
 nolimit:base.NoLimit
structure Cx where
 prog:Program
 w:World
 K:PySem.W.Frag
 mg:Str->Option Value
 base:Heap
 A:Around
 N:List Str
 s₀:Shared
 H₀:Hp
 env:Env
 outer:List Env
 stack:List Env
 ex:List Addr
 fn:Str->Bool
 calm:Bool
 pn:List (Addr×Obj)
 xe:Value->Shared->Prop
def KP (l:List Env):List Addr:=l.filterMap (·.frame)
abbrev Cx.fs (X:Cx):List Addr:=KP X.outer
def VF (sc:Scope)(x:Str):Prop:=sc.names.lookup x=some .local\/sc.names.lookup x=some .cell\/sc.names.lookup x=some .free
def Loc (sc:Scope)(x:Str):Prop:=sc.names.lookup x=some .local\/sc.names.lookup x=some .cell
def Look (env:Env)(h:Heap)(m:Str->Option Value)(x:Str)(u:Value):Prop:=
 (env.kindOf x=some .local/\m x=some u)\/((env.kindOf x=some .cell\/env.kindOf x=some .free)/\∃c,env.cells.lookup x=some c/\h.IsCell c (some u))
structure Cx.Ok (X:Cx):Prop where
 mod:Mod X.K X.mg X.base
 kind:X.env.scope.kind=.function
 glob:X.env.globals=mainGlobals
 blt:X.env.builtins=builtinsNs
 above:X.s₀.heap.objs.size<=X.env.locals
 inj:∀x y c,X.env.cells.lookup x=some c->X.env.cells.lookup y=some c->x=y
 has:∀x,(X.env.kindOf x=some .cell\/X.env.kindOf x=some .free)->∃c,X.env.cells.lookup x=some c
 cab:∀x c,X.fn x=true->X.env.cells.lookup x=some c->X.s₀.heap.objs.size<=c
 hd:X.calm=true->X.A.handled=none
 frames:X.A.frames=some X.stack
 stk:X.stack=X.outer\/(X.stack=X.env::X.outer/\X.env.frame=some X.env.locals)
 exf:∀b∈X.ex,b≠X.env.locals/\∀x c,X.env.cells.lookup x=some c->c≠b
 bs:∀b o,X.base.get? b=some o->X.s₀.heap.get? b=some o/\X.H₀ b=none
 bsz:X.base.objs.size<=X.s₀.heap.objs.size
 noex:∀b o,X.base.get? b=some o->b∉X.ex
 exfs:∀b∈X.ex,b∉X.fs
 funs:X.s₀.heap.FunFrames X.base X.outer
 frf:∀b∈X.fs,X.H₀ b=none
structure Inv (X:Cx) (pins:List (Addr×Obj)) (σ:List (Option V)) (H:Hp) (s:Shared):Prop where
 ok:X.Ok
 os:s.os=X.s₀.os
 bare:AllBare s.gens
 base:Un X.fs X.ex X.H₀ H X.s₀.heap s.heap
 loc:∃m,s.heap.Ns X.env.locals m/\∀(i:Nat) (x:Str) (v:V),X.N[i]?=some x->σ[i]?=some (some v)->VF X.env.scope x->∃u,RelV v u/\Look X.env s.heap m x u
 cell:∀x c,X.env.cells.lookup x=some c->∃v,s.heap.IsCell c v
 free:H X.env.locals=none
 freeC:∀x c,X.env.cells.lookup x=some c->H c=none
 pin:∀p∈X.pn++pins,s.heap.get? p.1=some p.2/\H p.1=none/\p.1≠X.env.locals/\p.1∉X.fs/\∀v,p.2.data≠.cell v
 hok:Gw X.prog X.w H s.heap
 len:σ.length=X.N.length
section
variable {X:Cx}{pins:List (Addr×Obj)}{σ:List (Option V)}{H H':Hp}{s:Shared}{h':Heap}
theorem Cx.Ok.nofr (ok:X.Ok){b:Addr}{o:Obj}(e:X.base.get? b=some o):b∉X.fs:=λhb=>by
 have:=(ok.funs.mem hb).1;rw[e] at this;cases this
theorem Inv.bs (I:Inv X pins σ H s):∀b o,X.base.get? b=some o->s.heap.get? b=some o/\H b=none:=λb o e=>
 ⟨I.base.keep b o (I.ok.bs b o e).1 (I.ok.bs b o e).2 (I.ok.nofr e) (I.ok.noex b o e),I.base.free b o (I.ok.bs b o e).1 (I.ok.bs b o e).2 (I.ok.noex b o e)⟩
theorem Inv.bk (I:Inv X pins σ H s):∀b o,X.base.get? b=some o->s.heap.get? b=some o:=λb o e=>(I.bs b o e).1
theorem Inv.mod (I:Inv X pins σ H s):Mod X.K X.mg X.base:=I.ok.mod
theorem Inv.kIn (I:Inv X pins σ H s):X.K.In s.heap:=I.ok.mod.kin.keeps I.bk
theorem Inv.nolimit (I:Inv X pins σ H s):s.heap.NoLimit:=I.ok.mod.nolimit.keeps I.bk
theorem Inv.lt (I:Inv X pins σ H s):X.env.locals<s.heap.objs.size:=let⟨_,hn,_⟩:=I.loc;hn.lt
theorem Inv.sz (I:Inv X pins σ H s):X.s₀.heap.objs.size<=s.heap.objs.size:=bq I.ok.above (eW I.lt)
theorem Inv.nofs (I:Inv X pins σ H s){a:Addr}(h:s.heap.objs.size<=a):a∉X.fs:=λhb=>by
 obtain⟨_,o,ho,_⟩:=I.ok.funs.mem hb;exact absurd (aY (aD ho) (bq I.sz h)) (cQ _)
theorem Inv.cne (I:Inv X pins σ H s):∀x c,X.env.cells.lookup x=some c->c≠X.env.locals:=λx c e z=>by
 obtain⟨v,o,ho,hd⟩:=I.cell x c e;obtain⟨m,⟨o',es,ep,ho',hd',_⟩,_⟩:=I.loc;rw[z,ho'] at ho;cases ho;rw[hd'] at hd;cases hd
theorem Inv.funs (I:Inv X pins σ H s):s.heap.FunFrames X.base X.outer:=by
 have all:∀(l:List Env),(∀b∈KP l,b∈X.fs)->X.s₀.heap.FunFrames X.base l->s.heap.FunFrames X.base l:=by
  intro l
  induction l with
  |nil=>intro _ _;trivial
  |cons env r ih=>
   intro hs hl;obtain⟨hk,⟨L,o,hf,hn,ho,hd⟩,hr⟩:=hl;have hL:L∈X.fs:=hs L (by unfold KP;rw[eO,hf];exact ax);obtain⟨sl,e⟩:=I.base.slot L o ho (I.ok.frf L hL) hL λz=>I.ok.exfs L z hL
   exact⟨hk,⟨L,_,hf,hn,e,hd⟩,ih (λb hb=>hs b (by unfold KP;rw[eO,hf];exact aM _ hb)) hr⟩
 exact all X.outer (λ_ hb=>hb) I.ok.funs
theorem Inv.stack (I:Inv X pins σ H s):s.heap.FunFrames X.base X.stack:=by
 rcases I.ok.stk with e|⟨e,hf⟩
 ·rw[e];exact I.funs
 ·rw[e];obtain⟨m,hn,_⟩:=I.loc;refine .cons (by rw[I.ok.kind];decide) hf hn ?_ I.funs;exact dF (bq I.ok.bsz I.ok.above)
theorem Inv.stkSub (I:Inv X pins σ H s):∀b∈KP X.stack,b∈X.env.locals::X.fs:=λb hb=>by
 rcases I.ok.stk with e|⟨e,hf⟩
 ·rw[e] at hb;exact aM _ hb
 ·rw[e] at hb;unfold KP at hb;rw[eO,hf] at hb;exact hb
theorem Inv.stkFree (I:Inv X pins σ H s):∀b∈KP X.stack,H b=none:=λb hb=>by
 rcases aL.mp (I.stkSub b hb) with e|hb
 ·rw[e];exact I.free
 ·obtain⟨_,o,ho,_⟩:=I.ok.funs.mem hb;exact I.base.free b o ho (I.ok.frf b hb) λz=>I.ok.exfs b z hb
theorem Inv.step {g':Array GenState} {t':Nat} {d':Drawn} {ch:List Addr} (I:Inv X pins σ H s)
  (hch:∀b∈ch,(b∈X.ex\/X.s₀.heap.objs.size<=b)/\b≠X.env.locals/\(∀x c,X.env.cells.lookup x=some c->c≠b)/\∀p∈X.pn++pins,p.1≠b)
  (keep:∀b o,b≠X.env.locals->b∉X.fs->b∉ch->s.heap.get? b=some o->H b=none->h'.get? b=some o)
  (slot:∀b o,b≠X.env.locals->b∈X.fs->b∉ch->s.heap.get? b=some o->H b=none->∃sl,h'.get? b=some { o with slots:=sl }) (free:∀b o,b∉ch->s.heap.get? b=some o->H b=none->H' b=none)
  (there:∀b o,b∉ch->s.heap.get? b=some o->∃o',h'.get? b=some o')
  (tups:∀b xs,H b=some (.tup xs)->H' b=some (.tup xs)) (frzs:∀b o u,H b=some (.frz o u)->H' b=some (.frz o u)) (tbls:∀b ps,H b=some (.tbl ps)->∃more,H' b=some (.tbl (ps++more)))
  (ns:∀m,s.heap.Ns X.env.locals m->h'.Ns X.env.locals m) (hok:Gw X.prog X.w H' h') (hg:AllBare g') :
  Inv X pins σ H' { s with heap:=h',gens:=g',drawn:=d',toks:=t' }:=by
 have neL:∀b o,X.s₀.heap.get? b=some o->b≠X.env.locals:=λb o e=>aN (aY (aD e) I.ok.above)
 have neC:∀b o,X.s₀.heap.get? b=some o->b∉X.ex->b∉ch:=λb o e hx hb=>by
  rcases(hch b hb).1 with z|z
  ·exact hx z
  ·exact absurd (aY (aD e) z) (cQ _)
 have cellK:∀x c,X.env.cells.lookup x=some c->∀v,s.heap.IsCell c v->h'.IsCell c v:=λx c e v ⟨o,ho,hd⟩=>by
  have nch:c∉ch:=λz=>(hch c z).2.2.1 x c e rfl
  by_cases hc:c∈X.fs
  ·obtain⟨sl,q⟩:=slot c o (I.cne x c e) hc nch ho (I.freeC x c e);exact⟨_,q,hd⟩
  ·exact⟨o,keep c o (I.cne x c e) hc nch ho (I.freeC x c e),hd⟩
 refine⟨I.ok,I.os,hg,⟨λb o e n hb hx=>?_,λb o e n hb hx=>?_,λb o e n hx=>?_,λb o e hx=>?_,λb xs e=>tups b xs (I.base.tups b xs e),λb o xs e=>frzs b o xs (I.base.frzs b o xs e),λb ps e=>?_⟩,?_,λx c e=>?_,?_,λx c e=>?_,λp hp=>?_,hok,I.len⟩
 ·exact keep b o (neL b o e) hb (neC b o e hx) (I.base.keep b o e n hb hx) (I.base.free b o e n hx)
 ·obtain⟨sl,e1⟩:=I.base.slot b o e n hb hx;obtain⟨sl',e2⟩:=slot b _ (neL b o e) hb (neC b o e hx) e1 (I.base.free b o e n hx);exact⟨sl',e2⟩
 ·obtain⟨o',e1⟩:=I.base.there b o e hx;exact free b o' (neC b o e hx) e1 (I.base.free b o e n hx)
 ·obtain⟨o',e1⟩:=I.base.there b o e hx;exact there b o' (neC b o e hx) e1
 ·obtain⟨m1,e1⟩:=I.base.tbls b ps e;obtain⟨m2,e2⟩:=tbls b _ e1;exact⟨m1++m2,by rw[e2,Array.append_assoc]⟩
 ·obtain⟨m,hn,hl⟩:=I.loc;refine⟨m,ns m hn,λi x v e1 e2 e3=>?_⟩;obtain⟨u,r,l⟩:=hl i x v e1 e2 e3;refine⟨u,r,?_⟩;rcases l with l|⟨k,c,e,z⟩
  ·exact .inl l
  ·exact .inr ⟨k,c,e,cellK x c e _ z⟩
 ·obtain⟨v,z⟩:=I.cell x c e;exact⟨v,cellK x c e v z⟩
 ·obtain⟨m,⟨o,_,_,ho,_⟩,_⟩:=I.loc;exact free _ o (λz=>(hch _ z).2.1 rfl) ho I.free
 ·obtain⟨v,o,ho,hd⟩:=I.cell x c e;exact free c o (λz=>(hch c z).2.2.1 x c e rfl) ho (I.freeC x c e)
 ·obtain⟨e,n,ne,nf,d⟩:=I.pin p hp;have nch:p.1∉ch:=λz=>(hch p.1 z).2.2.2 p hp rfl
  exact⟨keep p.1 p.2 ne nf nch e n,free p.1 p.2 nch e n,ne,nf,d⟩
theorem Inv.un {t':Nat}(I:Inv X pins σ H s)(u:Un X.fs [] H H' s.heap h')(hok:Gw X.prog X.w H' h'):Inv X pins σ H' { s with heap:=h',toks:=t' }:=by
 obtain⟨m,⟨o,es,ep,ho,r⟩,_⟩:=id I.loc;obtain⟨sl,hL⟩:=u.any ho I.free (by simp);exact I.step (g':=s.gens) (d':=s.drawn) (ch:=[]) (λ_ z=>nomatch z) (λb o _ hb _ e n=>u.keep b o e n hb (by simp)) (λb o _ hb _ e n=>u.slot b o e n hb (by simp)) (λb o _ e n=>u.free b o e n (by simp)) (λb o _ e=>u.there b o e (by simp)) u.tups u.frzs u.tbls (λm' hm=>by
  obtain⟨o',es',ep',ho',r'⟩:=hm;rw[ho] at ho';cases ho';exact⟨_,es',ep',hL,r'⟩) hok I.bare
theorem Inv.call {g':Array GenState} {t':Nat} {d':Drawn} {ch:List Addr} (I:Inv X pins σ H s) (u:Un (KP X.stack) ch H H' s.heap h') (hok:Gw X.prog X.w H' h') (hg:AllBare g')
  (hch:∀b∈ch,(b∈X.ex\/X.s₀.heap.objs.size<=b)/\b≠X.env.locals/\(∀x c,X.env.cells.lookup x=some c->c≠b)/\∀p∈X.pn++pins,p.1≠b) :
  Inv X pins σ H' { s with heap:=h',gens:=g',drawn:=d',toks:=t' }:=by
 obtain⟨m,⟨o,es,ep,ho,r⟩,_⟩:=id I.loc;obtain⟨sl,hL⟩:=u.any ho I.free λz=>(hch _ z).2.1 rfl
 exact I.step (ch:=ch) hch (λb o hL hb hc e n=>u.keep b o e n (λz=>(aL.mp (I.stkSub b z)).elim hL hb) hc) (λb o _ _ hc e n=>u.any e n hc) (λb o hc e n=>u.free b o e n hc) (λb o hc e=>u.there b o e hc) u.tups u.frzs u.tbls (λm' hm=>by
  obtain⟨o',es',ep',ho',r'⟩:=hm;rw[ho] at ho';cases ho';exact⟨_,es',ep',hL,r'⟩) hok hg
theorem Inv.turned {t':Nat} {it:Addr} (I:Inv X pins σ H s) (k:∀b o,b≠it->s.heap.get? b=some o->h'.get? b=some o) (hn:H it=none) (hL:it≠X.env.locals)
  (h1:it∈X.ex\/X.s₀.heap.objs.size<=it) (h2:∀x c,X.env.cells.lookup x=some c->c≠it) (h3:∀p∈X.pn++pins,p.1≠it):Inv X pins σ H { s with heap:=h',toks:=t' }:=by
 have nit:∀b u,H b=some u->b≠it:=λb u e z=>by rw[z,hn] at e;cases e
 refine I.step (g':=s.gens) (d':=s.drawn) (ch:=[it]) (λb hb=>?_) (λb o _ _ hc e _=>k b o (λz=>hc (by simp[z])) e) (λb o _ _ hc e _=>⟨o.slots,k b o (λz=>hc (by simp[z])) e⟩) (λ_ _ _ _ n=>n)
  (λb o hc e=>⟨o,k b o (λz=>hc (by simp[z])) e⟩) (λ_ _ e=>e) (λ_ _ _ e=>e) (λb ps e=>⟨#[],by rw[e];simp⟩) (λm hm=>?_) (λb u e=>?_) I.bare
 ·have e:b=it:=by simpa using hb
  subst e;exact⟨h1,hL,h2,h3⟩
 ·obtain⟨o,es,ep,ho,r⟩:=hm;exact⟨o,es,ep,k _ o (Ne.symm hL) ho,r⟩
 ·refine(I.hok b u e).stay (λc v hc q=>k c v ?_ q) (λ_ q=>q) λ_ _ q=>q
  rcases hc with z|z
  ·rw[z];exact nit b u e
  ·exact nit c _ z
theorem Inv.tok (I:Inv X pins σ H s)(t:Nat):Inv X pins σ H { s with toks:=t }:=I.un (h':=s.heap) (t':=t) Un.refl I.hok
theorem Inv.kept {t':Nat}(I:Inv X pins σ H s)(k:∀b u,s.heap.get? b=some u->h'.get? b=some u):Inv X pins σ H { s with heap:=h',toks:=t' }:=I.un (Un.kept k) (I.hok.kept k)
theorem Inv.laid {a:Addr}{o:HO}{t':Nat}(I:Inv X pins σ H s)(k:∀b u,s.heap.get? b=some u->h'.get? b=some u)(hp:s.heap.objs.size<=a)(new:A4 X.prog X.w (upd H a o) h' a o) :
  Inv X pins σ (upd H a o) { s with heap:=h',toks:=t' }:=I.un (Un.laid k hp (I.hok.fresh hp)) (I.hok.laid k hp new)
theorem Inv.write {x e:Addr} {o:HO} {t':Nat} (I:Inv X pins σ H s) (mu:UO (H x)) (he:e=x\/H e=some (.own x)) (k:∀b u,b≠e->s.heap.get? b=some u->h'.get? b=some u) (heo:∃u,h'.get? e=some u)
  (new:A4 X.prog X.w (upd H x o) h' x o):Inv X pins σ (upd H x o) { s with heap:=h',toks:=t' }:=I.un (Un.write mu he k heo) (I.hok.write mu he k heo new)
theorem Inv.pins_of {pins':List (Addr×Obj)}(I:Inv X pins σ H s)(h:∀p∈pins',s.heap.get? p.1=some p.2/\H p.1=none/\p.1≠X.env.locals/\p.1∉X.fs/\∀v,p.2.data≠.cell v):Inv X pins' σ H s:=
 ⟨I.ok,I.os,I.bare,I.base,I.loc,I.cell,I.free,I.freeC,λp hp=>(au.mp hp).elim (λz=>I.pin p (aJ _ z)) (h p),I.hok,I.len⟩
theorem Lz {N:List Str}(hN:N.Nodup){i j:Nat}{x:Str}(a:N[i]?=some x)(b:N[j]?=some x):i=j:=by
 obtain⟨h1,e1⟩:=aw.mp a;obtain⟨h2,e2⟩:=aw.mp b;exact(List.getElem_inj hN).mp (e1.trans e2.symm)
theorem OC {M:Model} {A:Around} {E:Value->Shared->Prop} {i:Nat} {x:Str} {v:V} {u:Value} {Q:Unit->Shared->Prop} (I:Inv X pins σ H s) (hN:X.N.Nodup) (hi:X.N[i]?=some x) (hx:Loc X.env.scope x) (r:RelV v u)
  (h:∀s',Inv X pins (σ.set i (some v)) H s'->(∃a,Heap.SameBut a s.heap s'.heap/\(a=X.env.locals\/X.env.cells.lookup x=some a))->Q () s') (hf:X.fn x=true\/X.env.scope.names.lookup x=some .local:=by first|exact .inl rfl|exact .inr rfl|assumption):wpAny M A (storeName X.env x u) Q E s:=by
 obtain⟨m,hn,hl⟩:=id I.loc;have hcls:(X.env.scope.kind == .class||(X.env.scope.kind == .module&&X.env.locals != X.env.globals))=false:=by rw[I.ok.kind];rfl
 have hiσ:i<σ.length:=by rw[I.len];exact(aw.mp hi).1
 have cne:=I.cne;have tracked:∀{a:Addr} {h':Heap},(∃o,s.heap.get? a=some o/\H a=none)->Heap.SameBut a s.heap h'->Gw X.prog X.w H h':=λ{a h'} ha hs b ob e=>by
  obtain⟨_,_,hfree⟩:=ha;refine(I.hok b ob e).stay (λc w' hc q=>(hs.2 c ?_).trans q) (λ_ q=>q) λ_ _ q=>q
  rintro rfl
  rcases hc with rfl|hc
  ·rw[hfree] at e;cases e
  ·rw[hfree] at hc;cases hc
 rcases hx with hk|hk
 ·refine wpAny_storeName_local hk hn (λh' hn' hs=>?_) hcls;obtain⟨oL,_,_,hoL,_⟩:=id hn;refine h _ ⟨I.ok,I.os,I.bare,⟨λb o e n hb hx=>?_,λb o e n hb hx=>?_,I.base.free,λb o e hx=>?_,I.base.tups,I.base.frzs,I.base.tbls⟩,⟨_,hn',λj y v' e1 e2 e3=>?_⟩,λy c e=>?_,I.free,I.freeC,λp hp=>?_,tracked ⟨oL,hoL,I.free⟩ hs,by simpa using I.len⟩ ⟨_,hs,.inl rfl⟩
  ·exact(hs.2 b (aN (aY (aD e) I.ok.above))).trans (I.base.keep b o e n hb hx)
  ·obtain⟨sl,e1⟩:=I.base.slot b o e n hb hx;exact⟨sl,(hs.2 b (aN (aY (aD e) I.ok.above))).trans e1⟩
  ·obtain⟨o',e1⟩:=I.base.there b o e hx;exact⟨o',(hs.2 b (aN (aY (aD e) I.ok.above))).trans e1⟩
  ·by_cases hj:j=i
   ·subst hj;rw[hi] at e1;cases e1;rw[fV hiσ] at e2;cases e2;exact⟨u,r,.inl ⟨hk,by simp⟩⟩
   ·rw[gv (Ne.symm hj)] at e2;obtain⟨u',r',q⟩:=hl j y v' e1 e2 e3;refine⟨u',r',?_⟩;rcases q with⟨k,e⟩|⟨k,c,e,z⟩
    ·refine .inl ⟨k,?_⟩;have:y≠x:=λe=>hj (Lz hN e1 (e▸hi))
     simp[this,e]
    ·exact .inr ⟨k,c,e,z.sameBut hs (cne y c e)⟩
  ·obtain⟨w',z⟩:=I.cell y c e;exact⟨w',z.sameBut hs (cne y c e)⟩
  ·obtain⟨e,n,ne,nf,d⟩:=I.pin p hp;exact⟨(hs.2 p.1 ne).trans e,n,ne,nf,d⟩
 ·have hfn:X.fn x=true:=by
   rcases hf with z|z
   ·exact z
   ·rw[z] at hk;cases hk
  obtain⟨c,hc⟩:=I.ok.has x (.inl hk);obtain⟨w',z⟩:=I.cell x c hc;refine wpAny_storeName_cell I.ok.kind hk hc z (λh' hc' hs=>?_);obtain⟨oc,hoc,hocd⟩:=id z;refine h { s with heap:=h' } ⟨I.ok,I.os,I.bare,⟨λb o e n hb hx=>?_,λb o e n hb hx=>?_,I.base.free,λb o e hx=>?_,I.base.tups,I.base.frzs,I.base.tbls⟩,⟨m,hn.sameBut hs (Ne.symm (cne x c hc)),λj y v' e1 e2 e3=>?_⟩,λy c' e=>?_,I.free,I.freeC,λp hp=>?_,tracked ⟨oc,hoc,I.freeC x c hc⟩ hs,by simpa using I.len⟩ ⟨c,hs,.inr hc⟩
  ·exact(hs.2 b (aN (aY (aD e) (I.ok.cab x c hfn hc)))).trans (I.base.keep b o e n hb hx)
  ·obtain⟨sl,e1⟩:=I.base.slot b o e n hb hx;exact⟨sl,(hs.2 b (aN (aY (aD e) (I.ok.cab x c hfn hc)))).trans e1⟩
  ·obtain⟨o',e1⟩:=I.base.there b o e hx;exact⟨o',(hs.2 b (aN (aY (aD e) (I.ok.cab x c hfn hc)))).trans e1⟩
  ·by_cases hj:j=i
   ·subst hj;rw[hi] at e1;cases e1;rw[fV hiσ] at e2;cases e2;exact⟨u,r,.inr ⟨.inl hk,c,hc,hc'⟩⟩
   ·rw[gv (Ne.symm hj)] at e2;obtain⟨u',r',q⟩:=hl j y v' e1 e2 e3;refine⟨u',r',?_⟩;rcases q with q|⟨k,c',e,z'⟩
    ·exact .inl q
    ·refine .inr ⟨k,c',e,z'.sameBut hs ?_⟩
     rintro rfl
     exact hj (Lz hN e1 (I.ok.inj _ _ _ e hc▸hi))
  ·by_cases hcc:c'=c
   ·subst hcc;exact⟨_,hc'⟩
   ·obtain⟨w2,z2⟩:=I.cell y c' e;exact⟨w2,z2.sameBut hs hcc⟩
  ·obtain⟨e,n,ne,nf,d⟩:=I.pin p hp;refine⟨(hs.2 p.1 ?_).trans e,n,ne,nf,d⟩;intro q;rw[q,hoc] at e;have q':oc=p.2:=aA e;exact d w' (by rw[<-q'];exact hocd)
theorem JJ {M:Model} {A:Around} {E:Value->Shared->Prop} {i:Nat} {x:Str} {v:V} {u:Value} {Q:Unit->Shared->Prop} (I:Inv X pins σ H s) (hN:X.N.Nodup) (hi:X.N[i]?=some x) (hx:Loc X.env.scope x) (r:RelV v u)
  (h:∀s',Inv X pins (σ.set i (some v)) H s'->Q () s') (hf:X.fn x=true\/X.env.scope.names.lookup x=some .local:=by first|exact .inl rfl|exact .inr rfl|assumption):wpAny M A (storeName X.env x u) Q E s:=
 OC I hN hi hx r (λs' I' _=>h s' I') hf
theorem Inv.call' {s':Shared} {ch:List Addr} (I:Inv X pins σ H s) (ho:s'.os=s.os) (u:Un (KP X.stack) ch H H' s.heap s'.heap) (hok:Gw X.prog X.w H' s'.heap) (hg:AllBare s'.gens)
  (hch:∀b∈ch,(b∈X.ex\/X.s₀.heap.objs.size<=b)/\b≠X.env.locals/\(∀x c,X.env.cells.lookup x=some c->c≠b)/\∀p∈X.pn++pins,p.1≠b):Inv X pins σ H' s':=by
 obtain⟨h',g',d',t',o'⟩:=s';have e:o'=s.os:=ho;subst e;exact I.call (g':=g') (t':=t') (d':=d') u hok hg hch
end
abbrev XK:=Value->Option Addr->Hp->Prop
abbrev St:=List (Option V)
abbrev VK:=V->Hp->Prop
abbrev TE:=St->Hp->VK->Prop
abbrev TT:=St->Hp->(Bool->Hp->Prop)->Prop
abbrev TA:=St->Hp->(List V->Hp->Prop)->Prop
structure Ends where
 nx:St->Hp->Prop
 rt:VK
 bk:St->Hp->Prop:=λ_ _=>False
 ct:St->Hp->Prop:=λ_ _=>False
abbrev TS:=Ends->St->Hp->Prop
def EP (X:Cx)(pins:List (Addr×Obj))(σ:St)(Q:VK)(u:Value)(s':Shared):Prop:=∃v H',Inv X pins σ H' s'/\RelV v u/\Q v H'
def TP (X:Cx)(pins:List (Addr×Obj))(σ:St)(Q:Bool->Hp->Prop)(b:Bool)(s':Shared):Prop:=∃H',Inv X pins σ H' s'/\Q b H'
def AP (X:Cx)(pins:List (Addr×Obj))(σ:St)(Q:List V->Hp->Prop)(us:List Value)(s':Shared):Prop:=∃vs H',Inv X pins σ H' s'/\AD vs us/\Q vs H'
def SP (X:Cx)(pins:List (Addr×Obj))(D:Ends)(f:Flow)(s':Shared):Prop:=
 match f with
 | .next=>∃σ' H',Inv X pins σ' H' s'/\D.nx σ' H'
 | .brk=>∃σ' H',Inv X pins σ' H' s'/\D.bk σ' H'
 | .cont=>∃σ' H',Inv X pins σ' H' s'/\D.ct σ' H'
 | .ret u=>∃v σ' H',Inv X pins σ' H' s'/\RelV v u/\D.rt v H'
def PE (X:Cx)(e:Expr)(t:TE):Prop:=
 ∀(pins:List (Addr×Obj)) (s:Shared) (σ:St) (H:Hp) (Q:VK),Inv X pins σ H s->t σ H Q->wpAny (model X.prog X.w) X.A (eval e X.env) (EP X pins σ Q) X.xe s
def PT (X:Cx)(e:Expr)(t:TT):Prop:=
 ∀(pins:List (Addr×Obj)) (s:Shared) (σ:St) (H:Hp) (Q:Bool->Hp->Prop),Inv X pins σ H s->t σ H Q->wpAny (model X.prog X.w) X.A (isTrue e X.env (eval e X.env)) (TP X pins σ Q) X.xe s
def PW (X:Cx)(e:Expr)(t:TT):Prop:=
 ∀(whole:Sem Value) (pins:List (Addr×Obj)) (s:Shared) (σ:St) (H:Hp) (Q:Bool->Hp->Prop),Inv X pins σ H s->t σ H Q->wpAny (model X.prog X.w) X.A (isTrue e X.env whole) (TP X pins σ Q) X.xe s
theorem PW.pt {X:Cx}{e:Expr}{t:TT}(h:PW X e t):PT X e t:=h _
def PA (X:Cx)(es:List Expr)(t:TA):Prop:=
 ∀(pos:Pos) (pins:List (Addr×Obj)) (s:Shared) (σ:St) (H:Hp) (Q:List V->Hp->Prop),Inv X pins σ H s->t σ H Q->wpAny (model X.prog X.w) X.A (spliced (backTo pos (starEach es X.env))) (AP X pins σ Q) X.xe s
def PS (X:Cx)(st:Stmt)(t:TS):Prop:=
 ∀(pins:List (Addr×Obj)) (s:Shared) (σ:St) (H:Hp) (D:Ends),Inv X pins σ H s->t D σ H->wpAny (model X.prog X.w) X.A (exec st X.env) (SP X pins D) X.xe s
def Lr (X:Cx)(st:List Stmt)(t:TS):Prop:=
 ∀(pins:List (Addr×Obj)) (s:Shared) (σ:St) (H:Hp) (D:Ends),Inv X pins σ H s->t D σ H->wpAny (model X.prog X.w) X.A (execs st X.env) (SP X pins D) X.xe s
theorem Bd {α:Type}{t:Sem α}{Q Q':α->Shared->Prop}{M:Model}{A:Around}{E:Value->Shared->Prop}{s:Shared}(h:wpAny M A t Q E s)(hQ:∀a s,Q a s->Q' a s):wpAny M A t Q' E s:=bu h hQ λ_ _ x=>x
section
variable {X:Cx}
theorem bin {a b:Expr} {ta tb:TE} (ha:PE X a ta) (hb:PE X b tb) {pins:List (Addr×Obj)} {s:Shared} {σ:St} {H:Hp} {R:V->V->Hp->Prop} (I:Inv X pins σ H s) (h:ta σ H λx H1=>tb σ H1 λy H2=>R x y H2)
  {α:Type} {Q:α->Shared->Prop} {f:Value->Value->Sem α}
  (hf:∀v u s2 x y H2,Inv X pins σ H2 s2->RelV x v->RelV y u->R x y H2->wpAny (model X.prog X.w) X.A (f v u) Q X.xe s2) :
  wpAny (model X.prog X.w) X.A (eval a X.env) (λv s₁=>wpAny (model X.prog X.w) X.A (eval b X.env) (λu s₂=>wpAny (model X.prog X.w) X.A (f v u) Q X.xe s₂) X.xe s₁) X.xe s:=by
 refine Bd (ha pins s σ H _ I h) λv s1 ⟨x,H1,I1,r1,q1⟩=>?_
 refine Bd (hb pins s1 σ H1 _ I1 q1) λu s2 ⟨y,H2,I2,r2,q2⟩=>?_
 exact hf v u s2 x y H2 I2 r1 r2 q2
def Uy (i:Nat):TE:=λσ H Q=>∃v,σ[i]?=some (some v)/\Q v H
def tC (v:V):TE:=λ_ H Q=>Q v H
theorem TR {i:Nat}{x:Str}{pos:Pos}(hN:X.N[i]?=some x)(hv:VF X.env.scope x)(hd:(x == ("__debug__":Str))=false:=by decide)(hcd:(x == ("__classdict__":Str))=false:=by decide):PE X (.Name x pos) (Uy i):=by
 intro pins s σ H Q I h;obtain⟨v,e,h⟩:=h;obtain⟨m,hn,hl⟩:=I.loc;obtain⟨u,r,l⟩:=hl i x v hN e hv;have fin:EP X pins σ Q u s:=⟨v,H,I,r,h⟩
 rcases l with⟨hk,hm⟩|⟨hk,c,hc,hcell⟩
 ·exact gi (wpAny_loadName_local I.ok.kind hk hn hm fin) hd
 ·rcases hk with hk|hk
  ·exact gi (wpAny_loadName_cell I.ok.kind hk hc hcell fin) hd
  ·exact gi (wpAny_loadName_free I.ok.kind hk hc hcell fin hcd) hd
theorem Ad {i j pos}:PE X (.Constant (.int i) j pos) (tC (.int i)):=λ_ _ _ H _ I h=>fq ⟨.int i,H,I.tok _,⟨_,rfl⟩,h⟩
theorem Hn {b j pos}:PE X (.Constant (.bool b) j pos) (tC (.bl b)):=λ_ _ _ H _ I h=>Constant_bool ⟨.bl b,H,I,rfl,h⟩
theorem Qv {j pos}:PE X (.Constant .none j pos) (tC .non):=λ_ _ _ H _ I h=>Constant_none ⟨.non,H,I,rfl,h⟩
theorem GN {x j pos}:PE X (.Constant (.str x) j pos) (tC (.str x)):=λ_ _ _ H _ I h=>Calls.Constant_str ⟨.str x,H,I.tok _,⟨_,rfl⟩,h⟩
def Gl (X:Cx)(x:Str):Prop:=X.env.kindOf x=some .globalImplicit
theorem IR {E:Value->Shared->Prop} {pins:List (Addr×Obj)} {s:Shared} {σ:St} {H:Hp} {x:Str} {u:Value} {pos:Pos} {Q:Value->Shared->Prop} (I:Inv X pins σ H s) (hg:Gl X x) (hm:X.mg x=some u) (h:Q u s)
  (hd:(x == ("__debug__":Str))=false:=by decide):wpAny (model X.prog X.w) X.A (eval (.Name x pos) X.env) Q E s:=
 gw I.ok.kind hg (Calls.loadGlobal_global (by rw[I.ok.glob];exact I.mod.glob.keeps I.bk) hm h) hd
theorem HH {E:Value->Shared->Prop} {pins:List (Addr×Obj)} {s:Shared} {σ:St} {H:Hp} {x:Str} {u:Value} {pos:Pos} {Q:Value->Shared->Prop} (I:Inv X pins σ H s) (hg:Gl X x) (hm:X.mg x=none) (hv:bootBuiltins x=some u) (h:Q u s)
  (hn:x≠"__name__":=by decide) (hd:(x == ("__debug__":Str))=false:=by decide):wpAny (model X.prog X.w) X.A (eval (.Name x pos) X.env) Q E s:=by
 obtain⟨mb,h1,h2⟩:=I.mod.blt;exact gw I.ok.kind hg (Calls.loadGlobal_builtin (by rw[I.ok.glob];exact I.mod.glob.keeps I.bk) hm (by rw[I.ok.blt];exact h1.keeps I.bk) ((h2 x hn).trans hv) h) hd
theorem NO {x:Str}{v:V}{u:Value}{pos:Pos}(hg:Gl X x)(hm:X.mg x=some u)(r:RelV v u)(hd:(x == ("__debug__":Str))=false:=by decide):PE X (.Name x pos) (tC v):=
 λ_ _ _ H _ I h=>IR I hg hm ⟨v,H,I,r,h⟩ hd
theorem Sq {x:Str}{v:V}{u:Value}{pos:Pos}(hg:Gl X x)(hm:X.mg x=none)(hv:bootBuiltins x=some u)(r:RelV v u)(hn:x≠"__name__":=by decide)(hd:(x == ("__debug__":Str))=false:=by decide):PE X (.Name x pos) (tC v):=
 λ_ _ _ H _ I h=>HH I hg hm hv ⟨v,H,I,r,h⟩ hn hd
variable {a b:Expr}{ta tb:TE}{pos:Pos}
def PC (X:Cx)(op:CmpOp)(a b:Expr)(t:TE):Prop:=
 ∀(pins:List (Addr×Obj)) (s:Shared) (σ:St) (H:Hp) (Q:VK),Inv X pins σ H s->t σ H Q->
  wpAny (model X.prog X.w) X.A (eval a X.env) (λv s₁=>wpAny (model X.prog X.w) X.A (eval b X.env) (λu s₂=>wpAny (model X.prog X.w) X.A (compareOp op v u) (EP X pins σ Q) X.xe s₂) X.xe s₁) X.xe s
theorem D9 (b:Expr){op:CmpOp}(h:op≠.In)(h2:op≠.NotIn):behindInMarks op b=false:=by
 have e1:(op == CmpOp.In)=false:=by cases op<;>first|rfl|exact absurd rfl h
 have e2:(op == CmpOp.NotIn)=false:=by cases op<;>first|rfl|exact absurd rfl h2
 cases b<;>simp[behindInMarks,e1,e2]
def U6 (ta:TE):TE:=λσ H Q=>ta σ H λx H1=>Q (.bl (!decide (x=.non))) H1
theorem RelV.none_iff {x:V}{v:Value}(r:RelV x v):(v == Value.none)=decide (x=.non):=by
 cases x with
 |non=>cases r;rfl
 |bl _=>cases r;rfl
 |int _=>obtain⟨t,rfl⟩:=r;rfl
 |str _=>obtain⟨t,rfl⟩:=r;rfl
 |byt _=>obtain⟨t,rfl⟩:=r;rfl
 |flt _=>obtain⟨t,rfl⟩:=r;rfl
 |ref _=>cases r;rfl
 |ty _=>cases r;rfl
theorem RQ {j pos'}(ha:PE X a ta):PC X .IsNot a (.Constant .none j pos') (U6 ta):=by
 intro pins s σ H Q I h;refine Bd (ha pins s σ H _ I h) λv s1 ⟨x,H1,I1,r1,q1⟩=>?_
 exact Constant_none (isnot_none_gen ⟨.bl _,H1,I1,by rw[r1.none_iff];rfl,q1⟩)
def tB (t:TE):TT:=λσ H Q=>t σ H λx H1=>∃c,x=.bl c/\Q c H1
theorem Hz {op:CmpOp}{t:TE}(h:PC X op a b t)(h1:behindInMarks op b=false:=by first|exact D9 _ (by decide) (by decide)|rfl):PT X (.Compare a [op] [b] pos) (tB t):=by
 intro pins s σ H Q I hw;refine wpAny_isTrue_Compare1 (Bd (h pins s σ H _ I hw) λv s1 h1=>Bd h1 λu s2 h2=>Bd h2 λc s3 ⟨x,H1,I1,r1,q1⟩=>?_) h1;obtain⟨d,rfl,q⟩:=q1;cases r1;exact bU ⟨H1,I1,q⟩
theorem FD {e:Expr}{t:TE}(h:PE X e t)(he:∀whole,isTrue e X.env whole=(do let v <-whole;standAt e.pos;holding [v] (truthy v)):=by intro _;rfl):PT X e (tB t):=by
 intro pins s σ H Q I hw;refine isTrue_plain (Bd (h pins s σ H _ I hw) λv s1 ⟨x,H1,I1,r1,q1⟩=>?_) (he _);obtain⟨d,rfl,q⟩:=q1;cases r1;exact bU ⟨H1,I1,q⟩
variable {tA tB':TT}{rest:List Expr}
def UQ (t u:TT):TT:=λσ H Q=>t σ H λc H1=>if c=true then u σ H1 Q else Q false H1
def VZ (t u:TT):TT:=λσ H Q=>t σ H λc H1=>if c=true then Q true H1 else u σ H1 Q
def Vu (t:TT):TT:=λσ H Q=>t σ H λc H1=>Q (!c) H1
theorem EX (ha:PT X a tA):PW X (.BoolOp .And [a] pos) tA:=by
 intro wh pins s σ H Q I h;refine isTrue_and (Bd (ha pins s σ H Q I h) λc s1 e=>?_);cases c with
 |true=>exact isTrue_and_nil e
 |false=>exact e
theorem Jx (ha:PT X a tA):PW X (.BoolOp .Or [a] pos) tA:=by
 intro wh pins s σ H Q I h;refine isTrue_or (Bd (ha pins s σ H Q I h) λc s1 e=>?_);cases c with
 |false=>exact isTrue_or_nil e
 |true=>exact e
theorem FI (ha:PT X a tA)(hb:PW X (.BoolOp .And (b::rest) pos) tB'):PW X (.BoolOp .And (a::b::rest) pos) (UQ tA tB'):=by
 intro wh pins s σ H Q I h;refine isTrue_and (Bd (ha pins s σ H _ I h) λc s1 ⟨H1,I1,q1⟩=>?_);cases c with
 |true=>exact hb wh pins s1 σ H1 Q I1 q1
 |false=>exact⟨H1,I1,q1⟩
theorem L8 (ha:PT X a tA)(hb:PW X (.BoolOp .Or (b::rest) pos) tB'):PW X (.BoolOp .Or (a::b::rest) pos) (VZ tA tB'):=by
 intro wh pins s σ H Q I h;refine isTrue_or (Bd (ha pins s σ H _ I h) λc s1 ⟨H1,I1,q1⟩=>?_);cases c with
 |true=>exact⟨H1,I1,q1⟩
 |false=>exact hb wh pins s1 σ H1 Q I1 q1
theorem GK (ha:PT X a tA):PT X (.UnaryOp .Not a pos) (Vu tA):=by
 intro pins s σ H Q I h;exact isTrue_not (ha pins s σ H (λc H1=>Q (!c) H1) I h)
def SI (ta tb:TE):TE:=λσ H Q=>ta σ H λx H1=>∃c,x=.bl c/\if c=true then tb σ H1 Q else Q (.bl false) H1
def U0 (ta:TE):TE:=λσ H Q=>ta σ H λx H1=>∃c,x=.bl c/\Q (.bl (!c)) H1
theorem Nd {op}{t:TE}(h:PE X a t):PE X (.BoolOp op [a] pos) t:=λpins s σ H Q I hw=>BoolOp_one (h pins s σ H Q I hw)
theorem Nf (ha:PE X a ta)(hb:PE X (.BoolOp .And (b::rest) pos) tb):PE X (.BoolOp .And (a::b::rest) pos) (SI ta tb):=by
 intro pins s σ H Q I h;refine BoolOp_and (Bd (ha pins s σ H _ I h) λv s1 ⟨x,H1,I1,r1,q1⟩=>?_);obtain⟨c,rfl,q1⟩:=q1;cases r1;refine bU ?_;cases c with
 |true=>exact hb pins s1 σ H1 Q I1 q1
 |false=>exact⟨.bl false,H1,I1,rfl,q1⟩
theorem SV (ha:PE X a ta):PE X (.UnaryOp .Not a pos) (U0 ta):=by
 intro pins s σ H Q I h;refine UnaryOp_ (Bd (ha pins s σ H _ I h) λv s1 ⟨x,H1,I1,r1,q1⟩=>?_);obtain⟨c,rfl,q1⟩:=q1;cases r1;exact not_of (bU ⟨.bl (!c),H1,I1,rfl,q1⟩)
def V3 (t:TT)(ta tb:TE):TE:=λσ H Q=>t σ H λc H1=>if c=true then ta σ H1 Q else tb σ H1 Q
theorem Mr {c:Expr}(hc:PT X c tA)(ha:PE X a ta)(hb:PE X b tb):PE X (.IfExp c a b pos) (V3 tA ta tb):=by
 intro pins s σ H Q I h;refine wpAny_IfExp (Bd (hc pins s σ H _ I h) λd s1 ⟨H1,I1,q1⟩=>?_);cases d with
 |true=>exact ha pins s1 σ H1 Q I1 q1
 |false=>exact hb pins s1 σ H1 Q I1 q1
end
def AB (K:PySem.W.Frag)(H:Hp)(a:Addr)(xs:List V):Prop:=
 Rd H a (.lst xs)\/
  ∃(o:Obj) (its:Array Value) (n:Nat),K.lookup a=some o/\o.cls=.type "list"/\o.dict=none/\o.data=.seq its n/\its.size<=sizeLine/\AD xs its.toList
def AG (K:PySem.W.Frag)(H:Hp)(a:Addr)(xs:List V):Prop:=
 Rd H a (.tup xs)\/
  ∃(o:Obj) (its:Array Value) (n:Nat),K.lookup a=some o/\o.cls=.type "tuple"/\o.data=.seq its n/\its.size<=sizeLine/\AD xs its.toList
def VI:Value->Option V
 | .none=>some .non
 | .bool b=>some (.bl b)
 | .int i _=>some (.int i)
 | .str x _=>some (.str x)
 | .bytes b _=>some (.byt b)
 | .float b _=>some (.flt b)
 | .ref a=>some (.ref a)
 | .type n=>some (.ty n)
 |_=>none
theorem RelV.abs {x:V}{u:Value}(r:RelV x u):VI u=some x:=by
 cases x with
 |non=>cases r;rfl
 |bl _=>cases r;rfl
 |int _=>obtain⟨t,rfl⟩:=r;rfl
 |str _=>obtain⟨t,rfl⟩:=r;rfl
 |byt _=>obtain⟨t,rfl⟩:=r;rfl
 |flt _=>obtain⟨t,rfl⟩:=r;rfl
 |ref _=>cases r;rfl
 |ty _=>cases r;rfl
theorem RelV.inj {x y:V}{u:Value}(r:RelV x u)(q:RelV y u):x=y:=aA (r.abs.symm.trans q.abs)
theorem AD.inj:∀{xs ys:List V} {us:List Value},AD xs us->AD ys us->xs=ys
 |_,_,_,.nil,.nil=>rfl
 |_,_,_,.cons r t,.cons r' t'=>by rw[r.inj r',AD.inj t t']
section
variable {X:Cx}{pins:List (Addr×Obj)}{σ:St}{H:Hp}{s:Shared}{a:Addr}{xs ys:List V}
theorem AB.of {K:PySem.W.Frag}(h:H a=some (.lst xs)):AB K H a xs:=.inl (.inl h)
theorem AG.of {K:PySem.W.Frag}(h:H a=some (.tup xs)):AG K H a xs:=.inl (.inl h)
theorem Inv.list (I:Inv X pins σ H s)(h:AB X.K H a xs):∃its:List Value,AD xs its/\PlainL s.heap a its.toArray/\xs.length<=sizeLine:=by
 rcases h with h|⟨o,its,n,hk,hc,hd,hs,hz,r⟩
 ·obtain⟨z,its,n,r,e⟩:=h.ok I.hok;exact⟨its,r,⟨_,n,e,rfl,rfl,rfl⟩,z⟩
 ·refine⟨its.toList,r,⟨o,n,I.kIn a o hk,hc,hd,by simpa using hs⟩,?_⟩;have e:=r.length;simp only[Array.length_toList] at e;omega
theorem Inv.tuple (I:Inv X pins σ H s)(h:AG X.K H a xs):∃its:List Value,AD xs its/\IsTup s.heap a its.toArray/\xs.length<=sizeLine:=by
 rcases h with h|⟨o,its,n,hk,hc,hs,hz,r⟩
 ·obtain⟨z,its,r,p⟩:=h.ok I.hok;exact⟨its,r,p.is,z⟩
 ·refine⟨its.toList,r,⟨o,I.kIn a o hk,hc,n,by simpa using hs⟩,?_⟩;have e:=r.length;simp only[Array.length_toList] at e;omega
theorem Inv.list_inj (I:Inv X pins σ H s)(h:AB X.K H a xs)(h':AB X.K H a ys):xs=ys:=by
 obtain⟨its,r,⟨o,n,e,_,_,d⟩,_⟩:=I.list h;obtain⟨its',r',⟨o',n',e',_,_,d'⟩,_⟩:=I.list h';rw[e] at e';cases e';rw[d] at d';injection d' with d1 _
 have:its=its':=by simpa using congrArg Array.toList d1
 subst this;exact r.inj r'
theorem Inv.tuple_inj (I:Inv X pins σ H s)(h:AG X.K H a xs)(h':AG X.K H a ys):xs=ys:=by
 obtain⟨its,r,⟨o,e,_,n,d⟩,_⟩:=I.tuple h;obtain⟨its',r',⟨o',e',_,n',d'⟩,_⟩:=I.tuple h';rw[e] at e';cases e';rw[d] at d';injection d' with d1 _
 have:its=its':=by simpa using congrArg Array.toList d1
 subst this;exact r.inj r'
end
abbrev Cx.wish (X:Cx)(E:Value->Shared->Prop):Cx:={ X with xe:=E }
abbrev Cx.nox (X:Cx):Cx:=X.wish λ_ _=>False
theorem Cx.Ok.wish {X:Cx}(ok:X.Ok)(E:Value->Shared->Prop):(X.wish E).Ok:=
 ⟨ok.mod,ok.kind,ok.glob,ok.blt,ok.above,ok.inj,ok.has,ok.cab,ok.hd,ok.frames,ok.stk,ok.exf,ok.bs,ok.bsz,ok.noex,ok.exfs,ok.funs,ok.frf⟩
theorem Cx.Ok.unwish {X:Cx}{E:Value->Shared->Prop}(ok:(X.wish E).Ok):X.Ok:=
 ⟨ok.mod,ok.kind,ok.glob,ok.blt,ok.above,ok.inj,ok.has,ok.cab,ok.hd,ok.frames,ok.stk,ok.exf,ok.bs,ok.bsz,ok.noex,ok.exfs,ok.funs,ok.frf⟩
section
variable {X:Cx}{pins:List (Addr×Obj)}{σ:St}{H:Hp}{s:Shared}{E:Value->Shared->Prop}
theorem Inv.wish (I:Inv X pins σ H s)(E:Value->Shared->Prop):Inv (X.wish E) pins σ H s:=⟨I.ok.wish E,I.os,I.bare,I.base,I.loc,I.cell,I.free,I.freeC,I.pin,I.hok,I.len⟩
theorem Inv.unwish (I:Inv (X.wish E) pins σ H s):Inv X pins σ H s:=⟨I.ok.unwish,I.os,I.bare,I.base,I.loc,I.cell,I.free,I.freeC,I.pin,I.hok,I.len⟩
theorem SP.unwish {D:Ends}{f:Flow}{s':Shared}(h:SP (X.wish E) pins D f s'):SP X pins D f s':=by
 cases f with
 |next=>obtain⟨σ',H',I,q⟩:=h;exact⟨σ',H',I.unwish,q⟩
 |brk=>obtain⟨σ',H',I,q⟩:=h;exact⟨σ',H',I.unwish,q⟩
 |cont=>obtain⟨σ',H',I,q⟩:=h;exact⟨σ',H',I.unwish,q⟩
 |ret u=>obtain⟨v,σ',H',I,r,q⟩:=h;exact⟨v,σ',H',I.unwish,r,q⟩
theorem Lr.nox {st:List Stmt}{t:TS}(h:Lr X.nox st t):Lr X st t:=λpins s σ H D I hw=>
 bu (h pins s σ H D (I.wish _) hw) (λ_ _ q=>q.unwish) λ_ _ z=>False.elim z
end
section
variable {X:Cx}{st:Stmt}{rest:List Stmt}{t u:TS}{e:Expr}{te:TE}{pos:Pos}
def Kd:TS:=λD σ H=>D.nx σ H
def RD (t u:TS):TS:=λD σ H=>t { D with nx:=u D } σ H
theorem AX:Lr X [] Kd:=λ_ _ σ H _ I h=>dH ⟨σ,H,I,h⟩
theorem Ag (h1:PS X st t)(h2:Lr X rest u):Lr X (st::rest) (RD t u):=by
 intro pins s σ H D I h;refine fK (Bd (h1 pins s σ H { D with nx:=u D } I h) λf s1 q=>?_);cases f with
 |next=>
  obtain⟨σ',H',I',q⟩:=q;exact h2 pins s1 σ' H' D I' q
 |ret v=>exact q
 |brk=>exact q
 |cont=>exact q
theorem Al (h1:PS X st t):Lr X [st] t:=by
 intro pins s σ H D I h;refine fK (Bd (h1 pins s σ H D I h) λf s1 q=>?_);cases f with
 |next=>exact dH q
 |ret v=>exact q
 |brk=>exact q
 |cont=>exact q
theorem Inv.quiet {pins:List (Addr×Obj)}{σ:St}{H:Hp}{s:Shared}(I:Inv X pins σ H s):interactive X.env=false:=by simp[interactive,I.ok.kind]
def SL (te:TE):TS:=λD σ H=>te σ H λ_ H1=>D.nx σ H1
theorem Bc (he:PE X e te)(hs:swapsWith e none pos.line X.env=pure false:=by rfl):PS X (.Expr e pos) (SL te):=by
 intro pins s σ H D I h;exact wpAny_Expr_any (Bd (he pins s σ H _ I h) λv s1 ⟨x,H1,I1,r1,q1⟩=>⟨σ,H1,I1,q1⟩) I.quiet hs
def TJ (te:TE):TS:=λD σ H=>te σ H D.rt
theorem Av (he:PE X e te):PS X (.Return (some e) pos) (TJ te):=by
 intro pins s σ H D I h;exact wpAny_Return_some (Bd (he pins s σ H _ I h) λv s1 ⟨x,H1,I1,r1,q1⟩=>⟨x,σ,H1,I1,r1,q1⟩)
def TL (c:TT)(t u:TS):TS:=λD σ H=>c σ H λb H1=>if b=true then t D σ H1 else u D σ H1
theorem BQ {c:Expr}{a b:List Stmt}{tc:TT}(hc:PT X c tc)(ha:Lr X a t)(hb:Lr X b u):PS X (.If c a b pos) (TL tc t u):=by
 intro pins s σ H D I h;refine wpAny_If (Bd (hc pins s σ H _ I h) λd s1 ⟨H1,I1,q1⟩=>?_);cases d with
 |true=>exact ha pins s1 σ H1 D I1 q1
 |false=>exact hb pins s1 σ H1 D I1 q1
def Uj:TS:=λ_ _ _=>False
theorem G6:PS X st Uj:=λ_ _ _ _ _ _ h=>h.elim
end
abbrev TG:=V->St->Hp->(St->Hp->Prop)->Prop
abbrev SD:=List V->St->Hp->(St->Hp->Prop)->Prop
def PG (X:Cx)(target:Expr)(t:TG):Prop:=
 ∀(pins:List (Addr×Obj)) (s:Shared) (σ:St) (H:Hp) (v:V) (u:Value) (Q:St->Hp->Prop),Inv X pins σ H s->RelV v u->t v σ H Q->
  wpAny (model X.prog X.w) X.A (assign target X.env u) (λ_ s'=>∃σ' H',Inv X pins σ' H' s'/\Q σ' H') X.xe s
def UW (X:Cx)(ts:List Expr)(t:SD):Prop:=
 ∀(pins:List (Addr×Obj)) (s:Shared) (σ:St) (H:Hp) (vs:List V) (us:List Value) (Q:St->Hp->Prop),Inv X pins σ H s->AD vs us->t vs σ H Q->
  wpAny (model X.prog X.w) X.A (assignInOrder ((assignEach ts X.env).map (·.2)) us) (λ_ s'=>∃σ' H',Inv X pins σ' H' s'/\Q σ' H') X.xe s
abbrev TF:=V->V->V->Hp->(Hp->Prop)->Prop
def Uq (X:Cx)(t:TF):Prop:=
 ∀(pins:List (Addr×Obj)) (s:Shared) (σ:St) (H:Hp) (o i v:V) (ov iv u:Value) (Q:Hp->Prop),Inv X pins σ H s->RelV o ov->RelV i iv->RelV v u->t o i v H Q->
  wpAny (model X.prog X.w) X.A (setItem ov iv u) (λ_ s'=>∃H',Inv X pins σ H' s'/\Q H') X.xe s
section
variable {X:Cx}{pos:Pos}
def Az (i:Nat):TG:=λv σ H Q=>Q (σ.set i (some v)) H
theorem Aq {i:Nat}{x:Str}(hN:X.N.Nodup)(hi:X.N[i]?=some x)(hx:Loc X.env.scope x)(hf:X.fn x=true\/X.env.scope.names.lookup x=some .local:=by first|exact .inl rfl|exact .inr rfl|assumption):PG X (.Name x pos) (Az i):=by
 intro pins s σ H v u Q I r h;exact wpAny_assign_Name (JJ I hN hi hx r (λs' I'=>⟨_,H,I',h⟩) hf)
def RO:SD:=λvs σ H Q=>vs=[]/\Q σ H
def GZ (t:TG)(u:SD):SD:=λvs σ H Q=>∃v r,vs=v::r/\t v σ H λσ' H'=>u r σ' H' Q
theorem Ed:UW X [] RO:=by
 intro pins s σ H vs us Q I r h;obtain⟨e,h⟩:=h;subst e;cases r;exact assignInOrder_nil ⟨σ,H,I,h⟩
theorem AZ {e:Expr} {es:List Expr} {t:TG} {u:SD} (h1:PG X e t) (h2:UW X es u)
  (hs:(assignEach (e::es) X.env).map (·.2)=assign e X.env::(assignEach es X.env).map (·.2):=by rfl):UW X (e::es) (GZ t u):=by
 intro pins s σ H vs us Q I r h;obtain⟨v,vr,e1,h⟩:=h;subst e1;cases r with
 |cons r rr=>
  rw[hs];refine assignInOrder_cons (Bd (h1 pins s σ H _ _ _ I r h) λ_ s1 ⟨σ1,H1,I1,q1⟩=>?_);exact h2 pins s1 σ1 H1 _ _ Q I1 rr q1
def P8 (K:PySem.W.Frag)(n:Nat)(t:SD):TG:=λv σ H Q=>∃a xs,v=.ref a/\AG K H a xs/\xs.length=n/\t xs σ H Q
theorem JA {es:List Expr} {k:Nat} {t:SD} {n:Nat} (hc:X.calm=true) (h:UW X es t)
  (hn:(assignEach es X.env).length=n:=by rfl) (hst:(assignEach es X.env).findIdx? (·.1)=none:=by rfl):PG X (.Tuple es k pos) (P8 X.K n t):=by
 intro pins s σ H v u Q I r hw;obtain⟨a,xs,e1,hq,hl,hw⟩:=hw;subst e1;cases r;obtain⟨its,rv,ht,hz⟩:=I.tuple hq;refine assign_Tuple_tuple (I.ok.hd hc) ht (by simp[hn,<-hl,rv.length]) hst λh' hx=>?_
 have I1:Inv X pins σ H { s with heap:=h' }:=I.kept (t':=s.toks) λb o e=>hx b o (aN (aD e)) e
 exact h pins _ σ H xs _ Q I1 (by simpa using rv) hw
def Vn (to ti:TE)(t:TF):TG:=λv σ H Q=>to σ H λo H1=>ti σ H1 λi H2=>t o i v H2 λH3=>Q σ H3
theorem TM {o i:Expr} {to ti:TE} {t:TF} (ho:PE X o to) (hi:PE X i ti) (hs:Uq X t)
  (ha:∀v,assign (.Subscript o i pos) X.env v=(do
   let ov <-holding [v] (eval o X.env)
   let iv <-holding [v,ov] (eval i X.env)
   standAt pos
   holding [v,ov,iv] (setItem ov iv v)
   release [v,ov,iv] []):=by intro _;rfl):PG X (.Subscript o i pos) (Vn to ti t):=by
 intro pins s σ H v u Q I r h;rw[ha];refine ab (bC (Bd (ho pins s σ H _ I h) λov s1 ⟨x,H1,I1,r1,q1⟩=>?_));refine ab (bC (Bd (hi pins s1 σ H1 _ I1 q1) λiv s2 ⟨y,H2,I2,r2,q2⟩=>?_));refine ab (fg (ab (bC (Bd (hs pins s2 σ H2 x y v ov iv u _ I2 r1 r2 r q2) λ_ s3 ⟨H3,I3,q3⟩=>?_))));exact wpAny_release ⟨σ,H3,I3,q3⟩
def RY (te:TE)(g:TG):TS:=λD σ H=>te σ H λx H1=>g x σ H1 D.nx
theorem PM {tg e:Expr} {te:TE} {g:TG} (he:PE X e te) (hg:PG X tg g) (hs:swapsWithSole [tg] e pos.line X.env=pure false:=by rfl) (hw:swappedStores [tg] e X.env=pure none:=by rfl)
  (h1:(assignEach [tg] X.env).map (·.2)=[assign tg X.env]:=by rfl):PS X (.Assign [tg] e pos) (RY te g):=by
 intro pins s σ H D I h;refine wpAny_Assign_stores (Bd (he pins s σ H _ I h) λv s1 ⟨x,H1,I1,r1,q1⟩=>?_) hs hw;rw[h1];exact Bd (hg pins s1 σ H1 x v _ I1 r1 q1) λ_ s2 q=>q
theorem Au {i:Nat}{x:Str}{e:Expr}{te:TE}{pos':Pos}(hN:X.N.Nodup)(hi:X.N[i]?=some x)(hx:Loc X.env.scope x)(he:PE X e te)(hs:swapsWith e (some (.Name x pos')) pos.line X.env=pure false:=by rfl)(hf:X.fn x=true\/X.env.scope.names.lookup x=some .local:=by first|exact .inl rfl|exact .inr rfl|assumption) :
  PS X (.Assign [.Name x pos'] e pos) (RY te (Az i)):=by
 intro pins s σ H D I h;refine wpAny_Assign_Name (Bd (he pins s σ H _ I h) λv s1 ⟨y,H1,I1,r1,q1⟩=>?_) hs;exact JJ I1 hN hi hx r1 (λs2 I2=>⟨_,H1,I2,q1⟩) hf
end
section
variable {X:Cx}{pos:Pos}
def MM (c:TT)(tb:TS):TS:=λD σ H=>∃W:Nat->St->Hp->Prop,(∃m,W m σ H)/\∀m σ H,W m σ H->
 c σ H λb H1=>if b=true then ∃N:St->Hp->Prop,(∀σ' H',N σ' H'->∃m',m'<m/\W m' σ' H')/\tb { D with nx:=N,ct:=N,bk:=D.nx } σ H1 else D.nx σ H1
theorem Jm {c:Expr}{body:List Stmt}{tc:TT}{tb:TS}(hp:PassesOwn (model X.prog X.w) X.A X.env X.xe)(hc:PT X c tc)(hb:Lr X body tb):PS X (.While c body [] pos) (MM tc tb):=by
 intro pins s σ H D I h;obtain⟨W,⟨m0,w0⟩,turn⟩:=h;refine wpAny_While (codeAny_whileLoop (λn s'=>∃σ' H',Inv X pins σ' H' s'/\W n σ' H') ?_ m0 ⟨σ,H,I,w0⟩)
 rintro n s1 ⟨σ1,H1,I1,w1⟩
 refine cL hp (Bd (hc pins s1 σ1 H1 _ I1 (turn n σ1 H1 w1)) λb s2 ⟨H2,I2,q2⟩=>?_);cases b with
 |true=>
  obtain⟨N,hN,q2⟩:=q2;rw[aE rfl];refine cL hp (Bd (hb pins s2 σ1 H2 _ I2 q2) λf s3 q3=>?_);cases f with
  |next=>
   obtain⟨σ3,H3,I3,n3⟩:=q3;obtain⟨m',hm,w3⟩:=hN σ3 H3 n3;exact⟨m',hm,σ3,H3,I3,w3⟩
  |cont=>
   obtain⟨σ3,H3,I3,n3⟩:=q3;obtain⟨m',hm,w3⟩:=hN σ3 H3 n3;exact⟨m',hm,σ3,H3,I3,w3⟩
  |brk=>exact q3
  |ret v=>exact q3
 |false=>
  rw[aH ay];exact dH ⟨σ1,H2,I2,q2⟩
end
structure It where
 go:Nat->Hp->Prop
 yld:Nat->Hp->V->Hp->Prop
 stop:Nat->Hp->Prop
def JU (X:Cx)(pins:List (Addr×Obj))(H:Hp)(b:Addr):Prop:=
 H b=none/\b≠X.env.locals/\b∉X.fs/\(b∈X.ex\/X.s₀.heap.objs.size<=b)/\(∀x c,X.env.cells.lookup x=some c->c≠b)/\∀p∈X.pn++pins,p.1≠b
theorem Inv.fpOk {X:Cx}{pins:List (Addr×Obj)}{σ:St}{H H':Hp}{s:Shared}{b:Addr}(I:Inv X pins σ H s)(hb:s.heap.objs.size<=b)(hn:H' b=none):JU X pins H' b:=by
 refine⟨hn,cF (aY I.lt hb),I.nofs hb,.inr (bq I.sz hb),λx c e z=>?_,λp hp z=>?_⟩
 ·obtain⟨v,q⟩:=I.cell x c e;exact absurd (aY q.lt (by rw[z];exact hb)) (cQ _)
 ·exact absurd (aY (aD (I.pin p hp).1) (by rw[z];exact hb)) (cQ _)
structure Turn (P:Program) (w:World) (K:PySem.W.Frag) (tg:Expr) (J:It) (fp:List Addr) (it:Addr) (tn:Nat->Heap->Prop):Prop where
 mem:it∈fp
 obj:∀i h,tn i h->∀b∈fp,∃o,h.get? b=some o/\∀v,o.data≠.cell v
 keep:∀i h h',tn i h->(∀b∈fp,∀o,h.get? b=some o->h'.get? b=some o)->tn i h'
 item:∀(X:Cx),X.prog=P->X.w=w->X.K=K->X.calm=true->∀(i:Nat) (pins:List (Addr×Obj)) (s:Shared) (σ:St) (H:Hp) (E:Value->Shared->Prop),Inv X pins σ H s->(∀b∈fp,JU X pins H b)->tn i s.heap->J.go i H->
  wpAny (model P w) X.A (pyNext (.ref it)) (λr s1=>∃u,r=some u/\
   wpAny (model P w) X.A (letOwnedTupleGo tg (.ref it) u) (λ_ s2=>∃x H',Inv X pins σ H' s2/\RelV x u/\J.yld i H x H'/\tn (i+1) s2.heap/\∀b∈fp,H' b=none) E s1) E s
 done:∀(X:Cx),X.prog=P->X.w=w->X.K=K->X.calm=true->∀(i:Nat) (pins:List (Addr×Obj)) (s:Shared) (σ:St) (H:Hp) (E:Value->Shared->Prop),Inv X pins σ H s->(∀b∈fp,JU X pins H b)->tn i s.heap->J.stop i H->
  wpAny (model P w) X.A (pyNext (.ref it)) (λr s1=>r=none/\Inv X pins σ H s1) E s
 self:∀(A:Around) (i:Nat) (s:Shared) (Q:Value->Shared->Prop) (E:Value->Shared->Prop),tn i s.heap->Q (.ref it) s->wpAny (model P w) A (pyIter (.ref it)) Q E s
abbrev TI:=St->Hp->(It->Hp->Prop)->Prop
def VX (X:Cx)(pins:List (Addr×Obj))(σ:St)(tg:Expr)(R:It->Hp->Prop)(itv:Value)(s2:Shared):Prop:=
 ∃(it:Addr) (fp:List Addr) (tn:Nat->Heap->Prop) (J:It) (H':Hp),itv=.ref it/\Inv X pins σ H' s2/\Turn X.prog X.w X.K tg J fp it tn/\tn 0 s2.heap/\(∀b∈fp,JU X pins H' b)/\R J H'
def PI (X:Cx)(tg iter:Expr)(wi:TI):Prop:=
 ∀(pins:List (Addr×Obj)) (s:Shared) (σ:St) (H:Hp) (R:It->Hp->Prop),Inv X pins σ H s->wi σ H R->
  wpAny (model X.prog X.w) X.A (eval iter X.env) (λv s1=>wpAny (model X.prog X.w) X.A (pyIter v) (VX X pins σ tg R) X.xe s1) X.xe s
theorem J3 {M:Model} {A:Around} {E:Value->Shared->Prop} {s:Shared} {tg:Expr} {it:Addr} {u:Value} {o:Obj} {n:String} {vs:Array Value} {Q:Unit->Shared->Prop} (ho:s.heap.get? it=some o) (hc:o.cls=.type n) (hd:o.data=.fields vs)
  (hn:["enumerate","zip","dict_itemiterator","dict_reverseitemiterator","odict_iterator","itertools.zip_longest","itertools.pairwise"].contains n=false) (hQ:Q () s):wpAny M A (letOwnedTupleGo tg (.ref it) u) Q E s:=by
 unfold letOwnedTupleGo;cases tg<;>first
  |exact av hQ
  |(cases u<;>first
    |exact av hQ
    |(refine ab (gf ho ?_)
      rw[hc,hd];show wpAny M A (if(["enumerate","zip","dict_itemiterator","dict_reverseitemiterator","odict_iterator","itertools.zip_longest","itertools.pairwise"].contains n&&vs[0]? == some (rawInt _))=true then _ else _) Q E s;rw[aH (by intro h;rw[hn,Bool.false_and] at h;cases h)];exact av hQ))
def Uo (K:PySem.W.Frag)(a:Addr):It:=
 ⟨λi H=>∃xs x,AB K H a xs/\xs[i]?=some x,λi H x H'=>H'=H/\∀xs,AB K H a xs->xs[i]?=some x,λi H=>∃xs,AB K H a xs/\xs.length<=i⟩
def Um (K:PySem.W.Frag)(a:Addr):It:=
 ⟨λi H=>∃xs x,AG K H a xs/\xs[i]?=some x,λi H x H'=>H'=H/\∀xs,AG K H a xs->xs[i]?=some x,λi H=>∃xs,AG K H a xs/\xs.length<=i⟩
def Q7 (lo:Int)(n:Nat):It:=⟨λi _=>i<n,λi H x H'=>H'=H/\x=.int (lo+i),λi _=>n<=i⟩
theorem OJ {P:Program}{w:World}{K:PySem.W.Frag}{tg:Expr}(a it:Addr):Turn P w K tg (Uo K a) [it] it (λi h=>h.IsListIter it a i) where
 mem:=by simp
 obj:=λi h st b hb=>by
  have e:b=it:=by simpa using hb
  subst e;obtain⟨o,e,c,d⟩:=st;exact⟨o,e,λv z=>by rw[d] at z;cases z⟩
 keep:=λi h h' st k=>st.at λo e=>k it (by simp) o e
 item:=by
  intro X hP hw hK hc i pins s σ H E I hf st hg;subst hP hw hK;obtain⟨xs,x,hq,hx⟩:=hg;obtain⟨its,rv,p,hz⟩:=I.list hq;obtain⟨u,hu,ru⟩:=rv.get hx;obtain⟨f0,f1,f2,f3,f4,f5⟩:=hf it (by simp);refine wpAny_pyNext_list_item st p.isList (x:=u) (by simpa using hu) λh' st' sb=>?_
  have I1:Inv X pins σ H { s with heap:=h' }:=I.turned (t':=s.toks) (λb o hb e=>(sb.2 b hb).trans e) f0 f1 f3 f4 f5;obtain⟨o,e,c,d⟩:=id st';exact⟨u,rfl,J3 (s:={ s with heap:=h' }) e c d (by decide) ⟨x,H,I1,ru,⟨rfl,λys hy=>by rw[I.list_inj hy hq];exact hx⟩,st',λb hb=>(hf b hb).1⟩⟩
 done:=by
  intro X hP hw hK hc i pins s σ H E I hf st hg;subst hP hw hK;obtain⟨xs,hq,hx⟩:=hg;obtain⟨its,rv,p,hz⟩:=I.list hq;obtain⟨f0,f1,f2,f3,f4,f5⟩:=hf it (by simp);have hl:=rv.length;exact wpAny_pyNext_list_end (I.ok.hd hc) st p.isList (by simp;omega) λh' eb=>⟨rfl,I.turned (t':=s.toks) (λb o hb e=>eb b o hb e) f0 f1 f3 f4 f5⟩
 self:=λ_ _ _ _ _ st h=>wpAny_pyIter_listiter st h
theorem NC {P:Program}{w:World}{K:PySem.W.Frag}{tg:Expr}(a it:Addr):Turn P w K tg (Um K a) [it] it (λi h=>h.IsTupleIter it a i) where
 mem:=by simp
 obj:=λi h st b hb=>by
  have e:b=it:=by simpa using hb
  subst e;obtain⟨o,e,c,d⟩:=st;exact⟨o,e,λv z=>by rw[d] at z;cases z⟩
 keep:=λi h h' st k=>st.at λo e=>k it (by simp) o e
 item:=by
  intro X hP hw hK hc i pins s σ H E I hf st hg;subst hP hw hK;obtain⟨xs,x,hq,hx⟩:=hg;obtain⟨its,rv,p,hz⟩:=I.tuple hq;obtain⟨u,hu,ru⟩:=rv.get hx;obtain⟨f0,f1,f2,f3,f4,f5⟩:=hf it (by simp);refine wpAny_pyNext_tuple_item st (show s.heap.IsTuple a its.toArray from p) (x:=u) (by simpa using hu) λh' st' sb=>?_
  have I1:Inv X pins σ H { s with heap:=h' }:=I.turned (t':=s.toks) (λb o hb e=>(sb.2 b hb).trans e) f0 f1 f3 f4 f5;obtain⟨o,e,c,d⟩:=id st';exact⟨u,rfl,J3 (s:={ s with heap:=h' }) e c d (by decide) ⟨x,H,I1,ru,⟨rfl,λys hy=>by rw[I.tuple_inj hy hq];exact hx⟩,st',λb hb=>(hf b hb).1⟩⟩
 done:=by
  intro X hP hw hK hc i pins s σ H E I hf st hg;subst hP hw hK;obtain⟨xs,hq,hx⟩:=hg;obtain⟨its,rv,p,hz⟩:=I.tuple hq;obtain⟨f0,f1,f2,f3,f4,f5⟩:=hf it (by simp);have hl:=rv.length;exact wpAny_pyNext_tuple_end (I.ok.hd hc) st (show s.heap.IsTuple a its.toArray from p) (by simp;omega) λh' eb=>⟨rfl,I.turned (t':=s.toks) (λb o hb e=>eb b o hb e) f0 f1 f3 f4 f5⟩
 self:=λ_ _ _ _ _ st h=>wpAny_pyIter_tupleiter st h
theorem M8 {P:Program}{w:World}{K:PySem.W.Frag}{tg:Expr}(it:Addr)(lo:Int)(n:Nat):Turn P w K tg (Q7 lo n) [it] it (λi h=>IsRangeIter h it (lo+(i:Nat)*1) ((n:Int)-(i:Nat)) 1) where
 mem:=by simp
 obj:=λi h st b hb=>by
  have e:b=it:=by simpa using hb
  subst e;exact⟨_,st,λv z=>by
   have z':Data.fields _=Data.cell v:=z;cases z'⟩
 keep:=λi h h' st k=>k it (by simp) _ st
 item:=by
  intro X hP hw hK hc i pins s σ H E I hf st hg;subst hP hw hK;obtain⟨f0,f1,f2,f3,f4,f5⟩:=hf it (by simp);have W:=Walks.range (prog:=X.prog) (w:=X.w) (I.ok.hd hc) it lo 1 n;refine W.item i s _ _ hg st λv h' tk hv st' kk=>?_
  obtain⟨t,rfl⟩:=hv;have I1:Inv X pins σ H { s with heap:=h',toks:=tk }:=I.turned (λb o hb e=>kk b o (by simpa using hb) e) f0 f1 f3 f4 f5;refine⟨_,rfl,J3 (s:={ s with heap:=h',toks:=tk }) (n:="range_iterator") st' rfl rfl (by decide) ⟨.int (lo+i),H,I1,⟨t,?_⟩,⟨rfl,rfl⟩,st',λb hb=>(hf b hb).1⟩⟩;rw[Int.mul_one]
 done:=by
  intro X hP hw hK hc i pins s σ H E I hf st hg;subst hP hw hK;obtain⟨f0,f1,f2,f3,f4,f5⟩:=hf it (by simp);exact wpAny_pyNext_range_end (I.ok.hd hc) st (by have:n<=i:=hg;omega) λh' eb=>⟨rfl,I.turned (t':=s.toks) (λb o hb e=>eb b o hb e) f0 f1 f3 f4 f5⟩
 self:=λ_ _ _ _ _ st h=>wpAny_pyIter_rangeiter st h
section
variable {X:Cx}{tg:Expr}
def UX (K:PySem.W.Frag)(tl:TE):TI:=λσ H R=>tl σ H λx H1=>∃a,x=.ref a/\(∃xs,AB K H1 a xs)/\R (Uo K a) H1
def Vq (K:PySem.W.Frag)(tl:TE):TI:=λσ H R=>tl σ H λx H1=>∃a,x=.ref a/\(∃xs,AG K H1 a xs)/\R (Um K a) H1
theorem C0 {l:Expr}{tl:TE}(hl:PE X l tl):PI X tg l (UX X.K tl):=by
 intro pins s σ H R I h;refine Bd (hl pins s σ H _ I h) λv s1 ⟨x,H1,I1,r1,q1⟩=>?_
 obtain⟨a,e,⟨xs,hq⟩,q⟩:=q1;subst e;cases r1;obtain⟨its,rv,p,hz⟩:=I1.list hq;refine dv p.isList ?_;refine⟨s1.heap.objs.size,[s1.heap.objs.size],_,_,H1,rfl,I1.kept (t':=s1.toks) λb o e=>af _ e,OJ a _,⟨_,aG _ rfl,rfl,rfl⟩,λb hb=>?_,q⟩;have e:b=s1.heap.objs.size:=by simpa using hb
 subst e;exact I1.fpOk (ak _) (I1.hok.fresh (ak _))
theorem BZ {l:Expr}{tl:TE}(hl:PE X l tl):PI X tg l (Vq X.K tl):=by
 intro pins s σ H R I h;refine Bd (hl pins s σ H _ I h) λv s1 ⟨x,H1,I1,r1,q1⟩=>?_
 obtain⟨a,e,⟨xs,hq⟩,q⟩:=q1;subst e;cases r1;obtain⟨its,rv,p,hz⟩:=I1.tuple hq;refine wpAny_pyIter_tuple (show s1.heap.IsTuple a its.toArray from p) ?_;refine⟨s1.heap.objs.size,[s1.heap.objs.size],_,_,H1,rfl,I1.kept (t':=s1.toks) λb o e=>af _ e,NC a _,⟨_,aG _ rfl,rfl,rfl⟩,λb hb=>?_,q⟩;have e:b=s1.heap.objs.size:=by simpa using hb
 subst e;exact I1.fpOk (ak _) (I1.hok.fresh (ak _))
theorem QV {pins:List (Addr×Obj)} {σ:St} {H:Hp} {s:Shared} {R:It->Hp->Prop} {E:Value->Shared->Prop} {lo hi:Int} {t u v:Tok} {tk:Nat} (I:Inv X pins σ H s) (h1:-(2^62)<=lo) (h2:lo<2^62) (h3:-(2^62)<=hi) (h4:hi<2^62)
  (q:R (Q7 lo (hi-lo).toNat) H):wpAny (model X.prog X.w) X.A (pyIter (.ref s.heap.objs.size)) (VX X pins σ tg R) E { s with heap:=s.heap.push { cls:=.type "range",data:=.fields #[.int lo t,.int hi u,.int 1 v] },toks:=tk }:=by
 refine wpAny_pyIter_range (IsRange.new ..) (small_one h1 h2 h3 h4) ?_;have I1:Inv X pins σ H { s with heap:=s.heap.push { cls:=.type "range",data:=.fields #[.int lo t,.int hi u,.int 1 v] },toks:=tk }:=I.kept λb o e=>af _ e
 refine⟨(s.heap.push { cls:=.type "range",data:=.fields #[.int lo t,.int hi u,.int 1 v] }).objs.size,[(s.heap.push { cls:=.type "range",data:=.fields #[.int lo t,.int hi u,.int 1 v] }).objs.size],_,_,H,rfl,
  I1.kept (t':=tk) λb o e=>af _ e,M8 _ lo (hi-lo).toNat,?_,λb hb=>?_,q⟩
 ·have e1:lo+((0:Nat):Int)*1=lo:=by simp
  have e2:(((hi-lo).toNat:Nat):Int)-((0:Nat):Int)=Builtin.Range.rangeSize lo hi 1:=by rw[rangeSize_one];split<;>omega
  show IsRangeIter _ _ (lo+((0:Nat):Int)*1) ((((hi-lo).toNat:Nat):Int)-((0:Nat):Int)) 1;rw[e1,e2];exact aG _ rfl
 ·have e:b=(s.heap.push { cls:=.type "range",data:=.fields #[.int lo t,.int hi u,.int 1 v] }).objs.size:=by simpa using hb
  subst e;exact I1.fpOk (ak _) (I1.hok.fresh (ak _))
def Uu (ta:TA):TI:=λσ H R=>ta σ H λvs H1=>∃j:Int,vs=[.int j]/\-(2^62)<=j/\j<2^62/\R (Q7 0 j.toNat) H1
theorem Bg {a:Expr}{ta:TA}{p pos:Pos}(hg:Gl X "range")(hm:X.mg "range"=none)(ha:PA X [a] ta)(hs:starEach [a] X.env=[(false,eval a X.env)]:=by rfl):PI X tg (.Call (.Name "range" p) [a] [] pos) (Uu ta):=by
 intro pins s σ H R I h;refine Call_ (HH I hg hm boot_range (fB (Bd (ha pos pins s σ H _ I h) λus s1 ⟨vs,H1,I1,r1,q1⟩=>?_) hs rfl));obtain⟨j,e,q1,q2,q⟩:=q1;subst e;cases r1 with
 |cons r rr=>
  cases rr;obtain⟨t,rfl⟩:=r;exact call_range_1 (QV I1 (by omega) (by omega) q1 q2 (by simpa using q))
def Iw (wi:TI)(g:TG)(tb:TS):TS:=λD σ H=>wi σ H λJ H1=>∃W:Nat->Nat->St->Hp->Prop,(∃m,W 0 m σ H1)/\∀i m σ H,W i m σ H->
 (J.stop i H/\D.nx σ H)\/(J.go i H/\∃N:St->Hp->Prop,(∀σ' H',N σ' H'->∃m',m'<m/\W (i+1) m' σ' H')/\∀x H',J.yld i H x H'->g x σ H' λσ2 H2=>tb { D with nx:=N,ct:=N,bk:=D.nx } σ2 H2)
def I0 (fp:List Addr)(h:Heap):List (Addr×Obj):=fp.filterMap λb=>(h.get? b).map λo=>(b,o)
theorem Fs {fp:List Addr}{h:Heap}{b:Addr}{o:Obj}(hb:b∈fp)(e:h.get? b=some o):(b,o)∈I0 fp h:=List.mem_filterMap.mpr ⟨b,hb,by rw[e];rfl⟩
theorem Ou {fp:List Addr}{h:Heap}{p:Addr×Obj}(hp:p∈I0 fp h):p.1∈fp/\h.get? p.1=some p.2:=by
 obtain⟨b,hb,e⟩:=List.mem_filterMap.mp hp;cases q:h.get? b with
 |none=>rw[q] at e;cases e
 |some o=>
  rw[q] at e;have e':(b,o)=p:=aA e;subst e';exact⟨hb,q⟩
theorem Inv.pinned {pins:List (Addr×Obj)}{σ:St}{H:Hp}{s:Shared}{fp:List Addr}(I:Inv X pins σ H s)(hf:∀b∈fp,JU X pins H b)(ho:∀b∈fp,∃o,s.heap.get? b=some o/\∀v,o.data≠.cell v):Inv X (pins++I0 fp s.heap) σ H s:=
 I.pins_of λp hp=>(au.mp hp).elim (λz=>I.pin p (aC _ z)) λz=>by
  obtain⟨hb,e⟩:=Ou z;obtain⟨f0,f1,f2,_⟩:=hf p.1 hb;obtain⟨o,e',d⟩:=ho p.1 hb;rw[e] at e';cases e';exact⟨e,f0,f1,f2,d⟩
theorem Inv.unpinned {pins pl:List (Addr×Obj)}{σ:St}{H:Hp}{s:Shared}(I:Inv X (pins++pl) σ H s):Inv X pins σ H s:=I.pins_of λp hp=>I.pin p (aC _ (aJ _ hp))
theorem BJ {iter:Expr} {body:List Stmt} {wi:TI} {g:TG} {tb:TS} {pos:Pos} (hp:PassesOwn (model X.prog X.w) X.A X.env X.xe) (hc:X.calm=true) (hi:PI X tg iter wi) (hg:PG X tg g) (hb:Lr X body tb)
  (hs:∀x,foldedSetIterable iter X.env x=pure x:=by intro _;rfl):PS X (.For tg iter body [] pos) (Iw wi g tb):=by
 intro pins s σ H D I h;refine wpAny_For (Bd (hi pins s σ H _ I h) λv s1 h1=>Bd h1 λitv s2 h2=>?_) hs;obtain⟨it,fp,tn,J,H2,e,I2,T,st2,f2,W,⟨m0,w0⟩,turn⟩:=h2;subst e;have stat:∀{H':Hp},(∀b∈fp,H' b=none)->∀b∈fp,JU X pins H' b:=λhn b hb=>⟨hn b hb,(f2 b hb).2⟩
 refine codeAny_forLoop_any (λn s'=>∃i σ' H',Inv X pins σ' H' s'/\tn i s'.heap/\(∀b∈fp,H' b=none)/\W i n σ' H') ?_ m0 ⟨0,σ,H2,I2,st2,λb hb=>(f2 b hb).1,w0⟩
 rintro n s3 ⟨i,σ3,H3,I3,st3,fr3,w3⟩
 rcases turn i n σ3 H3 w3 with⟨stop,qn⟩|⟨go,N,hN,step⟩
 ·refine cL hp (Bd (T.done X rfl rfl rfl hc i pins s3 σ3 H3 X.xe I3 (stat fr3) st3 stop) λr s4 ⟨hr,I4⟩=>?_);subst hr;exact dH ⟨σ3,H3,I4,qn⟩
 ·refine cL hp (Bd (T.item X rfl rfl rfl hc i pins s3 σ3 H3 X.xe I3 (stat fr3) st3 go) λr s4 ⟨u,hr,h4⟩=>?_);subst hr;refine cL hp (Bd h4 λ_ s5 z9=>?_);obtain⟨x,H5,I5,r5,y5,st5,fr5⟩:=z9;have I5':=I5.pinned (stat fr5) (T.obj _ _ st5);refine cL hp (Bd (hg _ s5 σ3 H5 x u _ I5' r5 (step x H5 y5)) λ_ s6 ⟨σ6,H6,I6,q6⟩=>?_);refine cL hp (Bd (hb _ s6 σ6 H6 _ I6 q6) λf s7 q7=>?_);have again:∀{σ7:St} {H7:Hp},Inv X (pins++I0 fp s5.heap) σ7 H7 s7->N σ7 H7->∃m,m<n/\∃i σ' H',Inv X pins σ' H' s7/\tn i s7.heap/\(∀b∈fp,H' b=none)/\W i m σ' H':=λ{σ7 H7} I7 n7=>by
   obtain⟨m',hm,w7⟩:=hN σ7 H7 n7;refine⟨m',hm,i+1,σ7,H7,I7.unpinned,T.keep _ _ _ st5 λb hb o e=>(I7.pin (b,o) (aC _ (aC _ (Fs hb e)))).1,λb hb=>?_,w7⟩;obtain⟨o,e,d⟩:=T.obj _ _ st5 b hb;exact(I7.pin (b,o) (aC _ (aC _ (Fs hb e)))).2.1
  cases f with
  |next=>obtain⟨σ7,H7,I7,n7⟩:=q7;exact again I7 n7
  |cont=>obtain⟨σ7,H7,I7,n7⟩:=q7;exact again I7 n7
  |brk=>obtain⟨σ7,H7,I7,q7⟩:=q7;exact⟨σ7,H7,I7.unpinned,q7⟩
  |ret v=>obtain⟨x7,σ7,H7,I7,r7,q7⟩:=q7;exact⟨x7,σ7,H7,I7.unpinned,r7,q7⟩
end
theorem EF {K:PySem.W.Frag} {a:Addr} {xs:List V} {g:TG} {tb:TS} {D:Ends} {σ:St} {H:Hp} (Pv:Nat->St->Hp->Prop) (h0:Pv 0 σ H) (hl:∀i σ H,i<=xs.length->Pv i σ H->AB K H a xs)
  (hs:∀i x σ H,xs[i]?=some x->Pv i σ H->g x σ H λσ2 H2=>tb { D with nx:=Pv (i+1),ct:=Pv (i+1),bk:=D.nx } σ2 H2) (hd:∀σ H,Pv xs.length σ H->D.nx σ H) :
  ∃W:Nat->Nat->St->Hp->Prop,(∃m,W 0 m σ H)/\∀i m σ H,W i m σ H->
   ((Uo K a).stop i H/\D.nx σ H)\/((Uo K a).go i H/\∃N:St->Hp->Prop,(∀σ' H',N σ' H'->∃m',m'<m/\W (i+1) m' σ' H')/\∀x H',(Uo K a).yld i H x H'->g x σ H' λσ2 H2=>tb { D with nx:=N,ct:=N,bk:=D.nx } σ2 H2):=by
 refine⟨λi m σ H=>m=xs.length-i/\i<=xs.length/\Pv i σ H,⟨xs.length,by simp,bw _,h0⟩,?_⟩
 rintro i m σ H ⟨rfl,hi,p⟩
 have q:=hl i σ H hi p
 by_cases hlt:i<xs.length
 ·refine .inr ⟨⟨xs,xs[i],q,by simp[hlt]⟩,Pv (i+1),λσ' H' p'=>⟨xs.length-(i+1),by omega,rfl,hlt,p'⟩,λx H' y=>?_⟩;obtain⟨e,y⟩:=y;subst e;exact hs i x σ _ (y xs q) p
 ·have e:i=xs.length:=by omega
  subst e;exact .inl ⟨⟨xs,q,ak _⟩,hd σ H p⟩
theorem IS {K:PySem.W.Frag} {a:Addr} {xs:List V} {g:TG} {tb:TS} {D:Ends} {σ:St} {H:Hp} (Pv:Nat->St->Hp->Prop) (h0:Pv 0 σ H) (hl:∀i σ H,i<=xs.length->Pv i σ H->AG K H a xs)
  (hs:∀i x σ H,xs[i]?=some x->Pv i σ H->g x σ H λσ2 H2=>tb { D with nx:=Pv (i+1),ct:=Pv (i+1),bk:=D.nx } σ2 H2) (hd:∀σ H,Pv xs.length σ H->D.nx σ H) :
  ∃W:Nat->Nat->St->Hp->Prop,(∃m,W 0 m σ H)/\∀i m σ H,W i m σ H->
   ((Um K a).stop i H/\D.nx σ H)\/((Um K a).go i H/\∃N:St->Hp->Prop,(∀σ' H',N σ' H'->∃m',m'<m/\W (i+1) m' σ' H')/\∀x H',(Um K a).yld i H x H'->g x σ H' λσ2 H2=>tb { D with nx:=N,ct:=N,bk:=D.nx } σ2 H2):=by
 refine⟨λi m σ H=>m=xs.length-i/\i<=xs.length/\Pv i σ H,⟨xs.length,by simp,bw _,h0⟩,?_⟩
 rintro i m σ H ⟨rfl,hi,p⟩
 have q:=hl i σ H hi p
 by_cases hlt:i<xs.length
 ·refine .inr ⟨⟨xs,xs[i],q,by simp[hlt]⟩,Pv (i+1),λσ' H' p'=>⟨xs.length-(i+1),by omega,rfl,hlt,p'⟩,λx H' y=>?_⟩;obtain⟨e,y⟩:=y;subst e;exact hs i x σ _ (y xs q) p
 ·have e:i=xs.length:=by omega
  subst e;exact .inl ⟨⟨xs,q,ak _⟩,hd σ H p⟩
theorem Cj {lo:Int} {n:Nat} {g:TG} {tb:TS} {D:Ends} {σ:St} {H:Hp} (Pv:Nat->St->Hp->Prop) (h0:Pv 0 σ H)
  (hs:∀i σ H,i<n->Pv i σ H->g (.int (lo+i)) σ H λσ2 H2=>tb { D with nx:=Pv (i+1),ct:=Pv (i+1),bk:=D.nx } σ2 H2) (hd:∀σ H,Pv n σ H->D.nx σ H) :
  ∃W:Nat->Nat->St->Hp->Prop,(∃m,W 0 m σ H)/\∀i m σ H,W i m σ H->
   ((Q7 lo n).stop i H/\D.nx σ H)\/((Q7 lo n).go i H/\∃N:St->Hp->Prop,(∀σ' H',N σ' H'->∃m',m'<m/\W (i+1) m' σ' H')/\∀x H',(Q7 lo n).yld i H x H'->g x σ H' λσ2 H2=>tb { D with nx:=N,ct:=N,bk:=D.nx } σ2 H2):=by
 refine⟨λi m σ H=>m=n-i/\i<=n/\Pv i σ H,⟨n,by simp,bw _,h0⟩,?_⟩
 rintro i m σ H ⟨rfl,hi,p⟩
 by_cases hlt:i<n
 ·refine .inr ⟨hlt,Pv (i+1),λσ' H' p'=>⟨n-(i+1),by omega,rfl,hlt,p'⟩,λx H' y=>?_⟩;obtain⟨e,y⟩:=y;subst e y;exact hs i σ _ hlt p
 ·have e:i=n:=by omega
  subst e;exact .inl ⟨ak _,hd σ H p⟩
abbrev R2:=V->V->Hp->VK->Prop
def Fu (X:Cx)(f:Value->Value->Sem Value)(r:R2):Prop:=
 ∀(pins:List (Addr×Obj)) (s:Shared) (σ:St) (H:Hp) (x y:V) (v u:Value) (Q:VK),Inv X pins σ H s->RelV x v->RelV y u->r x y H Q->
  wpAny (model X.prog X.w) X.A (f v u) (EP X pins σ Q) X.xe s
def Vh (X:Cx)(f:Value->Sem Value)(r:V->Hp->VK->Prop):Prop:=
 ∀(pins:List (Addr×Obj)) (s:Shared) (σ:St) (H:Hp) (x:V) (v:Value) (Q:VK),Inv X pins σ H s->RelV x v->r x H Q->
  wpAny (model X.prog X.w) X.A (f v) (EP X pins σ Q) X.xe s
def Dw (X:Cx)(f:Value)(r:List V->Hp->VK->Prop):Prop:=
 ∀(pins:List (Addr×Obj)) (s:Shared) (σ:St) (H:Hp) (xs:List V) (us:List Value) (Q:VK),Inv X pins σ H s->AD xs us->r xs H Q->
  wpAny (model X.prog X.w) X.A (call f us) (EP X pins σ Q) X.xe s
def U9 (r:R2)(ta tb:TE):TE:=λσ H Q=>ta σ H λx H1=>tb σ H1 λy H2=>r x y H2 Q
def V8 (r:V->Hp->VK->Prop)(ta:TE):TE:=λσ H Q=>ta σ H λx H1=>r x H1 Q
def rI (C:Int->Int->Prop)(g:Int->Int->V):R2:=λx y H Q=>∃i j,x=.int i/\y=.int j/\C i j/\Q (g i j) H
def Sy (g:Int->Int->V):R2:=λx y H Q=>∃i j,x=.int i/\y=.int j/\Q (g i j) H
def rU (g:Int->V):V->Hp->VK->Prop:=λx H Q=>∃i,x=.int i/\Q (g i) H
section
variable {X:Cx}{a b c:Expr}{ta tb tc:TE}{pos:Pos}
theorem Tj (ha:PE X a ta) (hb:PE X b tb) {pins:List (Addr×Obj)} {s:Shared} {σ:St} {H:Hp} {R:V->V->Hp->Prop} (I:Inv X pins σ H s)
  (h:ta σ H λx H1=>tb σ H1 λy H2=>R x y H2) {Q:Value->Shared->Prop} {f:Value->Value->Sem Value}
  (hf:∀v u s2 x y H2,Inv X pins σ H2 s2->RelV x v->RelV y u->R x y H2->wpAny (model X.prog X.w) X.A (f v u) Q X.xe s2) :
  wpAny (model X.prog X.w) X.A (eval a X.env) (λv s₁=>wpAny (model X.prog X.w) X.A (eval b X.env) (λu s₂=>wpAny (model X.prog X.w) X.A (f v u) Q X.xe s₂) X.xe s₁) X.xe s:=by
 refine Bd (ha pins s σ H _ I h) λv s1 ⟨x,H1,I1,r1,q1⟩=>?_
 refine Bd (hb pins s1 σ H1 _ I1 q1) λu s2 ⟨y,H2,I2,r2,q2⟩=>?_
 exact hf v u s2 x y H2 I2 r1 r2 q2
theorem Ao {op:Operator}{r:R2}(ho:Fu X (binaryOp op) r)(ha:PE X a ta)(hb:PE X b tb):PE X (.BinOp a op b pos) (U9 r ta tb):=by
 intro pins s σ H Q I h;exact wpAny_BinOp (Tj ha hb I h λv u s2 x y H2 I2 rx ry q=>ho pins s2 σ H2 x y v u Q I2 rx ry q)
theorem Ur {op:UnaryOp}{r:V->Hp->VK->Prop}(ho:Vh X (unaryOp op) r)(ha:PE X a ta):PE X (.UnaryOp op a pos) (V8 r ta):=by
 intro pins s σ H Q I h;exact UnaryOp_ (Bd (ha pins s σ H _ I h) λv s1 ⟨x,H1,I1,r1,q1⟩=>ho pins s1 σ H1 x v Q I1 r1 q1)
theorem Ve {f:Value->Value->Sem Value} {C:Int->Int->Prop} {g:Int->Int->Int}
  (rule:∀(i j:Int) (t u:Tok) (s:Shared) (Q:Value->Shared->Prop) (E:Value->Shared->Prop),C i j->Q (.int (g i j) s.toks) { s with toks:=s.toks+1 }->wpAny (model X.prog X.w) X.A (f (.int i t) (.int j u)) Q E s) :
  Fu X f (rI C λi j=>.int (g i j)):=by
 intro pins s σ H x y v u Q I rx ry h;obtain⟨i,j,rfl,rfl,hc,q⟩:=h;obtain⟨t,rfl⟩:=rx;obtain⟨t',rfl⟩:=ry;exact rule i j t t' s _ _ hc ⟨.int (g i j),H,I.tok _,⟨_,rfl⟩,q⟩
theorem T9 {f:Value->Value->Sem Value} {g:Int->Int->Int}
  (rule:∀(i j:Int) (t u:Tok) (s:Shared) (Q:Value->Shared->Prop) (E:Value->Shared->Prop),Q (.int (g i j) s.toks) { s with toks:=s.toks+1 }->wpAny (model X.prog X.w) X.A (f (.int i t) (.int j u)) Q E s) :
  Fu X f (Sy λi j=>.int (g i j)):=by
 intro pins s σ H x y v u Q I rx ry h;obtain⟨i,j,rfl,rfl,q⟩:=h;obtain⟨t,rfl⟩:=rx;obtain⟨t',rfl⟩:=ry;exact rule i j t t' s _ _ ⟨.int (g i j),H,I.tok _,⟨_,rfl⟩,q⟩
theorem Rm {f:Value->Value->Sem Value} {g:Int->Int->Bool}
  (rule:∀(i j:Int) (t u:Tok) (s:Shared) (Q:Value->Shared->Prop) (E:Value->Shared->Prop),Q (.bool (g i j)) s->wpAny (model X.prog X.w) X.A (f (.int i t) (.int j u)) Q E s) :
  Fu X f (Sy λi j=>.bl (g i j)):=by
 intro pins s σ H x y v u Q I rx ry h;obtain⟨i,j,rfl,rfl,q⟩:=h;obtain⟨t,rfl⟩:=rx;obtain⟨t',rfl⟩:=ry;exact rule i j t t' s _ _ ⟨.bl (g i j),H,I,rfl,q⟩
def VA (i j:Int):Prop:=0<j/\j<1073741824
def Vy (i j:Int):Prop:=0<=j/\j<=1000000/\i.natAbs<2^64
def T8 (i j:Int):Prop:=(-(2^64)<i/\i<2^64)\/(-(2^64)<j/\j<2^64)
theorem T8.ok {i j:Int}(h:T8 i j):IntMulOk i j:=by
 rcases h with⟨h1,h2⟩|⟨h1,h2⟩
 ·exact .of_left (intBits_le_64 h1 h2)
 ·exact .of_right (intBits_le_64 h1 h2)
theorem AF:Fu X (binaryOp .Add) (Sy λi j=>.int (i+j)):=T9 λ_ _ _ _ _ _ _ q=>add_int q
theorem Tb:Fu X (binaryOp .Sub) (Sy λi j=>.int (i-j)):=T9 λ_ _ _ _ _ _ _ q=>sub_int q
theorem BI:Fu X (binaryOp .Mult) (rI T8 λi j=>.int (i*j)):=Ve λ_ _ _ _ _ _ _ hc q=>mul_int q hc.ok
theorem K5:Fu X (binaryOp .FloorDiv) (rI VA λi j=>.int (i/j)):=Ve λi j _ _ _ _ _ hc q=>by
 have h1:(0:Int)<j:=hc.1;have h2:j<1073741824:=hc.2;exact floordiv_int (by omega) (by rw[Int.fdiv_eq_ediv_of_nonneg i (by omega)];exact q) (.inl (PyProof.noPylong_small (by omega)))
theorem AN:Fu X (binaryOp .Mod) (rI (λ_ j=>0<j) λi j=>.int (i%j)):=Ve λi j _ _ _ _ _ hc q=>by
 have h1:(0:Int)<j:=hc;exact mod_int' (by omega) (by rw[Int.fmod_eq_emod_of_nonneg i (by omega)];exact q)
theorem My:Fu X (binaryOp .Pow) (rI Vy λi j=>.int (i^j.toNat)):=Ve λ_ _ _ _ _ _ _ hc q=>pow_int_small hc.1 hc.2.1 hc.2.2 q
theorem Og:Fu X (inplaceOp .Add) (Sy λi j=>.int (i+j)):=T9 λ_ _ _ _ _ _ _ q=>iadd_int q
theorem V6 {f:Value->Sem Value} {g:Int->Int}
  (rule:∀(i:Int) (t:Tok) (s:Shared) (Q:Value->Shared->Prop) (E:Value->Shared->Prop),Q (.int (g i) s.toks) { s with toks:=s.toks+1 }->wpAny (model X.prog X.w) X.A (f (.int i t)) Q E s) :
  Vh X f (rU λi=>.int (g i)):=by
 intro pins s σ H x v Q I rx h;obtain⟨i,rfl,q⟩:=h;obtain⟨t,rfl⟩:=rx;exact rule i t s _ _ ⟨.int (g i),H,I.tok _,⟨_,rfl⟩,q⟩
theorem T4:Vh X (unaryOp .USub) (rU λi=>.int (-i)):=V6 λ_ _ _ _ _ q=>neg_int q
end
def UY:V->V->Bool
 | .non,.non=>true | .non,.int _=>true | .int _,.non=>true | .non,.bl _=>true | .bl _,.non=>true | .non,.str _=>true | .str _,.non=>true
 | .int _,.int _=>true | .bl _,.bl _=>true | .str _,.str _=>true | .byt _,.byt _=>true
 | .int _,.str _=>true | .str _,.int _=>true | .bl _,.str _=>true | .str _,.bl _=>true
 |_,_=>false
def V7:R2:=λx y H Q=>UY x y=true/\Q (.bl (decide (x=y))) H
def V9:R2:=λx y H Q=>UY x y=true/\Q (.bl (!decide (x=y))) H
theorem KZ {i j:Int}:decide (V.int i=V.int j)=(i == j):=by
 rw[cR];simp
theorem Pk {i j:Bool}:decide (V.bl i=V.bl j)=(i == j):=by
 rw[cR];simp
theorem K4 {i j:Str}:decide (V.str i=V.str j)=(i == j):=by
 rw[cR];simp
theorem NR {i j:Array UInt8}:decide (V.byt i=V.byt j)=(i.toList == j.toList):=by
 rw[cR];cases i;cases j;simp
section
variable {X:Cx}{a b c:Expr}{ta tb tc:TE}{pos:Pos}
theorem AY {pins:List (Addr×Obj)}{σ:St}{H:Hp}{s:Shared}{Q:VK}{k k':Bool}(I:Inv X pins σ H s)(q:Q (.bl k) H)(e:k=k'):EP X pins σ Q (.bool k') s:=by
 subst e;exact⟨.bl k,H,I,rfl,q⟩
theorem B9:Fu X (compareOp .Eq) V7:=by
 intro pins s σ H x y v u Q I rx ry h;obtain⟨hs,q⟩:=h;cases x with
 |non=>
  cases rx;cases y with
  |non=>cases ry;exact PySem.EqNone.eq_none_none (AY I q (by simp))
  |bl j=>cases ry;exact PySem.EqNone.eq_none_bool (AY I q (by simp))
  |int j=>obtain⟨t',rfl⟩:=ry;exact PySem.EqNone.eq_none_int (AY I q (by simp))
  |str j=>obtain⟨t',rfl⟩:=ry;exact PySem.EqNone.eq_none_str (AY I q (by simp))
  |_=>exact absurd (show false=true from hs) ay
 |bl i=>
  cases rx;cases y with
  |non=>cases ry;exact PySem.EqNone.eq_bool_none (AY I q (by simp))
  |bl j=>cases ry;exact eq_bool (AY I q Pk)
  |str j=>obtain⟨t',rfl⟩:=ry;exact PySem.EqMixed.eq_bool_str (AY I q (by simp))
  |_=>exact absurd (show false=true from hs) ay
 |int i=>
  obtain⟨t,rfl⟩:=rx;cases y with
  |non=>cases ry;exact PySem.EqNone.eq_int_none (AY I q (by simp))
  |int j=>obtain⟨t',rfl⟩:=ry;exact eq_int (AY I q KZ)
  |str j=>obtain⟨t',rfl⟩:=ry;exact PySem.EqMixed.eq_int_str (AY I q (by simp))
  |_=>exact absurd (show false=true from hs) ay
 |str i=>
  obtain⟨t,rfl⟩:=rx;cases y with
  |non=>cases ry;exact PySem.EqNone.eq_str_none (AY I q (by simp))
  |bl j=>cases ry;exact PySem.EqMixed.eq_str_bool (AY I q (by simp))
  |int j=>obtain⟨t',rfl⟩:=ry;exact PySem.EqMixed.eq_str_int (AY I q (by simp))
  |str j=>obtain⟨t',rfl⟩:=ry;exact eq_str (AY I q K4)
  |_=>exact absurd (show false=true from hs) ay
 |byt i=>
  obtain⟨t,rfl⟩:=rx;cases y with
  |byt j=>obtain⟨t',rfl⟩:=ry;exact PySem.W.eq_bytes (AY I q NR)
  |_=>exact absurd (show false=true from hs) ay
 |_=>cases y<;>exact absurd (show false=true from hs) ay
theorem UC:Fu X (compareOp .NotEq) V9:=by
 intro pins s σ H x y v u Q I rx ry h;obtain⟨hs,q⟩:=h;cases x with
 |non=>
  cases rx;cases y with
  |non=>cases ry;exact PySem.EqNone.ne_none_none (AY I q (by simp))
  |bl j=>cases ry;exact PySem.EqNone.ne_none_bool (AY I q (by simp))
  |int j=>obtain⟨t',rfl⟩:=ry;exact PySem.EqNone.ne_none_int (AY I q (by simp))
  |str j=>obtain⟨t',rfl⟩:=ry;exact PySem.EqNone.ne_none_str (AY I q (by simp))
  |_=>exact absurd (show false=true from hs) ay
 |bl i=>
  cases rx;cases y with
  |non=>cases ry;exact PySem.EqNone.ne_bool_none (AY I q (by simp))
  |bl j=>cases ry;exact ne_bool (AY I q (congrArg not Pk))
  |str j=>obtain⟨t',rfl⟩:=ry;exact PySem.EqMixed.ne_bool_str (AY I q (by simp))
  |_=>exact absurd (show false=true from hs) ay
 |int i=>
  obtain⟨t,rfl⟩:=rx;cases y with
  |non=>cases ry;exact PySem.EqNone.ne_int_none (AY I q (by simp))
  |int j=>obtain⟨t',rfl⟩:=ry;exact ne_int (AY I q (congrArg not KZ))
  |str j=>obtain⟨t',rfl⟩:=ry;exact PySem.EqMixed.ne_int_str (AY I q (by simp))
  |_=>exact absurd (show false=true from hs) ay
 |str i=>
  obtain⟨t,rfl⟩:=rx;cases y with
  |non=>cases ry;exact PySem.EqNone.ne_str_none (AY I q (by simp))
  |bl j=>cases ry;exact PySem.EqMixed.ne_str_bool (AY I q (by simp))
  |int j=>obtain⟨t',rfl⟩:=ry;exact PySem.EqMixed.ne_str_int (AY I q (by simp))
  |str j=>obtain⟨t',rfl⟩:=ry;exact ne_str (AY I q (congrArg not K4))
  |_=>exact absurd (show false=true from hs) ay
 |byt i=>
  obtain⟨t,rfl⟩:=rx;cases y with
  |byt j=>obtain⟨t',rfl⟩:=ry;exact PySem.W.ne_bytes (AY I q (congrArg not NR))
  |_=>exact absurd (show false=true from hs) ay
 |_=>cases y<;>exact absurd (show false=true from hs) ay
theorem PN:Fu X (compareOp .Lt) (Sy λi j=>.bl (decide (i<j))):=Rm λ_ _ _ _ _ _ _ q=>lt_int q
theorem Lu:Fu X (compareOp .LtE) (Sy λi j=>.bl (decide (i<=j))):=Rm λ_ _ _ _ _ _ _ q=>le_int q
theorem QD:Fu X (compareOp .Gt) (Sy λi j=>.bl (decide (j<i))):=Rm λ_ _ _ _ _ _ _ q=>gt_int q
theorem U5:Fu X (compareOp .GtE) (Sy λi j=>.bl (decide (j<=i))):=Rm λ_ _ _ _ _ _ _ q=>ge_int q
theorem Kb:Fu X (compareOp .In) (λx y H Q=>∃i j,x=.str i/\y=.str j/\Q (.bl (!(Builtin.Str.occurrences j i 0 j.length 1).isEmpty)) H):=by
 intro pins s σ H x y v u Q I rx ry h;obtain⟨i,j,rfl,rfl,q⟩:=h;obtain⟨t,rfl⟩:=rx;obtain⟨t',rfl⟩:=ry;exact in_str (AY I q rfl)
theorem AL (b:Expr){op:CmpOp}(h:op≠.In:=by decide)(h2:op≠.NotIn:=by decide):behindInMarks op b=false:=by
 have e1:(op == CmpOp.In)=false:=by cases op<;>first|rfl|exact absurd rfl h
 have e2:(op == CmpOp.NotIn)=false:=by cases op<;>first|rfl|exact absurd rfl h2
 cases b<;>simp[behindInMarks,e1,e2]
theorem Gp {op:CmpOp}{r:R2}(ho:Fu X (compareOp op) r)(ha:PE X a ta)(hb:PE X b tb)(hm:behindInMarks op b=false):PE X (.Compare a [op] [b] pos) (U9 r ta tb):=by
 intro pins s σ H Q I h;exact wpAny_Compare1 (Tj ha hb I h λv u s2 x y H2 I2 rx ry q=>ho pins s2 σ H2 x y v u Q I2 rx ry q) hm
def SN (t:TE):TT:=λσ H Q=>t σ H λx H'=>∃k,x=.bl k/\Q k H'
theorem AC {op:CmpOp}{r:R2}(ho:Fu X (compareOp op) r)(ha:PE X a ta)(hb:PE X b tb)(hm:behindInMarks op b=false):PT X (.Compare a [op] [b] pos) (SN (U9 r ta tb)):=by
 intro pins s σ H Q I h;refine wpAny_isTrue_Compare1 (Bd (ha pins s σ H _ I h) λv s1 ⟨x,H1,I1,r1,q1⟩=>Bd (hb pins s1 σ H1 _ I1 q1) λu s2 ⟨y,H2,I2,r2,q2⟩=>
  Bd (ho pins s2 σ H2 x y v u _ I2 r1 r2 q2) λc s3 ⟨z,H3,I3,r3,k,e,q3⟩=>?_) hm
 subst e;cases r3;exact bU ⟨H3,I3,q3⟩
def QS (r r':R2)(ta tb tc:TE):TE:=λσ H Q=>ta σ H λx H1=>tb σ H1 λy H2=>r x y H2 λz H3=>∃k,z=.bl k/\
 (if k=true then tc σ H3 λw' H4=>r' y w' H4 Q else Q (.bl false) H3)
theorem Qn {op op':CmpOp} {r r':R2} (ho:Fu X (compareOp op) r) (ho':Fu X (compareOp op') r') (ha:PE X a ta) (hb:PE X b tb) (hc:PE X c tc)
  (hm:lastMarks [op,op'] [b,c]=false:=by with_unfolding_all rfl):PE X (.Compare a [op,op'] [b,c] pos) (QS r r' ta tb tc):=by
 intro pins s σ H Q I h;refine Compare_chain (Bd (ha pins s σ H _ I h) λv s1 ⟨x,H1,I1,r1,q1⟩=>chain_link (Bd (hb pins s1 σ H1 _ I1 q1) λu s2 ⟨y,H2,I2,r2,q2⟩=>
  Bd (ho pins s2 σ H2 x y v u _ I2 r1 r2 q2) λd s3 ⟨z,H3,I3,r3,k,e,q3⟩=>?_)) hm
 subst e;cases r3;refine bU ?_;cases k with
 |false=>exact ite_ff ⟨.bl false,H3,I3,rfl,q3⟩
 |true=>exact ite_tt (chain_last (Bd (hc pins s3 σ H3 _ I3 q3) λw' s4 ⟨z',H4,I4,r4,q4⟩=>ho' pins s4 σ H4 y z' u w' Q I4 r2 r4 q4))
theorem Mt {op op':CmpOp} {r r':R2} (ho:Fu X (compareOp op) r) (ho':Fu X (compareOp op') r') (ha:PE X a ta) (hb:PE X b tb) (hc:PE X c tc)
  (hm:lastMarks [op,op'] [b,c]=false:=by with_unfolding_all rfl):PT X (.Compare a [op,op'] [b,c] pos) (SN (QS r r' ta tb tc)):=by
 intro pins s σ H Q I h;refine isTrue_chain (Bd (ha pins s σ H _ I h) λv s1 ⟨x,H1,I1,r1,q1⟩=>test_link (Bd (hb pins s1 σ H1 _ I1 q1) λu s2 ⟨y,H2,I2,r2,q2⟩=>
  Bd (ho pins s2 σ H2 x y v u _ I2 r1 r2 q2) λd s3 ⟨z,H3,I3,r3,k,e,q3⟩=>?_)) hm
 subst e;cases r3;refine bU ?_;cases k with
 |false=>
  obtain⟨k',e',q'⟩:=q3;cases e';exact ite_ff ⟨H3,I3,q'⟩
 |true=>
  refine ite_tt (test_last (Bd (hc pins s3 σ H3 _ I3 q3) λw' s4 ⟨z',H4,I4,r4,q4⟩=>Bd (ho' pins s4 σ H4 y z' u w' _ I4 r2 r4 q4) λd' s5 z9=>?_));obtain⟨z2,H5,I5,r5,k2,e2,q5⟩:=z9;subst e2;cases r5;exact bU ⟨H5,I5,q5⟩
theorem HV:(sizeLine:Nat)<2^63:=by rw[br];decide
theorem GF:Fu X (binaryOp .Add) (λx y H Q=>∃i j,x=.str i/\y=.str j/\i.length+j.length<=sizeLine/\Q (.str (i++j)) H):=by
 intro pins s σ H x y v u Q I rx ry h;obtain⟨i,j,rfl,rfl,hz,q⟩:=h;obtain⟨t,rfl⟩:=rx;obtain⟨t',rfl⟩:=ry;exact add_str (λt' tk=>⟨.str (i++j),H,I.tok _,⟨_,rfl⟩,q⟩) hz
theorem vals1 {x:V}{us:List Value}(r:AD [x] us):∃u,us=[u]/\RelV x u:=by
 cases r with
 |cons r1 r2=>cases r2;exact⟨_,rfl,r1⟩
theorem vals2 {x y:V}{us:List Value}(r:AD [x,y] us):∃u w',us=[u,w']/\RelV x u/\RelV y w':=by
 cases r with
 |cons r1 r2=>
  cases r2 with
  |cons r3 r4=>cases r4;exact⟨_,_,rfl,r1,r3⟩
theorem J9:Dw X (.type "int") (λxs H Q=>(∃i,xs=[.int i]/\Q (.int i) H)\/∃k,xs=[.bl k]/\Q (.int (if k then 1 else 0)) H):=by
 intro pins s σ H xs us Q I r h;rcases h with⟨i,rfl,q⟩|⟨k,rfl,q⟩
 ·obtain⟨u,rfl,t,rfl⟩:=vals1 r;exact call_int_int ⟨.int i,H,I,⟨_,rfl⟩,q⟩
 ·obtain⟨u,rfl,r1⟩:=vals1 r;cases r1;exact call_int_bool ⟨.int (if k then 1 else 0),H,I.tok _,⟨_,rfl⟩,q⟩
end
structure ObjM (h:Heap) (x dx C:Addr) (mA:Str->Option Value):Prop where
 obj:h.get? x=some (PySem.W.instObj C dx)
 ns:h.Ns1 dx mA
 ne:dx≠x
theorem O3 {h:Heap}{dx:Addr}{mA:Str->Option Value}(n:h.Ns1 dx mA):∃od,h.get? dx=some od/\∀name,PySem.W.lookIn name od=some (mA name):=by
 obtain⟨o,es,ep,ho,hd,hk,_,hm⟩:=n;refine⟨o,ho,λname=>?_⟩;have e:=hm name;unfold nsFind findBy at e;rw[<-Array.find?_toList] at e;unfold PySem.W.lookIn;rw[hd];dsimp only
 split
 ·rename_i y q
  rw[q] at e;exact congrArg some e
 ·rename_i q
  rw[q] at e;have a:es.toList.any (·.refKey)=false:=by
   rw[List.any_eq_false];intro y hy;obtain⟨z,t,hkey⟩:=hk y (Array.mem_toList_iff.mp hy);simp[DictEntry.refKey,hkey]
  have a':¬es.toList.any (·.refKey)=true:=by rw[a];exact ay
  rw[aH a'];exact congrArg some e
theorem ObjM.look {h:Heap}{x dx C:Addr}{mA:Str->Option Value}(I:ObjM h x dx C mA):∃od,PySem.W.InstAt h x (PySem.W.instObj C dx) C (some od)/\∀name,PySem.W.lookIn name od=some (mA name):=
 let⟨od,ho,hl⟩:=O3 I.ns
 ⟨od,⟨I.obj,rfl,rfl,ho⟩,hl⟩
section
variable {prog:Program}{w:World}{A:Around}{E:Value->Shared->Prop}{s:Shared}{K:PySem.W.Frag}{x dx C f:Addr}{mA:Str->Option Value}{name:Str}{v:Value}
theorem get_map {expr:Bool} {Q:Value->Shared->Prop} (X:K.In s.heap) (I:ObjM s.heap x dx C mA) (hg:PySem.W.plainGet K C name=true) (hh:PySem.W.hasDictIn K C=true)
  (ha:PySem.W.findIn K (.ref C) name=some none) (hv:mA name=some v) (hv':PySem.W.handedIn v=true) (h:Q v { s with toks:=s.toks+1 }) :
  wpAny (model prog w) A (getAttr (.ref x) name expr) Q E s:=by
 obtain⟨od,J,hl⟩:=I.look;exact PySem.W.get_value X J (eL hg).1 (PySem.W.findObj_own hh ha rfl (by rw[hl,hv])) hv' h
theorem QT {pl:Sem Bool} {Q:Value×List Value->Shared->Prop} (X:K.In s.heap) (I:ObjM s.heap x dx C mA) (hg:PySem.W.plainGet K C name=true)
  (hf:PySem.W.findIn K (.ref C) name=some (some (.ref f))) (ht:PySem.W.isFn K (.ref f)=true) (hv:mA name=none) (h:Q (.ref f,[.ref x]) s) :
  wpAny (model prog w) A (getMethod (.ref x) name pl) Q E s:=by
 obtain⟨od,J,hl⟩:=I.look;exact PySem.W.method_fn X J (eL hg).1 (eL hg).2 hf (cM.mp ht) (by show(PySem.W.lookIn name od).map (·.isSome)=some false;rw[hl,hv];rfl) h
theorem Ro {ns:List Str} {Q:Unit->Shared->Prop} (X:K.In s.heap) (I:ObjM s.heap x dx C mA)
  (hs:PySem.W.findIn K (.ref C) "__setattr__"=some (some (.builtin "object.__setattr__"))) (hp:PySem.W.plainOver K C=true) (ht:PySem.W.takerIn K C name=some none) (hh:PySem.W.hasDictIn K C=true)
  (hw:PySem.Within mA ns) (hsz:ns.length<=sizeLine)
  (h:∀h',ObjM h' x dx C (λy=>if y=name then some v else mA y)->Heap.SameBut dx s.heap h'->Q () { s with heap:=h',toks:=s.toks+2 }) :
  wpAny (model prog w) A (setAttr (.ref x) name v) Q E s:=by
 obtain⟨od,J,hl⟩:=I.look;refine PySem.W.set_plain X J hs (PySem.W.osa_open (s:={ s with toks:=s.toks+1 }) (r:=none) X J hp ht λb=>?_);obtain⟨cd,hc,hd'⟩:=PySem.W.any_some hh;have hx:s.heap.get? x=some ⟨.ref C,some dx,.plain,#[]⟩:=I.obj;refine ab (av (ab (ab (wpAny_loadPart hx (ab (PySem.W.Looks.here (s:={ s with toks:=s.toks+1 }) (PySem.W.looks_clsIn X hc) ?_))))));rw[hd'];refine av (a:=some dx) (ab (av (ab ?_)));refine wpAny_nsSet1 (s:={ s with toks:=s.toks+1 }) I.ns λh' hn2 hs2=>?_
 obtain⟨oD,esD,epD,hoD,hdD,hcD⟩:=hn2.count (PySem.Within.cons name v hw);refine ab (wpAny_lookBehind hoD (by rw[hdD];exact pastItsLine_dict (bq hcD (by rw[bc];omega))) ?_);exact av (h _ ⟨(hs2.2 _ (Ne.symm I.ne)).trans I.obj,hn2,I.ne⟩ hs2)
theorem QK {R:Result->Shared->Prop} {vs:List Value} {kw:List (Str×Value)} (X:K.In s.heap) (hm:PySem.W.makesIn K C=true)
  (hi:PySem.W.findIn K (.ref C) "__init__"=some (some (.ref f))) (hf:PySem.W.typeIn K (.ref f)=some (.type "function"))
  (h:codeAny (model prog w) (A.under (.builtin "type.__call__" ⟨.ref C::vs,kw⟩)) (.call (.ref f) ⟨.ref (s.heap.objs.size+1)::vs,kw⟩) (PySem.W.InitBack (s.heap.objs.size+1) R)
   { s with heap:=(s.heap.push PySem.W.emptyDict).push (PySem.W.instObj C s.heap.objs.size) }) :
  codeAny (model prog w) A (.call (.ref C) ⟨vs,kw⟩) R s:=by
 obtain⟨hh,g,d,t,os⟩:=s;exact PySem.W.make_core (PySem.W.makes_of X hm) (PySem.W.looks_findIn X hi) (λself=>PySem.W.bind_fn X self hf) (.inl rfl) h
end
def Ea (f:Str)(v:V):List (Str×V)->List (Str×V)
 |[]=>[(f,v)]
 |(g,x)::r=>if g=f then(g,v)::r else(g,x)::Ea f v r
theorem Ig (f g:Str)(v:V):∀fs:List (Str×V),(Ea f v fs).lookup g=if g=f then some v else fs.lookup g
 |[]=>by
  show List.lookup g [(f,v)]=_
  by_cases h:g=f
  ·have hb:(g == f)=true:=cM.mpr h;simp only[List.lookup,hb,if_pos h]
  ·have hb:(g == f)=false:=cm.mpr h;simp only[List.lookup,hb,if_neg h]
 |(k,x)::r=>by
  have ih:=Ig f g v r;rw[show Ea f v ((k,x)::r)=(if k=f then(k,v)::r else(k,x)::Ea f v r) from rfl]
  by_cases hk:k=f
  ·rw[aE hk]
   by_cases h:g=k
   ·have hb:(g == k)=true:=cM.mpr h;simp only[List.lookup,hb,if_pos (h.trans hk)]
   ·have hb:(g == k)=false:=cm.mpr h;simp only[List.lookup,hb,if_neg (λe:g=f=>h (e.trans hk.symm))]
  ·rw[aH hk]
   by_cases h:g=k
   ·have hb:(g == k)=true:=cM.mpr h;simp only[List.lookup,hb,if_neg (λe:g=f=>hk (h.symm.trans e))]
   ·have hb:(g == k)=false:=cm.mpr h;simp only[List.lookup,hb];exact ih
theorem HW (f:Str)(v:V):∀fs:List (Str×V),f∈(Ea f v fs).map (·.1)/\∀g,g∈fs.map (·.1)->g∈(Ea f v fs).map (·.1)
 |[]=>⟨by simp[Ea],λg h=>by simp at h⟩
 |(k,x)::r=>by
  obtain⟨i1,i2⟩:=HW f v r;rw[show Ea f v ((k,x)::r)=(if k=f then(k,v)::r else(k,x)::Ea f v r) from rfl]
  by_cases hk:k=f
  ·rw[aE hk];subst hk;exact⟨by simp,λg h=>by simpa using h⟩
  ·rw[aH hk];refine⟨?_,λg h=>?_⟩
   ·rw[aq];exact aM _ i1
   ·rw[aq] at h ⊢;rcases aL.mp h with e|e
    ·exact aL.mpr (.inl e)
    ·exact aM _ (i2 g e)
theorem Iq (f:Str)(v:V):∀fs:List (Str×V),(Ea f v fs).length<=fs.length+1
 |[]=>by simp[Ea]
 |(k,x)::r=>by
  have ih:=Iq f v r;rw[show Ea f v ((k,x)::r)=(if k=f then(k,v)::r else(k,x)::Ea f v r) from rfl]
  by_cases hk:k=f
  ·rw[aE hk,bc,bc];omega
  ·rw[aH hk,bc,bc];omega
theorem EA.some_of {v:V}{o:Option Value}(r:EA (some v) o):∃u,o=some u/\RelV v u:=by
 cases o with
 |none=>exact(show False from r).elim
 |some u=>exact⟨u,rfl,r⟩
theorem EA.none_of {o:Option Value}(r:EA none o):o=none:=by
 cases o with
 |none=>rfl
 |some u=>exact(show False from r).elim
theorem OA {v:V}{u:Value}(r:RelV v u):PySem.W.handedIn u=true:=by
 cases v with
 |non=>cases(show u=Value.none from r);rfl
 |bl b=>cases(show u=Value.bool b from r);rfl
 |int i=>obtain⟨t,e⟩:=(show ∃t,u=Value.int i t from r);cases e;rfl
 |str x=>obtain⟨t,e⟩:=(show ∃t,u=Value.str x t from r);cases e;rfl
 |byt b=>obtain⟨t,e⟩:=(show ∃t,u=Value.bytes b t from r);cases e;rfl
 |flt b=>obtain⟨t,e⟩:=(show ∃t,u=Value.float b t from r);cases e;rfl
 |ref a=>cases(show u=Value.ref a from r);rfl
 |ty n=>cases(show u=Value.type n from r);rfl
section
variable {P:Program}{w:World}{H H':Hp}{h h':Heap}{a C dx:Addr}{fs fs':List (Str×V)}
theorem IQ (hok:Gw P w H h)(e:H a=some (.ins C dx fs)):∃mA,ObjM h a dx C mA/\(∀f,EA (fs.lookup f) (mA f))/\PySem.Within mA (fs.map (·.1))/\fs.length<=1000/\H dx=some (.own a):=by
 obtain⟨d,z,ne,ob,mA,n,r,q⟩:=(show A4 P w H h a (.ins C dx fs) from hok a _ e)
 exact⟨mA,⟨ob,n,ne⟩,r,q,z,d⟩
end
structure HS (K:PySem.W.Frag) (C:Addr):Prop where
 pg:PySem.W.plainGet K C Str.empty=true
 hd:PySem.W.hasDictIn K C=true
 po:PySem.W.plainOver K C=true
 sa:PySem.W.findIn K (.ref C) "__setattr__"=some (some (.builtin "object.__setattr__"))
theorem HS.get {K:PySem.W.Frag}{C:Addr}(c:HS K C)(f:Str):PySem.W.plainGet K C f=true:=c.pg
def BB (K:PySem.W.Frag)(C:Addr)(f:Str):Prop:=PySem.W.findIn K (.ref C) f=some none
theorem BB.taker {K:PySem.W.Frag}{C:Addr}{f:Str}(n:BB K C f):PySem.W.takerIn K C f=some none:=by
 unfold PySem.W.takerIn;rw[show PySem.W.findIn K (.ref C) f=some none from n];rfl
structure Meth (K:PySem.W.Frag) (C:Addr) (m:Str) (f:Addr):Prop where
 at_:PySem.W.findIn K (.ref C) m=some (some (.ref f))
 fn:PySem.W.isFn K (.ref f)=true
 kp:PySem.W.keepIn K (.ref f)=true
section
variable {X:Cx}{pins:List (Addr×Obj)}{σ:St}{H:Hp}{s:Shared}{a C dx:Addr}{fs:List (Str×V)}{f:Str}{v:V}{A:Around}{E:Value->Shared->Prop}
theorem Jk {b:Bool} {Q:Value->Shared->Prop} (I:Inv X pins σ H s) (e:H a=some (.ins C dx fs)) (c:HS X.K C) (n:BB X.K C f) (l:fs.lookup f=some v)
  (h:∀u s',Inv X pins σ H s'->RelV v u->Q u s'):wpAny (model X.prog X.w) A (getAttr (.ref a) f b) Q E s:=by
 obtain⟨mA,O,r,_,_,_⟩:=IQ I.hok e;obtain⟨u,hu,ru⟩:=EA.some_of (v:=v) (o:=mA f) (by rw[<-l];exact r f);exact get_map I.kIn O (c.get f) c.hd n hu (OA ru) (h u _ (I.tok _) ru)
theorem GS {m:Str} {g:Addr} {pl:Sem Bool} {Q:Value×List Value->Shared->Prop} (I:Inv X pins σ H s) (e:H a=some (.ins C dx fs)) (c:HS X.K C) (k:Meth X.K C m g) (l:fs.lookup m=none)
  (h:Q (.ref g,[.ref a]) s):wpAny (model X.prog X.w) A (getMethod (.ref a) m pl) Q E s:=by
 obtain⟨mA,O,r,_,_,_⟩:=IQ I.hok e;have hn:mA m=none:=EA.none_of (by rw[<-l];exact r m);exact QT I.kIn O (c.get m) k.at_ k.fn hn h
theorem Jz {y:V} {u:Value} {Q:Unit->Shared->Prop} (I:Inv X pins σ H s) (e:H a=some (.ins C dx fs)) (c:HS X.K C) (n:BB X.K C f) (hl:fs.length<1000) (ry:RelV y u)
  (h:∀s',Inv X pins σ (upd H a (.ins C dx (Ea f y fs))) s'->Q () s'):wpAny (model X.prog X.w) A (setAttr (.ref a) f u) Q E s:=by
 obtain⟨mA,O,r,wi,_,ho⟩:=IQ I.hok e;have hz:(fs.map (·.1)).length<=sizeLine:=by rw[aa,br];omega
 refine Ro I.kIn O c.sa c.po n.taker c.hd wi hz λh' O' sb=>h _ ?_
 have hd:∃o,h'.get? dx=some o:=let⟨o,_,_,e',_⟩:=O'.ns;⟨o,e'⟩;refine I.write (x:=a) (e:=dx) (by rw[e];exact True.intro) (.inr ho) (λb q hb z=>(sb.2 b hb).trans z) hd ?_;refine⟨by rw[Af O.ne];exact ho,?_,O.ne,O'.obj,_,O'.ns,λg=>?_,λg hg=>?_⟩
 ·have:=Iq f y fs;omega
 ·show EA ((Ea f y fs).lookup g) (if g=f then some u else mA g);rw[Ig]
  by_cases q:g=f
  ·rw[aE q,aE q];exact ry
  ·rw[aH q,aH q];exact r g
 ·by_cases q:g=f
  ·rw[q];exact(HW f y fs).1
  ·refine(HW f y fs).2 g (wi g λz=>hg ?_);show(if g=f then some u else mA g)=none;rw[aH q];exact z
theorem Inv.made (I:Inv X pins σ H s):Inv X pins σ (upd (upd H s.heap.objs.size (.own (s.heap.objs.size+1))) (s.heap.objs.size+1) (.ins C s.heap.objs.size []))
  { s with heap:=(s.heap.push PySem.W.emptyDict).push (PySem.W.instObj C s.heap.objs.size) }:=by
 have e1:(s.heap.push PySem.W.emptyDict).get? s.heap.objs.size=some PySem.W.emptyDict:=aG s.heap rfl;have e2:((s.heap.push PySem.W.emptyDict).push (PySem.W.instObj C s.heap.objs.size)).get? (s.heap.objs.size+1)=some (PySem.W.instObj C s.heap.objs.size):=by
  have:=aG (s.heap.push PySem.W.emptyDict) (o:=PySem.W.instObj C s.heap.objs.size) rfl
  rwa [bP] at this
 have e3:(s.heap.push PySem.W.emptyDict).Ns s.heap.objs.size (λ_=>none):=⟨PySem.W.emptyDict,#[],_,e1,rfl,(λe he=>absurd he (by simp)),λ_=>rfl⟩
 have I1:=I.laid (a:=s.heap.objs.size) (o:=.own (s.heap.objs.size+1)) (h':=s.heap.push PySem.W.emptyDict) (t':=s.toks) (λb u q=>af _ q) (ak _) ⟨_,e1⟩;refine I1.laid (a:=s.heap.objs.size+1) (o:=.ins C s.heap.objs.size []) (t':=s.toks) (λb u q=>af _ q) (cO (bP _ _)) ?_;have ne:s.heap.objs.size≠s.heap.objs.size+1:=aN (cN _);refine⟨by rw[Af ne,Ac],bw _,ne,e2,λ_=>none,(Heap.Ns1.of_empty e3).at λo q=>af _ q,λ_=>True.intro,λy hy=>absurd rfl hy⟩
theorem RS {prog:Program} {w:World} {env:Env} {e:Expr} {f:Str} {pos:Pos} {s:Shared} {Q:Value->Shared->Prop} (hb:attributeBase e f env (eval e env)=eval e env)
  (h:wpAny (model prog w) A (eval e env) (λo s₁=>wpAny (model prog w) A (getAttr o f true) Q E s₁) E s):wpAny (model prog w) A (eval (.Attribute e f pos) env) Q E s:=
 Attribute_any_ h (by rw[arm_eval_Attribute,hb])
end
def Vv (K:PySem.W.Frag)(ta:TE)(f:Str):TE:=λσ H Q=>ta σ H λx H1=>∃a C dx fs v,x=.ref a/\H1 a=some (.ins C dx fs)/\HS K C/\BB K C f/\fs.lookup f=some v/\Q v H1
def Vk (K:PySem.W.Frag)(ta tv:TE)(f:Str):TS:=λD σ H=>tv σ H λy H1=>ta σ H1 λx H2=>∃a C dx fs,x=.ref a/\H2 a=some (.ins C dx fs)/\HS K C/\BB K C f/\fs.length<1000/\
 D.nx σ (upd H2 a (.ins C dx (Ea f y fs)))
def VH (X:Cx)(op:Operator)(rd:V->V->Hp->VK->Prop):Prop:=
 ∀(pins:List (Addr×Obj)) (s:Shared) (σ:St) (H:Hp) (x y:V) (u v:Value) (Q:VK),Inv X pins σ H s->RelV x u->RelV y v->rd x y H Q->wpAny (model X.prog X.w) X.A (inplaceOp op u v) (EP X pins σ Q) X.xe s
def RR (K:PySem.W.Frag)(ta tv:TE)(rd:V->V->Hp->VK->Prop)(f:Str):TS:=λD σ H=>ta σ H λx H1=>∃a C dx fs v,x=.ref a/\H1 a=some (.ins C dx fs)/\HS K C/\BB K C f/\fs.lookup f=some v/\
 tv σ H1 λy H2=>rd v y H2 λz H3=>∃dx' fs',H3 a=some (.ins C dx' fs')/\fs'.length<1000/\D.nx σ (upd H3 a (.ins C dx' (Ea f z fs')))
section
variable {X:Cx}{o e value:Expr}{f:Str}{pos pos' tpos:Pos}{ta tv:TE}
theorem BE (he:PE X e ta)(hb:attributeBase e f X.env (eval e X.env)=eval e X.env):PE X (.Attribute e f pos) (Vv X.K ta f):=by
 intro pins s σ H Q I h;refine RS hb (Bd (he pins s σ H _ I h) λu s1 z9=>?_);obtain⟨x,H1,I1,rx,a,C,dx,fs,v,ex,ea,c,n,l,q⟩:=z9;subst ex;obtain rfl:u=Value.ref a:=rx;exact Jk I1 ea c n l λu' s2 I2 ru=>⟨v,H1,I2,ru,q⟩
theorem Cv (ha:PE X o ta)(hv:PE X value tv)(hs:swapsWith value (some (.Attribute o f pos')) pos.line X.env=pure false):PS X (.Assign [.Attribute o f pos'] value pos) (Vk X.K ta tv f):=by
 intro pins s σ H D I h;refine plainObj_wpAny_Assign_Attribute (Bd (hv pins s σ H _ I h) λu s1 ⟨y,H1,I1,ry,q⟩=>Bd (ha pins s1 σ H1 _ I1 q) λov s2 z9=>?_) hs;obtain⟨x,H2,I2,rx,a,C,dx,fs,ex,ea,c,n,l,q2⟩:=z9;subst ex;obtain rfl:ov=Value.ref a:=rx;exact Jz I2 ea c n l ry λs3 I3=>⟨σ,_,I3,q2⟩
theorem Km {op:Operator}{rd:V->V->Hp->VK->Prop}(ha:PE X o ta)(hv:PE X value tv)(hop:VH X op rd):PS X (.AugAssign (.Attribute o f tpos) op value pos) (RR X.K ta tv rd f):=by
 intro pins s σ H D I h;refine wpAny_AugAssign_AttributeAny (Bd (ha pins s σ H _ I h) λov s1 z9=>?_);obtain⟨x,H1,I1,rx,a,C,dx,fs,v,ex,ea,c,n,l,q⟩:=z9;subst ex;obtain rfl:ov=Value.ref a:=rx;refine Jk I1 ea c n l λu s2 I2 ru=>Bd (hv pins s2 σ H1 _ I2 q) λw3 s3 ⟨y,H2,I3,ry,q3⟩=>Bd (hop pins s3 σ H2 v y u w3 _ I3 ru ry q3) λw4 s4 z9=>?_
 obtain⟨z,H3,I4,rz,dx',fs',ea',l',q4⟩:=z9;exact Jz I4 ea' c n l' rz λs5 I5=>⟨σ,_,I5,q4⟩
theorem SK {pl:Sem Bool} {m:Str} {apos:Pos} {args:List Expr} {pins:List (Addr×Obj)} {s:Shared} {σ:St} {H:Hp} {Q:Value->Shared->Prop} {te:TE} (he:PE X e te) (I:Inv X pins σ H s)
  (h:te σ H λx H1=>∃a C dx fs g,x=.ref a/\H1 a=some (.ins C dx fs)/\HS X.K C/\Meth X.K C m g/\fs.lookup m=none/\
   ∀s1,Inv X pins σ H1 s1->wpAny (model X.prog X.w) X.A (callWith pos (.ref g) [.ref a] (backTo pos (starEach args X.env)) (backToKw pos (keywordEach [] X.env))) Q X.xe s1)
  (ht:eval (.Call (.Attribute e m apos) args [] pos) X.env=(do
   let ov <-eval e X.env
   standAt apos.atName
   let(f,first) <-holding [ov] (getMethod ov m pl)
   callWith pos f first (backTo pos (starEach args X.env)) (backToKw pos (keywordEach [] X.env)))) :
  wpAny (model X.prog X.w) X.A (eval (.Call (.Attribute e m apos) args [] pos) X.env) Q X.xe s:=by
 refine eC (pl:=pl) (Bd (he pins s σ H _ I h) λu s1 z9=>?_) ht;obtain⟨x,H1,I1,rx,a,C,dx,fs,g,ex,ea,c,k,l,q⟩:=z9;subst ex;obtain rfl:u=Value.ref a:=rx;exact GS I1 ea c k l (q s1 I1)
end
section
variable {X:Cx}{pins:List (Addr×Obj)}{σ:St}{H:Hp}{s:Shared}{A:Around}{E:Value->Shared->Prop}{Q:Value->Shared->Prop}{c:Value}{b:Bool}
inductive TyOf (K:PySem.W.Frag) (H:Hp):V->Value->Prop where
 |non:TyOf K H .non (.type "NoneType")
 |bl (x:Bool):TyOf K H (.bl x) (.type "bool")
 |int (i:Int):TyOf K H (.int i) (.type "int")
 |str (x:Str):TyOf K H (.str x) (.type "str")
 |flt (x:UInt64):TyOf K H (.flt x) (.type "float")
 |lst {a:Addr} {xs:List V} (e:H a=some (.lst xs)):TyOf K H (.ref a) (.type "list")
 |frz {a:Addr} {o:Obj} {xs:List V} (e:H a=some (.frz o (.lst xs))):TyOf K H (.ref a) (.type "list")
 |tup {a:Addr} {xs:List V} (e:H a=some (.tup xs)):TyOf K H (.ref a) (.type "tuple")
 |dK {a:Addr} {kvs:List (Key×V)} (e:H a=some (.dK kvs)):TyOf K H (.ref a) (.type "dict")
 |dT {a:Addr} {kvs:List (List Key×V)} (e:H a=some (.dT kvs)):TyOf K H (.ref a) (.type "dict")
 |ins {a C dx:Addr} {fs:List (Str×V)} (e:H a=some (.ins C dx fs)) (cl:HS K C) (ha:PySem.W.findIn K (.ref C) "__class__"=some (some (.builtin "object.__class__")))
   (hn:PySem.W.specialIn K (.builtin "object.__class__") "__get__"=some (some (.builtin "getset_descriptor.__get__"))) (htk:PySem.W.takesIn K (.builtin "object.__class__")=some true)
   (hm:PySem.W.mroIn K C (.type "object")=some true):TyOf K H (.ref a) (.ref C)
theorem O4 {x:V}{u t:Value}(I:Inv X pins σ H s)(rx:RelV x u)(ty:TyOf X.K H x t)(e:PySem.W.kitOne X.K t c=some b)(h:∀tk,Q (.bool b) { s with toks:=tk }) :
  wpAny (model X.prog X.w) A (call (.builtin "isinstance") [u,c]) Q E s:=by
 cases ty with
 |non=>cases(show u=Value.none from rx);exact bT PySem.W.kitx_none I.kIn True.intro e (λz=>nomatch z) h
 |bl y=>cases(show u=Value.bool y from rx);exact bT PySem.W.kitx_bool I.kIn True.intro e (λz=>nomatch z) h
 |int i=>obtain⟨t,q⟩:=(show ∃t,u=Value.int i t from rx);cases q;exact bT PySem.W.kitx_int I.kIn True.intro e (λz=>nomatch z) h
 |str y=>obtain⟨t,q⟩:=(show ∃t,u=Value.str y t from rx);cases q;exact bT PySem.W.kitx_str I.kIn True.intro e (λz=>nomatch z) h
 |flt y=>obtain⟨t,q⟩:=(show ∃t,u=Value.float y t from rx);cases q;exact bT PySem.W.kitx_float I.kIn True.intro e (λz=>nomatch z) h
 |@lst a xs ea=>
  cases(show u=Value.ref a from rx);obtain⟨_,_,n,_,h1⟩:=(show A4 X.prog X.w H s.heap a (.lst xs) from I.hok a _ ea)
  exact bT PySem.W.kitx_list I.kIn ⟨_,h1,rfl⟩ e (λz=>nomatch z) h
 |@frz a ob xs ea=>
  cases(show u=Value.ref a from rx);obtain⟨_,_,_,n,_,h1⟩:=(show A4 X.prog X.w H s.heap a (.frz ob (.lst xs)) from I.hok a _ ea)
  exact bT PySem.W.kitx_list I.kIn ⟨_,h1,rfl⟩ e (λz=>nomatch z) h
 |@tup a xs ea=>
  cases(show u=Value.ref a from rx);obtain⟨_,_,_,p⟩:=(show A4 X.prog X.w H s.heap a (.tup xs) from I.hok a _ ea)
  obtain⟨o,h1,h2,_⟩:=p;exact bT PySem.W.kitx_tuple I.kIn ⟨o,h1,h2⟩ e (λz=>nomatch z) h
 |@dK a kvs ea=>
  cases(show u=Value.ref a from rx);obtain⟨_,_,vs,_,p⟩:=(show A4 X.prog X.w H s.heap a (.dK kvs) from I.hok a _ ea)
  obtain⟨o,es,ep,h1,h2,_⟩:=p;exact bT PySem.W.kitx_dict I.kIn ⟨o,h1,h2.1⟩ e (λz=>nomatch z) h
 |@dT a kvs ea=>
  cases(show u=Value.ref a from rx);obtain⟨_,_,xs,_,o,es,ep,h1,h2,_⟩:=(show A4 X.prog X.w H s.heap a (.dT kvs) from I.hok a _ ea)
  exact bT PySem.W.kitx_dict I.kIn ⟨o,h1,h2.1⟩ e (λz=>nomatch z) h
 |@ins a C dx fs ea cl ha hn htk hm=>
  cases(show u=Value.ref a from rx);obtain⟨mA,O,_⟩:=IQ I.hok ea;obtain⟨od,J,_⟩:=O.look;exact bT (PySem.W.kitx_own (cl.get _) cl.hd ha hn htk hm) I.kIn J e (λz=>nomatch z) h
end
structure Room (k:Nat) (A:Around):Prop where
 hd:A.handled=none
 dp:A.depth+3*k+5<recursionLimit
 un:A.units+16*k+200<cLine
theorem Room.mono {j k:Nat}{A:Around}(r:Room k A)(h:j<=k):Room j A:=⟨r.hd,by have:=r.dp;omega,by have:=r.un;omega⟩
theorem Room.deeper {k:Nat}{A:Around}(r:Room (k+1) A)(env:Env):Room k (A.deeper env):=
 ⟨r.hd,by have:=r.dp;show A.depth+1+3*k+5<_;omega,by have:=r.un;show A.units+3+16*k+200<_;omega⟩
theorem Room.in1 {k:Nat}{A:Around}(r:Room (k+1) A):Room k A.in1:=
 ⟨r.hd,by have:=r.dp;show A.depth+3*k+5<_;omega,by have:=r.un;show A.units+1+16*k+200<_;omega⟩
theorem M1 {A:Around}{C:Addr}{us:List Value}{kw:List (Str×Value)}:(A.under (.builtin "type.__call__" ⟨.ref C::us,kw⟩)).depth=A.depth+1:=by
 first|rfl|simp[Around.under,Code.weight,Code.isCreation,Code.isGuard,Code.isCaller,Code.frames,Code.isFrame,guardIds]
theorem MD {A:Around}{C:Addr}{us:List Value}{kw:List (Str×Value)}:(A.under (.builtin "type.__call__" ⟨.ref C::us,kw⟩)).units=A.units+1:=by
 first|rfl|simp[Around.under,Code.cUnits,Code.frames,Code.isFrame]
theorem Room.make {k:Nat}{A:Around}(r:Room (k+1) A)(C:Addr)(us:List Value)(kw:List (Str×Value)):Room k (A.under (.builtin "type.__call__" ⟨.ref C::us,kw⟩)):=
 ⟨r.hd,by have:=r.dp;rw[M1];omega,by have:=r.un;rw[MD];omega⟩
theorem Room.depth {k:Nat}{A:Around}(r:Room k A):A.depth<recursionLimit:=by have:=r.dp;omega
theorem Room.units {k:Nat}{A:Around}(r:Room k A):A.units+64<cLine:=by have:=r.un;omega
def OG:TA:=λ_ H Q=>Q [] H
def SJ (ta:TE)(tr:TA):TA:=λσ H Q=>ta σ H λx H1=>tr σ H1 λxs H2=>Q (x::xs) H2
section
variable {X:Cx}{e:Expr}{es:List Expr}{te:TE}{t:TA}{pos:Pos}
theorem Ah:PA X [] OG:=λ_ _ _ _ H Q I h=>fG ⟨[],H,I,.nil,h⟩
theorem Ab (ha:PE X e te)(hr:PA X es t)(hs:starEach (e::es) X.env=(false,eval e X.env)::starEach es X.env:=by rfl):PA X (e::es) (SJ te t):=by
 intro pos pins s σ H Q I h;rw[hs];show wpAny _ _ (spliced ((false,eval e X.env)::backTo pos (starEach es X.env))) _ _ s;refine dm (Bd (ha pins s σ H _ I h) λu s1 ⟨x,H1,I1,r1,q1⟩=>?_);exact Bd (hr pos pins s1 σ H1 _ I1 q1) λus s2 ⟨xs,H2,I2,r2,q2⟩=>⟨x::xs,H2,I2,.cons r1 r2,q2⟩
def VL (t:TA):TE:=λσ H Q=>t σ H λxs H1=>xs.length<=sizeLine/\∀p,H1 p=none->Q (.ref p) (upd H1 p (.tup xs))
def VN (t:TA):TE:=λσ H Q=>t σ H λxs H1=>xs.length<=sizeLine/\∀p,H1 p=none->Q (.ref p) (upd H1 p (.lst xs))
theorem Bq {x1}(h:PA X es t):PE X (.Tuple es x1 pos) (VL t):=by
 intro pins s σ H Q I hq;refine wpAny_Tuple_spliced (Bd (h pos pins s σ H _ I hq) λus s1 ⟨xs,H1,I1,r,z,q⟩=>⟨by rw[<-r.length];exact z,?_⟩);have hf:H1 s1.heap.objs.size=none:=I1.hok.fresh (ak _);refine⟨.ref s1.heap.objs.size,upd H1 s1.heap.objs.size (.tup xs),I1.laid (t':=s1.toks) (λb u e=>af _ e) (ak _) ?_,rfl,q _ hf⟩;exact⟨z,us,r,⟨_,aG _ rfl,rfl,_,rfl,λ_=>rfl⟩⟩
theorem A5 (h:PA X es t):PE X (.List es pos) (VN t):=by
 intro pins s σ H Q I hq;refine wpAny_List_spliced (Bd (h pos pins s σ H _ I hq) λus s1 ⟨xs,H1,I1,r,z,q⟩=>⟨by rw[<-r.length];exact z,?_⟩);have hf:H1 s1.heap.objs.size=none:=I1.hok.fresh (ak _);refine⟨.ref s1.heap.objs.size,upd H1 s1.heap.objs.size (.lst xs),I1.laid (t':=s1.toks) (λb u e=>af _ e) (ak _) ?_,rfl,q _ hf⟩;exact⟨z,us,0,r,aG _ rfl⟩
end
abbrev Sp:=List V->Hp->VK->XK->Prop
abbrev Pb:=List Env->Hp->Shared->XK->Value->Shared->Prop
structure Env0 (P:Program) (w:World) (K:PySem.W.Frag) (mg:Str->Option Value) (base:Heap) (A:Around) (outer:List Env) (s:Shared) (H:Hp):Prop where
 frames:A.frames=some outer
 mod:Mod K mg base
 bs:∀b o,base.get? b=some o->s.heap.get? b=some o/\H b=none
 bsz:base.objs.size<=s.heap.objs.size
 funs:s.heap.FunFrames base outer
 frf:∀b∈KP outer,H b=none
 hok:Gw P w H s.heap
 bare:AllBare s.gens
def CE (outer:List Env)(P:Program)(w:World)(H:Hp)(s:Shared)(Q:VK)(u:Value)(s':Shared):Prop:=
 ∃v H',s'.os=s.os/\AllBare s'.gens/\Un (KP outer) [] H H' s.heap s'.heap/\Gw P w H' s'.heap/\RelV v u/\Q v H'
def CR (CX:Pb)(outer:List Env)(P:Program)(w:World)(H:Hp)(s:Shared)(Q:VK)(E:XK)(r:Result)(s':Shared):Prop:=
 match r with
 | .ok (.ret u)=>CE outer P w H s Q u s'
 | .ok _=>False
 | .error e=>CX outer H s E e s'
structure FnOk (P:Program) (w:World) (K:PySem.W.Frag) (mg:Str->Option Value) (base:Heap) (CX:Pb) (k:Nat) (f:Addr) (fd:FuncData) (ps:List Str) (sp:Sp):Prop where
 len:∀vs H Q E,sp vs H Q E->vs.length=ps.length
 run:∀(A:Around) (outer:List Env) (s:Shared) (H:Hp) (args:Args) (us:List Value) (vs:List V) (Q:VK) (E:XK),Room k A->Env0 P w K mg base A outer s H->BindsTo s fd args (ps.zip us)->AD vs us->sp vs H Q E->
  codeAny (model P w) A (.call (.ref f) args) (CR CX outer P w H s Q E) s
theorem FnOk.imp {P:Program} {w:World} {K:PySem.W.Frag} {mg:Str->Option Value} {base:Heap} {CX:Pb} {k:Nat} {f:Addr} {fd:FuncData} {ps:List Str} {sp sp':Sp} (F:FnOk P w K mg base CX k f fd ps sp)
  (h:∀vs H Q E,sp' vs H Q E->sp vs H Q E):FnOk P w K mg base CX k f fd ps sp':=
 ⟨λvs H Q E q=>F.len vs H Q E (h _ _ _ _ q),λA outer s H args us vs Q E hr he hb hv hs=>F.run A outer s H args us vs Q E hr he hb hv (h _ _ _ _ hs)⟩
theorem Env0.make {P:Program}{w:World}{K:PySem.W.Frag}{mg:Str->Option Value}{base:Heap}{A:Around}{outer:List Env}{s:Shared}{H:Hp}(e:Env0 P w K mg base A outer s H)(C:Addr)(us:List Value)(kw:List (Str×Value)) :
  Env0 P w K mg base (A.under (.builtin "type.__call__" ⟨.ref C::us,kw⟩)) outer s H:=⟨by first|exact e.frames|(simpa [Around.under,Code.envs,Code.isFrame,pushEnvs] using e.frames),e.mod,e.bs,e.bsz,e.funs,e.frf,e.hok,e.bare⟩
theorem Env0.in1 {P:Program}{w:World}{K:PySem.W.Frag}{mg:Str->Option Value}{base:Heap}{A:Around}{outer:List Env}{s:Shared}{H:Hp}(e:Env0 P w K mg base A outer s H) :
  Env0 P w K mg base A.in1 outer s H:=⟨e.frames,e.mod,e.bs,e.bsz,e.funs,e.frf,e.hok,e.bare⟩
section
variable {X:Cx}{pins:List (Addr×Obj)}{σ:St}{H:Hp}{s s':Shared}
theorem Inv.env0 (I:Inv X pins σ H s):Env0 X.prog X.w X.K X.mg X.base X.A X.stack s H:=
 ⟨I.ok.frames,I.ok.mod,I.bs,bq I.ok.bsz I.sz,I.stack,I.stkFree,I.hok,I.bare⟩
theorem Inv.after {Q:VK}{u:Value}(I:Inv X pins σ H s)(h:CE X.stack X.prog X.w H s Q u s'):EP X pins σ Q u s':=by
 obtain⟨v,H',os,bare,un,hok,r,q⟩:=h;obtain⟨hh,g,d,t,os'⟩:=s';obtain rfl:os'=s.os:=os;exact⟨v,H',I.call (h':=hh) (g':=g) (d':=d) (t':=t) (ch:=[]) un hok bare (λb z=>absurd z (by simp)),r,q⟩
end
def SO (sp:Sp)(dvs:List V)(E:XK)(t:TA):TE:=λσ H Q=>t σ H λvs H1=>sp (vs++dvs) H1 Q E
def N3 (C:Addr)(m:Str)(sp:Sp)(dvs:List V)(E:XK)(ta:TE)(t:TA):TE:=λσ H Q=>ta σ H λx H1=>∃a dx fs,x=.ref a/\H1 a=some (.ins C dx fs)/\fs.lookup m=none/\
 t σ H1 λvs H2=>sp (x::(vs++dvs)) H2 Q E
def SR (C:Addr)(sp:Sp)(dvs:List V)(E:XK)(t:TA):TE:=λσ H Q=>t σ H λvs H1=>∀x dx,H1 x=none->H1 dx=none->dx≠x->
 sp (.ref x::(vs++dvs)) (upd (upd H1 dx (.own x)) x (.ins C dx [])) (λv H2=>v=.non/\Q (.ref x) H2) E
def Binds (K:PySem.W.Frag)(fd:FuncData)(ps:List Str)(ds:List Value):Prop:=
 ∀(s:Shared) (us:List Value),K.In s.heap->(us++ds).length=ps.length->BindsTo s fd ⟨us,[]⟩ (ps.zip (us++ds))
theorem Binds.all {K:PySem.W.Frag}{fd:FuncData}{ps:List Str}(h:∀us:List Value,us.length=ps.length->bindArgs fd ⟨us,[]⟩=pure (ps.zip us)):Binds K fd ps []:=λs us _ hl=>by
 rw[bZ] at hl ⊢;exact .of_eq (h us hl)
def GA (CX:Pb)(X:Cx)(E:XK):Prop:=∀(pins:List (Addr×Obj)) (σ:St) (H:Hp) (s:Shared) (e:Value) (s':Shared),Inv X pins σ H s->CX X.stack H s E e s'->X.xe e s'
section
variable {X:Cx}{CX:Pb}{k:Nat}{f C:Addr}{fd:FuncData}{ps:List Str}{sp:Sp}{dvs:List V}{ds:List Value}{E:XK}{x m:Str}{p pos apos:Pos}{e o:Expr}{es:List Expr}{ta:TE}{t:TA}
theorem MQ {pins:List (Addr×Obj)} {σ:St} {H:Hp} {s:Shared} {Q:VK} {us:List Value} {vs:List V} (F:FnOk X.prog X.w X.K X.mg X.base CX k f fd ps sp) (hr:Room k X.A) (hb:Binds X.K fd ps ds) (hd:AD dvs ds) (hx:GA CX X E)
  (I:Inv X pins σ H s) (r:AD vs us) (h:sp (vs++dvs) H Q E):wpAny (model X.prog X.w) X.A (call (.ref f) us) (EP X pins σ Q) X.xe s:=by
 have r2:AD (vs++dvs) (us++ds):=r.append hd;have hl:(us++ds).length=ps.length:=by rw[<-r2.length];exact F.len _ _ _ _ h
 refine gh (eK (F.run X.A X.stack s H ⟨us,[]⟩ (us++ds) (vs++dvs) Q E hr I.env0 (hb s us I.kIn hl) r2 h) λr s' hq=>?_);cases r with
 |error e=>exact hx pins σ H s e s' I hq
 |ok fl=>
  cases fl with
  |ret u=>exact I.after hq
  |next=>exact False.elim hq
  |brk=>exact False.elim hq
  |cont=>exact False.elim hq
theorem RT (F:FnOk X.prog X.w X.K X.mg X.base CX k f fd ps sp) (hr:Room k X.A) (hg:Gl X x) (hm:X.mg x=some (.ref f)) (hk:PySem.W.keepIn X.K (.ref f)=true) (hb:Binds X.K fd ps ds) (hd:AD dvs ds) (hx:GA CX X E)
  (ha:PA X (e::es) t) (hdb:(x == ("__debug__":Str))=false:=by decide) (he:starEach (e::es) X.env=(false,eval e X.env)::starEach es X.env:=by rfl) (hpl:(backTo pos (starEach es X.env)).any (·.1)=false:=by rfl) :
  PE X (.Call (.Name x p) (e::es) [] pos) (SO sp dvs E t):=by
 intro pins s σ H Q I h;refine cJ (IR I hg hm ?_ hdb);refine eQ (h₀:=X.base) I.ok.mod.kin hk (Bd (ha pos pins s σ H _ I h) λus s1 ⟨vs,H1,I1,r,q⟩=>⟨I1.kIn,?_⟩) he hpl;exact MQ F hr hb hd hx I1 r q
theorem Sa {pl:Sem Bool} (he:PE X o ta) (c:HS X.K C) (hm:Meth X.K C m f) (F:FnOk X.prog X.w X.K X.mg X.base CX k f fd ps sp) (hr:Room k X.A) (hb:Binds X.K fd ps ds) (hd:AD dvs ds) (hx:GA CX X E) (ha:PA X (e::es) t)
  (hst:starEach (e::es) X.env=(false,eval e X.env)::starEach es X.env:=by rfl) (hpl:(backTo pos (starEach es X.env)).any (·.1)=false:=by rfl)
  (ht:eval (.Call (.Attribute o m apos) (e::es) [] pos) X.env=(do
   let ov <-eval o X.env
   standAt apos.atName
   let(f,first) <-holding [ov] (getMethod ov m pl)
   callWith pos f first (backTo pos (starEach (e::es) X.env)) (backToKw pos (keywordEach [] X.env))):=by rfl) :
  PE X (.Call (.Attribute o m apos) (e::es) [] pos) (N3 C m sp dvs E ta t):=by
 intro pins s σ H Q I h;refine eC (pl:=pl) (Bd (he pins s σ H _ I h) λu s1 z9=>?_) ht;obtain⟨x,H1,I1,rx,a,dx,fs,ex,ea,l,q⟩:=z9;subst ex;obtain rfl:u=Value.ref a:=rx;refine GS I1 ea c hm l ?_;refine eQ (first:=[.ref a]) (h₀:=X.base) I.ok.mod.kin hm.kp (Bd (ha pos pins s1 σ H1 _ I1 q) λus s2 ⟨vs,H2,I2,r,q2⟩=>⟨I2.kIn,?_⟩) hst hpl;exact MQ (us:=.ref a::us) (vs:=.ref a::vs) F hr hb hd hx I2 (.cons rfl r) q2
theorem Q0 {pl:Sem Bool} (he:PE X o ta) (c:HS X.K C) (hm:Meth X.K C m f) (F:FnOk X.prog X.w X.K X.mg X.base CX k f fd ps sp) (hr:Room k X.A) (hb:Binds X.K fd ps ds) (hd:AD dvs ds) (hx:GA CX X E)
  (ht:eval (.Call (.Attribute o m apos) [] [] pos) X.env=(do
   let ov <-eval o X.env
   standAt apos.atName
   let(f,first) <-holding [ov] (getMethod ov m pl)
   callWith pos f first (backTo pos (starEach [] X.env)) (backToKw pos (keywordEach [] X.env))):=by rfl) :
  PE X (.Call (.Attribute o m apos) [] [] pos) (N3 C m sp dvs E ta OG):=by
 intro pins s σ H Q I h;refine eC (pl:=pl) (Bd (he pins s σ H _ I h) λu s1 z9=>?_) ht;obtain⟨x,H1,I1,rx,a,dx,fs,ex,ea,l,q⟩:=z9;subst ex;obtain rfl:u=Value.ref a:=rx;refine GS I1 ea c hm l ?_;exact PySem.W.callWith_K0 (first:=[.ref a]) I1.kIn hm.kp (MQ (us:=[.ref a]) (vs:=[.ref a]) F hr hb hd hx I1 (.cons rfl .nil) q)
structure Mk (K:PySem.W.Frag) (C f:Addr):Prop where
 makes:PySem.W.makesIn K C=true
 init:PySem.W.findIn K (.ref C) "__init__"=some (some (.ref f))
 fn:PySem.W.isFn K (.ref f)=true
 kp:PySem.W.keepIn K (.ref C)=true
theorem Qr {pins:List (Addr×Obj)} {σ:St} {H:Hp} {s:Shared} {Q:VK} {us:List Value} {vs:List V} (M:Mk X.K C f) (F:FnOk X.prog X.w X.K X.mg X.base CX k f fd ps sp) (hr:Room (k+1) X.A) (hb:Binds X.K fd ps ds) (hd:AD dvs ds)
  (hx:GA CX X E) (I:Inv X pins σ H s) (r:AD vs us)
  (h:∀x dx,H x=none->H dx=none->dx≠x->sp (.ref x::(vs++dvs)) (upd (upd H dx (.own x)) x (.ins C dx [])) (λv H2=>v=.non/\Q (.ref x) H2) E) :
  wpAny (model X.prog X.w) X.A (call (.ref C) us) (EP X pins σ Q) X.xe s:=by
 have hq:=h (s.heap.objs.size+1) s.heap.objs.size (I.hok.fresh (fk _)) (I.hok.fresh (ak _)) (aN (cN _));have I2:=Inv.made (C:=C) I;have r2:AD (V.ref (s.heap.objs.size+1)::(vs++dvs)) (Value.ref (s.heap.objs.size+1)::(us++ds)):=.cons rfl (r.append hd);have hl:(Value.ref (s.heap.objs.size+1)::us++ds).length=ps.length:=by
  have e:=r2.length;rw[F.len _ _ _ _ hq] at e;exact e.symm
 refine gh (QK (f:=f) I.kIn M.makes M.init (cM.mp M.fn) (eK (F.run _ X.stack _ _ ⟨Value.ref (s.heap.objs.size+1)::us,[]⟩ (Value.ref (s.heap.objs.size+1)::(us++ds)) _ _ E (hr.make C us [])
  (I2.env0.make C us []) (hb _ (Value.ref (s.heap.objs.size+1)::us) I2.kIn hl) r2 hq) λr s' hq'=>?_))
 cases r with
 |error e=>exact hx pins σ _ _ e s' I2 hq'
 |ok fl=>
  cases fl with
  |ret u=>
   obtain⟨v,H',I3,rv,ev,q3⟩:=I2.after hq';subst ev;exact⟨rv,⟨V.ref (s.heap.objs.size+1),H',I3,rfl,q3⟩⟩
  |next=>exact False.elim hq'
  |brk=>exact False.elim hq'
  |cont=>exact False.elim hq'
theorem R9 (M:Mk X.K C f) (F:FnOk X.prog X.w X.K X.mg X.base CX k f fd ps sp) (hr:Room (k+1) X.A) (hg:Gl X x) (hm:X.mg x=some (.ref C)) (hb:Binds X.K fd ps ds) (hd:AD dvs ds) (hx:GA CX X E)
  (ha:PA X (e::es) t) (hdb:(x == ("__debug__":Str))=false:=by decide) (he:starEach (e::es) X.env=(false,eval e X.env)::starEach es X.env:=by rfl) (hpl:(backTo pos (starEach es X.env)).any (·.1)=false:=by rfl) :
  PE X (.Call (.Name x p) (e::es) [] pos) (SR C sp dvs E t):=by
 intro pins s σ H Q I h;refine cJ (IR I hg hm ?_ hdb);refine eQ (h₀:=X.base) I.ok.mod.kin M.kp (Bd (ha pos pins s σ H _ I h) λus s1 ⟨vs,H1,I1,r,q⟩=>⟨I1.kIn,?_⟩) he hpl;exact Qr M F hr hb hd hx I1 r q
end
structure FnScope (N P:List Str) (sc:Scope):Prop where
 kind:sc.kind=.function
 co:sc.isCoroutine=false
 gen:sc.isGenerator=false
 nd:N.Nodup
 pre:N.take P.length=P
 par:∀x∈P,sc.names.lookup x=some .local\/sc.names.lookup x=some .cell
 nofree:∀y∈sc.names,y.2≠.free
theorem Kp {kindOf:Str->Option NameKind}{x:Str}:∀{binds:List (Str×Value)} {m:Str->Option Value},(∀v,(x,v)∉binds)->bindL kindOf binds m x=m x
 |[],_,_=>rfl
 |(n,v)::r,m,h=>by
  unfold bindL;rw[Kp λw hw=>h w (aM _ hw)]
  split
  ·have:x≠n:=by rintro rfl;exact h v ax
   simp[this]
  ·rfl
theorem J4 {kindOf:Str->Option NameKind}{x:Str}:∀{binds:List (Str×Value)} {m:Str->Option Value},(∀v,(x,v)∉binds)->bindC kindOf binds m x=m x
 |[],_,_=>rfl
 |(n,v)::r,m,h=>by
  unfold bindC;rw[J4 λw hw=>h w (aM _ hw)]
  split
  ·rfl
  ·have:x≠n:=by rintro rfl;exact h v ax
   simp[this]
theorem Ks {kindOf:Str->Option NameKind}{x:Str}{v:Value}:∀{P:List Str} {vs:List Value} {i:Nat} {m:Str->Option Value},P.Nodup->P[i]?=some x->vs[i]?=some v->kindOf x=some .local->
  bindL kindOf (P.zip vs) m x=some v
 |[],_,_,_,_,h,_,_=>by simp at h
 |_::_,[],_,_,_,_,h,_=>by simp at h
 |p::P,w::vs,0,m,nd,h1,h2,hk=>by
  simp at h1 h2;subst h1;subst h2;show bindL kindOf ((p,w)::P.zip vs) m p=_;unfold bindL;rw[Kp λv hv=>(bO.mp nd).1 (eA hv).1,aE hk];simp
 |p::P,w::vs,i+1,m,nd,h1,h2,hk=>by
  show bindL kindOf ((p,w)::P.zip vs) m x=_;unfold bindL;exact Ks (i:=i) (bO.mp nd).2 (by simpa using h1) (by simpa using h2) hk
theorem Ko {kindOf:Str->Option NameKind}{x:Str}{v:Value}:∀{P:List Str} {vs:List Value} {i:Nat} {m:Str->Option Value},P.Nodup->P[i]?=some x->vs[i]?=some v->kindOf x≠some .local->
  bindC kindOf (P.zip vs) m x=some v
 |[],_,_,_,_,h,_,_=>by simp at h
 |_::_,[],_,_,_,_,h,_=>by simp at h
 |p::P,w::vs,0,m,nd,h1,h2,hk=>by
  simp at h1 h2;subst h1;subst h2;show bindC kindOf ((p,w)::P.zip vs) m p=_;unfold bindC;rw[J4 λv hv=>(bO.mp nd).1 (eA hv).1,aH hk];simp
 |p::P,w::vs,i+1,m,nd,h1,h2,hk=>by
  show bindC kindOf ((p,w)::P.zip vs) m x=_;unfold bindC;exact Ko (i:=i) (bO.mp nd).2 (by simpa using h1) (by simpa using h2) hk
def start (N:List Str)(vs:List V):St:=vs.map some++List.replicate (N.length-vs.length) none
def Bw (CX:Pb)(P:Program)(w:World)(K:PySem.W.Frag)(mg:Str->Option Value)(base:Heap)(N:List Str)(qual:Str)(scope:Scope)(f:Addr)(cd:Value)(A:Around)(outer:List Env)(s:Shared)(H:Hp)(E:XK):Cx where
 prog:=P
 w:=w
 K:=K
 mg:=mg
 base:=base
 A:=A.deeper (envOfC qual scope s.heap.objs.size f cd)
 N:=N
 s₀:=s
 H₀:=H
 env:=envOfC qual scope s.heap.objs.size f cd
 outer:=outer
 stack:=envOfC qual scope s.heap.objs.size f cd::outer
 ex:=[]
 calm:=true
 fn:=λ_=>true
 pn:=[]
 xe:=λe s'=>wpAny (model P w) (A.deeper (envOfC qual scope s.heap.objs.size f cd)) (leaving (envOfC qual scope s.heap.objs.size f cd) e) (λ_ s''=>CX outer H s E e s'') (λe' s''=>CX outer H s E e' s'') s'
theorem LZ {sc:Scope}{n:Nat}{x:Str}(h:sc.names.lookup x=some .cell):∃c,(cellsFrom n sc.names []).lookup x=some c:=by
 have q:=fS sc.names n [] (.inl h);exact Option.isSome_iff_exists.mp q
theorem O0 {CX:Pb} {P:Program} {w:World} {K:PySem.W.Frag} {mg:Str->Option Value} {base:Heap} {N ps:List Str} {qual:Str} {scope:Scope} {f:Addr} {cd:Value} {A:Around} {outer:List Env} {s s1:Shared} {H:Hp} {E:XK} {us:List Value} {vs:List V}
  (S:FnScope N ps scope) (hd:A.handled=none) (e0:Env0 P w K mg base A outer s H) (hl:vs.length=ps.length) (r:AD vs us)
  (x:InCallC s s.heap.objs.size (bindL (envOfC qual scope s.heap.objs.size f cd).kindOf (ps.zip us) λ_=>none) (cellsFrom (s.heap.objs.size+1) scope.names []) (bindC (envOfC qual scope s.heap.objs.size f cd).kindOf (ps.zip us) λ_=>none) s1) :
  Inv (Bw CX P w K mg base N qual scope f cd A outer s H E) [] (start N vs) H s1:=by
 have hpl:ps.length<=N.length:=by have:=congrArg List.length S.pre;rw[aP] at this;omega
 obtain⟨h1,tk,rfl,hk⟩:=x.done;have noA:∀b:Addr,b∉(Bw CX P w K mg base N qual scope f cd A outer s H E).ex:=λb z=>absurd (show b∈([]:List Addr) from z) (by simp)
 refine⟨⟨e0.mod,S.kind,rfl,rfl,ak _,λy z c h1 h2=>?_,λy hy=>?_,λy c _ h=>?_,λ_=>hd,Around.frames_deeper e0.frames,.inr ⟨rfl,rfl⟩,λb z=>absurd z (noA b),e0.bs,e0.bsz,λb _ _=>noA b,λb z=>absurd z (noA b),e0.funs,e0.frf⟩,
  rfl,e0.bare,Un.kept hk,⟨_,x.toInCall.ns,λi y v h1 h2 h3=>?_⟩,λy c h=>⟨_,x.cell y c h⟩,e0.hok.fresh (ak _),λy c h=>?_,λp hp=>absurd (show p∈([]:List (Addr×Obj)) from hp) (by simp),e0.hok.kept hk,?_⟩
 ·exact name_of_addr x.apart (bQ h1) (bQ h2)
 ·have hy:scope.names.lookup y=some .cell\/scope.names.lookup y=some .free:=hy;rcases hy with hy|hy
  ·exact LZ hy
  ·exact absurd rfl (S.nofree _ (bQ hy))
 ·exact eW (x.above y c (bQ h))
 ·have hi:i<vs.length:=by
   unfold start at h2
   by_cases hi:i<vs.length
   ·exact hi
   ·rw[bD (by simpa using hi)] at h2;rw[List.getElem?_replicate] at h2
    split at h2<;>cases h2
  have ha:vs[i]?=some v:=by
   unfold start at h2;rw[bF (by simpa using hi),aB] at h2;cases e:vs[i]? with
   |none=>rw[e] at h2;cases h2
   |some a=>rw[e] at h2;cases h2;rfl
  obtain⟨u,hu,rv⟩:=r.get ha;have hp:ps[i]?=some y:=by
   rw[<-S.pre,List.getElem?_take_of_lt (by omega)];exact h1
  have ndP:ps.Nodup:=by rw[<-S.pre];exact S.nd.sublist (cI _ _)
  refine⟨u,rv,?_⟩;rcases S.par y (az hp) with k|k
  ·exact .inl ⟨k,Ks ndP hp hu k⟩
  ·obtain⟨c,e⟩:=LZ (n:=s.heap.objs.size+1) k;refine .inr ⟨.inl k,c,e,?_⟩;have q:=x.cell y c e;rw[Ko ndP hp hu (by show scope.names.lookup y≠_;rw[k];decide)] at q;exact q
 ·exact e0.hok.fresh (eW (x.above y c (bQ h)))
 ·unfold start;show _=N.length;rw[ao,aa,List.length_replicate];omega
theorem SF {CX:Pb} {P:Program} {w:World} {K:PySem.W.Frag} {mg:Str->Option Value} {base:Heap} {k:Nat} {f:Addr} {name qual:Str} {params:Arguments} {body:List Stmt} {scope:Scope} {dV kV doc pm cdv ct oc:Value} {an od:Option Addr}
  {osl:Array (Option Value)} {N ps:List Str} {sp:Sp} (lk:K.lookup f=some ⟨oc,od,.func (PySem.W.fnOf name qual params body scope dV kV doc pm an cdv ct),osl⟩) (hcd:PySem.W.codeIn K cdv qual=true) (S:FnScope N ps scope)
  (len:∀vs H Q E,sp vs H Q E->vs.length=ps.length)
  (hbody:∀(A:Around) (outer:List Env) (s:Shared) (H:Hp) (vs:List V) (Q:VK) (E:XK),Room k (A.deeper (envOfC qual scope s.heap.objs.size f cdv))->sp vs H Q E->
   ∃t,Lr (Bw CX P w K mg base N qual scope f cdv A outer s H E) body t/\t { nx:=λ_ H'=>Q .non H',rt:=Q } (start N vs) H) :
  FnOk P w K mg base CX (k+1) f (PySem.W.fnOf name qual params body scope dV kV doc pm an cdv ct) ps sp:=by
 refine⟨len,λA outer s H args us vs Q E hr e0 hb r hsp=>?_⟩;have hl:=len _ _ _ _ hsp;have KX:K.In s.heap:=e0.mod.kin.keeps λb o e=>(e0.bs b o e).1
 have lim:s.heap.NoLimit:=e0.mod.nolimit.keeps λb o e=>(e0.bs b o e).1
 have hkind:∀y∈ps.zip us,scope.names.lookup y.1=some .local\/(scope.names.lookup y.1=some .cell/\((cellsFrom (s.heap.objs.size+1) scope.names []).lookup y.1).isSome=true):=λ⟨n,v⟩ hy=>by
  rcases S.par n (eA hy).1 with q|q
  ·exact .inl q
  ·exact .inr ⟨q,fS _ _ _ (.inl q)⟩
 refine codeAny_call_function hr.depth (KX _ _ lk) rfl S.co S.gen rfl (PySem.W.codeRec_of KX hcd) (hb _ _ _ _ ?_);refine wpAny_newFunctionEnv_cells S.kind hkind λenv he s1 x=>?_
 subst he;refine⟨lim.keeps x.toInCall.keep,codeAny_func ?_⟩;obtain⟨t,ht,hq⟩:=hbody A outer s H vs Q E (hr.deeper _) hsp;have I:Inv (Bw CX P w K mg base N qual scope f cdv A outer s H E) [] (start N vs) H s1:=O0 S hr.hd e0 hl r x;refine bu (ht [] s1 (start N vs) H _ I hq) (λfl s' hs=>?_) λe s' hs=>hs
 have fin:∀{σ':St} {H':Hp} {v:V} {u:Value},Inv (Bw CX P w K mg base N qual scope f cdv A outer s H E) [] σ' H' s'->RelV v u->Q v H'->CE outer P w H s Q u s':=
  λ{σ' H' v u} J rv q=>⟨v,H',J.os,J.bare,J.base,J.hok,rv,q⟩
 cases fl with
 |ret u=>
  obtain⟨v,σ',H',J,rv,q⟩:=hs;exact fin J rv q
 |next=>
  obtain⟨σ',H',J,q⟩:=hs;exact fin (v:=V.non) (u:=Value.none) J rfl q
 |brk=>
  obtain⟨_,_,_,q⟩:=hs;exact False.elim q
 |cont=>
  obtain⟨_,_,_,q⟩:=hs;exact False.elim q
section
variable {X:Cx}{x:Str}{p pos:Pos}{e:Expr}{es:List Expr}{t:TA}{id T:String}{r:List V->Hp->VK->Prop}
def VS (r:List V->Hp->VK->Prop)(t:TA):TE:=λσ H Q=>t σ H λvs H1=>r vs H1 Q
theorem AA (hc:Dw X (.builtin id) r) (hg:Gl X x) (hm:X.mg x=none) (hv:bootBuiltins x=some (.builtin id)) (ha:PA X (e::es) t) (hn:x≠"__name__":=by decide) (hdb:(x == ("__debug__":Str))=false:=by decide)
  (he:starEach (e::es) X.env=(false,eval e X.env)::starEach es X.env:=by rfl) (hpl:(backTo pos (starEach es X.env)).any (·.1)=false:=by rfl):PE X (.Call (.Name x p) (e::es) [] pos) (VS r t):=by
 intro pins s σ H Q I h;refine cJ (HH I hg hm hv ?_ hn hdb);exact PyProof.Rows.callWith_builtin1 (Bd (ha pos pins s σ H _ I h) λus s1 ⟨vs,H1,I1,r1,q1⟩=>hc pins s1 σ H1 vs us Q I1 r1 q1) he hpl
theorem Bb (hc:Dw X (.type T) r) (hg:Gl X x) (hm:X.mg x=none) (hv:bootBuiltins x=some (.type T)) (ha:PA X (e::es) t) (hn:x≠"__name__":=by decide) (hdb:(x == ("__debug__":Str))=false:=by decide)
  (he:starEach (e::es) X.env=(false,eval e X.env)::starEach es X.env:=by rfl) (hpl:(backTo pos (starEach es X.env)).any (·.1)=false:=by rfl):PE X (.Call (.Name x p) (e::es) [] pos) (VS r t):=by
 intro pins s σ H Q I h;refine cJ (HH I hg hm hv ?_ hn hdb);exact fB (Bd (ha pos pins s σ H _ I h) λus s1 ⟨vs,H1,I1,r1,q1⟩=>hc pins s1 σ H1 vs us Q I1 r1 q1) he hpl
end
end L2
namespace HT
open PySem PyProof.Rows
section
variable {prog:Program}{w:World}{A:Around}{E:Value->Shared->Prop}{s:Shared}
theorem Rr {t b:Addr} {vs ws:List Value} {Q:Value->Shared->Prop} (ht:IsTup s.heap t vs.toArray) (hb:IsTup s.heap b ws.toArray) (hv:vs≠[])
  (h1:ws=[]->Q (.ref t) s) (h2:ws≠[]->Q (.ref s.heap.objs.size) { s with heap:=s.heap.push { cls:=.type "tuple",data:=.seq (vs++ws).toArray } })
  (hsz:vs.length+ws.length<=sizeLine):wpAny (model prog w) A (binaryOp .Add (.ref t) (.ref b)) Q E s:=by
 obtain⟨⟨cls,dd,data,sl⟩,ho,hc,n,hd⟩:=id ht;obtain⟨⟨cls2,dd2,data2,sl2⟩,ho2,hc2,n2,hd2⟩:=id hb;simp only at hc hd hc2 hd2;subst hc hd hc2 hd2;have e:vs.toArray++ws.toArray=(vs++ws).toArray:=by simp
 by_cases hw:ws=[]
 ·exact fE ⟨_,ho,rfl⟩ ⟨_,ho2,rfl⟩ fL gG dZ dU (dN _ _)
   (tuple_addW1 t b vs.toArray ws.toArray n n2 dd dd2 sl sl2 (by simpa using hv) (by simp[hw])) ⟨ho,ho2,h1 hw⟩
 ·refine fE ⟨_,ho,rfl⟩ ⟨_,ho2,rfl⟩ fL gG dZ dU (dN _ _)
   (tuple_addW2 t b vs.toArray ws.toArray n n2 dd dd2 sl sl2 (by simpa using hv) (by simpa using hw) (by rw[aF,aF];exact hsz)) ⟨ho,ho2,?_⟩
  rw[e];exact h2 hw
def Ct (n d:Nat):Option Int->Nat
 |none=>d
 |some v=>if v<0 then(v+(n:Int)).toNat else min v.toNat n
theorem S0 (n d:Nat)(hd:d<=n)(o:Option Int):Ct n d o<=n:=by
 cases o with
 |none=>exact hd
 |some v=>
  show(if v<0 then(v+(n:Int)).toNat else min v.toNat n)<=n
  by_cases hv:v<0
  ·rw[aE hv];omega
  ·rw[aH hv];exact Nat.min_le_right _ _
theorem NV (v:Int)(n d:Nat):(if v<0 then max (v+(n:Int)) 0 else min v (n:Int))=((Ct n d (some v):Nat):Int):=by
 show(if v<0 then max (v+(n:Int)) 0 else min v (n:Int))=(((if v<0 then(v+(n:Int)).toNat else min v.toNat n):Nat):Int)
 by_cases hv:v<0
 ·simp only[if_pos hv];omega
 ·simp only[if_neg hv];omega
theorem Mx (lo hi:Option Int)(n:Nat):Builtin.Slice.sliceAdjust lo hi 1 (n:Int)=(((Ct n 0 lo:Nat):Int),((Ct n n hi:Nat):Int)):=by
 have h1:¬((1:Int)<0):=by omega
 unfold Builtin.Slice.sliceAdjust;simp only[h1,if_false];refine Prod.ext ?_ ?_
 ·cases lo with
  |none=>rfl
  |some v=>exact NV v n 0
 ·cases hi with
  |none=>rfl
  |some v=>exact NV v n n
theorem MT (i j:Nat):Builtin.Slice.slicePlaces (i:Int) (j:Int) 1=j-i:=by
 unfold Builtin.Slice.slicePlaces;have h1:(1:Int)>0:=by omega
 simp only[h1,if_true,Int.ediv_one]
 split<;>omega
theorem JH {v:Value}{o:Option Int}{Q:Option Int->Shared->Prop}(p:IsPart v o)(h:Q o s):wpAny (model prog w) A (Builtin.Slice.slicePartIndex v) Q E s:=by
 cases p with
 |none=>exact slicePart_none h
 |int i t=>exact slicePart_int h
theorem EE {sl:Addr} {vl vu:Value} {lo hi:Option Int} {n:Nat} {Q:Int×Int×Nat->Shared->Prop} (hs:s.heap.IsSliceOf sl vl vu .none) (pl:IsPart vl lo) (pu:IsPart vu hi)
  (h:Q (((Ct n 0 lo:Nat):Int),1,Ct n n hi-Ct n 0 lo) s):wpAny (model prog w) A (Builtin.Slice.sliceApplied (.ref sl) (pure (n:Int))) Q E s:=by
 obtain⟨os,hos,hcs,hds⟩:=id hs;unfold Builtin.Slice.sliceApplied Builtin.Slice.sliceFields;refine ab (ab (wpAny_field hos hds (x:=vl) rfl (ab (wpAny_field hos hds (x:=vu) rfl (ab (wpAny_field hos hds (x:=.none) rfl (av ?_)))))));refine ab (slicePart_none ?_);show wpAny _ _ (if((1:Int) == 0)=true then _ else _) _ _ s;rw[aH (by decide)];refine ab (JH pl (ab (JH pu (ab (av ?_)))));show wpAny _ _ (match Builtin.Slice.sliceAdjust lo hi 1 (n:Int) with|(lo,hi)=>pure (lo,(1:Int),Builtin.Slice.slicePlaces lo hi 1)) _ _ s;rw[Mx lo hi n];show wpAny _ _ (pure (((Ct n 0 lo:Nat):Int),(1:Int),Builtin.Slice.slicePlaces ((Ct n 0 lo:Nat):Int) ((Ct n n hi:Nat):Int) 1)) _ _ s;rw[MT];exact av h
theorem QQ (xs:Array Value)(i k:Nat):((List.range k).filterMap λ(m:Nat)=>xs[((i:Int)+(m:Int)*1).toNat]?).toArray=((xs.toList.drop i).take k).toArray:=by
 have e:(λ(m:Nat)=>xs[((i:Int)+(m:Int)*1).toNat]?)=λm=>xs[i+m]?:=by
  funext m
  have:((i:Int)+(m:Int)*1).toNat=i+m:=by omega
  rw[this]
 rw[e];have:=pick_run xs i k;rw[List.filterMap_map] at this;have e2:((λx=>xs[x]?)∘λx=>i+x)=λm=>xs[i+m]?:=rfl
 rw[e2] at this;rw[this]
theorem GU {t sl:Addr} {items:Array Value} {vl vu:Value} {lo hi:Option Int} {Q:Value->Shared->Prop} (ht:IsTup s.heap t items) (hs:s.heap.IsSliceOf sl vl vu .none) (pl:IsPart vl lo) (pu:IsPart vu hi)
  (hw:¬(Ct items.size 0 lo=0/\Ct items.size items.size hi=items.size))
  (h:Q (.ref s.heap.objs.size) { s with heap:=s.heap.push { cls:=.type "tuple",data:=.seq ((items.toList.drop (Ct items.size 0 lo)).take (Ct items.size items.size hi-Ct items.size 0 lo)).toArray } })
  (hsz:items.size<=sizeLine):wpAny (model prog w) A (getItem (.ref t) (.ref sl)) Q E s:=by
 have htake:sizeOk (.seq ((items.toList.drop (Ct items.size 0 lo)).take (Ct items.size items.size hi-Ct items.size 0 lo)).toArray):=by
  show((items.toList.drop (Ct items.size 0 lo)).take (Ct items.size items.size hi-Ct items.size 0 lo)).toArray.size<=sizeLine;rw[aF,aP,cD,bY];omega
 have hj:Ct items.size items.size hi<=items.size:=S0 _ _ (ak _) hi;obtain⟨os,hos,hcs,hds⟩:=id hs;have hTs:s.TypeIs (.ref sl) "slice":=⟨os,hos,hcs⟩
 unfold getItem
 try with_reducible refine bC ?_
 first|refine ab (av ?_)|skip
 refine ab (wpAny_sequenceKey ht.typeIs (by decide) ?_);refine ab (gI (name:=Str.ofString "__getitem__") ht.typeIs cA
  (cS cA ht.typeIs entry_tuple_getitem ?_ (args_tuple_getitem _ _)))
 show wpAny _ _ (Builtin.Tuple.tupleItemsOf (.ref t) >>= _) _ _ s;refine ab (tupleItemsOf_ ht ?_);refine ab (eJ hTs ?_);rw[aE (by decide)];refine ab (EE hs pl pu ?_);have hno:¬((((Ct items.size 0 lo:Nat):Int) == 0&&(1:Int) == 1&&(Ct items.size items.size hi-Ct items.size 0 lo) == items.size)=true):=by
  intro q;rw[aU,aU] at q;have q1:((Ct items.size 0 lo:Nat):Int)=0:=eq_of_beq q.1.1;have q2:Ct items.size items.size hi-Ct items.size 0 lo=items.size:=eq_of_beq q.2;exact hw ⟨by omega,by omega⟩
 show wpAny _ _ (if(((Ct items.size 0 lo:Nat):Int) == 0&&(1:Int) == 1&&(Ct items.size items.size hi-Ct items.size 0 lo) == items.size)=true then _ else _) _ _ s;rw[aH hno,QQ]
 first
  |exact ab (m:=Builtin.Tuple.tupleExact _) (cB (av ⟨_,rfl,av h⟩) htake)
  |exact ab (m:=Builtin.Tuple.tupleExact _) (cB (ab (av (av ⟨_,rfl,av h⟩))) htake)
  |exact ab (ab (m:=Builtin.Tuple.tupleExact _) (cB (av (av ⟨_,rfl,av h⟩)) htake))
  |exact ab (ab (m:=Builtin.Tuple.tupleExact _) (cB (av ⟨_,rfl,av h⟩) htake))
end
end HT
namespace L2
open PySem PySem.Spec PyProof.Rows
abbrev TO:=St->Hp->(Option Int->Hp->Prop)->Prop
def PO (X:Cx)(e:Option Expr)(t:TO):Prop:=
 ∀(pins:List (Addr×Obj)) (s:Shared) (σ:St) (H:Hp) (Q:Option Int->Hp->Prop),Inv X pins σ H s->t σ H Q->
  wpAny (model X.prog X.w) X.A (evalPart e X.env) (λu s'=>∃o H',Inv X pins σ H' s'/\IsPart u o/\Q o H') X.xe s
def RL:TO:=λ_ H Q=>Q none H
def UJ (t:TE):TO:=λσ H Q=>t σ H λx H1=>∃i,x=.int i/\Q (some i) H1
theorem intsAre_of {ns:List Int}:∀{us:List Value},AD (ns.map V.int) us->IntsAre us ns:=by
 induction ns with
 |nil=>intro us r;rw[cu] at r;cases r;exact .nil
 |cons n ns ih=>
  intro us r;rw[aq] at r;cases r with
  |cons r1 r2=>
   obtain⟨t,e⟩:=r1;subst e;exact .cons n t (ih r2)
section
variable {X:Cx}{e:Expr}{te:TE}{lo hi:Option Expr}{tl th:TO}{pos p2:Pos}
theorem Hk:PO X none RL:=by
 intro pins s σ H Q I h;rw[evalPart_none];exact av ⟨none,H,I,.none,h⟩
theorem GW (h:PE X e te):PO X (some e) (UJ te):=by
 intro pins s σ H Q I hw;rw[evalPart_some];refine Bd (h pins s σ H _ I hw) λu s1 ⟨x,H1,I1,r1,q1⟩=>?_
 obtain⟨i,rfl,q⟩:=q1;obtain⟨t,rfl⟩:=r1;exact⟨some i,H1,I1,.int i t,q⟩
def UH (X:Cx)(r:V->Option Int->Option Int->Hp->VK->Prop):Prop:=
 ∀(pins:List (Addr×Obj)) (s:Shared) (σ:St) (H:Hp) (x:V) (v vl vu:Value) (lo hi:Option Int) (sl:Addr) (Q:VK),Inv X pins σ H s->RelV x v->s.heap.IsSliceOf sl vl vu .none->IsPart vl lo->IsPart vu hi->r x lo hi H Q->
  ∃T id,typeLookup (.type T) "__getitem__"=pure (some (.builtin id))/\s.TypeIs v T/\wpAny (model X.prog X.w) X.A (getItem v (.ref sl)) (EP X pins σ Q) X.xe s
def V2 (r:V->Option Int->Option Int->Hp->VK->Prop)(te:TE)(tl th:TO):TE:=λσ H Q=>te σ H λx H1=>tl σ H1 λl H2=>th σ H2 λu H3=>r x l u H3 Q
theorem FH {r:V->Option Int->Option Int->Hp->VK->Prop}(hr:UH X r)(he:PE X e te)(hl:PO X lo tl)(hu:PO X hi th):PE X (.Subscript e (.Slice lo hi none p2) pos) (V2 r te tl th):=by
 intro pins s σ H Q I h;refine Subscript_ (Bd (he pins s σ H _ I h) λv s1 ⟨x,H1,I1,r1,q1⟩=>?_);refine wpAny_Slice (Bd (hl pins s1 σ H1 _ I1 q1) λvl s2 ⟨l,H2,I2,pl,q2⟩=>Bd (hu pins s2 σ H2 _ I2 q2) λvu s3 ⟨u,H3,I3,pu,q3⟩=>?_);rw[evalPart_none];refine av ?_;have I4:Inv X pins σ H3 { s3 with heap:=s3.heap.push { cls:=.type "slice",data:=.fields #[vl,vu,.none] } }:=I3.kept (t':=s3.toks) λb ob q=>af _ q
 obtain⟨T,id,hT,ht,hg⟩:=hr pins { s3 with heap:=s3.heap.push { cls:=.type "slice",data:=.fields #[vl,vu,.none] } } σ H3 x v vl vu l u s3.heap.objs.size Q I4 r1 (Heap.IsSliceOf.new ..) pl pu q3;show wpAny (model X.prog X.w) X.A (subscriptTail e (.Slice lo hi none p2) v (.ref s3.heap.objs.size)) (EP X pins σ Q) X.xe { s3 with heap:=s3.heap.push { cls:=.type "slice",data:=.fields #[vl,vu,.none] } };exact tail_any (ops:=[.ref s3.heap.objs.size,v]) ht hT hg (by with_unfolding_all rfl)
def KO (xs:List V)(lo hi:Option Int):List V:=(xs.drop (HT.Ct xs.length 0 lo)).take (HT.Ct xs.length xs.length hi-HT.Ct xs.length 0 lo)
theorem Ii (xs:List V)(lo hi:Option Int):(KO xs lo hi).length<=xs.length:=by
 unfold KO;rw[aP,cD];omega
def Vt (K:PySem.W.Frag):V->Option Int->Option Int->Hp->VK->Prop:=λx lo hi H Q=>∃a xs,x=.ref a/\AG K H a xs/\
 ¬(HT.Ct xs.length 0 lo=0/\HT.Ct xs.length xs.length hi=xs.length)/\∀p,H p=none->Q (.ref p) (upd H p (.tup (KO xs lo hi)))
theorem QZ:UH X (Vt X.K):=by
 intro pins s σ H x v vl vu lo hi sl Q I rx hs pl pu h;obtain⟨a,xs,rfl,hx,hw,q⟩:=h;cases rx;obtain⟨its,r,ht,hz⟩:=I.tuple hx;have hlen:its.toArray.size=xs.length:=by rw[aF];exact r.length.symm
 refine⟨"tuple",_,PyProof.Rows.slot_tuple_getitem.lookup,ht.typeIs,?_⟩;refine HT.GU ht hs pl pu (by rw[hlen];exact hw) ?_ (by rw[hlen];exact hz);rw[hlen];refine⟨.ref s.heap.objs.size,_,I.laid (t':=s.toks) (o:=.tup (KO xs lo hi)) (λb ob q=>af _ q) (ak _) ?_,rfl,q _ (I.hok.fresh (ak _))⟩;exact⟨bq (Ii xs lo hi) hz,_,(r.drop (HT.Ct xs.length 0 lo)).take (HT.Ct xs.length xs.length hi-HT.Ct xs.length 0 lo),JX.new _ _⟩
def UK (K:PySem.W.Frag):R2:=λx y H Q=>∃a b xs ys,x=.ref a/\y=.ref b/\AG K H a xs/\AG K H b ys/\xs≠[]/\xs.length+ys.length<=sizeLine/\
 (ys=[]->Q (.ref a) H)/\(ys≠[]->∀p,H p=none->Q (.ref p) (upd H p (.tup (xs++ys))))
theorem AD.nil_iff {xs:List V}{us:List Value}(r:AD xs us):us=[]↔xs=[]:=by
 cases r with
 |nil=>simp
 |cons _ _=>simp
theorem Rv:Fu X (binaryOp .Add) (UK X.K):=by
 intro pins s σ H x y v u Q I rx ry h;obtain⟨a,b,xs,ys,rfl,rfl,ha,hb,hx,hz,q1,q2⟩:=h;cases rx;cases ry;obtain⟨its,r1,p1,_⟩:=I.tuple ha;obtain⟨its2,r2,p2,_⟩:=I.tuple hb;refine HT.Rr p1 p2 (λz=>hx (r1.nil_iff.mp z)) (λz=>⟨.ref a,H,I,rfl,q1 (r2.nil_iff.mp z)⟩) (λz=>?_) (by rw[<-r1.length,<-r2.length];exact hz);refine⟨.ref s.heap.objs.size,_,I.laid (t':=s.toks) (o:=.tup (xs++ys)) (λb ob q=>af _ q) (ak _) ?_,rfl,q2 (λw=>z (r2.nil_iff.mpr w)) _ (I.hok.fresh (ak _))⟩;exact⟨by rw[ao];exact hz,_,r1.append r2,JX.new _ _⟩
end
def Q8 (n:Nat)(i:Int):Option Nat:=if 0<=i then(if i<n then some i.toNat else none) else if -(n:Int)<=i then some (i+n).toNat else none
def Ih {α:Type}(xs:List α)(i:Int):Option α:=(Q8 xs.length i).bind λj=>xs[j]?
theorem NM {n:Nat}{i:Int}{j:Nat}(h:Q8 n i=some j):seqIndex? i n=some j/\j<n/\-(n:Int)<=i/\i<n:=by
 unfold Q8 at h
 by_cases h0:0<=i
 ·rw[aE h0] at h
  by_cases h1:i<n
  ·rw[aE h1] at h;have e:i.toNat=j:=aA h;exact⟨by rw[fO h0 h1,e],by omega,by omega,h1⟩
  ·rw[aH h1] at h;cases h
 ·rw[aH h0] at h
  by_cases h1:-(n:Int)<=i
  ·rw[aE h1] at h;have e:(i+n).toNat=j:=aA h;exact⟨by rw[seqIndex_neg (by omega) h1,e],by omega,h1,by omega⟩
  ·rw[aH h1] at h;cases h
theorem KD {α:Type}{xs:List α}{i:Int}{v:α}(h:Ih xs i=some v):∃j,seqIndex? i xs.length=some j/\xs[j]?=some v/\j<xs.length/\-(xs.length:Int)<=i/\i<xs.length:=by
 unfold Ih at h;cases e:Q8 xs.length i with
 |none=>rw[e] at h;cases h
 |some j=>
  rw[e] at h;obtain⟨h1,h2,h3,h4⟩:=NM e;exact⟨j,h1,h,h2,h3,h4⟩
theorem Ap {α:Type}{xs:List α}{j:Nat}{v:α}(h:xs[j]?=some v):Ih xs (j:Int)=some v:=by
 have hj:j<xs.length:=(aw.mp h).1;have e:Q8 xs.length (j:Int)=some j:=by
  unfold Q8;rw[aE (by omega),aE (by omega)];simp
 unfold Ih;rw[e];exact h
def RF (b:Expr):Prop:=∀o i,subscripted b false o i=operate [o,i] (getItem o i)
def Ul (X:Cx)(r:R2):Prop:=
 ∀(value slice:Expr) (pins:List (Addr×Obj)) (s:Shared) (σ:St) (H:Hp) (x y:V) (v u:Value) (Q:VK),Inv X pins σ H s->RelV x v->RelV y u->r x y H Q->
  subscripted slice false v u=operate [v,u] (getItem v u)->wpAny (model X.prog X.w) X.A (subscriptTail value slice v u) (EP X pins σ Q) X.xe s
def U7 (X:Cx)(id:String)(r:V->List V->Hp->VK->Prop):Prop:=
 ∀(pins:List (Addr×Obj)) (s:Shared) (σ:St) (H:Hp) (x:V) (xs:List V) (v:Value) (us:List Value) (Q:VK),Inv X pins σ H s->RelV x v->AD xs us->r x xs H Q->
  wpAny (model X.prog X.w) X.A (call (.builtin id) (v::us)) (EP X pins σ Q) X.xe s
section
variable {X:Cx}{a b:Expr}{ta tb:TE}{pos:Pos}
theorem Am {r:R2}(hr:Ul X r)(ha:PE X a ta)(hb:PE X b tb)(hs:RF b):PE X (.Subscript a b pos) (U9 r ta tb):=by
 intro pins s σ H Q I h;exact Subscript_ (Tj ha hb I h λv u s2 x y H2 I2 rx ry q=>hr a b pins s2 σ H2 x y v u Q I2 rx ry q (hs _ _))
def Us (K:PySem.W.Frag):R2:=λx y H Q=>∃p xs i v,x=.ref p/\y=.int i/\AB K H p xs/\Ih xs i=some v/\Q v H
def UI (K:PySem.W.Frag):R2:=λx y H Q=>∃p xs i v,x=.ref p/\y=.int i/\AG K H p xs/\Ih xs i=some v/\Q v H
def VD:R2:=λx y H Q=>∃z i c,x=.str z/\y=.int i/\z.length<=sizeLine/\Ih z.cps.toList i=some c/\Q (.str ⟨#[c]⟩) H
theorem Aw:Ul X (Us X.K):=by
 intro value slice pins s σ H x y v u Q I rx ry h hs;obtain⟨p,xs,i,z,rfl,rfl,hq,he,q⟩:=h;cases rx;obtain⟨t,rfl⟩:=ry;obtain⟨its,r,pl,hz⟩:=I.list hq;obtain⟨j,h1,h2,h3,h4,h5⟩:=KD he;obtain⟨w,ew,rw'⟩:=r.get h2;have hl:=r.length;have hn:=HV;have fin:EP X pins σ Q w s:=⟨z,H,I,rw',q⟩
 by_cases h0:0<=i
 ·have hj:i.toNat=j:=by
   rw[fO h0 h5] at h1;exact aA h1
  exact item_listR pl.isList h0 (by omega) (by rw[hj];simpa using ew) fin hs
 ·have hj:(i+(its.toArray.size:Int)).toNat=j:=by
   rw[seqIndex_neg (by omega) h4] at h1;rw[aF,<-hl];exact aA h1
  exact fh (x:=w) pl.isList.typeIs slot_list_getitem.lookup
   (wpAny_getItem_list_neg (Q:=λr s'=>r=w/\EP X pins σ Q r s') pl.isList (by omega) (by rw[aF]<;>omega) (by omega) (by rw[hj];simpa using ew) ⟨rfl,fin⟩) hs
theorem Ay:Ul X (UI X.K):=by
 intro value slice pins s σ H x y v u Q I rx ry h hs;obtain⟨p,xs,i,z,rfl,rfl,hq,he,q⟩:=h;cases rx;obtain⟨t,rfl⟩:=ry;obtain⟨its,r,pl,hz⟩:=I.tuple hq;obtain⟨j,h1,h2,h3,h4,h5⟩:=KD he;obtain⟨w,ew,rw'⟩:=r.get h2;have hl:=r.length;have hn:=HV;have fin:EP X pins σ Q w s:=⟨z,H,I,rw',q⟩
 exact fh (x:=w) pl.typeIs slot_tuple_getitem.lookup
  (getItem_tuple (j:=j) (Q:=λr s'=>r=w/\EP X pins σ Q r s') pl (by omega) (by omega) (by rw[aF,<-hl];exact h1) (by simpa using ew) ⟨rfl,fin⟩) hs
theorem KJ:Ul X VD:=by
 intro value slice pins s σ H x y v u Q I rx ry h hs;obtain⟨z,i,c,rfl,rfl,hz,he,q⟩:=h;obtain⟨t,rfl⟩:=rx;obtain⟨t',rfl⟩:=ry;obtain⟨j,h1,h2,h3,h4,h5⟩:=KD he;have hl:z.cps.toList.length=z.length:=by simp[Str.length]
 rw[hl] at h1 h4 h5;have hn:=HV;exact tail_any (typeIs_str s z t) slot_str_getitem.lookup (getItem_str (c:=c) (by
  have e1:decide (i < -(2^63:Int))=false:=aZ (by omega);have e2:decide (i≥2^63)=false:=aZ (by omega);rw[e1,e2,Bool.or_false]) (by rw[h1];simpa using h2) ⟨.str ⟨#[c]⟩,H,I.tok _,⟨_,rfl⟩,q⟩) hs
theorem MO (its:List Value)(n j:Nat)(u:Value):Obj.mapSeq (·.setIfInBounds j u) { cls:=.type "list",data:=.seq its.toArray n }={ cls:=.type "list",data:=.seq (its.set j u).toArray n }:=by
 simp[Obj.mapSeq]
theorem Inv.lst {pins:List (Addr×Obj)}{σ:St}{H:Hp}{s:Shared}{p:Addr}{xs:List V}(I:Inv X pins σ H s)(h:H p=some (.lst xs)) :
  ∃(its:List Value) (n:Nat),AD xs its/\s.heap.get? p=some { cls:=.type "list",data:=.seq its.toArray n }/\xs.length<=sizeLine:=by
 obtain⟨z,its,n,r,e⟩:=I.hok p _ h;exact⟨its,n,r,e,z⟩
theorem Inv.lstUpd {pins:List (Addr×Obj)} {σ:St} {H:Hp} {s:Shared} {p:Addr} {xs ys:List V} {its its':List Value} {n n':Nat} {f:Obj->Obj} (I:Inv X pins σ H s) (h:H p=some (.lst xs))
  (ho:s.heap.get? p=some { cls:=.type "list",data:=.seq its.toArray n }) (hf:f { cls:=.type "list",data:=.seq its.toArray n }={ cls:=.type "list",data:=.seq its'.toArray n' }) (r:AD ys its') (hz:ys.length<=sizeLine) (t:Nat) :
  Inv X pins σ (upd H p (.lst ys)) { s with heap:=s.heap.update p f,toks:=t }:=by
 have e:(s.heap.update p f).get? p=some { cls:=.type "list",data:=.seq its'.toArray n' }:=by
  rw[dy f ho (by rw[hf]<;>rfl),hf]
 refine I.write (x:=p) (e:=p) (by rw[h];trivial) (.inl rfl) (λb u hb q=>(bj _ _ (Ne.symm hb)).trans q) ⟨_,e⟩ ?_;exact⟨hz,its',n',r,e⟩
def UZ:V->V->V->Hp->(Hp->Prop)->Prop:=λo i v H Q=>∃p xs k j,o=.ref p/\i=.int k/\H p=some (.lst xs)/\Q8 xs.length k=some j/\Q (upd H p (.lst (xs.set j v)))
theorem set_list:Uq X UZ:=by
 intro pins s σ H o i v ov iv u Q I ro ri rv h;obtain⟨p,xs,k,j,rfl,rfl,hp,hj,q⟩:=h;cases ro;obtain⟨t,rfl⟩:=ri;obtain⟨its,n,r,ho,hz⟩:=I.lst hp;obtain⟨h1,h2,h3,h4⟩:=NM hj;have hl:=r.length;have hn:=HV;have I':Inv X pins σ (upd H p (.lst (xs.set j v))) { s with heap:=s.heap.update p (Obj.mapSeq (·.setIfInBounds j u)) }:=
  I.lstUpd hp ho (MO its n j u) (r.set rv j) (by rw[List.length_set];exact hz) s.toks
 by_cases h0:0<=k
 ·have hk:k.toNat=j:=by
   rw[fO h0 h4] at h1;exact aA h1
  exact PySem.W.ki_setAt ho h0 (by omega) (by rw[aF,<-hl];exact h4) (by rw[hk];exact⟨_,I',q⟩)
 ·have hk:(k+(its.toArray.size:Int)).toNat=j:=by
   rw[seqIndex_neg (by omega) h3] at h1;rw[aF,<-hl];exact aA h1
  exact PySem.W.ki_setBack ho (by omega) (by rw[aF,<-hl];exact h3) (by omega) (by rw[hk];exact⟨_,I',q⟩)
theorem Lq (lo hi:Option Int)(n:Nat):(sliceBounds lo hi none n).1=((HT.Ct n 0 lo:Nat):Int)/\(sliceBounds lo hi none n).2.1=((HT.Ct n n hi:Nat):Int)/\(sliceBounds lo hi none n).2.2=1:=by
 refine⟨?_,?_,rfl⟩
 ·cases lo with
  |none=>simp[sliceBounds,HT.Ct]
  |some i=>
   simp only[sliceBounds,HT.Ct,Option.getD_none,show(1:Int)>0 by decide,if_true]
   by_cases h:i<0
   ·simp only[h,if_true]<;>omega
   ·simp only[h,if_false]<;>omega
 ·cases hi with
  |none=>simp[sliceBounds,HT.Ct]
  |some i=>
   simp only[sliceBounds,HT.Ct,Option.getD_none,show(1:Int)>0 by decide,if_true]
   by_cases h:i<0
   ·simp only[h,if_true]<;>omega
   ·simp only[h,if_false]<;>omega
theorem JY (its:List Value)(lo hi:Option Int):slicePick its.toArray lo hi none=((its.drop (HT.Ct its.length 0 lo)).take (HT.Ct its.length its.length hi-HT.Ct its.length 0 lo)).toArray:=by
 obtain⟨h1,h2,h3⟩:=Lq lo hi its.toArray.size;unfold slicePick;rw[h1,h2,h3];simp only[sliceRange_one,pick_run,List.size_toArray]<;>rfl
def Vp (K:PySem.W.Frag):V->Option Int->Option Int->Hp->VK->Prop:=λx lo hi H Q=>∃a xs,x=.ref a/\AB K H a xs/\∀p,H p=none->Q (.ref p) (upd H p (.lst (KO xs lo hi)))
theorem U8:UH X (Vp X.K):=by
 intro pins s σ H x v vl vu lo hi sl Q I rx hs pl pu h;obtain⟨a,xs,rfl,hx,q⟩:=h;cases rx;obtain⟨its,r,ht,hz⟩:=I.list hx;have hlen:=r.length;refine⟨"list",_,slot_list_getitem.lookup,ht.isList.typeIs,?_⟩;refine wpAny_getItem_list_slice ht.isList hs pl pu .none (by simp) ?_ (by rw[aF]<;>omega);rw[JY,<-hlen];refine⟨.ref s.heap.objs.size,_,I.laid (t':=s.toks) (o:=.lst (KO xs lo hi)) (λb ob q=>af _ q) (ak _) ?_,rfl,q _ (I.hok.fresh (ak _))⟩;exact⟨bq (Ii xs lo hi) hz,_,0,(r.drop (HT.Ct xs.length 0 lo)).take (HT.Ct xs.length xs.length hi-HT.Ct xs.length 0 lo),aG _ rfl⟩
def Ez:V->Bool
 | .non=>true
 | .bl _=>true
 | .int _=>true
 | .str _=>true
 |_=>false
def LW:V->V->Bool
 | .non,.non=>true
 | .bl a,.bl b=>a == b
 | .bl a,.int b=>(if a then 1 else 0) == b
 | .int a,.bl b=>a == (if b then 1 else 0)
 | .int a,.int b=>a == b
 | .str a,.str b=>a == b
 |_,_=>false
theorem Jy {A:Around}{s:Shared}{y x:V}{u v:Value}(ry:RelV y u)(rx:RelV x v)(fy:Ez y=true)(fx:Ez x=true):SeqAt.EqAt A s u v (LW y x):=by
 cases y with
 |non=>
  cases ry;cases x with
  |non=>cases rx;exact dg _
  |bl b=>cases rx;exact SeqAt.EqAt.none_bool b
  |int b=>obtain⟨t,rfl⟩:=rx;exact SeqAt.EqAt.none_int b t
  |str b=>obtain⟨t,rfl⟩:=rx;exact SeqAt.EqAt.none_str b t
  |_=>exact absurd (show false=true from fx) ay
 |bl a=>
  cases ry;cases x with
  |non=>cases rx;exact SeqAt.EqAt.bool_none a
  |bl b=>cases rx;exact SeqAt.EqAt.bool_bool a b
  |int b=>obtain⟨t,rfl⟩:=rx;exact SeqAt.EqAt.bool_int a b t
  |str b=>obtain⟨t,rfl⟩:=rx;exact SeqAt.EqAt.bool_str a b t
  |_=>exact absurd (show false=true from fx) ay
 |int a=>
  obtain⟨t',rfl⟩:=ry;cases x with
  |non=>cases rx;exact SeqAt.EqAt.int_none a t'
  |bl b=>cases rx;exact SeqAt.EqAt.int_bool a t' b
  |int b=>obtain⟨t,rfl⟩:=rx;exact SeqAt.EqAt.int_int a t' b t
  |str b=>obtain⟨t,rfl⟩:=rx;exact fA a t' b t
  |_=>exact absurd (show false=true from fx) ay
 |str a=>
  obtain⟨t',rfl⟩:=ry;cases x with
  |non=>cases rx;exact SeqAt.EqAt.str_none a t'
  |bl b=>cases rx;exact SeqAt.EqAt.str_bool a t' b
  |int b=>obtain⟨t,rfl⟩:=rx;exact fu a t' b t
  |str b=>obtain⟨t,rfl⟩:=rx;exact SeqAt.EqAt.str_str a t' b t
  |_=>exact absurd (show false=true from fx) ay
 |_=>exact absurd (show false=true from fy) ay
def Nc (x:V)(u:Value):Bool:=match u with
 | .none=>LW .non x
 | .bool b=>LW (.bl b) x
 | .int i _=>LW (.int i) x
 | .str z _=>LW (.str z) x
 |_=>false
theorem Pz {x y:V}{u:Value}(r:RelV y u)(f:Ez y=true):Nc x u=LW y x:=by
 cases y with
 |non=>cases r;rfl
 |bl b=>cases r;rfl
 |int i=>obtain⟨t,rfl⟩:=r;rfl
 |str z=>obtain⟨t,rfl⟩:=r;rfl
 |_=>exact absurd (show false=true from f) ay
theorem G4 {x:V}:∀{xs:List V} {us:List Value},AD xs us->xs.all Ez=true->us.any (Nc x)=xs.any λy=>LW y x
 |_,_,.nil,_=>rfl
 |y::xs,u::us,.cons r t,f=>by
  rw[dP,aU] at f;rw[dO,dO,Pz r f.1,G4 t f.2]
theorem FC {A:Around}{s:Shared}{x:V}{v:Value}(rx:RelV x v)(fx:Ez x=true):∀{xs:List V} {us:List Value},AD xs us->xs.all Ez=true->∀u∈us,SeqAt.EqAt A s u v (Nc x u)
 |_,_,.nil,_=>λu hu=>by cases hu
 |y::xs,u::us,.cons r t,f=>λu' hu=>by
  rw[dP,aU] at f;rcases aL.mp hu with rfl|hu
  ·rw[Pz r f.1];exact Jy r rx f.1 fx
  ·exact FC rx fx t f.2 u' hu
def Rh (x:V)(xs:List V):Bool:=xs.any λy=>LW y x
def Vd (K:PySem.W.Frag)(neg:Bool):R2:=λx y H Q=>∃p xs,y=.ref p/\(AB K H p xs\/AG K H p xs)/\Ez x=true/\xs.all Ez=true/\Q (.bl (if neg then !Rh x xs else Rh x xs)) H
theorem Oo:Fu X (compareOp .In) (Vd X.K false):=by
 intro pins s σ H x y v u Q I rx ry h;obtain⟨p,xs,rfl,hq,fx,fs,q⟩:=h;cases ry;rcases hq with hq|hq
 ·obtain⟨its,r,pl,hz⟩:=I.list hq;refine SeqAt.in_listAt (Nc x) pl.isList (λw hw=>FC rx fx r fs w (by simpa using hw)) ⟨.bl _,H,I,rfl,?_⟩;rw[show its.toArray.any (Nc x)=its.any (Nc x) by simp,G4 r fs];exact q
 ·obtain⟨its,r,pl,hz⟩:=I.tuple hq;refine SeqAt.in_tupleAt (Nc x) pl (λw hw=>FC rx fx r fs w (by simpa using hw)) ⟨.bl _,H,I,rfl,?_⟩;rw[show its.toArray.any (Nc x)=its.any (Nc x) by simp,G4 r fs];exact q
theorem KS:Fu X (compareOp .NotIn) (Vd X.K true):=by
 intro pins s σ H x y v u Q I rx ry h;obtain⟨p,xs,rfl,hq,fx,fs,q⟩:=h;cases ry;rcases hq with hq|hq
 ·obtain⟨its,r,pl,hz⟩:=I.list hq;refine SeqAt.notIn_listAt (Nc x) pl.isList (λw hw=>FC rx fx r fs w (by simpa using hw)) ⟨.bl _,H,I,rfl,?_⟩;rw[show its.toArray.any (Nc x)=its.any (Nc x) by simp,G4 r fs];exact q
 ·obtain⟨its,r,pl,hz⟩:=I.tuple hq;refine SeqAt.notIn_tupleAt (Nc x) pl (λw hw=>FC rx fx r fs w (by simpa using hw)) ⟨.bl _,H,I,rfl,?_⟩;rw[show its.toArray.any (Nc x)=its.any (Nc x) by simp,G4 r fs];exact q
theorem AQ:Dw X (.builtin "len") (λxs H Q=>∃p ys,xs=[.ref p]/\(AB X.K H p ys\/AG X.K H p ys)/\Q (.int ys.length) H):=by
 intro pins s σ H xs us Q I r h;obtain⟨p,ys,rfl,hq,q⟩:=h;obtain⟨u,rfl,rx⟩:=vals1 r;cases rx;have hn:=HV;rcases hq with hq|hq
 ·obtain⟨its,r',pl,hz⟩:=I.list hq;have hlen:=r'.length;exact Calls.call_len_list pl.isList (by simp only[List.size_toArray]<;>omega) ⟨.int ys.length,H,I.tok _,⟨s.toks+1,by rw[aF,hlen]⟩,q⟩
 ·obtain⟨its,r',pl,hz⟩:=I.tuple hq;have hlen:=r'.length;exact len_tuple pl (by simp only[List.size_toArray]<;>omega) ⟨.int ys.length,H,I.tok _,⟨s.toks+1,by rw[aF,hlen]⟩,q⟩
theorem E6:Dw X (.builtin "len") (λxs H Q=>∃z,xs=[.str z]/\z.length<=sizeLine/\Q (.int z.length) H):=by
 intro pins s σ H xs us Q I r h;obtain⟨z,rfl,hz,q⟩:=h;obtain⟨u,rfl,t,rfl⟩:=vals1 r;have hn:=HV;exact len_str (by omega) ⟨.int z.length,H,I.tok _,⟨_,rfl⟩,q⟩
theorem C4:Dw X (.type "list") (λxs H Q=>∃p ys,xs=[.ref p]/\(AB X.K H p ys\/AG X.K H p ys)/\∀l,H l=none->Q (.ref l) (upd H l (.lst ys))):=by
 intro pins s σ H xs us Q I r h;obtain⟨p,ys,rfl,hq,q⟩:=h;obtain⟨u,rfl,rx⟩:=vals1 r;cases rx;have fin:∀(its:List Value),AD ys its->ys.length<=sizeLine->∀(h':Heap) (c':Nat),(∀b o',s.heap.get? b=some o'->h'.get? b=some o')->
   h'.get? s.heap.objs.size=some { cls:=.type "list",dict:=none,data:=.seq its.toArray c',slots:=#[] }->EP X pins σ Q (.ref s.heap.objs.size) { s with heap:=h' }:=λits r' hz h' c' kp e=>
  ⟨.ref s.heap.objs.size,_,I.laid (t':=s.toks) kp (ak _) (show A4 X.prog X.w _ h' _ (.lst ys) from⟨hz,its,c',r',e⟩),rfl,q _ (I.hok.fresh (ak _))⟩
 rcases hq with hq|hq
 ·obtain⟨its,r',pl,hz⟩:=I.list hq;have hlen:=r'.length;obtain⟨o,ho,hc,n,hd⟩:=pl.isList;exact call_list_seq p (.inl rfl) ho hc hd (λh' c' kp e=>fin its r' hz h' c' kp e) (by simp only[List.size_toArray]<;>omega)
 ·obtain⟨its,r',pl,hz⟩:=I.tuple hq;have hlen:=r'.length;obtain⟨o,ho,hc,n,hd⟩:=pl;exact call_list_seq p (.inr rfl) ho hc hd (λh' c' kp e=>fin its r' hz h' c' kp e) (by simp only[List.size_toArray]<;>omega)
theorem Dn:Dw X (.type "tuple") (λxs H Q=>∃p ys,xs=[.ref p]/\((AB X.K H p ys/\∀l,H l=none->Q (.ref l) (upd H l (.tup ys)))\/(AG X.K H p ys/\Q (.ref p) H))):=by
 intro pins s σ H xs us Q I r h;obtain⟨p,ys,rfl,h⟩:=h;obtain⟨u,rfl,rx⟩:=vals1 r;cases rx;rcases h with⟨hq,q⟩|⟨hq,q⟩
 ·obtain⟨its,r',pl,hz⟩:=I.list hq;have hlen:=r'.length;refine call_tuple_list pl.isList (λh' kp=>?_) (by simp only[List.size_toArray]<;>omega);have I1:Inv X pins σ H { s with heap:=h' }:=I.kept (t':=s.toks) kp;have I2:Inv X pins σ (upd H h'.objs.size (.tup ys)) { s with heap:=h'.push { cls:=.type "tuple",data:=.seq its.toArray } }:=
   I1.laid (t':=s.toks) (λb o e=>af _ e) (ak _) (show A4 X.prog X.w _ _ _ (.tup ys) from⟨hz,its,r',JX.new _ _⟩)
  exact⟨.ref h'.objs.size,_,I2,rfl,q _ (I1.hok.fresh (ak _))⟩
 ·obtain⟨its,r',pl,hz⟩:=I.tuple hq;exact call_tuple_same pl ⟨.ref p,H,I,rfl,q⟩
def Vo (K:PySem.W.Frag)(T:String)(x:V)(H:Hp):Prop:=match x with
 | .str _=>T="str"
 | .int _=>T="int"
 | .ref p=>(T="list"/\∃xs,AB K H p xs)\/(T="tuple"/\∃o,K.lookup p=some o/\o.cls=.type "tuple"/\o.dict=none)\/
   (T="dict"/\((∃kvs,H p=some (.dK kvs))\/∃kvs,H p=some (.dT kvs)))\/(T="set"/\∃S n,H p=some (.set S n))
 |_=>False
theorem QI {pins:List (Addr×Obj)}{σ:St}{H:Hp}{s:Shared}{T:String}{x:V}{v:Value}(I:Inv X pins σ H s)(r:RelV x v)(ty:Vo X.K T x H) :
  s.TypeIs v T/\∀a,v=.ref a->∃ob,s.heap.get? a=some ob/\ob.dict=none:=by
 cases x with
 |str z=>
  obtain⟨t,rfl⟩:=r;cases(show T="str" from ty);exact⟨typeIs_str s z t,λ_ e=>nomatch e⟩
 |int i=>
  obtain⟨t,rfl⟩:=r;cases(show T="int" from ty);exact⟨typeIs_int s i t,λ_ e=>nomatch e⟩
 |ref p=>
  cases r;rcases ty with⟨rfl,xs,hq⟩|⟨rfl,o,hk,hc,hd⟩|⟨rfl,hk⟩|⟨rfl,S,n,hk⟩
  ·obtain⟨its,_,pl,_⟩:=I.list hq;refine⟨pl.isList.typeIs,λa e=>?_⟩;cases e;obtain⟨o,n,e,c,hd,_⟩:=pl;exact⟨o,e,hd⟩
  ·refine⟨⟨o,I.kIn p o hk,hc⟩,λa e=>?_⟩;cases e;exact⟨o,I.kIn _ o hk,hd⟩
  ·have z:∃o,s.heap.get? p=some o/\o.ExactDict:=by
    rcases hk with⟨kvs,hk⟩|⟨kvs,hk⟩
    ·obtain⟨_,_,_,_,o,_,_,e,ex,_⟩:=I.hok p _ hk;exact⟨o,e,ex⟩
    ·obtain⟨_,_,_,_,o,_,_,e,ex,_⟩:=I.hok p _ hk;exact⟨o,e,ex⟩
   obtain⟨o,e,ex⟩:=z;refine⟨⟨o,e,ex.1⟩,λa e2=>?_⟩;cases e2;exact⟨o,e,ex.2.1⟩
  ·obtain⟨o,_,_,_,e,ex,_⟩:=I.hok p _ hk;refine⟨⟨o,e,ex.1⟩,λa e2=>?_⟩;cases e2;exact⟨o,e,ex.2.1⟩
 |_=>exact False.elim ty
def VJ (K:PySem.W.Frag)(T:String)(r:V->List V->Hp->VK->Prop)(to:TE):TE:=λσ H Q=>to σ H λx H1=>Vo K T x H1/\r x [] H1 Q
def Wa (K:PySem.W.Frag)(T:String)(r:V->List V->Hp->VK->Prop)(to:TE)(t:TA):TE:=λσ H Q=>to σ H λx H1=>Vo K T x H1/\t σ H1 λxs H2=>r x xs H2 Q
variable {o e:Expr}{es:List Expr}{to:TE}{t:TA}{name:Str}{apos cpos:Pos}{T id:String}{r:V->List V->Hp->VK->Prop}
theorem Qe (pa:PlainAttrs T) (slot:Slot T name id) (hty:typeOf (.builtin id)=pure (.type "method_descriptor")) (hm:U7 X id r) (ho:PE X o to)
  (hbase:attributeBase o name X.env (eval o X.env)=eval o X.env:=by rfl) (hline:(apos.endLine == cpos.line)=true:=by rfl):PE X (.Call (.Attribute o name apos) [] [] cpos) (VJ X.K T r to):=by
 intro pins s σ H Q I h;refine wpAny_Call_method0_late hbase hline (Bd (ho pins s σ H _ I h) λv s1 z9=>?_);obtain⟨x,H1,I1,r1,ty,q1⟩:=z9;obtain⟨h1,h2⟩:=QI I1 r1 ty;exact⟨T,id,pa,slot,hty,h1,h2,cK rfl (gB (hm pins s1 σ H1 x [] v [] Q I1 r1 .nil q1))⟩
theorem CA (pa:PlainAttrs T) (slot:Slot T name id) (hty:typeOf (.builtin id)=pure (.type "method_descriptor")) (hm:U7 X id r) (ho:PE X o to) (ha:PA X (e::es) t)
  (hbase:attributeBase o name X.env (eval o X.env)=eval o X.env:=by rfl)
  (hfew:((backTo cpos (starEach (e::es) X.env)).all (λx=>!x.1)&&(backToKw cpos (keywordEach [] X.env)).all (λx=>x.1.isSome)
   && decide ((e::es).length+([]:List Keyword).length+(if([]:List Keyword).isEmpty then 0 else 1)<30))=true:=by rfl)
  (hline:(apos.endLine == cpos.line)=true:=by rfl) (hs:starEach (e::es) X.env=(false,eval e X.env)::starEach es X.env:=by rfl) (hplain:(backTo cpos (starEach es X.env)).any (·.1)=false:=by rfl) :
  PE X (.Call (.Attribute o name apos) (e::es) [] cpos) (Wa X.K T r to t):=by
 intro pins s σ H Q I h;refine wpAny_Call_method_late hbase hfew hline rfl (Bd (ho pins s σ H _ I h) λv s1 z9=>?_);obtain⟨x,H1,I1,r1,ty,q1⟩:=z9;obtain⟨h1,h2⟩:=QI I1 r1 ty;refine⟨T,id,pa,slot,hty,h1,h2,?_⟩;have hA:=ha cpos pins s1 σ H1 _ I1 q1;rw[hs] at hA ⊢;refine cK (by show(false||(backTo cpos (starEach es X.env)).any (·.1))=false;rw[hplain]<;>rfl) (fb ?_);exact Bd hA λus s2 ⟨vs,H2,I2,r2,q2⟩=>hm pins s2 σ H2 x vs v us Q I2 r1 r2 q2
end
def Vw (X:Cx)(id:String)(r:V->List V->Hp->VK->Prop):Prop:=
 ∀(pins:List (Addr×Obj)) (s:Shared) (σ:St) (H:Hp) (x:V) (xs:List V) (v:Value) (us:List Value) (Q:VK),Inv X pins σ H s->RelV x v->AD xs us->r x xs H Q->
  wpAny (model X.prog X.w) X.A (call (.builtin id) (v::us)) (EP X pins σ Q) X.xe s
theorem AD.one:∀{x:V} {us:List Value},AD [x] us->∃u,us=[u]/\RelV x u
 |_,_,.cons r .nil=>⟨_,rfl,r⟩
theorem AD.zero:∀{us:List Value},AD [] us->us=[]
 |_,.nil=>rfl
theorem AD.dropLast {xs:List V}{us:List Value}(h:AD xs us):AD xs.dropLast us.dropLast:=by
 induction h with
 |nil=>exact .nil
 |cons r t ih=>
  cases t with
  |nil=>exact .nil
  |cons q t'=>exact .cons r ih
theorem AD.eraseIdx:∀{xs:List V} {us:List Value} (i:Nat),AD xs us->AD (xs.eraseIdx i) (us.eraseIdx i)
 |_,_,_,.nil=>.nil
 |_,_,0,.cons _ t=>t
 |_,_,i+1,.cons r t=>.cons r (AD.eraseIdx i t)
theorem AD.reverse {xs:List V}{us:List Value}(h:AD xs us):AD xs.reverse us.reverse:=by
 induction h with
 |nil=>exact .nil
 |cons r t ih=>rw[List.reverse_cons,List.reverse_cons];exact AD.append ih (.cons r .nil)
theorem NA {α:Type}(l:List α):l.eraseIdx (l.length-1)=l.dropLast:=by
 induction l with
 |nil=>rfl
 |cons a r ih=>
  cases r with
  |nil=>rfl
  |cons b r=>
   have e:(a::b::r).length-1=((b::r).length-1)+1:=by
    have h1:(a::b::r).length=r.length+2:=rfl;have h2:(b::r).length=r.length+1:=rfl;omega
   rw[e,List.eraseIdx_cons_succ,ih]
   all_goals rfl
section
variable {X:Cx}{pins:List (Addr×Obj)}{σ:St}{H:Hp}{s:Shared}{l b:Addr}{xs ys zs:List V}
theorem Inv.lset {its its':List Value} {n:Nat} {f:Array Value->Array Value} {t':Nat} (I:Inv X pins σ H s) (hH:H l=some (.lst xs))
  (e:s.heap.get? l=some { cls:=.type "list",data:=.seq its.toArray n }) (hf:f its.toArray=its'.toArray) (hv:AD ys its') (hz:ys.length<=sizeLine) :
  Inv X pins σ (upd H l (.lst ys)) { s with heap:=s.heap.update l (Obj.mapSeq f),toks:=t' }:=by
 have q:=PySem.IsL.update e f;rw[hf] at q;refine I.write (x:=l) (e:=l) (by rw[hH];exact trivial) (.inl rfl) (λb' u hb hu=>(bj s.heap (Obj.mapSeq f) (Ne.symm hb)).trans hu) ⟨_,q⟩ ?_;exact⟨hz,its',_,hv,q⟩
theorem Inv.lnew {its:List Value}{t':Nat}(I:Inv X pins σ H s)(hv:AD ys its)(hz:ys.length<=sizeLine) :
  Inv X pins σ (upd H s.heap.objs.size (.lst ys)) { s with heap:=s.heap.push { cls:=.type "list",data:=.seq its.toArray },toks:=t' }:=
 I.laid (λ_ _ q=>af _ q) (ak _) ⟨hz,its,0,hv,aG _ rfl⟩
theorem Inv.fresh (I:Inv X pins σ H s):H s.heap.objs.size=none:=I.hok.fresh (ak _)
theorem Inv.lstM (I:Inv X pins σ H s)(hH:H l=some (.lst xs)):xs.length<=sizeLine/\∃(its:List Value) (n:Nat),AD xs its/\xs.length=its.length/\s.heap.get? l=some { cls:=.type "list",data:=.seq its.toArray n }:=by
 obtain⟨z,its,n,r,e⟩:=I.hok l _ hH;exact⟨z,its,n,r,r.length,e⟩
theorem QB {n:Nat}(h:n<=sizeLine):Builtin.List.listTooLong n=false:=by
 unfold Builtin.List.listTooLong;exact aZ (by omega)
end
section
variable {X:Cx}
def So:V->List V->Hp->VK->Prop:=λx vs H Q=>∃l xs y,x=.ref l/\vs=[y]/\H l=some (.lst xs)/\xs.length<sizeLine/\Q .non (upd H l (.lst (xs++[y])))
theorem Bo:Vw X "list.append" So:=by
 intro pins s σ H x vs v us Q I rx rv h;obtain⟨l,xs,y,rfl,rfl,hH,hz,q⟩:=h;cases rx;obtain⟨u,rfl,ru⟩:=rv.one;obtain⟨z,its,n,r,hl,e⟩:=I.lstM hH;refine gj F.slot_list_append ⟨_,e,rfl⟩ F.entry_list_append (F.args_list_append_2 _ _) (PySem.list_append l its.toArray n u (by rw[aF];omega)) ⟨e,?_⟩;refine⟨.non,_,I.lset (its':=its++[u]) hH e (by simp) (r.append (.cons ru .nil)) ?_,rfl,q⟩;rw[ao,bI];omega
def Sh:V->List V->Hp->VK->Prop:=λx vs H Q=>∃l b xs zs,x=.ref l/\vs=[.ref b]/\H l=some (.lst xs)/\H b=some (.lst zs)/\xs.length+zs.length<=sizeLine/\Q .non (upd H l (.lst (xs++zs)))
theorem DU:Vw X "list.extend" Sh:=by
 intro pins s σ H x vs v us Q I rx rv h;obtain⟨l,b,xs,zs,rfl,rfl,hH,hB,hz,q⟩:=h;cases rx;obtain⟨u,rfl,ru⟩:=rv.one;cases ru;obtain⟨z,its,n,r,hl,e⟩:=I.lstM hH;obtain⟨z2,its2,n2,r2,hl2,e2⟩:=I.lstM hB;have hsz:its.toArray.size+its2.toArray.size<=sizeLine:=by rw[aF,aF];omega
 have hlong:¬(!its.toArray.isEmpty&&Builtin.List.listTooLong (its.toArray.size+its2.toArray.size))=true:=by
  rw[QB hsz,Bool.and_false];exact ay
 refine gj F.slot_list_extend ⟨_,e,rfl⟩ F.entry_list_extend (F.args_list_extend_2 _ _)
  (AutoSeq1.list_extend_list_list_0 l its.toArray n b its2.toArray n2 hlong (by rw[aF];omega) (by omega)) ⟨e,e2,?_⟩
 refine⟨.non,_,I.lset (its':=its++its2) hH e (by simp) (r.append r2) ?_,rfl,q⟩;rw[ao];omega
def VQ:V->List V->Hp->VK->Prop:=λx vs H Q=>∃l xs y,x=.ref l/\vs=[]/\H l=some (.lst xs)/\xs[xs.length-1]?=some y/\Q y (upd H l (.lst xs.dropLast))
theorem Qd:Vw X "list.pop" VQ:=by
 intro pins s σ H x vs v us Q I rx rv h;obtain⟨l,xs,y,rfl,rfl,hH,hy,q⟩:=h;cases rx;have hus:=rv.zero;subst hus;obtain⟨z,its,n,r,hl,e⟩:=I.lstM hH;obtain⟨u,hu,ru⟩:=r.get hy;have hy':its.toArray[its.toArray.size-1]?=some u:=by
  show its.toArray[its.length-1]?=some u;rw[<-cx,<-hl];exact hu
 refine gj F.slot_list_pop ⟨_,e,rfl⟩ F.entry_list_pop (F.args_list_pop_1 _) (MeetsSeq.list_pop_last l its.toArray n u hy' (by rw[aF];omega)) ⟨e,?_⟩;refine⟨y,_,I.lset (its':=its.dropLast) hH e ?_ r.dropLast ?_,ru,q⟩
 ·show its.toArray.eraseIdxIfInBounds (its.toArray.size-1)=its.dropLast.toArray;rw[aF,List.eraseIdxIfInBounds_toArray,NA]
 ·rw[List.length_dropLast];omega
end
end L2
namespace Att
open PySem PySem.W PySem.Calls PyProof.Rows
theorem IB {P:Params}{h:Heap}:∀(ns:List Int) (vs:List Value),WellAll P h vs (ns.map WData.int)->IntsAre vs ns:=by
 intro ns
 induction ns with
 |nil=>
  intro vs w;rw[cu] at w;cases w;exact .nil
 |cons n ns ih=>
  intro vs w;rw[aq] at w;cases w with
  |cons a b=>
   cases a;exact .cons _ _ (ih _ b)
theorem OV {l:OpenLaw} {n:Nat} (hn:l.most=some n) {P:Params} {h:Heap} {args:List WData} {vals:List Value}
  (hpre:l.row.toRowW.claim.pre args=true) (hwl:WellAll P h vals args) :
  ∃a vs ns,vals=[Value.ref a]/\args=[WData.list (ns.map WData.int)]/\h.get? a=some { cls:=.type "list",data:=.seq vs.toArray }/\IntsAre vs ns/\ns.length<=n:=by
 have hsh:WShape.hasAll [] args [.list .int]=true:=(pre_splitW hpre).1;have hc:l.pre.holds [] { args:=args }=true:=(pre_splitW hpre).2;obtain⟨d,r,rfl,h1,h2⟩:=hasAllW_cons hsh;obtain rfl:=hasAllW_nil h2;obtain⟨xs,rfl,h3⟩:=hasW_list h1;obtain⟨ns,rfl⟩:=items_int h3;have hlen:ns.length<=n:=by
  unfold OpenLaw.pre at hc;have h4:(WTm.not (.lt (.lit (.int (n:Int))) (.len (.arg 0)))).holds [] { args:=[.list (ns.map .int)] }=true:=by
   have h4:=(holds_andW hc).1;rw[hn] at h4;exact h4
  have h5:=condW_of h4 (w_not (w_lt w_lit (w_len_list (w_arg rfl))));rw[aa] at h5;refine Nat.le_of_not_lt λq=>?_
  have q':(n:Int)<((ns.length:Nat):Int):=by omega
  first
   |(rw[aI q'] at h5;exact absurd h5 (by decide))
   |(simp at h5;omega)
 cases hwl with
 |cons w1 w2=>
  cases w2;cases w1 with
  |list ho hall=>exact⟨_,_,ns,rfl,rfl,ho,IB ns _ hall,hlen⟩
theorem ON (l:OpenLaw)(args:List WData):l.row.toRowW.claim.post args (.bool true) args=true:=
 postW_of (r:=l.row.toRowW) (X:=(true == true))
  (show WShape.has [] (.bool true) .bool=true by first|rfl|decide|simp[WShape.has,WShape.arms,WShape.armsAll])
  (show(WTm.eq .res (.lit (.bool true))).value [] { args:=args,res:=some (.bool true),after:=args }=some (.bool (true == true)) from w_eq_bool (w_res rfl) w_lit) rfl
theorem Ls {l:OpenLaw} {n:Nat} {q:Program} {loose:List Str} {XP:(Str->Option Value)->Heap->Prop} {YP:World->Heap->Prop} {d:DefRec}
  (hn:l.most=some n) (hdf:d.params.defaults=[])
  (call:∀(w:World) (s₀ s₁:Shared) (mg mb:Str->Option Value) (fa:Addr) (o:Obj) (pm cd doc:Value) (a:Addr) (vs:List Value) (ns:List Int),
   Ground q loose [] XP w s₀ mg mb s₁.heap->YP w s₁.heap->
   s₁.heap.get? fa=some o->o.data=.func (docDef d.name d.params d.body d.scope pm cd doc)->s₁.heap.CodeRec cd d.name->mg d.name=some (.ref fa)->
   s₁.heap.get? a=some { cls:=.type "list",data:=.seq vs.toArray }->IntsAre vs ns->ns.length<=n->s₁.gens = #[]->
   codeAny (model l.prog w) callerA (.call (.ref fa) ⟨[.ref a],[]⟩) (λr s'=>r=.ok (.ret (.bool true))/\OldK s₁.heap s'.heap/\s'.os=s₁.os/\AllBare s'.gens) s₁) :
  WalkO q loose XP YP l.row.toRowW d [] (λf vs=>PySem.call f vs):=by
 intro w s₀ s₁ mg mb G Y fa o pm cd doc dV kV ho hd hcd hD hmg hg args vals as hpre hlay hrd hwl hlo;obtain rfl:dV=.none:=Dflts.none hD hdf;obtain rfl:kV=.none:=Dflts.noKw hD;obtain⟨a,vs,ns,rfl,rfl,hobj,hints,hlen⟩:=OV hn hpre hwl;refine enter_call (eK (call w s₀ s₁ mg mb fa o pm cd doc a vs ns G Y ho (fd_plain hd) hcd hmg hobj hints hlen hg) λr s' hq=>?_);obtain⟨rfl,h2,h3,h4⟩:=hq;exact⟨.inl ⟨.bool true,.bool true,[],rfl,λ_=>rfl,.bool true,ON l _,λ_=>⟨List.Pairwise.nil,λ_ hm=>(nomatch hm)⟩⟩,h2,h3,h4⟩
end Att
namespace L2
open PySem PySem.Spec PyProof.Rows
theorem Hs:∀{vs:List Value} {ns:List Int},IntsAre vs ns->AD (ns.map V.int) vs
 |_,_,.nil=>.nil
 |_,_,.cons n t h=>.cons ⟨t,rfl⟩ (Hs h)
def inClass (s:Stmt)(j:Nat):Stmt:=match s with
 | .ClassDef _ _ _ body _ _ _ _ _ _ _=>body.getD j (.Pass ⟨0,0,0,0⟩)
 |_=>.Pass ⟨0,0,0,0⟩
def As (s:Stmt):Arguments:=match s with
 | .FunctionDef _ a _ _ _ _ _ _ _ _=>a
 |_=>{ posonlyargs:=[],args:=[],vararg:=none,kwonlyargs:=[],kw_defaults:=[],kwarg:=none,defaults:=[] }
def Ar (s:Stmt):List Stmt:=match s with
 | .FunctionDef _ _ b _ _ _ _ _ _ _=>b
 |_=>[]
def Aj (s:Stmt):Scope:=match s with
 | .FunctionDef _ _ _ _ _ _ sc _ _ _=>sc
 |_=>{ kind:=.function,names:=[],isGenerator:=false,isCoroutine:=false }
abbrev CZ:Pb:=λ_ _ _ _ _ _=>False
abbrev E0:XK:=λ_ _ _=>False
theorem NH {X:Cx}:GA CZ X E0:=λ_ _ _ _ _ _ _ h=>h.elim
structure Fun (K:PySem.W.Frag) (x qual:Str) (st:Stmt) (f:Addr) (fd:FuncData):Prop where
 ex:∃(oc:Value) (od:Option Addr) (kV doc pm:Value) (an:Option Addr) (cdv ct:Value) (osl:Array (Option Value)),
  fd=PySem.W.fnOf x qual (As st) (Ar st) (Aj st) .none kV doc pm an cdv ct/\K.lookup f=some ⟨oc,od,.func fd,osl⟩/\PySem.W.codeIn K cdv qual=true
 kp:PySem.W.keepIn K (.ref f)=true
section
variable {P:Program}{w:World}{K:PySem.W.Frag}{mg:Str->Option Value}{base:Heap}
theorem Fun.ok {x qual:Str} {st:Stmt} {f:Addr} {fd:FuncData} {N ps:List Str} {k:Nat} {sp:Sp} (F:Fun K x qual st f fd) (S:FnScope N ps (Aj st)) (len:∀vs H Q E,sp vs H Q E->vs.length=ps.length)
  (hbody:∀(cdv:Value) (A:Around) (outer:List Env) (s:Shared) (H:Hp) (vs:List V) (Q:VK) (E:XK),Room k (A.deeper (envOfC qual (Aj st) s.heap.objs.size f cdv))->sp vs H Q E->
   ∃t,Lr (Bw CZ P w K mg base N qual (Aj st) f cdv A outer s H E).nox (Ar st) t/\t { nx:=λ_ H'=>Q .non H',rt:=Q } (start N vs) H):FnOk P w K mg base CZ (k+1) f fd ps sp:=by
 obtain⟨oc,od,kV,doc,pm,an,cdv,ct,osl,rfl,lk,hcd⟩:=F.ex;refine SF lk hcd S len λA outer s H vs Q E hr hsp=>?_
 obtain⟨t,h,q⟩:=hbody cdv A outer s H vs Q E hr hsp;exact⟨t,h.nox,q⟩
theorem Fun.binds {x qual:Str} {st:Stmt} {f:Addr} {fd:FuncData} {ps:List Str} (F:Fun K x qual st f fd)
  (h:∀(kV doc pm:Value) (an:Option Addr) (cdv ct:Value) (us:List Value),us.length=ps.length->bindArgs (PySem.W.fnOf x qual (As st) (Ar st) (Aj st) .none kV doc pm an cdv ct) ⟨us,[]⟩=pure (ps.zip us)):Binds K fd ps []:=by
 obtain⟨oc,od,kV,doc,pm,an,cdv,ct,osl,rfl,lk,hcd⟩:=F.ex;exact .all (h kV doc pm an cdv ct)
theorem AE {x qual:Str} {st:Stmt} {f:Addr} {oc:Value} {od an:Option Addr} {osl:Array (Option Value)} {kV doc pm cdv ct:Value} (l:K.lookup f=some ⟨oc,od,.func (PySem.W.fnOf x qual (As st) (Ar st) (Aj st) .none kV doc pm an cdv ct),osl⟩)
  (c:PySem.W.codeIn K cdv qual=true) (k:PySem.W.keepIn K (.ref f)=true):Fun K x qual st f (PySem.W.fnOf x qual (As st) (Ar st) (Aj st) .none kV doc pm an cdv ct):=⟨⟨oc,od,kV,doc,pm,an,cdv,ct,osl,rfl,l,c⟩,k⟩
end
theorem BP {A:Around}{k:Nat}(hr:Room k A):A.units+1<cLine:=Nat.lt_of_le_of_lt (Nat.add_le_add_left (by decide:1<=64) _) hr.units
section
variable {X:Cx}
theorem pv (i:Nat) {x:Str} {pos:Pos} (hN:X.N[i]?=some x:=by rfl) (hv:VF X.env.scope x:=by first|exact Or.inl rfl|exact Or.inr (Or.inl rfl)|exact Or.inr (Or.inr rfl)) (hd:(x == ("__debug__":Str))=false:=by decide)
  (hcd:(x == ("__classdict__":Str))=false:=by decide):PE X (.Name x pos) (Uy i):=TR hN hv hd hcd
end
theorem D0 {c A B:Prop}[Decidable c](h1:c->A)(h2:¬c->B):if c then A else B:=by
 by_cases h:c
 ·rw[aE h];exact h1 h
 ·rw[aH h];exact h2 h
def An (H H':Hp):Prop:=∀b o,H b=some o->H' b=some o
theorem An.refl (H:Hp):An H H:=λ_ _ h=>h
theorem An.trans {H H1 H2:Hp}(a:An H H1)(b:An H1 H2):An H H2:=λc o h=>b c o (a c o h)
theorem An.free {H H':Hp}(e:An H H'){l:Addr}(h:H' l=Option.none):H l=Option.none:=by
 cases q:H l with
 |none=>rfl
 |some o=>
  rw[e l o q] at h;cases h
theorem An.seq {K:PySem.W.Frag}{H H':Hp}{a:Addr}{xs:List V}(e:An H H')(h:AB K H a xs):AB K H' a xs:=by
 rcases h with(h|⟨o,h⟩)|h
 ·exact .inl (.inl (e _ _ h))
 ·exact .inl (.inr ⟨o,e _ _ h⟩)
 ·exact .inr h
end L2
set_option maxHeartbeats 1000000
namespace L2
open PySem PySem.Spec PyProof.Rows
section
variable {prog:Program}{w:World}{A:Around}{env:Env}{elt target iter:Expr}{ifs:List Expr}{scope:Scope}{pos:Pos}{it acc:Value}
abbrev RV (env:Env)(ifs:List Expr):Sem Bool:=forIn ifs true λc r=>(if r=true then(do let ok <-isTrue c env (eval c env);pure (ForInStep.yield ok)) else pure (ForInStep.yield r))
abbrev Oa (prog:Program)(w:World)(A:Around)(env:Env)(elt target:Expr)(ifs:List Expr)(it acc:Value)(Ee:Value->Shared->Prop)(over on:Shared->Prop):Shared->Prop:=
 wpAny (model prog w) A (pyNext it) (fun|none,s1=>over s1|some v,s1=>wpAny (model prog w) A (letOwnedTupleGo target it v) (λ_ s2=>wpAny (model prog w) A (assign target env v) (λ_ s3=>wpAny (model prog w) A (RV env ifs) (λok s4=>
  if ok=true then wpAny (model prog w) A (eval elt env) (λx s5=>wpAny (model prog w) A (call (.builtin "list.append") [acc,x]) (λ_=>on) (λ_ _=>False) s5) Ee s4 else on s4) Ee s3) Ee s2) (λ_ _=>False) s1) (λ_ _=>False)
theorem LB {R:Result->Shared->Prop} {Ee:Value->Shared->Prop} (I:Nat->Shared->Prop) (hE:∀x s,Ee x s->notedBy (model prog w) A env (λx s=>R (.error x) s) x s)
  (turn:∀n s,I n s->Oa prog w A env elt target ifs it acc Ee (R (.ok .next)) (λs'=>∃m,m<n/\I m s') s) (n:Nat) {s:Shared} (h:I n s) :
  codeAny (model prog w) A (.compLoop (.ListComp elt [⟨target,iter,ifs,0⟩] scope pos) 0 it acc env) R s:=by
 have none':∀{Z:Value->Shared->Prop} (x:Value) (s:Shared),False->Z x s:=λ_ _ z=>z.elim
 refine codeAny_loop rfl I (λk s1 h1=>?_) n h
 change wpAny _ A ((compTurn (.ListComp elt [⟨target,iter,ifs,0⟩] scope pos) 0 it acc env).onRaise (λx=>do noteFrame x env;theTreesLotGoes x)) _ _ s1
 refine wpAny_noted ?_;rw[compTurn_list];refine ab (fg (ab (bu (turn k s1 h1) (λr s2 h2=>?_) none')))
 match r,h2 with
 |none,h2=>exact av h2
 |some v,h2=>
  refine ab (bu h2 (λ_ s3 h3=>ab (bu h3 (λ_ s4 h4=>ab (bu h4 (λok s5 h5=>?_) hE)) hE)) none')
  match ok,h5 with
  |false,h5=>exact av ⟨rfl,h5⟩
  |true,h5=>exact ab (ab (bu h5 (λx s6 h6=>ab (bu h6 (λ_ s7 h7=>av (av ⟨rfl,h7⟩)) none')) hE))
theorem ML {R:Result->Shared->Prop}(I:Nat->Shared->Prop)(turn:∀n s,I n s->Oa prog w A env elt target ifs it acc (λ_ _=>False) (R (.ok .next)) (λs'=>∃m,m<n/\I m s') s)(n:Nat){s:Shared}(h:I n s) :
  codeAny (model prog w) A (.compLoop (.ListComp elt [⟨target,iter,ifs,0⟩] scope pos) 0 it acc env) R s:=LB I (λ_ _ z=>z.elim) turn n h
end
def O8 (X:Cx)(ifs:List Expr)(t:TT):Prop:=
 ∀(pins:List (Addr×Obj)) (s:Shared) (σ:St) (H:Hp) (Q:Bool->Hp->Prop),Inv X pins σ H s->t σ H Q->
  wpAny (model X.prog X.w) X.A (forIn ifs true λc r=>if r=true then do let ok <-isTrue c X.env (eval c X.env);pure (ForInStep.yield ok) else pure (ForInStep.yield r)) (TP X pins σ Q) X.xe s
def NB:TT:=λ_ H Q=>Q true H
theorem A6 {X:Cx}:O8 X [] NB:=λ_ _ _ H _ I h=>wpAny_tests_nil ⟨H,I,h⟩
theorem B2 {X:Cx}{c:Expr}{t:TT}(h:PT X c t):O8 X [c] t:=λpins s σ H Q I q=>wpAny_tests_one (h pins s σ H Q I q)
def BD (X:Cx)(scope:Scope)(cl:List (Str×Addr))(N:List Str)(C:Addr)(s:Shared)(H:Hp)(fp:List Addr):Cx:=
 { prog:=X.prog,w:=X.w,K:=X.K,mg:=X.mg,base:=X.base,A:=X.A,N:=N,s₀:=s,H₀:=H,env:=compEnvC scope cl C X.env,outer:=X.stack,stack:=X.stack,ex:=fp,fn:=λ_=>false,calm:=X.calm,pn:=[],xe:=λ_ _=>False }
def stC (fr:List (Option Nat))(σ:St):St:=fr.map λo=>o.bind λi=>(σ[i]?).bind id
def DW (fr:List (Option Nat))(g:TG)(tt:TT)(te:TE)(σ:St)(Q:VK)(J:It)(H1:Hp):Prop:=∀l,H1 l=none->∃W:Nat->Nat->St->Hp->Prop,(∃m,W 0 m (stC fr σ) (upd H1 l (.lst [])))/\∀i m σ H,W i m σ H->
 (J.stop i H/\Q (.ref l) H)\/(J.go i H/\∀x H',J.yld i H x H'->g x σ H' λσ2 H2=>tt σ2 H2 λb H3=>if b=true then te σ2 H3 λv H4=>∃xs,H4 l=some (.lst xs)/\xs.length<sizeLine/\∃m',m'<m/\W (i+1) m' σ2 (upd H4 l (.lst (xs++[v])))
  else ∃m',m'<m/\W (i+1) m' σ2 H3)
def Mf (fr:List (Option Nat))(wi:TI)(g:TG)(tt:TT)(te:TE):TE:=λσ H Q=>wi σ H (DW fr g tt te σ Q)
def G5 (XN:List Str)(xs sc:Scope)(N:List Str)(fr:List (Option Nat)):Bool:=
 decide (sc.kind=.function)&&decide (fr.length=N.length)&&(sc.names.all λy=>!decide (y.2=.cell))&&(sc.names.all λy=>!decide (y.2=.local)||decide (sc.names.lookup y.1=some .local)) &&
 (sc.names.all λy=>!decide (y.2=.free)||(decide (xs.names.lookup y.1=some .cell)||decide (xs.names.lookup y.1=some .free))) &&
 ((N.zip fr).all λp=>match p.2 with|none=>true|some i=>decide (XN[i]?=some p.1)&&decide (sc.names.lookup p.1=some .free))
def Ni (cells:List (Str×Addr)):List (Str×Addr)->Prop
 |[]=>True
 |p::r=>cells.lookup p.1=some p.2/\Ni cells r
theorem Ni.get {cells:List (Str×Addr)}:∀{cl:List (Str×Addr)},Ni cells cl->∀{x:Str} {c:Addr},cl.lookup x=some c->cells.lookup x=some c
 |[],_,_,_,h=>by cases h
 |(y,d)::r,k,x,c,h=>by
  rw[dW] at h;cases e:x == y with
  |true=>
   rw[e] at h;cases h;rw[eq_of_beq e];exact k.1
  |false=>
   rw[e] at h;exact Ni.get k.2 h
def Ik (cl:List (Str×Addr)):List (Str×NameKind)->Prop
 |[]=>True
 |p::r=>(p.2=.free->∃c,cl.lookup p.1=some c)/\Ik cl r
theorem Ik.get {cl:List (Str×Addr)}:∀{ns:List (Str×NameKind)},Ik cl ns->∀y∈ns,y.2=.free->∃c,cl.lookup y.1=some c
 |[],_,_,h=>by cases h
 |p::r,k,y,h=>by
  rcases aL.mp h with rfl|h
  ·exact k.1
  ·exact Ik.get k.2 y h
theorem EH {env:Env}:∀{names:List (Str×NameKind)} {x:Str} {k:NameKind},(names.map λ(n,k)=>if(k == NameKind.free&&env.scope.kind == .function&&env.kindOf n == some .cell) then(n,NameKind.cell) else(n,k)).lookup x=some k->
  names.lookup x=some k\/(k=.cell/\names.lookup x=some .free)
 |[],_,_,h=>by cases h
 |(n,k0)::r,x,k,h=>by
  have ih:=@EH env r x k
  by_cases hc:(k0 == NameKind.free&&env.scope.kind == .function&&env.kindOf n == some .cell)=true
  ·simp only[List.map_cons,if_pos hc,List.lookup_cons] at h;rw[dW];cases e:x == n with
   |true=>
    rw[e] at h;cases h;simp only[Bool.and_eq_true] at hc;have:k0=.free:=by simpa using hc.1.1
    exact .inr ⟨rfl,by rw[this]⟩
   |false=>rw[e] at h;exact ih h
  ·simp only[List.map_cons,if_neg hc,List.lookup_cons] at h;rw[dW];cases e:x == n with
   |true=>rw[e] at h;exact .inl h
   |false=>rw[e] at h;exact ih h
theorem Hg {env:Env}:∀{names:List (Str×NameKind)} {x:Str},names.lookup x=some .free->
  (names.map λ(n,k)=>if(k == NameKind.free&&env.scope.kind == .function&&env.kindOf n == some .cell) then(n,NameKind.cell) else(n,k)).lookup x=some .cell\/
  (names.map λ(n,k)=>if(k == NameKind.free&&env.scope.kind == .function&&env.kindOf n == some .cell) then(n,NameKind.cell) else(n,k)).lookup x=some .free
 |[],_,h=>by cases h
 |(n,k0)::r,x,h=>by
  have ih:=@Hg env r x;rw[dW] at h
  by_cases hc:(k0 == NameKind.free&&env.scope.kind == .function&&env.kindOf n == some .cell)=true
  ·simp only[List.map_cons,if_pos hc,List.lookup_cons];cases e:x == n with
   |true=>exact .inl rfl
   |false=>rw[e] at h;exact ih h
  ·simp only[List.map_cons,if_neg hc,List.lookup_cons];cases e:x == n with
   |true=>rw[e] at h;exact .inr h
   |false=>rw[e] at h;exact ih h
section
variable {X:Cx}
theorem J1 (N:List Str) (fr:List (Option Nat)) {elt tg iter:Expr} {ifs:List Expr} {scope:Scope} {pos fpos:Pos} {wi:TI} {g:TG} {tt:TT} {te:TE} {cl:List (Str×Addr)}
  (hc:X.calm=true) (hi:PI X tg iter wi) (hchk:G5 X.N X.env.scope scope N fr=true) (hclos:closureFor scope X.env=pure cl) (hcl:Ni X.env.cells cl) (hall:Ik cl scope.names)
  (hb:∀(C:Addr) (s:Shared) (H:Hp) (fp:List Addr),PG (BD X scope cl N C s H fp) tg g/\O8 (BD X scope cl N C s H fp) ifs tt/\PE (BD X scope cl N C s H fp) elt te)
  (hs:∀x,foldedSetIterable iter X.env x=pure x) {pins:List (Addr×Obj)} {s:Shared} {σ:St} {H:Hp} {Q:VK} {use:Option (Value->Sem Unit)} {Qc:Value->Shared->Prop} (I:Inv X pins σ H s) (h:Mf fr wi g tt te σ H Q)
  (hfin:∀(l:Addr) (H':Hp) (s':Shared) (C:Addr),Inv X pins σ H' s'->JU X pins H' C->(∃m,s'.heap.Ns C m)->Q (.ref l) H'->compPost (model X.prog X.w) X.A X.xe use Qc (.ref l) C (.ok .next) s') :
  wpAny (model X.prog X.w) X.A (comprehension (.ListComp elt [⟨tg,iter,ifs,0⟩] scope pos) scope X.env fpos (newList []) (firstAsync [⟨tg,iter,ifs,0⟩]) (firstIter [⟨tg,iter,ifs,0⟩] X.env) use) Qc X.xe s:=by
 simp only[G5,Bool.and_eq_true,decide_eq_true_eq,List.all_eq_true,Bool.or_eq_true,Bool.not_eq_true',decide_eq_false_iff_not] at hchk;obtain⟨⟨⟨⟨⟨hkind,hlen⟩,hcell⟩,hnames⟩,hfree⟩,hfr⟩:=hchk;have hnames':∀x∈scope.names,x.2=.local->scope.names.lookup x.1=some .local:=λy hy e=>(hnames y hy).resolve_left λz=>z e
 have hcell':∀x∈scope.names,x.2≠.cell:=λy hy=>hcell y hy
 refine wpAny_comprehension_free (use:=use) rfl hs hclos hkind hnames' (Bd (hi pins s σ H _ I h) λv s1 h1=>Bd h1 λitv s2 h2=>?_);obtain⟨it,fp,tn,J,H2,e,I2,T,st2,f2,hQ⟩:=h2;subst e;refine cB (hd:=by size_fits) (wpAny_newFunctionEnv hcell' (by intro y hy;simp at hy) (λh₁ hns hsb=>?_) hkind);dsimp only at hns hsb ⊢;obtain⟨W,⟨m0,w0⟩,turn⟩:=hQ s2.heap.objs.size I2.fresh;have I3:Inv X pins σ (upd H2 s2.heap.objs.size (.lst [])) { s2 with heap:=s2.heap.push { cls:=.type "list",data:=.seq ([]:List Value).toArray },toks:=s2.toks }:=I2.lnew (its:=[]) .nil (bw _);generalize hh3:s2.heap.push { cls:=.type "list",dict:=none,data:=.seq ([]:List Value).toArray }=h3 at hns hsb ⊢;rw[show s2.heap.push { cls:=.type "list",data:=.seq ([]:List Value).toArray }=h3 from hh3] at I3;generalize hH3:upd H2 s2.heap.objs.size (.lst [])=H3 at I3 w0;generalize hl:s2.heap.objs.size=l at turn hH3 ⊢;have hl3:l<h3.objs.size:=by rw[<-hh3,<-hl,bP];exact cN _
 generalize hs3:({ s2 with heap:=h3,toks:=s2.toks }:Shared)=s3 at I3;have es3:s3.heap=h3:=by rw[<-hs3]
 have eos:s3.os=s2.os:=by rw[<-hs3]
 have egens:s3.gens=s2.gens:=by rw[<-hs3]
 generalize hC:h3.objs.size=C at hns hsb ⊢;have old:∀b o,h3.get? b=some o->h₁.get? b=some o:=λb o e=>
  hsb.extBut b o (by rw[<-hC];exact aN (aD e)) (af _ e)
 have f3:∀b∈fp,JU X pins H3 b:=λb hb=>by
  obtain⟨g0,g1⟩:=f2 b hb;refine⟨?_,g1⟩;rw[<-hH3];have:b≠l:=by
   obtain⟨o,e,_⟩:=T.obj _ _ st2 b hb;rw[<-hl];exact aN (aD e)
  rw[Af this];exact g0
 have st3:tn 0 h₁:=T.keep _ _ _ st2 λb hb o e=>old b o (by rw[<-hh3];exact af _ e)
 have ok:(BD X scope cl N C s3 H3 fp).Ok:=by
  refine⟨I3.ok.mod,?_,I3.ok.glob,I3.ok.blt,?_,λx y c e1 e2=>I3.ok.inj x y c (hcl.get e1) (hcl.get e2),λx hx=>?_,λx c hx=>(by cases hx),I3.ok.hd,I3.ok.frames,.inl rfl,λb hb=>?_,λb o e=>?_,?_,λb o e hb=>?_,λb hb hb2=>?_,?_,λb hb=>?_⟩
  ·exact hkind
  ·show s3.heap.objs.size<=C;rw[es3,hC];exact ak _
  ·have hx':(relabel scope X.env).names.lookup x=some .cell\/(relabel scope X.env).names.lookup x=some .free:=hx;have:scope.names.lookup x=some .free:=by
    rcases hx' with z|z
    ·rcases EH z with q|⟨_,q⟩
     ·exact absurd rfl (hcell' _ (bQ q))
     ·exact q
    ·rcases EH z with q|⟨q,_⟩
     ·exact q
     ·cases q
   exact hall.get _ (bQ this) rfl
  ·obtain⟨g0,g1,g2,g3,g4,g5⟩:=f3 b hb;obtain⟨o,e,_⟩:=T.obj _ _ st2 b hb;refine⟨?_,λx c e=>g4 x c (hcl.get e)⟩;show b≠C;rw[<-hC];exact aN (aD (by rw[<-hh3];exact af _ e))
  ·have q:=I3.bs b o e;exact q
  ·show X.base.objs.size<=s3.heap.objs.size;exact bq I3.ok.bsz I3.sz
  ·obtain⟨g0,g1,g2,g3,g4,g5⟩:=f3 b hb;rcases g3 with z|z
   ·exact I3.ok.noex b o e z
   ·exact absurd (aY (aD e) (bq I3.ok.bsz z)) (cQ _)
  ·obtain⟨g0,g1,g2,g3,g4,g5⟩:=f3 b hb;rcases aL.mp (I3.stkSub b hb2) with z|z
   ·exact g1 z
   ·exact g2 z
  ·show s3.heap.FunFrames X.base X.stack;exact I3.stack
  ·exact I3.stkFree b hb
 have I4:Inv (BD X scope cl N C s3 H3 fp) [] (stC fr σ) H3 { s2 with heap:=h₁,toks:=s2.toks+([]:List (Str×Value)).length }:=by
  have hk3:∀b o,s3.heap.get? b=some o->h₁.get? b=some o:=λb o e=>old b o (by rw[<-es3];exact e)
  refine⟨ok,eos.symm▸rfl,egens▸I3.bare,Un.kept hk3,⟨_,hns,λi x v e1 e2 e3=>?_⟩,λx c e=>?_,?_,λx c e=>I3.freeC x c (hcl.get e),λp hp=>(by cases hp),I3.hok.kept hk3,?_⟩
  ·
   have e1':N[i]?=some x:=e1;have e2':(fr[i]?).map (λo=>o.bind λi=>(σ[i]?).bind id)=some (some v):=by
    have:(stC fr σ)[i]?=some (some v):=e2;rw[stC,aB] at this;exact this
   cases q:fr[i]? with
   |none=>rw[q] at e2';cases e2'
   |some o=>
    rw[q] at e2';cases o with
    |none=>cases e2'
    |some j=>
     have e2'':(σ[j]?).bind id=some v:=aA e2';obtain⟨p1,p2⟩:X.N[j]?=some x/\scope.names.lookup x=some .free:=by
      have hz:(x,some j)∈N.zip fr:=by
       have:(N.zip fr)[i]?=some (x,some j):=by
        rw[List.getElem?_zip_eq_some];exact⟨e1',q⟩
       exact az this
      have:=hfr _ hz;simpa using this
     have hv:X.env.scope.names.lookup x=some .cell\/X.env.scope.names.lookup x=some .free:=by
      rcases hfree _ (bQ p2) with z|z
      ·exact absurd rfl z
      ·simpa using z
     have e3':σ[j]?=some (some v):=by
      cases q3:σ[j]? with
      |none=>rw[q3] at e2'';cases e2''
      |some w'=>rw[q3] at e2'';have:w'=some v:=e2'';rw[this]
     obtain⟨m,hn,hl'⟩:=I3.loc;obtain⟨u,ru,lk⟩:=hl' j x v p1 e3' (.inr hv);refine⟨u,ru,.inr ⟨Hg p2,?_⟩⟩;rcases lk with⟨lk,_⟩|⟨_,c,ec,cc⟩
     ·have lk':X.env.scope.names.lookup x=some .local:=lk;rcases hv with z|z<;>(rw[z] at lk';cases lk')
     ·obtain⟨c',ec'⟩:=hall.get _ (bQ p2) rfl;have:=hcl.get ec';rw[ec] at this;cases this;obtain⟨o,ho,hd⟩:=cc;exact⟨c,ec',o,hk3 _ _ ho,hd⟩
  ·obtain⟨v,o,ho,hd⟩:=I3.cell x c (hcl.get e);exact⟨v,o,hk3 _ _ ho,hd⟩
  ·show H3 C=none;exact I3.hok.fresh (by rw[es3,hC];exact ak _)
  ·show(stC fr σ).length=N.length;rw[stC,aa];exact hlen
 obtain⟨hg,ht,he⟩:=hb C s3 H3 fp;have fpc:∀{H':Hp},(∀b∈fp,H' b=none)->∀b∈fp,JU (BD X scope cl N C s3 H3 fp) [] H' b:=λhn b hb=>by
  obtain⟨q1,q2⟩:=ok.exf b hb;exact⟨hn b hb,q1,ok.exfs b hb,.inl hb,q2,λp hp=>by cases hp⟩
 have fin:∀(σ':St) (H':Hp) (s':Shared),Inv (BD X scope cl N C s3 H3 fp) [] σ' H' s'->Q (.ref l) H'->compPost (model X.prog X.w) X.A X.xe use Qc (.ref l) C (.ok .next) s':=λσ' H' s' I' q=>by
  obtain⟨m,hn,_⟩:=I'.loc;have nC:∀b o,s3.heap.get? b=some o->b≠C:=λb o e=>by
   rw[<-hC,<-es3];exact aN (aD e)
  have fC:H' C=none:=I'.free;have u:=I'.base;refine hfin l H' s' C ?_ (I3.fpOk (by rw[es3,hC];exact ak _) fC) ⟨m,hn⟩ q;refine I3.call' (s':=s') (ch:=fp) I'.os ⟨λb o e n hb hx=>u.keep b o e n hb hx,λb o e n hb hx=>u.slot b o e n hb hx,u.free,λb o e hx=>u.there b o e hx,u.tups,u.frzs,u.tbls⟩ (λb o e=>I'.hok b o e) I'.bare λb hb=>?_
  obtain⟨g0,g1,g2,g3,g4,g5⟩:=f3 b hb;exact⟨g3,g1,g4,g5⟩
 have loop:codeAny (model X.prog X.w) X.A (.compLoop (.ListComp elt [⟨tg,iter,ifs,0⟩] scope pos) 0 (.ref it) (.ref l) (compEnvC scope cl C X.env)) (compPost (model X.prog X.w) X.A X.xe use Qc (.ref l) C)
   { s2 with heap:=h₁,toks:=s2.toks+([]:List (Str×Value)).length }:=by
  refine ML (λn s'=>∃i σ' H',Inv (BD X scope cl N C s3 H3 fp) [] σ' H' s'/\tn i s'.heap/\(∀b∈fp,H' b=none)/\W i n σ' H') ?_ m0 ⟨0,_,H3,I4,st3,λb hb=>(f3 b hb).1,w0⟩
  rintro n s5 ⟨i,σ5,H5,I5,st5,fr5,w5⟩
  rcases turn i n σ5 H5 w5 with⟨stop,qn⟩|⟨go,step⟩
  ·refine Bd (T.done (BD X scope cl N C s3 H3 fp) rfl rfl rfl hc i [] s5 σ5 H5 (λ_ _=>False) I5 (fpc fr5) st5 stop) λr s6 ⟨hr,I6⟩=>?_
   subst hr;exact fin σ5 H5 s6 I6 qn
  ·refine Bd (T.item (BD X scope cl N C s3 H3 fp) rfl rfl rfl hc i [] s5 σ5 H5 (λ_ _=>False) I5 (fpc fr5) st5 go) λr s6 ⟨u,hr,h6⟩=>?_
   subst hr;refine Bd h6 λ_ s7 z9=>?_
   obtain⟨x,H7,I7,r7,y7,st7,fr7⟩:=z9;have I7':=I7.pinned (fpc fr7) (T.obj _ _ st7);refine Bd (hg _ s7 σ5 H7 x u _ I7' r7 (step x H7 y7)) λ_ s8 ⟨σ8,H8,I8,q8⟩=>?_
   have again:∀{σ9:St} {H9:Hp} {s9:Shared},Inv (BD X scope cl N C s3 H3 fp) ([]++I0 fp s7.heap) σ9 H9 s9->(∃m',m'<n/\W (i+1) m' σ9 H9)->∃m,m<n/\∃i σ' H',Inv (BD X scope cl N C s3 H3 fp) [] σ' H' s9/\tn i s9.heap/\(∀b∈fp,H' b=none)/\W i m σ' H':=λ{σ9 H9 s9} I9 n9=>by
    obtain⟨m',hm,w9⟩:=n9;refine⟨m',hm,i+1,σ9,H9,I9.unpinned,T.keep _ _ _ st7 λb hb o e=>(I9.pin (b,o) (aC _ (aC _ (Fs hb e)))).1,λb hb=>?_,w9⟩;obtain⟨o,e,d⟩:=T.obj _ _ st7 b hb;exact(I9.pin (b,o) (aC _ (aC _ (Fs hb e)))).2.1
   refine Bd (ht _ s8 σ8 H8 _ I8 q8) λok s9 ⟨H9,I9,q9⟩=>?_
   cases ok with
   |false=>
    rw[aH ay] at q9 ⊢;exact again I9 q9
   |true=>
    rw[aE rfl] at q9 ⊢;refine Bd (he _ s9 σ8 H9 _ I9 q9) λy sa ⟨vy,Ha,Ia,ry,qa⟩=>?_
    obtain⟨xs,hla,hsz,n9⟩:=qa;refine Bd (Bo _ sa σ8 Ha (.ref l) [vy] (.ref l) [y] (λ_ Hb=>∃m',m'<n/\W (i+1) m' σ8 Hb) Ia rfl (.cons ry .nil) ⟨l,xs,vy,rfl,rfl,hla,hsz,n9⟩) λ_ sb ⟨_,Hb,Ib,_,qb⟩=>?_
    exact again Ib qb
 show codeAny (model X.prog X.w) X.A (.compStart (.ListComp elt [⟨tg,iter,ifs,0⟩] scope pos) 0 (.ref it) (.ref l) (compEnvC scope cl C X.env)) (compPost (model X.prog X.w) X.A X.xe use Qc (.ref l) C) { s2 with heap:=h₁,toks:=s2.toks+([]:List (Str×Value)).length };exact codeAny_compStart_list loop (T.self _ 0 _ _ _ st3 loop)
theorem DM (N:List Str) (fr:List (Option Nat)) {elt tg iter:Expr} {ifs:List Expr} {scope:Scope} {pos:Pos} {wi:TI} {g:TG} {tt:TT} {te:TE} {cl:List (Str×Addr)}
  (hc:X.calm=true) (hi:PI X tg iter wi) (hchk:G5 X.N X.env.scope scope N fr=true) (hclos:closureFor scope X.env=pure cl) (hcl:Ni X.env.cells cl) (hall:Ik cl scope.names)
  (hb:∀(C:Addr) (s:Shared) (H:Hp) (fp:List Addr),PG (BD X scope cl N C s H fp) tg g/\O8 (BD X scope cl N C s H fp) ifs tt/\PE (BD X scope cl N C s H fp) elt te)
  (hs:∀x,foldedSetIterable iter X.env x=pure x:=by intro _;rfl) :
  PE X (.ListComp elt [⟨tg,iter,ifs,0⟩] scope pos) (Mf fr wi g tt te):=by
 intro pins s σ H Q I h;rw[eval_ListComp];refine J1 N fr hc hi hchk hclos hcl hall hb hs I h λl H' s' C I' fC ⟨m,hn⟩ q=>?_
 refine⟨m,hn,λh'' hs''=>⟨.ref l,H',?_,rfl,q⟩⟩;obtain⟨f0,f1,f2,f3,f4,f5⟩:=fC;exact I'.turned (t':=s'.toks) (λb o hb e=>(hs''.2 b hb).trans e) f0 f1 f3 f4 f5
theorem Fo (N:List Str) (fr:List (Option Nat)) {i:Nat} {x:Str} {elt tg iter:Expr} {ifs:List Expr} {scope:Scope} {cpos pos pos':Pos} {wi:TI} {g:TG} {tt:TT} {te:TE} {cl:List (Str×Addr)}
  (hN:X.N.Nodup) (hi':X.N[i]?=some x) (hx:Loc X.env.scope x)
  (hc:X.calm=true) (hi:PI X tg iter wi) (hchk:G5 X.N X.env.scope scope N fr=true) (hclos:closureFor scope X.env=pure cl) (hcl:Ni X.env.cells cl) (hall:Ik cl scope.names)
  (hb:∀(C:Addr) (s:Shared) (H:Hp) (fp:List Addr),PG (BD X scope cl N C s H fp) tg g/\O8 (BD X scope cl N C s H fp) ifs tt/\PE (BD X scope cl N C s H fp) elt te)
  (hs:∀x,foldedSetIterable iter X.env x=pure x:=by intro _;rfl)
  (hsw:swapsWith (.ListComp elt [⟨tg,iter,ifs,0⟩] scope cpos) (some (.Name x pos')) pos.line X.env=pure true:=by rfl)
  (hf:X.fn x=true\/X.env.scope.names.lookup x=some .local:=by first|exact .inl rfl|exact .inr rfl|assumption) :
  PS X (.Assign [.Name x pos'] (.ListComp elt [⟨tg,iter,ifs,0⟩] scope cpos) pos) (RY (Mf fr wi g tt te) (Az i)):=by
 intro pins s σ H D I h;rw[exec_Assign_arm];refine ab (fg ?_);rw[show swapsWithSole [.Name x pos'] (.ListComp elt [⟨tg,iter,ifs,0⟩] scope cpos) pos.line X.env=pure true from hsw];refine ab (av ?_);rw[aE rfl,arm_evalThenUse_ListComp];refine ab (ab ?_);have h1:Mf fr wi g tt te σ H λv H1=>D.nx (σ.set i (some v)) H1:=h
 refine J1 (use:=some _) N fr hc hi hchk hclos hcl hall hb hs I h1 λl H' s' C I' fC ⟨m,hn⟩ q=>?_
 obtain⟨f0,f1,f2,f3,f4,f5⟩:=fC;obtain⟨o,es,ep,ho,hd,hk,hm⟩:=hn;have Ip:Inv X (pins++[(C,o)]) σ H' s':=I'.pins_of λp hp=>(au.mp hp).elim (λz=>I'.pin p (aC _ z)) λz=>by
  rw[ai.mp z];exact⟨ho,f0,f1,f2,λv e=>by rw[hd] at e;cases e⟩
 show wpAny _ _ (assignAll (.ref l) [assign (.Name x pos') X.env]) _ _ _;rw[assignAll.eq_2];refine wpAny_assign_Name (JJ Ip hN hi' hx (v:=.ref l) rfl (λs2 I2=>?_) hf);have ho2:=(I2.pin (C,o) (aC _ (aC _ (List.mem_singleton_self _)))).1;refine⟨m,⟨o,es,ep,ho2,hd,hk,hm⟩,λh' hs'=>av (av ⟨_,H',?_,q⟩)⟩;exact I2.unpinned.turned (t':=s2.toks) (λb o hb e=>(hs'.2 b hb).trans e) f0 f1 f3 f4 f5
def Ml (sc:Scope):Bool:=
 decide (sc.kind=.function)&&(sc.names.all λy=>!decide (y.2=.cell))&&(sc.names.all λy=>!decide (y.2=.local)||decide (sc.names.lookup y.1=some .local))&&(sc.names.all λy=>!decide (y.2=.free))
theorem BA (N:List Str) {elt tg iter:Expr} {ifs:List Expr} {scope:Scope} {pos:Pos} {wi:TI} {g:TG} {tt:TT} {te:TE}
  (hc:X.calm=true) (hi:PI X tg iter wi) (hchk:Ml scope=true)
  (hb:∀(C:Addr) (s:Shared) (H:Hp) (fp:List Addr),PG (BD X scope [] N C s H fp) tg g/\O8 (BD X scope [] N C s H fp) ifs tt/\PE (BD X scope [] N C s H fp) elt te)
  (hs:∀x,foldedSetIterable iter X.env x=pure x:=by intro _;rfl) :
  PE X (.ListComp elt [⟨tg,iter,ifs,0⟩] scope pos) (Mf (N.map λ_=>none) wi g tt te):=by
 simp only[Ml,Bool.and_eq_true,decide_eq_true_eq,List.all_eq_true,Bool.or_eq_true,Bool.not_eq_true',decide_eq_false_iff_not] at hchk;obtain⟨⟨⟨hkind,hcell⟩,hnames⟩,hfree⟩:=hchk;refine DM (cl:=[]) N (N.map λ_=>none) hc hi ?_ (closureFor_none λx hx=>hfree x hx) trivial ?_ hb hs
 ·simp only[G5,Bool.and_eq_true,decide_eq_true_eq,List.all_eq_true,Bool.or_eq_true,Bool.not_eq_true',decide_eq_false_iff_not];refine⟨⟨⟨⟨⟨hkind,by simp⟩,hcell⟩,hnames⟩,λy hy=>.inl (hfree y hy)⟩,λp hp=>?_⟩;have:p.2∈N.map λ_=>(none:Option Nat):=(eA hp).2
  obtain⟨_,_,e⟩:=ah.mp this;rw[<-e]
 ·have:∀ns:List (Str×NameKind),(∀y∈ns,y.2≠.free)->Ik [] ns:=by
   intro ns
   induction ns with
   |nil=>intro _;exact trivial
   |cons p r ih=>intro h;exact⟨λe=>absurd e (h p ax),ih λy hy=>h y (aM _ hy)⟩
  exact this _ λy hy=>hfree y hy
end
def Def (P:Program)(w:World)(K:PySem.W.Frag)(mg:Str->Option Value)(base:Heap)(k:Nat)(x:Str)(ps:List Str)(sp:Sp):Prop:=
 ∃(f:Addr) (fd:FuncData),FnOk P w K mg base CZ k f fd ps sp/\mg x=some (.ref f)/\PySem.W.keepIn K (.ref f)=true/\Binds K fd ps []
section
variable {X:Cx}{k:Nat}{x:Str}{ps:List Str}{sp:Sp}{e:Expr}{es:List Expr}{t:TA}{p pos:Pos}
theorem AU (D:Def X.prog X.w X.K X.mg X.base k x ps sp) (hr:Room k X.A) (hg:Gl X x) (ha:PA X (e::es) t)
  (hdb:(x == ("__debug__":Str))=false:=by decide) (he:starEach (e::es) X.env=(false,eval e X.env)::starEach es X.env:=by rfl) (hpl:(backTo pos (starEach es X.env)).any (·.1)=false:=by rfl) :
  PE X (.Call (.Name x p) (e::es) [] pos) (SO sp [] E0 t):=by
 obtain⟨f,fd,F,hm,hk,hb⟩:=D;exact RT F hr hg hm hk hb .nil NH ha hdb he hpl
end
section
variable {X:Cx}
theorem Bi {x:Str}{i:Int}{pos:Pos}(hg:Gl X x)(hm:∃t,X.mg x=some (.int i t))(hd:(x == ("__debug__":Str))=false:=by decide):PE X (.Name x pos) (tC (.int i)):=by
 obtain⟨t,hm⟩:=hm;exact NO hg hm ⟨_,rfl⟩ hd
theorem J8 {x:Str}{T:String}{pos:Pos}(hg:Gl X x)(hm:X.mg x=none)(hv:bootBuiltins x=some (.type T))(hn:x≠"__name__":=by decide)(hd:(x == ("__debug__":Str))=false:=by decide):PE X (.Name x pos) (tC (.ty T)):=Sq hg hm hv rfl hn hd
theorem JF {x z:Str}{pos:Pos}(hg:Gl X x)(hm:∃t,X.mg x=some (.str z t))(hd:(x == ("__debug__":Str))=false:=by decide):PE X (.Name x pos) (tC (.str z)):=by
 obtain⟨t,hm⟩:=hm;exact NO hg hm ⟨_,rfl⟩ hd
end
theorem BU:bootBuiltins "isinstance"=some (.builtin "isinstance"):=by decide +kernel
theorem Ql:bootBuiltins "all"=some (.builtin "all"):=by decide +kernel
theorem Tx:bootBuiltins "sum"=some (.builtin "sum"):=by decide +kernel
theorem CY:bootBuiltins "sorted"=some (.builtin "sorted"):=by decide +kernel
theorem Cy:bootBuiltins "len"=some (.builtin "len"):=by decide +kernel
theorem Tu:bootBuiltins "max"=some (.builtin "max"):=by decide +kernel
theorem Uc:bootBuiltins "min"=some (.builtin "min"):=by decide +kernel
theorem Nr:bootBuiltins "int"=some (.type "int"):=by decide +kernel
theorem Rz:bootBuiltins "bool"=some (.type "bool"):=by decide +kernel
theorem Qp:bootBuiltins "str"=some (.type "str"):=by decide +kernel
theorem DN:bootBuiltins "list"=some (.type "list"):=by decide +kernel
theorem G9:bootBuiltins "tuple"=some (.type "tuple"):=by decide +kernel
theorem N8:bootBuiltins "dict"=some (.type "dict"):=by decide +kernel
theorem Uh {t c:String}{b:Bool}(h:(if(Value.type t == Value.type c)=true then some true else if PySem.W.kitMeta c=true then(fastBuiltinMro t).map (·.contains (.type c)) else none)=some b)(K:PySem.W.Frag) :
  PySem.W.kitOne K (.type t) (.type c)=some b:=h
section
variable {X:Cx}
def VG (K:PySem.W.Frag):List V->Hp->VK->Prop:=λxs H Q=>∃x c t b,xs=[x,.ty c]/\TyOf K H x t/\PySem.W.kitOne K t (.type c)=some b/\Q (.bl b) H
theorem CH:Dw X (.builtin "isinstance") (VG X.K):=by
 intro pins s σ H xs us Q I r h;obtain⟨x,c,t,b,rfl,ty,e,q⟩:=h;obtain⟨u,v,rfl,ru,rv⟩:=vals2 r;have ev:v=Value.type c:=rv;subst ev;exact O4 I ru ty e λtk=>⟨.bl b,H,I.tok _,rfl,q⟩
end
def Du:V->Bool
 | .non=>true
 | .int _=>true
 | .str _=>true
 |_=>false
theorem Gj {x:V}(h:Du x=true):Ez x=true:=by
 cases x<;>first|rfl|exact h
theorem pure_eq {x y:V}(hx:Du x=true)(hy:Du y=true):LW x y=decide (x=y):=by
 cases x<;>first|exact absurd (show false=true from hx) ay|skip
 all_goals (cases y<;>first|exact absurd (show false=true from hy) ay|skip)
 ·rfl
 ·rfl
 ·rfl
 ·rfl
 ·exact KZ.symm
 ·rfl
 ·rfl
 ·rfl
 ·exact K4.symm
theorem Gu:∀(xs ys:List V),xs.length=ys.length->xs.all Du=true->ys.all Du=true->
  ((List.range xs.length).all λi=>LW (xs.getD i .non) (ys.getD i .non))=decide (xs=ys):=by
 intro xs
 induction xs with
 |nil=>
  intro ys hl _ _;cases ys with
  |nil=>rfl
  |cons _ _=>simp at hl
 |cons x xs ih=>
  intro ys hl hx hy;cases ys with
  |nil=>simp at hl
  |cons y ys=>
   rw[dP,aU] at hx hy;have q:=ih ys (by simpa using hl) hx.2 hy.2;rw[bc,List.range_succ_eq_map,dP,fX];have e0:((λi=>LW ((x::xs).getD i .non) ((y::ys).getD i .non))∘Nat.succ)=λi=>LW (xs.getD i .non) (ys.getD i .non):=by
    funext i;simp
   rw[e0,q];show(LW x y&&decide (xs=ys))=_;rw[pure_eq hx.1 hy.1]
   by_cases h1:x=y
   ·by_cases h2:xs=ys<;>simp[h1,h2]
   ·simp[h1]
theorem IM {xs:List V}{us:List Value}(r:AD xs us){j:Nat}(hj:j<us.length):∃x,xs[j]?=some x/\RelV x us[j]:=by
 have hl:=r.length;obtain⟨u,e1,e2⟩:=r.get (i:=j) (x:=xs[j]'(by omega)) (by simp[show j<xs.length by omega]);refine⟨xs[j]'(by omega),by simp[show j<xs.length by omega],?_⟩;rw[ae hj] at e1;cases e1;exact e2
section
variable {X:Cx}
theorem Pj {A:Around} {s:Shared} {a b:Addr} {xs ys:List V} {its its2:List Value} (hu:A.units<cLine) (r1:AD xs its) (r2:AD ys its2) (h1:s.heap.IsList a its.toArray) (h2:s.heap.IsList b its2.toArray)
  (f1:xs.all Du=true) (f2:ys.all Du=true):SeqAt.RcAt A s (.ref a) (.ref b) (decide (xs=ys)):=by
 have l1:=r1.length;have l2:=r2.length
 by_cases hl:xs.length=ys.length
 ·have q:=fM (A:=A) (s:=s) (e:=λi=>LW (xs.getD i .non) (ys.getD i .non)) h1 h2 (by simp;omega) hu (λj g1 g2=>by
   have g1':j<its.length:=by simpa using g1
   have g2':j<its2.length:=by simpa using g2
   obtain⟨x,e1,rx⟩:=IM r1 g1';obtain⟨y,e2,ry⟩:=IM r2 g2';have p1:Du x=true:=aX.mp f1 x (az e1);have p2:Du y=true:=aX.mp f2 y (az e2);have:=Jy (A:=A.in1) (s:=s) rx ry (Gj p1) (Gj p2);simpa [List.getD,e1,e2] using this)
  have e:(its.toArray.size)=xs.length:=by simp;omega
  rw[e,Gu xs ys hl f1 f2] at q;exact q
 ·have e:decide (xs=ys)=false:=aZ λz=>hl (by rw[z])
  rw[e];exact gH h1 h2 (by simp;omega) hu
def UR (K:PySem.W.Frag)(neg:Bool):R2:=λx y H Q=>∃a b xs ys,x=.ref a/\y=.ref b/\AB K H a xs/\AB K H b ys/\xs.all Du=true/\ys.all Du=true/\Q (.bl (if neg then !decide (xs=ys) else decide (xs=ys))) H
theorem Vm (hu:X.A.units+1<cLine):Fu X (compareOp .Eq) (UR X.K false):=by
 intro pins s σ H x y v u Q I rx ry h;obtain⟨a,b,xs,ys,rfl,rfl,h1,h2,f1,f2,q⟩:=h;cases rx;cases ry;obtain⟨its,r1,p1,_⟩:=I.list h1;obtain⟨its2,r2,p2,_⟩:=I.list h2;exact Pj (by omega) r1 r2 p1.isList p2.isList f1 f2 _ _ _ _ ⟨.bl _,H,I,rfl,q⟩
theorem Np {A:Around} {s:Shared} {a b:Addr} {xs ys:List V} {its its2:List Value} (hu:A.units<cLine) (r1:AD xs its) (r2:AD ys its2) (h1:s.heap.IsList a its.toArray) (h2:s.heap.IsList b its2.toArray)
  (f1:xs.all Du=true) (f2:ys.all Du=true):SeqAt.RcNeAt A s (.ref a) (.ref b) (!decide (xs=ys)):=by
 have l1:=r1.length;have l2:=r2.length
 by_cases hl:xs.length=ys.length
 ·have q:=SeqAt.RcNeAt.lists (A:=A) (s:=s) (e:=λi=>LW (xs.getD i .non) (ys.getD i .non)) h1 h2 (by simp;omega) hu (λj g1 g2=>by
   have g1':j<its.length:=by simpa using g1
   have g2':j<its2.length:=by simpa using g2
   obtain⟨x,e1,rx⟩:=IM r1 g1';obtain⟨y,e2,ry⟩:=IM r2 g2';have p1:Du x=true:=aX.mp f1 x (az e1);have p2:Du y=true:=aX.mp f2 y (az e2);have:=Jy (A:=A.in1) (s:=s) rx ry (Gj p1) (Gj p2);simpa [List.getD,e1,e2] using this)
  have e:(its.toArray.size)=xs.length:=by simp;omega
  rw[e,Gu xs ys hl f1 f2] at q;exact q
 ·have e:decide (xs=ys)=false:=aZ λz=>hl (by rw[z])
  rw[e];exact gq h1 h2 (by simp;omega) hu
theorem Pg (hu:X.A.units+1<cLine):Fu X (compareOp .NotEq) (UR X.K true):=by
 intro pins s σ H x y v u Q I rx ry h;obtain⟨a,b,xs,ys,rfl,rfl,h1,h2,f1,f2,q⟩:=h;cases rx;cases ry;obtain⟨its,r1,p1,_⟩:=I.list h1;obtain⟨its2,r2,p2,_⟩:=I.list h2;exact Np (by omega) r1 r2 p1.isList p2.isList f1 f2 _ _ _ _ ⟨.bl _,H,I,rfl,q⟩
end
theorem Ij:∀{bs:List Bool} {us:List Value},AD (bs.map V.bl) us->LSm.BoolsAre us bs
 |[],_,.nil=>.nil
 |b::bs,_,.cons r t=>by
  have e:_=Value.bool b:=r;subst e;exact .cons b (Ij t)
section
variable {prog:Program}{w:World}{A:Around}{E:Value->Shared->Prop}{s:Shared}{l:Addr}{vs:List Value}
theorem Px {bs:List Bool} {Q:Value->Shared->Prop} (hh:A.handled=none) (hl:s.heap.IsList l vs.toArray) (hb:LSm.BoolsAre vs bs)
  (h:∀h' tk,(∀b o,s.heap.get? b=some o->h'.get? b=some o)->Q (.bool (bs.all id)) { s with heap:=h',toks:=tk }):wpAny (model prog w) A (call (.builtin "all") [.ref l]) Q E s:=by
 have below:l<s.heap.objs.size:=(λ⟨_,e,_⟩=>aD e:s.heap.IsList l vs.toArray->_) hl;have whole:((List.range vs.toArray.size).all λi=>(bs[i]?).getD true)=bs.all id:=by rw[aF,hb.length,LSm.range_all]
 exact call_all_walk (dv hl ⟨s.heap.objs.size,[s.heap.objs.size,l],[s.heap.objs.size],vs.toArray.size,_,_,λi=>(bs[i]?).getD true,rfl,gm (A:=A.in1) hh _ l (aN below) vs.toArray,⟨⟨_,aG _ rfl,rfl,rfl⟩,hl.push _⟩,
  (λi v s' Q' E' hP hQ=>by
   obtain⟨b,hg,hv⟩:=hb.get i v (by simpa using hP);have hQ':Q' b s':=by simpa [hg] using hQ
   subst hv;exact bU hQ'),
  λh' tk hk=>whole▸h h' tk (LSm.kept_iter hk)⟩)
end
section
variable {X:Cx}
theorem LD (hc:X.calm=true):Dw X (.builtin "all") (λxs H Q=>∃(a:Addr) (bs:List Bool),xs=[.ref a]/\AB X.K H a (bs.map V.bl)/\Q (.bl (bs.all id)) H):=by
 intro pins s σ H xs us Q I r h;obtain⟨a,bs,rfl,h1,q⟩:=h;obtain⟨u,rfl,ru⟩:=vals1 r;cases ru;obtain⟨its,r1,p1,_⟩:=I.list h1;exact Px (I.ok.hd hc) p1.isList (Ij r1) λh' tk hk=>⟨.bl _,H,I.kept hk,rfl,q⟩
theorem Pc (hc:X.calm=true):Dw X (.builtin "sum") (λxs H Q=>∃(a:Addr) (ns:List Int),xs=[.ref a]/\AB X.K H a (ns.map V.int)/\Q (.int ns.sum) H):=by
 intro pins s σ H xs us Q I r h;obtain⟨a,ns,rfl,h1,q⟩:=h;obtain⟨u,rfl,ru⟩:=vals1 r;cases ru;obtain⟨its,r1,p1,_⟩:=I.list h1;have hi:=intsAre_of r1;obtain⟨zs,hz⟩:=hi.allInts.items;have due:preSum (numAt zs) zs.size=ns.sum:=by
  have:zs.toList.map (·.1)=ns:=by rw[<-nums_intItems,<-hz];exact hi.numsOf
  rw[<-this,preSum_eq,ba (by simp)]
 exact sum_intListG (I.ok.hd hc) (hz▸p1.isList) λh' tk t' hk=>⟨.int ns.sum,H,I.kept hk,⟨_,by rw[due]⟩,q⟩
def UF (K:PySem.W.Frag):R2:=λx y H Q=>∃l b xs zs,x=.ref l/\y=.ref b/\AB K H l xs/\AB K H b zs/\xs.length+zs.length<=sizeLine/\∀p,H p=none->Q (.ref p) (upd H p (.lst (xs++zs)))
theorem G2:Fu X (binaryOp .Add) (UF X.K):=by
 intro pins s σ H x y v u Q I rx ry h;obtain⟨l,b,xs,zs,rfl,rfl,h1,h2,hz,q⟩:=h;cases rx;cases ry;obtain⟨its,r,p1,_⟩:=I.list h1;obtain⟨its2,r2,p2,_⟩:=I.list h2;have l1:=r.length;have l2:=r2.length;obtain⟨⟨cls,dd,data,sl⟩,ho,hc,n,hd⟩:=id p1.isList;obtain⟨⟨cls2,dd2,data2,sl2⟩,ho2,hc2,n2,hd2⟩:=id p2.isList;simp only at hc hd hc2 hd2;subst hc hd hc2 hd2;have e:its.toArray++its2.toArray=(its++its2).toArray:=by simp
 refine fE ⟨_,ho,rfl⟩ ⟨_,ho2,rfl⟩ noFill_list_add seq_list_add PySem.F.slot_list_add PySem.F.entry_list_add (PySem.F.args_list_add_2 _ _) (list_addW l b its.toArray its2.toArray n n2 dd dd2 sl sl2 (by rw[aF,aF];omega)) ⟨ho,ho2,?_⟩;rw[e];exact⟨.ref _,_,I.lnew (t':=s.toks) (r.append r2) (by rw[ao];omega),rfl,q _ I.fresh⟩
end
theorem Ai {H:Hp}{p:Addr}(h:H p=none)(o:HO):An H (upd H p o):=λb u q=>by rw[Af (Bh q h)];exact q
theorem AI {H H':Hp}{p:Addr}(s:An H H')(h:H p=none)(o:HO):An H (upd H' p o):=λb u q=>by rw[Af (Bh q h)];exact s b u q
theorem An.get {H H':Hp}{a:Addr}{o:HO}(s:An H H')(h:H a=some o):H' a=some o:=s a o h
theorem Hj:1000000<=sizeLine:=by decide
theorem small {n:Nat}(h:n<=1000000):n<=sizeLine:=bq h Hj
theorem AO {n:Nat}(h:n<1000000):n<sizeLine:=aY h Hj
theorem C3 {ns:List Int}{i:Int}(h0:0<=i)(h1:i<ns.length):Ih (ns.map V.int) i=some (.int (ns.getD i.toNat 0)):=by
 have hk:i.toNat<ns.length:=by omega
 have ek:i=((i.toNat:Nat):Int):=by omega
 have q:Ih (ns.map V.int) ((i.toNat:Nat):Int)=some (.int (ns.getD i.toNat 0)):=Ap (by rw[aB,ae hk];simp[List.getD,List.getElem?_eq_getElem hk]);rw[<-ek] at q;exact q
theorem Cu {c:Bool}{A B:Prop}(h:c=false)(b:B):if c=true then A else B:=by
 subst h;rw[aH ay];exact b
theorem Ft {c:Bool}{A B:Prop}(h:c=true)(b:A):if c=true then A else B:=by
 subst h;rw[aE rfl];exact b
theorem dec_true {c:Prop}[Decidable c](h:decide c=true):c:=aQ h
theorem UG {t u:TT}{σ:St}{H:Hp}{Q:Bool->Hp->Prop}(c d:Bool)(ht:∀R:Bool->Hp->Prop,R c H->t σ H R)(hu:c=false->∀R:Bool->Hp->Prop,R d H->u σ H R)(q:Q (c||d) H):VZ t u σ H Q:=by
 refine ht _ ?_;cases c with
 |true=>rw[aE rfl];exact q
 |false=>rw[aH ay];exact hu rfl _ q
theorem FR {t u:TT}{σ:St}{H:Hp}{Q:Bool->Hp->Prop}(c d:Bool)(ht:∀R:Bool->Hp->Prop,R c H->t σ H R)(hu:c=true->∀R:Bool->Hp->Prop,R d H->u σ H R)(q:Q (c&&d) H):UQ t u σ H Q:=by
 refine ht _ ?_;cases c with
 |false=>rw[aH ay];exact q
 |true=>rw[aE rfl];exact hu rfl _ q
def HB (J:It)(H:Hp)(xs:List V):Prop:=∀H',An H H'->∀i:Nat,(i<xs.length->J.go i H')/\(∀x H'',J.yld i H' x H''->H''=H'/\(i<xs.length->xs[i]?=some x))/\(xs.length<=i->J.stop i H')
theorem ED {K:PySem.W.Frag}{a:Addr}{H:Hp}{xs:List V}(h:AB K H a xs):HB (Uo K a) H xs:=λH' s i=>
 ⟨λhi=>⟨xs,xs[i],s.seq h,by simp[hi]⟩,λx H'' y=>⟨y.1,λ_=>y.2 xs (s.seq h)⟩,λhi=>⟨xs,s.seq h,hi⟩⟩
theorem Gz {lo:Int}{n:Nat}{H:Hp}:HB (Q7 lo n) H ((List.range n).map λ(i:Nat)=>V.int (lo+(i:Int))):=λH' s i=>
 ⟨λhi=>(by simpa using hi:i<n),λx H'' y=>⟨y.1,λhi=>by
  have hi':i<n:=by simpa using hi
  rw[aB,eM hi',y.2];rfl⟩,λhi=>(by simpa using hi:n<=i)⟩
theorem comp_map {J:It} {xs:List V} {fr:List (Option Nat)} {k:Nat} {te:TE} {Q:VK} {σ:St} {H:Hp} (f:V->V) (hJ:HB J H xs) (hn:xs.length<=1000000)
  (helt:∀(x:V) (H':Hp) (R:VK),x∈xs->An H H'->(∀H'',An H' H''->R (f x) H'')->te ((stC fr σ).set k (some x)) H' R)
  (hQ:∀l H',H l=none->An H H'->H' l=some (.lst (xs.map f))->Q (.ref l) H') :
  DW fr (Az k) NB te σ Q J H:=by
 intro l hl;refine⟨λi m σ' H'=>m=xs.length-i/\i<=xs.length/\(∀y,σ'.set k y=(stC fr σ).set k y)/\An H H'/\H' l=some (.lst ((xs.take i).map f)),⟨xs.length,by simp,bw _,λ_=>rfl,Ai hl _,by rw[Ac,dC,cu]⟩,?_⟩
 rintro i m σ' H' ⟨rfl,hi,hσ,hs,hl'⟩
 obtain⟨h1,h2,h3⟩:=hJ H' hs i
 by_cases hlt:i<xs.length
 ·refine .inr ⟨h1 hlt,λx H'' y=>?_⟩;obtain⟨rfl,hx⟩:=h2 x H'' y;have hx:=hx hlt;show te (σ'.set k (some x)) H'' _;rw[hσ];refine helt x H'' _ (az hx) hs λH4 s4=>?_
  refine⟨_,s4.get hl',AO (by rw[aa,aP];omega),xs.length-(i+1),by omega,rfl,hlt,λy=>by rw[d4],AI (hs.trans s4) hl _,?_⟩;rw[Ac,aR,hx];simp
 ·have e:i=xs.length:=by omega
  subst e;exact .inl ⟨h3 (ak _),hQ l H' hl hs (by rw[hl',ba (ak _)])⟩
section
variable {X:Cx}{K:PySem.W.Frag}
theorem EC (h:X.K=K):Ul X (Us K):=by subst h;exact Aw
theorem AJ (h:X.K=K):Ul X (UI K):=by subst h;exact Ay
end
def Ok (H:Hp):V->Prop
 | .non=>True
 | .bl _=>True
 | .int _=>True
 | .str z=>z.length<=1000
 | .ref a=>(∃xs,H a=some (.lst xs))\/∃xs,H a=some (.tup xs)
 |_=>False
def Hf (H:Hp):V->String
 | .non=>"NoneType"
 | .bl _=>"bool"
 | .int _=>"int"
 | .str _=>"str"
 | .ref a=>match H a with
  |some (.lst _)=>"list"
  |some (.tup _)=>"tuple"
  |_=>"?"
 |_=>"?"
theorem Ok.ty {H:Hp}{v:V}(h:Ok H v)(K:PySem.W.Frag):TyOf K H v (.type (Hf H v)):=by
 cases v with
 |non=>exact .non
 |bl b=>exact .bl b
 |int i=>exact .int i
 |str z=>exact .str z
 |ref a=>
  rcases h with⟨xs,e⟩|⟨xs,e⟩
  ·have q:Hf H (.ref a)="list":=by simp only[Hf,e]
   rw[q];exact .lst e
  ·have q:Hf H (.ref a)="tuple":=by simp only[Hf,e]
   rw[q];exact .tup e
 |_=>exact h.elim
def isA (t c:String):Bool:=t == c||(t == "bool"&&c == "int")
theorem Rj {t c:String}(K:PySem.W.Frag)(ht:t∈["NoneType","bool","int","str","list","tuple"])(hc:c∈["bool","int","str","list","tuple"]):PySem.W.kitOne K (.type t) (.type c)=some (isA t c):=by
 have all:∀t∈["NoneType","bool","int","str","list","tuple"],∀c∈["bool","int","str","list","tuple"],(if(Value.type t == Value.type c)=true then some true else if PySem.W.kitMeta c=true then(fastBuiltinMro t).map (·.contains (.type c)) else none)=some (isA t c):=by decide +kernel
 exact Uh (all t ht c hc) K
theorem Ok.tyMem {H:Hp}{v:V}(h:Ok H v):Hf H v∈["NoneType","bool","int","str","list","tuple"]:=by
 cases v with
 |ref a=>
  rcases h with⟨xs,e⟩|⟨xs,e⟩
  ·simp only[Hf,e];decide
  ·simp only[Hf,e];decide
 |byt _=>exact h.elim
 |flt _=>exact h.elim
 |ty _=>exact h.elim
 |_=>simp only[Hf];decide
theorem Ok.kit {H:Hp}{v:V}(h:Ok H v)(K:PySem.W.Frag){c:String}(hc:c∈["bool","int","str","list","tuple"]:=by decide):PySem.W.kitOne K (.type (Hf H v)) (.type c)=some (isA (Hf H v) c):=Rj K h.tyMem hc
theorem Oi {t u:TE}{σ:St}{H:Hp}{Q:VK}(c d:Bool)(ht:∀R:VK,R (.bl c) H->t σ H R)(hu:c=true->∀R:VK,R (.bl d) H->u σ H R)(q:Q (.bl (c&&d)) H):SI t u σ H Q:=by
 refine ht _ ⟨c,rfl,?_⟩;cases c with
 |false=>rw[aH ay];exact q
 |true=>rw[aE rfl];exact hu rfl _ q
theorem RH {H:Hp}{a:Addr}{xs:List V}(e:H a=some (.lst xs)):Hf H (.ref a)="list":=by simp only[Hf,e]
theorem Sj {H:Hp}{a:Addr}{xs:List V}(e:H a=some (.tup xs)):Hf H (.ref a)="tuple":=by simp only[Hf,e]
theorem Ok.elim {H:Hp} {v:V} (ok:Ok H v) {C:Prop} (c1:v=.non->Hf H v="NoneType"->C) (c2:∀b,v=.bl b->Hf H v="bool"->C) (c3:∀i,v=.int i->Hf H v="int"->C) (c4:∀z,v=.str z->z.length<=1000->Hf H v="str"->C)
  (c5:∀a xs,v=.ref a->H a=some (.lst xs)->Hf H v="list"->C) (c6:∀a xs,v=.ref a->H a=some (.tup xs)->Hf H v="tuple"->C):C:=by
 cases v with
 |non=>exact c1 rfl rfl
 |bl b=>exact c2 b rfl rfl
 |int i=>exact c3 i rfl rfl
 |str z=>exact c4 z rfl ok rfl
 |ref a=>
  rcases ok with⟨xs,e⟩|⟨xs,e⟩
  ·exact c5 a xs rfl e (RH e)
  ·exact c6 a xs rfl e (Sj e)
 |_=>exact(show False from ok).elim
def FL (H:Hp)(v:V):Bool:=isA (Hf H v) "int" && !isA (Hf H v) "bool"
theorem O9 (H:Hp)(i:Int):FL H (.int i)=true:=by
 show(isA "int" "int" && !isA "int" "bool")=true
 decide
theorem QN {H:Hp}{v:V}(ok:Ok H v)(h:FL H v=true):∃i,v=.int i:=by
 unfold FL at h;refine ok.elim (λ_ e=>?_) (λ_ _ e=>?_) (λi e _=>⟨i,e⟩) (λ_ _ _ e=>?_) (λ_ _ _ _ e=>?_) (λ_ _ _ _ e=>?_)
 all_goals (rw[e] at h;exact absurd h (by decide))
def PQ (a b:Int):V->Bool
 | .int i=>decide (a<=i)&&decide (i<=b)
 |_=>false
theorem Ss {H:Hp}{v:V}{a b:Int}(h:FL H v=false):PQ a b v=false:=by
 cases v with
 |int i=>rw[O9] at h;cases h
 |_=>rfl
theorem TQ {H:Hp}{v:V}(ok:Ok H v)(h:isA (Hf H v) "str"=true):∃z,v=.str z/\z.length<=1000:=by
 refine ok.elim (λ_ e=>?_) (λ_ _ e=>?_) (λ_ _ e=>?_) (λz e1 e2 _=>⟨z,e1,e2⟩) (λ_ _ _ _ e=>?_) (λ_ _ _ _ e=>?_)
 all_goals (rw[e] at h;exact absurd h (by decide))
def Vf (x:Str):It:=⟨λi _=>i<x.cps.size,λi H v H'=>H'=H/\∃c,x.cps[i]?=some c/\v=.str ⟨#[c]⟩,λi _=>x.cps.size<=i⟩
theorem MU {P:Program}{w:World}{K:PySem.W.Frag}{tg:Expr}(it:Addr)(x:Str)(t:Tok):Turn P w K tg (Vf x) [it] it (λi h=>h.IsStrIter it "str_ascii_iterator" x t i) where
 mem:=by simp
 obj:=λi h st b hb=>by
  have e:b=it:=by simpa using hb
  subst e;obtain⟨o,e,c,d⟩:=st;exact⟨o,e,λv z=>by rw[d] at z;cases z⟩
 keep:=λi h h' st k=>by
  obtain⟨o,e,c,d⟩:=st;exact⟨o,k it (by simp) o e,c,d⟩
 item:=by
  intro X hP hw hK hc i pins s σ H E I hf st hg;subst hP hw hK;have hg':i<x.cps.size:=hg;obtain⟨f0,f1,f2,f3,f4,f5⟩:=hf it (by simp);refine wpAny_pyNext_ascii_item st (c:=x.cps[i]) (by simp[hg']) λh' st' sb=>?_
  have I1:Inv X pins σ H { s with heap:=h',toks:=s.toks+1 }:=I.turned (λb o hb e=>(sb.2 b hb).trans e) f0 f1 f3 f4 f5;obtain⟨o,e,c,d⟩:=id st';exact⟨_,rfl,J3 (s:={ s with heap:=h',toks:=s.toks+1 }) e c d (by decide) ⟨.str ⟨#[x.cps[i]]⟩,H,I1,⟨_,rfl⟩,⟨rfl,_,by simp[hg'],rfl⟩,st',λb hb=>(hf b hb).1⟩⟩
 done:=by
  intro X hP hw hK hc i pins s σ H E I hf st hg;subst hP hw hK;have hg':x.cps.size<=i:=hg;obtain⟨f0,f1,f2,f3,f4,f5⟩:=hf it (by simp);exact wpAny_pyNext_ascii_end (I.ok.hd hc) st (by simp[hg']) λh' eb=>⟨rfl,I.turned (t':=s.toks) (λb o hb e=>eb b o hb e) f0 f1 f3 f4 f5⟩
 self:=λ_ _ _ _ _ st h=>wpAny_pyIter_striter_ascii st h
theorem OD {P:Program}{w:World}{K:PySem.W.Frag}{tg:Expr}(it:Addr)(x:Str)(t:Tok):Turn P w K tg (Vf x) [it] it (λi h=>h.IsStrIter it "str_iterator" x t i) where
 mem:=by simp
 obj:=λi h st b hb=>by
  have e:b=it:=by simpa using hb
  subst e;obtain⟨o,e,c,d⟩:=st;exact⟨o,e,λv z=>by rw[d] at z;cases z⟩
 keep:=λi h h' st k=>by
  obtain⟨o,e,c,d⟩:=st;exact⟨o,k it (by simp) o e,c,d⟩
 item:=by
  intro X hP hw hK hc i pins s σ H E I hf st hg;subst hP hw hK;have hg':i<x.cps.size:=hg;obtain⟨f0,f1,f2,f3,f4,f5⟩:=hf it (by simp);refine wpAny_pyNext_wide_item st (c:=x.cps[i]) (by simp[hg']) λh' st' sb=>?_
  have I1:Inv X pins σ H { s with heap:=h',toks:=s.toks+1 }:=I.turned (λb o hb e=>(sb.2 b hb).trans e) f0 f1 f3 f4 f5;obtain⟨o,e,c,d⟩:=id st';exact⟨_,rfl,J3 (s:={ s with heap:=h',toks:=s.toks+1 }) e c d (by decide) ⟨.str ⟨#[x.cps[i]]⟩,H,I1,⟨_,rfl⟩,⟨rfl,_,by simp[hg'],rfl⟩,st',λb hb=>(hf b hb).1⟩⟩
 done:=by
  intro X hP hw hK hc i pins s σ H E I hf st hg;subst hP hw hK;have hg':x.cps.size<=i:=hg;obtain⟨f0,f1,f2,f3,f4,f5⟩:=hf it (by simp);exact wpAny_pyNext_wide_end (I.ok.hd hc) st (by simp[hg']) λh' eb=>⟨rfl,I.turned (t':=s.toks) (λb o hb e=>eb b o hb e) f0 f1 f3 f4 f5⟩
 self:=λ_ _ _ _ _ st h=>wpAny_pyIter_striter_wide st h
section
variable {X:Cx}{tg:Expr}
def VP (tl:TE):TI:=λσ H R=>tl σ H λx H1=>∃z,x=.str z/\R (Vf z) H1
theorem Jg {l:Expr}{tl:TE}(hl:PE X l tl):PI X tg l (VP tl):=by
 intro pins s σ H R I h;refine Bd (hl pins s σ H _ I h) λv s1 ⟨x,H1,I1,r1,q1⟩=>?_
 obtain⟨z,e,q⟩:=q1;subst e;obtain⟨t,rfl⟩:=r1;have fp:∀b∈[s1.heap.objs.size],JU X pins H1 b:=λb hb=>by
  have e:b=s1.heap.objs.size:=by simpa using hb
  subst e;exact I1.fpOk (ak _) (I1.hok.fresh (ak _))
 cases ha:z.cps.all (· < 128)
 ·exact wpAny_pyIter_wide ha ⟨s1.heap.objs.size,[s1.heap.objs.size],_,_,H1,rfl,I1.kept (t':=s1.toks) (λb o e=>af _ e),OD _ z t,⟨_,aG _ rfl,rfl,rfl⟩,fp,q⟩
 ·exact wpAny_pyIter_ascii ha ⟨s1.heap.objs.size,[s1.heap.objs.size],_,_,H1,rfl,I1.kept (t':=s1.toks) (λb o e=>af _ e),MU _ z t,⟨_,aG _ rfl,rfl,rfl⟩,fp,q⟩
end
theorem FV {x:Str}{H:Hp}:HB (Vf x) H (x.cps.toList.map λc=>V.str ⟨#[c]⟩):=λH' s i=>
 ⟨λhi=>(by simpa using hi:i<x.cps.size),λv H'' y=>⟨y.1,λhi=>by
  obtain⟨_,c,hc,e⟩:=y;rw[aB,cx,hc,e];rfl⟩,λhi=>(by simpa using hi:x.cps.size<=i)⟩
section
variable {X:Cx}
def TH:V->List V->Hp->VK->Prop:=λx vs H Q=>∃t u,x=.str t/\vs=[.str u]/\0<=Txt.find t u/\Q (.int (Txt.find t u)) H
theorem Pi (hc:X.calm=true):U7 X "str.index" TH:=by
 intro pins s σ H x vs v us Q I rx rv h;obtain⟨t,u,rfl,rfl,h0,q⟩:=h;obtain⟨tk,rfl⟩:=rx;obtain⟨y,rfl,ry⟩:=rv.one;obtain⟨tk2,rfl⟩:=ry;refine index_or (I.ok.hd hc) (λe=>absurd e (by omega)) λ_ _=>⟨.int (Txt.find t u),H,I.tok _,⟨_,rfl⟩,q⟩
end
section
variable {X:Cx}
def Vs:V->Option Int->Option Int->Hp->VK->Prop:=λx lo hi H Q=>∃z:Str,x=.str z/\z.length<=sizeLine/\Q (.str (PySem.Txt.slice z lo hi)) H
theorem Nt:UH X Vs:=by
 intro pins s σ H x v vl vu lo hi sl Q I rx hs pl pu h;obtain⟨z,rfl,hz,q⟩:=h;obtain⟨t,rfl⟩:=rx;refine⟨"str",_,slot_str_getitem.lookup,typeIs_str _ _ _,?_⟩;cases pl with
 |none=>
  cases pu with
  |none=>exact dq (l:=none) (u:=none) (st:=none) hs rfl (eP ⟨bq (dA z _ _) hz,λt' k=>⟨.str _,H,I.tok k,⟨_,rfl⟩,q⟩⟩)
  |int j tj=>exact dq (l:=none) (u:=some (j,tj)) (st:=none) hs rfl (eP ⟨bq (dA z _ _) hz,λt' k=>⟨.str _,H,I.tok k,⟨_,rfl⟩,q⟩⟩)
 |int i ti=>
  cases pu with
  |none=>exact dq (l:=some (i,ti)) (u:=none) (st:=none) hs rfl (eP ⟨bq (dA z _ _) hz,λt' k=>⟨.str _,H,I.tok k,⟨_,rfl⟩,q⟩⟩)
  |int j tj=>exact dq (l:=some (i,ti)) (u:=some (j,tj)) (st:=none) hs rfl (eP ⟨bq (dA z _ _) hz,λt' k=>⟨.str _,H,I.tok k,⟨_,rfl⟩,q⟩⟩)
theorem Nq {ys:List Str}:∀{us:List Value},AD (ys.map V.str) us->StrsAre us ys:=by
 induction ys with
 |nil=>intro us r;rw[cu] at r;cases r;exact .nil
 |cons n ns ih=>
  intro us r;rw[aq] at r;cases r with
  |cons r1 r2=>
   obtain⟨t,e⟩:=r1;subst e;exact .cons n t (ih r2)
def rJoin (K:PySem.W.Frag):V->List V->Hp->VK->Prop:=λx vs H Q=>∃(a:Addr) (z:Str) (ys:List Str),x=.str z/\vs=[.ref a]/\AB K H a (ys.map V.str)/\(ys.map (·.length)).sum+ys.length*z.length<=16777216/\Q (.str (PySem.Txt.join z ys)) H
theorem N9 (_:X.calm=true):U7 X "str.join" (rJoin X.K):=by
 intro pins s σ H x vs v us Q I rx rv h;obtain⟨a,z,ys,rfl,rfl,hq,hz,q⟩:=h;obtain⟨tk,rfl⟩:=rx;obtain⟨y,rfl,ry⟩:=rv.one;cases ry;obtain⟨its,r1,p1,_⟩:=I.list hq;exact join_list p1.isList (Nq (by simpa using r1)) hz λt' k=>⟨.str _,H,I.tok k,⟨_,rfl⟩,q⟩
end
end L2
namespace L2
open PySem PySem.Spec PyProof.Rows PySem.Builtin.Str
abbrev Be (z:Str):List Nat:=z.cps.toList
theorem A1 (z:Str):(Be z).length=z.length:=by simp[Str.length]
theorem Rq {x y:Str}(h:Be x=Be y):x=y:=by
 obtain⟨a⟩:=x;obtain⟨b⟩:=y;have:a=b:=dX.mp h;rw[this]
theorem Fm (a y:Str):Be (a++y)=Be a++Be y:=by
 show(a.cps++y.cps).toList=_;simp
theorem SM (z:Str){j:Int}(h0:0<=j):Be (PySem.Txt.slice z none (some j))=(Be z).take j.toNat:=by
 have hc:StrLaws.sliceText z none (some j)=StrLaws.sliceText z none (some (min j z.length)):=by
  have e:strSliceIndices none (some j) 1 z.length=strSliceIndices none (some (min j z.length)) 1 z.length:=by
   unfold strSliceIndices;have e1:(if j<0 then j+(z.length:Int) else j)=j:=aH (by omega);have e2:(if min j (z.length:Int)<0 then min j (z.length:Int)+(z.length:Int) else min j (z.length:Int))=min j z.length:=aH (by omega);simp only[e1,e2];have e3:max 0 (min j (z.length:Int))=max 0 (min (min j (z.length:Int)) z.length):=by omega
   rw[e3];simp only[if_pos (show(1:Int)>0 by decide)]
  unfold StrLaws.sliceText;rw[e]
 show Be (StrLaws.sliceText z none (some j))=_;rw[hc,StrLaws.sliceText_to ⟨by omega,by rw[A1 z];omega⟩];show((Be z).drop 0).take (min j (z.length:Int)-0).toNat=_;rw[List.drop_zero]
 by_cases h:j<=z.length
 ·congr 1;omega
 ·have hl:=A1 z;rw[ba (by omega),ba (by omega)]
end L2
namespace L2
open PySem PySem.Spec PyProof.Rows
theorem Pf {J:It} {xs:List V} {fr:List (Option Nat)} {k:Nat} {te:TE} {Q:VK} {σ:St} {H:Hp} (P:V->V->Hp->Prop) (hP:∀x y H1 H2,P x y H1->An H1 H2->P x y H2)
  (hU:∀x y H1 l us us',P x y H1->H1 l=some (.lst us)->y≠.ref l->P x y (upd H1 l (.lst us'))) (hJ:HB J H xs) (hn:xs.length<=1000000)
  (helt:∀(x:V) (H':Hp) (R:VK),x∈xs->An H H'->(∀y H'',An H' H''->(∀a,y=.ref a->H' a=none)->P x y H''->R y H'')->te ((stC fr σ).set k (some x)) H' R)
  (hQ:∀l H' (ys:List V),H l=none->An H H'->H' l=some (.lst ys)->ys.length=xs.length->(∀(i:Nat) x y,xs[i]?=some x->ys[i]?=some y->P x y H'/\y≠.ref l)->Q (.ref l) H') :
  DW fr (Az k) NB te σ Q J H:=by
 intro l hl;refine⟨λi m σ' H'=>m=xs.length-i/\i<=xs.length/\(∀y,σ'.set k y=(stC fr σ).set k y)/\An H H'/\∃ys:List V,H' l=some (.lst ys)/\ys.length=i/\(∀(i:Nat) x y,xs[i]?=some x->ys[i]?=some y->P x y H'/\y≠.ref l),
  ⟨xs.length,by simp,bw _,λ_=>rfl,Ai hl _,[],Ac,rfl,λi x y _ h=>by simp at h⟩,?_⟩
 rintro i m σ' H' ⟨rfl,hi,hσ,hs,ys,hl',hlen,hp⟩
 obtain⟨h1,h2,h3⟩:=hJ H' hs i
 by_cases hlt:i<xs.length
 ·refine .inr ⟨h1 hlt,λx H'' y=>?_⟩;obtain⟨rfl,hx⟩:=h2 x H'' y;have hx:=hx hlt;show te (σ'.set k (some x)) H'' _;rw[hσ];refine helt x H'' _ (az hx) hs λy H4 s4 fy py=>?_
  have yl:y≠.ref l:=λz=>by rw[fy l z] at hl';cases hl'
  refine⟨_,s4.get hl',AO (by omega),xs.length-(i+1),by omega,rfl,hlt,λy=>by rw[d4],AI (hs.trans s4) hl _,ys++[y],Ac,by rw[ao,hlen];rfl,λj x' y' hx' hy'=>?_⟩
  by_cases hj:j<ys.length
  ·rw[bF hj] at hy';obtain⟨q1,q2⟩:=hp j x' y' hx' hy';exact⟨hU _ _ _ _ _ _ (hP _ _ _ _ q1 s4) (s4.get hl') q2,q2⟩
  ·rw[bD (by omega)] at hy'
   by_cases hj2:j=ys.length
   ·subst hj2;rw[Nat.sub_self] at hy';cases(aA hy':y=y');rw[hlen] at hx';cases(aA (hx.symm.trans hx'):x=x');exact⟨hU _ _ _ _ _ _ py (s4.get hl') yl,yl⟩
   ·rw[cw (by simp;omega)] at hy';cases hy'
 ·have e:i=xs.length:=by omega
  subst e;exact .inl ⟨h3 (ak _),hQ l H' ys hl hs hl' hlen hp⟩
theorem IP {X:Cx}{K:PySem.W.Frag}{pos:Pos}{es:List Expr}{k:Nat}{t:SD}{n:Nat}(hK:X.K=K)(hc:X.calm=true)(h:UW X es t)(hn:(assignEach es X.env).length=n:=by rfl)(hs:(assignEach es X.env).findIdx? (·.1)=none:=by rfl):PG X (.Tuple es k pos) (P8 K n t):=by
 subst hK;exact JA hc h hn hs
section
variable {κ:Type}[DecidableEq κ]
def Bz (kvs:List (κ×V))(k:κ):Option V:=(kvs.find? λkv=>decide (kv.1=k)).map (·.2)
def putK (kvs:List (κ×V))(k:κ)(v:V):List (κ×V):=
 if(kvs.any λkv=>decide (kv.1=k))=true then kvs.map (λkv=>if kv.1=k then(kv.1,v) else kv) else kvs++[(k,v)]
theorem D6 {p:κ×V}{r:List (κ×V)}{k:κ}(e:p.1=k):Bz (p::r) k=some p.2:=by simp[Bz,List.find?_cons,e]
theorem Dr {p:κ×V}{r:List (κ×V)}{k:κ}(e:¬p.1=k):Bz (p::r) k=Bz r k:=by simp[Bz,List.find?_cons,e]
theorem FU (k:κ):∀kvs:List (κ×V),(kvs.any λkv=>decide (kv.1=k))=(Bz kvs k).isSome
 |[]=>rfl
 |p::r=>by
  rw[dO]
  by_cases e:p.1=k
  ·simp only[D6 e,decide_eq_true e,Bool.true_or,Option.isSome_some]
  ·rw[Dr e,aZ e,Bool.false_or];exact FU k r
theorem Gc (kvs:List (κ×V))(k:κ)(v:V):(putK kvs k v).length<=kvs.length+1:=by
 unfold putK
 split
 ·rw[aa];omega
 ·rw[ao,bc,List.length_nil];omega
theorem C8 {kvs:List (κ×V)}{k:κ}(v:V)(h:Bz kvs k=none):putK kvs k v=kvs++[(k,v)]:=by
 unfold putK;rw[FU,h];exact aH (by decide)
theorem EA.isSome_eq {o:Option V}{u:Option Value}(r:EA o u):o.isSome=u.isSome:=by
 cases o with
 |none=>cases u with
  |none=>rfl
  |some _=>exact(show False from r).elim
 |some _=>cases u with
  |none=>exact(show False from r).elim
  |some _=>rfl
theorem EA.getD {o:Option V}{u:Option Value}{d:V}{d':Value}(r:EA o u)(rd:RelV d d'):RelV (o.getD d) (u.getD d'):=by
 cases o with
 |none=>cases u with
  |none=>exact rd
  |some _=>exact(show False from r).elim
 |some _=>cases u with
  |none=>exact(show False from r).elim
  |some _=>exact r
theorem KV.val {kvs:List (κ×V)}{vs:List (κ×Value)}(r:KV kvs vs)(k:κ):EA (Bz kvs k) (valueAt vs k):=by
 unfold KV at r
 induction r with
 |nil=>exact True.intro
 |@cons p q ps qs h t ih=>
  obtain⟨h1,h2⟩:=h
  by_cases e:p.1=k
  ·have e':q.1=k:=h1.symm.trans e;have b:valueAt (q::qs) k=some q.2:=by simp[valueAt,List.find?_cons,e']
   rw[D6 e,b];exact h2
  ·have e':¬q.1=k:=λz=>e (h1.trans z)
   have b:valueAt (q::qs) k=valueAt qs k:=by simp[valueAt,List.find?_cons,e']
   rw[Dr e,b];exact ih
theorem KV.any {kvs:List (κ×V)}{vs:List (κ×Value)}(r:KV kvs vs)(k:κ):(kvs.any λkv=>decide (kv.1=k))=vs.any λkv=>decide (kv.1=k):=by
 unfold KV at r
 induction r with
 |nil=>rfl
 |cons h t ih=>rw[dO,dO,ih,h.1]
theorem KV.repl {kvs:List (κ×V)}{vs:List (κ×Value)}(r:KV kvs vs)(k:κ){y:V}{u:Value}(ry:RelV y u) :
  KV (kvs.map λkv=>if kv.1=k then(kv.1,y) else kv) (vs.map λkv=>if kv.1=k then(kv.1,u) else kv):=by
 unfold KV at r ⊢
 induction r with
 |nil=>exact .nil
 |@cons p q ps qs h t ih=>
  rw[aq,aq];refine .cons ?_ ih;obtain⟨h1,h2⟩:=h
  by_cases e:p.1=k
  ·rw[aE e,aE (h1.symm.trans e)];exact⟨h1,ry⟩
  ·rw[aH e,aH (λz=>e (h1.trans z))];exact⟨h1,h2⟩
theorem KV.put {kvs:List (κ×V)}{vs:List (κ×Value)}(r:KV kvs vs)(k:κ){y:V}{u:Value}(ry:RelV y u):KV (putK kvs k y) (stored vs k u):=by
 unfold putK stored;rw[r.any k]
 by_cases e:(vs.any λkv=>decide (kv.1=k))=true
 ·rw[aE e,aE e];exact r.repl k ry
 ·rw[aH e,aH e];exact Paired.snoc r ⟨rfl,ry⟩
theorem KV.keys {kvs:List (κ×V)}{vs:List (κ×Value)}(r:KV kvs vs):kvs.map (·.1)=vs.map (·.1):=by
 unfold KV at r
 induction r with
 |nil=>rfl
 |cons h t ih=>rw[aq,aq,ih,h.1]
theorem KV.length {kvs:List (κ×V)}{vs:List (κ×Value)}(r:KV kvs vs):kvs.length=vs.length:=cX r
end
theorem Ie {P:Program}{w:World}{k:Key}{u:Value}(r:RelV (kV k) u):(AK P w).is k u=true:=by
 cases k with
 |inl i=>obtain⟨t,e⟩:=(show ∃t,u=Value.int i t from r);subst e;exact LS P w i t
 |inr x=>obtain⟨t,e⟩:=(show ∃t,u=Value.str x t from r);subst e;exact LH P w x t
theorem Ki {P:Program}{w:World}:∀{ks:List Key} {us:List Value},AD (ks.map kV) us->ItemsAre (AK P w) ks us
 |[],_,r=>by rw[cu] at r;cases r;exact .nil
 |k::ks,_,r=>by
  rw[aq] at r;cases r with
  |cons h t=>exact .cons (Ie h) (Ki t)
abbrev KT (H:Hp):List (List Key×V)->List (List Key×Addr×Value)->Prop:=Paired λp q=>p.1=q.1/\H q.2.1=some (.tup (p.1.map kV))/\RelV p.2 q.2.2
theorem KT.val {H:Hp}{kvs:List (List Key×V)}{xs:List (List Key×Addr×Value)}(r:KT H kvs xs)(k:List Key):EA (Bz kvs k) ((atKey xs k).map (·.2)):=by
 induction r with
 |nil=>exact True.intro
 |@cons p q ps qs h t ih=>
  obtain⟨h1,_,h2⟩:=h
  by_cases e:p.1=k
  ·have e':q.1=k:=h1.symm.trans e;have b:atKey (q::qs) k=some q.2:=by simp[atKey,List.find?_cons,e']
   rw[D6 e,b];exact h2
  ·have e':¬q.1=k:=λz=>e (h1.trans z)
   have b:atKey (q::qs) k=atKey qs k:=by simp[atKey,List.find?_cons,e']
   rw[Dr e,b];exact ih
theorem KT.repl {H:Hp}{kvs:List (List Key×V)}{xs:List (List Key×Addr×Value)}(r:KT H kvs xs)(k:List Key){y:V}{u:Value}(ry:RelV y u) :
  KT H (kvs.map λkv=>if kv.1=k then(kv.1,y) else kv) (xs.map (putAt k u)):=by
 induction r with
 |nil=>exact .nil
 |@cons p q ps qs h t ih=>
  rw[aq,aq];refine .cons ?_ ih;obtain⟨h1,h2,h3⟩:=h;unfold putAt
  by_cases e:p.1=k
  ·rw[aE e,aE (h1.symm.trans e)];exact⟨h1,h2,ry⟩
  ·rw[aH e,aH (λz=>e (h1.trans z))];exact⟨h1,h2,h3⟩
theorem KT.put {H:Hp}{kvs:List (List Key×V)}{xs:List (List Key×Addr×Value)}(r:KT H kvs xs)(k:List Key){b:Addr}{y:V}{u:Value}(hb:H b=some (.tup (k.map kV)))(ry:RelV y u) :
  KT H (putK kvs k y) (storedH xs k b u):=by
 have e:(kvs.any λkv=>decide (kv.1=k))=(atKey xs k).isSome:=by
  rw[FU,(r.val k).isSome_eq,eT]
 unfold putK storedH;rw[e]
 by_cases q:(atKey xs k).isSome=true
 ·rw[aE q,aE q];exact r.repl k ry
 ·rw[aH q,aH q];exact Paired.snoc r ⟨rfl,hb,ry⟩
theorem KT.keeps {H H':Hp}{kvs:List (List Key×V)}{xs:List (List Key×Addr×Value)}(r:KT H kvs xs)(ht:∀b ys,H b=some (.tup ys)->H' b=some (.tup ys)):KT H' kvs xs:=
 Paired.mapP r λ_ _ z=>⟨z.1,ht _ _ z.2.1,z.2.2⟩
section
variable {P:Program}{w:World}{H:Hp}{h:Heap}{a:Addr}
theorem SE {u:HO}(ok:Gw P w H h)(e:Rd H a u):A4 P w H h a u:=e.ok ok
theorem Jf {kvs:List (Key×V)}(ok:Gw P w H h)(e:Rd H a (.dK kvs)):kvs.length<=sizeLine/\(a == sysModules)=false/\∃vs,KV kvs vs/\h.DictOf (AK P w) a vs:=
 show A4 P w H h a (.dK kvs) from SE ok e
theorem Qa {kvs:List (Key×V)}(ok:Gw P w H h)(e:H a=some (.dK kvs)):kvs.length<=sizeLine/\(a == sysModules)=false/\∃vs,KV kvs vs/\h.DictOf (AK P w) a vs:=Jf ok (.inl e)
theorem HG {ks:List Key}(ok:Gw P w H h)(e:H a=some (.tup (ks.map kV))):(tupleKind (AK P w)).is h ks a:=by
 obtain⟨_,its,r,o,h1,h2,n,h3⟩:=(show A4 P w H h a (.tup (ks.map kV)) from ok a _ e)
 exact⟨o,its.toArray,n,h1,h2,h3.1,by simpa using Ki r⟩
theorem JD {kvs:List (List Key×V)}(ok:Gw P w H h)(e:Rd H a (.dT kvs)):kvs.length<=sizeLine/\(a == sysModules)=false/\
  ∃xs,KT H kvs xs/\h.DictOfH (tupleKind (AK P w)) a xs:=by
 obtain⟨z,y,xs,r,o,es,ep,h1,h2,h3,h4,h5⟩:=(show A4 P w H h a (.dT kvs) from SE ok e)
 refine⟨z,y,xs,r,o,es,ep,h1,h2,h3,h4,λx hx=>?_,h5⟩;have all:∀{l:List (List Key×V)} {m:List (List Key×Addr×Value)},KT H l m->∀x∈m,(tupleKind (AK P w)).is h x.1 x.2.1:=by
  intro l m q
  induction q with
  |nil=>intro x hx;exact nomatch hx
  |@cons p q ps qs hq t ih=>
   intro x hx;rcases aL.mp hx with e|hx
   ·subst e;exact HG ok (by rw[<-hq.1];exact hq.2.1)
   ·exact ih x hx
 exact all r x hx
theorem UL {kvs:List (List Key×V)}(ok:Gw P w H h)(e:H a=some (.dT kvs)):kvs.length<=sizeLine/\(a == sysModules)=false/\
  ∃xs,KT H kvs xs/\h.DictOfH (tupleKind (AK P w)) a xs:=JD ok (.inl e)
end
def Cq (H:Hp)(a:Addr)(y:V)(r:Option V):Prop:=
 (∃kvs k,Rd H a (.dK kvs)/\y=kV k/\r=Bz kvs k)\/∃kvs k b,Rd H a (.dT kvs)/\y=.ref b/\H b=some (.tup (k.map kV))/\r=Bz kvs k
def HF (H:Hp)(a:Addr)(y v:V)(H':Hp):Prop:=
 (∃kvs k,H a=some (.dK kvs)/\y=kV k/\kvs.length<sizeLine/\H'=upd H a (.dK (putK kvs k v)))\/
 ∃kvs k b,H a=some (.dT kvs)/\y=.ref b/\H b=some (.tup (k.map kV))/\kvs.length<sizeLine/\H'=upd H a (.dT (putK kvs k v))
theorem Cq.k {H:Hp}{a:Addr}{kvs:List (Key×V)}{k:Key}(e:H a=some (.dK kvs)):Cq H a (kV k) (Bz kvs k):=.inl ⟨kvs,k,.inl e,rfl,rfl⟩
theorem HF.k {H:Hp}{a:Addr}{kvs:List (Key×V)}{k:Key}{v:V}(e:H a=some (.dK kvs))(hl:kvs.length<sizeLine):HF H a (kV k) v (upd H a (.dK (putK kvs k v))):=.inl ⟨kvs,k,e,rfl,hl,rfl⟩
section
variable {X:Cx}{pins:List (Addr×Obj)}{σ:St}{H:Hp}{s:Shared}{a:Addr}{y v:V}{u r:Value}{o:Option V}{A:Around}{E:Value->Shared->Prop}
theorem Inv.big (I:Inv X pins σ H s):sysModules<s.heap.objs.size:=by
 have h:mainGlobals<s.heap.objs.size:=(I.mod.glob.keeps I.bk).lt;exact Nat.lt_trans (by decide) h
theorem Ov {Q:Value->Shared->Prop}(hu:A.units+1<cLine)(I:Inv X pins σ H s)(g:Cq H a y (some v))(ry:RelV y u)(h:∀w' s',Inv X pins σ H s'->RelV v w'->Q w' s') :
  wpAny (model X.prog X.w) A (getItem (.ref a) u) Q E s:=by
 rcases g with⟨kvs,k,e,ey,l⟩|⟨kvs,k,b,e,ey,eb,l⟩
 ·subst ey;obtain⟨z,hd,vs,rel,dd⟩:=Jf I.hok e;obtain⟨w',hw,rw'⟩:=EA.some_of (v:=v) (o:=valueAt vs k) (by rw[l];exact rel.val k);exact wpAny_getItem_of (Ie ry) dd.mapOf hw (h w' _ (I.tok _) rw')
 ·subst ey;cases(show u=Value.ref b from ry);obtain⟨z,hd,xs,rel,dd⟩:=JD I.hok e;obtain⟨w',hw,rw'⟩:=EA.some_of (v:=v) (o:=(atKey xs k).map (·.2)) (by rw[l];exact rel.val k);obtain⟨p,hp,hp2⟩:=bJ.mp hw;refine wpAny_getItem_heap (di hu) (HG I.hok eb) dd hp ?_;rw[hp2];exact h w' _ (I.tok _) rw'
theorem Vg {Q:Value->Shared->Prop}(hu:A.units+1<cLine)(I:Inv X pins σ H s)(g:Cq H a y o)(ry:RelV y u)(h:∀s',Inv X pins σ H s'->Q (.bool o.isSome) s') :
  wpAny (model X.prog X.w) A (compareOp .In u (.ref a)) Q E s:=by
 rcases g with⟨kvs,k,e,ey,l⟩|⟨kvs,k,b,e,ey,eb,l⟩
 ·subst ey;obtain⟨z,hd,vs,rel,dd⟩:=Jf I.hok e;refine wpAny_in_of (Ie ry) hd dd.mapOf ?_;rw[<-(rel.val k).isSome_eq,<-l];exact h _ (I.tok _)
 ·subst ey;cases(show u=Value.ref b from ry);obtain⟨z,hd,xs,rel,dd⟩:=JD I.hok e;refine wpAny_in_heap (di hu) (HG I.hok eb) hd dd ?_;have q:=(rel.val k).isSome_eq;rw[eT] at q;rw[<-q,<-l];exact h _ (I.tok _)
theorem Sk {Q:Value->Shared->Prop}(hu:A.units+1<cLine)(I:Inv X pins σ H s)(g:Cq H a y o)(ry:RelV y u)(h:∀s',Inv X pins σ H s'->Q (.bool (!o.isSome)) s') :
  wpAny (model X.prog X.w) A (compareOp .NotIn u (.ref a)) Q E s:=by
 rcases g with⟨kvs,k,e,ey,l⟩|⟨kvs,k,b,e,ey,eb,l⟩
 ·subst ey;obtain⟨z,hd,vs,rel,dd⟩:=Jf I.hok e;refine wpAny_notIn_of (Ie ry) hd dd.mapOf ?_;rw[<-(rel.val k).isSome_eq,<-l];exact h _ (I.tok _)
 ·subst ey;cases(show u=Value.ref b from ry);obtain⟨z,hd,xs,rel,dd⟩:=JD I.hok e;refine wpAny_notIn_heap (di hu) (HG I.hok eb) hd dd ?_;have q:=(rel.val k).isSome_eq;rw[eT] at q;rw[<-q,<-l];exact h _ (I.tok _)
theorem IK {h':Heap}{t':Nat}{ob:HO}(I:Inv X pins σ H s)(mu:UO (H a))(hs:Heap.SameBut a s.heap h')(he:∃q,h'.get? a=some q)(new:A4 X.prog X.w (upd H a ob) h' a ob) :
  Inv X pins σ (upd H a ob) { s with heap:=h',toks:=t' }:=
 I.write (x:=a) (e:=a) mu (.inl rfl) (λb q hb z=>(hs.2 b hb).trans z) he new
theorem K8 {P:Program}{w:World}{H':Hp}{h':Heap}{kvs:List (Key×V)}{vs:List (Key×Value)}(z:kvs.length<=sizeLine)(hd:(a == sysModules)=false)(rel:KV kvs vs)(dd:h'.DictOf (AK P w) a vs) :
  A4 P w H' h' a (.dK kvs):=⟨z,hd,vs,rel,dd⟩
theorem OY {H':Hp}{Q:Unit->Shared->Prop}(hu:A.units+1<cLine)(I:Inv X pins σ H s)(g:HF H a y v H')(ry:RelV y u)(rv:RelV v r)(h:∀s',Inv X pins σ H' s'->Q () s') :
  wpAny (model X.prog X.w) A (setItem (.ref a) u r) Q E s:=by
 rcases g with⟨kvs,k,e,ey,l,eH⟩|⟨kvs,k,b,e,ey,eb,l,eH⟩
 ·subst ey eH;obtain⟨z,hd,vs,rel,dd⟩:=Qa I.hok e;have hz:vs.length<=sizeLine:=by rw[<-rel.length];exact z
  have hl:(putK kvs k v).length<=sizeLine:=by have:=Gc kvs k v;omega
  refine wpAny_setItem_pairs (hsz:=hz) (Ie ry) dd λh' dd' hs=>h _ ?_
  have he:∃q,h'.get? a=some q:=let⟨q,_,_,hq,_⟩:=dd';⟨q,hq⟩;exact IK I (by rw[e];exact True.intro) hs he (K8 hl hd (rel.put k rv) dd')
 ·subst ey eH;cases(show u=Value.ref b from ry);obtain⟨z,hd,xs,rel,dd⟩:=UL I.hok e;have hz:xs.length<=sizeLine:=by rw[<-cX rel];exact z
  have hl:(putK kvs k v).length<=sizeLine:=by have:=Gc kvs k v;omega
  refine wpAny_setItem_heap (hsz:=hz) (di hu) (HG I.hok eb) dd λh' dd' hs=>h _ ?_
  obtain⟨q,es,ep,hq,h2,h3,h4,_,h5⟩:=dd';refine IK I (by rw[e];exact True.intro) hs ⟨q,hq⟩ ⟨hl,hd,_,(rel.put k eb rv).keeps λc ys ec=>?_,q,es,ep,hq,h2,h3,h4,h5⟩;rw[Af (Bs ec e (λz=>nomatch z))];exact ec
end
section
variable {X:Cx}{pins:List (Addr×Obj)}{σ:St}{H:Hp}{s:Shared}{a:Addr}{kvs:List (Key×V)}{k:Key}{u:Value}{A:Around}{E:Value->Shared->Prop}
theorem Ru {Q:Value->Shared->Prop}(I:Inv X pins σ H s)(e:H a=some (.dK kvs))(h:∀s',Inv X pins σ (upd H a (.dK [])) s'->Q .none s'):wpAny (model X.prog X.w) A (call (.builtin "dict.clear") [.ref a]) Q E s:=by
 obtain⟨z,hd,vs,rel,dd⟩:=Qa I.hok e;refine fF fP dd.typeIs PySem.F.entry_dict_clear (PySem.F.args_dict_clear_1 _) (meets_dict_clear (AK X.prog X.w) a) ⟨vs,dd,by rw[<-rel.length];exact z,λh' dd' hs=>h _ ?_⟩;have he:∃q,h'.get? a=some q:=let⟨q,_,_,hq,_⟩:=dd';⟨q,hq⟩;exact IK (t':=s.toks) I (by rw[e];exact True.intro) hs he (K8 (bw _) hd .nil dd')
end
def UA (i:Expr):Prop:=∀ov iv,subscripted i false ov iv=operate [ov,iv] (getItem ov iv)
theorem RG {prog:Program} {w:World} {A:Around} {E:Value->Shared->Prop} {s:Shared} {env:Env} {value slice:Expr} {pos:Pos} {T id:String} {Q:Value->Shared->Prop}
  (hl:typeLookup (.type T) "__getitem__"=pure (some (.builtin id))) (hs:UA slice)
  (h:wpAny (model prog w) A (eval value env) (λo s₁=>wpAny (model prog w) A (eval slice env) (λi s₂=>s₂.TypeIs o T/\wpAny (model prog w) A (getItem o i) Q E s₂) E s₁) E s) :
  wpAny (model prog w) A (eval (.Subscript value slice pos) env) Q E s:=by
 refine Subscript_ (bu h (λo s₁ h₁=>bu h₁ (λi s₂ h₂=>?_) λ_ _ x=>x) λ_ _ x=>x);obtain⟨hT,h₂⟩:=h₂;unfold subscriptTail;refine ab ?_;rw[getitemInPython_of_ne hT.not_modules];refine ab (wpAny_specialOf hT hl ?_);have fin:wpAny (model prog w) A (subscripted slice false o i) (λr s₃=>wpAny (model prog w) A (letTemporaryGo value o r >>= λ_=>pure r) Q E s₃) E s₂:=by
  rw[hs o i];exact wpAny_operating (bu h₂ (λr s₃ h₃=>ab (wpAny_letTemporaryGo (av h₃))) λ_ _ x=>x)
 first
  |exact av (ab fin)
  |exact ab (av (ab fin))
  |exact ab fin
theorem LM {X:Cx}{pins:List (Addr×Obj)}{σ:St}{H:Hp}{s:Shared}{a:Addr}{y:V}{o:Option V}(I:Inv X pins σ H s)(g:Cq H a y o):s.TypeIs (.ref a) "dict":=by
 rcases g with⟨kvs,k,e,_,_⟩|⟨kvs,k,b,e,_,_,_⟩
 ·obtain⟨_,_,vs,_,dd⟩:=Jf I.hok e;exact dd.typeIs
 ·obtain⟨_,_,xs,_,dd⟩:=JD I.hok e;exact dd.typeIs
def U2 (td ty:TE):TE:=λσ H Q=>td σ H λx H1=>ty σ H1 λy H2=>∃a v,x=.ref a/\Cq H2 a y (some v)/\Q v H2
def Vj (ty td:TE):TE:=λσ H Q=>ty σ H λy H1=>td σ H1 λx H2=>∃a o,x=.ref a/\Cq H2 a y o/\Q (.bl o.isSome) H2
def Si (ty td:TE):TE:=λσ H Q=>ty σ H λy H1=>td σ H1 λx H2=>∃a o,x=.ref a/\Cq H2 a y o/\Q (.bl (!o.isSome)) H2
def UN (td ty tv:TE):TS:=λD σ H=>tv σ H λv H1=>td σ H1 λx H2=>ty σ H2 λy H3=>∃a H4,x=.ref a/\HF H3 a y v H4/\D.nx σ H4
section
variable {X:Cx}{o i e value:Expr}{pos pos' tpos:Pos}{td ty tv:TE}
theorem Cm (hu:X.A.units+1<cLine)(ho:PE X o td)(hi:PE X i ty)(hs:UA i):PE X (.Subscript o i pos) (U2 td ty):=by
 intro pins s σ H Q I h;refine RG PySem.F.slot_dict_getitem.lookup hs (Bd (ho pins s σ H _ I h) λu s1 ⟨x,H1,I1,rx,q1⟩=>Bd (hi pins s1 σ H1 _ I1 q1) λiv s2 z9=>?_);obtain⟨y,H2,I2,ry,a,v,ex,g,q2⟩:=z9;subst ex;obtain rfl:u=Value.ref a:=rx;exact⟨LM I2 g,Ov hu I2 g ry λw' s3 I3 rw'=>⟨v,H2,I3,rw',q2⟩⟩
theorem Nb (hu:X.A.units+1<cLine)(hi:PE X i ty)(ho:PE X o td):PC X .In i o (Vj ty td):=by
 intro pins s σ H Q I h;refine Bd (hi pins s σ H _ I h) λiv s1 ⟨y,H1,I1,ry,q1⟩=>Bd (ho pins s1 σ H1 _ I1 q1) λu s2 z9=>?_
 obtain⟨x,H2,I2,rx,a,ov,ex,g,q2⟩:=z9;subst ex;obtain rfl:u=Value.ref a:=rx;exact Vg hu I2 g ry λs3 I3=>⟨.bl ov.isSome,H2,I3,rfl,q2⟩
theorem Kl (hu:X.A.units+1<cLine)(hi:PE X i ty)(ho:PE X o td):PC X .NotIn i o (Si ty td):=by
 intro pins s σ H Q I h;refine Bd (hi pins s σ H _ I h) λiv s1 ⟨y,H1,I1,ry,q1⟩=>Bd (ho pins s1 σ H1 _ I1 q1) λu s2 z9=>?_
 obtain⟨x,H2,I2,rx,a,ov,ex,g,q2⟩:=z9;subst ex;obtain rfl:u=Value.ref a:=rx;exact Sk hu I2 g ry λs3 I3=>⟨.bl (!ov.isSome),H2,I3,rfl,q2⟩
theorem Ec (hu:X.A.units+1<cLine)(ho:PE X o td)(hi:PE X i ty)(hv:PE X value tv)(hs:swapsWith value (some (.Subscript o i pos')) pos.line X.env=pure false) :
  PS X (.Assign [.Subscript o i pos'] value pos) (UN td ty tv):=by
 intro pins s σ H D I h;refine wpAny_Assign_Subscript (Bd (hv pins s σ H _ I h) λr s1 ⟨v,H1,I1,rv,q1⟩=>Bd (ho pins s1 σ H1 _ I1 q1) λu s2 ⟨x,H2,I2,rx,q2⟩=>Bd (hi pins s2 σ H2 _ I2 q2) λiv s3 z9=>?_) hs;obtain⟨y,H3,I3,ry,a,H4,ex,g,q3⟩:=z9;subst ex;obtain rfl:u=Value.ref a:=rx;exact OY hu I3 g ry rv λs4 I4=>⟨σ,H4,I4,q3⟩
end
theorem PD {P:Program}{w:World}{H:Hp}(h:Heap)(hb:sysModules<h.objs.size):A4 P w H (h.push { cls:=.type "dict",data:=.dict #[] }) h.objs.size (.dK []):=
 ⟨bw _,cm.mpr (Ne.symm (aN hb)),[],.nil,Heap.DictOf.new h⟩
def TU:TE:=λ_ H Q=>∀p,H p=none->Q (.ref p) (upd H p (.dK []))
section
variable {X:Cx}{pos:Pos}
theorem Cc:PE X (.Dict [] [] pos) TU:=λpins s σ H Q I h=>
 wpAny_Dict_empty ⟨.ref s.heap.objs.size,_,I.laid (a:=s.heap.objs.size) (o:=.dK []) (t':=s.toks) (λ_ _ q=>af _ q) (ak _) (PD s.heap I.big),rfl,h _ (I.hok.fresh (ak _))⟩
end
structure M2 (X:Cx) (o:Expr) (m:Str) (apos:Pos) (e f:Expr) (cpos:Pos):Prop where
 base:attributeBase o m X.env (eval o X.env)=eval o X.env
 few:((backTo cpos (starEach [e,f] X.env)).all (λx=>!x.1)&&(backToKw cpos (keywordEach [] X.env)).all (λx=>x.1.isSome)
  && decide (([e,f]:List Expr).length+([]:List Keyword).length+(if([]:List Keyword).isEmpty then 0 else 1)<30))=true
 line:(apos.endLine == cpos.line)=true
 trees:backTo cpos (starEach [e,f] X.env)=[(false,eval e X.env),(false,eval f X.env)]
def Vr (H:Hp)(a:Addr):Prop:=(∃kvs,Rd H a (.dK kvs))\/∃kvs,Rd H a (.dT kvs)
theorem MZ {X:Cx}{pins:List (Addr×Obj)}{σ:St}{H:Hp}{s:Shared}{a:Addr}(I:Inv X pins σ H s)(d:Vr H a) :
  s.TypeIs (.ref a) "dict"/\(∀b,Value.ref a=.ref b->∃ob,s.heap.get? b=some ob/\ob.dict=none)/\(a == sysModules)=false:=by
 rcases d with⟨kvs,e⟩|⟨kvs,e⟩
 ·obtain⟨_,hd,vs,_,dd⟩:=Jf I.hok e;refine⟨dd.typeIs,λb q=>?_,hd⟩;cases q;obtain⟨ob,_,_,h1,h2,_⟩:=dd;exact⟨ob,h1,h2.2.1⟩
 ·obtain⟨_,hd,xs,_,dd⟩:=JD I.hok e;refine⟨dd.typeIs,λb q=>?_,hd⟩;cases q;obtain⟨ob,_,_,h1,h2,_⟩:=dd;exact⟨ob,h1,h2.2.1⟩
section
variable {X:Cx}{pins:List (Addr×Obj)}{σ:St}{H:Hp}{s:Shared}{a:Addr}{y d:V}{u r:Value}{o:Option V}{A:Around}{E:Value->Shared->Prop}
theorem Tp {Q:Value->Shared->Prop}(hu:A.units+1<cLine)(I:Inv X pins σ H s)(g:Cq H a y o)(ry:RelV y u)(rd:RelV d r)(h:∀w' s',Inv X pins σ H s'->RelV (o.getD d) w'->Q w' s') :
  wpAny (model X.prog X.w) A (call (.builtin "dict.get") [.ref a,u,r]) Q E s:=by
 rcases g with⟨kvs,k,e,ey,l⟩|⟨kvs,k,b,e,ey,eb,l⟩
 ·subst ey;obtain⟨z,hd,vs,rel,dd⟩:=Jf I.hok e;refine fF eD dd.typeIs fU (fR _ _ _) (meets_dict_get_default (AK X.prog X.w) a (Ie ry) hd r) ⟨_,dd.mapOf,h _ _ (I.tok _) ?_⟩;rw[l];exact(rel.val k).getD rd
 ·subst ey;cases(show u=Value.ref b from ry);obtain⟨z,hd,xs,rel,dd⟩:=JD I.hok e;refine fF eD dd.typeIs fU (fR _ _ _) (meetsH_dict_get_default (tupleKind (AK X.prog X.w)) a b hd r) ⟨di hu,k,xs,HG I.hok eb,dd,h _ _ (I.tok _) ?_⟩;rw[l];exact(rel.val k).getD rd
end
def Ub (td ty tx:TE):TE:=λσ H Q=>td σ H λx H1=>∃a,x=.ref a/\Vr H1 a/\ty σ H1 λy H2=>tx σ H2 λz H3=>∃o,Cq H3 a y o/\Q (o.getD z) H3
section
variable {X:Cx}{o e f:Expr}{apos cpos:Pos}{td ty tx:TE}
theorem Po (hu:X.A.units+1<cLine)(ho:PE X o td)(he:PE X e ty)(hf:PE X f tx)(m:M2 X o "get" apos e f cpos):PE X (.Call (.Attribute o "get" apos) [e,f] [] cpos) (Ub td ty tx):=by
 intro pins s σ H Q I h;refine fD m.base m.few m.line dS eD PySem.F.type_dict_get (Bd (ho pins s σ H _ I h) λu s1 z9=>?_);obtain⟨x,H1,I1,rx,a,ex,d,q1⟩:=z9;subst ex;obtain rfl:u=Value.ref a:=rx;obtain⟨t1,t2,_⟩:=MZ I1 d;refine⟨t1,t2,?_⟩;rw[m.trees];refine cK rfl (fb (dm (Bd (he pins s1 σ H1 _ I1 q1) λiv s2 ⟨y,H2,I2,ry,q2⟩=>
  dm (Bd (hf pins s2 σ H2 _ I2 q2) λfv s3 ⟨z,H3,I3,rz,ov,g,q3⟩=>fG ?_))))
 exact Tp hu I3 g ry rz λw' s4 I4 rw'=>⟨_,H3,I4,rw',q3⟩
end
section
variable {X:Cx}
def SY (K:PySem.W.Frag):R2:=λx y H Q=>∃a b xs ys,x=.ref a/\y=.ref b/\AG K H a xs/\AG K H b ys/\xs.length+ys.length<=sizeLine/\
 (xs=[]->Q (.ref b) H)/\(xs≠[]->ys=[]->Q (.ref a) H)/\(xs≠[]->ys≠[]->∀p,H p=none->Q (.ref p) (upd H p (.tup (xs++ys))))
theorem Qm:Fu X (binaryOp .Add) (SY X.K):=by
 intro pins s σ H x y v u Q I rx ry h;obtain⟨a,b,xs,ys,rfl,rfl,ha,hb,hz,q0,q1,q2⟩:=h
 by_cases hx:xs=[]
 ·subst hx;cases rx;cases ry;obtain⟨its,r1,p1,_⟩:=I.tuple ha;obtain⟨its2,r2,p2,_⟩:=I.tuple hb;cases r1;obtain⟨⟨cls,dd,data,sl⟩,ho,hc,n,hd⟩:=id p1;obtain⟨⟨cls2,dd2,data2,sl2⟩,ho2,hc2,n2,hd2⟩:=id p2;simp only at hc hd hc2 hd2;subst hc hd hc2 hd2;exact fE ⟨_,ho,rfl⟩ ⟨_,ho2,rfl⟩ fL gG dZ dU (dN _ _) (tuple_addW0 a b _ _ n n2 dd dd2 sl sl2 rfl) ⟨ho,ho2,.ref b,H,I,rfl,q0 rfl⟩
 ·exact Rv pins s σ H _ _ v u Q I rx ry ⟨a,b,xs,ys,rfl,rfl,ha,hb,hx,hz,q1 hx,q2 hx⟩
def UM (K:PySem.W.Frag)(neg:Bool):R2:=λx y H Q=>∃a b xs,x=.ref a/\y=.ref b/\AB K H a xs/\AB K H b []/\Q (.bl (if neg then !decide (xs=[]) else decide (xs=[]))) H
theorem QR (hu:X.A.units+1<cLine):Fu X (compareOp .Eq) (UM X.K false):=by
 intro pins s σ H x y v u Q I rx ry h;obtain⟨a,b,xs,rfl,rfl,h1,h2,q⟩:=h;cases rx;cases ry;obtain⟨its,r1,p1,_⟩:=I.list h1;obtain⟨its2,r2,p2,_⟩:=I.list h2;cases r2;cases r1 with
 |nil=>
  exact fM (A:=X.A) (s:=s) (e:=λ_=>true) p1.isList p2.isList rfl (by omega) (λj g1 g2=>absurd g1 (by simp)) _ _ _ _ ⟨.bl _,H,I,rfl,q⟩
 |cons r rr=>
  exact gH p1.isList p2.isList (by simp) (by omega) _ _ _ _ ⟨.bl _,H,I,rfl,q⟩
end
inductive Tr where
 |non
 |bl (b:Bool)
 |int (i:Int)
 |str (z:Str)
 |tup (ts:List Tr)
 |lst (ts:List Tr)
mutual
def Rep (F:Addr->Prop)(H:Hp):Tr->V->Prop
 | .non,v=>v=.non
 | .bl b,v=>v=.bl b
 | .int i,v=>v=.int i
 | .str z,v=>v=.str z
 | .tup ts,v=>∃a vs,v=.ref a/\H a=some (.tup vs)/\AH F H ts vs
 | .lst ts,v=>∃a vs,v=.ref a/\F a/\H a=some (.lst vs)/\AH F H ts vs
def AH (F:Addr->Prop)(H:Hp):List Tr->List V->Prop
 |[],vs=>vs=[]
 |t::ts,vs=>∃v us,vs=v::us/\Rep F H t v/\AH F H ts us
end
mutual
def Tr.dep:Tr->Nat
 | .tup ts=>1+Tr.deps ts
 | .lst ts=>1+Tr.deps ts
 |_=>1
def Tr.deps:List Tr->Nat
 |[]=>0
 |t::ts=>max (Tr.dep t) (Tr.deps ts)
end
mutual
def Tr.ok:Tr->Prop
 | .str z=>z.length<=1000
 | .tup ts=>ts.length<=1000/\Tr.oks ts
 | .lst ts=>ts.length<=1000/\Tr.oks ts
 |_=>True
def Tr.oks:List Tr->Prop
 |[]=>True
 |t::ts=>Tr.ok t/\Tr.oks ts
end
mutual
theorem Rep.same {F:Addr->Prop}{H H':Hp}(s:An H H'):∀(t:Tr) (v:V),Rep F H t v->Rep F H' t v
 | .non,_,h=>h
 | .bl _,_,h=>h
 | .int _,_,h=>h
 | .str _,_,h=>h
 | .tup ts,_,⟨a,vs,e,ha,hr⟩=>⟨a,vs,e,s.get ha,AH.same s ts vs hr⟩
 | .lst ts,_,⟨a,vs,e,fa,ha,hr⟩=>⟨a,vs,e,fa,s.get ha,AH.same s ts vs hr⟩
theorem AH.same {F:Addr->Prop}{H H':Hp}(s:An H H'):∀(ts:List Tr) (vs:List V),AH F H ts vs->AH F H' ts vs
 |[],_,h=>h
 |t::ts,_,⟨v,us,e,h1,h2⟩=>⟨v,us,e,Rep.same s t v h1,AH.same s ts us h2⟩
end
theorem AH.len {F:Addr->Prop}{H:Hp}:∀(ts:List Tr) (vs:List V),AH F H ts vs->vs.length=ts.length
 |[],_,h=>by rw[show _=[] from h];rfl
 |t::ts,_,⟨v,us,e,_,h2⟩=>by rw[e,bc,bc,AH.len ts us h2]
theorem AH.get {F:Addr->Prop}{H:Hp}:∀{ts:List Tr} {vs:List V},AH F H ts vs->∀{i:Nat} {v:V},vs[i]?=some v->∃t,ts[i]?=some t/\Rep F H t v
 |[],_,h,i,v,hv=>by rw[show _=[] from h] at hv;simp at hv
 |t::ts,_,⟨w,us,e,h1,h2⟩,0,v,hv=>by
  rw[e] at hv;cases(aA hv);exact⟨t,rfl,h1⟩
 |t::ts,_,⟨w,us,e,h1,h2⟩,i+1,v,hv=>by
  rw[e] at hv;obtain⟨t',e1,e2⟩:=AH.get h2 (i:=i) (v:=v) (by simpa using hv);exact⟨t',by simpa using e1,e2⟩
theorem Rep.ok {F:Addr->Prop}{H:Hp}:∀{t:Tr} {v:V},Rep F H t v->t.ok->Ok H v
 | .non,_,h,_=>by rw[show _=V.non from h];trivial
 | .bl _,_,h,_=>by rw[show _=V.bl _ from h];trivial
 | .int _,_,h,_=>by rw[show _=V.int _ from h];trivial
 | .str z,_,h,o=>by rw[show _=V.str z from h];exact o
 | .tup ts,_,⟨a,vs,e,ha,_⟩,_=>by rw[e];exact .inr ⟨vs,ha⟩
 | .lst ts,_,⟨a,vs,e,_,ha,_⟩,_=>by rw[e];exact .inl ⟨vs,ha⟩
section
variable {X:Cx}{pins:List (Addr×Obj)}{σ:St}{H:Hp}{s:Shared}{F G:Addr->Prop}
mutual
theorem SZ (I:Inv X pins σ H s):∀(t:Tr) (A:Around) (v u:V) (vv uu:Value),A.units+t.dep<cLine->Rep F H t v->Rep G H t u->RelV v vv->RelV u uu->SeqAt.EqAt A s vv uu true
 | .non,A,v,u,vv,uu,_,h1,h2,r1,r2=>by
  rw[show v=V.non from h1] at r1;rw[show u=V.non from h2] at r2;cases r1;cases r2;exact dg _
 | .bl b,A,v,u,vv,uu,_,h1,h2,r1,r2=>by
  rw[show v=V.bl b from h1] at r1;rw[show u=V.bl b from h2] at r2;cases r1;cases r2;exact dg _
 | .int i,A,v,u,vv,uu,_,h1,h2,r1,r2=>by
  have:=Jy (A:=A) (s:=s) r1 r2 (by rw[show v=V.int i from h1];rfl) (by rw[show u=V.int i from h2];rfl);rw[show v=V.int i from h1,show u=V.int i from h2] at this;have e:LW (V.int i) (V.int i)=true:=by rw[pure_eq rfl rfl];simp
  rw[e] at this;exact this
 | .str z,A,v,u,vv,uu,_,h1,h2,r1,r2=>by
  have:=Jy (A:=A) (s:=s) r1 r2 (by rw[show v=V.str z from h1];rfl) (by rw[show u=V.str z from h2];rfl);rw[show v=V.str z from h1,show u=V.str z from h2] at this;have e:LW (V.str z) (V.str z)=true:=by rw[pure_eq rfl rfl];simp
  rw[e] at this;exact this
 | .tup ts,A,v,u,vv,uu,hA,⟨a,vs,e1,ha,hr1⟩,⟨b,us,e2,hb,hr2⟩,r1,r2=>by
  subst e1 e2;cases r1;cases r2
  by_cases hab:a=b
  ·subst hab;exact dg _
  have hA':A.units+(1+Tr.deps ts)<cLine:=hA;obtain⟨its,rv1,p1,_⟩:=I.tuple (AG.of (K:=X.K) ha);obtain⟨its2,rv2,p2,_⟩:=I.tuple (AG.of (K:=X.K) hb);have l1:=rv1.length.symm.trans (AH.len ts vs hr1);have l2:=rv2.length.symm.trans (AH.len ts us hr2);have q:=eu (A:=A) (s:=s) (e:=λ_=>true) p1 p2 (by omega) (λj g1 g2=>IV I ts A.in1 vs us its its2 (by show A.units+1+Tr.deps ts<cLine;omega) hr1 hr2 rv1 rv2 j (by simpa using g1) (by simpa using g2));have e:((List.range (min its.toArray.size its2.toArray.size)).all (λ_=>true)&&its.toArray.size == its2.toArray.size)=true:=by
   simp[l1,l2]
  rw[e] at q;exact fw hab q
 | .lst ts,A,v,u,vv,uu,hA,⟨a,vs,e1,_,ha,hr1⟩,⟨b,us,e2,_,hb,hr2⟩,r1,r2=>by
  subst e1 e2;cases r1;cases r2
  by_cases hab:a=b
  ·subst hab;exact dg _
  have hA':A.units+(1+Tr.deps ts)<cLine:=hA;obtain⟨its,rv1,p1,_⟩:=I.list (AB.of (K:=X.K) ha);obtain⟨its2,rv2,p2,_⟩:=I.list (AB.of (K:=X.K) hb);have l1:=rv1.length.symm.trans (AH.len ts vs hr1);have l2:=rv2.length.symm.trans (AH.len ts us hr2);have q:=fM (A:=A) (s:=s) (e:=λ_=>true) p1.isList p2.isList (by simp[l1,l2]) (by omega) (λj g1 g2=>IV I ts A.in1 vs us its its2 (by show A.units+1+Tr.deps ts<cLine;omega) hr1 hr2 rv1 rv2 j (by simpa using g1) (by simpa using g2));have e:((List.range its.toArray.size).all (λ_=>true))=true:=by simp
  rw[e] at q;exact fw hab q
theorem IV (I:Inv X pins σ H s):∀(ts:List Tr) (A:Around) (vs us:List V) (its its2:List Value),A.units+Tr.deps ts<cLine->AH F H ts vs->AH G H ts us->AD vs its->AD us its2->∀(j:Nat) (g1:j<its.length) (g2:j<its2.length),SeqAt.EqAt A s its[j] its2[j] true
 |[],A,vs,us,its,its2,_,h1,h2,r1,r2=>λj g1 g2=>by
  rw[show vs=[] from h1] at r1;cases r1;simp at g1
 |t::ts,A,vs,us,its,its2,hA,⟨v,vr,e1,a1,b1⟩,⟨u,ur,e2,a2,b2⟩,r1,r2=>by
  subst e1 e2;have hA':A.units+max (Tr.dep t) (Tr.deps ts)<cLine:=hA;cases r1 with
  |cons p1 q1=>
   cases r2 with
   |cons p2 q2=>
    intro j g1 g2;cases j with
    |zero=>exact SZ I t A v u _ _ (by omega) a1 a2 p1 p2
    |succ j=>exact IV I ts A vr ur _ _ (by omega) b1 b2 q1 q2 j (by simpa using g1) (by simpa using g2)
end
end
mutual
theorem Rep.mono {F G:Addr->Prop}{H:Hp}(h:∀a,F a->G a):∀(t:Tr) (v:V),Rep F H t v->Rep G H t v
 | .non,_,q=>q
 | .bl _,_,q=>q
 | .int _,_,q=>q
 | .str _,_,q=>q
 | .tup ts,_,⟨a,vs,e,ha,hr⟩=>⟨a,vs,e,ha,AH.mono h ts vs hr⟩
 | .lst ts,_,⟨a,vs,e,fa,ha,hr⟩=>⟨a,vs,e,h a fa,ha,AH.mono h ts vs hr⟩
theorem AH.mono {F G:Addr->Prop}{H:Hp}(h:∀a,F a->G a):∀(ts:List Tr) (vs:List V),AH F H ts vs->AH G H ts vs
 |[],_,q=>q
 |t::ts,_,⟨v,us,e,h1,h2⟩=>⟨v,us,e,Rep.mono h t v h1,AH.mono h ts us h2⟩
end
theorem By {K:PySem.W.Frag}{a:Addr}{H:Hp}{xs:List V}(h:H a=some (.tup xs)):HB (Um K a) H xs:=λH' s i=>
 ⟨λhi=>⟨xs,xs[i],AG.of (s.get h),by simp[hi]⟩,λx H'' y=>⟨y.1,λ_=>y.2 xs (AG.of (s.get h))⟩,λhi=>⟨xs,AG.of (s.get h),hi⟩⟩
def Tr.ty:Tr->String
 | .non=>"NoneType"
 | .bl _=>"bool"
 | .int _=>"int"
 | .str _=>"str"
 | .tup _=>"tuple"
 | .lst _=>"list"
theorem Rep.tyN {F:Addr->Prop}{H:Hp}:∀{t:Tr} {v:V},Rep F H t v->L2.Hf H v=t.ty
 | .non,_,h=>by rw[show _=V.non from h];rfl
 | .bl _,_,h=>by rw[show _=V.bl _ from h];rfl
 | .int _,_,h=>by rw[show _=V.int _ from h];rfl
 | .str z,_,h=>by rw[show _=V.str z from h];rfl
 | .tup ts,_,⟨a,vs,e,ha,_⟩=>by rw[e];simp only[L2.Hf,ha];rfl
 | .lst ts,_,⟨a,vs,e,_,ha,_⟩=>by rw[e];simp only[L2.Hf,ha];rfl
theorem C1 {A:Around}{k:Nat}(hr:Room k A):A.units+150<cLine:=by have:=hr.un;omega
def Da (P:Program)(w:World)(K:PySem.W.Frag)(mg:Str->Option Value)(base:Heap)(k:Nat)(C:Addr)(m:Str)(ps:List Str)(sp:Sp):Prop:=
 ∃(f:Addr) (fd:FuncData),FnOk P w K mg base CZ k f fd ps sp/\Meth K C m f/\Binds K fd ps []
def Nh (P:Program)(w:World)(K:PySem.W.Frag)(mg:Str->Option Value)(base:Heap)(k:Nat)(C:Addr)(x:Str)(ps:List Str)(sp:Sp):Prop:=
 ∃(f:Addr) (fd:FuncData),FnOk P w K mg base CZ k f fd ps sp/\Mk K C f/\mg x=some (.ref C)/\Binds K fd ps []
section
variable {X:Cx}{k:Nat}{x m:Str}{C:Addr}{ps:List Str}{sp:Sp}{e o:Expr}{es:List Expr}{t:TA}{ta:TE}{p apos pos:Pos}
theorem Nn (D:Nh X.prog X.w X.K X.mg X.base k C x ps sp) (hr:Room (k+1) X.A) (hg:Gl X x) (ha:PA X (e::es) t)
  (hdb:(x == ("__debug__":Str))=false:=by decide) (he:starEach (e::es) X.env=(false,eval e X.env)::starEach es X.env:=by rfl) (hpl:(backTo pos (starEach es X.env)).any (·.1)=false:=by rfl) :
  PE X (.Call (.Name x p) (e::es) [] pos) (SR C sp [] E0 t):=by
 obtain⟨f,fd,F,M,hm,hb⟩:=D;exact R9 M F hr hg hm hb .nil NH ha hdb he hpl
theorem DD {pl:Sem Bool} (ho:PE X o ta) (c:HS X.K C) (D:Da X.prog X.w X.K X.mg X.base k C m ps sp) (hr:Room k X.A) (ha:PA X (e::es) t)
  (hst:starEach (e::es) X.env=(false,eval e X.env)::starEach es X.env:=by rfl) (hpl:(backTo pos (starEach es X.env)).any (·.1)=false:=by rfl)
  (ht:eval (.Call (.Attribute o m apos) (e::es) [] pos) X.env=(do
   let ov <-eval o X.env
   standAt apos.atName
   let(f,first) <-holding [ov] (getMethod ov m pl)
   callWith pos f first (backTo pos (starEach (e::es) X.env)) (backToKw pos (keywordEach [] X.env))):=by rfl) :
  PE X (.Call (.Attribute o m apos) (e::es) [] pos) (N3 C m sp [] E0 ta t):=by
 obtain⟨f,fd,F,M,hb⟩:=D;exact Sa ho c M F hr hb .nil NH ha hst hpl ht
theorem Ob {pl:Sem Bool} (ho:PE X o ta) (c:HS X.K C) (D:Da X.prog X.w X.K X.mg X.base k C m ps sp) (hr:Room k X.A)
  (ht:eval (.Call (.Attribute o m apos) [] [] pos) X.env=(do
   let ov <-eval o X.env
   standAt apos.atName
   let(f,first) <-holding [ov] (getMethod ov m pl)
   callWith pos f first (backTo pos (starEach [] X.env)) (backToKw pos (keywordEach [] X.env))):=by rfl) :
  PE X (.Call (.Attribute o m apos) [] [] pos) (N3 C m sp [] E0 ta OG):=by
 obtain⟨f,fd,F,M,hb⟩:=D;exact Q0 ho c M F hr hb .nil NH ht
end
def PK (d:Addr)(o:Obj)(kvs:List (Key×V)):It:=
 ⟨λi H=>H d=some (.frz o (.dK kvs))/\i<kvs.length,λi H x H'=>H'=H/\∃k v,kvs[i]?=some (k,v)/\x=kV k,λi H=>H d=some (.frz o (.dK kvs))/\kvs.length<=i⟩
theorem G1 {P:Program}{w:World}{k:Key}{u:Value}(h:(AK P w).is k u=true):RelV (kV k) u:=by
 rcases Bl h with⟨i,t,rfl,rfl⟩|⟨x,t,rfl,rfl⟩
 ·exact⟨t,rfl⟩
 ·exact⟨t,rfl⟩
theorem MX {X:Cx}{pins:List (Addr×Obj)}{σ:St}{H:Hp}{s:Shared}{d:Addr}{o:Obj}{kvs:List (Key×V)}{es:Array DictEntry}{ep:Nat}(I:Inv X pins σ H s)(h:H d=some (.frz o (.dK kvs)))(he:o.data=.dict es ep) :
  (d == sysModules)=false/\∃vs,KV kvs vs/\s.heap.DictAt (AK X.prog X.w) d vs ep:=by
 obtain⟨ho,_,hs,vs,r,o',es',ep',ho',h1,h2,h3⟩:=I.hok d _ h;rw[ho] at ho';cases ho';rw[he] at h2;injection h2 with e1 e2
 subst e1 e2;exact⟨hs,vs,r,o,es,ho,h1,he,h3⟩
theorem O5 {P:Program}{w:World}{K:PySem.W.Frag}{tg:Expr}(d it:Addr)(o:Obj)(kvs:List (Key×V))(es:Array DictEntry)(ep:Nat)(he:o.data=.dict es ep):Turn P w K tg (PK d o kvs) [it] it (λi h=>h.IsKeyIter it d i kvs.length ep) where
 mem:=by simp
 obj:=λi h st b hb=>by
  have e:b=it:=by simpa using hb
  subst e;obtain⟨o,e,c,d⟩:=st;exact⟨o,e,λv z=>by rw[d] at z;cases z⟩
 keep:=λi h h' st k=>st.at λo e=>k it (by simp) o e
 item:=by
  intro X hP hw hK hc i pins s σ H E I hf st hg;subst hP hw hK;obtain⟨hq,hi⟩:=hg;obtain⟨_,vs,r,hat⟩:=MX I hq he;have hl:kvs.length=vs.length:=cX r;obtain⟨f0,f1,f2,f3,f4,f5⟩:=hf it (by simp);have ek:kvs[i]?=some kvs[i]:=ae hi;have ev:vs[i]?=some vs[i]:=ae (by omega);have rk:=r.keys;have e1:kvs[i].1=(vs[i]'(by omega)).1:=by
   have:=congrArg (λl=>l[i]?) rk;simp only[List.getElem?_map,ek,ev,Option.map_some] at this;exact aA this
  rw[hl] at st;refine wpAny_pyNext_dict_item (k:=(vs[i]'(by omega)).1) (v:=(vs[i]'(by omega)).2) st hat ev λkey h' hkey st' sb=>?_
  have I1:Inv X pins σ H { s with heap:=h' }:=I.turned (t':=s.toks) (λb o hb e=>(sb.2 b hb).trans e) f0 f1 f3 f4 f5;rw[<-hl] at st';obtain⟨o2,e,c,dd⟩:=id st';exact⟨key,rfl,J3 (s:={ s with heap:=h' }) e c dd (by decide) ⟨kV kvs[i].1,H,I1,G1 (by rw[e1];exact hkey),⟨rfl,kvs[i].1,kvs[i].2,ek,rfl⟩,st',λb hb=>(hf b hb).1⟩⟩
 done:=by
  intro X hP hw hK hc i pins s σ H E I hf st hg;subst hP hw hK;obtain⟨hq,hi⟩:=hg;obtain⟨_,vs,r,hat⟩:=MX I hq he;have hl:kvs.length=vs.length:=cX r;obtain⟨f0,f1,f2,f3,f4,f5⟩:=hf it (by simp);rw[hl] at st;exact wpAny_pyNext_dict_end (I.ok.hd hc) st hat (cw (by omega)) λh' eb=>⟨rfl,I.turned (t':=s.toks) (λb o hb e=>eb b o hb e) f0 f1 f3 f4 f5⟩
 self:=λ_ _ _ _ _ st h=>wpAny_pyIter_keyiter st h
theorem Inv.freeze {X:Cx}{pins:List (Addr×Obj)}{σ:St}{H:Hp}{s:Shared}{d:Addr}{o:Obj}{kvs:List (Key×V)}(I:Inv X pins σ H s)(h:H d=some (.dK kvs))(ho:s.heap.get? d=some o):Inv X pins σ (upd H d (.frz o (.dK kvs))) s:=by
 have nd:∀b,H b=none->upd H d (.frz o (.dK kvs)) b=none:=λb hb=>by
  rw[Af (λz=>by rw[z,h] at hb;cases hb)];exact hb
 refine⟨I.ok,I.os,I.bare,⟨I.base.keep,I.base.slot,λb ob e1 e2 e3=>nd b (I.base.free b ob e1 e2 e3),I.base.there,λb xs e=>?_,λb o2 u e=>?_,λb ps e=>?_⟩,I.loc,I.cell,nd _ I.free,λx c e=>nd c (I.freeC x c e),λp hp=>?_,λb u e=>?_,I.len⟩
 ·have:=I.base.tups b xs e;rw[Af (Bs this h (by intro z;cases z))];exact this
 ·have:=I.base.frzs b o2 u e;rw[Af (Bs this h (by intro z;cases z))];exact this
 ·obtain⟨more,q⟩:=I.base.tbls b ps e;exact⟨more,by rw[Af (Bs q h (by intro z;cases z))];exact q⟩
 ·obtain⟨p1,p2,p3⟩:=I.pin p hp;exact⟨p1,nd _ p2,p3⟩
 ·by_cases hb:b=d
  ·subst hb;rw[Ac] at e;cases e;exact⟨ho,(I.hok b _ h).stay (λc v _ r=>r) (λc r=>by rw[Af (Bs r h (by intro z;cases z))];exact r) λc xs r=>by rw[Af (Bs r h (by intro z;cases z))];exact r⟩
  ·rw[Af hb] at e;exact(I.hok b u e).stay (λc v _ r=>r) (λc r=>by rw[Af (Bs r h (by intro z;cases z))];exact r) λc xs r=>by rw[Af (Bs r h (by intro z;cases z))];exact r
section
variable {X:Cx}{tg:Expr}
def Uw (tl:TE):TI:=λσ H R=>tl σ H λx H1=>∃d kvs,x=.ref d/\H1 d=some (.dK kvs)/\∀o,R (PK d o kvs) (upd H1 d (.frz o (.dK kvs)))
theorem SB {l:Expr}{tl:TE}(hl:PE X l tl):PI X tg l (Uw tl):=by
 intro pins s σ H R I h;refine Bd (hl pins s σ H _ I h) λv s1 ⟨x,H1,I1,r1,q1⟩=>?_
 obtain⟨d,kvs,e,hq,q⟩:=q1;subst e;cases r1;obtain⟨_,_,vs,r,o,es,ep,ho,_,he,_⟩:=I1.hok d _ hq;have I2:=I1.freeze hq ho;obtain⟨hs,vs,r,hat⟩:=MX I2 Ac he;have hl:kvs.length=vs.length:=cX r;refine wpAny_pyIter_dict hs hat ?_;refine⟨s1.heap.objs.size,[s1.heap.objs.size],_,_,_,rfl,I2.kept (t':=s1.toks) λb o e=>af _ e,O5 d _ o kvs es ep he,⟨_,aG _ rfl,rfl,by rw[hl];rfl⟩,λb hb=>?_,q o⟩;have e:b=s1.heap.objs.size:=by simpa using hb
 subst e;exact I2.fpOk (ak _) (I2.hok.fresh (ak _))
end
theorem Pn {d:Addr} {o:Obj} {kvs:List (Key×V)} {g:TG} {tb:TS} {D:Ends} {σ:St} {H:Hp} (Pv:Nat->St->Hp->Prop) (h0:Pv 0 σ H) (hl:∀(i:Nat) (σ:St) (H:Hp),i<=kvs.length->Pv i σ H->H d=some (.frz o (.dK kvs)))
  (turn:∀(i:Nat) (k:Key) (v:V) (σ:St) (H:Hp),kvs[i]?=some (k,v)->Pv i σ H->g (kV k) σ H λσ2 H2=>tb { nx:=Pv (i+1),rt:=D.rt,bk:=D.nx,ct:=Pv (i+1) } σ2 H2)
  (done:∀(σ:St) (H:Hp),Pv kvs.length σ H->D.nx σ H) :
  ∃W:Nat->Nat->St->Hp->Prop,(∃m,W 0 m σ H)/\∀i m σ H,W i m σ H->
   ((PK d o kvs).stop i H/\D.nx σ H)\/((PK d o kvs).go i H/\∃N:St->Hp->Prop,(∀σ' H',N σ' H'->∃m',m'<m/\W (i+1) m' σ' H')/\∀x H',(PK d o kvs).yld i H x H'->g x σ H' λσ2 H2=>tb { D with nx:=N,ct:=N,bk:=D.nx } σ2 H2):=by
 refine⟨λi m σ H=>m=kvs.length-i/\i<=kvs.length/\Pv i σ H,⟨_,rfl,bw _,h0⟩,?_⟩
 rintro i m σ H ⟨rfl,hi,hp⟩
 by_cases hlt:i<kvs.length
 ·refine .inr ⟨⟨hl i σ H hi hp,hlt⟩,Pv (i+1),λσ' H' hn=>⟨kvs.length-(i+1),by omega,rfl,hlt,hn⟩,?_⟩
  rintro x H' ⟨rfl,k,v,e,rfl⟩
  exact turn i k v σ _ e hp
 ·have e:i=kvs.length:=by omega
  subst e;exact .inl ⟨⟨hl _ σ H hi hp,ak _⟩,done σ H hp⟩
theorem Inv.thaw {X:Cx}{pins:List (Addr×Obj)}{σ:St}{H:Hp}{s:Shared}{d:Addr}{o:Obj}{kvs:List (Key×V)}(I:Inv X pins σ H s)(h:H d=some (.frz o (.dK kvs)))(nf:∀o u,X.H₀ d≠some (.frz o u)):Inv X pins σ (upd H d (.dK kvs)) s:=by
 have nd:∀b,H b=none->upd H d (.dK kvs) b=none:=λb hb=>by
  rw[Af (λz=>by rw[z,h] at hb;cases hb)];exact hb
 refine⟨I.ok,I.os,I.bare,⟨I.base.keep,I.base.slot,λb ob e1 e2 e3=>nd b (I.base.free b ob e1 e2 e3),I.base.there,λb xs e=>?_,λb o2 u e=>?_,λb ps e=>?_⟩,I.loc,I.cell,nd _ I.free,λx c e=>nd c (I.freeC x c e),λp hp=>?_,λb u e=>?_,I.len⟩
 ·have:=I.base.tups b xs e;rw[Af (Bs this h (by intro z;cases z))];exact this
 ·have:=I.base.frzs b o2 u e;rw[Af (λz=>nf o2 u (by rw[<-z];exact e))];exact this
 ·obtain⟨more,q⟩:=I.base.tbls b ps e;exact⟨more,by rw[Af (Bs q h (by intro z;cases z))];exact q⟩
 ·obtain⟨p1,p2,p3⟩:=I.pin p hp;exact⟨p1,nd _ p2,p3⟩
 ·by_cases hb:b=d
  ·subst hb;rw[Ac] at e;cases e;obtain⟨_,q⟩:=I.hok b _ h;exact A4.stay (o:=.dK kvs) q (λc v _ r=>r) (λc r=>by rw[Af (Bs r h (by intro z;cases z))];exact r) λc xs r=>by rw[Af (Bs r h (by intro z;cases z))];exact r
  ·rw[Af hb] at e;exact(I.hok b u e).stay (λc v _ r=>r) (λc r=>by rw[Af (Bs r h (by intro z;cases z))];exact r) λc xs r=>by rw[Af (Bs r h (by intro z;cases z))];exact r
section
variable {X:Cx}
def Gy (X:Cx)(D:Ends):Ends where
 nx:=λσ H=>∃d o kvs,(∀o u,X.H₀ d≠some (.frz o u))/\H d=some (.frz o (.dK kvs))/\D.nx σ (upd H d (.dK kvs))
 rt:=λv H=>∃d o kvs,(∀o u,X.H₀ d≠some (.frz o u))/\H d=some (.frz o (.dK kvs))/\D.rt v (upd H d (.dK kvs))
def SH (X:Cx)(tl:TE)(g:TG)(tb:TS):TS:=λD σ H=>tl σ H λx H1=>∃d kvs,x=.ref d/\H1 d=some (.dK kvs)/\∀o,∃W:Nat->Nat->St->Hp->Prop,(∃m,W 0 m σ (upd H1 d (.frz o (.dK kvs))))/\∀i m σ H,W i m σ H->
 ((PK d o kvs).stop i H/\(Gy X D).nx σ H)\/((PK d o kvs).go i H/\∃N:St->Hp->Prop,(∀σ' H',N σ' H'->∃m',m'<m/\W (i+1) m' σ' H')/\∀x H',(PK d o kvs).yld i H x H'->g x σ H' λσ2 H2=>tb { Gy X D with nx:=N,ct:=N,bk:=(Gy X D).nx } σ2 H2)
theorem Rl {tg l:Expr} {body:List Stmt} {tl:TE} {g:TG} {tb:TS} {pos:Pos} (hp:PassesOwn (model X.prog X.w) X.A X.env X.xe) (hc:X.calm=true) (hl:PE X l tl) (hg:PG X tg g) (hb:Lr X body tb)
  (hs:∀x,foldedSetIterable l X.env x=pure x:=by intro _;rfl):PS X (.For tg l body [] pos) (SH X tl g tb):=by
 intro pins s σ H D I h;refine Bd (BJ (pos:=pos) hp hc (SB hl) hg hb hs pins s σ H (Gy X D) I h) λf s' q=>?_
 cases f with
 |next=>
  obtain⟨σ',H',I',d,o,kvs,nf,hd,q⟩:=q;exact⟨σ',_,I'.thaw hd nf,q⟩
 |brk=>obtain⟨σ',H',I',q⟩:=q;exact False.elim q
 |cont=>obtain⟨σ',H',I',q⟩:=q;exact False.elim q
 |ret v=>
  obtain⟨x,σ',H',I',r,d,o,kvs,nf,hd,q⟩:=q;exact⟨x,σ',_,I'.thaw hd nf,r,q⟩
theorem OR {d:Addr} {o:Obj} {kvs:List (Key×V)} {g:TG} {tb:TS} {D:Ends} {σ:St} {H:Hp} (nf:∀o u,X.H₀ d≠some (.frz o u)) (Pv:Nat->St->Hp->Prop) (h0:Pv 0 σ H) (hl:∀(i:Nat) (σ:St) (H:Hp),i<=kvs.length->Pv i σ H->H d=some (.frz o (.dK kvs)))
  (turn:∀(i:Nat) (k:Key) (v:V) (σ:St) (H:Hp),kvs[i]?=some (k,v)->Pv i σ H->g (kV k) σ H λσ2 H2=>tb { nx:=Pv (i+1),rt:=(Gy X D).rt,bk:=(Gy X D).nx,ct:=Pv (i+1) } σ2 H2)
  (done:∀(σ:St) (H:Hp),Pv kvs.length σ H->D.nx σ (upd H d (.dK kvs))) :
  ∃W:Nat->Nat->St->Hp->Prop,(∃m,W 0 m σ H)/\∀i m σ H,W i m σ H->
   ((PK d o kvs).stop i H/\(Gy X D).nx σ H)\/((PK d o kvs).go i H/\∃N:St->Hp->Prop,(∀σ' H',N σ' H'->∃m',m'<m/\W (i+1) m' σ' H')/\∀x H',(PK d o kvs).yld i H x H'->g x σ H' λσ2 H2=>tb { Gy X D with nx:=N,ct:=N,bk:=(Gy X D).nx } σ2 H2):=
 Pn (D:=Gy X D) Pv h0 hl turn λσ H p=>⟨d,o,kvs,nf,hl _ σ H (ak _) p,done σ H p⟩
structure M0 (X:Cx) (o:Expr) (m:Str) (apos cpos:Pos):Prop where
 base:attributeBase o m X.env (eval o X.env)=eval o X.env
 few:((backTo cpos (starEach [] X.env)).all (λx=>!x.1)&&(backToKw cpos (keywordEach [] X.env)).all (λx=>x.1.isSome)
  && decide (([]:List Expr).length+([]:List Keyword).length+(if([]:List Keyword).isEmpty then 0 else 1)<30))=true
 line:(apos.endLine == cpos.line)=true
 trees:backTo cpos (starEach [] X.env)=[]
def SA (td:TE):TE:=λσ H Q=>td σ H λx H1=>∃a kvs,x=.ref a/\H1 a=some (.dK kvs)/\Q .non (upd H1 a (.dK []))
theorem OQ {o:Expr}{td:TE}{apos cpos:Pos}(ho:PE X o td)(m:M0 X o "clear" apos cpos):PE X (.Call (.Attribute o "clear" apos) [] [] cpos) (SA td):=by
 intro pins s σ H Q I h;refine fD m.base m.few m.line dS fP PySem.F.type_dict_clear (Bd (ho pins s σ H _ I h) λu s1 z9=>?_);obtain⟨x,H1,I1,rx,a,kvs,ex,ea,q1⟩:=z9;subst ex;obtain rfl:u=Value.ref a:=rx;obtain⟨t1,t2,_⟩:=MZ I1 (.inl ⟨kvs,.inl ea⟩);refine⟨t1,t2,?_⟩;rw[m.trees];exact cK rfl (gB (Ru I1 ea λs3 I3=>⟨.non,_,I3,rfl,q1⟩))
end
theorem Br {t u:TS}{D:Ends}{σ:St}{H:Hp}(M:St->Hp->Prop)(h1:∀N:St->Hp->Prop,(∀σ' H',M σ' H'->N σ' H')->t { D with nx:=N } σ H)(h2:∀σ' H',M σ' H'->u D σ' H'):RD t u D σ H:=h1 (u D) h2
theorem Lb {J:It} {xs:List V} {fr:List (Option Nat)} {k:Nat} {te:TE} {Q:VK} {σ:St} {H:Hp} (I:Nat->List V->Addr->Hp->Prop) (hn:xs.length<=1000000)
  (hJ:∀i ys l H',I i ys l H'->(i<xs.length->J.go i H')/\(∀x H'',J.yld i H' x H''->H''=H'/\(i<xs.length->xs[i]?=some x))/\(xs.length<=i->J.stop i H'))
  (h0:∀l,H l=none->I 0 [] l (upd H l (.lst [])))
  (step:∀(i:Nat) (x:V) (ys:List V) (l:Addr) (H':Hp) (R:VK),xs[i]?=some x->H l=none->H' l=some (.lst ys)->ys.length=i->I i ys l H'->(∀y H'',H'' l=some (.lst ys)->I (i+1) (ys++[y]) l (upd H'' l (.lst (ys++[y])))->R y H'')->te ((stC fr σ).set k (some x)) H' R)
  (hQ:∀l H' (ys:List V),H l=none->H' l=some (.lst ys)->ys.length=xs.length->I xs.length ys l H'->Q (.ref l) H'):DW fr (Az k) NB te σ Q J H:=by
 intro l hl;refine⟨λi m σ' H'=>m=xs.length-i/\i<=xs.length/\(∀y,σ'.set k y=(stC fr σ).set k y)/\∃ys:List V,H' l=some (.lst ys)/\ys.length=i/\I i ys l H',⟨xs.length,by simp,bw _,λ_=>rfl,[],Ac,rfl,h0 l hl⟩,?_⟩
 rintro i m σ' H' ⟨rfl,hi,hσ,ys,hl',hlen,hI⟩
 obtain⟨h1,h2,h3⟩:=hJ i ys l H' hI
 by_cases hlt:i<xs.length
 ·refine .inr ⟨h1 hlt,λx H'' y=>?_⟩;obtain⟨rfl,hx⟩:=h2 x H'' y;have hx:=hx hlt;show te (σ'.set k (some x)) H'' _;rw[hσ];refine step i x ys l H'' _ hx hl hl' hlen hI λy H4 hl4 hI4=>?_
  exact⟨ys,hl4,AO (by omega),xs.length-(i+1),by omega,rfl,hlt,λy=>by rw[d4],ys++[y],Ac,by rw[ao,hlen];rfl,hI4⟩
 ·have e:i=xs.length:=by omega
  subst e;exact .inl ⟨h3 (ak _),hQ l H' ys hl hl' hlen hI⟩
theorem Qq {lo:Int}{n i:Nat}{H:Hp}:(i<((List.range n).map λ(i:Nat)=>V.int (lo+(i:Int))).length->(Q7 lo n).go i H)/\(∀x H'',(Q7 lo n).yld i H x H''->H''=H/\(i<((List.range n).map λ(i:Nat)=>V.int (lo+(i:Int))).length->((List.range n).map λ(i:Nat)=>V.int (lo+(i:Int)))[i]?=some x))/\(((List.range n).map λ(i:Nat)=>V.int (lo+(i:Int))).length<=i->(Q7 lo n).stop i H):=by
 rw[aa,bL];refine⟨λh=>h,λx H'' y=>⟨y.1,λh=>?_⟩,λh=>h⟩;rw[aB,eM h,y.2];rfl
end L2
namespace L2
section
open PySem
open Sem (wp wp_bind' wp_mono)
def Rk (o:Obj):Prop:=∃vs,o.data=.fields vs/\vs[2]?=some .none
def DictAt (h:Heap)(e:Addr)(d:Option Addr):Prop:=∃o,h.objs[e]?=some o/\o.dict=d/\Rk o
variable {α β:Type}
end
end L2
namespace L2
open PySem PySem.Spec PyProof.Rows
structure Fly (P:Program) (w:World) (outer:List Env) (H:Hp) (s:Shared) (ea:Addr) (cls:Value) (H':Hp) (B:Heap) (a0:Value) (s':Shared):Prop where
 os:s'.os=s.os
 bare:AllBare s'.gens
 un:Un (KP outer) [] H H' s.heap s'.heap
 hok:Gw P w H' B
 fl:Heap.FlyingW B outer ea cls a0 s'.heap
 kp:∀b o,s.heap.get? b=some o->H b=none->b∉KP outer->B.get? b=some o
 th:∀b o,s.heap.get? b=some o->b∉KP outer->∃o',B.get? b=some o'
 dj:∃d,DictAt s'.heap ea d
section
variable {P:Program}{w:World}{outer:List Env}{H H':Hp}{s s':Shared}{ea:Addr}{cls a0:Value}{B h' base:Heap}
theorem Fly.stay (F:Fly P w outer H s ea cls H' B a0 s')(hl:s.heap.FunFrames base outer)(hn:∀b∈KP outer,H b=none)(sB:B.StaysIn h')(up:s'.heap.UpToSlots h'):Un (KP outer) [] H H' s.heap h':=by
 have sl:∀b o,s.heap.get? b=some o->b∈KP outer->∃sl,h'.get? b=some { o with slots:=sl }:=λb o q hb=>by
  obtain⟨z,e⟩:=F.un.slot b o q (hn b hb) hb (by simp);obtain⟨_,o',ho',hd⟩:=hl.mem hb;rw[q] at ho';cases ho';exact up b { o with slots:=z } e hd
 refine⟨λb o q n hb _=>sB b o (F.kp b o q n hb),λb o q _ hb _=>sl b o q hb,F.un.free,λb o q _=>?_,F.un.tups,F.un.frzs,F.un.tbls⟩
 by_cases hb:b∈KP outer
 ·obtain⟨z,e⟩:=sl b o q hb;exact⟨_,e⟩
 ·obtain⟨o',e⟩:=F.th b o q hb;exact⟨o',sB b o' e⟩
end
section
variable {X:Cx}{pins:List (Addr×Obj)}{σ:St}{H H':Hp}{s s':Shared}{ea:Addr}{cls a0:Value}{B h':Heap}
theorem Inv.landed (I:Inv X pins σ H s)(F:Fly X.prog X.w X.stack H s ea cls H' B a0 s')(sB:B.StaysIn h')(up:s'.heap.UpToSlots h'):Inv X pins σ H' { s' with heap:=h' }:=
 I.call' (s':={ s' with heap:=h' }) (ch:=[]) F.os (F.stay I.stack I.stkFree sB up) (F.hok.kept sB) F.bare (λb z=>nomatch z)
end
abbrev XS:=Value->St->Hp->Prop
abbrev TX:=Ends->XS->St->Hp->Prop
def XP (X:Cx)(pins:List (Addr×Obj))(Ex:XS)(e:Value)(s':Shared):Prop:=
 ∃(ea:Addr) (cls:Value) (σ':St) (H1 H':Hp) (s1:Shared) (B:Heap) (a0:Value),e=.ref ea/\Inv X pins σ' H1 s1/\Fly X.prog X.w X.stack H1 s1 ea cls H' B a0 s'/\Ex cls σ' H'
def PX (X:Cx)(st:Stmt)(t:TX):Prop:=
 ∀(pins:List (Addr×Obj)) (s:Shared) (σ:St) (H:Hp) (D:Ends) (Ex:XS),Inv X pins σ H s->t D Ex σ H->wpAny (model X.prog X.w) X.A (exec st X.env) (SP X pins D) (XP X pins Ex) s
def VW (X:Cx)(st:List Stmt)(t:TX):Prop:=
 ∀(pins:List (Addr×Obj)) (s:Shared) (σ:St) (H:Hp) (D:Ends) (Ex:XS),Inv X pins σ H s->t D Ex σ H->wpAny (model X.prog X.w) X.A (execs st X.env) (SP X pins D) (XP X pins Ex) s
section
variable {X:Cx}{st:Stmt}{rest:List Stmt}{e:Expr}{pos:Pos}
theorem RU {t:TS}(h:PS X.nox st t):PX X st (λD _=>t D):=λpins s σ H D Ex I q=>
 bu (h pins s σ H D (I.wish _) q) (λ_ _ z=>z.unwish) λ_ _ z=>False.elim z
theorem Rc {t:TX}(h1:PX X st t):VW X [st] t:=by
 intro pins s σ H D Ex I h;refine fK (Bd (h1 pins s σ H D Ex I h) λf s1 q=>?_);cases f with
 |next=>exact dH q
 |ret v=>exact q
 |brk=>exact q
 |cont=>exact q
end
def Cx.held (X:Cx)(e:Value):Cx:={ X with A:=X.A.mark (some e),calm:=false,xe:=λ_ _=>False }
section
variable {X:Cx}{pins:List (Addr×Obj)}{σ:St}{H:Hp}{s:Shared}{e:Value}
theorem Inv.held (I:Inv X pins σ H s)(e:Value):Inv (X.held e) pins σ H s:=
 ⟨⟨I.ok.mod,I.ok.kind,I.ok.glob,I.ok.blt,I.ok.above,I.ok.inj,I.ok.has,I.ok.cab,(λz=>nomatch z),I.ok.frames,I.ok.stk,I.ok.exf,I.ok.bs,I.ok.bsz,I.ok.noex,I.ok.exfs,I.ok.funs,I.ok.frf⟩,I.os,I.bare,I.base,I.loc,I.cell,I.free,I.freeC,I.pin,I.hok,I.len⟩
theorem Inv.unheld (J:Inv X pins σ H s){σ':St}{H':Hp}{s':Shared}(I:Inv (X.held e) pins σ' H' s'):Inv X pins σ' H' s':=
 ⟨J.ok,I.os,I.bare,I.base,I.loc,I.cell,I.free,I.freeC,I.pin,I.hok,I.len⟩
theorem SP.unheld (J:Inv X pins σ H s){D:Ends}{f:Flow}{s':Shared}(h:SP (X.held e) pins D f s'):SP X pins D f s':=by
 cases f with
 |next=>obtain⟨σ',H',I,q⟩:=h;exact⟨σ',H',J.unheld I,q⟩
 |brk=>obtain⟨σ',H',I,q⟩:=h;exact⟨σ',H',J.unheld I,q⟩
 |cont=>obtain⟨σ',H',I,q⟩:=h;exact⟨σ',H',J.unheld I,q⟩
 |ret u=>obtain⟨v,σ',H',I,r,q⟩:=h;exact⟨v,σ',H',J.unheld I,r,q⟩
end
section
variable {X:Cx}{x:Str}{c:Value}{body orelse suite:List Stmt}{b₀:Stmt}{np hpos pos:Pos}
def VO (K:PySem.W.Frag)(c:Value)(tb:TX)(te ts:TS):TS:=λD σ H=>tb { D with nx:=te D } (λcls σ' H'=>PySem.W.exmOne K cls c=some true/\ts D σ' H') σ H
theorem To {tb:TX} {te ts:TS} (hst:X.stack=X.env::X.outer/\X.env.frame=some X.env.locals) (hm:X.mg x=some c) (hg:Gl X x) (hb:VW X body tb) (he:Lr X orelse te) (hs:∀e,Lr (X.held e) (b₀::suite) ts)
  (hd:(x == ("__debug__":Str))=false:=by decide):PS X (.Try body [.ExceptHandler (some (.Name x np)) none (b₀::suite) hpos] orelse [] pos) (VO X.K c tb te ts):=by
 intro pins s σ H D I h;refine wpAny_Try_except (bu (hb pins s σ H _ _ I h) (λf s1 q=>?_) λe s1 q=>?_)
 ·cases f with
  |next=>
   obtain⟨σ',H',I',q⟩:=q;exact he pins s1 σ' H' D I' q
  |ret v=>exact q
  |brk=>exact q
  |cont=>exact q
 ·obtain⟨ea,cls,σ',H1,H',s2,B,a0,rfl,I2,F,hx,q⟩:=q;have hfr:=I.ok.frames;have fl:=F.fl;rw[hst.1] at hfr fl;refine wpAny_looks_onW hfr hst.2 fl λh4 held4 up4=>?_
  refine wpAny_landsW held4 λh5 fl5 up5=>?_
  have J5:=I2.landed F fl5.1 (up4.trans up5);refine wpAny_handleBy_cons (codeAny_handlers_test (IR (J5.held (.ref ea)) hg hm ?_ hd)) (by intro z;cases z);obtain⟨ob,hob,hcls⟩:=fl5.there;have LT:PySem.W.Looks (model X.prog X.w) h5 (typeOf (.ref ea)) cls:=by
   subst hcls;exact(PySem.W.Looks.ld hob).andThen .now
  refine(PySem.W.exm_one J5.kIn LT hx).here ?_;refine codeAny_handlers_suite (lands_againW fl5 λh6 fl6 up6=>?_);have J6:=I2.landed F fl6.1 ((up4.trans up5).trans up6);exact bu (hs (.ref ea) pins _ σ' H' D (J6.held (.ref ea)) q) (λf s7 z=>z.unheld J6) λ_ _ z=>False.elim z
end
end L2
namespace L2
section
open PySem PySem.Calls PyProof.Rows PySem.W Builtin Builtin.ObjectAttr Builtin.Getset_descriptor
section
variable {prog:Program}{w:World}{A:Around}{E:Value->Shared->Prop}{K:Frag}{e D:Addr}
structure ExcCls (K:Frag) (D:Addr):Prop where
 ga:findIn K (.ref D) "__getattribute__"=some (some (.builtin "BaseException.__getattribute__"))
 gg:findIn K (.ref D) "__getattr__"=some none
 cl:findIn K (.ref D) "__class__"=some (some (.builtin "object.__class__"))
 sp:specialIn K (.builtin "object.__class__") "__get__"=some (some (.builtin "getset_descriptor.__get__"))
 tk:takesIn K (.builtin "object.__class__")=some true
 mo:mroIn K D (.type "object")=some true
 mb:mroIn K D (.type "BaseException")=some true
theorem ExcCls.there (c:ExcCls K D):∃o,K.lookup D=some o/\∃cd,o.data=.cls cd:=by
 obtain⟨cd,h,_⟩:=Option.bind_eq_some_iff.mp c.mo;unfold clsIn at h
 split at h
 ·rename_i o d' cd' sl' ho
  exact⟨_,ho,_,rfl⟩
 ·cases h
end
end
open PySem PySem.Spec PyProof.Rows
section
variable {X:Cx}{pins:List (Addr×Obj)}{σ:St}{H:Hp}{s:Shared}
theorem Inv.know {e:Addr} {o:HO} (I:Inv X pins σ H s) (n0:e∉X.ex->X.s₀.heap.get? e=none) (nl:e≠X.env.locals) (nc:∀x c,X.env.cells.lookup x=some c->c≠e) (np:∀p∈X.pn++pins,p.1≠e) (hn:H e=none)
  (ho:A4 X.prog X.w (upd H e o) s.heap e o):Inv X pins σ (upd H e o) s:=by
 have up:∀{b:Addr} {u:HO},H b=some u->upd H e o b=some u:=λ{b u} q=>by rw[Af (Bh q hn)];exact q
 refine⟨I.ok,I.os,I.bare,⟨I.base.keep,I.base.slot,λb ob q n x=>?_,I.base.there,λb xs q=>up (I.base.tups b xs q),λb ob u q=>up (I.base.frzs b ob u q),λb ps q=>?_⟩,I.loc,I.cell,?_,λx c q=>?_,λp hp=>?_,λb u q=>?_,I.len⟩
 ·rw[Af (λz=>by subst z;rw[n0 x] at q;cases q)];exact I.base.free b ob q n x
 ·obtain⟨more,z⟩:=I.base.tbls b ps q;exact⟨more,up z⟩
 ·rw[Af nl.symm];exact I.free
 ·rw[Af (nc x c q)];exact I.freeC x c q
 ·obtain⟨h1,h2,h3⟩:=I.pin p hp;exact⟨h1,by rw[Af (np p hp)];exact h2,h3⟩
 ·by_cases hb:b=e
  ·subst hb;rw[Ac] at q;cases q;exact ho
  ·rw[Af hb] at q;exact(I.hok b u q).stay (λc v _ z=>z) (λ_ z=>up z) λ_ _ z=>up z
end
end L2
namespace L2
end L2
namespace L2
end L2
namespace L2
open PySem PySem.Spec PyProof.Rows
end L2
namespace L2
end L2
namespace L2
open PySem PySem.Calls PySem.Spec PyProof.Rows PySem.Builtin.Str
end L2
namespace L2
open PySem PySem.Spec PyProof.Rows
end L2
namespace L2
section
open PySem PySem.Spec PyProof.Rows
structure HeldS (X:Cx) (e:Addr) (oe:Obj):Prop where
 hd:X.A.handled=some (.ref e)
 at_:X.s₀.heap.get? e=some oe
 free:X.H₀ e=none
 nfs:e∉X.fs
 nex:e∉X.ex
 fl:Rk oe
structure NowH (h:Heap) (e:Addr) (oe:Obj):Prop where
 at_:h.get? e=some oe
 fl:Rk oe
theorem HeldS.now {X:Cx}{e:Addr}{oe:Obj}(h:HeldS X e oe){pins:List (Addr×Obj)}{σ:St}{H:Hp}{s:Shared}(I:Inv X pins σ H s):NowH s.heap e oe:=⟨I.base.keep e oe h.at_ h.free h.nfs h.nex,h.fl⟩
end
section
open PySem PySem.Spec PyProof.Rows
structure RoomH (k:Nat) (A:Around):Prop where
 dp:A.depth+3*k+5<recursionLimit
 un:A.units+16*k+200<cLine
structure FnOkH (P:Program) (w:World) (K:PySem.W.Frag) (mg:Str->Option Value) (base:Heap) (k:Nat) (f:Addr) (fd:FuncData) (ps:List Str) (sp:Sp):Prop where
 len:∀vs H Q E,sp vs H Q E->vs.length=ps.length
 run:∀(A:Around) (outer:List Env) (s:Shared) (H:Hp) (args:Args) (us:List Value) (vs:List V) (Q:VK) (E:XK) (eh:Addr) (oh:Obj),RoomH k A->Env0 P w K mg base A outer s H->A.handled=some (.ref eh)->s.heap.get? eh=some oh->H eh=none->eh∉KP outer->Rk oh->BindsTo s fd args (ps.zip us)->AD vs us->sp vs H Q E->
  codeAny (model P w) A (.call (.ref f) args) (CR CZ outer P w H s Q E) s
def UE (P:Program)(w:World)(K:PySem.W.Frag)(mg:Str->Option Value)(base:Heap)(k:Nat)(x:Str)(ps:List Str)(sp:Sp):Prop:=
 ∃(f:Addr) (fd:FuncData),FnOk P w K mg base CZ k f fd ps sp/\FnOkH P w K mg base k f fd ps sp/\mg x=some (.ref f)/\PySem.W.keepIn K (.ref f)=true/\Binds K fd ps []
theorem UE.def {P:Program}{w:World}{K:PySem.W.Frag}{mg:Str->Option Value}{base:Heap}{k:Nat}{x:Str}{ps:List Str}{sp:Sp}(D:UE P w K mg base k x ps sp):Def P w K mg base k x ps sp:=by
 obtain⟨f,fd,F,_,r⟩:=D;exact⟨f,fd,F,r⟩
variable {X:Cx}{k:Nat}{x:Str}{ps:List Str}{sp:Sp}{e:Expr}{es:List Expr}{t:TA}{p pos:Pos}
end
end L2
namespace L2
section
open PySem PySem.Calls PyProof.Rows
variable {prog:Program}{w:World}{A:Around}{E:Value->Shared->Prop}{s:Shared}
def NW (Q:Value->Shared->Prop)(vs:List Value)(s1:Shared):Prop:=∃ss,StrsAre vs ss/\vs.length<64/\
 ∀h' p (out:List Value) ss' c,StrsAre out ss'->ss'.Perm ss->sortedS ss'=true->s1.heap.objs.size<=p->(∀b o,s1.heap.get? b=some o->h'.get? b=some o)->
  h'.get? p=some (seqObj "list" out.toArray c)->Q (.ref p) { s1 with heap:=h' }
theorem JO {x:Value}{Q:Value->Shared->Prop}(hc:wpAny (model prog w) A.in1 (collect x) (NW Q) E s):wpAny (model prog w) A (call (.builtin "sorted") [x]) Q E s:=by
 refine d9 kind_sorted gy gA (args_sorted1 x) ?_;unfold Builtin.«sorted»;refine ab (m:=checkCount "sorted" 1 1 _) (av (ab (bu hc (λvs s1 z=>?_) λ_ _ e=>e)));obtain⟨ss,hS,few,q⟩:=z;refine ab (cV ?_);have there:(s1.heap.push (seqObj "list" vs.toArray 0)).get? s1.heap.objs.size=some (seqObj "list" vs.toArray 0):=aG _ rfl;refine ab (bC (cS fI ⟨_,there,rfl⟩ ft (list_sort_treeK strKind_oneLt there hS.keysOf (λv₁ v₂ rest e=>keyKind_strs (by rw[<-e];exact hS)) few λst' pm so=>⟨_,rfl,?_⟩) (args_list_sort _)));obtain⟨ss',y1,y2,y3⟩:=sorted_out_str hS pm so;obtain⟨c,hp⟩:=sortedHeap_at (out:=(arrOf st').map (·.2)) there;refine av ⟨_,rfl,q _ _ ((arrOf st').map (·.2)).toList ss' c y1 y2 y3 (ak _) (λb o e=>?_) (by rw[gx];exact hp)⟩;have lt:=aD e;show Heap.get? _ b=some o;rw[sortedHeap_old (aN lt) (by rw[bP];exact bR lt)];exact af _ e
def Tq (S:Addr)(Q:List Value->Shared->Prop)(r:Result)(s':Shared):Prop:=∃acc c,r=.ok (.ret (.ref S))/\s'.heap.get? S=some { cls:=.type "list",dict:=none,data:=.seq acc c,slots:=#[] }/\Q acc.toList s'
theorem Ma {x:Value} {Q:List Value->Shared->Prop} (h:wpAny (model prog w) A.in1 (Builtin.List.listExtendWith (.ref s.heap.objs.size) x (.ref s.heap.objs.size))
   (λfin s'=>match fin with | .done f=>Tq s.heap.objs.size Q (.ok f) s' | .again c'=>c'.quiet=true/\codeAny (model prog w) A c' (Tq s.heap.objs.size Q) s') (λe s'=>Tq s.heap.objs.size Q (.error e) s')
   { s with heap:=s.heap.push { cls:=.type "list",data:=.seq #[] } }):wpAny (model prog w) A (collect x) Q E s:=by
 unfold collect;refine ab (wpAny_runValue (dc PySem.F.entry_proto_collect ?_));rw[cE PySem.F.plain_proto_collect _];refine ab (cB (av ⟨cW fQ _,dc PySem.F.entry_list_iadd ?_⟩));rw[cE fQ _];refine bu h (λfin s' z=>?_) (λe s' z=>?_)
 ·cases fin with
  |done f=>
   obtain⟨acc,c,e,hS,q⟩:=z;cases e;exact ab (gf hS (av q))
  |again c'=>
   refine⟨z.1,eK z.2 λr s2 z2=>?_⟩;obtain⟨acc,c,rfl,hS,q⟩:=z2;exact ab (gf hS (av q))
 ·obtain⟨acc,c,e,_⟩:=z;cases e
theorem Il {T:String} {r d:Addr} {n:Nat} {P:Nat->Value->Prop} {OK:Heap->Prop} {Q:List Value->Shared->Prop} (S:PySem.W.KdlSrc prog w T r d n P OK) (hh:A.handled=none) (ok:OK s.heap) (hn:n<=sizeLine)
  (q:∀h' tk (vs:List Value),(∀b o,s.heap.get? b=some o->h'.get? b=some o)->vs.length=n->(∀j v,vs[j]?=some v->P j v)->Q vs { s with heap:=h',toks:=tk }):wpAny (model prog w) A (collect (.ref r)) Q E s:=by
 obtain⟨lr,ld⟩:=S.there _ ok;refine Ma (PySem.W.kdl_extend S hh (S.keep _ _ ok λb _ o e=>af _ e) s.heap.objs.size (cF lr) (cF ld) (.ref s.heap.objs.size) 0 (aG _ rfl) (λh' tk acc c k hS it=>?_) hn);refine⟨acc,c,rfl,hS,q h' tk acc.toList (λb o e=>k b o (aN (aD e)) (af _ e)) (by rw[bY];exact it.1) λj v e=>it.2 j v (by rw[<-cx];exact e)⟩
def SQ (h:Heap)(it a:Addr)(first:Value)(i n ep:Nat):Prop:=∃o,h.get? it=some o/\o.cls=.type "set_iterator"/\o.data=.fields #[first,rawInt i,.ref a,rawInt n,rawInt ep]
theorem SQ.typeIs {it a:Addr}{f:Value}{i n ep:Nat}(x:SQ s.heap it a f i n ep):s.TypeIs (.ref it) "set_iterator":=let⟨o,e,c,_⟩:=x;⟨o,e,c⟩
end
end L2
namespace L2
end L2
namespace L2
end L2
namespace L2
end L2
namespace L2
section
open PySem PySem.Calls PyProof.Rows
variable {X:Cx}{pins:List (Addr×Obj)}{σ:St}{H:Hp}{s:Shared}
theorem Inv.drew {d':Drawn}(I:Inv X pins σ H s):Inv X pins σ H { s with drawn:=d' }:=⟨I.ok,I.os,I.bare,I.base,I.loc,I.cell,I.free,I.freeC,I.pin,I.hok,I.len⟩
theorem G7:∀{ss:List Str} {its:List Value},StrsAre its ss->AD (ss.map V.str) its
 |_,_,.nil=>.nil
 |_,_,.cons x t h=>.cons ⟨t,rfl⟩ (G7 h)
theorem N6:∀{us:List Value} {ss:List Str},us.length=ss.length->(∀(j:Nat) (v:Value),us[j]?=some v->∃k t,v=.str k t/\ss[j]?=some k)->StrsAre us ss
 |[],[],_,_=>.nil
 |[],_::_,h,_=>nomatch h
 |_::_,[],h,_=>nomatch h
 |u::us,k::ss,h,f=>by
  obtain⟨k',t,rfl,e⟩:=f 0 u rfl;cases e;exact .cons _ t (N6 (cZ h) λj v e=>f (j+1) v e)
theorem IJ:∀{kvs:List (Key×V)} {vs:List (Key×Value)},KV kvs vs->vs.map (·.1)=kvs.map (·.1)
 |_,_,.nil=>rfl
 |_,_,.cons h t=>by rw[aq,aq,IJ t,h.1]
def Qb (H:Hp)(ks:List Str)(Q:VK):Prop:=∀ts p,ts.Perm ks->sortedS ts=true->H p=none->Q (.ref p) (upd H p (.lst (ts.map V.str)))
theorem Qy {Q:VK}{ks:List Str}{d':Drawn}{tk:Nat}{h1:Heap}{vs:List Value}{ss:List Str}(I:Inv X pins σ H s)(k:∀b o,s.heap.get? b=some o->h1.get? b=some o)(hs:StrsAre vs ss)(pm:ss.Perm ks)(few:ks.length<64)(q:Qb H ks Q) :
  NW (EP X pins σ Q) vs { s with heap:=h1,drawn:=d',toks:=tk }:=by
 have I1:Inv X pins σ H { s with heap:=h1,drawn:=d',toks:=tk }:=(I.drew (d':=d')).kept (t':=tk) k;refine⟨ss,hs,by rw[hs.length,pm.length_eq];exact few,λh' p out ss' c ho pe so lp k' e=>⟨.ref p,_,I1.laid (t':=tk) k' lp (?_:A4 X.prog X.w _ h' p (.lst (ss'.map V.str))),rfl,q ss' p (pe.trans pm) so (I1.hok.fresh lp)⟩⟩;refine⟨?_,out,c,G7 ho,e⟩;rw[aa,pe.length_eq,pm.length_eq,br];omega
def Tw:List V->Hp->VK->Prop:=λxs H Q=>∃(d:Addr) (kvs:List (Key×V)) (ss:List Str),xs=[.ref d]/\H d=some (.dK kvs)/\kvs.map (·.1)=ss.map .inr/\ss.length<64/\Qb H ss Q
theorem Nk (hc:X.calm=true):Dw X (.builtin "sorted") Tw:=by
 intro pins s σ H xs us Q I r h;obtain⟨d,kvs,ss,rfl,h1,hk,few,q⟩:=h;obtain⟨u,rfl,ru⟩:=vals1 r;cases ru;obtain⟨_,lo,vs,rv,o,es,ep,ho,h2,h3,h4⟩:A4 X.prog X.w H s.heap d (.dK kvs):=I.hok d _ h1;have D:s.heap.DictAt (AK X.prog X.w) d vs ep:=⟨o,es,ho,h2,h3,h4⟩
 have ln:vs.length=ss.length:=by
  have:=congrArg List.length hk;rw[aa,aa] at this;rw[<-this];exact rv.length.symm
 refine JO (Il (fe (knd:=AK X.prog X.w) (kvs:=vs) (ep:=ep) lo) (by simpa using I.ok.hd hc) D (by rw[ln,br];omega) λh' tk us k lu it=>?_);have hs:StrsAre us ss:=by
  refine N6 (by rw[lu,ln]) λj v e=>?_
  obtain⟨ky,x,e1,e2⟩:=it j v e;have e3:(kvs.map (·.1))[j]?=some ky:=by rw[<-IJ rv,aB,e1];rfl
  rw[hk,aB] at e3;cases z:ss[j]? with
  |none=>rw[z] at e3;cases e3
  |some y=>
   rw[z] at e3;injection e3 with e3
   subst e3;obtain⟨t,rfl⟩:=G1 e2;exact⟨_,t,rfl,rfl⟩
 exact Qy (d':=s.drawn) I k hs (List.Perm.refl _) few q
end
end L2
namespace L2
open PySem
end L2
namespace L2
open PySem PySem.Spec PyProof.Rows
theorem L5 {prog:Program} {w:World} {A:Around} {E:Value->Shared->Prop} {s:Shared} {t sl:Addr} {items:Array Value} {vl vu:Value} {lo hi:Option Int} {Q:Value->Shared->Prop} (ht:IsTup s.heap t items) (hs:s.heap.IsSliceOf sl vl vu .none) (pl:IsPart vl lo) (pu:IsPart vu hi)
  (w0:HT.Ct items.size 0 lo=0) (w1:HT.Ct items.size items.size hi=items.size) (h:Q (.ref t) s):wpAny (model prog w) A (getItem (.ref t) (.ref sl)) Q E s:=by
 obtain⟨os,hos,hcs,hds⟩:=id hs;have hTs:s.TypeIs (.ref sl) "slice":=⟨os,hos,hcs⟩
 have hT:=ht.typeIs;unfold getItem
 try with_reducible refine bC ?_
 first|refine ab (av ?_)|skip
 refine ab (wpAny_sequenceKey ht.typeIs (by decide) ?_);refine ab (gI (name:=Str.ofString "__getitem__") ht.typeIs cA
  (cS cA ht.typeIs entry_tuple_getitem ?_ (args_tuple_getitem _ _)))
 show wpAny _ _ (Builtin.Tuple.tupleItemsOf (.ref t) >>= _) _ _ s;refine ab (tupleItemsOf_ ht ?_);refine ab (eJ hTs ?_);rw[aE (by decide)];refine ab (HT.EE hs pl pu ?_);have hyes:(((HT.Ct items.size 0 lo:Nat):Int) == 0&&(1:Int) == 1&&(HT.Ct items.size items.size hi-HT.Ct items.size 0 lo) == items.size)=true:=by
  rw[w0,w1];simp
 show wpAny _ _ (if(((HT.Ct items.size 0 lo:Nat):Int) == 0&&(1:Int) == 1&&(HT.Ct items.size items.size hi-HT.Ct items.size 0 lo) == items.size)=true then _ else _) _ _ s;rw[aE hyes];refine ab (m:=Builtin.Tuple.tupleIsExact _) ?_;unfold Builtin.Tuple.tupleIsExact;refine ab (eJ hT (av ?_));rw[aE (by decide)];exact ab (fm (av ⟨_,rfl,av h⟩))
section
variable {X:Cx}
def US (K:PySem.W.Frag):V->Option Int->Option Int->Hp->VK->Prop:=λx lo hi H Q=>∃a xs,x=.ref a/\AG K H a xs/\
 ((HT.Ct xs.length 0 lo=0/\HT.Ct xs.length xs.length hi=xs.length)->Q (.ref a) H)/\(¬(HT.Ct xs.length 0 lo=0/\HT.Ct xs.length xs.length hi=xs.length)->∀p,H p=none->Q (.ref p) (upd H p (.tup (KO xs lo hi))))
theorem Sd:UH X (US X.K):=by
 intro pins s σ H x v vl vu lo hi sl Q I rx hs pl pu h;obtain⟨a,xs,rfl,hx,q1,q2⟩:=h
 by_cases hw:HT.Ct xs.length 0 lo=0/\HT.Ct xs.length xs.length hi=xs.length
 ·cases rx;obtain⟨its,r,ht,hz⟩:=I.tuple hx;have hlen:its.toArray.size=xs.length:=by rw[aF];exact r.length.symm
  refine⟨"tuple",_,PyProof.Rows.slot_tuple_getitem.lookup,ht.typeIs,?_⟩;exact L5 ht hs pl pu (by rw[hlen];exact hw.1) (by rw[hlen];exact hw.2) ⟨.ref a,H,I,rfl,q1 hw⟩
 ·exact QZ pins s σ H _ v vl vu lo hi sl Q I rx hs pl pu ⟨a,xs,rfl,hx,hw,q2 hw⟩
theorem Nx (hu:X.A.units+1<cLine):Fu X (compareOp .NotEq) (UM X.K true):=by
 intro pins s σ H x y v u Q I rx ry h;obtain⟨a,b,xs,rfl,rfl,h1,h2,q⟩:=h;cases rx;cases ry;obtain⟨its,r1,p1,_⟩:=I.list h1;obtain⟨its2,r2,p2,_⟩:=I.list h2;cases r2;cases r1 with
 |nil=>
  exact SeqAt.RcNeAt.lists (A:=X.A) (s:=s) (e:=λ_=>true) p1.isList p2.isList rfl (by omega) (λj g1 g2=>absurd g1 (by simp)) _ _ _ _ ⟨.bl _,H,I,rfl,q⟩
 |cons r rr=>
  exact gq p1.isList p2.isList (by simp) (by omega) _ _ _ _ ⟨.bl _,H,I,rfl,q⟩
end
theorem E5:∀{ns:List Int} {its:List Value},IntsAre its ns->AD (ns.map V.int) its
 |[],_,.nil=>.nil
 |_::_,_,.cons n t h=>.cons ⟨_,rfl⟩ (E5 h)
def TC (K:PySem.W.Frag):List V->Hp->VK->Prop:=λxs H Q=>∃(a:Addr) (ns:List Int),xs=[.ref a]/\AB K H a (ns.map V.int)/\ns.length<64/\∀(ms:List Int) (p:Addr),ms.Perm ns->ms.Pairwise (·<=·)->H p=none->Q (.ref p) (upd H p (.lst (ms.map V.int)))
theorem JI {X:Cx}{K:PySem.W.Frag}(hK:X.K=K):Dw X (.builtin "sorted") (TC K):=by
 subst hK;intro pins s σ H xs us Q I r h;obtain⟨a,ns,rfl,h1,few,q⟩:=h;obtain⟨u,rfl,ru⟩:=vals1 r;cases ru;obtain⟨its,r1,p1,_⟩:=I.list h1;have hs:=intsAre_of r1;have hl:=IntsAre.length hs;refine sorted_ints p1.isList hs (by omega) λout ns' a1 a2 a3=>?_
 obtain⟨e,he⟩:=sortedAll_at s.heap its out;have lp:s.heap.objs.size<=s.heap.objs.size+1:=fk _;refine⟨.ref (s.heap.objs.size+1),_,I.laid (t':=s.toks) (o:=.lst (ns'.map V.int)) (λb o y=>sortedAll_old y) lp ?_,rfl,q ns' _ a2 a3 (I.hok.fresh lp)⟩;refine⟨?_,out.toList,e,E5 a1,he⟩;rw[aa,a2.length_eq,br];omega
end L2
namespace L2
end L2
namespace L2
section
open PySem PyProof.Rows
variable {prog:Program}{w:World}{A:Around}{E:Value->Shared->Prop}{s:Shared}{a₀:Array Keyed}
theorem J2:∀(fuel n r:Nat),minRun' fuel n r<=n+r
 |0,_,_=>ak _
 |fuel+1,n,r=>by
  rw[minRun'_succ]
  by_cases h:n<64
  ·rw[aE h];exact ak _
  ·rw[aH h];have:=J2 fuel (n/2) (max r (n%2));omega
theorem L7 {st:SortSt}{Q:Option Nat->SortSt->Prop}(h0:IntKeys a₀)(h1:1<=a₀.size)(hB:SBase a₀ st)(up:SortedTo (arrOf st) a₀.size)(h:Q (some a₀.size) st) :
  wpS (model prog w) A E s (countRun' 0 a₀.size) Q st:=by
 rw[countRun0_eq];have one:SortedTo (arrOf st) 1:=λi j hij hj=>by
  obtain rfl:i=j:=by omega
  exact eI _
 refine fc (wpS_ascLoop h0 (ak _) (ak 1) h1 hB one λn hn1 hn2 _ hor=>?_);have hn:n=a₀.size:=by
  rcases hor with e|lt
  ·exact e
  ·by_cases e:n=a₀.size
   ·exact e
   ·have:=up (n-1) n (by omega) (by omega);omega
 subst hn;dsimp only;rw[aE (by simp)];exact wpS_pure h
theorem MY {st:SortSt} {Q:Unit->SortSt->Prop} (h0:IntKeys a₀) (hB:SBase a₀ st) (h2:2<=a₀.size) (up:SortedTo (arrOf st) a₀.size)
  (h:∀st',(arrOf st').Perm a₀->failedOf st'=none->SortedTo (arrOf st') a₀.size->Q () st'):wpS (model prog w) A E s sortRuns' Q st:=by
 rw[sortRuns'_eq];refine fc (wpS_get ?_);have hm:minRun' a₀.size a₀.size 0<=a₀.size:=J2 _ _ 0;simp only[hB.size];generalize minRun' a₀.size a₀.size 0=mr at hm;have D:=hB.done up;refine fc (wpS_mono (wpS_forRange (I:=λx c st'=>(x=0/\c=(none,0)/\st'=st)\/(0<x/\c=(none,a₀.size)/\SDone a₀ st')) (Q:=λc st'=>c=(none,a₀.size)/\SDone a₀ st') (λx c st' _ hx hI=>?_) (λc st' hI=>?_) (.inl ⟨rfl,rfl,rfl⟩)) λc st' hc=>?_)
 ·rcases hI with⟨rfl,rfl,rfl⟩|⟨hx1,rfl,hD⟩
  ·dsimp only;rw[aH (by omega)];simp only[Nat.sub_zero,Nat.zero_add];refine fc (L7 h0 (by omega) hB up ?_);dsimp only;rw[aH (by omega)];refine fc (wpS_get ?_);have hb:(pendingOf st').back?=none:=by rw[hB.pend];rfl
   rw[hb];dsimp only;exact fc (wpS_modify (wpS_pure (.inr ⟨by omega,rfl,D⟩)))
  ·dsimp only;rw[aE (ak _)];exact wpS_pure ⟨rfl,hD⟩
 ·rcases hI with⟨hx,_⟩|⟨_,hc,hD⟩
  ·omega
  ·exact⟨hc,hD⟩
 ·obtain⟨rfl,hD⟩:=hc;dsimp only;refine fc (wpS_mono (wpS_forRange (I:=λ_ c st2=>c=(none,())/\st2=st') (Q:=λc st2=>c=(none,())/\st2=st') (λx c st2 _ _ hI=>?_) (λ_ _ hh=>hh) ⟨rfl,rfl⟩) λc st2 hc=>?_)
  ·obtain⟨rfl,rfl⟩:=hI;refine fc (wpS_get ?_);rw[aE (by rw[hD.2.2.1];exact ak 1)];exact wpS_pure ⟨rfl,rfl⟩
  ·obtain⟨rfl,rfl⟩:=hc;exact wpS_pure (h _ hD.1 hD.2.1 hD.2.2.2)
theorem Pp {vs:List Value}{ns:List Int}(hI:IntsAre vs ns)(up:ns.Pairwise (·<=·)):SortedTo (pairsOf vs) (pairsOf vs).size:=by
 have en:=hI.nums;intro i j hij hj;have hjv:j<vs.length:=by rw[pairsOf_size] at hj;exact hj
 have kk:∀k,(hk:k<vs.length)->K (pairsOf vs) k=(vs.map numOf)[k]'(by rw[aa];exact hk):=λk hk=>by
  rw[K_eq (by rw[pairsOf_size];exact hk)];simp[pairsOf]
 rw[kk i (by omega),kk j hjv];subst en
 by_cases e:i=j
 ·subst e;exact eI _
 ·exact aS.mp up i j _ _ (by omega)
theorem R4 {a:Addr} {vs:List Value} {ns:List Int} {n:Nat} {P:PySem.Fin->Shared->Prop} (ho:s.heap.get? a=some (seqObj "list" vs.toArray n)) (hI:IntsAre vs ns) (up:vs.length<64\/(vs.length<=sizeLine/\ns.Pairwise (·<=·)))
  (h:∀(out:Array Value) (ns':List Int),IntsAre out.toList ns'->ns'.Perm ns->ns'.Pairwise (·<=·)->P (.done (.ret .none)) { s with heap:=sortedHeap s.heap a vs out }) :
  wpAny (model prog w) A (Builtin.«list.sort» ⟨[.ref a],[]⟩) P E s:=by
 by_cases few:vs.length<64
 ·exact list_sort_tree ho hI few h
 have hz:=(up.resolve_left few).1;have up':=(up.resolve_left few).2;rw[list_sort_plain];have ha:a<s.heap.objs.size:=aD ho;refine ab (gz ho rfl (ab (cH ho rfl ?_)));obtain⟨e1,h1⟩:∃e,(s.heap.update a (Obj.mapSeq λ_=>#[])).get? a=some (seqObj "list" #[] e):=⟨_,ej ho (λ_=>#[])⟩
 refine ab (dY h1 rfl (ab (gd (ab (cV (bC ?_))))));have n1:a≠(s.heap.update a (Obj.mapSeq λ_=>#[])).objs.size:=by rw[cG];exact aN ha
 have n2:a≠((s.heap.update a (Obj.mapSeq λ_=>#[])).push (seqObj "tuple" vs.toArray 0)).objs.size:=by rw[bP,cG];exact aN (bR ha)
 have h2:(((s.heap.update a (Obj.mapSeq λ_=>#[])).push (seqObj "tuple" vs.toArray 0)).push (seqObj "list" #[] 0)).get? a=some (seqObj "list" #[] e1):=by
  rw[eB _ _ _ n2,eB _ _ _ n1];exact h1
 show wpAny (model prog w) A _ P E { s with heap:=((s.heap.update a (Obj.mapSeq λ_=>#[])).push (seqObj "tuple" vs.toArray 0)).push (seqObj "list" #[] 0) };dsimp only;have hs2:¬vs.toArray.size<2:=by simp;omega
 have ps:=pairsOf_size vs;rw[aH hs2,aH hs2];obtain⟨v1,v2,rest,rfl⟩:∃v1 v2 rest,vs=v1::v2::rest:=by
  match vs,few with
  |[],q=>exact absurd (by decide) q
  |[_],q=>exact absurd (by show 1<64;decide) q
  |v1::v2::rest,_=>exact⟨v1,v2,rest,rfl⟩
 rw[keyKind_ints hI];refine ab (av (ab (bu (MY (a₀:=pairsOf (v1::v2::rest)) (st:=SortSt.mk' oneType' ((v1::v2::rest).toArray.zip (v1::v2::rest).toArray) #[] 7 none)
  (Q:=λ_ st'=>(arrOf st').Perm (pairsOf (v1::v2::rest))/\failedOf st'=none/\SortedTo (arrOf st') (pairsOf (v1::v2::rest)).size)
  hI.intKeys ⟨Array.Perm.refl _,rfl,rfl,rfl⟩ (by rw[ps];simp) (Pp hI up') λst' a1 a2 a3=>⟨a1,a2,a3⟩) (λr s' hr=>?_) λ_ _ e=>e)))
 obtain⟨⟨⟩,st'⟩:=r;obtain⟨rfl,hp,hf,hs⟩:=hr;dsimp only;refine ab (dY h2 rfl (ab (cH h2 rfl ?_ (hsz2:=?_))))
 ·rw[hf];simp only[bne_self_eq_false,Bool.false_eq_true,if_false];obtain⟨ns',g1,g2,g3⟩:=sorted_out hI hp hs;exact av (h _ ns' g1 g2 g3)
 ·rw[Array.size_map,hp.size_eq,ps];exact Nat.le_succ_of_le hz
end
end L2
namespace L2
section
open PySem PySem.Calls PyProof.Rows
variable {prog:Program}{w:World}{A:Around}{E:Value->Shared->Prop}{s:Shared}
def Qt (Q:Value->Shared->Prop)(vs:List Value)(s1:Shared):Prop:=∃ns,IntsAre vs ns/\(vs.length<64\/(vs.length<=sizeLine/\ns.Pairwise (·<=·)))/\
 ∀h' p (out:List Value) ns' c,IntsAre out ns'->ns'.Perm ns->ns'.Pairwise (·<=·)->s1.heap.objs.size<=p->(∀b o,s1.heap.get? b=some o->h'.get? b=some o)->
  h'.get? p=some (seqObj "list" out.toArray c)->Q (.ref p) { s1 with heap:=h' }
theorem Ja {x:Value}{Q:Value->Shared->Prop}(hc:wpAny (model prog w) A.in1 (collect x) (Qt Q) E s):wpAny (model prog w) A (call (.builtin "sorted") [x]) Q E s:=by
 refine d9 kind_sorted gy gA (args_sorted1 x) ?_;unfold Builtin.«sorted»;refine ab (m:=checkCount "sorted" 1 1 _) (av (ab (bu hc (λvs s1 z=>?_) λ_ _ e=>e)));obtain⟨ns,hI,few,q⟩:=z;have there:(s1.heap.push (seqObj "list" vs.toArray 0)).get? s1.heap.objs.size=some (seqObj "list" vs.toArray 0):=aG _ rfl;refine ab (cV (ab (bC (cS fI ⟨_,there,rfl⟩ ft (R4 there hI few λout ns' a1 a2 a3=>⟨_,rfl,?_⟩) (args_list_sort _)))));obtain⟨c,hp⟩:=sortedHeap_at (out:=out) there;refine av ⟨_,rfl,q _ _ out.toList ns' c a1 a2 a3 (ak _) (λb o e=>?_) (by rw[gx];exact hp)⟩;have lt:=aD e;show Heap.get? _ b=some o;rw[sortedHeap_old (aN lt) (by rw[bP];exact bR lt)];exact af _ e
end
section
open PySem PySem.Spec PyProof.Rows
variable {X:Cx}
theorem NN:∀{vs:List Value} {ns:List Int},vs.length=ns.length->(∀(j:Nat) v,vs[j]?=some v->∃n t,ns[j]?=some n/\v=.int n t)->IntsAre vs ns
 |[],[],_,_=>.nil
 |[],_::_,h,_=>by cases h
 |_::_,[],h,_=>by cases h
 |v::vs,n::ns,h,k=>by
  obtain⟨n',t,e,rfl⟩:=k 0 v rfl;cases e;exact .cons _ _ (NN (by simpa using h) λj v e=>k (j+1) v (by simpa using e))
def Ri:List V->Hp->VK->Prop:=λxs H Q=>∃(d:Addr) (kvs:List (Key×V)) (ns:List Int),xs=[.ref d]/\H d=some (.dK kvs)/\kvs.map (·.1)=ns.map .inl/\(ns.length<64\/(ns.length<=100000/\ns.Pairwise (·<=·)))/\∀(ms:List Int) (p:Addr),ms.Perm ns->ms.Pairwise (·<=·)->H p=none->Q (.ref p) (upd H p (.lst (ms.map V.int)))
theorem HZ (hc:X.calm=true):Dw X (.builtin "sorted") Ri:=by
 intro pins s σ H xs us Q I r h;obtain⟨d,kvs,ns,rfl,h1,hk,few,q⟩:=h;obtain⟨u,rfl,ru⟩:=vals1 r;cases ru;obtain⟨_,lo,vs,rv,o,es,ep,ho,h2,h3,h4⟩:A4 X.prog X.w H s.heap d (.dK kvs):=I.hok d _ h1;have D:s.heap.DictAt (AK X.prog X.w) d vs ep:=⟨o,es,ho,h2,h3,h4⟩
 have ln:vs.length=ns.length:=by
  have:=congrArg List.length hk;rw[aa,aa] at this;rw[<-this];exact rv.length.symm
 refine Ja (Il (fe (knd:=AK X.prog X.w) (kvs:=vs) (ep:=ep) lo) (by simpa using I.ok.hd hc) D (by rw[ln,br];omega) λh' tk us k lu it=>?_);have hs:IntsAre us ns:=by
  refine NN (by rw[lu,ln]) λj v e=>?_
  obtain⟨ky,x,e1,e2⟩:=it j v e;have e3:(kvs.map (·.1))[j]?=some ky:=by rw[<-IJ rv,aB,e1];rfl
  rw[hk,aB] at e3;cases z:ns[j]? with
  |none=>rw[z] at e3;cases e3
  |some y=>
   rw[z] at e3;injection e3 with e3
   subst e3;obtain⟨t,rfl⟩:=G1 e2;exact⟨_,t,rfl,rfl⟩
 have I1:Inv X pins σ H { s with heap:=h',toks:=tk }:=I.kept (t':=tk) k;refine⟨ns,hs,by rw[lu,ln];exact few.imp id λz=>⟨by rw[br];omega,z.2⟩,λh2 p out ns' c a1 a2 a3 lp k2 hp=>⟨.ref p,_,I1.laid (t':=tk) k2 lp (?_:A4 X.prog X.w _ h2 p (.lst (ns'.map V.int))),rfl,q ns' p a2 a3 (I1.hok.fresh lp)⟩⟩;refine⟨?_,out,c,E5 a1,hp⟩;rw[aa,a2.length_eq,br];omega
theorem PJ {pins:List (Addr×Obj)} {σ:St} {H:Hp} {s:Shared} {a:Addr} {kvs:List (Key×V)} {k:Key} {u r:Value} {z:V} {A:Around} {E:Value->Shared->Prop} {Q:Value->Shared->Prop} (I:Inv X pins σ H s) (e:H a=some (.dK kvs)) (ry:RelV (kV k) u) (rz:RelV z r) (hl:kvs.length<sizeLine)
  (h1:∀v w' s',Bz kvs k=some v->Inv X pins σ H s'->RelV v w'->Q w' s') (h2:Bz kvs k=none->∀s',Inv X pins σ (upd H a (.dK (putK kvs k z))) s'->Q r s'):wpAny (model X.prog X.w) A (call (.builtin "dict.setdefault") [.ref a,u,r]) Q E s:=by
 obtain⟨z0,hd,vs,rel,dd⟩:=Qa I.hok e;have ki:=Ie (P:=X.prog) (w:=X.w) ry;cases hv:Bz kvs k with
 |some v=>
  obtain⟨w',hw,rw'⟩:=EA.some_of (v:=v) (o:=valueAt vs k) (by rw[<-hv];exact rel.val k);refine fF dw dd.typeIs fj (ff _ _ _) (meets_dict_setdefault (AK X.prog X.w) a ki hd r) ⟨_,dd.mapOf,?_,λv' e'=>?_,λe'=>?_⟩
  ·obtain⟨o,es,ep,ho,_,hx,_,hp,_⟩:=id dd;intro o' es' ep' g1 g2;rw[ho] at g1;cases g1;rw[hx] at g2;cases g2;have:=hp.length;rw[bY] at this;rw[this,<-rel.length];exact z0
  ·rw[hw] at e';cases e';exact h1 v _ _ hv (I.tok _) rw'
  ·rw[hw] at e';cases e'
 |none=>
  have hn:valueAt vs k=none:=EA.none_of (by rw[<-hv];exact rel.val k);obtain⟨o,es,ep,ho,hc,hx,hk,hp,nd⟩:=id dd;refine cS dw dd.typeIs fj ?_ (ff _ _ _);refine ab (ab (wpAny_notOrdered_dict dd.typeIs (av ?_)))
  change wpAny _ _ (if(a == sysModules)=true then _ else(dictSetDefault a u r >>= _)) _ _ s
  rw[aH (by rw[hd];exact ay)];have le:es.size<=sizeLine:=by
   have:=hp.length;rw[bY] at this;rw[this,<-rel.length];exact z0
  have nk:∀kv∈vs,decide (kv.1=k)=false:=λkv hkv=>by
   cases q:decide (kv.1=k) with
   |false=>rfl
   |true=>
    unfold valueAt at hn;rw[cY,cT] at hn;exact absurd q (hn kv hkv)
  have fi:(es.findIdx? λe=>(AK X.prog X.w).is k e.key)=none:=by
   have h3:(es.toList.findIdx? λe=>(AK X.prog X.w).is k e.key)=none:=by rw[hp.findIdx k];exact List.findIdx?_eq_none_iff.mpr nk
   obtain⟨l⟩:=es;simpa using h3
  unfold dictSetDefault;refine ab (bC (ab ((AK X.prog X.w).pyHash ki (ab (wpAny_dictFind_of (s:={ s with toks:=s.toks+1 }) ki ho hx hk ?_)))));rw[fi];have est:stored vs k r=vs++[(k,r)]:=by
   unfold stored;rw[aH λq=>by obtain⟨kv,h3,h4⟩:=List.any_eq_true.mp q;rw[nk kv h3] at h4;cases h4]
  refine ab (fm (ab (wpAny_updateDictKeys (hz:=le) (s:={ s with toks:=s.toks+1 }) ho hx (av (av ⟨r,rfl,h2 hv _ ?_⟩)))));have hlp:(putK kvs k z).length<=sizeLine:=by have:=Gc kvs k z;omega
  refine IK (I.tok _) (by rw[e];exact True.intro) (Heap.SameBut.update ..) ⟨_,dy _ ho (Obj.isFreed_of_dict (eU hx _))⟩ (K8 hlp hd (rel.put k rz) ?_);rw[est];refine⟨_,_,ep+1,dy _ ho (Obj.isFreed_of_dict (eU hx _)),hc.mapDictKeys _,eU hx _,hk.push ki _,?_,?_⟩
  ·have:=hp.append ki ((AK X.prog X.w).hash k) r;obtain⟨l⟩:=es;simpa using this
  ·rw[aj];refine bB.mpr ⟨nd,by simp,λx hx y hy h5=>?_⟩;obtain⟨kv,h3,rfl⟩:=ah.mp hx;have h6:=nk kv h3;rw[dR] at h6;rw[aq,cu,ai] at hy;exact h6 (h5.trans hy)
def Td (td ty tx:TE):TE:=λσ H Q=>td σ H λx H1=>∃a,x=.ref a/\Vr H1 a/\ty σ H1 λy H2=>tx σ H2 λz H3=>∃kvs k,H3 a=some (.dK kvs)/\y=kV k/\kvs.length<sizeLine/\(∀v,Bz kvs k=some v->Q v H3)/\(Bz kvs k=none->Q z (upd H3 a (.dK (putK kvs k z))))
theorem PH {o e f:Expr}{td ty tx:TE}{apos cpos:Pos}(ho:PE X o td)(he:PE X e ty)(hf:PE X f tx)(m:M2 X o "setdefault" apos e f cpos):PE X (.Call (.Attribute o "setdefault" apos) [e,f] [] cpos) (Td td ty tx):=by
 intro pins s σ H Q I h;refine fD m.base m.few m.line dS dw PySem.F.type_dict_setdefault (Bd (ho pins s σ H _ I h) λu s1 z9=>?_);obtain⟨x,H1,I1,rx,a,ex,d,q1⟩:=z9;subst ex;obtain rfl:u=Value.ref a:=rx;obtain⟨t1,t2,_⟩:=MZ I1 d;refine⟨t1,t2,?_⟩;rw[m.trees];refine cK rfl (fb (dm (Bd (he pins s1 σ H1 _ I1 q1) λiv s2 ⟨y,H2,I2,ry,q2⟩=>dm (Bd (hf pins s2 σ H2 _ I2 q2) λr s3 ⟨z,H3,I3,rz,kvs,k,hd,ey,hl,q3,q4⟩=>fG ?_))));subst ey;exact PJ I3 hd ry rz hl (λv w' s' hv I' rw'=>⟨v,H3,I',rw',q3 v hv⟩) λhv s' I'=>⟨z,_,I',rz,q4 hv⟩
end
section
open PySem PySem.Calls PyProof.Rows
variable {prog:Program}{w:World}{A:Around}{E:Value->Shared->Prop}{I S:Addr}{fp wr:List Addr}{n:Nat}{P:Nat->Value->Prop}{St:Nat->Heap->Prop}{bt:Nat->Nat->Bool}{d:Value}{R:Result->Shared->Prop}
def Tn (P:Nat->Value->Prop)(bt:Nat->Nat->Bool)(i:Nat)(arr:List Value):Prop:=(arr=[]/\i=0)\/∃v,arr=[v,v]/\0<i/\P (argBest bt (i-1)) v
theorem OO (W:Walks prog w A.in1 I fp wr n P St)(hcmp:CmpOf prog w A.in1 .Gt P bt)(hSf:S∉fp):∀(k i:Nat) (s:Shared) (arr:List Value) (c:Nat),i+k=n->St i s.heap->s.heap.get? S=some { cls:=.type "list",dict:=none,data:=.seq arr.toArray c,slots:=#[] }->Tn P bt i arr->
  (∀r h' tk,(n=0/\r=d\/0<n/\P (argBest bt (n-1)) r)->(∀b o,b∉wr->b≠S->s.heap.get? b=some o->h'.get? b=some o)->R (.ok (.ret r)) { s with heap:=h',toks:=tk })->
  codeAny (model prog w) A (.builtin "max.loop" ⟨[.ref I,.none,.ref S],[("default",d)]⟩) R s:=by
 have hSw:S∉wr:=λh=>hSf (W.sub _ h)
 intro k
 induction k with
 |zero=>
  intro i s arr c hk hst hS hb hR;cases(show i=n by omega);refine dc fT ?_;rw[cE cq _];refine ab (m:=seqItems? (.ref S)) (wpAny_seqItems hS rfl (ab (eR (W.done s _ _ hst λh' tk k'=>?_))));rcases hb with⟨rfl,i0⟩|⟨v,rfl,i0,hv⟩
  ·exact ab (fm (av (hR d h' tk (.inl ⟨i0,rfl⟩) λb o hb _ e=>k' b o hb e)))
  ·exact ab (wpAny_updateSeq (k' S _ hSw hS) rfl (ab (eS (av (hR v _ tk (.inr ⟨i0,hv⟩) λb o hb hS e=>(bj _ _ (Ne.symm hS)).trans (k' b o hb e))))))
 |succ k ih=>
  intro i s arr c hk hst hS hb hR;refine dc fT ?_;rw[cE cq _];refine ab (m:=seqItems? (.ref S)) (wpAny_seqItems hS rfl (ab (eR (W.item i s _ _ (by omega) hst λx h' tk hP st' k'=>?_))));have hS':=k' S _ hSw hS;have nm:(toString "max"++toString ".loop":String)="max.loop":=by decide
  have la:arr.toArray.size<=sizeLine:=by
   rw[br];rcases hb with⟨rfl,_⟩|⟨v,rfl,_⟩
   ·exact bw _
   ·show 2<=_;omega
  have put:∀(tk':Nat),P (argBest bt i) x->wpAny (model prog w) A.in1 (updateSeq S (λ_=>#[x,x])) (λ_ s'=>codeAny (model prog w) A (.builtin "max.loop" ⟨[.ref I,.none,.ref S],[("default",d)]⟩) R s') (λe s'=>R (.error e) s') { s with heap:=h',toks:=tk' }:=λtk' hx=>by
   refine wpAny_updateSeq (hz:=la) (s:={ s with heap:=h',toks:=tk' }) hS' rfl (ih (i+1) _ [x,x] _ (by omega) (W.frame _ _ _ st' λb hb o e=>?_) (dy _ hS' rfl) (.inr ⟨x,rfl,Nat.succ_pos _,hx⟩) λr h2 tk2 hr k2=>?_)
   ·exact(bj _ _ (λz:S=b=>hSf (by rw[z];exact hb))).trans e
   ·exact hR r h2 tk2 hr λb o hb hbS e=>k2 b o hb hbS ((bj _ _ (Ne.symm hbS)).trans (k' b o hb e))
  rcases hb with⟨rfl,i0⟩|⟨v,rfl,i0,hv⟩
  ·subst i0;refine ab (av (ab (bu (put tk hP) (λ_ s' q=>?_) λ_ _ q=>q)));rw[nm];exact av ⟨cW cq _,q⟩
  ·refine ab (av (ab (eR (bC (ab (hcmp i (argBest bt (i-1)) x v _ _ _ hP hv (ab (bC (bU (ab (eS (av ?_))))))))))));have ea:argBest bt i=if bt i (argBest bt (i-1)) then i else argBest bt (i-1):=by
    obtain⟨j,rfl⟩:∃j,i=j+1:=⟨i-1,by omega⟩
    rfl
   cases q:bt i (argBest bt (i-1)) with
   |true=>
    rw[q,aE rfl] at ea;rw[aE rfl];refine ab (bu (put tk (by rw[ea];exact hP)) (λ_ s' z=>ab (eS ?_)) λ_ _ z=>z);rw[nm];exact av ⟨cW cq _,z⟩
   |false=>
    rw[q,aH ay] at ea;rw[aH ay];refine ab (eS ?_);rw[nm];refine av ⟨cW cq _,ih (i+1) _ [v,v] _ (by omega) st' hS' (.inr ⟨v,rfl,Nat.succ_pos _,?_⟩) λr h2 tk2 hr k2=>hR r h2 tk2 hr λb o hb hbS e=>k2 b o hb hbS (k' b o hb e)⟩;show P (argBest bt i) v;rw[ea];exact hv
theorem Rf (l:Addr)(d:Value):checkBuiltinCall "max" ⟨[.ref l],[("default",d)]⟩=pure ():=by kernel_rfl
theorem OM {l:Addr} {items:Array Value} {Q:Value->Shared->Prop} {s:Shared} (hh:A.handled=none) (hl:s.heap.IsList l items) (val:Nat->Int) (hval:∀i v,items[i]?=some v->∃t,v=Value.int (val i) t)
  (q:∀r h' tk,(items.size=0/\r=d\/0<items.size/\items[argBest (λi j=>decide (val j<val i)) (items.size-1)]?=some r)->(∀b o,s.heap.get? b=some o->h'.get? b=some o)->Q r { s with heap:=h',toks:=tk }):wpAny (model prog w) A (call (.builtin "max") [.ref l] [("default",d)]) Q E s:=by
 refine gh (codeAny_call_builtin PySem.F.plain_max PySem.F.entry_max ?_);rw[Rf];refine av ?_;have nm:(toString "max"++toString ".loop":String)="max.loop":=by decide
 change wpAny _ A.in1 (Builtin.Builtins.bindParams "max" ["key","default"] 0 ⟨[],[("default",d)]⟩ >>= _) _ _ s
 refine ab (wpAny_of_eq (show Builtin.Builtins.bindParams "max" ["key","default"] 0 ⟨[],[("default",d)]⟩=pure [none,some d] from rfl) (ab (av (ab (dv hl ?_)))));refine ab (cB ?_);rw[nm];have ll:l<s.heap.objs.size:=let⟨_,ho,_⟩:=hl;aD ho;have sz:(s.heap.push { cls:=.type "list_iterator",data:=.fields #[.ref l,.int 0 0] }).objs.size=s.heap.objs.size+1:=bP ..;refine av ⟨cW cq _,OO (P:=λi v=>items[i]?=some v) (gm (A:=A.in1) (show A.in1.handled=none from hh) s.heap.objs.size l (aN ll) items) (CmpOf.ints_gt val hval) (S:=(s.heap.push { cls:=.type "list_iterator",data:=.fields #[.ref l,.int 0 0] }).objs.size) ?_ items.size 0 _ [] 0 (eV _) ?_ ?_ (.inl ⟨rfl,rfl⟩) λr h' tk hr k=>?_⟩
 ·rw[sz];intro z;rcases aL.mp z with z|z
  ·exact Nat.succ_ne_self _ z
  ·exact cF (bR ll) (ai.mp z)
 ·refine⟨⟨_,af _ (aG _ rfl),rfl,rfl⟩,hl.at λo e=>af _ (af _ e)⟩
 ·exact aG _ rfl
 ·refine q r h' tk hr λb o e=>k b o ?_ ?_ (af _ (af _ e))
  ·exact λz=>aN (aD e) (ai.mp z)
  ·rw[sz];exact aN (bR (aD e))
theorem Mg {M:Model} {A:Around} {E:Value->Shared->Prop} {s:Shared} {pos:Pos} {id:String} {args:List (Bool×Sem Value)} {kws:List (Option Str×Sem Value)} {Q:Value->Shared->Prop} (hp:args.any (·.1)=false) (hk:kws.any (·.1.isNone)=false)
  (h:wpAny M A (evalArgs (.builtin id) true args kws) (λz sz=>wpAny M A (call (.builtin id) z.pos z.kw) Q E sz) E s):wpAny M A (callWith pos (.builtin id) [] args kws) Q E s:=by
 unfold callWith;refine ab (bC (bu h (λz sz hz=>ab (fg ?_)) λ_ _ y=>y));simp only[hp,hk,Bool.or_false];refine ab (av (ab (bu hz (λv sv hv=>ab (bC (wpAny_point (av hv)))) λ_ _ y=>y)))
end
section
open PySem PySem.Spec PyProof.Rows PySem.Calls
variable {X:Cx}
def HX:List Int->Int
 |[]=>0
 |x::l=>l.foldl (λa b=>if a<b then b else a) x
theorem Ol {l:List Int}(h:l≠[])(x:Int):HX (l++[x])=if HX l<x then x else HX l:=by
 cases l with
 |nil=>exact absurd rfl h
 |cons y l=>
  show(l++[x]).foldl (λa b=>if a<b then b else a) y=_;rw[List.foldl_append];rfl
theorem J7 (ns:List Int):∀k,k<ns.length->argBest (λi j=>decide (ns.getD j 0<ns.getD i 0)) k<ns.length/\HX (ns.take (k+1))=ns.getD (argBest (λi j=>decide (ns.getD j 0<ns.getD i 0)) k) 0
 |0,h=>by
  cases ns with
  |nil=>exact absurd h (Nat.not_lt_zero _)
  |cons x l=>exact⟨h,rfl⟩
 |k+1,h=>by
  obtain⟨h1,h2⟩:=J7 ns k (by omega);have e:ns.take (k+1+1)=ns.take (k+1)++[ns.getD (k+1) 0]:=by
   rw[aR,bN,ae h];rfl
  have ne:ns.take (k+1)≠[]:=λz=>by
   have:=congrArg List.length z;rw[aP,List.length_nil] at this;omega
  rw[e,Ol ne,h2];show(if decide (_<_)=true then k+1 else _)<_/\_=ns.getD (if decide (_<_)=true then k+1 else _) 0
  by_cases q:ns.getD (argBest (λi j=>decide (ns.getD j 0<ns.getD i 0)) k) 0<ns.getD (k+1) 0
  ·rw[aE q,aE (aI q)];exact⟨h,rfl⟩
  ·rw[aH q,aH (by rw[aZ q];exact ay)];exact⟨h1,rfl⟩
theorem FT:∀{its:List Value} {ns:List Int},IntsAre its ns->∀{i:Nat} {v:Value},its[i]?=some v->∃t,v=Value.int (ns.getD i 0) t
 |_,_,.nil,i,v,h=>by simp at h
 |_,_,.cons n t r,0,v,h=>by simp at h;exact⟨t,h.symm⟩
 |_,_,.cons n t r,i+1,v,h=>FT r (by simpa using h)
def Ut (K:PySem.W.Frag)(ta:TA):TE:=λσ H Q=>ta σ H λvs H1=>∃(a:Addr) (ns:List Int),vs=[.ref a]/\AB K H1 a (ns.map V.int)/\Q (.int (HX ns)) H1
theorem Sl {l:Expr} {ta:TA} {p pos kp cp:Pos} {j} (hc:X.calm=true) (hg:Gl X "max") (hm:X.mg "max"=none) (ha:PA X [l] ta)
  (he:backTo pos (starEach [l] X.env)=(false,eval l X.env)::backTo pos (starEach [] X.env):=by rfl)
  (hpl:(backTo pos (starEach [l] X.env)).any (·.1)=false:=by rfl) :
  PE X (.Call (.Name "max" p) [l] [⟨some "default",.Constant (.int 0) j cp,kp⟩] pos) (Ut X.K ta):=by
 intro pins s σ H Q I h;refine cJ (HH I hg hm Tu (Mg hpl rfl ?_));have hsp:=ha pos pins s σ H _ I h;rw[he] at hsp ⊢;refine evalArgs_kwB rfl (Bd hsp λus s1 ⟨vs,H1,I1,r1,q1⟩=>?_);refine kws_cons (fq (kws_nil ?_));obtain⟨a,ns,rfl,hq,q⟩:=q1;obtain⟨u,rfl,ru⟩:=vals1 r1;cases ru;have I2:=I1.tok (s1.toks+1);obtain⟨its,rv,p1,hz⟩:=I2.list hq;have hi:=intsAre_of rv;have ln:its.length=ns.length:=IntsAre.length hi;refine OM (items:=its.toArray) (d:=.int 0 s1.toks) (I2.ok.hd hc) p1.isList (λi=>ns.getD i 0) (λi v e=>FT hi (by simpa using e)) λr h' tk hr k=>?_
 obtain⟨t,rfl⟩:∃t,r=Value.int (HX ns) t:=by
  rcases hr with⟨h0,rfl⟩|⟨h0,h1⟩
  ·have:ns=[]:=List.eq_nil_of_length_eq_zero (by rw[<-ln];simpa using h0);subst this;exact⟨_,rfl⟩
  ·have h2:0<ns.length:=by rw[<-ln];simpa using h0
   obtain⟨t,e⟩:=FT hi (i:=argBest (λi j=>decide (ns.getD j 0<ns.getD i 0)) (ns.length-1)) (v:=r) (by rw[<-ln];simpa using h1);have:=(J7 ns (ns.length-1) (by omega)).2;rw[show ns.length-1+1=ns.length by omega,cb] at this;exact⟨t,by rw[e,this]⟩
 exact⟨.int (HX ns),H1,I2.kept (t':=tk) k,⟨t,rfl⟩,q⟩
end
end L2
namespace L2
section
open PySem PySem.Calls PyProof.Rows
variable {prog:Program}{w:World}{A:Around}{E:Value->Shared->Prop}{s:Shared}
theorem Mi:entryFor table "dict.update.loop"=some Builtin.«dict.update.loop»:=entryFor_of_tree (by kernel_rfl)
theorem Hq:plainId "dict.update.loop"=true:=by decide +kernel
theorem O6:typeLookup (.type "list") "keys"=pure none:=by rw[typeLookup_type,builtinLookup_eq_fast];kernel_rfl
theorem Lp {a:Addr} {xs:Array Value} {k:Nat} {sl:Array (Option Value)} {Q:Option Value->Shared->Prop} (hx:s.heap.get? a=some { cls:=.type "list",dict:=none,data:=.seq xs k,slots:=sl }) (hA:A.handled=none)
  (h:∀h' tk,(∀b o,s.heap.get? b=some o->h'.get? b=some o)->Q none { s with heap:=h',toks:=tk }):wpAny (model prog w) A (getAttr? (.ref a) "keys") Q E s:=by
 obtain⟨hp,g,d,tk,os⟩:=s;have hT:∀tk',(⟨hp,g,d,tk',os⟩:Shared).TypeIs (.ref a) "list":=λ_=>⟨_,hx,rfl⟩
 have f1:=sub_AttributeError;have f3:=F.slot_list_getattribute.lookup;have f4:=F.slot_list_getattribute.bind (.ref a);have f5:=am_list_getattr_none;unfold getAttr? getAttrBy? getAttrBy
 repeat (any_goals (first|assumption|exact hT _|((with_reducible show wpAny _ _ (call (Value.builtin "list.__getattribute__") _ _) _ _ _);refine gj F.slot_list_getattribute (hT _) am_entry_list_getattribute (F.args_list_getattribute_2 _ _) (meets_getattribute_miss_list a xs k sl "keys" _ O6 (by decide +kernel) (by decide +kernel)) ⟨hx,hA,λh' tk' e hx'=>?_⟩)|wp_step))
 obtain⟨t',u',he⟩:=hx'.there;show wpAny _ _ (getattributeRaised _ _ _ _ _ _ _) _ _ _;unfold getattributeRaised
 repeat (any_goals (first|assumption|wp_step))
 exact h _ _ λb o e=>hx'.keeps b o e
theorem pair_items {t:Addr}{k v:Value}{Q:List Value->Shared->Prop}(ht:IsTup s.heap t #[k,v])(h:Q [k,v] s):wpAny (model prog w) A (Builtin.Dict.pairItems (.ref t)) Q E s:=by
 obtain⟨o,ho,hc,n,hd⟩:=ht;have hT:s.TypeIs (.ref t) "tuple":=⟨o,ho,hc⟩
 unfold Builtin.Dict.pairItems;refine ab (eJ hT ?_);rw[aE (by decide)];refine ab (m:=seqItems? (.ref t)) ?_;unfold seqItems?;refine ab (gf ho ?_);rw[hd];exact av (av h)
theorem OE {R:Result->Shared->Prop} {I d:Addr} {fp:List Addr} {vs:List Value} {St:Nat->Heap->Prop} {D:Nat->Heap->Prop} {h0:Heap} (W:Walks prog w A.in1 I fp [I] vs.length (λi v=>vs[i]?=some v) St) (nd:d∉fp)
  (hI:h0.get? I=none) (hd0:h0.get? d=none) (keep:∀i h h',D i h->(∀o,h.get? d=some o->h'.get? d=some o)->D i h')
  (pr:∀i v,vs[i]?=some v->∃t x y,v=.ref t/\IsTup h0 t #[x,y]/\∀(s:Shared) (Q:Unit->Shared->Prop) (E:Value->Shared->Prop),(∀b o,h0.get? b=some o->s.heap.get? b=some o)->D i s.heap->(∀h' tk,D (i+1) h'->Heap.SameBut d s.heap h'->Q () { s with heap:=h',toks:=tk })->wpAny (model prog w) A.in1 (dictSet d x y) Q E s) :
  ∀(k i:Nat) (s:Shared),vs.length-i=k->i<=vs.length->(∀b o,h0.get? b=some o->s.heap.get? b=some o)->St i s.heap->D i s.heap->
   (∀h' tk,(∀b o,b∉[d,I]->s.heap.get? b=some o->h'.get? b=some o)->D vs.length h'->R (.ok (.ret .none)) { s with heap:=h',toks:=tk })->codeAny (model prog w) A (.builtin "dict.update.loop" ⟨[.ref d,.ref I,rawInt i,.none],[]⟩) R s:=by
 have nI:d∉[I]:=λz=>nd (W.sub _ z)
 intro k
 induction k with
 |zero=>
  intro i s hk hi old st T q;have e:i=vs.length:=by omega
  subst e;refine dc Mi ?_;rw[cE Hq _];refine ab (m:=pyNext (.ref I)) (W.done s _ _ st λh' tk k'=>?_);refine ab (m:=Builtin.Dict.addKeywords d []) (av (av ?_));exact q h' tk (λb o n e=>k' b o (λz=>n (aM _ z)) e) (keep _ _ _ T λo e=>k' d o nI e)
 |succ k ih=>
  intro i s hk hi old st T q;have lt:i<vs.length:=by omega
  refine dc Mi ?_;rw[cE Hq _];refine ab (m:=pyNext (.ref I)) (W.item i s _ _ lt st λv h' tk hv st' k'=>?_);obtain⟨t,x,y,rfl,ht,step⟩:=pr i v hv;have old':∀b o,h0.get? b=some o->h'.get? b=some o:=λb o e=>k' b o (λz=>by rw[ai.mp z,hI] at e;cases e) (old b o e)
  refine ab (bC (ab (eR (pair_items (s:={ s with heap:=h',toks:=tk }) (ht.keeps old') ?_))));refine bC (step _ _ _ old' (keep _ _ _ T λo e=>k' d o nI e) λh2 tk2 T2 sb=>?_);refine av ⟨cW Hq _,ih (i+1) _ (by omega) lt (λb o e=>?_) (W.frame _ _ _ st' λb hb o e=>?_) T2 λh3 tk3 k3 T3=>?_⟩
  ·rw[sb.2 b (λz=>by rw[z,hd0] at e;cases e)];exact old' b o e
  ·rw[sb.2 b (λz=>nd (z▸hb))];exact e
  ·refine q h3 tk3 (λb o n e=>k3 b o n ?_) T3;rw[sb.2 b (λz=>n (by simp[z]))];exact k' b o (λz=>n (aM _ z)) e
theorem Oq {l:Addr} {vs:List Value} {D:Nat->Heap->Prop} {Q:Value->Shared->Prop} (hh:A.handled=none) (hl:∃n sl,s.heap.get? l=some { cls:=.type "list",dict:=none,data:=.seq vs.toArray n,slots:=sl })
  (keep:∀i h h',D i h->(∀o,h.get? s.heap.objs.size=some o->h'.get? s.heap.objs.size=some o)->D i h')
  (d0:∀h:Heap,h.get? s.heap.objs.size=some { cls:=.type "dict",data:=.dict #[] }->D 0 h)
  (pr:∀i v,vs[i]?=some v->∃t x y,v=.ref t/\IsTup s.heap t #[x,y]/\∀(s1:Shared) (Q:Unit->Shared->Prop) (E:Value->Shared->Prop),(∀b o,s.heap.get? b=some o->s1.heap.get? b=some o)->D i s1.heap->(∀h' tk,D (i+1) h'->Heap.SameBut s.heap.objs.size s1.heap h'->Q () { s1 with heap:=h',toks:=tk })->wpAny (model prog w) A.in1.in1 (dictSet s.heap.objs.size x y) Q E s1)
  (q:∀h' tk,(∀b o,s.heap.get? b=some o->h'.get? b=some o)->D vs.length h'->Q (.ref s.heap.objs.size) { s with heap:=h',toks:=tk }):wpAny (model prog w) A (call (.type "dict") [.ref l]) Q E s:=by
 obtain⟨n,sl,el⟩:=hl;have lt:l<s.heap.objs.size:=aD el;refine callType_codes (Q₁:=λobj s₁=>obj=.ref s.heap.objs.size/\s₁={ s with heap:=s.heap.push { cls:=.type "dict",data:=.dict #[] } }) PySem.F.kt_called_dict (PySem.F.kt_typeCall_dict_1 _) PySem.F.entry_dict_init (kt_code_dict_new _ ⟨rfl,rfl⟩) ?_
 rintro obj s₁ ⟨rfl,rfl⟩
 have hS:(s.heap.push { cls:=.type "dict",data:=.dict #[] }).get? s.heap.objs.size=some { cls:=.type "dict",data:=.dict #[] }:=aG _ rfl;have hT:Shared.TypeIs { s with heap:=s.heap.push { cls:=.type "dict",data:=.dict #[] } } (.ref s.heap.objs.size) "dict":=⟨_,hS,rfl⟩
 have el':=af ({ cls:=.type "dict",data:=.dict #[] }:Obj) el;refine⟨hT,PySem.F.args_dict_init_2 _ _,?_⟩;unfold Builtin.«dict.__init__»;refine ab ?_;unfold Builtin.Dict.selfAndRest;refine ab (wpAny_notOrdered_dict hT ?_);show wpAny _ _ (pure (s.heap.objs.size,[Value.ref l])) _ _ _;refine av ?_;show wpAny _ _ (Builtin.Dict.updateFrom "dict.__init__" s.heap.objs.size (.ref l) [] .none) _ _ _;unfold Builtin.Dict.updateFrom;refine ab (eJ (T:="list") ⟨_,el',rfl⟩ ?_);rw[aE (by decide)];refine ab (Lp (s:={ s with heap:=s.heap.push { cls:=.type "dict",data:=.dict #[] } }) el' (by simp[hh]) λh1 tk1 k1=>?_);rw[aE (show(none:Option Value).isNone=true from rfl)];refine ab (fm ?_);have el1:=k1 _ _ el';have l1:h1.IsList l vs.toArray:=⟨_,el1,rfl,_,rfl⟩
 refine ab (dv (s:={ s with heap:=h1,toks:=tk1 }) l1 ?_);have g1:s.heap.objs.size+1<=h1.objs.size:=aD (k1 _ _ hS);have nI:l≠h1.objs.size:=aN (aY lt (Nat.le_of_succ_le g1));have W:=gm (prog:=prog) (w:=w) (A:=A.in1.in1) (by simp[hh]) h1.objs.size l nI vs.toArray;have W2:Walks prog w A.in1.in1 h1.objs.size [h1.objs.size,l] [h1.objs.size] vs.length (λi v=>vs[i]?=some v) (λi h=>h.IsListIter h1.objs.size l i/\h.IsList l vs.toArray):=by
  simpa only [List.size_toArray,List.getElem?_toArray] using W
 have old1:∀b o,s.heap.get? b=some o->h1.get? b=some o:=λb o e=>k1 b o (af _ e)
 refine av ⟨cW Hq _,OE (h0:=s.heap) (D:=D) W2 ?_ (dF (by omega)) (dF (ak _)) keep pr vs.length 0 _ (by omega) (bw _) (λb o e=>af _ (old1 b o e)) ⟨⟨_,aG _ rfl,rfl,rfl⟩,l1.push _⟩ (d0 _ (af _ (k1 _ _ hS))) λh' tk k' T=>⟨rfl,q h' tk (λb o e=>k' b o (λz=>?_) (af _ (old1 b o e))) T⟩⟩
 ·simp only[List.mem_cons,List.not_mem_nil,or_false,not_or];exact⟨aN (by omega),cF lt⟩
 ·have lb:=aD e;simp only[List.mem_cons,List.not_mem_nil,or_false] at z;rcases z with rfl|rfl
  ·exact absurd lb (cQ _)
  ·exact absurd lb (Nat.not_lt.mpr (Nat.le_of_succ_le g1))
open PySem.Spec
theorem NK:∀{ps:List Addr} {its:List Value},AD (ps.map V.ref) its->∀(i:Nat) v,its[i]?=some v->∃t,ps[i]?=some t/\v=.ref t
 |[],_,.nil,i,v,e=>by simp at e
 |t::ps,_,.cons r h,0,v,e=>⟨t,rfl,by cases r;simpa using e.symm⟩
 |t::ps,_,.cons r h,i+1,v,e=>by
  obtain⟨t',a,b⟩:=NK h i v (by simpa using e);exact⟨t',by simpa using a,b⟩
theorem JK {α β:Type}{F:α->β->Prop}:∀{l:List α} {m:List β},Paired F l m->∀{y:β},y∈m->∃x,x∈l/\F x y
 |_,_,.nil,_,h=>nomatch h
 |_,_,.cons r t,y,h=>by
  rcases aL.mp h with rfl|h
  ·exact⟨_,ax,r⟩
  ·obtain⟨x,a,b⟩:=JK t h;exact⟨x,aM _ a,b⟩
end
end L2
namespace L2
section
open PySem PySem.W PyProof.Rows
variable {n:Nat}{lt:Nat->Nat->Bool}{cmp:Nat->Nat->(Bool->Shared->Prop)->Shared->Prop}{s:Shared}
structure Ordr (n:Nat) (lt:Nat->Nat->Bool) (cmp:Nat->Nat->(Bool->Shared->Prop)->Shared->Prop) (s:Shared):Prop where
 ask:∀(i j:Nat) (C:Bool->Shared->Prop),i<n->j<n->i≠j->C (lt i j) s->cmp i j C s
 tr:∀i j k,i<n->j<n->k<n->lt i j=true->lt j k=true->lt i k=true
 tot:∀i j,i<n->j<n->i≠j->lt i j=false->lt j i=true
def HJ (n:Nat)(p:Array Nat):Prop:=p.size=n/\p.toList.Perm (List.range n)
theorem HJ.lo {p:Array Nat}(h:HJ n p){i:Nat}(hi:i<n):p.getD i 0<n:=by
 have hs:i<p.size:=by rw[h.1];exact hi
 have e:p.getD i 0=p[i]:=by simp[Array.getD,hs]
 rw[e];exact cC.mp (h.2.mem_iff.mp (by simp))
theorem HJ.ne {p:Array Nat}(h:HJ n p){i j:Nat}(hi:i<n)(hj:j<n)(hij:i≠j):p.getD i 0≠p.getD j 0:=by
 have hs:i<p.size:=by rw[h.1];exact hi
 have ht:j<p.size:=by rw[h.1];exact hj
 have nd:p.toList.Nodup:=h.2.nodup_iff.mpr List.nodup_range;have e1:p.getD i 0=p.toList[i]'(by simpa using hs):=by simp[Array.getD,hs]
 have e2:p.getD j 0=p.toList[j]'(by simpa using ht):=by simp[Array.getD,ht]
 rw[e1,e2];intro z;have pw:=aS.mp nd;rcases dB hij with g|g
 ·exact pw i j (by simpa using hs) (by simpa using ht) g z
 ·exact pw j i (by simpa using ht) (by simpa using hs) g z.symm
def Fj (lt:Nat->Nat->Bool)(p:Array Nat)(k:Nat):Prop:=∀i j,i<j->j<k->lt (p.getD i 0) (p.getD j 0)=true
def T6 (lt:Nat->Nat->Bool)(p:Array Nat)(k:Nat):Prop:=∀i j,i<j->j<k->lt (p.getD j 0) (p.getD i 0)=true
theorem MH (O:Ordr n lt cmp s){p:Array Nat}(hp:HJ n p){G:Nat->Shared->Prop}:∀(f m:Nat),1<=m->m+f<=n->Fj lt p m->
  (∀m',m<=m'->m'<=m+f->Fj lt p m'->(m'=m+f\/lt (p.getD m' 0) (p.getD (m'-1) 0)=true)->G m' s)->(kas_asc p f m).kasWp cmp G s
 |0,m,_,_,up,h=>h m (ak _) (ak _) up (.inl rfl)
 |f+1,m,h1,h2,up,h=>by
  refine O.ask _ _ _ (hp.lo (by omega)) (hp.lo (by omega)) (hp.ne (by omega) (by omega) (by omega)) ?_;cases hl:lt (p.getD m 0) (p.getD (m-1) 0) with
  |true=>exact h m (ak _) (by omega) up (.inr hl)
  |false=>
   have hl':=O.tot _ _ (hp.lo (by omega)) (hp.lo (by omega)) (hp.ne (by omega) (by omega) (by omega)) hl;show(kas_asc p f (m+1)).kasWp cmp G s;refine MH O hp f (m+1) (by omega) (by omega) (λi j hij hj=>?_) λm' a b c d=>h m' (by omega) (by omega) c (d.imp (by omega) id)
   by_cases e:j=m
   ·subst e
    by_cases e2:i=j-1
    ·rw[e2];exact hl'
    ·exact O.tr _ _ _ (hp.lo (by omega)) (hp.lo (by omega)) (hp.lo (by omega)) (up i (j-1) (by omega) (by omega)) hl'
   ·exact up i j hij (by omega)
theorem NU (O:Ordr n lt cmp s){p:Array Nat}(hp:HJ n p){G:Array Nat×Nat×Nat->Shared->Prop}:∀(f m:Nat),1<=m->m+f<=n->T6 lt p m->
  (∀m',m<=m'->m'<=m+f->T6 lt p m'->G (p,m',0) s)->(kas_desc f p m 0).kasWp cmp G s
 |0,m,_,_,dn,h=>h m (ak _) (ak _) dn
 |f+1,m,h1,h2,dn,h=>by
  refine O.ask _ _ _ (hp.lo (by omega)) (hp.lo (by omega)) (hp.ne (by omega) (by omega) (by omega)) ?_;cases hl:lt (p.getD m 0) (p.getD (m-1) 0) with
  |true=>
   show(kas_desc f p (m+1) 0).kasWp cmp G s;refine NU O hp f (m+1) (by omega) (by omega) (λi j hij hj=>?_) λm' a b c=>h m' (by omega) (by omega) c
   by_cases e:j=m
   ·subst e
    by_cases e2:i=j-1
    ·rw[e2];exact hl
    ·exact O.tr _ _ _ (hp.lo (by omega)) (hp.lo (by omega)) (hp.lo (by omega)) hl (dn i (j-1) (by omega) (by omega))
   ·exact dn i j hij (by omega)
  |false=>
   have hl':=O.tot _ _ (hp.lo (by omega)) (hp.lo (by omega)) (hp.ne (by omega) (by omega) (by omega)) hl;refine O.ask _ _ _ (hp.lo (by omega)) (hp.lo (by omega)) (hp.ne (by omega) (by omega) (by omega)) ?_;rw[hl'];exact h m (ak _) (by omega) dn
theorem DZ (p:Array Nat)(i:Nat):p.getD i 0=(p[i]?).getD 0:=by
 by_cases h:i<p.size
 ·simp[Array.getD,h]
 ·simp[Array.getD,h]
theorem Qs {p:Array Nat}{m:Nat}(hm:m<=p.size)(k:Nat):(kas_rev p 0 m).getD k 0=if k<m then p.getD (m-1-k) 0 else p.getD k 0:=by
 rw[DZ];unfold kas_rev;rw[getElem?_mirror_all hm]
 by_cases h:k<m
 ·rw[aE ⟨bw _,h⟩,aE h,DZ,eV]
 ·rw[aH (λz=>h z.2),aH h,DZ]
theorem Sn {p:Array Nat}(hp:HJ n p)(m:Nat):HJ n (kas_rev p 0 m):=⟨(mirror_size ..).trans hp.1,(fH.mp (mirror_perm ..)).trans hp.2⟩
theorem Qf (O:Ordr n lt cmp s) {p:Array Nat} (hp:HJ n p) {m:Nat} (h1:1<=m) (hm:m<=n) (dn:T6 lt p m) {G:Nat×Array Nat->Shared->Prop}
  (h:∀m' p',HJ n p'->Fj lt p' m'->1<=m'->m'<=n->G (m',p') s):(kas_tail3 m n p).kasWp cmp G s:=by
 unfold kas_tail3;rw[dQ];have hr:=Sn hp m;refine MH O hr (n-m) m h1 (by omega) (λi j hij hj=>?_) λm' a b c _=>h m' _ hr c (by omega) (by omega)
 rw[Qs (by rw[hp.1];exact hm),Qs (by rw[hp.1];exact hm),aE (by omega),aE hj];exact dn _ _ (by omega) (by omega)
theorem Q1 (O:Ordr n lt cmp s) (hn:1<=n) {p:Array Nat} (hp:HJ n p) {G:Nat×Array Nat->Shared->Prop}
  (h:∀m' p',HJ n p'->Fj lt p' m'->1<=m'->m'<=n->G (m',p') s):(kas_count n p).kasWp cmp G s:=by
 unfold kas_count;rw[dQ];refine MH O hp (n-1) 1 (ak _) (by omega) (λi j hij hj=>by omega) λm a b up d=>?_
 by_cases e:m=n
 ·subst e;rw[aE (by simp)];exact h _ _ hp up a (ak _)
 ·rw[aH (by simpa using e)]
  by_cases g:m>1
  ·rw[aE g];refine O.ask _ _ _ (hp.lo (by omega)) (hp.lo (by omega)) (hp.ne (by omega) (by omega) (by omega)) ?_;rw[up 0 (m-1) (by omega) (by omega)];exact h _ _ hp up a (by omega)
  ·rw[aH g];have e1:m=1:=by omega
   subst e1;have hl:=d.resolve_left (by omega);unfold kas_descPart;rw[dQ];refine NU O hp (n-(1+1)) (1+1) (by omega) (by omega) (λi j hij hj=>?_) λm' a' b' dn=>?_
   ·obtain⟨rfl,rfl⟩:i=0/\j=1:=by omega
    exact hl
   ·rw[aH (by simp)];exact Qf O hp (by omega) (by omega) dn h
theorem Ji (O:Ordr n lt cmp s) {p:Array Nat} (hp:HJ n p) {k:Nat} (hk:k<n) (up:Fj lt p k) {G:Nat->Shared->Prop}
  (h:∀l,l<=k->(∀i,i<l->lt (p.getD i 0) (p.getD k 0)=true)->(∀i,l<=i->i<k->lt (p.getD k 0) (p.getD i 0)=true)->G l s) :
  ∀(f l r:Nat),l<=r->r<=k->r-l<=f->(∀i,i<l->lt (p.getD i 0) (p.getD k 0)=true)->(∀i,r<=i->i<k->lt (p.getD k 0) (p.getD i 0)=true)->(kas_place p k f l r).kasWp cmp G s
 |0,l,r,h1,h2,h3,a,b=>h l (by omega) a λi hi=>b i (by omega)
 |f+1,l,r,h1,h2,h3,a,b=>by
  unfold kas_place
  by_cases g:l≥r
  ·rw[aE g];exact h l (by omega) a λi hi=>b i (by omega)
  ·rw[aH g];refine O.ask _ _ _ (hp.lo hk) (hp.lo (by omega)) (hp.ne hk (by omega) (by omega)) ?_;cases hl:lt (p.getD k 0) (p.getD ((l+r)/2) 0) with
   |true=>
    show(kas_place p k f l ((l+r)/2)).kasWp cmp G s;refine Ji O hp hk up h f l ((l+r)/2) (by omega) (by omega) (by omega) a λi hi hik=>?_
    by_cases e:i=(l+r)/2
    ·rw[e];exact hl
    ·exact O.tr _ _ _ (hp.lo hk) (hp.lo (by omega)) (hp.lo (by omega)) hl (up _ _ (by omega) hik)
   |false=>
    have hl':=O.tot _ _ (hp.lo hk) (hp.lo (by omega)) (hp.ne hk (by omega) (by omega)) hl;show(kas_place p k f ((l+r)/2+1) r).kasWp cmp G s;refine Ji O hp hk up h f ((l+r)/2+1) r (by omega) (by omega) (by omega) (λi hi=>?_) b
    by_cases e:i=(l+r)/2
    ·rw[e];exact hl'
    ·exact O.tr _ _ _ (hp.lo (by omega)) (hp.lo (by omega)) (hp.lo hk) (up _ _ (by omega) (by omega)) hl'
theorem PZ {p:Array Nat}{k l:Nat}(hk:k<p.size)(hl:l<=k)(i:Nat):(bubble p k (k-l)).getD i 0=if i=l then p.getD k 0 else if l<i/\i<=k then p.getD (i-1) 0 else p.getD i 0:=by
 rw[DZ,getElem?_bubble hk _ (by omega),show k-(k-l)=l by omega]
 by_cases h:i=l
 ·rw[aE h,aE h,DZ]
 ·rw[aH h,aH h]
  by_cases g:l<i/\i<=k
  ·rw[aE g,aE g,DZ]
  ·rw[aH g,aH g,DZ]
theorem Py (O:Ordr n lt cmp s){G:Array Nat->Shared->Prop}(h:∀p,HJ n p->Fj lt p n->G p s):∀(f:Nat) (p:Array Nat) (k:Nat),k+f=n->HJ n p->Fj lt p k->(kas_bin f p k).kasWp cmp G s
 |0,p,k,e,hp,up=>h p hp (by rw[<-e];exact up)
 |f+1,p,k,e,hp,up=>by
  unfold kas_bin;rw[dQ];refine Ji O hp (by omega) up (λl hl a b=>?_) k 0 k (bw _) (ak _) (by omega) (λi hi=>by omega) (λi h1 h2=>by omega);have hs:k<p.size:=by rw[hp.1];omega
  refine Py O h f _ (k+1) (by omega) ⟨(bubble_size ..).trans hp.1,(fH.mp (bubble_perm ..)).trans hp.2⟩ λi j hij hj=>?_
  rw[PZ hs hl,PZ hs hl]
  by_cases i1:i=l
  ·rw[aE i1,aH (by omega),aE (by omega)];exact b _ (by omega) (by omega)
  ·rw[aH i1]
   by_cases j1:j=l
   ·rw[aH (by omega),aE j1];exact a _ (by omega)
   ·rw[aH j1]
    by_cases i2:l<i/\i<=k
    ·rw[aE i2,aE (by omega)];exact up _ _ (by omega) (by omega)
    ·rw[aH i2]
     by_cases j2:l<j/\j<=k
     ·rw[aE j2];exact up _ _ (by omega) (by omega)
     ·rw[aH j2];exact up _ _ (by omega) (by omega)
theorem Oe (O:Ordr n lt cmp s)(hn:1<=n){G:Array Nat->Shared->Prop}(h:∀p,HJ n p->Fj lt p n->G p s):(kas_sort n).kasWp cmp G s:=by
 unfold kas_sort;rw[dQ];refine Q1 O hn ⟨by simp,by simp⟩ λm p hp up h1 h2=>?_
 by_cases e:m<n
 ·rw[aE e];exact Py O h _ _ _ (by omega) hp (by rw[show max m 1=m by omega];exact up)
 ·rw[aH e];obtain rfl:m=n:=by omega
  exact h p hp up
end
end L2
namespace L2
section
open PySem PySem.W PySem.Calls PyProof.Rows
variable {prog:Program}{w:World}{A:Around}{E:Value->Shared->Prop}{s:Shared}
def Dx (vs:List Value)(p:Array Nat):List Value:=p.toList.map λi=>vs.getD i Value.none
theorem Ic (vs:List Value):Dx vs (List.range vs.length).toArray=vs:=by
 unfold Dx;refine ck λi=>?_
 rw[aB]
 by_cases h:i<vs.length
 ·simp[h]
 ·simp[h]
theorem Sz {a:Addr} {vs:List Value} {n:Nat} {lt:Nat->Nat->Bool} {P:PySem.Fin->Shared->Prop} (ho:s.heap.get? a=some (seqObj "list" vs.toArray n)) (few:vs.length<64)
  (hk:∀h',(∀b o,b≠a->s.heap.get? b=some o->h'.get? b=some o)->2<=vs.length->wpAny (model prog w) A (keyKind' vs.toArray) (λκ s'=>s'={ s with heap:=h' }/\Ordr vs.length lt (kas_ask prog w A κ vs) s') (λ_ _=>False) { s with heap:=h' })
  (h:∀p,HJ vs.length p->Fj lt p vs.length->P (.done (.ret .none)) { s with heap:=sortedHeap s.heap a vs (Dx vs p).toArray }) :
  wpAny (model prog w) A (Builtin.«list.sort» ⟨[.ref a],[]⟩) P E s:=by
 rw[list_sort_plain];have ha:a<s.heap.objs.size:=aD ho;refine ab (gz ho rfl (ab (cH ho rfl ?_)));obtain⟨e1,h1⟩:∃e,(s.heap.update a (Obj.mapSeq λ_=>#[])).get? a=some (seqObj "list" #[] e):=⟨_,ej ho (λ_=>#[])⟩
 refine ab (dY h1 rfl (ab (gd (ab (cV (bC ?_))))));have n1:a≠(s.heap.update a (Obj.mapSeq λ_=>#[])).objs.size:=by rw[cG];exact aN ha
 have n2:a≠((s.heap.update a (Obj.mapSeq λ_=>#[])).push (seqObj "tuple" vs.toArray 0)).objs.size:=by rw[bP,cG];exact aN (bR ha)
 have h2:(((s.heap.update a (Obj.mapSeq λ_=>#[])).push (seqObj "tuple" vs.toArray 0)).push (seqObj "list" #[] 0)).get? a=some (seqObj "list" #[] e1):=by
  rw[eB _ _ _ n2,eB _ _ _ n1];exact h1
 have old:∀b o,b≠a->s.heap.get? b=some o->(((s.heap.update a (Obj.mapSeq λ_=>#[])).push (seqObj "tuple" vs.toArray 0)).push (seqObj "list" #[] 0)).get? b=some o:=λb o nb e=>
  af _ (af _ ((bj _ _ (Ne.symm nb)).trans e))
 show wpAny (model prog w) A _ P E { s with heap:=((s.heap.update a (Obj.mapSeq λ_=>#[])).push (seqObj "tuple" vs.toArray 0)).push (seqObj "list" #[] 0) };dsimp only;have ez:vs.toArray.size=vs.length:=by simp
 by_cases hs2:vs.toArray.size<2
 ·rw[aE hs2,aE hs2];refine ab (av ?_);rw[StateT.run_pure];refine ab (av ?_);dsimp only;refine ab (dY h2 rfl (ab (cH h2 rfl ?_ (hsz2:=?_))))
  ·simp only[bne_self_eq_false,Bool.false_eq_true,if_false];have hq:=h (List.range vs.length).toArray ⟨by simp,by simp⟩ (λi j hij hj=>by omega);rw[Ic] at hq;have e:(vs.toArray.zip vs.toArray).map (·.2)=vs.toArray:=by
    apply dX.mp;simp;exact List.map_snd_zip (ak _)
   refine av ?_;show P _ { s with heap:=sortedHeap s.heap a vs ((vs.toArray.zip vs.toArray).map (·.2)) };rw[e];exact hq
  ·show((vs.toArray.zip vs.toArray).map (·.2)).size<=_;rw[Array.size_map];simp;rw[br];omega
 ·rw[aH hs2,aH hs2];refine ab (bu (hk _ old (by omega)) (λκ s' hs'=>?_) λ_ _ z=>z.elim);obtain⟨rfl,O⟩:=hs';refine ab (bu (kat_run (ks:=vs) (E:=E) (Q:=λst' s'=>s'={ s with heap:=((s.heap.update a (Obj.mapSeq λ_=>#[])).push (seqObj "tuple" vs.toArray 0)).push (seqObj "list" #[] 0) }/\∃p,HJ vs.length p/\Fj lt p vs.length/\(arrOf st').map (·.2)=(Dx vs p).toArray/\failedOf st'=none)
   (G:=λp s'=>s'={ s with heap:=((s.heap.update a (Obj.mapSeq λ_=>#[])).push (seqObj "tuple" vs.toArray 0)).push (seqObj "list" #[] 0) }/\HJ vs.length p/\Fj lt p vs.length) rfl (by omega) few
   (λp st' s' _ ea ef hg=>⟨hg.1,p,hg.2.1,hg.2.2,kat_snds rfl ea,ef⟩) (Oe O (by omega) λp hp up=>⟨rfl,hp,up⟩)) (λr s' hr=>?_) λ_ _ z=>z)
  obtain⟨⟨⟩,st'⟩:=r;obtain⟨rfl,p,hp,up,ea,ef⟩:=hr;dsimp only;refine ab (dY h2 rfl (ab (cH h2 rfl ?_ (hsz2:=?_))))
  ·rw[ef];simp only[bne_self_eq_false,Bool.false_eq_true,if_false];rw[ea];exact av (h p hp up)
  ·rw[ea];unfold Dx;simp only[List.size_toArray,List.length_map,Array.length_toList,hp.1];rw[br];omega
theorem Nv {vs:List Value}{ss:List Str}(nd:ss.Nodup)(hl:vs.length=ss.length)(hv:∀(i:Nat) x,ss[i]?=some x->∃(a:Addr) (o:Obj) (t:Tok) (xs:Array Value) (n:Nat),vs[i]?=some (.ref a)/\s.heap.get? a=some o/\o.data=.seq xs n/\xs[0]?=some (.str x t)) :
  Ordr vs.length (λi j=>decide ((ss.getD i ⟨#[]⟩).cps.toList<(ss.getD j ⟨#[]⟩).cps.toList)) (kas_ask prog w A (tuples' true) vs) s:=by
 have get:∀i,i<vs.length->ss[i]?=some (ss.getD i ⟨#[]⟩):=λi hi=>by
  rw[hl] at hi;simp[hi]
 refine⟨λi j C hi hj hij hC=>?_,λi j k _ _ _ h1 h2=>?_,λi j hi hj hij h1=>?_⟩
 ·obtain⟨a,o,t,xs,n,e1,e2,e3,e4⟩:=hv i _ (get i hi);obtain⟨a',o',t',xs',n',f1,f2,f3,f4⟩:=hv j _ (get j hj);have g1:vs.getD i Value.none=.ref a:=by simp[e1]
  have g2:vs.getD j Value.none=.ref a':=by simp[f1]
  unfold kas_ask;rw[g1,g2];have z1:0<xs.size:=(dG.mp e4).1;have z2:0<xs'.size:=(dG.mp f4).1;obtain⟨r,er⟩:∃r,xs.toList=.str (ss.getD i ⟨#[]⟩) t::r:=by
   cases hx:xs.toList with
   |nil=>rw[<-bY,hx] at z1;exact absurd z1 (by simp)
   |cons y r=>
    have:=e4;rw[<-cx,hx] at this;exact⟨r,by rw[show y=_ from aA this]⟩
  obtain⟨r',er'⟩:∃r,xs'.toList=.str (ss.getD j ⟨#[]⟩) t'::r:=by
   cases hx:xs'.toList with
   |nil=>rw[<-bY,hx] at z2;exact absurd z2 (by simp)
   |cons y r=>
    have:=f4;rw[<-cx,hx] at this;exact⟨r,by rw[show y=_ from aA this]⟩
  refine kat_lt e2 e3 f2 f3 ?_;rw[er,er',List.zip_cons_cons];refine kat_cons (eqBool_str ?_);have ne:((ss.getD i ⟨#[]⟩) == (ss.getD j ⟨#[]⟩))=false:=by
   rw[cm];intro z;have hi':i<ss.length:=by omega
   have hj':j<ss.length:=by omega
   have pw:=aS.mp nd;have z':ss[i]=ss[j]:=by simpa [hi',hj'] using z
   rcases dB hij with q|q
   ·exact pw i j hi' hj' q z'
   ·exact pw j i hj' hi' q z'.symm
  rw[ne];exact kat_no (oneLt_str hC)
 ·rw[bA] at *;exact List.lt_trans h1 h2
 ·rw[dR] at h1;rw[bA];have hle:=List.not_lt.mp h1;rcases Classical.em ((ss.getD j ⟨#[]⟩).cps.toList<(ss.getD i ⟨#[]⟩).cps.toList) with h|h
  ·exact h
  ·exfalso;have e:=List.le_antisymm hle (List.not_lt.mp h);have e2:ss.getD j ⟨#[]⟩=ss.getD i ⟨#[]⟩:=by
    cases hx:ss.getD j ⟨#[]⟩ with
    |mk c1=>
     cases hy:ss.getD i ⟨#[]⟩ with
     |mk c2=>
      rw[hx,hy] at e;have e3:c1=c2:=dX.mp e;rw[e3]
   have hi':i<ss.length:=by omega
   have hj':j<ss.length:=by omega
   have pw:=aS.mp nd;have z':ss[j]=ss[i]:=by simpa [hi',hj'] using e2
   rcases dB hij with q|q
   ·exact pw i j hi' hj' q z'.symm
   ·exact pw j i hj' hi' q z'
end
end L2
namespace L2
section
open PySem PySem.W PySem.Calls PyProof.Rows
variable {prog:Program}{w:World}{A:Around}{E:Value->Shared->Prop}{s:Shared}
def Rp (prog:Program)(w:World)(Q:Value->Shared->Prop)(vs:List Value)(s1:Shared):Prop:=∃lt,vs.length<64/\
 (∀(A':Around) h',(∀b o,s1.heap.get? b=some o->h'.get? b=some o)->2<=vs.length->wpAny (model prog w) A' (keyKind' vs.toArray) (λκ s'=>s'={ s1 with heap:=h' }/\Ordr vs.length lt (kas_ask prog w A' κ vs) s') (λ_ _=>False) { s1 with heap:=h' })/\
 ∀h' p idx c,HJ vs.length idx->Fj lt idx vs.length->s1.heap.objs.size<=p->(∀b o,s1.heap.get? b=some o->h'.get? b=some o)->h'.get? p=some (seqObj "list" (Dx vs idx).toArray c)->Q (.ref p) { s1 with heap:=h' }
theorem Ot {x:Value}{Q:Value->Shared->Prop}(hc:wpAny (model prog w) A.in1 (collect x) (Rp prog w Q) E s):wpAny (model prog w) A (call (.builtin "sorted") [x]) Q E s:=by
 refine d9 kind_sorted gy gA (args_sorted1 x) ?_;unfold Builtin.«sorted»;refine ab (m:=checkCount "sorted" 1 1 _) (av (ab (bu hc (λvs s1 z=>?_) λ_ _ e=>e)));obtain⟨lt,few,hk,q⟩:=z;refine ab (cV ?_);have there:(s1.heap.push (seqObj "list" vs.toArray 0)).get? s1.heap.objs.size=some (seqObj "list" vs.toArray 0):=aG _ rfl;refine ab (bC (cS fI ⟨_,there,rfl⟩ ft (Sz (lt:=lt) there few (λh' old h2=>?_) λidx hp up=>⟨_,rfl,?_⟩) (args_list_sort _)))
 ·have k':∀b o,s1.heap.get? b=some o->h'.get? b=some o:=λb o e=>old b o (aN (aD e)) (af _ e)
  exact hk _ h' k' h2
 ·obtain⟨c,hp'⟩:=sortedHeap_at (out:=(Dx vs idx).toArray) there;refine av ⟨_,rfl,q _ _ idx c hp up (ak _) (λb o e=>?_) hp'⟩;have lt:=aD e;show Heap.get? _ b=some o;rw[sortedHeap_old (aN lt) (by rw[bP];exact bR lt)];exact af _ e
end
end L2
namespace L2
section
open PySem PySem.W PySem.Calls PyProof.Rows
variable {X:Cx}
def Sf (H:Hp)(ts:List (Addr×Str))(Q:VK):Prop:=∀(us:List (Addr×Str)) (p:Addr),us.Perm ts->sortedS (us.map (·.2))=true->H p=none->Q (.ref p) (upd H p (.lst (us.map λt=>V.ref t.1)))
def Ry (K:PySem.W.Frag):List V->Hp->VK->Prop:=λxs H Q=>∃(a:Addr) (ts:List (Addr×Str)),xs=[.ref a]/\AB K H a (ts.map λt=>V.ref t.1)/\ts.length<64/\(∀t∈ts,∃r,AG K H t.1 (.str t.2::r))/\(ts.map (·.2)).Nodup/\Sf H ts Q
theorem LY:∀{ts:List (Addr×Str)} {its:List Value},AD (ts.map λt=>V.ref t.1) its->its=ts.map λt=>Value.ref t.1
 |[],_,.nil=>rfl
 |t::ts,_,.cons r h=>by
  cases r;rw[aq,LY h]
theorem GX:∀(ts:List (Addr×Str)),AD (ts.map λt=>V.ref t.1) (ts.map λt=>Value.ref t.1)
 |[]=>.nil
 |t::ts=>.cons rfl (GX ts)
theorem Io {K:PySem.W.Frag}(hK:X.K=K):Dw X (.builtin "sorted") (Ry K):=by
 subst hK;intro pins s σ H xs us Q I r h;obtain⟨a,ts,rfl,h1,few,ht,nd,q⟩:=h;obtain⟨u,rfl,ru⟩:=vals1 r;cases ru;obtain⟨its,r1,p1,_⟩:=I.list h1;have ei:=LY r1;have li:its.length=ts.length:=by rw[ei,aa]
 refine Ot (collect_list p1.isList ?_ (by rw[li,br];omega));have old:∀b o,s.heap.get? b=some o->((s.heap.push (seqObj "list" #[] 0)).update s.heap.objs.size (Obj.mapSeq λx=>x++its.toArray)).get? b=some o:=λb o e=>(bj _ _ (cF (aD e))).trans (af _ e)
 have hsz:s.heap.objs.size<=((s.heap.push (seqObj "list" #[] 0)).update s.heap.objs.size (Obj.mapSeq λx=>x++its.toArray)).objs.size:=by rw[cG,bP];exact fk _
 generalize (s.heap.push (seqObj "list" #[] 0)).update s.heap.objs.size (Obj.mapSeq λx=>x++its.toArray)=h1 at old hsz ⊢;have tup:∀(i:Nat) x,(ts.map λt=>t.2)[i]?=some x->∃(b:Addr) (o:Obj) (t:Tok) (xs:Array Value) (n:Nat),its[i]?=some (.ref b)/\s.heap.get? b=some o/\o.cls=.type "tuple"/\o.data=.seq xs n/\xs[0]?=some (.str x t):=λi x hx=>by
  rw[aB] at hx;cases hi:ts[i]? with
  |none=>rw[hi] at hx;cases hx
  |some y=>
   rw[hi] at hx;cases hx;obtain⟨r,hr⟩:=ht y (az hi);obtain⟨ys,rv,⟨o,e1,e2,n,e3⟩,_⟩:=I.tuple hr;cases rv with
   |cons rv _=>
    obtain⟨t,rfl⟩:=rv;exact⟨y.1,o,t,_,n,by rw[ei,aB,hi];rfl,e1,e2,e3,by simp⟩
 refine⟨λi j=>decide (((ts.map λt:Addr×Str=>t.2).getD i (⟨#[]⟩:Str)).cps.toList<((ts.map λt:Addr×Str=>t.2).getD j (⟨#[]⟩:Str)).cps.toList),by rw[li];exact few,λA' h' k h2=>?_,λh' p idx c hp up lp k e=>?_⟩
 ·obtain⟨fs,kt,kf⟩:∃fs,KatTups h' its fs/\fs.length=its.length/\∀v∈fs,∃x t,v=Value.str x t:=by
   have go:∀(l:List Value),(∀v∈l,∃(b:Addr) (o:Obj) (x:Str) (t:Tok) (xs:Array Value) (n:Nat),v=.ref b/\h'.get? b=some o/\o.cls=.type "tuple"/\o.data=.seq xs n/\xs[0]?=some (.str x t))->∃fs,KatTups h' l fs/\fs.length=l.length/\∀v∈fs,∃x t,v=Value.str x t:=by
    intro l
    induction l with
    |nil=>exact λ_=>⟨[],.nil,rfl,λ_ h=>nomatch h⟩
    |cons v l ih=>
     intro hl;obtain⟨fs,a1,a2,a3⟩:=ih λu hu=>hl u (aM _ hu)
     obtain⟨b,o,x,t,xs,n,rfl,e1,e2,e3,e4⟩:=hl v ax;refine⟨.str x t::fs,.cons e1 e2 e3 e4 a1,by rw[bc,bc,a2],λu hu=>?_⟩;rcases aL.mp hu with rfl|hu
     ·exact⟨x,t,rfl⟩
     ·exact a3 u hu
   refine go its λv hv=>?_
   obtain⟨i,hi⟩:=bM hv;have lt:i<ts.length:=by rw[<-li];exact(aw.mp hi).1
   obtain⟨b,o,t,xs,n,e1,e2,e3,e4,e5⟩:=tup i _ (ae (by rw[aa];exact lt));rw[hi] at e1;cases e1;exact⟨b,o,_,t,xs,n,rfl,k _ _ (old _ _ e2),e3,e4,e5⟩
  refine kat_kind (T:=.type "str") kt (by rw[kf.1];omega) (λv hv=>?_) (by decide) ?_
  ·obtain⟨x,t,rfl⟩:=kf.2 v hv;exact .now
  ·refine⟨rfl,?_⟩;refine Nv nd (by rw[li,aa]) λi x hx=>?_
   obtain⟨b,o,t,xs,n,e1,e2,_,e4,e5⟩:=tup i x hx;exact⟨b,o,t,xs,n,e1,k _ _ (old _ _ e2),e4,e5⟩
 ·have I1:Inv X pins σ H { s with heap:=h' }:=I.kept (t':=s.toks) λb o e=>k b o (old b o e)
  have ln:∀i,i<ts.length->∃t,ts[i]?=some t:=λi hi=>⟨_,ae hi⟩
  have g0:(0:Nat)<ts.length\/ts=[]:=by
   cases ts with
   |nil=>exact .inr rfl
   |cons _ _=>exact .inl (by simp)
  obtain⟨d,ed⟩:∃d:Addr×Str,True:=⟨(0,⟨#[]⟩),trivial⟩
  have lt:∀i∈idx.toList,i<ts.length:=λi hi=>by
   have:=cC.mp (hp.2.mem_iff.mp hi);omega
  have eo:Dx its idx=(idx.toList.map λi=>ts.getD i d).map λt=>Value.ref t.1:=by
   unfold Dx;rw[ar];refine bK λi hi=>?_
   have hl:=lt i hi;rw[ei];simp[hl]
  have pm:(idx.toList.map λi=>ts.getD i d).Perm ts:=by
   have h3:=hp.2.map λi=>ts.getD i d
   have e3:(List.range its.length).map (λi=>ts.getD i d)=ts:=by
    refine ck λi=>?_
    rw[aB,li]
    by_cases hi:i<ts.length
    ·simp[hi]
    ·simp[hi]
   rw[e3] at h3;exact h3
  have so:sortedS ((idx.toList.map λi=>ts.getD i d).map (·.2))=true:=by
   apply sortedS_of_pairwise;rw[aS];intro i j hi hj hij;have hi':i<idx.size:=by simpa using hi
   have hj':j<idx.size:=by simpa using hj
   have h4:=up i j hij (by rw[<-hp.1];exact hj');have li':=lt idx[i] (by simp);have lj':=lt idx[j] (by simp);simp only[List.getElem_map,Array.getElem_toList];rw[ltCps_eq];have e5:idx.getD i 0=idx[i]:=by simp[Array.getD,hi']
   have e6:idx.getD j 0=idx[j]:=by simp[Array.getD,hj']
   rw[e5,e6,bA] at h4;have e7:(ts.map λt:Addr×Str=>t.2).getD idx[i] (⟨#[]⟩:Str)=(ts.getD idx[i] d).2:=by simp[li']
   have e8:(ts.map λt:Addr×Str=>t.2).getD idx[j] (⟨#[]⟩:Str)=(ts.getD idx[j] d).2:=by simp[lj']
   rw[e7,e8] at h4;exact aZ λz=>absurd (List.lt_trans h4 z) (List.lt_irrefl _)
  rw[eo] at e;have lp':s.heap.objs.size<=p:=bq (by
   rcases Nat.lt_or_ge s.heap.objs.size h1.objs.size with g|g
   ·exact eW g
   ·exact cO (Nat.le_antisymm hsz g)) lp
  refine⟨.ref p,_,I.laid (t':=s.toks) (o:=.lst ((idx.toList.map λi=>ts.getD i d).map λt=>V.ref t.1)) (λb o e=>k b o (old b o e)) lp' ?_,rfl,q _ _ pm so (I.hok.fresh lp')⟩;refine⟨?_,_,c,GX _,e⟩;rw[aa,pm.length_eq,br];omega
end
end L2
namespace L2
end L2
namespace L2
end L2
namespace L2
end L2
namespace L2
end L2
namespace L2
end L2
namespace L2
section
open PySem PySem.Calls PySem.Spec PyProof.Rows PySem.Builtin.Str
variable {X:Cx}
def UV:R2:=λx y H Q=>∃ts F G,Tr.deps ts<=99/\Rep F H (.tup ts) x/\Rep G H (.tup ts) y/\Q (.bl true) H
theorem Re (hu:X.A.units+150<cLine):Fu X (compareOp .Eq) UV:=by
 intro pins s σ H x y v u Q I rx ry h;obtain⟨ts,F,G,hd,⟨a,vs,rfl,ha,hr1⟩,⟨b,us,rfl,hb,hr2⟩,q⟩:=h;cases rx;cases ry;obtain⟨its,rv1,p1,_⟩:=I.tuple (AG.of (K:=X.K) ha);obtain⟨its2,rv2,p2,_⟩:=I.tuple (AG.of (K:=X.K) hb);have l1:=rv1.length.symm.trans (AH.len ts vs hr1);have l2:=rv2.length.symm.trans (AH.len ts us hr2);have q2:=eu (A:=X.A) (s:=s) (e:=λ_=>true) p1 p2 (by omega) (λj g1 g2=>IV I ts X.A.in1 vs us its its2 (by show X.A.units+1+Tr.deps ts<cLine;omega) hr1 hr2 rv1 rv2 j (by simpa using g1) (by simpa using g2));have e:((List.range (min its.toArray.size its2.toArray.size)).all (λ_=>true)&&its.toArray.size == its2.toArray.size)=true:=by
  simp[l1,l2]
 rw[e] at q2;exact q2 _ _ _ _ ⟨.bl _,H,I,rfl,q⟩
end
end L2
namespace L2
open PySem PySem.Spec PyProof.Rows
def UU:Bool->String
 |true=>"list_iterator"
 |false=>"tuple_iterator"
def P0 (k:Bool)(h:Heap)(it a:Addr)(i:Nat):Prop:=∃o,h.get? it=some o/\o.cls=.type (UU k)/\o.data=.fields #[.ref a,.int i 0]
def Src:Bool->Heap->Addr->Array Value->Prop
 |true,h,a,its=>h.IsList a its
 |false,h,a,its=>h.IsTuple a its
theorem Src.push {h:Heap}{a:Addr}{its:Array Value}(o:Obj):(k:Bool)->Src k h a its->Src k (h.push o) a its
 |true,⟨x,e,r⟩=>⟨x,af _ e,r⟩
 |false,⟨x,e,r⟩=>⟨x,af _ e,r⟩
theorem P0.extBut {k:Bool}{h h':Heap}{a b l:Addr}{i:Nat}(x:P0 k h a l i)(hs:Heap.ExtBut b h h')(hab:a≠b):P0 k h' a l i:=let⟨o,e,r⟩:=x;⟨o,hs _ _ hab e,r⟩
end L2
namespace L2
end L2
namespace L2
end L2
namespace L2
end L2
namespace L2
section
open PySem PySem.W PySem.Calls PyProof.Rows
variable {prog:Program}{w:World}{A:Around}{E:Value->Shared->Prop}{s:Shared}{a kS:Addr}{vs ks:List Value}{P:PySem.Fin->Shared->Prop}
def VR (a b:Addr)(h h':Heap):Prop:=∀c o,c≠a->c≠b->h.get? c=some o->h'.get? c=some o
theorem Lv {st:SortSt} {keys:Array Value} {e e1:Nat} {out:List Value} (hk:s.heap.get? kS=some (seqObj "list" keys e)) (ha:s.heap.get? a=some (seqObj "list" #[] e1)) (ne:kS≠a) (zk:keys.size<=sizeLine) (hout:(arrOf st).map (·.2)=out.toArray) (zo:out.length<=sizeLine) (hf:failedOf st=none)
  (h:∀h' c,VR a kS s.heap h'->h'.get? a=some (seqObj "list" out.toArray c)->P (.done (.ret .none)) { s with heap:=h' }):wpAny (model prog w) A (ksk_tail a false e1 (.ref kS) st) P E s:=by
 have a1:(s.heap.update kS (Obj.mapSeq λ_=>(#[]:Array Value))).get? a=some (seqObj "list" #[] e1):=(bj _ _ ne).trans ha;unfold ksk_tail;dsimp only;refine ab (cH hk rfl ?_ zk (bw _));refine ab (eS (ab (dY a1 rfl (ab (cH a1 rfl ?_ (bw _) ?_)))))
 ·rw[hf];simp only[bne_self_eq_false,Bool.false_eq_true,if_false];refine av ?_;rw[hout];refine h _ _ (λc o h1 h2 q=>?_) (ej a1 λ_=>out.toArray);exact(bj _ _ (Ne.symm h1)).trans ((bj _ _ (Ne.symm h2)).trans q)
 ·rw[aH ay,hout,aF];exact Nat.le_succ_of_le zo
theorem Rb {lt:Nat->Nat->Bool} {e e1:Nat} (hk:s.heap.get? kS=some (seqObj "list" ks.toArray e)) (ha:s.heap.get? a=some (seqObj "list" #[] e1)) (ne:kS≠a) (hl:ks.length=vs.length) (few:vs.length<64)
  (kind:2<=vs.length->wpAny (model prog w) A (keyKind' ks.toArray) (λκ s'=>s'=s/\Ordr vs.length lt (kas_ask prog w A κ ks) s') (λ_ _=>False) s)
  (h:∀p h' c,HJ vs.length p->Fj lt p vs.length->VR a kS s.heap h'->h'.get? a=some (seqObj "list" (Dx vs p).toArray c)->P (.done (.ret .none)) { s with heap:=h' }) :
  wpAny (model prog w) A (ksk_end a false vs.toArray e1 (.ref kS) ks.toArray) P E s:=by
 have zk:ks.toArray.size<=sizeLine:=by rw[aF,br];omega
 unfold ksk_end;dsimp only;rw[aH ay,aH ay]
 by_cases h2:vs.toArray.size<2
 ·rw[aE h2,aE h2];refine ab (av ?_);rw[StateT.run_pure];refine ab (av ?_);dsimp only;rw[aF] at h2;refine Lv (out:=vs) hk ha ne zk ?_ (by rw[br];omega) rfl λh' c k hc=>h (List.range vs.length).toArray h' c ⟨by simp,by simp⟩ (λi j hij hj=>by omega) k (by rw[Ic];exact hc)
  show(ks.toArray.zip vs.toArray).map (·.2)=vs.toArray;apply dX.mp;simp;exact List.map_snd_zip (by omega)
 ·rw[aH h2,aH h2];rw[aF] at h2;refine ab (bu (kind (by omega)) (λκ s' hs'=>?_) λ_ _ z=>z.elim);obtain⟨rfl,O⟩:=hs';refine ab (bu (kat_run (E:=E) (Q:=λst' s2=>s2=s'/\∃p,HJ vs.length p/\Fj lt p vs.length/\(arrOf st').map (·.2)=(Dx vs p).toArray/\failedOf st'=none) (G:=λp s2=>s2=s'/\HJ vs.length p/\Fj lt p vs.length) hl (by omega) few
   (λp st' s2 _ ea ef hg=>⟨hg.1,p,hg.2.1,hg.2.2,kat_snds hl ea,ef⟩) (Oe O (by omega) λp hp up=>⟨rfl,hp,up⟩)) (λr s2 hr=>?_) λ_ _ z=>z)
  obtain⟨⟨⟩,st'⟩:=r;obtain⟨rfl,p,hp,up,ea,ef⟩:=hr;dsimp only;refine Lv hk ha ne zk ea ?_ ef λh' c k hc=>h p h' c hp up k hc
  unfold Dx;rw[aa,bY,hp.1,br];omega
def N5 (prog:Program)(w:World)(A:Around)(f:Value)(vs:List Value)(Ky:Nat->Value->Prop)(s:Shared)(a:Addr):Prop:=∀(i:Nat) (v:Value),vs[i]?=some v->∀(h:Heap) (tk:Nat),(∀b o,b≠a->s.heap.get? b=some o->h.get? b=some o)->
 wpAny (model prog w) A (call f [v]) (λk s'=>Ky i k/\∃h' tk',s'={ s with heap:=h',toks:=tk' }/\∀b o,h.get? b=some o->h'.get? b=some o) (λ_ _=>False) { s with heap:=h,toks:=tk }
theorem QX {f:Value} {lt:Nat->Nat->Bool} {Ky:Nat->Value->Prop} {e1:Nat} (hk:s.heap.get? kS=some (seqObj "list" #[] 0)) (ha:s.heap.get? a=some (seqObj "list" #[] e1)) (ne:kS≠a) (few:vs.length<64)
  (turn:N5 prog w A f vs Ky s kS)
  (kind:∀(ks:List Value) (h':Heap) (tk:Nat),ks.length=vs.length->(∀i k,ks[i]?=some k->Ky i k)->(∀b o,b≠kS->s.heap.get? b=some o->h'.get? b=some o)->2<=vs.length->
   wpAny (model prog w) A (keyKind' ks.toArray) (λκ s'=>s'={ s with heap:=h',toks:=tk }/\Ordr vs.length lt (kas_ask prog w A κ ks) s') (λ_ _=>False) { s with heap:=h',toks:=tk })
  (h:∀p h' tk c,HJ vs.length p->Fj lt p vs.length->VR a kS s.heap h'->h'.get? a=some (seqObj "list" (Dx vs p).toArray c)->P (.done (.ret .none)) { s with heap:=h',toks:=tk }) :
  wpAny (model prog w) A (ksk_rest a f false vs.toArray e1 (.ref kS)) P E s:=by
 unfold ksk_rest;refine ab (fm ?_);rw[List.forIn_toArray];refine ab (ksk_fold (λi s'=>∃h' tk ks e,s'={ s with heap:=h',toks:=tk }/\(∀b o,b≠kS->s.heap.get? b=some o->h'.get? b=some o)/\h'.get? kS=some (seqObj "list" (List.toArray ks) e)/\ks.length=i/\∀j k,ks[j]?=some k->Ky j k) vs 0 s ⟨s.heap,s.toks,[],0,rfl,λ_ _ _ q=>q,hk,rfl,λj k q=>by simp at q⟩ ?_ ?_)
 ·rintro j x s' hx ⟨h',tk,ks,e,rfl,k1,k2,hl,hK⟩
  rw[eV] at hl ⊢;have hj:j<vs.length:=(aw.mp hx).1;refine ab (wpAny_attempt (bu (turn j x hx h' tk k1) (λv s2 hv=>?_) λ_ _ z=>z.elim));obtain⟨ky,h2,tk2,rfl,k3⟩:=hv;dsimp only;refine ab (cH (k3 _ _ k2) rfl ?_ (by rw[aF,br];omega) (by rw[Array.size_push,aF,br];omega));obtain⟨c9,e9⟩:∃c9,(h2.update kS (Obj.mapSeq (·.push v))).get? kS=some (seqObj "list" (ks.toArray.push v) c9):=⟨_,ej (k3 _ _ k2) (·.push v)⟩
  refine av ⟨rfl,_,tk2,ks++[v],c9,rfl,λb o nb q=>(bj _ _ (Ne.symm nb)).trans (k3 b o (k1 b o nb q)),?_,by rw[ao,hl];rfl,λi k q=>?_⟩
  ·rw[e9,List.push_toArray]
  ·by_cases hi:i<ks.length
   ·rw[bF hi] at q;exact hK i k q
   ·rw[bD (by omega)] at q;have hi2:i-ks.length=0:=by
     have:=(aw.mp q).1;simp at this;omega
    rw[hi2] at q;cases q;rw[show i=j by omega];exact ky
 ·rintro s' ⟨h',tk,ks,e,rfl,k1,k2,hl,hK⟩
  rw[eV] at hl;refine ab (gz k2 rfl ?_);refine Rb (s:={ s with heap:=h',toks:=tk }) k2 (k1 _ _ (Ne.symm ne) ha) ne hl few (kind ks h' tk hl hK k1) λp h3 c hp up k3 hc=>h p h3 tk c hp up (λb o n1 n2 q=>k3 b o n1 n2 (k1 b o n2 q)) hc
theorem Pu {f:Value} {lt:Nat->Nat->Bool} {Ky:Nat->Value->Prop} {n:Nat} (ho:s.heap.get? a=some (seqObj "list" vs.toArray n)) (few:vs.length<64)
  (turn:N5 prog w A f vs Ky s a)
  (kind:∀(ks:List Value) (h':Heap) (tk:Nat),ks.length=vs.length->(∀i k,ks[i]?=some k->Ky i k)->(∀b o,b≠a->s.heap.get? b=some o->h'.get? b=some o)->2<=vs.length->
   wpAny (model prog w) A (keyKind' ks.toArray) (λκ s'=>s'={ s with heap:=h',toks:=tk }/\Ordr vs.length lt (kas_ask prog w A κ ks) s') (λ_ _=>False) { s with heap:=h',toks:=tk })
  (h:∀p h' tk c,HJ vs.length p->Fj lt p vs.length->(∀b o,b≠a->s.heap.get? b=some o->h'.get? b=some o)->h'.get? a=some (seqObj "list" (Dx vs p).toArray c)->P (.done (.ret .none)) { s with heap:=h',toks:=tk }) :
  wpAny (model prog w) A (ksk_tree a f false) P E s:=by
 have ha:a<s.heap.objs.size:=aD ho;unfold ksk_tree;refine ab (gz ho rfl (ab (cH ho rfl ?_ (by rw[aF,br];omega) (bw _))));obtain⟨e1,h1⟩:∃e,(s.heap.update a (Obj.mapSeq λ_=>#[])).get? a=some (seqObj "list" #[] e):=⟨_,ej ho (λ_=>#[])⟩
 refine ab (dY h1 rfl (ab (gd (ab (cV (bC ?_) (bw _))) (by show vs.length<=_;rw[br];omega))));have old:∀b o,b≠a->s.heap.get? b=some o->(((s.heap.update a (Obj.mapSeq λ_=>#[])).push (seqObj "tuple" vs.toArray 0)).push (seqObj "list" #[] 0)).get? b=some o:=λb o nb e=>
  af _ (af _ ((bj _ _ (Ne.symm nb)).trans e))
 have sz:((s.heap.update a (Obj.mapSeq λ_=>#[])).push (seqObj "tuple" vs.toArray 0)).objs.size=s.heap.objs.size+1:=by rw[bP,cG]
 have hk:(((s.heap.update a (Obj.mapSeq λ_=>#[])).push (seqObj "tuple" vs.toArray 0)).push (seqObj "list" #[] 0)).get? ((s.heap.update a (Obj.mapSeq λ_=>#[])).push (seqObj "tuple" vs.toArray 0)).objs.size=some (seqObj "list" #[] 0):=aG _ rfl;have h2:(((s.heap.update a (Obj.mapSeq λ_=>#[])).push (seqObj "tuple" vs.toArray 0)).push (seqObj "list" #[] 0)).get? a=some (seqObj "list" #[] e1):=af _ (af _ h1);rw[sz] at hk;show wpAny (model prog w) A (ksk_rest a f false vs.toArray e1 (.ref ((s.heap.update a (Obj.mapSeq λ_=>#[])).push (seqObj "tuple" vs.toArray 0)).objs.size)) P E { s with heap:=((s.heap.update a (Obj.mapSeq λ_=>#[])).push (seqObj "tuple" vs.toArray 0)).push (seqObj "list" #[] 0) };rw[sz];generalize ((s.heap.update a (Obj.mapSeq λ_=>#[])).push (seqObj "tuple" vs.toArray 0)).push (seqObj "list" #[] 0)=h0 at old hk h2;have nk:∀b o,s.heap.get? b=some o->b≠s.heap.objs.size+1:=λb o q=>aN (bR (aD q))
 refine QX (s:={ s with heap:=h0 }) (Ky:=Ky) (lt:=lt) hk h2 (cF (bR ha)) few (λi v hv h3 tk k3=>?_) (λks h3 tk hl hK k3 l2=>?_) λp h3 tk c hp up k3 hc=>?_
 ·exact turn i v hv h3 tk λb o nb q=>k3 b o (nk b o q) (old b o nb q)
 ·exact kind ks h3 tk hl hK (λb o nb q=>k3 b o (nk b o q) (old b o nb q)) l2
 ·exact h p h3 tk c hp up (λb o nb q=>k3 b o nb (nk b o q) (old b o nb q)) hc
theorem MP {l f:Addr} {lt:Nat->Nat->Bool} {Ky:Nat->Value->Prop} {Q:Value->Shared->Prop} (hl:s.heap.IsList l vs.toArray) (few:vs.length<64)
  (turn:∀(i:Nat) (v:Value),vs[i]?=some v->∀(h:Heap) (tk:Nat),(∀b o,s.heap.get? b=some o->h.get? b=some o)->
   wpAny (model prog w) A.in1.in1 (call (.ref f) [v]) (λk s'=>Ky i k/\∃h' tk',s'={ s with heap:=h',toks:=tk' }/\∀b o,h.get? b=some o->h'.get? b=some o) (λ_ _=>False) { s with heap:=h,toks:=tk })
  (kind:∀(ks:List Value) (h':Heap) (tk:Nat),ks.length=vs.length->(∀i k,ks[i]?=some k->Ky i k)->(∀b o,s.heap.get? b=some o->h'.get? b=some o)->2<=vs.length->
   wpAny (model prog w) A.in1.in1 (keyKind' ks.toArray) (λκ s'=>s'={ s with heap:=h',toks:=tk }/\Ordr vs.length lt (kas_ask prog w A.in1.in1 κ ks) s') (λ_ _=>False) { s with heap:=h',toks:=tk })
  (q:∀h' tk p idx c,HJ vs.length idx->Fj lt idx vs.length->s.heap.objs.size<=p->(∀b o,s.heap.get? b=some o->h'.get? b=some o)->h'.get? p=some (seqObj "list" (Dx vs idx).toArray c)->Q (.ref p) { s with heap:=h',toks:=tk }) :
  wpAny (model prog w) A (call (.builtin "sorted") [.ref l] [(Str.ofString "key",.ref f)]) Q E s:=by
 refine call_function_entry_kw kind_sorted gy gA (ksk_s1 _ _) ?_;unfold Builtin.«sorted»;refine ab (m:=checkCount "sorted" 1 1 _) (av (ab (collect_list hl ?_ (by rw[br];omega))));refine ab (cV ?_ (by rw[br];omega));have old:∀b o,s.heap.get? b=some o->((s.heap.push (seqObj "list" #[] 0)).update s.heap.objs.size (Obj.mapSeq λx=>x++vs.toArray)).get? b=some o:=λb o e=>(bj _ _ (cF (aD e))).trans (af _ e)
 have hsz:s.heap.objs.size<=((s.heap.push (seqObj "list" #[] 0)).update s.heap.objs.size (Obj.mapSeq λx=>x++vs.toArray)).objs.size:=by rw[cG,bP];exact fk _
 generalize (s.heap.push (seqObj "list" #[] 0)).update s.heap.objs.size (Obj.mapSeq λx=>x++vs.toArray)=h1 at old hsz ⊢;have there:(h1.push (seqObj "list" vs.toArray 0)).get? h1.objs.size=some (seqObj "list" vs.toArray 0):=aG _ rfl;have old2:∀b o,s.heap.get? b=some o->b≠h1.objs.size/\(h1.push (seqObj "list" vs.toArray 0)).get? b=some o:=λb o e=>⟨aN (aY (aD e) hsz),af _ (old b o e)⟩
 generalize h1.push (seqObj "list" vs.toArray 0)=h2 at there old2 ⊢;refine ab (bC (wpAny_call_entry_kw (s:={ s with heap:=h2 }) fI ⟨_,there,rfl⟩ ft ?_ (ksk_l1 _ _)));rw[ksk_t1];refine Pu (s:={ s with heap:=h2 }) (lt:=lt) (Ky:=Ky) there few (λi v hv h3 tk k3=>?_) (λks h3 tk hl hK k3 l2=>?_) λp h3 tk c hp up k3 hc=>?_
 ·exact turn i v hv h3 tk λb o e=>k3 b o (old2 b o e).1 (old2 b o e).2
 ·exact kind ks h3 tk hl hK (λb o e=>k3 b o (old2 b o e).1 (old2 b o e).2) l2
 ·refine⟨_,rfl,?_⟩;exact av ⟨_,rfl,q h3 tk _ p c hp up hsz (λb o e=>k3 b o (old2 b o e).1 (old2 b o e).2) hc⟩
end
end L2
namespace L2
section
open PySem PySem.W PySem.Calls PyProof.Rows
variable {prog:Program}{w:World}{A:Around}{s:Shared}
abbrev MR (qual:Str)(params:Arguments)(body:Expr)(scope:Scope)(cl:List (Str×Addr))(pm cv ctv:Value):Obj:={ cls:=.type "function",data:=.func (kla_fn "<lambda>" qual params body scope cl pm cv ctv) }
theorem Qu {f a c':Addr} {qual x:Str} {params:Arguments} {scope:Scope} {pm ctv:Value} {j:Nat} {p1 p2 p3:Pos} {items:Array Value} {v:Value} (ho:s.heap.get? f=some (MR qual params (.Subscript (.Name x p1) (.Constant (.int j) 0 p2) p3) scope [] pm (.ref c') ctv)) (hcd:s.heap.CodeRec (.ref c') qual) (nl:s.heap.NoLimit) (room:A.depth<recursionLimit)
  (hb:∀u,bindArgs (kla_fn "<lambda>" qual params (.Subscript (.Name x p1) (.Constant (.int j) 0 p2) p3) scope [] pm (.ref c') ctv) ⟨[u],[]⟩=pure [(x,u)]) (hx:scope.names.lookup x=some .local) (hk:scope.kind=.function) (hco:scope.isCoroutine=false) (hge:scope.isGenerator=false) (hce:∀y∈scope.names,y.2≠.cell)
  (hd:(x == ("__debug__":Str))=false) (hj:j<1000) (ht:IsTup s.heap a items) (hi:items[j]?=some v) :
  wpAny (model prog w) A (call (.ref f) [.ref a]) (λk s'=>k=v/\∃h' tk',s'={ s with heap:=h',toks:=tk' }/\∀b o,s.heap.get? b=some o->h'.get? b=some o) (λ_ _=>False) s:=by
 refine gh (kla_callFunE room ho rfl hco hge rfl hcd ?_);rw[hb];refine av (wpAny_newFunctionEnv hce (λy hy=>by rw[ai.mp hy];exact hx) (λh₁ hns hsb=>⟨nl.fresh _ hsb,?_⟩) hk);have k1:∀b o,s.heap.get? b=some o->h₁.get? b=some o:=λb o e=>hsb.extBut b o (aN (aD e)) (af _ e)
 show codeAny _ _ (.expr _ (envX qual scope s.heap.objs.size f (.ref c') [])) _ _;have hv:[(x,Value.ref a)].reverse.lookup x=some (.ref a):=by simp
 have ht':=ht.keeps k1;have l1:j<items.size:=(dG.mp hi).1;refine kla_codeExpr (Subscript_ (gi (wpAny_loadName_local (v:=.ref a) (m:=λy=>[(x,Value.ref a)].reverse.lookup y) hk hx hns hv ?_) hd));refine fq ?_;exact fh (x:=v) ht'.typeIs slot_tuple_getitem.lookup (getItem_tuple (j:=j) ht' (by omega) (by omega) (by rw[fO (by omega) (by omega)];simp) hi ⟨rfl,rfl,_,_,rfl,k1⟩)
end
end L2
namespace L2
section
open PySem PySem.Spec PyProof.Rows
variable {X:Cx}{pins:List (Addr×Obj)}{σ:St}{H:Hp}{s:Shared}
def Lw (c:Addr)(qual:Str):HO:=.ext λh=>h.CodeRec (.ref c) qual
theorem Qi {P:Program}{w:World}{h:Heap}{c:Addr}{qual:Str}(e:h.CodeRec (.ref c) qual):A4 P w H h c (Lw c qual):=by
 obtain⟨c2,o,vs,t,e1,e2,e3⟩:=id e;cases e1;exact⟨e,⟨o,e2⟩,λh1 h2 ⟨c3,o3,vs3,t3,z1,z2,z3⟩ k=>by cases z1;exact⟨_,o3,vs3,t3,rfl,k o3 z2,z3⟩⟩
def Dz (P:Addr)(qual:Str)(pos:Pos)(H:Hp):Prop:=H P=some (.tbl #[])\/∃c,H P=some (.tbl #[rawInt pos.line,rawInt pos.col,.ref c])/\H c=some (Lw c qual)
def Dc (P:Addr)(H H':Hp):Prop:=∀b o,b≠P->H b=some o->H' b=some o
theorem Dc.refl (P:Addr)(H:Hp):Dc P H H:=λ_ _ _ h=>h
theorem Dc.trans {P:Addr}{H H1 H2:Hp}(a:Dc P H H1)(b:Dc P H1 H2):Dc P H H2:=λc o n h=>b c o n (a c o n h)
theorem An.t {H H':Hp}(a:An H H')(P:Addr):Dc P H H':=λb o _ h=>a b o h
theorem Dz.some {P:Addr}{qual:Str}{pos:Pos}{H:Hp}(t:Dz P qual pos H):∃ps,H P=some (.tbl ps):=by
 rcases t with h|⟨c,h,_⟩
 ·exact⟨_,h⟩
 ·exact⟨_,h⟩
theorem Dz.same {P:Addr}{qual:Str}{pos:Pos}{H H':Hp}(t:Dz P qual pos H)(e:An H H'):Dz P qual pos H':=by
 rcases t with h|⟨c,h,h2⟩
 ·exact .inl (e _ _ h)
 ·exact .inr ⟨c,e _ _ h,e _ _ h2⟩
theorem Dc.free {P:Addr}{qual:Str}{pos:Pos}{H H':Hp}(e:Dc P H H')(t:Dz P qual pos H'){l:Addr}(h:H' l=none):H l=none:=by
 cases q:H l with
 |none=>rfl
 |some o=>
  by_cases z:l=P
  ·obtain⟨ps,hp⟩:=t.some;rw[z,hp] at h;cases h
  ·rw[e l o z q] at h;cases h
theorem Dc.get {P:Addr}{qual:Str}{pos:Pos}{H H':Hp}(e:Dc P H H')(t:Dz P qual pos H){b:Addr}{o:HO}(h:H b=some o)(n:∀ps,o≠.tbl ps):H' b=some o:=by
 refine e b o (λz=>?_) h;obtain⟨ps,hp⟩:=t.some;rw[z,hp] at h;exact n ps (aA h).symm
theorem Dc.sqT {P:Addr}{qual:Str}{pos:Pos}{K:PySem.W.Frag}{H H':Hp}{a:Addr}{xs:List V}(e:Dc P H H')(t:Dz P qual pos H)(h:AG K H a xs):AG K H' a xs:=by
 rcases h with(h|⟨o,h⟩)|h
 ·exact .inl (.inl (e.get t h (by intro _ z;cases z)))
 ·exact .inl (.inr ⟨o,e.get t h (by intro _ z;cases z)⟩)
 ·exact .inr h
theorem Dc.sqL {P:Addr}{qual:Str}{pos:Pos}{K:PySem.W.Frag}{H H':Hp}{a:Addr}{xs:List V}(e:Dc P H H')(t:Dz P qual pos H)(h:AB K H a xs):AB K H' a xs:=by
 rcases h with(h|⟨o,h⟩)|h
 ·exact .inl (.inl (e.get t h (by intro _ z;cases z)))
 ·exact .inl (.inr ⟨o,e.get t h (by intro _ z;cases z)⟩)
 ·exact .inr h
theorem Inv.tabled {P:Addr}{ps more:Array Value}{h':Heap}{t':Nat}(I:Inv X pins σ H s)(hP:H P=some (.tbl ps))(k:∀b o,b≠P->s.heap.get? b=some o->h'.get? b=some o)(hP':h'.get? P=some { cls:=.none,data:=.fields (ps++more) }) :
  Inv X pins σ (upd H P (.tbl (ps++more))) { s with heap:=h',toks:=t' }:=by
 have nP:∀b,H b=none->b≠P:=λb e z=>by rw[z,hP] at e;cases e
 have nt:∀{b:Addr} {u:HO},H b=some u->(∀ps,u≠.tbl ps)->upd H P (.tbl (ps++more)) b=some u:=λ{b u} e n=>by
  rw[Af λz=>by rw[z,hP] at e;exact n _ (aA e).symm];exact e
 refine I.step (g':=s.gens) (d':=s.drawn) (ch:=[]) (λ_ z=>nomatch z) (λb o _ _ _ e n=>k b o (nP b n) e) (λb o _ _ _ e n=>⟨o.slots,k b o (nP b n) e⟩) (λb o _ _ n=>by rw[Af (nP b n)];exact n) (λb o _ e=>?_)
  (λb xs e=>nt e (by intro _ z;cases z)) (λb o u e=>nt e (by intro _ z;cases z)) (λb qs e=>?_) (λm hm=>?_) (λb u e=>?_) I.bare
 ·by_cases z:b=P
  ·exact⟨_,by rw[z];exact hP'⟩
  ·exact⟨o,k b o z e⟩
 ·by_cases z:b=P
  ·rw[z,hP] at e;cases e;exact⟨more,by rw[z,Ac]⟩
  ·exact⟨#[],by rw[Af z,e];simp⟩
 ·obtain⟨o,es,ep,ho,r⟩:=hm;exact⟨o,es,ep,k _ o (nP _ I.free) ho,r⟩
 ·by_cases z:b=P
  ·rw[z,Ac] at e;cases e;rw[z];exact hP'
  ·rw[Af z] at e;refine(I.hok b u e).stay (λc v hc q=>k c v ?_ q) (λc q=>nt q (by intro _ z;cases z)) λc xs q=>nt q (by intro _ z;cases z)
   rcases hc with rfl|hc
   ·exact z
   ·intro y;rw[y,hP] at hc;cases hc
theorem Kk {α:Type}:∀{ts:List (Addr×α)} {its:List Value},AD (ts.map λt=>V.ref t.1) its->its=ts.map λt=>Value.ref t.1
 |[],_,.nil=>rfl
 |t::ts,_,.cons r h=>by
  cases r;rw[aq,Kk h]
theorem Jt {α:Type}:∀(ts:List (Addr×α)),AD (ts.map λt=>V.ref t.1) (ts.map λt=>Value.ref t.1)
 |[]=>.nil
 |t::ts=>.cons rfl (Jt ts)
theorem Tt {α:Type}(d:α)(ts:List (Addr×α)){idx:Array Nat}{lt:Nat->Nat->Bool}{R:α->α->Prop}(hp:HJ ts.length idx)(up:Fj lt idx ts.length)(hR:∀i j,i<ts.length->j<ts.length->lt i j=true->R (ts.getD i (0,d)).2 (ts.getD j (0,d)).2) :
  ∃us:List (Addr×α),us.Perm ts/\Dx (ts.map λt=>Value.ref t.1) idx=us.map (λt=>Value.ref t.1)/\us.Pairwise λx y=>R x.2 y.2:=by
 have lt':∀i∈idx.toList,i<ts.length:=λi hi=>cC.mp (hp.2.mem_iff.mp hi)
 refine⟨idx.toList.map λi=>ts.getD i (0,d),?_,?_,?_⟩
 ·have h3:=hp.2.map λi=>ts.getD i (0,d)
  have e3:(List.range ts.length).map (λi=>ts.getD i (0,d))=ts:=by
   refine ck λi=>?_
   rw[aB]
   by_cases hi:i<ts.length
   ·simp[hi]
   ·simp[hi]
  rw[e3] at h3;exact h3
 ·unfold Dx;rw[ar];refine bK λi hi=>?_
  have hl:=lt' i hi;simp[hl]
 ·rw[aS];intro i j hi hj hij;have hi':i<idx.size:=by simpa using hi
  have hj':j<idx.size:=by simpa using hj
  have h4:=up i j hij (by rw[<-hp.1];exact hj');have e5:idx.getD i 0=idx[i]:=by simp[Array.getD,hi']
  have e6:idx.getD j 0=idx[j]:=by simp[Array.getD,hj']
  rw[e5,e6] at h4;simp only[List.getElem_map,Array.getElem_toList];exact hR _ _ (lt' _ (by simp)) (lt' _ (by simp)) h4
theorem Jw {α:Type}{d:α}{l:List α}(nd:l.Nodup){i j:Nat}(hi:i<l.length)(hj:j<l.length)(hij:i≠j):l.getD i d≠l.getD j d:=by
 have e1:l.getD i d=l[i]:=by simp[hi]
 have e2:l.getD j d=l[j]:=by simp[hj]
 rw[e1,e2];have pw:=aS.mp nd;intro z;rcases dB hij with q|q
 ·exact pw i j hi hj q z
 ·exact pw j i hj hi q z.symm
theorem LC:∀{ks:List Value} {kz:List Int},ks.length=kz.length->(∀(i:Nat) k,ks[i]?=some k->∃t,k=.int (kz.getD i 0) t)->IntsAre ks kz
 |[],[],_,_=>.nil
 |[],_::_,h,_=>by cases h
 |_::_,[],h,_=>by cases h
 |k::ks,z::kz,h,hk=>by
  obtain⟨t,e⟩:=hk 0 k rfl;rw[show k=Value.int z t from e];exact .cons z t (LC (by simpa using h) λi k' q=>by
   have:=hk (i+1) k' (by simpa using q);simpa using this)
theorem On {prog:Program}{w:World}{A:Around}{ks:List Value}{kz:List Int}(nd:kz.Nodup)(hl:ks.length=kz.length)(hk:∀(i:Nat) k,ks[i]?=some k->∃t,k=.int (kz.getD i 0) t) :
  Ordr ks.length (λi j=>decide (kz.getD i 0<kz.getD j 0)) (PySem.W.kas_ask prog w A oneType' ks) s:=by
 refine⟨λi j C hi hj hij hC=>?_,λi j k _ _ _ h1 h2=>?_,λi j hi hj hij h1=>?_⟩
 ·obtain⟨t,e⟩:=hk i _ (ae hi);obtain⟨u,e'⟩:=hk j _ (ae hj);unfold PySem.W.kas_ask;rw[show ks.getD i Value.none=.int (kz.getD i 0) t by rw[<-e];simp[hi],show ks.getD j Value.none=.int (kz.getD j 0) u by rw[<-e'];simp[hj]];exact PySem.W.kat_lt_int hC
 ·rw[bA] at *;omega
 ·rw[dR] at h1;rw[bA];have:=Jw (d:=0) nd (by omega:i<kz.length) (by omega:j<kz.length) hij;omega
end
end L2
namespace L2
section
open PySem PySem.Spec PyProof.Rows PySem.Calls
variable {X:Cx}
structure LamAt (K:PySem.W.Frag) (mg:Str->Option Value) (base:Heap) (cdv:Value) (P:Addr):Prop where
 code:∃c,cdv=.ref c/\PySem.W.codeHdIn K c P=true
 bm:∃bm ob,mg "__builtins__"=some (.ref bm)/\bm≠builtinsNs/\bm≠mainGlobals/\base.get? bm=some ob/\ob.cls=.type "module"/\ob.dict=some builtinsNs/\ob.data=.plain
structure LamTx (x:Str) (params:Arguments) (scope:Scope):Prop where
 bind:∀(qual:Str) (body:Expr) (pm cv ctv u:Value),bindArgs (PySem.W.kla_fn "<lambda>" qual params body scope [] pm cv ctv) ⟨[u],[]⟩=pure [(x,u)]
 dflt:∀env,defaultsOf params env=([],[])
 clos:∀env,closureFor scope env=pure []
 loc:scope.names.lookup x=some .local
 kind:scope.kind=.function
 co:scope.isCoroutine=false
 ge:scope.isGenerator=false
 ce:∀y∈scope.names,y.2≠.cell
 db:(x == ("__debug__":Str))=false
theorem PP {params:Arguments} {body:Expr} {scope:Scope} {cl:List (Str×Addr)} {lp:Pos} {P:Addr} {pins:List (Addr×Obj)} {σ:St} {H:Hp} {s:Shared} {Q:Value->Shared->Prop} {E:Value->Shared->Prop} (dfl:∀env,defaultsOf params env=([],[])) (hcl:closureFor scope X.env=pure cl) (at_:LamAt X.K X.mg X.base X.env.code P) (I:Inv X pins σ H s) (tb:Dz P (X.env.qual++"<lambda>") lp H)
  (h:∀f c' pm ctv H2 s2,Inv X pins σ H2 s2->Dc P H H2->Dz P (X.env.qual++"<lambda>") lp H2->s2.heap.get? f=some (MR (X.env.qual++"<lambda>") params body scope cl pm (.ref c') ctv)->s2.heap.CodeRec (.ref c') (X.env.qual++"<lambda>")->Q (.ref f) s2) :
  wpAny (model X.prog X.w) X.A (eval (.Lambda params body scope lp) X.env) Q E s:=by
 obtain⟨⟨c,hc,hcd⟩,bm,ob,b1,b2,b3,b4,b5,b6,b7⟩:=at_;have C:=gC I.kIn hcd;have hg:s.heap.Ns mainGlobals X.mg:=I.mod.glob.keeps I.bk;have atP:∀{ps:Array Value},H P=some (.tbl ps)->s.heap.get? P=some (PySem.W.tabObj ps):=λ{ps} e=>I.hok P _ e
 have hgP:∀{ps:Array Value},H P=some (.tbl ps)->mainGlobals≠P:=λ{ps} e q=>by
  obtain⟨o,es,ep,e1,hd,_⟩:=hg;rw[q,atP e] at e1;cases e1;cases hd
 have bb:∀{ps:Array Value},H P=some (.tbl ps)->s.heap.BuiltinsAt X.mg P:=λ{ps} e=>⟨bm,ob,b1,b2,b3,(λq=>by
  have e1:=I.bk _ _ b4;rw[q,atP e] at e1;cases e1;cases b5),I.bk _ _ b4,b5,b6,b7⟩
 refine PySem.W.kla_eval (dfl _) ?_;rcases tb with e|⟨c',e,e2⟩
 ·refine PySem.W.kla_makeFunction (ps:=#[]) (mg:=X.mg) hcl I.ok.glob hg hc C (atP e) trivial rfl (hgP e) (bb e) λc' ctv h' tk hx hge hlt hrec htb=>?_
  have k1:∀b o,b≠P->s.heap.get? b=some o->(h'.push (PySem.W.kla_obj "<lambda>" (X.env.qual++"<lambda>") params body scope cl ((X.mg "__name__").getD .none) c' ctv)).get? b=some o:=λb o nb q=>af _ (hx b o nb q)
  have I2:=I.tabled (t':=tk) (more:=#[rawInt lp.line,rawInt lp.col,.ref c']) e k1 (af _ htb);have hr2:(h'.push (PySem.W.kla_obj "<lambda>" (X.env.qual++"<lambda>") params body scope cl ((X.mg "__name__").getD .none) c' ctv)).CodeRec (.ref c') (X.env.qual++"<lambda>"):=by
   obtain⟨c2,o,vs,t,z1,z2,z3⟩:=hrec;exact⟨c2,o,vs,t,z1,af _ z2,z3⟩
  have n0:s.heap.get? c'=none:=dF hge;have nP:c'≠P:=λz=>by rw[z,atP e] at n0;cases n0
  have nH:H c'=none:=I.hok.fresh hge;have n2:upd H P (.tbl (#[] ++ #[rawInt lp.line,rawInt lp.col,.ref c'])) c'=none:=by rw[Af nP];exact nH
  obtain⟨m,hn,_⟩:=id I.loc;obtain⟨oL,_,_,hoL,_⟩:=id hn;have I3:=I2.know (e:=c') (o:=Lw c' (X.env.qual++"<lambda>")) (λxx=>by
   cases q:X.s₀.heap.get? c' with
   |none=>rfl
   |some o=>
    obtain⟨o',z⟩:=I.base.there c' o q xx;rw[n0] at z;cases z) (λz=>by rw[<-z,n0] at hoL;cases hoL) (λx c q z=>by
    obtain⟨w',oc,e1,_⟩:=I.cell x c q;rw[z,n0] at e1;cases e1) (λp hp z=>by
    have:=(I.pin p hp).1;rw[z,n0] at this;cases this) n2 (Qi hr2)
  refine h _ c' _ ctv _ _ I3 (λb o nb q=>?_) (.inr ⟨c',?_,Ac⟩) (aG _ rfl) hr2
  ·rw[Af (λz=>by rw[z,nH] at q;cases q),Af nb];exact q
  ·rw[Af (Ne.symm nP),Ac];rfl
 ·obtain⟨hr,_,_⟩:A4 X.prog X.w H s.heap c' (Lw c' (X.env.qual++"<lambda>")):=I.hok c' _ e2;refine PySem.W.kla_makeFunctionHit (cv:=.ref c') (mg:=X.mg) hcl I.ok.glob hg hc C (atP e) ?_ ?_ (bb e) λctv h' tk k hsz=>?_
  ·exact(TriplesOk_snoc lp.line lp.col (.ref c') [] trivial:TriplesOk ([]++[rawInt lp.line,rawInt lp.col,.ref c']))
  ·exact(codeAmong_snoc (pos:=lp) (c:=.ref c') [] trivial rfl:codeAmong lp ([]++[rawInt lp.line,rawInt lp.col,.ref c'])=some (.ref c'))
  ·have k1:∀b o,s.heap.get? b=some o->(h'.push (MR (X.env.qual++"<lambda>") params body scope cl ((X.mg "__name__").getD .none) (.ref c') ctv)).get? b=some o:=λb o q=>af _ (k b o q)
   refine h _ c' _ ctv H _ (I.kept (t':=tk) k1) (.refl P H) (.inr ⟨c',e,e2⟩) (aG _ rfl) ?_;obtain⟨c2,o,vs,t,z1,z2,z3⟩:=hr;exact⟨c2,o,vs,t,z1,k1 _ _ z2,z3⟩
end
end L2
namespace L2
section
open PySem PySem.Spec PyProof.Rows PySem.Calls
variable {X:Cx}
def TV (K:PySem.W.Frag)(P:Addr)(qual:Str)(lp:Pos)(j:Nat)(ta:TA):TE:=λσ H Q=>ta σ H λvs H1=>∃(a:Addr) (ts:List (Addr×Int)),vs=[.ref a]/\AB K H1 a (ts.map λt=>V.ref t.1)/\ts.length<64/\(∀t∈ts,∃xs,AG K H1 t.1 xs/\xs[j]?=some (.int t.2))/\(ts.map (·.2)).Nodup/\Dz P qual lp H1/\
 ∀(us:List (Addr×Int)) p H2,us.Perm ts->us.Pairwise (λx y=>x.2<y.2)->Dc P H1 H2->Dz P qual lp H2->H2 p=none->Q (.ref p) (upd H2 p (.lst (us.map λt=>V.ref t.1)))
theorem QH {e:Expr} {ta:TA} {x:Str} {params:Arguments} {scope:Scope} {j:Nat} {P:Addr} {k:Nat} {p pos kp lp p1 p2 p3:Pos} {qual:Str} (hr:Room k X.A) (L:LamTx x params scope) (at_:LamAt X.K X.mg X.base X.env.code P) (hj:j<1000) (hq:X.env.qual++"<lambda>"=qual) (hg:Gl X "sorted") (hm:X.mg "sorted"=none) (ha:PA X [e] ta)
  (he:backTo pos (starEach [e] X.env)=(false,eval e X.env)::backTo pos (starEach [] X.env):=by rfl)
  (hpl:(backTo pos (starEach [e] X.env)).any (·.1)=false:=by rfl) :
  PE X (.Call (.Name "sorted" p) [e] [⟨some "key",.Lambda params (.Subscript (.Name x p1) (.Constant (.int j) 0 p2) p3) scope lp,kp⟩] pos) (TV X.K P qual lp j ta):=by
 subst hq;intro pins s σ H Q I h;refine cJ (HH I hg hm CY (Mg hpl rfl ?_));have hsp:=ha pos pins s σ H _ I h;rw[he] at hsp ⊢;refine evalArgs_kwB rfl (Bd hsp λus s1 ⟨vs,H1,I1,r1,q1⟩=>?_);obtain⟨a,ts,rfl,hl,few,ht,nd,tb,q⟩:=q1;obtain⟨u,rfl,ru⟩:=vals1 r1;cases ru;refine kws_cons (PP L.dflt (L.clos _) at_ I1 tb λf c' pm ctv H2 s2 I2 st tb2 hf hcr=>kws_nil ?_);obtain⟨its,rv,p1',hz⟩:=I2.list (st.sqL tb hl);have ei:=Kk rv;have li:its.length=ts.length:=by rw[ei,aa]
 have gk:∀i,i<ts.length->(ts.map (·.2)).getD i 0=(ts.getD i (0,0)).2:=λi hi=>by simp[hi]
 refine MP (vs:=its) (Ky:=λi k=>∃t,k=Value.int ((ts.map (·.2)).getD i 0) t) (lt:=λi j=>decide ((ts.map (·.2)).getD i 0<(ts.map (·.2)).getD j 0)) p1'.isList (by rw[li];exact few) (λi v hv h' tk k=>?_) (λks h' tk hlk hK k l2=>?_) λh' tk pp idx c hp up lp' k hc=>?_
 ·have il:i<ts.length:=by rw[<-li];exact(aw.mp hv).1
  have ev:v=.ref (ts[i]).1:=by
   rw[ei,aB,ae il] at hv;exact(aA hv).symm
  subst ev;obtain⟨xs,hx,hxj⟩:=ht _ (bG il);obtain⟨ys,r2,hy,_⟩:=I2.tuple (st.sqT tb hx);obtain⟨y,hyj,ry⟩:=r2.get hxj;obtain⟨t,rfl⟩:=ry;have cr:h'.CodeRec (.ref c') (X.env.qual++"<lambda>"):=by
   obtain⟨c2,o,vs,t,z1,z2,z3⟩:=hcr;exact⟨c2,o,vs,t,z1,k _ _ z2,z3⟩
  refine bu (Qu (s:={ s2 with heap:=h',toks:=tk }) (A:=X.A.in1.in1) (items:=ys.toArray) (j:=j) (v:=.int (ts[i]).2 t) (k _ _ hf) cr (I2.nolimit.keeps k) hr.depth (λu=>L.bind _ _ _ _ _ u) L.loc L.kind L.co L.ge L.ce L.db hj (hy.keeps k) (by simpa using hyj)) (λkv s' z=>?_) λ_ _ z=>z
  obtain⟨rfl,h3,tk3,rfl,k3⟩:=z;exact⟨⟨t,by rw[gk i il];simp[il]⟩,h3,tk3,rfl,k3⟩
 ·have hl2:ks.length=(ts.map (·.2)).length:=by rw[hlk,li,aa]
  rw[ksk_kind (kz:=ts.map (·.2)) (by simpa using LC hl2 hK) (by rw[aF];omega)];refine av ⟨rfl,?_⟩;have:=On (prog:=X.prog) (w:=X.w) (A:=X.A.in1.in1) (s:={ s2 with heap:=h',toks:=tk }) nd hl2 hK;rw[hlk] at this;exact this
 ·rw[li] at hp up;obtain⟨us,u1,u2,u3⟩:=Tt (0:Int) ts (R:=λa b=>a<b) hp up λi j hi hj hlt=>by
   rw[bA,gk i hi,gk j hj] at hlt;exact hlt
  rw[ei,u2] at hc;refine⟨.ref pp,_,I2.laid (t':=tk) (o:=.lst (us.map λt=>V.ref t.1)) k lp' ?_,rfl,q us pp H2 u1 u3 st tb2 (I2.hok.fresh lp')⟩;refine⟨?_,_,c,Jt us,hc⟩;rw[aa,u1.length_eq,br];omega
end
end L2
namespace L2
section
open PySem PySem.Spec PyProof.Rows
def MB (mg:Str->Option Value)(base:Heap):Prop:=∃bm ob,mg "__builtins__"=some (.ref bm)/\bm≠builtinsNs/\bm≠mainGlobals/\base.get? bm=some ob/\ob.cls=.type "module"/\ob.dict=some builtinsNs/\ob.data=.plain
def QL (Ts:List Addr)(H:Hp):Prop:=(∀P∈Ts,H P=some (.tbl #[]))/\∀b,H b=none\/(∃o xs,H b=some (.frz o (.lst xs)))\/(b∈Ts/\H b=some (.tbl #[]))
def C7 (own:Hp)(Ts:List Addr):Hp:=λb=>if b∈Ts then some (.tbl #[]) else own b
theorem OH {P:Program} {w:World} {K:PySem.W.Frag} {mg mb:Str->Option Value} {CX:Pb} {k:Nat} {fa a:Addr} {fd:FuncData} {x:Str} {sp:Sp} {s₁:Shared} {vs:List Value} {ns:List Int} {Ts:List Addr}
  (KX:K.In s₁.heap) (hns:s₁.heap.Ns mainGlobals mg) (hb:s₁.heap.Ns builtinsNs mb) (hbb:∀x:Str,x≠"__name__"->mb x=bootBuiltins x) (hlim:s₁.heap.NoLimit) (hbm:MB mg s₁.heap) (hg:s₁.gens = #[])
  (tabs:∀T∈Ts,s₁.heap.get? T=some (PySem.W.tabObj #[])/\K.lookup T=none/\∃c,PySem.W.codeHdIn K c T=true)
  (ha:s₁.heap.get? a=some { cls:=.type "list",data:=.seq vs.toArray }) (hi:IntsAre vs ns) (hl:ns.length<=sizeLine) (hr:Room k callerA)
  (F:∀base:Heap,K.In base->base.Ns mainGlobals mg->MB mg base->FnOk P w K mg base CX k fa fd [x] sp) (hbind:∀(s:Shared) (u:Value),BindsTo s fd ⟨[u],[]⟩ [(x,u)])
  (hsp:∀H:Hp,QL Ts H->AB K H a (ns.map V.int)->sp [.ref a] H (λv _=>v=.bl true) λ_ _ _=>False)
  (hCX:∀H e s',CX [] H s₁ (λ_ _ _=>False) e s'->False) :
  codeAny (model P w) callerA (.call (.ref fa) ⟨[.ref a],[]⟩) (λr s'=>r=.ok (.ret (.bool true))/\OldK s₁.heap s'.heap/\s'.os=s₁.os/\AllBare s'.gens) s₁:=by
 have aT:a∉Ts:=λz=>by
  have:=(tabs a z).1;rw[ha] at this;cases this
 have core:∀own:Hp,(∀b,own b=none\/∃o xs,own b=some (.frz o (.lst xs)))->AB K own a (ns.map V.int)->Gw P w own s₁.heap->(∀b,own b≠none->b=a)->(own a≠none->K.lookup a=none)->
   codeAny (model P w) callerA (.call (.ref fa) ⟨[.ref a],[]⟩) (λr s'=>r=.ok (.ret (.bool true))/\OldK s₁.heap s'.heap/\s'.os=s₁.os/\AllBare s'.gens) s₁:=by
  intro own hO hS hok hA hK;have inT:∀{b},b∈Ts->C7 own Ts b=some (.tbl #[]):=λ{b} h=>aE h
  have notT:∀{b},b∉Ts->C7 own Ts b=own b:=λ{b} h=>aH h
  have only:QL Ts (C7 own Ts):=⟨λT hT=>inT hT,λb=>by
   by_cases z:b∈Ts
   ·exact .inr (.inr ⟨z,inT z⟩)
   ·rw[notT z];exact(hO b).imp id .inl⟩
  have hok':Gw P w (C7 own Ts) s₁.heap:=λb u e=>by
   by_cases z:b∈Ts
   ·rw[inT z] at e;cases e;exact(tabs b z).1
   ·rw[notT z] at e;rcases hO b with q|⟨o,xs,q⟩
    ·rw[q] at e;cases e
    ·rw[q] at e;cases e;obtain⟨e1,e2⟩:=hok b _ q;exact⟨e1,e2⟩
  have free:∀{b:Addr} {o:Obj},s₁.heap.get? b=some o->o.cls≠.none->b≠a->C7 own Ts b=none:=λ{b o} e hc na=>by
   have z:b∉Ts:=λz=>by
    have:=(tabs b z).1;rw[e] at this;cases this;exact hc rfl
   rw[notT z];cases q:own b with
   |none=>rfl
   |some u=>exact absurd (hA b (by rw[q];simp)) na
  have freeN:∀{b:Addr} {o:Obj} {es:Array DictEntry} {ep:Nat},s₁.heap.get? b=some o->o.data=.dict es ep->C7 own Ts b=none:=λ{b o es ep} e d=>by
   have z:b∉Ts:=λz=>by
    have:=(tabs b z).1;rw[e] at this;cases this;cases d
   rw[notT z];cases q:own b with
   |none=>rfl
   |some u=>
    have:=hA b (by rw[q];simp);subst this;rw[ha] at e;cases e;cases d
  have nsK:∀{b:Addr} {m:Str->Option Value},s₁.heap.Ns b m->(KM s₁.heap (C7 own Ts)).Ns b m:=λ{b m} ⟨o,es,ep,e,d,r⟩=>⟨o,es,ep,Jc e (freeN e d),d,r⟩
  have hKb:K.In (KM s₁.heap (C7 own Ts)):=λb o e=>Jc (KX b o e) (by
   have z:b∉Ts:=λz=>by rw[(tabs b z).2.1] at e;cases e
   rw[notT z];cases q:own b with
   |none=>rfl
   |some u=>
    have e':b=a:=hA b (by rw[q];simp);subst e';rw[hK (by rw[q];simp)] at e;cases e)
  have hM:Mod K mg (KM s₁.heap (C7 own Ts)):=⟨hKb,nsK hns,⟨mb,nsK hb,hbb⟩,let⟨mc,h1,h2⟩:=hlim;⟨mc,nsK h1,h2⟩⟩
  have hB:MB mg (KM s₁.heap (C7 own Ts)):=by
   obtain⟨bm,ob,b1,b2,b3,b4,b5,b6⟩:=hbm;refine⟨bm,ob,b1,b2,b3,Jc b4 (free b4 (by rw[b5];intro z;cases z) λz=>?_),b5,b6⟩;rw[z,ha] at b4;cases b4;exact absurd b5 (by intro y;injection y with y;exact absurd y (by decide))
  have e0:Env0 P w K mg (KM s₁.heap (C7 own Ts)) callerA [] s₁ (C7 own Ts):=⟨rfl,hM,λb o e=>R1 e,cO (O7 _ _),trivial,λb hb=>absurd (show b∈([]:List Addr) from hb) (by simp),hok',.of_eq hg⟩
  have hS':AB K (C7 own Ts) a (ns.map V.int):=by
   rcases hS with(h|⟨o,h⟩)|h
   ·exact .inl (.inl (by rw[notT aT];exact h))
   ·exact .inl (.inr ⟨o,by rw[notT aT];exact h⟩)
   ·exact .inr h
  refine eK ((F _ hKb (nsK hns) hB).run callerA [] s₁ (C7 own Ts) ⟨[.ref a],[]⟩ [.ref a] [.ref a] _ _ hr e0 (hbind s₁ (.ref a)) (.cons rfl .nil) (hsp _ only hS')) λr s' h=>?_
  match r,h with
  | .error e,h=>exact(hCX _ e s' h).elim
  | .ok (.ret u),h=>
   obtain⟨v,H',os,bare,un,hok2,r',q⟩:=h;have q':v=.bl true:=q;subst q';obtain rfl:u=Value.bool true:=r';refine⟨rfl,⟨λb o e=>?_,λb o e=>?_⟩,os,bare⟩
   ·rcases only.2 b with z|⟨ob,xs,z⟩|⟨zT,z⟩
    ·exact .inl (un.keep b o e z (by intro y;exact absurd (show b∈([]:List Addr) from y) (by simp)) (by simp))
    ·obtain⟨e1,_⟩:=hok' b _ z;obtain⟨e2,_⟩:=hok2 b _ (un.frzs b ob _ z);rw[e] at e1;cases e1;exact .inl e2
    ·obtain⟨t1,_,c,t3⟩:=tabs b zT;obtain⟨more,m1⟩:=un.tbls b _ z;have m2:s'.heap.get? b=some { cls:=.none,data:=.fields (#[]++more) }:=hok2 b _ m1;rw[e] at t1;cases t1;exact .inr (.inl ⟨((gC KX t3).tab e).isCodeTable,rfl,#[],more,rfl,m2⟩)
   ·exact un.there b o e (by simp)
 cases hk:K.lookup a with
 |some o=>
  have e:=KX a o hk;rw[ha] at e;cases e;refine core (λ_=>none) (λ_=>.inl rfl) (.inr ⟨_,vs.toArray,_,hk,rfl,rfl,rfl,by rw[aF,hi.length];exact hl,by simpa using Hs hi⟩) (λb u z=>by cases(show(none:Option HO)=some u from z)) (λb z=>absurd rfl z) λz=>absurd rfl z
 |none=>
  refine core (λb=>if b=a then some (.frz { cls:=.type "list",data:=.seq vs.toArray } (.lst (ns.map V.int))) else none) (λb=>?_) (.inl (.inr ⟨{ cls:=.type "list",data:=.seq vs.toArray },aE rfl⟩)) (λb u z=>?_) (λb z=>?_) λ_=>hk
  ·by_cases hb:b=a
   ·exact .inr ⟨_,_,aE hb⟩
   ·exact .inl (aH hb)
  ·by_cases hb:b=a
   ·cases(aE hb).symm.trans z;subst hb;exact⟨ha,by rw[aa];exact hl,vs,_,Hs hi,ha⟩
   ·cases(aH hb).symm.trans z
  ·by_cases hb:b=a
   ·exact hb
   ·exact absurd (aH hb) z
theorem Pm {l:PySem.W.OpenLaw} {n k:Nat} {q:Program} {loose:List Str} {XP:(Str->Option Value)->Heap->Prop} {YP:World->Heap->Prop} {d:DefRec} {K:Params->PySem.W.Frag} {CX:World->Pb} {sp:World->Sp} {x:Str} {Ts:List Addr}
  (hn:l.most=some n) (hn2:n<=sizeLine) (hdf:d.params.defaults=[]) (hr:Room k callerA)
  (hY:∀(w:World) (h:Heap),YP w h->(K w.params).In h) (hT:∀(w:World) (h:Heap),YP w h->∀T∈Ts,h.get? T=some (PySem.W.tabObj #[]))
  (F:∀(w:World) (mg:Str->Option Value) (fa:Addr) (h:Heap),(K w.params).In h->h.Ns mainGlobals mg->mg d.name=some (.ref fa)->
   ∃fd:FuncData,(∀(s:Shared) (u:Value),BindsTo s fd ⟨[u],[]⟩ [(x,u)])/\(∀T∈Ts,(K w.params).lookup T=none/\∃c,PySem.W.codeHdIn (K w.params) c T=true)/\
    ∀base:Heap,(K w.params).In base->base.Ns mainGlobals mg->MB mg base->FnOk l.prog w (K w.params) mg base (CX w) k fa fd [x] (sp w))
  (hsp:∀(w:World) (H:Hp) (a:Addr) (ns:List Int),ns.length<=n->QL Ts H->AB (K w.params) H a (ns.map V.int)->sp w [.ref a] H (λv _=>v=.bl true) λ_ _ _=>False)
  (hCX:∀(w:World) (H:Hp) (s:Shared) (e:Value) (s':Shared),CX w [] H s (λ_ _ _=>False) e s'->False) :
  PySem.W.WalkO q loose XP YP l.row.toRowW d [] (λf vs=>PySem.call f vs):=by
 refine Att.Ls hn hdf λw s₀ s₁ mg mb fa o pm cd doc a vs ns G Y ho hd hcd hmg hobj hints hlen hg=>?_
 have KX:=hY w _ Y;obtain⟨fd,hb,ht,hF⟩:=F w mg fa _ KX G.T.g hmg;have bm:MB mg s₁.heap:=by
  obtain⟨bm,ob,b1,b2,b3,b4,b5,b6⟩:=G.T.bmain;refine⟨bm,ob,b1,b2,λz=>?_,b3,b4,b5,b6⟩;obtain⟨o,es,ep,e,hd,_⟩:=G.T.g;rw[z,e] at b3;cases b3;rw[hd] at b6;cases b6
 exact OH KX G.T.g G.T.b G.T.builtins G.T.nolimit bm hg (λT h=>⟨hT w _ Y T h,ht T h⟩) hobj hints (bq hlen hn2) hr hF hb (λH hO hS=>hsp w H a ns hlen hO hS) λH e s'=>hCX w H s₁ e s'
theorem Fun.okC {P:Program} {w:World} {K:PySem.W.Frag} {mg:Str->Option Value} {base:Heap} {x qual:Str} {st:Stmt} {f:Addr} {fd:FuncData} {N ps:List Str} {k:Nat} {sp:Sp} (F:Fun K x qual st f fd) (S:FnScope N ps (Aj st)) (len:∀vs H Q E,sp vs H Q E->vs.length=ps.length)
  (hbody:∀(cdv:Value) (A:Around) (outer:List Env) (s:Shared) (H:Hp) (vs:List V) (Q:VK) (E:XK),fd.code=cdv->Room k (A.deeper (PyProof.Rows.envOfC qual (Aj st) s.heap.objs.size f cdv))->sp vs H Q E->
   ∃t,Lr (Bw CZ P w K mg base N qual (Aj st) f cdv A outer s H E).nox (Ar st) t/\t { nx:=λ_ H'=>Q .non H',rt:=Q } (start N vs) H):FnOk P w K mg base CZ (k+1) f fd ps sp:=by
 obtain⟨oc,od,kV,doc,pm,an,cdv,ct,osl,rfl,lk,hcd⟩:=F.ex;refine SF lk hcd S len λA outer s H vs Q E hr hsp=>?_
 obtain⟨t,h,q⟩:=hbody cdv A outer s H vs Q E rfl hr hsp;exact⟨t,h.nox,q⟩
end
end L2
namespace L2
end L2
namespace L2
section
open PySem
variable {α:Type}
theorem Gq {J:It} {ps:List α} {g:α->V} {fr:List (Option Nat)} {k:Nat} {tt:TT} {te:TE} {Q:VK} {σ:St} {H:Hp} (p:α->Bool) (P:α->V->Hp->Prop) (hP:∀x y H1 H2,P x y H1->An H1 H2->P x y H2)
  (hU:∀x y H1 l us us',P x y H1->H1 l=some (.lst us)->P x y (upd H1 l (.lst us'))) (hJ:HB J H (ps.map g)) (hn:ps.length<=1000000)
  (htest:∀x∈ps,∀(H':Hp) (R:Bool->Hp->Prop),An H H'->(∀H'',An H' H''->R (p x) H'')->tt ((stC fr σ).set k (some (g x))) H' R)
  (helt:∀x∈ps,p x=true->∀(H':Hp) (R:VK),An H H'->(∀y H'',An H' H''->P x y H''->R y H'')->te ((stC fr σ).set k (some (g x))) H' R)
  (hQ:∀l H' (ys:List (α×V)),H l=none->An H H'->H' l=some (.lst (ys.map (·.2)))->ys.map (·.1)=ps.filter p->(∀q∈ys,P q.1 q.2 H')->Q (.ref l) H'):DW fr (Az k) tt te σ Q J H:=by
 intro l hl;refine⟨λi m σ' H'=>m=ps.length-i/\i<=ps.length/\(∀y,σ'.set k y=(stC fr σ).set k y)/\An H H'/\∃ys:List (α×V),H' l=some (.lst (ys.map (·.2)))/\ys.map (·.1)=(ps.take i).filter p/\∀q∈ys,P q.1 q.2 H',
  ⟨ps.length,by simp,bw _,λ_=>rfl,Ai hl _,[],by rw[Ac];rfl,rfl,λ_ h=>nomatch h⟩,?_⟩
 rintro i m σ' H' ⟨rfl,hi,hσ,hs,ys,hl',e1,hys⟩
 obtain⟨h1,h2,h3⟩:=hJ H' hs i;rw[aa] at h1 h2 h3
 by_cases hlt:i<ps.length
 ·refine .inr ⟨h1 hlt,λx H'' y=>?_⟩;obtain⟨rfl,hx⟩:=h2 x H'' y;have hx:=hx hlt;rw[aB,ae hlt] at hx;cases hx;have hm:ps[i]∈ps:=bG hlt;have et:(ps.take (i+1)).filter p=(ps.take i).filter p++(if p ps[i]=true then[ps[i]] else[]):=by
   rw[aR,ae hlt,cU];cases q:p ps[i]<;>simp[q]
  have le:ys.length<=i:=by
   have a:=congrArg List.length e1;have b:=bE p (ps.take i);rw[aa] at a;rw[aP] at b;omega
  show tt (σ'.set k (some (g ps[i]))) H'' _;rw[hσ];refine htest _ hm H'' _ hs λH0 s0=>?_
  have hs0:=hs.trans s0;refine D0 (λc=>?_) (λc=>?_)
  ·refine helt _ hm c H0 _ hs0 λv H4 s4' hv=>?_
   have s4:=s0.trans s4';have hl4:=s4.get hl';refine⟨_,hl4,AO (by rw[aa];omega),ps.length-(i+1),by omega,rfl,hlt,λy=>by rw[d4],AI (hs.trans s4) hl _,ys++[(ps[i],v)],?_,?_,λq hq=>?_⟩
   ·rw[Ac,aj];rfl
   ·rw[et,aE c,aj,e1];rfl
   ·rcases au.mp hq with h|h
    ·exact hU _ _ _ _ _ _ (hP _ _ _ _ (hys q h) s4) hl4
    ·rw[ai.mp h];exact hU _ _ _ _ _ _ hv hl4
  ·exact⟨ps.length-(i+1),by omega,rfl,hlt,λy=>by rw[d4],hs0,ys,s0.get hl',by rw[et,aH c,bZ];exact e1,λq hq=>hP _ _ _ _ (hys q hq) s0⟩
 ·have e:i=ps.length:=by omega
  subst e;exact .inl ⟨h3 (ak _),hQ l H' ys hl hs hl' (by rw[e1,ba (ak _)]) hys⟩
theorem Rx {ys:List (α×V)}{f:α->V}(h:∀q∈ys,q.2=f q.1):ys.map (·.2)=(ys.map (·.1)).map f:=by
 rw[ar];exact bK λq hq=>h q hq
theorem Os {J:It} {ps:List α} {g:α->V} {fr:List (Option Nat)} {k:Nat} {tt:TT} {te:TE} {Q:VK} {σ:St} {H:Hp} (p:α->Bool) (f:α->V) (hJ:HB J H (ps.map g)) (hn:ps.length<=1000000)
  (htest:∀x∈ps,∀(H':Hp) (R:Bool->Hp->Prop),An H H'->(∀H'',An H' H''->R (p x) H'')->tt ((stC fr σ).set k (some (g x))) H' R)
  (helt:∀x∈ps,p x=true->∀(H':Hp) (R:VK),An H H'->(∀H'',An H' H''->R (f x) H'')->te ((stC fr σ).set k (some (g x))) H' R)
  (hQ:∀l H',H l=none->An H H'->H' l=some (.lst ((ps.filter p).map f))->Q (.ref l) H'):DW fr (Az k) tt te σ Q J H:=by
 refine Gq p (λx y _=>y=f x) (λ_ _ _ _ h _=>h) (λ_ _ _ _ _ _ h _=>h) hJ hn htest (λx hx hp H' R s' hR=>helt x hx hp H' R s' λH'' s''=>hR _ H'' s'' rfl) λl H' ys nl s' h' e hq=>hQ l H' nl s' ?_
 rw[<-e,<-Rx hq];exact h'
theorem BW {J:It} {ps:List α} {g:α->V} {fr:List (Option Nat)} {k:Nat} {tt:TT} {te:TE} {Q:VK} {σ:St} {H:Hp} (p:α->Bool) (f:α->V) (hJ:HB J H (ps.map g)) (hn:ps.length<=1000000)
  (htest:∀x∈ps,∀(H':Hp) (R:Bool->Hp->Prop),An H H'->R (p x) H'->tt ((stC fr σ).set k (some (g x))) H' R)
  (helt:∀x∈ps,p x=true->∀(H':Hp) (R:VK),An H H'->(∀H'',An H' H''->R (f x) H'')->te ((stC fr σ).set k (some (g x))) H' R)
  (hQ:∀l H',H l=none->An H H'->H' l=some (.lst ((ps.filter p).map f))->Q (.ref l) H'):DW fr (Az k) tt te σ Q J H:=
 Os p f hJ hn (λx hx H' R s' hR=>htest x hx H' R s' (hR H' (An.refl _))) helt hQ
end
end L2
namespace L2
section
open PySem
variable {X:Cx}{K:PySem.W.Frag}
theorem Jl (h:X.K=K):Fu X (compareOp .In) (Vd K false):=by subst h;exact Oo
theorem Gx (h:X.K=K):Fu X (compareOp .NotIn) (Vd K true):=by subst h;exact KS
end
end L2
namespace L2
end L2
namespace L2
end L2
namespace L2
end L2
namespace L2
end L2
namespace L2
end L2
namespace L2
end L2
namespace L2
section
open PySem PySem.Calls PyProof.Rows PySem.Spec
def Ue (K:PySem.W.Frag):List V->Hp->VK->Prop:=λxs H Q=>∃(a:Addr) (ps:List Addr) (kvs:List (Key×V)),xs=[.ref a]/\AB K H a (ps.map V.ref)/\ps.length=kvs.length/\kvs.length<=100000/\(kvs.map (·.1)).Nodup/\
 (∀(i:Nat) t k v,ps[i]?=some t->kvs[i]?=some (k,v)->H t=some (.tup [kV k,v]))/\∀d,H d=none->Q (.ref d) (upd H d (.dK kvs))
abbrev VB (p:Key×V)(q:Key×Value×Value):Prop:=p.1=q.1/\RelV (kV p.1) q.2.1/\RelV p.2 q.2.2
theorem Kj {X:Cx}{pins:List (Addr×Obj)}{σ:St}{H:Hp}{s:Shared}(I:Inv X pins σ H s):∀(ps:List Addr) (kvs:List (Key×V)),ps.length=kvs.length->(∀(i:Nat) t k v,ps[i]?=some t->kvs[i]?=some (k,v)->H t=some (.tup [kV k,v]))->
  ∃xs:List (Key×Value×Value),Paired VB kvs xs/\∀(i:Nat) t,ps[i]?=some t->∃q,xs[i]?=some q/\IsTup s.heap t #[q.2.1,q.2.2]
 |[],[],_,_=>⟨[],.nil,λi t h=>by simp at h⟩
 |[],_::_,h,_=>by cases h
 |_::_,[],h,_=>by cases h
 |t::ps,(k,v)::kvs,ln,hp=>by
  obtain⟨xs,r,a⟩:=Kj I ps kvs (by simpa using ln) λi t k v e1 e2=>hp (i+1) t k v (by simpa using e1) (by simpa using e2)
  obtain⟨_,its,rv,it⟩:=(show A4 X.prog X.w H s.heap t (.tup [kV k,v]) from I.hok t _ (hp 0 t k v rfl rfl))
  cases rv with
  |@cons _ wk _ _ ra rb=>
   cases rb with
   |@cons _ wv _ _ rb rc=>
    cases rc;refine⟨(k,wk,wv)::xs,.cons ⟨rfl,ra,rb⟩ r,λi t' e=>?_⟩;cases i with
    |zero=>simp only[List.getElem?_cons_zero,Option.some.injEq] at e;subst e;exact⟨_,rfl,it.is⟩
    |succ i=>exact a i t' (by simpa using e)
theorem Ux {kvs:List (Key×V)}{xs:List (Key×Value×Value)}(h:Paired VB kvs xs):KV kvs (xs.map λq=>(q.1,q.2.2)):=by
 induction h with
 |nil=>exact .nil
 |cons r _ ih=>exact .cons ⟨r.1,r.2.2⟩ ih
theorem R3 {kvs:List (Key×V)}{xs:List (Key×Value×Value)}(h:Paired VB kvs xs):xs.map (·.1)=kvs.map (·.1):=by
 induction h with
 |nil=>rfl
 |cons r _ ih=>rw[aq,aq,ih,r.1]
theorem Ng {X:Cx}{K:PySem.W.Frag}(hK:X.K=K)(hc:X.calm=true):Dw X (.type "dict") (Ue K):=by
 subst hK;intro pins s σ H xs us Q I r h;obtain⟨a,ps,kvs,rfl,h1,ln,hz,nd,hp,q⟩:=h;obtain⟨u,rfl,ru⟩:=vals1 r;cases ru;obtain⟨its,r1,⟨o1,n1,e1,c1,d1,s1⟩,_⟩:=I.list h1;obtain⟨xs,rx,tx⟩:=Kj I ps kvs ln hp;have lx:xs.length=kvs.length:=(cX rx).symm;have ndx:(xs.map (·.1)).Nodup:=by rw[R3 rx];exact nd
 have li:its.length=ps.length:=by have:=r1.length;rw[aa] at this;exact this.symm
 obtain⟨c,dd,da,sl⟩:=o1;simp only at c1 d1 s1;subst c1 d1 s1;refine Oq (A:=X.A) (I.ok.hd hc) ⟨n1,_,e1⟩ (D:=λi h=>h.DictOf (AK X.prog X.w) s.heap.objs.size ((xs.take i).map λq:Key×Value×Value=>(q.1,q.2.2))) (λi h h' ⟨o,es,ep,z1,z2⟩ k=>⟨o,es,ep,k o z1,z2⟩) (λh e=>?_) (λi v e=>?_) λh' tk k' z=>?_
 ·obtain⟨o,es,ep,z1,z2⟩:=(Heap.DictOf.new (knd:=AK X.prog X.w) s.heap)
  have e2:(s.heap.push { cls:=.type "dict",data:=.dict #[] }).get? s.heap.objs.size=some { cls:=.type "dict",data:=.dict #[] }:=aG _ rfl;rw[e2] at z1;cases z1;exact⟨_,es,ep,e,z2⟩
 ·obtain⟨t,et,rfl⟩:=NK r1 i v e;obtain⟨⟨k,wk,wv⟩,eq,ht⟩:=tx i t et;refine⟨t,wk,wv,rfl,ht,λs2 Q2 E2 old hm hQ=>?_⟩;have rk:RelV (kV k) wk:=by
   obtain⟨p,_,e1,e2,_⟩:=JK rx (az eq);rw[e1] at e2;exact e2
  have ts:xs.take (i+1)=xs.take i++[(k,wk,wv)]:=by rw[aR,eq];rfl
  have no:valueAt ((xs.take i).map λq:Key×Value×Value=>(q.1,q.2.2)) k=none:=by
   unfold valueAt;rw[cY,cT];intro x hx z;have e:=aQ z;obtain⟨y,hy,rfl⟩:=ah.mp hx;have:=ndx.sublist ((cI (i+1) xs).map _);rw[ts,aj,bB] at this;exact this.2.2 _ (ah.mpr ⟨y,hy,rfl⟩) k (by simp) e
  refine wpAny_dictSet_pairs (hsz:=?_) (k:=k) (Ie rk) hm λh' hm' sb=>hQ _ _ ?_ sb
  ·rw[stored_absent no] at hm';rw[ts,aj];exact hm'
  ·rw[aa,aP,br];omega
 ·have hb:=I.big;rw[li,ln,<-lx,cb] at z;refine⟨.ref s.heap.objs.size,_,I.laid (o:=.dK kvs) k' (ak _) (K8 (by rw[br];omega) ?_ (Ux rx) z),rfl,q _ I.fresh⟩;rw[cm];exact cF hb
end
end L2
namespace L2
end L2
namespace L2
open PySem
end L2
namespace L2
end L2
namespace L2
end L2
namespace L2
end L2
namespace L2
end L2
namespace L2
end L2
namespace L2
end L2
namespace L2
end L2
namespace L2
end L2
namespace L2
open PySem PySem.Spec PyProof.Rows
end L2
namespace L2
end L2
namespace L2
noncomputable instance trDec:DecidableEq Tr:=λa b=>Classical.propDecidable (a=b)
end L2
namespace L2
end L2
namespace L2
section
open PySem PySem.Spec PyProof.Rows PySem.Calls
variable {X:Cx}
theorem Lx (ns:List Int):∀k,k<ns.length->argBest (λi j=>decide (ns.getD i 0<ns.getD j 0)) k<=k/\∀i,i<=k->ns.getD (argBest (λi j=>decide (ns.getD i 0<ns.getD j 0)) k) 0<=ns.getD i 0
 |0,_=>⟨ak _,λi hi=>by rw[Nat.le_zero.mp hi];exact eI _⟩
 |k+1,h=>by
  obtain⟨h1,h2⟩:=Lx ns k (by omega);show(if decide (_<_)=true then k+1 else _)<=_/\∀i,i<=k+1->ns.getD (if decide (_<_)=true then k+1 else _) 0<=_
  by_cases q:ns.getD (k+1) 0<ns.getD (argBest (λi j=>decide (ns.getD i 0<ns.getD j 0)) k) 0
  ·rw[aE (aI q)];refine⟨ak _,λi hi=>?_⟩
   by_cases e:i=k+1
   ·rw[e];exact eI _
   ·have:=h2 i (by omega);omega
  ·rw[aH (by rw[aZ q];exact ay)];refine⟨by omega,λi hi=>?_⟩
   by_cases e:i=k+1
   ·rw[e];omega
   ·exact h2 i (by omega)
def UB (K:PySem.W.Frag):List V->Hp->VK->Prop:=λxs H Q=>∃(a:Addr) (ns:List Int),xs=[.ref a]/\AB K H a (ns.map V.int)/\ns≠[]/\∀m,m∈ns->(∀x∈ns,m<=x)->Q (.int m) H
theorem Pa {K:PySem.W.Frag}(hK:X.K=K)(hc:X.calm=true):Dw X (.builtin "min") (UB K):=by
 subst hK;intro pins s σ H xs us Q I r h;obtain⟨a,ns,rfl,hq,ne,q⟩:=h;obtain⟨u,rfl,ru⟩:=vals1 r;cases ru;obtain⟨its,rv,p1,hz⟩:=I.list hq;have hi:=intsAre_of rv;have ln:its.length=ns.length:=IntsAre.length hi;have h2:0<ns.length:=bX.mpr ne;have ll:a<s.heap.objs.size:=let⟨_,ho,_⟩:=p1.isList;aD ho;refine call_min_walk (dv p1.isList ?_);refine⟨s.heap.objs.size,_,_,its.toArray.size,(λi v=>its.toArray[i]?=some v),_,(λi j=>decide (ns.getD i 0<ns.getD j 0)),rfl,gm (A:=X.A.in1) (show X.A.in1.handled=none from I.ok.hd hc) s.heap.objs.size a (aN ll) its.toArray,⟨⟨_,aG _ rfl,rfl,rfl⟩,p1.isList.at λo e=>af _ e⟩,λb hb=>?_,by rw[aF];omega,CmpOf.ints_lt (λi=>ns.getD i 0) (λi v e=>FT hi (by simpa using e)),λv h' tk hv k=>?_⟩
 ·rw[bP];rcases aL.mp hb with rfl|hb
  ·exact cN _
  ·rw[ai.mp hb];exact bR ll
 ·obtain⟨t,e⟩:=FT hi (i:=argBest (λi j=>decide (ns.getD i 0<ns.getD j 0)) (ns.length-1)) (v:=v) (by rw[<-ln];simpa using hv);obtain⟨g1,g2⟩:=Lx ns (ns.length-1) (by omega);have gl:argBest (λi j=>decide (ns.getD i 0<ns.getD j 0)) (ns.length-1)<ns.length:=by omega
  refine⟨.int (ns.getD (argBest (λi j=>decide (ns.getD i 0<ns.getD j 0)) (ns.length-1)) 0),H,I.kept (t':=tk) λb o e=>k b o ?_ (af _ e),⟨t,e⟩,q _ ?_ λx hx=>?_⟩
  ·exact λz=>aN (aD e) (ai.mp z)
  ·rw[bN,ae gl];exact bG gl
  ·obtain⟨i,hi2,rfl⟩:=cn hx;have:=g2 i (by omega);rw[bN (i:=i),ae hi2] at this;exact this
end
end L2
namespace L2
end L2
namespace L2
end L2
namespace L2
open PySem
end L2
namespace L2
open PySem PySem.Spec PyProof.Rows
variable {X:Cx}
theorem Mn:∀{vs:List V} {us:List Value},us.length=vs.length->(∀(j:Nat) v u,vs[j]?=some v->us[j]?=some u->RelV v u)->AD vs us
 |[],[],_,_=>.nil
 |[],_::_,h,_=>nomatch h
 |_::_,[],h,_=>nomatch h
 |v::vs,u::us,h,k=>.cons (k 0 v u rfl rfl) (Mn (by simpa using h) λj v' u' e1 e2=>k (j+1) v' u' (by simpa using e1) (by simpa using e2))
def Ug:List V->Hp->VK->Prop:=λxs H Q=>∃(d:Addr) (kvs:List (Key×V)),xs=[.ref d]/\H d=some (.dK kvs)/\kvs.length<=100000/\∀l,H l=none->Q (.ref l) (upd H l (.lst (kvs.map λp=>kV p.1)))
theorem GE (hc:X.calm=true):Dw X (.type "list") Ug:=by
 intro pins s σ H xs us Q I r h;obtain⟨d,kvs,rfl,h1,few,q⟩:=h;obtain⟨u,rfl,ru⟩:=vals1 r;cases ru;obtain⟨_,lo,vs,rv,o,es,ep,ho,h2,h3,h4⟩:A4 X.prog X.w H s.heap d (.dK kvs):=I.hok d _ h1;have D:s.heap.DictAt (AK X.prog X.w) d vs ep:=⟨o,es,ho,h2,h3,h4⟩
 have ln:vs.length=kvs.length:=rv.length.symm;refine PySem.W.kdl_call (fe (knd:=AK X.prog X.w) (kvs:=vs) (ep:=ep) lo) (I.ok.hd hc) D (by rw[ln,br];omega) λh' tk acc c' hk e' hacc=>?_
 refine⟨.ref s.heap.objs.size,_,I.laid hk (ak _) (show A4 X.prog X.w _ h' _ (.lst (kvs.map λp=>kV p.1)) from⟨?_,acc.toList,c',Mn ?_ λj v u e1 e2=>?_,by simpa using e'⟩),rfl,q _ I.fresh⟩
 ·rw[aa,br];omega
 ·rw[aa,bY,hacc.1,ln]
 ·obtain⟨ky,x,a1,a2⟩:=hacc.2 j u (by rw[<-cx];exact e2);have e3:(kvs.map (·.1))[j]?=some ky:=by rw[<-IJ rv,aB,a1];rfl
  rw[aB] at e1 e3;cases z:kvs[j]? with
  |none=>rw[z] at e3;cases e3
  |some y=>
   rw[z] at e1 e3;injection e3 with e3
   injection e1 with e1
   have e3:y.1=ky:=e3;rw[<-e1];show RelV (kV y.1) u;rw[e3];exact G1 a2
end L2
namespace M06
end M06
set_option maxHeartbeats 4000000
namespace K56
local macro_rules | `(!$x) => do
  let (f, a) ← match x with | `($f:ident $a*) => pure (f, a) | `($f:ident) => pure (f, #[]) | _ => Lean.Macro.throwUnsupported
  let some (n, m, t) := ([([`Ah, `AX, `A6, `Ed, `Hk], 1, 0, ""), ([`G6, `Cc], 2, 0, ""), ([`Al, `FD, `Qv, `RU, `Rc, `GW, `B2], 3, 0, ""), ([`SV, `Av, `GK, `Jx, `Hn, `Jg, `Ad, `A5, `BZ, `C0, `GN, `EX], 4, 0, ""), ([`Bc], 4, 2, "r"), ([`JF, `Bi], 4, 3, "d"), ([`J8], 4, 5, "dd"), ([`Nd, `Ag, `Nb, `RQ, `Bq, `Kl, `OQ], 5, 0, ""), ([`BE], 5, 2, "f"), ([`Ab, `AZ], 5, 3, "r"), ([`Cm, `Hz, `Jm, `Ur], 6, 0, ""), ([`Bg], 6, 4, "r"), ([`JA], 6, 4, "rr"), ([`PM], 6, 5, "rrr"), ([`Nf, `L8, `Am, `FI, `TM], 7, 0, ""), ([`BQ, `Ao, `BJ, `Mr, `Rl], 8, 0, ""), ([`Cv], 8, 3, "f"), ([`Gp, `AC], 8, 4, "f"), ([`Sl], 8, 6, "rr"), ([`Po, `PH], 9, 0, ""), ([`Ec], 9, 5, "f"), ([`Qe], 9, 7, "rr"), ([`AA, `Bb], 9, 9, "ddrr"), ([`Km, `FH], 10, 0, ""), ([`AU], 10, 7, "drr"), ([`Ob], 11, 5, "tr"), ([`Nn], 11, 7, "drr"), ([`Qn, `Mt], 12, 0, ""), ([`CA], 12, 11, "rrrrr"), ([`To], 13, 7, "d"), ([`DD], 14, 8, "rrr")] : List (List Lean.Name × Nat × Nat × String)).findSome? (λ(l, n) => if l.contains f.getId then some n else none) | Lean.Macro.throwUnsupported
  let u ← `(_)
  let us := Array.replicate n u
  let mut p := #[]
  for c in t.toList.drop (t.length + a.size - m) do
    let v ← if c == 'r' then `(by rfl) else if c == 'd' then `(by decide) else if c == 'f' then `(rfl) else `(by trivial)
    p := p.push v
  `(@$f $us* $a* $p*)
set_option hygiene false
local macro_rules | `(tactic| exists $t) => `(tactic| refine F.ok $t (fun vs H Q E h => ?_) (fun cdv A outer s H vs Q E hr h => ?_))
set_option hygiene true
local macro_rules | `(tactic| trivial) => `(tactic| first | exact .inl rfl | exact .inr rfl | assumption | exact ⟨rfl, rfl, rfl, by decide +kernel, rfl, by decide +kernel, by decide +kernel⟩ | exact L2.Room.mono (by assumption) (by decide))
open PySem L2 M06
theorem Fv : 0 <= sizeLine := small (by decide)
theorem Pr : 1 <= sizeLine := small (by decide)
theorem GR : 2 <= sizeLine := small (by decide)
theorem Iv : 3 <= sizeLine := small (by decide)
theorem Ua : 5 <= sizeLine := small (by decide)
def top (i:Nat):Stmt:=PySem.Challenge.pw_stemshelf_k56_holders.main.body.getD i (.Pass ⟨0,0,0,0⟩)
abbrev Dm:Stmt:=top 2
theorem Mc:FnScope ["thing"] ["thing"] (Aj Dm):=by trivial
abbrev Ck:Stmt:=top 3
theorem JN:FnScope ["thing","least","most"] ["thing","least","most"] (Aj Ck):=by trivial
abbrev CL:Stmt:=top 7
theorem Ll:FnScope ["sign"] ["sign"] (Aj CL):=by trivial
abbrev DR:Stmt:=top 9
theorem ME:FnScope ["thing","least","most"] ["thing","least","most"] (Aj DR):=by trivial
abbrev L4:Stmt:=inClass (top 15) 0
theorem R0:FnScope ["self","number"] ["self","number"] (Aj L4):=by trivial
abbrev B8:Stmt:=top 24
theorem Ef:FnScope ["thing","words","part"] ["thing"] (Aj B8):=by trivial
abbrev Ew:Stmt:=inClass (top 26) 1
theorem JZ:FnScope ["self"] ["self"] (Aj Ew):=by trivial
abbrev DQ:Stmt:=top 44
theorem Nz:FnScope ["thing"] ["thing"] (Aj DQ):=by trivial
abbrev EG:Stmt:=top 50
theorem Gn:FnScope ["block","total","number"] ["block"] (Aj EG):=by trivial
abbrev BF:Stmt:=top 51
theorem BS:FnScope ["block","told","name","kind","tag"] ["block"] (Aj BF):=by trivial
abbrev DP:Stmt:=top 52
theorem Ny:FnScope ["block"] ["block"] (Aj DP):=by trivial
abbrev DS:Stmt:=top 53
theorem NF:FnScope ["block"] ["block"] (Aj DS):=by trivial
abbrev Df:Stmt:=top 65
theorem LR:FnScope ["head"] ["head"] (Aj Df):=by trivial
abbrev Di:Stmt:=top 66
theorem Ir:FnScope ["head","stem","seals"] ["head","stem"] (Aj Di):=by trivial
abbrev CK:Stmt:=top 67
theorem EV:FnScope ["head","keeper","tags","stem"] ["head","keeper"] (Aj CK):=by trivial
abbrev Cp:Stmt:=top 69
theorem CB:FnScope ["pool","head","holders","keeper","bound","number"] ["pool","head"] (Aj Cp):=by trivial
abbrev DT:Stmt:=top 70
theorem E9:FnScope ["pool","tags","found","waiting","number"] ["pool","tags"] (Aj DT):=by trivial
abbrev BV:Stmt:=inClass (top 74) 0
theorem JC:FnScope ["self","many"] ["self","many"] (Aj BV):=by trivial
abbrev Bm:Stmt:=inClass (top 76) 0
theorem GY:FnScope ["self","own_tag","block"] ["self","own_tag","block"] (Aj Bm):=by trivial
abbrev CJ:Stmt:=inClass (top 77) 0
theorem KG:FnScope ["self","boards"] ["self","boards"] (Aj CJ):=by trivial
abbrev Dd:Stmt:=inClass (top 77) 1
theorem Gd:FnScope ["self","block","birth","found","tag"] ["self","block","birth"] (Aj Dd):=by trivial
abbrev Cs:Stmt:=inClass (top 77) 2
theorem Dq:FnScope ["self","block","unread","number","found"] ["self","block"] (Aj Cs):=by trivial
abbrev Ba:Stmt:=inClass (top 77) 3
theorem Gs:FnScope ["self"] ["self"] (Aj Ba):=by trivial
abbrev CM:Stmt:=inClass (top 77) 4
theorem DJ:FnScope ["self","tag","block","cell","same_sum","named"] ["self","tag","block"] (Aj CM):=by trivial
abbrev Bf:Stmt:=inClass (top 77) 5
theorem GD:FnScope ["self","folder"] ["self","folder"] (Aj Bf):=by trivial
abbrev Bv:Stmt:=inClass (top 77) 6
theorem EB:FnScope ["self","folder","steps"] ["self","folder"] (Aj Bv):=by trivial
abbrev Co:Stmt:=inClass (top 77) 7
theorem JQ:FnScope ["self","tag"] ["self","tag"] (Aj Co):=by trivial
abbrev CQ:Stmt:=inClass (top 77) 8
theorem G8:FnScope ["self","tag","cell"] ["self","tag"] (Aj CQ):=by trivial
abbrev BO:Stmt:=inClass (top 77) 13
theorem Iy:FnScope ["self"] ["self"] (Aj BO):=by trivial
abbrev Dg:Stmt:=inClass (top 77) 14
theorem Mb:FnScope ["self","number"] ["self","number"] (Aj Dg):=by trivial
abbrev CU:Stmt:=inClass (top 77) 17
theorem K1:FnScope ["self","number"] ["self","number"] (Aj CU):=by trivial
abbrev BK:Stmt:=inClass (top 77) 18
theorem IE:FnScope ["self","number"] ["self","number"] (Aj BK):=by trivial
abbrev CW:Stmt:=inClass (top 77) 19
theorem Lf:FnScope ["self","number"] ["self","number"] (Aj CW):=by trivial
abbrev BH:Stmt:=top 79
theorem Iz:FnScope ["_law_script","_law_k"] ["_law_script","_law_k"] (Aj BH):=by trivial
abbrev De:Stmt:=top 80
theorem Dv:FnScope ["_law_cell","_law_many","_law_found","_law_k","_law_number"] ["_law_cell","_law_many"] (Aj De):=by trivial
abbrev Cr:Stmt:=top 81
theorem Bj:FnScope ["_law_row_here","_law_many","_law_signs","_law_word","_law_at","_law_found","_law_k","_law_one"] ["_law_row_here","_law_many"] (Aj Cr):=by trivial
abbrev CI:Stmt:=top 82
theorem G0:FnScope ["_law_row_here","_law_at","_law_signs"] ["_law_row_here","_law_at"] (Aj CI):=by trivial
abbrev Dl:Stmt:=top 83
theorem Im:FnScope ["_law_pool","_law_blocks_here","_law_block","_law_birth","_law_tag"] ["_law_pool","_law_blocks_here","_law_block","_law_birth"] (Aj Dl):=by trivial
abbrev BL:Stmt:=top 84
theorem Bu:FnScope ["_law_row_here","_law_at","_law_names_here","_law_files","_law_folders","_law_found","_law_k","_law_number","_law_kind","_law_name"] ["_law_row_here","_law_at","_law_names_here","_law_files","_law_folders"] (Aj BL):=by trivial
abbrev BX:Stmt:=top 85
theorem AV:FnScope ["_law_script","_law_pool","_law_names_here","_law_blocks_here","_law_row_here","_law_pieces","_law_rows","_law_k","_law_some","_law_folders","_law_more"] ["_law_script","_law_pool","_law_names_here"] (Aj BX):=by trivial
abbrev Ce:Stmt:=top 86
theorem Do:FnScope ["_law_entries_here","_law_stem","_law_number","_law_own","_law_least","_law_seals"] ["_law_entries_here","_law_stem","_law_number"] (Aj Ce):=by trivial
abbrev CV:Stmt:=top 87
theorem AR:FnScope ["_law_script","_law_names_here","_law_folders","_law_row_here","_law_keepers","_law_k","_law_bound","_law_entries_here","_law_tag","_law_which","_law_stem"] ["_law_script","_law_names_here","_law_folders"] (Aj CV):=by trivial
abbrev CS:Stmt:=top 88
theorem Kw:FnScope ["_law_block"] ["_law_block"] (Aj CS):=by trivial
abbrev BG:Stmt:=top 89
theorem CD:FnScope ["_law_blocks_here","_law_tags_here","_law_found","_law_waiting","_law_number"] ["_law_blocks_here","_law_tags_here"] (Aj BG):=by trivial
abbrev CN:Stmt:=top 90
theorem Ci:FnScope ["_law_blocks_here","_law_head_here","_law_held_here","_law_keeper","_law_bound","_law_stems","_law_tags_here"] ["_law_blocks_here","_law_head_here"] (Aj CN):=by trivial
abbrev Cg:Stmt:=top 91
theorem CC:FnScope ["_law_pool","_law_blocks_here","_law_head_here","_law_held_here","_law_found","_law_number","_law_due"] ["_law_pool","_law_blocks_here","_law_head_here"] (Aj Cg):=by trivial
abbrev A0:Stmt:=top 92
theorem B1:FnScope ["_law_head_here","_law_stems","_law_origins"] ["_law_head_here"] (Aj A0):=by trivial
abbrev Hi:Stmt:=top 93
theorem Ej:FnScope ["_law_script","_law_cell","_law_names_here","_law_pool","_law_blocks_here","_law_folders","_law_head_here","_law_handed","_law_some"] ["_law_script"] (Aj Hi):=by trivial
structure Txt (K:W.Frag) (mg:Str->Option Value) (Ak:Addr) (Aa:Addr) (Ae:Addr) (XC:Nat->Addr):Prop where
 cl_Boards:HS K Ak
 n_Boards_shelves:BB K Ak "shelves"
 n_Boards_writes:BB K Ak "writes"
 n_Boards_writes_left:BB K Ak "writes_left"
 cl_TakenCell:HS K Aa
 n_TakenCell_own_tag:BB K Aa "own_tag"
 n_TakenCell_own_size:BB K Aa "own_size"
 n_TakenCell_named:BB K Aa "named"
 n_TakenCell_times_named:BB K Aa "times_named"
 n_TakenCell_entries_beneath:BB K Aa "entries_beneath"
 n_TakenCell_steps_beneath:BB K Aa "steps_beneath"
 cl_Pool:HS K Ae
 n_Pool_boards:BB K Ae "boards"
 n_Pool_taken:BB K Ae "taken"
 n_Pool_by_sums:BB K Ae "by_sums"
 n_Pool_draft:BB K Ae "draft"
 n_Pool_first_maybe_free:BB K Ae "first_maybe_free"
 x_Lost:mg "Lost"=some (.ref (XC 0))
 b_all:mg "all"=none
 b_bool:mg "bool"=none
 b_dict:mg "dict"=none
 b_int:mg "int"=none
 b_isinstance:mg "isinstance"=none
 b_len:mg "len"=none
 b_list:mg "list"=none
 b_max:mg "max"=none
 b_min:mg "min"=none
 b_range:mg "range"=none
 b_sorted:mg "sorted"=none
 b_str:mg "str"=none
 b_sum:mg "sum"=none
 b_tuple:mg "tuple"=none
 c_SIGNS:∃t,mg "SIGNS"=some (.str (PySem.Str.ofString " !\"#$&'()*+,-./0123456789:;<=>?@ABCDEFGHIJKLMNOPQRSTUVWXYZ[\\]^_`abcdefghijklmnopqrstuvwxyz{|}~") t)
 c_NUMBER_WORD:∃t,mg "NUMBER_WORD"=some (.int 0 t)
 c_TEXT_WORD:∃t,mg "TEXT_WORD"=some (.int 1 t)
 c_TUPLE_WORD:∃t,mg "TUPLE_WORD"=some (.int 2 t)
 c_PIECE:∃t,mg "PIECE"=some (.int 0 t)
 c_ROW:∃t,mg "ROW"=some (.int 1 t)
 c_FOLDER:∃t,mg "FOLDER"=some (.int 2 t)
 c_FOLDER_ENTRY:∃t,mg "FOLDER_ENTRY"=some (.int 2 t)
 c_NAME_SIGNS:∃t,mg "NAME_SIGNS"=some (.str (PySem.Str.ofString "0123456789abcdefghijklmnopqrstuvwxyz") t)
 c_MOST_NAME_SIGNS:∃t,mg "MOST_NAME_SIGNS"=some (.int 8 t)
 c_SUM_RESTS:∃t,mg "SUM_RESTS"=some (.int 997 t)
 c_STEM:∃t,mg "STEM"=some (.int 1 t)
 c_SEAL:∃t,mg "SEAL"=some (.int 2 t)
 c_LEAST_BOARDS:∃t,mg "LEAST_BOARDS"=some (.int 2 t)
 c_MOST_BOARDS:∃t,mg "MOST_BOARDS"=some (.int 4 t)
abbrev SG:Str:=PySem.Str.ofString " !\"#$&'()*+,-./0123456789:;<=>?@ABCDEFGHIJKLMNOPQRSTUVWXYZ[\\]^_`abcdefghijklmnopqrstuvwxyz{|}~"
theorem TZ:SG.cps.toList.length=94:=by decide +kernel
theorem RP:∀k:Nat,k<94->PySem.Txt.find SG ⟨#[SG.cps.toList.getD k 0]⟩=(k:Int):=by decide +kernel
section
variable {P:Program}{w:World}{K:W.Frag}{mg:Str->Option Value}{base:Heap}{f Ak Aa Ae:Addr}{XC:Nat->Addr}{fd:FuncData}
def CO (K:W.Frag):Sp:=λvs H Q _=>∃v,vs=[v]/\Ok H v/\Q (.bl (FL H v)) H
theorem Mu (T:Txt K mg Ak Aa Ae XC)(F:Fun K "is_whole" "is_whole" Dm f fd):FnOk P w K mg base CZ 1 f fd ["thing"] (CO K):=by
 exists Mc
 ·obtain⟨c,rfl,_⟩:=h;rfl
 obtain⟨v,rfl,ok,q⟩:=h;refine⟨_,(!Al (!Av (!Nf (!AA CH (by rfl) T.b_isinstance BU (!Ab (pv 0) (!Ab (!J8 rfl T.b_int Nr) (!Ah)))) (!Nd (!SV (!AA CH (by rfl) T.b_isinstance BU (!Ab (pv 0) (!Ab (!J8 rfl T.b_bool Rz) (!Ah))))))))),?_⟩;exact Oi _ _ (λR q=>⟨_,rfl,_,_,_,_,rfl,ok.ty K,ok.kit K,q⟩) (λ_ R q=>⟨_,rfl,_,_,_,_,rfl,ok.ty K,ok.kit K,_,rfl,q⟩) q
def Ep (K:W.Frag):Sp:=λvs H Q _=>∃v a b,vs=[v,.int a,.int b]/\Ok H v/\Q (.bl (PQ a b v)) H
theorem JW (T:Txt K mg Ak Aa Ae XC)(F:Fun K "is_between" "is_between" Ck f fd)(Bp:Def P w K mg base 1 "is_whole" ["thing"] (CO K)):FnOk P w K mg base CZ 2 f fd ["thing","least","most"] (Ep K):=by
 exists JN
 ·obtain⟨v,a,b,rfl,_⟩:=h;rfl
 obtain⟨v,a,b,rfl,ok,q⟩:=h;refine⟨_,(!Al (!Av (!Nf (!AU Bp (by trivial) rfl (!Ab (pv 0) (!Ah))) (!Nd (!Qn Lu Lu (pv 1) (pv 0) (pv 2) (by with_unfolding_all rfl)))))),?_⟩;refine Oi (FL H v) (PQ a b v) (λR q=>⟨_,rfl,v,rfl,ok,q⟩) (λhw R q=>?_) ?_
 ·obtain⟨i,rfl⟩:=QN ok hw;refine⟨_,rfl,_,rfl,_,_,rfl,rfl,_,rfl,?_⟩;refine D0 (λc=>?_) (λc=>?_)
  ·have e:PQ a b (.int i)=decide (i<=b):=by show(decide (a<=i)&&decide (i<=b))=_;rw[c];rfl
   rw[e] at q;exact⟨_,rfl,_,_,rfl,rfl,q⟩
  ·have e:PQ a b (.int i)=false:=by show(decide (a<=i)&&decide (i<=b))=_;rw[dM.mpr c];rfl
   rw[e] at q;exact q
 ·cases hw:FL H v with
  |true=>exact q
  |false=>rw[Ss hw] at q;exact q
def Bt (t:Str)(z:Str):Bool:=(Be z).all λc=>decide (c∈Be t)
def Hc (a b:Int):V->Bool
 | .str z=>decide (a<=(z.length:Int))&&decide ((z.length:Int)<=b)&&Bt SG z
 |_=>false
theorem QY {H:Hp}{v:V}{a b:Int}(h:isA (Hf H v) "str"=false):Hc a b v=false:=by
 cases v with
 |str z=>exact absurd (show isA "str" "str"=false from h) (by decide)
 |_=>rfl
def GM (K:W.Frag):Sp:=λvs H Q _=>∃v a b,vs=[v,.int a,.int b]/\Ok H v/\∀H',An H H'->Q (.bl (Hc a b v)) H'
theorem Kh (t z:Str):((Be z).map λc=>V.str ⟨#[c]⟩).map (λv=>match v with|V.str y=>V.bl (!(Builtin.Str.occurrences t y 0 t.length 1).isEmpty)|_=>V.non)=((Be z).map λc=>decide (c∈Be t)).map V.bl:=by
 rw[ar,ar];refine bK λc _=>?_
 show V.bl (!(Builtin.Str.occurrences t ⟨#[c]⟩ 0 t.length 1).isEmpty)=V.bl (decide (c∈Be t));rw[PySem.StrLaws.found_one]
theorem M9 (T:Txt K mg Ak Aa Ae XC)(F:Fun K "is_text" "is_text" DR f fd):FnOk P w K mg base CZ 1 f fd ["thing","least","most"] (GM K):=by
 exists ME
 ·obtain⟨v,a,b,rfl,_⟩:=h;rfl
 obtain⟨v,a,b,rfl,ok,q⟩:=h;refine⟨_,(!Ag (!BQ (@PW.pt _ _ _ (!L8 (!GK (!FD (!AA CH (by rfl) T.b_isinstance BU (!Ab (pv 0) (!Ab (!J8 rfl T.b_str Qp) (!Ah)))) (by intro _;rfl))) (!Jx (!GK (!Mt Lu Lu (pv 1) (!AA E6 (by rfl) T.b_len Cy (!Ab (pv 0) (!Ah))) (pv 2) (by with_unfolding_all rfl)))))) (!Al (!Av (!Hn))) (!AX)) (!Al (!Av (!AA (LD rfl) (by rfl) T.b_all Ql (!Ab (@BA _ ["sign"] _ _ _ _ _ _ _ _ _ _ rfl (!Jg (pv 0)) (by decide +kernel) (λC s H fp=>⟨(@Aq _ _ (0) _ (show(["sign"]:List Str).Nodup by decide +kernel) rfl (by trivial) (by trivial)),(!A6),(!Gp Kb (pv 0) (!JF rfl T.c_SIGNS))⟩) (by intro _;rfl)) (!Ah)))))),?_⟩;refine⟨_,rfl,_,_,_,_,rfl,ok.ty K,ok.kit K,_,rfl,?_⟩;cases hw:isA (Hf H v) "str" with
 |false=>
  refine Ft rfl ?_;have:=q H (An.refl _);rw[QY hw] at this;exact this
 |true=>
  refine Cu rfl ?_;obtain⟨z,rfl,hz⟩:=TQ ok hw;have zl:=A1 z;refine⟨_,rfl,_,rfl,_,rfl,small (by omega),_,_,rfl,rfl,_,rfl,?_⟩;refine D0 (λc=>?_) (λc=>?_)
  ·refine⟨_,rfl,_,_,rfl,rfl,_,rfl,?_⟩;refine D0 (λd=>?_) (λd=>?_)
   ·have d':decide ((z.length:Int)<=b)=false:=by simpa using d
    have e:Hc a b (.str z)=false:=by show(decide (a<=(z.length:Int))&&decide ((z.length:Int)<=b)&&Bt SG z)=_;rw[d',Bool.and_false];rfl
    have:=q H (An.refl _);rw[e] at this;exact this
   ·have d':decide ((z.length:Int)<=b)=true:=by simpa using d
    refine⟨_,rfl,z,rfl,?_⟩;refine comp_map (λv=>match v with | .str y=>.bl (!(Builtin.Str.occurrences SG y 0 SG.length 1).isEmpty)|_=>.non) FV (by rw[aa];exact bq (cO zl) (by omega)) (λx H' R hx s' hR=>?_) λl H7 n7 s7 h7=>?_
    ·obtain⟨u,_,rfl⟩:=ah.mp hx;exact⟨_,rfl,_,_,rfl,rfl,hR H' (An.refl _)⟩
    rw[Kh] at h7;refine⟨l,_,rfl,AB.of h7,?_⟩;have e:Hc a b (.str z)=((Be z).map λc=>decide (c∈Be SG)).all id:=by
     show(decide (a<=(z.length:Int))&&decide ((z.length:Int)<=b)&&Bt SG z)=_;unfold Bt;rw[c,d',fX];rfl
    have:=q H7 s7;rw[e] at this;exact this
  ·have c':decide (a<=(z.length:Int))=false:=dM.mpr c;have e:Hc a b (.str z)=false:=by show(decide (a<=(z.length:Int))&&decide ((z.length:Int)<=b)&&Bt SG z)=_;rw[c',Bool.false_and];rfl
   have:=q H (An.refl _);rw[e] at this;exact⟨_,rfl,this⟩
abbrev NS:Str:=PySem.Str.ofString "0123456789abcdefghijklmnopqrstuvwxyz"
abbrev LN:Str:=PySem.Str.ofString "abcdefghijklmnopqrstuvwxyz0123456789"
theorem PU:(∀c∈Be NS,c∈Be LN)/\∀c∈Be LN,c∈Be NS/\c∈Be SG:=by decide +kernel
def Iu:V->Bool
 | .str z=>decide ((1:Int)<=z.length)&&decide ((z.length:Int)<=8)&&Bt LN z
 |_=>false
theorem Ke (z:Str):(Bt SG z&&Bt NS z)=Bt LN z:=by
 unfold Bt;rw[cR,aU,aX,aX,aX];simp only[decide_eq_true_eq];exact⟨λh c hc=>PU.1 c (h.2 c hc),λh=>⟨λc hc=>(PU.2 c (h c hc)).2,λc hc=>(PU.2 c (h c hc)).1⟩⟩
theorem OL (v:V):Iu v=match v with | .str z=>Hc 1 8 v&&Bt NS z|_=>false:=by
 cases v with
 |str z=>
  show(decide ((1:Int)<=z.length)&&decide ((z.length:Int)<=8)&&Bt LN z)=((decide ((1:Int)<=(z.length:Int))&&decide ((z.length:Int)<=8)&&Bt SG z)&&Bt NS z);rw[<-Ke z];simp only[Bool.and_assoc]
 |_=>rfl
def IY (K:W.Frag):Sp:=λvs H Q _=>∃v,vs=[v]/\Ok H v/\∀H',An H H'->Q (.bl (Iu v)) H'
theorem MS (T:Txt K mg Ak Aa Ae XC)(F:Fun K "is_name" "is_name" DQ f fd)(HP:Def P w K mg base 1 "is_text" ["thing","least","most"] (GM K)):FnOk P w K mg base CZ 2 f fd ["thing"] (IY K):=by
 exists Nz
 ·obtain⟨v,rfl,_⟩:=h;rfl
 obtain⟨v,rfl,ok,q⟩:=h;refine⟨_,(!Al (!Av (!Nf (!AU HP (by trivial) rfl (!Ab (pv 0) (!Ab (!Ad) (!Ab (!Bi rfl T.c_MOST_NAME_SIGNS) (!Ah))))) (!Nd (!AA (LD rfl) (by rfl) T.b_all Ql (!Ab (@BA _ ["sign"] _ _ _ _ _ _ _ _ _ _ rfl (!Jg (pv 0)) (by decide +kernel) (λC s H fp=>⟨(@Aq _ _ (0) _ (show(["sign"]:List Str).Nodup by decide +kernel) rfl (by trivial) (by trivial)),(!A6),(!Gp Kb (pv 0) (!JF rfl T.c_NAME_SIGNS))⟩) (by intro _;rfl)) (!Ah))))))),?_⟩;refine⟨_,rfl,v,1,8,rfl,ok,λH1 s1=>⟨_,rfl,?_⟩⟩;have en:=OL v;refine D0 (λc=>?_) (λc=>?_)
 ·cases v with
  |str z=>
   have hz:z.length<=1000:=ok;have zl:=A1 z;refine⟨_,rfl,z,rfl,?_⟩;refine comp_map (λv=>match v with | .str y=>.bl (!(Builtin.Str.occurrences NS y 0 NS.length 1).isEmpty)|_=>.non) FV (by rw[aa];exact bq (cO zl) (by omega)) (λx H' R hx s' hR=>?_) λl H7 n7 s7 h7=>?_
   ·obtain⟨u,_,rfl⟩:=ah.mp hx;exact⟨_,rfl,_,_,rfl,rfl,hR H' (An.refl _)⟩
   rw[Kh] at h7;refine⟨l,_,rfl,AB.of h7,?_⟩;have e:Iu (.str z)=((Be z).map λc=>decide (c∈Be NS)).all id:=by
    rw[en];show(Hc 1 8 (.str z)&&Bt NS z)=_;rw[c];unfold Bt;rw[fX];rfl
   have:=q H7 (s1.trans s7);rw[e] at this;exact this
  |_=>exact absurd (show false=true from c) ay
 ·have e:Iu v=false:=by
   rw[en];cases v with
   |str z=>show(Hc 1 8 (.str z)&&Bt NS z)=false;rw[dM.mpr c];rfl
   |_=>rfl
  have:=q H1 s1;rw[e] at this;exact this
def Cf (K:W.Frag):Sp:=λvs H Q _=>∃u:Str,vs=[.str u]/\0<=PySem.Txt.find SG u/\Q (.int (PySem.Txt.find SG u)) H
theorem La (T:Txt K mg Ak Aa Ae XC)(F:Fun K "number_of" "number_of" CL f fd):FnOk P w K mg base CZ 1 f fd ["sign"] (Cf K):=by
 exists Ll
 ·obtain⟨u,rfl,_⟩:=h;rfl
 obtain⟨u,rfl,h0,q⟩:=h;refine⟨_,(!Al (!Av (!CA d3 PySem.F.slot_str_index PySem.F.type_str_index (Pi rfl) (!JF rfl T.c_SIGNS) (!Ab (pv 0) (!Ah))))),?_⟩;exact⟨rfl,_,rfl,_,_,rfl,rfl,h0,q⟩
def Ge:Nat->Tr->Bool
 |0,_=>false
 |_+1,.int i=>decide (0<=i)&&decide (i<=999999999)
 |_+1,.str z=>decide ((z.length:Int)<=400)&&Bt SG z
 |n+1,.tup ts=>decide (ts.length<=100)&&ts.all (Ge n)
 |_+1,_=>false
def All:Addr->Prop:=λ_=>True
def NL:Addr->Prop:=λ_=>False
mutual
theorem Cn {H H':Hp}(k:∀c xs,H c=some (.tup xs)->H' c=some (.tup xs)):∀(t:Tr) (v:V),Rep NL H t v->Rep NL H' t v
 | .non,_,h=>h
 | .bl _,_,h=>h
 | .int _,_,h=>h
 | .str _,_,h=>h
 | .tup ts,_,⟨a,vs,e,ha,hr⟩=>⟨a,vs,e,k a _ ha,BN k ts vs hr⟩
 | .lst _,_,⟨_,_,_,fa,_⟩=>fa.elim
theorem BN {H H':Hp}(k:∀c xs,H c=some (.tup xs)->H' c=some (.tup xs)):∀(ts:List Tr) (vs:List V),AH NL H ts vs->AH NL H' ts vs
 |[],_,h=>h
 |t::ts,_,⟨v,us,e,h1,h2⟩=>⟨v,us,e,Cn k t v h1,BN k ts us h2⟩
end
theorem Oh {H:Hp}{t:Tr}{v:V}(h:Rep NL H t v):Rep All H t v:=Rep.mono (λ_ z=>z.elim) t v h
mutual
theorem Qo:∀(n:Nat) (t:Tr),Ge n t=true->t.ok
 |0,_,h=>nomatch h
 |n+1,.non,h=>nomatch h
 |n+1,.bl _,h=>nomatch h
 |n+1,.int _,_=>trivial
 |n+1,.str z,h=>by
  have h':(decide ((z.length:Int)<=400)&&Bt SG z)=true:=h;rw[aU,bA] at h';show z.length<=1000;omega
 |n+1,.tup ts,h=>by
  have h':(decide (ts.length<=100)&&ts.all (Ge n))=true:=h;rw[aU,bA] at h';exact⟨by omega,NY n ts h'.2⟩
 |n+1,.lst _,h=>nomatch h
theorem NY:∀(n:Nat) (ts:List Tr),ts.all (Ge n)=true->Tr.oks ts
 |_,[],_=>trivial
 |n,t::ts,h=>by
  rw[dP,aU] at h;exact⟨Qo n t h.1,NY n ts h.2⟩
end
def idx (c:Nat):Int:=PySem.Txt.find SG ⟨#[c]⟩
theorem Js {c:Nat}(h:c∈Be SG):0<=idx c/\idx c<94/\SG.cps.toList.getD (idx c).toNat 0=c:=by
 obtain⟨k,hk,e⟩:=cn (show c∈SG.cps.toList from h);have hk':k<94:=by rw[TZ] at hk;exact hk
 have eg:SG.cps.toList.getD k 0=c:=by simp only[List.getD,List.getElem?_eq_getElem hk,Option.getD_some];exact e
 have:=RP k hk';rw[eg] at this;have ei:idx c=(k:Int):=this;rw[ei];exact⟨by omega,by omega,eg⟩
mutual
def wT:Tr->List Int
 | .int i=>[0,i]
 | .str z=>1::(z.length:Int)::(Be z).map idx
 | .tup ts=>2::(ts.length:Int)::wTs ts
 |_=>[]
def wTs:List Tr->List Int
 |[]=>[]
 |t::ts=>wT t++wTs ts
end
theorem Lj:∀(a b:List Tr),wTs (a++b)=wTs a++wTs b
 |[],_=>rfl
 |t::a,b=>by
  show wT t++wTs (a++b)=(wT t++wTs a)++wTs b;rw[Lj a b,cz]
theorem LL {ts:List Tr}{i:Nat}{t:Tr}(h:ts[i]?=some t):wTs (ts.take (i+1))=wTs (ts.take i)++wT t:=by
 rw[aR,h,Lj];show wTs (ts.take i)++(wT t++[])=_;rw[bZ]
theorem Tz {ts:List Tr}(i:Nat):(wTs (ts.take i)).length<=(wTs ts).length:=by
 have:=congrArg List.length (Lj (ts.take i) (ts.drop i));rw[eE,ao] at this;omega
theorem RB {ts:List Tr}{i:Nat}{t:Tr}(h:ts[i]?=some t):(wTs (ts.take i)).length+(wT t).length<=(wTs ts).length:=by
 have:=Tz (ts:=ts) (i+1);rw[LL h,ao] at this;exact this
theorem Od {n:Nat}{z:Str}(h:Ge n (.str z)=true):z.length<=400/\∀c∈Be z,c∈Be SG:=by
 cases n with
 |zero=>cases h
 |succ n=>
  have h':(decide ((z.length:Int)<=400)&&Bt SG z)=true:=h;rw[aU,bA] at h';refine⟨by omega,λc hc=>?_⟩;have:=aX.mp h'.2 c hc;simpa using this
theorem Dp {n:Nat}{ts:List Tr}(h:Ge (n+1) (.tup ts)=true):ts.length<=100/\∀(i:Nat) t,ts[i]?=some t->Ge n t=true:=by
 have h':(decide (ts.length<=100)&&ts.all (Ge n))=true:=h;rw[aU,bA] at h';exact⟨h'.1,λi t ht=>aX.mp h'.2 t (az ht)⟩
theorem SW (ts:List Tr):wT (.tup ts)=2::(ts.length:Int)::wTs ts:=rfl
def NZ (n:Nat)(K:W.Frag):Sp:=λvs H Q _=>∃(v:V) (t:Tr),vs=[v]/\Rep NL H t v/\Ge n t=true/\(wT t).length<=900000/\∀l H',An H H'->H l=none->H' l=some (.lst ((wT t).map V.int))->Q (.ref l) H'
def Ga (K:W.Frag):Sp:=NZ 8 K
theorem RM (T:Txt K mg Ak Aa Ae XC)(F:Fun K "words_of" "words_of" B8 f fd)(Bp:Def P w K mg base 1 "is_whole" ["thing"] (CO K))(A3:Def P w K mg base 1 "number_of" ["sign"] (Cf K))(n:Nat)(DX:Def P w K mg base (1+n) "words_of" ["thing"] (NZ n K)):FnOk P w K mg base CZ (1+n+1) f fd ["thing"] (NZ (n+1) K):=by
 exists Ef
 ·obtain⟨v,t,rfl,_⟩:=h;rfl
 obtain⟨v,t,rfl,hv,ht,hw,q⟩:=h;have ok:=Qo _ _ ht;have okv:=(Oh hv).ok ok;have ety:=(Oh hv).tyN;refine⟨_,(!Ag (!BQ (!FD (!AU Bp (hr.mono (by omega)) rfl (!Ab (pv 0) (!Ah))) (by intro _;rfl)) (!Al (!Av (!A5 (!Ab (!Bi rfl T.c_NUMBER_WORD) (!Ab (pv 0) (!Ah)))))) (!AX)) (!Ag (!BQ (!FD (!AA CH (by rfl) T.b_isinstance BU (!Ab (pv 0) (!Ab (!J8 rfl T.b_str Qp) (!Ah)))) (by intro _;rfl)) (!Al (!Av (!Ao G2 (!A5 (!Ab (!Bi rfl T.c_TEXT_WORD) (!Ab (!AA E6 (by rfl) T.b_len Cy (!Ab (pv 0) (!Ah))) (!Ah)))) (@BA _ ["sign"] _ _ _ _ _ _ _ _ _ _ rfl (!Jg (pv 0)) (by decide +kernel) (λC s H fp=>⟨(@Aq _ _ (0) _ (show(["sign"]:List Str).Nodup by decide +kernel) rfl (by trivial) (by trivial)),(!A6),(!AU A3 (hr.mono (by omega)) rfl (!Ab (pv 0) (!Ah)))⟩) (by intro _;rfl))))) (!AX)) (!Ag (@Au _ _ (1) _ _ _ _ Ef.nd rfl (by trivial) (!A5 (!Ab (!Bi rfl T.c_TUPLE_WORD) (!Ab (!AA AQ (by rfl) T.b_len Cy (!Ab (pv 0) (!Ah))) (!Ah)))) (by rfl) (by trivial)) (!Ag (!BJ aW rfl (!BZ (pv 0)) (@Aq _ _ (2) _ Ef.nd rfl (by trivial) (by trivial)) (!Al (!Bc (!CA aK cg cf DU (pv 1) (!Ab (!AU DX (hr.mono (by omega)) rfl (!Ab (pv 2) (!Ah))) (!Ah))))) (by intro _;rfl)) (!Al (!Av (pv 1))))))),?_⟩;refine⟨_,rfl,v,rfl,okv,_,rfl,?_⟩;cases t with
 |int i=>
  cases(show v=V.int i from hv);refine Ft rfl ?_;exact⟨_,rfl,GR,λl hl=>q l _ (Ai hl _) hl Ac⟩
 |str z=>
  cases(show v=V.str z from hv);obtain⟨zl,zs⟩:=Od ht;have zc:=A1 z;refine Cu rfl ?_;refine⟨_,rfl,_,_,_,_,rfl,okv.ty K,okv.kit K,_,rfl,Ft (by rw[ety];show isA "str" "str"=true;decide) ?_⟩;refine⟨_,rfl,_,rfl,small (by omega),GR,λp1 hp1=>?_⟩;refine⟨_,rfl,z,rfl,?_⟩;refine comp_map (λv=>match v with | .str y=>.int (PySem.Txt.find SG y)|_=>.non) FV (by rw[aa];exact bq (cO zc) (by omega)) (λx H' R hx s' hR=>?_) λl H7 n7 s7 h7=>?_
  ·obtain⟨u,hu,rfl⟩:=ah.mp hx;exact⟨_,rfl,_,rfl,(Js (zs u hu)).1,hR H' (An.refl _)⟩
  have e7:((z.cps.toList.map λc=>V.str ⟨#[c]⟩).map λv=>match v with|V.str y=>V.int (PySem.Txt.find SG y)|_=>V.non)=((Be z).map idx).map V.int:=by
   rw[ar,ar];rfl
  rw[e7] at h7;have s1:=Ai hp1 (.lst [V.int 1,V.int (z.length:Int)]);refine⟨p1,l,_,_,rfl,rfl,AB.of (s7.get Ac),AB.of h7,small (by rw[aa,aa];show 2+_<=_;omega),λp hp=>?_⟩;exact q p _ ((s1.trans s7).trans (Ai hp _)) ((s1.trans s7).free hp) Ac
 |tup ts=>
  obtain⟨a,vs,rfl,ha,hr'⟩:=hv;have lv:=AH.len ts vs hr';obtain⟨tl,tt⟩:=Dp ht;rw[SW] at hw q;have hw2:(wTs ts).length<=899998:=by simp only[List.length_cons] at hw;omega
  refine Cu (by unfold FL;rw[ety];rfl) ?_;refine⟨_,rfl,_,_,_,_,rfl,okv.ty K,okv.kit K,_,rfl,Cu (by rw[ety];show isA "tuple" "str"=false;decide) ?_⟩;refine⟨_,rfl,a,_,rfl,.inr (AG.of ha),GR,λg hg=>?_⟩;rw[lv];refine⟨_,rfl,a,rfl,⟨_,AG.of ((Ai hg _).get ha)⟩,IS (K:=K) (a:=a) (xs:=vs) (λi σ H2=>∃(v2:Option V),σ=[some (.ref a),some (.ref g),v2]/\An H H2/\H2 g=some (.lst ((2::(ts.length:Int)::wTs (ts.take i)).map V.int)))
   ⟨none,rfl,Ai hg _,Ac⟩ (λi σ H2 _ ⟨_,_,s2,_⟩=>AG.of (s2.get ha)) ?_ ?_⟩
  ·rintro i y σ H2 hi ⟨v2,rfl,s2,hg2⟩
   obtain⟨ty,et,ry⟩:=AH.get hr' hi;have b1:=RB et;refine⟨_,rfl,.inl ⟨rfl,_,AB.of hg2⟩,_,rfl,y,ty,rfl,Rep.same s2 _ _ ry,tt i ty et,by omega,λl3 H3 s3 n3 h3=>?_⟩;refine⟨g,l3,_,_,rfl,rfl,s3.get hg2,h3,small (by simp only[List.length_map,List.length_cons];omega),?_⟩;refine⟨_,rfl,AI (s2.trans s3) hg _,?_⟩;rw[Ac,<-aj,LL et];rfl
  ·rintro σ H2 ⟨v2,rfl,s2,hg2⟩
   rw[lv,ba (ak _)] at hg2;exact⟨_,rfl,q g H2 s2 hg hg2⟩
 |non=>cases n<;>cases ht
 |bl b=>cases n<;>cases ht
 |lst ts=>cases n<;>cases ht
theorem PR (T:Txt K mg Ak Aa Ae XC)(F:Fun K "words_of" "words_of" B8 f fd)(Bp:Def P w K mg base 1 "is_whole" ["thing"] (CO K))(A3:Def P w K mg base 1 "number_of" ["sign"] (Cf K))(hm:mg "words_of"=some (.ref f))(hk:W.keepIn K (.ref f)=true)(hb:Binds K fd ["thing"] []):∀n,FnOk P w K mg base CZ (1+n) f fd ["thing"] (NZ n K)
 |0=>by
  exists Ef
  ·obtain⟨v,t,rfl,_,ht,_⟩:=h;cases ht
  ·obtain⟨v,t,rfl,_,ht,_⟩:=h;cases ht
 |n+1=>RM T F Bp A3 n ⟨f,fd,PR T F Bp A3 hm hk hb n,hm,hk,hb⟩
theorem Ms (T:Txt K mg Ak Aa Ae XC)(F:Fun K "words_of" "words_of" B8 f fd)(Bp:Def P w K mg base 1 "is_whole" ["thing"] (CO K))(A3:Def P w K mg base 1 "number_of" ["sign"] (Cf K))(hm:mg "words_of"=some (.ref f))(hk:W.keepIn K (.ref f)=true)(hb:Binds K fd ["thing"] []):FnOk P w K mg base CZ 9 f fd ["thing"] (Ga K):=
 PR T F Bp A3 hm hk hb 8
def Vc (g:List Int->Option (Tr×List Int)):Nat->List Int->Option (List Tr×List Int)
 |0,ws=>some ([],ws)
 |i+1,ws=>match Vc g i ws with
  |none=>none
  |some (ts,r)=>match g r with
   |none=>none
   |some (t,r')=>some (ts++[t],r')
def P4 (x:Int):Nat:=SG.cps.toList.getD x.toNat 0
def Vb:Nat->List Int->Option (List Nat×List Int)
 |0,ws=>some ([],ws)
 |i+1,ws=>match Vb i ws with
  |some (cs,x::r)=>if 0<=x/\x<=93 then some (cs++[P4 x],r) else none
  |_=>none
def rd:Nat->List Int->Option (Tr×List Int)
 |0,_=>none
 |n+1,ws=>match ws with
  |[]=>none
  |x::ws1=>if 0<=x/\x<=2 then match ws1 with
    |[]=>none
    |m::r=>if x=0 then(if 0<=m/\m<=999999999 then some (.int m,r) else none)
     else if x=1 then(if 0<=m/\m<=400 then(match Vb m.toNat r with|some (cs,r')=>some (.str ⟨cs.toArray⟩,r')|none=>none) else none)
     else(if 0<=m/\m<=100 then(match Vc (rd n) m.toNat r with|some (ts,r')=>some (.tup ts,r')|none=>none) else none)
   else none
theorem MN {c:Nat}(h:c∈Be SG):P4 (idx c)=c:=(Js h).2.2
theorem Mq:∀(cs:List Nat) (r:List Int),(∀c∈cs,c∈Be SG)->∀i,i<=cs.length->Vb i (cs.map idx++r)=some (cs.take i,(cs.drop i).map idx++r)
 |cs,r,h,0,_=>rfl
 |cs,r,h,i+1,hi=>by
  have ih:=Mq cs r h i (by omega);obtain⟨c,hc⟩:∃c,cs[i]?=some c:=⟨cs[i],ae _⟩
  have hd:cs.drop i=c::cs.drop (i+1):=by rw[dI (by omega)];congr 1;rw[ae (by omega)] at hc;exact aA hc
  obtain⟨b1,b2,b3⟩:=Js (h c (az hc));unfold Vb;rw[ih,hd];show(if 0<=idx c/\idx c<=93 then _ else _)=_;rw[aE ⟨b1,by omega⟩,aR,hc,MN (h c (az hc))];rfl
theorem L9 {g:List Int->Option (Tr×List Int)}(ts:List Tr)(r:List Int)(hg:∀t∈ts,∀r,g (wT t++r)=some (t,r)):∀i,i<=ts.length->Vc g i (wTs ts++r)=some (ts.take i,wTs (ts.drop i)++r)
 |0,_=>rfl
 |i+1,hi=>by
  have ih:=L9 ts r hg i (by omega);obtain⟨t,ht⟩:∃t,ts[i]?=some t:=⟨ts[i],ae _⟩
  have hd:ts.drop i=t::ts.drop (i+1):=by rw[dI (by omega)];congr 1;rw[ae (by omega)] at ht;exact aA ht
  unfold Vc;rw[ih,hd];show(match g ((wT t++wTs (ts.drop (i+1)))++r) with|none=>none|some (t,r')=>some (ts.take i++[t],r'))=_;rw[cz,hg t (az ht),aR,ht];rfl
theorem Li:∀(n:Nat) (t:Tr) (r:List Int),Ge n t=true->rd n (wT t++r)=some (t,r)
 |0,_,_,h=>nomatch h
 |n+1,.non,_,h=>nomatch h
 |n+1,.bl _,_,h=>nomatch h
 |n+1,.lst _,_,h=>nomatch h
 |n+1,.int i,r,h=>by
  have h':(decide (0<=i)&&decide (i<=999999999))=true:=h;rw[aU,bA,bA] at h';show rd (n+1) (0::i::r)=_;unfold rd;dsimp only;rw[aE ⟨by decide,by decide⟩,aE rfl,aE h']
 |n+1,.str z,r,h=>by
  obtain⟨zl,zs⟩:=Od h;have zc:=A1 z;show rd (n+1) (1::(z.length:Int)::((Be z).map idx++r))=_;unfold rd;dsimp only;rw[aE ⟨by decide,by decide⟩];rw[aH (by decide),aE rfl,aE ⟨by omega,by omega⟩,Mq (Be z) r zs _ (by omega),ba (by omega),fW (by omega)];have:(⟨(Be z).toArray⟩:Str)=z:=Rq rfl;show some (Tr.str ⟨(Be z).toArray⟩,r)=_;rw[this]
 |n+1,.tup ts,r,h=>by
  obtain⟨tl,tt⟩:=Dp h;have hg:∀t∈ts,∀r,rd n (wT t++r)=some (t,r):=λt ht r=>by
   obtain⟨i,hi⟩:=bM ht;exact Li n t r (tt i t hi)
  show rd (n+1) (2::(ts.length:Int)::(wTs ts++r))=_;unfold rd;dsimp only;rw[aE ⟨by decide,by decide⟩];rw[aH (by decide),aH (by decide),aE ⟨by omega,by omega⟩,L9 ts r hg _ (by omega),ba (by omega),fW (by omega)];rfl
theorem MG {n:Nat}{t u:Tr}(ht:Ge n t=true)(hu:Ge n u=true)(h:wT t=wT u):t=u:=by
 have e1:=Li n t [] ht;rw[h,Li n u [] hu] at e1;exact(Prod.mk.inj (aA e1)).1.symm
theorem N7 {H:Hp}:∀(n:Nat) (t u:Tr) (v:V),Ge n t=true->Ge n u=true->Rep NL H t v->Rep NL H u v->t=u
 |0,_,_,_,h,_,_,_=>nomatch h
 |n+1,.int i,.int j,v,_,_,h1,h2=>by
  have e1:v=V.int i:=h1;have e2:v=V.int j:=h2;rw[e1] at e2;cases e2;rfl
 |n+1,.int i,.str z,v,_,_,h1,h2=>by
  have e1:v=V.int i:=h1;have e2:v=V.str z:=h2;rw[e1] at e2;cases e2
 |n+1,.int i,.tup ts,v,_,_,h1,⟨a,vs,e2,_⟩=>by
  have e1:v=V.int i:=h1;rw[e1] at e2;cases e2
 |n+1,.str z,.int j,v,_,_,h1,h2=>by
  have e1:v=V.str z:=h1;have e2:v=V.int j:=h2;rw[e1] at e2;cases e2
 |n+1,.str z,.str y,v,_,_,h1,h2=>by
  have e1:v=V.str z:=h1;have e2:v=V.str y:=h2;rw[e1] at e2;cases e2;rfl
 |n+1,.str z,.tup ts,v,_,_,h1,⟨a,vs,e2,_⟩=>by
  have e1:v=V.str z:=h1;rw[e1] at e2;cases e2
 |n+1,.tup ts,.int j,v,_,_,⟨a,vs,e1,_⟩,h2=>by
  have e2:v=V.int j:=h2;rw[e1] at e2;cases e2
 |n+1,.tup ts,.str y,v,_,_,⟨a,vs,e1,_⟩,h2=>by
  have e2:v=V.str y:=h2;rw[e1] at e2;cases e2
 |n+1,.tup ts,.tup us,v,ht,hu,⟨a,vs,e1,ha,r1⟩,⟨b,ws,e2,hb,r2⟩=>by
  subst e1;cases e2;rw[ha] at hb;cases hb;obtain⟨_,tt⟩:=Dp ht;obtain⟨_,tu⟩:=Dp hu;have l1:=AH.len ts vs r1;have l2:=AH.len us vs r2;have:ts=us:=by
   refine ck λi=>?_
   by_cases hi:i<vs.length
   ·obtain⟨t1,g1,p1⟩:=AH.get r1 (ae hi);obtain⟨t2,g2,p2⟩:=AH.get r2 (ae hi);rw[g1,g2,N7 n t1 t2 _ (tt i t1 g1) (tu i t2 g2) p1 p2]
   ·rw[cw (by omega),cw (by omega)]
  rw[this]
 |n+1,.non,_,_,h,_,_,_=>nomatch h
 |n+1,.bl _,_,_,h,_,_,_=>nomatch h
 |n+1,.lst _,_,_,h,_,_,_=>nomatch h
 |n+1,.int _,.non,_,_,h,_,_=>nomatch h
 |n+1,.int _,.bl _,_,_,h,_,_=>nomatch h
 |n+1,.int _,.lst _,_,_,h,_,_=>nomatch h
 |n+1,.str _,.non,_,_,h,_,_=>nomatch h
 |n+1,.str _,.bl _,_,_,h,_,_=>nomatch h
 |n+1,.str _,.lst _,_,_,h,_,_=>nomatch h
 |n+1,.tup _,.non,_,_,h,_,_=>nomatch h
 |n+1,.tup _,.bl _,_,_,h,_,_=>nomatch h
 |n+1,.tup _,.lst _,_,_,h,_,_=>nomatch h
theorem Ds {n:Nat}{t u:Tr}(ht:Ge n t=true)(hu:Ge n u=true){b:Bool}(h:b=true↔t=u):decide (wT t=wT u)=b:=by
 rw[cR,bA,h];exact⟨MG ht hu,λe=>by rw[e]⟩
theorem LG {n:Nat}{ts us:List Tr}(ht:Ge (n+1) (.tup ts)=true)(hu:Ge (n+1) (.tup us)=true):decide (wT (.tup ts)=wT (.tup us))=((List.range (min ts.length us.length)).all (λj=>decide (wT (ts.getD j .non)=wT (us.getD j .non)))&&ts.length == us.length):=by
 obtain⟨_,tt⟩:=Dp ht;obtain⟨_,tu⟩:=Dp hu;refine Ds ht hu ?_;rw[aU,aX,cM];constructor
 ·rintro⟨h1,h2⟩
  congr 1
  refine ck λi=>?_
  by_cases hi:i<ts.length
  ·have e:=h1 i (cC.mpr (by omega));obtain⟨t1,g1⟩:∃t1,ts[i]?=some t1:=⟨ts[i],ae hi⟩
   obtain⟨t2,g2⟩:∃t2,us[i]?=some t2:=⟨us[i]'(by omega),ae _⟩
   simp only[List.getD,g1,g2,Option.getD_some,decide_eq_true_eq] at e;rw[g1,g2,MG (tt i t1 g1) (tu i t2 g2) e]
  ·rw[cw (by omega),cw (by omega)]
 ·intro h;cases h;exact⟨λi _=>aI rfl,rfl⟩
section
variable {X:Cx}{pins:List (Addr×Obj)}{σ:St}{H:Hp}{s:Shared}
theorem QW (I:Inv X pins σ H s):∀(n:Nat) (t u:Tr) (A:Around) (v w:V) (vv ww:Value),Ge n t=true->Ge n u=true->A.units+n<cLine->Rep NL H t v->Rep NL H u w->RelV v vv->RelV w ww->SeqAt.EqAt A s vv ww (decide (wT t=wT u))
 |0,_,_,_,_,_,_,_,h,_,_,_,_,_,_=>nomatch h
 |n+1,t,u,A,v,w,vv,ww,ht,hu,hA,h1,h2,r1,r2=>by
  cases t with
  |int i=>
   cases(show v=V.int i from h1);obtain⟨t1,rfl⟩:=r1;cases u with
   |int j=>
    cases(show w=V.int j from h2);obtain⟨t2,rfl⟩:=r2;rw[Ds ht hu (b:=i == j) (by rw[cM];exact⟨λe=>by rw[e],λe=>by cases e;rfl⟩)];exact SeqAt.EqAt.int_int i t1 j t2
   |str z=>
    cases(show w=V.str z from h2);obtain⟨t2,rfl⟩:=r2;rw[Ds ht hu (b:=false) ⟨(λe=>nomatch e),(λe=>nomatch e)⟩];exact fA i t1 z t2
   |tup us=>
    obtain⟨b,ws,rfl,hb,_⟩:=h2;cases r2;obtain⟨its,_,p,_⟩:=I.tuple (AG.of (K:=X.K) hb);rw[Ds ht hu (b:=false) ⟨(λe=>nomatch e),(λe=>nomatch e)⟩];exact SeqAt.EqAt.int_tuple i t1 p (by omega)
   |non=>cases hu
   |bl _=>cases hu
   |lst _=>cases hu
  |str y=>
   cases(show v=V.str y from h1);obtain⟨t1,rfl⟩:=r1;cases u with
   |int j=>
    cases(show w=V.int j from h2);obtain⟨t2,rfl⟩:=r2;rw[Ds ht hu (b:=false) ⟨(λe=>nomatch e),(λe=>nomatch e)⟩];exact fu y t1 j t2
   |str z=>
    cases(show w=V.str z from h2);obtain⟨t2,rfl⟩:=r2;rw[Ds ht hu (b:=y == z) (by rw[cM];exact⟨λe=>by rw[e],λe=>by cases e;rfl⟩)];exact SeqAt.EqAt.str_str y t1 z t2
   |tup us=>
    obtain⟨b,ws,rfl,hb,_⟩:=h2;cases r2;obtain⟨its,_,p,_⟩:=I.tuple (AG.of (K:=X.K) hb);rw[Ds ht hu (b:=false) ⟨(λe=>nomatch e),(λe=>nomatch e)⟩];exact SeqAt.EqAt.str_tuple y t1 p (by omega)
   |non=>cases hu
   |bl _=>cases hu
   |lst _=>cases hu
  |tup ts=>
   obtain⟨a,vs,rfl,ha,hr1⟩:=h1;cases r1;obtain⟨its,rv1,p1,_⟩:=I.tuple (AG.of (K:=X.K) ha);cases u with
   |int j=>
    cases(show w=V.int j from h2);obtain⟨t2,rfl⟩:=r2;rw[Ds ht hu (b:=false) ⟨(λe=>nomatch e),(λe=>nomatch e)⟩];exact SeqAt.EqAt.tuple_int j t2 p1 (by omega)
   |str z=>
    cases(show w=V.str z from h2);obtain⟨t2,rfl⟩:=r2;rw[Ds ht hu (b:=false) ⟨(λe=>nomatch e),(λe=>nomatch e)⟩];exact SeqAt.EqAt.tuple_str z t2 p1 (by omega)
   |tup us=>
    obtain⟨b,ws,rfl,hb,hr2⟩:=h2;cases r2;obtain⟨its2,rv2,p2,_⟩:=I.tuple (AG.of (K:=X.K) hb)
    by_cases hab:a=b
    ·subst hab;have:=N7 (n+1) (.tup ts) (.tup us) (.ref a) ht hu ⟨a,vs,rfl,ha,hr1⟩ ⟨a,ws,rfl,hb,hr2⟩;rw[this,aI rfl];exact dg _
    obtain⟨_,tt⟩:=Dp ht;obtain⟨_,tu⟩:=Dp hu;have l1:=rv1.length.symm.trans (AH.len ts vs hr1);have l2:=rv2.length.symm.trans (AH.len us ws hr2);have q:=eu (A:=A) (s:=s) (e:=λj=>decide (wT (ts.getD j .non)=wT (us.getD j .non))) p1 p2 (by omega) (λj g1 g2=>by
     have g1':j<its.length:=by simpa using g1
     have g2':j<its2.length:=by simpa using g2
     have lv1:=rv1.length;have lv2:=rv2.length;obtain⟨x1,hx1⟩:∃x1,vs[j]?=some x1:=⟨vs[j]'(by omega),ae _⟩
     obtain⟨x2,hx2⟩:∃x2,ws[j]?=some x2:=⟨ws[j]'(by omega),ae _⟩
     obtain⟨y1,hy1,ry1⟩:=rv1.get hx1;obtain⟨y2,hy2,ry2⟩:=rv2.get hx2;obtain⟨t1,e1,p1'⟩:=AH.get hr1 hx1;obtain⟨t2,e2,p2'⟩:=AH.get hr2 hx2;have:=QW I n t1 t2 A.in1 x1 x2 y1 y2 (tt j t1 e1) (tu j t2 e2) (by show A.units+1+n<cLine;omega) p1' p2' ry1 ry2;rw[ae g1'] at hy1;rw[ae g2'] at hy2;cases hy1;cases hy2;simp only[List.getD,e1,e2,Option.getD_some];simpa using this)
    rw[LG ht hu];simp only[List.size_toArray,l1,l2] at q;exact fw hab q
   |non=>cases hu
   |bl _=>cases hu
   |lst _=>cases hu
  |non=>cases ht
  |bl _=>cases ht
  |lst _=>cases ht
end
section
variable {X:Cx}
def VC (neg:Bool):R2:=λx y H Q=>∃t u,Ge 8 t=true/\Ge 8 u=true/\Rep NL H t x/\Rep NL H u y/\Q (.bl (if neg then !decide (wT t=wT u) else decide (wT t=wT u))) H
theorem Qk {pins:List (Addr×Obj)} {σ:St} {H:Hp} {s:Shared} (I:Inv X pins σ H s) {n:Nat} {A:Around} {ts us:List Tr} {vs ws:List V} {its its2:List Value} (hA:A.units+1+n<cLine) (tt:∀(i:Nat) t,ts[i]?=some t->Ge n t=true) (tu:∀(i:Nat) t,us[i]?=some t->Ge n t=true)
  (hr1:AH NL H ts vs) (hr2:AH NL H us ws) (rv1:AD vs its) (rv2:AD ws its2) (j:Nat) (g1:j<its.toArray.size) (g2:j<its2.toArray.size):SeqAt.EqAt A.in1 s its.toArray[j] its2.toArray[j] (decide (wT (ts.getD j .non)=wT (us.getD j .non))):=by
 have g1':j<its.length:=by simpa using g1
 have g2':j<its2.length:=by simpa using g2
 have lv1:=rv1.length;have lv2:=rv2.length;obtain⟨x1,hx1⟩:∃x1,vs[j]?=some x1:=⟨vs[j]'(by omega),ae _⟩
 obtain⟨x2,hx2⟩:∃x2,ws[j]?=some x2:=⟨ws[j]'(by omega),ae _⟩
 obtain⟨y1,hy1,ry1⟩:=rv1.get hx1;obtain⟨y2,hy2,ry2⟩:=rv2.get hx2;obtain⟨t1,e1,p1'⟩:=AH.get hr1 hx1;obtain⟨t2,e2,p2'⟩:=AH.get hr2 hx2;have:=QW I n t1 t2 A.in1 x1 x2 y1 y2 (tt j t1 e1) (tu j t2 e2) (by show A.units+1+n<cLine;omega) p1' p2' ry1 ry2;rw[ae g1'] at hy1;rw[ae g2'] at hy2;cases hy1;cases hy2;simp only[List.getD,e1,e2,Option.getD_some];simpa using this
theorem TK (hu9:X.A.units+150<cLine):Fu X (compareOp .Eq) (VC false):=by
 intro pins s σ H x y v u Q I rx ry h;obtain⟨t,w,ht,hw,h1,h2,q⟩:=h;have fin:∀b:Bool,decide (wT t=wT w)=b->SeqAt.RcAt X.A s v u b->wpAny (model X.prog X.w) X.A (compareOp .Eq v u) (EP X pins σ Q) X.xe s:=λb e r=>by
  rw[e] at q;exact r _ _ _ _ ⟨.bl _,H,I,rfl,q⟩
 cases t with
 |int i=>
  cases(show x=V.int i from h1);obtain⟨t1,rfl⟩:=rx;cases w with
  |int j=>
   cases(show y=V.int j from h2);obtain⟨t2,rfl⟩:=ry;exact fin (i == j) (Ds ht hw (by rw[cM];exact⟨λe=>by rw[e],λe=>by cases e;rfl⟩)) (SeqAt.RcAt.int_int i t1 j t2)
  |str z=>
   cases(show y=V.str z from h2);obtain⟨t2,rfl⟩:=ry;exact fin false (Ds ht hw ⟨(λe=>nomatch e),(λe=>nomatch e)⟩) (SeqAt.RcAt.int_str i t1 z t2)
  |tup us=>
   obtain⟨b,ws,rfl,hb,_⟩:=h2;cases ry;obtain⟨its,_,p,_⟩:=I.tuple (AG.of (K:=X.K) hb);exact fin false (Ds ht hw ⟨(λe=>nomatch e),(λe=>nomatch e)⟩) (SeqAt.RcAt.int_tuple i t1 p (by omega))
  |non=>cases hw
  |bl _=>cases hw
  |lst _=>cases hw
 |str a=>
  cases(show x=V.str a from h1);obtain⟨t1,rfl⟩:=rx;cases w with
  |int j=>
   cases(show y=V.int j from h2);obtain⟨t2,rfl⟩:=ry;exact fin false (Ds ht hw ⟨(λe=>nomatch e),(λe=>nomatch e)⟩) (SeqAt.RcAt.str_int a t1 j t2)
  |str z=>
   cases(show y=V.str z from h2);obtain⟨t2,rfl⟩:=ry;exact fin (a == z) (Ds ht hw (by rw[cM];exact⟨λe=>by rw[e],λe=>by cases e;rfl⟩)) (SeqAt.RcAt.str_str a t1 z t2)
  |tup us=>
   obtain⟨b,ws,rfl,hb,_⟩:=h2;cases ry;obtain⟨its,_,p,_⟩:=I.tuple (AG.of (K:=X.K) hb);exact fin false (Ds ht hw ⟨(λe=>nomatch e),(λe=>nomatch e)⟩) (SeqAt.RcAt.str_tuple a t1 p (by omega))
  |non=>cases hw
  |bl _=>cases hw
  |lst _=>cases hw
 |tup ts=>
  obtain⟨a,vs,rfl,ha,hr1⟩:=h1;cases rx;obtain⟨its,rv1,p1,_⟩:=I.tuple (AG.of (K:=X.K) ha);cases w with
  |int j=>
   cases(show y=V.int j from h2);obtain⟨t2,rfl⟩:=ry;exact fin false (Ds ht hw ⟨(λe=>nomatch e),(λe=>nomatch e)⟩) (SeqAt.RcAt.tuple_int j t2 p1 (by omega))
  |str z=>
   cases(show y=V.str z from h2);obtain⟨t2,rfl⟩:=ry;exact fin false (Ds ht hw ⟨(λe=>nomatch e),(λe=>nomatch e)⟩) (SeqAt.RcAt.tuple_str z t2 p1 (by omega))
  |tup us=>
   obtain⟨b,ws,rfl,hb,hr2⟩:=h2;cases ry;obtain⟨its2,rv2,p2,_⟩:=I.tuple (AG.of (K:=X.K) hb);have l1:=rv1.length.symm.trans (AH.len ts vs hr1);have l2:=rv2.length.symm.trans (AH.len us ws hr2);have r:=eu (A:=X.A) (s:=s) (e:=λj=>decide (wT (ts.getD j .non)=wT (us.getD j .non))) p1 p2 (by omega) (λj g1 g2=>Qk I (n:=7) (by omega) (Dp ht).2 (Dp hw).2 hr1 hr2 rv1 rv2 j g1 g2);simp only[List.size_toArray,l1,l2] at r;exact fin _ (LG ht hw) r
  |non=>cases hw
  |bl _=>cases hw
  |lst _=>cases hw
 |non=>cases ht
 |bl _=>cases ht
 |lst _=>cases ht
end
end
section
variable {P:Program}{w:World}{K:W.Frag}{mg:Str->Option Value}{base:Heap}{f Ak Aa Ae:Addr}{XC:Nat->Addr}{fd:FuncData}
abbrev Vl:=List (Int×List Int)
def Vi (H:Hp):Key×V->Int×List Int->Prop:=λkv x=>kv.1=Sum.inl x.1/\∃r,kv.2=.ref r/\H r=some (.lst (x.2.map V.int))
def T7 (H:Hp)(kvs:List (Key×V))(b:Vl):Prop:=Paired (Vi H) kvs b
def VV (H:Hp)(ds:List Addr)(bs:List Vl):Prop:=Paired (λd b=>∃kvs,H d=some (.dK kvs)/\T7 H kvs b/\(b.map (·.1)).Nodup) ds bs
def UP (s:Addr)(n:Int)(lf:V):List (Str×V):=[("shelves",.ref s),("writes",.int n),("writes_left",lf)]
def V4 (Ak:Addr)(H:Hp)(p:Addr)(ds:List Addr)(bs:List Vl)(n:Int)(lf:V):Prop:=∃dx s,H p=some (.ins Ak dx (UP s n lf))/\H s=some (.lst (ds.map V.ref))/\ds.Nodup/\VV H ds bs
def D5 (K:W.Frag)(Ak:Addr):Sp:=λvs H Q _=>∃(p dx:Addr) (m:Nat),vs=[.ref p,.int m]/\2<=m/\m<=4/\H p=some (.ins Ak dx [])/\∀H' ds,V4 Ak H' p ds (List.replicate m []) 0 .non->(∀d∈ds,H d=none)->(∀b o,H b=some o->b≠p->H' b=some o)->Q .non H'
theorem JE (T:Txt K mg Ak Aa Ae XC)(F:Fun K "__init__" "Boards.__init__" BV f fd)(E8:Def P w K mg base 2 "is_between" ["thing","least","most"] (Ep K)):FnOk P w K mg base CZ 3 f fd ["self","many"] (D5 K Ak):=by
 exists JC
 ·obtain⟨p,dx,m,rfl,_⟩:=h;rfl
 obtain⟨p,dx,m,rfl,m1,m2,h1,q⟩:=h;refine⟨_,(!Ag (!BQ (!GK (!FD (!AU E8 (by trivial) rfl (!Ab (pv 1) (!Ab (!Bi rfl T.c_LEAST_BOARDS) (!Ab (!Bi rfl T.c_MOST_BOARDS) (!Ah))))) (by intro _;rfl))) (!Al (!G6)) (!AX)) (!Ag (!Cv (pv 0) (@BA _ ["board"] _ _ _ _ _ _ _ _ _ _ rfl (!Bg rfl T.b_range (!Ab (pv 1) (!Ah))) (by decide +kernel) (λC s H fp=>⟨(@Aq _ _ (0) _ (show(["board"]:List Str).Nodup by decide +kernel) rfl (by trivial) (by trivial)),(!A6),(!Cc)⟩) (by intro _;rfl))) (!Ag (!Cv (pv 0) (!Ad)) (!Al (!Cv (pv 0) (!Qv)))))),?_⟩
 try dsimp only[Bw,Cx.nox,Cx.wish]
 refine⟨_,rfl,.int m,2,4,rfl,trivial,_,rfl,Cu ?_ ?_⟩
 ·show(!(decide ((2:Int)<=(m:Int))&&decide ((m:Int)<=4)))=false;rw[aI (show(2:Int)<=(m:Int) by omega),aI (show(m:Int)<=4 by omega)];rfl
 refine⟨_,rfl,m,rfl,by omega,by omega,?_⟩;refine Lb (xs:=(List.range (m:Int).toNat).map λ(i:Nat)=>V.int (0+(i:Int))) (λi ys l H'=>An H H'/\∃ds:List Addr,ys=ds.map V.ref/\ds.Nodup/\∀d∈ds,H' d=some (.dK [])/\H d=none) (by rw[aa,bL];omega) (λi ys l H' _=>Qq) (λl hl=>⟨Ai hl _,[],rfl,bS,λ_ h=>nomatch h⟩) (λi x ys l H' R hx hl hl' hlen hI hR d hd=>?_) λl H1 ys hl hl1 ly hI=>?_
 ·obtain⟨s',ds,rfl,nd,hds⟩:=hI;have nld:l≠d:=Bh hl' hd;refine hR _ _ (by rw[Af nld];exact hl') ⟨AI (AI s' (s'.free hd) _) hl _,ds++[d],by rw[aj];rfl,?_,λe he=>?_⟩
  ·rw[bB];refine⟨nd,by simp,λe he g hg=>?_⟩;rw[ai.mp hg];intro z;have:=(hds e he).1;rw[z,hd] at this;cases this
  ·have nel:∀{o},H' e=some (.dK o)->e≠l:=λq=>Bs q hl' (by intro z;cases z)
   rcases au.mp he with he|he
   ·obtain⟨g1,g2⟩:=hds e he;exact⟨by rw[Af (nel g1),Af (Bh g1 hd)];exact g1,g2⟩
   ·rw[ai.mp he];exact⟨by rw[Af nld.symm,Ac],s'.free hd⟩
 obtain⟨s1,ds,rfl,nd,hds⟩:=hI;have lds:ds.length=m:=by rw[aa,aa,bL] at ly;omega
 have p1:=s1.get h1;have npl:l≠p:=Bs hl1 p1 (by intro z;cases z);refine⟨_,rfl,p,Ak,dx,[],rfl,p1,T.cl_Boards,T.n_Boards_shelves,(by show 0<1000;decide),?_⟩;refine⟨_,rfl,p,Ak,dx,_,rfl,Ac,T.cl_Boards,T.n_Boards_writes,(by show 1<1000;decide),?_⟩;refine⟨_,rfl,p,Ak,dx,_,rfl,Ac,T.cl_Boards,T.n_Boards_writes_left,(by show 2<1000;decide),?_⟩;rw[Gh,Gh];refine q _ ds ⟨dx,l,Ac,by rw[Af npl];exact hl1,nd,?_⟩ (λd hd=>(hds d hd).2) λb o e hb=>?_
 ·have all:∀(es:List Addr),(∀d∈es,d∈ds)->VV (upd H1 p (.ins Ak dx (Ea "writes_left" V.non (Ea "writes" (V.int 0) (Ea "shelves" (V.ref l) []))))) es (List.replicate es.length []):=by
   intro es
   induction es with
   |nil=>intro _;exact .nil
   |cons d es ih=>
    intro hm;refine .cons ⟨[],?_,.nil,bS⟩ (ih λe he=>hm e (aM _ he));have:=(hds d (hm d ax)).1;rw[Af (Bs this p1 (by intro z;cases z))];exact this
  have:=all ds λ_ h=>h
  rw[lds] at this;exact this
 ·rw[Af hb];exact s1.get e
abbrev Tg:=Int×Int×Int
structure En where
 nm:Str
 kd:Int
 tg:Tg
inductive Bk where
 |piece (z:Str)
 |row (lv:Int) (ts:List Tg)
 |folder (es:List En)
def FJ (t:Tg):Tr:=.tup [.int t.1,.int t.2.1,.int t.2.2]
def Kn (e:En):Tr:=.tup [.str e.nm,.int e.kd,FJ e.tg]
def Dy:Bk->Tr
 | .piece z=>.tup [.int 0,.str z]
 | .row lv ts=>.tup [.int 1,.int lv,.tup (ts.map FJ)]
 | .folder es=>.tup [.int 2,.tup (es.map Kn)]
def JR (t:Tg):Prop:=(1<=t.1/\t.1<=999999)/\(0<=t.2.1/\t.2.1<=999999999)/\0<=t.2.2/\t.2.2<=996
def RK (e:En):Prop:=Iu (.str e.nm)=true/\(1<=e.kd/\e.kd<=2)/\JR e.tg
def UT (lv:Int)(ts:List Tg):Prop:=ts.length<=8/\(1<lv->ts≠[])/\∀t∈ts,JR t
def U3 (es:List En):Prop:=es.length<=16/\(∀e∈es,RK e)/\PyProof.Rows.sortedS (es.map (·.nm))=true/\(es.map (·.nm)).Nodup
def GV:Bk->Prop
 | .piece z=>Hc 1 8 (.str z)=true
 | .row lv ts=>(1<=lv/\lv<=9)/\UT lv ts
 | .folder es=>U3 es
theorem Jd {H:Hp}{t:Tg}{v:V}(h:Rep NL H (FJ t) v):∃a,v=.ref a/\H a=some (.tup [.int t.1,.int t.2.1,.int t.2.2]):=by
 obtain⟨a,vs,rfl,e,x1,u1,rfl,rfl,x2,u2,rfl,rfl,x3,u3,rfl,rfl,rfl⟩:=h;exact⟨a,rfl,e⟩
theorem HA {H:Hp}{t:Tg}{a:Addr}(e:H a=some (.tup [.int t.1,.int t.2.1,.int t.2.2])):Rep NL H (FJ t) (.ref a):=⟨a,_,rfl,e,_,_,rfl,rfl,_,_,rfl,rfl,_,_,rfl,rfl,rfl⟩
theorem Et {H:Hp}{x:En}{v:V}(h:Rep NL H (Kn x) v):∃a b,v=.ref a/\H a=some (.tup [.str x.nm,.int x.kd,.ref b])/\H b=some (.tup [.int x.tg.1,.int x.tg.2.1,.int x.tg.2.2]):=by
 obtain⟨a,vs,rfl,e,x1,u1,rfl,rfl,x2,u2,rfl,rfl,x3,u3,rfl,r3,rfl⟩:=h;obtain⟨b,rfl,e2⟩:=Jd r3;exact⟨a,b,rfl,e,e2⟩
theorem Tf {H:Hp}{x:En}{a b:Addr}(e:H a=some (.tup [.str x.nm,.int x.kd,.ref b]))(e2:H b=some (.tup [.int x.tg.1,.int x.tg.2.1,.int x.tg.2.2])):Rep NL H (Kn x) (.ref a):=⟨a,_,rfl,e,_,_,rfl,rfl,_,_,rfl,rfl,_,_,rfl,HA e2,rfl⟩
theorem Gg {H:Hp}{z:Str}{v:V}(h:Rep NL H (Dy (.piece z)) v):∃a,v=.ref a/\H a=some (.tup [.int 0,.str z]):=by
 obtain⟨a,vs,rfl,e,x1,u1,rfl,rfl,x2,u2,rfl,rfl,rfl⟩:=h;exact⟨a,rfl,e⟩
theorem IU {H:Hp}{lv:Int}{ts:List Tg}{v:V}(h:Rep NL H (Dy (.row lv ts)) v):∃a b vs,v=.ref a/\H a=some (.tup [.int 1,.int lv,.ref b])/\H b=some (.tup vs)/\AH NL H (ts.map FJ) vs:=by
 obtain⟨a,vs,rfl,e,x1,u1,rfl,rfl,x2,u2,rfl,rfl,x3,u3,rfl,⟨b,us,rfl,e2,r⟩,rfl⟩:=h;exact⟨a,b,us,rfl,e,e2,r⟩
theorem Dk {H:Hp}{es:List En}{v:V}(h:Rep NL H (Dy (.folder es)) v):∃a b vs,v=.ref a/\H a=some (.tup [.int 2,.ref b])/\H b=some (.tup vs)/\AH NL H (es.map Kn) vs:=by
 obtain⟨a,vs,rfl,e,x1,u1,rfl,rfl,x2,u2,rfl,⟨b,us,rfl,e2,r⟩,rfl⟩:=h;exact⟨a,b,us,rfl,e,e2,r⟩
theorem Gf {α:Type}{g:α->Tr}{H:Hp}{xs:List α}{vs:List V}(h:AH NL H (xs.map g) vs){v:V}(hv:v∈vs):∃x∈xs,Rep NL H (g x) v:=by
 obtain⟨i,hi,e⟩:=cn hv;obtain⟨t,ht,r⟩:=AH.get h (show vs[i]?=some v by rw[ae hi,e]);rw[aB] at ht;cases z:xs[i]? with
 |none=>rw[z] at ht;cases ht
 |some x=>
  rw[z] at ht;cases ht;exact⟨x,az z,r⟩
theorem PB {t:Tg}(h:JR t)(n:Nat):Ge (n+2) (FJ t)=true:=by
 obtain⟨⟨a1,a2⟩,⟨b1,b2⟩,c1,c2⟩:=h;simp only[FJ,Ge,List.all_cons,List.all_nil,List.length_cons,List.length_nil,Bool.and_true,Bool.and_eq_true,decide_eq_true_eq];omega
theorem EI {z:Str}(h:Iu (.str z)=true):1<=z.length/\z.length<=8/\Bt SG z=true/\∀c∈Be z,c∈Be SG:=by
 have h':(decide ((1:Int)<=z.length)&&decide ((z.length:Int)<=8)&&Bt LN z)=true:=h;simp only[Bool.and_eq_true,decide_eq_true_eq] at h';have a:Bt SG z=true:=by
  have:=h'.2;rw[<-Ke,aU] at this;exact this.1
 refine⟨by omega,by omega,a,λc hc=>?_⟩;have:=aX.mp a c hc;simpa using this
theorem T1 {x:En}(h:RK x)(n:Nat):Ge (n+3) (Kn x)=true:=by
 obtain⟨a,b,c⟩:=h;obtain⟨n1,n2,n3,_⟩:=EI a;have d:=PB c n;simp only[Kn,Ge,List.all_cons,List.all_nil,List.length_cons,List.length_nil,Bool.and_true,Bool.and_eq_true,decide_eq_true_eq,n3,d,and_true];omega
theorem Ju {b:Bk}(h:GV b):Ge 8 (Dy b)=true:=by
 cases b with
 |piece z=>
  have h':(decide ((1:Int)<=(z.length:Int))&&decide ((z.length:Int)<=8)&&Bt SG z)=true:=h;simp only[Bool.and_eq_true,decide_eq_true_eq] at h';simp only[Dy,Ge,List.all_cons,List.all_nil,List.length_cons,List.length_nil,Bool.and_true,Bool.and_eq_true,decide_eq_true_eq,h'.2,and_true];omega
 |row lv ts=>
  obtain⟨l,n,_,o⟩:=h;have d:(ts.map FJ).all (Ge 6)=true:=aX.mpr λt ht=>by
   obtain⟨x,hx,rfl⟩:=ah.mp ht;exact PB (o x hx) 4
  simp only[Dy,Ge,List.all_cons,List.all_nil,List.length_cons,List.length_nil,List.length_map,Bool.and_true,Bool.and_eq_true,decide_eq_true_eq,d,and_true];omega
 |folder es=>
  obtain⟨n,o,_⟩:=h;have d:(es.map Kn).all (Ge 6)=true:=aX.mpr λt ht=>by
   obtain⟨x,hx,rfl⟩:=ah.mp ht;exact T1 (o x hx) 3
  simp only[Dy,Ge,List.all_cons,List.all_nil,List.length_cons,List.length_nil,List.length_map,Bool.and_true,Bool.and_eq_true,decide_eq_true_eq,d,and_true];omega
theorem Q5:∀{es:List En} {us:List V} {H:Hp},AH NL H (es.map Kn) us->(us.map λv=>match v with | .ref x=>(match H x with|some (.tup (y::_))=>y|_=>.non)|_=>.non)=(es.map (·.nm)).map V.str
 |[],us,H,r=>by rw[show us=[] from r];rfl
 |e::es,us,H,r=>by
  obtain⟨v,us',rfl,r1,r2⟩:=r;obtain⟨a,b,rfl,e1,_⟩:=Et r1;rw[aq,aq,aq,Q5 r2];simp only[e1]
theorem Ow {J:It} {xs:List V} {te:TE} {Q:VK} {σ:St} {H:Hp} (f:V->V) (hJ:HB J H xs) (hn:xs.length<=1000000) (htg:∀x∈xs,∃a x1 x2 x3,x=.ref a/\H a=some (.tup [x1,x2,x3]))
  (helt:∀a x1 x2 x3 (H':Hp) (R:VK),V.ref a∈xs->H a=some (.tup [x1,x2,x3])->An H H'->(∀H'',An H' H''->R (f (.ref a)) H'')->te [some x1,some x2,some x3] H' R)
  (hQ:∀l H',H l=none->An H H'->H' l=some (.lst (xs.map f))->Q (.ref l) H') :
  DW [none,none,none] (P8 K 3 (GZ (Az 0) (GZ (Az 1) (GZ (Az 2) RO)))) NB te σ Q J H:=by
 intro l hl;refine⟨λi m σ' H'=>m=xs.length-i/\i<=xs.length/\(∃y0 y1 y2,σ'=[y0,y1,y2])/\An H H'/\H' l=some (.lst ((xs.take i).map f)),⟨xs.length,by simp,bw _,⟨_,_,_,rfl⟩,Ai hl _,by rw[Ac,dC,cu]⟩,?_⟩
 rintro i m σ' H' ⟨rfl,hi,⟨y0,y1,y2,rfl⟩,hs,hl'⟩
 obtain⟨h1,h2,h3⟩:=hJ H' hs i
 by_cases hlt:i<xs.length
 ·refine .inr ⟨h1 hlt,λx H'' y=>?_⟩;obtain⟨rfl,hx⟩:=h2 x H'' y;have hx:=hx hlt;obtain⟨a,x1,x2,x3,rfl,ha⟩:=htg x (az hx);refine⟨a,_,rfl,AG.of (hs.get ha),rfl,_,_,rfl,_,_,rfl,_,_,rfl,rfl,?_⟩;refine helt a x1 x2 x3 H'' _ (az hx) ha hs λH4 s4=>?_
  refine⟨_,s4.get hl',AO (by rw[aa,aP];omega),xs.length-(i+1),by omega,rfl,hlt,⟨_,_,_,rfl⟩,AI (hs.trans s4) hl _,?_⟩;rw[Ac,aR,hx];simp
 ·have e:i=xs.length:=by omega
  subst e;exact .inl ⟨h3 (ak _),hQ l H' hl hs (by rw[hl',ba (ak _)])⟩
def DF (x:En):List Int:=(Be x.nm).map idx++[x.kd,x.tg.2.2]
def told:Bk->List Int
 | .piece z=>(Be z).map idx
 | .row lv ts=>lv::ts.map (·.2.2)
 | .folder es=>es.flatMap DF
theorem idx_map (z:Str):((z.cps.toList.map λc=>V.str ⟨#[c]⟩).map λv=>match v with|V.str y=>V.int (PySem.Txt.find SG y)|_=>V.non)=((Be z).map idx).map V.int:=by
 rw[ar,ar];rfl
theorem Ly:∀{ts:List Tg} {us:List V} {H:Hp},AH NL H (ts.map FJ) us->(us.map λv=>match v with | .ref x=>(match H x with|some (.tup [_,_,y])=>y|_=>.non)|_=>.non)=(ts.map (·.2.2)).map V.int
 |[],us,H,r=>by rw[show us=[] from r];rfl
 |e::es,us,H,r=>by
  obtain⟨v,us',rfl,r1,r2⟩:=r;obtain⟨a,rfl,e1⟩:=Jd r1;rw[aq,aq,aq,Ly r2];simp only[e1]
theorem OI {es:List En}{i:Nat}{x:En}(h:es[i]?=some x):(es.take (i+1)).flatMap DF=(es.take i).flatMap DF++DF x:=by
 rw[aR,h,List.flatMap_append];simp
theorem Qz {es:List En}(h:∀x∈es,(DF x).length<=10):(es.flatMap DF).length<=10*es.length:=by
 induction es with
 |nil=>exact ak _
 |cons x r ih=>
  rw[List.flatMap_cons,ao,bc];have:=h x ax;have:=ih λy hy=>h y (aM _ hy)
  omega
theorem TB {x:En}(h:RK x):(DF x).length<=10:=by
 have:=(EI h.1).2.1;unfold DF;rw[ao,aa,A1];show x.nm.length+2<=10;omega
def DE (K:W.Frag):Sp:=λvs H Q _=>∃v b,vs=[v]/\Rep NL H (Dy b) v/\GV b/\∀l H',An H H'->H l=none->H' l=some (.lst ((told b).map V.int))->Q (.ref l) H'
theorem IC (T:Txt K mg Ak Aa Ae XC)(F:Fun K "numbers_told" "numbers_told" BF f fd)(A3:Def P w K mg base 1 "number_of" ["sign"] (Cf K)):FnOk P w K mg base CZ 2 f fd ["block"] (DE K):=by
 exists BS
 ·obtain⟨v,b,rfl,_⟩:=h;rfl
 obtain⟨v,b,rfl,hv,ok,q⟩:=h;refine⟨_,(!Ag (!BQ (!AC B9 (!Am Ay (pv 0) (!Ad) (λ_ _=>rfl)) (!Bi rfl T.c_PIECE) (AL _)) (!Al (!Av (@BA _ ["sign"] _ _ _ _ _ _ _ _ _ _ rfl (!Jg (!Am Ay (pv 0) (!Ad) (λ_ _=>rfl))) (by decide +kernel) (λC s H fp=>⟨(@Aq _ _ (0) _ (show(["sign"]:List Str).Nodup by decide +kernel) rfl (by trivial) (by trivial)),(!A6),(!AU A3 (by trivial) rfl (!Ab (pv 0) (!Ah)))⟩) (by intro _;rfl)))) (!AX)) (!Ag (!BQ (!AC B9 (!Am Ay (pv 0) (!Ad) (λ_ _=>rfl)) (!Bi rfl T.c_ROW) (AL _)) (!Al (!Av (!Ao G2 (!A5 (!Ab (!Am Ay (pv 0) (!Ad) (λ_ _=>rfl)) (!Ah))) (@BA _ ["tag"] _ _ _ _ _ _ _ _ _ _ rfl (!BZ (!Am Ay (pv 0) (!Ad) (λ_ _=>rfl))) (by decide +kernel) (λC s H fp=>⟨(@Aq _ _ (0) _ (show(["tag"]:List Str).Nodup by decide +kernel) rfl (by trivial) (by trivial)),(!A6),(!Am (AJ (K:=K) (by rfl)) (pv 0) (!Ad) (λ_ _=>rfl))⟩) (by intro _;rfl))))) (!AX)) (!Ag (@Au _ _ (1) _ _ _ _ BS.nd rfl (by trivial) (!A5 (!Ah)) (by rfl) (by trivial)) (!Ag (!BJ aW rfl (!BZ (!Am Ay (pv 0) (!Ad) (λ_ _=>rfl))) (!JA rfl (!AZ (@Aq _ _ (2) _ BS.nd rfl (by trivial) (by trivial)) (!AZ (@Aq _ _ (3) _ BS.nd rfl (by trivial) (by trivial)) (!AZ (@Aq _ _ (4) _ BS.nd rfl (by trivial) (by trivial)) (!Ed))))) (!Ag (!Bc (!CA aK cg cf DU (pv 1) (!Ab (@BA _ ["sign"] _ _ _ _ _ _ _ _ _ _ rfl (!Jg (pv 2)) (by decide +kernel) (λC s H fp=>⟨(@Aq _ _ (0) _ (show(["sign"]:List Str).Nodup by decide +kernel) rfl (by trivial) (by trivial)),(!A6),(!AU A3 (by trivial) rfl (!Ab (pv 0) (!Ah)))⟩) (by intro _;rfl)) (!Ah)))) (!Al (!Bc (!CA aK cg cf DU (pv 1) (!Ab (!A5 (!Ab (pv 3) (!Ab (!Am Ay (pv 4) (!Ad) (λ_ _=>rfl)) (!Ah)))) (!Ah)))))) (by intro _;rfl)) (!Al (!Av (pv 1))))))),?_⟩;cases b with
 |piece z=>
  obtain⟨a,rfl,e⟩:=Gg hv;have h':(decide ((1:Int)<=(z.length:Int))&&decide ((z.length:Int)<=8)&&Bt SG z)=true:=ok;simp only[Bool.and_eq_true,decide_eq_true_eq] at h';have zs:∀c∈Be z,c∈Be SG:=λc hc=>by simpa using aX.mp h'.2 c hc
  refine⟨_,rfl,a,_,_,_,rfl,rfl,AG.of e,rfl,rfl,_,rfl,Ft rfl ?_⟩;refine⟨_,rfl,a,_,_,_,rfl,rfl,AG.of e,rfl,z,rfl,?_⟩;refine comp_map (λv=>match v with | .str y=>.int (PySem.Txt.find SG y)|_=>.non) FV (by rw[aa];exact bq (cO (A1 z)) (by omega)) (λx H' R hx s' hR=>?_) λl H7 n7 s7 h7=>?_
  ·obtain⟨u,hu,rfl⟩:=ah.mp hx;exact⟨_,rfl,_,rfl,(Js (zs u hu)).1,hR H' (An.refl _)⟩
  rw[idx_map] at h7;exact q l H7 s7 n7 h7
 |row lv ts=>
  obtain⟨a,b,us,rfl,e,e2,r⟩:=IU hv;have lu:=AH.len _ _ r;rw[aa] at lu;have l8:=ok.2.1;refine⟨_,rfl,a,_,_,_,rfl,rfl,AG.of e,rfl,rfl,_,rfl,Cu rfl ?_⟩;refine⟨_,rfl,a,_,_,_,rfl,rfl,AG.of e,rfl,rfl,_,rfl,Ft rfl ?_⟩;refine⟨_,rfl,a,_,_,_,rfl,rfl,AG.of e,rfl,Pr,λp1 hp1=>?_⟩;have s1:=Ai hp1 (.lst [V.int lv]);have e2':=s1.get e2;have r':=AH.same s1 _ _ r;refine⟨_,rfl,a,_,_,_,rfl,rfl,AG.of (s1.get e),rfl,b,rfl,⟨_,AG.of e2'⟩,comp_map (λv=>match v with | .ref x=>(match(upd H p1 (.lst [V.int lv])) x with|some (.tup [_,_,y])=>y|_=>.non)|_=>.non) (By e2') (by omega) (λx H' R hx s' hR=>?_) λl H7 n7 s7 h7=>?_⟩
  ·obtain⟨t,ht,rt⟩:=Gf r' hx;obtain⟨c,rfl,ec⟩:=Jd rt;have:=hR H' (An.refl _);simp only[ec] at this;exact⟨_,rfl,c,_,_,_,rfl,rfl,AG.of (s'.get ec),rfl,this⟩
  rw[Ly r'] at h7;refine⟨p1,l,_,_,rfl,rfl,AB.of (s7.get Ac),AB.of h7,small (by rw[aa,aa];show 1+ts.length<=1000000;omega),λp hp=>?_⟩;exact q p _ ((s1.trans s7).trans (Ai hp _)) ((s1.trans s7).free hp) Ac
 |folder es=>
  obtain⟨a,b,us,rfl,e,e2,r⟩:=Dk hv;have lu:=AH.len _ _ r;rw[aa] at lu;obtain⟨o1,o2,_⟩:=ok;refine⟨_,rfl,a,_,_,_,rfl,rfl,AG.of e,rfl,rfl,_,rfl,Cu rfl ?_⟩;refine⟨_,rfl,a,_,_,_,rfl,rfl,AG.of e,rfl,rfl,_,rfl,Cu rfl ?_⟩;refine⟨Fv,λg hg=>?_⟩;have sg:=Ai hg (.lst []);refine⟨_,rfl,a,_,_,_,rfl,rfl,AG.of (sg.get e),rfl,b,rfl,⟨_,AG.of (sg.get e2)⟩,IS (K:=K) (a:=b) (xs:=us) (λi σ H2=>∃v2 v3 v4,σ=[some (.ref a),some (.ref g),v2,v3,v4]/\An H H2/\H2 g=some (.lst (((es.take i).flatMap DF).map V.int))) ⟨none,none,none,rfl,sg,Ac⟩ (by rintro i σ H2 _ ⟨_,_,_,_,s2,_⟩;exact AG.of (s2.get e2)) ?_ ?_⟩
  ·rintro i y σ H2 hi ⟨v2,v3,v4,rfl,s2,hg2⟩
   obtain⟨t,ht,ry⟩:=AH.get r hi;rw[aB] at ht;cases z:es[i]? with
   |none=>rw[z] at ht;cases ht
   |some x=>
    rw[z] at ht;cases ht;obtain⟨c,d,rfl,ec,ed⟩:=Et ry;have ox:=o2 x (az z);obtain⟨n1,n2,_,n4⟩:=EI ox.1;have tl:((es.take i).flatMap DF).length<=160:=by
     have:=Qz (es:=es.take i) λy hy=>TB (o2 y (eF hy))
     rw[aP] at this;omega
    refine⟨c,_,rfl,AG.of (s2.get ec),rfl,_,_,rfl,_,_,rfl,_,_,rfl,rfl,?_⟩;refine⟨_,rfl,.inl ⟨rfl,_,AB.of hg2⟩,_,rfl,x.nm,rfl,?_⟩;refine comp_map (λv=>match v with | .str y=>.int (PySem.Txt.find SG y)|_=>.non) FV (by rw[aa];exact bq (cO (A1 x.nm)) (by omega)) (λu H' R hu s' hR=>?_) λl H7 n7 s7 h7=>?_
    ·obtain⟨k,hk,rfl⟩:=ah.mp hu;exact⟨_,rfl,_,rfl,(Js (n4 k hk)).1,hR H' (An.refl _)⟩
    rw[idx_map] at h7;refine⟨g,l,_,_,rfl,rfl,s7.get hg2,h7,small (by rw[aa,aa,aa,A1];omega),?_⟩;have t7:=AI (s2.trans s7) hg (.lst (((es.take i).flatMap DF).map V.int++((Be x.nm).map idx).map V.int));refine⟨_,rfl,.inl ⟨rfl,_,AB.of Ac⟩,_,rfl,_,rfl,d,_,_,_,rfl,rfl,AG.of (t7.get ed),rfl,GR,λp hp=>?_⟩;have t8:=Ai hp (.lst [V.int x.kd,V.int x.tg.2.2]);refine⟨g,p,_,_,rfl,rfl,t8.get Ac,Ac,small (by rw[ao,aa,aa,aa,A1];show _+_+2<=_;omega),?_⟩;refine⟨_,_,_,rfl,AI (t7.trans t8) hg _,?_⟩;rw[Ac,OI z,aj];unfold DF;rw[aj,cz];rfl
  ·rintro σ H2 ⟨v2,v3,v4,rfl,s2,hg2⟩
   rw[lu,ba (ak _)] at hg2;exact⟨_,rfl,q g H2 s2 hg hg2⟩
def kindB:Bk->Int
 | .piece _=>0
 | .row _ _=>1
 | .folder _=>2
def Bn (b:Bk):Int:=(told b).foldl (λt n=>(31*t+n+1)%997) (1+kindB b)
theorem LU {H:Hp}{b:Bk}{v:V}(h:Rep NL H (Dy b) v):∃a xs,v=.ref a/\H a=some (.tup (.int (kindB b)::xs)):=by
 cases b with
 |piece z=>obtain⟨a,rfl,e⟩:=Gg h;exact⟨a,_,rfl,e⟩
 |row lv ts=>obtain⟨a,b,us,rfl,e,_⟩:=IU h;exact⟨a,_,rfl,e⟩
 |folder es=>obtain⟨a,b,us,rfl,e,_⟩:=Dk h;exact⟨a,_,rfl,e⟩
theorem Me {x:V}{xs:List V}:Ih (x::xs) 0=some x:=by
 unfold Ih Q8;simp
theorem ints_get {ns:List Int}{i:Nat}{y:V}(h:(ns.map V.int)[i]?=some y):∃n,y=.int n/\ns[i]?=some n:=by
 rw[aB] at h;cases z:ns[i]? with
 |none=>rw[z] at h;cases h
 |some n=>rw[z] at h;cases h;exact⟨n,rfl,rfl⟩
theorem OW {f:Int->Int->Int}{z:Int}{ns:List Int}{i:Nat}{n:Int}(h:ns[i]?=some n):(ns.take (i+1)).foldl f z=f ((ns.take i).foldl f z) n:=by
 rw[aR,h,List.foldl_append];rfl
def Gm (K:W.Frag):Sp:=λvs H Q _=>∃v b,vs=[v]/\Rep NL H (Dy b) v/\GV b/\∀H',An H H'->Q (.int (Bn b)) H'
theorem Oj (T:Txt K mg Ak Aa Ae XC)(F:Fun K "sum_of" "sum_of" EG f fd)(DV:Def P w K mg base 2 "numbers_told" ["block"] (DE K)):FnOk P w K mg base CZ 3 f fd ["block"] (Gm K):=by
 exists Gn
 ·obtain⟨v,b,rfl,_⟩:=h;rfl
 obtain⟨v,b,rfl,hv,ok,q⟩:=h;obtain⟨a,xs,rfl,e⟩:=LU hv;refine⟨_,(!Ag (@Au _ _ (1) _ _ _ _ Gn.nd rfl (by trivial) (!Ao AF (!Ad) (!Am Ay (pv 0) (!Ad) (λ_ _=>rfl))) (by rfl) (by trivial)) (!Ag (!BJ aW rfl (!C0 (!AU DV (by trivial) rfl (!Ab (pv 0) (!Ah)))) (@Aq _ _ (2) _ Gn.nd rfl (by trivial) (by trivial)) (!Al (@Au _ _ (1) _ _ _ _ Gn.nd rfl (by trivial) (!Ao AN (!Ao AF (!Ao AF (!Ao BI (!Ad) (pv 1)) (pv 2)) (!Ad)) (!Bi rfl T.c_SUM_RESTS)) (by rfl) (by trivial))) (by intro _;rfl)) (!Al (!Av (pv 1))))),?_⟩;refine⟨_,rfl,a,_,_,_,rfl,rfl,AG.of e,Me,_,_,rfl,rfl,?_⟩;refine⟨_,rfl,_,b,rfl,hv,ok,λl H1 s1 n1 h1=>?_⟩;refine⟨l,rfl,⟨_,AB.of h1⟩,EF (K:=K) (a:=l) (xs:=(told b).map V.int) (λi σ H2=>∃v2,σ=[some (.ref a),some (.int (((told b).take i).foldl (λt n=>(31*t+n+1)%997) (1+kindB b))),v2]/\An H1 H2) ⟨none,rfl,An.refl _⟩ (λi σ H2 _ ⟨_,_,s2⟩=>AB.of (s2.get h1)) ?_ ?_⟩
 ·rintro i y σ H2 hi ⟨v2,rfl,s2⟩
  obtain⟨n,rfl,hn⟩:=ints_get hi;refine⟨_,rfl,_,_,rfl,rfl,.inl ⟨by decide,by decide⟩,_,rfl,_,_,rfl,rfl,_,_,rfl,rfl,_,_,rfl,rfl,(show(0:Int)<997 by decide),?_⟩;refine⟨some (.int n),?_,s2⟩;rw[OW hn];rfl
 ·rintro σ H2 ⟨v2,rfl,s2⟩
  rw[aa,cb];exact⟨_,rfl,q H2 (s1.trans s2)⟩
theorem Om (ts:List Tg):(wTs (ts.map FJ)).length=8*ts.length:=by
 induction ts with
 |nil=>rfl
 |cons t r ih=>
  rw[aq];show(wT (FJ t)++wTs (r.map FJ)).length=_;rw[ao,ih,bc];have:(wT (FJ t)).length=8:=rfl;omega
def SS:Bk->Nat
 | .piece z=>6+z.length
 | .row _ ts=>8+8*ts.length
 | .folder es=>6+(es.map λx=>14+x.nm.length).sum
theorem PV (es:List En):(wTs (es.map Kn)).length=(es.map λx=>14+x.nm.length).sum:=by
 induction es with
 |nil=>rfl
 |cons x r ih=>
  rw[aq,aq,fN,<-ih];show(wT (Kn x)++wTs (r.map Kn)).length=_;rw[ao];have:(wT (Kn x)).length=14+x.nm.length:=by
   show(2::((3:Int))::((1::(x.nm.length:Int)::(Be x.nm).map idx)++([0,x.kd]++(wT (FJ x.tg)++[])))).length=_;have t8:(wT (FJ x.tg)).length=8:=rfl;simp only[List.length_cons,List.length_append,List.length_map,A1,List.length_nil,t8];omega
  omega
theorem SC (b:Bk):(wT (Dy b)).length=SS b:=by
 cases b with
 |piece z=>
  show(2::(2:Int)::([0,0]++((1::(z.length:Int)::(Be z).map idx)++[]))).length=6+z.length;simp only[List.length_cons,List.length_append,List.length_map,A1,List.length_nil];omega
 |row lv ts=>
  show(2::(3:Int)::([0,1]++([0,lv]++((2::((ts.map FJ).length:Int)::wTs (ts.map FJ))++[])))).length=8+8*ts.length;simp only[List.length_cons,List.length_append,List.length_nil,Om];omega
 |folder es=>
  show(2::(2:Int)::([0,2]++((2::((es.map Kn).length:Int)::wTs (es.map Kn))++[]))).length=6+(es.map λx=>14+x.nm.length).sum;simp only[List.length_cons,List.length_append,List.length_nil,PV];omega
theorem size_le {b:Bk}(h:GV b):SS b<=500:=by
 cases b with
 |piece z=>
  have h':(decide ((1:Int)<=(z.length:Int))&&decide ((z.length:Int)<=8)&&Bt SG z)=true:=h;simp only[Bool.and_eq_true,decide_eq_true_eq] at h';show 6+z.length<=500;omega
 |row lv ts=>
  have:=h.2.1;show 8+8*ts.length<=500;omega
 |folder es=>
  have n:=h.1;have s0:∀l:List En,(∀x∈l,RK x)->(l.map λx=>14+x.nm.length).sum<=22*l.length:=λl=>by
   induction l with
   |nil=>intro _;exact ak _
   |cons x r ih=>
    intro hx;rw[aq,fN,bc];have:=ih λy hy=>hx y (aM _ hy)
    have:=(EI (hx x ax).1).2.1;omega
  have:=s0 es h.2.1;show 6+_<=500;omega
def GI (K:W.Frag):Sp:=λvs H Q _=>∃v b,vs=[v]/\Rep NL H (Dy b) v/\GV b/\∀H',An H H'->Q (.int ((wT (Dy b)).length:Int)) H'
theorem MJ (T:Txt K mg Ak Aa Ae XC)(F:Fun K "size_of" "size_of" DP f fd)(DX:Def P w K mg base 9 "words_of" ["thing"] (Ga K)):FnOk P w K mg base CZ 10 f fd ["block"] (GI K):=by
 exists Ny
 ·obtain⟨v,b,rfl,_⟩:=h;rfl
 obtain⟨v,b,rfl,hv,ok,q⟩:=h;refine⟨_,(!Al (!Av (!AA AQ (by rfl) T.b_len Cy (!Ab (!AU DX (by trivial) rfl (!Ab (pv 0) (!Ah))) (!Ah))))),?_⟩
 try dsimp only[Bw,Cx.nox,Cx.wish]
 have:=SC b;have:=size_le ok;refine⟨_,rfl,v,Dy b,rfl,hv,Ju ok,by omega,λwl H2 s2 nw hw=>⟨wl,_,rfl,.inl (AB.of hw),?_⟩⟩;rw[aa];exact q _ s2
def AM:Bk->List Tg
 | .piece _=>[]
 | .row _ ts=>ts
 | .folder es=>es.map (·.tg)
def KE (H:Hp):V->V
 | .ref a=>match H a with
  |some (.tup [_,_,t])=>t
  |_=>.non
 |_=>.non
theorem Jh {H:Hp}{a:Addr}{x y z:V}(h:H a=some (.tup [x,y,z])):KE H (.ref a)=z:=by
 show(match H a with|some (.tup [_,_,t])=>t|_=>V.non)=z;rw[h]
theorem GG {H:Hp}:∀{es:List En} {us:List V},AH NL H (es.map Kn) us->AH NL H ((es.map (·.tg)).map FJ) (us.map (KE H))
 |[],us,h=>by cases h;exact rfl
 |e::es,us,h=>by
  obtain⟨v,vs,rfl,h1,h2⟩:=h;obtain⟨a,b,rfl,e1,e2⟩:=Et h1;refine⟨_,_,rfl,?_,GG h2⟩;rw[Jh e1];exact HA e2
def GL (K:W.Frag):Sp:=λvs H Q _=>∃v b,vs=[v]/\Rep NL H (Dy b) v/\GV b/\∀l us H',An H H'->H l=none->H' l=some (.lst us)->AH NL H' ((AM b).map FJ) us->Q (.ref l) H'
theorem MC (T:Txt K mg Ak Aa Ae XC)(F:Fun K "tags_in" "tags_in" DS f fd):FnOk P w K mg base CZ 1 f fd ["block"] (GL K):=by
 exists NF
 ·obtain⟨v,b,rfl,_⟩:=h;rfl
 obtain⟨v,b,rfl,hv,ok,q⟩:=h;refine⟨_,(!Ag (!BQ (!AC B9 (!Am Ay (pv 0) (!Ad) (λ_ _=>rfl)) (!Bi rfl T.c_PIECE) (AL _)) (!Al (!Av (!A5 (!Ah)))) (!AX)) (!Ag (!BQ (!AC B9 (!Am Ay (pv 0) (!Ad) (λ_ _=>rfl)) (!Bi rfl T.c_ROW) (AL _)) (!Al (!Av (!Bb C4 (by rfl) T.b_list DN (!Ab (!Am Ay (pv 0) (!Ad) (λ_ _=>rfl)) (!Ah))))) (!AX)) (!Al (!Av (@BA _ ["name","kind","tag"] _ _ _ _ _ _ _ _ _ _ rfl (!BZ (!Am Ay (pv 0) (!Ad) (λ_ _=>rfl))) (by decide +kernel) (λC s H fp=>⟨(@IP _ (K) _ _ _ _ (3) (by rfl) rfl (!AZ (@Aq _ _ (0) _ (show(["name","kind","tag"]:List Str).Nodup by decide +kernel) rfl (by trivial) (by trivial)) (!AZ (@Aq _ _ (1) _ (show(["name","kind","tag"]:List Str).Nodup by decide +kernel) rfl (by trivial) (by trivial)) (!AZ (@Aq _ _ (2) _ (show(["name","kind","tag"]:List Str).Nodup by decide +kernel) rfl (by trivial) (by trivial)) (!Ed)))) (by rfl) (by rfl)),(!A6),(pv 2)⟩) (by intro _;rfl)))))),?_⟩
 try dsimp only[Bw,Cx.nox,Cx.wish]
 cases b with
 |piece z=>
  obtain⟨a,rfl,e⟩:=Gg hv;refine⟨_,rfl,a,_,_,_,rfl,rfl,AG.of e,rfl,rfl,_,rfl,Ft rfl ?_⟩;exact⟨Fv,λl hl=>q l [] _ (Ai hl _) hl Ac rfl⟩
 |row lv ts=>
  obtain⟨a,d,us,rfl,e,e2,r⟩:=IU hv;refine⟨_,rfl,a,_,_,_,rfl,rfl,AG.of e,rfl,rfl,_,rfl,Cu rfl ?_⟩;refine⟨_,rfl,a,_,_,_,rfl,rfl,AG.of e,rfl,rfl,_,rfl,Ft rfl ?_⟩;exact⟨_,rfl,a,_,_,_,rfl,rfl,AG.of e,rfl,d,_,rfl,.inr (AG.of e2),λl hl=>q l us _ (Ai hl _) hl Ac (AH.same (Ai hl _) _ _ r)⟩
 |folder es=>
  obtain⟨a,d,us,rfl,e,e2,r⟩:=Dk hv;refine⟨_,rfl,a,_,_,_,rfl,rfl,AG.of e,rfl,rfl,_,rfl,Cu rfl ?_⟩;refine⟨_,rfl,a,_,_,_,rfl,rfl,AG.of e,rfl,rfl,_,rfl,Cu rfl ?_⟩;refine⟨_,rfl,a,_,_,_,rfl,rfl,AG.of e,rfl,d,rfl,⟨_,AG.of e2⟩,?_⟩;have lu:us.length=es.length:=by rw[AH.len _ _ r,aa]
  have l16:es.length<=16:=ok.1;refine Ow (xs:=us) (KE H) (By e2) (by omega) (λx hx=>?_) (λb x1 x2 x3 H' R hx hb s' hR=>⟨_,rfl,?_⟩) λl H' nl s' hl=>q l _ H' s' nl hl (AH.same s' _ _ (GG r))
  ·obtain⟨en,_,hr⟩:=Gf r hx;obtain⟨b,c,rfl,e3,_⟩:=Et hr;exact⟨b,_,_,_,rfl,e3⟩
  ·have:=hR H' (An.refl _);rw[Jh hb] at this;exact this
def FY (t:Addr)(n:Int)(l:Addr)(k e s:Int):List (Str×V):=[("own_tag",.ref t),("own_size",.int n),("named",.ref l),("times_named",.int k),("entries_beneath",.int e),("steps_beneath",.int s)]
def C9 (K:W.Frag)(C:Addr):Sp:=λvs H Q _=>∃(x dx ta:Addr) (v:V) (b:Bk),vs=[.ref x,.ref ta,v]/\H x=some (.ins C dx [])/\Rep NL H (Dy b) v/\GV b/\
 ∀l us H',(∀c o,H c=some o->c≠x->H' c=some o)->H l=none->H' l=some (.lst us)->AH NL H' ((AM b).map FJ) us->H' x=some (.ins C dx (FY ta ((wT (Dy b)).length:Int) l 0 0 0))->Q .non H'
theorem G3 (T:Txt K mg Ak Aa Ae XC)(F:Fun K "__init__" "TakenCell.__init__" Bm f fd)(HQ:Def P w K mg base 10 "size_of" ["block"] (GI K))(HI:Def P w K mg base 1 "tags_in" ["block"] (GL K)):FnOk P w K mg base CZ 11 f fd ["self","own_tag","block"] (C9 K Aa):=by
 exists GY
 ·obtain⟨x,dx,ta,v,b,rfl,_⟩:=h;rfl
 obtain⟨x,dx,ta,v,b,rfl,hx,hv,ok,q⟩:=h;refine⟨_,(!Ag (!Cv (pv 0) (pv 1)) (!Ag (!Cv (pv 0) (!AU HQ (by trivial) rfl (!Ab (pv 2) (!Ah)))) (!Ag (!Cv (pv 0) (!AU HI (by trivial) rfl (!Ab (pv 2) (!Ah)))) (!Ag (!Cv (pv 0) (!Ad)) (!Ag (!Cv (pv 0) (!Ad)) (!Al (!Cv (pv 0) (!Ad)))))))),?_⟩
 try dsimp only[Bw,Cx.nox,Cx.wish]
 have tp:∀(o:HO) c ys,H c=some (.tup ys)->(upd H x o) c=some (.tup ys):=λo c ys h=>by rw[Af (Bs h hx (by intro z;cases z))];exact h
 refine⟨_,rfl,_,rfl,x,Aa,dx,[],rfl,hx,T.cl_TakenCell,T.n_TakenCell_own_tag,(by show 0<1000;decide),?_⟩;refine⟨_,rfl,v,b,rfl,Cn (tp _) _ _ hv,ok,λH1 s1=>⟨_,rfl,x,Aa,dx,_,rfl,s1.get Ac,T.cl_TakenCell,T.n_TakenCell_own_size,(by show 1<1000;decide),?_⟩⟩;have hx1:∀o,(upd H1 x o) x=some o:=λo=>Ac
 have k1:∀o c u,H c=some u->c≠x->(upd H1 x o) c=some u:=λo c u h n=>by rw[Af n];exact s1.get (by rw[Af n];exact h)
 refine⟨_,rfl,v,b,rfl,Cn (λc ys h=>k1 _ c _ h (Bs h hx (by intro z;cases z))) _ _ hv,ok,λl us H2 s2 nl hl r=>⟨_,rfl,x,Aa,dx,_,rfl,s2.get (hx1 _),T.cl_TakenCell,T.n_TakenCell_named,(by show 2<1000;decide),?_⟩⟩;have nlx:l≠x:=λz=>by rw[z,hx1] at nl;cases nl
 refine⟨_,rfl,x,Aa,dx,_,rfl,Ac,T.cl_TakenCell,T.n_TakenCell_times_named,(by show 3<1000;decide),?_⟩;refine⟨_,rfl,x,Aa,dx,_,rfl,Ac,T.cl_TakenCell,T.n_TakenCell_entries_beneath,(by show 4<1000;decide),?_⟩;refine⟨_,rfl,x,Aa,dx,_,rfl,Ac,T.cl_TakenCell,T.n_TakenCell_steps_beneath,(by show 5<1000;decide),?_⟩;rw[Gh,Gh,Gh];have nlH:H l=none:=by
  cases h:H l with
  |none=>rfl
  |some o=>rw[k1 _ l o h nlx] at nl;cases nl
 refine q l us _ (λc o h n=>by rw[Af n];exact s2.get (k1 _ c o h n)) nlH (by rw[Af nlx];exact hl) (BN (λc ys h=>?_) _ _ r) Ac;rw[Af (λz=>by have:=s2.get (hx1 (.ins Aa dx (Ea "own_size" (V.int ((wT (Dy b)).length:Int)) (Ea "own_tag" (V.ref ta) []))));rw[z,this] at h;cases h)];exact h
def Jq (bo dt dz dd:Addr)(n:Int):List (Str×V):=[("boards",.ref bo),("taken",.ref dt),("by_sums",.ref dz),("draft",.ref dd),("first_maybe_free",.int n)]
def E7 (K:W.Frag)(C:Addr):Sp:=λvs H Q _=>∃(x dx bo:Addr),vs=[.ref x,.ref bo]/\H x=some (.ins C dx [])/\
 ∀dt dz dd H',(∀c o,H c=some o->c≠x->H' c=some o)->dt≠dz->dt≠dd->dz≠dd->H' dt=some (.dK [])->H' dz=some (.dK [])->H' dd=some (.dK [])->H' x=some (.ins C dx (Jq bo dt dz dd 1))->Q .non H'
theorem K0 (T:Txt K mg Ak Aa Ae XC)(F:Fun K "__init__" "Pool.__init__" CJ f fd):FnOk P w K mg base CZ 1 f fd ["self","boards"] (E7 K Ae):=by
 exists KG
 ·obtain⟨x,dx,bo,rfl,_⟩:=h;rfl
 obtain⟨x,dx,bo,rfl,hx,q⟩:=h;refine⟨_,(!Ag (!Cv (pv 0) (pv 1)) (!Ag (!Cv (pv 0) (!Cc)) (!Ag (!Cv (pv 0) (!Cc)) (!Ag (!Cv (pv 0) (!Cc)) (!Al (!Cv (pv 0) (!Ad))))))),?_⟩
 try dsimp only[Bw,Cx.nox,Cx.wish]
 refine⟨_,rfl,_,rfl,x,Ae,dx,[],rfl,hx,T.cl_Pool,T.n_Pool_boards,(by show 0<1000;decide),?_⟩;refine λdt hdt=>?_
 have n1:dt≠x:=λz=>by rw[z,Ac] at hdt;cases hdt
 refine⟨_,rfl,x,Ae,dx,_,rfl,(Ai hdt _).get Ac,T.cl_Pool,T.n_Pool_taken,(by show 1<1000;decide),?_⟩;refine λdz hdz=>?_
 have n2:dz≠x:=λz=>by rw[z,Ac] at hdz;cases hdz
 have e1:dz≠dt:=λz=>by rw[z,Af n1,Ac] at hdz;cases hdz
 refine⟨_,rfl,x,Ae,dx,_,rfl,(Ai hdz _).get Ac,T.cl_Pool,T.n_Pool_by_sums,(by show 2<1000;decide),?_⟩;refine λdd hdd=>?_
 have n3:dd≠x:=λz=>by rw[z,Ac] at hdd;cases hdd
 have e2:dd≠dz:=λz=>by rw[z,Af n2,Ac] at hdd;cases hdd
 have e3:dd≠dt:=λz=>by rw[z,Af n1,Af (Ne.symm e1),Af n1,Ac] at hdd;cases hdd
 refine⟨_,rfl,x,Ae,dx,_,rfl,(Ai hdd _).get Ac,T.cl_Pool,T.n_Pool_draft,(by show 3<1000;decide),?_⟩;refine⟨_,rfl,x,Ae,dx,_,rfl,Ac,T.cl_Pool,T.n_Pool_first_maybe_free,(by show 4<1000;decide),?_⟩;refine q dt dz dd _ (λc o h n=>?_) (Ne.symm e1) (Ne.symm e3) (Ne.symm e2) ?_ ?_ ?_ Ac
 ·have a1:c≠dt:=λz=>by rw[<-z,Af n,h] at hdt;cases hdt
  have b1:=h;have a2:c≠dz:=λz=>by rw[<-z,Af n,Af a1,Af n,h] at hdz;cases hdz
  have a3:c≠dd:=λz=>by rw[<-z,Af n,Af a2,Af n,Af a1,Af n,h] at hdd;cases hdd
  rw[Af n,Af n,Af a3,Af n,Af a2,Af n,Af a1,Af n];exact h
 ·rw[Af n1,Af n1,Af (Ne.symm e3),Af n1,Af (Ne.symm e1),Af n1,Ac]
 ·rw[Af n2,Af n2,Af (Ne.symm e2),Af n2,Ac]
 ·rw[Af n3,Af n3,Ac]
structure Cl where
 z:Int
 y:Int
 bk:Bk
 v:V
 c:Addr
 dx:Addr
 ta:Addr
 l:Addr
 k:Int
 en:Int
 st:Int
structure Pl where
 dp:Addr
 bo:Addr
 dt:Addr
 dz:Addr
 dd:Addr
 n:Int
def Hv (C:Addr)(H:Hp)(e:Cl):Prop:=H e.c=some (.ins C e.dx (FY e.ta ((wT (Dy e.bk)).length:Int) e.l e.k e.en e.st))/\H e.ta=some (.tup [.int e.z,.int e.y,.int (Bn e.bk)])/\Rep NL H (Dy e.bk) e.v/\GV e.bk
def KF (cs:List Cl):List (Key×V):=cs.map λe=>(Sum.inl e.z,.ref e.c)
def OU (cs:List Cl):List (Key×V):=cs.map λe=>(Sum.inl e.z,e.v)
def Fl (CP CT:Addr)(H:Hp)(p:Addr)(q:Pl)(cs:List Cl):Prop:=H p=some (.ins CP q.dp (Jq q.bo q.dt q.dz q.dd q.n))/\H q.dt=some (.dK (KF cs))/\(∀e∈cs,Hv CT H e)/\(cs.map (·.z)).Nodup
theorem Le {κ:Type}[DecidableEq κ]:∀{kvs:List (κ×V)} (_:(kvs.map (·.1)).Nodup) {k:κ} {v:V},(k,v)∈kvs->Bz kvs k=some v
 |[],_,_,_,h=>nomatch h
 |x::kvs,nd,k,v,h=>by
  rw[aq,bO] at nd;rcases aL.mp h with rfl|h
  ·exact D6 rfl
  ·rw[Dr (λe=>nd.1 (by rw[e];exact ah.mpr ⟨_,h,rfl⟩))];exact Le nd.2 h
theorem HN {g:Cl->V}:∀{cs:List Cl},(cs.map (·.z)).Nodup->((cs.map λe=>((Sum.inl e.z:Key),g e)).map (·.1)).Nodup
 |[],_=>bS
 |e::cs,h=>by
  rw[aq,bO] at h;rw[aq,aq,bO];refine⟨λq=>h.1 ?_,HN h.2⟩;obtain⟨x,hx,e1⟩:=ah.mp q;obtain⟨u,hu,rfl⟩:=ah.mp hx;exact ah.mpr ⟨u,hu,bH e1⟩
theorem HD {cs:List Cl}(nd:(cs.map (·.z)).Nodup){e:Cl}(h:e∈cs):Bz (KF cs) (Sum.inl e.z)=some (.ref e.c):=Le (HN nd) (ah.mpr ⟨e,h,rfl⟩)
theorem Tv {cs:List Cl}(nd:(cs.map (·.z)).Nodup){e:Cl}(h:e∈cs):Bz (OU cs) (Sum.inl e.z)=some e.v:=Le (HN nd) (ah.mpr ⟨e,h,rfl⟩)
def FX (K:W.Frag)(CP CT:Addr):Sp:=λvs H Q _=>∃p q cs e,vs=[.ref p,.int e.z]/\Fl CP CT H p q cs/\e∈cs/\Q (.ref e.ta) H
theorem LV (T:Txt K mg Ak Aa Ae XC)(F:Fun K "tag" "Pool.tag" Dg f fd):FnOk P w K mg base CZ 1 f fd ["self","number"] (FX K Ae Aa):=by
 exists Mb
 ·obtain⟨p,q,cs,e,rfl,_⟩:=h;rfl
 obtain⟨p,q,cs,e,rfl,⟨h1,h2,h4,nd⟩,he,hq⟩:=h;have hu:=BP hr;refine⟨_,(!Al (!Av (!BE (!Cm hu (!BE (pv 0)) (pv 1) (λ_ _=>rfl))))),?_⟩
 try dsimp only[Bw,Cx.nox,Cx.wish]
 have g:Cq H q.dt (.int e.z) (some (.ref e.c)):=by
  have:=Cq.k (k:=Sum.inl e.z) h2;rw[HD nd he] at this;exact this
 exact⟨_,rfl,p,Ae,q.dp,_,_,rfl,h1,T.cl_Pool,T.n_Pool_taken,rfl,_,rfl,q.dt,_,rfl,g,e.c,Aa,e.dx,_,_,rfl,(h4 e he).1,T.cl_TakenCell,T.n_TakenCell_own_tag,rfl,hq⟩
def DA (K:W.Frag)(CP CT:Addr):Sp:=λvs H Q _=>∃p q cs e,vs=[.ref p,.int e.z]/\Fl CP CT H p q cs/\e∈cs/\Q (.int e.en) H
theorem IF (T:Txt K mg Ak Aa Ae XC)(F:Fun K "entries" "Pool.entries" BK f fd):FnOk P w K mg base CZ 1 f fd ["self","number"] (DA K Ae Aa):=by
 exists IE
 ·obtain⟨p,q,cs,e,rfl,_⟩:=h;rfl
 obtain⟨p,q,cs,e,rfl,⟨h1,h2,h4,nd⟩,he,hq⟩:=h;have hu:=BP hr;refine⟨_,(!Al (!Av (!BE (!Cm hu (!BE (pv 0)) (pv 1) (λ_ _=>rfl))))),?_⟩
 try dsimp only[Bw,Cx.nox,Cx.wish]
 have g:Cq H q.dt (.int e.z) (some (.ref e.c)):=by
  have:=Cq.k (k:=Sum.inl e.z) h2;rw[HD nd he] at this;exact this
 exact⟨_,rfl,p,Ae,q.dp,_,_,rfl,h1,T.cl_Pool,T.n_Pool_taken,rfl,_,rfl,q.dt,_,rfl,g,e.c,Aa,e.dx,_,_,rfl,(h4 e he).1,T.cl_TakenCell,T.n_TakenCell_entries_beneath,rfl,hq⟩
def EW (K:W.Frag)(CP CT:Addr):Sp:=λvs H Q _=>∃p q cs e,vs=[.ref p,.int e.z]/\Fl CP CT H p q cs/\e∈cs/\Q (.int e.st) H
theorem K3 (T:Txt K mg Ak Aa Ae XC)(F:Fun K "deep" "Pool.deep" CW f fd):FnOk P w K mg base CZ 1 f fd ["self","number"] (EW K Ae Aa):=by
 exists Lf
 ·obtain⟨p,q,cs,e,rfl,_⟩:=h;rfl
 obtain⟨p,q,cs,e,rfl,⟨h1,h2,h4,nd⟩,he,hq⟩:=h;have hu:=BP hr;refine⟨_,(!Al (!Av (!BE (!Cm hu (!BE (pv 0)) (pv 1) (λ_ _=>rfl))))),?_⟩
 try dsimp only[Bw,Cx.nox,Cx.wish]
 have g:Cq H q.dt (.int e.z) (some (.ref e.c)):=by
  have:=Cq.k (k:=Sum.inl e.z) h2;rw[HD nd he] at this;exact this
 exact⟨_,rfl,p,Ae,q.dp,_,_,rfl,h1,T.cl_Pool,T.n_Pool_taken,rfl,_,rfl,q.dt,_,rfl,g,e.c,Aa,e.dx,_,_,rfl,(h4 e he).1,T.cl_TakenCell,T.n_TakenCell_steps_beneath,rfl,hq⟩
def Ek (K:W.Frag)(CP CT:Addr):Sp:=λvs H Q _=>∃p q cs e,∃(ta:Addr) (y k:V),vs=[.ref p,.ref ta]/\Fl CP CT H p q cs/\H q.dd=some (.dK (OU cs))/\e∈cs/\H ta=some (.tup [.int e.z,y,k])/\Q e.v H
theorem JS (T:Txt K mg Ak Aa Ae XC)(F:Fun K "block" "Pool.block" Co f fd):FnOk P w K mg base CZ 1 f fd ["self","tag"] (Ek K Ae Aa):=by
 exists JQ
 ·obtain⟨p,q,cs,e,ta,y,k,rfl,_⟩:=h;rfl
 obtain⟨p,q,cs,e,ta,y,k,rfl,⟨h1,h2,h4,nd⟩,h3,he,ht,hq⟩:=h;have hu:=BP hr;refine⟨_,(!Ag (!BQ (!Hz (!Nb hu (!Am Ay (pv 1) (!Ad) (λ_ _=>rfl)) (!BE (pv 0))) (by first|exact D9 _ (by decide) (by decide)|rfl)) (!Al (!Av (!Cm hu (!BE (pv 0)) (!Am Ay (pv 1) (!Ad) (λ_ _=>rfl)) (λ_ _=>rfl)))) (!AX)) (!Al (!G6))),?_⟩
 try dsimp only[Bw,Cx.nox,Cx.wish]
 have g:Cq H q.dd (.int e.z) (some e.v):=by
  have:=Cq.k (k:=Sum.inl e.z) h3;rw[Tv nd he] at this;exact this
 refine⟨_,rfl,ta,_,_,_,rfl,rfl,AG.of ht,rfl,_,rfl,p,Ae,q.dp,_,_,rfl,h1,T.cl_Pool,T.n_Pool_draft,rfl,q.dd,_,rfl,g,?_⟩;refine⟨_,rfl,Ft rfl ?_⟩;exact⟨_,rfl,p,Ae,q.dp,_,_,rfl,h1,T.cl_Pool,T.n_Pool_draft,rfl,_,rfl,ta,_,_,_,rfl,rfl,AG.of ht,rfl,q.dd,_,rfl,g,hq⟩
def ES (K:W.Frag)(CP CT:Addr):Sp:=λvs H Q _=>∃p q cs e,∃(ta:Addr) (y k:V),vs=[.ref p,.ref ta]/\Fl CP CT H p q cs/\e∈cs/\H ta=some (.tup [.int e.z,y,k])/\Q .non (upd H e.c (.ins CT e.dx (FY e.ta ((wT (Dy e.bk)).length:Int) e.l (e.k+1) e.en e.st)))
theorem KL (T:Txt K mg Ak Aa Ae XC)(F:Fun K "hold" "Pool.hold" CQ f fd):FnOk P w K mg base CZ 1 f fd ["self","tag"] (ES K Ae Aa):=by
 exists G8
 ·obtain⟨p,q,cs,e,ta,y,k,rfl,_⟩:=h;rfl
 obtain⟨p,q,cs,e,ta,y,k,rfl,⟨h1,h2,h4,nd⟩,he,ht,hq⟩:=h;have hu:=BP hr;refine⟨_,(!Ag (@Au _ _ (2) _ _ _ _ G8.nd rfl (by trivial) (!Cm hu (!BE (pv 0)) (!Am Ay (pv 1) (!Ad) (λ_ _=>rfl)) (λ_ _=>rfl)) (by rfl) (by trivial)) (!Al (!Km (pv 2) (!Ad) Og))),?_⟩
 try dsimp only[Bw,Cx.nox,Cx.wish]
 have g:Cq H q.dt (.int e.z) (some (.ref e.c)):=by
  have:=Cq.k (k:=Sum.inl e.z) h2;rw[HD nd he] at this;exact this
 have hc:=(h4 e he).1;refine⟨_,rfl,p,Ae,q.dp,_,_,rfl,h1,T.cl_Pool,T.n_Pool_taken,rfl,_,rfl,ta,_,_,_,rfl,rfl,AG.of ht,rfl,q.dt,_,rfl,g,?_⟩;exact⟨_,rfl,e.c,Aa,e.dx,_,_,rfl,hc,T.cl_TakenCell,T.n_TakenCell_times_named,rfl,_,_,rfl,rfl,e.dx,_,hc,(by show 6<1000;decide),hq⟩
def Cw (K:W.Frag)(CP CT:Addr):Sp:=λvs H Q _=>∃p q cs,vs=[.ref p]/\Fl CP CT H p q cs/\(∀(i:Nat) e,cs[i]?=some e->e.z=(i:Int)+1)/\1<=q.n/\q.n<=(cs.length:Int)+1/\
 ∀H',H' p=some (.ins CP q.dp (Jq q.bo q.dt q.dz q.dd ((cs.length:Int)+1)))->(∀b,b≠p->H' b=H b)->Q (.int ((cs.length:Int)+1)) H'
theorem Gr (T:Txt K mg Ak Aa Ae XC)(F:Fun K "free_number" "Pool.free_number" Ba f fd):FnOk P w K mg base CZ 1 f fd ["self"] (Cw K Ae Aa):=by
 exists Gs
 ·obtain⟨p,q,cs,rfl,_⟩:=h;rfl
 obtain⟨p,q,cs,rfl,⟨h1,h2,h4,nd⟩,zs,n1,n2,hq⟩:=h;have hu:=BP hr;refine⟨_,(!Ag (!Jm aW (!Hz (!Nb hu (!BE (pv 0)) (!BE (pv 0))) (by first|exact D9 _ (by decide) (by decide)|rfl)) (!Al (!Km (pv 0) (!Ad) Og))) (!Al (!Av (!BE (pv 0))))),?_⟩
 try dsimp only[Bw,Cx.nox,Cx.wish]
 have nt:q.dt≠p:=Bs h2 h1 (by intro z;cases z);have vn:∀j:Int,(cs.length:Int)<j->Bz (KF cs) (Sum.inl j)=none:=λj hj=>by
  unfold Bz;rw[cY,cT];intro x hx;obtain⟨e,he,rfl⟩:=ah.mp hx;obtain⟨i,hi,rfl⟩:=cn he;have:=zs i _ (ae hi);intro z;have:=bH (aQ z);omega
 refine⟨λm σ H2=>∃j:Int,m=((cs.length:Int)+1-j).toNat/\1<=j/\j<=(cs.length:Int)+1/\σ=[some (.ref p)]/\H2 p=some (.ins Ae q.dp (Jq q.bo q.dt q.dz q.dd j))/\∀b,b≠p->H2 b=H b,⟨_,q.n,rfl,n1,n2,rfl,h1,λ_ _=>rfl⟩,?_⟩
 rintro m σ H2 ⟨j,rfl,j1,j2,rfl,hp,ho⟩
 have hdt:H2 q.dt=some (.dK (KF cs)):=by rw[ho _ nt];exact h2
 refine⟨_,rfl,p,Ae,q.dp,_,_,rfl,hp,T.cl_Pool,T.n_Pool_first_maybe_free,rfl,_,rfl,p,Ae,q.dp,_,_,rfl,hp,T.cl_Pool,T.n_Pool_taken,rfl,q.dt,_,rfl,Cq.k (k:=Sum.inl j) hdt,_,rfl,D0 (λc=>?_) (λc=>?_)⟩
 ·have hj:j<=(cs.length:Int):=cy λz=>by
   rw[vn j (by omega)] at c;cases c
  refine⟨λσ H'=>σ=[some (.ref p)]/\H' p=some (.ins Ae q.dp (Jq q.bo q.dt q.dz q.dd (j+1)))/\∀b,b≠p->H' b=H b,?_,?_⟩
  ·rintro σ' H' ⟨rfl,a1,a2⟩
   exact⟨((cs.length:Int)+1-(j+1)).toNat,by omega,j+1,rfl,by omega,by omega,rfl,a1,a2⟩
  ·refine⟨_,rfl,p,Ae,q.dp,_,_,rfl,hp,T.cl_Pool,T.n_Pool_first_maybe_free,rfl,_,_,rfl,rfl,q.dp,_,hp,(by show 5<1000;decide),rfl,Ac,λb hb=>?_⟩;rw[Af hb];exact ho b hb
 ·have hj:j=(cs.length:Int)+1:=cy λz=>by
   have li:(j-1).toNat<cs.length:=by omega
   have hz:=zs _ _ (ae li);have:=HD nd (bG li);rw[hz,show(((j-1).toNat:Nat):Int)+1=j by omega] at this;rw[this] at c;exact c rfl
  subst hj;exact⟨_,rfl,p,Ae,q.dp,_,_,rfl,hp,T.cl_Pool,T.n_Pool_first_maybe_free,rfl,hq H2 hp ho⟩
end
open M06
section
variable {P:Program}{w:World}{K:W.Frag}{mg:Str->Option Value}{base:Heap}{f Ak Aa Ae:Addr}{XC:Nat->Addr}{fd:FuncData}
theorem JB {J:It} {xs:List V} {te:TE} {Q:VK} {s0:Option V} {σ:St} {H:Hp} (f:V->V) (hJ:HB J H xs) (hn:xs.length<=1000000) (htg:∀x∈xs,∃a x1 x2 x3,x=.ref a/\H a=some (.tup [x1,x2,x3]))
  (helt:∀a x1 x2 x3 (H':Hp) (R:VK),V.ref a∈xs->H a=some (.tup [x1,x2,x3])->An H H'->(∀H'',An H' H''->R (f (.ref a)) H'')->te [some x1,some x2,some x3,s0] H' R)
  (hQ:∀l H',H l=none->An H H'->H' l=some (.lst (xs.map f))->Q (.ref l) H') :
  DW [none,none,none,some 0] (P8 K 3 (GZ (Az 0) (GZ (Az 1) (GZ (Az 2) RO)))) NB te (s0::σ) Q J H:=by
 intro l hl;refine⟨λi m σ' H'=>m=xs.length-i/\i<=xs.length/\(∃y0 y1 y2,σ'=[y0,y1,y2,s0])/\An H H'/\H' l=some (.lst ((xs.take i).map f)),⟨xs.length,by simp,bw _,⟨_,_,_,rfl⟩,Ai hl _,by rw[Ac,dC,cu]⟩,?_⟩
 rintro i m σ' H' ⟨rfl,hi,⟨y0,y1,y2,rfl⟩,hs,hl'⟩
 obtain⟨h1,h2,h3⟩:=hJ H' hs i
 by_cases hlt:i<xs.length
 ·refine .inr ⟨h1 hlt,λx H'' y=>?_⟩;obtain⟨rfl,hx⟩:=h2 x H'' y;have hx:=hx hlt;obtain⟨a,x1,x2,x3,rfl,ha⟩:=htg x (az hx);refine⟨a,_,rfl,AG.of (hs.get ha),rfl,_,_,rfl,_,_,rfl,_,_,rfl,rfl,?_⟩;refine helt a x1 x2 x3 H'' _ (az hx) ha hs λH4 s4=>?_
  refine⟨_,s4.get hl',AO (by rw[aa,aP];omega),xs.length-(i+1),by omega,rfl,hlt,⟨_,_,_,rfl⟩,AI (hs.trans s4) hl _,?_⟩;rw[Ac,aR,hx];simp
 ·have e:i=xs.length:=by omega
  subst e;exact .inl ⟨h3 (ak _),hQ l H' hl hs (by rw[hl',ba (ak _)])⟩
theorem Hv.tup {C:Addr}{H H':Hp}{e:Cl}(hc:H' e.c=H e.c)(ht:∀c ys,H c=some (.tup ys)->H' c=some (.tup ys))(h:Hv C H e):Hv C H' e:=⟨by rw[hc];exact h.1,ht _ _ h.2.1,Cn ht _ _ h.2.2.1,h.2.2.2⟩
theorem Fl.same {CP CT:Addr}{H H':Hp}{p:Addr}{q:Pl}{cs:List Cl}(s:An H H')(h:Fl CP CT H p q cs):Fl CP CT H' p q cs:=
 ⟨s.get h.1,s.get h.2.1,λe he=>(h.2.2.1 e he).tup ((s.get (h.2.2.1 e he).1).trans (h.2.2.1 e he).1.symm) (λc ys h=>s.get h),h.2.2.2⟩
def Mj (cs:List Cl)(z:Int):Int:=match cs.find? (λe=>decide (e.z=z)) with
 |some e=>e.en
 |none=>0
def Mp (cs:List Cl)(z:Int):Int:=match cs.find? (λe=>decide (e.z=z)) with
 |some e=>e.st
 |none=>0
def RW (cs:List Cl)(x:En):Int:=1+if x.kd=2 then Mj cs x.tg.1 else 0
def RI (cs:List Cl)(x:En):Int:=1+if x.kd=2 then Mp cs x.tg.1 else 0
theorem QU {cs:List Cl}(nd:(cs.map (·.z)).Nodup){e:Cl}(h:e∈cs):cs.find? (λx=>decide (x.z=e.z))=some e:=by
 induction cs with
 |nil=>nomatch h
 |cons x cs ih=>
  rw[aq,bO] at nd;rcases aL.mp h with rfl|h
  ·exact d6 (by simp)
  ·have n:x.z≠e.z:=λz=>nd.1 (by rw[z];exact ah.mpr ⟨_,h,rfl⟩)
   rw[d8 (by simpa using n)];exact ih nd.2 h
theorem R8 {cs:List Cl}(nd:(cs.map (·.z)).Nodup){e:Cl}(h:e∈cs):Mj cs e.z=e.en:=by unfold Mj;rw[QU nd h]
theorem Rg {cs:List Cl}(nd:(cs.map (·.z)).Nodup){e:Cl}(h:e∈cs):Mp cs e.z=e.st:=by unfold Mp;rw[QU nd h]
def PY (H:Hp)(g:Int->Int->Int):V->V
 | .ref a=>match H a with
  |some (.tup [_,.int k,.ref b])=>(match H b with
   |some (.tup (.int z::_))=>.int (g k z)
   |_=>.non)
  |_=>.non
 |_=>.non
theorem MA {H:Hp}{g:Int->Int->Int}{a b:Addr}{x:V}{k z:Int}{xs:List V}(h:H a=some (.tup [x,.int k,.ref b]))(h2:H b=some (.tup (.int z::xs))):PY H g (.ref a)=.int (g k z):=by
 unfold PY;simp only[h,h2]
theorem IX {H:Hp}{g:Int->Int->Int}:∀{es:List En} {us:List V},AH NL H (es.map Kn) us->us.map (PY H g)=(es.map λx=>g x.kd x.tg.1).map V.int
 |[],us,h=>by cases h;exact rfl
 |e::es,us,h=>by
  obtain⟨v,vs,rfl,h1,h2⟩:=h;obtain⟨a,b,rfl,e1,e2⟩:=Et h1;rw[aq,MA e1 e2,IX h2];rfl
def CG (K:W.Frag)(CP CT:Addr):Sp:=λvs H Q _=>∃p q cs v es,vs=[.ref p,v]/\Fl CP CT H p q cs/\Rep NL H (Dy (.folder es)) v/\es.length<=16/\(∀x∈es,x.kd=2->∃e∈cs,e.z=x.tg.1)/\∀H',An H H'->Q (.int (es.map (RW cs)).sum) H'
theorem GC (T:Txt K mg Ak Aa Ae XC)(F:Fun K "entries_of" "Pool.entries_of" Bf f fd)(DY:Da P w K mg base 1 Ae "entries" ["self","number"] (DA K Ae Aa)):FnOk P w K mg base CZ 2 f fd ["self","folder"] (CG K Ae Aa):=by
 exists GD
 ·obtain⟨p,q,cs,v,es,rfl,_⟩:=h;rfl
 obtain⟨p,q,cs,v,es,rfl,pa,hv,l16,kn,hq⟩:=h;have hu:=BP hr;refine⟨_,(!Al (!Av (!AA (Pc rfl) (by rfl) T.b_sum Tx (!Ab (@DM _ ["name","kind","tag","self"] [none,none,none,some 0] _ _ _ _ _ _ _ _ _ _ _ rfl (!BZ (!Am Ay (pv 1) (!Ad) (λ_ _=>rfl))) (by rfl) rfl (by repeat (first|exact trivial|refine⟨rfl,?_⟩)) (by repeat (first|exact trivial|refine⟨λh=>(by first|exact⟨_,rfl⟩|cases h),?_⟩)) (λC s H fp=>⟨(@IP _ (K) _ _ _ _ (3) (by rfl) rfl (!AZ (@Aq _ _ (0) _ (show(["name","kind","tag","self"]:List Str).Nodup by decide +kernel) rfl (by trivial) (by trivial)) (!AZ (@Aq _ _ (1) _ (show(["name","kind","tag","self"]:List Str).Nodup by decide +kernel) rfl (by trivial) (by trivial)) (!AZ (@Aq _ _ (2) _ (show(["name","kind","tag","self"]:List Str).Nodup by decide +kernel) rfl (by trivial) (by trivial)) (!Ed)))) (by rfl) (by rfl)),(!A6),(!Ao AF (!Ad) (!Mr (!AC B9 (pv 1) (!Bi rfl T.c_FOLDER_ENTRY) (AL _)) (!DD (pv 3) T.cl_Pool DY (by trivial) (!Ab (!Am (AJ (K:=K) (by rfl)) (pv 2) (!Ad) (λ_ _=>rfl)) (!Ah))) (!Ad)))⟩) (by intro _;rfl)) (!Ah))))),?_⟩
 try dsimp only[Bw,Cx.nox,Cx.wish]
 obtain⟨a,b,us,rfl,e1,e2,r⟩:=Dk hv;have lu:us.length=es.length:=by rw[AH.len _ _ r,aa]
 have nd:=pa.2.2.2;refine⟨_,rfl,a,_,_,_,rfl,rfl,AG.of e1,rfl,b,rfl,⟨_,AG.of e2⟩,?_⟩;refine JB (xs:=us) (PY H λk z=>1+if k=2 then Mj cs z else 0) (By e2) (by omega) (λx hx=>?_) (λc x1 x2 x3 H' R hx hb s' hR=>?_) λl H' nl s' hl=>⟨l,es.map (RW cs),rfl,AB.of (by rw[hl,IX r];rfl),hq H' s'⟩
 ·obtain⟨en,_,hr⟩:=Gf r hx;obtain⟨c,d,rfl,e3,_⟩:=Et hr;exact⟨c,_,_,_,rfl,e3⟩
 ·obtain⟨en,hen,hr⟩:=Gf r hx;obtain⟨c',d,z,e3,e4⟩:=Et hr;cases z;rw[hb] at e3;cases e3;have hR:=hR H' (An.refl _);rw[MA hb e4] at hR;refine⟨_,rfl,rfl,_,rfl,D0 (λhk=>?_) (λhk=>?_)⟩
  ·have hk:=aQ hk;have hk:en.kd=2:=V.int.inj hk;obtain⟨e,he,hz⟩:=kn en hen hk;rw[aE hk,<-hz,R8 nd he] at hR;rw[<-hz] at e4;exact⟨_,rfl,p,q.dp,_,rfl,(pa.same s').1,rfl,_,rfl,d,_,_,_,rfl,rfl,AG.of (s'.get e4),rfl,p,q,cs,e,rfl,pa.same s',he,_,_,rfl,rfl,hR⟩
  ·have hk:¬en.kd=2:=λz=>hk (aI (congrArg V.int z))
   rw[aH hk] at hR;exact⟨_,_,rfl,rfl,hR⟩
def Dh (K:W.Frag)(CP CT:Addr):Sp:=λvs H Q _=>∃p q cs v es,vs=[.ref p,v]/\Fl CP CT H p q cs/\Rep NL H (Dy (.folder es)) v/\es.length<=16/\(∀x∈es,x.kd=2->∃e∈cs,e.z=x.tg.1)/\∀H',An H H'->Q (.int (HX (es.map (RI cs)))) H'
theorem HY (T:Txt K mg Ak Aa Ae XC)(F:Fun K "steps_of" "Pool.steps_of" Bv f fd)(FF:Da P w K mg base 1 Ae "deep" ["self","number"] (EW K Ae Aa)):FnOk P w K mg base CZ 2 f fd ["self","folder"] (Dh K Ae Aa):=by
 exists EB
 ·obtain⟨p,q,cs,v,es,rfl,_⟩:=h;rfl
 obtain⟨p,q,cs,v,es,rfl,pa,hv,l16,kn,hq⟩:=h;have hu:=BP hr;refine⟨_,(!Ag (@Fo _ ["name","kind","tag","self"] [none,none,none,some 0] (2) _ _ _ _ _ _ _ _ _ _ _ _ _ _ EB.nd rfl (by trivial) rfl (!BZ (!Am Ay (pv 1) (!Ad) (λ_ _=>rfl))) (by rfl) rfl (by repeat (first|exact trivial|refine⟨rfl,?_⟩)) (by repeat (first|exact trivial|refine⟨λh=>(by first|exact⟨_,rfl⟩|cases h),?_⟩)) (λC s H fp=>⟨(@IP _ (K) _ _ _ _ (3) (by rfl) rfl (!AZ (@Aq _ _ (0) _ (show(["name","kind","tag","self"]:List Str).Nodup by decide +kernel) rfl (by trivial) (by trivial)) (!AZ (@Aq _ _ (1) _ (show(["name","kind","tag","self"]:List Str).Nodup by decide +kernel) rfl (by trivial) (by trivial)) (!AZ (@Aq _ _ (2) _ (show(["name","kind","tag","self"]:List Str).Nodup by decide +kernel) rfl (by trivial) (by trivial)) (!Ed)))) (by rfl) (by rfl)),(!A6),(!Ao AF (!Ad) (!Mr (!AC B9 (pv 1) (!Bi rfl T.c_FOLDER_ENTRY) (AL _)) (!DD (pv 3) T.cl_Pool FF (by trivial) (!Ab (!Am (AJ (K:=K) (by rfl)) (pv 2) (!Ad) (λ_ _=>rfl)) (!Ah))) (!Ad)))⟩) (by intro _;rfl) (by rfl) (by trivial)) (!Al (!Av (!Sl rfl (by rfl) T.b_max (!Ab (pv 2) (!Ah)))))),?_⟩
 try dsimp only[Bw,Cx.nox,Cx.wish]
 obtain⟨a,b,us,rfl,e1,e2,r⟩:=Dk hv;have lu:us.length=es.length:=by rw[AH.len _ _ r,aa]
 have nd:=pa.2.2.2;refine⟨_,rfl,a,_,_,_,rfl,rfl,AG.of e1,rfl,b,rfl,⟨_,AG.of e2⟩,?_⟩;refine JB (xs:=us) (PY H λk z=>1+if k=2 then Mp cs z else 0) (By e2) (by omega) (λx hx=>?_) (λc x1 x2 x3 H' R hx hb s' hR=>?_) λl H' nl s' hl=>⟨_,rfl,l,es.map (RI cs),rfl,AB.of (by rw[hl,IX r];rfl),hq H' s'⟩
 ·obtain⟨en,_,hr⟩:=Gf r hx;obtain⟨c,d,rfl,e3,_⟩:=Et hr;exact⟨c,_,_,_,rfl,e3⟩
 ·obtain⟨en,hen,hr⟩:=Gf r hx;obtain⟨c',d,z,e3,e4⟩:=Et hr;cases z;rw[hb] at e3;cases e3;have hR:=hR H' (An.refl _);rw[MA hb e4] at hR;refine⟨_,rfl,rfl,_,rfl,D0 (λhk=>?_) (λhk=>?_)⟩
  ·have hk:=aQ hk;have hk:en.kd=2:=V.int.inj hk;obtain⟨e,he,hz⟩:=kn en hen hk;rw[aE hk,<-hz,Rg nd he] at hR;rw[<-hz] at e4;exact⟨_,rfl,p,q.dp,_,rfl,(pa.same s').1,rfl,_,rfl,d,_,_,_,rfl,rfl,AG.of (s'.get e4),rfl,p,q,cs,e,rfl,pa.same s',he,_,_,rfl,rfl,hR⟩
  ·have hk:¬en.kd=2:=λz=>hk (aI (congrArg V.int z))
   rw[aH hk] at hR;exact⟨_,_,rfl,rfl,hR⟩
theorem map_one {α β:Type}{g:α->β}(hg:∀a b,g a=g b->a=b):∀{l l':List α},l.map g=l'.map g->l=l'
 |[],[],_=>rfl
 |[],_::_,h=>nomatch h
 |_::_,[],h=>nomatch h
 |x::l,y::l',h=>by
  rw[aq,aq] at h;injection h with h1 h2
  rw[hg x y h1,map_one hg h2]
theorem NI (a b:Tg)(h:FJ a=FJ b):a=b:=by
 obtain⟨a1,a2,a3⟩:=a;obtain⟨b1,b2,b3⟩:=b;injection h with h
 injection h with h1 h
 injection h with h2 h
 injection h with h3 _
 injection h1 with h1
 injection h2 with h2
 injection h3 with h3
 dsimp only at h1 h2 h3;rw[h1,h2,h3]
theorem Sw (a b:En)(h:Kn a=Kn b):a=b:=by
 obtain⟨a1,a2,a3⟩:=a;obtain⟨b1,b2,b3⟩:=b;injection h with h
 injection h with h1 h
 injection h with h2 h
 injection h with h3 _
 injection h1 with h1
 injection h2 with h2
 have h3:=NI _ _ h3;dsimp only at h1 h2 h3;rw[h1,h2,h3]
theorem Sg {a b:Bk}(h:Dy a=Dy b):a=b:=by
 cases a with
 |piece z=>
  cases b with
  |piece z'=>injection h with h;injection h with _ h;injection h with h _;injection h with h;rw[h]
  |row lv ts=>injection h with h;injection h with h _;injection h with h;cases h
  |folder es=>injection h with h;injection h with h _;injection h with h;cases h
 |row lv ts=>
  cases b with
  |piece z'=>injection h with h;injection h with h _;injection h with h;cases h
  |row lv' ts'=>
   injection h with h;injection h with _ h;injection h with h1 h;injection h with h2 _
   injection h1 with h1
   injection h2 with h2
   rw[h1,map_one NI h2]
  |folder es=>injection h with h;injection h with h _;injection h with h;cases h
 |folder es=>
  cases b with
  |piece z'=>injection h with h;injection h with h _;injection h with h;cases h
  |row lv ts=>injection h with h;injection h with h _;injection h with h;cases h
  |folder es'=>injection h with h;injection h with _ h;injection h with h _;injection h with h;rw[map_one Sw h]
theorem BY {α β:Type}{g:α->β}:∀{l:List α},(l.map g).Nodup->∀{x y:α},x∈l->y∈l->g x=g y->x=y
 |[],_,_,_,h,_,_=>nomatch h
 |a::l,nd,x,y,hx,hy,e=>by
  rw[aq,bO] at nd;rcases aL.mp hx with hx|hx
  ·rcases aL.mp hy with hy|hy
   ·rw[hx,hy]
   ·exact(nd.1 (by rw[<-hx,e];exact ah.mpr ⟨_,hy,rfl⟩)).elim
  ·rcases aL.mp hy with hy|hy
   ·exact(nd.1 (by rw[<-hy,<-e];exact ah.mpr ⟨_,hx,rfl⟩)).elim
   ·exact BY nd.2 hx hy e
def bump (zs:List Int)(e:Cl):Cl:={ e with k:=e.k+(zs.count e.z:Int) }
theorem OF (zs ys:List Int)(e:Cl):bump ys (bump zs e)=bump (zs++ys) e:=by
 unfold bump;rw[List.count_append];simp only[Int.natCast_add,Int.add_assoc]
theorem Qw (e:Cl):bump [] e=e:=by
 unfold bump;simp
theorem OS (cs:List Cl):cs.map (bump [])=cs:=by
 rw[show(bump []:Cl->Cl)=id from funext Qw];simp
theorem Mz (zs ys:List Int)(cs:List Cl):(cs.map (bump zs)).map (bump ys)=cs.map (bump (zs++ys)):=by
 rw[ar];exact bK λe _=>OF zs ys e
theorem QE (zs:List Int)(cs:List Cl):KF (cs.map (bump zs))=KF cs:=by unfold KF;rw[ar];rfl
theorem Pq (zs:List Int)(cs:List Cl):OU (cs.map (bump zs))=OU cs:=by unfold OU;rw[ar];rfl
theorem RZ (zs:List Int)(cs:List Cl):(cs.map (bump zs)).map (·.z)=cs.map (·.z):=by rw[ar];rfl
theorem Lg (zs:List Int)(cs:List Cl):(cs.map (bump zs)).map (·.c)=cs.map (·.c):=by rw[ar];rfl
def DK (cs:List Cl)(s:Int):List Int:=(cs.filter (λe=>decide (Bn e.bk=s))).map (·.z)
theorem J0 (zs:List Int)(s:Int):∀cs:List Cl,DK (cs.map (bump zs)) s=DK cs s
 |[]=>rfl
 |e::cs=>by
  have ih:=J0 zs s cs;unfold DK at ih ⊢;rw[aq,cP,cP];have:decide (Bn (bump zs e).bk=s)=decide (Bn e.bk=s):=rfl;rw[this];cases decide (Bn e.bk=s)
  ·exact ih
  ·show(bump zs e).z::_=e.z::_;rw[ih];rfl
theorem Kc (cs:List Cl)(e:Cl)(s:Int):DK (cs++[e]) s=DK cs s++if Bn e.bk=s then[e.z] else[]:=by
 unfold DK;rw[cU,aj]
 by_cases h:Bn e.bk=s
 ·rw[aE h,List.filter_cons_of_pos (by simpa using h)];rfl
 ·rw[aH h,List.filter_cons_of_neg (by simpa using h)];rfl
theorem Hr {cs:List Cl}{s z:Int}:z∈DK cs s↔∃e∈cs,Bn e.bk=s/\e.z=z:=by
 unfold DK;rw[ah];constructor
 ·rintro⟨e,he,rfl⟩
  rw[bz,bA] at he;exact⟨e,he.1,he.2,rfl⟩
 ·rintro⟨e,he,hs,rfl⟩
  exact⟨e,bz.mpr ⟨he,by simpa using hs⟩,rfl⟩
theorem Mo (cs:List Cl)(s:Int):(DK cs s).length<=cs.length:=by
 unfold DK;rw[aa];exact bE _ _
def O1 (ns:List Int):List (Key×V):=ns.map λz=>(Sum.inl z,V.bl true)
def QC (bs:List (Int×Addr)):List (Key×V):=bs.map λx=>(Sum.inl x.1,V.ref x.2)
theorem Je {κ:Type}[DecidableEq κ]{kvs:List (κ×V)}{k:κ}(h:∀x∈kvs,x.1≠k):Bz kvs k=none:=by
 unfold Bz;rw[cY,cT];intro x hx z;exact h x hx (aQ z)
theorem Sx {κ:Type}[DecidableEq κ]{kvs:List (κ×V)}{k:κ}{v:V}(h:Bz kvs k=some v):(k,v)∈kvs:=by
 unfold Bz at h;rw[bJ] at h;obtain⟨x,hx,rfl⟩:=h;have:=fJ hx;have e:x.1=k:=by simpa using List.find?_some hx
 rw[<-e];exact this
structure BsAt (H:Hp) (q:Pl) (cs:List Cl) (bs:List (Int×Addr)):Prop where
 h:H q.dz=some (.dK (QC bs))
 k:(bs.map (·.1)).Nodup
 a:(bs.map (·.2)).Nodup
 d:∀x∈bs,H x.2=some (.dK (O1 (DK cs x.1)))/\x.2≠q.dt/\x.2≠q.dz/\x.2≠q.dd
 all:∀e∈cs,∃x∈bs,x.1=Bn e.bk
theorem Pd {bs:List (Int×Addr)}(nd:(bs.map (·.1)).Nodup){x:Int×Addr}(h:x∈bs):Bz (QC bs) (Sum.inl x.1)=some (.ref x.2):=by
 refine Le ?_ (ah.mpr ⟨x,h,rfl⟩);unfold QC;rw[ar,show((λy:Key×V=>y.1)∘λx:Int×Addr=>((Sum.inl x.1:Key),V.ref x.2))=(λz:Int=>(Sum.inl z:Key))∘(λx:Int×Addr=>x.1) from rfl,<-ar];exact List.Pairwise.map _ (λa b n e=>n (bH e)) nd
theorem QF {bs:List (Int×Addr)}{s:Int}{v:V}(h:Bz (QC bs) (Sum.inl s)=some v):∃x∈bs,x.1=s/\v=.ref x.2:=by
 obtain⟨x,hx,e⟩:=ah.mp (Sx h);exact⟨x,hx,bH (congrArg Prod.fst e),(congrArg Prod.snd e).symm⟩
theorem BsAt.no {H:Hp}{q:Pl}{cs:List Cl}{bs:List (Int×Addr)}(B:BsAt H q cs bs){s:Int}(h:Bz (QC bs) (Sum.inl s)=none):DK cs s=[]:=by
 rw[List.eq_nil_iff_forall_not_mem];intro z hz;obtain⟨e,he,rfl,rfl⟩:=Hr.mp hz;obtain⟨x,hx,hs⟩:=B.all e he;rw[<-hs,Pd B.k hx] at h;cases h
structure PAt (CP CT:Addr) (H:Hp) (p:Addr) (q:Pl) (cs:List Cl) (bs:List (Int×Addr)):Prop where
 t:Fl CP CT H p q cs
 d:H q.dd=some (.dK (OU cs))
 b:BsAt H q cs bs
 n1:q.dt≠q.dz
 n2:q.dt≠q.dd
 n3:q.dz≠q.dd
 c:(cs.map (·.c)).Nodup
 z:∀(i:Nat) e,cs[i]?=some e->e.z=(i:Int)+1
 w:bs.length<=cs.length
 f1:1<=q.n
 f2:q.n<=(cs.length:Int)+1
def Cb (p:Addr)(q:Pl)(cs:List Cl)(bs:List (Int×Addr)):List Addr:=p::q.dt::q.dz::q.dd::(bs.map (·.2)++cs.map (·.c))
def Up (L:List Addr)(H H':Hp):Prop:=∀a o,H a=some o->a∉L->H' a=some o
theorem An.frm {L:List Addr}{H H':Hp}(s:An H H'):Up L H H':=λ_ _ h _=>s.get h
theorem PAt.same {CP CT:Addr}{H H':Hp}{p:Addr}{q:Pl}{cs:List Cl}{bs:List (Int×Addr)}(s:An H H')(h:PAt CP CT H p q cs bs):PAt CP CT H' p q cs bs:=
 { h with t:=h.t.same s,d:=s.get h.d,b:={ h.b with h:=s.get h.b.h,d:=λx hx=>⟨s.get (h.b.d x hx).1,(h.b.d x hx).2⟩ } }
theorem PAt.apart {CP CT:Addr}{H:Hp}{p:Addr}{q:Pl}{cs:List Cl}{bs:List (Int×Addr)}(h:PAt CP CT H p q cs bs){a:Addr}{o:HO}(e:H a=some o)(n1:∀C d fs,o≠.ins C d fs)(n2:∀kvs,o≠.dK kvs):a∉Cb p q cs bs:=by
 have no:∀{b u},H b=some u->u≠o->a≠b:=λ{b u} hb hn z=>hn (by rw[z,hb] at e;exact aA e)
 unfold Cb;simp only[List.mem_cons,List.mem_append,List.mem_map,not_or];refine⟨no h.t.1 (Ne.symm (n1 _ _ _)),no h.t.2.1 (Ne.symm (n2 _)),no h.b.h (Ne.symm (n2 _)),no h.d (Ne.symm (n2 _)),?_,?_⟩
 ·rintro⟨x,hx,z⟩
  exact no (h.b.d x hx).1 (Ne.symm (n2 _)) z.symm
 ·rintro⟨x,hx,z⟩
  exact no (h.t.2.2.1 x hx).1 (Ne.symm (n1 _ _ _)) z.symm
theorem Fl.hold {CP CT:Addr}{H:Hp}{p:Addr}{q:Pl}{cs:List Cl}(h:Fl CP CT H p q cs)(nc:(cs.map (·.c)).Nodup){e:Cl}(he:e∈cs):Fl CP CT (upd H e.c (.ins CT e.dx (FY e.ta ((wT (Dy e.bk)).length:Int) e.l (e.k+1) e.en e.st))) p q (cs.map (bump [e.z])):=by
 obtain⟨h1,h2,h4,nd⟩:=h;have hc:=(h4 e he).1;have n1:p≠e.c:=λz=>by
  rw[z,hc] at h1;have:=aA h1;injection this with _ _ this
  injection this with this _
  injection this with this _
  revert this
  decide
 refine⟨by rw[Af n1];exact h1,by rw[Af (Bs h2 hc (by intro z;cases z)),QE];exact h2,λx hx=>?_,by rw[RZ];exact nd⟩;obtain⟨y,hy,rfl⟩:=ah.mp hx;have ht:∀c ys,H c=some (.tup ys)->(upd H e.c (.ins CT e.dx (FY e.ta ((wT (Dy e.bk)).length:Int) e.l (e.k+1) e.en e.st))) c=some (.tup ys):=λc ys h=>by rw[Af (Bs h hc (by intro z;cases z))];exact h
 obtain⟨a1,a2,a3,a4⟩:=h4 y hy
 by_cases hz:y.z=e.z
 ·obtain rfl:=BY nd hy he hz;refine⟨?_,ht _ _ a2,Cn ht _ _ a3,a4⟩;show upd H y.c _ y.c=some (.ins CT y.dx (FY y.ta ((wT (Dy y.bk)).length:Int) y.l (y.k+(([y.z].count y.z:Nat):Int)) y.en y.st));rw[Ac,List.count_singleton_self];rfl
 ·have nn:y.c≠e.c:=λz=>hz (by rw[BY nc hy he z])
  refine⟨?_,ht _ _ a2,Cn ht _ _ a3,a4⟩;show upd H e.c _ y.c=some (.ins CT y.dx (FY y.ta ((wT (Dy y.bk)).length:Int) y.l (y.k+(([e.z].count y.z:Nat):Int)) y.en y.st));rw[Af nn,a1,List.count_eq_zero.mpr (by simpa using hz)];simp
def MW (cs:List Cl):Bk->Int×Int
 | .folder es=>((es.map (RW cs)).sum,HX (es.map (RI cs)))
 |_=>(0,0)
def Wl (cs:List Cl):Prop:=∀e∈cs,JR (e.z,e.y,Bn e.bk)/\(∀t∈AM e.bk,∃c∈cs,c.z=t.1)/\(e.en,e.st)=MW cs e.bk
theorem KR (zs:List Int):∀(cs:List Cl) (z:Int),(cs.map (bump zs)).find? (λe=>decide (e.z=z))=(cs.find? (λe=>decide (e.z=z))).map (bump zs)
 |[],_=>rfl
 |e::cs,z=>by
  rw[aq]
  by_cases h:e.z=z
  ·have h':(bump zs e).z=z:=h;rw[d6 (by simpa using h'),d6 (by simpa using h)];rfl
  ·have h':¬(bump zs e).z=z:=h;rw[d8 (by simpa using h'),d8 (by simpa using h)];exact KR zs cs z
theorem Oy (zs:List Int)(cs:List Cl)(z:Int):Mj (cs.map (bump zs)) z=Mj cs z:=by
 unfold Mj;rw[KR];cases cs.find? (λe=>decide (e.z=z))<;>rfl
theorem Ox (zs:List Int)(cs:List Cl)(z:Int):Mp (cs.map (bump zs)) z=Mp cs z:=by
 unfold Mp;rw[KR];cases cs.find? (λe=>decide (e.z=z))<;>rfl
theorem Mm (zs:List Int)(cs:List Cl)(b:Bk):MW (cs.map (bump zs)) b=MW cs b:=by
 cases b with
 |folder es=>
  have e1:RW (cs.map (bump zs))=RW cs:=funext λx=>by unfold RW;rw[Oy]
  have e2:RI (cs.map (bump zs))=RI cs:=funext λx=>by unfold RI;rw[Ox]
  show((es.map _).sum,HX (es.map _))=((es.map _).sum,HX (es.map _));rw[e1,e2]
 |_=>rfl
theorem L0 {cs ds:List Cl}{z:Int}(h:∃e∈cs,e.z=z):(cs++ds).find? (λe=>decide (e.z=z))=cs.find? (λe=>decide (e.z=z)):=by
 rw[eZ];obtain⟨e,he,hz⟩:=h;have:(cs.find? (λe=>decide (e.z=z))).isSome=true:=List.find?_isSome.mpr ⟨e,he,by simpa using hz⟩;cases hh:cs.find? (λe=>decide (e.z=z)) with
 |none=>rw[hh] at this;cases this
 |some x=>rfl
theorem NP {cs ds:List Cl}{b:Bk}(h:∀t∈AM b,∃c∈cs,c.z=t.1):MW (cs++ds) b=MW cs b:=by
 cases b with
 |folder es=>
  have e1:es.map (RW (cs++ds))=es.map (RW cs):=bK λx hx=>by unfold RW Mj;rw[L0 (h x.tg (ah.mpr ⟨x,hx,rfl⟩))]
  have e2:es.map (RI (cs++ds))=es.map (RI cs):=bK λx hx=>by unfold RI Mp;rw[L0 (h x.tg (ah.mpr ⟨x,hx,rfl⟩))]
  show((es.map _).sum,HX (es.map _))=((es.map _).sum,HX (es.map _));rw[e1,e2]
 |_=>rfl
theorem Wl.more {cs:List Cl}(h:Wl cs){e:Cl}(ok:JR (e.z,e.y,Bn e.bk))(hn:∀t∈AM e.bk,∃c∈cs,c.z=t.1)(hb:(e.en,e.st)=MW cs e.bk)(zs:List Int):Wl ((cs++[e]).map (bump zs)):=by
 intro x hx;obtain⟨y,hy,rfl⟩:=ah.mp hx;have up:∀t:Int,(∃c∈cs,c.z=t)->∃c∈(cs++[e]).map (bump zs),c.z=t:=λt ⟨c,hc,z⟩=>⟨bump zs c,ah.mpr ⟨c,au.mpr (.inl hc),rfl⟩,z⟩
 rcases au.mp hy with hy|hy
 ·obtain⟨a1,a2,a3⟩:=h y hy;refine⟨a1,λt ht=>up _ (a2 t ht),?_⟩;show(y.en,y.st)=MW _ y.bk;rw[Mm,NP a2];exact a3
 ·rw[ai.mp hy];refine⟨ok,λt ht=>up _ (hn t ht),?_⟩;show(e.en,e.st)=MW _ e.bk;rw[Mm,NP hn];exact hb
theorem Su {cs:List Cl}(hz:∀(i:Nat) e,cs[i]?=some e->e.z=(i:Int)+1){s:Int}:(DK cs s).Pairwise (·<=·):=by
 have all:(cs.map (·.z)).Pairwise (·<=·):=by
  rw[aS];intro i j hi hj hij;rw[aa] at hi hj;rw[bV,bV,hz i _ (ae hi),hz j _ (ae hj)];omega
 unfold DK;exact List.Pairwise.sublist (List.Sublist.map _ gE) all
def Eo (K:W.Frag)(CP CT:Addr):Sp:=λvs H Q _=>∃p q cs bs v b,vs=[.ref p,v]/\PAt CP CT H p q cs bs/\cs.length<=10000/\Rep NL H (Dy b) v/\GV b/\(∀e∈cs,e.bk=b->∀H',An H H'->Q (.ref e.ta) H')/\((∀e∈cs,e.bk≠b)->∀H',An H H'->Q .non H')
theorem JV (T:Txt K mg Ak Aa Ae XC)(F:Fun K "alike" "Pool.alike" Cs f fd)(Ey:Def P w K mg base 3 "sum_of" ["block"] (Gm K))(EK:Da P w K mg base 1 Ae "block" ["self","tag"] (Ek K Ae Aa))(Ff:Da P w K mg base 1 Ae "tag" ["self","number"] (FX K Ae Aa)):FnOk P w K mg base CZ 4 f fd ["self","block"] (Eo K Ae Aa):=by
 exists Dq
 ·obtain⟨p,q,cs,bs,v,b,rfl,_⟩:=h;rfl
 obtain⟨p,q,cs,bs,v,b,rfl,pa,few,hv,ok,hq1,hq2⟩:=h;have hu:=BP hr;have hu9:=C1 hr;refine⟨_,(!Ag (@Au _ _ (2) _ _ _ _ Dq.nd rfl (by trivial) (!A5 (!Ah)) (by rfl) (by trivial)) (!Ag (!BJ aW rfl (!C0 (!AA (HZ rfl) (by rfl) T.b_sorted CY (!Ab (!Po hu (!BE (pv 0)) (!AU Ey (by trivial) rfl (!Ab (pv 1) (!Ah))) (!Cc) ⟨rfl,rfl,rfl,rfl⟩) (!Ah)))) (@Aq _ _ (3) _ Dq.nd rfl (by trivial) (by trivial)) (!Al (!To ⟨rfl,rfl⟩ T.x_Lost rfl (!Rc (!RU (@Au _ _ (4) _ _ _ _ Dq.nd rfl (by trivial) (!DD (pv 0) T.cl_Pool EK (by trivial) (!Ab (!DD (pv 0) T.cl_Pool Ff (by trivial) (!Ab (pv 3) (!Ah))) (!Ah))) (by rfl) (by trivial)))) (!Al (!BQ (!AC (TK hu9) (pv 4) (pv 1) (AL _)) (!Al (!Av (!DD (pv 0) T.cl_Pool Ff (by trivial) (!Ab (pv 3) (!Ah))))) (!AX))) (λe=>(!Al (!G6))))) (by intro _;rfl)) (!Ag (!BQ (!AC QD (!AA AQ (by rfl) T.b_len Cy (!Ab (pv 2) (!Ah))) (!Ad) (AL _)) (!Al (!G6)) (!AX)) (!Al (!Av (!Qv)))))),?_⟩
 try dsimp only[Bw,Cx.nox,Cx.wish]
 refine⟨Fv,λun hun=>?_⟩;have s1:=Ai hun (.lst []);have pa1:=pa.same s1;refine⟨_,rfl,p,Ae,q.dp,_,_,rfl,pa1.t.1,T.cl_Pool,T.n_Pool_by_sums,rfl,q.dz,rfl,.inl ⟨_,.inl pa1.b.h⟩,?_⟩;refine⟨_,rfl,v,b,rfl,Rep.same s1 _ _ hv,ok,λH2 s2 dn hdn=>?_⟩;have s3:=(s1.trans s2).trans (Ai hdn (.dK []));have pa3:=pa.same s3;obtain⟨d,hd,hd2⟩:∃d,(((Bz (QC bs) (Sum.inl (Bn b))).getD (.ref dn))=.ref d)/\(upd H2 dn (.dK [])) d=some (.dK (O1 (DK cs (Bn b)))):=by
  cases hc:Bz (QC bs) (Sum.inl (Bn b)) with
  |none=>exact⟨dn,rfl,by rw[pa.b.no hc];exact Ac⟩
  |some u=>
   obtain⟨x,hx,hs,rfl⟩:=QF hc;exact⟨x.2,rfl,by rw[(pa3.b.d x hx).1,hs]⟩
 refine⟨_,Cq.k (k:=Sum.inl (Bn b)) pa3.b.h,d,_,DK cs (Bn b),?_,hd2,?_,?_,λms pl pm so hpl=>?_⟩
 ·rw[hd]
 ·unfold O1;rw[ar];rfl
 ·have:=Mo cs (Bn b);exact .inr ⟨by omega,Su pa.z⟩
 have s4:=s3.trans (Ai hpl (.lst (ms.map V.int)));have pa4:=pa.same s4;have hun4:(upd (upd H2 dn (.dK [])) pl (.lst (ms.map V.int))) un=some (.lst []):=(Ai hpl _).get ((Ai hdn _).get (s2.get Ac));have hpl4:(upd (upd H2 dn (.dK [])) pl (.lst (ms.map V.int))) pl=some (.lst (ms.map V.int)):=Ac;generalize (upd (upd H2 dn (.dK [])) pl (.lst (ms.map V.int)))=H4 at s4 pa4 hun4 hpl4;refine⟨pl,rfl,⟨_,AB.of hpl4⟩,EF (K:=K) (a:=pl) (xs:=ms.map V.int) (λi σ H'=>H'=H4/\(∃v3 v4,σ=[some (.ref p),some v,some (.ref un),v3,v4])/\∀(j:Nat) n,j<i->ms[j]?=some n->∀e∈cs,e.z=n->e.bk≠b) ⟨rfl,⟨_,_,rfl⟩,λj _ h=>absurd h (Nat.not_lt_zero j)⟩ ?_ ?_ ?_⟩
 ·rintro i σ H' _ ⟨rfl,_⟩
  exact AB.of hpl4
 ·rintro i x σ H' hx ⟨rfl,⟨v3,v4,rfl⟩,hb⟩
  obtain⟨n,rfl,hn⟩:=ints_get hx;obtain⟨e,he,hs,hz⟩:=Hr.mp (pm.mem_iff.mp (az hn));subst hz;have ce:=pa4.t.2.2.1 e he;refine⟨_,rfl,p,q.dp,_,rfl,pa4.t.1,rfl,_,rfl,p,q.dp,_,rfl,pa4.t.1,rfl,_,rfl,p,q,cs,e,rfl,pa4.t,he,?_⟩;refine⟨p,q,cs,e,e.ta,_,_,rfl,pa4.t,pa4.d,he,ce.2.1,?_⟩;refine⟨_,rfl,_,rfl,Dy e.bk,Dy b,Ju ce.2.2.2,Ju ok,ce.2.2.1,Rep.same s4 _ _ hv,_,rfl,D0 (λhk=>?_) (λhk=>?_)⟩
  ·have hk:decide (wT (Dy e.bk)=wT (Dy b))=true:=hk;have eb:e.bk=b:=Sg (MG (Ju ce.2.2.2) (Ju ok) (aQ hk));exact⟨_,rfl,p,q.dp,_,rfl,pa4.t.1,rfl,_,rfl,p,q,cs,e,rfl,pa4.t,he,hq1 e he eb _ s4⟩
  ·have hk:¬decide (wT (Dy e.bk)=wT (Dy b))=true:=hk;refine⟨rfl,⟨_,_,rfl⟩,λj n hj hm e' he' hz=>?_⟩
   by_cases hji:j<i
   ·exact hb j n hji hm e' he' hz
   ·obtain rfl:j=i:=by omega
    rw[hn] at hm;obtain rfl:=BY pa4.t.2.2.2 he he' ((aA hm).trans hz.symm);intro z;exact hk (by rw[z];exact aI rfl)
 ·rintro σ H' ⟨rfl,⟨v3,v4,rfl⟩,hb⟩
  refine⟨_,rfl,un,_,rfl,.inl (AB.of hun4),_,_,rfl,rfl,_,rfl,Cu rfl ?_⟩;refine hq2 (λe he z=>?_) _ s4;have:e.z∈ms:=pm.mem_iff.mpr (Hr.mpr ⟨e,he,by rw[z],rfl⟩);obtain⟨j,hj,hje⟩:=cn this;exact hb j e.z (by rw[aa];exact hj) (by rw[ae hj,hje]) e he rfl z
theorem BsAt.same {H H':Hp}{q:Pl}{cs:List Cl}{bs:List (Int×Addr)}(s:An H H')(h:BsAt H q cs bs):BsAt H' q cs bs:={ h with h:=s.get h.h,d:=λx hx=>⟨s.get (h.d x hx).1,(h.d x hx).2⟩ }
theorem BsAt.ins {H:Hp}{q:Pl}{cs:List Cl}{bs:List (Int×Addr)}{x C d:Addr}{fs:List (Str×V)}{o:HO}(hx:H x=some (.ins C d fs))(h:BsAt H q cs bs):BsAt (upd H x o) q cs bs:=
 { h with h:=by rw[Af (Bs h.h hx (by intro z;cases z))];exact h.h,d:=λy hy=>⟨by rw[Af (Bs (h.d y hy).1 hx (by intro z;cases z))];exact(h.d y hy).1,(h.d y hy).2⟩ }
theorem BsAt.bump {H:Hp}{q:Pl}{cs:List Cl}{bs:List (Int×Addr)}(zs:List Int)(h:BsAt H q cs bs):BsAt H q (cs.map (bump zs)) bs:=
 { h with d:=λx hx=>by rw[J0];exact h.d x hx,all:=λe he=>(ah.mp he).elim λy hy=>(by rw[<-hy.2];exact h.all y hy.1) }
theorem Sr {ns:List Int}{z:Int}(h:z∉ns):putK (O1 ns) (Sum.inl z) (.bl true)=O1 (ns++[z]):=by
 rw[C8 _ (Je λx hx=>?_)]
 ·unfold O1;rw[aj];rfl
 ·obtain⟨y,hy,rfl⟩:=ah.mp hx;intro e;exact h (by rw[<-bH e];exact hy)
theorem BsAt.snoc {H:Hp}{q:Pl}{cs:List Cl}{bs:List (Int×Addr)}{d:Addr}{e:Cl}(h:BsAt H q cs bs)(hd:(Bn e.bk,d)∈bs)(hz:e.z∉DK cs (Bn e.bk)):BsAt (upd H d (.dK (putK (O1 (DK cs (Bn e.bk))) (Sum.inl e.z) (.bl true)))) q (cs++[e]) bs where
 h:=by rw[Af (Ne.symm (h.d _ hd).2.2.1)];exact h.h
 k:=h.k
 a:=h.a
 d:=λx hx=>by
  by_cases hs:x.1=Bn e.bk
  ·obtain rfl:x=(Bn e.bk,d):=BY h.k hx hd hs;exact⟨by rw[Ac,Sr hz,Kc,aE rfl],(h.d _ hx).2⟩
  ·have n:x.2≠d:=λz=>hs (congrArg Prod.fst (BY h.a hx hd z))
   rw[Af n,Kc,aH (λz=>hs z.symm),bZ];exact h.d x hx
 all:=λx hx=>by
  rcases au.mp hx with hx|hx
  ·exact h.all x hx
  ·rw[ai.mp hx];exact⟨_,hd,rfl⟩
theorem BsAt.fresh {H:Hp}{q:Pl}{cs:List Cl}{bs:List (Int×Addr)}{dn:Addr}{s:Int}(h:BsAt H q cs bs)(hv:Bz (QC bs) (Sum.inl s)=none)(hd:H dn=none)(n1:dn≠q.dt)(n2:dn≠q.dd):BsAt (upd (upd H dn (.dK [])) q.dz (.dK (putK (QC bs) (Sum.inl s) (.ref dn)))) q cs (bs++[(s,dn)]):=by
 have nz:dn≠q.dz:=λz=>by rw[z,h.h] at hd;cases hd
 have nb:∀x∈bs,x.2≠dn:=λx hx z=>by have:=(h.d x hx).1;rw[z,hd] at this;cases this
 refine⟨?_,?_,?_,λx hx=>?_,λe he=>?_⟩
 ·rw[Ac,C8 _ hv];unfold QC;rw[aj];rfl
 ·rw[aj,bB];refine⟨h.k,by simp,λa ha b hb=>?_⟩;obtain⟨x,hx,rfl⟩:=ah.mp ha;have:b=s:=by simpa using hb
  rw[this];intro z;rw[<-z,Pd h.k hx] at hv;cases hv
 ·rw[aj,bB];refine⟨h.a,by simp,λa ha b hb=>?_⟩;obtain⟨x,hx,rfl⟩:=ah.mp ha;have:b=dn:=by simpa using hb
  rw[this];exact nb x hx
 ·rcases au.mp hx with hx|hx
  ·rw[Af (h.d x hx).2.2.1,Af (nb x hx)];exact h.d x hx
  ·rw[ai.mp hx];refine⟨?_,n1,nz,n2⟩;show upd _ _ _ dn=some (.dK (O1 (DK cs s)));rw[Af nz,Ac,h.no hv];rfl
 ·obtain⟨x,hx,e1⟩:=h.all e he;exact⟨x,au.mpr (.inl hx),e1⟩
structure Md (CP CT:Addr) (H H':Hp) (p:Addr) (q:Pl) (cs:List Cl) (own:List Addr) (e:Cl) (us:List V) (dtk:List (Key×V)):Prop where
 f:Up own H H'
 p:H' p=some (.ins CP q.dp (Jq q.bo q.dt q.dz q.dd q.n))
 t:H' q.dt=some (.dK dtk)
 d:H' q.dd=some (.dK (OU cs))
 c:∀x∈cs,Hv CT H' x
 n:Hv CT H' e
 l:H' e.l=some (.lst us)
 u:AH NL H' ((AM e.bk).map FJ) us
theorem Md.put {CP CT:Addr}{H H':Hp}{p:Addr}{q:Pl}{cs:List Cl}{own:List Addr}{e:Cl}{us:List V}{dtk:List (Key×V)}(M:Md CP CT H H' p q cs own e us dtk){x:Addr}{o:HO}(hx:x∈own\/H x=none)(nt:x≠q.dt)(nd:x≠q.dd)(k:∀u,H' x=some u->∃kvs,u=.dK kvs):Md CP CT H (upd H' x o) p q cs own e us dtk:=by
 have no:∀{a u},H' a=some u->(∀kvs,u≠.dK kvs)->a≠x:=λ{a u} h n z=>by
  rw[z] at h;obtain⟨kvs,e⟩:=k _ h;exact n kvs e
 have ht:∀c ys,H' c=some (.tup ys)->(upd H' x o) c=some (.tup ys):=λc ys h=>by rw[Af (no h (by intro kvs z;cases z))];exact h
 refine⟨λa u h n=>?_,?_,?_,?_,λy hy=>?_,?_,?_,BN ht _ _ M.u⟩
 ·have:a≠x:=λz=>by
   rcases hx with hx|hx
   ·exact n (by rw[z];exact hx)
   ·rw[z,hx] at h;cases h
  rw[Af this];exact M.f a u h n
 ·rw[Af (no M.p (by intro kvs z;cases z))];exact M.p
 ·rw[Af (Ne.symm nt)];exact M.t
 ·rw[Af (Ne.symm nd)];exact M.d
 ·exact(M.c y hy).tup (Af (no (M.c y hy).1 (by intro kvs z;cases z))) ht
 ·exact M.n.tup (Af (no M.n.1 (by intro kvs z;cases z))) ht
 ·rw[Af (no M.l (by intro kvs z;cases z))];exact M.l
theorem Md.putT {CP CT:Addr}{H H':Hp}{p:Addr}{q:Pl}{cs:List Cl}{own:List Addr}{e:Cl}{us:List V}{dtk dt2:List (Key×V)}(M:Md CP CT H H' p q cs own e us dtk)(hx:q.dt∈own)(nd:q.dt≠q.dd):Md CP CT H (upd H' q.dt (.dK dt2)) p q cs own e us dt2:=by
 have no:∀{a u},H' a=some u->(∀kvs,u≠.dK kvs)->a≠q.dt:=λ{a u} h n z=>by
  rw[z,M.t] at h;exact n _ (aA h).symm
 have ht:∀c ys,H' c=some (.tup ys)->(upd H' q.dt (.dK dt2)) c=some (.tup ys):=λc ys h=>by rw[Af (no h (by intro kvs z;cases z))];exact h
 refine⟨λa u h n=>?_,?_,Ac,?_,λy hy=>?_,?_,?_,BN ht _ _ M.u⟩
 ·rw[Af (λz=>n (by rw[z];exact hx))];exact M.f a u h n
 ·rw[Af (no M.p (by intro kvs z;cases z))];exact M.p
 ·rw[Af (Ne.symm nd)];exact M.d
 ·exact(M.c y hy).tup (Af (no (M.c y hy).1 (by intro kvs z;cases z))) ht
 ·exact M.n.tup (Af (no M.n.1 (by intro kvs z;cases z))) ht
 ·rw[Af (no M.l (by intro kvs z;cases z))];exact M.l
def C6 (z y:Int)(b:Bk)(v:V)(c dx ta l:Addr)(cs:List Cl):Cl:=⟨z,y,b,v,c,dx,ta,l,0,(MW cs b).1,(MW cs b).2⟩
def Fg (K:W.Frag)(CP CT:Addr):Sp:=λvs H Q _=>∃p q cs bs v b,∃(ta:Addr) (z y:Int),vs=[.ref p,.ref ta,v]/\PAt CP CT H p q cs bs/\cs.length<=10000/\Rep NL H (Dy b) v/\GV b/\H ta=some (.tup [.int z,.int y,.int (Bn b)])/\z=(cs.length:Int)+1/\(∀t∈AM b,∃e∈cs,e.z=t.1)/\
 ∀H' c dx l bs',H c=none->H l=none->(∃us,H' l=some (.lst us)/\AH NL H' ((AM b).map FJ) us)->Fl CP CT H' p q ((cs++[C6 z y b v c dx ta l cs]).map (bump ((AM b).map (·.1))))->BsAt H' q ((cs++[C6 z y b v c dx ta l cs]).map (bump ((AM b).map (·.1)))) bs'->bs'.length<=bs.length+1->H' q.dd=some (.dK (OU cs))->Up (Cb p q cs bs) H H'->(∀x∈bs',x∈bs\/H x.2=none)->Q .non H'
theorem Lo (T:Txt K mg Ak Aa Ae XC)(F:Fun K "take" "Pool.take" CM f fd)(Dj:Nh P w K mg base 11 Aa "TakenCell" ["self","own_tag","block"] (C9 K Aa))(C5:Da P w K mg base 2 Ae "entries_of" ["self","folder"] (CG K Ae Aa))(DC:Da P w K mg base 2 Ae "steps_of" ["self","folder"] (Dh K Ae Aa))(Fz:Da P w K mg base 1 Ae "hold" ["self","tag"] (ES K Ae Aa)):FnOk P w K mg base CZ 13 f fd ["self","tag","block"] (Fg K Ae Aa):=by
 exists DJ
 ·obtain⟨p,q,cs,bs,v,b,ta,z,y,rfl,_⟩:=h;rfl
 obtain⟨p,q,cs,bs,v,b,ta,z,y,rfl,pa,few,hv,ok,hta,hz,hn,hq⟩:=h;have hu:=BP hr;refine⟨_,(!Ag (@Au _ _ (3) _ _ _ _ DJ.nd rfl (by trivial) (!Nn Dj (by trivial) rfl (!Ab (pv 1) (!Ab (pv 2) (!Ah)))) (by rfl) (by trivial)) (!Ag (!BQ (!AC B9 (!Am Ay (pv 2) (!Ad) (λ_ _=>rfl)) (!Bi rfl T.c_FOLDER) (AL _)) (!Ag (!Cv (pv 3) (!DD (pv 0) T.cl_Pool C5 (by trivial) (!Ab (pv 2) (!Ah)))) (!Al (!Cv (pv 3) (!DD (pv 0) T.cl_Pool DC (by trivial) (!Ab (pv 2) (!Ah)))))) (!AX)) (!Ag (!Ec hu (!BE (pv 0)) (!Am Ay (pv 1) (!Ad) (λ_ _=>rfl)) (pv 3)) (!Ag (@Au _ _ (4) _ _ _ _ DJ.nd rfl (by trivial) (!PH (!BE (pv 0)) (!Am Ay (pv 1) (!Ad) (λ_ _=>rfl)) (!Cc) ⟨rfl,rfl,rfl,rfl⟩) (by rfl) (by trivial)) (!Ag (!Ec hu (pv 4) (!Am Ay (pv 1) (!Ad) (λ_ _=>rfl)) (!Hn)) (!Al (!BJ aW rfl (!C0 (!BE (pv 3))) (@Aq _ _ (5) _ DJ.nd rfl (by trivial) (by trivial)) (!Al (!Bc (!DD (pv 0) T.cl_Pool Fz (by trivial) (!Ab (pv 5) (!Ah))))) (by intro _;rfl)))))))),?_⟩
 try dsimp only[Bw,Cx.nox,Cx.wish]
 refine⟨_,rfl,_,rfl,λc dx hc hdx hcd=>?_⟩;have hH1:∀a o,H a=some o->(upd (upd H dx (.own c)) c (.ins Aa dx [])) a=some o:=λa o h=>by
  rw[Af (λz=>by rw[z,hc] at h;cases h),Af (λz=>by rw[z,hdx] at h;cases h)];exact h
 refine⟨c,dx,ta,v,b,rfl,Ac,Cn (λc ys h=>hH1 c _ h) _ _ hv,ok,λl us H2 f2 nl hl r hc2=>⟨rfl,?_⟩⟩;have s2:An H H2:=λa o h=>f2 a o (hH1 a o h) (λz=>by rw[z,hc] at h;cases h)
 have nlH:H l=none:=by
  cases h:H l with
  |none=>rfl
  |some o=>rw[hH1 l o h] at nl;cases nl
 dsimp only[Az];refine Br (λσ' H'=>σ'=[some (.ref p),some (.ref ta),some v,some (.ref c),none,none]/\An H H'/\H' c=some (.ins Aa dx (FY ta ((wT (Dy b)).length:Int) l 0 (MW cs b).1 (MW cs b).2))/\H' l=some (.lst us)/\AH NL H' ((AM b).map FJ) us) (λN hN=>?_) ?_
 ·obtain⟨va,xs,rfl,hva⟩:=LU hv;refine⟨_,rfl,va,_,_,_,rfl,rfl,AG.of (s2.get hva),Me,rfl,_,rfl,D0 (λhk=>?_) (λhk=>?_)⟩
  ·cases b with
   |folder es=>
    have kn:∀x∈es,x.kd=2->∃e∈cs,e.z=x.tg.1:=λx hx _=>hn x.tg (ah.mpr ⟨x,hx,rfl⟩)
    refine⟨_,rfl,p,q.dp,_,rfl,(pa.same s2).t.1,rfl,_,rfl,p,q,cs,_,es,rfl,(pa.same s2).t,Rep.same s2 _ _ hv,ok.1,kn,λH4 s4=>?_⟩;refine⟨_,rfl,c,Aa,dx,_,rfl,s4.get hc2,T.cl_TakenCell,T.n_TakenCell_entries_beneath,(by show 6<1000;decide),?_⟩;have s5:An H (upd H4 c (.ins Aa dx (FY ta ((wT (Dy (.folder es))).length:Int) l 0 (MW cs (.folder es)).1 0))):=AI (s2.trans s4) hc _;refine⟨_,rfl,p,q.dp,_,rfl,(pa.same s5).t.1,rfl,_,rfl,p,q,cs,_,es,rfl,(pa.same s5).t,Rep.same s5 _ _ hv,ok.1,kn,λH6 s6=>?_⟩;refine⟨_,rfl,c,Aa,dx,_,rfl,s6.get Ac,T.cl_TakenCell,T.n_TakenCell_steps_beneath,(by show 6<1000;decide),?_⟩;have nlc:l≠c:=Bs hl hc2 (by intro z;cases z);have tp:∀a ys,H2 a=some (.tup ys)->(upd H6 c (.ins Aa dx (FY ta ((wT (Dy (.folder es))).length:Int) l 0 (MW cs (.folder es)).1 (MW cs (.folder es)).2))) a=some (.tup ys):=λa ys h=>by
     have na:a≠c:=Bs h hc2 (by intro z;cases z);rw[Af na];exact s6.get (by rw[Af na];exact s4.get h)
    refine hN _ _ ⟨rfl,AI (s5.trans s6) hc _,Ac,?_,BN tp _ _ r⟩;rw[Af nlc];exact s6.get (by rw[Af nlc];exact s4.get hl)
   |piece _=>cases hk
   |row _ _=>cases hk
  ·refine hN _ _ ⟨rfl,s2,?_,hl,r⟩;cases b with
   |folder es=>exact absurd rfl hk
   |piece _=>exact hc2
   |row _ _=>exact hc2
 rintro σ' H3 ⟨rfl,s3,hc3,hl3,r3⟩
 have pa3:=pa.same s3;have M3:Md Ae Aa H H3 p q cs (Cb p q cs bs) (C6 z y b v c dx ta l cs) us (KF cs):=⟨An.frm s3,pa3.t.1,pa3.t.2.1,pa3.d,pa3.t.2.2.1,⟨hc3,s3.get hta,Rep.same s3 _ _ hv,ok⟩,hl3,r3⟩
 have fz:∀e∈cs,e.z≠z:=λe he=>by
  obtain⟨i,hi,rfl⟩:=cn he;have:=pa.z i _ (ae hi);omega
 have tkl:(KF cs).length<100000:=by unfold KF;rw[aa];omega
 have ht3:=s3.get hta;refine⟨_,rfl,_,rfl,p,Ae,q.dp,_,_,rfl,M3.p,T.cl_Pool,T.n_Pool_taken,rfl,_,rfl,ta,_,_,_,rfl,rfl,AG.of ht3,rfl,q.dt,_,rfl,HF.k (k:=Sum.inl z) M3.t (AO (by omega)),?_⟩;have etk:putK (KF cs) (Sum.inl z) (.ref c)=KF (cs++[C6 z y b v c dx ta l cs]):=by
  rw[C8 _ (Je λx hx=>?_)]
  ·unfold KF;rw[aj];rfl
  ·obtain⟨e,he,rfl⟩:=ah.mp hx;intro z;exact fz e he (bH z)
 rw[etk];have ot:q.dt∈Cb p q cs bs:=by unfold Cb;simp
 have oz:q.dz∈Cb p q cs bs:=by unfold Cb;simp
 have M4:=M3.putT (dt2:=KF (cs++[C6 z y b v c dx ta l cs])) ot pa.n2;have B4:BsAt (upd H3 q.dt (.dK (KF (cs++[C6 z y b v c dx ta l cs])))) q cs bs:={ pa3.b with h:=by rw[Af (Ne.symm pa.n1)];exact pa3.b.h,d:=λx hx=>⟨by rw[Af (pa3.b.d x hx).2.1];exact(pa3.b.d x hx).1,(pa3.b.d x hx).2⟩ }
 have hz4:∀a,(upd H3 q.dt (.dK (KF (cs++[C6 z y b v c dx ta l cs])))) a=none->H a=none:=λa h=>by
  cases ha:H a with
  |none=>rfl
  |some o=>
   have:=s3.get ha
   by_cases e:a=q.dt
   ·rw[e,Ac] at h;cases h
   ·rw[Af e,this] at h;cases h
 generalize (upd H3 q.dt (.dK (KF (cs++[C6 z y b v c dx ta l cs]))))=H4 at M4 B4 hz4;have bl:bs.length<=100000:=by have:=pa.w;omega
 dsimp only;refine Br (λσ' H'=>∃d bs',σ'=[some (.ref p),some (.ref ta),some v,some (.ref c),some (.ref d),none]/\Md Ae Aa H H' p q cs (Cb p q cs bs) (C6 z y b v c dx ta l cs) us (KF (cs++[C6 z y b v c dx ta l cs]))/\BsAt H' q cs bs'/\(Bn b,d)∈bs'/\bs'.length<=bs.length+1/\(∀x∈bs',x∈bs\/H x.2=none)/\(d∈Cb p q cs bs\/H d=none)) (λN hN=>?_) ?_
 ·refine⟨_,rfl,p,Ae,q.dp,_,_,rfl,M4.p,T.cl_Pool,T.n_Pool_by_sums,rfl,q.dz,rfl,.inl ⟨_,.inl B4.h⟩,_,rfl,ta,_,_,_,rfl,rfl,AG.of M4.n.2.1,rfl,λdn hdn=>?_⟩;have ndn:∀{a o},H4 a=some o->dn≠a:=λ{a o} h z=>by rw[z,h] at hdn;cases hdn
  have M5:=M4.put (x:=dn) (o:=.dK []) (.inr (hz4 _ hdn)) (ndn M4.t) (ndn M4.d) (λu h=>by rw[hdn] at h;cases h);have B5:=B4.same (Ai hdn (.dK []));refine⟨_,Sum.inl (Bn b),B5.h,rfl,AO (by unfold QC;rw[aa];omega),λu hv=>?_,λhv=>?_⟩
  ·obtain⟨x,hx,hs,rfl⟩:=QF hv;refine hN _ _ ⟨x.2,bs,rfl,M5,B5,by rw[<-hs];exact hx,by omega,(λ_ h=>.inl h),.inl ?_⟩;unfold Cb;simp only[List.mem_cons,List.mem_append];exact .inr (.inr (.inr (.inr (.inl (ah.mpr ⟨x,hx,rfl⟩)))))
  ·refine hN _ _ ⟨dn,bs++[(Bn b,dn)],rfl,M5.put (.inl oz) (Ne.symm pa.n1) pa.n3 (λu h=>⟨_,by rw[B5.h] at h;exact(aA h).symm⟩),B4.fresh hv hdn (ndn M4.t) (ndn M4.d),by simp,by simp,(λx hx=>(au.mp hx).imp id λh=>by rw[ai.mp h];exact hz4 _ hdn),.inr (hz4 _ hdn)⟩
 rintro σ' H5 ⟨d,bs',rfl,M5,B5,hd5,lb,bfr,od⟩
 have hd6:=B5.d _ hd5;refine⟨_,rfl,_,rfl,ta,_,_,_,rfl,rfl,AG.of M5.n.2.1,rfl,d,_,rfl,HF.k (k:=Sum.inl z) hd6.1 (AO (by unfold O1;rw[aa];have:=Mo cs (Bn b);show(DK cs (Bn b)).length<1000000;omega)),?_⟩;have B6:=B5.snoc (e:=C6 z y b v c dx ta l cs) hd5 (λh=>by
  obtain⟨e,he,_,hz'⟩:=Hr.mp h;exact fz e he hz')
 have M6:=M5.put (x:=d) (o:=.dK (putK (O1 (DK cs (Bn b))) (Sum.inl z) (.bl true))) od hd6.2.1 hd6.2.2.2 (λu h=>⟨_,by rw[hd6.1] at h;exact(aA h).symm⟩);have e6:(upd H5 d (.dK (putK (O1 (DK cs (Bn b))) (Sum.inl z) (.bl true))))=(upd H5 d (.dK (putK (O1 (DK cs (Bn (C6 z y b v c dx ta l cs).bk))) (Sum.inl (C6 z y b v c dx ta l cs).z) (.bl true)))):=rfl;rw[<-e6] at B6;dsimp only;generalize (upd H5 d (.dK (putK (O1 (DK cs (Bn b))) (Sum.inl z) (.bl true))))=H6 at M6 B6;have nc6:((cs++[C6 z y b v c dx ta l cs]).map (·.c)).Nodup:=by
  rw[aj,bB];refine⟨pa.c,by simp,λa ha b' hb=>?_⟩;obtain⟨x,hx,rfl⟩:=ah.mp ha;have:b'=c:=ai.mp hb;rw[this];intro zz;have:=(pa.t.2.2.1 x hx).1;rw[zz,hc] at this;cases this
 have P6:Fl Ae Aa H6 p q (cs++[C6 z y b v c dx ta l cs]):=by
  refine⟨M6.p,M6.t,λe he=>?_,?_⟩
  ·rcases au.mp he with he|he
   ·exact M6.c e he
   ·rw[ai.mp he];exact M6.n
  ·rw[aj,bB];refine⟨pa.t.2.2.2,by simp,λa ha b' hb=>?_⟩;obtain⟨x,hx,rfl⟩:=ah.mp ha;have:b'=z:=ai.mp hb;rw[this];exact fz x hx
 refine⟨_,rfl,c,Aa,dx,_,_,rfl,M6.n.1,T.cl_TakenCell,T.n_TakenCell_named,rfl,l,rfl,⟨_,AB.of M6.l⟩,?_⟩;refine EF (K:=K) (a:=l) (xs:=us) (λi σ H'=>(∃v5,σ=[some (.ref p),some (.ref ta),some v,some (.ref c),some (.ref d),v5])/\Fl Ae Aa H' p q ((cs++[C6 z y b v c dx ta l cs]).map (bump (((AM b).map (·.1)).take i)))/\BsAt H' q (cs++[C6 z y b v c dx ta l cs]) bs'/\H' q.dd=some (.dK (OU cs))/\H' l=some (.lst us)/\AH NL H' ((AM b).map FJ) us/\Up (Cb p q cs bs) H H') ⟨⟨_,rfl⟩,by rw[dC,OS];exact P6,B6,M6.d,M6.l,M6.u,M6.f⟩ ?_ ?_ ?_
 ·rintro i σ H' _ ⟨_,_,_,_,h,_⟩
  exact AB.of h
 ·rintro i x σ H' hx ⟨⟨v5,rfl⟩,P7,B7,d7,l7,u7,f7⟩
  obtain⟨t,ht,rt⟩:=AH.get u7 hx;rw[aB] at ht;obtain⟨g,hg,rfl⟩:=bJ.mp ht;obtain⟨tx,rfl,htx⟩:=Jd rt;obtain⟨e,he,hze⟩:=hn g (az hg);have he7:bump (((AM b).map (·.1)).take i) e∈(cs++[C6 z y b v c dx ta l cs]).map (bump (((AM b).map (·.1)).take i)):=ah.mpr ⟨e,au.mpr (.inl he),rfl⟩;have hz7:(bump (((AM b).map (·.1)).take i) e).z=g.1:=hze;have H7:=P7.hold (by rw[Lg];exact nc6) he7;have c7:=(P7.2.2.1 _ he7).1;rw[<-hz7] at htx;refine⟨_,rfl,p,q.dp,_,rfl,P7.1,rfl,_,rfl,p,q,_,_,tx,_,_,rfl,P7,he7,htx,?_⟩;have tp:∀a ys,H' a=some (.tup ys)->(upd H' (bump (((AM b).map (·.1)).take i) e).c (.ins Aa (bump (((AM b).map (·.1)).take i) e).dx (FY (bump (((AM b).map (·.1)).take i) e).ta ((wT (Dy (bump (((AM b).map (·.1)).take i) e).bk)).length:Int) (bump (((AM b).map (·.1)).take i) e).l ((bump (((AM b).map (·.1)).take i) e).k+1) (bump (((AM b).map (·.1)).take i) e).en (bump (((AM b).map (·.1)).take i) e).st))) a=some (.tup ys):=λa ys h=>by rw[Af (Bs h c7 (by intro z;cases z))];exact h
  refine⟨⟨_,rfl⟩,?_,B7.ins c7,by rw[Af (Bs d7 c7 (by intro z;cases z))];exact d7,by rw[Af (Bs l7 c7 (by intro z;cases z))];exact l7,BN tp _ _ u7,λa o h n=>?_⟩
  ·rw[Mz,hz7] at H7;rw[aR,aB,hg];exact H7
  ·rw[Af (λzz=>n (by rw[zz];unfold Cb;simp only[List.mem_cons,List.mem_append];exact .inr (.inr (.inr (.inr (.inr (ah.mpr ⟨e,he,rfl⟩)))))))];exact f7 a o h n
 ·rintro σ H' ⟨⟨v5,rfl⟩,P7,B7,d7,l7,u7,f7⟩
  have lu:us.length=((AM b).map (·.1)).length:=by rw[AH.len _ _ u7,aa,aa]
  rw[lu,cb] at P7;exact hq H' c dx l bs' hc nlH ⟨us,l7,u7⟩ P7 (B7.bump _) lb d7 f7 bfr
theorem PAt.lst {CP CT:Addr}{H:Hp}{p:Addr}{q:Pl}{cs:List Cl}{bs:List (Int×Addr)}{l:Addr}{us us':List V}(h:PAt CP CT H p q cs bs)(hl:H l=some (.lst us)):PAt CP CT (upd H l (.lst us')) p q cs bs:=by
 have no:∀{a o},H a=some o->(∀ys,o≠.lst ys)->(upd H l (.lst us')) a=some o:=λ{a o} h1 n=>by rw[Af (λz=>by rw[z,hl] at h1;exact n _ (aA h1).symm)];exact h1
 have nk:∀{a kvs},H a=some (.dK kvs)->(upd H l (.lst us')) a=some (.dK kvs):=λ{a kvs} h1=>no h1 (by intro ys z;cases z)
 refine⟨⟨no h.t.1 (by intro ys z;cases z),nk h.t.2.1,λe he=>?_,h.t.2.2.2⟩,nk h.d,{ h.b with h:=nk h.b.h,d:=λx hx=>⟨nk (h.b.d x hx).1,(h.b.d x hx).2⟩ },h.n1,h.n2,h.n3,h.c,h.z,h.w,h.f1,h.f2⟩;have hc:=(h.t.2.2.1 e he).1;exact(h.t.2.2.1 e he).tup ((no hc (by intro ys z;cases z)).trans hc.symm) λc ys h1=>no h1 (by intro ys z;cases z)
theorem PAt.setn {CP CT:Addr}{H H':Hp}{p:Addr}{q:Pl}{cs:List Cl}{bs:List (Int×Addr)}{m:Int}(h:PAt CP CT H p q cs bs)(hp:H' p=some (.ins CP q.dp (Jq q.bo q.dt q.dz q.dd m)))(ho:∀b,b≠p->H' b=H b)(m1:1<=m)(m2:m<=(cs.length:Int)+1):PAt CP CT H' p { q with n:=m } cs bs:=by
 have no:∀{a o},H a=some o->(∀C d fs,o≠.ins C d fs)->H' a=some o:=λ{a o} h1 n=>by rw[ho a (λz=>by rw[z,h.t.1] at h1;exact n _ _ _ (aA h1).symm)];exact h1
 have nk:∀{a kvs},H a=some (.dK kvs)->H' a=some (.dK kvs):=λ{a kvs} h1=>no h1 (by intro C d fs z;cases z)
 refine⟨⟨hp,nk h.t.2.1,λe he=>?_,h.t.2.2.2⟩,nk h.d,{ h.b with h:=nk h.b.h,d:=λx hx=>⟨nk (h.b.d x hx).1,(h.b.d x hx).2⟩ },h.n1,h.n2,h.n3,h.c,h.z,h.w,m1,m2⟩;have hc:=(h.t.2.2.1 e he).1;refine(h.t.2.2.1 e he).tup (ho _ λz=>?_) λc ys h1=>no h1 (by intro C d fs z;cases z)
 rw[z,h.t.1] at hc;have:=aA hc;injection this with _ _ this
 injection this with this _
 injection this with this _
 revert this
 decide
def FZ (K:W.Frag)(CP CT:Addr):Sp:=λvs H Q _=>∃p q cs bs v b,∃(y:Int),vs=[.ref p,v,.int y]/\PAt CP CT H p q cs bs/\cs.length<=10000/\Rep NL H (Dy b) v/\GV b/\(∀t∈AM b,∃e∈cs,e.z=t.1)/\
 (∀e∈cs,e.bk=b->∀H',An H H'->Q (.ref e.ta) H')/\
 ((∀e∈cs,e.bk≠b)->∀H' c dx l ta bs',H c=none->H l=none->(∃us,H' l=some (.lst us)/\AH NL H' ((AM b).map FJ) us)->PAt CP CT H' p { q with n:=(cs.length:Int)+1 } ((cs++[C6 ((cs.length:Int)+1) y b v c dx ta l cs]).map (bump ((AM b).map (·.1)))) bs'->Up (Cb p q cs bs) H H'->(∀x∈bs',x∈bs\/H x.2=none)->Q (.ref ta) H')
theorem LF (T:Txt K mg Ak Aa Ae XC)(F:Fun K "put" "Pool.put" Dd f fd)(Fp:Da P w K mg base 4 Ae "alike" ["self","block"] (Eo K Ae Aa))(Gb:Da P w K mg base 13 Ae "take" ["self","tag","block"] (Fg K Ae Aa))(CF:Da P w K mg base 1 Ae "free_number" ["self"] (Cw K Ae Aa))(Ey:Def P w K mg base 3 "sum_of" ["block"] (Gm K)):FnOk P w K mg base CZ 14 f fd ["self","block","birth"] (FZ K Ae Aa):=by
 exists Gd
 ·obtain⟨p,q,cs,bs,v,b,y,rfl,_⟩:=h;rfl
 obtain⟨p,q,cs,bs,v,b,y,rfl,pa,few,hv,ok,hn,hq1,hq2⟩:=h;have hu:=BP hr;refine⟨_,(!Ag (@Au _ _ (3) _ _ _ _ Gd.nd rfl (by trivial) (!DD (pv 0) T.cl_Pool Fp (by trivial) (!Ab (pv 1) (!Ah))) (by rfl) (by trivial)) (!Ag (!BQ (!Hz (!RQ (pv 3)) (by first|exact D9 _ (by decide) (by decide)|rfl)) (!Al (!Av (pv 3))) (!AX)) (!Ag (@Au _ _ (4) _ _ _ _ Gd.nd rfl (by trivial) (!Bq (!Ab (!Ob (pv 0) T.cl_Pool CF) (!Ab (pv 2) (!Ab (!AU Ey (by trivial) rfl (!Ab (pv 1) (!Ah))) (!Ah))))) (by rfl) (by trivial)) (!Ag (!Bc (!DD (pv 0) T.cl_Pool Gb (by trivial) (!Ab (pv 4) (!Ab (pv 1) (!Ah))))) (!Ag (!Ec hu (!BE (pv 0)) (!Am Ay (pv 4) (!Ad) (λ_ _=>rfl)) (pv 1)) (!Al (!Av (pv 4)))))))),?_⟩
 try dsimp only[Bw,Cx.nox,Cx.wish]
 refine⟨_,rfl,p,q.dp,_,rfl,pa.t.1,rfl,_,rfl,p,q,cs,bs,v,b,rfl,pa,few,hv,ok,λe he eb H1 s1=>?_,λhne H1 s1=>?_⟩
 ·exact⟨_,rfl,_,rfl,Ft rfl ⟨_,rfl,hq1 e he eb H1 s1⟩⟩
 refine⟨_,rfl,_,rfl,Cu rfl ?_⟩;have pa1:=pa.same s1;refine⟨_,rfl,p,q.dp,_,rfl,pa1.t.1,rfl,p,q,cs,rfl,pa1.t,pa.z,pa.f1,pa.f2,λH2 hp2 ho2=>?_⟩;have pa2:PAt Ae Aa H2 p { q with n:=(cs.length:Int)+1 } cs bs:=pa1.setn hp2 ho2 (by omega) (by omega);have tp2:∀a ys,H1 a=some (.tup ys)->H2 a=some (.tup ys):=λa ys h=>by rw[ho2 a (Bs h pa1.t.1 (by intro z;cases z))];exact h
 have k2:∀a o,H a=some o->∃o',H2 a=some o':=λa o h=>by
  by_cases e:a=p
  ·exact⟨_,by rw[e];exact hp2⟩
  ·exact⟨o,by rw[ho2 a e];exact s1.get h⟩
 refine⟨_,rfl,_,rfl,v,b,rfl,Cn tp2 _ _ (Rep.same s1 _ _ hv),ok,λH3 s3=>?_⟩;refine⟨Iv,λta hta=>?_⟩;have s4:=s3.trans (Ai hta (.tup [.int ((cs.length:Int)+1),.int y,.int (Bn b)]));have pa4:=pa2.same s4;have t4:(upd H3 ta (.tup [.int ((cs.length:Int)+1),.int y,.int (Bn b)])) ta=some (.tup [.int ((cs.length:Int)+1),.int y,.int (Bn b)]):=Ac;have hv4:=Rep.same s4 _ _ (Cn tp2 _ _ (Rep.same s1 _ _ hv));generalize (upd H3 ta (.tup [.int ((cs.length:Int)+1),.int y,.int (Bn b)]))=H4 at s4 pa4 t4 hv4;refine⟨_,rfl,p,q.dp,_,rfl,pa4.t.1,rfl,_,rfl,_,rfl,p,_,cs,bs,v,b,ta,_,y,rfl,pa4,few,hv4,ok,t4,rfl,hn,λH5 c dx l bs' hc hl4 ⟨us,l5,u5⟩ P5 B5 lb d5 f5 bfr=>?_⟩;have t5:=f5 ta _ t4 (pa4.apart t4 (by intro C d fs z;cases z) (by intro kvs z;cases z));refine⟨_,rfl,_,rfl,p,Ae,q.dp,_,_,rfl,P5.1,T.cl_Pool,T.n_Pool_draft,rfl,_,rfl,ta,_,_,_,rfl,rfl,AG.of t5,rfl,q.dd,_,rfl,HF.k (k:=Sum.inl ((cs.length:Int)+1)) d5 (AO (by unfold OU;rw[aa];omega)),?_⟩;have fr:∀a,H4 a=none->H a=none:=λa hc=>by
  cases h:H a with
  |none=>rfl
  |some o=>
   obtain⟨o',h'⟩:=k2 a o h;rw[s4.get h'] at hc;cases hc
 have hcH:=fr c hc;have edr:putK (OU cs) (Sum.inl ((cs.length:Int)+1)) v=OU ((cs++[C6 ((cs.length:Int)+1) y b v c dx ta l cs]).map (bump ((AM b).map (·.1)))):=by
  rw[Pq,C8 _ (Je λx hx=>?_)]
  ·unfold OU;rw[aj];rfl
  ·obtain⟨e,he,rfl⟩:=ah.mp hx;obtain⟨i,hi,rfl⟩:=cn he;have:=pa.z i _ (ae hi);intro zz;have:=bH zz;omega
 rw[edr];have nt0:∀{a u},H5 a=some u->(∀kvs,u≠.dK kvs)->a≠q.dd:=λ{a u} h n zz=>by
  rw[zz,d5] at h;exact n _ (aA h).symm
 refine⟨_,rfl,hq2 hne _ c dx l ta bs' hcH (fr l hl4) ⟨us,by rw[Af (nt0 l5 (by intro kvs z;cases z))];exact l5,BN (λa ys h=>by rw[Af (nt0 h (by intro kvs z;cases z))];exact h) _ _ u5⟩ ?_ (λa o h n=>?_) λx hx=>(bfr x hx).imp id (fr x.2)⟩
 ·have nt:∀{a u},H5 a=some u->(∀kvs,u≠.dK kvs)->a≠q.dd:=λ{a u} h n zz=>by
   rw[zz,d5] at h;exact n _ (aA h).symm
  refine⟨⟨?_,?_,λe he=>?_,P5.2.2.2⟩,Ac,{ B5 with h:=?_,d:=λx hx=>⟨?_,(B5.d x hx).2⟩ },pa.n1,pa.n2,pa.n3,?_,λi e h=>?_,?_,?_,?_⟩
  ·rw[Af (nt P5.1 (by intro kvs z;cases z))];exact P5.1
  ·rw[Af pa.n2];exact P5.2.1
  ·exact(P5.2.2.1 e he).tup (Af (nt (P5.2.2.1 e he).1 (by intro kvs z;cases z))) λa ys h=>by rw[Af (nt h (by intro kvs z;cases z))];exact h
  ·rw[Af pa.n3];exact B5.h
  ·rw[Af (B5.d x hx).2.2.2];exact(B5.d x hx).1
  ·rw[Lg,aj,bB];refine⟨pa.c,by simp,λa ha b' hb=>?_⟩;obtain⟨x,hx,rfl⟩:=ah.mp ha;have:b'=c:=ai.mp hb;rw[this];intro zz;have:=(pa.t.2.2.1 x hx).1;rw[zz,hcH] at this;cases this
  ·rw[aB] at h;obtain⟨x,hx,rfl⟩:=bJ.mp h;show x.z=_
   by_cases hi:i<cs.length
   ·rw[bF hi] at hx;exact pa.z i x hx
   ·rw[bD (by omega)] at hx;obtain⟨h1,h2⟩:=aw.mp hx;have:i=cs.length:=by
     have:i-cs.length<1:=h1;omega
    subst this;simp only[Nat.sub_self,List.getElem_cons_zero] at h2;rw[<-h2];rfl
  ·rw[aa,ao];have:=pa.w;show bs'.length<=cs.length+1;omega
  ·show(1:Int)<=(cs.length:Int)+1;omega
  ·rw[aa,ao];show(cs.length:Int)+1<=((cs.length+1:Nat):Int)+1;omega
 ·have na:a≠q.dd:=λzz=>n (by rw[zz];unfold Cb;simp)
  have np:a≠p:=λzz=>n (by rw[zz];unfold Cb;simp)
  rw[Af na];exact f5 a o (s4.get (by rw[ho2 a np];exact s1.get h)) n
end
open M06
section
variable {P:Program}{w:World}{K:W.Frag}{mg:Str->Option Value}{base:Heap}{f Ak Aa Ae:Addr}{XC:Nat->Addr}{fd:FuncData}
def BR (K:W.Frag):Sp:=λvs H Q _=>∃(a:Addr) (ns:List Int) (k:Int),vs=[.ref a,.int k]/\0<=k/\AB K H a (ns.map V.int)/\∀z:Int,Q (.int z) H
theorem IH (T:Txt K mg Ak Aa Ae XC)(F:Fun K "_law_cell_at" "_law_cell_at" BH f fd):FnOk P w K mg base CZ 1 f fd ["_law_script","_law_k"] (BR K):=by
 exists Iz
 ·obtain⟨a,ns,k,rfl,_⟩:=h;rfl
 obtain⟨a,ns,k,rfl,hk,hS,q⟩:=h;refine⟨_,(!Ag (!BQ (!AC PN (pv 1) (!AA AQ (by rfl) T.b_len Cy (!Ab (pv 0) (!Ah))) (AL _)) (!Al (!Av (!Am Aw (pv 0) (pv 1) (λ_ _=>rfl)))) (!AX)) (!Al (!Av (!Ad)))),?_⟩;refine⟨_,rfl,_,rfl,a,_,rfl,.inl hS,_,_,rfl,rfl,_,rfl,D0 (λc=>?_) (λc=>q 0)⟩;have c':=dec_true c;rw[aa] at c';exact⟨_,rfl,_,rfl,a,_,_,_,rfl,rfl,hS,C3 hk c',q _⟩
theorem Jv {g:Array Nat}(hg:g.toList=[]):∀(xs:List Str) (acc:Array Nat),(xs.foldl (λacc p=>acc++g++p.cps) acc).toList=acc.toList++(xs.map Be).flatten
 |[],acc=>by simp
 |x::xs,acc=>by
  rw[List.foldl_cons,Jv hg xs,gF,gF,hg,bZ,aq,List.flatten_cons,cz]
theorem Q3 {g:Str}(hg:Be g=[])(ys:List Str):Be (PySem.Txt.join g ys)=(ys.map Be).flatten:=by
 unfold PySem.Txt.join PySem.Builtin.Str.glued
 change Array.toList (List.foldl _ _ _)=_
 rw[Jv (g:=g.cps) hg];cases ys with
 |nil=>rfl
 |cons y ys=>simp
theorem Ax {te:TE}{g:TG}{u:TS}{D:Ends}{σ:St}{H:Hp}(h:te σ H λx H'=>g x σ H' λσ' H''=>u D σ' H''):RD (RY te g) u D σ H:=h
theorem LO {te:TE}{u:TS}{D:Ends}{σ:St}{H:Hp}(h:te σ H λ_ H'=>u D σ H'):RD (SL te) u D σ H:=h
abbrev EM:Str:=PySem.Str.ofString ""
abbrev GT (H:Hp)(a:Addr)(t:Tg):Prop:=H a=some (.tup [.int t.1,.int t.2.1,.int t.2.2])
theorem NJ {α:Type}{g:α->Tr}{H:Hp}:∀{xs:List α} {vs:List V},vs.length=xs.length->(∀(i:Nat) x v,xs[i]?=some x->vs[i]?=some v->Rep NL H (g x) v)->AH NL H (xs.map g) vs
 |[],[],_,_=>rfl
 |[],_::_,h,_=>nomatch h
 |_::_,[],h,_=>nomatch h
 |x::xs,v::vs,h,r=>⟨v,vs,rfl,r 0 x v rfl rfl,NJ (cZ h) λi y u e1 e2=>r (i+1) y u (by simpa using e1) (by simpa using e2)⟩
theorem len_app (x y:Str):(x++y).length=x.length+y.length:=Str.length_append x y
theorem IW {α:Type} {J:It} {ps:List α} {g:α->V} {fr:List (Option Nat)} {k:Nat} {te:TE} {Q:VK} {σ:St} {H:Hp} (f:α->V) (hJ:HB J H (ps.map g)) (hn:ps.length<=1000000)
  (helt:∀x∈ps,∀(H':Hp) (R:VK),An H H'->(∀H'',An H' H''->R (f x) H'')->te ((stC fr σ).set k (some (g x))) H' R)
  (hQ:∀l H',H l=none->An H H'->H' l=some (.lst (ps.map f))->Q (.ref l) H'):DW fr (Az k) NB te σ Q J H:=
 BW (λ_=>true) f hJ hn (λx hx H' R s' hR=>hR) (λx hx _=>helt x hx) λl H' nl s' hl=>hQ l H' nl s' (by rw[hl,eN.mpr λ_ _=>rfl])
abbrev Gv (H:Hp)(ps:List (Addr×Tg)):Prop:=∀p∈ps,GT H p.1 p.2
theorem Lm {H:Hp}:∀{ts:List Tg} {us:List V},AH NL H (ts.map FJ) us->∃ps:List (Addr×Tg),us=ps.map (λp=>V.ref p.1)/\ts=ps.map (·.2)/\Gv H ps
 |[],us,h=>⟨[],by rw[show us=[] from h];rfl,rfl,λ_ h=>nomatch h⟩
 |x::ts,us,h=>by
  obtain⟨v,vs,rfl,r,rs⟩:=h;obtain⟨ps,e1,e2,e3⟩:=Lm rs;obtain⟨a,rfl,h1⟩:=Jd r;refine⟨(a,x)::ps,by rw[e1];rfl,by rw[e2];rfl,λp hp=>?_⟩;rcases aL.mp hp with rfl|hp
  ·exact h1
  ·exact e3 p hp
theorem N4 {H:Hp}:∀{ps:List (Addr×Tg)},Gv H ps->AH NL H ((ps.map (·.2)).map FJ) (ps.map λp=>V.ref p.1)
 |[],_=>rfl
 |p::ps,h=>⟨_,_,rfl,HA (h p ax),N4 λq hq=>h q (aM _ hq)⟩
theorem Gv.same {H H':Hp}{ps:List (Addr×Tg)}(h:Gv H ps)(s:An H H'):Gv H' ps:=λp hp=>s.get (h p hp)
theorem KH {α:Type}{R:α->Addr->Prop}:∀{ys:List (α×V)},(∀q∈ys,∃t,q.2=V.ref t/\R q.1 t)->∃rs:List (α×Addr),ys.map (·.2)=rs.map (λp=>V.ref p.2)/\rs.map (·.1)=ys.map (·.1)/\∀p∈rs,R p.1 p.2
 |[],_=>⟨[],rfl,rfl,λ_ h=>nomatch h⟩
 |y::ys,h=>by
  obtain⟨rs,e1,e2,e3⟩:=KH λq hq=>h q (aM _ hq)
  obtain⟨t,et,ht⟩:=h y ax;refine⟨(y.1,t)::rs,by rw[aq,aq,e1,et],by rw[aq,aq,e2],λp hp=>?_⟩;rcases aL.mp hp with rfl|hp
  ·exact ht
  ·exact e3 p hp
abbrev KT (H H':Hp):Prop:=∀c xs,H c=some (.tup xs)->H' c=some (.tup xs)
theorem KT.of {H H':Hp}(s:An H H'):KT H H':=λ_ _ h=>s.get h
theorem KT.lst {H:Hp}{l:Addr}{us:List V}(h:H l=some (.lst us))(o:HO):KT H (upd H l o):=λc xs e=>by rw[Af λw=>by rw[w,h] at e;cases e];exact e
abbrev BM:=Int->Option Bk
def Rw (B:BM):Nat->Int->Prop
 |0,z=>∃c,B z=some (.piece c)/\c.length<=8
 |n+1,z=>(∃c,B z=some (.piece c)/\c.length<=8)\/∃lv ts,B z=some (.row lv ts)/\ts.length<=3/\∀t∈ts,Rw B n t.1
theorem QM (zs:List Str):(PySem.Txt.join EM zs).length=(zs.map (·.length)).sum:=by
 rw[<-A1,Q3 rfl,List.length_flatten,ar];rfl
theorem Gk {α β:Type}{f:α->β}{us vs:List β}(h:us.Perm vs):∀{qs:List α},vs=qs.map f->∃us':List α,us'.Perm qs/\us'.map f=us:=by
 induction h with
 |nil=>intro qs e;exact⟨[],by rw[gD.mp e.symm],rfl⟩
 |cons x _ ih=>
  intro qs e;cases qs with
  |nil=>cases e
  |cons q qs=>
   rw[aq] at e;injection e with e1 e2
   obtain⟨us',h1,h2⟩:=ih e2;exact⟨q::us',h1.cons q,by rw[aq,h2,e1]⟩
 |swap x y l=>
  intro qs e;cases qs with
  |nil=>cases e
  |cons q qs=>
   cases qs with
   |nil=>cases e
   |cons q' qs=>
    rw[aq,aq] at e;injection e with e1 e2
    injection e2 with e2 e3
    exact⟨q'::q::qs,List.Perm.swap _ _ _,by rw[aq,aq,e1,e2,e3]⟩
 |trans _ _ ih1 ih2=>
  intro qs e;obtain⟨a,h1,h2⟩:=ih2 e;obtain⟨b,h3,h4⟩:=ih1 h2.symm;exact⟨b,h3.trans h1,h4⟩
def Q6 (H:Hp)(p:Addr×En):Prop:=∃b,H p.1=some (.tup [.str p.2.nm,.int p.2.kd,.ref b])/\H b=some (.tup [.int p.2.tg.1,.int p.2.tg.2.1,.int p.2.tg.2.2])
theorem Q6.same {H H':Hp}{p:Addr×En}(h:Q6 H p)(s:An H H'):Q6 H' p:=let⟨b,h1,h2⟩:=h;⟨b,s.get h1,s.get h2⟩
theorem Q6.tup {H H':Hp}{p:Addr×En}(h:Q6 H p)(k:∀b xs,H b=some (.tup xs)->H' b=some (.tup xs)):Q6 H' p:=let⟨b,h1,h2⟩:=h;⟨b,k _ _ h1,k _ _ h2⟩
theorem QA {H:Hp}:∀{es:List En} {us:List V},AH NL H (es.map Kn) us->∃ps:List (Addr×En),us=ps.map (λp=>V.ref p.1)/\es=ps.map (·.2)/\∀p∈ps,Q6 H p
 |[],us,h=>⟨[],by rw[show us=[] from h];rfl,rfl,λ_ h=>nomatch h⟩
 |x::es,us,h=>by
  obtain⟨v,vs,rfl,r,rs⟩:=h;obtain⟨ps,e1,e2,e3⟩:=QA rs;obtain⟨a,b,rfl,h1,h2⟩:=Et r;refine⟨(a,x)::ps,by rw[e1];rfl,by rw[e2];rfl,λp hp=>?_⟩;rcases aL.mp hp with rfl|hp
  ·exact⟨b,h1,h2⟩
  ·exact e3 p hp
theorem NX {H:Hp}:∀{ps:List (Addr×En)},(∀p∈ps,Q6 H p)->AH NL H ((ps.map (·.2)).map Kn) (ps.map λp=>V.ref p.1)
 |[],_=>rfl
 |p::ps,h=>by
  obtain⟨b,h1,h2⟩:=h p ax;exact⟨_,_,rfl,Tf h1 h2,NX λq hq=>h q (aM _ hq)⟩
theorem LK {σ:St}{H:Hp}{Q:List V->Hp->Prop}(h:Q [] H):OG σ H Q:=h
structure HE where
 nm:Str
 kd:Int
 ow:Str
 og:Key
 tg:Tg
def GO (H:Hp)(p:Addr×HE):Prop:=∃ta,H p.1=some (.tup [.str p.2.nm,.int p.2.kd,.str p.2.ow,kV p.2.og,.ref ta])/\GT H ta p.2.tg
theorem GO.same {H H':Hp}{p:Addr×HE}(h:GO H p)(s:An H H'):GO H' p:=let⟨ta,h1,h2⟩:=h;⟨ta,s.get h1,s.get h2⟩
theorem Sm {α:Type}{p:α->Bool}{es:List α}{i:Nat}{y:α}(ey:es[i]?=some y)(e:p y=true)(no:∀x∈es.take i,p x=false):es.find? p=some y:=by
 have h1:es=es.take i++y::es.drop (i+1):=by
  obtain⟨hl,he⟩:=aw.mp ey;rw[<-he];exact(eE i es).symm.trans (by rw[dI hl])
 rw[h1,eZ,cT.mpr λx hx c=>(by rw[no x hx] at c;cases c),List.find?_cons,e];rfl
theorem Jj {α:Type}{z:α->Int}{v:α->V}:∀{cs:List α},(cs.map z).Nodup->∀c∈cs,Bz (cs.map λc=>(Sum.inl (z c),v c):List (Key×V)) (.inl (z c))=some (v c)
 |x::cs,nd,c,hc=>by
  rw[aq,bO] at nd;rw[aq];rcases aL.mp hc with rfl|hc
  ·exact D6 rfl
  ·rw[Dr λe=>nd.1 (ah.mpr ⟨c,hc,(bH e).symm⟩)];exact Jj nd.2 c hc
end
section
variable {P:Program}{w:World}{K:W.Frag}{mg:Str->Option Value}{base:Heap}{f:Addr}{XC:Nat->Addr}{fd:FuncData}
def Dt (K:W.Frag):Sp:=λvs H Q _=>∃(c m:Int),vs=[.int c,.int m]/\0<=m/\m<=1000/\
 ∀(r:Addr) (H':Hp) (ns:List Int),An H H'->H r=none->H' r=some (.lst (ns.map V.int))->ns.length=m.toNat->(∀x∈ns,0<=x/\x<60)->Q (.ref r) H'
theorem Mh (T:Txt K mg Ak Aa Ae XC)(F:Fun K "_law_row" "_law_row" De f fd):FnOk P w K mg base CZ 1 f fd ["_law_cell","_law_many"] (Dt K):=by
 exists Dv
 ·obtain⟨c,m,rfl,_⟩:=h;rfl
 obtain⟨c,m,rfl,hm0,hm1,q⟩:=h;refine⟨_,(!Ag (@Au _ _ (2) _ _ _ _ Dv.nd rfl (by trivial) (!A5 (!Ah)) (by rfl) (by trivial)) (!Ag (!BJ aW rfl (!Bg rfl T.b_range (!Ab (pv 1) (!Ah))) (@Aq _ _ (3) _ Dv.nd rfl (by trivial) (by trivial)) (!Al (!BQ (!Mt Lu PN (!Ad) (pv 0) (!Ao My (!Ad) (!Ad)) (by with_unfolding_all rfl)) (!Ag (@Au _ _ (4) _ _ _ _ Dv.nd rfl (by trivial) (!Ao AN (!Ao AF (!Ao AF (!Ao BI (!Ao AN (pv 0) (!Ad)) (!Ad)) (!Ao BI (!Ao BI (pv 3) (pv 3)) (!Ad))) (!Ad)) (!Ad)) (by rfl) (by trivial)) (!Al (!Bc (!CA aK bg bf Bo (pv 2) (!Ab (!Ao AN (!Ao K5 (!Ao AN (!Ao BI (pv 4) (!Ao AF (!Ao AN (pv 4) (!Ad)) (!Ad))) (!Ad)) (!Ad)) (!Ad)) (!Ah)))))) (!Ag (!Bc (!CA aK bg bf Bo (pv 2) (!Ab (!Ao AN (pv 0) (!Ad)) (!Ah)))) (!Al (@Au _ _ (0) _ _ _ _ Dv.nd rfl (by trivial) (!Ao K5 (pv 0) (!Ad)) (by rfl) (by trivial)))))) (by intro _;rfl)) (!Al (!Av (pv 2))))),?_⟩
 try dsimp only[Bw,Cx.nox,Cx.wish]
 refine⟨Fv,λg hg=>?_⟩;refine⟨_,rfl,m,rfl,by omega,by omega,Cj (lo:=0) (n:=m.toNat) (λi σ H2=>∃(ns:List Int) (z:Int) (v u:Option V),σ=[some (.int z),some (.int m),some (.ref g),v,u]/\An H H2/\H2 g=some (.lst (ns.map V.int))/\ns.length=i/\∀x∈ns,0<=x/\x<60)
  ⟨[],c,none,none,rfl,Ai hg _,Ac,rfl,λ_ h=>nomatch h⟩ ?_ ?_⟩
 ·rintro i σ H2 hi ⟨ns,z,v,u,rfl,s2,hg2,hl,hb⟩
  have app:∀x:Int,0<=x->x<60->∀(z:Int) (v u:Option V),∃(ns':List Int) (z':Int) (v' u':Option V),[some (.int z),some (.int m),some (.ref g),v,u]=[some (.int z'),some (.int m),some (.ref g),v',u']/\An H (upd H2 g (.lst (ns.map V.int++[.int x])))/\(upd H2 g (.lst (ns.map V.int++[.int x]))) g=some (.lst (ns'.map V.int))/\ns'.length=i+1/\∀x∈ns',0<=x/\x<60:=λx h0 h1 z v u=>
   ⟨ns++[x],z,v,u,rfl,AI s2 hg _,by rw[Ac,aj];rfl,by rw[ao,hl];rfl,λy hy=>by
    rcases au.mp hy with hy|hy
    ·exact hb y hy
    ·rw[ai.mp hy];exact⟨h0,h1⟩⟩
  have few:(ns.map V.int).length<sizeLine:=AO (by rw[aa];omega);refine⟨_,rfl,_,_,rfl,rfl,_,rfl,D0 (λc1=>?_) (λc1=>?_)⟩
  ·refine⟨_,_,rfl,rfl,⟨by decide,by decide,by decide⟩,_,_,rfl,rfl,_,rfl,D0 (λc2=>?_) (λc2=>?_)⟩
   ·refine⟨_,rfl,_,_,rfl,rfl,(by show(0:Int)<2147483629;decide),_,_,rfl,rfl,.inr ⟨by decide,by decide⟩,_,rfl,_,rfl,_,_,rfl,rfl,.inl ⟨by omega,by omega⟩,_,_,rfl,rfl,.inr ⟨by decide,by decide⟩,_,_,rfl,rfl,_,_,rfl,rfl,_,_,rfl,rfl,(by show(0:Int)<2147483647;decide),?_⟩;have b0:=bh (z%2147483629*48271+(0+(i:Int))*(0+(i:Int))*69621+7) (show(2147483647:Int)≠0 by decide);have b1:=aV (z%2147483629*48271+(0+(i:Int))*(0+(i:Int))*69621+7) (show(0:Int)<2147483647 by decide);dsimp only;generalize (z%2147483629*48271+(0+(i:Int))*(0+(i:Int))*69621+7)%2147483647=y at b0 b1;refine⟨_,rfl,.inl ⟨rfl,_,AB.of hg2⟩,_,rfl,_,rfl,_,_,rfl,rfl,(by show(0:Int)<65521;decide),_,_,rfl,rfl,_,_,rfl,rfl,.inl ⟨by omega,by omega⟩,_,_,rfl,rfl,(by show(0:Int)<2147483629;decide),_,_,rfl,rfl,⟨by decide,by decide⟩,_,_,rfl,rfl,(by show(0:Int)<60;decide),g,_,_,rfl,rfl,hg2,few,?_⟩;exact app _ (bh _ (by decide)) (aV _ (by decide)) _ _ _
   ·refine⟨_,rfl,.inl ⟨rfl,_,AB.of hg2⟩,_,rfl,_,_,rfl,rfl,(by show(0:Int)<60;decide),g,_,_,rfl,rfl,hg2,few,?_⟩;refine⟨_,rfl,_,_,rfl,rfl,⟨by decide,by decide⟩,?_⟩;exact app _ (bh _ (by decide)) (aV _ (by decide)) _ _ _
  ·refine⟨_,rfl,Cu rfl ?_⟩;refine⟨_,rfl,.inl ⟨rfl,_,AB.of hg2⟩,_,rfl,_,_,rfl,rfl,(by show(0:Int)<60;decide),g,_,_,rfl,rfl,hg2,few,?_⟩;refine⟨_,rfl,_,_,rfl,rfl,⟨by decide,by decide⟩,?_⟩;exact app _ (bh _ (by decide)) (aV _ (by decide)) _ _ _
 ·rintro σ H2 ⟨ns,z,v,u,rfl,s2,hg2,hl,hb⟩
  exact⟨_,rfl,q g _ ns s2 hg hg2 hl hb⟩
theorem Jo:(Be LN).length=36:=by decide +kernel
theorem UD:(Be LN).Nodup:=by decide +kernel
def Ui (i:Int):Nat:=(Be LN).getD (i%36).toNat 0
theorem RJ {i j:Int}(h:Ui i=Ui j):i%36=j%36:=by
 have i0:=bh i (show(36:Int)≠0 by decide);have i1:=aV i (show(0:Int)<36 by decide);have j0:=bh j (show(36:Int)≠0 by decide);have j1:=aV j (show(0:Int)<36 by decide)
 by_cases e:(i%36).toNat=(j%36).toNat
 ·omega
 ·exact absurd h (Jw UD (by rw[Jo];omega) (by rw[Jo];omega) e)
theorem Uz (i:Int):Ih LN.cps.toList (i%36)=some (Ui i)/\Ui i∈Be LN:=by
 have i0:=bh i (show(36:Int)≠0 by decide);have i1:=aV i (show(0:Int)<36 by decide);have hk:(i%36).toNat<(Be LN).length:=by rw[Jo];omega
 have e:Ui i=(Be LN)[(i%36).toNat]:=by
  show(Be LN).getD (i%36).toNat 0=_;rw[bN,ae hk];rfl
 have:=Ap (xs:=Be LN) (j:=(i%36).toNat) (ae hk);rw[show(((i%36).toNat:Nat):Int)=i%36 by omega] at this;exact⟨by rw[e];exact this,by rw[e];exact bG hk⟩
theorem P3 {z:Str}{i:Int}(h0:0<=i)(h1:i<(Be z).length):∃c,Ih z.cps.toList i=some c/\c∈Be z:=by
 have hk:i.toNat<(Be z).length:=by omega
 have ek:((i.toNat:Nat):Int)=i:=by omega
 refine⟨(Be z)[i.toNat],?_,bG hk⟩;have:=Ap (xs:=Be z) (j:=i.toNat) (ae hk);rw[ek] at this;exact this
theorem R6 (z:Str){i:Int}(h0:0<=i):∃n,min i.toNat z.length<=n/\Be (PySem.Txt.slice z (some i) none)=(Be z).drop n:=by
 have hz:=A1 z
 by_cases h:i<=z.length
 ·refine⟨i.toNat,Nat.min_le_left _ _,?_⟩;show Be (StrLaws.sliceText z (some i) none)=_;rw[StrLaws.sliceText_from ⟨h0,by rw[hz];exact h⟩];refine ba ?_;rw[cD];show(Be z).length-i.toNat<=(((Be z).length:Int)-i).toNat;omega
 ·refine⟨z.length,Nat.min_le_right _ _,?_⟩;have e:PySem.Builtin.Str.strSliceIndices (some i) none 1 z.length=PySem.Builtin.Str.strSliceIndices (some (z.length:Int)) none 1 z.length:=by
   unfold PySem.Builtin.Str.strSliceIndices;have e1:(if i<0 then i+(z.length:Int) else i)=i:=aH (by omega);have e2:(if(z.length:Int)<0 then(z.length:Int)+(z.length:Int) else(z.length:Int))=z.length:=aH (by omega);simp only[e1,e2];have e3:max 0 (min i (z.length:Int))=max 0 (min (z.length:Int) z.length):=by omega
   rw[e3];simp only[if_pos (show(1:Int)>0 by decide)]
  show Be (StrLaws.sliceText z (some i) none)=_;have e':StrLaws.sliceText z (some i) none=StrLaws.sliceText z (some (z.length:Int)) none:=by
   unfold StrLaws.sliceText;rw[e]
  rw[e',StrLaws.sliceText_from ⟨by omega,by rw[hz];omega⟩];refine ba ?_;rw[cD];show(Be z).length-z.length<=(((Be z).length:Int)-(z.length:Int)).toNat;omega
theorem L6 {M:List Nat}:∀(ys:List V),(∀y∈ys,∃c,y=.str ⟨#[c]⟩/\c∈M)->∃cs:List Nat,ys=(cs.map λc=>(⟨#[c]⟩:Str)).map V.str/\∀c∈cs,c∈M
 |[],_=>⟨[],rfl,λ_ h=>nomatch h⟩
 |y::ys,h=>by
  obtain⟨c,rfl,hc⟩:=h y ax;obtain⟨cs,rfl,hw⟩:=L6 ys λy hy=>h y (aM _ hy)
  refine⟨c::cs,rfl,λx hx=>?_⟩;rcases aL.mp hx with rfl|hx
  ·exact hc
  ·exact hw x hx
theorem Hu (cs:List Nat):Be (PySem.Txt.join EM (cs.map λc=>(⟨#[c]⟩:Str)))=cs:=by
 show Be (PySem.Builtin.Str.glued EM _)=_;rw[StrLaws.glued_eq_join]
 induction cs with
 |nil=>rfl
 |cons c r ih=>
  cases r with
  |nil=>rfl
  |cons d r=>
   show Be (⟨#[c]⟩++EM++PySem.Str.join EM (List.map _ (d::r)))=c::d::r;rw[Fm,Fm,ih];rfl
def TN (z:Str):Prop:=Be z≠[]/\z.length<=8/\∀c∈Be z,c∈Be LN
def Ei (K:W.Frag):Sp:=λvs H Q _=>∃(a:Addr) (ns:List Int) (m:Int),vs=[.ref a,.int m]/\H a=some (.lst (ns.map V.int))/\ns.length=10/\(∀x∈ns,0<=x/\x<60)/\0<=m/\m<=30/\
 ∀l H' (zs:List Str),An H H'->H l=none->H' l=some (.lst (zs.map V.str))->zs.length=m.toNat->(∀z∈zs,TN z)->zs.Nodup->Q (.ref l) H'
theorem JP (T:Txt K mg Ak Aa Ae XC)(F:Fun K "_law_names" "_law_names" Cr f fd):FnOk P w K mg base CZ 1 f fd ["_law_row_here","_law_many"] (Ei K):=by
 exists Bj
 ·obtain⟨a,ns,m,rfl,_⟩:=h;rfl
 obtain⟨a,ns,m,rfl,ha,ln,nb,hm0,hm1,q⟩:=h;refine⟨_,(!Ag (@Au _ _ (2) _ _ _ _ Bj.nd rfl (by trivial) (!GN) (by rfl) (by trivial)) (!Ag (@Au _ _ (3) _ _ _ _ Bj.nd rfl (by trivial) (!CA d3 gb fY (N9 rfl) (!GN) (!Ab (@DM _ ["_law_k","_law_signs","_law_row_here"] [none,some 2,some 0] _ _ _ _ _ _ _ _ _ _ _ rfl (!Bg rfl T.b_range (!Ab (!Ad) (!Ah))) (by rfl) rfl (by repeat (first|exact trivial|refine⟨rfl,?_⟩)) (by repeat (first|exact trivial|refine⟨λh=>(by first|exact⟨_,rfl⟩|cases h),?_⟩)) (λC s H fp=>⟨(@Aq _ _ (0) _ (show(["_law_k","_law_signs","_law_row_here"]:List Str).Nodup by decide +kernel) rfl (by trivial) (by trivial)),(!A6),(!Am KJ (pv 1) (!Ao AN (!Am (EC (K:=K) (by rfl)) (pv 2) (pv 0) (λ_ _=>rfl)) (!Ad)) (λ_ _=>rfl))⟩) (by intro _;rfl)) (!Ah))) (by rfl) (by trivial)) (!Ag (@Au _ _ (4) _ _ _ _ Bj.nd rfl (by trivial) (!Ao AN (!Am Aw (pv 0) (!Ad) (λ_ _=>rfl)) (!Ad)) (by rfl) (by trivial)) (!Ag (@Au _ _ (5) _ _ _ _ Bj.nd rfl (by trivial) (!A5 (!Ah)) (by rfl) (by trivial)) (!Ag (!BJ aW rfl (!Bg rfl T.b_range (!Ab (pv 1) (!Ah))) (@Aq _ _ (6) _ Bj.nd rfl (by trivial) (by trivial)) (!Ag (@Au _ _ (7) _ _ _ _ Bj.nd rfl (by trivial) (!Ao GF (!FH Nt (pv 3) (!Hk) (!GW (pv 4))) (!Am KJ (pv 2) (!Ao AN (!Ao AF (!Am Aw (pv 0) (!Ad) (λ_ _=>rfl)) (pv 6)) (!Ad)) (λ_ _=>rfl))) (by rfl) (by trivial)) (!Ag (@Au _ _ (7) _ _ _ _ Bj.nd rfl (by trivial) (!Ao GF (pv 7) (!FH Nt (pv 3) (!GW (!Ao AF (pv 4) (!Ad))) (!Hk))) (by rfl) (by trivial)) (!Al (!Bc (!CA aK bg bf Bo (pv 5) (!Ab (!Am Aw (!A5 (!Ab (pv 7) (!Ab (!FH Nt (pv 7) (!Hk) (!GW (!Ao AF (pv 4) (!Ad)))) (!Ab (!Ao GF (pv 7) (!Am KJ (pv 2) (pv 6) (λ_ _=>rfl))) (!Ah))))) (!Ao AN (!Ao AF (!Am Aw (pv 0) (!Ad) (λ_ _=>rfl)) (pv 6)) (!Ad)) (λ_ _=>rfl)) (!Ah))))))) (by intro _;rfl)) (!Al (!Av (pv 5)))))))),?_⟩
 try dsimp only[Bw,Cx.nox,Cx.wish]
 have nn:∀k:Nat,k<10->0<=ns.getD k 0:=λk hk=>by
  have hk':k<ns.length:=by omega
  simp only[List.getD,List.getElem?_eq_getElem hk',Option.getD_some];exact(nb _ (bG hk')).1
 have A7:Ih (ns.map V.int) 7=some (.int (ns.getD 7 0)):=C3 (by decide) (by omega);have A8:Ih (ns.map V.int) 8=some (.int (ns.getD 8 0)):=C3 (by decide) (by omega);have A9:Ih (ns.map V.int) 9=some (.int (ns.getD 9 0)):=C3 (by decide) (by omega);refine⟨rfl,7,rfl,by decide,by decide,?_⟩;refine Pf (xs:=(List.range (7:Int).toNat).map λ(i:Nat)=>V.int (0+(i:Int))) (λ_ y _=>∃c,y=.str ⟨#[c]⟩/\c∈Be LN) (λ_ _ _ _ h _=>h) (λ_ _ _ _ _ _ h _ _=>h) Gz (by rw[aa,bL];decide) (λx H' R hx s' hR=>?_) λl H1 ys n1 s1 h1 l1 hy=>?_
 ·obtain⟨i,hi,rfl⟩:=ah.mp hx;have hi':i<7:=cC.mp hi;obtain⟨c,hc,mc⟩:=P3 (z:=LN) (i:=ns.getD (0+(i:Int)).toNat 0%36) (bh _ (by decide)) (by rw[Jo];exact aV _ (by decide));refine⟨_,rfl,_,rfl,_,rfl,a,_,_,_,rfl,rfl,AB.of (s'.get ha),C3 (by omega) (by omega),_,_,rfl,rfl,(by show(0:Int)<36;decide),LN,_,c,rfl,rfl,small (by decide +kernel),hc,?_⟩;exact hR (.str ⟨#[c]⟩) H' (An.refl _) (λ_ z=>by cases z) ⟨c,rfl,mc⟩
 obtain⟨cs,rfl,hcs⟩:=L6 ys λy hm=>by
  obtain⟨i,hi⟩:=bM hm;have il:=(aw.mp hi).1;exact(hy i _ y (ae (by omega)) hi).1
 have lcs:cs.length=7:=by
  rw[aa,aa,aa,bL] at l1;exact l1
 have wl:(Be (PySem.Txt.join EM (cs.map λc=>(⟨#[c]⟩:Str))))=cs:=Hu cs;refine⟨l,EM,cs.map λc=>(⟨#[c]⟩:Str),rfl,rfl,AB.of h1,?_,?_⟩
 ·have e:((cs.map λc=>(⟨#[c]⟩:Str)).map (·.length)).sum=cs.length:=by
   rw[ar];have:((λz:Str=>z.length)∘λc=>(⟨#[c]⟩:Str))=λ_:Nat=>1:=rfl
   rw[this]
   clear this hcs h1 hy l1 wl lcs
   induction cs with
   |nil=>rfl
   |cons c cs ih=>rw[aq,fN,ih,bc];omega
  rw[e,aa,lcs]
  decide +kernel
 dsimp only;have hwl:(PySem.Txt.join EM (cs.map λc=>(⟨#[c]⟩:Str))).length=7:=by rw[<-A1,wl,lcs]
 have hwc:∀c∈Be (PySem.Txt.join EM (cs.map λc=>(⟨#[c]⟩:Str))),c∈Be LN:=by rw[wl];exact hcs
 generalize PySem.Txt.join EM (cs.map λc=>(⟨#[c]⟩:Str))=wd at hwl hwc;refine⟨_,rfl,a,_,_,_,rfl,rfl,AB.of (s1.get ha),A7,_,_,rfl,rfl,(by show(0:Int)<7;decide),?_⟩;have t0:=bh (ns.getD 7 0) (show(7:Int)≠0 by decide);have t1:=aV (ns.getD 7 0) (show(0:Int)<7 by decide);dsimp only;generalize ns.getD 7 0%7=at_ at t0 t1;refine⟨Fv,λg hg=>?_⟩;have hgH:H g=none:=s1.free hg;refine⟨_,rfl,m,rfl,by omega,by omega,Cj (lo:=0) (n:=m.toNat) (λi σ H2=>∃(zs:List Str) (v u:Option V),σ=[some (.ref a),some (.int m),some (.str LN),some (.str wd),some (.int at_),some (.ref g),v,u]/\An H H2/\H2 g=some (.lst (zs.map V.str))/\zs.length=i/\(∀z∈zs,TN z)/\∀(j:Nat) z,zs[j]?=some z->(Be z)[at_.toNat]?=some (Ui (ns.getD 8 0+(0+(j:Int)))))
  ⟨[],none,none,rfl,s1.trans (Ai hg _),Ac,rfl,(λ_ h=>nomatch h),(λj z h=>by simp at h)⟩ ?_ ?_⟩
 ·rintro i σ H2 hi ⟨zs,v,u,rfl,s2,hg2,hl,hb,hat⟩
  have ha2:=s2.get ha;obtain⟨hc,mc⟩:=Uz (ns.getD 8 0+(0+(i:Int)));generalize ec:Ui (ns.getD 8 0+(0+(i:Int)))=c at hc mc;obtain⟨d,hd,md⟩:=P3 (z:=LN) (i:=0+(i:Int)) (by omega) (by rw[Jo];omega);have e1:=SM wd t0;obtain⟨k,kk,e2⟩:=R6 wd (i:=at_+1) (by omega);have lwd:=A1 wd;have l1:(PySem.Txt.slice wd none (some at_)).length<=at_.toNat:=by rw[<-A1,e1,aP];omega
  have l2:(PySem.Txt.slice wd (some (at_+1)) none).length<=6-at_.toNat:=by rw[<-A1,e2,cD];omega
  refine⟨_,rfl,_,rfl,_,rfl,wd,rfl,small (by omega),_,rfl,_,rfl,a,_,_,_,rfl,rfl,AB.of ha2,A8,_,rfl,_,_,rfl,rfl,_,_,rfl,rfl,(by show(0:Int)<36;decide),LN,_,c,rfl,rfl,small (by decide +kernel),hc,_,_,rfl,rfl,small (by show _+1<=1000000;omega),?_⟩;refine⟨_,rfl,_,rfl,_,rfl,_,_,rfl,rfl,_,rfl,wd,rfl,small (by omega),_,_,rfl,rfl,small (by rw[len_app];show _+1+_<=1000000;omega),?_⟩;have oc:Be (PySem.Txt.slice wd none (some at_)++⟨#[c]⟩++PySem.Txt.slice wd (some (at_+1)) none)=(Be wd).take at_.toNat++c::(Be wd).drop k:=by
   rw[Fm,Fm,e1,e2,cz];rfl
  have ol:(PySem.Txt.slice wd none (some at_)++⟨#[c]⟩++PySem.Txt.slice wd (some (at_+1)) none).length<=7:=by
   rw[len_app,len_app];show _+1+_<=7;omega
  dsimp only;generalize PySem.Txt.slice wd none (some at_)++⟨#[c]⟩++PySem.Txt.slice wd (some (at_+1)) none=one at oc ol;have on:TN one:=⟨by rw[oc];simp,by omega,λx hx=>by
   rw[oc] at hx;rcases au.mp hx with hx|hx
   ·exact hwc x (eF hx)
   ·rcases aL.mp hx with rfl|hx
    ·exact mc
    ·exact hwc x (gu hx)⟩
  have e3:=SM one (j:=at_+1) (by omega);have tn:TN (PySem.Txt.slice one none (some (at_+1))):=⟨by
    rw[e3];have:=on.1;cases h:Be one with
    |nil=>exact absurd h this
    |cons x l=>
     rw[show(at_+1).toNat=at_.toNat+1 by omega,List.take_succ_cons];simp,by rw[<-A1,e3,aP,A1];omega,λx hx=>by rw[e3] at hx;exact on.2.2 x (eF hx)⟩
  have pn:TN (one++⟨#[d]⟩):=⟨by rw[Fm];simp,by rw[len_app];show one.length+1<=8;omega,λx hx=>by
   rw[Fm] at hx;rcases au.mp hx with hx|hx
   ·exact on.2.2 x hx
   ·rw[ai.mp hx];exact md⟩
  have oat:(Be one)[at_.toNat]?=some c:=by
   rw[oc,bD (by rw[aP];omega),aP,show at_.toNat-min at_.toNat (Be wd).length=0 by omega];rfl
  have tat:(Be (PySem.Txt.slice one none (some (at_+1))))[at_.toNat]?=some c:=by
   rw[e3,dD,aE (by omega)];exact oat
  have pat:(Be (one++⟨#[d]⟩))[at_.toNat]?=some c:=by
   rw[Fm,bF (aw.mp oat).1];exact oat
  refine⟨_,rfl,.inl ⟨rfl,_,AB.of hg2⟩,_,rfl,_,rfl,_,rfl,_,_,rfl,rfl,_,rfl,one,rfl,small (by omega),_,rfl,_,rfl,_,rfl,LN,_,d,rfl,rfl,small (by decide +kernel),hd,_,_,rfl,rfl,small (by show one.length+1<=1000000;omega),Iv,λp hp=>?_⟩;have s3:=Ai hp (.lst [V.str one,V.str (PySem.Txt.slice one none (some (at_+1))),V.str (one++⟨#[d]⟩)]);obtain⟨z,hz,hzn,hza⟩:∃z,Ih [V.str one,V.str (PySem.Txt.slice one none (some (at_+1))),V.str (one++⟨#[d]⟩)] ((ns.getD 9 0+(0+(i:Int)))%3)=some (.str z)/\TN z/\(Be z)[at_.toNat]?=some c:=by
   have r0:=bh (ns.getD 9 0+(0+(i:Int))) (show(3:Int)≠0 by decide);have r1:=aV (ns.getD 9 0+(0+(i:Int))) (show(0:Int)<3 by decide);generalize (ns.getD 9 0+(0+(i:Int)))%3=r at r0 r1;have:r=0\/r=1\/r=2:=by omega
   rcases this with rfl|rfl|rfl
   ·exact⟨_,rfl,on,oat⟩
   ·exact⟨_,rfl,tn,tat⟩
   ·exact⟨_,rfl,pn,pat⟩
  refine⟨_,rfl,a,_,_,_,rfl,rfl,AB.of (s3.get ha2),A9,_,rfl,_,_,rfl,rfl,_,_,rfl,rfl,(by show(0:Int)<3;decide),p,_,_,_,rfl,rfl,AB.of Ac,hz,g,_,_,rfl,rfl,s3.get hg2,AO (by rw[aa];omega),?_⟩;refine⟨zs++[z],_,_,rfl,AI (s2.trans s3) hgH _,by rw[Ac,aj];rfl,by rw[ao,hl];rfl,λy hy=>?_,λj y hj=>?_⟩
  ·rcases au.mp hy with hy|hy
   ·exact hb y hy
   ·rw[ai.mp hy];exact hzn
  ·by_cases hjl:j<zs.length
   ·rw[bF hjl] at hj;exact hat j y hj
   ·rw[bD (by omega)] at hj;have h0:j-zs.length=0:=by
     have:=(aw.mp hj).1;simp at this;omega
    rw[h0] at hj;cases hj;rw[show j=i by omega,ec];exact hza
 ·rintro σ H2 ⟨zs,v,u,rfl,s2,hg2,hl,hb,hat⟩
  refine⟨_,rfl,q g _ zs s2 hgH hg2 hl hb ?_⟩;refine aS.mpr λi j hi hj hij e=>?_
  have e1:=hat i _ (ae hi);have e2:=hat j _ (ae hj);rw[e,e2] at e1;have:=RJ (aA e1);have l30:zs.length<=30:=by omega
  omega
end
section
variable {P:Program}{w:World}{K:W.Frag}{mg:Str->Option Value}{base:Heap}{f Ak Aa Ae:Addr}{XC:Nat->Addr}{fd:FuncData}
abbrev TX:Str:=PySem.Str.ofString " abcdefghijklmnopqrstuvwxyz0123456789!#&*+,-./:;<=>?\x40[]^_{|}~"
theorem PL:(Be TX).length=61:=by decide +kernel
theorem Uv:∀c∈Be TX,c∈Be SG:=by decide +kernel
def U1 (z:Str):Prop:=∀c∈Be z,c∈Be SG
def E1 (K:W.Frag):Sp:=λvs H Q _=>∃(a:Addr) (ns:List Int) (k:Int),vs=[.ref a,.int k]/\H a=some (.lst (ns.map V.int))/\0<=k/\k+2<ns.length/\(∀x∈ns,0<=x/\x<60)/\∀z H',An H H'->1<=z.length->z.length<=8->U1 z->Q (.str z) H'
theorem DI {ns:List Int}(h:∀x∈ns,0<=x/\x<60)(k:Nat):0<=ns.getD k 0/\ns.getD k 0<60:=by
 rw[bN];cases e:ns[k]? with
 |none=>exact⟨by decide,by decide⟩
 |some x=>exact h x (az e)
theorem Kv (T:Txt K mg Ak Aa Ae XC)(F:Fun K "_law_text" "_law_text" CI f fd):FnOk P w K mg base CZ 1 f fd ["_law_row_here","_law_at"] (E1 K):=by
 exists G0
 ·obtain⟨a,ns,k,rfl,_⟩:=h;rfl
 obtain⟨a,ns,k,rfl,ha,k0,k1,hb,q⟩:=h;refine⟨_,(!Ag (@Au _ _ (2) _ _ _ _ G0.nd rfl (by trivial) (!GN) (by rfl) (by trivial)) (!Al (!Av (!CA d3 gb fY (N9 rfl) (!GN) (!Ab (@DM _ ["_law_k","_law_signs","_law_row_here","_law_at"] [none,some 2,some 0,some 1] _ _ _ _ _ _ _ _ _ _ _ rfl (!Bg rfl T.b_range (!Ab (!Ao AF (!Ad) (!Ao AN (!Am Aw (pv 0) (!Ao AF (pv 1) (!Ad)) (λ_ _=>rfl)) (!Ad))) (!Ah))) (by rfl) rfl (by repeat (first|exact trivial|refine⟨rfl,?_⟩)) (by repeat (first|exact trivial|refine⟨λh=>(by first|exact⟨_,rfl⟩|cases h),?_⟩)) (λC s H fp=>⟨(@Aq _ _ (0) _ (show(["_law_k","_law_signs","_law_row_here","_law_at"]:List Str).Nodup by decide +kernel) rfl (by trivial) (by trivial)),(!A6),(!Am KJ (pv 1) (!Ao AN (!Ao AF (!Am (EC (K:=K) (by rfl)) (pv 2) (pv 3) (λ_ _=>rfl)) (!Ao BI (pv 0) (!Am (EC (K:=K) (by rfl)) (pv 2) (!Ao AF (pv 3) (!Ad)) (λ_ _=>rfl)))) (!AA E6 (by rfl) T.b_len Cy (!Ab (pv 1) (!Ah)))) (λ_ _=>rfl))⟩) (by intro _;rfl)) (!Ah)))))),?_⟩
 try dsimp only[Bw,Cx.nox,Cx.wish]
 have r0:=bh (ns.getD (k+2).toNat 0) (show(8:Int)≠0 by decide);have r1:=aV (ns.getD (k+2).toNat 0) (show(0:Int)<8 by decide);refine Ax ⟨rfl,_,rfl,_,rfl,_,_,rfl,rfl,a,_,_,_,rfl,rfl,AB.of ha,C3 (by omega) k1,_,_,rfl,rfl,(by show(0:Int)<8;decide),_,_,rfl,rfl,_,rfl,by omega,by omega,?_⟩;generalize ns.getD (k+2).toNat 0%8=r at r0 r1;refine IW (ps:=List.range (1+r).toNat) (λi=>.str ⟨#[(Be TX).getD ((ns.getD k.toNat 0+(0+(i:Int))*ns.getD (k+1).toNat 0)%61).toNat 0]⟩) Gz (by rw[bL];omega) (λi hi H' R s' hR=>?_) λl H1 nl s1 hl=>?_
 ·have i1:=cC.mp hi;have m0:=bh (ns.getD k.toNat 0+(0+(i:Int))*ns.getD (k+1).toNat 0) (show(61:Int)≠0 by decide);have m1:=aV (ns.getD k.toNat 0+(0+(i:Int))*ns.getD (k+1).toNat 0) (show(0:Int)<61 by decide);have hk:((ns.getD k.toNat 0+(0+(i:Int))*ns.getD (k+1).toNat 0)%61).toNat<(Be TX).length:=by rw[PL];omega
  have hat:=Ap (xs:=Be TX) (ae hk);rw[show(((((ns.getD k.toNat 0+(0+(i:Int))*ns.getD (k+1).toNat 0)%61).toNat:Nat)):Int)=(ns.getD k.toNat 0+(0+(i:Int))*ns.getD (k+1).toNat 0)%61 by omega] at hat;have:=hR H' (An.refl _);rw[bN,ae hk] at this;exact⟨_,rfl,_,rfl,_,rfl,a,_,_,_,rfl,rfl,AB.of (s'.get ha),C3 (by omega) (by omega),_,rfl,_,rfl,_,rfl,_,_,rfl,rfl,a,_,_,_,rfl,rfl,AB.of (s'.get ha),C3 (by omega) (by omega),_,_,rfl,rfl,.inl ⟨by omega,by omega⟩,_,_,rfl,rfl,_,rfl,TX,rfl,small (by decide +kernel),_,_,rfl,rfl,(by show(0:Int)<(TX.length:Int);decide +kernel),TX,_,_,rfl,rfl,small (by decide +kernel),hat,this⟩
 ·have el:(List.range (1+r).toNat).map (λ(i:Nat)=>V.str ⟨#[(Be TX).getD ((ns.getD k.toNat 0+(0+(i:Int))*ns.getD (k+1).toNat 0)%61).toNat 0]⟩)=(((List.range (1+r).toNat).map λ(i:Nat)=>(Be TX).getD ((ns.getD k.toNat 0+(0+(i:Int))*ns.getD (k+1).toNat 0)%61).toNat 0).map λc=>(⟨#[c]⟩:Str)).map V.str:=by rw[ar,ar];rfl
  rw[el] at hl;have lc:1<=((List.range (1+r).toNat).map λ(i:Nat)=>(Be TX).getD ((ns.getD k.toNat 0+(0+(i:Int))*ns.getD (k+1).toNat 0)%61).toNat 0).length/\((List.range (1+r).toNat).map λ(i:Nat)=>(Be TX).getD ((ns.getD k.toNat 0+(0+(i:Int))*ns.getD (k+1).toNat 0)%61).toNat 0).length<=8:=by rw[aa,bL];omega
  have mc:∀c∈(List.range (1+r).toNat).map λ(i:Nat)=>(Be TX).getD ((ns.getD k.toNat 0+(0+(i:Int))*ns.getD (k+1).toNat 0)%61).toNat 0,c∈Be SG:=λc hc=>by
   obtain⟨i,_,rfl⟩:=ah.mp hc;have m0:=bh (ns.getD k.toNat 0+(0+(i:Int))*ns.getD (k+1).toNat 0) (show(61:Int)≠0 by decide);have m1:=aV (ns.getD k.toNat 0+(0+(i:Int))*ns.getD (k+1).toNat 0) (show(0:Int)<61 by decide);rw[bN,ae (by rw[PL];omega)];exact Uv _ (bG _)
  generalize ((List.range (1+r).toNat).map λ(i:Nat)=>(Be TX).getD ((ns.getD k.toNat 0+(0+(i:Int))*ns.getD (k+1).toNat 0)%61).toNat 0)=cs at hl lc mc;have lj:(PySem.Txt.join EM (cs.map λc=>(⟨#[c]⟩:Str))).length=cs.length:=by rw[<-A1,Hu]
  refine⟨l,EM,_,rfl,rfl,AB.of hl,?_,q _ H1 s1 (by rw[lj];exact lc.1) (by rw[lj];exact lc.2) λc hc=>mc c (by rw[Hu] at hc;exact hc)⟩;rw[<-QM,lj,show EM.length=0 from rfl,Nat.mul_zero];omega
theorem Hh {α:Type}{g:α->V}{ns:List α}{i:Nat}{y:V}(h:(ns.map g)[i]?=some y):∃n,y=g n/\ns[i]?=some n:=by
 rw[aB] at h;obtain⟨n,e,rfl⟩:=bJ.mp h;exact⟨n,rfl,e⟩
theorem GJ {α:Type}{k:α->Key}{g:α->V}:∀{rs:List α},(rs.map k).Nodup->∀r∈rs,Bz (rs.map λr=>(k r,g r)) (k r)=some (g r)
 |x::rs,nd,r,hr=>by
  rw[aq,bO] at nd;rw[aq];rcases aL.mp hr with rfl|hr
  ·exact D6 rfl
  ·rw[Dr λe=>nd.1 (ah.mpr ⟨r,hr,e.symm⟩)];exact GJ nd.2 r hr
theorem FK {α:Type}{k:α->Key}{g:α->V}{z:Key}:∀{rs:List α},(∀r∈rs,k r≠z)->Bz (rs.map λr=>(k r,g r)) z=none
 |[],_=>rfl
 |x::rs,h=>by
  rw[aq,Dr (h x ax)];exact FK λr hr=>h r (aM _ hr)
theorem T5 {α:Type}{k:α->Key}{g:α->V}(rs:List α)(n:α)(nd:(rs.map k).Nodup):∃rs':List α,(rs'.map λr=>(k r,g r))=putK (rs.map λr=>(k r,g r)) (k n) (g n)/\(∀r∈rs',r=n\/r∈rs)/\(rs'.map k).Nodup/\rs'.length<=rs.length+1:=by
 by_cases h:k n∈rs.map k
 ·refine⟨rs.map λr=>if k r=k n then n else r,?_,λr hr=>?_,?_,by rw[aa];omega⟩
  ·obtain⟨r0,h0,e0⟩:=ah.mp h;unfold putK;rw[FU,<-e0,GJ nd r0 h0,aE (show(some (g r0)).isSome=true from rfl),ar,ar];refine bK λr _=>?_
   dsimp only[Function.comp]
   by_cases e:k r=k r0
   ·rw[aE e,aE e,e,e0]
   ·rw[aH e,aH e]
  ·obtain⟨x,hx,rfl⟩:=ah.mp hr
   by_cases e:k x=k n
   ·rw[aE e];exact .inl rfl
   ·rw[aH e];exact .inr hx
  ·rw[ar,show(k∘λr=>if k r=k n then n else r)=k from funext λr=>by
    dsimp only[Function.comp]
    by_cases e:k r=k n
    ·rw[aE e,e]
    ·rw[aH e]]
   exact nd
 ·refine⟨rs++[n],?_,λr hr=>?_,?_,by rw[ao];exact ak _⟩
  ·rw[C8 _ (FK λr hr e=>h (ah.mpr ⟨r,hr,e⟩)),aj];rfl
  ·rcases au.mp hr with hr|hr
   ·exact .inr hr
   ·exact .inl (ai.mp hr)
  ·rw[aj,bB];refine⟨nd,by simp,λa ha b hb e=>?_⟩;rw[ai.mp hb] at e;exact h (e▸ha)
theorem HL {xs:List V}{n:Int}(h:(xs.length:Int)=n)(h0:0<n)(i:Int):∃v∈xs,Ih xs (i%n)=some v:=by
 have i0:=bh i (show n≠0 by omega);have i1:=aV i h0;have hk:(i%n).toNat<xs.length:=by omega
 refine⟨xs[(i%n).toNat],bG hk,?_⟩;have:=Ap (xs:=xs) (j:=(i%n).toNat) (ae hk);rw[show(((i%n).toNat:Nat):Int)=i%n by omega] at this;exact this
def SU (zs:List Str)(fs gs:List (Addr×Tg))(e:En):Prop:=e.nm∈zs/\((e.kd=1/\∃p∈fs,e.tg=p.2)\/(e.kd=2/\∃p∈gs,e.tg=p.2))
def DH (K:W.Frag):Sp:=λvs H Q _=>∃(a na fa ga:Addr) (ns:List Int) (k:Int) (zs:List Str) (fs gs:List (Addr×Tg)),vs=[.ref a,.int k,.ref na,.ref fa,.ref ga]/\H a=some (.lst (ns.map V.int))/\0<=k/\k+7<ns.length/\(∀x∈ns,0<=x/\x<60)/\AB K H na (zs.map V.str)/\zs≠[]/\zs.length<=100/\
 H fa=some (.lst (fs.map λp=>V.ref p.1))/\H ga=some (.lst (gs.map λp=>V.ref p.1))/\Gv H fs/\Gv H gs/\fs≠[]/\fs.length<=100/\gs.length<=100/\
 ∀v es H',An H H'->Rep NL H' (Dy (.folder es)) v->es.length<=3->(∀e∈es,SU zs fs gs e)->(es.map (·.nm)).Nodup->PyProof.Rows.sortedS (es.map (·.nm))=true->Q v H'
theorem IG (T:Txt K mg Ak Aa Ae XC)(F:Fun K "_law_entries" "_law_entries" BL f fd):FnOk P w K mg base CZ 1 f fd ["_law_row_here","_law_at","_law_names_here","_law_files","_law_folders"] (DH K):=by
 exists Bu
 ·obtain⟨a,na,fa,ga,ns,k,zs,fs,gs,rfl,_⟩:=h;rfl
 obtain⟨a,na,fa,ga,ns,k,zs,fs,gs,rfl,ha,k0,k1,hb,hna,zn,lz,hfa,hga,tf,tg,fn,lf,lg,q⟩:=h;have hu:=BP hr;have hu9:=C1 hr;refine⟨_,(!Ag (@Au _ _ (5) _ _ _ _ Bu.nd rfl (by trivial) (!Cc) (by rfl) (by trivial)) (!Ag (!BJ aW rfl (!Bg rfl T.b_range (!Ab (!Ao AN (!Am Aw (pv 0) (pv 1) (λ_ _=>rfl)) (!Ad)) (!Ah))) (@Aq _ _ (6) _ Bu.nd rfl (by trivial) (by trivial)) (!Ag (@Au _ _ (7) _ _ _ _ Bu.nd rfl (by trivial) (!Ao AN (!Am Aw (pv 0) (!Ao AF (!Ao AF (pv 1) (!Ad)) (!Ao BI (!Ad) (pv 6))) (λ_ _=>rfl)) (!Ao AF (!AA AQ (by rfl) T.b_len Cy (!Ab (pv 3) (!Ah))) (!AA AQ (by rfl) T.b_len Cy (!Ab (pv 4) (!Ah))))) (by rfl) (by trivial)) (!Ag (@Au _ _ (8) _ _ _ _ Bu.nd rfl (by trivial) (!Ao AF (!Ad) (!Bb J9 (by rfl) T.b_int Nr (!Ab (!Gp U5 (pv 7) (!AA AQ (by rfl) T.b_len Cy (!Ab (pv 3) (!Ah))) (AL _)) (!Ah)))) (by rfl) (by trivial)) (!Ag (@Au _ _ (9) _ _ _ _ Bu.nd rfl (by trivial) (!Am Aw (pv 2) (!Ao AN (!Am Aw (pv 0) (!Ao AF (!Ao AF (pv 1) (!Ad)) (!Ao BI (!Ad) (pv 6))) (λ_ _=>rfl)) (!AA AQ (by rfl) T.b_len Cy (!Ab (pv 2) (!Ah)))) (λ_ _=>rfl)) (by rfl) (by trivial)) (!Al (!Ec hu (pv 5) (pv 9) (!Bq (!Ab (pv 9) (!Ab (pv 8) (!Ab (!Am Aw (!Ao G2 (pv 3) (pv 4)) (pv 7) (λ_ _=>rfl)) (!Ah)))))))))) (by intro _;rfl)) (!Al (!Av (!Bq (!Ab (!Ad) (!Ab (!Bb Dn (by rfl) T.b_tuple G9 (!Ab (@DM _ ["_law_name","_law_found"] [none,some 5] _ _ _ _ _ _ _ _ _ _ _ rfl (!C0 (!AA (Nk rfl) (by rfl) T.b_sorted CY (!Ab (pv 5) (!Ah)))) (by rfl) rfl (by repeat (first|exact trivial|refine⟨rfl,?_⟩)) (by repeat (first|exact trivial|refine⟨λh=>(by first|exact⟨_,rfl⟩|cases h),?_⟩)) (λC s H fp=>⟨(@Aq _ _ (0) _ (show(["_law_name","_law_found"]:List Str).Nodup by decide +kernel) rfl (by trivial) (by trivial)),(!A6),(!Cm hu (pv 1) (pv 0) (λ_ _=>rfl))⟩) (by intro _;rfl)) (!Ah))) (!Ah)))))))),?_⟩
 try dsimp only[Bw,Cx.nox,Cx.wish]
 refine Ax λde nde=>?_
 have s0:=Ai nde (.dK []);have hd0:(upd H de (.dK [])) de=some (.dK []):=Ac;generalize upd H de (.dK [])=H0 at s0 hd0;dsimp only[Az];obtain⟨x0,x1⟩:=DI hb k.toNat;refine Br (t:=Iw _ _ _) (λσ' H'=>∃(rs:List (Addr×En)) (v6 v7 v8 v9:Option V),σ'=[some (.ref a),some (.int k),some (.ref na),some (.ref fa),some (.ref ga),some (.ref de),v6,v7,v8,v9]/\An H H'/\H' de=some (.dK (rs.map λr=>(.inr r.2.nm,.ref r.1)))/\(rs.map λr=>(.inr r.2.nm:Key)).Nodup/\rs.length<=3/\∀r∈rs,Q6 H' r/\SU zs fs gs r.2) (λN hN=>?_) ?_
 ·refine⟨_,rfl,_,rfl,a,_,_,_,rfl,rfl,AB.of (s0.get ha),C3 k0 (by omega),_,_,rfl,rfl,(by show(0:Int)<4;decide),_,rfl,by omega,by omega,?_⟩;refine Cj (lo:=0) (λi σ H'=>∃(rs:List (Addr×En)) (v6 v7 v8 v9:Option V),σ=[some (.ref a),some (.int k),some (.ref na),some (.ref fa),some (.ref ga),some (.ref de),v6,v7,v8,v9]/\An H H'/\H' de=some (.dK (rs.map λr=>(.inr r.2.nm,.ref r.1)))/\(rs.map λr=>(.inr r.2.nm:Key)).Nodup/\rs.length<=i/\∀r∈rs,Q6 H' r/\SU zs fs gs r.2) ⟨[],none,none,none,none,rfl,s0,hd0,bS,ak _,λ_ h=>nomatch h⟩ ?_ ?_
  ·rintro i σ H1 hi ⟨rs,v6,v7,v8,v9,rfl,s1,hd1,nd,lr,hrs⟩
   have i3:(i:Int)<3:=by omega
   have ha1:=s1.get ha;have hfa1:=s1.get hfa;have hga1:=s1.get hga;obtain⟨y0,y1⟩:=DI hb (k+1+2*(0+(i:Int))).toNat;have pf:0<fs.length:=bX.mpr fn;have lfg:(((fs.map λp=>V.ref p.1).length:Nat):Int)+(((gs.map λp=>V.ref p.1).length:Nat):Int)=(fs.length:Int)+(gs.length:Int):=by rw[aa,aa]
   refine Ax ⟨_,rfl,_,rfl,_,_,rfl,rfl,_,rfl,_,_,rfl,rfl,.inl ⟨by decide,by decide⟩,_,_,rfl,rfl,a,_,_,_,rfl,rfl,AB.of ha1,C3 (by omega) (by omega),_,rfl,fa,_,rfl,.inl (AB.of hfa1),_,rfl,ga,_,rfl,.inl (AB.of hga1),_,_,rfl,rfl,_,_,rfl,rfl,(by show(0:Int)<_+_;rw[lfg];omega),?_⟩;rw[lfg];have n0:=bh (ns.getD (k+1+2*(0+(i:Int))).toNat 0) (show(fs.length:Int)+(gs.length:Int)≠0 by omega);have n1:=aV (ns.getD (k+1+2*(0+(i:Int))).toNat 0) (show(0:Int)<(fs.length:Int)+(gs.length:Int) by omega);dsimp only[Az];generalize ns.getD (k+1+2*(0+(i:Int))).toNat 0%((fs.length:Int)+(gs.length:Int))=n at n0 n1;obtain⟨pq,hpq,hk⟩:∃pq,(fs++gs)[n.toNat]?=some pq/\((¬(fs.length:Int)<=n/\pq∈fs)\/((fs.length:Int)<=n/\pq∈gs)):=by
    by_cases h:n.toNat<fs.length
    ·exact⟨_,by rw[bF h,ae h],.inl ⟨by omega,bG _⟩⟩
    ·have h2:n.toNat-fs.length<gs.length:=by omega
     exact⟨_,by rw[bD (by omega),ae h2],.inr ⟨by omega,bG _⟩⟩
   have hat:Ih (fs.map (λp=>V.ref p.1)++gs.map λp=>V.ref p.1) n=some (.ref pq.1):=by
    have:=Ap (xs:=fs.map (λp=>V.ref p.1)++gs.map λp=>V.ref p.1) (j:=n.toNat) (v:=.ref pq.1) (by rw[<-aj,aB,hpq];rfl)
    rwa [show((n.toNat:Nat):Int)=n by omega] at this
   refine Ax ⟨_,rfl,_,rfl,fa,_,rfl,.inl (AB.of hfa1),_,_,rfl,rfl,.inr ⟨_,rfl,_,_,rfl,rfl,?_⟩⟩;rw[show(((fs.map λp=>V.ref p.1).length:Nat):Int)=(fs.length:Int) by rw[aa]];dsimp only[Az];obtain⟨kd,ekd,hkd⟩:∃kd:Int,(1+if decide ((fs.length:Int)<=n)=true then 1 else 0)=kd/\((kd=1/\pq∈fs)\/(kd=2/\pq∈gs)):=by
    rcases hk with⟨h,m⟩|⟨h,m⟩
    ·exact⟨1,by rw[aZ h];rfl,.inl ⟨rfl,m⟩⟩
    ·exact⟨2,by rw[aI h];rfl,.inr ⟨rfl,m⟩⟩
   rw[ekd];have lz':(((zs.map V.str).length:Nat):Int)=(zs.length:Int):=by rw[aa]
   have pz:0<zs.length:=bX.mpr zn;obtain⟨vz,hvz,haz⟩:=HL (xs:=zs.map V.str) lz' (by omega) (ns.getD (k+2+2*(0+(i:Int))).toNat 0);obtain⟨z,hz,rfl⟩:=ah.mp hvz;refine Ax ⟨_,rfl,_,rfl,_,rfl,_,_,rfl,rfl,_,rfl,_,_,rfl,rfl,.inl ⟨by decide,by decide⟩,_,_,rfl,rfl,a,_,_,_,rfl,rfl,AB.of ha1,C3 (by omega) (by omega),_,rfl,na,_,rfl,.inl (s1.seq hna),_,_,rfl,rfl,(by show(0:Int)<_;rw[lz'];omega),na,_,_,_,rfl,rfl,s1.seq hna,(by rw[lz'];exact haz),?_⟩;dsimp only[Az];refine⟨_,rfl,_,rfl,_,rfl,_,rfl,fa,ga,_,_,rfl,rfl,AB.of hfa1,AB.of hga1,small (by rw[aa,aa];omega),λp1 np1=>?_⟩;have s2:=Ai np1 (.lst (fs.map (λp=>V.ref p.1)++gs.map λp=>V.ref p.1));refine⟨_,rfl,p1,_,_,_,rfl,rfl,AB.of Ac,hat,Iv,λt nt=>?_⟩;have s3:=Ai nt (.tup [.str z,.int kd,.ref pq.1]);have ht3:(upd (upd H1 p1 (.lst (fs.map (λp=>V.ref p.1)++gs.map λp=>V.ref p.1))) t (.tup [.str z,.int kd,.ref pq.1])) t=some (.tup [.str z,.int kd,.ref pq.1]):=Ac;generalize upd (upd H1 p1 (.lst (fs.map (λp=>V.ref p.1)++gs.map λp=>V.ref p.1))) t (.tup [.str z,.int kd,.ref pq.1])=H3 at s3 ht3;have s13:=s2.trans s3;have hd3:=s13.get hd1;refine⟨_,rfl,_,rfl,de,_,rfl,HF.k (k:=.inr z) hd3 (AO (by rw[aa];omega)),?_⟩;obtain⟨rs',e1,e2,e3,e4⟩:=T5 (k:=λr:Addr×En=>.inr r.2.nm) (g:=λr=>.ref r.1) rs (t,⟨z,kd,pq.2⟩) nd;have tp:KT H3 (upd H3 de (.dK (putK (rs.map λr=>(.inr r.2.nm,.ref r.1)) (.inr z) (.ref t)))):=λc xs e=>by rw[Af λw=>by rw[w,hd3] at e;cases e];exact e
   refine⟨rs',_,_,_,_,rfl,AI (s1.trans s13) nde _,by rw[Ac,<-e1],e3,by omega,λr hr=>?_⟩;rcases e2 r hr with rfl|hr
   ·have hpt:GT H pq.1 pq.2:=by
     rcases hkd with⟨_,m⟩|⟨_,m⟩
     ·exact tf pq m
     ·exact tg pq m
    refine⟨⟨pq.1,tp _ _ ht3,tp _ _ ((s1.trans s13).get hpt)⟩,hz,?_⟩;rcases hkd with⟨e,m⟩|⟨e,m⟩
    ·exact .inl ⟨e,pq,m,rfl⟩
    ·exact .inr ⟨e,pq,m,rfl⟩
   ·obtain⟨h1,h2⟩:=hrs r hr;exact⟨(h1.same s13).tup tp,h2⟩
  ·rintro σ H1 ⟨rs,v6,v7,v8,v9,rfl,s1,hd1,nd,lr,hrs⟩
   exact hN _ _ ⟨rs,_,_,_,_,rfl,s1,hd1,nd,by omega,hrs⟩
 ·rintro σ' H1 ⟨rs,v6,v7,v8,v9,rfl,s1,hd1,nd,lr,hrs⟩
  refine⟨_,rfl,de,_,rs.map (·.2.nm),rfl,hd1,by rw[ar,ar];rfl,by rw[aa];omega,λts pl pm so npl=>?_⟩;obtain⟨rs',pm',ets⟩:=Gk pm rfl;have s2:=Ai npl (.lst (ts.map V.str));have lr':rs'.length<=3:=by rw[pm'.length_eq];exact lr
  have hl2:(upd H1 pl (.lst (ts.map V.str))) pl=some (.lst (rs'.map λr=>V.str r.2.nm)):=by rw[Ac,<-ets,ar];rfl
  refine⟨pl,rfl,⟨_,AB.of hl2⟩,IW (ps:=rs') (λr=>.ref r.1) (ED (AB.of hl2)) (by omega) (λr hr H2 R s' hR=>?_) λl H2 nl s' hl=>?_⟩
  ·have g:=Cq.k (k:=.inr r.2.nm) (s'.get (s2.get hd1));rw[GJ (k:=λr:Addr×En=>.inr r.2.nm) (g:=λr=>.ref r.1) nd r (pm'.mem_iff.mp hr)] at g;exact⟨_,rfl,_,rfl,de,_,rfl,g,hR H2 (An.refl _)⟩
  ·refine⟨l,_,rfl,.inl ⟨AB.of hl,λt nt=>⟨GR,λfp nf=>?_⟩⟩⟩;have s3:=Ai nt (.tup (rs'.map λr=>V.ref r.1));have s4:=Ai nf (.tup [.int 2,.ref t]);have s25:=s2.trans (s'.trans (s3.trans s4));refine q (.ref fp) (rs'.map (·.2)) _ (s1.trans s25) ⟨fp,_,rfl,Ac,_,_,rfl,rfl,_,_,rfl,⟨t,_,rfl,s4.get Ac,NX λp hp=>((hrs p (pm'.mem_iff.mp hp)).1).same s25⟩,rfl⟩ (by rw[aa];exact lr') (λe he=>?_) ?_ (by rw[ar];rw[<-ets] at so;exact so)
   ·obtain⟨r,hr,rfl⟩:=ah.mp he;exact(hrs r (pm'.mem_iff.mp hr)).2
   ·rw[ar];have nd2:=(pm'.map λr=>(.inr r.2.nm:Key)).nodup_iff.mpr nd;exact bW.mpr ((bW.mp nd2).imp λh e=>h (congrArg Sum.inr e))
end
open M06
section
variable {P:Program}{w:World}{K:W.Frag}{mg:Str->Option Value}{base:Heap}{f Ak Aa Ae:Addr}{XC:Nat->Addr}{fd:FuncData}
structure Cz where
 tg:Tg
 bk:Bk
 p:Addr
 ta:Addr
 v:V
def NG (H:Hp)(c:Cz):Prop:=H c.p=some (.tup [.ref c.ta,c.v])/\GT H c.ta c.tg/\Rep NL H (Dy c.bk) c.v
theorem NG.keep {H H':Hp}{c:Cz}(h:NG H c)(k:KT H H'):NG H' c:=⟨k _ _ h.1,k _ _ h.2.1,Cn k _ _ h.2.2⟩
def Fx (cs:List Cz):List (Key×V):=cs.map λc=>(.inl c.tg.1,.ref c.p)
def Kt (H H':Hp):Prop:=∀a o,H a=some o->(∀C d fs,o≠.ins C d fs)->(∀kvs,o≠.dK kvs)->H' a=some o
theorem Kt.of {H H':Hp}(s:An H H'):Kt H H':=λ_ _ h _ _=>s.get h
theorem Kt.trans {H H' H'':Hp}(h:Kt H H')(k:Kt H' H''):Kt H H'':=λa o e n m=>k a o (h a o e n m) n m
theorem Kt.tup {H H':Hp}(h:Kt H H'):∀c xs,H c=some (.tup xs)->H' c=some (.tup xs):=λc xs e=>h c _ e (λ_ _ _ z=>by cases z) λ_ z=>by cases z
theorem Kt.lst {H H':Hp}(h:Kt H H'){c:Addr}{xs:List V}(e:H c=some (.lst xs)):H' c=some (.lst xs):=h c _ e (λ_ _ _ z=>by cases z) λ_ z=>by cases z
theorem Kt.frm {CP CT:Addr}{H H':Hp}{p:Addr}{q:Pl}{cs:List Cl}{bs:List (Int×Addr)}(pa:PAt CP CT H p q cs bs)(h:Up (Cb p q cs bs) H H'):Kt H H':=λa o e n m=>h a o e (pa.apart e n m)
theorem Oc:∀(l:List Int) (t:Int),0<=t->t<=996->0<=l.foldl (λt n=>(31*t+n+1)%997) t/\l.foldl (λt n=>(31*t+n+1)%997) t<=996
 |[],t,h0,h1=>⟨h0,h1⟩
 |x::l,t,_,_=>Oc l ((31*t+x+1)%997) (by omega) (by omega)
theorem sum_in (b:Bk):0<=Bn b/\Bn b<=996:=by
 have k:0<=kindB b/\kindB b<=2:=by cases b<;>simp[kindB]
 exact Oc _ _ (by omega) (by omega)
def bm (cs:List Cz):BM:=λz=>(cs.find? λc=>decide (c.tg.1=z)).map (·.bk)
abbrev Mon (B B':BM):Prop:=∀z b,B z=some b->B' z=some b
theorem TY (cs more:List Cz):Mon (bm cs) (bm (cs++more)):=λz b h=>by
 unfold bm at h ⊢;obtain⟨c,hc,e⟩:=bJ.mp h;rw[eZ,hc];exact congrArg some e
theorem M7 {cs:List Cz}(nd:(cs.map (·.tg.1)).Nodup){c:Cz}(hc:c∈cs):bm cs c.tg.1=some c.bk:=by
 obtain⟨i,hi⟩:=bM hc;unfold bm;rw[Sm (p:=λx:Cz=>decide (x.tg.1=c.tg.1)) hi (aI rfl) λx hx=>aZ λe=>?_]
 ·rfl
 ·obtain⟨j,hj⟩:=bM hx;have jl:=(aw.mp hj).1;rw[aP] at jl;rw[dD,aE (by omega)] at hj;have il:=(aw.mp hi)
  have jl':=(aw.mp hj)
  have:=aS.mp nd j i (by rw[aa];omega) (by rw[aa];exact il.1) (by omega);rw[bV,bV,il.2,jl'.2] at this;exact this e
theorem Rw.mon {B B':BM}(m:Mon B B'):∀{n:Nat} {z:Int},Rw B n z->Rw B' n z
 |0,z,⟨c,e,l⟩=>⟨c,m _ _ e,l⟩
 |n+1,z,.inl ⟨c,e,l⟩=>.inl ⟨c,m _ _ e,l⟩
 |n+1,z,.inr ⟨lv,ts,e,l,h⟩=>.inr ⟨lv,ts,m _ _ e,l,λt ht=>Rw.mon m (h t ht)⟩
theorem Rw.up {B:BM}:∀{n:Nat} {z:Int},Rw B n z->Rw B (n+1) z
 |0,z,h=>.inl h
 |n+1,z,.inl h=>.inl h
 |n+1,z,.inr ⟨lv,ts,e,l,h⟩=>.inr ⟨lv,ts,e,l,λt ht=>Rw.up (h t ht)⟩
def Fd (B:BM)(Nm:Str->Prop):Nat->Int->Prop
 |0,_=>False
 |n+1,z=>∃es,B z=some (.folder es)/\es.length<=3/\(es.map (·.nm)).Nodup/\∀e∈es,Nm e.nm/\((e.kd=1/\Rw B 2 e.tg.1)\/(e.kd=2/\Fd B Nm n e.tg.1))
theorem Fd.mon {B B':BM}{Nm:Str->Prop}(m:Mon B B'):∀{n:Nat} {z:Int},Fd B Nm n z->Fd B' Nm n z
 |n+1,z,⟨es,e,l,nd,h⟩=>⟨es,m _ _ e,l,nd,λx hx=>⟨(h x hx).1,(h x hx).2.imp (λ⟨k,r⟩=>⟨k,r.mon m⟩) λ⟨k,r⟩=>⟨k,Fd.mon m r⟩⟩⟩
theorem Fd.up {B:BM}{Nm:Str->Prop}:∀{n:Nat} {z:Int},Fd B Nm n z->Fd B Nm (n+1) z
 |n+1,z,⟨es,e,l,nd,h⟩=>⟨es,e,l,nd,λx hx=>⟨(h x hx).1,(h x hx).2.imp id λ⟨k,r⟩=>⟨k,Fd.up r⟩⟩⟩
theorem NT {v:V}{σ:St}{H:Hp}{Q:List V->Hp->Prop}(h:Q [v] H):SJ (tC v) OG σ H Q:=h
abbrev Fy (H:Hp)(l:Addr)(ps:List (Addr×Tg)):Prop:=H l=some (.lst (ps.map λp=>V.ref p.1))/\Gv H ps
theorem Fy.same {l:Addr}{H H':Hp}{ps:List (Addr×Tg)}(h:Fy H l ps)(s:An H H'):Fy H' l ps:=⟨s.get h.1,λp hp=>s.get (h.2 p hp)⟩
theorem Fy.snoc {l:Addr}{H:Hp}{ps:List (Addr×Tg)}{ta:Addr}{t:Tg}(h:Fy H l ps)(ht:GT H ta t):Fy (upd H l (.lst (ps.map (λp=>V.ref p.1)++[.ref ta]))) l (ps++[(ta,t)]):=by
 refine⟨by rw[Ac,aj];rfl,λp hp=>?_⟩;have k:=KT.lst h.1 (.lst (ps.map (λp=>V.ref p.1)++[.ref ta]));rcases au.mp hp with hp|hp
 ·exact k _ _ (h.2 p hp)
 ·cases ai.mp hp;exact k _ _ ht
theorem Fy.at {l:Addr}{H:Hp}{ps:List (Addr×Tg)}(h:Fy H l ps){n:Int}(hn:(ps.length:Int)=n)(h0:0<n)(i:Int):∃p∈ps,Ih (ps.map λp=>V.ref p.1) (i%n)=some (.ref p.1):=by
 obtain⟨v,hv,e⟩:=HL (xs:=ps.map λp=>V.ref p.1) (n:=n) (by rw[aa];exact hn) h0 i;obtain⟨p,hp,rfl⟩:=ah.mp hv;exact⟨p,hp,e⟩
theorem NQ {α:Type}{ps:List (Addr×Tg)}:∀{ys:List (α×V)},(∀q∈ys,∃p∈ps,q.2=V.ref p.1)->∃qs:List (Addr×Tg),ys.map (·.2)=qs.map (λp=>V.ref p.1)/\(∀q∈qs,q∈ps)/\qs.length=ys.length
 |[],_=>⟨[],rfl,(λ_ h=>nomatch h),rfl⟩
 |y::ys,h=>by
  obtain⟨qs,e1,e2,e3⟩:=NQ λq hq=>h q (aM _ hq)
  obtain⟨p,hp,e⟩:=h y ax;refine⟨p::qs,by rw[aq,aq,e1,e],λq hq=>?_,by rw[bc,bc,e3]⟩;rcases aL.mp hq with rfl|hq
  ·exact hp
  ·exact e2 q hq
theorem DO {cs:List Cz}{z:Int}{b:Bk}(h:bm cs z=some b):∃c∈cs,c.tg.1=z/\c.bk=b:=by
 obtain⟨c,hc,e⟩:=bJ.mp h;exact⟨c,fJ hc,aQ (List.find?_some (p:=λc:Cz=>decide (c.tg.1=z)) hc),e⟩
def Of (e:Cl):Tg:=(e.z,e.y,Bn e.bk)
structure Sb (CP CT:Addr) (H0 H:Hp) (p:Addr) (q:Pl) (cs:List Cl) (bs:List (Int×Addr)) (d:Addr) (zs:List Cz) (n:Nat):Prop where
 kt:Kt H0 H
 pa:PAt CP CT H p q cs bs
 wl:Wl cs
 nl:∀e∈cs,∃us,H e.l=some (.lst us)/\AH NL H ((AM e.bk).map FJ) us
 at_:H d=some (.dK (Fx zs))
 ce:∀c∈zs,NG H c
 eq:zs.map (λc=>(c.tg,c.bk))=cs.map λe=>(Of e,e.bk)
 ap:d∉Cb p q cs bs
 few:cs.length<=n
section
variable {CP CT:Addr}{H0 H H':Hp}{p:Addr}{q:Pl}{cs:List Cl}{bs:List (Int×Addr)}{d:Addr}{zs:List Cz}{n:Nat}
theorem Sb.on (h:Sb CP CT H0 H p q cs bs d zs n)(s:An H H'):Sb CP CT H0 H' p q cs bs d zs n:=
 ⟨h.kt.trans (Kt.of s),h.pa.same s,h.wl,λe he=>let⟨us,h1,h2⟩:=h.nl e he;⟨us,s.get h1,AH.same s _ _ h2⟩,s.get h.at_,λc hc=>(h.ce c hc).keep (KT.of s),h.eq,h.ap,h.few⟩
theorem Sb.nd (h:Sb CP CT H0 H p q cs bs d zs n):(zs.map (·.tg.1)).Nodup:=by
 have e:=congrArg (List.map λx:Tg×Bk=>x.1.1) h.eq;rw[ar,ar] at e;rw[show zs.map (λc=>c.tg.1)=zs.map ((λx:Tg×Bk=>x.1.1)∘λc=>(c.tg,c.bk)) from rfl,e];exact h.pa.t.2.2.2
theorem Sb.mate (h:Sb CP CT H0 H p q cs bs d zs n){c:Cz}(hc:c∈zs):∃e∈cs,c.tg=Of e/\c.bk=e.bk:=by
 have:(c.tg,c.bk)∈cs.map λe=>(Of e,e.bk):=by rw[<-h.eq];exact aO hc
 obtain⟨e,he,ee⟩:=ah.mp this;exact⟨e,he,(congrArg (·.1) ee).symm,(congrArg (·.2) ee).symm⟩
theorem Sb.mateZ (h:Sb CP CT H0 H p q cs bs d zs n){e:Cl}(he:e∈cs):∃c∈zs,c.tg=Of e/\c.bk=e.bk:=by
 have:(Of e,e.bk)∈zs.map λc=>(c.tg,c.bk):=by rw[h.eq];exact aO (f:=λe:Cl=>(Of e,e.bk)) he
 obtain⟨c,hc,ee⟩:=ah.mp this;exact⟨c,hc,congrArg (·.1) ee,congrArg (·.2) ee⟩
theorem Sb.cl (h:Sb CP CT H0 H p q cs bs d zs n){z:Int}{b:Bk}(e:bm zs z=some b):∃x∈cs,x.z=z/\x.bk=b:=by
 obtain⟨c,hc,rfl,rfl⟩:=DO e;obtain⟨x,hx,e1,e2⟩:=h.mate hc;exact⟨x,hx,by rw[e1];rfl,e2.symm⟩
theorem PAt.dict {kvs kvs':List (Key×V)}(h:PAt CP CT H p q cs bs)(hd:H d=some (.dK kvs))(nd:d∉Cb p q cs bs):PAt CP CT (upd H d (.dK kvs')) p q cs bs:=by
 have own:∀{a},a∈Cb p q cs bs->(upd H d (.dK kvs')) a=H a:=λ{a} ha=>Af λw=>nd (by rw[<-w];exact ha)
 have tp:∀c ys,H c=some (.tup ys)->(upd H d (.dK kvs')) c=some (.tup ys):=λc ys e=>by rw[Af λw=>by rw[w,hd] at e;cases e];exact e
 have o1:p∈Cb p q cs bs:=by simp[Cb]
 have o2:q.dt∈Cb p q cs bs:=by simp[Cb]
 have o3:q.dz∈Cb p q cs bs:=by simp[Cb]
 have o4:q.dd∈Cb p q cs bs:=by simp[Cb]
 have o5:∀e∈cs,e.c∈Cb p q cs bs:=λe he=>by
  unfold Cb;simp only[List.mem_cons,List.mem_append];exact .inr (.inr (.inr (.inr (.inr (ah.mpr ⟨e,he,rfl⟩)))))
 have o6:∀x∈bs,x.2∈Cb p q cs bs:=λe he=>by
  unfold Cb;simp only[List.mem_cons,List.mem_append];exact .inr (.inr (.inr (.inr (.inl (ah.mpr ⟨e,he,rfl⟩)))))
 exact⟨⟨by rw[own o1];exact h.t.1,by rw[own o2];exact h.t.2.1,λe he=>(h.t.2.2.1 e he).tup (own (o5 e he)) tp,h.t.2.2.2⟩,by rw[own o4];exact h.d,{ h.b with h:=by rw[own o3];exact h.b.h,d:=λx hx=>⟨by rw[own (o6 x hx)];exact(h.b.d x hx).1,(h.b.d x hx).2⟩ },h.n1,h.n2,h.n3,h.c,h.z,h.w,h.f1,h.f2⟩
end
theorem Kt.dict {H:Hp}{d:Addr}{kvs:List (Key×V)}(hd:H d=some (.dK kvs))(o:HO):Kt H (upd H d o):=λa u e _ n=>by rw[Af λw=>by rw[w,hd] at e;exact n _ (aA e).symm];exact e
theorem SX {zs zs':List Cz}(nd:(zs'.map (·.tg.1)).Nodup)(h:∀c∈zs,∃c'∈zs',c'.tg.1=c.tg.1/\c'.bk=c.bk):Mon (bm zs) (bm zs'):=λz b e=>by
 obtain⟨c,hc,rfl,rfl⟩:=DO e;obtain⟨c',hc',e1,e2⟩:=h c hc;rw[<-e1,<-e2];exact M7 nd hc'
def Eb (K:W.Frag)(CP CT:Addr):Sp:=λvs H Q _=>∃(H0:Hp) (p d:Addr) (q:Pl) (cs:List Cl) (bs:List (Int×Addr)) (zs:List Cz) (n:Nat) (v:V) (b:Bk) (y:Int),vs=[.ref p,.ref d,v,.int y]/\Sb CP CT H0 H p q cs bs d zs n/\n<=100/\Rep NL H (Dy b) v/\GV b/\(∀t∈AM b,∃e∈cs,e.z=t.1)/\(0<=y/\y<=999999999)/\
 ∀q' cs' bs' zs' ta t H',Sb CP CT H0 H' p q' cs' bs' d zs' (n+1)->Kt H H'->(∀e∈cs',e.l∈cs.map (·.l)\/H e.l=none)->bm zs' t.1=some b->GT H' ta t->JR t->Mon (bm zs) (bm zs')->Q (.ref ta) H'
theorem LX (T:Txt K mg Ak Aa Ae XC)(F:Fun K "_law_put" "_law_put" Dl f fd)(GH:Da P w K mg base 14 Ae "put" ["self","block","birth"] (FZ K Ae Aa)):FnOk P w K mg base CZ 15 f fd ["_law_pool","_law_blocks_here","_law_block","_law_birth"] (Eb K Ae Aa):=by
 exists Im
 ·obtain⟨H0,p,d,q,cs,bs,zs,n,v,b,y,rfl,_⟩:=h;rfl
 obtain⟨H0,p,d,q,cs,bs,zs,n,v,b,y,rfl,sb,n100,hv,ok,ht,hy,hq⟩:=h;have hu:=BP hr;have hu9:=C1 hr;refine⟨_,(!Ag (@Au _ _ (4) _ _ _ _ Im.nd rfl (by trivial) (!DD (pv 0) T.cl_Pool GH (by trivial) (!Ab (pv 2) (!Ab (pv 3) (!Ah)))) (by rfl) (by trivial)) (!Ag (!Ec hu (pv 1) (!Am Ay (pv 4) (!Ad) (λ_ _=>rfl)) (!Bq (!Ab (pv 4) (!Ab (pv 2) (!Ah))))) (!Al (!Av (pv 4))))),?_⟩
 try dsimp only[Bw,Cx.nox,Cx.wish]
 have few:=sb.few;refine Ax ⟨_,rfl,p,q.dp,_,rfl,sb.pa.t.1,rfl,_,rfl,_,rfl,LK ⟨p,q,cs,bs,v,b,y,rfl,sb.pa,by omega,hv,ok,ht,λe he eb H1 s1=>?_,λhne H1 c dx l ta bs1 nc nl ⟨us,hl,hus⟩ pa1 fr bfr=>?_⟩⟩
 ·have sb1:=sb.on s1;obtain⟨_,hta,_,_⟩:=sb1.pa.t.2.2.1 e he;dsimp only[Az];refine⟨_,rfl,_,rfl,GR,λpn npn=>?_⟩;have s2:=Ai npn (.tup [.ref e.ta,v]);have hpn:(upd H1 pn (.tup [.ref e.ta,v])) pn=some (.tup [.ref e.ta,v]):=Ac;have sb2:=sb1.on s2;have hta2:=s2.get hta;have hv2:=Rep.same (s1.trans s2) _ _ hv;have k2:=Kt.of (s1.trans s2);generalize upd H1 pn (.tup [.ref e.ta,v])=H2 at hpn sb2 hta2 hv2 k2;obtain⟨c0,hc0,e1,e2⟩:=sb.mateZ he;have lz:zs.length=cs.length:=by have:=congrArg List.length sb.eq;rw[aa,aa] at this;exact this
  have put:putK (Fx zs) (.inl e.z) (.ref pn)=Fx (zs.map λc=>if c.tg.1=e.z then⟨c.tg,c.bk,pn,e.ta,v⟩ else c):=by
   have hv0:Bz (Fx zs) (.inl e.z)=some (.ref c0.p):=by
    rw[show e.z=c0.tg.1 by rw[e1];rfl];exact Jj (z:=λc:Cz=>c.tg.1) (v:=λc=>.ref c.p) sb.nd c0 hc0
   unfold putK;rw[FU,hv0,aE (show(some (V.ref c0.p)).isSome=true from rfl)];unfold Fx;rw[ar,ar];refine bK λc _=>?_
   dsimp only[Function.comp]
   by_cases z:c.tg.1=e.z
   ·rw[aE (by rw[z]),aE z,z]
   ·rw[aH (λw=>z (bH w)),aH z]
  refine⟨_,rfl,_,rfl,e.ta,_,_,_,rfl,rfl,AG.of hta2,Ap (j:=0) rfl,d,_,rfl,HF.k (k:=.inl e.z) sb2.at_ (AO (by unfold Fx;rw[aa];omega)),?_⟩;rw[put];have kd:=Kt.dict sb2.at_ (.dK (Fx (zs.map λc=>if c.tg.1=e.z then⟨c.tg,c.bk,pn,e.ta,v⟩ else c)));have sb3:Sb Ae Aa H0 (upd H2 d (.dK (Fx (zs.map λc=>if c.tg.1=e.z then⟨c.tg,c.bk,pn,e.ta,v⟩ else c)))) p q cs bs d (zs.map λc=>if c.tg.1=e.z then⟨c.tg,c.bk,pn,e.ta,v⟩ else c) (n+1):=by
   refine⟨sb2.kt.trans kd,sb2.pa.dict sb2.at_ sb2.ap,sb2.wl,λx hx=>?_,Ac,λc' hc'=>?_,?_,sb2.ap,by omega⟩
   ·obtain⟨us,h1,h2⟩:=sb2.nl x hx;exact⟨us,kd.lst h1,BN kd.tup _ _ h2⟩
   ·obtain⟨c,hc,rfl⟩:=ah.mp hc'
    split
    ·next z=>
     obtain⟨x,hx,x1,x2⟩:=sb.mate hc;have xe:x=e:=BY sb.pa.t.2.2.2 hx he (by rw[x1] at z;exact z);subst xe;refine⟨kd.tup _ _ hpn,?_,?_⟩
     ·show GT _ x.ta c.tg;rw[x1];exact kd.tup _ _ hta2
     ·show Rep NL _ (Dy c.bk) v;rw[x2,eb];exact Cn kd.tup _ _ hv2
    ·exact(sb2.ce c hc).keep kd.tup
   ·rw[ar,<-sb.eq];refine bK λc _=>?_
    dsimp only[Function.comp]
    split<;>rfl
  have hc1:(⟨c0.tg,c0.bk,pn,e.ta,v⟩:Cz)∈zs.map λc=>if c.tg.1=e.z then⟨c.tg,c.bk,pn,e.ta,v⟩ else c:=by
   refine ah.mpr ⟨c0,hc0,?_⟩;rw[aE (by rw[e1];rfl)]
  have hb:=M7 sb3.nd hc1;refine⟨_,rfl,hq q cs bs _ e.ta (Of e) _ sb3 (k2.trans kd) (λx hx=>.inl (aO hx)) ?_ (kd.tup _ _ hta2) (sb.wl e he).1 (SX sb3.nd λc hc=>?_)⟩
  ·rw[<-e1,<-eb,<-e2];exact hb
  ·by_cases z:c.tg.1=e.z
   ·exact⟨_,ah.mpr ⟨c,hc,aE z⟩,rfl,rfl⟩
   ·exact⟨c,ah.mpr ⟨c,hc,aH z⟩,rfl,rfl⟩
 ·have tok:JR ((cs.length:Int)+1,y,Bn b):=⟨⟨by show(1:Int)<=(cs.length:Int)+1;omega,by show(cs.length:Int)+1<=999999;omega⟩,hy,sum_in b⟩
  have k1:Kt H H1:=Kt.frm sb.pa fr;have hd1:=fr d _ sb.at_ sb.ap;have wl1:=sb.wl.more (e:=C6 ((cs.length:Int)+1) y b v c dx ta l cs) tok ht rfl ((AM b).map (·.1));have mem1:∀x∈(cs++[C6 ((cs.length:Int)+1) y b v c dx ta l cs]).map (bump ((AM b).map (·.1))),(∃x0∈cs,x.l=x0.l/\x.bk=x0.bk)\/(x.l=l/\x.bk=b):=λx hx=>by
   obtain⟨x0,h0,rfl⟩:=ah.mp hx;rcases au.mp h0 with h0|h0
   ·exact .inl ⟨x0,h0,rfl,rfl⟩
   ·rw[ai.mp h0];exact .inr ⟨rfl,rfl⟩
  have nl1:∀x∈(cs++[C6 ((cs.length:Int)+1) y b v c dx ta l cs]).map (bump ((AM b).map (·.1))),∃us,H1 x.l=some (.lst us)/\AH NL H1 ((AM x.bk).map FJ) us:=λx hx=>by
   rcases mem1 x hx with⟨x0,h0,e1,e2⟩|⟨e1,e2⟩
   ·obtain⟨us,h1,h2⟩:=sb.nl x0 h0;rw[e1,e2];exact⟨us,k1.lst h1,BN k1.tup _ _ h2⟩
   ·rw[e1,e2];exact⟨us,hl,hus⟩
  have ap1:d∉Cb p q ((cs++[C6 ((cs.length:Int)+1) y b v c dx ta l cs]).map (bump ((AM b).map (·.1)))) bs1:=λhm=>by
   have ap:=sb.ap;have dn:∀{a},H a=none->d≠a:=λ{a} ha w=>by rw[<-w,sb.at_] at ha;cases ha
   unfold Cb at hm ap;rw[Lg,aj] at hm;simp only[List.mem_cons,List.mem_append,not_or] at hm ap;rcases hm with h|h|h|h|h|h
   ·exact ap.1 h
   ·exact ap.2.1 h
   ·exact ap.2.2.1 h
   ·exact ap.2.2.2.1 h
   ·obtain⟨x,hx,e⟩:=ah.mp h;rcases bfr x hx with h|h
    ·exact ap.2.2.2.2.1 (ah.mpr ⟨x,h,e⟩)
    ·exact dn h e.symm
   ·rcases h with h|h
    ·exact ap.2.2.2.2.2 h
    ·have h':d=(C6 ((cs.length:Int)+1) y b v c dx ta l cs).c:=by simpa using h
     exact dn nc h'
  have hta:=(pa1.t.2.2.1 _ (aO (aC _ ax))).2.1;have hta:H1 ta=some (.tup [.int ((cs.length:Int)+1),.int y,.int (Bn b)]):=hta;have ecs:((cs++[C6 ((cs.length:Int)+1) y b v c dx ta l cs]).map (bump ((AM b).map (·.1)))).map (λe=>(Of e,e.bk))=cs.map (λe=>(Of e,e.bk))++[(((cs.length:Int)+1,y,Bn b),b)]:=by
   rw[ar,aj];rfl
  have lcs:((cs++[C6 ((cs.length:Int)+1) y b v c dx ta l cs]).map (bump ((AM b).map (·.1)))).length=cs.length+1:=by rw[aa,ao];rfl
  have lold:∀x∈(cs++[C6 ((cs.length:Int)+1) y b v c dx ta l cs]).map (bump ((AM b).map (·.1))),x.l∈cs.map (·.l)\/H x.l=none:=λx hx=>by
   rcases mem1 x hx with⟨x0,h0,e1,e2⟩|⟨e1,e2⟩
   ·rw[e1];exact .inl (aO h0)
   ·rw[e1];exact .inr nl
  generalize (cs++[C6 ((cs.length:Int)+1) y b v c dx ta l cs]).map (bump ((AM b).map (·.1)))=cs1 at pa1 wl1 nl1 ap1 ecs lcs lold;have hv1:=Cn k1.tup _ _ hv;have ce1:∀c∈zs,NG H1 c:=λc hc=>(sb.ce c hc).keep k1.tup
  dsimp only[Az];refine⟨_,rfl,_,rfl,GR,λpn npn=>?_⟩;have s2:=Ai npn (.tup [.ref ta,v]);have hpn:(upd H1 pn (.tup [.ref ta,v])) pn=some (.tup [.ref ta,v]):=Ac;have hta2:=s2.get hta;have hv2:=Rep.same s2 _ _ hv1;have pa2:=pa1.same s2;have nl2:∀x∈cs1,∃us,_/\AH NL _ ((AM x.bk).map FJ) us:=λx hx=>let⟨us,h1,h2⟩:=nl1 x hx;⟨us,s2.get h1,AH.same s2 _ _ h2⟩
  have hd2:=s2.get hd1;have ce2:∀c∈zs,NG _ c:=λc hc=>(ce1 c hc).keep (KT.of s2)
  have k2:=k1.trans (Kt.of s2);generalize upd H1 pn (.tup [.ref ta,v])=H2 at hpn hta2 hv2 pa2 nl2 hd2 ce2 k2;have lz:zs.length=cs.length:=by have:=congrArg List.length sb.eq;rw[aa,aa] at this;exact this
  have put:putK (Fx zs) (.inl ((cs.length:Int)+1)) (.ref pn)=Fx (zs++[⟨((cs.length:Int)+1,y,Bn b),b,pn,ta,v⟩]):=by
   unfold Fx;rw[C8 _ (FK (k:=λc:Cz=>.inl c.tg.1) (g:=λc=>.ref c.p) (z:=.inl ((cs.length:Int)+1)) λc0 hc e=>?_),aj]
   ·rfl
   ·obtain⟨x,hx,x1,_⟩:=sb.mate hc;obtain⟨i,hi⟩:=bM hx;have:=sb.pa.z i x hi;have il:=(aw.mp hi).1;have e:c0.tg.1=(cs.length:Int)+1:=bH e;rw[x1] at e;have e:x.z=(cs.length:Int)+1:=e;omega
  refine⟨_,rfl,_,rfl,ta,_,_,_,rfl,rfl,AG.of hta2,Ap (j:=0) rfl,d,_,rfl,HF.k (k:=.inl ((cs.length:Int)+1)) hd2 (AO (by unfold Fx;rw[aa];omega)),?_⟩;rw[put];have kd:=Kt.dict hd2 (.dK (Fx (zs++[⟨((cs.length:Int)+1,y,Bn b),b,pn,ta,v⟩])));have sb3:Sb Ae Aa H0 (upd H2 d (.dK (Fx (zs++[⟨((cs.length:Int)+1,y,Bn b),b,pn,ta,v⟩])))) p { q with n:=(cs.length:Int)+1 } cs1 bs1 d (zs++[⟨((cs.length:Int)+1,y,Bn b),b,pn,ta,v⟩]) (n+1):=by
   refine⟨sb.kt.trans (k2.trans kd),pa2.dict hd2 ap1,wl1,λx hx=>?_,Ac,λc' hc'=>?_,?_,ap1,by omega⟩
   ·obtain⟨us,h1,h2⟩:=nl2 x hx;exact⟨us,kd.lst h1,BN kd.tup _ _ h2⟩
   ·rcases au.mp hc' with hc'|hc'
    ·exact(ce2 c' hc').keep kd.tup
    ·cases ai.mp hc';exact⟨kd.tup _ _ hpn,kd.tup _ _ hta2,Cn kd.tup _ _ hv2⟩
   ·rw[ecs,aj,sb.eq];rfl
  exact⟨_,rfl,hq _ cs1 bs1 _ ta ((cs.length:Int)+1,y,Bn b) _ sb3 (k2.trans kd) lold (M7 sb3.nd (aC _ ax)) (kd.tup _ _ hta2) tok (TY _ _)⟩
end
open M06
section
variable {P:Program}{w:World}{K:W.Frag}{mg:Str->Option Value}{base:Heap}{f Ak Aa Ae:Addr}{XC:Nat->Addr}{fd:FuncData}
abbrev Nw (H0:Hp)(l:Addr):Prop:=∀o,H0 l=some o->(∃C d fs,o=.ins C d fs)\/∃kvs,o=.dK kvs
theorem Kt.nw {H0 H:Hp}(k:Kt H0 H){l:Addr}(nl:H l=none):Nw H0 l:=λo e=>cy λh=>by
 have:=k l o e (λC d fs z=>h (.inl ⟨C,d,fs,z⟩)) λkvs z=>h (.inr ⟨kvs,z⟩)
 rw[nl] at this;cases this
theorem Kt.new {H0 H:Hp}(k:Kt H0 H){l:Addr}(nl:Nw H0 l)(o:HO):Kt H0 (upd H l o):=λa u e n m=>by
 rw[Af λw=>?_]
 ·exact k a u e n m
 ·rw[w] at e;rcases nl u e with⟨C,d,fs,z⟩|⟨kvs,z⟩
  ·exact n _ _ _ z
  ·exact m _ z
theorem Kt.seq {H H':Hp}(k:Kt H H'){a:Addr}{xs:List V}(h:AB K H a xs):AB K H' a xs:=by
 rcases h with(h|⟨o,h⟩)|h
 ·exact .inl (.inl (k.lst h))
 ·exact .inl (.inr ⟨o,k a _ h (λ_ _ _ z=>by cases z) λ_ z=>by cases z⟩)
 ·exact .inr h
theorem Fy.kt {l:Addr}{H H':Hp}{ps:List (Addr×Tg)}(h:Fy H l ps)(k:Kt H H'):Fy H' l ps:=⟨k.lst h.1,λp hp=>k.tup _ _ (h.2 p hp)⟩
def Sv (CP CT:Addr)(H0 H:Hp)(p d:Addr)(L:List Addr)(zs:List Cz)(n:Nat):Prop:=∃q cs bs,Sb CP CT H0 H p q cs bs d zs n/\∀a∈L,(∃us,H a=some (.lst us))/\∀e∈cs,e.l≠a
section
variable {CP CT:Addr}{H0 H H':Hp}{p d:Addr}{L:List Addr}{zs:List Cz}{n:Nat}
theorem Sv.kt (h:Sv CP CT H0 H p d L zs n):Kt H0 H:=let⟨_,_,_,h,_⟩:=h;h.kt
theorem Sv.on (h:Sv CP CT H0 H p d L zs n)(s:An H H'):Sv CP CT H0 H' p d L zs n:=let⟨q,cs,bs,h,k⟩:=h;⟨q,cs,bs,h.on s,λa ha=>⟨let⟨us,e⟩:=(k a ha).1;⟨us,s.get e⟩,(k a ha).2⟩⟩
theorem Sv.sub {L':List Addr}(h:Sv CP CT H0 H p d L zs n)(s:∀a∈L',a∈L):Sv CP CT H0 H p d L' zs n:=let⟨q,cs,bs,h,k⟩:=h;⟨q,cs,bs,h,λa ha=>k a (s a ha)⟩
theorem Sv.add {l:Addr}{us:List V}(h:Sv CP CT H0 H p d L zs n)(nl:H l=none):Sv CP CT H0 (upd H l (.lst us)) p d (l::L) zs n:=by
 obtain⟨q,cs,bs,h,k⟩:=h;have s:=Ai nl (.lst us);refine⟨q,cs,bs,h.on s,λa ha=>?_⟩;rcases aL.mp ha with rfl|ha
 ·exact⟨⟨us,Ac⟩,λe he w=>by
   obtain⟨vs,e1,_⟩:=h.nl e he;rw[w,nl] at e1;cases e1⟩
 ·exact⟨let⟨us,e⟩:=(k a ha).1;⟨us,s.get e⟩,(k a ha).2⟩
theorem IL {l:Addr}{us us':List V}(h:Sv CP CT H0 H p d L zs n)(hL:l∈L)(hl:H l=some (.lst us))(nw:Nw H0 l):Sv CP CT H0 (upd H l (.lst us')) p d L zs n:=by
 obtain⟨q,cs,bs,h,k⟩:=h;have tp:=KT.lst hl (.lst us');refine⟨q,cs,bs,⟨h.kt.new nw _,h.pa.lst hl,h.wl,λe he=>?_,by rw[Af λw=>by rw[<-w,h.at_] at hl;cases hl];exact h.at_,λc hc=>(h.ce c hc).keep tp,h.eq,h.ap,h.few⟩,λa ha=>⟨?_,(k a ha).2⟩⟩
 ·obtain⟨vs,e1,e2⟩:=h.nl e he;exact⟨vs,by rw[Af ((k l hL).2 e he)];exact e1,BN tp _ _ e2⟩
 ·by_cases w:a=l
  ·exact⟨us',by rw[w,Ac]⟩
  ·obtain⟨vs,e⟩:=(k a ha).1;exact⟨vs,by rw[Af w];exact e⟩
theorem Kq {v:V} {b:Bk} {y:Int} {Q:VK} (h:Sv CP CT H0 H p d L zs n) (hn:n<=50) (hv:Rep NL H (Dy b) v) (ok:GV b) (ht:∀t∈AM b,∃b',bm zs t.1=some b') (hy:0<=y/\y<=9999)
  (q:∀zs' H' ta t,Sv CP CT H0 H' p d L zs' (n+1)->Kt H H'->bm zs' t.1=some b->GT H' ta t->JR t->Mon (bm zs) (bm zs')->Q (.ref ta) H'):Eb K CP CT [.ref p,.ref d,v,.int y] H Q E0:=by
 obtain⟨q0,cs,bs,h,k⟩:=h;refine⟨H0,p,d,q0,cs,bs,zs,n,v,b,y,rfl,h,by omega,hv,ok,λt ht'=>?_,by omega,λq' cs' bs' zs' ta t H' sb kt hl eb hta tok mon=>q zs' H' ta t ⟨q',cs',bs',sb,λa ha=>?_⟩ kt eb hta tok mon⟩
 ·obtain⟨b',e⟩:=ht t ht';obtain⟨x,hx,e1,_⟩:=h.cl e;exact⟨x,hx,e1⟩
 ·obtain⟨⟨us,e⟩,k2⟩:=k a ha;refine⟨⟨us,kt.lst e⟩,λx hx w=>?_⟩;rcases hl x hx with h1|h1
  ·obtain⟨x0,hx0,e0⟩:=ah.mp h1;exact k2 x0 hx0 (e0.trans w)
  ·rw[w,e] at h1;cases h1
end
theorem Rw.some {B:BM}:∀{n:Nat} {z:Int},Rw B n z->∃b,B z=some b
 |0,_,⟨_,e,_⟩=>⟨_,e⟩
 |_+1,_,.inl ⟨_,e,_⟩=>⟨_,e⟩
 |_+1,_,.inr ⟨_,_,e,_⟩=>⟨_,e⟩
theorem Fd.some {B:BM}{Nm:Str->Prop}:∀{n:Nat} {z:Int},Fd B Nm n z->∃b,B z=some b
 |_+1,_,⟨_,e,_⟩=>⟨_,e⟩
abbrev Nu (B:BM)(n:Nat)(t:Tg):Prop:=JR t/\Rw B n t.1
abbrev Rn (B:BM)(Nm:Str->Prop)(n:Nat)(t:Tg):Prop:=JR t/\Fd B Nm n t.1
theorem Nu.mon {B B':BM}{n:Nat}{t:Tg}(h:Nu B n t)(m:Mon B B'):Nu B' n t:=⟨h.1,h.2.mon m⟩
theorem Nu.up {B:BM}{n:Nat}{t:Tg}(h:Nu B n t):Nu B (n+1) t:=⟨h.1,h.2.up⟩
theorem Rn.mon {B B':BM}{Nm:Str->Prop}{n:Nat}{t:Tg}(h:Rn B Nm n t)(m:Mon B B'):Rn B' Nm n t:=⟨h.1,h.2.mon m⟩
theorem Rn.up {B:BM}{Nm:Str->Prop}{n:Nat}{t:Tg}(h:Rn B Nm n t):Rn B Nm (n+1) t:=⟨h.1,h.2.up⟩
theorem QG {z:Str}(l1:1<=z.length)(l8:z.length<=8)(h:U1 z):GV (.piece z):=by
 show(decide ((1:Int)<=(z.length:Int))&&decide ((z.length:Int)<=8)&&Bt SG z)=true;rw[aU,aU];refine⟨⟨aI (by omega),aI (by omega)⟩,?_⟩;unfold Bt;exact aX.mpr λc hc=>aI (h c hc)
def D3 (K:W.Frag)(CP CT:Addr):Sp:=λvs H Q _=>∃(sa pl na:Addr) (ns:List Int) (zs:List Str) (q0:Pl),vs=[.ref sa,.ref pl,.ref na]/\AB K H sa (ns.map V.int)/\PAt CP CT H pl q0 [] []/\AB K H na (zs.map V.str)/\zs≠[]/\zs.length<=100/\(∀z∈zs,Iu (.str z)=true)/\
 ∀t d fo cs (gs:List (Addr×Tg)) H',Sv CP CT H H' pl d [] cs 15->H' t=some (.tup [.ref d,.ref fo])->H' fo=some (.lst (gs.map λp=>V.ref p.1))->Gv H' gs->(∀p∈gs,Fd (bm cs) (·∈zs) 6 p.2.1)->(∃p∈gs,bm cs p.2.1=some (.folder []))->gs.length<=6->Q (.ref t) H'
theorem JG (T:Txt K mg Ak Aa Ae XC)(F:Fun K "_law_blocks" "_law_blocks" BX f fd)(BC:Def P w K mg base 1 "_law_row" ["_law_cell","_law_many"] (Dt K))(AW:Def P w K mg base 1 "_law_cell_at" ["_law_script","_law_k"] (BR K))(Ca:Def P w K mg base 15 "_law_put" ["_law_pool","_law_blocks_here","_law_block","_law_birth"] (Eb K Ae Aa))(FP:Def P w K mg base 1 "_law_text" ["_law_row_here","_law_at"] (E1 K))(D8:Def P w K mg base 1 "_law_entries" ["_law_row_here","_law_at","_law_names_here","_law_files","_law_folders"] (DH K)):FnOk P w K mg base CZ 16 f fd ["_law_script","_law_pool","_law_names_here"] (D3 K Ae Aa):=by
 exists AV
 ·obtain⟨sa,pl,na,ns,zs,q0,rfl,_⟩:=h;rfl
 obtain⟨sa,pl,na,ns,zs,q0,rfl,hsa,hpl,hna,zn,lz,zok,q⟩:=h;have hu:=BP hr;have hu9:=C1 hr;refine⟨_,(!Ag (@Au _ _ (3) _ _ _ _ AV.nd rfl (by trivial) (!Cc) (by rfl) (by trivial)) (!Ag (@Au _ _ (4) _ _ _ _ AV.nd rfl (by trivial) (!AU BC (by trivial) rfl (!Ab (!AU AW (by trivial) rfl (!Ab (pv 0) (!Ab (!Ad) (!Ah)))) (!Ab (!Ad) (!Ah)))) (by rfl) (by trivial)) (!Ag (@Au _ _ (5) _ _ _ _ AV.nd rfl (by trivial) (@DM _ ["_law_k","_law_pool","_law_blocks_here","_law_row_here"] [none,some 1,some 3,some 4] _ _ _ _ _ _ _ _ _ _ _ rfl (!Bg rfl T.b_range (!Ab (!Ad) (!Ah))) (by rfl) rfl (by repeat (first|exact trivial|refine⟨rfl,?_⟩)) (by repeat (first|exact trivial|refine⟨λh=>(by first|exact⟨_,rfl⟩|cases h),?_⟩)) (λC s H fp=>⟨(@Aq _ _ (0) _ (show(["_law_k","_law_pool","_law_blocks_here","_law_row_here"]:List Str).Nodup by decide +kernel) rfl (by trivial) (by trivial)),(!A6),(!AU Ca (by trivial) rfl (!Ab (pv 1) (!Ab (pv 2) (!Ab (!Bq (!Ab (!Ad) (!Ab (!AU FP (by trivial) rfl (!Ab (pv 3) (!Ab (!Ao BI (!Ad) (pv 0)) (!Ah)))) (!Ah)))) (!Ab (!Ao AF (!Ad) (!Ao AN (!Am (EC (K:=K) (by rfl)) (pv 3) (!Ad) (λ_ _=>rfl)) (!Ad))) (!Ah))))))⟩) (by intro _;rfl)) (by rfl) (by trivial)) (!Ag (@Au _ _ (6) _ _ _ _ AV.nd rfl (by trivial) (!A5 (!Ab (!AU Ca (by trivial) rfl (!Ab (pv 1) (!Ab (pv 3) (!Ab (!Bq (!Ab (!Ad) (!Ab (!Ad) (!Ab (!Bq (!Ah)) (!Ah))))) (!Ab (!Ad) (!Ah)))))) (!Ah))) (by rfl) (by trivial)) (!Ag (!BJ aW rfl (!Bg rfl T.b_range (!Ab (!Ad) (!Ah))) (@Aq _ _ (7) _ AV.nd rfl (by trivial) (by trivial)) (!Ag (@Fo _ ["_law_j","_law_pieces","_law_row_here","_law_k"] [none,some 5,some 4,some 7] (8) _ _ _ _ _ _ _ _ _ _ _ _ _ _ AV.nd rfl (by trivial) rfl (!Bg rfl T.b_range (!Ab (!Ao AF (!Ad) (!Ao AN (!Am Aw (pv 4) (!Ao AF (!Ad) (!Ao BI (!Ad) (pv 7))) (λ_ _=>rfl)) (!Ad))) (!Ah))) (by rfl) rfl (by repeat (first|exact trivial|refine⟨rfl,?_⟩)) (by repeat (first|exact trivial|refine⟨λh=>(by first|exact⟨_,rfl⟩|cases h),?_⟩)) (λC s H fp=>⟨(@Aq _ _ (0) _ (show(["_law_j","_law_pieces","_law_row_here","_law_k"]:List Str).Nodup by decide +kernel) rfl (by trivial) (by trivial)),(!A6),(!Am (EC (K:=K) (by rfl)) (pv 1) (!Ao AN (!Am (EC (K:=K) (by rfl)) (pv 2) (!Ao AF (!Ao AF (!Ad) (!Ao BI (!Ad) (pv 3))) (pv 0)) (λ_ _=>rfl)) (!Ad)) (λ_ _=>rfl))⟩) (by intro _;rfl) (by rfl) (by trivial)) (!Al (!Bc (!CA aK bg bf Bo (pv 6) (!Ab (!AU Ca (by trivial) rfl (!Ab (pv 1) (!Ab (pv 3) (!Ab (!Bq (!Ab (!Ad) (!Ab (!Ad) (!Ab (!Bb Dn (by rfl) T.b_tuple G9 (!Ab (pv 8) (!Ah))) (!Ah))))) (!Ab (!Ad) (!Ah)))))) (!Ah)))))) (by intro _;rfl)) (!Ag (!Bc (!CA aK bg bf Bo (pv 6) (!Ab (!AU Ca (by trivial) rfl (!Ab (pv 1) (!Ab (pv 3) (!Ab (!Bq (!Ab (!Ad) (!Ab (!Ad) (!Ab (!Bq (!Ab (!Am Aw (pv 6) (!Ao AN (!Am Aw (pv 4) (!Ad) (λ_ _=>rfl)) (!Ad)) (λ_ _=>rfl)) (!Ab (!Am Aw (pv 6) (!Ao AN (!Am Aw (pv 4) (!Ad) (λ_ _=>rfl)) (!Ad)) (λ_ _=>rfl)) (!Ah)))) (!Ah))))) (!Ab (!Ad) (!Ah)))))) (!Ah)))) (!Ag (@Au _ _ (9) _ _ _ _ AV.nd rfl (by trivial) (!A5 (!Ab (!AU Ca (by trivial) rfl (!Ab (pv 1) (!Ab (pv 3) (!Ab (!Bq (!Ab (!Ad) (!Ab (!Bq (!Ah)) (!Ah)))) (!Ab (!Ad) (!Ah)))))) (!Ah))) (by rfl) (by trivial)) (!Ag (@Au _ _ (10) _ _ _ _ AV.nd rfl (by trivial) (!AU BC (by trivial) rfl (!Ab (!AU AW (by trivial) rfl (!Ab (pv 0) (!Ab (!Ad) (!Ah)))) (!Ab (!Ad) (!Ah)))) (by rfl) (by trivial)) (!Ag (!BJ aW rfl (!Bg rfl T.b_range (!Ab (!Ad) (!Ah))) (@Aq _ _ (7) _ AV.nd rfl (by trivial) (by trivial)) (!Al (!Bc (!CA aK bg bf Bo (pv 9) (!Ab (!AU Ca (by trivial) rfl (!Ab (pv 1) (!Ab (pv 3) (!Ab (!AU D8 (by trivial) rfl (!Ab (pv 10) (!Ab (!Ao BI (!Ad) (pv 7)) (!Ab (pv 2) (!Ab (pv 6) (!Ab (pv 9) (!Ah))))))) (!Ab (!Ao AF (!Ad) (!Ao AN (!Am Aw (pv 10) (!Ao AF (!Ao BI (!Ad) (pv 7)) (!Ad)) (λ_ _=>rfl)) (!Ad))) (!Ah)))))) (!Ah))))) (by intro _;rfl)) (!Al (!Av (!Bq (!Ab (pv 3) (!Ab (pv 9) (!Ah))))))))))))))),?_⟩
 try dsimp only[Bw,Cx.nox,Cx.wish]
 refine Ax λd nd=>?_
 have sb0:Sv Ae Aa H (upd H d (.dK [])) pl d [] [] 0:=⟨q0,[],[],⟨Kt.of (Ai nd _),hpl.same (Ai nd _),(λ_ h=>nomatch h),(λ_ h=>nomatch h),Ac,(λ_ h=>nomatch h),rfl,(λhm=>by
  simp only[Cb,List.map_nil,List.append_nil,List.mem_cons,List.not_mem_nil,or_false] at hm;rcases hm with h|h|h|h
  ·rw[h,hpl.t.1] at nd;cases nd
  ·rw[h,hpl.t.2.1] at nd;cases nd
  ·rw[h,hpl.b.h] at nd;cases nd
  ·rw[h,hpl.d] at nd;cases nd),ak _⟩,λ_ h=>nomatch h⟩
 dsimp only[Az];generalize upd H d (.dK [])=H1 at sb0;refine Ax ⟨_,rfl,sa,ns,1,rfl,by decide,sb0.kt.seq hsa,λc1=>⟨c1,40,rfl,by decide,by decide,λra H2 ms s2 nra hra lms bms=>?_⟩⟩;have sb2:=sb0.on s2;have nraH:=sb0.kt.nw nra;have lms:ms.length=40:=lms;have A:∀k:Int,0<=k->k<40->Ih (ms.map V.int) k=some (.int (ms.getD k.toNat 0)):=λk h0 h1=>C3 h0 (by omega)
 dsimp only[Az];refine Ax ⟨4,rfl,by decide,by decide,?_⟩;refine Lb (xs:=(List.range (4:Int).toNat).map λ(i:Nat)=>V.int (0+(i:Int))) (λi ys l H'=>∃cs ps,Sv Ae Aa H H' pl d [l] cs i/\ys=ps.map (λp=>V.ref p.1)/\Gv H' ps/\(∀p∈ps,Nu (bm cs) 0 p.2)/\H' ra=some (.lst (ms.map V.int))/\ps.length=i/\Nw H l/\l≠ra) (by rw[aa,bL];decide) (λi ys l H' _=>Qq) (λl nl=>?_) (λi x ys l H' R hx nl hl ly ⟨cs,ps,sb,ey,tp,hp,hr',lp,nlH,nlr⟩ hR=>?_) λl H3 ys nl hl ly ⟨cs,ps,sb3,ey,tp3,hp3,hr3,lp,nlH,nlr⟩=>?_
 ·have sl:=Ai nl (.lst []);exact⟨[],[],sb2.add nl,rfl,(λ_ h=>nomatch h),(λ_ h=>nomatch h),sl.get hra,rfl,sb2.kt.nw nl,λw=>by rw[w,hra] at nl;cases nl⟩
 ·have hi:i<4:=by have:=(aw.mp hx).1;rw[aa,bL] at this;exact this
  rw[aB,eM (show i<(4:Int).toNat from hi)] at hx;cases hx;refine⟨_,rfl,_,rfl,_,rfl,_,rfl,_,_,rfl,rfl,.inl ⟨by decide,by decide⟩,ra,ms,_,rfl,hr',by omega,by omega,bms,λz H4 s4 l1 lz hz=>⟨GR,λt nt=>?_⟩⟩;have s5:=Ai nt (.tup [.int 0,.str z]);have s45:=s4.trans s5;refine⟨_,rfl,ra,_,_,_,rfl,rfl,AB.of (s45.get hr'),A 12 (by decide) (by decide),_,_,rfl,rfl,(by show(0:Int)<9;decide),_,_,rfl,rfl,LK (Kq (K:=K) (b:=.piece z) (sb.on s45) (by omega) ⟨t,_,rfl,Ac,_,_,rfl,rfl,_,_,rfl,rfl,rfl⟩ (QG l1 lz hz) (λ_ h=>nomatch h) (by have:=DI bms 12;omega) λcs' H6 ta tt sb6 k6 eb hta tok mon=>?_)⟩;have hl6:=k6.lst (s45.get hl);refine hR _ H6 hl6 ⟨cs',ps++[(ta,tt)],IL sb6 ax hl6 nlH,by rw[ey,aj];rfl,λp hp'=>?_,λp hp'=>?_,by rw[Af (Ne.symm nlr)];exact k6.lst (s45.get hr'),by rw[ao,lp];rfl,nlH,nlr⟩
  ·rcases au.mp hp' with h|h
   ·exact KT.lst hl6 _ _ _ (k6.tup _ _ (s45.get (tp p h)))
   ·cases ai.mp h;exact KT.lst hl6 _ _ _ hta
  ·rcases au.mp hp' with h|h
   ·exact(hp p h).mon mon
   ·cases ai.mp h;exact⟨tok,z,eb,lz⟩
 subst ey;have lp:ps.length=4:=lp;have la3:Fy H3 l ps:=⟨hl,tp3⟩
 clear hl tp3 ly
 dsimp only[Az];refine Ax ⟨_,rfl,_,rfl,Fv,λe0 ne0=>⟨Iv,λt0 nt0=>?_⟩⟩;have s4:=Ai ne0 (.tup []);have s5:=Ai nt0 (.tup [.int 1,.int 1,.ref e0]);have s45:=s4.trans s5;have sb5:=sb3.on s45;have la5:=la3.same s45;have hr5:=s45.get hr3;have rep5:Rep NL (upd (upd H3 e0 (.tup [])) t0 (.tup [.int 1,.int 1,.ref e0])) (Dy (.row 1 [])) (.ref t0):=⟨t0,_,rfl,Ac,_,_,rfl,rfl,_,_,rfl,rfl,_,_,rfl,⟨e0,_,rfl,s5.get Ac,rfl⟩,rfl⟩
 generalize upd (upd H3 e0 (.tup [])) t0 (.tup [.int 1,.int 1,.ref e0])=H5 at s45 sb5 la5 hr5 rep5;refine NT (Kq (K:=K) (b:=.row 1 []) sb5 (by decide) rep5 ⟨⟨by decide,by decide⟩,by decide,(λh=>absurd h (by decide)),λ_ h=>nomatch h⟩ (λ_ h=>nomatch h) (by decide) λcs6 H6 ta6 tt6 sb6 k6 eb6 hta6 tok6 mon6=>⟨Pr,λlr nlr6=>?_⟩);have s7:=Ai nlr6 (.lst [.ref ta6]);have sb7:=(sb6.add (us:=[.ref ta6]) nlr6).sub (L':=[lr]) λa ha=>by rw[ai.mp ha];exact ax
 have la7:=(la5.kt k6).same s7;have hr7:=s7.get (k6.lst hr5);have nlrH:=sb6.kt.nw nlr6;have lb7:Fy (upd H6 lr (.lst [.ref ta6])) lr [(ta6,tt6)]:=⟨Ac,λp hp=>by cases ai.mp hp;exact s7.get hta6⟩
 have hp7:∀p∈ps,Nu (bm cs6) 0 p.2:=λp hp=>(hp3 p hp).mon mon6
 have hb7:∀p∈[(ta6,tt6)],Nu (bm cs6) 1 p.2:=λp hp=>by
  cases ai.mp hp;exact⟨tok6,.inr ⟨1,[],eb6,(by decide),λ_ h=>nomatch h⟩⟩
 generalize upd H6 lr (.lst [.ref ta6])=H7 at s7 sb7 la7 hr7 lb7
 clear hp3 hr3 la3 sb3 la5 hr5 rep5 sb5 s45 k6 eb6 hta6 mon6 sb6 nlr6
 dsimp only[Az];refine Br (t:=Iw _ _ _) (λσ' H'=>∃(cs:List Cz) (rs:List (Addr×Tg)) (v7 v8:Option V),σ'=[some (.ref sa),some (.ref pl),some (.ref na),some (.ref d),some (.ref ra),some (.ref l),some (.ref lr),v7,v8,none,none]/\Sv Ae Aa H H' pl d [lr] cs 8/\Fy H' lr rs/\(∀p∈rs,Nu (bm cs) 1 p.2)/\H' ra=some (.lst (ms.map V.int))/\rs.length=4) (λN hN=>?_) ?_
 ·refine⟨3,rfl,by decide,by decide,?_⟩;refine Cj (lo:=0) (λi σ H'=>∃(cs:List Cz) (rs:List (Addr×Tg)) (v7 v8:Option V),σ=[some (.ref sa),some (.ref pl),some (.ref na),some (.ref d),some (.ref ra),some (.ref l),some (.ref lr),v7,v8,none,none]/\Sv Ae Aa H H' pl d [lr] cs (5+i)/\Fy H' l ps/\Fy H' lr rs/\(∀p∈ps,Nu (bm cs) 0 p.2)/\(∀p∈rs,Nu (bm cs) 1 p.2)/\H' ra=some (.lst (ms.map V.int))/\rs.length=1+i) ⟨cs6,[(ta6,tt6)],none,none,rfl,sb7,la7,lb7,hp7,hb7,hr7,rfl⟩ ?_ ?_
  ·rintro i σ H1 hi ⟨cs,rs,v7,v8,rfl,sb,la,lb,hp,hb,hra1,lrs⟩
   have hi:i<3:=hi;obtain⟨y0,y1⟩:=DI bms (16+4*(0+(i:Int))).toNat;refine Ax ⟨_,rfl,_,rfl,_,_,rfl,rfl,.inl ⟨by decide,by decide⟩,_,_,rfl,rfl,ra,_,_,_,rfl,rfl,AB.of hra1,A _ (by omega) (by omega),_,_,rfl,rfl,(by show(0:Int)<3;decide),_,_,rfl,rfl,_,rfl,by omega,by omega,?_⟩;have m0:=bh (ms.getD (16+4*(0+(i:Int))).toNat 0) (show(3:Int)≠0 by decide);have m1:=aV (ms.getD (16+4*(0+(i:Int))).toNat 0) (show(0:Int)<3 by decide);generalize ms.getD (16+4*(0+(i:Int))).toNat 0%3=r at m0 m1;refine Gq (ps:=List.range (1+r).toNat) (λ_=>true) (λ_ y _=>∃p∈ps,y=.ref p.1) (λ_ _ _ _ h _=>h) (λ_ _ _ _ _ _ h _=>h) Gz (by rw[bL];omega) (λj hj H' S s' hS=>hS _ (An.refl _)) (λj hj _ H' S s' hS=>?_) λls H2 ys nls s2 hls ey hys=>?_
   ·have hj:=cC.mp hj;obtain⟨p,hp',hat⟩:=la.at (n:=4) (by omega) (by decide) (ms.getD (13+4*(0+(i:Int))+(0+(j:Int))).toNat 0);exact⟨_,rfl,_,rfl,_,rfl,_,_,rfl,rfl,.inl ⟨by decide,by decide⟩,_,_,rfl,rfl,_,rfl,_,_,rfl,rfl,ra,_,_,_,rfl,rfl,AB.of (s'.get hra1),A _ (by omega) (by omega),_,_,rfl,rfl,(by show(0:Int)<4;decide),l,_,_,_,rfl,rfl,AB.of (s'.get la.1),hat,hS _ _ (An.refl _) ⟨p,hp',rfl⟩⟩
   obtain⟨qs,eq1,eq2,eq3⟩:=NQ hys;have lqs:qs.length<=3:=by
    have:=congrArg List.length ey;rw[aa,eN.mpr λ_ _=>rfl,bL] at this;omega
   rw[eq1] at hls;dsimp only[Az];refine⟨_,rfl,.inl ⟨rfl,_,AB.of (s2.get lb.1)⟩,_,rfl,_,rfl,_,rfl,ls,_,rfl,.inl ⟨AB.of hls,λtt ntt=>⟨Iv,λt nt=>?_⟩⟩⟩;have s3:=Ai ntt (.tup (qs.map λp=>V.ref p.1));have s4:=Ai nt (.tup [.int 1,.int 1,.ref tt]);have s24:=s2.trans (s3.trans s4);have sb4:=sb.on s24;have la4:=la.same s24;have lb4:=lb.same s24;have rep4:Rep NL (upd (upd H2 tt (.tup (qs.map λp=>V.ref p.1))) t (.tup [.int 1,.int 1,.ref tt])) (Dy (.row 1 (qs.map (·.2)))) (.ref t):=⟨t,_,rfl,Ac,_,_,rfl,rfl,_,_,rfl,rfl,_,_,rfl,⟨tt,_,rfl,s4.get Ac,N4 λq hq=>la4.2 q (eq2 q hq)⟩,rfl⟩
   have hr4:=s24.get hra1;generalize upd (upd H2 tt (.tup (qs.map λp=>V.ref p.1))) t (.tup [.int 1,.int 1,.ref tt])=H4 at s24 sb4 la4 lb4 rep4 hr4;refine NT (Kq (K:=K) (b:=.row 1 (qs.map (·.2))) sb4 (by omega) rep4 ⟨⟨by decide,by decide⟩,(by rw[aa];omega),(λh=>absurd h (by decide)),λt ht=>by obtain⟨q',hq',rfl⟩:=ah.mp ht;exact(hp q' (eq2 q' hq')).1⟩ (λt ht=>by obtain⟨q',hq',rfl⟩:=ah.mp ht;exact(hp q' (eq2 q' hq')).2.some) (by decide) λcs5 H5 ta5 tt5 sb5 k5 eb5 hta5 tok5 mon5=>?_);have la5:=la4.kt k5;have lb5:=lb4.kt k5;have nll:l≠lr:=λw=>by
    have e1:=la.1;rw[w,lb.1] at e1;have:=congrArg List.length (HO.lst.inj (aA e1));rw[aa,aa] at this;omega
   have nra5:ra≠lr:=λw=>by
    have e1:=hra1;rw[w,lb.1] at e1;have:=congrArg List.length (HO.lst.inj (aA e1));rw[aa,aa] at this;omega
   refine⟨lr,_,_,rfl,rfl,lb5.1,AO (by rw[aa];omega),cs5,rs++[(ta5,tt5)],_,_,rfl,IL sb5 ax lb5.1 nlrH,⟨by rw[Af nll];exact la5.1,λp hp'=>KT.lst lb5.1 _ _ _ (la5.2 p hp')⟩,lb5.snoc hta5,λp hp'=>(hp p hp').mon mon5,λp hp'=>?_,by rw[Af nra5];exact k5.lst hr4,by rw[ao,lrs];show 1+i+1=_;omega⟩;rcases au.mp hp' with h|h
   ·exact(hb p h).mon mon5
   ·cases ai.mp h;refine⟨tok5,.inr ⟨1,_,eb5,by rw[aa];exact lqs,λt ht=>?_⟩⟩;obtain⟨q',hq',rfl⟩:=ah.mp ht;exact((hp q' (eq2 q' hq')).mon mon5).2
  ·rintro σ H1 ⟨cs,rs,v7,v8,rfl,sb,la,lb,hp,hb,hra1,lrs⟩
   exact hN _ _ ⟨cs,rs,_,_,rfl,sb,lb,hb,hra1,lrs⟩
 clear hp7 hb7 la7 lb7 hr7 sb7
 rintro σ' H1 ⟨cs,rs,v7,v8,rfl,sb,lb,hb,hra1,lrs⟩
 obtain⟨u1,hu1,at1⟩:=lb.at (n:=4) (by omega) (by decide) (ms.getD (25:Int).toNat 0);obtain⟨u2,hu2,at2⟩:=lb.at (n:=4) (by omega) (by decide) (ms.getD (26:Int).toNat 0);refine LO ⟨_,rfl,.inl ⟨rfl,_,AB.of lb.1⟩,_,rfl,_,rfl,_,rfl,_,rfl,ra,_,_,_,rfl,rfl,AB.of hra1,A 25 (by decide) (by decide),_,_,rfl,rfl,(by show(0:Int)<4;decide),lr,_,_,_,rfl,rfl,AB.of lb.1,at1,_,rfl,_,rfl,ra,_,_,_,rfl,rfl,AB.of hra1,A 26 (by decide) (by decide),_,_,rfl,rfl,(by show(0:Int)<4;decide),lr,_,_,_,rfl,rfl,AB.of lb.1,at2,GR,λtt ntt=>⟨Iv,λt nt=>?_⟩⟩;have s3:=Ai ntt (.tup [.ref u1.1,.ref u2.1]);have s4:=Ai nt (.tup [.int 1,.int 2,.ref tt]);have s24:=s3.trans s4;have sb4:=sb.on s24;have lb4:=lb.same s24;have rep4:Rep NL (upd (upd H1 tt (.tup [.ref u1.1,.ref u2.1])) t (.tup [.int 1,.int 2,.ref tt])) (Dy (.row 2 [u1.2,u2.2])) (.ref t):=⟨t,_,rfl,Ac,_,_,rfl,rfl,_,_,rfl,rfl,_,_,rfl,⟨tt,_,rfl,s4.get Ac,_,_,rfl,HA (lb4.2 u1 hu1),_,_,rfl,HA (lb4.2 u2 hu2),rfl⟩,rfl⟩
 generalize upd (upd H1 tt (.tup [.ref u1.1,.ref u2.1])) t (.tup [.int 1,.int 2,.ref tt])=H4 at s24 sb4 lb4 rep4;refine NT (Kq (K:=K) (b:=.row 2 [u1.2,u2.2]) sb4 (by omega) rep4 ⟨⟨by decide,by decide⟩,(by show 2<=8;decide),(λ_ h=>nomatch h),λt ht=>by
  rcases aL.mp ht with rfl|ht
  ·exact(hb u1 hu1).1
  ·rw[ai.mp ht];exact(hb u2 hu2).1⟩ (λt ht=>by
  rcases aL.mp ht with rfl|ht
  ·exact(hb u1 hu1).2.some
  ·rw[ai.mp ht];exact(hb u2 hu2).2.some) (by decide) λcs5 H5 ta5 tt5 sb5 k5 eb5 hta5 tok5 mon5=>?_)
 have lb5:=lb4.kt k5;refine⟨lr,_,_,rfl,rfl,lb5.1,AO (by rw[aa];omega),?_⟩;have sb6:=IL (us':=rs.map (λp=>V.ref p.1)++[.ref ta5]) sb5 ax lb5.1 nlrH;have lb6:=lb5.snoc hta5;have hb6:∀p∈rs++[(ta5,tt5)],Nu (bm cs5) 2 p.2:=λp hp'=>by
  rcases au.mp hp' with h|h
  ·exact((hb p h).mon mon5).up
  ·cases ai.mp h;refine⟨tok5,.inr ⟨2,_,eb5,(by show 2<=3;decide),λt ht=>?_⟩⟩;rcases aL.mp ht with rfl|ht
   ·exact((hb u1 hu1).mon mon5).2
   ·rw[ai.mp ht];exact((hb u2 hu2).mon mon5).2
 have lrs6:(rs++[(ta5,tt5)]).length=5:=by rw[ao,lrs];rfl
 generalize upd H5 lr (.lst (rs.map (λp=>V.ref p.1)++[.ref ta5]))=H6 at sb6 lb6;generalize rs++[(ta5,tt5)]=rs6 at lb6 hb6 lrs6
 clear sb lb hb hra1 lb4 rep4 sb4 s24 k5 eb5 hta5 mon5 sb5 lb5 at1 at2
 refine Ax ⟨_,rfl,_,rfl,Fv,λe0 ne0=>⟨GR,λt0 nt0=>?_⟩⟩;have s7:=Ai ne0 (.tup []);have s8:=Ai nt0 (.tup [.int 2,.ref e0]);have s78:=s7.trans s8;have sb8:=sb6.on s78;have lb8:=lb6.same s78;have rep8:Rep NL (upd (upd H6 e0 (.tup [])) t0 (.tup [.int 2,.ref e0])) (Dy (.folder [])) (.ref t0):=⟨t0,_,rfl,Ac,_,_,rfl,rfl,_,_,rfl,⟨e0,_,rfl,s8.get Ac,rfl⟩,rfl⟩
 generalize upd (upd H6 e0 (.tup [])) t0 (.tup [.int 2,.ref e0])=H8 at s78 sb8 lb8 rep8;refine NT (Kq (K:=K) (b:=.folder []) sb8 (by omega) rep8 ⟨by decide,(λ_ h=>nomatch h),rfl,bS⟩ (λ_ h=>nomatch h) (by decide) λcs9 H9 ta9 tt9 sb9 k9 eb9 hta9 tok9 mon9=>⟨Pr,λlg nlg9=>?_⟩);have s10:=Ai nlg9 (.lst [.ref ta9]);have sb10:=(sb9.add (us:=[.ref ta9]) nlg9).sub (L':=[lg]) λa ha=>by rw[ai.mp ha];exact ax
 have lb10:=(lb8.kt k9).same s10;have nlgH:=sb9.kt.nw nlg9;have nlg:lg≠lr:=λw=>by rw[w,(lb8.kt k9).1] at nlg9;cases nlg9
 have lg10:Fy (upd H9 lg (.lst [.ref ta9])) lg [(ta9,tt9)]:=⟨Ac,λp hp=>by cases ai.mp hp;exact s10.get hta9⟩
 generalize upd H9 lg (.lst [.ref ta9])=H10 at s10 sb10 lb10 lg10;dsimp only[Az];refine Ax ⟨_,rfl,sa,ns,2,rfl,by decide,sb10.kt.seq hsa,λc2=>⟨c2,40,rfl,by decide,by decide,λrb H11 mt s11 nrb hrb lmt bmt=>?_⟩⟩;have lmt:mt.length=40:=lmt;have A2:∀k:Int,0<=k->k<40->Ih (mt.map V.int) k=some (.int (mt.getD k.toNat 0)):=λk h0 h1=>C3 h0 (by omega)
 have sb11:=sb10.on s11;have lb11:=lb10.same s11;have lg11:=lg10.same s11;have hb11:∀p∈rs6,Nu (bm cs9) 2 p.2:=λp hp=>(hb6 p hp).mon mon9
 have hg11:∀p∈[(ta9,tt9)],Rn (bm cs9) (·∈zs) 1 p.2:=λp hp=>by
  cases ai.mp hp;exact⟨tok9,[],eb9,by decide,bS,λ_ h=>nomatch h⟩
 have nrg:rb≠lg:=λw=>by rw[w,lg10.1] at nrb;cases nrb
 clear lb10 lg10 sb10 lb8 rep8 sb8 s78 k9 hta9 mon9 sb9 nlg9 hb6 lb6 sb6
 dsimp only[Az];refine Br (t:=Iw _ _ _) (λσ' H'=>∃(cs:List Cz) (gs:List (Addr×Tg)) (v7:Option V),σ'=[some (.ref sa),some (.ref pl),some (.ref na),some (.ref d),some (.ref ra),some (.ref l),some (.ref lr),v7,v8,some (.ref lg),some (.ref rb)]/\Sv Ae Aa H H' pl d [lg] cs 15/\Fy H' lg gs/\(∀p∈gs,Rn (bm cs) (·∈zs) 6 p.2)/\(∃p∈gs,bm cs p.2.1=some (.folder []))/\gs.length<=6) (λN hN=>?_) ?_
 ·refine⟨5,rfl,by decide,by decide,?_⟩;refine Cj (lo:=0) (λi σ H'=>∃(cs:List Cz) (gs:List (Addr×Tg)) (v7:Option V),σ=[some (.ref sa),some (.ref pl),some (.ref na),some (.ref d),some (.ref ra),some (.ref l),some (.ref lr),v7,v8,some (.ref lg),some (.ref rb)]/\Sv Ae Aa H H' pl d [lg] cs (10+i)/\Fy H' lr rs6/\Fy H' lg gs/\(∀p∈rs6,Nu (bm cs) 2 p.2)/\(∀p∈gs,Rn (bm cs) (·∈zs) (1+i) p.2)/\H' rb=some (.lst (mt.map V.int))/\gs.length=1+i/\∃p∈gs,bm cs p.2.1=some (.folder [])) ⟨cs9,[(ta9,tt9)],_,rfl,sb11,lb11,lg11,hb11,hg11,hrb,rfl,_,ax,eb9⟩ ?_ ?_
  ·rintro i σ H1 hi ⟨cs,gs,v7,rfl,sb,lb,lg,hb,hg,hrb1,lgs,pe,hpe,epe⟩
   have hi:i<5:=hi;refine⟨_,rfl,.inl ⟨rfl,_,AB.of lg.1⟩,_,rfl,_,rfl,_,rfl,_,rfl,_,_,rfl,rfl,.inl ⟨by decide,by decide⟩,_,rfl,_,rfl,_,rfl,?_⟩;refine⟨rb,na,lr,_,mt,_,zs,rs6,gs,rfl,hrb1,by omega,by omega,bmt,sb.kt.seq hna,zn,lz,lb.1,lg.1,lb.2,lg.2,(λe=>by rw[e] at lrs6;cases lrs6),by omega,by omega,λv es H2 s2 hv l3 he nde sso=>?_⟩;refine⟨_,rfl,_,rfl,_,_,rfl,rfl,.inl ⟨by decide,by decide⟩,_,_,rfl,rfl,rb,_,_,_,rfl,rfl,AB.of (s2.get hrb1),A2 _ (by omega) (by omega),_,_,rfl,rfl,(by show(0:Int)<5;decide),_,_,rfl,rfl,LK (Kq (K:=K) (b:=.folder es) (sb.on s2) (by omega) hv ⟨by omega,(λe h=>⟨zok _ (he e h).1,by rcases(he e h).2 with⟨k,_⟩|⟨k,_⟩<;>omega,by
    rcases(he e h).2 with⟨_,p,hp',e'⟩|⟨_,p,hp',e'⟩
    ·rw[e'];exact(hb p hp').1
    ·rw[e'];exact(hg p hp').1⟩),sso,nde⟩ (λt ht=>by
    obtain⟨e,h,rfl⟩:=ah.mp ht;rcases(he e h).2 with⟨_,p,hp',e'⟩|⟨_,p,hp',e'⟩
    ·rw[e'];exact(hb p hp').2.some
    ·rw[e'];exact(hg p hp').2.some) (by have:=DI bmt (8*(0+(i:Int))+7).toNat;omega) λcs5 H5 ta5 tt5 sb5 k5 eb5 hta5 tok5 mon5=>?_)⟩
   have lb5:=(lb.same s2).kt k5;have lg5:=(lg.same s2).kt k5;refine⟨_,_,_,rfl,rfl,lg5.1,AO (by rw[aa];omega),cs5,gs++[(ta5,tt5)],_,rfl,IL sb5 ax lg5.1 nlgH,⟨by rw[Af (Ne.symm nlg)];exact lb5.1,λp hp'=>KT.lst lg5.1 _ _ _ (lb5.2 p hp')⟩,lg5.snoc hta5,λp hp'=>(hb p hp').mon mon5,λp hp'=>?_,by rw[Af nrg];exact k5.lst (s2.get hrb1),by rw[ao,lgs];show 1+i+1=_;omega,pe,aJ _ hpe,mon5 _ _ epe⟩;rcases au.mp hp' with h|h
   ·exact((hg p h).mon mon5).up
   ·cases ai.mp h;rw[show 1+(i+1)=(1+i)+1 by omega];refine⟨tok5,es,eb5,l3,nde,λe h=>⟨(he e h).1,(he e h).2.imp (λ⟨k,p,hp',e'⟩=>⟨k,?_⟩) λ⟨k,p,hp',e'⟩=>⟨k,?_⟩⟩⟩
    ·rw[e'];exact((hb p hp').mon mon5).2
    ·rw[e'];exact((hg p hp').mon mon5).2
  ·rintro σ H1 ⟨cs,gs,v7,rfl,sb,lb,lg,hb,hg,hrb1,lgs,pe⟩
   exact hN _ _ ⟨cs,gs,_,rfl,sb,lg,hg,pe,by have:gs.length=1+5:=lgs;omega⟩
 ·rintro σ' H1 ⟨cs,gs,v7,rfl,sb,lg1,hg,pe,lgs⟩
  refine⟨_,rfl,_,rfl,GR,λt nt=>?_⟩;have st:=Ai nt (.tup [.ref d,.ref lg]);exact q t d lg cs gs _ ((sb.on st).sub λ_ h=>nomatch h) Ac (st.get lg1.1) (lg1.2.same st) (λp hp=>(hg p hp).2) pe lgs
end
open M06
section
variable {P:Program}{w:World}{K:W.Frag}{mg:Str->Option Value}{base:Heap}{f Ak Aa Ae:Addr}{XC:Nat->Addr}{fd:FuncData}
abbrev Hx (H:Hp)(q:Addr×Str×Int):Prop:=H q.1=some (.tup [.str q.2.1,.int q.2.2])
def IA (e:HE):Prop:=(e.kd=1/\∃z,e.og=.inr z)\/(e.kd=2/\∃i,e.og=.inl i)
def Mv (e:HE):Int:=match e.og with
 | .inl i=>i
 | .inr _=>0
theorem Pe {e:HE}(h:IA e)(k:e.kd=2):kV e.og=.int (Mv e):=by
 rcases h with⟨k',_⟩|⟨_,i,ei⟩
 ·omega
 ·unfold Mv;rw[ei];rfl
theorem VU {k:Int}(h:decide (V.int k=V.int 2)=true):k=2:=V.int.inj (aQ h)
def El (K:W.Frag):Sp:=λvs H Q _=>∃(l:Addr) (ps:List (Addr×HE)) (p:Addr×HE) (n:Int),vs=[.ref l,.ref p.1,.int n]/\H l=some (.lst (ps.map λp=>V.ref p.1))/\(∀p∈ps,GO H p/\IA p.2)/\ps.length<=50/\GO H p/\p.2.kd=1/\IA p.2/\0<=n/\
 ∀(a:Addr) (z:Str) H',An H H'->GO H' (a,⟨p.2.nm,p.2.kd,p.2.ow,.inr z,p.2.tg⟩)->Q (.ref a) H'
theorem JL (T:Txt K mg Ak Aa Ae XC)(F:Fun K "_law_grown" "_law_grown" Ce f fd):FnOk P w K mg base CZ 1 f fd ["_law_entries_here","_law_stem","_law_number"] (El K):=by
 exists Do
 ·obtain⟨l,ps,p,n,rfl,_⟩:=h;rfl
 obtain⟨l,ps,p,n,rfl,hl,hps,few,hp,k1,og,n0,q⟩:=h;have hu:=BP hr;have hu9:=C1 hr;refine⟨_,(!Ag (@Fo _ ["_law_entry","_law_stem"] [none,some 1] (3) _ _ _ _ _ _ _ _ _ _ _ _ _ _ Do.nd rfl (by trivial) rfl (!C0 (pv 0)) (by rfl) rfl (by repeat (first|exact trivial|refine⟨rfl,?_⟩)) (by repeat (first|exact trivial|refine⟨λh=>(by first|exact⟨_,rfl⟩|cases h),?_⟩)) (λC s H fp=>⟨(@Aq _ _ (0) _ (show(["_law_entry","_law_stem"]:List Str).Nodup by decide +kernel) rfl (by trivial) (by trivial)),(!B2 (@PW.pt _ _ _ (!FI (!AC B9 (!Am (AJ (K:=K) (by rfl)) (pv 0) (!Ad) (λ_ _=>rfl)) (!Ad) (AL _)) (!EX (!AC B9 (!Am (AJ (K:=K) (by rfl)) (pv 0) (!Ad) (λ_ _=>rfl)) (!Am (AJ (K:=K) (by rfl)) (pv 1) (!Ad) (λ_ _=>rfl)) (AL _)))))),(!Am (AJ (K:=K) (by rfl)) (pv 0) (!Ad) (λ_ _=>rfl))⟩) (by intro _;rfl) (by rfl) (by trivial)) (!Ag (@Au _ _ (4) _ _ _ _ Do.nd rfl (by trivial) (!AA (Pa (K:=K) (by rfl) rfl) (by rfl) T.b_min Uc (!Ab (!Ao G2 (pv 3) (!A5 (!Ab (!Ao My (!Ad) (!Ad)) (!Ah)))) (!Ah))) (by rfl) (by trivial)) (!Ag (@Fo _ ["_law_entry","_law_least","_law_stem"] [none,some 4,some 1] (5) _ _ _ _ _ _ _ _ _ _ _ _ _ _ Do.nd rfl (by trivial) rfl (!C0 (pv 0)) (by rfl) rfl (by repeat (first|exact trivial|refine⟨rfl,?_⟩)) (by repeat (first|exact trivial|refine⟨λh=>(by first|exact⟨_,rfl⟩|cases h),?_⟩)) (λC s H fp=>⟨(@Aq _ _ (0) _ (show(["_law_entry","_law_least","_law_stem"]:List Str).Nodup by decide +kernel) rfl (by trivial) (by trivial)),(!B2 (@PW.pt _ _ _ (!FI (!AC B9 (!Am (AJ (K:=K) (by rfl)) (pv 0) (!Ad) (λ_ _=>rfl)) (!Ad) (AL _)) (!FI (!AC UC (!Am (AJ (K:=K) (by rfl)) (pv 0) (!Ad) (λ_ _=>rfl)) (!Am (AJ (K:=K) (by rfl)) (pv 2) (!Ad) (λ_ _=>rfl)) (AL _)) (!EX (!AC PN (!Am (AJ (K:=K) (by rfl)) (pv 0) (!Ad) (λ_ _=>rfl)) (pv 1) (AL _))))))),(!Am (AJ (K:=K) (by rfl)) (pv 0) (!Ad) (λ_ _=>rfl))⟩) (by intro _;rfl) (by rfl) (by trivial)) (!Ag (!BQ (@PW.pt _ _ _ (!L8 (!AC QD (!Ao AN (pv 2) (!Ad)) (!Ad) (AL _)) (!Jx (!AC (QR hu) (pv 5) (!A5 (!Ah)) (AL _))))) (!Al (!Av (pv 1))) (!AX)) (!Al (!Av (!Ao Qm (!FH QZ (pv 1) (!Hk) (!GW (!Ad))) (!Bq (!Ab (!Am Aw (pv 5) (!Ao AN (!Ao K5 (pv 2) (!Ad)) (!AA AQ (by rfl) T.b_len Cy (!Ab (pv 5) (!Ah)))) (λ_ _=>rfl)) (!Ab (!Am Ay (pv 1) (!Ad) (λ_ _=>rfl)) (!Ah))))))))))),?_⟩
 try dsimp only[Bw,Cx.nox,Cx.wish]
 obtain⟨tp,hp1,hp2⟩:=hp;have at5:∀(x:Addr×HE),x∈ps->∃ta,H x.1=some (.tup [.str x.2.nm,.int x.2.kd,.str x.2.ow,kV x.2.og,.ref ta]):=λx hx=>let⟨ta,h,_⟩:=(hps x hx).1;⟨ta,h⟩
 refine Ax ⟨_,rfl,l,rfl,⟨_,AB.of hl⟩,BW (ps:=ps) (λx=>decide (V.int x.2.kd=V.int 2)&&decide (V.str x.2.ow=V.str p.2.nm)) (λx=>.int (Mv x.2)) (ED (AB.of hl)) (by omega) (λx hx H' R s' hR=>?_) (λx hx px H' R s' hR=>?_) λlo H1 nlo s1 hlo=>?_⟩
 ·obtain⟨ta,h⟩:=at5 x hx;refine FR _ _ (λR q=>⟨_,rfl,x.1,_,_,_,rfl,rfl,AG.of (s'.get h),Ap (j:=1) rfl,rfl,_,rfl,q⟩) (λ_ R q=>⟨_,rfl,x.1,_,_,_,rfl,rfl,AG.of (s'.get h),Ap (j:=2) rfl,_,rfl,p.1,_,_,_,rfl,rfl,AG.of (s'.get hp1),Ap (j:=0) rfl,rfl,_,rfl,q⟩) hR
 ·obtain⟨ta,h⟩:=at5 x hx;have e:=Pe (hps x hx).2 (VU (Bool.and_eq_true_iff.mp px).1);have:=hR H' (An.refl _);rw[<-e] at this;exact⟨_,rfl,x.1,_,_,_,rfl,rfl,AG.of (s'.get h),Ap (j:=3) rfl,this⟩
 have lfil:∀g:Addr×HE->Bool,(ps.filter g).length<=50:=λg=>bq (bE g ps) few
 have hlo':H1 lo=some (.lst (((ps.filter λx=>decide (V.int x.2.kd=V.int 2)&&decide (V.str x.2.ow=V.str p.2.nm)).map λx=>Mv x.2).map V.int)):=by rw[hlo,ar];rfl
 have lo50:=lfil λx=>decide (V.int x.2.kd=V.int 2)&&decide (V.str x.2.ow=V.str p.2.nm)
 dsimp only[Az];generalize (ps.filter λx=>decide (V.int x.2.kd=V.int 2)&&decide (V.str x.2.ow=V.str p.2.nm))=os at hlo' lo50;refine Ax ⟨_,rfl,_,_,rfl,rfl,⟨by decide,by decide,by decide⟩,Pr,λl1 nl1=>?_⟩;have s2:=Ai nl1 (.lst [.int (10^(9:Int).toNat)]);refine⟨lo,l1,_,_,rfl,rfl,AB.of (s2.get hlo'),AB.of Ac,small (by rw[aa,aa];show _+1<=_;omega),λl2 nl2=>?_⟩;have s3:=Ai nl2 (.lst ((os.map λx=>Mv x.2).map V.int++[.int (10^(9:Int).toNat)]));refine⟨l2,(os.map λx=>Mv x.2)++[10^(9:Int).toNat],rfl,AB.of (by rw[Ac,aj];rfl),(by simp),λm _ _=>?_⟩;have s13:=s1.trans (s2.trans s3);generalize upd (upd H1 l1 (.lst [.int (10^(9:Int).toNat)])) l2 (.lst ((os.map λx=>Mv x.2).map V.int++[.int (10^(9:Int).toNat)]))=H3 at s13;dsimp only[Az];refine Ax ⟨_,rfl,l,rfl,⟨_,AB.of (s13.get hl)⟩,BW (ps:=ps) (λx=>decide (V.int x.2.kd=V.int 2)&&(!decide (V.str x.2.ow=V.str p.2.nm)&&decide (Mv x.2<m))) (λx=>.str x.2.nm) (ED (AB.of (s13.get hl))) (by omega) (λx hx H' R s' hR=>?_) (λx hx px H' R s' hR=>?_) λls H4 nls s4 hls=>?_⟩
 ·obtain⟨ta,h⟩:=at5 x hx;have h':=s'.get (s13.get h);refine FR _ _ (λR q=>⟨_,rfl,x.1,_,_,_,rfl,rfl,AG.of h',Ap (j:=1) rfl,rfl,_,rfl,q⟩) (λc R q=>FR _ _ (λR q=>⟨_,rfl,x.1,_,_,_,rfl,rfl,AG.of h',Ap (j:=2) rfl,_,rfl,p.1,_,_,_,rfl,rfl,AG.of (s'.get (s13.get hp1)),Ap (j:=0) rfl,rfl,_,rfl,q⟩) (λ_ R q=>?_) q) hR;have e:=Pe (hps x hx).2 (VU c);rw[e] at h';exact⟨_,rfl,x.1,_,_,_,rfl,rfl,AG.of h',Ap (j:=3) rfl,_,rfl,_,_,rfl,rfl,_,rfl,q⟩
 ·obtain⟨ta,h⟩:=at5 x hx;exact⟨_,rfl,x.1,_,_,_,rfl,rfl,AG.of (s'.get (s13.get h)),Ap (j:=0) rfl,hR H' (An.refl _)⟩
 have ls50:=lfil λx=>decide (V.int x.2.kd=V.int 2)&&(!decide (V.str x.2.ow=V.str p.2.nm)&&decide (Mv x.2<m))
 dsimp only[Az];generalize (ps.filter λx=>decide (V.int x.2.kd=V.int 2)&&(!decide (V.str x.2.ow=V.str p.2.nm)&&decide (Mv x.2<m)))=ss at hls ls50;have s14:=s13.trans s4;have same:∀H',An H H'->Q (.ref p.1) H':=λH' s'=>by
  obtain⟨z,ez⟩:∃z,p.2.og=.inr z:=by
   rcases og with⟨_,z⟩|⟨k,_⟩
   ·exact z
   ·omega
  exact q p.1 z H' s' ⟨tp,by rw[<-ez];exact s'.get hp1,s'.get hp2⟩
 refine⟨_,rfl,_,_,rfl,rfl,(by show(0:Int)<3;decide),_,_,rfl,rfl,_,rfl,D0 (λc=>Ft rfl ⟨_,rfl,same _ s14⟩) (λc=>?_)⟩;refine⟨_,rfl,Fv,λle nle=>?_⟩;have s5:=Ai nle (.lst []);refine⟨ls,le,_,rfl,rfl,AB.of (s5.get hls),AB.of Ac,_,rfl,D0 (λc=>⟨_,rfl,same _ (s14.trans s5)⟩) (λc=>?_)⟩;have ne:0<ss.length:=bX.mpr λe=>c (by rw[e];rfl)
 have s15:=s14.trans s5;obtain⟨v,hv,hat⟩:=HL (xs:=ss.map λx=>V.str x.2.nm) (n:=(ss.length:Int)) (by rw[aa]) (by omega) (n/3);obtain⟨x,_,rfl⟩:=ah.mp hv;dsimp only[Kd];refine⟨_,rfl,_,rfl,p.1,_,rfl,AG.of (s15.get hp1),(by show ¬(HT.Ct 5 0 none=0/\HT.Ct 5 5 (some 3)=5);decide),λt1 nt1=>?_⟩;have s6:=Ai nt1 (.tup [.str p.2.nm,.int p.2.kd,.str p.2.ow]);refine⟨_,rfl,_,rfl,_,_,rfl,rfl,⟨by decide,by decide⟩,_,rfl,ls,_,rfl,.inl (AB.of (s6.get (s5.get hls))),_,_,rfl,rfl,(by rw[aa];show(0:Int)<(ss.length:Int);omega),ls,_,_,_,rfl,rfl,AB.of (s6.get (s5.get hls)),(by rw[aa];exact hat),_,rfl,p.1,_,_,_,rfl,rfl,AG.of (s6.get (s15.get hp1)),Ap (j:=4) rfl,GR,λt2 nt2=>?_⟩;have s7:=Ai nt2 (.tup [.str x.2.nm,.ref tp]);refine⟨t1,t2,_,_,rfl,rfl,AG.of (s7.get Ac),AG.of Ac,Ua,(λe=>nomatch e),(λ_ e=>nomatch e),λ_ _ t3 nt3=>?_⟩;have s8:=Ai nt3 (.tup [.str p.2.nm,.int p.2.kd,.str p.2.ow,.str x.2.nm,.ref tp]);have s18:=s15.trans (s6.trans (s7.trans s8));exact q t3 x.2.nm _ s18 ⟨tp,Ac,s18.get hp2⟩
def Jb (es:List HE):List Int:=(es.filter λe=>decide (e.kd=2)).map Mv
def OB (e:HE):Int×Int:=(e.kd,if e.kd=2 then Mv e else 0)
theorem Q4:∀es:List HE,Jb es=((es.map OB).filter λp=>decide (p.1=2)).map (·.2)
 |[]=>rfl
 |e::es=>by
  have ih:=Q4 es;unfold Jb at ih ⊢;rw[aq,cP,cP]
  by_cases k:e.kd=2
  ·rw[aE (aI k),aE (show decide ((OB e).1=2)=true from aI k),aq,aq,ih];unfold OB;rw[aE k]
  ·rw[aH (λz=>k (aQ z)),aH (show ¬decide ((OB e).1=2)=true from λz=>k (aQ z)),ih]
theorem N1 (a b:List HE):Jb (a++b)=Jb a++Jb b:=by unfold Jb;rw[cU,aj]
def Fh (K:W.Frag):Sp:=λvs H Q _=>∃(sa na fo:Addr) (ns:List Int) (zs:List Str) (gs:List (Addr×Tg)),vs=[.ref sa,.ref na,.ref fo]/\AB K H sa (ns.map V.int)/\AB K H na (zs.map V.str)/\zs.length=18/\zs.Nodup/\Fy H fo gs/\gs≠[]/\gs.length<=50/\
 ∀h ag ka ea (ks:List (Addr×Str×Int)) (ps:List (Addr×HE)) H',An H H'->H' h=some (.tup [.int ag,.ref ka,.ref ea])->H' ka=some (.tup (ks.map λp=>V.ref p.1))->(∀k∈ks,Hx H' k)->(ks.map (·.2.1)).Nodup->ks.length<=8->H' ea=some (.tup (ps.map λp=>V.ref p.1))->(∀p∈ps,GO H' p/\IA p.2/\p.2.nm∈zs/\∃g∈gs,p.2.tg=g.2)->(ps.map (·.2.nm)).Nodup->ps.length<=12->(Jb (ps.map (·.2))).Nodup->Q (.ref h) H'
theorem KU (T:Txt K mg Ak Aa Ae XC)(F:Fun K "_law_head" "_law_head" CV f fd)(BC:Def P w K mg base 1 "_law_row" ["_law_cell","_law_many"] (Dt K))(AW:Def P w K mg base 1 "_law_cell_at" ["_law_script","_law_k"] (BR K))(Fc:Def P w K mg base 1 "_law_grown" ["_law_entries_here","_law_stem","_law_number"] (El K)):FnOk P w K mg base CZ 2 f fd ["_law_script","_law_names_here","_law_folders"] (Fh K):=by
 exists AR
 ·obtain⟨sa,na,fo,ns,zs,gs,rfl,_⟩:=h;rfl
 obtain⟨sa,na,fo,ns,zs,gs,rfl,hsa,hna,lz,ndz,hfo,gn,lg,q⟩:=h;have hu:=BP hr;have hu9:=C1 hr;refine⟨_,(!Ag (@Au _ _ (3) _ _ _ _ AR.nd rfl (by trivial) (!AU BC (by trivial) rfl (!Ab (!AU AW (by trivial) rfl (!Ab (pv 0) (!Ab (!Ad) (!Ah)))) (!Ab (!Ad) (!Ah)))) (by rfl) (by trivial)) (!Ag (@Au _ _ (4) _ _ _ _ AR.nd rfl (by trivial) (!A5 (!Ah)) (by rfl) (by trivial)) (!Ag (!BJ aW rfl (!Bg rfl T.b_range (!Ab (!Ao AF (!Ad) (!Ao AN (!Am Aw (pv 3) (!Ad) (λ_ _=>rfl)) (!Ad))) (!Ah))) (@Aq _ _ (5) _ AR.nd rfl (by trivial) (by trivial)) (!Ag (@Au _ _ (6) _ _ _ _ AR.nd rfl (by trivial) (!Am Aw (!A5 (!Ab (!Am Aw (pv 3) (!Ao AF (!Ad) (pv 5)) (λ_ _=>rfl)) (!Ab (!Ao AF (!Ao BI (!Ad) (!Am Aw (pv 3) (!Ao AF (!Ad) (pv 5)) (λ_ _=>rfl))) (!Am Aw (pv 3) (!Ad) (λ_ _=>rfl))) (!Ab (!Ao Tb (!Ao My (!Ad) (!Ad)) (!Ad)) (!Ah))))) (!Ao AN (!Am Aw (pv 3) (!Ao AF (!Ad) (pv 5)) (λ_ _=>rfl)) (!Ad)) (λ_ _=>rfl)) (by rfl) (by trivial)) (!Al (!Bc (!CA aK bg bf Bo (pv 4) (!Ab (!Bq (!Ab (!Am Aw (pv 1) (!Ao AF (!Ad) (pv 5)) (λ_ _=>rfl)) (!Ab (pv 6) (!Ah)))) (!Ah)))))) (by intro _;rfl)) (!Ag (@Au _ _ (7) _ _ _ _ AR.nd rfl (by trivial) (!A5 (!Ah)) (by rfl) (by trivial)) (!Ag (!BJ aW rfl (!Bg rfl T.b_range (!Ab (!Ao AN (!Am Aw (pv 3) (!Ad) (λ_ _=>rfl)) (!Ad)) (!Ah))) (@Aq _ _ (5) _ AR.nd rfl (by trivial) (by trivial)) (!Ag (@Au _ _ (8) _ _ _ _ AR.nd rfl (by trivial) (!Am Aw (pv 2) (!Ao AN (!Am Aw (pv 3) (!Ao AF (!Ad) (!Ao BI (!Ad) (pv 5))) (λ_ _=>rfl)) (!AA AQ (by rfl) T.b_len Cy (!Ab (pv 2) (!Ah)))) (λ_ _=>rfl)) (by rfl) (by trivial)) (!Ag (@Au _ _ (9) _ _ _ _ AR.nd rfl (by trivial) (!Am Aw (!A5 (!Ab (!Am Aw (pv 3) (!Ao AF (!Ad) (!Ao BI (!Ad) (pv 5))) (λ_ _=>rfl)) (!Ab (pv 5) (!Ah)))) (!Ao AN (!Am Aw (pv 3) (!Ad) (λ_ _=>rfl)) (!Ad)) (λ_ _=>rfl)) (by rfl) (by trivial)) (!Al (!Bc (!CA aK bg bf Bo (pv 7) (!Ab (!Bq (!Ab (!Am Aw (pv 1) (pv 5) (λ_ _=>rfl)) (!Ab (!Ad) (!Ab (!Am Ay (!Am Aw (pv 4) (!Ao AN (pv 9) (!AA AQ (by rfl) T.b_len Cy (!Ab (pv 4) (!Ah)))) (λ_ _=>rfl)) (!Ad) (λ_ _=>rfl)) (!Ab (!GN) (!Ab (pv 8) (!Ah))))))) (!Ah))))))) (by intro _;rfl)) (!Ag (!BJ aW rfl (!Bg rfl T.b_range (!Ab (!Ao BI (!Ao AN (!Am Aw (pv 3) (!Ad) (λ_ _=>rfl)) (!Ad)) (!Bb J9 (by rfl) T.b_int Nr (!Ab (!Gp (Nx hu) (pv 7) (!A5 (!Ah)) (AL _)) (!Ah)))) (!Ah))) (@Aq _ _ (5) _ AR.nd rfl (by trivial) (by trivial)) (!Ag (@Au _ _ (8) _ _ _ _ AR.nd rfl (by trivial) (!Am Aw (pv 2) (!Ao AN (!Am Aw (pv 3) (!Ao AF (!Ad) (!Ao BI (!Ad) (pv 5))) (λ_ _=>rfl)) (!AA AQ (by rfl) T.b_len Cy (!Ab (pv 2) (!Ah)))) (λ_ _=>rfl)) (by rfl) (by trivial)) (!Ag (@Au _ _ (10) _ _ _ _ AR.nd rfl (by trivial) (!Am Ay (!Am Aw (pv 7) (!Ao AN (!Am Aw (pv 3) (!Ao AF (!Ad) (!Ao BI (!Ad) (pv 5))) (λ_ _=>rfl)) (!Ao AN (!Am Aw (pv 3) (!Ad) (λ_ _=>rfl)) (!Ad))) (λ_ _=>rfl)) (!Ad) (λ_ _=>rfl)) (by rfl) (by trivial)) (!Al (!Bc (!CA aK bg bf Bo (pv 7) (!Ab (!Bq (!Ab (!Am Aw (pv 1) (!Ao AF (!Ad) (pv 5)) (λ_ _=>rfl)) (!Ab (!Ad) (!Ab (pv 10) (!Ab (!Ao AF (!Ao AF (!Ad) (!Am Aw (pv 3) (!Ad) (λ_ _=>rfl))) (!Ao BI (!Ad) (pv 5))) (!Ab (pv 8) (!Ah))))))) (!Ah))))))) (by intro _;rfl)) (!Ag (!BJ aW rfl (!Bg rfl T.b_range (!Ab (!Ao AN (!Am Aw (pv 3) (!Ad) (λ_ _=>rfl)) (!Ad)) (!Ah))) (@Aq _ _ (5) _ AR.nd rfl (by trivial) (by trivial)) (!Al (!PM (!AU Fc (by trivial) rfl (!Ab (pv 7) (!Ab (!Am Aw (pv 7) (pv 5) (λ_ _=>rfl)) (!Ab (!Am Aw (pv 3) (!Ao AF (!Ad) (pv 5)) (λ_ _=>rfl)) (!Ah))))) (!TM (pv 7) (pv 5) set_list (by intro _;rfl)))) (by intro _;rfl)) (!Al (!Av (!Bq (!Ab (!Am Aw (pv 3) (!Ad) (λ_ _=>rfl)) (!Ab (!Bb Dn (by rfl) T.b_tuple G9 (!Ab (!AA (Io (K:=K) (by rfl)) (by rfl) T.b_sorted CY (!Ab (pv 4) (!Ah))) (!Ah))) (!Ab (!Bb Dn (by rfl) T.b_tuple G9 (!Ab (!AA (Io (K:=K) (by rfl)) (by rfl) T.b_sorted CY (!Ab (pv 7) (!Ah))) (!Ah))) (!Ah)))))))))))))),?_⟩
 try dsimp only[Bw,Cx.nox,Cx.wish]
 have Z:∀k:Int,0<=k->k<18->∃z,zs[k.toNat]?=some z/\Ih (zs.map V.str) k=some (.str z):=λk h0 h1=>by
  have hk:k.toNat<zs.length:=by omega
  refine⟨zs[k.toNat],ae hk,?_⟩;have:=Ap (xs:=zs.map V.str) (j:=k.toNat) (v:=.str zs[k.toNat]) (by rw[aB,ae hk];rfl)
  rwa [show((k.toNat:Nat):Int)=k by omega] at this
 refine Ax ⟨_,rfl,sa,ns,3,rfl,by decide,hsa,λc1=>⟨c1,60,rfl,by decide,by decide,λra H1 ms s1 nra hra lms bms=>?_⟩⟩;have lms:ms.length=60:=lms;have A:∀k:Int,0<=k->k<60->Ih (ms.map V.int) k=some (.int (ms.getD k.toNat 0)):=λk h0 h1=>C3 h0 (by omega)
 dsimp only[Az];refine Ax ⟨Fv,λlk nlk=>?_⟩;have s2:=Ai nlk (.lst []);have hlk2:(upd H1 lk (.lst [])) lk=some (.lst []):=Ac;generalize upd H1 lk (.lst [])=H2 at s2 hlk2;have s12:=s1.trans s2;have nlkH:=s1.free nlk;have nrk:ra≠lk:=λw=>by rw[w] at hra;rw[hra] at nlk;cases nlk
 dsimp only[Az];obtain⟨x0,x1⟩:=DI bms (0:Int).toNat;refine Br (t:=Iw _ _ _) (λσ' H'=>∃(ks:List (Addr×Str×Int)) (v5 v6:Option V),σ'=[some (.ref sa),some (.ref na),some (.ref fo),some (.ref ra),some (.ref lk),v5,v6,none,none,none,none]/\An H H'/\H' ra=some (.lst (ms.map V.int))/\H' lk=some (.lst (ks.map λp=>V.ref p.1))/\(∀k∈ks,Hx H' k)/\(ks.map (·.2.1)).Nodup/\ks.length<=8/\ks≠[]) (λN hN=>?_) ?_
 ·refine⟨_,rfl,ra,_,_,_,rfl,rfl,AB.of (s2.get hra),A 0 (by decide) (by decide),_,_,rfl,rfl,(by show(0:Int)<8;decide),_,_,rfl,rfl,_,rfl,by omega,by omega,?_⟩;refine Cj (lo:=0) (λi σ H'=>∃(ks:List (Addr×Str×Int)) (v5 v6:Option V),σ=[some (.ref sa),some (.ref na),some (.ref fo),some (.ref ra),some (.ref lk),v5,v6,none,none,none,none]/\An H H'/\H' ra=some (.lst (ms.map V.int))/\H' lk=some (.lst (ks.map λp=>V.ref p.1))/\(∀k∈ks,Hx H' k)/\ks.map (·.2.1)=(zs.drop 10).take i/\ks.length=i) ⟨[],none,none,rfl,s12,s2.get hra,hlk2,(λ_ h=>nomatch h),rfl,rfl⟩ ?_ ?_
  ·rintro i σ H3 hi ⟨ks,v5,v6,rfl,s3,hra3,hlk3,hks,eks,lks⟩
   have i8:i<8:=by omega
   refine Ax ⟨_,rfl,_,rfl,_,_,rfl,rfl,ra,_,_,_,rfl,rfl,AB.of hra3,A _ (by omega) (by omega),_,rfl,_,rfl,_,_,rfl,rfl,ra,_,_,_,rfl,rfl,AB.of hra3,A _ (by omega) (by omega),_,_,rfl,rfl,.inl ⟨by decide,by decide⟩,_,rfl,ra,_,_,_,rfl,rfl,AB.of hra3,A 5 (by decide) (by decide),_,_,rfl,rfl,_,_,rfl,rfl,⟨by decide,by decide,by decide⟩,_,_,rfl,rfl,Iv,λlb nlb=>?_⟩;obtain⟨v,hv,hat⟩:=HL (xs:=[V.int (ms.getD (44+(0+(i:Int))).toNat 0),V.int (10*ms.getD (44+(0+(i:Int))).toNat 0+ms.getD (5:Int).toNat 0),V.int (10^(9:Int).toNat-1)]) (n:=3) rfl (by decide) (ms.getD (52+(0+(i:Int))).toNat 0);obtain⟨bd,rfl⟩:∃bd:Int,v=.int bd:=by
    rcases aL.mp hv with h|hv
    ·exact⟨_,h⟩
    ·rcases aL.mp hv with h|hv
     ·exact⟨_,h⟩
     ·exact⟨_,ai.mp hv⟩
   have s4:=Ai nlb (.lst [V.int (ms.getD (44+(0+(i:Int))).toNat 0),V.int (10*ms.getD (44+(0+(i:Int))).toNat 0+ms.getD (5:Int).toNat 0),V.int (10^(9:Int).toNat-1)]);refine⟨_,rfl,_,rfl,_,_,rfl,rfl,ra,_,_,_,rfl,rfl,AB.of (s4.get hra3),A _ (by omega) (by omega),_,_,rfl,rfl,(by show(0:Int)<3;decide),lb,_,_,_,rfl,rfl,AB.of Ac,hat,?_⟩;have s34:=s3.trans s4;have hra4:=s4.get hra3;have hlk4:=s4.get hlk3;have hks4:∀k∈ks,Hx _ k:=λk hk=>s4.get (hks k hk)
   dsimp only[Az];generalize upd H3 lb (.lst [V.int (ms.getD (44+(0+(i:Int))).toNat 0),V.int (10*ms.getD (44+(0+(i:Int))).toNat 0+ms.getD (5:Int).toNat 0),V.int (10^(9:Int).toNat-1)])=H4 at s34 hra4 hlk4 hks4;obtain⟨z,hz,haz⟩:=Z (10+(0+(i:Int))) (by omega) (by omega);refine⟨_,rfl,.inl ⟨rfl,_,AB.of hlk4⟩,_,rfl,_,rfl,_,_,rfl,rfl,na,_,_,_,rfl,rfl,s34.seq hna,haz,_,rfl,GR,λt nt=>?_⟩;have s5:=Ai nt (.tup [.str z,.int bd]);have hlk5:=s5.get hlk4;refine⟨lk,_,_,rfl,rfl,hlk5,AO (by rw[aa];omega),ks++[(t,z,bd)],_,_,rfl,AI (s34.trans s5) nlkH _,by rw[Af nrk];exact s5.get hra4,by rw[Ac,aj];rfl,λk hk=>KT.lst hlk5 _ _ _ ?_,?_,by rw[ao,lks];rfl⟩
   ·rcases au.mp hk with h|h
    ·exact s5.get (hks4 k h)
    ·cases ai.mp h;exact Ac
   ·rw[aj,eks,aR,dE,show 10+i=(10+(0+(i:Int))).toNat by omega,hz];rfl
  ·rintro σ H3 ⟨ks,v5,v6,rfl,s3,hra3,hlk3,hks,eks,lks⟩
   refine hN _ _ ⟨ks,_,_,rfl,s3,hra3,hlk3,hks,?_,by omega,λe=>by rw[e] at lks;simp at lks;omega⟩;rw[eks];exact(ndz.sublist (List.drop_sublist _ _)).sublist (cI _ _)
 rintro σ' H3 ⟨ks,v5,v6,rfl,s3,hra3,hlk3,hks3,ndk,lks,kn⟩
 refine Ax ⟨Fv,λle nle=>?_⟩;have s4:=Ai nle (.lst []);have hle4:(upd H3 le (.lst [])) le=some (.lst []):=Ac;have hks4:∀k∈ks,Hx (upd H3 le (.lst [])) k:=λk hk=>s4.get (hks3 k hk)
 have nke:lk≠le:=λw=>by rw[<-w,hlk3] at nle;cases nle
 have nre:ra≠le:=λw=>by rw[<-w,hra3] at nle;cases nle
 generalize upd H3 le (.lst [])=H4 at s4 hle4 hks4;have s14:=s3.trans s4;have hra4:=s4.get hra3;have hlk4:=s4.get hlk3;have nleH:=s3.free nle
 clear hks3 hra3 hlk3
 dsimp only[Az];have pk:0<ks.length:=bX.mpr kn;have pg:0<gs.length:=bX.mpr gn;obtain⟨y0,y1⟩:=DI bms (10:Int).toNat;have m0:=bh (ms.getD (10:Int).toNat 0) (show(9:Int)≠0 by decide);have m1:=aV (ms.getD (10:Int).toNat 0) (show(0:Int)<9 by decide);refine Br (t:=Iw _ _ _) (λσ' H'=>∃(ps:List (Addr×HE)) (v5 v8 v9:Option V),σ'=[some (.ref sa),some (.ref na),some (.ref fo),some (.ref ra),some (.ref lk),v5,v6,some (.ref le),v8,v9,none]/\An H H'/\H' ra=some (.lst (ms.map V.int))/\H' lk=some (.lst (ks.map λp=>V.ref p.1))/\(∀k∈ks,Hx H' k)/\H' le=some (.lst (ps.map λp=>V.ref p.1))/\(∀p∈ps,GO H' p/\IA p.2/\∃g∈gs,p.2.tg=g.2)/\ps.map (·.2.nm)=zs.take (ms.getD (10:Int).toNat 0%9).toNat/\∀p∈ps,p.2.kd=1) (λN hN=>?_) ?_
 ·refine⟨_,rfl,ra,_,_,_,rfl,rfl,AB.of hra4,A 10 (by decide) (by decide),_,_,rfl,rfl,(by show(0:Int)<9;decide),_,rfl,by omega,by omega,?_⟩;refine Cj (lo:=0) (λi σ H'=>∃(ps:List (Addr×HE)) (v5 v8 v9:Option V),σ=[some (.ref sa),some (.ref na),some (.ref fo),some (.ref ra),some (.ref lk),v5,v6,some (.ref le),v8,v9,none]/\An H H'/\H' ra=some (.lst (ms.map V.int))/\H' lk=some (.lst (ks.map λp=>V.ref p.1))/\(∀k∈ks,Hx H' k)/\H' le=some (.lst (ps.map λp=>V.ref p.1))/\(∀p∈ps,GO H' p/\IA p.2/\∃g∈gs,p.2.tg=g.2)/\ps.map (·.2.nm)=zs.take i/\∀p∈ps,p.2.kd=1) ⟨[],_,none,none,rfl,s14,hra4,hlk4,hks4,hle4,(λ_ h=>nomatch h),rfl,(λ_ h=>nomatch h)⟩ ?_ ?_
  ·rintro i σ H5 hi ⟨ps,v5,v8,v9,rfl,s5,hra5,hlk5,hks5,hle5,hps,eps,kps⟩
   have i8:i<8:=by omega
   have lps:ps.length=i:=by have:=congrArg List.length eps;rw[aa,aP] at this;omega
   have fo5:=hfo.same s5;obtain⟨g,hg,hag⟩:=fo5.at (n:=(gs.length:Int)) rfl (by omega) (ms.getD (11+2*(0+(i:Int))).toNat 0);have lgs:(((gs.map λp=>V.ref p.1).length:Nat):Int)=(gs.length:Int):=by rw[aa]
   refine Ax ⟨_,rfl,_,rfl,_,rfl,_,_,rfl,rfl,.inl ⟨by decide,by decide⟩,_,_,rfl,rfl,ra,_,_,_,rfl,rfl,AB.of hra5,A _ (by omega) (by omega),_,rfl,fo,_,rfl,.inl (AB.of fo5.1),_,_,rfl,rfl,(by show(0:Int)<_;rw[lgs];omega),fo,_,_,_,rfl,rfl,AB.of fo5.1,(by rw[lgs];exact hag),?_⟩;dsimp only[Az];refine Ax ⟨_,rfl,_,rfl,_,_,rfl,rfl,.inl ⟨by decide,by decide⟩,_,_,rfl,rfl,ra,_,_,_,rfl,rfl,AB.of hra5,A _ (by omega) (by omega),_,rfl,GR,λlb nlb=>?_⟩;obtain⟨v,hv,hat⟩:=HL (xs:=[V.int (ms.getD (12+2*(0+(i:Int))).toNat 0),V.int (0+(i:Int))]) (n:=2) rfl (by decide) (ms.getD (43:Int).toNat 0);obtain⟨wi,rfl⟩:∃wi:Int,v=.int wi:=by
    rcases aL.mp hv with h|hv
    ·exact⟨_,h⟩
    ·exact⟨_,ai.mp hv⟩
   have s6:=Ai nlb (.lst [V.int (ms.getD (12+2*(0+(i:Int))).toNat 0),V.int (0+(i:Int))]);refine⟨_,rfl,ra,_,_,_,rfl,rfl,AB.of (s6.get hra5),A 43 (by decide) (by decide),_,_,rfl,rfl,(by show(0:Int)<2;decide),lb,_,_,_,rfl,rfl,AB.of Ac,hat,?_⟩;have s56:=s5.trans s6;have hra6:=s6.get hra5;have hlk6:=s6.get hlk5;have hle6:=s6.get hle5;have hks6:∀k∈ks,Hx _ k:=λk hk=>s6.get (hks5 k hk)
   have hps6:∀p∈ps,GO _ p:=λp hp=>(hps p hp).1.same s6
   have hg6:=s6.get (fo5.2 g hg);dsimp only[Az];generalize upd H5 lb (.lst [V.int (ms.getD (12+2*(0+(i:Int))).toNat 0),V.int (0+(i:Int))])=H6 at s56 hra6 hlk6 hle6 hks6 hps6 hg6;obtain⟨z,hz,haz⟩:=Z (0+(i:Int)) (by omega) (by omega);obtain⟨u,hu',hau⟩:=HL (xs:=ks.map λp=>V.ref p.1) (n:=(ks.length:Int)) (by rw[aa]) (by omega) wi;obtain⟨kp,hkp,rfl⟩:=ah.mp hu';have lks':(((ks.map λp=>V.ref p.1).length:Nat):Int)=(ks.length:Int):=by rw[aa]
   refine⟨_,rfl,.inl ⟨rfl,_,AB.of hle6⟩,_,rfl,_,rfl,na,_,_,_,rfl,rfl,s56.seq hna,haz,_,rfl,_,rfl,_,rfl,lk,_,rfl,.inl (AB.of hlk6),_,_,rfl,rfl,(by show(0:Int)<_;rw[lks'];omega),lk,_,_,_,rfl,rfl,AB.of hlk6,(by rw[lks'];exact hau),kp.1,_,_,_,rfl,rfl,AG.of (hks6 kp hkp),Ap (j:=0) rfl,_,rfl,Ua,λt nt=>?_⟩;have s7:=Ai nt (.tup [.str z,.int 1,.str kp.2.1,.str EM,.ref g.1]);have hle7:=s7.get hle6;have kt:=KT.lst hle7 (.lst (ps.map (λp=>V.ref p.1)++[.ref t]));refine⟨le,_,_,rfl,rfl,hle7,AO (by rw[aa];omega),ps++[(t,⟨z,1,kp.2.1,.inr EM,g.2⟩)],_,_,_,rfl,AI (s56.trans s7) nleH _,by rw[Af nre];exact s7.get hra6,by rw[Af nke];exact s7.get hlk6,λk hk=>kt _ _ (s7.get (hks6 k hk)),by rw[Ac,aj];rfl,λp hp=>?_,?_,λp hp=>?_⟩
   ·rcases au.mp hp with h|h
    ·obtain⟨ta,e1,e2⟩:=hps6 p h;exact⟨⟨ta,kt _ _ (s7.get e1),kt _ _ (s7.get e2)⟩,(hps p h).2⟩
    ·cases ai.mp h;exact⟨⟨g.1,kt _ _ Ac,kt _ _ (s7.get hg6)⟩,.inl ⟨rfl,_,rfl⟩,g,hg,rfl⟩
   ·rw[aj,eps,aR,show i=(0+(i:Int)).toNat by omega,hz,show(0+(i:Int)).toNat=i by omega];rfl
   ·rcases au.mp hp with h|h
    ·exact kps p h
    ·cases ai.mp h;rfl
  ·rintro σ H5 ⟨ps,v5,v8,v9,rfl,s5,hra5,hlk5,hks5,hle5,hps,eps,kps⟩
   exact hN _ _ ⟨ps,_,_,_,rfl,s5,hra5,hlk5,hks5,hle5,hps,eps,kps⟩
 rintro σ' H5 ⟨ps,v5,v8,v9,rfl,s5,hra5,hlk5,hks5,hle5,hps5,eps,kps⟩
 have A10:=A 10 (by decide) (by decide);generalize hn1:ms.getD (10:Int).toNat 0%9=n1 at m0 m1 eps;have lps:ps.length=n1.toNat:=by have:=congrArg List.length eps;rw[aa,aP] at this;omega
 refine Br (t:=Iw _ _ _) (λσ' H'=>∃(ss:List (Addr×HE)) (v5 v8 v10:Option V),σ'=[some (.ref sa),some (.ref na),some (.ref fo),some (.ref ra),some (.ref lk),v5,v6,some (.ref le),v8,v9,v10]/\An H H'/\H' ra=some (.lst (ms.map V.int))/\H' lk=some (.lst (ks.map λp=>V.ref p.1))/\(∀k∈ks,Hx H' k)/\H' le=some (.lst ((ps++ss).map λp=>V.ref p.1))/\(∀p∈ps++ss,GO H' p/\IA p.2/\∃g∈gs,p.2.tg=g.2)/\(∃n2,n2<=4/\ss.map (·.2.nm)=(zs.drop 8).take n2)/\ss.length<=4/\(Jb (ss.map (·.2))).Nodup) (λN hN=>?_) ?_
 ·obtain⟨w0,w1⟩:=DI bms (30:Int).toNat;have q0:=bh (ms.getD (30:Int).toNat 0) (show(5:Int)≠0 by decide);have q1:=aV (ms.getD (30:Int).toNat 0) (show(0:Int)<5 by decide);obtain⟨n2,en2,b0,b1,bp⟩:∃n2:Int,ms.getD (30:Int).toNat 0%5*(if(if true=true then !decide ((ps.map λp=>V.ref p.1)=[]) else decide ((ps.map λp=>V.ref p.1)=[]))=true then 1 else 0)=n2/\0<=n2/\n2<=4/\(0<n2->0<ps.length):=by
   refine⟨_,rfl,?_⟩;rw[aE (rfl:true=true)]
   by_cases e:ps=[]
   ·rw[e,cu,aI rfl,show(if(!true)=true then(1:Int) else 0)=0 from rfl,Int.mul_zero];exact⟨by decide,by decide,λh=>absurd h (by decide)⟩
   ·rw[aZ λh=>e (gD.mp h)];have:=bX.mpr e;simp only[Bool.not_false,if_true,Int.mul_one];exact⟨by omega,by omega,λ_=>this⟩
  refine⟨_,rfl,ra,_,_,_,rfl,rfl,AB.of hra5,A 30 (by decide) (by decide),_,_,rfl,rfl,(by show(0:Int)<5;decide),_,rfl,Fv,λl0 nl0=>?_⟩;have s6:=Ai nl0 (.lst []);refine⟨le,l0,_,rfl,rfl,AB.of (s6.get hle5),AB.of Ac,.inr ⟨_,rfl,_,_,rfl,rfl,.inl ⟨by omega,by omega⟩,?_⟩⟩;refine⟨_,rfl,by rw[en2];omega,by rw[en2];omega,?_⟩;rw[en2];have s16:=s5.trans s6;refine Cj (lo:=0) (λi σ H'=>∃(ss:List (Addr×HE)) (v5 v8 v10:Option V),σ=[some (.ref sa),some (.ref na),some (.ref fo),some (.ref ra),some (.ref lk),v5,v6,some (.ref le),v8,v9,v10]/\An H H'/\H' ra=some (.lst (ms.map V.int))/\H' lk=some (.lst (ks.map λp=>V.ref p.1))/\(∀k∈ks,Hx H' k)/\H' le=some (.lst ((ps++ss).map λp=>V.ref p.1))/\(∀p∈ps++ss,GO H' p/\IA p.2/\∃g∈gs,p.2.tg=g.2)/\ss.map (·.2.nm)=(zs.drop 8).take i/\Jb (ss.map (·.2))=(List.range i).map λ(j:Nat)=>1+ms.getD (40:Int).toNat 0+3*(0+(j:Int))) ⟨[],_,_,none,rfl,s16,s6.get hra5,s6.get hlk5,λk hk=>s6.get (hks5 k hk),by rw[bZ];exact s6.get hle5,λp hp=>by rw[bZ] at hp;exact⟨(hps5 p hp).1.same s6,(hps5 p hp).2⟩,rfl,rfl⟩ ?_ ?_
  ·rintro i σ H7 hi ⟨ss,v5,v8,v10,rfl,s7,hra7,hlk7,hks7,hle7,hps7,ess,esl⟩
   have i4:i<4:=by omega
   have lss:ss.length=i:=by have:=congrArg List.length ess;rw[aa,aP,cD] at this;omega
   have pp:=bp (by omega);have fo7:=hfo.same s7;obtain⟨g,hg,hag⟩:=fo7.at (n:=(gs.length:Int)) rfl (by omega) (ms.getD (31+2*(0+(i:Int))).toNat 0);have lgs:(((gs.map λp=>V.ref p.1).length:Nat):Int)=(gs.length:Int):=by rw[aa]
   refine Ax ⟨_,rfl,_,rfl,_,rfl,_,_,rfl,rfl,.inl ⟨by decide,by decide⟩,_,_,rfl,rfl,ra,_,_,_,rfl,rfl,AB.of hra7,A _ (by omega) (by omega),_,rfl,fo,_,rfl,.inl (AB.of fo7.1),_,_,rfl,rfl,(by show(0:Int)<_;rw[lgs];omega),fo,_,_,_,rfl,rfl,AB.of fo7.1,(by rw[lgs];exact hag),?_⟩;dsimp only[Az];have t0:=bh (ms.getD (32+2*(0+(i:Int))).toNat 0) (show n1≠0 by omega);have t1:=aV (ms.getD (32+2*(0+(i:Int))).toNat 0) (show 0<n1 by omega);have hst:(ms.getD (32+2*(0+(i:Int))).toNat 0%n1).toNat<ps.length:=by omega
   have hat:Ih ((ps++ss).map λp=>V.ref p.1) (ms.getD (32+2*(0+(i:Int))).toNat 0%n1)=some (.ref (ps[(ms.getD (32+2*(0+(i:Int))).toNat 0%n1).toNat]).1):=by
    have:=Ap (xs:=(ps++ss).map λp=>V.ref p.1) (j:=(ms.getD (32+2*(0+(i:Int))).toNat 0%n1).toNat) (v:=.ref (ps[(ms.getD (32+2*(0+(i:Int))).toNat 0%n1).toNat]).1) (by rw[aB,bF hst,ae hst];rfl)
    rwa [show(((ms.getD (32+2*(0+(i:Int))).toNat 0%n1).toNat:Nat):Int)=ms.getD (32+2*(0+(i:Int))).toNat 0%n1 by omega] at this
   have hsm:ps[(ms.getD (32+2*(0+(i:Int))).toNat 0%n1).toNat]∈ps++ss:=aJ _ (bG hst);generalize ps[(ms.getD (32+2*(0+(i:Int))).toNat 0%n1).toNat]=sp at hat hsm;obtain⟨ta,e1,_⟩:=(hps7 sp hsm).1;refine Ax ⟨_,rfl,_,rfl,_,rfl,_,_,rfl,rfl,.inl ⟨by decide,by decide⟩,_,_,rfl,rfl,ra,_,_,_,rfl,rfl,AB.of hra7,A _ (by omega) (by omega),_,rfl,ra,_,_,_,rfl,rfl,AB.of hra7,A10,_,_,rfl,rfl,(by show(0:Int)<9;decide),_,_,rfl,rfl,(by show(0:Int)<_;rw[hn1];omega),le,_,_,_,rfl,rfl,AB.of hle7,(by rw[hn1];exact hat),sp.1,_,_,_,rfl,rfl,AG.of e1,Ap (j:=0) rfl,?_⟩;dsimp only[Az];obtain⟨z,hz,haz⟩:=Z (8+(0+(i:Int))) (by omega) (by omega);refine⟨_,rfl,.inl ⟨rfl,_,AB.of hle7⟩,_,rfl,_,rfl,_,_,rfl,rfl,na,_,_,_,rfl,rfl,s7.seq hna,haz,_,rfl,_,rfl,ra,_,_,_,rfl,rfl,AB.of hra7,A 40 (by decide) (by decide),_,_,rfl,rfl,_,rfl,_,_,rfl,rfl,.inl ⟨by decide,by decide⟩,_,_,rfl,rfl,_,rfl,Ua,λt nt=>?_⟩;have s8:=Ai nt (.tup [.str z,.int 2,.str sp.2.nm,.int (1+ms.getD (40:Int).toNat 0+3*(0+(i:Int))),.ref g.1]);have hle8:=s8.get hle7;have kt:=KT.lst hle8 (.lst ((ps++ss).map (λp=>V.ref p.1)++[.ref t]));refine⟨le,_,_,rfl,rfl,hle8,AO (by rw[aa,ao];omega),ss++[(t,⟨z,2,sp.2.nm,.inl (1+ms.getD (40:Int).toNat 0+3*(0+(i:Int))),g.2⟩)],_,_,_,rfl,AI (s7.trans s8) nleH _,by rw[Af nre];exact s8.get hra7,by rw[Af nke];exact s8.get hlk7,λk hk=>kt _ _ (s8.get (hks7 k hk)),by rw[Ac,aj,aj,aj,cz];rfl,λp hp=>?_,?_,by rw[aj,N1,esl,List.range_succ,aj];rfl⟩
   ·rw[<-cz] at hp;rcases au.mp hp with h|h
    ·obtain⟨⟨ta,e1,e2⟩,r⟩:=hps7 p h;exact⟨⟨ta,kt _ _ (s8.get e1),kt _ _ (s8.get e2)⟩,r⟩
    ·cases ai.mp h;exact⟨⟨g.1,kt _ _ Ac,kt _ _ (s8.get (fo7.2 g hg))⟩,.inr ⟨rfl,_,rfl⟩,g,hg,rfl⟩
   ·rw[aj,ess,aR,dE,show 8+i=(8+(0+(i:Int))).toNat by omega,hz];rfl
  ·rintro σ H7 ⟨ss,v5,v8,v10,rfl,s7,hra7,hlk7,hks7,hle7,hps7,ess,esl⟩
   refine hN _ _ ⟨ss,_,_,_,rfl,s7,hra7,hlk7,hks7,hle7,hps7,⟨_,by omega,ess⟩,?_,by rw[esl];exact bW.mpr (List.nodup_range.imp λh e=>h (by omega))⟩;have:=congrArg List.length ess;rw[aa,aP,cD] at this;omega
 rintro σ' H7 ⟨ss,v5,v8,v10,rfl,s7,hra7,hlk7,hks7,hle7,hps7,⟨n2,b2,ess⟩,lss,nsl⟩
 have names:((ps++ss).map (·.2.nm)).Nodup/\∀z∈(ps++ss).map (·.2.nm),z∈zs:=by
  have sub:((ps++ss).map (·.2.nm)).Sublist zs:=by
   rw[aj,eps,ess];have h1:(zs.take n1.toNat).Sublist (zs.take 8):=by
    rw[show n1.toNat=min n1.toNat 8 by omega,<-List.take_take];exact cI _ _
   exact(List.Sublist.append h1 (cI _ _)).trans (by rw[eE];exact dJ _)
  exact⟨ndz.sublist sub,λz hz=>sub.subset hz⟩
 have lall:(ps++ss).length<=12:=by rw[ao];omega
 have Mw:n1.toNat<=(ps++ss).length:=by rw[ao];omega
 have k1:∀(i:Nat) p,i<n1.toNat->(ps++ss)[i]?=some p->p.2.kd=1:=λi p hi hp=>by
  rw[bF (by omega)] at hp;exact kps p (az hp)
 have nsl:(Jb ((ps++ss).map (·.2))).Nodup:=by
  rw[aj,N1,show Jb (ps.map (·.2))=[] from ?_]
  ·exact nsl
  ·unfold Jb;rw[List.filter_eq_nil_iff.mpr λe he z=>?_]
   ·rfl
   ·obtain⟨p,hp,rfl⟩:=ah.mp he;have:=aQ z;rw[kps p hp] at this;cases this
 generalize ps++ss=es at hle7 hps7 names lall Mw k1 nsl;refine Br (t:=Iw _ _ _) (λσ' H'=>∃(fs:List (Addr×HE)) (v5:Option V),σ'=[some (.ref sa),some (.ref na),some (.ref fo),some (.ref ra),some (.ref lk),v5,v6,some (.ref le),v8,v9,v10]/\An H H'/\H' ra=some (.lst (ms.map V.int))/\H' lk=some (.lst (ks.map λp=>V.ref p.1))/\(∀k∈ks,Hx H' k)/\H' le=some (.lst (fs.map λp=>V.ref p.1))/\(∀p∈fs,GO H' p/\IA p.2/\∃g∈gs,p.2.tg=g.2)/\fs.map (·.2.nm)=es.map (·.2.nm)/\fs.map (λp=>OB p.2)=es.map (λp=>OB p.2)) (λN hN=>?_) ?_
 ·refine⟨_,rfl,ra,_,_,_,rfl,rfl,AB.of hra7,A10,_,_,rfl,rfl,(by show(0:Int)<9;decide),_,rfl,by rw[hn1];omega,by rw[hn1];omega,?_⟩;rw[hn1];refine Cj (lo:=0) (λi σ H'=>∃(fs:List (Addr×HE)) (v5:Option V),σ=[some (.ref sa),some (.ref na),some (.ref fo),some (.ref ra),some (.ref lk),v5,v6,some (.ref le),v8,v9,v10]/\An H H'/\H' ra=some (.lst (ms.map V.int))/\H' lk=some (.lst (ks.map λp=>V.ref p.1))/\(∀k∈ks,Hx H' k)/\H' le=some (.lst (fs.map λp=>V.ref p.1))/\(∀p∈fs,GO H' p/\IA p.2/\∃g∈gs,p.2.tg=g.2)/\fs.map (·.2.nm)=es.map (·.2.nm)/\fs.map (·.2.kd)=es.map (·.2.kd)/\fs.map (λp=>OB p.2)=es.map (λp=>OB p.2)) ⟨es,_,rfl,s7,hra7,hlk7,hks7,hle7,hps7,rfl,rfl,rfl⟩ ?_ ?_
  ·rintro i σ H8 hi ⟨fs,v5,rfl,s8,hra8,hlk8,hks8,hle8,hfs8,enm,ekd,ekt⟩
   have li:i<fs.length:=by have:=congrArg List.length enm;rw[aa,aa] at this;omega
   have lf:fs.length<=12:=by have:=congrArg List.length enm;rw[aa,aa] at this;omega
   have hm:fs[i]∈fs:=bG li;have ex:fs[i]?=some fs[i]:=ae li;generalize fs[i]=x at hm ex;have kx:x.2.kd=1:=by
    have h:=congrArg (λl:List Int=>l[i]?) ekd;simp only[List.getElem?_map,ex,Option.map_some] at h;cases ey:es[i]? with
    |none=>rw[ey] at h;cases h
    |some y=>
     rw[ey] at h;rw[aA h];exact k1 i y hi ey
   have hat:Ih (fs.map λp=>V.ref p.1) (0+(i:Int))=some (.ref x.1):=by
    have:=Ap (xs:=fs.map λp=>V.ref p.1) (j:=i) (v:=.ref x.1) (by rw[aB,ex];rfl)
    rwa [show((i:Nat):Int)=0+(i:Int) by omega] at this
   obtain⟨y0,y1⟩:=DI bms (11+(0+(i:Int))).toNat;obtain⟨hx1,hx2,g,hg,hx3⟩:=hfs8 x hm;dsimp only[Az];refine⟨_,rfl,_,rfl,_,rfl,le,_,_,_,rfl,rfl,AB.of hle8,hat,_,rfl,_,rfl,_,_,rfl,rfl,ra,_,_,_,rfl,rfl,AB.of hra8,A _ (by omega) (by omega),le,fs,x,_,rfl,hle8,λp hp=>⟨(hfs8 p hp).1,(hfs8 p hp).2.1⟩,by omega,hx1,kx,hx2,y0,λa z H9 s9 ha=>?_⟩;have hle9:=s9.get hle8;have hix:Q8 (fs.map λp=>V.ref p.1).length (0+(i:Int))=some i:=by
    unfold Q8;rw[aE (by omega),aE (by rw[aa];omega)];exact congrArg some (by omega)
   have kt:=KT.lst hle9 (.lst ((fs.map λp=>V.ref p.1).set i (.ref a)));refine⟨_,rfl,_,rfl,le,_,_,i,rfl,rfl,hle9,hix,fs.set i (a,⟨x.2.nm,x.2.kd,x.2.ow,.inr z,x.2.tg⟩),_,rfl,AI (s8.trans s9) nleH _,by rw[Af nre];exact s9.get hra8,by rw[Af nke];exact s9.get hlk8,λk hk=>kt _ _ (s9.get (hks8 k hk)),by rw[Ac,eX],λp hp=>?_,?_,?_,?_⟩
   ·rcases List.mem_or_eq_of_mem_set hp with h|h
    ·obtain⟨⟨ta,e1,e2⟩,r⟩:=hfs8 p h;exact⟨⟨ta,kt _ _ (s9.get e1),kt _ _ (s9.get e2)⟩,r⟩
    ·subst h;obtain⟨ta,e1,e2⟩:=ha;exact⟨⟨ta,kt _ _ e1,kt _ _ e2⟩,.inl ⟨kx,_,rfl⟩,g,hg,hx3⟩
   ·rw[eX,<-enm];refine ck λj=>?_
    rw[eY]
    split
    ·next e=>
     subst e;rw[aE (by rw[aa];exact li),aB,ex];rfl
    ·rfl
   ·rw[eX,<-ekd];refine ck λj=>?_
    rw[eY]
    split
    ·next e=>
     subst e;rw[aE (by rw[aa];exact li),aB,ex];rfl
    ·rfl
   ·rw[eX,<-ekt];refine ck λj=>?_
    rw[eY]
    split
    ·next e=>
     subst e;rw[aE (by rw[aa];exact li),aB,ex];show some (OB ⟨x.2.nm,x.2.kd,x.2.ow,.inr z,x.2.tg⟩)=some (OB x.2);unfold OB;rw[aH (by rw[kx];decide),aH (by rw[kx];decide)]
    ·rfl
  ·rintro σ H8 ⟨fs,v5,rfl,s8,hra8,hlk8,hks8,hle8,hfs8,enm,ekd,ekt⟩
   exact hN _ _ ⟨fs,_,rfl,s8,hra8,hlk8,hks8,hle8,hfs8,enm,ekt⟩
 rintro σ' H8 ⟨fs,v5,rfl,s8,hra8,hlk8,hks8,hle8,hfs8,enm,ekt⟩
 have nsf:(Jb (fs.map (·.2))).Nodup:=by
  rw[Q4,ar] at nsl ⊢;rw[show fs.map (OB∘λp=>p.2)=es.map (OB∘λp=>p.2) from ekt];exact nsl
 have lfs:fs.length<=12:=by have:=congrArg List.length enm;rw[aa,aa] at this;omega
 have ndf:(fs.map (·.2.nm)).Nodup:=by rw[enm];exact names.1
 dsimp only[TJ];refine⟨_,rfl,ra,_,_,_,rfl,rfl,AB.of hra8,A 41 (by decide) (by decide),_,rfl,lk,ks.map λp=>(p.1,p.2.1),rfl,AB.of (by rw[ar];exact hlk8),by rw[aa];omega,λt ht=>?_,by rw[ar];exact ndk,λus l up so np=>?_⟩
 ·obtain⟨p,hp,rfl⟩:=ah.mp ht;exact⟨_,AG.of (hks8 p hp)⟩
 obtain⟨ks',pk,rfl⟩:=Gk up rfl;rw[ar];have s9:=Ai np (.lst (ks'.map ((λt:Addr×Str=>V.ref t.1)∘λp:Addr×Str×Int=>(p.1,p.2.1))));refine⟨l,_,rfl,.inl ⟨AB.of Ac,λka nka=>?_⟩⟩;have s10:=Ai nka (.tup (ks'.map ((λt:Addr×Str=>V.ref t.1)∘λp:Addr×Str×Int=>(p.1,p.2.1))));have s910:=s9.trans s10;have hka:(upd (upd H8 l (.lst (ks'.map ((λt:Addr×Str=>V.ref t.1)∘λp:Addr×Str×Int=>(p.1,p.2.1))))) ka (.tup (ks'.map ((λt:Addr×Str=>V.ref t.1)∘λp:Addr×Str×Int=>(p.1,p.2.1))))) ka=some (.tup (ks'.map λp=>V.ref p.1)):=Ac;generalize upd (upd H8 l (.lst (ks'.map ((λt:Addr×Str=>V.ref t.1)∘λp:Addr×Str×Int=>(p.1,p.2.1))))) ka (.tup (ks'.map ((λt:Addr×Str=>V.ref t.1)∘λp:Addr×Str×Int=>(p.1,p.2.1))))=H10 at s910 hka;refine⟨_,rfl,le,fs.map λp=>(p.1,p.2.nm),rfl,AB.of (by rw[ar];exact s910.get hle8),by rw[aa];omega,λt ht=>?_,by rw[ar];exact ndf,λus l2 up2 so2 np2=>?_⟩
 ·obtain⟨p,hp,rfl⟩:=ah.mp ht;obtain⟨⟨ta,e1,_⟩,_⟩:=hfs8 p hp;exact⟨_,AG.of (s910.get e1)⟩
 obtain⟨fs',pf,rfl⟩:=Gk up2 rfl;rw[ar];have s11:=Ai np2 (.lst (fs'.map ((λt:Addr×Str=>V.ref t.1)∘λp:Addr×HE=>(p.1,p.2.nm))));refine⟨l2,_,rfl,.inl ⟨AB.of Ac,λea nea=>?_⟩⟩;have s12:=Ai nea (.tup (fs'.map ((λt:Addr×Str=>V.ref t.1)∘λp:Addr×HE=>(p.1,p.2.nm))));have s1112:=s11.trans s12;have hea:(upd (upd H10 l2 (.lst (fs'.map ((λt:Addr×Str=>V.ref t.1)∘λp:Addr×HE=>(p.1,p.2.nm))))) ea (.tup (fs'.map ((λt:Addr×Str=>V.ref t.1)∘λp:Addr×HE=>(p.1,p.2.nm))))) ea=some (.tup (fs'.map λp=>V.ref p.1)):=Ac;generalize upd (upd H10 l2 (.lst (fs'.map ((λt:Addr×Str=>V.ref t.1)∘λp:Addr×HE=>(p.1,p.2.nm))))) ea (.tup (fs'.map ((λt:Addr×Str=>V.ref t.1)∘λp:Addr×HE=>(p.1,p.2.nm))))=H12 at s1112 hea;refine⟨Iv,λh nh=>?_⟩;have s13:=Ai nh (.tup [.int (ms.getD (41:Int).toNat 0),.ref ka,.ref ea]);have s813:=s910.trans (s1112.trans s13);refine q h _ ka ea ks' fs' _ (s8.trans s813) Ac ((s1112.trans s13).get hka) (λk hk=>s813.get (hks8 k (pk.mem_iff.mp hk))) ((pk.map _).nodup_iff.mpr ndk) (by rw[pk.length_eq];omega) (s13.get hea) (λp hp=>?_) ((pf.map _).nodup_iff.mpr ndf) (by rw[pf.length_eq];omega) (by
  have pm:(Jb (fs'.map (·.2))).Perm (Jb (fs.map (·.2))):=((pf.map λp:Addr×HE=>p.2).filter _).map _;exact pm.nodup_iff.mpr nsf)
 obtain⟨h1,h2,h3⟩:=hfs8 p (pf.mem_iff.mp hp);exact⟨h1.same s813,h2,names.2 _ (by rw[<-enm];exact aO (f:=λp:Addr×HE=>p.2.nm) (pf.mem_iff.mp hp)),h3⟩
def Fq (K:W.Frag):Sp:=λvs H Q _=>∃v b,vs=[v]/\Rep NL H (Dy b) v/\(AM b).length<=1000/\∀l (ps:List (Addr×Tg)) H',An H H'->H l=none->Fy H' l ps->ps.map (·.2)=AM b->Q (.ref l) H'
theorem Lc (T:Txt K mg Ak Aa Ae XC)(F:Fun K "_law_tags" "_law_tags" CS f fd):FnOk P w K mg base CZ 1 f fd ["_law_block"] (Fq K):=by
 exists Kw
 ·obtain⟨v,b,rfl,_⟩:=h;rfl
 obtain⟨v,b,rfl,hv,few,q⟩:=h;refine⟨_,(!Ag (!BQ (!AC B9 (!Am Ay (pv 0) (!Ad) (λ_ _=>rfl)) (!Ad) (AL _)) (!Al (!Av (!A5 (!Ah)))) (!AX)) (!Ag (!BQ (!AC B9 (!Am Ay (pv 0) (!Ad) (λ_ _=>rfl)) (!Ad) (AL _)) (!Al (!Av (!Bb C4 (by rfl) T.b_list DN (!Ab (!Am Ay (pv 0) (!Ad) (λ_ _=>rfl)) (!Ah))))) (!AX)) (!Al (!Av (@BA _ ["_law_entry"] _ _ _ _ _ _ _ _ _ _ rfl (!BZ (!Am Ay (pv 0) (!Ad) (λ_ _=>rfl))) (by decide +kernel) (λC s H fp=>⟨(@Aq _ _ (0) _ (show(["_law_entry"]:List Str).Nodup by decide +kernel) rfl (by trivial) (by trivial)),(!A6),(!Am (AJ (K:=K) (by rfl)) (pv 0) (!Ad) (λ_ _=>rfl))⟩) (by intro _;rfl)))))),?_⟩
 try dsimp only[Bw,Cx.nox,Cx.wish]
 cases b with
 |piece z=>
  obtain⟨a,rfl,e⟩:=Gg hv;refine⟨_,rfl,a,_,_,_,rfl,rfl,AG.of e,rfl,rfl,_,rfl,Ft rfl ?_⟩;exact⟨Fv,λl hl=>q l [] _ (Ai hl _) hl ⟨Ac,λ_ h=>nomatch h⟩ rfl⟩
 |row lv ts=>
  obtain⟨a,d,us,rfl,e,e2,r⟩:=IU hv;obtain⟨ps,rfl,rfl,hps⟩:=Lm r;refine⟨_,rfl,a,_,_,_,rfl,rfl,AG.of e,rfl,rfl,_,rfl,Cu rfl ?_⟩;refine⟨_,rfl,a,_,_,_,rfl,rfl,AG.of e,rfl,rfl,_,rfl,Ft rfl ?_⟩;exact⟨_,rfl,a,_,_,_,rfl,rfl,AG.of e,rfl,d,_,rfl,.inr (AG.of e2),λl hl=>q l ps _ (Ai hl _) hl ⟨Ac,λp hp=>(Ai hl _).get (hps p hp)⟩ rfl⟩
 |folder es=>
  obtain⟨a,d,us,rfl,e,e2,r⟩:=Dk hv;obtain⟨ps,rfl,rfl,hps⟩:=QA r;have few':((ps.map (·.2)).map (·.tg)).length<=1000:=few;rw[aa,aa] at few';refine⟨_,rfl,a,_,_,_,rfl,rfl,AG.of e,rfl,rfl,_,rfl,Cu rfl ?_⟩;refine⟨_,rfl,a,_,_,_,rfl,rfl,AG.of e,rfl,rfl,_,rfl,Cu rfl ?_⟩;refine⟨_,rfl,a,_,_,_,rfl,rfl,AG.of e,rfl,d,rfl,⟨_,AG.of e2⟩,?_⟩;obtain⟨qs,e3,e4,hqs⟩:=Lm (GG r);refine IW (ps:=ps) (λx=>KE H (.ref x.1)) (By e2) (by omega) (λx hx H' R s' hR=>?_) λl H' nl s' hl=>q l qs H' s' nl ⟨?_,λp hp=>s'.get (hqs p hp)⟩ e4.symm
  ·obtain⟨b,h1,h2⟩:=hps x hx;have:=hR H' (An.refl _);rw[Jh h1] at this;exact⟨_,rfl,x.1,_,_,_,rfl,rfl,AG.of (s'.get h1),Ap (j:=2) rfl,this⟩
  ·rw[hl,<-e3,ar];rfl
def O2 (B:BM)(z:Int):List Int:=match B z with
 |some b=>(AM b).map (·.1)
 |none=>[]
theorem Hm {α:Type}[DecidableEq α]:∀{l m:List α},l.Nodup->(∀x∈l,x∈m)->l.length<=m.length
 |[],_,_,_=>bw _
 |a::l,m,nd,h=>by
  rw[bO] at nd;have ha:=h a ax;have:=Hm (m:=m.erase a) nd.2 λx hx=>(List.mem_erase_of_ne (λz=>nd.1 (by rw[<-z];exact hx))).mpr (h x (aM _ hx))
  rw[List.length_erase_of_mem ha] at this;have:0<m.length:=List.length_pos_of_mem ha;rw[bc];omega
def LI (B:BM):Nat->List Int->List Int->List Int
 |0,_,fs=>fs
 |n+1,ws,fs=>match ws.getLast? with
  |none=>fs
  |some z=>if z∈fs then LI B n ws.dropLast fs else LI B n (ws.dropLast++O2 B z) (fs++[z])
theorem IT (B:BM):∀n fs,LI B n [] fs=fs
 |0,_=>rfl
 |_+1,_=>rfl
theorem He (B:BM)(n:Nat)(ws:List Int)(z:Int)(fs:List Int):LI B (n+1) (ws++[z]) fs=if z∈fs then LI B n ws fs else LI B n (ws++O2 B z) (fs++[z]):=by
 rw[LI,List.getLast?_concat,eG]
structure Bx (H:Hp) (d:Addr) (cs:List Cz):Prop where
 at_:H d=some (.dK (Fx cs))
 ce:∀c∈cs,NG H c
 nd:(cs.map (·.tg.1)).Nodup
 few:cs.length<=50
theorem Bx.same {H H':Hp}{d:Addr}{cs:List Cz}(h:Bx H d cs)(s:An H H'):Bx H' d cs:=⟨s.get h.at_,λc hc=>(h.ce c hc).keep (KT.of s),h.nd,h.few⟩
theorem Bx.get {H:Hp}{d:Addr}{cs:List Cz}(h:Bx H d cs){c:Cz}(hc:c∈cs):Cq H d (.int c.tg.1) (some (.ref c.p)):=by
 have g:=Cq.k (k:=.inl c.tg.1) h.at_;rw[show Bz (Fx cs) (.inl c.tg.1)=some (.ref c.p) from Jj (z:=λc:Cz=>c.tg.1) (v:=λc=>.ref c.p) h.nd c hc] at g;exact g
def HS (B:BM)(Ok:Int->Prop):Prop:=∀z,Ok z->∃b,B z=some b/\(AM b).length<=3/\∀t∈AM b,Ok t.1
theorem MV {B:BM}{Ok:Int->Prop}(cl:HS B Ok){N:List Int}(hN:∀z,Ok z->z∈N):∀(n:Nat) (ws fs:List Int),ws.length+4*(N.length-fs.length)<=n->fs.Nodup->(∀z∈ws,Ok z)->(∀z∈fs,Ok z)->(∀z∈fs,∀t∈O2 B z,t∈fs\/t∈ws)->
  (LI B n ws fs).Nodup/\(∀z∈fs,z∈LI B n ws fs)/\(∀z∈ws,z∈LI B n ws fs)/\(∀z∈LI B n ws fs,Ok z)/\∀z∈LI B n ws fs,∀t∈O2 B z,t∈LI B n ws fs
 |0,ws,fs,hn,nd,hw,hf,hc=>by
  have:ws=[]:=List.length_eq_zero_iff.mp (by omega);subst this;exact⟨nd,λ_ h=>h,(λ_ h=>nomatch h),hf,λz hz t ht=>(hc z hz t ht).resolve_right λh=>nomatch h⟩
 |n+1,ws,fs,hn,nd,hw,hf,hc=>by
  rcases dr ws with rfl|⟨ws',z,rfl⟩
  ·rw[IT];exact⟨nd,λ_ h=>h,(λ_ h=>nomatch h),hf,λz hz t ht=>(hc z hz t ht).resolve_right λh=>nomatch h⟩
  ·rw[du] at *;rw[He];rw[ao,bI] at hn;have oz:=hw z (aC _ ax)
   by_cases hz:z∈fs
   ·rw[aE hz];obtain⟨h1,h2,h3,h4,h5⟩:=MV cl hN n ws' fs (by omega) nd (λx hx=>hw x (aJ _ hx)) hf λx hx t ht=>by
     rcases hc x hx t ht with h|h
     ·exact .inl h
     ·rcases au.mp h with h|h
      ·exact .inr h
      ·rw[ai.mp h];exact .inl hz
    refine⟨h1,h2,λx hx=>?_,h4,h5⟩;rcases au.mp hx with hx|hx
    ·exact h3 x hx
    ·rw[ai.mp hx];exact h2 z hz
   ·rw[aH hz];obtain⟨b,eb,l3,ok⟩:=cl z oz;have et:O2 B z=(AM b).map (·.1):=by unfold O2;rw[eb]
    have nd':(fs++[z]).Nodup:=bB.mpr ⟨nd,by simp,λa ha c hc e=>hz (by rw[ai.mp hc] at e;rw[<-e];exact ha)⟩;have hf':∀x∈fs++[z],Ok x:=λx hx=>by
     rcases au.mp hx with hx|hx
     ·exact hf x hx
     ·rw[ai.mp hx];exact oz
    have lN:(fs++[z]).length<=N.length:=Hm nd' λx hx=>hN x (hf' x hx)
    rw[ao,bI] at lN;obtain⟨h1,h2,h3,h4,h5⟩:=MV cl hN n (ws'++O2 B z) (fs++[z]) (by rw[ao,ao,et,aa,bI];omega) nd' (λx hx=>by
     rcases au.mp hx with hx|hx
     ·exact hw x (aJ _ hx)
     ·rw[et] at hx;obtain⟨t,ht,rfl⟩:=ah.mp hx;exact ok t ht) hf' λx hx t ht=>by
     rcases au.mp hx with hx|hx
     ·rcases hc x hx t ht with h|h
      ·exact .inl (aJ _ h)
      ·rcases au.mp h with h|h
       ·exact .inr (aJ _ h)
       ·exact .inl (aC _ h)
     ·rw[ai.mp hx] at ht;exact .inr (aC _ ht)
    refine⟨h1,λx hx=>h2 x (aJ _ hx),λx hx=>?_,h4,h5⟩;rcases au.mp hx with hx|hx
    ·exact h3 x (aJ _ hx)
    ·exact h2 x (aC _ hx)
def EZ (cs:List Cz)(ws:List Int):List Int:=LI (bm cs) (ws.length+4*cs.length) ws []
def AS (fs:List Int):List (Key×V):=fs.map λz=>(.inl z,.bl true)
def DG (K:W.Frag):Sp:=λvs H Q _=>∃(d la:Addr) (cs:List Cz) (ps:List (Addr×Tg)) (Ok:Int->Prop),vs=[.ref d,.ref la]/\Bx H d cs/\Fy H la ps/\ps.length<=100/\HS (bm cs) Ok/\(∀p∈ps,Ok p.2.1)/\
 ∀dd H',An H H'->H dd=none->H' dd=some (.dK (AS (EZ cs (ps.map (·.2.1)))))->Q (.ref dd) H'
theorem II (T:Txt K mg Ak Aa Ae XC)(F:Fun K "_law_reached" "_law_reached" BG f fd)(FO:Def P w K mg base 1 "_law_tags" ["_law_block"] (Fq K)):FnOk P w K mg base CZ 2 f fd ["_law_blocks_here","_law_tags_here"] (DG K):=by
 exists CD
 ·obtain⟨d,la,cs,ps,Ok,rfl,_⟩:=h;rfl
 obtain⟨d,la,cs,ps,Ok,rfl,bx,hla,few,cl,okw,q⟩:=h;have hu:=BP hr;have hu9:=C1 hr;refine⟨_,(!Ag (@Au _ _ (2) _ _ _ _ CD.nd rfl (by trivial) (!Cc) (by rfl) (by trivial)) (!Ag (@Au _ _ (3) _ _ _ _ CD.nd rfl (by trivial) (!Bb C4 (by rfl) T.b_list DN (!Ab (pv 1) (!Ah))) (by rfl) (by trivial)) (!Ag (!Jm aW (!AC (Nx hu) (pv 3) (!A5 (!Ah)) (AL _)) (!Ag (@Au _ _ (4) _ _ _ _ CD.nd rfl (by trivial) (!Am Ay (!Qe aK gc fZ Qd (pv 3)) (!Ad) (λ_ _=>rfl)) (by rfl) (by trivial)) (!Al (!BQ (!Hz (!Kl hu (pv 4) (pv 2)) (by first|exact D9 _ (by decide) (by decide)|rfl)) (!Ag (!Ec hu (pv 2) (pv 4) (!Hn)) (!Al (!Bc (!CA aK cg cf DU (pv 3) (!Ab (!AU FO (by trivial) rfl (!Ab (!Am Ay (!Cm hu (pv 0) (pv 4) (λ_ _=>rfl)) (!Ad) (λ_ _=>rfl)) (!Ah))) (!Ah)))))) (!AX))))) (!Al (!Av (pv 2)))))),?_⟩
 try dsimp only[Bw,Cx.nox,Cx.wish]
 refine Ax λdf ndf=>?_
 have s1:=Ai ndf (.dK []);have hdf:(upd H df (.dK [])) df=some (.dK (AS [])):=Ac;dsimp only[Az];generalize upd H df (.dK [])=H1 at s1 hdf;refine Ax ⟨_,rfl,la,_,rfl,.inl (AB.of (s1.get hla.1)),λlw nlw=>?_⟩;have s2:=Ai nlw (.lst (ps.map λp=>V.ref p.1));have hlw:(upd H1 lw (.lst (ps.map λp=>V.ref p.1))) lw=some (.lst (ps.map λp=>V.ref p.1)):=Ac;have hdf2:=s2.get hdf;have nlwH:=s1.free nlw;have nlf:df≠lw:=λw=>by rw[<-w,hdf] at nlw;cases nlw
 dsimp only[Az];generalize upd H1 lw (.lst (ps.map λp=>V.ref p.1))=H2 at s2 hlw hdf2;have s12:=s1.trans s2;have N0:∀z,Ok z->z∈cs.map (·.tg.1):=λz hz=>by
  obtain⟨b,eb,_⟩:=cl z hz;obtain⟨c,hc,e,_⟩:=DO eb;rw[<-e];exact aO (f:=λc:Cz=>c.tg.1) hc
 refine Br (t:=MM _ _) (λσ' H'=>∃(v4:Option V),σ'=[some (.ref d),some (.ref la),some (.ref df),some (.ref lw),v4]/\An H H'/\H' df=some (.dK (AS (EZ cs (ps.map (·.2.1)))))) (λN hN=>?_) ?_
 ·refine⟨λm σ' H'=>∃(ws:List (Addr×Tg)) (fs:List Int) (v4:Option V),σ'=[some (.ref d),some (.ref la),some (.ref df),some (.ref lw),v4]/\An H H'/\H' df=some (.dK (AS fs))/\Fy H' lw ws/\LI (bm cs) m (ws.map (·.2.1)) fs=EZ cs (ps.map (·.2.1))/\ws.length+4*(cs.length-fs.length)<=m/\fs.Nodup/\(∀p∈ws,Ok p.2.1)/\(∀z∈fs,Ok z)/\m<=300,
   ⟨ps.length+4*cs.length,ps,[],none,rfl,s12,hdf2,⟨hlw,λp hp=>s12.get (hla.2 p hp)⟩,by unfold EZ;rw[aa],by simp,by simp,okw,(λ_ h=>nomatch h),by have:=bx.few;omega⟩,?_⟩
  rintro m σ' H3 ⟨ws,fs,v4,rfl,s3,hdf3,hlw3,er,hm,nd,okws,okfs,m3⟩
  refine⟨_,rfl,Fv,λle nle=>?_⟩;have s4:=Ai nle (.lst []);have hle:(upd H3 le (.lst [])) le=some (.lst []):=Ac;have hdf4:=s4.get hdf3;have hlw4:=hlw3.same s4;have s34:=s3.trans s4;generalize upd H3 le (.lst [])=H4 at s4 hle hdf4 hlw4 s34;refine⟨lw,le,_,rfl,rfl,AB.of hlw4.1,AB.of hle,_,rfl,D0 (λc=>?_) (λc=>?_)⟩
  ·rcases dr ws with rfl|⟨ws,y,rfl⟩
   ·exact absurd c (by simp)
   rw[du] at *;have y1:GT H4 y.1 y.2:=hlw4.2 y (aC _ ax);have oy:=okws y (aC _ ax);rw[ao,bI] at hm;obtain⟨m,rfl⟩:∃m',m=m'+1:=⟨m-1,by omega⟩
   rw[aj,List.map_singleton,He] at er;refine⟨_,λσ' H' h=>⟨m,cN m,h⟩,?_⟩;have hlast:((ws++[y]).map λp=>V.ref p.1)[((ws++[y]).map λp=>V.ref p.1).length-1]?=some (.ref y.1):=by
    rw[aj,ao,bD (by simp)];simp
   have hdl:((ws++[y]).map λp=>V.ref p.1).dropLast=ws.map λp=>V.ref p.1:=by
    rw[aj];exact eG
   have k5:=KT.lst hlw4.1 (.lst (ws.map λp=>V.ref p.1));have hlw5:Fy (upd H4 lw (.lst (ws.map λp=>V.ref p.1))) lw ws:=⟨Ac,λp hp=>k5 _ _ (hlw4.2 p (aJ _ hp))⟩
   have s5:An H (upd H4 lw (.lst (ws.map λp=>V.ref p.1))):=AI s34 nlwH _;have hdf5:(upd H4 lw (.lst (ws.map λp=>V.ref p.1))) df=some (.dK (AS fs)):=by rw[Af nlf];exact hdf4
   refine Ax ⟨_,rfl,.inl ⟨rfl,_,AB.of hlw4.1⟩,lw,_,_,rfl,rfl,hlw4.1,hlast,?_⟩;rw[hdl];refine⟨y.1,_,_,_,rfl,rfl,AG.of (k5 _ _ y1),Ap (j:=0) rfl,?_⟩;dsimp only[Az];generalize upd H4 lw (.lst (ws.map λp=>V.ref p.1))=H5 at hlw5 s5 hdf5;have g:=Cq.k (k:=.inl y.2.1) hdf5;refine⟨_,rfl,_,rfl,df,_,rfl,g,_,rfl,D0 (λc=>?_) (λc=>?_)⟩
   ·have hz:y.2.1∉fs:=λh=>by
     rw[show Bz (AS fs) (.inl y.2.1)=some (.bl true) from GJ (k:=λz:Int=>.inl z) (g:=λ_=>.bl true) (bW.mpr (nd.imp λh e=>h (bH e))) y.2.1 h] at c;cases c
    rw[aH hz] at er;obtain⟨b,eb,l3,okb⟩:=cl _ oy;obtain⟨cc,hc,e1,e2⟩:=DO eb;have nd':(fs++[y.2.1]).Nodup:=bB.mpr ⟨nd,by simp,λa ha c hc e=>hz (by rw[ai.mp hc] at e;rw[<-e];exact ha)⟩;have hf':∀x∈fs++[y.2.1],Ok x:=λx hx=>by
     rcases au.mp hx with hx|hx
     ·exact okfs x hx
     ·rw[ai.mp hx];exact oy
    have lN:=Hm nd' λx hx=>N0 x (hf' x hx)
    rw[ao,bI,aa] at lN;have lf50:=bx.few;have put:putK (AS fs) (.inl y.2.1) (.bl true)=AS (fs++[y.2.1]):=by
     rw[AS,AS,C8 _ (FK (k:=λz:Int=>.inl z) (g:=λ_=>.bl true) (z:=.inl y.2.1) λr hr e=>hz (by rw[<-bH e];exact hr)),aj];rfl
    refine⟨_,rfl,_,rfl,df,_,rfl,HF.k (k:=.inl y.2.1) hdf5 (AO (by rw[AS,aa];omega)),?_⟩;rw[put];have k6:KT H5 (upd H5 df (.dK (AS (fs++[y.2.1])))):=λc xs e=>by rw[Af λw=>by rw[w,hdf5] at e;cases e];exact e
    have s6:An H (upd H5 df (.dK (AS (fs++[y.2.1])))):=AI s5 ndf _;have hdf6:(upd H5 df (.dK (AS (fs++[y.2.1])))) df=some (.dK (AS (fs++[y.2.1]))):=Ac;have hlw6:Fy (upd H5 df (.dK (AS (fs++[y.2.1])))) lw ws:=⟨by rw[Af (Ne.symm nlf)];exact hlw5.1,λp hp=>k6 _ _ (hlw5.2 p hp)⟩
    generalize upd H5 df (.dK (AS (fs++[y.2.1])))=H6 at k6 s6 hdf6 hlw6;have bx6:=bx.same s6;obtain⟨c1,c2,c3⟩:=bx6.ce cc hc;have g6:=bx6.get hc;rw[e1] at g6;rw[e2] at c3;dsimp only[Kd];refine⟨_,rfl,.inl ⟨rfl,_,AB.of hlw6.1⟩,_,rfl,_,rfl,d,_,rfl,g6,cc.p,_,_,_,rfl,rfl,AG.of c1,Ap (j:=1) rfl,cc.v,b,rfl,c3,by omega,λl qs H7 s7 nl hl7 eq=>?_⟩;have hlw7:=hlw6.same s7;have lq:qs.length<=3:=by rw[<-eq,aa] at l3;exact l3
    have nl6:lw≠l:=λw=>by rw[<-w,hlw6.1] at nl;cases nl
    refine⟨lw,l,_,_,rfl,rfl,hlw7.1,hl7.1,small (by rw[aa,aa];omega),?_⟩;have k8:=KT.lst hlw7.1 (.lst (ws.map (λp=>V.ref p.1)++qs.map λp=>V.ref p.1));have et:O2 (bm cs) y.2.1=qs.map (·.2.1):=by unfold O2;rw[eb];dsimp only;rw[<-eq,ar];rfl
    refine⟨ws++qs,fs++[y.2.1],_,rfl,AI (s6.trans s7) nlwH _,by rw[Af nlf];exact s7.get hdf6,⟨by rw[Ac,aj],λp hp=>?_⟩,by rw[aj,<-et];exact er,?_,nd',λp hp=>?_,hf',by omega⟩
    ·rcases au.mp hp with hp|hp
     ·exact k8 _ _ (hlw7.2 p hp)
     ·exact k8 _ _ (hl7.2 p hp)
    ·rw[ao,ao,bI];omega
    ·rcases au.mp hp with hp|hp
     ·exact okws p (aJ _ hp)
     ·exact okb p.2 (by rw[<-eq];exact aO hp)
   ·have hz:y.2.1∈fs:=cy λh=>by
     rw[show Bz (AS fs) (.inl y.2.1)=none from FK (k:=λz:Int=>.inl z) (g:=λ_=>.bl true) λr hr e=>h (by rw[<-bH e];exact hr)] at c;exact c rfl
    rw[aE hz] at er;exact⟨ws,fs,_,rfl,s5,hdf5,hlw5,er,by omega,nd,λp hp=>okws p (aJ _ hp),okfs,by omega⟩
  ·have e:ws=[]:=by
    rcases ws with _|⟨y,ws⟩
    ·rfl
    ·exact absurd (by simp) c
   subst e;rw[cu,IT] at er;refine hN _ _ ⟨_,rfl,s34,?_⟩;rw[<-er];exact hdf4
 ·rintro σ' H3 ⟨v4,rfl,s3,hdf3⟩
  exact⟨_,rfl,q df H3 s3 ndf hdf3⟩
structure Hd (H:Hp) (h:Addr) (ag:Int) (ka ea:Addr) (ks:List (Addr×Str×Int)) (ps:List (Addr×HE)):Prop where
 at_:H h=some (.tup [.int ag,.ref ka,.ref ea])
 kt:H ka=some (.tup (ks.map λp=>V.ref p.1))
 ke:∀k∈ks,Hx H k
 kn:(ks.map (·.2.1)).Nodup
 kl:ks.length<=8
 et:H ea=some (.tup (ps.map λp=>V.ref p.1))
 en:∀p∈ps,GO H p
 og:∀p∈ps,IA p.2
 nd:(ps.map (·.2.nm)).Nodup
 el:ps.length<=12
theorem Hd.same {H H':Hp}{h:Addr}{ag:Int}{ka ea:Addr}{ks:List (Addr×Str×Int)}{ps:List (Addr×HE)}(a:Hd H h ag ka ea ks ps)(s:An H H'):Hd H' h ag ka ea ks ps:=
 ⟨s.get a.at_,s.get a.kt,λk hk=>s.get (a.ke k hk),a.kn,a.kl,s.get a.et,λp hp=>(a.en p hp).same s,a.og,a.nd,a.el⟩
def Rt (z:Str)(x:Addr×HE):Bool:=decide (V.int x.2.kd=V.int 1)&&decide (V.str x.2.ow=V.str z)
def Se (ps:List (Addr×HE))(z:Str):List V:=(ps.filter (Rt z)).map λx=>.str x.2.nm
def OP (ss:List V)(x:Addr×HE):Bool:=Rh (.str x.2.nm) ss||(decide (V.int x.2.kd=V.int 2)&&Rh (.str x.2.ow) ss)
def Ra (cs:List Cz)(ps:List (Addr×HE))(z:Str):List Int:=EZ cs ((ps.filter (OP (Se ps z))).map (·.2.tg.1))
structure Hl (H:Hp) (dh:Addr) (cs:List Cz) (ps:List (Addr×HE)) (hs:List (Str×Addr)):Prop where
 at_:H dh=some (.dK (hs.map λr=>(.inr r.1,.ref r.2)))
 ea:∀r∈hs,H r.2=some (.dK (AS (Ra cs ps r.1)))
 nd:(hs.map (·.1)).Nodup
theorem Hl.same {H H':Hp}{dh:Addr}{cs:List Cz}{ps:List (Addr×HE)}{hs:List (Str×Addr)}(a:Hl H dh cs ps hs)(s:An H H'):Hl H' dh cs ps hs:=⟨s.get a.at_,λr hr=>s.get (a.ea r hr),a.nd⟩
def ET (K:W.Frag):Sp:=λvs H Q _=>∃(d h:Addr) (cs:List Cz) (ag:Int) (ka ea:Addr) (ks:List (Addr×Str×Int)) (ps:List (Addr×HE)) (Ok:Int->Prop),vs=[.ref d,.ref h]/\Bx H d cs/\Hd H h ag ka ea ks ps/\HS (bm cs) Ok/\(∀p∈ps,Ok p.2.tg.1)/\
 ∀dh hs H',An H H'->H dh=none->Hl H' dh cs ps hs->hs.map (·.1)=ks.map (·.2.1)->Q (.ref dh) H'
theorem KN (T:Txt K mg Ak Aa Ae XC)(F:Fun K "_law_held" "_law_held" CN f fd)(D1:Def P w K mg base 2 "_law_reached" ["_law_blocks_here","_law_tags_here"] (DG K)):FnOk P w K mg base CZ 3 f fd ["_law_blocks_here","_law_head_here"] (ET K):=by
 exists Ci
 ·obtain⟨d,h,cs,ag,ka,ea,ks,ps,Ok,rfl,_⟩:=h;rfl
 obtain⟨d,h,cs,ag,ka,ea,ks,ps,Ok,rfl,bx,hd,cl,okw,q⟩:=h;have hu:=BP hr;have hu9:=C1 hr;refine⟨_,(!Ag (@Au _ _ (2) _ _ _ _ Ci.nd rfl (by trivial) (!Cc) (by rfl) (by trivial)) (!Ag (!BJ aW rfl (!BZ (!Am Ay (pv 1) (!Ad) (λ_ _=>rfl))) (!JA rfl (!AZ (@Aq _ _ (3) _ Ci.nd rfl (by trivial) (by trivial)) (!AZ (@Aq _ _ (4) _ Ci.nd rfl (by trivial) (by trivial)) (!Ed)))) (!Ag (@Au _ _ (5) _ _ _ _ Ci.nd rfl (by trivial) (@DM _ ["_law_entry","_law_keeper"] [none,some 3] _ _ _ _ _ _ _ _ _ _ _ rfl (!BZ (!Am Ay (pv 1) (!Ad) (λ_ _=>rfl))) (by rfl) rfl (by repeat (first|exact trivial|refine⟨rfl,?_⟩)) (by repeat (first|exact trivial|refine⟨λh=>(by first|exact⟨_,rfl⟩|cases h),?_⟩)) (λC s H fp=>⟨(@Aq _ _ (0) _ (show(["_law_entry","_law_keeper"]:List Str).Nodup by decide +kernel) rfl (by trivial) (by trivial)),(!B2 (@PW.pt _ _ _ (!FI (!AC B9 (!Am (AJ (K:=K) (by rfl)) (pv 0) (!Ad) (λ_ _=>rfl)) (!Ad) (AL _)) (!EX (!AC B9 (!Am (AJ (K:=K) (by rfl)) (pv 0) (!Ad) (λ_ _=>rfl)) (pv 1) (AL _)))))),(!Am (AJ (K:=K) (by rfl)) (pv 0) (!Ad) (λ_ _=>rfl))⟩) (by intro _;rfl)) (by rfl) (by trivial)) (!Ag (@Fo _ ["_law_entry","_law_stems"] [none,some 5] (6) _ _ _ _ _ _ _ _ _ _ _ _ _ _ Ci.nd rfl (by trivial) rfl (!BZ (!Am Ay (pv 1) (!Ad) (λ_ _=>rfl))) (by rfl) rfl (by repeat (first|exact trivial|refine⟨rfl,?_⟩)) (by repeat (first|exact trivial|refine⟨λh=>(by first|exact⟨_,rfl⟩|cases h),?_⟩)) (λC s H fp=>⟨(@Aq _ _ (0) _ (show(["_law_entry","_law_stems"]:List Str).Nodup by decide +kernel) rfl (by trivial) (by trivial)),(!B2 (@PW.pt _ _ _ (!L8 (!AC (Jl (K:=K) (by rfl)) (!Am (AJ (K:=K) (by rfl)) (pv 0) (!Ad) (λ_ _=>rfl)) (pv 1)) (!Jx (@PW.pt _ _ _ (!FI (!AC B9 (!Am (AJ (K:=K) (by rfl)) (pv 0) (!Ad) (λ_ _=>rfl)) (!Ad) (AL _)) (!EX (!AC (Jl (K:=K) (by rfl)) (!Am (AJ (K:=K) (by rfl)) (pv 0) (!Ad) (λ_ _=>rfl)) (pv 1))))))))),(!Am (AJ (K:=K) (by rfl)) (pv 0) (!Ad) (λ_ _=>rfl))⟩) (by intro _;rfl) (by rfl) (by trivial)) (!Al (!Ec hu (pv 2) (pv 3) (!AU D1 (by trivial) rfl (!Ab (pv 0) (!Ab (pv 6) (!Ah)))))))) (by intro _;rfl)) (!Al (!Av (pv 2))))),?_⟩
 try dsimp only[Bw,Cx.nox,Cx.wish]
 refine Ax λdh ndh=>?_
 have s1:=Ai ndh (.dK []);have hdh:(upd H dh (.dK [])) dh=some (.dK []):=Ac;dsimp only[Az];generalize upd H dh (.dK [])=H1 at s1 hdh;refine Br (t:=Iw _ _ _) (λσ' H'=>∃(hs:List (Str×Addr)) (v3 v4 v5 v6:Option V),σ'=[some (.ref d),some (.ref h),some (.ref dh),v3,v4,v5,v6]/\An H H'/\Hl H' dh cs ps hs/\hs.map (·.1)=ks.map (·.2.1)) (λN hN=>?_) ?_
 ·refine⟨_,rfl,h,_,_,_,rfl,rfl,AG.of (s1.get hd.at_),Ap (j:=1) rfl,ka,rfl,⟨_,AG.of (s1.get hd.kt)⟩,?_⟩;refine IS (K:=K) (a:=ka) (xs:=ks.map λp=>V.ref p.1) (λi σ H'=>∃(hs:List (Str×Addr)) (v3 v4 v5 v6:Option V),σ=[some (.ref d),some (.ref h),some (.ref dh),v3,v4,v5,v6]/\An H H'/\Hl H' dh cs ps hs/\hs.map (·.1)=(ks.take i).map (·.2.1)) ⟨[],none,none,none,none,rfl,s1,⟨hdh,(λ_ h=>nomatch h),by simp⟩,rfl⟩ (by rintro i σ H' _ ⟨_,_,_,_,_,_,s',_⟩;exact AG.of (s'.get hd.kt)) ?_ ?_
  ·rintro i x σ H2 hi ⟨hs,v3,v4,v5,v6,rfl,s2,hl2,ehs⟩
   obtain⟨k,rfl,hk⟩:=Hh hi;have hd2:=hd.same s2;dsimp only[Az];refine⟨k.1,_,rfl,AG.of (hd2.ke k (az hk)),rfl,_,_,rfl,_,_,rfl,rfl,?_⟩;have k8:=(aw.mp hk).1;have kl:=hd.kl;have el:=hd.el;have lh:hs.length<=8:=by have:=congrArg List.length ehs;rw[aa,aa,aP] at this;omega
   have at5:∀x∈ps,∃ta,H2 x.1=some (.tup [.str x.2.nm,.int x.2.kd,.str x.2.ow,kV x.2.og,.ref ta])/\GT H2 ta x.2.tg:=λx hx=>hd2.en x hx
   refine Ax ⟨_,rfl,h,_,_,_,rfl,rfl,AG.of hd2.at_,Ap (j:=2) rfl,ea,rfl,⟨_,AG.of hd2.et⟩,BW (ps:=ps) (Rt k.2.1) (λx=>.str x.2.nm) (By hd2.et) (by omega) (λx hx H' R s' hR=>?_) (λx hx px H' R s' hR=>?_) λls H3 nls s3 hls=>?_⟩
   ·obtain⟨ta,h1,_⟩:=at5 x hx;exact FR _ _ (λR q=>⟨_,rfl,x.1,_,_,_,rfl,rfl,AG.of (s'.get h1),Ap (j:=1) rfl,rfl,_,rfl,q⟩) (λ_ R q=>⟨_,rfl,x.1,_,_,_,rfl,rfl,AG.of (s'.get h1),Ap (j:=2) rfl,_,rfl,rfl,_,rfl,q⟩) hR
   ·obtain⟨ta,h1,_⟩:=at5 x hx;exact⟨_,rfl,x.1,_,_,_,rfl,rfl,AG.of (s'.get h1),Ap (j:=0) rfl,hR H' (An.refl _)⟩
   have hls:H3 ls=some (.lst (Se ps k.2.1)):=hls;have fl:(Se ps k.2.1).all Ez=true:=aX.mpr λv hv=>by
    obtain⟨x,_,rfl⟩:=ah.mp hv;rfl
   have hd3:=hd2.same s3;have e23:=s2.trans s3;dsimp only[Az];refine Ax ⟨_,rfl,h,_,_,_,rfl,rfl,AG.of hd3.at_,Ap (j:=2) rfl,ea,rfl,⟨_,AG.of hd3.et⟩,Gq (ps:=ps) (OP (Se ps k.2.1)) (λx y H'=>∃ta,y=.ref ta/\GT H' ta x.2.tg) (λx y H1 H2 ⟨ta,e,h⟩ s=>⟨ta,e,s.get h⟩) (λx y H1 l us us' ⟨ta,e,h⟩ hl=>⟨ta,e,KT.lst hl _ _ _ h⟩) (By hd3.et) (by omega) (λx hx H' R s' hR=>?_) (λx hx px H' R s' hR=>?_) λlt H4 ys nlt s4 hlt ey hys=>?_⟩
   ·obtain⟨ta,h1,_⟩:=at5 x hx;have h1:=s'.get (s3.get h1);exact UG _ _ (λR q=>⟨_,rfl,x.1,_,_,_,rfl,rfl,AG.of h1,Ap (j:=0) rfl,_,rfl,ls,_,rfl,.inl (AB.of (s'.get hls)),rfl,fl,_,rfl,q⟩) (λ_ R q=>FR _ _ (λR q=>⟨_,rfl,x.1,_,_,_,rfl,rfl,AG.of h1,Ap (j:=1) rfl,rfl,_,rfl,q⟩) (λ_ R q=>⟨_,rfl,x.1,_,_,_,rfl,rfl,AG.of h1,Ap (j:=2) rfl,_,rfl,ls,_,rfl,.inl (AB.of (s'.get hls)),rfl,fl,_,rfl,q⟩) q) (hR H' (An.refl _))
   ·obtain⟨ta,h1,h2⟩:=at5 x hx;exact⟨_,rfl,x.1,_,_,_,rfl,rfl,AG.of (s'.get (s3.get h1)),Ap (j:=4) rfl,hR _ H' (An.refl _) ⟨ta,rfl,s'.get (s3.get h2)⟩⟩
   obtain⟨rs,e1,e2,hrs⟩:=KH (R:=λ(x:Addr×HE) t=>GT H4 t x.2.tg) hys;have s24:=e23.trans s4;have lrs:rs.length<=12:=by
    have:=congrArg List.length e2;rw[ey,aa] at this;have:=bE (OP (Se ps k.2.1)) ps;omega
   have hlt:Fy H4 lt (rs.map λr=>(r.2,r.1.2.tg)):=⟨by rw[hlt,e1,ar];rfl,λp hp=>by obtain⟨r,hr,rfl⟩:=ah.mp hp;exact hrs r hr⟩
   dsimp only[Az];refine⟨_,rfl,_,rfl,d,lt,cs,rs.map λr=>(r.2,r.1.2.tg),Ok,rfl,bx.same s24,hlt,by rw[aa];omega,cl,λp hp=>?_,λdd H5 s5 ndd hdd=>?_⟩
   ·obtain⟨r,hr,rfl⟩:=ah.mp hp;refine okw r.1 ?_;have:r.1∈rs.map (·.1):=aO hr;rw[e2,ey] at this;exact(bz.mp this).1
   have eh:EZ cs ((rs.map λr=>(r.2,r.1.2.tg)).map (·.2.1))=Ra cs ps k.2.1:=by
    unfold Ra;rw[<-ey,<-e2,ar,ar];rfl
   rw[eh] at hdd;have hl5:=hl2.same (s3.trans (s4.trans s5));refine⟨_,rfl,_,rfl,dh,_,rfl,HF.k (k:=.inr k.2.1) hl5.at_ (AO (by rw[aa];omega)),?_⟩;have hn:k.2.1∉hs.map (·.1):=λh=>by
    rw[ehs] at h;obtain⟨k',hk',e⟩:=ah.mp h;obtain⟨j,hj⟩:=bM hk';have jl:=(aw.mp hj).1;rw[aP] at jl;rw[dD,aE (by omega)] at hj;have:=aS.mp hd.kn j i (by rw[aa];omega) (by rw[aa];exact k8) (by omega);rw[bV,bV,(aw.mp hj).2,(aw.mp hk).2] at this;exact this e
   have put:putK (hs.map λr=>(.inr r.1,.ref r.2)) (.inr k.2.1) (.ref dd)=(hs++[(k.2.1,dd)]).map λr=>((.inr r.1,.ref r.2):Key×V):=by
    rw[C8 _ (FK (k:=λr:Str×Addr=>.inr r.1) (g:=λr=>.ref r.2) (z:=.inr k.2.1) λr hr e=>hn (by rw[<-gp e];exact aO (f:=λr:Str×Addr=>r.1) hr)),aj];rfl
   rw[put];have ndd4:dd≠dh:=λw=>by rw[w,(hl2.same (s3.trans s4)).at_] at ndd;cases ndd
   refine⟨hs++[(k.2.1,dd)],_,_,_,_,rfl,AI (s24.trans s5) ndh _,⟨Ac,λr hr=>?_,?_⟩,?_⟩
   ·rcases au.mp hr with hr|hr
    ·have:=hl5.ea r hr;rw[Af λw=>?_]
     ·exact this
     ·have ea:=hl5.ea r hr;rw[w,hl5.at_] at ea;have ea:=HO.dK.inj (aA ea);have m:((.inr r.1,.ref r.2):Key×V)∈AS (Ra cs ps r.1):=by
       rw[<-ea];exact aO (f:=λr:Str×Addr=>((.inr r.1,.ref r.2):Key×V)) hr
      obtain⟨z,_,e⟩:=ah.mp m;cases e
    ·cases ai.mp hr;rw[Af ndd4];exact hdd
   ·rw[aj];exact bB.mpr ⟨hl2.nd,by simp,λa ha c hc e=>hn (by rw[ai.mp hc] at e;have e:a=k.2.1:=e;rw[<-e];exact ha)⟩
   ·rw[aj,ehs,aR,hk,aj];rfl
  ·rintro σ H2 ⟨hs,v3,v4,v5,v6,rfl,s2,hl2,ehs⟩
   rw[aa,cb] at ehs;exact hN _ _ ⟨hs,_,_,_,_,rfl,s2,hl2,ehs⟩
 ·rintro σ' H2 ⟨hs,v3,v4,v5,v6,rfl,s2,hl2,ehs⟩
  exact⟨_,rfl,q dh hs H2 s2 ndh hl2 ehs⟩
end
open M06
section
variable {P:Program}{w:World}{K:W.Frag}{mg:Str->Option Value}{base:Heap}{f Ak Aa Ae:Addr}{XC:Nat->Addr}{fd:FuncData}
theorem Kz {B:BM}{S:Int->Prop}(cl:∀z,S z->∀t∈O2 B z,S t):∀(n:Nat) (ws fs:List Int),(∀z∈ws,S z)->(∀z∈fs,S z)->∀z∈LI B n ws fs,S z
 |0,_,fs,_,hf,z,hz=>hf z hz
 |n+1,ws,fs,hw,hf,z,hz=>by
  rcases dr ws with rfl|⟨ws',y,rfl⟩
  ·rw[IT] at hz;exact hf z hz
  ·rw[du] at *;rw[He] at hz;have sy:=hw y (aC _ ax)
   by_cases hy:y∈fs
   ·rw[aE hy] at hz;exact Kz cl n ws' fs (λx hx=>hw x (aJ _ hx)) hf z hz
   ·rw[aH hy] at hz;refine Kz cl n _ _ (λx hx=>?_) (λx hx=>?_) z hz
    ·rcases au.mp hx with hx|hx
     ·exact hw x (aJ _ hx)
     ·exact cl y sy x hx
    ·rcases au.mp hx with hx|hx
     ·exact hf x hx
     ·rw[ai.mp hx];exact sy
theorem Lh {cs:List Cz}{Ok:Int->Prop}(cl:HS (bm cs) Ok){ws:List Int}(hw:∀z∈ws,Ok z):(EZ cs ws).Nodup/\(∀z∈ws,z∈EZ cs ws)/\(∀z∈EZ cs ws,Ok z)/\∀z∈EZ cs ws,∀t∈O2 (bm cs) z,t∈EZ cs ws:=by
 obtain⟨h1,_,h3,h4,h5⟩:=MV cl (N:=cs.map (·.tg.1)) (λz hz=>by
  obtain⟨b,eb,_⟩:=cl z hz;obtain⟨c,hc,e,_⟩:=DO eb;rw[<-e];exact aO (f:=λc:Cz=>c.tg.1) hc) (ws.length+4*cs.length) ws [] (by rw[aa];simp) bS hw (λ_ h=>nomatch h) (λ_ h=>nomatch h)
 exact⟨h1,h3,h4,h5⟩
theorem LJ {cs:List Cz}{Ok:Int->Prop}(cl:HS (bm cs) Ok){ws us:List Int}(hw:∀z∈ws,Ok z)(hs:∀z∈us,z∈ws):∀z∈EZ cs us,z∈EZ cs ws:=by
 obtain⟨_,h2,_,h4⟩:=Lh cl hw;exact Kz h4 _ us [] (λz hz=>h2 z (hs z hz)) λ_ h=>nomatch h
def DL (K:W.Frag)(CP CT:Addr):Sp:=λvs H Q _=>∃p q cs e us,vs=[.ref p,.int e.z]/\Fl CP CT H p q cs/\e∈cs/\H e.l=some (.lst us)/\∀l,H l=none->Q (.ref l) (upd H l (.lst us))
theorem Lk (T:Txt K mg Ak Aa Ae XC)(F:Fun K "tags" "Pool.tags" CU f fd):FnOk P w K mg base CZ 1 f fd ["self","number"] (DL K Ae Aa):=by
 exists K1
 ·obtain⟨p,q,cs,e,us,rfl,_⟩:=h;rfl
 obtain⟨p,q,cs,e,us,rfl,pa,he,hl,hq⟩:=h;have hu:=BP hr;refine⟨_,(!Al (!Av (!Bb C4 (by rfl) T.b_list DN (!Ab (!BE (!Cm hu (!BE (pv 0)) (pv 1) (λ_ _=>rfl))) (!Ah))))),?_⟩
 try dsimp only[Bw,Cx.nox,Cx.wish]
 obtain⟨h1,h2,h4,nd⟩:=pa;have g:Cq H q.dt (.int e.z) (some (.ref e.c)):=by
  have:=Cq.k (k:=Sum.inl e.z) h2;rw[HD nd he] at this;exact this
 exact⟨_,rfl,p,Ae,q.dp,_,_,rfl,h1,T.cl_Pool,T.n_Pool_taken,rfl,_,rfl,q.dt,_,rfl,g,e.c,Aa,e.dx,_,_,rfl,(h4 e he).1,T.cl_TakenCell,T.n_TakenCell_named,rfl,e.l,_,rfl,.inl (AB.of hl),hq⟩
theorem U4 {cs:List Cl}(hz:∀(i:Nat) e,cs[i]?=some e->e.z=(i:Int)+1):(cs.map (·.z)).Pairwise (·<=·):=by
 refine aS.mpr λi j hi hj ij=>?_
 rw[aa] at hi hj;rw[bV,bV,hz i _ (ae hi),hz j _ (ae hj)];omega
theorem IZ:∀{a b:List Int},a.Perm b->a.Pairwise (·<=·)->b.Pairwise (·<=·)->a=b
 |[],b,p,_,_=>(List.nil_perm.mp p).symm
 |x::a,[],p,_,_=>absurd p.length_eq (by simp)
 |x::a,y::b,p,ha,hb=>by
  rw[List.pairwise_cons] at ha hb;have e:x=y:=by
   have m1:x∈y::b:=p.mem_iff.mp ax;have m2:y∈x::a:=p.mem_iff.mpr ax;rcases aL.mp m1 with e|m1
   ·exact e
   rcases aL.mp m2 with e|m2
   ·exact e.symm
   have l1:=ha.1 y m2;have l2:=hb.1 x m1;omega
  subst e;rw[IZ p.cons_inv ha.2 hb.2]
theorem Qh {a b:Int}:decide (V.int a=V.int b)=decide (a=b):=by
 by_cases z:a=b
 ·rw[aI z,aI (by rw[z])]
 ·rw[aZ z,aZ λh=>z (V.int.inj h)]
theorem Ta {a b:Str}:decide (V.str a=V.str b)=decide (a=b):=by
 by_cases z:a=b
 ·rw[aI z,aI (by rw[z])]
 ·rw[aZ z,aZ λh=>z (V.str.inj h)]
def DB (K:W.Frag)(CP CT:Addr):Sp:=λvs H Q _=>∃p q cs bs,vs=[.ref p]/\PAt CP CT H p q cs bs/\cs.length<=100/\∀l,H l=none->Q (.ref l) (upd H l (.lst ((cs.map (·.z)).map V.int)))
theorem ID (T:Txt K mg Ak Aa Ae XC)(F:Fun K "numbers" "Pool.numbers" BO f fd):FnOk P w K mg base CZ 1 f fd ["self"] (DB K Ae Aa):=by
 exists Iy
 ·obtain⟨p,q,cs,bs,rfl,_⟩:=h;rfl
 obtain⟨p,q,cs,bs,rfl,pa,few,hq⟩:=h;have hu:=BP hr;refine⟨_,(!Al (!Av (!AA (HZ rfl) (by rfl) T.b_sorted CY (!Ab (!BE (pv 0)) (!Ah))))),?_⟩
 try dsimp only[Bw,Cx.nox,Cx.wish]
 refine⟨_,rfl,p,Ae,q.dp,_,_,rfl,pa.t.1,T.cl_Pool,T.n_Pool_taken,rfl,q.dt,_,cs.map (·.z),rfl,pa.t.2.1,by unfold KF;rw[ar,ar];rfl,.inr ⟨by rw[aa];omega,U4 pa.z⟩,λms l pm so nl=>?_⟩;rw[IZ pm so (U4 pa.z)];exact hq l nl
def FG (K:W.Frag):Sp:=λvs H Q _=>∃(h:Addr) (ag:Int) (ka ea:Addr) (ks:List (Addr×Str×Int)) (ps:List (Addr×HE)),vs=[.ref h]/\Hd H h ag ka ea ks ps/\∀l H',An H H'->H l=none->H' l=some (.lst ((ps.filter λx=>decide (x.2.kd=1)).map λp=>V.ref p.1))->Q (.ref l) H'
theorem L3 (T:Txt K mg Ak Aa Ae XC)(F:Fun K "stems_in" "stems_in" Df f fd):FnOk P w K mg base CZ 1 f fd ["head"] (FG K):=by
 exists LR
 ·obtain⟨h,ag,ka,ea,ks,ps,rfl,_⟩:=h;rfl
 obtain⟨h,ag,ka,ea,ks,ps,rfl,hd,q⟩:=h;refine⟨_,(!Al (!Av (@BA _ ["named"] _ _ _ _ _ _ _ _ _ _ rfl (!BZ (!Am Ay (pv 0) (!Ad) (λ_ _=>rfl))) (by decide +kernel) (λC s H fp=>⟨(@Aq _ _ (0) _ (show(["named"]:List Str).Nodup by decide +kernel) rfl (by trivial) (by trivial)),(!B2 (!AC B9 (!Am (AJ (K:=K) (by rfl)) (pv 0) (!Ad) (λ_ _=>rfl)) (!Bi rfl T.c_STEM) (AL _))),(pv 0)⟩) (by intro _;rfl)))),?_⟩
 try dsimp only[Bw,Cx.nox,Cx.wish]
 have el:=hd.el;refine⟨_,rfl,h,_,_,_,rfl,rfl,AG.of hd.at_,Ap (j:=2) rfl,ea,rfl,⟨_,AG.of hd.et⟩,BW (ps:=ps) (λx=>decide (x.2.kd=1)) (λx=>.ref x.1) (By hd.et) (by omega) (λx hx H' R s' hR=>?_) (λx hx _ H' R s' hR=>⟨_,rfl,hR H' (An.refl _)⟩) λl H1 nl s1 hl=>q l H1 s1 nl hl⟩;obtain⟨ta,h1,_⟩:=hd.en x hx;refine⟨_,rfl,x.1,_,_,_,rfl,rfl,AG.of (s'.get h1),Ap (j:=1) rfl,rfl,_,rfl,?_⟩;rw[Qh];exact hR
end
open M06
section
variable {P:Program}{w:World}{K:W.Frag}{mg:Str->Option Value}{base:Heap}{f Ak Aa Ae:Addr}{XC:Nat->Addr}{fd:FuncData}{PT:Addr}
abbrev LQ:Str:=PySem.Str.ofString "seals_of"++PySem.Str.ofString ".<locals>."++PySem.Str.ofString "<lambda>"
abbrev LP:Pos:=⟨198,29,198,49⟩
def KB (H H':Hp):Prop:=∀a o,H a=some o->(∀ps,o≠.tbl ps)->H' a=some o
theorem KB.of {H H':Hp}(s:An H H'):KB H H':=λ_ _ h _=>s.get h
theorem KB.tup {H H':Hp}(h:KB H H'):∀c xs,H c=some (.tup xs)->H' c=some (.tup xs):=λc xs e=>h c _ e λ_ z=>by cases z
theorem KB.lst {H H':Hp}(h:KB H H'){c:Addr}{xs:List V}(e:H c=some (.lst xs)):H' c=some (.lst xs):=h c _ e λ_ z=>by cases z
theorem KB.dk {H H':Hp}(h:KB H H'){c:Addr}{kvs:List (Key×V)}(e:H c=some (.dK kvs)):H' c=some (.dK kvs):=h c _ e λ_ z=>by cases z
structure ST (PT:Addr) (H H':Hp):Prop where
 s:Dc PT H H'
 t:Dz PT LQ LP H
 t':Dz PT LQ LP H'
theorem ST.kb {H H':Hp}(h:ST PT H H'):KB H H':=λ_ _ e n=>h.s.get h.t e n
theorem ST.trans {H H' H'':Hp}(h:ST PT H H')(k:ST PT H' H''):ST PT H H'':=⟨h.s.trans k.s,h.t,k.t'⟩
theorem ST.of {H H':Hp}(t:Dz PT LQ LP H)(s:An H H'):ST PT H H':=⟨s.t PT,t,t.same s⟩
theorem ST.on {H H' H'':Hp}(h:ST PT H H')(s:An H' H''):ST PT H H'':=h.trans (ST.of h.t' s)
theorem ST.new {H H':Hp}(h:ST PT H H'){l:Addr}(nl:H l=none){o u:HO}(hl:H' l=some u)(nt:∀ps,u≠.tbl ps)(nt2:∀c,u≠Lw c LQ):ST PT H (upd H' l o):=by
 refine⟨λb v n e=>?_,h.t,?_⟩
 ·rw[Af λw=>by rw[w,nl] at e;cases e];exact h.s b v n e
 ·rcases h.t' with e|⟨c,e,e2⟩
  ·exact .inl (by rw[Af λw=>by rw[w,hl] at e;exact nt _ (aA e)];exact e)
  ·exact .inr ⟨c,by rw[Af λw=>by rw[w,hl] at e;exact nt _ (aA e)];exact e,by rw[Af λw=>by rw[w,hl] at e2;exact nt2 _ (by rw[<-w] at *;exact(aA e2))];exact e2⟩
theorem Hd.keep {H H':Hp}{h:Addr}{ag:Int}{ka ea:Addr}{ks:List (Addr×Str×Int)}{ps:List (Addr×HE)}(a:Hd H h ag ka ea ks ps)(k:KT H H'):Hd H' h ag ka ea ks ps:=
 ⟨k _ _ a.at_,k _ _ a.kt,λx hx=>k _ _ (a.ke x hx),a.kn,a.kl,k _ _ a.et,λp hp=>let⟨ta,e1,e2⟩:=a.en p hp;⟨ta,k _ _ e1,k _ _ e2⟩,a.og,a.nd,a.el⟩
def Oz (sm:Str)(x:Addr×HE):Bool:=decide (x.2.kd=2)&&decide (x.2.ow=sm)
def FQ (K:W.Frag)(PT:Addr):Sp:=λvs H Q _=>∃(h:Addr) (sm:Str) (ag:Int) (ka ea:Addr) (ks:List (Addr×Str×Int)) (ps:List (Addr×HE)),vs=[.ref h,.str sm]/\Hd H h ag ka ea ks ps/\(Jb (ps.map (·.2))).Nodup/\Dz PT LQ LP H/\
 ∀(us:List (Addr×HE)) l H',us.Perm (ps.filter (Oz sm))->ST PT H H'->H l=none->H' l=some (.lst (us.map λp=>V.ref p.1))->Q (.ref l) H'
theorem L1 (T:Txt K mg Ak Aa Ae XC)(F:Fun K "seals_of" "seals_of" Di f fd)(LA:LamAt K mg base fd.code PT):FnOk P w K mg base CZ 1 f fd ["head","stem"] (FQ K PT):=by
 refine F.okC Ir (λvs H Q E h=>?_) (λcdv A outer s H vs Q E hcd hr h=>?_)
 ·obtain⟨h,sm,ag,ka,ea,ks,ps,rfl,_⟩:=h;rfl
 subst hcd;obtain⟨h,sm,ag,ka,ea,ks,ps,rfl,hd,nd,tb,q⟩:=h;refine⟨_,(!Ag (@Fo _ ["named","stem"] [none,some 1] (2) _ _ _ _ _ _ _ _ _ _ _ _ _ _ Ir.nd rfl (by trivial) rfl (!BZ (!Am Ay (pv 0) (!Ad) (λ_ _=>rfl))) (by rfl) rfl (by repeat (first|exact trivial|refine⟨rfl,?_⟩)) (by repeat (first|exact trivial|refine⟨λh=>(by first|exact⟨_,rfl⟩|cases h),?_⟩)) (λC s H fp=>⟨(@Aq _ _ (0) _ (show(["named","stem"]:List Str).Nodup by decide +kernel) rfl (by trivial) (by trivial)),(!B2 (@PW.pt _ _ _ (!FI (!AC B9 (!Am (AJ (K:=K) (by rfl)) (pv 0) (!Ad) (λ_ _=>rfl)) (!Bi rfl T.c_SEAL) (AL _)) (!EX (!AC B9 (!Am (AJ (K:=K) (by rfl)) (pv 0) (!Ad) (λ_ _=>rfl)) (pv 1) (AL _)))))),(pv 0)⟩) (by intro _;rfl) (by rfl) (by trivial)) (!Al (!Av (@QH _ _ _ _ _ _ (3) _ _ _ _ _ _ _ _ _ _ (hr.mono (ak _)) ⟨λ_ _ _ _ _ _=>rfl,λ_=>rfl,λ_=>rfl,rfl,rfl,rfl,rfl,by decide,by decide⟩ LA (by decide) rfl rfl T.b_sorted (!Ab (pv 2) (!Ah)) (by rfl) (by rfl))))),?_⟩
 try dsimp only[Bw,Cx.nox,Cx.wish]
 have el:=hd.el;refine⟨_,rfl,h,_,_,_,rfl,rfl,AG.of hd.at_,Ap (j:=2) rfl,ea,rfl,⟨_,AG.of hd.et⟩,?_⟩;refine BW (ps:=ps) (g:=λp=>V.ref p.1) (Oz sm) (λp=>V.ref p.1) (By hd.et) (by omega) (λp hp H' R s' hR=>?_) (λp hp hs H' R s' hR=>⟨_,rfl,hR H' (An.refl _)⟩) λl H7 n7 s7 h7=>?_
 ·obtain⟨ta,h1,_⟩:=hd.en p hp;refine FR _ _ (λR q=>⟨_,rfl,p.1,_,_,_,rfl,rfl,AG.of (s'.get h1),Ap (j:=1) rfl,rfl,_,rfl,by rw[Qh];exact q⟩) (λ_ R q=>⟨_,rfl,p.1,_,_,_,rfl,rfl,AG.of (s'.get h1),Ap (j:=2) rfl,_,rfl,rfl,_,rfl,by rw[Ta];exact q⟩) hR
 have lf:=bE (Oz sm) ps;have ndq:((ps.filter (Oz sm)).map λp=>Mv p.2).Nodup:=by
  have sub:((ps.filter (Oz sm)).map λp=>Mv p.2).Sublist (Jb (ps.map (·.2))):=by
   unfold Jb;rw[List.filter_map,ar];have e:ps.filter (Oz sm)=(ps.filter λp=>decide (p.2.kd=2)).filter λp=>decide (p.2.ow=sm):=by
    rw[List.filter_filter];refine List.filter_congr λp _=>?_
    unfold Oz;rw[Bool.and_comm]
   rw[e];exact(gE).map _
  exact nd.sublist sub
 have inq:∀p∈ps.filter (Oz sm),p∈ps/\p.2.kd=2:=λp hp=>by
  obtain⟨h1,h2⟩:=bz.mp hp;unfold Oz at h2;rw[aU] at h2;exact⟨h1,aQ h2.1⟩
 generalize ps.filter (Oz sm)=qs at h7 ndq q lf inq;refine⟨_,rfl,l,qs.map λp=>(p.1,Mv p.2),rfl,AB.of (by rw[ar];exact h7),by rw[aa];omega,λt ht=>?_,by rw[ar];exact ndq,tb.same s7,λus p H2 up us2 st tb2 np=>?_⟩
 ·obtain⟨p,hp,rfl⟩:=ah.mp ht;obtain⟨h1,k2⟩:=inq p hp;obtain⟨ta,e1,_⟩:=hd.en p h1;rw[Pe (hd.og p h1) k2] at e1;exact⟨_,AG.of (s7.get e1),rfl⟩
 ·obtain⟨us',p1,rfl⟩:=Gk up rfl;rw[ar];have S:ST PT H (upd H2 p (.lst (us'.map ((λt:Addr×Int=>V.ref t.1)∘λp:Addr×HE=>(p.1,Mv p.2))))):=⟨((s7.t PT).trans st).trans ((Ai np _).t PT),tb,tb2.same (Ai np _)⟩
  exact q us' p _ p1 S (((s7.t PT).trans st).free tb2 np) Ac
def Pw (ts:List (Addr×HE))(k:Str)(x:Addr×HE):Prop:=(x∈ts/\x.2.ow=k)\/(x.2.kd=2/\∃y∈ts,y.2.ow=k/\x.2.ow=y.2.nm)
theorem Gi {ts:List (Addr×HE)}{k:Str}{x y:Addr×HE}:Pw (ts++[x]) k y↔Pw ts k y\/(x.2.ow=k/\(y=x\/(y.2.kd=2/\y.2.ow=x.2.nm))):=by
 unfold Pw;constructor
 ·rintro(⟨hm,ho⟩|⟨k2,z,hm,ho,hn⟩)
  ·rcases au.mp hm with hm|hm
   ·exact .inl (.inl ⟨hm,ho⟩)
   ·have e:=ai.mp hm;exact .inr ⟨by rw[<-e];exact ho,.inl e⟩
  ·rcases au.mp hm with hm|hm
   ·exact .inl (.inr ⟨k2,z,hm,ho,hn⟩)
   ·have e:=ai.mp hm;rw[e] at ho hn;exact .inr ⟨ho,.inr ⟨k2,hn⟩⟩
 ·rintro((⟨hm,ho⟩|⟨k2,z,hm,ho,hn⟩)|⟨ho,rfl|⟨k2,hn⟩⟩)
  ·exact .inl ⟨aJ _ hm,ho⟩
  ·exact .inr ⟨k2,z,aJ _ hm,ho,hn⟩
  ·exact .inl ⟨aC _ ax,ho⟩
  ·exact .inr ⟨k2,x,aC _ ax,ho,hn⟩
theorem ST.lst {H H':Hp}(h:ST PT H H'){l:Addr}(nl:H l=none){us us':List V}(hl:H' l=some (.lst us)):ST PT H (upd H' l (.lst us')):=h.new nl hl (λ_ z=>by cases z) (λ_ z=>by cases z)
def EJ (K:W.Frag)(PT:Addr):Sp:=λvs H Q _=>∃(h:Addr) (k:Str) (ag:Int) (ka ea:Addr) (ks:List (Addr×Str×Int)) (ps:List (Addr×HE)),vs=[.ref h,.str k]/\Hd H h ag ka ea ks ps/\(Jb (ps.map (·.2))).Nodup/\Dz PT LQ LP H/\
 ∀l (rs:List (Addr×Tg)) H',ST PT H H'->H l=none->Fy H' l rs->rs.length<=200->(∀r∈rs,∃x∈ps,Pw (ps.filter λx=>decide (x.2.kd=1)) k x/\r.2=x.2.tg)->(∀x∈ps,Pw (ps.filter λx=>decide (x.2.kd=1)) k x->∃r∈rs,r.2=x.2.tg)->Q (.ref l) H'
theorem Kx (T:Txt K mg Ak Aa Ae XC)(F:Fun K "tags_kept" "tags_kept" CK f fd)(GB:Def P w K mg base 1 "stems_in" ["head"] (FG K))(GQ:Def P w K mg base 1 "seals_of" ["head","stem"] (FQ K PT)):FnOk P w K mg base CZ 2 f fd ["head","keeper"] (EJ K PT):=by
 exists EV
 ·obtain⟨h,k,ag,ka,ea,ks,ps,rfl,_⟩:=h;rfl
 obtain⟨h,k,ag,ka,ea,ks,ps,rfl,hd,nd,tb,q⟩:=h;have hu:=BP hr;have hu9:=C1 hr;refine⟨_,(!Ag (@Au _ _ (2) _ _ _ _ EV.nd rfl (by trivial) (!A5 (!Ah)) (by rfl) (by trivial)) (!Ag (!BJ aW rfl (!C0 (!AU GB (by trivial) rfl (!Ab (pv 0) (!Ah)))) (@Aq _ _ (3) _ EV.nd rfl (by trivial) (by trivial)) (!Al (!BQ (!AC B9 (!Am Ay (pv 3) (!Ad) (λ_ _=>rfl)) (pv 1) (AL _)) (!Ag (!Bc (!CA aK bg bf Bo (pv 2) (!Ab (!Am Ay (pv 3) (!Ad) (λ_ _=>rfl)) (!Ah)))) (!Al (!Bc (!CA aK cg cf DU (pv 2) (!Ab (@BA _ ["seal"] _ _ _ _ _ _ _ _ _ _ rfl (!C0 (!AU GQ (by trivial) rfl (!Ab (pv 0) (!Ab (!Am Ay (pv 3) (!Ad) (λ_ _=>rfl)) (!Ah))))) (by decide +kernel) (λC s H fp=>⟨(@Aq _ _ (0) _ (show(["seal"]:List Str).Nodup by decide +kernel) rfl (by trivial) (by trivial)),(!A6),(!Am (AJ (K:=K) (by rfl)) (pv 0) (!Ad) (λ_ _=>rfl))⟩) (by intro _;rfl)) (!Ah)))))) (!AX))) (by intro _;rfl)) (!Al (!Av (pv 2))))),?_⟩
 try dsimp only[Bw,Cx.nox,Cx.wish]
 have el:=hd.el;refine Ax ⟨Fv,λlt nlt=>?_⟩;have s1:=Ai nlt (.lst []);have hlt:(upd H lt (.lst [])) lt=some (.lst []):=Ac;dsimp only[Az];generalize upd H lt (.lst [])=H1 at s1 hlt;have S1:=ST.of tb s1;refine Br (t:=Iw _ _ _) (λσ' H'=>∃(rs:List (Addr×Tg)) (v3:Option V),σ'=[some (.ref h),some (.str k),some (.ref lt),v3]/\ST PT H H'/\Fy H' lt rs/\rs.length<=200/\(∀r∈rs,∃x∈ps,Pw (ps.filter λx=>decide (x.2.kd=1)) k x/\r.2=x.2.tg)/\(∀x∈ps,Pw (ps.filter λx=>decide (x.2.kd=1)) k x->∃r∈rs,r.2=x.2.tg)) (λN hN=>?_) ?_
 ·refine⟨_,rfl,h,ag,ka,ea,ks,ps,rfl,hd.same s1,λls H2 s2 nls hls=>?_⟩;have nle:ls≠lt:=λw=>by rw[w,hlt] at nls;cases nls
  have lss:=bE (λx:Addr×HE=>decide (x.2.kd=1)) ps;have inps:∀x∈ps.filter (λx=>decide (x.2.kd=1)),x∈ps:=λx hx=>(bz.mp hx).1
  generalize ps.filter (λx=>decide (x.2.kd=1))=ss at hls hN lss inps;refine⟨ls,rfl,⟨_,AB.of hls⟩,EF (K:=K) (a:=ls) (xs:=ss.map λp=>V.ref p.1) (λi σ H'=>∃(rs:List (Addr×Tg)) (v3:Option V),σ=[some (.ref h),some (.str k),some (.ref lt),v3]/\ST PT H H'/\H' ls=some (.lst (ss.map λp=>V.ref p.1))/\Fy H' lt rs/\rs.length<=13*i/\(∀r∈rs,∃x∈ps,Pw (ss.take i) k x/\r.2=x.2.tg)/\(∀x∈ps,Pw (ss.take i) k x->∃r∈rs,r.2=x.2.tg)) ⟨[],none,rfl,S1.on s2,hls,⟨s2.get hlt,λ_ h=>nomatch h⟩,bw _,(λ_ h=>nomatch h),λx _ hk=>?_⟩ (by rintro i σ H' _ ⟨_,_,_,_,h,_⟩;exact AB.of h) ?_ ?_⟩
  ·rcases hk with⟨hm,_⟩|⟨_,_,hm,_⟩
   ·cases hm
   ·cases hm
  ·rintro i v σ H3 hi ⟨rs,v3,rfl,S3,hls3,hlt3,lrs,k1,k2⟩
   obtain⟨x,rfl,hx⟩:=Hh hi;have hxm:=az hx;have il:=(aw.mp hx).1;have tk:ss.take (i+1)=ss.take i++[x]:=by rw[aR,hx];rfl
   have hd3:=hd.keep S3.kb.tup;obtain⟨ta,hx1,hx2⟩:=hd3.en x (inps x hxm);dsimp only[Az];refine⟨_,rfl,x.1,_,_,_,rfl,rfl,AG.of hx1,Ap (j:=2) rfl,_,rfl,rfl,_,rfl,D0 (λc=>?_) (λc=>?_)⟩
   ·have ok:x.2.ow=k:=V.str.inj (aQ c);refine LO ⟨_,rfl,.inl ⟨rfl,_,AB.of hlt3.1⟩,_,rfl,x.1,_,_,_,rfl,rfl,AG.of hx1,Ap (j:=4) rfl,lt,_,_,rfl,rfl,hlt3.1,AO (by rw[aa];omega),?_⟩;have S4:=S3.lst (us':=rs.map (λp=>V.ref p.1)++[.ref ta]) nlt hlt3.1;have hlt4:=hlt3.snoc hx2;have hls4:(upd H3 lt (.lst (rs.map (λp=>V.ref p.1)++[.ref ta]))) ls=some (.lst (ss.map λp=>V.ref p.1)):=by rw[Af nle];exact hls3
    generalize upd H3 lt (.lst (rs.map (λp=>V.ref p.1)++[.ref ta]))=H4 at S4 hlt4 hls4;have hd4:=hd.keep S4.kb.tup;obtain⟨ta4,hx14,hx24⟩:=hd4.en x (inps x hxm);refine⟨_,rfl,.inl ⟨rfl,_,AB.of hlt4.1⟩,_,rfl,_,rfl,x.1,_,_,_,rfl,rfl,AG.of hx14,Ap (j:=0) rfl,h,x.2.nm,ag,ka,ea,ks,ps,rfl,hd4,nd,S4.t',λus l5 H5 pm S5 nl5 hl5=>?_⟩;have hd5:=hd4.keep S5.kb.tup;have lus:us.length<=12:=by rw[pm.length_eq];have:=bE (Oz x.2.nm) ps;omega
    have inus:∀y∈us,y∈ps/\y.2.kd=2/\y.2.ow=x.2.nm:=λy hy=>by
     obtain⟨h1,h2⟩:=bz.mp (pm.mem_iff.mp hy);unfold Oz at h2;rw[aU] at h2;exact⟨h1,aQ h2.1,aQ h2.2⟩
    refine⟨l5,rfl,⟨_,AB.of hl5⟩,Gq (ps:=us) (λ_=>true) (λy v H'=>∃t,v=.ref t/\GT H' t y.2.tg) (λy v H1 H2 ⟨t,e,h⟩ s=>⟨t,e,s.get h⟩) (λy v H1 l us us' ⟨t,e,h⟩ hl=>⟨t,e,KT.lst hl _ _ _ h⟩) (ED (AB.of hl5)) (by omega) (λy hy H' R s' hR=>hR H' (An.refl _)) (λy hy _ H' R s' hR=>?_) λl6 H6 ys nl6 s6 hl6 ey hys=>?_⟩
    ·obtain⟨tt,h1,h2⟩:=hd5.en y (inus y hy).1;exact⟨_,rfl,y.1,_,_,_,rfl,rfl,AG.of (s'.get h1),Ap (j:=4) rfl,hR _ H' (An.refl _) ⟨tt,rfl,s'.get h2⟩⟩
    rw[eN.mpr λ_ _=>rfl] at ey;obtain⟨rr,e1,e2,hrr⟩:=KH (R:=λ(y:Addr×HE) t=>GT H6 t y.2.tg) hys;rw[ey] at e2;rw[e1] at hl6;have S6:=(S4.trans S5).on s6;have S46:=S5.on s6;have lrr:rr.length=us.length:=by have:=congrArg List.length e2;rw[aa] at this;exact this
    have hlt6:Fy H6 lt (rs++[(ta,x.2.tg)]):=⟨S46.kb.lst hlt4.1,λp hp=>S46.kb.tup _ _ (hlt4.2 p hp)⟩
    have kt:=KT.lst hlt6.1 (.lst ((rs++[(ta,x.2.tg)]).map (λp=>V.ref p.1)++rr.map λp=>V.ref p.2));refine⟨lt,l6,_,_,rfl,rfl,hlt6.1,hl6,small (by rw[aa,aa,ao];show rs.length+1+_<=_;omega),(rs++[(ta,x.2.tg)])++rr.map (λr=>(r.2,r.1.2.tg)),_,rfl,S6.lst nlt hlt6.1,by rw[Af nle];exact S46.kb.lst hls4,⟨by rw[Ac,aj (l₁:=rs++[(ta,x.2.tg)]),ar];rfl,λp hp=>?_⟩,by rw[ao,ao,aa];show rs.length+1+_<=_;omega,λr hr=>?_,λy hy hk=>?_⟩
    ·rcases au.mp hp with hp|hp
     ·exact kt _ _ (hlt6.2 p hp)
     ·obtain⟨r,hr,rfl⟩:=ah.mp hp;exact kt _ _ (hrr r hr)
    ·rw[tk];rcases au.mp hr with hr|hr
     ·rcases au.mp hr with hr|hr
      ·obtain⟨y,hy,hk,e⟩:=k1 r hr;exact⟨y,hy,Gi.mpr (.inl hk),e⟩
      ·rw[ai.mp hr];exact⟨x,inps x hxm,Gi.mpr (.inr ⟨ok,.inl rfl⟩),rfl⟩
     ·obtain⟨r',hr',rfl⟩:=ah.mp hr;have hy:r'.1∈us:=by rw[<-e2];exact aO hr'
      obtain⟨a1,a2,a3⟩:=inus _ hy;exact⟨r'.1,a1,Gi.mpr (.inr ⟨ok,.inr ⟨a2,a3⟩⟩),rfl⟩
    ·rw[tk] at hk;rcases Gi.mp hk with hk|⟨_,rfl|⟨a2,a3⟩⟩
     ·obtain⟨r,hr,e⟩:=k2 y hy hk;exact⟨r,aJ _ (aJ _ hr),e⟩
     ·exact⟨_,aJ _ (aC _ ax),rfl⟩
     ·have hyu:y∈us:=pm.mem_iff.mpr (bz.mpr ⟨hy,by unfold Oz;rw[aI a2,aI a3];rfl⟩);rw[<-e2] at hyu;obtain⟨r',hr',e⟩:=ah.mp hyu;exact⟨_,aC _ (ah.mpr ⟨r',hr',rfl⟩),by rw[e]⟩
   ·have no:x.2.ow≠k:=λe=>c (aI (by rw[e]))
    refine⟨rs,_,rfl,S3,hls3,hlt3,by omega,λr hr=>?_,λy hy hk=>?_⟩
    ·obtain⟨y,hy,hk,e⟩:=k1 r hr;rw[tk];exact⟨y,hy,Gi.mpr (.inl hk),e⟩
    ·rw[tk] at hk;rcases Gi.mp hk with hk|⟨ho,_⟩
     ·exact k2 y hy hk
     ·exact absurd ho no
  ·rintro σ H3 ⟨rs,v3,rfl,S3,hls3,hlt3,lrs,k1,k2⟩
   rw[aa,cb] at k1 k2;rw[aa] at lrs;exact hN _ _ ⟨rs,_,rfl,S3,hlt3,by omega,k1,k2⟩
 ·rintro σ' H3 ⟨rs,v3,rfl,S3,hlt3,lrs,k1,k2⟩
  exact⟨_,rfl,q lt rs H3 S3 nlt hlt3 lrs k1 k2⟩
end
open M06
section
variable {P:Program}{w:World}{K:W.Frag}{mg:Str->Option Value}{base:Heap}{f Ak Aa Ae:Addr}{XC:Nat->Addr}{fd:FuncData}{PT:Addr}
def Pv (CP CT:Addr)(H:Hp)(p d:Addr)(zs:List Cz):Prop:=∃q cs bs,PAt CP CT H p q cs bs/\(∀e∈cs,∃us,H e.l=some (.lst us)/\AH NL H ((AM e.bk).map FJ) us)/\Bx H d zs/\zs.map (λc=>(c.tg,c.bk))=(cs.map λe=>(Of e,e.bk))/\zs.length<=15
theorem PAt.kb {CP CT:Addr}{H H':Hp}{p:Addr}{q:Pl}{cs:List Cl}{bs:List (Int×Addr)}(h:PAt CP CT H p q cs bs)(k:KB H H'):PAt CP CT H' p q cs bs:=by
 have ki:∀{a C d fs},H a=some (.ins C d fs)->H' a=some (.ins C d fs):=λ{a C d fs} e=>k a _ e λ_ z=>by cases z
 refine⟨⟨ki h.t.1,k.dk h.t.2.1,λe he=>?_,h.t.2.2.2⟩,k.dk h.d,{ h.b with h:=k.dk h.b.h,d:=λx hx=>⟨k.dk (h.b.d x hx).1,(h.b.d x hx).2⟩ },h.n1,h.n2,h.n3,h.c,h.z,h.w,h.f1,h.f2⟩;have hc:=(h.t.2.2.1 e he).1;exact(h.t.2.2.1 e he).tup ((ki hc).trans hc.symm) k.tup
theorem Pv.kb {CP CT:Addr}{H H':Hp}{p d:Addr}{zs:List Cz}(h:Pv CP CT H p d zs)(k:KB H H'):Pv CP CT H' p d zs:=by
 obtain⟨q,cs,bs,pa,nl,bx,eq,few⟩:=h;exact⟨q,cs,bs,pa.kb k,λe he=>let⟨us,h1,h2⟩:=nl e he;⟨us,k.lst h1,BN k.tup _ _ h2⟩,⟨k.dk bx.at_,λc hc=>(bx.ce c hc).keep k.tup,bx.nd,bx.few⟩,eq,few⟩
theorem Pv.tags {CP CT:Addr}{H:Hp}{p d:Addr}{zs:List Cz}{z:Int}{b:Bk}{Q:VK}(h:Pv CP CT H p d zs)(e:bm zs z=some b)(hq:∀l (ps:List (Addr×Tg)) H',An H H'->H l=none->Fy H' l ps->ps.map (·.2)=AM b->Q (.ref l) H'):DL K CP CT [.ref p,.int z] H Q E0:=by
 obtain⟨q,cs,bs,pa,nl,bx,eq,few⟩:=h;obtain⟨c,hc,rfl,rfl⟩:=DO e;have:(c.tg,c.bk)∈cs.map λe=>(Of e,e.bk):=by rw[<-eq];exact aO hc
 obtain⟨x,hx,ex⟩:=ah.mp this;have e1:Of x=c.tg:=congrArg (·.1) ex;have e2:x.bk=c.bk:=congrArg (·.2) ex;obtain⟨us,h1,h2⟩:=nl x hx;obtain⟨ps,rfl,ep,hps⟩:=Lm h2;refine⟨p,q,cs,x,_,by rw[<-e1];rfl,pa.t,hx,h1,λl nl=>?_⟩;have s:=Ai nl (.lst (ps.map λp=>V.ref p.1));exact hq l ps _ s nl ⟨Ac,λp hp=>s.get (hps p hp)⟩ (by rw[<-e2];exact ep.symm)
def GP (K:W.Frag)(CP CT:Addr):Sp:=λvs H Q _=>∃(p d la:Addr) (cs:List Cz) (ps:List (Addr×Tg)) (Ok:Int->Prop),vs=[.ref p,.ref la]/\Pv CP CT H p d cs/\Fy H la ps/\ps.length<=200/\HS (bm cs) Ok/\(∀x∈ps,Ok x.2.1)/\
 ∀l H',An H H'->H l=none->H' l=some (.lst ((EZ cs (ps.map (·.2.1))).map V.int))->Q (.ref l) H'
theorem MI (T:Txt K mg Ak Aa Ae XC)(F:Fun K "reached" "reached" DT f fd)(FN:Da P w K mg base 1 Ae "tags" ["self","number"] (DL K Ae Aa)):FnOk P w K mg base CZ 2 f fd ["pool","tags"] (GP K Ae Aa):=by
 exists E9
 ·obtain⟨p,d,la,cs,ps,Ok,rfl,_⟩:=h;rfl
 obtain⟨p,d,la,cs,ps,Ok,rfl,pvv,hla,few,cl,okw,q⟩:=h;have hu:=BP hr;have hu9:=C1 hr;have few15:cs.length<=15:=let⟨_,_,_,_,_,_,_,h⟩:=pvv;h;refine⟨_,(!Ag (@Au _ _ (2) _ _ _ _ E9.nd rfl (by trivial) (!Cc) (by rfl) (by trivial)) (!Ag (@Au _ _ (3) _ _ _ _ E9.nd rfl (by trivial) (!Bb C4 (by rfl) T.b_list DN (!Ab (pv 1) (!Ah))) (by rfl) (by trivial)) (!Ag (!Jm aW (!AC QD (!AA AQ (by rfl) T.b_len Cy (!Ab (pv 3) (!Ah))) (!Ad) (AL _)) (!Ag (@Au _ _ (4) _ _ _ _ E9.nd rfl (by trivial) (!Am Ay (!Qe aK gc fZ Qd (pv 3)) (!Ad) (λ_ _=>rfl)) (by rfl) (by trivial)) (!Al (!BQ (!Hz (!Kl hu (pv 4) (pv 2)) (by first|exact D9 _ (by decide) (by decide)|rfl)) (!Ag (!Ec hu (pv 2) (pv 4) (!Hn)) (!Al (!Bc (!CA aK cg cf DU (pv 3) (!Ab (!DD (pv 0) T.cl_Pool FN (by trivial) (!Ab (pv 4) (!Ah))) (!Ah)))))) (!AX))))) (!Al (!Av (!Bb (GE rfl) (by rfl) T.b_list DN (!Ab (pv 2) (!Ah)))))))),?_⟩
 try dsimp only[Bw,Cx.nox,Cx.wish]
 refine Ax λdf ndf=>?_
 have s1:=Ai ndf (.dK []);have hdf:(upd H df (.dK [])) df=some (.dK (AS [])):=Ac;dsimp only[Az];generalize upd H df (.dK [])=H1 at s1 hdf;refine Ax ⟨_,rfl,la,_,rfl,.inl (AB.of (s1.get hla.1)),λlw nlw=>?_⟩;have s2:=Ai nlw (.lst (ps.map λp=>V.ref p.1));have hlw:(upd H1 lw (.lst (ps.map λp=>V.ref p.1))) lw=some (.lst (ps.map λp=>V.ref p.1)):=Ac;have hdf2:=s2.get hdf;have nlwH:=s1.free nlw;have nlf:df≠lw:=λw=>by rw[<-w,hdf] at nlw;cases nlw
 dsimp only[Az];generalize upd H1 lw (.lst (ps.map λp=>V.ref p.1))=H2 at s2 hlw hdf2;have s12:=s1.trans s2;have N0:∀z,Ok z->z∈cs.map (·.tg.1):=λz hz=>by
  obtain⟨b,eb,_⟩:=cl z hz;obtain⟨c,hc,e,_⟩:=DO eb;rw[<-e];exact aO (f:=λc:Cz=>c.tg.1) hc
 have lN0:∀{fs:List Int},fs.Nodup->(∀x∈fs,Ok x)->fs.length<=cs.length:=λ{fs} nd hf=>by
  have:=Hm nd λx hx=>N0 x (hf x hx)
  rw[aa] at this;exact this
 refine Br (t:=MM _ _) (λσ' H'=>∃(v4:Option V),σ'=[some (.ref p),some (.ref la),some (.ref df),some (.ref lw),v4]/\An H H'/\H' df=some (.dK (AS (EZ cs (ps.map (·.2.1)))))) (λN hN=>?_) ?_
 ·refine⟨λm σ' H'=>∃(ws:List (Addr×Tg)) (fs:List Int) (v4:Option V),σ'=[some (.ref p),some (.ref la),some (.ref df),some (.ref lw),v4]/\An H H'/\H' df=some (.dK (AS fs))/\Fy H' lw ws/\LI (bm cs) m (ws.map (·.2.1)) fs=EZ cs (ps.map (·.2.1))/\ws.length+4*(cs.length-fs.length)<=m/\fs.Nodup/\(∀p∈ws,Ok p.2.1)/\(∀z∈fs,Ok z)/\m<=300,
   ⟨ps.length+4*cs.length,ps,[],none,rfl,s12,hdf2,⟨hlw,λp hp=>s12.get (hla.2 p hp)⟩,by unfold EZ;rw[aa],by simp,by simp,okw,(λ_ h=>nomatch h),by omega⟩,?_⟩
  rintro m σ' H3 ⟨ws,fs,v4,rfl,s3,hdf3,hlw3,er,hm,nd,okws,okfs,m3⟩
  refine⟨_,rfl,lw,_,rfl,.inl (AB.of hlw3.1),_,_,rfl,rfl,_,rfl,D0 (λc=>?_) (λc=>?_)⟩
  ·have c:=aQ c;rcases dr ws with rfl|⟨ws,y,rfl⟩
   ·exact absurd c (by simp)
   rw[du] at *;have y1:GT H3 y.1 y.2:=hlw3.2 y (aC _ ax);have oy:=okws y (aC _ ax);rw[ao,bI] at hm;obtain⟨m,rfl⟩:∃m',m=m'+1:=⟨m-1,by omega⟩
   rw[aj,List.map_singleton,He] at er;refine⟨_,λσ' H' h=>⟨m,cN m,h⟩,?_⟩;have hlast:((ws++[y]).map λp=>V.ref p.1)[((ws++[y]).map λp=>V.ref p.1).length-1]?=some (.ref y.1):=by
    rw[aj,ao,bD (by simp)];simp
   have hdl:((ws++[y]).map λp=>V.ref p.1).dropLast=ws.map λp=>V.ref p.1:=by
    rw[aj];exact eG
   have k5:=KT.lst hlw3.1 (.lst (ws.map λp=>V.ref p.1));have hlw5:Fy (upd H3 lw (.lst (ws.map λp=>V.ref p.1))) lw ws:=⟨Ac,λp hp=>k5 _ _ (hlw3.2 p (aJ _ hp))⟩
   have s5:An H (upd H3 lw (.lst (ws.map λp=>V.ref p.1))):=AI s3 nlwH _;have hdf5:(upd H3 lw (.lst (ws.map λp=>V.ref p.1))) df=some (.dK (AS fs)):=by rw[Af nlf];exact hdf3
   refine Ax ⟨_,rfl,.inl ⟨rfl,_,AB.of hlw3.1⟩,lw,_,_,rfl,rfl,hlw3.1,hlast,?_⟩;rw[hdl];refine⟨y.1,_,_,_,rfl,rfl,AG.of (k5 _ _ y1),Ap (j:=0) rfl,?_⟩;dsimp only[Az];generalize upd H3 lw (.lst (ws.map λp=>V.ref p.1))=H5 at hlw5 s5 hdf5;have g:=Cq.k (k:=.inl y.2.1) hdf5;refine⟨_,rfl,_,rfl,df,_,rfl,g,_,rfl,D0 (λc=>?_) (λc=>?_)⟩
   ·have hz:y.2.1∉fs:=λh=>by
     rw[show Bz (AS fs) (.inl y.2.1)=some (.bl true) from GJ (k:=λz:Int=>.inl z) (g:=λ_=>.bl true) (bW.mpr (nd.imp λh e=>h (bH e))) y.2.1 h] at c;cases c
    rw[aH hz] at er;obtain⟨b,eb,l3,okb⟩:=cl _ oy;have nd':(fs++[y.2.1]).Nodup:=bB.mpr ⟨nd,by simp,λa ha c hc e=>hz (by rw[ai.mp hc] at e;rw[<-e];exact ha)⟩;have hf':∀x∈fs++[y.2.1],Ok x:=λx hx=>by
     rcases au.mp hx with hx|hx
     ·exact okfs x hx
     ·rw[ai.mp hx];exact oy
    have lN:=lN0 nd' hf';rw[ao,bI] at lN;have put:putK (AS fs) (.inl y.2.1) (.bl true)=AS (fs++[y.2.1]):=by
     rw[AS,AS,C8 _ (FK (k:=λz:Int=>.inl z) (g:=λ_=>.bl true) (z:=.inl y.2.1) λr hr e=>hz (by rw[<-bH e];exact hr)),aj];rfl
    refine⟨_,rfl,_,rfl,df,_,rfl,HF.k (k:=.inl y.2.1) hdf5 (AO (by rw[AS,aa];omega)),?_⟩;rw[put];have k6:KT H5 (upd H5 df (.dK (AS (fs++[y.2.1])))):=λc xs e=>by rw[Af λw=>by rw[w,hdf5] at e;cases e];exact e
    have s6:An H (upd H5 df (.dK (AS (fs++[y.2.1])))):=AI s5 ndf _;have hdf6:(upd H5 df (.dK (AS (fs++[y.2.1])))) df=some (.dK (AS (fs++[y.2.1]))):=Ac;have hlw6:Fy (upd H5 df (.dK (AS (fs++[y.2.1])))) lw ws:=⟨by rw[Af (Ne.symm nlf)];exact hlw5.1,λp hp=>k6 _ _ (hlw5.2 p hp)⟩
    generalize upd H5 df (.dK (AS (fs++[y.2.1])))=H6 at k6 s6 hdf6 hlw6;have pv6:=pvv.kb (KB.of s6);obtain⟨q6,cs6,bs6,pa6,_⟩:=id pv6;dsimp only[Kd];refine⟨_,rfl,.inl ⟨rfl,_,AB.of hlw6.1⟩,_,rfl,p,q6.dp,_,rfl,pa6.t.1,rfl,_,rfl,LK (pv6.tags (K:=K) eb λl qs H7 s7 nl hl7 eq=>?_)⟩;have hlw7:=hlw6.same s7;have lq:qs.length<=3:=by rw[<-eq,aa] at l3;exact l3
    refine⟨lw,l,_,_,rfl,rfl,hlw7.1,hl7.1,small (by rw[aa,aa];omega),?_⟩;have k8:=KT.lst hlw7.1 (.lst (ws.map (λp=>V.ref p.1)++qs.map λp=>V.ref p.1));have et:O2 (bm cs) y.2.1=qs.map (·.2.1):=by unfold O2;rw[eb];dsimp only;rw[<-eq,ar];rfl
    refine⟨ws++qs,fs++[y.2.1],_,rfl,AI (s6.trans s7) nlwH _,by rw[Af nlf];exact s7.get hdf6,⟨by rw[Ac,aj],λp hp=>?_⟩,by rw[aj,<-et];exact er,?_,nd',λp hp=>?_,hf',by omega⟩
    ·rcases au.mp hp with hp|hp
     ·exact k8 _ _ (hlw7.2 p hp)
     ·exact k8 _ _ (hl7.2 p hp)
    ·rw[ao,ao,bI];omega
    ·rcases au.mp hp with hp|hp
     ·exact okws p (aJ _ hp)
     ·exact okb p.2 (by rw[<-eq];exact aO hp)
   ·have hz:y.2.1∈fs:=cy λh=>by
     rw[show Bz (AS fs) (.inl y.2.1)=none from FK (k:=λz:Int=>.inl z) (g:=λ_=>.bl true) λr hr e=>h (by rw[<-bH e];exact hr)] at c;exact c rfl
    rw[aE hz] at er;exact⟨ws,fs,_,rfl,s5,hdf5,hlw5,er,by omega,nd,λp hp=>okws p (aJ _ hp),okfs,by omega⟩
  ·have c:=of_decide_eq_false (dM.mpr c);have e:ws=[]:=by
    rcases ws with _|⟨y,ws⟩
    ·rfl
    ·exact absurd (by rw[aa,bc];omega) c
   subst e;rw[cu,IT] at er;refine hN _ _ ⟨_,rfl,s3,?_⟩;rw[<-er];exact hdf3
 ·rintro σ' H3 ⟨v4,rfl,s3,hdf3⟩
  refine⟨_,rfl,df,_,rfl,hdf3,?_,λl nl=>q l _ (s3.trans (Ai nl _)) (s3.free nl) (by rw[Ac,AS,ar];rfl)⟩;obtain⟨h1,_,h3,_⟩:=Lh cl (ws:=ps.map (·.2.1)) λz hz=>by obtain⟨x,hx,rfl⟩:=ah.mp hz;exact okw x hx
  have:=lN0 h1 h3;rw[AS,aa];omega
end
open M06
section
variable {P:Program}{w:World}{K:W.Frag}{mg:Str->Option Value}{base:Heap}{f Ak Aa Ae:Addr}{XC:Nat->Addr}{fd:FuncData}{PT:Addr}
structure Ho (H:Hp) (dh:Addr) (hs:List (Int×Addr)) (g:Int->List Str):Prop where
 at_:H dh=some (.dK (hs.map λr=>(.inl r.1,.ref r.2)))
 ls:∀r∈hs,H r.2=some (.lst ((g r.1).map V.str))
 na:(hs.map (·.2)).Nodup
 nz:(hs.map (·.1)).Nodup
theorem Ho.get {H:Hp}{dh:Addr}{hs:List (Int×Addr)}{g:Int->List Str}(h:Ho H dh hs g){r:Int×Addr}(hr:r∈hs):Cq H dh (.int r.1) (some (.ref r.2)):=by
 have d:=Cq.k (k:=.inl r.1) h.at_;rw[show Bz (hs.map λr=>((.inl r.1:Key),V.ref r.2)) (.inl r.1)=some (.ref r.2) from GJ (k:=λr:Int×Addr=>.inl r.1) (g:=λr=>.ref r.2) (bW.mpr ((bW.mp h.nz).imp λh e=>h (bH e))) r hr] at d;exact d
theorem Ho.kb {H H':Hp}{dh:Addr}{hs:List (Int×Addr)}{g:Int->List Str}(h:Ho H dh hs g)(k:KB H H'):Ho H' dh hs g:=⟨k.dk h.at_,λr hr=>k.lst (h.ls r hr),h.na,h.nz⟩
theorem Ho.put {H:Hp}{dh:Addr}{hs:List (Int×Addr)}{g:Int->List Str}(h:Ho H dh hs g){r:Int×Addr}(hr:r∈hs)(k:Str):Ho (upd H r.2 (.lst ((g r.1).map V.str++[.str k]))) dh hs (λz=>if z=r.1 then g z++[k] else g z):=by
 refine⟨by rw[Af λw=>by have:=h.ls r hr;rw[<-w,h.at_] at this;cases this];exact h.at_,λx hx=>?_,h.na,h.nz⟩
 by_cases e:x=r
 ·subst e;rw[Ac,aE rfl,aj];rfl
 ·have n1:x.2≠r.2:=λw=>e (BY h.na hx hr w)
  have n2:x.1≠r.1:=λw=>e (BY h.nz hx hr w)
  rw[Af n1,aH n2];exact h.ls x hx
def Jr (cs:List Cz)(ks:List (Addr×Str×Int))(ps:List (Addr×HE))(z:Int):List Str:=(ks.filter λk=>decide (z∈Ra cs ps k.2.1)).map (·.2.1)
theorem R5 {z:Str}{vs:List V}:Rh (.str z) vs=true↔V.str z∈vs:=by
 unfold Rh;rw[List.any_eq_true];constructor
 ·rintro⟨y,hy,e⟩
  cases y<;>first|exact absurd e ay|skip
  rw[eq_of_beq (show(_ == z)=true from e)] at hy;exact hy
 ·exact λh=>⟨_,h,beq_self_eq_true z⟩
theorem Kr {ps:List (Addr×HE)}(nd:(ps.map (·.2.nm)).Nodup){k:Str}{x:Addr×HE}(hx:x∈ps)(og:IA x.2):Pw (ps.filter λx=>decide (x.2.kd=1)) k x↔OP (Se ps k) x=true:=by
 have ins:∀z:Str,Rh (.str z) (Se ps k)=true↔∃y∈ps,y.2.kd=1/\y.2.ow=k/\y.2.nm=z:=λz=>by
  rw[R5];unfold Se;rw[ah];constructor
  ·rintro⟨y,hy,e⟩
   obtain⟨h1,h2⟩:=bz.mp hy;unfold Rt at h2;rw[Qh,Ta,aU] at h2;exact⟨y,h1,aQ h2.1,aQ h2.2,V.str.inj e⟩
  ·rintro⟨y,h1,h2,h3,h4⟩
   exact⟨y,bz.mpr ⟨h1,by unfold Rt;rw[Qh,Ta,aI h2,aI h3];rfl⟩,by rw[h4]⟩
 unfold OP;rw[Bool.or_eq_true,aU,ins,ins,Qh,bA];unfold Pw;constructor
 ·rintro(⟨hm,ho⟩|⟨k2,y,hm,ho,hn⟩)
  ·obtain⟨h1,h2⟩:=bz.mp hm;exact .inl ⟨x,h1,aQ h2,ho,rfl⟩
  ·obtain⟨h1,h2⟩:=bz.mp hm;exact .inr ⟨k2,y,h1,aQ h2,ho,hn.symm⟩
 ·rintro(⟨y,h1,h2,h3,h4⟩|⟨k2,y,h1,h2,h3,h4⟩)
  ·have e:=BY nd h1 hx h4;subst e;exact .inl ⟨bz.mpr ⟨h1,aI h2⟩,h3⟩
  ·exact .inr ⟨k2,y,bz.mpr ⟨h1,aI h2⟩,h3,h4.symm⟩
def Er (K:W.Frag)(CP CT PT:Addr):Sp:=λvs H Q _=>∃(p d h:Addr) (cs:List Cz) (ag:Int) (ka ea:Addr) (ks:List (Addr×Str×Int)) (ps:List (Addr×HE)) (Ok:Int->Prop),vs=[.ref p,.ref h]/\Pv CP CT H p d cs/\Hd H h ag ka ea ks ps/\(Jb (ps.map (·.2))).Nodup/\Dz PT LQ LP H/\HS (bm cs) Ok/\(∀x∈ps,Ok x.2.tg.1)/\
 ∀dh hs H',ST PT H H'->Ho H' dh hs (Jr cs ks ps)->hs.map (·.1)=cs.map (·.tg.1)->H dh=none->(∀r∈hs,H r.2=none)->Q (.ref dh) H'
theorem JT (T:Txt K mg Ak Aa Ae XC)(F:Fun K "holders_in" "holders_in" Cp f fd)(HM:Def P w K mg base 2 "reached" ["pool","tags"] (GP K Ae Aa))(FM:Def P w K mg base 2 "tags_kept" ["head","keeper"] (EJ K PT))(D4:Da P w K mg base 1 Ae "numbers" ["self"] (DB K Ae Aa)):FnOk P w K mg base CZ 3 f fd ["pool","head"] (Er K Ae Aa PT):=by
 exists CB
 ·obtain⟨p,d,h,cs,ag,ka,ea,ks,ps,Ok,rfl,_⟩:=h;rfl
 obtain⟨p,d,h,cs,ag,ka,ea,ks,ps,Ok,rfl,pvv,hd,nsl,tb,cl,okp,q⟩:=h;have hu:=BP hr;have hu9:=C1 hr;refine⟨_,(!Ag (@Au _ _ (2) _ _ _ _ CB.nd rfl (by trivial) (!Bb (Ng (K:=K) (by rfl) rfl) (by rfl) T.b_dict N8 (!Ab (@BA _ ["number"] _ _ _ _ _ _ _ _ _ _ rfl (!C0 (!Ob (pv 0) T.cl_Pool D4)) (by decide +kernel) (λC s H fp=>⟨(@Aq _ _ (0) _ (show(["number"]:List Str).Nodup by decide +kernel) rfl (by trivial) (by trivial)),(!A6),(!Bq (!Ab (pv 0) (!Ab (!A5 (!Ah)) (!Ah))))⟩) (by intro _;rfl)) (!Ah))) (by rfl) (by trivial)) (!Ag (!BJ aW rfl (!BZ (!Am Ay (pv 1) (!Ad) (λ_ _=>rfl))) (!JA rfl (!AZ (@Aq _ _ (3) _ CB.nd rfl (by trivial) (by trivial)) (!AZ (@Aq _ _ (4) _ CB.nd rfl (by trivial) (by trivial)) (!Ed)))) (!Al (!BJ aW rfl (!C0 (!AU HM (by trivial) rfl (!Ab (pv 0) (!Ab (!AU FM (by trivial) rfl (!Ab (pv 1) (!Ab (pv 3) (!Ah)))) (!Ah))))) (@Aq _ _ (5) _ CB.nd rfl (by trivial) (by trivial)) (!Al (!Bc (!CA aK bg bf Bo (!Cm hu (pv 2) (pv 5) (λ_ _=>rfl)) (!Ab (pv 3) (!Ah))))) (by intro _;rfl))) (by intro _;rfl)) (!Al (!Av (pv 2))))),?_⟩
 try dsimp only[Bw,Cx.nox,Cx.wish]
 obtain⟨q0,cs0,bs0,pa0,nl0,bx0,eq0,few0⟩:=id pvv;have ez:cs0.map (·.z)=cs.map (·.tg.1):=by
  have e:=congrArg (List.map λx:Tg×Bk=>x.1.1) eq0;rw[ar,ar] at e;exact e.symm
 have lz:cs0.length=cs.length:=by have:=congrArg List.length ez;rw[aa,aa] at this;exact this
 refine Ax ⟨_,rfl,p,q0.dp,_,rfl,pa0.t.1,rfl,LK ⟨p,q0,cs0,bs0,rfl,pa0,by omega,λl1 nl1=>?_⟩⟩;rw[ez];have s1:=Ai nl1 (.lst ((cs.map (·.tg.1)).map V.int));have hl1:(upd H l1 (.lst ((cs.map (·.tg.1)).map V.int))) l1=some (.lst ((cs.map (·.tg.1)).map V.int)):=Ac;generalize upd H l1 (.lst ((cs.map (·.tg.1)).map V.int))=H1 at s1 hl1;have ndz:(cs.map (·.tg.1)).Nodup:=bx0.nd;have lzz:(cs.map (·.tg.1)).length=cs.length:=aa ..;generalize cs.map (·.tg.1)=zz at hl1 ez ndz lzz q;refine⟨l1,rfl,⟨_,AB.of hl1⟩,Lb (xs:=zz.map V.int) (λi ys l H'=>∃rs:List (Int×Addr×Addr),ys=rs.map (λr=>V.ref r.2.2)/\rs.map (·.1)=zz.take i/\An H1 H'/\(∀r∈rs,H' r.2.2=some (.tup [.int r.1,.ref r.2.1])/\H' r.2.1=some (.lst [])/\r.2.1≠l/\H1 r.2.1=none)/\(rs.map (·.2.1)).Nodup) (by rw[aa];omega) (λi ys l H' ⟨_,_,_,s',_⟩=>ED (AB.of (s'.get hl1)) H' (An.refl _) i) (λl nl=>⟨[],rfl,rfl,Ai nl _,(λ_ h=>nomatch h),bS⟩) (λi x ys l H' R hx nl hl ly ⟨rs,ey,er,s',hrs,na⟩ hR=>?_) λl H2 ys nl hl ly ⟨rs,ey,er,s2,hrs,na⟩=>?_⟩
 ·obtain⟨z,rfl,hz⟩:=Hh hx;refine⟨_,rfl,Fv,λla nla=>⟨GR,λt nt=>?_⟩⟩;have sa:=Ai nla (.lst []);have st:=Ai nt (.tup [.int z,.ref la]);have sb:=sa.trans st;have hl2:=sb.get hl;have nal:la≠l:=λw=>by rw[w,hl] at nla;cases nla
  have kt:=KT.lst hl2 (.lst (ys++[.ref t]));refine hR _ _ hl2 ⟨rs++[(z,la,t)],by rw[ey,aj];rfl,by rw[aj,er,aR,hz];rfl,AI (s'.trans sb) nl _,λr hr=>?_,?_⟩
  ·rcases au.mp hr with hr|hr
   ·obtain⟨h1,h2,h3,h4⟩:=hrs r hr;exact⟨kt _ _ (sb.get h1),by rw[Af h3];exact sb.get h2,h3,h4⟩
   ·cases ai.mp hr;exact⟨kt _ _ Ac,by rw[Af nal];exact st.get Ac,nal,s'.free nla⟩
  ·rw[aj];refine bB.mpr ⟨na,by simp,λa ha b hb e=>?_⟩;obtain⟨r,hr,rfl⟩:=ah.mp ha;have:=(hrs r hr).2.1;rw[e,ai.mp hb] at this;have this:H' la=some (.lst []):=this;rw[nla] at this;cases this
 rw[aa,cb] at er;have lrs:rs.length=cs.length:=by have:=congrArg List.length er;rw[aa] at this;omega
 subst ey;refine⟨l,rs.map (·.2.2),rs.map λr=>(.inl r.1,.ref r.2.1),rfl,AB.of (by rw[hl,ar];rfl),by rw[aa,aa],by rw[aa];omega,?_,λi t k v ht hk=>?_,λdh ndh=>?_⟩
 ·rw[ar];have:((λp:Key×V=>p.1)∘λr:Int×Addr×Addr=>((.inl r.1,.ref r.2.1):Key×V))=Sum.inl∘(λr:Int×Addr×Addr=>r.1):=rfl;rw[this,<-ar,er];exact ndz.map _ λa b n e=>n (bH e)
 ·rw[aB] at ht hk;obtain⟨r,hr1,rfl⟩:=bJ.mp ht;rw[hr1] at hk;cases hk;exact(hrs r (az hr1)).1
 have s3:=Ai ndh (.dK (rs.map λr=>(.inl r.1,.ref r.2.1)));have s13:=s1.trans (s2.trans s3);have ndhH:=(s1.trans s2).free ndh;have S3:=ST.of tb s13;obtain⟨hs,ehs⟩:∃hs:List (Int×Addr),hs=rs.map λr=>(r.1,r.2.1):=⟨_,rfl⟩
 have ez2:hs.map (·.1)=zz:=by rw[ehs,ar];exact er
 have hfr:∀r∈hs,H r.2=none:=λr hr=>by
  rw[ehs] at hr;obtain⟨x,hx,rfl⟩:=ah.mp hr;exact s1.free (hrs x hx).2.2.2
 have ho3:Ho (upd H2 dh (.dK (rs.map λr=>(.inl r.1,.ref r.2.1)))) dh hs (Jr cs (ks.take 0) ps):=by
  refine⟨by rw[Ac,ehs,ar];rfl,λr hr=>?_,by rw[ehs,ar];exact na,by rw[ez2];exact ndz⟩;rw[ehs] at hr;obtain⟨x,hx,rfl⟩:=ah.mp hr;exact s3.get (hrs x hx).2.1
 dsimp only[Az];generalize upd H2 dh (.dK (rs.map λr=>(.inl r.1,.ref r.2.1)))=H3 at S3 ho3
 clear hrs na s2 s3 ndh hl nl s13
 have el:=hd.el;have kl:=hd.kl;refine Br (t:=Iw _ _ _) (λσ' H'=>∃(v3 v4 v5:Option V),σ'=[some (.ref p),some (.ref h),some (.ref dh),v3,v4,v5]/\ST PT H H'/\Ho H' dh hs (Jr cs ks ps)) (λN hN=>?_) ?_
 ·have hd3:=hd.keep S3.kb.tup;refine⟨_,rfl,h,_,_,_,rfl,rfl,AG.of hd3.at_,Ap (j:=1) rfl,ka,rfl,⟨_,AG.of hd3.kt⟩,?_⟩;refine IS (K:=K) (a:=ka) (xs:=ks.map λp=>V.ref p.1) (λi σ H'=>∃(v3 v4 v5:Option V),σ=[some (.ref p),some (.ref h),some (.ref dh),v3,v4,v5]/\ST PT H H'/\Ho H' dh hs (Jr cs (ks.take i) ps)) ⟨none,none,none,rfl,S3,ho3⟩ (by rintro i σ H' _ ⟨_,_,_,_,s',_⟩;exact AG.of (s'.kb.tup _ _ hd.kt)) ?_ ?_
  ·rintro i v σ H4 hi ⟨v3,v4,v5,rfl,S4,ho4⟩
   obtain⟨k,rfl,hk⟩:=Hh hi;have hd4:=hd.keep S4.kb.tup;have il:=(aw.mp hk).1;dsimp only[Az];refine⟨k.1,_,rfl,AG.of (hd4.ke k (az hk)),rfl,_,_,rfl,_,_,rfl,rfl,?_⟩;refine⟨_,rfl,_,rfl,_,rfl,h,k.2.1,ag,ka,ea,ks,ps,rfl,hd4,nsl,S4.t',λlt rs2 H5 S5 nlt hlt lrs2 k1 k2=>?_⟩;have S05:=S4.trans S5;have okr:∀x∈rs2,Ok x.2.1:=λx hx=>by
    obtain⟨y,hy,_,e⟩:=k1 x hx;rw[e];exact okp y hy
   refine⟨p,d,lt,cs,rs2,Ok,rfl,pvv.kb S05.kb,hlt,lrs2,cl,okr,λln H6 s6 nln hln=>?_⟩;have okw:∀z∈rs2.map (·.2.1),Ok z:=λz hz=>by obtain⟨x,hx,rfl⟩:=ah.mp hz;exact okr x hx
   have oku:∀z∈(ps.filter (OP (Se ps k.2.1))).map (·.2.tg.1),Ok z:=λz hz=>by
    obtain⟨x,hx,rfl⟩:=ah.mp hz;exact okp x (bz.mp hx).1
   have mem:∀z,z∈EZ cs (rs2.map (·.2.1))↔z∈Ra cs ps k.2.1:=λz=>by
    constructor
    ·refine LJ cl oku (λy hy=>?_) z;obtain⟨x,hx,rfl⟩:=ah.mp hy;obtain⟨u,hu,hk',e⟩:=k1 x hx;rw[e];exact ah.mpr ⟨u,bz.mpr ⟨hu,(Kr hd.nd hu (hd.og u hu)).mp hk'⟩,rfl⟩
    ·refine LJ cl okw (λy hy=>?_) z;obtain⟨u,hu,rfl⟩:=ah.mp hy;obtain⟨hu1,hu2⟩:=bz.mp hu;obtain⟨x,hx,e⟩:=k2 u hu1 ((Kr hd.nd hu1 (hd.og u hu1)).mpr hu2);exact ah.mpr ⟨x,hx,by rw[e]⟩
   obtain⟨ndn,_,okn,_⟩:=Lh cl okw;generalize EZ cs (rs2.map (·.2.1))=ns at hln mem ndn okn;have S06:=S05.on s6;have ho6:=ho4.kb (S5.on s6).kb;have nlnr:∀r∈hs,ln≠r.2:=λr hr w=>by
    have:=(ho4.kb S5.kb).ls r hr;rw[<-w,nln] at this;cases this
   refine⟨ln,rfl,⟨_,AB.of hln⟩,EF (K:=K) (a:=ln) (xs:=ns.map V.int) (λj σ H'=>∃(v5:Option V),σ=[some (.ref p),some (.ref h),some (.ref dh),some (.str k.2.1),some (.int k.2.2),v5]/\ST PT H H'/\H' ln=some (.lst (ns.map V.int))/\Ho H' dh hs (λz=>Jr cs (ks.take i) ps z++if z∈ns.take j then[k.2.1] else[])) ⟨_,rfl,S06,hln,?_⟩ (λj σ H' _ ⟨_,_,_,h,_⟩=>AB.of h) ?_ ?_⟩
   ·have e:(λz=>Jr cs (ks.take i) ps z++if z∈ns.take 0 then[k.2.1] else[])=Jr cs (ks.take i) ps:=funext λz=>by
     rw[dC,aH (by simp),bZ]
    rw[e];exact ho6
   ·rintro j v σ H7 hj ⟨v5,rfl,S7,hln7,ho7⟩
    obtain⟨z,rfl,hz⟩:=Hh hj;have jl:=(aw.mp hz)
    have zm:z∈hs.map (·.1):=by
     rw[ez2,<-ez];obtain⟨b,eb,_⟩:=cl z (okn z (az hz));obtain⟨c,hc,e,_⟩:=DO eb;have:(c.tg,c.bk)∈cs0.map λe=>(Of e,e.bk):=by rw[<-eq0];exact aO hc
     obtain⟨x,hx,ex⟩:=ah.mp this;have e1:Of x=c.tg:=congrArg (·.1) ex;exact ah.mpr ⟨x,hx,by rw[<-e,<-e1];rfl⟩
    obtain⟨r,hr,er⟩:=ah.mp zm;have er:r.1=z:=er;subst er;have hl7:=ho7.ls r hr;have few:((Jr cs (ks.take i) ps r.1++if r.1∈ns.take j then[k.2.1] else[]).map V.str).length<=20:=by
     rw[aa,ao];have l1:(Jr cs (ks.take i) ps r.1).length<=8:=by
      unfold Jr;have:=bE (λk:Addr×Str×Int=>decide (r.1∈Ra cs ps k.2.1)) (ks.take i);rw[aa];rw[aP] at this;omega
     have l2:(if r.1∈ns.take j then[k.2.1] else[]).length<=1:=by split<;>simp
     omega
    dsimp only[Az];refine⟨_,rfl,_,rfl,dh,_,rfl,ho7.get hr,.inl ⟨rfl,_,AB.of hl7⟩,_,rfl,r.2,_,_,rfl,rfl,hl7,AO (by omega),_,rfl,S7.lst (hfr r hr) hl7,by rw[Af (nlnr r hr)];exact hln7,?_⟩;have nin:r.1∉ns.take j:=λhm=>by
     obtain⟨j2,hj2⟩:=bM hm;have l2:=(aw.mp hj2).1;rw[aP] at l2;rw[dD,aE (by omega)] at hj2;have:=aS.mp ndn j2 j (by omega) jl.1 (by omega);rw[(aw.mp hj2).2,jl.2] at this;exact this rfl
    have hp:=ho7.put hr k.2.1;have e:(λz=>if z=r.1 then(Jr cs (ks.take i) ps z++if z∈ns.take j then[k.2.1] else[])++[k.2.1] else Jr cs (ks.take i) ps z++if z∈ns.take j then[k.2.1] else[])=λz=>Jr cs (ks.take i) ps z++if z∈ns.take (j+1) then[k.2.1] else[]:=funext λz=>by
     rw[aR,hz,Option.toList_some]
     by_cases e:z=r.1
     ·rw[e,aE rfl,aH nin,aE (aC _ ax),bZ]
     ·rw[aH e]
      by_cases m:z∈ns.take j
      ·rw[aE m,aE (aJ _ m)]
      ·rw[aH m,aH λw=>(au.mp w).elim m λw=>e (ai.mp w)]
    rw[e] at hp;exact hp
   ·rintro σ H7 ⟨v5,rfl,S7,hln7,ho7⟩
    refine⟨_,_,_,rfl,S7,?_⟩;rw[aa,cb] at ho7;have e:(λz=>Jr cs (ks.take i) ps z++if z∈ns then[k.2.1] else[])=Jr cs (ks.take (i+1)) ps:=funext λz=>by
     unfold Jr;rw[aR,hk,Option.toList_some,cU,aj]
     by_cases m:z∈ns
     ·rw[aE m,cP,aE (aI ((mem z).mp m))];rfl
     ·rw[aH m,cP,aH λw=>m ((mem z).mpr (aQ w))];rfl
    rw[e] at ho7;exact ho7
  ·rintro σ H4 ⟨v3,v4,v5,rfl,S4,ho4⟩
   rw[aa,cb] at ho4;exact hN _ _ ⟨_,_,_,rfl,S4,ho4⟩
 ·rintro σ' H4 ⟨v3,v4,v5,rfl,S4,ho4⟩
  exact⟨_,rfl,q dh hs H4 S4 ho4 ez2 ndhH hfr⟩
end
open M06
section
variable {P:Program}{w:World}{K:W.Frag}{mg:Str->Option Value}{base:Heap}{f Ak Aa Ae:Addr}{XC:Nat->Addr}{fd:FuncData}{PT:Addr}
theorem Kg (z:Int):∀fs:List Int,(Bz (AS fs) (.inl z)).isSome=decide (z∈fs)
 |[]=>rfl
 |y::fs=>by
  by_cases e:y=z
  ·subst e;rw[AS,aq,D6 rfl,aI ax];rfl
  ·have:=Kg z fs;rw[AS] at this;rw[AS,aq,Dr λw=>e (bH w),this];exact decide_eq_decide.mpr ⟨aM _,λh=>(aL.mp h).resolve_left λw=>e w.symm⟩
theorem OZ {α:Type} {J:It} {ps:List α} {g:α->Addr} {A B:α->V} {fr:List (Option Nat)} {rest:St} {tt:TT} {te:TE} {Q:VK} {σ:St} {H:Hp} (p:α->Bool) (f:α->V) (hst:stC fr σ=none::none::rest) (hJ:HB J H (ps.map λx=>V.ref (g x))) (hpr:∀x∈ps,H (g x)=some (.tup [A x,B x])) (hn:ps.length<=1000000)
  (htest:∀x∈ps,∀(H':Hp) (R:Bool->Hp->Prop),An H H'->R (p x) H'->tt (some (A x)::some (B x)::rest) H' R)
  (helt:∀x∈ps,∀(H':Hp) (R:VK),An H H'->R (f x) H'->te (some (A x)::some (B x)::rest) H' R)
  (hQ:∀l H',H l=none->An H H'->H' l=some (.lst ((ps.filter p).map f))->Q (.ref l) H'):DW fr (P8 K 2 (GZ (Az 0) (GZ (Az 1) RO))) tt te σ Q J H:=by
 intro l hl;refine⟨λi m σ' H'=>m=ps.length-i/\i<=ps.length/\(∃y0 y1,σ'=y0::y1::rest)/\An H H'/\H' l=some (.lst (((ps.take i).filter p).map f)),⟨ps.length,by simp,bw _,⟨_,_,hst⟩,Ai hl _,by rw[Ac];rfl⟩,?_⟩
 rintro i m σ' H' ⟨rfl,hi,⟨y0,y1,rfl⟩,hs,hl'⟩
 obtain⟨h1,h2,h3⟩:=hJ H' hs i;rw[aa] at h1 h2 h3
 by_cases hlt:i<ps.length
 ·refine .inr ⟨h1 hlt,λx H'' y=>?_⟩;obtain⟨rfl,hx⟩:=h2 x H'' y;have hx:=hx hlt;rw[aB,ae hlt] at hx;cases hx;have hm:ps[i]∈ps:=bG hlt;have et:((ps.take (i+1)).filter p).map f=((ps.take i).filter p).map f++(if p ps[i]=true then[f ps[i]] else[]):=by
   rw[aR,ae hlt,cU,aj];cases q:p ps[i]<;>simp[q]
  have le:(((ps.take i).filter p).map f).length<=i:=by
   have b:=bE p (ps.take i);rw[aP] at b;rw[aa];omega
  refine⟨g ps[i],_,rfl,AG.of (hs.get (hpr _ hm)),rfl,_,_,rfl,_,_,rfl,rfl,?_⟩;refine htest _ hm H'' _ hs ?_;refine D0 (λc=>?_) (λc=>?_)
  ·refine helt _ hm H'' _ hs ⟨_,hl',AO (by omega),ps.length-(i+1),by omega,rfl,hlt,⟨_,_,rfl⟩,AI hs hl _,?_⟩;rw[Ac,et,aE c]
  ·exact⟨ps.length-(i+1),by omega,rfl,hlt,⟨_,_,rfl⟩,hs,by rw[et,aH c,bZ];exact hl'⟩
 ·have e:i=ps.length:=by omega
  subst e;exact .inl ⟨h3 (ak _),hQ l H' hl hs (by rw[hl',ba (ak _)])⟩
theorem ST.dk {H H':Hp}(h:ST PT H H'){l:Addr}(nl:H l=none){us us':List (Key×V)}(hl:H' l=some (.dK us)):ST PT H (upd H' l (.dK us')):=h.new nl hl (λ_ z=>by cases z) (λ_ z=>by cases z)
theorem Ph {H:Hp}{a b:Addr}{o u:HO}(n:a≠b):upd (upd H a o) b u=upd (upd H b u) a o:=funext λc=>by
 unfold upd
 by_cases h1:c=a
 ·by_cases h2:c=b
  ·exact absurd (h1.symm.trans h2) n
  ·simp[h1,n]
 ·simp[h1]
def Eu (K:W.Frag)(CP CT PT:Addr):Sp:=λvs H Q _=>∃(p d h:Addr) (cs:List Cz) (ag:Int) (ka ea:Addr) (ks:List (Addr×Str×Int)) (ps:List (Addr×HE)) (Ok:Int->Prop),vs=[.ref p,.ref d,.ref h]/\Pv CP CT H p d cs/\cs≠[]/\Hd H h ag ka ea ks ps/\(Jb (ps.map (·.2))).Nodup/\Dz PT LQ LP H/\HS (bm cs) Ok/\(∀x∈ps,Ok x.2.tg.1)/\
 ∀H',ST PT H H'->Q (.bl true) H'
theorem JM (T:Txt K mg Ak Aa Ae XC)(F:Fun K "_law_right" "_law_right" Cg f fd)(FW:Def P w K mg base 3 "_law_held" ["_law_blocks_here","_law_head_here"] (ET K))(Fi:Def P w K mg base 3 "holders_in" ["pool","head"] (Er K Ae Aa PT)):FnOk P w K mg base CZ 4 f fd ["_law_pool","_law_blocks_here","_law_head_here"] (Eu K Ae Aa PT):=by
 exists CC
 ·obtain⟨p,d,h,cs,ag,ka,ea,ks,ps,Ok,rfl,_⟩:=h;rfl
 obtain⟨p,d,h,cs,ag,ka,ea,ks,ps,Ok,rfl,pvv,cne,hd,nsl,tb,cl,okp,q⟩:=h;have hu:=BP hr;have hu9:=C1 hr;refine⟨_,(!Ag (@Au _ _ (3) _ _ _ _ CC.nd rfl (by trivial) (!AU FW (by trivial) rfl (!Ab (pv 1) (!Ab (pv 2) (!Ah)))) (by rfl) (by trivial)) (!Ag (@Au _ _ (4) _ _ _ _ CC.nd rfl (by trivial) (!AU Fi (by trivial) rfl (!Ab (pv 0) (!Ab (pv 2) (!Ah)))) (by rfl) (by trivial)) (!Ag (!BQ (@PW.pt _ _ _ (!L8 (!GK (!FD (!AA CH (by rfl) T.b_isinstance BU (!Ab (pv 4) (!Ab (!J8 rfl T.b_dict N8) (!Ah)))) (by intro _;rfl))) (!Jx (!AC (Pg hu) (!AA (JI (K:=K) (by rfl)) (by rfl) T.b_sorted CY (!Ab (!Bb (GE rfl) (by rfl) T.b_list DN (!Ab (pv 4) (!Ah))) (!Ah))) (!AA (JI (K:=K) (by rfl)) (by rfl) T.b_sorted CY (!Ab (!Bb (GE rfl) (by rfl) T.b_list DN (!Ab (pv 1) (!Ah))) (!Ah))) (AL _))))) (!Al (!Av (!Hn))) (!AX)) (!Ag (!Rl aW rfl (pv 1) (@Aq _ _ (5) _ CC.nd rfl (by trivial) (by trivial)) (!Ag (@Fo _ ["_law_keeper","_law_bound","_law_number","_law_held_here"] [none,none,some 5,some 3] (6) _ _ _ _ _ _ _ _ _ _ _ _ _ _ CC.nd rfl (by trivial) rfl (!BZ (!Am Ay (pv 2) (!Ad) (λ_ _=>rfl))) (by rfl) rfl (by repeat (first|exact trivial|refine⟨rfl,?_⟩)) (by repeat (first|exact trivial|refine⟨λh=>(by first|exact⟨_,rfl⟩|cases h),?_⟩)) (λC s H fp=>⟨(@IP _ (K) _ _ _ _ (2) (by rfl) rfl (!AZ (@Aq _ _ (0) _ (show(["_law_keeper","_law_bound","_law_number","_law_held_here"]:List Str).Nodup by decide +kernel) rfl (by trivial) (by trivial)) (!AZ (@Aq _ _ (1) _ (show(["_law_keeper","_law_bound","_law_number","_law_held_here"]:List Str).Nodup by decide +kernel) rfl (by trivial) (by trivial)) (!Ed))) (by rfl) (by rfl)),(!B2 (!Hz (!Nb hu (pv 2) (!Cm hu (pv 3) (pv 0) (λ_ _=>rfl))) (by first|exact D9 _ (by decide) (by decide)|rfl))),(pv 0)⟩) (by intro _;rfl) (by rfl) (by trivial)) (!Ag (!BQ (@PW.pt _ _ _ (!L8 (!GK (!FD (!AA CH (by rfl) T.b_isinstance BU (!Ab (!Cm hu (pv 4) (pv 5) (λ_ _=>rfl)) (!Ab (!J8 rfl T.b_list DN) (!Ah)))) (by intro _;rfl))) (!Jx (!AC (Pg hu) (!Cm hu (pv 4) (pv 5) (λ_ _=>rfl)) (pv 6) (AL _))))) (!Al (!Av (!Hn))) (!AX)) (!Al (!Bc (!CA aK bg bf Bo (!Cm hu (pv 4) (pv 5) (λ_ _=>rfl)) (!Ab (!GN) (!Ah))))))) (by intro _;rfl)) (!Ag (!Bc (!OQ (pv 4) ⟨rfl,rfl,rfl,rfl⟩)) (!Al (!Av (!Hn)))))))),?_⟩
 try dsimp only[Bw,Cx.nox,Cx.wish]
 obtain⟨q0,cs0,bs0,pa0,nl0,bx0,eq0,few0⟩:=id pvv;refine Ax ⟨_,rfl,_,rfl,d,h,cs,ag,ka,ea,ks,ps,Ok,rfl,bx0,hd,cl,okp,λdk hk H1 s1 ndk hl1 ehk=>?_⟩;dsimp only[Az];refine Ax ⟨_,rfl,_,rfl,p,d,h,cs,ag,ka,ea,ks,ps,Ok,rfl,pvv.kb (KB.of s1),hd.same s1,nsl,tb.same s1,cl,okp,λdh hs H2 S2 ho2 ez ndh hfr=>?_⟩;dsimp only[Az];have S02:=ST.trans (ST.of tb s1) S2;have k12:=S2.kb;have hl2:Hl H2 dk cs ps hk:=⟨k12.dk hl1.at_,λr hr=>k12.dk (hl1.ea r hr),hl1.nd⟩
 have hdd:=S02.kb.dk bx0.at_;have lhs:hs.length=cs.length:=by have:=congrArg List.length ez;rw[aa,aa] at this;exact this
 have hdH:=bx0.at_;have ndd:dh≠d:=λw=>by rw[w,s1.get hdH] at ndh;cases ndh
 have nhH:=s1.free ndh;refine Br (t:=TL _ _ _) (λσ' H'=>σ'=[some (.ref p),some (.ref d),some (.ref h),some (.ref dk),some (.ref dh),none,none]/\An H2 H') (λN hN=>?_) ?_
 ·refine⟨_,rfl,_,_,_,_,rfl,.dK ho2.at_,rfl,_,rfl,Cu rfl ?_⟩;refine⟨_,rfl,dh,_,rfl,ho2.at_,by rw[aa];omega,λl3 nl3=>?_⟩;have s3:=Ai nl3 (.lst ((hs.map λr=>((.inl r.1:Key),V.ref r.2)).map λp=>kV p.1));have h3:(upd H2 l3 (.lst ((hs.map λr=>((.inl r.1:Key),V.ref r.2)).map λp=>kV p.1))) l3=some (.lst ((cs.map (·.tg.1)).map V.int)):=by rw[Ac,<-ez,ar,ar];rfl
  generalize upd H2 l3 (.lst ((hs.map λr=>((.inl r.1:Key),V.ref r.2)).map λp=>kV p.1))=H3 at s3 h3;refine⟨l3,cs.map (·.tg.1),rfl,AB.of h3,by rw[aa];omega,λm1 p1 pm1 so1 np1=>?_⟩;have s4:=Ai np1 (.lst (m1.map V.int));have h4:(upd H3 p1 (.lst (m1.map V.int))) p1=some (.lst (m1.map V.int)):=Ac;generalize upd H3 p1 (.lst (m1.map V.int))=H4 at s4 h4;refine⟨_,rfl,d,_,rfl,(s3.trans s4).get hdd,by unfold Fx;rw[aa];omega,λl5 nl5=>?_⟩;have s5:=Ai nl5 (.lst ((Fx cs).map λp=>kV p.1));have h5:(upd H4 l5 (.lst ((Fx cs).map λp=>kV p.1))) l5=some (.lst ((cs.map (·.tg.1)).map V.int)):=by unfold Fx;rw[Ac,ar,ar];rfl
  generalize upd H4 l5 (.lst ((Fx cs).map λp=>kV p.1))=H5 at s5 h5;refine⟨l5,cs.map (·.tg.1),rfl,AB.of h5,by rw[aa];omega,λm2 p2 pm2 so2 np2=>?_⟩;have s6:=Ai np2 (.lst (m2.map V.int));have em:m2=m1:=IZ (pm2.trans pm1.symm) so2 so1;subst em;have pu:(m2.map V.int).all Du=true:=aX.mpr λv hv=>by obtain⟨z,_,rfl⟩:=ah.mp hv;rfl
  refine⟨p1,p2,_,_,rfl,rfl,AB.of ((s5.trans s6).get h4),AB.of Ac,pu,pu,_,rfl,Cu (by rw[aE rfl,aI rfl];rfl) (hN _ _ ⟨rfl,s3.trans (s4.trans (s5.trans s6))⟩)⟩
 rintro σ' H6 ⟨rfl,s6⟩
 have hd6:=s6.get hdd;have S6:=S02.on s6;have hl6:=hl2.same s6;have ho6:=ho2.kb (KB.of s6);have nf:∀o u,H d≠some (.frz o u):=λo u z=>by rw[hdH] at z;cases z
 have kl:=hd.kl;refine Br (t:=SH _ _ _ _) (λσ' H'=>∃(v5 v6:Option V) (g:Int->List Str),σ'=[some (.ref p),some (.ref d),some (.ref h),some (.ref dk),some (.ref dh),v5,v6]/\ST PT H H'/\Ho H' dh hs g) (λN hN=>?_) ?_
 ·refine⟨_,rfl,d,_,rfl,hd6,λo=>?_⟩;have bt:∀a ob,a≠d->H6 a=some ob->(upd H6 d (.frz o (.dK (Fx cs)))) a=some ob:=λa ob n e=>by rw[Af n];exact e
  have f7:(upd H6 d (.frz o (.dK (Fx cs)))) d=some (.frz o (.dK (Fx cs))):=Ac;have e7:upd (upd H6 d (.frz o (.dK (Fx cs)))) d (.dK (Fx cs))=H6:=by
   rw[Gh];refine funext λb=>?_
   by_cases w:b=d
   ·rw[w,Ac,hd6]
   ·rw[Af w]
  have nk:dk≠d:=λw=>by rw[w,bx0.at_] at ndk;cases ndk
  have nks:∀r∈hk,r.2≠d:=λr hr w=>by
   have h1:=hl6.ea r hr;rw[w,hd6] at h1;have e:=HO.dK.inj (aA h1);obtain⟨c0,hc0⟩:=List.exists_mem_of_ne_nil _ cne;have m:((.inl c0.tg.1,.ref c0.p):Key×V)∈AS (Ra cs ps r.1):=by rw[<-e];exact aO (f:=λc:Cz=>((.inl c.tg.1,.ref c.p):Key×V)) hc0
   obtain⟨z,_,e⟩:=ah.mp m;cases e
  have nhs:∀r∈hs,r.2≠d:=λr hr w=>by
   have h1:=ho6.ls r hr;rw[w,hd6] at h1;cases h1
  have hl7:Hl (upd H6 d (.frz o (.dK (Fx cs)))) dk cs ps hk:=⟨bt _ _ nk hl6.at_,λr hr=>bt _ _ (nks r hr) (hl6.ea r hr),hl6.nd⟩
  have ho7:Ho (upd H6 d (.frz o (.dK (Fx cs)))) dh hs (Jr cs ks ps):=⟨bt _ _ ndd ho6.at_,λr hr=>bt _ _ (nhs r hr) (ho6.ls r hr),ho6.na,ho6.nz⟩
  have S7:ST PT H (upd (upd H6 d (.frz o (.dK (Fx cs)))) d (.dK (Fx cs))):=by rw[e7];exact S6
  generalize upd H6 d (.frz o (.dK (Fx cs)))=H7 at f7 hl7 ho7 S7
  clear e7 bt
  refine OR (d:=d) (o:=o) (kvs:=Fx cs) nf (λi σ H'=>∃(v5 v6:Option V) (g:Int->List Str),σ=[some (.ref p),some (.ref d),some (.ref h),some (.ref dk),some (.ref dh),v5,v6]/\H' d=some (.frz o (.dK (Fx cs)))/\ST PT H (upd H' d (.dK (Fx cs)))/\Hl H' dk cs ps hk/\Ho H' dh hs g/\∀c∈cs.drop i,g c.tg.1=Jr cs ks ps c.tg.1) ⟨none,none,_,rfl,f7,S7,hl7,ho7,λ_ _=>rfl⟩ (by rintro i σ H' _ ⟨_,_,_,_,h,_⟩;exact h) ?_ ?_
  ·rintro i key vv σ H8 hi ⟨v5,v6,g,rfl,f8,S8,hl8,ho8,gk⟩
   unfold Fx at hi;rw[aB] at hi;obtain⟨c,hc,e⟩:=bJ.mp hi;cases e;have ci:=aw.mp hc;have kt8:KT H H8:=λa xs e=>by
    have:=S8.kb.tup a xs e
    rwa [Af λw=>by rw[w,hdH] at e;cases e] at this
   have hd8:=hd.keep kt8;have cd:c∈cs.drop i:=az (show(cs.drop i)[0]?=some c by rw[dE];exact hc);have rm:c.tg.1∈hs.map (·.1):=by rw[ez];exact aO (f:=λc:Cz=>c.tg.1) (az hc)
   obtain⟨r,hr,er⟩:=ah.mp rm;have er:r.1=c.tg.1:=er;have gr:=gk c cd;dsimp only[Az,kV];refine Ax ⟨_,rfl,h,_,_,_,rfl,rfl,AG.of hd8.at_,Ap (j:=1) rfl,ka,rfl,⟨_,AG.of hd8.kt⟩,OZ (K:=K) (ps:=ks) (g:=λk=>k.1) (A:=λk=>.str k.2.1) (B:=λk=>.int k.2.2) (λk=>decide (c.tg.1∈Ra cs ps k.2.1)) (λk=>.str k.2.1) rfl (By hd8.kt) hd8.ke (by omega) (λk hk' H' R s' hR=>?_) (λk hk' H' R s' hR=>⟨_,rfl,hR⟩) λl9 H9 nl9 s9 hl9=>?_⟩
   ·have hm:k.2.1∈hk.map (·.1):=by rw[ehk];exact aO (f:=λk:Addr×Str×Int=>k.2.1) hk'
    obtain⟨r',hr',er'⟩:=ah.mp hm;have er':r'.1=k.2.1:=er';have hh':=hl8.same s';have g1:=Cq.k (k:=.inr r'.1) hh'.at_;rw[show Bz (hk.map λr=>((.inr r.1:Key),V.ref r.2)) (.inr r'.1)=some (.ref r'.2) from GJ (k:=λr:Str×Addr=>.inr r.1) (g:=λr=>.ref r.2) (bW.mpr ((bW.mp hh'.nd).imp λh e=>h (gp e))) r' hr'] at g1;have g2:=Cq.k (k:=.inl c.tg.1) (hh'.ea r' hr');rw[er'] at g1 g2;refine⟨_,rfl,_,rfl,_,rfl,dk,_,rfl,g1,r'.2,_,rfl,g2,_,rfl,?_⟩;rw[Kg];exact hR
   have hl9:H9 l9=some (.lst ((Jr cs ks ps c.tg.1).map V.str)):=by rw[hl9,Jr,ar];rfl
   have ho9:=ho8.kb (KB.of s9);have gg:=ho9.get hr;have hlr:=ho9.ls r hr;rw[er] at gg;rw[er,gr] at hlr;have pu:((Jr cs ks ps c.tg.1).map V.str).all Du=true:=aX.mpr λv hv=>by obtain⟨z,_,rfl⟩:=ah.mp hv;rfl
   have lk:(Jr cs ks ps c.tg.1).length<=8:=by
    unfold Jr;have:=bE (λk:Addr×Str×Int=>decide (c.tg.1∈Ra cs ps k.2.1)) ks;rw[aa];omega
   dsimp only[Az];refine⟨_,rfl,_,rfl,dh,_,rfl,gg,_,_,_,_,rfl,.lst hlr,rfl,_,rfl,Cu rfl ?_⟩;refine⟨_,rfl,_,rfl,dh,_,rfl,gg,_,rfl,r.2,l9,_,_,rfl,rfl,AB.of hlr,AB.of hl9,pu,pu,_,rfl,Cu (by rw[aE rfl,aI rfl];rfl) ?_⟩;dsimp only[Kd];have hp:=ho9.put hr (PySem.Str.ofString "more");rw[er,gr] at hp;have ndr:=nhs r hr;refine⟨_,rfl,_,rfl,dh,_,rfl,gg,.inl ⟨rfl,_,AB.of hlr⟩,r.2,_,_,rfl,rfl,hlr,AO (by rw[aa];omega),_,_,_,rfl,by rw[Af (Ne.symm ndr)];exact s9.get f8,?_,⟨by rw[Af λw=>by rw[<-w,(hl8.same s9).at_] at hlr;cases hlr];exact(hl8.same s9).at_,λx hx=>by rw[Af λw=>by rw[<-w,(hl8.same s9).ea x hx] at hlr;cases hlr];exact(hl8.same s9).ea x hx,hl8.nd⟩,hp,λc' hc'=>?_⟩
   ·rw[Ph ndr];have nd9:∀a ob,(upd H8 d (.dK (Fx cs))) a=some ob->(upd H9 d (.dK (Fx cs))) a=some ob:=λa ob e=>by
     by_cases w:a=d
     ·rw[w,Ac] at e ⊢;exact e
     ·rw[Af w] at e ⊢;exact s9.get e
    exact(S8.on nd9).lst (s1.free (hfr r hr)) (by rw[Af ndr];exact hlr)
   ·have n1:c'.tg.1≠c.tg.1:=λe=>by
     obtain⟨j,hj⟩:=bM hc';rw[dE] at hj;have cj:=aw.mp hj;have:=aS.mp bx0.nd i (i+1+j) (by rw[aa];exact ci.1) (by rw[aa];exact cj.1) (by omega);rw[bV,bV,ci.2,cj.2] at this;exact this e.symm
    rw[aH n1];exact gk c' (gu (show c'∈(cs.drop i).drop 1 by rw[List.drop_drop];exact hc'))
  ·rintro σ H8 ⟨v5,v6,g,rfl,f8,S8,hl8,ho8,gk⟩
   exact hN _ _ ⟨_,_,g,rfl,S8,⟨by rw[Af ndd];exact ho8.at_,λr hr=>by rw[Af (nhs r hr)];exact ho8.ls r hr,ho8.na,ho8.nz⟩⟩
 rintro σ' H7 ⟨v5,v6,g,rfl,S7,ho7⟩
 exact⟨_,rfl,dh,_,rfl,ho7.at_,q _ (S7.dk nhH ho7.at_)⟩
def B0 (K:W.Frag):Sp:=λvs H Q _=>∃(h:Addr) (ag:Int) (ka ea:Addr) (ks:List (Addr×Str×Int)) (ps:List (Addr×HE)),vs=[.ref h]/\Hd H h ag ka ea ks ps/\∀b H',An H H'->Q (.bl b) H'
theorem Fw (T:Txt K mg Ak Aa Ae XC)(F:Fun K "_law_is_whole_head" "_law_is_whole_head" A0 f fd):FnOk P w K mg base CZ 1 f fd ["_law_head_here"] (B0 K):=by
 exists B1
 ·obtain⟨h,ag,ka,ea,ks,ps,rfl,_⟩:=h;rfl
 obtain⟨h,ag,ka,ea,ks,ps,rfl,hd,q⟩:=h;have hu:=BP hr;have hu9:=C1 hr;refine⟨_,(!Ag (@Au _ _ (1) _ _ _ _ B1.nd rfl (by trivial) (@BA _ ["_law_entry"] _ _ _ _ _ _ _ _ _ _ rfl (!BZ (!Am Ay (pv 0) (!Ad) (λ_ _=>rfl))) (by decide +kernel) (λC s H fp=>⟨(@Aq _ _ (0) _ (show(["_law_entry"]:List Str).Nodup by decide +kernel) rfl (by trivial) (by trivial)),(!B2 (!AC B9 (!Am (AJ (K:=K) (by rfl)) (pv 0) (!Ad) (λ_ _=>rfl)) (!Ad) (AL _))),(!Am (AJ (K:=K) (by rfl)) (pv 0) (!Ad) (λ_ _=>rfl))⟩) (by intro _;rfl)) (by rfl) (by trivial)) (!Ag (@Au _ _ (2) _ _ _ _ B1.nd rfl (by trivial) (!Ao G2 (!A5 (!Ab (!GN) (!Ah))) (@BA _ ["_law_entry"] _ _ _ _ _ _ _ _ _ _ rfl (!BZ (!Am Ay (pv 0) (!Ad) (λ_ _=>rfl))) (by decide +kernel) (λC s H fp=>⟨(@Aq _ _ (0) _ (show(["_law_entry"]:List Str).Nodup by decide +kernel) rfl (by trivial) (by trivial)),(!B2 (!AC B9 (!Am (AJ (K:=K) (by rfl)) (pv 0) (!Ad) (λ_ _=>rfl)) (!Ad) (AL _))),(!Am (AJ (K:=K) (by rfl)) (pv 0) (!Ad) (λ_ _=>rfl))⟩) (by intro _;rfl))) (by rfl) (by trivial)) (!Ag (!BQ (!AC (Nx hu) (@DM _ ["_law_entry","_law_origins"] [none,some 2] _ _ _ _ _ _ _ _ _ _ _ rfl (!BZ (!Am Ay (pv 0) (!Ad) (λ_ _=>rfl))) (by rfl) rfl (by repeat (first|exact trivial|refine⟨rfl,?_⟩)) (by repeat (first|exact trivial|refine⟨λh=>(by first|exact⟨_,rfl⟩|cases h),?_⟩)) (λC s H fp=>⟨(@Aq _ _ (0) _ (show(["_law_entry","_law_origins"]:List Str).Nodup by decide +kernel) rfl (by trivial) (by trivial)),(!B2 (@PW.pt _ _ _ (!FI (!AC B9 (!Am (AJ (K:=K) (by rfl)) (pv 0) (!Ad) (λ_ _=>rfl)) (!Ad) (AL _)) (!EX (!AC (Gx (K:=K) (by rfl)) (!Am (AJ (K:=K) (by rfl)) (pv 0) (!Ad) (λ_ _=>rfl)) (pv 1)))))),(pv 0)⟩) (by intro _;rfl)) (!A5 (!Ah)) (AL _)) (!Al (!Av (!Hn))) (!AX)) (!Al (!Av (!Gp (QR hu) (@DM _ ["_law_entry","_law_stems"] [none,some 1] _ _ _ _ _ _ _ _ _ _ _ rfl (!BZ (!Am Ay (pv 0) (!Ad) (λ_ _=>rfl))) (by rfl) rfl (by repeat (first|exact trivial|refine⟨rfl,?_⟩)) (by repeat (first|exact trivial|refine⟨λh=>(by first|exact⟨_,rfl⟩|cases h),?_⟩)) (λC s H fp=>⟨(@Aq _ _ (0) _ (show(["_law_entry","_law_stems"]:List Str).Nodup by decide +kernel) rfl (by trivial) (by trivial)),(!B2 (@PW.pt _ _ _ (!FI (!AC B9 (!Am (AJ (K:=K) (by rfl)) (pv 0) (!Ad) (λ_ _=>rfl)) (!Ad) (AL _)) (!EX (!AC (Gx (K:=K) (by rfl)) (!Am (AJ (K:=K) (by rfl)) (pv 0) (!Ad) (λ_ _=>rfl)) (pv 1)))))),(pv 0)⟩) (by intro _;rfl)) (!A5 (!Ah)) (AL _))))))),?_⟩
 try dsimp only[Bw,Cx.nox,Cx.wish]
 have el:=hd.el;have en3:∀x∈ps,∃ta,H x.1=some (.tup [.str x.2.nm,.int x.2.kd,.str x.2.ow,kV x.2.og,.ref ta]):=λx hx=>let⟨ta,h1,_⟩:=hd.en x hx;⟨ta,h1⟩
 refine Ax ⟨_,rfl,h,_,_,_,rfl,rfl,AG.of hd.at_,Ap (j:=2) rfl,ea,rfl,⟨_,AG.of hd.et⟩,BW (ps:=ps) (λx=>decide (V.int x.2.kd=V.int 1)) (λx=>.str x.2.nm) (By hd.et) (by omega) (λx hx H' R s' hR=>?_) (λx hx _ H' R s' hR=>?_) λl1 H1 nl1 s1 hl1=>?_⟩
 ·obtain⟨ta,h1⟩:=en3 x hx;exact⟨_,rfl,x.1,_,_,_,rfl,rfl,AG.of (s'.get h1),Ap (j:=1) rfl,rfl,_,rfl,hR⟩
 ·obtain⟨ta,h1⟩:=en3 x hx;exact⟨_,rfl,x.1,_,_,_,rfl,rfl,AG.of (s'.get h1),Ap (j:=0) rfl,hR H' (An.refl _)⟩
 dsimp only[Az];refine Ax ⟨Pr,λl2 nl2=>?_⟩;have s2:=Ai nl2 (.lst [V.str (PySem.Str.ofString "")]);have hl2:(upd H1 l2 (.lst [V.str (PySem.Str.ofString "")])) l2=some (.lst [V.str (PySem.Str.ofString "")]):=Ac;have s12:=s1.trans s2;generalize upd H1 l2 (.lst [V.str (PySem.Str.ofString "")])=H2 at s2 hl2 s12;refine⟨_,rfl,h,_,_,_,rfl,rfl,AG.of (s12.get hd.at_),Ap (j:=2) rfl,ea,rfl,⟨_,AG.of (s12.get hd.et)⟩,BW (ps:=ps) (λx=>decide (V.int x.2.kd=V.int 2)) (λx=>.str x.2.nm) (By (s12.get hd.et)) (by omega) (λx hx H' R s' hR=>?_) (λx hx _ H' R s' hR=>?_) λl3 H3 nl3 s3 hl3=>?_⟩
 ·obtain⟨ta,h1⟩:=en3 x hx;exact⟨_,rfl,x.1,_,_,_,rfl,rfl,AG.of (s'.get (s12.get h1)),Ap (j:=1) rfl,rfl,_,rfl,hR⟩
 ·obtain⟨ta,h1⟩:=en3 x hx;exact⟨_,rfl,x.1,_,_,_,rfl,rfl,AG.of (s'.get (s12.get h1)),Ap (j:=0) rfl,hR H' (An.refl _)⟩
 have lf3:=bE (λx:Addr×HE=>decide (V.int x.2.kd=V.int 2)) ps;refine⟨l2,l3,_,_,rfl,rfl,AB.of (s3.get hl2),AB.of hl3,small (by rw[aa];show 1+_<=_;omega),λl4 nl4=>?_⟩;have s4:=Ai nl4 (.lst ([V.str (PySem.Str.ofString "")]++(ps.filter λx=>decide (V.int x.2.kd=V.int 2)).map λx=>V.str x.2.nm));have hl4:(upd H3 l4 (.lst ([V.str (PySem.Str.ofString "")]++(ps.filter λx=>decide (V.int x.2.kd=V.int 2)).map λx=>V.str x.2.nm))) l4=some (.lst ([V.str (PySem.Str.ofString "")]++(ps.filter λx=>decide (V.int x.2.kd=V.int 2)).map λx=>V.str x.2.nm)):=Ac;have fl1:((ps.filter λx=>decide (V.int x.2.kd=V.int 1)).map λx=>V.str x.2.nm).all Ez=true:=aX.mpr λv hv=>by obtain⟨x,_,rfl⟩:=ah.mp hv;rfl
 have fl4:([V.str (PySem.Str.ofString "")]++(ps.filter λx=>decide (V.int x.2.kd=V.int 2)).map λx=>V.str x.2.nm).all Ez=true:=aX.mpr λv hv=>by
  rcases au.mp hv with hv|hv
  ·rw[ai.mp hv];rfl
  ·obtain⟨x,_,rfl⟩:=ah.mp hv;rfl
 have s14:=s12.trans (s3.trans s4);have hl14:=(s2.trans (s3.trans s4)).get hl1;dsimp only[Az];generalize upd H3 l4 (.lst ([V.str (PySem.Str.ofString "")]++(ps.filter λx=>decide (V.int x.2.kd=V.int 2)).map λx=>V.str x.2.nm))=H4 at hl4 s14 hl14;generalize ([V.str (PySem.Str.ofString "")]++(ps.filter λx=>decide (V.int x.2.kd=V.int 2)).map λx=>V.str x.2.nm)=os at hl4 fl4;generalize ((ps.filter λx=>decide (V.int x.2.kd=V.int 1)).map λx=>V.str x.2.nm)=sts at hl14 fl1;have fo:∀x:Addr×HE,Ez (kV x.2.og)=true:=λx=>by cases x.2.og<;>rfl
 refine⟨_,rfl,h,_,_,_,rfl,rfl,AG.of (s14.get hd.at_),Ap (j:=2) rfl,ea,rfl,⟨_,AG.of (s14.get hd.et)⟩,BW (ps:=ps) (λx=>decide (V.int x.2.kd=V.int 1) && !Rh (kV x.2.og) os) (λx=>.ref x.1) (By (s14.get hd.et)) (by omega) (λx hx H' R s' hR=>?_) (λx hx _ H' R s' hR=>⟨_,rfl,hR H' (An.refl _)⟩) λl5 H5 nl5 s5 hl5=>?_⟩
 ·obtain⟨ta,h1⟩:=en3 x hx;have h1:=s'.get (s14.get h1);exact FR _ _ (λR q=>⟨_,rfl,x.1,_,_,_,rfl,rfl,AG.of h1,Ap (j:=1) rfl,rfl,_,rfl,q⟩) (λ_ R q=>⟨_,rfl,x.1,_,_,_,rfl,rfl,AG.of h1,Ap (j:=3) rfl,_,rfl,l4,_,rfl,.inl (AB.of (s'.get hl4)),fo x,fl4,_,rfl,q⟩) hR
 refine⟨Fv,λl6 nl6=>?_⟩;have s6:=Ai nl6 (.lst []);have s16:=s14.trans (s5.trans s6);refine⟨l5,l6,_,rfl,rfl,AB.of (s6.get hl5),AB.of Ac,_,rfl,D0 (λc=>q _ _ s16) (λc=>?_)⟩;dsimp only[Kd,TJ];generalize upd H5 l6 (.lst [])=H6 at s6 s16;refine⟨_,rfl,h,_,_,_,rfl,rfl,AG.of (s16.get hd.at_),Ap (j:=2) rfl,ea,rfl,⟨_,AG.of (s16.get hd.et)⟩,BW (ps:=ps) (λx=>decide (V.int x.2.kd=V.int 2) && !Rh (.str x.2.ow) sts) (λx=>.ref x.1) (By (s16.get hd.et)) (by omega) (λx hx H' R s' hR=>?_) (λx hx _ H' R s' hR=>⟨_,rfl,hR H' (An.refl _)⟩) λl7 H7 nl7 s7 hl7=>?_⟩
 ·obtain⟨ta,h1⟩:=en3 x hx;have h1:=s'.get (s16.get h1);exact FR _ _ (λR q=>⟨_,rfl,x.1,_,_,_,rfl,rfl,AG.of h1,Ap (j:=1) rfl,rfl,_,rfl,q⟩) (λ_ R q=>⟨_,rfl,x.1,_,_,_,rfl,rfl,AG.of h1,Ap (j:=2) rfl,_,rfl,l1,_,rfl,.inl (AB.of (s'.get ((s5.trans s6).get hl14))),rfl,fl1,_,rfl,q⟩) hR
 exact⟨Fv,λl8 nl8=>⟨l7,l8,_,rfl,rfl,AB.of ((Ai nl8 _).get hl7),AB.of Ac,q _ _ (s16.trans (s7.trans (Ai nl8 _)))⟩⟩
end
open M06
section
variable {P:Program}{w:World}{K:W.Frag}{mg:Str->Option Value}{base:Heap}{f Ak Aa Ae:Addr}{XC:Nat->Addr}{fd:FuncData}{PT:Addr}
theorem Dz.kt {H H':Hp}(t:Dz PT LQ LP H)(k:Kt H H'):Dz PT LQ LP H':=by
 rcases t with e|⟨c,e,e2⟩
 ·exact .inl (k _ _ e (λ_ _ _ z=>by cases z) λ_ z=>by cases z)
 ·exact .inr ⟨c,k _ _ e (λ_ _ _ z=>by cases z) (λ_ z=>by cases z),k _ _ e2 (λ_ _ _ z=>by cases z) λ_ z=>by cases z⟩
def VT (B:BM)(Nm:Str->Prop)(z:Int):Prop:=Rw B 2 z\/Fd B Nm 6 z
theorem RA (B:BM)(Nm:Str->Prop):HS B (VT B Nm):=λz h=>by
 rcases h with h|⟨es,e,l,nd,h⟩
 ·rcases h with⟨c,e,_⟩|⟨lv,ts,e,l,h⟩
  ·exact⟨_,e,bw _,λ_ h=>nomatch h⟩
  ·exact⟨_,e,l,λt ht=>.inl (h t ht).up⟩
 ·refine⟨_,e,by rw[AM,aa];exact l,λt ht=>?_⟩;obtain⟨x,hx,rfl⟩:=ah.mp ht;rcases(h x hx).2 with⟨_,r⟩|⟨_,r⟩
  ·exact .inl r
  ·exact .inr r.up
def VE (q:Str×Int):Tr:=.tup [.str q.1,.int q.2]
def V0:Key->Tr
 | .inl i=>.int i
 | .inr s=>.str s
def Vx (e:HE):Tr:=.tup [.str e.nm,.int e.kd,.str e.ow,V0 e.og,FJ e.tg]
theorem Ka {α:Type}{g:α->Tr}{a:α->Addr}{H:Hp}{xs:List α}(h:∀x∈xs,Rep NL H (g x) (.ref (a x))):AH NL H (xs.map g) (xs.map λx=>V.ref (a x)):=
 NJ (by rw[aa]) λi x v hx hv=>by
  rw[aB,hx] at hv;cases hv;exact h x (az hx)
theorem Ku {α:Type}{g:α->Tr}{n:Nat}(h:∀x,(g x).dep<=n):∀l:List α,Tr.deps (l.map g)<=n
 |[]=>by simp[Tr.deps]
 |x::l=>by
  show max (Tr.dep (g x)) (Tr.deps (l.map g))<=n;exact Nat.max_le.mpr ⟨h x,Ku h l⟩
theorem RE {z:Str}(h:TN z):Iu (.str z)=true:=by
 show(decide ((1:Int)<=z.length)&&decide ((z.length:Int)<=8)&&Bt LN z)=true;have l0:0<z.length:=by rw[<-A1];exact bX.mpr h.1
 have l8:=h.2.1;rw[aU,aU];refine⟨⟨aI (by omega),aI (by omega)⟩,?_⟩;unfold Bt;exact aX.mpr λc hc=>aI (h.2.2 c hc)
theorem made {C:Addr}{H1 H2:Hp}{x dx:Addr}(nx:H1 x=none)(ndx:H1 dx=none)(k:∀b o,(upd (upd H1 dx (.own x)) x (.ins C dx [])) b=some o->b≠x->H2 b=some o):An H1 H2:=λb o e=>by
 have n1:b≠x:=Bh e nx;have n2:b≠dx:=Bh e ndx;exact k b o (by rw[Af n1,Af n2];exact e) n1
theorem RC {H:Hp}{ea:Addr}{ps:List (Addr×HE)}{Q:VK}(h:H ea=some (.tup (ps.map λp=>V.ref p.1)))(hq:∀eb (qs:List (Addr×HE)) H',An H H'->H' eb=some (.tup (qs.map λp=>V.ref p.1))->qs.Sublist ps->Q (.ref eb) H'):US K (.ref ea) none (some (-1)) H Q:=by
 refine⟨ea,_,rfl,AG.of h,λ_=>hq ea ps H (An.refl _) h (dJ _),λ_ p np=>?_⟩;obtain⟨k,ek⟩:∃k,KO (ps.map λp=>V.ref p.1) none (some (-1))=(ps.take k).map λp=>V.ref p.1:=by
  unfold KO;rw[show HT.Ct (ps.map λp=>V.ref p.1).length 0 none=0 from rfl,List.drop_zero,<-List.map_take];exact⟨_,rfl⟩
 rw[ek];exact hq p _ _ (Ai np _) Ac (cI _ _)
theorem Hd.sub {H:Hp}{h h2:Addr}{ag:Int}{ka ea eb:Addr}{ks:List (Addr×Str×Int)}{ps qs:List (Addr×HE)}(a:Hd H h ag ka ea ks ps)(h1:H h2=some (.tup [.int ag,.ref ka,.ref eb]))(h3:H eb=some (.tup (qs.map λp=>V.ref p.1)))(s:qs.Sublist ps):Hd H h2 ag ka eb ks qs:=
 ⟨h1,a.kt,a.ke,a.kn,a.kl,h3,λp hp=>a.en p (s.subset hp),λp hp=>a.og p (s.subset hp),a.nd.sublist (s.map _),bq s.length_le a.el⟩
theorem RX {ps qs:List (Addr×HE)}(s:qs.Sublist ps)(h:(Jb (ps.map (·.2))).Nodup):(Jb (qs.map (·.2))).Nodup:=h.sublist (((s.map _).filter _).map _)
def KA (K:W.Frag)(PT:Addr):Sp:=λvs H Q _=>∃(a:Addr) (ns:List Int),vs=[.ref a]/\AB K H a (ns.map V.int)/\ns.length<=63/\Dz PT LQ LP H/\∀H',Q (.bl true) H'
theorem Te (T:Txt K mg Ak Aa Ae XC)(F:Fun K "law" "law" Hi f fd)(AW:Def P w K mg base 1 "_law_cell_at" ["_law_script","_law_k"] (BR K))(EU:Def P w K mg base 1 "_law_names" ["_law_row_here","_law_many"] (Ei K))(FE:Nh P w K mg base 1 Ae "Pool" ["self","boards"] (E7 K Ae))(Eg:Def P w K mg base 16 "_law_blocks" ["_law_script","_law_pool","_law_names_here"] (D3 K Ae Aa))(FS:Def P w K mg base 2 "_law_head" ["_law_script","_law_names_here","_law_folders"] (Fh K))(BC:Def P w K mg base 1 "_law_row" ["_law_cell","_law_many"] (Dt K))(Em:Nh P w K mg base 3 Ak "Boards" ["self","many"] (D5 K Ak))(Cd:Def P w K mg base 1 "_law_is_whole_head" ["_law_head_here"] (B0 K))(Fe:Def P w K mg base 4 "_law_right" ["_law_pool","_law_blocks_here","_law_head_here"] (Eu K Ae Aa PT)):FnOk P w K mg base CZ 17 f fd ["_law_script"] (KA K PT):=by
 exists Ej
 ·obtain⟨a,ns,rfl,_⟩:=h;rfl
 obtain⟨a,ns,rfl,hsa,lns,tb,q⟩:=h;have hu:=BP hr;have hu9:=C1 hr;refine⟨_,(!Ag (@Au _ _ (1) _ _ _ _ Ej.nd rfl (by trivial) (!AU AW (by trivial) rfl (!Ab (pv 0) (!Ab (!Ad) (!Ah)))) (by rfl) (by trivial)) (!Ag (@Au _ _ (2) _ _ _ _ Ej.nd rfl (by trivial) (!AU EU (by trivial) rfl (!Ab (!AU BC (by trivial) rfl (!Ab (pv 1) (!Ab (!Ad) (!Ah)))) (!Ab (!Ad) (!Ah)))) (by rfl) (by trivial)) (!Ag (@Au _ _ (3) _ _ _ _ Ej.nd rfl (by trivial) (!Nn FE (by trivial) rfl (!Ab (!Nn Em (by trivial) rfl (!Ab (!Ao AF (!Ad) (!Ao AN (pv 1) (!Ad))) (!Ah))) (!Ah))) (by rfl) (by trivial)) (!Ag (!PM (!AU Eg (by trivial) rfl (!Ab (pv 0) (!Ab (pv 3) (!Ab (pv 2) (!Ah))))) (!JA rfl (!AZ (@Aq _ _ (4) _ Ej.nd rfl (by trivial) (by trivial)) (!AZ (@Aq _ _ (5) _ Ej.nd rfl (by trivial) (by trivial)) (!Ed))))) (!Ag (@Au _ _ (6) _ _ _ _ Ej.nd rfl (by trivial) (!AU FS (by trivial) rfl (!Ab (pv 0) (!Ab (pv 2) (!Ab (pv 5) (!Ah))))) (by rfl) (by trivial)) (!Ag (@Au _ _ (7) _ _ _ _ Ej.nd rfl (by trivial) (!Bq (!Ab (!Am Ay (pv 6) (!Ad) (λ_ _=>rfl)) (!Ab (!Am Ay (pv 6) (!Ad) (λ_ _=>rfl)) (!Ab (!Am Ay (pv 6) (!Ad) (λ_ _=>rfl)) (!Ah))))) (by rfl) (by trivial)) (!Ag (!BJ aW rfl (!C0 (!A5 (!Ab (pv 6) (!Ab (!Bq (!Ab (!Am Ay (pv 6) (!Ad) (λ_ _=>rfl)) (!Ab (!Am Ay (pv 6) (!Ad) (λ_ _=>rfl)) (!Ab (!FH Sd (!Am Ay (pv 6) (!Ad) (λ_ _=>rfl)) (!Hk) (!GW (!Ur T4 (!Ad)))) (!Ah))))) (!Ab (pv 6) (!Ah)))))) (@Aq _ _ (8) _ Ej.nd rfl (by trivial) (by trivial)) (!Ag (!BQ (!GK (!FD (!AU Cd (by trivial) rfl (!Ab (pv 8) (!Ah))) (by intro _;rfl))) (!Al (@Au _ _ (8) _ _ _ _ Ej.nd rfl (by trivial) (!Bq (!Ab (!Am Ay (pv 6) (!Ad) (λ_ _=>rfl)) (!Ab (!Am Ay (pv 6) (!Ad) (λ_ _=>rfl)) (!Ab (!Bq (!Ah)) (!Ah))))) (by rfl) (by trivial))) (!AX)) (!Al (!BQ (!GK (!FD (!AU Fe (by trivial) rfl (!Ab (pv 3) (!Ab (pv 4) (!Ab (pv 8) (!Ah))))) (by intro _;rfl))) (!Al (!Av (!Hn))) (!AX)))) (by intro _;rfl)) (!Al (!Av (!Gp (Re hu9) (pv 6) (pv 7) (AL _))))))))))),?_⟩
 try dsimp only[Bw,Cx.nox,Cx.wish]
 refine Ax ⟨_,rfl,a,ns,0,rfl,by decide,hsa,λc0=>?_⟩;dsimp only[Az];refine Ax ⟨_,rfl,c0,10,rfl,by decide,by decide,λra H1 ms s1 nra hra lms bms=>⟨ra,ms,18,rfl,hra,lms,bms,by decide,by decide,λna H2 zs s2 nna hna lz nmz ndz=>?_⟩⟩;have s12:=s1.trans s2;have lz:zs.length=18:=lz;dsimp only[Az];refine Ax ⟨_,rfl,_,_,rfl,rfl,(by show(0:Int)<3;decide),_,_,rfl,rfl,?_⟩;obtain⟨m,hm,m2,m4⟩:∃m:Nat,2+c0%3=(m:Int)/\2<=m/\m<=4:=⟨(2+c0%3).toNat,by omega,by omega,by omega⟩
 dsimp only[OG];rw[hm];intro xb dxb nxb ndxb _;refine⟨xb,dxb,m,rfl,m2,m4,Ac,λH3 ds B3 n3 k3=>⟨rfl,?_⟩⟩;have s3:=made nxb ndxb k3;intro x dx nx ndx _;refine⟨x,dx,xb,rfl,Ac,λdt dz dd H4 k4 e1 e2 e3 hdt hdz hdd hx=>⟨rfl,?_⟩⟩;have s4:=made nx ndx k4;have s04:=s12.trans (s3.trans s4);have hna4:=(s3.trans s4).get hna;have pa4:PAt Ae Aa H4 x ⟨dx,xb,dt,dz,dd,1⟩ [] []:=⟨⟨hx,hdt,(λ_ h=>nomatch h),bS⟩,hdd,⟨hdz,bS,bS,(λ_ h=>nomatch h),(λ_ h=>nomatch h)⟩,e1,e2,e3,bS,(λi e h=>by cases h),ak _,eI _,(by show(1:Int)<=0+1;decide)⟩
 have tb4:=tb.same s04;have hsa4:=s04.seq hsa
 clear k3 k4 B3 n3 nxb ndxb nx ndx hdt hdz hdd hx s3 s4
 dsimp only[Az];refine Ax ⟨_,rfl,_,rfl,_,rfl,a,x,na,ns,zs,_,rfl,hsa4,pa4,AB.of hna4,(λe=>by rw[e] at lz;cases lz),by omega,λz hz=>RE (nmz z hz),λt d fo cs gs H5 sv ht hfo tg hgs hem lgs=>?_⟩;have kt5:=sv.kt;obtain⟨qP,cl5,bs5,sb5,_⟩:=sv;have lcs:cs.length=cl5.length:=by have:=congrArg List.length sb5.eq;rw[aa,aa] at this;exact this
 have few5:=sb5.few;have pv5:Pv Ae Aa H5 x d cs:=⟨qP,cl5,bs5,sb5.pa,sb5.nl,⟨sb5.at_,sb5.ce,sb5.nd,by omega⟩,sb5.eq,by omega⟩
 have tb5:=Dz.kt tb4 kt5;obtain⟨pe,hpe,epe⟩:=hem;have cne:cs≠[]:=λe=>by
  obtain⟨c,hc,_⟩:=DO epe;rw[e] at hc;cases hc
 dsimp only[Az];refine⟨t,_,rfl,AG.of ht,rfl,_,_,rfl,_,_,rfl,rfl,?_⟩;refine Ax ⟨_,rfl,_,rfl,_,rfl,a,na,fo,ns,zs,gs,rfl,kt5.seq hsa4,kt5.seq (AB.of hna4),lz,ndz,⟨hfo,tg⟩,(λe=>by rw[e] at hpe;cases hpe),by omega,λh ag ka ea ks ps H6 s6 hh hka hks ndk lks hea hps ndp lps nsl=>?_⟩;have hd6:Hd H6 h ag ka ea ks ps:=⟨hh,hka,hks,ndk,lks,hea,λp hp=>(hps p hp).1,λp hp=>(hps p hp).2.1,ndp,lps⟩
 have okp:∀y∈ps,VT (bm cs) (·∈zs) y.2.tg.1:=λy hy=>by
  obtain⟨_,_,_,g,hg,e⟩:=hps y hy;rw[e];exact .inr (hgs g hg)
 dsimp only[Az];refine Ax ⟨_,rfl,h,_,_,_,rfl,rfl,AG.of hh,Ap (j:=0) rfl,_,rfl,h,_,_,_,rfl,rfl,AG.of hh,Ap (j:=1) rfl,_,rfl,h,_,_,_,rfl,rfl,AG.of hh,Ap (j:=2) rfl,Iv,λth nth=>?_⟩;have s7:=Ai nth (.tup [.int ag,.ref ka,.ref ea]);have hth:(upd H6 th (.tup [.int ag,.ref ka,.ref ea])) th=some (.tup [.int ag,.ref ka,.ref ea]):=Ac;dsimp only[Az];generalize upd H6 th (.tup [.int ag,.ref ka,.ref ea])=H7 at s7 hth;have hd7:=hd6.same s7;have pv7:=pv5.kb (KB.of (s6.trans s7));have tb7:=tb5.same (s6.trans s7);refine Br (t:=Iw _ _ _) (λσ' H'=>∃v8,σ'=[some (.ref a),some (.int c0),some (.ref na),some (.ref x),some (.ref d),some (.ref fo),some (.ref h),some (.ref th),v8]/\KB H7 H') (λN hN=>?_) ?_
 ·refine⟨_,rfl,_,rfl,h,_,_,_,rfl,rfl,AG.of hd7.at_,Ap (j:=0) rfl,_,rfl,h,_,_,_,rfl,rfl,AG.of hd7.at_,Ap (j:=1) rfl,_,rfl,h,_,_,_,rfl,rfl,AG.of hd7.at_,Ap (j:=2) rfl,1,rfl,-1,rfl,RC (K:=K) hd7.et λeb qs H8 s8 heb sub=>?_⟩;refine⟨Iv,λh2 nh2=>?_⟩;have s9:=Ai nh2 (.tup [.int ag,.ref ka,.ref eb]);have hh2:(upd H8 h2 (.tup [.int ag,.ref ka,.ref eb])) h2=some (.tup [.int ag,.ref ka,.ref eb]):=Ac;generalize upd H8 h2 (.tup [.int ag,.ref ka,.ref eb])=H9 at s9 hh2;refine⟨_,rfl,Iv,λl3 nl3=>?_⟩;have s10:=Ai nl3 (.lst [V.ref h,.ref h2,.ref h]);have hl3:(upd H9 l3 (.lst [V.ref h,.ref h2,.ref h])) l3=some (.lst [V.ref h,.ref h2,.ref h]):=Ac;generalize upd H9 l3 (.lst [V.ref h,.ref h2,.ref h])=H10 at s10 hl3;have s710:=s8.trans (s9.trans s10);have hd10:=hd7.same s710;have hd10b:Hd H10 h2 ag ka eb ks qs:=hd10.sub (s10.get hh2) ((s9.trans s10).get heb) sub;have good:∀v∈[V.ref h,.ref h2,.ref h],∃hv ev qv,v=.ref hv/\Hd H10 hv ag ka ev ks qv/\qv.Sublist ps:=λv hv=>by
   rcases aL.mp hv with rfl|hv
   ·exact⟨h,ea,ps,rfl,hd10,dJ _⟩
   rcases aL.mp hv with rfl|hv
   ·exact⟨h2,eb,qs,rfl,hd10b,sub⟩
   ·rw[ai.mp hv];exact⟨h,ea,ps,rfl,hd10,dJ _⟩
  have S10:=ST.of tb7 s710;refine⟨l3,rfl,⟨_,AB.of hl3⟩,EF (K:=K) (a:=l3) (xs:=[V.ref h,.ref h2,.ref h]) (λi σ H'=>∃v8,σ=[some (.ref a),some (.int c0),some (.ref na),some (.ref x),some (.ref d),some (.ref fo),some (.ref h),some (.ref th),v8]/\ST PT H10 H') ⟨_,rfl,ST.of S10.t' (An.refl _)⟩ (λi σ H' _ ⟨_,_,s'⟩=>AB.of (s'.kb.lst hl3)) ?_ ?_⟩
  ·rintro i v σ H11 hi ⟨v8,rfl,S11⟩
   obtain⟨hv,ev,qv,rfl,hdv,sv⟩:=good v (az hi);have hdv11:=hdv.keep S11.kb.tup;have hd11:=hd10.keep S11.kb.tup;dsimp only[Az];refine Br (t:=TL _ _ _) (λσ' H'=>∃hw ew qw,σ'=[some (.ref a),some (.int c0),some (.ref na),some (.ref x),some (.ref d),some (.ref fo),some (.ref h),some (.ref th),some (.ref hw)]/\An H11 H'/\Hd H' hw ag ka ew ks qw/\qw.Sublist ps) (λN2 hN2=>?_) ?_
   ·refine⟨_,rfl,hv,ag,ka,ev,ks,qv,rfl,hdv11,λb H12 s12'=>⟨_,rfl,D0 (λc=>?_) (λc=>?_)⟩⟩
    ·have hd12:=hd11.same s12';refine⟨_,rfl,h,_,_,_,rfl,rfl,AG.of hd12.at_,Ap (j:=0) rfl,_,rfl,h,_,_,_,rfl,rfl,AG.of hd12.at_,Ap (j:=1) rfl,Fv,λe0 ne0=>⟨Iv,λh3 nh3=>?_⟩⟩;have s13:=Ai ne0 (.tup []);have s14:=Ai nh3 (.tup [.int ag,.ref ka,.ref e0]);have s1214:=s13.trans s14;exact hN2 _ _ ⟨h3,e0,[],rfl,s12'.trans s1214,(hd12.same s1214).sub Ac (s14.get Ac) (List.nil_sublist _),List.nil_sublist _⟩
    ·exact hN2 _ _ ⟨hv,ev,qv,rfl,s12',hdv11.same s12',sv⟩
   rintro σ' H12 ⟨hw,ew,qw,rfl,s12',hdw,sw⟩
   have S12:=(S10.trans S11).on s12';refine⟨_,rfl,_,rfl,_,rfl,x,d,hw,cs,ag,ka,ew,ks,qw,_,rfl,pv7.kb S12.kb,cne,hdw,RX sw nsl,S12.t',RA (bm cs) (·∈zs),λy hy=>okp y (sw.subset hy),λH13 S13=>⟨_,rfl,Cu rfl ⟨_,rfl,(S11.on s12').trans S13⟩⟩⟩
  ·rintro σ H11 ⟨v8,rfl,S11⟩
   exact hN _ _ ⟨_,rfl,(S10.trans S11).kb⟩
 rintro σ' H8 ⟨v8,rfl,k8⟩
 have hd8:=hd7.keep k8.tup;have rp:∀hx,H8 hx=some (.tup [.int ag,.ref ka,.ref ea])->Rep NL H8 (.tup [.int ag,.tup (ks.map λk=>VE k.2),.tup (ps.map λp=>Vx p.2)]) (.ref hx):=λhx e=>by
  refine⟨hx,_,rfl,e,_,_,rfl,rfl,_,_,rfl,⟨ka,_,rfl,hd8.kt,Ka λk hk=>?_⟩,_,_,rfl,⟨ea,_,rfl,hd8.et,Ka λp hp=>?_⟩,rfl⟩
  ·exact⟨k.1,_,rfl,hd8.ke k hk,_,_,rfl,rfl,_,_,rfl,rfl,rfl⟩
  ·obtain⟨ta,e1,e2⟩:=hd8.en p hp;exact⟨p.1,_,rfl,e1,_,_,rfl,rfl,_,_,rfl,rfl,_,_,rfl,rfl,_,_,rfl,(by cases p.2.og<;>rfl),_,_,rfl,HA e2,rfl⟩
 have d1:=Ku (g:=λk:Addr×Str×Int=>VE k.2) (n:=20) (λx=>by simp[VE,Tr.dep,Tr.deps]) ks;have d2:=Ku (g:=λp:Addr×HE=>Vx p.2) (n:=20) (λx=>by cases e:x.2.og<;>simp[Vx,FJ,V0,e,Tr.dep,Tr.deps]) ps;exact⟨_,rfl,_,rfl,_,NL,NL,by simp only[Tr.dep,Tr.deps];omega,rp h hd8.at_,rp th (k8.tup _ _ hth),q _⟩
end
theorem V1 {us:List Value}(h:us.length=0):us=[]:=by
 cases us with
 |nil=>rfl
 |cons _ _=>cases h
theorem Mw {us:List Value}(h:us.length=1):∃x0,us=[x0]:=by
 cases us with
 |nil=>cases h
 |cons a us=>
  cases V1 (cZ h);exact⟨_,rfl⟩
theorem ln2 {us:List Value}(h:us.length=2):∃x0 x1,us=[x0,x1]:=by
 cases us with
 |nil=>cases h
 |cons a us=>
  obtain⟨_,rfl⟩:=Mw (cZ h);exact⟨_,_,rfl⟩
theorem Q9 {us:List Value}(h:us.length=3):∃x0 x1 x2,us=[x0,x1,x2]:=by
 cases us with
 |nil=>cases h
 |cons a us=>
  obtain⟨_,_,rfl⟩:=ln2 (cZ h);exact⟨_,_,_,rfl⟩
theorem VY {us:List Value}(h:us.length=4):∃x0 x1 x2 x3,us=[x0,x1,x2,x3]:=by
 cases us with
 |nil=>cases h
 |cons a us=>
  obtain⟨_,_,_,rfl⟩:=Q9 (cZ h);exact⟨_,_,_,_,rfl⟩
theorem V5 {us:List Value}(h:us.length=5):∃x0 x1 x2 x3 x4,us=[x0,x1,x2,x3,x4]:=by
 cases us with
 |nil=>cases h
 |cons a us=>
  obtain⟨_,_,_,_,rfl⟩:=VY (cZ h);exact⟨_,_,_,_,_,rfl⟩
theorem all_mk {l:W.OpenLaw} {w:World} {K:W.Frag} {h:Heap} {mg:Str->Option Value} {fa:Addr} (X:K.In h) (G:h.Ns mainGlobals mg) (hfa:mg "law"=some (.ref fa))
  {PT:Addr}
  {f0:Addr} {od0 an0:Option Addr} {sl0:Array (Option Value)} {oc0 kV0 dc0 pm0 cd0 ct0:Value}
  {f1:Addr} {od1 an1:Option Addr} {sl1:Array (Option Value)} {oc1 kV1 dc1 pm1 cd1 ct1:Value}
  {f2:Addr} {od2 an2:Option Addr} {sl2:Array (Option Value)} {oc2 kV2 dc2 pm2 cd2 ct2:Value}
  {f3:Addr} {od3 an3:Option Addr} {sl3:Array (Option Value)} {oc3 kV3 dc3 pm3 cd3 ct3:Value}
  {f4:Addr} {od4 an4:Option Addr} {sl4:Array (Option Value)} {oc4 kV4 dc4 pm4 cd4 ct4:Value}
  {f5:Addr} {od5 an5:Option Addr} {sl5:Array (Option Value)} {oc5 kV5 dc5 pm5 cd5 ct5:Value}
  {f6:Addr} {od6 an6:Option Addr} {sl6:Array (Option Value)} {oc6 kV6 dc6 pm6 cd6 ct6:Value}
  {f7:Addr} {od7 an7:Option Addr} {sl7:Array (Option Value)} {oc7 kV7 dc7 pm7 cd7 ct7:Value}
  {f8:Addr} {od8 an8:Option Addr} {sl8:Array (Option Value)} {oc8 kV8 dc8 pm8 cd8 ct8:Value}
  {f9:Addr} {od9 an9:Option Addr} {sl9:Array (Option Value)} {oc9 kV9 dc9 pm9 cd9 ct9:Value}
  {f10:Addr} {od10 an10:Option Addr} {sl10:Array (Option Value)} {oc10 kV10 dc10 pm10 cd10 ct10:Value}
  {f11:Addr} {od11 an11:Option Addr} {sl11:Array (Option Value)} {oc11 kV11 dc11 pm11 ct11:Value}
  {cc11:Addr}
  {f12:Addr} {od12 an12:Option Addr} {sl12:Array (Option Value)} {oc12 kV12 dc12 pm12 cd12 ct12:Value}
  {f13:Addr} {od13 an13:Option Addr} {sl13:Array (Option Value)} {oc13 kV13 dc13 pm13 cd13 ct13:Value}
  {f14:Addr} {od14 an14:Option Addr} {sl14:Array (Option Value)} {oc14 kV14 dc14 pm14 cd14 ct14:Value}
  {f15:Addr} {od15 an15:Option Addr} {sl15:Array (Option Value)} {oc15 kV15 dc15 pm15 cd15 ct15:Value}
  {f16:Addr} {od16 an16:Option Addr} {sl16:Array (Option Value)} {oc16 kV16 dc16 pm16 cd16 ct16:Value}
  {f17:Addr} {od17 an17:Option Addr} {sl17:Array (Option Value)} {oc17 kV17 dc17 pm17 cd17 ct17:Value}
  {f18:Addr} {od18 an18:Option Addr} {sl18:Array (Option Value)} {oc18 kV18 dc18 pm18 cd18 ct18:Value}
  {f19:Addr} {od19 an19:Option Addr} {sl19:Array (Option Value)} {oc19 kV19 dc19 pm19 cd19 ct19:Value}
  {f20:Addr} {od20 an20:Option Addr} {sl20:Array (Option Value)} {oc20 kV20 dc20 pm20 cd20 ct20:Value}
  {f21:Addr} {od21 an21:Option Addr} {sl21:Array (Option Value)} {oc21 kV21 dc21 pm21 cd21 ct21:Value}
  {f22:Addr} {od22 an22:Option Addr} {sl22:Array (Option Value)} {oc22 kV22 dc22 pm22 cd22 ct22:Value}
  {f23:Addr} {od23 an23:Option Addr} {sl23:Array (Option Value)} {oc23 kV23 dc23 pm23 cd23 ct23:Value}
  {f24:Addr} {od24 an24:Option Addr} {sl24:Array (Option Value)} {oc24 kV24 dc24 pm24 cd24 ct24:Value}
  {f25:Addr} {od25 an25:Option Addr} {sl25:Array (Option Value)} {oc25 kV25 dc25 pm25 cd25 ct25:Value}
  {f26:Addr} {od26 an26:Option Addr} {sl26:Array (Option Value)} {oc26 kV26 dc26 pm26 cd26 ct26:Value}
  {f27:Addr} {od27 an27:Option Addr} {sl27:Array (Option Value)} {oc27 kV27 dc27 pm27 cd27 ct27:Value}
  {f28:Addr} {od28 an28:Option Addr} {sl28:Array (Option Value)} {oc28 kV28 dc28 pm28 cd28 ct28:Value}
  {f29:Addr} {od29 an29:Option Addr} {sl29:Array (Option Value)} {oc29 kV29 dc29 pm29 cd29 ct29:Value}
  {f30:Addr} {od30 an30:Option Addr} {sl30:Array (Option Value)} {oc30 kV30 dc30 pm30 cd30 ct30:Value}
  {f31:Addr} {od31 an31:Option Addr} {sl31:Array (Option Value)} {oc31 kV31 dc31 pm31 cd31 ct31:Value}
  {f32:Addr} {od32 an32:Option Addr} {sl32:Array (Option Value)} {oc32 kV32 dc32 pm32 cd32 ct32:Value}
  {f33:Addr} {od33 an33:Option Addr} {sl33:Array (Option Value)} {oc33 kV33 dc33 pm33 cd33 ct33:Value}
  {f34:Addr} {od34 an34:Option Addr} {sl34:Array (Option Value)} {oc34 kV34 dc34 pm34 cd34 ct34:Value}
  {f35:Addr} {od35 an35:Option Addr} {sl35:Array (Option Value)} {oc35 kV35 dc35 pm35 cd35 ct35:Value}
  {f36:Addr} {od36 an36:Option Addr} {sl36:Array (Option Value)} {oc36 kV36 dc36 pm36 cd36 ct36:Value}
  {f37:Addr} {od37 an37:Option Addr} {sl37:Array (Option Value)} {oc37 kV37 dc37 pm37 cd37 ct37:Value}
  {f38:Addr} {od38 an38:Option Addr} {sl38:Array (Option Value)} {oc38 kV38 dc38 pm38 cd38 ct38:Value}
  {f39:Addr} {od39 an39:Option Addr} {sl39:Array (Option Value)} {oc39 kV39 dc39 pm39 cd39 ct39:Value}
  {f40:Addr} {od40 an40:Option Addr} {sl40:Array (Option Value)} {oc40 kV40 dc40 pm40 cd40 ct40:Value}
  {f41:Addr} {od41 an41:Option Addr} {sl41:Array (Option Value)} {oc41 kV41 dc41 pm41 cd41 ct41:Value}
  {f42:Addr} {od42 an42:Option Addr} {sl42:Array (Option Value)} {oc42 kV42 dc42 pm42 cd42 ct42:Value}
  {f43:Addr} {od43 an43:Option Addr} {sl43:Array (Option Value)} {oc43 kV43 dc43 pm43 cd43 ct43:Value}
  {f44:Addr} {od44 an44:Option Addr} {sl44:Array (Option Value)} {oc44 kV44 dc44 pm44 cd44 ct44:Value}
  {f45:Addr} {od45 an45:Option Addr} {sl45:Array (Option Value)} {oc45 kV45 dc45 pm45 cd45 ct45:Value}
  {Ak:Addr}
  {Aa:Addr}
  {Ae:Addr}
  {QJ:Addr}
  {t_SIGNS:Tok}
  {t_NUMBER_WORD:Tok}
  {t_TEXT_WORD:Tok}
  {t_TUPLE_WORD:Tok}
  {t_PIECE:Tok}
  {t_ROW:Tok}
  {t_FOLDER:Tok}
  {t_FOLDER_ENTRY:Tok}
  {t_NAME_SIGNS:Tok}
  {t_MOST_NAME_SIGNS:Tok}
  {t_SUM_RESTS:Tok}
  {t_STEM:Tok}
  {t_SEAL:Tok}
  {t_LEAST_BOARDS:Tok}
  {t_MOST_BOARDS:Tok}
  (a0:W.nsIn K mainGlobals "is_whole"=some (some (.ref f0))) (l0:K.lookup f0=some ⟨oc0,od0,.func (W.fnOf "is_whole" "is_whole" (As Dm) (Ar Dm) (Aj Dm) .none kV0 dc0 pm0 an0 cd0 ct0),sl0⟩) (c0:W.codeIn K cd0 "is_whole"=true) (k0:W.keepIn K (.ref f0)=true)
  (a1:W.nsIn K mainGlobals "is_between"=some (some (.ref f1))) (l1:K.lookup f1=some ⟨oc1,od1,.func (W.fnOf "is_between" "is_between" (As Ck) (Ar Ck) (Aj Ck) .none kV1 dc1 pm1 an1 cd1 ct1),sl1⟩) (c1:W.codeIn K cd1 "is_between"=true) (k1:W.keepIn K (.ref f1)=true)
  (a2:W.nsIn K mainGlobals "number_of"=some (some (.ref f2))) (l2:K.lookup f2=some ⟨oc2,od2,.func (W.fnOf "number_of" "number_of" (As CL) (Ar CL) (Aj CL) .none kV2 dc2 pm2 an2 cd2 ct2),sl2⟩) (c2:W.codeIn K cd2 "number_of"=true) (k2:W.keepIn K (.ref f2)=true)
  (a3:W.nsIn K mainGlobals "is_text"=some (some (.ref f3))) (l3:K.lookup f3=some ⟨oc3,od3,.func (W.fnOf "is_text" "is_text" (As DR) (Ar DR) (Aj DR) .none kV3 dc3 pm3 an3 cd3 ct3),sl3⟩) (c3:W.codeIn K cd3 "is_text"=true) (k3:W.keepIn K (.ref f3)=true)
  (a4:W.nsIn K mainGlobals "words_of"=some (some (.ref f4))) (l4:K.lookup f4=some ⟨oc4,od4,.func (W.fnOf "words_of" "words_of" (As B8) (Ar B8) (Aj B8) .none kV4 dc4 pm4 an4 cd4 ct4),sl4⟩) (c4:W.codeIn K cd4 "words_of"=true) (k4:W.keepIn K (.ref f4)=true)
  (a5:W.nsIn K mainGlobals "is_name"=some (some (.ref f5))) (l5:K.lookup f5=some ⟨oc5,od5,.func (W.fnOf "is_name" "is_name" (As DQ) (Ar DQ) (Aj DQ) .none kV5 dc5 pm5 an5 cd5 ct5),sl5⟩) (c5:W.codeIn K cd5 "is_name"=true) (k5:W.keepIn K (.ref f5)=true)
  (a6:W.nsIn K mainGlobals "sum_of"=some (some (.ref f6))) (l6:K.lookup f6=some ⟨oc6,od6,.func (W.fnOf "sum_of" "sum_of" (As EG) (Ar EG) (Aj EG) .none kV6 dc6 pm6 an6 cd6 ct6),sl6⟩) (c6:W.codeIn K cd6 "sum_of"=true) (k6:W.keepIn K (.ref f6)=true)
  (a7:W.nsIn K mainGlobals "numbers_told"=some (some (.ref f7))) (l7:K.lookup f7=some ⟨oc7,od7,.func (W.fnOf "numbers_told" "numbers_told" (As BF) (Ar BF) (Aj BF) .none kV7 dc7 pm7 an7 cd7 ct7),sl7⟩) (c7:W.codeIn K cd7 "numbers_told"=true) (k7:W.keepIn K (.ref f7)=true)
  (a8:W.nsIn K mainGlobals "size_of"=some (some (.ref f8))) (l8:K.lookup f8=some ⟨oc8,od8,.func (W.fnOf "size_of" "size_of" (As DP) (Ar DP) (Aj DP) .none kV8 dc8 pm8 an8 cd8 ct8),sl8⟩) (c8:W.codeIn K cd8 "size_of"=true) (k8:W.keepIn K (.ref f8)=true)
  (a9:W.nsIn K mainGlobals "tags_in"=some (some (.ref f9))) (l9:K.lookup f9=some ⟨oc9,od9,.func (W.fnOf "tags_in" "tags_in" (As DS) (Ar DS) (Aj DS) .none kV9 dc9 pm9 an9 cd9 ct9),sl9⟩) (c9:W.codeIn K cd9 "tags_in"=true) (k9:W.keepIn K (.ref f9)=true)
  (a10:W.nsIn K mainGlobals "stems_in"=some (some (.ref f10))) (l10:K.lookup f10=some ⟨oc10,od10,.func (W.fnOf "stems_in" "stems_in" (As Df) (Ar Df) (Aj Df) .none kV10 dc10 pm10 an10 cd10 ct10),sl10⟩) (c10:W.codeIn K cd10 "stems_in"=true) (k10:W.keepIn K (.ref f10)=true)
  (a11:W.nsIn K mainGlobals "seals_of"=some (some (.ref f11))) (l11:K.lookup f11=some ⟨oc11,od11,.func (W.fnOf "seals_of" "seals_of" (As Di) (Ar Di) (Aj Di) .none kV11 dc11 pm11 an11 (.ref cc11) ct11),sl11⟩) (c11:W.codeIn K (.ref cc11) "seals_of"=true) (k11:W.keepIn K (.ref f11)=true) (R7:W.codeHdIn K cc11 PT=true) (Th:K.lookup PT=none)
  (a12:W.nsIn K mainGlobals "tags_kept"=some (some (.ref f12))) (l12:K.lookup f12=some ⟨oc12,od12,.func (W.fnOf "tags_kept" "tags_kept" (As CK) (Ar CK) (Aj CK) .none kV12 dc12 pm12 an12 cd12 ct12),sl12⟩) (c12:W.codeIn K cd12 "tags_kept"=true) (k12:W.keepIn K (.ref f12)=true)
  (a13:W.nsIn K mainGlobals "holders_in"=some (some (.ref f13))) (l13:K.lookup f13=some ⟨oc13,od13,.func (W.fnOf "holders_in" "holders_in" (As Cp) (Ar Cp) (Aj Cp) .none kV13 dc13 pm13 an13 cd13 ct13),sl13⟩) (c13:W.codeIn K cd13 "holders_in"=true) (k13:W.keepIn K (.ref f13)=true)
  (a14:W.nsIn K mainGlobals "reached"=some (some (.ref f14))) (l14:K.lookup f14=some ⟨oc14,od14,.func (W.fnOf "reached" "reached" (As DT) (Ar DT) (Aj DT) .none kV14 dc14 pm14 an14 cd14 ct14),sl14⟩) (c14:W.codeIn K cd14 "reached"=true) (k14:W.keepIn K (.ref f14)=true)
  (a15:W.findIn K (.ref Ak) "__init__"=some (some (.ref f15))) (i15:W.isFn K (.ref f15)=true) (l15:K.lookup f15=some ⟨oc15,od15,.func (W.fnOf "__init__" "Boards.__init__" (As BV) (Ar BV) (Aj BV) .none kV15 dc15 pm15 an15 cd15 ct15),sl15⟩) (c15:W.codeIn K cd15 "Boards.__init__"=true) (k15:W.keepIn K (.ref f15)=true)
  (a16:W.findIn K (.ref Aa) "__init__"=some (some (.ref f16))) (i16:W.isFn K (.ref f16)=true) (l16:K.lookup f16=some ⟨oc16,od16,.func (W.fnOf "__init__" "TakenCell.__init__" (As Bm) (Ar Bm) (Aj Bm) .none kV16 dc16 pm16 an16 cd16 ct16),sl16⟩) (c16:W.codeIn K cd16 "TakenCell.__init__"=true) (k16:W.keepIn K (.ref f16)=true)
  (a17:W.findIn K (.ref Ae) "__init__"=some (some (.ref f17))) (i17:W.isFn K (.ref f17)=true) (l17:K.lookup f17=some ⟨oc17,od17,.func (W.fnOf "__init__" "Pool.__init__" (As CJ) (Ar CJ) (Aj CJ) .none kV17 dc17 pm17 an17 cd17 ct17),sl17⟩) (c17:W.codeIn K cd17 "Pool.__init__"=true) (k17:W.keepIn K (.ref f17)=true)
  (a18:W.findIn K (.ref Ae) "put"=some (some (.ref f18))) (i18:W.isFn K (.ref f18)=true) (l18:K.lookup f18=some ⟨oc18,od18,.func (W.fnOf "put" "Pool.put" (As Dd) (Ar Dd) (Aj Dd) .none kV18 dc18 pm18 an18 cd18 ct18),sl18⟩) (c18:W.codeIn K cd18 "Pool.put"=true) (k18:W.keepIn K (.ref f18)=true)
  (a19:W.findIn K (.ref Ae) "alike"=some (some (.ref f19))) (i19:W.isFn K (.ref f19)=true) (l19:K.lookup f19=some ⟨oc19,od19,.func (W.fnOf "alike" "Pool.alike" (As Cs) (Ar Cs) (Aj Cs) .none kV19 dc19 pm19 an19 cd19 ct19),sl19⟩) (c19:W.codeIn K cd19 "Pool.alike"=true) (k19:W.keepIn K (.ref f19)=true)
  (a20:W.findIn K (.ref Ae) "free_number"=some (some (.ref f20))) (i20:W.isFn K (.ref f20)=true) (l20:K.lookup f20=some ⟨oc20,od20,.func (W.fnOf "free_number" "Pool.free_number" (As Ba) (Ar Ba) (Aj Ba) .none kV20 dc20 pm20 an20 cd20 ct20),sl20⟩) (c20:W.codeIn K cd20 "Pool.free_number"=true) (k20:W.keepIn K (.ref f20)=true)
  (a21:W.findIn K (.ref Ae) "take"=some (some (.ref f21))) (i21:W.isFn K (.ref f21)=true) (l21:K.lookup f21=some ⟨oc21,od21,.func (W.fnOf "take" "Pool.take" (As CM) (Ar CM) (Aj CM) .none kV21 dc21 pm21 an21 cd21 ct21),sl21⟩) (c21:W.codeIn K cd21 "Pool.take"=true) (k21:W.keepIn K (.ref f21)=true)
  (a22:W.findIn K (.ref Ae) "entries_of"=some (some (.ref f22))) (i22:W.isFn K (.ref f22)=true) (l22:K.lookup f22=some ⟨oc22,od22,.func (W.fnOf "entries_of" "Pool.entries_of" (As Bf) (Ar Bf) (Aj Bf) .none kV22 dc22 pm22 an22 cd22 ct22),sl22⟩) (c22:W.codeIn K cd22 "Pool.entries_of"=true) (k22:W.keepIn K (.ref f22)=true)
  (a23:W.findIn K (.ref Ae) "steps_of"=some (some (.ref f23))) (i23:W.isFn K (.ref f23)=true) (l23:K.lookup f23=some ⟨oc23,od23,.func (W.fnOf "steps_of" "Pool.steps_of" (As Bv) (Ar Bv) (Aj Bv) .none kV23 dc23 pm23 an23 cd23 ct23),sl23⟩) (c23:W.codeIn K cd23 "Pool.steps_of"=true) (k23:W.keepIn K (.ref f23)=true)
  (a24:W.findIn K (.ref Ae) "block"=some (some (.ref f24))) (i24:W.isFn K (.ref f24)=true) (l24:K.lookup f24=some ⟨oc24,od24,.func (W.fnOf "block" "Pool.block" (As Co) (Ar Co) (Aj Co) .none kV24 dc24 pm24 an24 cd24 ct24),sl24⟩) (c24:W.codeIn K cd24 "Pool.block"=true) (k24:W.keepIn K (.ref f24)=true)
  (a25:W.findIn K (.ref Ae) "hold"=some (some (.ref f25))) (i25:W.isFn K (.ref f25)=true) (l25:K.lookup f25=some ⟨oc25,od25,.func (W.fnOf "hold" "Pool.hold" (As CQ) (Ar CQ) (Aj CQ) .none kV25 dc25 pm25 an25 cd25 ct25),sl25⟩) (c25:W.codeIn K cd25 "Pool.hold"=true) (k25:W.keepIn K (.ref f25)=true)
  (a26:W.findIn K (.ref Ae) "numbers"=some (some (.ref f26))) (i26:W.isFn K (.ref f26)=true) (l26:K.lookup f26=some ⟨oc26,od26,.func (W.fnOf "numbers" "Pool.numbers" (As BO) (Ar BO) (Aj BO) .none kV26 dc26 pm26 an26 cd26 ct26),sl26⟩) (c26:W.codeIn K cd26 "Pool.numbers"=true) (k26:W.keepIn K (.ref f26)=true)
  (a27:W.findIn K (.ref Ae) "tag"=some (some (.ref f27))) (i27:W.isFn K (.ref f27)=true) (l27:K.lookup f27=some ⟨oc27,od27,.func (W.fnOf "tag" "Pool.tag" (As Dg) (Ar Dg) (Aj Dg) .none kV27 dc27 pm27 an27 cd27 ct27),sl27⟩) (c27:W.codeIn K cd27 "Pool.tag"=true) (k27:W.keepIn K (.ref f27)=true)
  (a28:W.findIn K (.ref Ae) "tags"=some (some (.ref f28))) (i28:W.isFn K (.ref f28)=true) (l28:K.lookup f28=some ⟨oc28,od28,.func (W.fnOf "tags" "Pool.tags" (As CU) (Ar CU) (Aj CU) .none kV28 dc28 pm28 an28 cd28 ct28),sl28⟩) (c28:W.codeIn K cd28 "Pool.tags"=true) (k28:W.keepIn K (.ref f28)=true)
  (a29:W.findIn K (.ref Ae) "entries"=some (some (.ref f29))) (i29:W.isFn K (.ref f29)=true) (l29:K.lookup f29=some ⟨oc29,od29,.func (W.fnOf "entries" "Pool.entries" (As BK) (Ar BK) (Aj BK) .none kV29 dc29 pm29 an29 cd29 ct29),sl29⟩) (c29:W.codeIn K cd29 "Pool.entries"=true) (k29:W.keepIn K (.ref f29)=true)
  (a30:W.findIn K (.ref Ae) "deep"=some (some (.ref f30))) (i30:W.isFn K (.ref f30)=true) (l30:K.lookup f30=some ⟨oc30,od30,.func (W.fnOf "deep" "Pool.deep" (As CW) (Ar CW) (Aj CW) .none kV30 dc30 pm30 an30 cd30 ct30),sl30⟩) (c30:W.codeIn K cd30 "Pool.deep"=true) (k30:W.keepIn K (.ref f30)=true)
  (a31:W.nsIn K mainGlobals "_law_cell_at"=some (some (.ref f31))) (l31:K.lookup f31=some ⟨oc31,od31,.func (W.fnOf "_law_cell_at" "_law_cell_at" (As BH) (Ar BH) (Aj BH) .none kV31 dc31 pm31 an31 cd31 ct31),sl31⟩) (c31:W.codeIn K cd31 "_law_cell_at"=true) (k31:W.keepIn K (.ref f31)=true)
  (a32:W.nsIn K mainGlobals "_law_row"=some (some (.ref f32))) (l32:K.lookup f32=some ⟨oc32,od32,.func (W.fnOf "_law_row" "_law_row" (As De) (Ar De) (Aj De) .none kV32 dc32 pm32 an32 cd32 ct32),sl32⟩) (c32:W.codeIn K cd32 "_law_row"=true) (k32:W.keepIn K (.ref f32)=true)
  (a33:W.nsIn K mainGlobals "_law_names"=some (some (.ref f33))) (l33:K.lookup f33=some ⟨oc33,od33,.func (W.fnOf "_law_names" "_law_names" (As Cr) (Ar Cr) (Aj Cr) .none kV33 dc33 pm33 an33 cd33 ct33),sl33⟩) (c33:W.codeIn K cd33 "_law_names"=true) (k33:W.keepIn K (.ref f33)=true)
  (a34:W.nsIn K mainGlobals "_law_text"=some (some (.ref f34))) (l34:K.lookup f34=some ⟨oc34,od34,.func (W.fnOf "_law_text" "_law_text" (As CI) (Ar CI) (Aj CI) .none kV34 dc34 pm34 an34 cd34 ct34),sl34⟩) (c34:W.codeIn K cd34 "_law_text"=true) (k34:W.keepIn K (.ref f34)=true)
  (a35:W.nsIn K mainGlobals "_law_put"=some (some (.ref f35))) (l35:K.lookup f35=some ⟨oc35,od35,.func (W.fnOf "_law_put" "_law_put" (As Dl) (Ar Dl) (Aj Dl) .none kV35 dc35 pm35 an35 cd35 ct35),sl35⟩) (c35:W.codeIn K cd35 "_law_put"=true) (k35:W.keepIn K (.ref f35)=true)
  (a36:W.nsIn K mainGlobals "_law_entries"=some (some (.ref f36))) (l36:K.lookup f36=some ⟨oc36,od36,.func (W.fnOf "_law_entries" "_law_entries" (As BL) (Ar BL) (Aj BL) .none kV36 dc36 pm36 an36 cd36 ct36),sl36⟩) (c36:W.codeIn K cd36 "_law_entries"=true) (k36:W.keepIn K (.ref f36)=true)
  (a37:W.nsIn K mainGlobals "_law_blocks"=some (some (.ref f37))) (l37:K.lookup f37=some ⟨oc37,od37,.func (W.fnOf "_law_blocks" "_law_blocks" (As BX) (Ar BX) (Aj BX) .none kV37 dc37 pm37 an37 cd37 ct37),sl37⟩) (c37:W.codeIn K cd37 "_law_blocks"=true) (k37:W.keepIn K (.ref f37)=true)
  (a38:W.nsIn K mainGlobals "_law_grown"=some (some (.ref f38))) (l38:K.lookup f38=some ⟨oc38,od38,.func (W.fnOf "_law_grown" "_law_grown" (As Ce) (Ar Ce) (Aj Ce) .none kV38 dc38 pm38 an38 cd38 ct38),sl38⟩) (c38:W.codeIn K cd38 "_law_grown"=true) (k38:W.keepIn K (.ref f38)=true)
  (a39:W.nsIn K mainGlobals "_law_head"=some (some (.ref f39))) (l39:K.lookup f39=some ⟨oc39,od39,.func (W.fnOf "_law_head" "_law_head" (As CV) (Ar CV) (Aj CV) .none kV39 dc39 pm39 an39 cd39 ct39),sl39⟩) (c39:W.codeIn K cd39 "_law_head"=true) (k39:W.keepIn K (.ref f39)=true)
  (a40:W.nsIn K mainGlobals "_law_tags"=some (some (.ref f40))) (l40:K.lookup f40=some ⟨oc40,od40,.func (W.fnOf "_law_tags" "_law_tags" (As CS) (Ar CS) (Aj CS) .none kV40 dc40 pm40 an40 cd40 ct40),sl40⟩) (c40:W.codeIn K cd40 "_law_tags"=true) (k40:W.keepIn K (.ref f40)=true)
  (a41:W.nsIn K mainGlobals "_law_reached"=some (some (.ref f41))) (l41:K.lookup f41=some ⟨oc41,od41,.func (W.fnOf "_law_reached" "_law_reached" (As BG) (Ar BG) (Aj BG) .none kV41 dc41 pm41 an41 cd41 ct41),sl41⟩) (c41:W.codeIn K cd41 "_law_reached"=true) (k41:W.keepIn K (.ref f41)=true)
  (a42:W.nsIn K mainGlobals "_law_held"=some (some (.ref f42))) (l42:K.lookup f42=some ⟨oc42,od42,.func (W.fnOf "_law_held" "_law_held" (As CN) (Ar CN) (Aj CN) .none kV42 dc42 pm42 an42 cd42 ct42),sl42⟩) (c42:W.codeIn K cd42 "_law_held"=true) (k42:W.keepIn K (.ref f42)=true)
  (a43:W.nsIn K mainGlobals "_law_right"=some (some (.ref f43))) (l43:K.lookup f43=some ⟨oc43,od43,.func (W.fnOf "_law_right" "_law_right" (As Cg) (Ar Cg) (Aj Cg) .none kV43 dc43 pm43 an43 cd43 ct43),sl43⟩) (c43:W.codeIn K cd43 "_law_right"=true) (k43:W.keepIn K (.ref f43)=true)
  (a44:W.nsIn K mainGlobals "_law_is_whole_head"=some (some (.ref f44))) (l44:K.lookup f44=some ⟨oc44,od44,.func (W.fnOf "_law_is_whole_head" "_law_is_whole_head" (As A0) (Ar A0) (Aj A0) .none kV44 dc44 pm44 an44 cd44 ct44),sl44⟩) (c44:W.codeIn K cd44 "_law_is_whole_head"=true) (k44:W.keepIn K (.ref f44)=true)
  (a45:W.nsIn K mainGlobals "law"=some (some (.ref f45))) (l45:K.lookup f45=some ⟨oc45,od45,.func (W.fnOf "law" "law" (As Hi) (Ar Hi) (Aj Hi) .none kV45 dc45 pm45 an45 cd45 ct45),sl45⟩) (c45:W.codeIn K cd45 "law"=true) (k45:W.keepIn K (.ref f45)=true)
  (HC:W.nsIn K mainGlobals "Boards"=some (some (.ref Ak))) (Hw:W.plainGet K Ak Str.empty=true) (HK:W.hasDictIn K Ak=true) (Hy:W.plainOver K Ak=true) (HU:W.findIn K (.ref Ak) "__setattr__"=some (some (.builtin "object.__setattr__"))) (HR:W.makesIn K Ak=true) (Ht:W.keepIn K (.ref Ak)=true)
  (n_Boards_shelves:W.findIn K (.ref Ak) "shelves"=some none)
  (n_Boards_writes:W.findIn K (.ref Ak) "writes"=some none)
  (n_Boards_writes_left:W.findIn K (.ref Ak) "writes_left"=some none)
  (EY:W.nsIn K mainGlobals "TakenCell"=some (some (.ref Aa))) (Fb:W.plainGet K Aa Str.empty=true) (ER:W.hasDictIn K Aa=true) (E3:W.plainOver K Aa=true) (EL:W.findIn K (.ref Aa) "__setattr__"=some (some (.builtin "object.__setattr__"))) (EO:W.makesIn K Aa=true) (E4:W.keepIn K (.ref Aa)=true)
  (n_TakenCell_own_tag:W.findIn K (.ref Aa) "own_tag"=some none)
  (n_TakenCell_own_size:W.findIn K (.ref Aa) "own_size"=some none)
  (n_TakenCell_named:W.findIn K (.ref Aa) "named"=some none)
  (n_TakenCell_times_named:W.findIn K (.ref Aa) "times_named"=some none)
  (n_TakenCell_entries_beneath:W.findIn K (.ref Aa) "entries_beneath"=some none)
  (n_TakenCell_steps_beneath:W.findIn K (.ref Aa) "steps_beneath"=some none)
  (K2:W.nsIn K mainGlobals "Pool"=some (some (.ref Ae))) (KW:W.plainGet K Ae Str.empty=true) (KC:W.hasDictIn K Ae=true) (KY:W.plainOver K Ae=true) (K6:W.findIn K (.ref Ae) "__setattr__"=some (some (.builtin "object.__setattr__"))) (Ln:W.makesIn K Ae=true) (K7:W.keepIn K (.ref Ae)=true)
  (n_Pool_boards:W.findIn K (.ref Ae) "boards"=some none)
  (n_Pool_taken:W.findIn K (.ref Ae) "taken"=some none)
  (n_Pool_by_sums:W.findIn K (.ref Ae) "by_sums"=some none)
  (n_Pool_draft:W.findIn K (.ref Ae) "draft"=some none)
  (n_Pool_first_maybe_free:W.findIn K (.ref Ae) "first_maybe_free"=some none)
  (x_Lost:W.nsIn K mainGlobals "Lost"=some (some (.ref QJ)))
  (P9:W.nsIn K mainGlobals "all"=some none)
  (ND:W.nsIn K mainGlobals "bool"=some none)
  (Nl:W.nsIn K mainGlobals "dict"=some none)
  (QO:W.nsIn K mainGlobals "int"=some none)
  (EN:W.nsIn K mainGlobals "isinstance"=some none)
  (Qx:W.nsIn K mainGlobals "len"=some none)
  (Na:W.nsIn K mainGlobals "list"=some none)
  (PF:W.nsIn K mainGlobals "max"=some none)
  (Pt:W.nsIn K mainGlobals "min"=some none)
  (Ld:W.nsIn K mainGlobals "range"=some none)
  (Jp:W.nsIn K mainGlobals "sorted"=some none)
  (Qj:W.nsIn K mainGlobals "str"=some none)
  (QP:W.nsIn K mainGlobals "sum"=some none)
  (KI:W.nsIn K mainGlobals "tuple"=some none)
  (KQ:W.nsIn K mainGlobals "SIGNS"=some (some (.str (PySem.Str.ofString " !\"#$&'()*+,-./0123456789:;<=>?@ABCDEFGHIJKLMNOPQRSTUVWXYZ[\\]^_`abcdefghijklmnopqrstuvwxyz{|}~") t_SIGNS)))
  (Es:W.nsIn K mainGlobals "NUMBER_WORD"=some (some (.int 0 t_NUMBER_WORD)))
  (FA:W.nsIn K mainGlobals "TEXT_WORD"=some (some (.int 1 t_TEXT_WORD)))
  (Fn:W.nsIn K mainGlobals "TUPLE_WORD"=some (some (.int 2 t_TUPLE_WORD)))
  (K9:W.nsIn K mainGlobals "PIECE"=some (some (.int 0 t_PIECE)))
  (Qg:W.nsIn K mainGlobals "ROW"=some (some (.int 1 t_ROW)))
  (Jn:W.nsIn K mainGlobals "FOLDER"=some (some (.int 2 t_FOLDER)))
  (D7:W.nsIn K mainGlobals "FOLDER_ENTRY"=some (some (.int 2 t_FOLDER_ENTRY)))
  (Fk:W.nsIn K mainGlobals "NAME_SIGNS"=some (some (.str (PySem.Str.ofString "0123456789abcdefghijklmnopqrstuvwxyz") t_NAME_SIGNS)))
  (C2:W.nsIn K mainGlobals "MOST_NAME_SIGNS"=some (some (.int 8 t_MOST_NAME_SIGNS)))
  (FB:W.nsIn K mainGlobals "SUM_RESTS"=some (some (.int 997 t_SUM_RESTS)))
  (MF:W.nsIn K mainGlobals "STEM"=some (some (.int 1 t_STEM)))
  (Nj:W.nsIn K mainGlobals "SEAL"=some (some (.int 2 t_SEAL)))
  (D2:W.nsIn K mainGlobals "LEAST_BOARDS"=some (some (.int 2 t_LEAST_BOARDS)))
  (Eh:W.nsIn K mainGlobals "MOST_BOARDS"=some (some (.int 4 t_MOST_BOARDS))) :
  ∃fd:FuncData,(∀(s:Shared) (v:Value),BindsTo s fd ⟨[v],[]⟩ [("_law_script",v)])/\(∀T∈[PT],K.lookup T=none/\∃c,W.codeHdIn K c T=true)/\∀base:Heap,K.In base->base.Ns mainGlobals mg->MB mg base->FnOk l.prog w K mg base CZ 17 fa fd ["_law_script"] (KA K PT):=by
 have e:=hfa.symm.trans (W.mg_of X G a45);cases e;have T:Txt K mg Ak Aa Ae (λn=>match n with|0=>QJ|_=>0):=⟨⟨Hw,HK,Hy,HU⟩,n_Boards_shelves,n_Boards_writes,n_Boards_writes_left,⟨Fb,ER,E3,EL⟩,n_TakenCell_own_tag,n_TakenCell_own_size,n_TakenCell_named,n_TakenCell_times_named,n_TakenCell_entries_beneath,n_TakenCell_steps_beneath,⟨KW,KC,KY,K6⟩,n_Pool_boards,n_Pool_taken,n_Pool_by_sums,n_Pool_draft,n_Pool_first_maybe_free,W.mg_of X G x_Lost,W.mg_none_of X G P9,W.mg_none_of X G ND,W.mg_none_of X G Nl,W.mg_none_of X G QO,W.mg_none_of X G EN,W.mg_none_of X G Qx,W.mg_none_of X G Na,W.mg_none_of X G PF,W.mg_none_of X G Pt,W.mg_none_of X G Ld,W.mg_none_of X G Jp,W.mg_none_of X G Qj,W.mg_none_of X G QP,W.mg_none_of X G KI,⟨_,W.mg_of X G KQ⟩,⟨_,W.mg_of X G Es⟩,⟨_,W.mg_of X G FA⟩,⟨_,W.mg_of X G Fn⟩,⟨_,W.mg_of X G K9⟩,⟨_,W.mg_of X G Qg⟩,⟨_,W.mg_of X G Jn⟩,⟨_,W.mg_of X G D7⟩,⟨_,W.mg_of X G Fk⟩,⟨_,W.mg_of X G C2⟩,⟨_,W.mg_of X G FB⟩,⟨_,W.mg_of X G MF⟩,⟨_,W.mg_of X G Nj⟩,⟨_,W.mg_of X G D2⟩,⟨_,W.mg_of X G Eh⟩⟩
 have F0:=AE (st:=Dm) l0 c0 k0;have b0:=F0.binds (ps:=["thing"]) λ_ _ _ _ _ _ us hl=>by
  obtain⟨_,rfl⟩:=Mw hl;rfl
 have F1:=AE (st:=Ck) l1 c1 k1;have b1:=F1.binds (ps:=["thing","least","most"]) λ_ _ _ _ _ _ us hl=>by
  obtain⟨_,_,_,rfl⟩:=Q9 hl;rfl
 have F2:=AE (st:=CL) l2 c2 k2;have b2:=F2.binds (ps:=["sign"]) λ_ _ _ _ _ _ us hl=>by
  obtain⟨_,rfl⟩:=Mw hl;rfl
 have F3:=AE (st:=DR) l3 c3 k3;have b3:=F3.binds (ps:=["thing","least","most"]) λ_ _ _ _ _ _ us hl=>by
  obtain⟨_,_,_,rfl⟩:=Q9 hl;rfl
 have F4:=AE (st:=B8) l4 c4 k4;have b4:=F4.binds (ps:=["thing"]) λ_ _ _ _ _ _ us hl=>by
  obtain⟨_,rfl⟩:=Mw hl;rfl
 have F5:=AE (st:=DQ) l5 c5 k5;have b5:=F5.binds (ps:=["thing"]) λ_ _ _ _ _ _ us hl=>by
  obtain⟨_,rfl⟩:=Mw hl;rfl
 have F6:=AE (st:=EG) l6 c6 k6;have b6:=F6.binds (ps:=["block"]) λ_ _ _ _ _ _ us hl=>by
  obtain⟨_,rfl⟩:=Mw hl;rfl
 have F7:=AE (st:=BF) l7 c7 k7;have b7:=F7.binds (ps:=["block"]) λ_ _ _ _ _ _ us hl=>by
  obtain⟨_,rfl⟩:=Mw hl;rfl
 have F8:=AE (st:=DP) l8 c8 k8;have b8:=F8.binds (ps:=["block"]) λ_ _ _ _ _ _ us hl=>by
  obtain⟨_,rfl⟩:=Mw hl;rfl
 have F9:=AE (st:=DS) l9 c9 k9;have b9:=F9.binds (ps:=["block"]) λ_ _ _ _ _ _ us hl=>by
  obtain⟨_,rfl⟩:=Mw hl;rfl
 have F10:=AE (st:=Df) l10 c10 k10;have b10:=F10.binds (ps:=["head"]) λ_ _ _ _ _ _ us hl=>by
  obtain⟨_,rfl⟩:=Mw hl;rfl
 have F11:=AE (st:=Di) l11 c11 k11;have b11:=F11.binds (ps:=["head","stem"]) λ_ _ _ _ _ _ us hl=>by
  obtain⟨_,_,rfl⟩:=ln2 hl;rfl
 have F12:=AE (st:=CK) l12 c12 k12;have b12:=F12.binds (ps:=["head","keeper"]) λ_ _ _ _ _ _ us hl=>by
  obtain⟨_,_,rfl⟩:=ln2 hl;rfl
 have F13:=AE (st:=Cp) l13 c13 k13;have b13:=F13.binds (ps:=["pool","head"]) λ_ _ _ _ _ _ us hl=>by
  obtain⟨_,_,rfl⟩:=ln2 hl;rfl
 have F14:=AE (st:=DT) l14 c14 k14;have b14:=F14.binds (ps:=["pool","tags"]) λ_ _ _ _ _ _ us hl=>by
  obtain⟨_,_,rfl⟩:=ln2 hl;rfl
 have F15:=AE (st:=BV) l15 c15 k15;have b15:=F15.binds (ps:=["self","many"]) λ_ _ _ _ _ _ us hl=>by
  obtain⟨_,_,rfl⟩:=ln2 hl;rfl
 have F16:=AE (st:=Bm) l16 c16 k16;have b16:=F16.binds (ps:=["self","own_tag","block"]) λ_ _ _ _ _ _ us hl=>by
  obtain⟨_,_,_,rfl⟩:=Q9 hl;rfl
 have F17:=AE (st:=CJ) l17 c17 k17;have b17:=F17.binds (ps:=["self","boards"]) λ_ _ _ _ _ _ us hl=>by
  obtain⟨_,_,rfl⟩:=ln2 hl;rfl
 have F18:=AE (st:=Dd) l18 c18 k18;have b18:=F18.binds (ps:=["self","block","birth"]) λ_ _ _ _ _ _ us hl=>by
  obtain⟨_,_,_,rfl⟩:=Q9 hl;rfl
 have F19:=AE (st:=Cs) l19 c19 k19;have b19:=F19.binds (ps:=["self","block"]) λ_ _ _ _ _ _ us hl=>by
  obtain⟨_,_,rfl⟩:=ln2 hl;rfl
 have F20:=AE (st:=Ba) l20 c20 k20;have b20:=F20.binds (ps:=["self"]) λ_ _ _ _ _ _ us hl=>by
  obtain⟨_,rfl⟩:=Mw hl;rfl
 have F21:=AE (st:=CM) l21 c21 k21;have b21:=F21.binds (ps:=["self","tag","block"]) λ_ _ _ _ _ _ us hl=>by
  obtain⟨_,_,_,rfl⟩:=Q9 hl;rfl
 have F22:=AE (st:=Bf) l22 c22 k22;have b22:=F22.binds (ps:=["self","folder"]) λ_ _ _ _ _ _ us hl=>by
  obtain⟨_,_,rfl⟩:=ln2 hl;rfl
 have F23:=AE (st:=Bv) l23 c23 k23;have b23:=F23.binds (ps:=["self","folder"]) λ_ _ _ _ _ _ us hl=>by
  obtain⟨_,_,rfl⟩:=ln2 hl;rfl
 have F24:=AE (st:=Co) l24 c24 k24;have b24:=F24.binds (ps:=["self","tag"]) λ_ _ _ _ _ _ us hl=>by
  obtain⟨_,_,rfl⟩:=ln2 hl;rfl
 have F25:=AE (st:=CQ) l25 c25 k25;have b25:=F25.binds (ps:=["self","tag"]) λ_ _ _ _ _ _ us hl=>by
  obtain⟨_,_,rfl⟩:=ln2 hl;rfl
 have F26:=AE (st:=BO) l26 c26 k26;have b26:=F26.binds (ps:=["self"]) λ_ _ _ _ _ _ us hl=>by
  obtain⟨_,rfl⟩:=Mw hl;rfl
 have F27:=AE (st:=Dg) l27 c27 k27;have b27:=F27.binds (ps:=["self","number"]) λ_ _ _ _ _ _ us hl=>by
  obtain⟨_,_,rfl⟩:=ln2 hl;rfl
 have F28:=AE (st:=CU) l28 c28 k28;have b28:=F28.binds (ps:=["self","number"]) λ_ _ _ _ _ _ us hl=>by
  obtain⟨_,_,rfl⟩:=ln2 hl;rfl
 have F29:=AE (st:=BK) l29 c29 k29;have b29:=F29.binds (ps:=["self","number"]) λ_ _ _ _ _ _ us hl=>by
  obtain⟨_,_,rfl⟩:=ln2 hl;rfl
 have F30:=AE (st:=CW) l30 c30 k30;have b30:=F30.binds (ps:=["self","number"]) λ_ _ _ _ _ _ us hl=>by
  obtain⟨_,_,rfl⟩:=ln2 hl;rfl
 have F31:=AE (st:=BH) l31 c31 k31;have b31:=F31.binds (ps:=["_law_script","_law_k"]) λ_ _ _ _ _ _ us hl=>by
  obtain⟨_,_,rfl⟩:=ln2 hl;rfl
 have F32:=AE (st:=De) l32 c32 k32;have b32:=F32.binds (ps:=["_law_cell","_law_many"]) λ_ _ _ _ _ _ us hl=>by
  obtain⟨_,_,rfl⟩:=ln2 hl;rfl
 have F33:=AE (st:=Cr) l33 c33 k33;have b33:=F33.binds (ps:=["_law_row_here","_law_many"]) λ_ _ _ _ _ _ us hl=>by
  obtain⟨_,_,rfl⟩:=ln2 hl;rfl
 have F34:=AE (st:=CI) l34 c34 k34;have b34:=F34.binds (ps:=["_law_row_here","_law_at"]) λ_ _ _ _ _ _ us hl=>by
  obtain⟨_,_,rfl⟩:=ln2 hl;rfl
 have F35:=AE (st:=Dl) l35 c35 k35;have b35:=F35.binds (ps:=["_law_pool","_law_blocks_here","_law_block","_law_birth"]) λ_ _ _ _ _ _ us hl=>by
  obtain⟨_,_,_,_,rfl⟩:=VY hl;rfl
 have F36:=AE (st:=BL) l36 c36 k36;have b36:=F36.binds (ps:=["_law_row_here","_law_at","_law_names_here","_law_files","_law_folders"]) λ_ _ _ _ _ _ us hl=>by
  obtain⟨_,_,_,_,_,rfl⟩:=V5 hl;rfl
 have F37:=AE (st:=BX) l37 c37 k37;have b37:=F37.binds (ps:=["_law_script","_law_pool","_law_names_here"]) λ_ _ _ _ _ _ us hl=>by
  obtain⟨_,_,_,rfl⟩:=Q9 hl;rfl
 have F38:=AE (st:=Ce) l38 c38 k38;have b38:=F38.binds (ps:=["_law_entries_here","_law_stem","_law_number"]) λ_ _ _ _ _ _ us hl=>by
  obtain⟨_,_,_,rfl⟩:=Q9 hl;rfl
 have F39:=AE (st:=CV) l39 c39 k39;have b39:=F39.binds (ps:=["_law_script","_law_names_here","_law_folders"]) λ_ _ _ _ _ _ us hl=>by
  obtain⟨_,_,_,rfl⟩:=Q9 hl;rfl
 have F40:=AE (st:=CS) l40 c40 k40;have b40:=F40.binds (ps:=["_law_block"]) λ_ _ _ _ _ _ us hl=>by
  obtain⟨_,rfl⟩:=Mw hl;rfl
 have F41:=AE (st:=BG) l41 c41 k41;have b41:=F41.binds (ps:=["_law_blocks_here","_law_tags_here"]) λ_ _ _ _ _ _ us hl=>by
  obtain⟨_,_,rfl⟩:=ln2 hl;rfl
 have F42:=AE (st:=CN) l42 c42 k42;have b42:=F42.binds (ps:=["_law_blocks_here","_law_head_here"]) λ_ _ _ _ _ _ us hl=>by
  obtain⟨_,_,rfl⟩:=ln2 hl;rfl
 have F43:=AE (st:=Cg) l43 c43 k43;have b43:=F43.binds (ps:=["_law_pool","_law_blocks_here","_law_head_here"]) λ_ _ _ _ _ _ us hl=>by
  obtain⟨_,_,_,rfl⟩:=Q9 hl;rfl
 have F44:=AE (st:=A0) l44 c44 k44;have b44:=F44.binds (ps:=["_law_head_here"]) λ_ _ _ _ _ _ us hl=>by
  obtain⟨_,rfl⟩:=Mw hl;rfl
 have F45:=AE (st:=Hi) l45 c45 k45;refine⟨W.fnOf "law" "law" (As Hi) (Ar Hi) (Aj Hi) .none kV45 dc45 pm45 an45 cd45 ct45,λs v=>.of_eq rfl,λT hT=>by
  simp only[List.mem_cons,List.not_mem_nil,or_false] at hT;rcases hT with rfl
  ·exact⟨Th,_,R7⟩,λbase _ _ hBm=>?_⟩
 have Bp:Def l.prog w K mg base 1 "is_whole" ["thing"] (CO K):=⟨_,_,Mu T F0 ,W.mg_of X G a0,k0,b0⟩
 have A3:Def l.prog w K mg base 1 "number_of" ["sign"] (Cf K):=⟨_,_,La T F2 ,W.mg_of X G a2,k2,b2⟩
 have HP:Def l.prog w K mg base 1 "is_text" ["thing","least","most"] (GM K):=⟨_,_,M9 T F3 ,W.mg_of X G a3,k3,b3⟩
 have HI:Def l.prog w K mg base 1 "tags_in" ["block"] (GL K):=⟨_,_,MC T F9 ,W.mg_of X G a9,k9,b9⟩
 have GB:Def l.prog w K mg base 1 "stems_in" ["head"] (FG K):=⟨_,_,L3 T F10 ,W.mg_of X G a10,k10,b10⟩
 have GQ:Def l.prog w K mg base 1 "seals_of" ["head","stem"] (FQ K PT):=⟨_,_,L1 T F11 ⟨⟨cc11,rfl,R7⟩,hBm⟩ ,W.mg_of X G a11,k11,b11⟩
 have FE:Nh l.prog w K mg base 1 Ae "Pool" ["self","boards"] (E7 K Ae):=⟨_,_,K0 T F17 ,⟨Ln,a17,i17,K7⟩,W.mg_of X G K2,b17⟩
 have CF:Da l.prog w K mg base 1 Ae "free_number" ["self"] (Cw K Ae Aa):=⟨_,_,Gr T F20 ,⟨a20,i20,k20⟩,b20⟩
 have EK:Da l.prog w K mg base 1 Ae "block" ["self","tag"] (Ek K Ae Aa):=⟨_,_,JS T F24 ,⟨a24,i24,k24⟩,b24⟩
 have Fz:Da l.prog w K mg base 1 Ae "hold" ["self","tag"] (ES K Ae Aa):=⟨_,_,KL T F25 ,⟨a25,i25,k25⟩,b25⟩
 have D4:Da l.prog w K mg base 1 Ae "numbers" ["self"] (DB K Ae Aa):=⟨_,_,ID T F26 ,⟨a26,i26,k26⟩,b26⟩
 have Ff:Da l.prog w K mg base 1 Ae "tag" ["self","number"] (FX K Ae Aa):=⟨_,_,LV T F27 ,⟨a27,i27,k27⟩,b27⟩
 have FN:Da l.prog w K mg base 1 Ae "tags" ["self","number"] (DL K Ae Aa):=⟨_,_,Lk T F28 ,⟨a28,i28,k28⟩,b28⟩
 have DY:Da l.prog w K mg base 1 Ae "entries" ["self","number"] (DA K Ae Aa):=⟨_,_,IF T F29 ,⟨a29,i29,k29⟩,b29⟩
 have FF:Da l.prog w K mg base 1 Ae "deep" ["self","number"] (EW K Ae Aa):=⟨_,_,K3 T F30 ,⟨a30,i30,k30⟩,b30⟩
 have AW:Def l.prog w K mg base 1 "_law_cell_at" ["_law_script","_law_k"] (BR K):=⟨_,_,IH T F31 ,W.mg_of X G a31,k31,b31⟩
 have BC:Def l.prog w K mg base 1 "_law_row" ["_law_cell","_law_many"] (Dt K):=⟨_,_,Mh T F32 ,W.mg_of X G a32,k32,b32⟩
 have EU:Def l.prog w K mg base 1 "_law_names" ["_law_row_here","_law_many"] (Ei K):=⟨_,_,JP T F33 ,W.mg_of X G a33,k33,b33⟩
 have FP:Def l.prog w K mg base 1 "_law_text" ["_law_row_here","_law_at"] (E1 K):=⟨_,_,Kv T F34 ,W.mg_of X G a34,k34,b34⟩
 have D8:Def l.prog w K mg base 1 "_law_entries" ["_law_row_here","_law_at","_law_names_here","_law_files","_law_folders"] (DH K):=⟨_,_,IG T F36 ,W.mg_of X G a36,k36,b36⟩
 have Fc:Def l.prog w K mg base 1 "_law_grown" ["_law_entries_here","_law_stem","_law_number"] (El K):=⟨_,_,JL T F38 ,W.mg_of X G a38,k38,b38⟩
 have FO:Def l.prog w K mg base 1 "_law_tags" ["_law_block"] (Fq K):=⟨_,_,Lc T F40 ,W.mg_of X G a40,k40,b40⟩
 have Cd:Def l.prog w K mg base 1 "_law_is_whole_head" ["_law_head_here"] (B0 K):=⟨_,_,Fw T F44 ,W.mg_of X G a44,k44,b44⟩
 have E8:Def l.prog w K mg base 2 "is_between" ["thing","least","most"] (Ep K):=⟨_,_,JW T F1 Bp,W.mg_of X G a1,k1,b1⟩
 have Uk:Def l.prog w K mg base 2 "is_name" ["thing"] (IY K):=⟨_,_,MS T F5 HP,W.mg_of X G a5,k5,b5⟩
 have DV:Def l.prog w K mg base 2 "numbers_told" ["block"] (DE K):=⟨_,_,IC T F7 A3,W.mg_of X G a7,k7,b7⟩
 have FM:Def l.prog w K mg base 2 "tags_kept" ["head","keeper"] (EJ K PT):=⟨_,_,Kx T F12 GB GQ,W.mg_of X G a12,k12,b12⟩
 have HM:Def l.prog w K mg base 2 "reached" ["pool","tags"] (GP K Ae Aa):=⟨_,_,MI T F14 FN,W.mg_of X G a14,k14,b14⟩
 have C5:Da l.prog w K mg base 2 Ae "entries_of" ["self","folder"] (CG K Ae Aa):=⟨_,_,GC T F22 DY,⟨a22,i22,k22⟩,b22⟩
 have DC:Da l.prog w K mg base 2 Ae "steps_of" ["self","folder"] (Dh K Ae Aa):=⟨_,_,HY T F23 FF,⟨a23,i23,k23⟩,b23⟩
 have FS:Def l.prog w K mg base 2 "_law_head" ["_law_script","_law_names_here","_law_folders"] (Fh K):=⟨_,_,KU T F39 BC AW Fc,W.mg_of X G a39,k39,b39⟩
 have D1:Def l.prog w K mg base 2 "_law_reached" ["_law_blocks_here","_law_tags_here"] (DG K):=⟨_,_,II T F41 FO,W.mg_of X G a41,k41,b41⟩
 have Ey:Def l.prog w K mg base 3 "sum_of" ["block"] (Gm K):=⟨_,_,Oj T F6 DV,W.mg_of X G a6,k6,b6⟩
 have Fi:Def l.prog w K mg base 3 "holders_in" ["pool","head"] (Er K Ae Aa PT):=⟨_,_,JT T F13 HM FM D4,W.mg_of X G a13,k13,b13⟩
 have Em:Nh l.prog w K mg base 3 Ak "Boards" ["self","many"] (D5 K Ak):=⟨_,_,JE T F15 E8,⟨HR,a15,i15,Ht⟩,W.mg_of X G HC,b15⟩
 have FW:Def l.prog w K mg base 3 "_law_held" ["_law_blocks_here","_law_head_here"] (ET K):=⟨_,_,KN T F42 D1,W.mg_of X G a42,k42,b42⟩
 have Fp:Da l.prog w K mg base 4 Ae "alike" ["self","block"] (Eo K Ae Aa):=⟨_,_,JV T F19 Ey EK Ff,⟨a19,i19,k19⟩,b19⟩
 have Fe:Def l.prog w K mg base 4 "_law_right" ["_law_pool","_law_blocks_here","_law_head_here"] (Eu K Ae Aa PT):=⟨_,_,JM T F43 FW Fi,W.mg_of X G a43,k43,b43⟩
 have DX:Def l.prog w K mg base 9 "words_of" ["thing"] (Ga K):=⟨_,_,Ms T F4 Bp A3 (W.mg_of X G a4) k4 b4,W.mg_of X G a4,k4,b4⟩
 have HQ:Def l.prog w K mg base 10 "size_of" ["block"] (GI K):=⟨_,_,MJ T F8 DX,W.mg_of X G a8,k8,b8⟩
 have Dj:Nh l.prog w K mg base 11 Aa "TakenCell" ["self","own_tag","block"] (C9 K Aa):=⟨_,_,G3 T F16 HQ HI,⟨EO,a16,i16,E4⟩,W.mg_of X G EY,b16⟩
 have Gb:Da l.prog w K mg base 13 Ae "take" ["self","tag","block"] (Fg K Ae Aa):=⟨_,_,Lo T F21 Dj C5 DC Fz,⟨a21,i21,k21⟩,b21⟩
 have GH:Da l.prog w K mg base 14 Ae "put" ["self","block","birth"] (FZ K Ae Aa):=⟨_,_,LF T F18 Fp Gb CF Ey,⟨a18,i18,k18⟩,b18⟩
 have Ca:Def l.prog w K mg base 15 "_law_put" ["_law_pool","_law_blocks_here","_law_block","_law_birth"] (Eb K Ae Aa):=⟨_,_,LX T F35 GH,W.mg_of X G a35,k35,b35⟩
 have Eg:Def l.prog w K mg base 16 "_law_blocks" ["_law_script","_law_pool","_law_names_here"] (D3 K Ae Aa):=⟨_,_,JG T F37 BC AW Ca FP D8,W.mg_of X G a37,k37,b37⟩
 exact Te T F45 AW EU FE Eg FS BC Em Cd Fe
theorem walk {l:W.OpenLaw} {q:Program} {loose:List Str} {XP:(Str->Option Value)->Heap->Prop} {YP:World->Heap->Prop} {d:DefRec} {K:Params->W.Frag} {PT:Addr} (hn:l.most=some 63) (hdf:d.params.defaults=[])
  (hY:∀(w:World) (h:Heap),YP w h->(K w.params).In h) (hT:∀(w:World) (h:Heap),YP w h->∀T∈[PT],h.get? T=some (W.tabObj #[]))
  (F:∀(w:World) (mg:Str->Option Value) (fa:Addr) (h:Heap),(K w.params).In h->h.Ns mainGlobals mg->mg d.name=some (.ref fa)->
   ∃fd:FuncData,(∀(s:Shared) (u:Value),BindsTo s fd ⟨[u],[]⟩ [("_law_script",u)])/\(∀T∈[PT],(K w.params).lookup T=none/\∃c,W.codeHdIn (K w.params) c T=true)/\∀base:Heap,(K w.params).In base->base.Ns mainGlobals mg->MB mg base->FnOk l.prog w (K w.params) mg base CZ 17 fa fd ["_law_script"] (KA (K w.params) PT)) :
  W.WalkO q loose XP YP l.row.toRowW d [] (λf vs=>PySem.call f vs):=
 L2.Pm (n:=63) (k:=17) (x:="_law_script") (CX:=λ_=>CZ) (sp:=λw=>KA (K w.params) PT) hn (by decide) hdf ⟨rfl,by decide,by decide⟩ hY hT F (λ_ _ a ns hl hO hS=>⟨a,ns,rfl,hS,hl,.inl (hO.1 _ (by simp)),λ_=>rfl⟩) λ_ _ _ _ _ z=>z
end K56
def PySem.W.Fast.tw15641715125113993005:Type:=PySem.Expr
theorem PySem.W.Fast.te15641715125113993005:PySem.Expr = PySem.W.Fast.tw15641715125113993005:=rfl
def PySem.W.Fast.tw90343872475197607:Type:=PySem.Params
theorem PySem.W.Fast.te90343872475197607:PySem.Params = PySem.W.Fast.tw90343872475197607:=rfl
open PySem PySem.W PyProof.Rows
set_option maxRecDepth 100000 in
set_option maxHeartbeats 0 in
theorem PySem.Challenge.cw_stemshelf_k56_holders_holds : PySem.Challenge.rw_stemshelf_k56_holders.Holds := by
 w_on;o_law;k_head;(case hw=>w_witness2)
 k_fill
 refine K56.walk (l:=PySem.Challenge.rw_stemshelf_k56_holders) rfl rfl (λw h Y=>W.km_in_of Y) (λw h Y=>W.km_tabs_of Y) ?F
 case F=>
  intro w mg fa h KX G hmg
  refine' K56.all_mk KX G hmg ?a0 ?l0 ?c0 ?k0 ?a1 ?l1 ?c1 ?k1 ?a2 ?l2 ?c2 ?k2 ?a3 ?l3 ?c3 ?k3 ?a4 ?l4 ?c4 ?k4 ?a5 ?l5 ?c5 ?k5 ?a6 ?l6 ?c6 ?k6 ?a7 ?l7 ?c7 ?k7 ?a8 ?l8 ?c8 ?k8 ?a9 ?l9 ?c9 ?k9 ?a10 ?l10 ?c10 ?k10 ?a11 ?l11 ?c11 ?k11 ?R7 ?Th ?a12 ?l12 ?c12 ?k12 ?a13 ?l13 ?c13 ?k13 ?a14 ?l14 ?c14 ?k14 ?a15 ?i15 ?l15 ?c15 ?k15 ?a16 ?i16 ?l16 ?c16 ?k16 ?a17 ?i17 ?l17 ?c17 ?k17 ?a18 ?i18 ?l18 ?c18 ?k18 ?a19 ?i19 ?l19 ?c19 ?k19 ?a20 ?i20 ?l20 ?c20 ?k20 ?a21 ?i21 ?l21 ?c21 ?k21 ?a22 ?i22 ?l22 ?c22 ?k22 ?a23 ?i23 ?l23 ?c23 ?k23 ?a24 ?i24 ?l24 ?c24 ?k24 ?a25 ?i25 ?l25 ?c25 ?k25 ?a26 ?i26 ?l26 ?c26 ?k26 ?a27 ?i27 ?l27 ?c27 ?k27 ?a28 ?i28 ?l28 ?c28 ?k28 ?a29 ?i29 ?l29 ?c29 ?k29 ?a30 ?i30 ?l30 ?c30 ?k30 ?a31 ?l31 ?c31 ?k31 ?a32 ?l32 ?c32 ?k32 ?a33 ?l33 ?c33 ?k33 ?a34 ?l34 ?c34 ?k34 ?a35 ?l35 ?c35 ?k35 ?a36 ?l36 ?c36 ?k36 ?a37 ?l37 ?c37 ?k37 ?a38 ?l38 ?c38 ?k38 ?a39 ?l39 ?c39 ?k39 ?a40 ?l40 ?c40 ?k40 ?a41 ?l41 ?c41 ?k41 ?a42 ?l42 ?c42 ?k42 ?a43 ?l43 ?c43 ?k43 ?a44 ?l44 ?c44 ?k44 ?a45 ?l45 ?c45 ?k45 ?HC ?Hw ?HK ?Hy ?HU ?HR ?Ht ?n_Boards_shelves ?n_Boards_writes ?n_Boards_writes_left ?EY ?Fb ?ER ?E3 ?EL ?EO ?E4 ?n_TakenCell_own_tag ?n_TakenCell_own_size ?n_TakenCell_named ?n_TakenCell_times_named ?n_TakenCell_entries_beneath ?n_TakenCell_steps_beneath ?K2 ?KW ?KC ?KY ?K6 ?Ln ?K7 ?n_Pool_boards ?n_Pool_taken ?n_Pool_by_sums ?n_Pool_draft ?n_Pool_first_maybe_free ?x_Lost ?P9 ?ND ?Nl ?QO ?EN ?Qx ?Na ?PF ?Pt ?Ld ?Jp ?Qj ?QP ?KI ?KQ ?Es ?FA ?Fn ?K9 ?Qg ?Jn ?D7 ?Fk ?C2 ?FB ?MF ?Nj ?D2 ?Eh
  (case HC|EY|K2|x_Lost|a0|l0|c0|k0|a1|l1|c1|k1|a2|l2|c2|k2|a3|l3|c3|k3|a4|l4|c4|k4|a5|l5|c5|k5|a6|l6|c6|k6|a7|l7|c7|k7|a8|l8|c8|k8|a9|l9|c9|k9|a10|l10|c10|k10|a11|l11|c11|k11=>k_is)
  (case R7|Th=>kernel_rfl)
  (case a12|l12|c12|k12|a13|l13|c13|k13|a14|l14|c14|k14|a15|i15|l15|c15|k15|a16|i16|l16|c16|k16|a17|i17|l17|c17|k17|a18|i18|l18|c18|k18|a19|i19|l19|c19|k19|a20|i20|l20|c20|k20|a21|i21|l21|c21|k21|a22|i22|l22|c22|k22|a23|i23|l23|c23|k23|a24|i24|l24|c24|k24|a25|i25|l25|c25|k25|a26|i26|l26|c26|k26|a27|i27|l27|c27|k27|a28|i28|l28|c28|k28|a29|i29|l29|c29|k29|a30|i30|l30|c30|k30|a31|l31|c31|k31|a32|l32|c32|k32|a33|l33|c33|k33|a34|l34|c34|k34|a35|l35|c35|k35|a36|l36|c36|k36|a37|l37|c37|k37|a38|l38|c38|k38|a39|l39|c39|k39|a40|l40|c40|k40|a41|l41|c41|k41|a42|l42|c42|k42|a43|l43|c43|k43|a44|l44|c44|k44|a45|l45|c45|k45|Hw|HK|Hy|HU|HR|Ht|n_Boards_shelves|n_Boards_writes|n_Boards_writes_left|Fb|ER|E3|EL|EO|E4|n_TakenCell_own_tag|n_TakenCell_own_size|n_TakenCell_named|n_TakenCell_times_named|n_TakenCell_entries_beneath|n_TakenCell_steps_beneath|KW|KC|KY|K6|Ln|K7|n_Pool_boards|n_Pool_taken|n_Pool_by_sums|n_Pool_draft|n_Pool_first_maybe_free|P9|ND|Nl|QO|EN|Qx|Na|PF|Pt|Ld|Jp|Qj|QP|KI|KQ|Es|FA|Fn|K9|Qg|Jn|D7|Fk|C2|FB|MF|Nj|D2|Eh=>k_is)
