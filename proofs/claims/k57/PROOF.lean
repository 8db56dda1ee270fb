import PyProof.Rows.All
import Wide.All
import OpenK.AllK
import Wide.FinOn
import Lean
import PyProof.EqAt
import PyProof.EqKinds
import PyProof.TupleCall
import PySem.Challenge.RW_stemshelf_k57_shares
set_option Elab.async false
set_option linter.all false
set_option maxRecDepth 100000
def aa:=@List.length_map
def ab:=@List.getElem?_eq_getElem
def ae:=@PySem.wpAny_bind
def af:=@List.mem_map
def ah:=@PySem.Heap.get?_push_of_some
def ai:=@List.mem_singleton
def aj:=@List.map_append
def ao:=@List.map_cons
def aq:=@List.map_map
def ar:=@Nat.le_refl
def au:=@List.length_append
def av:=@List.mem_append
def aw:=@List.mem_cons_self
def ax:=@PySem.wpAny_pure
def ay:=@List.getElem?_eq_some_iff
def az:=@List.getElem?_map
def aA:=@Option.some.inj
def aB:=@Bool.false_ne_true
def aC:=@List.mem_of_getElem?
def aD:=@List.mem_append_right
def aE:=@decide_eq_true
def aF:=@PySem.Heap.lt_size
def aG:=@if_pos
def aH:=@List.mem_map_of_mem
def aI:=@List.mem_cons_of_mem
def aJ:=@if_neg
def aK:=@List.size_toArray
def aL:=@List.mem_cons
def aM:=@PySem.Heap.get?_push_size
def aN:=@Nat.lt_of_lt_of_le
def aO:=@List.mem_append_left
def aP:=@PySem.F.plainAttrs_list
def aQ:=@of_decide_eq_true
def aR:=@Nat.ne_of_lt
def aS:=@List.take_add_one
def aU:=@List.mem_filter
def aV:=@List.length_take
def aW:=@PySem.PassesOwn.never
def aX:=@List.length_cons
def aY:=@Bool.and_eq_true
def aZ:=@List.take_of_length_le
def ba:=@decide_eq_false
def bc:=@Int.emod_lt_of_pos
def bf:=@List.all_eq_true
def bg:=@List.pairwise_iff_getElem
def bh:=@List.pairwise_map
def bj:=@decide_eq_true_eq
def bq:=@List.length_filter_le
def br:=@PySem.F.type_list_append
def bu:=@PySem.F.slot_list_append
def bw:=@Int.emod_nonneg
def bz:=@PySem.Heap.get?_update_other
def bA:=@Nat.le_trans
def bB:=@PySem.wpAny_mono
def bC:=@Nat.zero_le
def bD:=@List.map_congr_left
def bE:=@PySem.sizeLine_eq
def bF:=@List.getElem_mem
def bG:=@List.sum_cons
def bH:=@Sum.inl.inj
def bI:=@List.nodup_append
def bJ:=@List.getElem?_append_right
def bK:=@List.getD_eq_getElem?_getD
def bL:=@List.getElem?_append_left
def bM:=@PySem.wpAny_holding
def bN:=@Option.map_eq_some_iff
def bO:=@List.length_singleton
def bP:=@List.length_range
def bQ:=@Nat.pow_le_pow_right
def bR:=@List.nodup_cons
def bS:=@List.take_length
def bT:=@PySem.Heap.size_push
def bU:=@PySem.mem_of_lookup
def bV:=@List.length_pos_iff
def bW:=@Nat.lt_succ_of_lt
def bX:=@List.getElem?_eq_none
def bY:=@List.nodup_nil
def bZ:=@PySem.W.kia_one
def cb:=@PySem.wpAny_truthy_bool
def cf:=@List.getElem?_of_mem
def cg:=@List.ext_getElem?
def cj:=@List.getElem_of_mem
def ck:=@List.filter_eq_self
def cm:=@Array.length_toList
def cn:=@List.append_nil
def cq:=@List.filter_cons
def cu:=@PySem.F.type_list_extend
def cw:=@PySem.F.slot_list_extend
def cx:=@List.map_nil
def cy:=@List.mem_range
def cz:=@beq_eq_false_iff_ne
def cA:=@PySem.F.plain_max_loop
def cB:=@PySem.wpAny_newObj_type
def cC:=@List.getElem_map
def cD:=@Array.getElem?_toList
def cE:=@Classical.byContradiction
def cF:=@List.append_assoc
def cG:=@List.length_eq_zero_iff
def cH:=@List.length_drop
def cI:=@PySem.Around.under_plainId
def cJ:=@Nat.ne_of_gt
def cK:=@Nat.lt_of_le_of_lt
def cL:=@List.find?_eq_none
def cM:=@PySem.Heap.size_update
def cN:=@PyProof.Rows.listUpdate_at
def cO:=@PySem.wpAny_Call_Name_kw
def cP:=@PySem.wpAny_passesOwn
def cQ:=@beq_iff_eq
def cR:=@Nat.lt_succ_self
def cS:=@Nat.le_of_eq
def cT:=@Nat.lt_irrefl
def cU:=@Bool.eq_iff_iff
def cV:=@List.filter_append
def cW:=@PySem.wpAny_newList
def cX:=@PySem.plainId_quiet
def cY:=@PySem.Paired.length
def cZ:=@Option.map_eq_none_iff
def dc:=@List.take_sublist
def dg:=@List.set_set
def di:=@Bool.eq_false_iff
def dm:=@PySem.codeAny_builtin
def dq:=@PySem.tupleKind_room_in1
def dr:=@PySem.Calls.spliced_cons
def du:=@PySem.wpAny_getItem_str_slice
def dv:=@List.eq_nil_or_concat
def dw:=@List.concat_eq_append
def dy:=@PySem.wpAny_pyIter_list
def dA:=@Int.le_refl
def dB:=@PySem.Calls.callWith_builtin
def dC:=@PySem.F.slot_dict_setdefault
def dD:=@List.of_mem_zip
def dE:=@List.foldl_cons
def dF:=@List.filter_map
def dG:=@List.getElem?_range
def dH:=@PySem.Heap.get?_update_self
def dI:=@PySem.wpAny_call_entry
def dJ:=@Nat.succ.inj
def dM:=@PySem.Txt.slice_le
def dN:=@Nat.lt_or_gt_of_ne
def dO:=@List.take_zero
def dP:=@List.perm_ext_iff_of_nodup
def dQ:=@List.getElem?_take
def dR:=@PySem.Heap.get?_none_of_le
def dS:=@Array.getElem?_eq_some_iff
def dU:=@PySem.wpAny_execs_nil
def dW:=@List.drop_eq_getElem_cons
def dX:=@PySem.F.args_tuple_add_2
def dY:=@List.any_cons
def dZ:=@List.all_cons
def d3:=@PySem.W.KasT.kasWp_bind
def d4:=@decide_eq_false_iff_not
def d6:=@decide_eq_decide
def d8:=@PySem.F.entry_tuple_add
def d9:=@List.lookup_cons
def ej:=@Array.toList_inj
def eu:=@PyProof.Rows.seqEpoch_at
def eA:=@PySem.F.slot_tuple_add
def eB:=@PySem.F.plainAttrs_str
def eC:=@List.find?_cons_of_pos
def eD:=@List.find?_cons_of_neg
def eE:=@Int.le_of_lt
def eF:=@PySem.Calls.call_function_entry
def eG:=@PyProof.Rows.get?_update_seq
def eI:=@PySem.Heap.get?_push_ne
def eJ:=@PySem.wpAny_standAt
def eK:=@PySem.W.methodCall_KW
def eL:=@PySem.F.slot_dict_get
def eM:=@List.take_append_drop
def eN:=@Sum.inr.inj
def eO:=@List.mem_of_mem_take
def eP:=@List.dropLast_concat
def eQ:=@Int.mul_pos
def eR:=@PySem.codeAny_mono
def eS:=@PySem.W.plainGet_of
def eT:=@List.length_reverse
def eU:=@List.filterMap_cons
def eV:=@PySem.post_val_or_str
def eW:=@PySem.W.callWith_K
def eX:=@List.filterMap_map
def eY:=@Int.natAbs_natCast
def eZ:=@PySem.wpAny_tryCatch
def fb:=@PySem.wpAny_letGo
def fc:=@Option.isSome_map
def fe:=@PySem.Obj.data_mapDictKeys
def ff:=@Nat.zero_add
def fg:=@Nat.le_of_lt
def fh:=@List.map_set
def fj:=@List.getElem?_set
def fk:=@List.find?_append
def fm:=@Int.add_zero
def fq:=@PySem.Calls.evalArgs_plain
def ft:=@PyProof.Rows.wpS_bind
def fu:=@PyProof.Rows.slot_tuple_getitem
def fw:=@PySem.W.kdl_dict
def fA:=@PySem.F.args_dict_setdefault_3
def fB:=@List.map_snd_zip
def fD:=@PyProof.Rows.subscriptTail_builtinR
def fE:=@PySem.F.entry_dict_setdefault
def fF:=@PySem.wpAny_rule
def fG:=@PySem.wpAny_Constant_int
def fH:=@PyProof.Rows.entry_list_sort
def fI:=@PySem.SeqAt.EqAt.str_int
def fJ:=@PySem.SeqAt.EqAt.int_str
def fK:=@PyProof.Rows.callWith_type1
def fL:=@Int.mul_lt_mul_of_pos_right
def fM:=@PySem.concat_meets
def fN:=@Int.natAbs_mul
def fO:=@Int.lt_of_mul_lt_mul_right
def fP:=@Int.fdiv_eq_ediv_of_nonneg
def fQ:=@PySem.Calls.spliced_nil
def fR:=@Array.perm_iff_toList_perm
def fS:=@PyProof.Rows.slot_list_sort
def fT:=@List.mem_of_find?_eq_some
def fU:=@PySem.wpAny_execs_cons
def fV:=@PySem.noFill_tuple_add
def fW:=@Int.mul_ediv_cancel_left
def fX:=@PySem.seqIndex_of
def fY:=@PySem.F.plain_list_iadd
def fZ:=@PySem.F.plainAttrs_dict
def gb:=@PySem.F.args_dict_get_3
def gc:=@PySem.W.cellsFrom_some
def gf:=@PySem.F.entry_max_loop
def gh:=@PySem.F.entry_dict_get
def gi:=@Nat.le_mul_of_pos_left
def gj:=@List.getElem?_set_self
def gm:=@List.drop_eq_nil_of_le
def gp:=@List.all_map
def gq:=@PyProof.Rows.assignInOrder_cons
def gr:=@PyProof.Rows.Subscript_
def gu:=@PySem.F.type_str_join
def gv:=@PySem.F.type_list_pop
def gw:=@PySem.F.slot_str_join
def gx:=@PySem.F.slot_list_pop
def gy:=@PySem.wpAny_newTuple
def gz:=@PySem.wpAny_load
def gA:=@PySem.wpAny_call
def gB:=@PySem.wpAny_Name
def gC:=@PySem.call_meets
def gD:=@PySem.Walks.list
def gE:=@PySem.SeqAt.RcNeAt.lists_lengths
def gF:=@Nat.le_succ
def gG:=@List.getElem?_set_ne
def gH:=@Int.natAbs_of_nonneg
def gI:=@Int.mul_one
def gJ:=@PySem.Calls.Name_function_global
def gK:=@Array.toArray_toList
def gL:=@PyProof.Rows.plain_sorted
def gM:=@PyProof.Rows.listItems_at
def gN:=@PyProof.Rows.entry_sorted
def gO:=@PySem.W.codeHd_of_K
def gP:=@List.map_eq_nil_iff
def gQ:=@List.filter_sublist
def gR:=@Array.toList_append
def gS:=@PySem.wpAny_getItem_list_slice
def gT:=@PySem.seq_tuple_add
def gU:=@PySem.evalPart_none
def gV:=@PySem.SeqAt.RcAt.lists_lengths
namespace L2
open PySem PySem.Spec PyProof.Rows
abbrev Key:=Sum Int Str
def LM:Key->Value->Bool
 | .inl k,v=>Value.isInt k v
 | .inr x,v=>Value.isStrOf x v
def X0 (w:World):Key->Int
 | .inl k=>hashInt k
 | .inr x=>hashStr w x
theorem Bw:∀{k:Key} {v:Value},LM k v=true->(∃i t,k=Sum.inl i/\v=Value.int i t)\/(∃x t,k=Sum.inr x/\v=Value.str x t)
 | .inl i,v,h=>by
  obtain⟨t,e⟩:=Value.isInt_shape (k:=i) (v:=v) h;exact .inl ⟨i,t,rfl,e⟩
 | .inr x,v,h=>by
  obtain⟨t,e⟩:=Value.isStrOf_shape (x:=x) (v:=v) h;exact .inr ⟨x,t,rfl,e⟩
theorem Ru (i:Int)(t:Tok):LM (.inl i) (.int i t)=true:=by simp[LM,Value.isInt]
theorem Rc (x:Str)(t:Tok):LM (.inr x) (.str x t)=true:=by simp[LM,Value.isStrOf]
theorem Wh (a b:Int):decide ((Sum.inl a:Key)=Sum.inl b)=(a == b):=by
 by_cases e:a=b
 ·subst e;simp
 ·have h:¬(Sum.inl a:Key)=Sum.inl b:=λq=>e (bH q)
  rw[ba h];exact(cz.mpr e).symm
theorem VD (a b:Str):decide ((Sum.inr a:Key)=Sum.inr b)=decide (a=b):=by
 by_cases e:a=b
 ·subst e;simp
 ·have h:¬(Sum.inr a:Key)=Sum.inr b:=λq=>e (eN q)
  rw[ba h,ba e]
theorem VN (a:Int)(b:Str):decide ((Sum.inl a:Key)=Sum.inr b)=false:=ba (λq=>nomatch q)
theorem V0 (a:Str)(b:Int):decide ((Sum.inr a:Key)=Sum.inl b)=false:=ba (λq=>nomatch q)
def AS (prog:Program)(w:World):PySem.KeyKind prog w Key where
 is:=LM
 hash:=X0 w
 inj:=λv a b ha hb=>by
  rcases Bw ha with⟨i,t,rfl,rfl⟩|⟨x,t,rfl,rfl⟩
  ·rcases Bw hb with⟨j,u,rfl,e⟩|⟨y,u,rfl,e⟩
   ·injection e with e1 _;rw[e1]
   ·exact nomatch e
  ·rcases Bw hb with⟨j,u,rfl,e⟩|⟨y,u,rfl,e⟩
   ·exact nomatch e
   ·injection e with e1 _;rw[e1]
 byValue:=λk v h=>by
  rcases Bw h with⟨i,t,rfl,rfl⟩|⟨x,t,rfl,rfl⟩<;>rfl
 pyHash:=λhv h=>by
  rcases Bw hv with⟨i,t,rfl,rfl⟩|⟨x,t,rfl,rfl⟩
  ·exact wpAny_pyHash_int h
  ·exact wpAny_pyHash_str h
 eqBool:=λhu hv h=>by
  rcases Bw hu with⟨i,t,rfl,rfl⟩|⟨x,t,rfl,rfl⟩
  ·rcases Bw hv with⟨j,u,rfl,rfl⟩|⟨y,u,rfl,rfl⟩
   ·rw[Wh] at h;exact wpAny_eqBool_int h
   ·rw[VN] at h;exact fJ i t y u _ _ _ _ h
  ·rcases Bw hv with⟨j,u,rfl,rfl⟩|⟨y,u,rfl,rfl⟩
   ·rw[V0] at h;exact fI x t j u _ _ _ _ h
   ·rw[VD] at h;exact wpAny_eqBool_str h
 «strs»:=λk x t v h=>by
  rcases Bw h with⟨i,u,rfl,e⟩|⟨y,u,rfl,e⟩
  ·exact nomatch e
  ·injection e with e1 _
   subst e1;cases v<;>rfl
theorem NM (prog:Program)(w:World)(i:Int)(t:Tok):(AS prog w).is (.inl i) (.int i t)=true:=Ru i t
theorem Nl (prog:Program)(w:World)(x:Str)(t:Tok):(AS prog w).is (.inr x) (.str x t)=true:=Rc x t
inductive V where
 |non|bl (b:Bool)|int (i:Int)|str (x:Str)|byt (b:Array UInt8)|flt (b:UInt64)|ref (a:Addr)|ty (n:String)
 deriving DecidableEq
def RelV:V->Value->Prop
 | .non,u=>u=Value.none
 | .bl b,u=>u=Value.bool b
 | .int i,u=>∃t,u=Value.int i t
 | .str x,u=>∃t,u=Value.str x t
 | .byt b,u=>∃t,u=Value.bytes b t
 | .flt b,u=>∃t,u=Value.float b t
 | .ref a,u=>u=Value.ref a
 | .ty n,u=>u=Value.type n
abbrev AG:List V->List Value->Prop:=Paired RelV
theorem AG.length {xs:List V}{us:List Value}(r:AG xs us):xs.length=us.length:=cY r
theorem AG.get:∀{xs:List V} {us:List Value} {i:Nat} {x:V},AG xs us->xs[i]?=some x->∃u,us[i]?=some u/\RelV x u
 |_,_,_,_,.nil,e=>by simp at e
 |_,_,0,_,.cons r _,e=>by simp at e;subst e;exact⟨_,rfl,r⟩
 |_,_,i+1,x,.cons _ t,e=>by
  obtain⟨u,h1,h2⟩:=AG.get (i:=i) (x:=x) t (by simpa using e);exact⟨u,by simpa using h1,h2⟩
theorem AG.set {x:V}{u:Value}(r:RelV x u):∀{xs:List V} {us:List Value} (i:Nat),AG xs us->AG (xs.set i x) (us.set i u)
 |_,_,_,.nil=>.nil
 |_,_,0,.cons _ t=>.cons r t
 |_,_,i+1,.cons q t=>.cons q (AG.set r i t)
theorem AG.append:∀{xs ys:List V} {us ws:List Value},AG xs us->AG ys ws->AG (xs++ys) (us++ws)
 |_,_,_,_,.nil,s=>s
 |_,_,_,_,.cons r t,s=>.cons r (AG.append t s)
theorem AG.take:∀{xs:List V} {us:List Value} (n:Nat),AG xs us->AG (xs.take n) (us.take n)
 |_,_,0,_=>.nil
 |_,_,_+1,.nil=>.nil
 |_,_,n+1,.cons r t=>.cons r (AG.take n t)
theorem AG.drop:∀{xs:List V} {us:List Value} (n:Nat),AG xs us->AG (xs.drop n) (us.drop n)
 |_,_,0,r=>r
 |_,_,_+1,.nil=>.nil
 |_,_,n+1,.cons _ t=>AG.drop n t
def FF:Option V->Option Value->Prop
 |some v,some u=>RelV v u
 |none,none=>True
 |_,_=>False
def KV {κ:Type}:List (κ×V)->List (κ×Value)->Prop:=Paired λ(p:κ×V) (q:κ×Value)=>p.1=q.1/\RelV p.2 q.2
def kV:Key->V
 | .inl i=>.int i
 | .inr x=>.str x
inductive HO where
 |lst (xs:List V)
 |tup (xs:List V)
 |dK (kvs:List (Key×V))|dT (kvs:List (List Key×V))
 |set (S:Int->Bool) (n:Nat)
 |ins (C dx:Addr) (fs:List (Str×V))
 |own (x:Addr)
 |xd (fs:List (Str×V))
 |met (f x:Addr)
 |rng (lo hi:Int)
 |frz (o:Obj) (u:HO)
 |tbl (ps:Array Value)
 |ext (φ:Heap->Prop)
abbrev Hp:=Addr->Option HO
def upd (H:Hp)(a:Addr)(o:HO):Hp:=λb=>if b=a then some o else H b
theorem Ad {H:Hp}{a:Addr}{o:HO}:upd H a o a=some o:=by unfold upd;rw[aG rfl]
theorem Ah {H:Hp}{a b:Addr}{o:HO}(h:b≠a):upd H a o b=H b:=by unfold upd;rw[aJ h]
theorem Iw {H:Hp}{a:Addr}{o u:HO}:upd (upd H a o) a u=upd H a u:=by
 funext b;unfold upd;split<;>rfl
theorem BG {H:Hp}{a b:Addr}{o u:HO}(h:H a=some o)(h':H b=some u)(d:o≠u):a≠b:=by
 intro e;subst e;rw[h] at h';exact d (aA h')
theorem Bp {H:Hp}{a b:Addr}{o:HO}(h:H a=some o)(h':H b=none):a≠b:=by
 intro e;subst e;rw[h] at h';cases h'
def XZ:List V->Bool
 |[.int _,_]=>true
 |_=>false
def Lv (b:Bool)(h:Heap)(a:Addr)(items:Array Value):Prop:=∃o,h.get? a=some o/\o.cls=.type "tuple"/\∃n,o.data=.seq items n/\(b=false->o.dict=none)
theorem Lv.is {b:Bool}{h:Heap}{a:Addr}{items:Array Value}(x:Lv b h a items):IsTup h a items:=let⟨o,e,c,n,d,_⟩:=x;⟨o,e,c,n,d⟩
theorem Lv.lt {b:Bool}{h:Heap}{a:Addr}{items:Array Value}(x:Lv b h a items):a<h.objs.size:=x.is.lt
theorem Lv.new {b:Bool}(h:Heap)(items:Array Value):Lv b (h.push { cls:=.type "tuple",data:=.seq items }) h.objs.size items:=⟨_,aM _ rfl,rfl,_,rfl,λ_=>rfl⟩
section
variable (P:Program)(w:World)
def Ba (H:Hp)(h:Heap)(a:Addr):HO->Prop
 | .lst xs=>xs.length<=sizeLine/\∃(its:List Value) (n:Nat),AG xs its/\h.get? a=some { cls:=.type "list",data:=.seq its.toArray n }
 | .tup xs=>xs.length<=sizeLine/\∃its:List Value,AG xs its/\Lv (XZ xs) h a its.toArray
 | .dK kvs=>kvs.length<=sizeLine/\(a == sysModules)=false/\∃vs,KV kvs vs/\h.DictOf (AS P w) a vs
 | .dT kvs=>kvs.length<=sizeLine/\(a == sysModules)=false/\∃xs:List (List Key×Addr×Value),
   Paired (λ(p:List Key×V) (q:List Key×Addr×Value)=>p.1=q.1/\H q.2.1=some (.tup (p.1.map kV))/\RelV p.2 q.2.2) kvs xs/\
   ∃o es ep,h.get? a=some o/\o.ExactDict/\o.data=.dict es ep/\es.toList=xs.map (entryOfKey (tupleKind (AS P w)))/\(xs.map (·.1)).Nodup
 | .set S n=>h.SetOf (intKind P w) a S n
 | .ins C dx fs=>H dx=some (.own a)/\fs.length<=1000/\dx≠a/\h.get? a=some (PySem.W.instObj C dx)/\
   ∃mA,h.Ns1 dx mA/\(∀f,FF (fs.lookup f) (mA f))/\PySem.Within mA (fs.map (·.1))
 | .own _=>∃o,h.get? a=some o
 | .xd fs=>∃mA,h.Ns1 a mA/\∀f,FF (fs.lookup f) (mA f)
 | .rng lo hi=>∃t u v,h.get? a=some { cls:=.type "range",data:=.fields #[.int lo t,.int hi u,.int 1 v] }
 | .frz o u=>h.get? a=some o/\Ba H h a u
 | .tbl ps=>h.get? a=some { cls:=.none,data:=.fields ps }
 | .met f x=>h.get? a=some (PySem.W.methodObj (.ref f) (.ref x))
 | .ext φ=>φ h/\(∃o,h.get? a=some o)/\∀h1 h2:Heap,φ h1->(∀o,h1.get? a=some o->h2.get? a=some o)->φ h2
def HC (H:Hp)(h:Heap):Prop:=∀a o,H a=some o->Ba P w H h a o
end
section
variable {P:Program}{w:World}{H H':Hp}{h h':Heap}{a:Addr}{o:HO}
theorem Ba.lt (x:Ba P w H h a o):a<h.objs.size:=by
 cases o with
 |lst xs=>obtain⟨_,_,_,_,e⟩:=x;exact aF e
 |tup xs=>obtain⟨_,_,_,p⟩:=x;exact p.lt
 |dK kvs=>obtain⟨_,_,_,_,o,_,_,e,_⟩:=x;exact aF e
 |dT kvs=>obtain⟨_,_,_,_,o,_,_,e,_⟩:=x;exact aF e
 |set S n=>obtain⟨o,_,_,_,e,_⟩:=x;exact aF e
 |ins C dx fs=>obtain⟨_,_,_,e,_⟩:=x;exact aF e
 |own y=>obtain⟨_,e⟩:=x;exact aF e
 |xd fs=>obtain⟨_,⟨_,_,_,e,_⟩,_⟩:=x;exact aF e
 |rng lo hi=>obtain⟨_,_,_,e⟩:=x;exact aF e
 |frz ob u=>obtain⟨e,_⟩:=x;exact aF e
 |tbl ps=>exact aF (show h.get? a=some _ from x)
 |met f y=>exact aF (show h.get? a=some _ from x)
 |ext φ=>obtain⟨_,⟨_,e⟩,_⟩:=x;exact aF e
theorem Paired.mapP {α β:Type}{F G:α->β->Prop}:∀{l₁:List α} {l₂:List β},Paired F l₁ l₂->(∀a b,F a b->G a b)->Paired G l₁ l₂
 |_,_,.nil,_=>.nil
 |_,_,.cons r t,f=>.cons (f _ _ r) (Paired.mapP t f)
theorem Ba.stay (x:Ba P w H h a o) (k:∀b u,(b=a\/H b=some (.own a))->h.get? b=some u->h'.get? b=some u)
  (ho:∀b,H b=some (.own a)->H' b=some (.own a)) (ht:∀b xs,H b=some (.tup xs)->H' b=some (.tup xs)):Ba P w H' h' a o:=by
 induction o with
 |lst xs=>obtain⟨z,its,n,r,e⟩:=x;exact⟨z,its,n,r,k _ _ (.inl rfl) e⟩
 |tup xs=>obtain⟨z,its,r,ob,e,c⟩:=x;exact⟨z,its,r,ob,k _ _ (.inl rfl) e,c⟩
 |dK kvs=>obtain⟨z,y,vs,r,ob,es,ep,e,c⟩:=x;exact⟨z,y,vs,r,ob,es,ep,k _ _ (.inl rfl) e,c⟩
 |dT kvs=>
  obtain⟨z,y,xs,r,ob,es,ep,e,c⟩:=x;exact⟨z,y,xs,Paired.mapP r λp q z=>⟨z.1,ht _ _ z.2.1,z.2.2⟩,ob,es,ep,k _ _ (.inl rfl) e,c⟩
 |set S n=>obtain⟨ob,es,ep,t,e,c⟩:=x;exact⟨ob,es,ep,t,k _ _ (.inl rfl) e,c⟩
 |ins C dx fs=>
  obtain⟨d,z,ne,e,mA,⟨od,es,ep,e2,c⟩,r⟩:=x;exact⟨ho _ d,z,ne,k _ _ (.inl rfl) e,mA,⟨od,es,ep,k _ _ (.inr d) e2,c⟩,r⟩
 |own y=>obtain⟨ob,e⟩:=x;exact⟨ob,k _ _ (.inl rfl) e⟩
 |xd fs=>obtain⟨mA,⟨od,es,ep,e,c⟩,r⟩:=x;exact⟨mA,⟨od,es,ep,k _ _ (.inl rfl) e,c⟩,r⟩
 |rng lo hi=>obtain⟨t,u,v,e⟩:=x;exact⟨t,u,v,k _ _ (.inl rfl) e⟩
 |frz ob u ih=>obtain⟨e,q⟩:=x;exact⟨k _ _ (.inl rfl) e,ih q⟩
 |tbl ps=>
  have e:h.get? a=some { cls:=.none,data:=.fields ps }:=x;show h'.get? a=some { cls:=.none,data:=.fields ps };exact k a _ (.inl rfl) e
 |met f y=>
  have e:h.get? a=some (PySem.W.methodObj (.ref f) (.ref y)):=x;show h'.get? a=some (PySem.W.methodObj (.ref f) (.ref y));exact k a _ (.inl rfl) e
 |ext φ=>obtain⟨p,⟨o,e⟩,st⟩:=x;exact⟨st _ _ p λo q=>k _ _ (.inl rfl) q,⟨o,k _ _ (.inl rfl) e⟩,st⟩
theorem HC.lt (x:HC P w H h)(e:H a=some o):a<h.objs.size:=(x a o e).lt
theorem HC.fresh (x:HC P w H h)(e:h.objs.size<=a):H a=none:=by
 cases q:H a with
 |none=>rfl
 |some u=>exact absurd (aN (x.lt q) e) (cT _)
theorem HC.kept (x:HC P w H h)(k:∀b u,h.get? b=some u->h'.get? b=some u):HC P w H h':=λa o e=>
 (x a o e).stay (λb u _ q=>k b u q) (λ_ q=>q) λ_ _ q=>q
theorem HC.laid (x:HC P w H h)(k:∀b u,h.get? b=some u->h'.get? b=some u)(hp:h.objs.size<=a)(new:Ba P w (upd H a o) h' a o):HC P w (upd H a o) h':=λb u e=>by
 have hn:=x.fresh hp
 by_cases hb:b=a
 ·subst hb;rw[Ad] at e;cases e;exact new
 ·rw[Ah hb] at e;exact(x b u e).stay (λc v _ q=>k c v q) (λc q=>by rw[Ah (Bp q hn)];exact q) λc xs q=>by rw[Ah (Bp q hn)];exact q
end
def Rd (H:Hp)(a:Addr)(u:HO):Prop:=H a=some u\/∃o,H a=some (.frz o u)
theorem Rd.ok {P:Program}{w:World}{H:Hp}{h:Heap}{a:Addr}{u:HO}(r:Rd H a u)(x:HC P w H h):Ba P w H h a u:=by
 rcases r with r|⟨o,r⟩
 ·exact x a u r
 ·obtain⟨_,q⟩:=x a _ r;exact q
def Xh:Option HO->Prop
 |some (.lst _)=>True
 |some (.dK _)=>True
 |some (.dT _)=>True
 |some (.set _ _)=>True
 |some (.ins _ _ _)=>True
 |some (.ext _)=>True
 |_=>False
section
variable {P:Program}{w:World}{H:Hp}{h h':Heap}{x e:Addr}{o':HO}
theorem HC.write (ok:HC P w H h) (mu:Xh (H x)) (he:e=x\/H e=some (.own x)) (k:∀b u,b≠e->h.get? b=some u->h'.get? b=some u) (heo:∃u,h'.get? e=some u)
  (new:Ba P w (upd H x o') h' x o'):HC P w (upd H x o') h':=λb u q=>by
 have nown:∀c y,H c=some (.own y)->c≠x:=λc y r z=>by subst z;rw[r] at mu;exact mu
 have ntup:∀c xs,H c=some (.tup xs)->c≠x:=λc xs r z=>by subst z;rw[r] at mu;exact mu
 by_cases hb:b=x
 ·subst hb;rw[Ad] at q;cases q;exact new
 ·rw[Ah hb] at q
  by_cases hbe:b=e
  ·have q':H b=some (.own x):=by
    rcases he with z|z
    ·exact absurd (hbe.trans z) hb
    ·rw[hbe];exact z
   rw[q] at q';cases q';obtain⟨v,hv⟩:=heo;exact⟨v,by rw[hbe];exact hv⟩
  ·refine(ok b u q).stay (λc v hc r=>k c v ?_ r) (λc r=>by rw[Ah (nown c b r)];exact r) λc xs r=>by rw[Ah (ntup c xs r)];exact r
   rcases hc with rfl|hc
   ·exact hbe
   ·rintro rfl
    rcases he with z|z
    ·exact nown c b hc z
    ·rw[hc] at z;cases z;exact hb rfl
end
structure Un (fs ex:List Addr) (H H':Hp) (h h':Heap):Prop where
 keep:∀b o,h.get? b=some o->H b=none->b∉fs->b∉ex->h'.get? b=some o
 slot:∀b o,h.get? b=some o->H b=none->b∈fs->b∉ex->∃sl,h'.get? b=some { o with slots:=sl }
 free:∀b o,h.get? b=some o->H b=none->b∉ex->H' b=none
 there:∀b o,h.get? b=some o->b∉ex->∃o',h'.get? b=some o'
 tups:∀b xs,H b=some (.tup xs)->H' b=some (.tup xs)
 frzs:∀b o u,H b=some (.frz o u)->H' b=some (.frz o u)
 tbls:∀b ps,H b=some (.tbl ps)->∃more,H' b=some (.tbl (ps++more))
section
variable {fs fs' ex ex':List Addr}{H H1 H2:Hp}{h h1 h2 h':Heap}{a x e:Addr}{o:HO}
theorem Un.any (u:Un fs ex H H1 h h1){b:Addr}{ob:Obj}(q:h.get? b=some ob)(n:H b=none)(hx:b∉ex):∃sl,h1.get? b=some { ob with slots:=sl }:=by
 by_cases hb:b∈fs
 ·exact u.slot b ob q n hb hx
 ·exact⟨ob.slots,u.keep b ob q n hb hx⟩
theorem Un.kept (k:∀b u,h.get? b=some u->h'.get? b=some u):Un fs ex H H h h':=
 ⟨λb ob q _ _ _=>k b ob q,λb ob q _ _ _=>⟨ob.slots,k b ob q⟩,λ_ _ _ n _=>n,λb ob q _=>⟨ob,k b ob q⟩,λ_ _ q=>q,λ_ _ _ q=>q,λ_ ps q=>⟨#[],by rw[q];simp⟩⟩
theorem Un.refl:Un fs ex H H h h:=Un.kept λ_ _ q=>q
theorem Un.laid (k:∀b u,h.get? b=some u->h'.get? b=some u)(hp:h.objs.size<=a)(hn:H a=none):Un fs ex H (upd H a o) h h' where
 keep:=λb u q _ _ _=>k b u q
 slot:=λb u q _ _ _=>⟨u.slots,k b u q⟩
 free:=λb u q n _=>by rw[Ah (aR (aN (aF q) hp))];exact n
 there:=λb u q _=>⟨u,k b u q⟩
 tups:=λb xs q=>by rw[Ah (Bp q hn)];exact q
 frzs:=λb u xs q=>by rw[Ah (Bp q hn)];exact q
 tbls:=λb ps q=>⟨#[],by rw[Ah (Bp q hn),q];simp⟩
theorem Un.write (mu:Xh (H x))(he:e=x\/H e=some (.own x))(k:∀b u,b≠e->h.get? b=some u->h'.get? b=some u)(heo:∃u,h'.get? e=some u):Un fs ex H (upd H x o) h h':=by
 have hx:∀b,H b=none->b≠x:=λb n z=>by subst z;rw[n] at mu;exact mu
 have hb:∀b,H b=none->b≠e:=λb n z=>by
  subst z;rcases he with r|r
  ·exact hx b n r
  ·rw[n] at r;cases r
 have hm:∀b u,H b=some u->¬Xh (some u)->b≠x:=λb u q nm z=>by subst z;rw[q] at mu;exact nm mu
 refine⟨λb u q n _ _=>k b u (hb b n) q,λb u q n _ _=>⟨u.slots,k b u (hb b n) q⟩,λb u q n _=>by rw[Ah (hx b n)];exact n,λb u q _=>?_,
  λb xs q=>by rw[Ah (hm b _ q λz=>z)];exact q,λb u xs q=>by rw[Ah (hm b _ q λz=>z)];exact q,λb ps q=>⟨#[],by rw[Ah (hm b _ q λz=>z),q];simp⟩⟩
 by_cases hbe:b=e
 ·subst hbe;exact heo
 ·exact⟨u,k b u hbe q⟩
end
def Xq (h:Heap)(H:Hp):List Addr:=(List.range h.objs.size).filter λa=>(H a).isSome
def Mw (h:Heap)(H:Hp):Heap:=PySem.W.hideAll h (Xq h H)
theorem QM (h:Heap)(H:Hp):(Mw h H).objs.size=h.objs.size:=PySem.W.hideAll_size _ _
theorem KZ {h:Heap}{H:Hp}{b:Addr}{o:Obj}(e:h.get? b=some o)(n:H b=none):(Mw h H).get? b=some o:=
 PySem.W.hideAll_get _ e λhm=>by
  have q:(H b).isSome=true:=(aU.mp hm).2;rw[n] at q;simp at q
theorem Uu {h:Heap}{H:Hp}{b:Addr}{o:Obj}(e:(Mw h H).get? b=some o):h.get? b=some o/\H b=none:=by
 have e':h.get? b=some o:=PySem.W.of_hideAll (Xq h H) e;refine⟨e',?_⟩;cases q:H b with
 |none=>rfl
 |some x=>
  have hm:b∈Xq h H:=aU.mpr ⟨cy.mpr (aF e'),by simp[q]⟩;have z:(Mw h H).get? b=none:=PySem.W.hideAll_none (Xq h H) hm;rw[z] at e;cases e
def UH (g h:Heap)(L:Addr):List (Addr×Obj):=(List.range h.objs.size).filterMap λa=>if a=L\/(g.get? a).isSome=true then none else(h.get? a).map λo=>(a,o)
def rest (g h:Heap)(L d:Addr):List (Addr×Obj):=(UH g h L).filter λp=>decide (p.1≠d)
structure Mod (K:PySem.W.Frag) (mg:Str->Option Value) (base:Heap):Prop where
 kin:K.In base
 glob:base.Ns mainGlobals mg
 blt:∃mb,base.Ns builtinsNs mb/\∀x:Str,x≠"__name__"->mb x=bootBuiltins x
 nolimit:base.NoLimit
structure Cx where
 prog:Program
 w:World
 K:PySem.W.Frag
 mg:Str->Option Value
 base:Heap
 A:Around
 N:List Str
 s₀:Shared
 H₀:Hp
 env:Env
 outer:List Env
 stack:List Env
 ex:List Addr
 fn:Str->Bool
 calm:Bool
 pn:List (Addr×Obj)
 xe:Value->Shared->Prop
def MJ (l:List Env):List Addr:=l.filterMap (·.frame)
abbrev Cx.fs (X:Cx):List Addr:=MJ X.outer
def XB (sc:Scope)(x:Str):Prop:=sc.names.lookup x=some .local\/sc.names.lookup x=some .cell\/sc.names.lookup x=some .free
def Loc (sc:Scope)(x:Str):Prop:=sc.names.lookup x=some .local\/sc.names.lookup x=some .cell
def Look (env:Env)(h:Heap)(m:Str->Option Value)(x:Str)(u:Value):Prop:=
 (env.kindOf x=some .local/\m x=some u)\/((env.kindOf x=some .cell\/env.kindOf x=some .free)/\∃c,env.cells.lookup x=some c/\h.IsCell c (some u))
structure Cx.Ok (X:Cx):Prop where
 mod:Mod X.K X.mg X.base
 kind:X.env.scope.kind=.function
 glob:X.env.globals=mainGlobals
 blt:X.env.builtins=builtinsNs
 above:X.s₀.heap.objs.size<=X.env.locals
 inj:∀x y c,X.env.cells.lookup x=some c->X.env.cells.lookup y=some c->x=y
 has:∀x,(X.env.kindOf x=some .cell\/X.env.kindOf x=some .free)->∃c,X.env.cells.lookup x=some c
 cab:∀x c,X.fn x=true->X.env.cells.lookup x=some c->X.s₀.heap.objs.size<=c
 hd:X.calm=true->X.A.handled=none
 frames:X.A.frames=some X.stack
 stk:X.stack=X.outer\/(X.stack=X.env::X.outer/\X.env.frame=some X.env.locals)
 exf:∀b∈X.ex,b≠X.env.locals/\∀x c,X.env.cells.lookup x=some c->c≠b
 bs:∀b o,X.base.get? b=some o->X.s₀.heap.get? b=some o/\X.H₀ b=none
 bsz:X.base.objs.size<=X.s₀.heap.objs.size
 noex:∀b o,X.base.get? b=some o->b∉X.ex
 exfs:∀b∈X.ex,b∉X.fs
 funs:X.s₀.heap.FunFrames X.base X.outer
 frf:∀b∈X.fs,X.H₀ b=none
structure Inv (X:Cx) (pins:List (Addr×Obj)) (σ:List (Option V)) (H:Hp) (s:Shared):Prop where
 ok:X.Ok
 os:s.os=X.s₀.os
 bare:AllBare s.gens
 base:Un X.fs X.ex X.H₀ H X.s₀.heap s.heap
 loc:∃m,s.heap.Ns X.env.locals m/\∀(i:Nat) (x:Str) (v:V),X.N[i]?=some x->σ[i]?=some (some v)->XB X.env.scope x->∃u,RelV v u/\Look X.env s.heap m x u
 cell:∀x c,X.env.cells.lookup x=some c->∃v,s.heap.IsCell c v
 free:H X.env.locals=none
 freeC:∀x c,X.env.cells.lookup x=some c->H c=none
 pin:∀p∈X.pn++pins,s.heap.get? p.1=some p.2/\H p.1=none/\p.1≠X.env.locals/\p.1∉X.fs/\∀v,p.2.data≠.cell v
 hok:HC X.prog X.w H s.heap
 len:σ.length=X.N.length
section
variable {X:Cx}{pins:List (Addr×Obj)}{σ:List (Option V)}{H H':Hp}{s:Shared}{h':Heap}
theorem Cx.Ok.nofr (ok:X.Ok){b:Addr}{o:Obj}(e:X.base.get? b=some o):b∉X.fs:=λhb=>by
 have:=(ok.funs.mem hb).1;rw[e] at this;cases this
theorem Inv.bs (I:Inv X pins σ H s):∀b o,X.base.get? b=some o->s.heap.get? b=some o/\H b=none:=λb o e=>
 ⟨I.base.keep b o (I.ok.bs b o e).1 (I.ok.bs b o e).2 (I.ok.nofr e) (I.ok.noex b o e),I.base.free b o (I.ok.bs b o e).1 (I.ok.bs b o e).2 (I.ok.noex b o e)⟩
theorem Inv.bk (I:Inv X pins σ H s):∀b o,X.base.get? b=some o->s.heap.get? b=some o:=λb o e=>(I.bs b o e).1
theorem Inv.mod (I:Inv X pins σ H s):Mod X.K X.mg X.base:=I.ok.mod
theorem Inv.kIn (I:Inv X pins σ H s):X.K.In s.heap:=I.ok.mod.kin.keeps I.bk
theorem Inv.nolimit (I:Inv X pins σ H s):s.heap.NoLimit:=I.ok.mod.nolimit.keeps I.bk
theorem Inv.lt (I:Inv X pins σ H s):X.env.locals<s.heap.objs.size:=let⟨_,hn,_⟩:=I.loc;hn.lt
theorem Inv.sz (I:Inv X pins σ H s):X.s₀.heap.objs.size<=s.heap.objs.size:=bA I.ok.above (fg I.lt)
theorem Inv.nofs (I:Inv X pins σ H s){a:Addr}(h:s.heap.objs.size<=a):a∉X.fs:=λhb=>by
 obtain⟨_,o,ho,_⟩:=I.ok.funs.mem hb;exact absurd (aN (aF ho) (bA I.sz h)) (cT _)
theorem Inv.cne (I:Inv X pins σ H s):∀x c,X.env.cells.lookup x=some c->c≠X.env.locals:=λx c e z=>by
 obtain⟨v,o,ho,hd⟩:=I.cell x c e;obtain⟨m,⟨o',es,ep,ho',hd',_⟩,_⟩:=I.loc;rw[z,ho'] at ho;cases ho;rw[hd'] at hd;cases hd
theorem Inv.funs (I:Inv X pins σ H s):s.heap.FunFrames X.base X.outer:=by
 have all:∀(l:List Env),(∀b∈MJ l,b∈X.fs)->X.s₀.heap.FunFrames X.base l->s.heap.FunFrames X.base l:=by
  intro l
  induction l with
  |nil=>intro _ _;trivial
  |cons env r ih=>
   intro hs hl;obtain⟨hk,⟨L,o,hf,hn,ho,hd⟩,hr⟩:=hl;have hL:L∈X.fs:=hs L (by unfold MJ;rw[eU,hf];exact aw);obtain⟨sl,e⟩:=I.base.slot L o ho (I.ok.frf L hL) hL λz=>I.ok.exfs L z hL
   exact⟨hk,⟨L,_,hf,hn,e,hd⟩,ih (λb hb=>hs b (by unfold MJ;rw[eU,hf];exact aI _ hb)) hr⟩
 exact all X.outer (λ_ hb=>hb) I.ok.funs
theorem Inv.stack (I:Inv X pins σ H s):s.heap.FunFrames X.base X.stack:=by
 rcases I.ok.stk with e|⟨e,hf⟩
 ·rw[e];exact I.funs
 ·rw[e];obtain⟨m,hn,_⟩:=I.loc;refine .cons (by rw[I.ok.kind];decide) hf hn ?_ I.funs;exact dR (bA I.ok.bsz I.ok.above)
theorem Inv.stkSub (I:Inv X pins σ H s):∀b∈MJ X.stack,b∈X.env.locals::X.fs:=λb hb=>by
 rcases I.ok.stk with e|⟨e,hf⟩
 ·rw[e] at hb;exact aI _ hb
 ·rw[e] at hb;unfold MJ at hb;rw[eU,hf] at hb;exact hb
theorem Inv.stkFree (I:Inv X pins σ H s):∀b∈MJ X.stack,H b=none:=λb hb=>by
 rcases aL.mp (I.stkSub b hb) with e|hb
 ·rw[e];exact I.free
 ·obtain⟨_,o,ho,_⟩:=I.ok.funs.mem hb;exact I.base.free b o ho (I.ok.frf b hb) λz=>I.ok.exfs b z hb
theorem Inv.step {g':Array GenState} {t':Nat} {d':Drawn} {ch:List Addr} (I:Inv X pins σ H s)
  (hch:∀b∈ch,(b∈X.ex\/X.s₀.heap.objs.size<=b)/\b≠X.env.locals/\(∀x c,X.env.cells.lookup x=some c->c≠b)/\∀p∈X.pn++pins,p.1≠b)
  (keep:∀b o,b≠X.env.locals->b∉X.fs->b∉ch->s.heap.get? b=some o->H b=none->h'.get? b=some o)
  (slot:∀b o,b≠X.env.locals->b∈X.fs->b∉ch->s.heap.get? b=some o->H b=none->∃sl,h'.get? b=some { o with slots:=sl }) (free:∀b o,b∉ch->s.heap.get? b=some o->H b=none->H' b=none)
  (there:∀b o,b∉ch->s.heap.get? b=some o->∃o',h'.get? b=some o')
  (tups:∀b xs,H b=some (.tup xs)->H' b=some (.tup xs)) (frzs:∀b o u,H b=some (.frz o u)->H' b=some (.frz o u)) (tbls:∀b ps,H b=some (.tbl ps)->∃more,H' b=some (.tbl (ps++more)))
  (ns:∀m,s.heap.Ns X.env.locals m->h'.Ns X.env.locals m) (hok:HC X.prog X.w H' h') (hg:AllBare g') :
  Inv X pins σ H' { s with heap:=h',gens:=g',drawn:=d',toks:=t' }:=by
 have neL:∀b o,X.s₀.heap.get? b=some o->b≠X.env.locals:=λb o e=>aR (aN (aF e) I.ok.above)
 have neC:∀b o,X.s₀.heap.get? b=some o->b∉X.ex->b∉ch:=λb o e hx hb=>by
  rcases(hch b hb).1 with z|z
  ·exact hx z
  ·exact absurd (aN (aF e) z) (cT _)
 have cellK:∀x c,X.env.cells.lookup x=some c->∀v,s.heap.IsCell c v->h'.IsCell c v:=λx c e v ⟨o,ho,hd⟩=>by
  have nch:c∉ch:=λz=>(hch c z).2.2.1 x c e rfl
  by_cases hc:c∈X.fs
  ·obtain⟨sl,q⟩:=slot c o (I.cne x c e) hc nch ho (I.freeC x c e);exact⟨_,q,hd⟩
  ·exact⟨o,keep c o (I.cne x c e) hc nch ho (I.freeC x c e),hd⟩
 refine⟨I.ok,I.os,hg,⟨λb o e n hb hx=>?_,λb o e n hb hx=>?_,λb o e n hx=>?_,λb o e hx=>?_,λb xs e=>tups b xs (I.base.tups b xs e),λb o xs e=>frzs b o xs (I.base.frzs b o xs e),λb ps e=>?_⟩,?_,λx c e=>?_,?_,λx c e=>?_,λp hp=>?_,hok,I.len⟩
 ·exact keep b o (neL b o e) hb (neC b o e hx) (I.base.keep b o e n hb hx) (I.base.free b o e n hx)
 ·obtain⟨sl,e1⟩:=I.base.slot b o e n hb hx;obtain⟨sl',e2⟩:=slot b _ (neL b o e) hb (neC b o e hx) e1 (I.base.free b o e n hx);exact⟨sl',e2⟩
 ·obtain⟨o',e1⟩:=I.base.there b o e hx;exact free b o' (neC b o e hx) e1 (I.base.free b o e n hx)
 ·obtain⟨o',e1⟩:=I.base.there b o e hx;exact there b o' (neC b o e hx) e1
 ·obtain⟨m1,e1⟩:=I.base.tbls b ps e;obtain⟨m2,e2⟩:=tbls b _ e1;exact⟨m1++m2,by rw[e2,Array.append_assoc]⟩
 ·obtain⟨m,hn,hl⟩:=I.loc;refine⟨m,ns m hn,λi x v e1 e2 e3=>?_⟩;obtain⟨u,r,l⟩:=hl i x v e1 e2 e3;refine⟨u,r,?_⟩;rcases l with l|⟨k,c,e,z⟩
  ·exact .inl l
  ·exact .inr ⟨k,c,e,cellK x c e _ z⟩
 ·obtain⟨v,z⟩:=I.cell x c e;exact⟨v,cellK x c e v z⟩
 ·obtain⟨m,⟨o,_,_,ho,_⟩,_⟩:=I.loc;exact free _ o (λz=>(hch _ z).2.1 rfl) ho I.free
 ·obtain⟨v,o,ho,hd⟩:=I.cell x c e;exact free c o (λz=>(hch c z).2.2.1 x c e rfl) ho (I.freeC x c e)
 ·obtain⟨e,n,ne,nf,d⟩:=I.pin p hp;have nch:p.1∉ch:=λz=>(hch p.1 z).2.2.2 p hp rfl
  exact⟨keep p.1 p.2 ne nf nch e n,free p.1 p.2 nch e n,ne,nf,d⟩
theorem Inv.un {t':Nat}(I:Inv X pins σ H s)(u:Un X.fs [] H H' s.heap h')(hok:HC X.prog X.w H' h'):Inv X pins σ H' { s with heap:=h',toks:=t' }:=by
 obtain⟨m,⟨o,es,ep,ho,r⟩,_⟩:=id I.loc;obtain⟨sl,hL⟩:=u.any ho I.free (by simp);exact I.step (g':=s.gens) (d':=s.drawn) (ch:=[]) (λ_ z=>nomatch z) (λb o _ hb _ e n=>u.keep b o e n hb (by simp)) (λb o _ hb _ e n=>u.slot b o e n hb (by simp)) (λb o _ e n=>u.free b o e n (by simp)) (λb o _ e=>u.there b o e (by simp)) u.tups u.frzs u.tbls (λm' hm=>by
  obtain⟨o',es',ep',ho',r'⟩:=hm;rw[ho] at ho';cases ho';exact⟨_,es',ep',hL,r'⟩) hok I.bare
theorem Inv.call {g':Array GenState} {t':Nat} {d':Drawn} {ch:List Addr} (I:Inv X pins σ H s) (u:Un (MJ X.stack) ch H H' s.heap h') (hok:HC X.prog X.w H' h') (hg:AllBare g')
  (hch:∀b∈ch,(b∈X.ex\/X.s₀.heap.objs.size<=b)/\b≠X.env.locals/\(∀x c,X.env.cells.lookup x=some c->c≠b)/\∀p∈X.pn++pins,p.1≠b) :
  Inv X pins σ H' { s with heap:=h',gens:=g',drawn:=d',toks:=t' }:=by
 obtain⟨m,⟨o,es,ep,ho,r⟩,_⟩:=id I.loc;obtain⟨sl,hL⟩:=u.any ho I.free λz=>(hch _ z).2.1 rfl
 exact I.step (ch:=ch) hch (λb o hL hb hc e n=>u.keep b o e n (λz=>(aL.mp (I.stkSub b z)).elim hL hb) hc) (λb o _ _ hc e n=>u.any e n hc) (λb o hc e n=>u.free b o e n hc) (λb o hc e=>u.there b o e hc) u.tups u.frzs u.tbls (λm' hm=>by
  obtain⟨o',es',ep',ho',r'⟩:=hm;rw[ho] at ho';cases ho';exact⟨_,es',ep',hL,r'⟩) hok hg
theorem Inv.turned {t':Nat} {it:Addr} (I:Inv X pins σ H s) (k:∀b o,b≠it->s.heap.get? b=some o->h'.get? b=some o) (hn:H it=none) (hL:it≠X.env.locals)
  (h1:it∈X.ex\/X.s₀.heap.objs.size<=it) (h2:∀x c,X.env.cells.lookup x=some c->c≠it) (h3:∀p∈X.pn++pins,p.1≠it):Inv X pins σ H { s with heap:=h',toks:=t' }:=by
 have nit:∀b u,H b=some u->b≠it:=λb u e z=>by rw[z,hn] at e;cases e
 refine I.step (g':=s.gens) (d':=s.drawn) (ch:=[it]) (λb hb=>?_) (λb o _ _ hc e _=>k b o (λz=>hc (by simp[z])) e) (λb o _ _ hc e _=>⟨o.slots,k b o (λz=>hc (by simp[z])) e⟩) (λ_ _ _ _ n=>n)
  (λb o hc e=>⟨o,k b o (λz=>hc (by simp[z])) e⟩) (λ_ _ e=>e) (λ_ _ _ e=>e) (λb ps e=>⟨#[],by rw[e];simp⟩) (λm hm=>?_) (λb u e=>?_) I.bare
 ·have e:b=it:=by simpa using hb
  subst e;exact⟨h1,hL,h2,h3⟩
 ·obtain⟨o,es,ep,ho,r⟩:=hm;exact⟨o,es,ep,k _ o (Ne.symm hL) ho,r⟩
 ·refine(I.hok b u e).stay (λc v hc q=>k c v ?_ q) (λ_ q=>q) λ_ _ q=>q
  rcases hc with z|z
  ·rw[z];exact nit b u e
  ·exact nit c _ z
theorem Inv.tok (I:Inv X pins σ H s)(t:Nat):Inv X pins σ H { s with toks:=t }:=I.un (h':=s.heap) (t':=t) Un.refl I.hok
theorem Inv.kept {t':Nat}(I:Inv X pins σ H s)(k:∀b u,s.heap.get? b=some u->h'.get? b=some u):Inv X pins σ H { s with heap:=h',toks:=t' }:=I.un (Un.kept k) (I.hok.kept k)
theorem Inv.laid {a:Addr}{o:HO}{t':Nat}(I:Inv X pins σ H s)(k:∀b u,s.heap.get? b=some u->h'.get? b=some u)(hp:s.heap.objs.size<=a)(new:Ba X.prog X.w (upd H a o) h' a o) :
  Inv X pins σ (upd H a o) { s with heap:=h',toks:=t' }:=I.un (Un.laid k hp (I.hok.fresh hp)) (I.hok.laid k hp new)
theorem Inv.write {x e:Addr} {o:HO} {t':Nat} (I:Inv X pins σ H s) (mu:Xh (H x)) (he:e=x\/H e=some (.own x)) (k:∀b u,b≠e->s.heap.get? b=some u->h'.get? b=some u) (heo:∃u,h'.get? e=some u)
  (new:Ba X.prog X.w (upd H x o) h' x o):Inv X pins σ (upd H x o) { s with heap:=h',toks:=t' }:=I.un (Un.write mu he k heo) (I.hok.write mu he k heo new)
theorem Inv.pins_of {pins':List (Addr×Obj)}(I:Inv X pins σ H s)(h:∀p∈pins',s.heap.get? p.1=some p.2/\H p.1=none/\p.1≠X.env.locals/\p.1∉X.fs/\∀v,p.2.data≠.cell v):Inv X pins' σ H s:=
 ⟨I.ok,I.os,I.bare,I.base,I.loc,I.cell,I.free,I.freeC,λp hp=>(av.mp hp).elim (λz=>I.pin p (aO _ z)) (h p),I.hok,I.len⟩
theorem Oi {N:List Str}(hN:N.Nodup){i j:Nat}{x:Str}(a:N[i]?=some x)(b:N[j]?=some x):i=j:=by
 obtain⟨h1,e1⟩:=ay.mp a;obtain⟨h2,e2⟩:=ay.mp b;exact(List.getElem_inj hN).mp (e1.trans e2.symm)
theorem QY {M:Model} {A:Around} {E:Value->Shared->Prop} {i:Nat} {x:Str} {v:V} {u:Value} {Q:Unit->Shared->Prop} (I:Inv X pins σ H s) (hN:X.N.Nodup) (hi:X.N[i]?=some x) (hx:Loc X.env.scope x) (r:RelV v u)
  (h:∀s',Inv X pins (σ.set i (some v)) H s'->(∃a,Heap.SameBut a s.heap s'.heap/\(a=X.env.locals\/X.env.cells.lookup x=some a))->Q () s') (hf:X.fn x=true\/X.env.scope.names.lookup x=some .local:=by first|exact .inl rfl|exact .inr rfl|assumption):wpAny M A (storeName X.env x u) Q E s:=by
 obtain⟨m,hn,hl⟩:=id I.loc;have hcls:(X.env.scope.kind == .class||(X.env.scope.kind == .module&&X.env.locals != X.env.globals))=false:=by rw[I.ok.kind];rfl
 have hiσ:i<σ.length:=by rw[I.len];exact(ay.mp hi).1
 have cne:=I.cne;have tracked:∀{a:Addr} {h':Heap},(∃o,s.heap.get? a=some o/\H a=none)->Heap.SameBut a s.heap h'->HC X.prog X.w H h':=λ{a h'} ha hs b ob e=>by
  obtain⟨_,_,hfree⟩:=ha;refine(I.hok b ob e).stay (λc w' hc q=>(hs.2 c ?_).trans q) (λ_ q=>q) λ_ _ q=>q
  rintro rfl
  rcases hc with rfl|hc
  ·rw[hfree] at e;cases e
  ·rw[hfree] at hc;cases hc
 rcases hx with hk|hk
 ·refine wpAny_storeName_local hk hn (λh' hn' hs=>?_) hcls;obtain⟨oL,_,_,hoL,_⟩:=id hn;refine h _ ⟨I.ok,I.os,I.bare,⟨λb o e n hb hx=>?_,λb o e n hb hx=>?_,I.base.free,λb o e hx=>?_,I.base.tups,I.base.frzs,I.base.tbls⟩,⟨_,hn',λj y v' e1 e2 e3=>?_⟩,λy c e=>?_,I.free,I.freeC,λp hp=>?_,tracked ⟨oL,hoL,I.free⟩ hs,by simpa using I.len⟩ ⟨_,hs,.inl rfl⟩
  ·exact(hs.2 b (aR (aN (aF e) I.ok.above))).trans (I.base.keep b o e n hb hx)
  ·obtain⟨sl,e1⟩:=I.base.slot b o e n hb hx;exact⟨sl,(hs.2 b (aR (aN (aF e) I.ok.above))).trans e1⟩
  ·obtain⟨o',e1⟩:=I.base.there b o e hx;exact⟨o',(hs.2 b (aR (aN (aF e) I.ok.above))).trans e1⟩
  ·by_cases hj:j=i
   ·subst hj;rw[hi] at e1;cases e1;rw[gj hiσ] at e2;cases e2;exact⟨u,r,.inl ⟨hk,by simp⟩⟩
   ·rw[gG (Ne.symm hj)] at e2;obtain⟨u',r',q⟩:=hl j y v' e1 e2 e3;refine⟨u',r',?_⟩;rcases q with⟨k,e⟩|⟨k,c,e,z⟩
    ·refine .inl ⟨k,?_⟩;have:y≠x:=λe=>hj (Oi hN e1 (e▸hi))
     simp[this,e]
    ·exact .inr ⟨k,c,e,z.sameBut hs (cne y c e)⟩
  ·obtain⟨w',z⟩:=I.cell y c e;exact⟨w',z.sameBut hs (cne y c e)⟩
  ·obtain⟨e,n,ne,nf,d⟩:=I.pin p hp;exact⟨(hs.2 p.1 ne).trans e,n,ne,nf,d⟩
 ·have hfn:X.fn x=true:=by
   rcases hf with z|z
   ·exact z
   ·rw[z] at hk;cases hk
  obtain⟨c,hc⟩:=I.ok.has x (.inl hk);obtain⟨w',z⟩:=I.cell x c hc;refine wpAny_storeName_cell I.ok.kind hk hc z (λh' hc' hs=>?_);obtain⟨oc,hoc,hocd⟩:=id z;refine h { s with heap:=h' } ⟨I.ok,I.os,I.bare,⟨λb o e n hb hx=>?_,λb o e n hb hx=>?_,I.base.free,λb o e hx=>?_,I.base.tups,I.base.frzs,I.base.tbls⟩,⟨m,hn.sameBut hs (Ne.symm (cne x c hc)),λj y v' e1 e2 e3=>?_⟩,λy c' e=>?_,I.free,I.freeC,λp hp=>?_,tracked ⟨oc,hoc,I.freeC x c hc⟩ hs,by simpa using I.len⟩ ⟨c,hs,.inr hc⟩
  ·exact(hs.2 b (aR (aN (aF e) (I.ok.cab x c hfn hc)))).trans (I.base.keep b o e n hb hx)
  ·obtain⟨sl,e1⟩:=I.base.slot b o e n hb hx;exact⟨sl,(hs.2 b (aR (aN (aF e) (I.ok.cab x c hfn hc)))).trans e1⟩
  ·obtain⟨o',e1⟩:=I.base.there b o e hx;exact⟨o',(hs.2 b (aR (aN (aF e) (I.ok.cab x c hfn hc)))).trans e1⟩
  ·by_cases hj:j=i
   ·subst hj;rw[hi] at e1;cases e1;rw[gj hiσ] at e2;cases e2;exact⟨u,r,.inr ⟨.inl hk,c,hc,hc'⟩⟩
   ·rw[gG (Ne.symm hj)] at e2;obtain⟨u',r',q⟩:=hl j y v' e1 e2 e3;refine⟨u',r',?_⟩;rcases q with q|⟨k,c',e,z'⟩
    ·exact .inl q
    ·refine .inr ⟨k,c',e,z'.sameBut hs ?_⟩
     rintro rfl
     exact hj (Oi hN e1 (I.ok.inj _ _ _ e hc▸hi))
  ·by_cases hcc:c'=c
   ·subst hcc;exact⟨_,hc'⟩
   ·obtain⟨w2,z2⟩:=I.cell y c' e;exact⟨w2,z2.sameBut hs hcc⟩
  ·obtain⟨e,n,ne,nf,d⟩:=I.pin p hp;refine⟨(hs.2 p.1 ?_).trans e,n,ne,nf,d⟩;intro q;rw[q,hoc] at e;have q':oc=p.2:=aA e;exact d w' (by rw[<-q'];exact hocd)
theorem GV {M:Model} {A:Around} {E:Value->Shared->Prop} {i:Nat} {x:Str} {v:V} {u:Value} {Q:Unit->Shared->Prop} (I:Inv X pins σ H s) (hN:X.N.Nodup) (hi:X.N[i]?=some x) (hx:Loc X.env.scope x) (r:RelV v u)
  (h:∀s',Inv X pins (σ.set i (some v)) H s'->Q () s') (hf:X.fn x=true\/X.env.scope.names.lookup x=some .local:=by first|exact .inl rfl|exact .inr rfl|assumption):wpAny M A (storeName X.env x u) Q E s:=
 QY I hN hi hx r (λs' I' _=>h s' I') hf
theorem Inv.call' {s':Shared} {ch:List Addr} (I:Inv X pins σ H s) (ho:s'.os=s.os) (u:Un (MJ X.stack) ch H H' s.heap s'.heap) (hok:HC X.prog X.w H' s'.heap) (hg:AllBare s'.gens)
  (hch:∀b∈ch,(b∈X.ex\/X.s₀.heap.objs.size<=b)/\b≠X.env.locals/\(∀x c,X.env.cells.lookup x=some c->c≠b)/\∀p∈X.pn++pins,p.1≠b):Inv X pins σ H' s':=by
 obtain⟨h',g',d',t',o'⟩:=s';have e:o'=s.os:=ho;subst e;exact I.call (g':=g') (t':=t') (d':=d') u hok hg hch
end
abbrev XK:=Value->Option Addr->Hp->Prop
abbrev St:=List (Option V)
abbrev VK:=V->Hp->Prop
abbrev TE:=St->Hp->VK->Prop
abbrev TT:=St->Hp->(Bool->Hp->Prop)->Prop
abbrev TA:=St->Hp->(List V->Hp->Prop)->Prop
structure Ends where
 nx:St->Hp->Prop
 rt:VK
 bk:St->Hp->Prop:=λ_ _=>False
 ct:St->Hp->Prop:=λ_ _=>False
abbrev TS:=Ends->St->Hp->Prop
def EP (X:Cx)(pins:List (Addr×Obj))(σ:St)(Q:VK)(u:Value)(s':Shared):Prop:=∃v H',Inv X pins σ H' s'/\RelV v u/\Q v H'
def TP (X:Cx)(pins:List (Addr×Obj))(σ:St)(Q:Bool->Hp->Prop)(b:Bool)(s':Shared):Prop:=∃H',Inv X pins σ H' s'/\Q b H'
def AP (X:Cx)(pins:List (Addr×Obj))(σ:St)(Q:List V->Hp->Prop)(us:List Value)(s':Shared):Prop:=∃vs H',Inv X pins σ H' s'/\AG vs us/\Q vs H'
def SP (X:Cx)(pins:List (Addr×Obj))(D:Ends)(f:Flow)(s':Shared):Prop:=
 match f with
 | .next=>∃σ' H',Inv X pins σ' H' s'/\D.nx σ' H'
 | .brk=>∃σ' H',Inv X pins σ' H' s'/\D.bk σ' H'
 | .cont=>∃σ' H',Inv X pins σ' H' s'/\D.ct σ' H'
 | .ret u=>∃v σ' H',Inv X pins σ' H' s'/\RelV v u/\D.rt v H'
def PE (X:Cx)(e:Expr)(t:TE):Prop:=
 ∀(pins:List (Addr×Obj)) (s:Shared) (σ:St) (H:Hp) (Q:VK),Inv X pins σ H s->t σ H Q->wpAny (model X.prog X.w) X.A (eval e X.env) (EP X pins σ Q) X.xe s
def PT (X:Cx)(e:Expr)(t:TT):Prop:=
 ∀(pins:List (Addr×Obj)) (s:Shared) (σ:St) (H:Hp) (Q:Bool->Hp->Prop),Inv X pins σ H s->t σ H Q->wpAny (model X.prog X.w) X.A (isTrue e X.env (eval e X.env)) (TP X pins σ Q) X.xe s
def PW (X:Cx)(e:Expr)(t:TT):Prop:=
 ∀(whole:Sem Value) (pins:List (Addr×Obj)) (s:Shared) (σ:St) (H:Hp) (Q:Bool->Hp->Prop),Inv X pins σ H s->t σ H Q->wpAny (model X.prog X.w) X.A (isTrue e X.env whole) (TP X pins σ Q) X.xe s
theorem PW.pt {X:Cx}{e:Expr}{t:TT}(h:PW X e t):PT X e t:=h _
def PA (X:Cx)(es:List Expr)(t:TA):Prop:=
 ∀(pos:Pos) (pins:List (Addr×Obj)) (s:Shared) (σ:St) (H:Hp) (Q:List V->Hp->Prop),Inv X pins σ H s->t σ H Q->wpAny (model X.prog X.w) X.A (spliced (backTo pos (starEach es X.env))) (AP X pins σ Q) X.xe s
def PS (X:Cx)(st:Stmt)(t:TS):Prop:=
 ∀(pins:List (Addr×Obj)) (s:Shared) (σ:St) (H:Hp) (D:Ends),Inv X pins σ H s->t D σ H->wpAny (model X.prog X.w) X.A (exec st X.env) (SP X pins D) X.xe s
def NN (X:Cx)(st:List Stmt)(t:TS):Prop:=
 ∀(pins:List (Addr×Obj)) (s:Shared) (σ:St) (H:Hp) (D:Ends),Inv X pins σ H s->t D σ H->wpAny (model X.prog X.w) X.A (execs st X.env) (SP X pins D) X.xe s
theorem Bc {α:Type}{t:Sem α}{Q Q':α->Shared->Prop}{M:Model}{A:Around}{E:Value->Shared->Prop}{s:Shared}(h:wpAny M A t Q E s)(hQ:∀a s,Q a s->Q' a s):wpAny M A t Q' E s:=bB h hQ λ_ _ x=>x
section
variable {X:Cx}
theorem bin {a b:Expr} {ta tb:TE} (ha:PE X a ta) (hb:PE X b tb) {pins:List (Addr×Obj)} {s:Shared} {σ:St} {H:Hp} {R:V->V->Hp->Prop} (I:Inv X pins σ H s) (h:ta σ H λx H1=>tb σ H1 λy H2=>R x y H2)
  {α:Type} {Q:α->Shared->Prop} {f:Value->Value->Sem α}
  (hf:∀v u s2 x y H2,Inv X pins σ H2 s2->RelV x v->RelV y u->R x y H2->wpAny (model X.prog X.w) X.A (f v u) Q X.xe s2) :
  wpAny (model X.prog X.w) X.A (eval a X.env) (λv s₁=>wpAny (model X.prog X.w) X.A (eval b X.env) (λu s₂=>wpAny (model X.prog X.w) X.A (f v u) Q X.xe s₂) X.xe s₁) X.xe s:=by
 refine Bc (ha pins s σ H _ I h) λv s1 ⟨x,H1,I1,r1,q1⟩=>?_
 refine Bc (hb pins s1 σ H1 _ I1 q1) λu s2 ⟨y,H2,I2,r2,q2⟩=>?_
 exact hf v u s2 x y H2 I2 r1 r2 q2
def T9 (i:Nat):TE:=λσ H Q=>∃v,σ[i]?=some (some v)/\Q v H
def tC (v:V):TE:=λ_ H Q=>Q v H
theorem V6 {i:Nat}{x:Str}{pos:Pos}(hN:X.N[i]?=some x)(hv:XB X.env.scope x)(hd:(x == ("__debug__":Str))=false:=by decide)(hcd:(x == ("__classdict__":Str))=false:=by decide):PE X (.Name x pos) (T9 i):=by
 intro pins s σ H Q I h;obtain⟨v,e,h⟩:=h;obtain⟨m,hn,hl⟩:=I.loc;obtain⟨u,r,l⟩:=hl i x v hN e hv;have fin:EP X pins σ Q u s:=⟨v,H,I,r,h⟩
 rcases l with⟨hk,hm⟩|⟨hk,c,hc,hcell⟩
 ·exact gB (wpAny_loadName_local I.ok.kind hk hn hm fin) hd
 ·rcases hk with hk|hk
  ·exact gB (wpAny_loadName_cell I.ok.kind hk hc hcell fin) hd
  ·exact gB (wpAny_loadName_free I.ok.kind hk hc hcell fin hcd) hd
theorem Ae {i j pos}:PE X (.Constant (.int i) j pos) (tC (.int i)):=λ_ _ _ H _ I h=>fG ⟨.int i,H,I.tok _,⟨_,rfl⟩,h⟩
theorem Hy {b j pos}:PE X (.Constant (.bool b) j pos) (tC (.bl b)):=λ_ _ _ H _ I h=>Constant_bool ⟨.bl b,H,I,rfl,h⟩
theorem TC {j pos}:PE X (.Constant .none j pos) (tC .non):=λ_ _ _ H _ I h=>Constant_none ⟨.non,H,I,rfl,h⟩
theorem Jn {x j pos}:PE X (.Constant (.str x) j pos) (tC (.str x)):=λ_ _ _ H _ I h=>Calls.Constant_str ⟨.str x,H,I.tok _,⟨_,rfl⟩,h⟩
def Gl (X:Cx)(x:Str):Prop:=X.env.kindOf x=some .globalImplicit
theorem Kj {E:Value->Shared->Prop} {pins:List (Addr×Obj)} {s:Shared} {σ:St} {H:Hp} {x:Str} {u:Value} {pos:Pos} {Q:Value->Shared->Prop} (I:Inv X pins σ H s) (hg:Gl X x) (hm:X.mg x=some u) (h:Q u s)
  (hd:(x == ("__debug__":Str))=false:=by decide):wpAny (model X.prog X.w) X.A (eval (.Name x pos) X.env) Q E s:=
 gJ I.ok.kind hg (Calls.loadGlobal_global (by rw[I.ok.glob];exact I.mod.glob.keeps I.bk) hm h) hd
theorem Jt {E:Value->Shared->Prop} {pins:List (Addr×Obj)} {s:Shared} {σ:St} {H:Hp} {x:Str} {u:Value} {pos:Pos} {Q:Value->Shared->Prop} (I:Inv X pins σ H s) (hg:Gl X x) (hm:X.mg x=none) (hv:bootBuiltins x=some u) (h:Q u s)
  (hn:x≠"__name__":=by decide) (hd:(x == ("__debug__":Str))=false:=by decide):wpAny (model X.prog X.w) X.A (eval (.Name x pos) X.env) Q E s:=by
 obtain⟨mb,h1,h2⟩:=I.mod.blt;exact gJ I.ok.kind hg (Calls.loadGlobal_builtin (by rw[I.ok.glob];exact I.mod.glob.keeps I.bk) hm (by rw[I.ok.blt];exact h1.keeps I.bk) ((h2 x hn).trans hv) h) hd
theorem PQ {x:Str}{v:V}{u:Value}{pos:Pos}(hg:Gl X x)(hm:X.mg x=some u)(r:RelV v u)(hd:(x == ("__debug__":Str))=false:=by decide):PE X (.Name x pos) (tC v):=
 λ_ _ _ H _ I h=>Kj I hg hm ⟨v,H,I,r,h⟩ hd
theorem UN {x:Str}{v:V}{u:Value}{pos:Pos}(hg:Gl X x)(hm:X.mg x=none)(hv:bootBuiltins x=some u)(r:RelV v u)(hn:x≠"__name__":=by decide)(hd:(x == ("__debug__":Str))=false:=by decide):PE X (.Name x pos) (tC v):=
 λ_ _ _ H _ I h=>Jt I hg hm hv ⟨v,H,I,r,h⟩ hn hd
variable {a b:Expr}{ta tb:TE}{pos:Pos}
def PC (X:Cx)(op:CmpOp)(a b:Expr)(t:TE):Prop:=
 ∀(pins:List (Addr×Obj)) (s:Shared) (σ:St) (H:Hp) (Q:VK),Inv X pins σ H s->t σ H Q->
  wpAny (model X.prog X.w) X.A (eval a X.env) (λv s₁=>wpAny (model X.prog X.w) X.A (eval b X.env) (λu s₂=>wpAny (model X.prog X.w) X.A (compareOp op v u) (EP X pins σ Q) X.xe s₂) X.xe s₁) X.xe s
theorem D7 (b:Expr){op:CmpOp}(h:op≠.In)(h2:op≠.NotIn):behindInMarks op b=false:=by
 have e1:(op == CmpOp.In)=false:=by cases op<;>first|rfl|exact absurd rfl h
 have e2:(op == CmpOp.NotIn)=false:=by cases op<;>first|rfl|exact absurd rfl h2
 cases b<;>simp[behindInMarks,e1,e2]
def Xi (ta:TE):TE:=λσ H Q=>ta σ H λx H1=>Q (.bl (!decide (x=.non))) H1
theorem RelV.none_iff {x:V}{v:Value}(r:RelV x v):(v == Value.none)=decide (x=.non):=by
 cases x with
 |non=>cases r;rfl
 |bl _=>cases r;rfl
 |int _=>obtain⟨t,rfl⟩:=r;rfl
 |str _=>obtain⟨t,rfl⟩:=r;rfl
 |byt _=>obtain⟨t,rfl⟩:=r;rfl
 |flt _=>obtain⟨t,rfl⟩:=r;rfl
 |ref _=>cases r;rfl
 |ty _=>cases r;rfl
theorem UJ {j pos'}(ha:PE X a ta):PC X .IsNot a (.Constant .none j pos') (Xi ta):=by
 intro pins s σ H Q I h;refine Bc (ha pins s σ H _ I h) λv s1 ⟨x,H1,I1,r1,q1⟩=>?_
 exact Constant_none (isnot_none_gen ⟨.bl _,H1,I1,by rw[r1.none_iff];rfl,q1⟩)
def tB (t:TE):TT:=λσ H Q=>t σ H λx H1=>∃c,x=.bl c/\Q c H1
theorem HY {op:CmpOp}{t:TE}(h:PC X op a b t)(h1:behindInMarks op b=false:=by first|exact D7 _ (by decide) (by decide)|rfl):PT X (.Compare a [op] [b] pos) (tB t):=by
 intro pins s σ H Q I hw;refine wpAny_isTrue_Compare1 (Bc (h pins s σ H _ I hw) λv s1 h1=>Bc h1 λu s2 h2=>Bc h2 λc s3 ⟨x,H1,I1,r1,q1⟩=>?_) h1;obtain⟨d,rfl,q⟩:=q1;cases r1;exact cb ⟨H1,I1,q⟩
theorem Da {e:Expr}{t:TE}(h:PE X e t)(he:∀whole,isTrue e X.env whole=(do let v <-whole;standAt e.pos;holding [v] (truthy v)):=by intro _;rfl):PT X e (tB t):=by
 intro pins s σ H Q I hw;refine isTrue_plain (Bc (h pins s σ H _ I hw) λv s1 ⟨x,H1,I1,r1,q1⟩=>?_) (he _);obtain⟨d,rfl,q⟩:=q1;cases r1;exact cb ⟨H1,I1,q⟩
variable {tA tB':TT}{rest:List Expr}
def WT (t u:TT):TT:=λσ H Q=>t σ H λc H1=>if c=true then u σ H1 Q else Q false H1
def Yi (t u:TT):TT:=λσ H Q=>t σ H λc H1=>if c=true then Q true H1 else u σ H1 Q
def X7 (t:TT):TT:=λσ H Q=>t σ H λc H1=>Q (!c) H1
theorem II (ha:PT X a tA):PW X (.BoolOp .And [a] pos) tA:=by
 intro wh pins s σ H Q I h;refine isTrue_and (Bc (ha pins s σ H Q I h) λc s1 e=>?_);cases c with
 |true=>exact isTrue_and_nil e
 |false=>exact e
theorem GK (ha:PT X a tA):PW X (.BoolOp .Or [a] pos) tA:=by
 intro wh pins s σ H Q I h;refine isTrue_or (Bc (ha pins s σ H Q I h) λc s1 e=>?_);cases c with
 |false=>exact isTrue_or_nil e
 |true=>exact e
theorem JD (ha:PT X a tA)(hb:PW X (.BoolOp .And (b::rest) pos) tB'):PW X (.BoolOp .And (a::b::rest) pos) (WT tA tB'):=by
 intro wh pins s σ H Q I h;refine isTrue_and (Bc (ha pins s σ H _ I h) λc s1 ⟨H1,I1,q1⟩=>?_);cases c with
 |true=>exact hb wh pins s1 σ H1 Q I1 q1
 |false=>exact⟨H1,I1,q1⟩
theorem GS (ha:PT X a tA)(hb:PW X (.BoolOp .Or (b::rest) pos) tB'):PW X (.BoolOp .Or (a::b::rest) pos) (Yi tA tB'):=by
 intro wh pins s σ H Q I h;refine isTrue_or (Bc (ha pins s σ H _ I h) λc s1 ⟨H1,I1,q1⟩=>?_);cases c with
 |true=>exact⟨H1,I1,q1⟩
 |false=>exact hb wh pins s1 σ H1 Q I1 q1
theorem EO (ha:PT X a tA):PT X (.UnaryOp .Not a pos) (X7 tA):=by
 intro pins s σ H Q I h;exact isTrue_not (ha pins s σ H (λc H1=>Q (!c) H1) I h)
def Vv (ta tb:TE):TE:=λσ H Q=>ta σ H λx H1=>∃c,x=.bl c/\if c=true then tb σ H1 Q else Q (.bl false) H1
def Xo (ta:TE):TE:=λσ H Q=>ta σ H λx H1=>∃c,x=.bl c/\Q (.bl (!c)) H1
theorem KS {op}{t:TE}(h:PE X a t):PE X (.BoolOp op [a] pos) t:=λpins s σ H Q I hw=>BoolOp_one (h pins s σ H Q I hw)
theorem K1 (ha:PE X a ta)(hb:PE X (.BoolOp .And (b::rest) pos) tb):PE X (.BoolOp .And (a::b::rest) pos) (Vv ta tb):=by
 intro pins s σ H Q I h;refine BoolOp_and (Bc (ha pins s σ H _ I h) λv s1 ⟨x,H1,I1,r1,q1⟩=>?_);obtain⟨c,rfl,q1⟩:=q1;cases r1;refine cb ?_;cases c with
 |true=>exact hb pins s1 σ H1 Q I1 q1
 |false=>exact⟨.bl false,H1,I1,rfl,q1⟩
theorem SY (ha:PE X a ta):PE X (.UnaryOp .Not a pos) (Xo ta):=by
 intro pins s σ H Q I h;refine UnaryOp_ (Bc (ha pins s σ H _ I h) λv s1 ⟨x,H1,I1,r1,q1⟩=>?_);obtain⟨c,rfl,q1⟩:=q1;cases r1;exact not_of (cb ⟨.bl (!c),H1,I1,rfl,q1⟩)
def Ys (t:TT)(ta tb:TE):TE:=λσ H Q=>t σ H λc H1=>if c=true then ta σ H1 Q else tb σ H1 Q
theorem Ov {c:Expr}(hc:PT X c tA)(ha:PE X a ta)(hb:PE X b tb):PE X (.IfExp c a b pos) (Ys tA ta tb):=by
 intro pins s σ H Q I h;refine wpAny_IfExp (Bc (hc pins s σ H _ I h) λd s1 ⟨H1,I1,q1⟩=>?_);cases d with
 |true=>exact ha pins s1 σ H1 Q I1 q1
 |false=>exact hb pins s1 σ H1 Q I1 q1
end
def AD (K:PySem.W.Frag)(H:Hp)(a:Addr)(xs:List V):Prop:=
 Rd H a (.lst xs)\/
  ∃(o:Obj) (its:Array Value) (n:Nat),K.lookup a=some o/\o.cls=.type "list"/\o.dict=none/\o.data=.seq its n/\its.size<=sizeLine/\AG xs its.toList
def AL (K:PySem.W.Frag)(H:Hp)(a:Addr)(xs:List V):Prop:=
 Rd H a (.tup xs)\/
  ∃(o:Obj) (its:Array Value) (n:Nat),K.lookup a=some o/\o.cls=.type "tuple"/\o.data=.seq its n/\its.size<=sizeLine/\AG xs its.toList
def X2:Value->Option V
 | .none=>some .non
 | .bool b=>some (.bl b)
 | .int i _=>some (.int i)
 | .str x _=>some (.str x)
 | .bytes b _=>some (.byt b)
 | .float b _=>some (.flt b)
 | .ref a=>some (.ref a)
 | .type n=>some (.ty n)
 |_=>none
theorem RelV.abs {x:V}{u:Value}(r:RelV x u):X2 u=some x:=by
 cases x with
 |non=>cases r;rfl
 |bl _=>cases r;rfl
 |int _=>obtain⟨t,rfl⟩:=r;rfl
 |str _=>obtain⟨t,rfl⟩:=r;rfl
 |byt _=>obtain⟨t,rfl⟩:=r;rfl
 |flt _=>obtain⟨t,rfl⟩:=r;rfl
 |ref _=>cases r;rfl
 |ty _=>cases r;rfl
theorem RelV.inj {x y:V}{u:Value}(r:RelV x u)(q:RelV y u):x=y:=aA (r.abs.symm.trans q.abs)
theorem AG.inj:∀{xs ys:List V} {us:List Value},AG xs us->AG ys us->xs=ys
 |_,_,_,.nil,.nil=>rfl
 |_,_,_,.cons r t,.cons r' t'=>by rw[r.inj r',AG.inj t t']
section
variable {X:Cx}{pins:List (Addr×Obj)}{σ:St}{H:Hp}{s:Shared}{a:Addr}{xs ys:List V}
theorem AD.of {K:PySem.W.Frag}(h:H a=some (.lst xs)):AD K H a xs:=.inl (.inl h)
theorem AL.of {K:PySem.W.Frag}(h:H a=some (.tup xs)):AL K H a xs:=.inl (.inl h)
theorem Inv.list (I:Inv X pins σ H s)(h:AD X.K H a xs):∃its:List Value,AG xs its/\PlainL s.heap a its.toArray/\xs.length<=sizeLine:=by
 rcases h with h|⟨o,its,n,hk,hc,hd,hs,hz,r⟩
 ·obtain⟨z,its,n,r,e⟩:=h.ok I.hok;exact⟨its,r,⟨_,n,e,rfl,rfl,rfl⟩,z⟩
 ·refine⟨its.toList,r,⟨o,n,I.kIn a o hk,hc,hd,by simpa using hs⟩,?_⟩;have e:=r.length;simp only[Array.length_toList] at e;omega
theorem Inv.tuple (I:Inv X pins σ H s)(h:AL X.K H a xs):∃its:List Value,AG xs its/\IsTup s.heap a its.toArray/\xs.length<=sizeLine:=by
 rcases h with h|⟨o,its,n,hk,hc,hs,hz,r⟩
 ·obtain⟨z,its,r,p⟩:=h.ok I.hok;exact⟨its,r,p.is,z⟩
 ·refine⟨its.toList,r,⟨o,I.kIn a o hk,hc,n,by simpa using hs⟩,?_⟩;have e:=r.length;simp only[Array.length_toList] at e;omega
theorem Inv.list_inj (I:Inv X pins σ H s)(h:AD X.K H a xs)(h':AD X.K H a ys):xs=ys:=by
 obtain⟨its,r,⟨o,n,e,_,_,d⟩,_⟩:=I.list h;obtain⟨its',r',⟨o',n',e',_,_,d'⟩,_⟩:=I.list h';rw[e] at e';cases e';rw[d] at d';injection d' with d1 _
 have:its=its':=by simpa using congrArg Array.toList d1
 subst this;exact r.inj r'
theorem Inv.tuple_inj (I:Inv X pins σ H s)(h:AL X.K H a xs)(h':AL X.K H a ys):xs=ys:=by
 obtain⟨its,r,⟨o,e,_,n,d⟩,_⟩:=I.tuple h;obtain⟨its',r',⟨o',e',_,n',d'⟩,_⟩:=I.tuple h';rw[e] at e';cases e';rw[d] at d';injection d' with d1 _
 have:its=its':=by simpa using congrArg Array.toList d1
 subst this;exact r.inj r'
end
abbrev Cx.wish (X:Cx)(E:Value->Shared->Prop):Cx:={ X with xe:=E }
abbrev Cx.nox (X:Cx):Cx:=X.wish λ_ _=>False
theorem Cx.Ok.wish {X:Cx}(ok:X.Ok)(E:Value->Shared->Prop):(X.wish E).Ok:=
 ⟨ok.mod,ok.kind,ok.glob,ok.blt,ok.above,ok.inj,ok.has,ok.cab,ok.hd,ok.frames,ok.stk,ok.exf,ok.bs,ok.bsz,ok.noex,ok.exfs,ok.funs,ok.frf⟩
theorem Cx.Ok.unwish {X:Cx}{E:Value->Shared->Prop}(ok:(X.wish E).Ok):X.Ok:=
 ⟨ok.mod,ok.kind,ok.glob,ok.blt,ok.above,ok.inj,ok.has,ok.cab,ok.hd,ok.frames,ok.stk,ok.exf,ok.bs,ok.bsz,ok.noex,ok.exfs,ok.funs,ok.frf⟩
section
variable {X:Cx}{pins:List (Addr×Obj)}{σ:St}{H:Hp}{s:Shared}{E:Value->Shared->Prop}
theorem Inv.wish (I:Inv X pins σ H s)(E:Value->Shared->Prop):Inv (X.wish E) pins σ H s:=⟨I.ok.wish E,I.os,I.bare,I.base,I.loc,I.cell,I.free,I.freeC,I.pin,I.hok,I.len⟩
theorem Inv.unwish (I:Inv (X.wish E) pins σ H s):Inv X pins σ H s:=⟨I.ok.unwish,I.os,I.bare,I.base,I.loc,I.cell,I.free,I.freeC,I.pin,I.hok,I.len⟩
theorem SP.unwish {D:Ends}{f:Flow}{s':Shared}(h:SP (X.wish E) pins D f s'):SP X pins D f s':=by
 cases f with
 |next=>obtain⟨σ',H',I,q⟩:=h;exact⟨σ',H',I.unwish,q⟩
 |brk=>obtain⟨σ',H',I,q⟩:=h;exact⟨σ',H',I.unwish,q⟩
 |cont=>obtain⟨σ',H',I,q⟩:=h;exact⟨σ',H',I.unwish,q⟩
 |ret u=>obtain⟨v,σ',H',I,r,q⟩:=h;exact⟨v,σ',H',I.unwish,r,q⟩
theorem NN.nox {st:List Stmt}{t:TS}(h:NN X.nox st t):NN X st t:=λpins s σ H D I hw=>
 bB (h pins s σ H D (I.wish _) hw) (λ_ _ q=>q.unwish) λ_ _ z=>False.elim z
end
section
variable {X:Cx}{st:Stmt}{rest:List Stmt}{t u:TS}{e:Expr}{te:TE}{pos:Pos}
def N9:TS:=λD σ H=>D.nx σ H
def Uk (t u:TS):TS:=λD σ H=>t { D with nx:=u D } σ H
theorem AV:NN X [] N9:=λ_ _ σ H _ I h=>dU ⟨σ,H,I,h⟩
theorem Ag (h1:PS X st t)(h2:NN X rest u):NN X (st::rest) (Uk t u):=by
 intro pins s σ H D I h;refine fU (Bc (h1 pins s σ H { D with nx:=u D } I h) λf s1 q=>?_);cases f with
 |next=>
  obtain⟨σ',H',I',q⟩:=q;exact h2 pins s1 σ' H' D I' q
 |ret v=>exact q
 |brk=>exact q
 |cont=>exact q
theorem Al (h1:PS X st t):NN X [st] t:=by
 intro pins s σ H D I h;refine fU (Bc (h1 pins s σ H D I h) λf s1 q=>?_);cases f with
 |next=>exact dU q
 |ret v=>exact q
 |brk=>exact q
 |cont=>exact q
theorem Inv.quiet {pins:List (Addr×Obj)}{σ:St}{H:Hp}{s:Shared}(I:Inv X pins σ H s):interactive X.env=false:=by simp[interactive,I.ok.kind]
def Vs (te:TE):TS:=λD σ H=>te σ H λ_ H1=>D.nx σ H1
theorem Bl (he:PE X e te)(hs:swapsWith e none pos.line X.env=pure false:=by rfl):PS X (.Expr e pos) (Vs te):=by
 intro pins s σ H D I h;exact wpAny_Expr_any (Bc (he pins s σ H _ I h) λv s1 ⟨x,H1,I1,r1,q1⟩=>⟨σ,H1,I1,q1⟩) I.quiet hs
def WX (te:TE):TS:=λD σ H=>te σ H D.rt
theorem Av (he:PE X e te):PS X (.Return (some e) pos) (WX te):=by
 intro pins s σ H D I h;exact wpAny_Return_some (Bc (he pins s σ H _ I h) λv s1 ⟨x,H1,I1,r1,q1⟩=>⟨x,σ,H1,I1,r1,q1⟩)
def Uo (c:TT)(t u:TS):TS:=λD σ H=>c σ H λb H1=>if b=true then t D σ H1 else u D σ H1
theorem BH {c:Expr}{a b:List Stmt}{tc:TT}(hc:PT X c tc)(ha:NN X a t)(hb:NN X b u):PS X (.If c a b pos) (Uo tc t u):=by
 intro pins s σ H D I h;refine wpAny_If (Bc (hc pins s σ H _ I h) λd s1 ⟨H1,I1,q1⟩=>?_);cases d with
 |true=>exact ha pins s1 σ H1 D I1 q1
 |false=>exact hb pins s1 σ H1 D I1 q1
def V1:TS:=λ_ _ _=>False
theorem IC:PS X st V1:=λ_ _ _ _ _ _ h=>h.elim
end
abbrev TG:=V->St->Hp->(St->Hp->Prop)->Prop
abbrev Vo:=List V->St->Hp->(St->Hp->Prop)->Prop
def PG (X:Cx)(target:Expr)(t:TG):Prop:=
 ∀(pins:List (Addr×Obj)) (s:Shared) (σ:St) (H:Hp) (v:V) (u:Value) (Q:St->Hp->Prop),Inv X pins σ H s->RelV v u->t v σ H Q->
  wpAny (model X.prog X.w) X.A (assign target X.env u) (λ_ s'=>∃σ' H',Inv X pins σ' H' s'/\Q σ' H') X.xe s
def WU (X:Cx)(ts:List Expr)(t:Vo):Prop:=
 ∀(pins:List (Addr×Obj)) (s:Shared) (σ:St) (H:Hp) (vs:List V) (us:List Value) (Q:St->Hp->Prop),Inv X pins σ H s->AG vs us->t vs σ H Q->
  wpAny (model X.prog X.w) X.A (assignInOrder ((assignEach ts X.env).map (·.2)) us) (λ_ s'=>∃σ' H',Inv X pins σ' H' s'/\Q σ' H') X.xe s
abbrev VJ:=V->V->V->Hp->(Hp->Prop)->Prop
def WQ (X:Cx)(t:VJ):Prop:=
 ∀(pins:List (Addr×Obj)) (s:Shared) (σ:St) (H:Hp) (o i v:V) (ov iv u:Value) (Q:Hp->Prop),Inv X pins σ H s->RelV o ov->RelV i iv->RelV v u->t o i v H Q->
  wpAny (model X.prog X.w) X.A (setItem ov iv u) (λ_ s'=>∃H',Inv X pins σ H' s'/\Q H') X.xe s
section
variable {X:Cx}{pos:Pos}
def Ay (i:Nat):TG:=λv σ H Q=>Q (σ.set i (some v)) H
theorem Ap {i:Nat}{x:Str}(hN:X.N.Nodup)(hi:X.N[i]?=some x)(hx:Loc X.env.scope x)(hf:X.fn x=true\/X.env.scope.names.lookup x=some .local:=by first|exact .inl rfl|exact .inr rfl|assumption):PG X (.Name x pos) (Ay i):=by
 intro pins s σ H v u Q I r h;exact wpAny_assign_Name (GV I hN hi hx r (λs' I'=>⟨_,H,I',h⟩) hf)
def RE:Vo:=λvs σ H Q=>vs=[]/\Q σ H
def G9 (t:TG)(u:Vo):Vo:=λvs σ H Q=>∃v r,vs=v::r/\t v σ H λσ' H'=>u r σ' H' Q
theorem C5:WU X [] RE:=by
 intro pins s σ H vs us Q I r h;obtain⟨e,h⟩:=h;subst e;cases r;exact assignInOrder_nil ⟨σ,H,I,h⟩
theorem AJ {e:Expr} {es:List Expr} {t:TG} {u:Vo} (h1:PG X e t) (h2:WU X es u)
  (hs:(assignEach (e::es) X.env).map (·.2)=assign e X.env::(assignEach es X.env).map (·.2):=by rfl):WU X (e::es) (G9 t u):=by
 intro pins s σ H vs us Q I r h;obtain⟨v,vr,e1,h⟩:=h;subst e1;cases r with
 |cons r rr=>
  rw[hs];refine gq (Bc (h1 pins s σ H _ _ _ I r h) λ_ s1 ⟨σ1,H1,I1,q1⟩=>?_);exact h2 pins s1 σ1 H1 _ _ Q I1 rr q1
def Rn (K:PySem.W.Frag)(n:Nat)(t:Vo):TG:=λv σ H Q=>∃a xs,v=.ref a/\AL K H a xs/\xs.length=n/\t xs σ H Q
theorem Ik {es:List Expr} {k:Nat} {t:Vo} {n:Nat} (hc:X.calm=true) (h:WU X es t)
  (hn:(assignEach es X.env).length=n:=by rfl) (hst:(assignEach es X.env).findIdx? (·.1)=none:=by rfl):PG X (.Tuple es k pos) (Rn X.K n t):=by
 intro pins s σ H v u Q I r hw;obtain⟨a,xs,e1,hq,hl,hw⟩:=hw;subst e1;cases r;obtain⟨its,rv,ht,hz⟩:=I.tuple hq;refine assign_Tuple_tuple (I.ok.hd hc) ht (by simp[hn,<-hl,rv.length]) hst λh' hx=>?_
 have I1:Inv X pins σ H { s with heap:=h' }:=I.kept (t':=s.toks) λb o e=>hx b o (aR (aF e)) e
 exact h pins _ σ H xs _ Q I1 (by simpa using rv) hw
def Yc (to ti:TE)(t:VJ):TG:=λv σ H Q=>to σ H λo H1=>ti σ H1 λi H2=>t o i v H2 λH3=>Q σ H3
theorem VF {o i:Expr} {to ti:TE} {t:VJ} (ho:PE X o to) (hi:PE X i ti) (hs:WQ X t)
  (ha:∀v,assign (.Subscript o i pos) X.env v=(do
   let ov <-holding [v] (eval o X.env)
   let iv <-holding [v,ov] (eval i X.env)
   standAt pos
   holding [v,ov,iv] (setItem ov iv v)
   release [v,ov,iv] []):=by intro _;rfl):PG X (.Subscript o i pos) (Yc to ti t):=by
 intro pins s σ H v u Q I r h;rw[ha];refine ae (bM (Bc (ho pins s σ H _ I h) λov s1 ⟨x,H1,I1,r1,q1⟩=>?_));refine ae (bM (Bc (hi pins s1 σ H1 _ I1 q1) λiv s2 ⟨y,H2,I2,r2,q2⟩=>?_));refine ae (eJ (ae (bM (Bc (hs pins s2 σ H2 x y v ov iv u _ I2 r1 r2 r q2) λ_ s3 ⟨H3,I3,q3⟩=>?_))));exact wpAny_release ⟨σ,H3,I3,q3⟩
def SR (te:TE)(g:TG):TS:=λD σ H=>te σ H λx H1=>g x σ H1 D.nx
theorem OR {tg e:Expr} {te:TE} {g:TG} (he:PE X e te) (hg:PG X tg g) (hs:swapsWithSole [tg] e pos.line X.env=pure false:=by rfl) (hw:swappedStores [tg] e X.env=pure none:=by rfl)
  (h1:(assignEach [tg] X.env).map (·.2)=[assign tg X.env]:=by rfl):PS X (.Assign [tg] e pos) (SR te g):=by
 intro pins s σ H D I h;refine wpAny_Assign_stores (Bc (he pins s σ H _ I h) λv s1 ⟨x,H1,I1,r1,q1⟩=>?_) hs hw;rw[h1];exact Bc (hg pins s1 σ H1 x v _ I1 r1 q1) λ_ s2 q=>q
theorem Au {i:Nat}{x:Str}{e:Expr}{te:TE}{pos':Pos}(hN:X.N.Nodup)(hi:X.N[i]?=some x)(hx:Loc X.env.scope x)(he:PE X e te)(hs:swapsWith e (some (.Name x pos')) pos.line X.env=pure false:=by rfl)(hf:X.fn x=true\/X.env.scope.names.lookup x=some .local:=by first|exact .inl rfl|exact .inr rfl|assumption) :
  PS X (.Assign [.Name x pos'] e pos) (SR te (Ay i)):=by
 intro pins s σ H D I h;refine wpAny_Assign_Name (Bc (he pins s σ H _ I h) λv s1 ⟨y,H1,I1,r1,q1⟩=>?_) hs;exact GV I1 hN hi hx r1 (λs2 I2=>⟨_,H1,I2,q1⟩) hf
def Yf (i j:Nat)(ta:TA):TS:=λD σ H=>ta σ H λvs H1=>∃v w,vs=[v,w]/\D.nx ((σ.set i (some v)).set j (some w)) H1
theorem Wf {i j:Nat} {x y:Str} {a b:Expr} {ta:TA} {px py pt:Pos} {kt k2 pt2} (hc:X.calm=true) (hN:X.N.Nodup) (hi:X.N[i]?=some x) (hj:X.N[j]?=some y) (hij:i≠j)
  (hx:X.env.scope.names.lookup x=some .local) (hy:X.env.scope.names.lookup y=some .local) (ha:PA X [a,b] ta)
  (hw:swappedStores [.Tuple [.Name x px,.Name y py] kt pt] (.Tuple [a,b] k2 pt2) X.env=pure (some [x,y]))
  (hs:swapsWithSole [.Tuple [.Name x px,.Name y py] kt pt] (.Tuple [a,b] k2 pt2) pos.line X.env=pure false:=by rfl) :
  PS X (.Assign [.Tuple [.Name x px,.Name y py] kt pt] (.Tuple [a,b] k2 pt2) pos) (Yf i j ta):=by
 intro pins s σ H D I h;rw[exec_Assign_arm];refine ae (eJ ?_);rw[hs];refine ae (ax ?_);rw[aJ (by decide)];refine ae (Tuple_ (Bc (ha _ pins s σ H _ I h) λus s1 ⟨vs,H1,I1,r1,q1⟩=>?_));obtain⟨v,w,e1,q1⟩:=q1;subst e1;obtain⟨u1,u2,rfl,rv,rw'⟩:∃u1 u2,us=[u1,u2]/\RelV v u1/\RelV w u2:=by
  cases r1 with
  |cons p q=>
   cases q with
   |cons p' q'=>
    cases q';exact⟨_,_,rfl,p,p'⟩
 refine cB ?_ (by show 2<=sizeLine;decide);have I2:Inv X pins σ H1 { s1 with heap:=s1.heap.push { cls:=.type "tuple",data:=.seq [u1,u2].toArray } }:=I1.kept (t':=s1.toks) λb o e=>ah _ e
 rw[hw];refine ae (ax ?_);show wpAny (model X.prog X.w) X.A (do rule "assign.swapped-stores";let items <-unpackItems (.ref s1.heap.objs.size) 2 none;assignInOrder [λv=>bindName X.env y v,λv=>bindName X.env x v] items.reverse;pure Flow.next) _ _ _;refine ae (fF (ae (unpackItems_tuple (items:=#[u1,u2]) (I.ok.hd hc) (IsTup.new s1.heap _) λh' hx'=>?_)));have I3:=I2.kept (h':=h') (t':=s1.toks) λb o e=>hx' b o (aR (aF e)) e
 show wpAny _ _ (assignInOrder [λv=>bindName X.env y v,λv=>bindName X.env x v] [u2,u1] >>= λ_=>pure Flow.next) _ _ _;refine ae (gq (wpAny_bindName (GV I3 hN hj (.inl hy) rw' (λs2 I4=>?_) (.inr hy))));refine gq (wpAny_bindName (GV I4 hN hi (.inl hx) rv (λs3 I5=>assignInOrder_nil (ax ?_)) (.inr hx)));rw[List.set_comm _ _ (Ne.symm hij)] at I5;exact⟨_,H1,I5,q1⟩
end
section
variable {X:Cx}{pos:Pos}
def MI (c:TT)(tb:TS):TS:=λD σ H=>∃W:Nat->St->Hp->Prop,(∃m,W m σ H)/\∀m σ H,W m σ H->
 c σ H λb H1=>if b=true then ∃N:St->Hp->Prop,(∀σ' H',N σ' H'->∃m',m'<m/\W m' σ' H')/\tb { D with nx:=N,ct:=N,bk:=D.nx } σ H1 else D.nx σ H1
theorem G5 {c:Expr}{body:List Stmt}{tc:TT}{tb:TS}(hp:PassesOwn (model X.prog X.w) X.A X.env X.xe)(hc:PT X c tc)(hb:NN X body tb):PS X (.While c body [] pos) (MI tc tb):=by
 intro pins s σ H D I h;obtain⟨W,⟨m0,w0⟩,turn⟩:=h;refine wpAny_While (codeAny_whileLoop (λn s'=>∃σ' H',Inv X pins σ' H' s'/\W n σ' H') ?_ m0 ⟨σ,H,I,w0⟩)
 rintro n s1 ⟨σ1,H1,I1,w1⟩
 refine cP hp (Bc (hc pins s1 σ1 H1 _ I1 (turn n σ1 H1 w1)) λb s2 ⟨H2,I2,q2⟩=>?_);cases b with
 |true=>
  obtain⟨N,hN,q2⟩:=q2;rw[aG rfl];refine cP hp (Bc (hb pins s2 σ1 H2 _ I2 q2) λf s3 q3=>?_);cases f with
  |next=>
   obtain⟨σ3,H3,I3,n3⟩:=q3;obtain⟨m',hm,w3⟩:=hN σ3 H3 n3;exact⟨m',hm,σ3,H3,I3,w3⟩
  |cont=>
   obtain⟨σ3,H3,I3,n3⟩:=q3;obtain⟨m',hm,w3⟩:=hN σ3 H3 n3;exact⟨m',hm,σ3,H3,I3,w3⟩
  |brk=>exact q3
  |ret v=>exact q3
 |false=>
  rw[aJ aB];exact dU ⟨σ1,H2,I2,q2⟩
end
structure It where
 go:Nat->Hp->Prop
 yld:Nat->Hp->V->Hp->Prop
 stop:Nat->Hp->Prop
def Lr (X:Cx)(pins:List (Addr×Obj))(H:Hp)(b:Addr):Prop:=
 H b=none/\b≠X.env.locals/\b∉X.fs/\(b∈X.ex\/X.s₀.heap.objs.size<=b)/\(∀x c,X.env.cells.lookup x=some c->c≠b)/\∀p∈X.pn++pins,p.1≠b
theorem Inv.fpOk {X:Cx}{pins:List (Addr×Obj)}{σ:St}{H H':Hp}{s:Shared}{b:Addr}(I:Inv X pins σ H s)(hb:s.heap.objs.size<=b)(hn:H' b=none):Lr X pins H' b:=by
 refine⟨hn,cJ (aN I.lt hb),I.nofs hb,.inr (bA I.sz hb),λx c e z=>?_,λp hp z=>?_⟩
 ·obtain⟨v,q⟩:=I.cell x c e;exact absurd (aN q.lt (by rw[z];exact hb)) (cT _)
 ·exact absurd (aN (aF (I.pin p hp).1) (by rw[z];exact hb)) (cT _)
structure Turn (P:Program) (w:World) (K:PySem.W.Frag) (tg:Expr) (J:It) (fp:List Addr) (it:Addr) (tn:Nat->Heap->Prop):Prop where
 mem:it∈fp
 obj:∀i h,tn i h->∀b∈fp,∃o,h.get? b=some o/\∀v,o.data≠.cell v
 keep:∀i h h',tn i h->(∀b∈fp,∀o,h.get? b=some o->h'.get? b=some o)->tn i h'
 item:∀(X:Cx),X.prog=P->X.w=w->X.K=K->X.calm=true->∀(i:Nat) (pins:List (Addr×Obj)) (s:Shared) (σ:St) (H:Hp) (E:Value->Shared->Prop),Inv X pins σ H s->(∀b∈fp,Lr X pins H b)->tn i s.heap->J.go i H->
  wpAny (model P w) X.A (pyNext (.ref it)) (λr s1=>∃u,r=some u/\
   wpAny (model P w) X.A (letOwnedTupleGo tg (.ref it) u) (λ_ s2=>∃x H',Inv X pins σ H' s2/\RelV x u/\J.yld i H x H'/\tn (i+1) s2.heap/\∀b∈fp,H' b=none) E s1) E s
 done:∀(X:Cx),X.prog=P->X.w=w->X.K=K->X.calm=true->∀(i:Nat) (pins:List (Addr×Obj)) (s:Shared) (σ:St) (H:Hp) (E:Value->Shared->Prop),Inv X pins σ H s->(∀b∈fp,Lr X pins H b)->tn i s.heap->J.stop i H->
  wpAny (model P w) X.A (pyNext (.ref it)) (λr s1=>r=none/\Inv X pins σ H s1) E s
 self:∀(A:Around) (i:Nat) (s:Shared) (Q:Value->Shared->Prop) (E:Value->Shared->Prop),tn i s.heap->Q (.ref it) s->wpAny (model P w) A (pyIter (.ref it)) Q E s
abbrev TI:=St->Hp->(It->Hp->Prop)->Prop
def Yo (X:Cx)(pins:List (Addr×Obj))(σ:St)(tg:Expr)(R:It->Hp->Prop)(itv:Value)(s2:Shared):Prop:=
 ∃(it:Addr) (fp:List Addr) (tn:Nat->Heap->Prop) (J:It) (H':Hp),itv=.ref it/\Inv X pins σ H' s2/\Turn X.prog X.w X.K tg J fp it tn/\tn 0 s2.heap/\(∀b∈fp,Lr X pins H' b)/\R J H'
def PI (X:Cx)(tg iter:Expr)(wi:TI):Prop:=
 ∀(pins:List (Addr×Obj)) (s:Shared) (σ:St) (H:Hp) (R:It->Hp->Prop),Inv X pins σ H s->wi σ H R->
  wpAny (model X.prog X.w) X.A (eval iter X.env) (λv s1=>wpAny (model X.prog X.w) X.A (pyIter v) (Yo X pins σ tg R) X.xe s1) X.xe s
theorem LH {M:Model} {A:Around} {E:Value->Shared->Prop} {s:Shared} {tg:Expr} {it:Addr} {u:Value} {o:Obj} {n:String} {vs:Array Value} {Q:Unit->Shared->Prop} (ho:s.heap.get? it=some o) (hc:o.cls=.type n) (hd:o.data=.fields vs)
  (hn:["enumerate","zip","dict_itemiterator","dict_reverseitemiterator","odict_iterator","itertools.zip_longest","itertools.pairwise"].contains n=false) (hQ:Q () s):wpAny M A (letOwnedTupleGo tg (.ref it) u) Q E s:=by
 unfold letOwnedTupleGo;cases tg<;>first
  |exact ax hQ
  |(cases u<;>first
    |exact ax hQ
    |(refine ae (gz ho ?_)
      rw[hc,hd];show wpAny M A (if(["enumerate","zip","dict_itemiterator","dict_reverseitemiterator","odict_iterator","itertools.zip_longest","itertools.pairwise"].contains n&&vs[0]? == some (rawInt _))=true then _ else _) Q E s;rw[aJ (by intro h;rw[hn,Bool.false_and] at h;cases h)];exact ax hQ))
def WB (K:PySem.W.Frag)(a:Addr):It:=
 ⟨λi H=>∃xs x,AD K H a xs/\xs[i]?=some x,λi H x H'=>H'=H/\∀xs,AD K H a xs->xs[i]?=some x,λi H=>∃xs,AD K H a xs/\xs.length<=i⟩
def Wy (K:PySem.W.Frag)(a:Addr):It:=
 ⟨λi H=>∃xs x,AL K H a xs/\xs[i]?=some x,λi H x H'=>H'=H/\∀xs,AL K H a xs->xs[i]?=some x,λi H=>∃xs,AL K H a xs/\xs.length<=i⟩
def TY (lo:Int)(n:Nat):It:=⟨λi _=>i<n,λi H x H'=>H'=H/\x=.int (lo+i),λi _=>n<=i⟩
theorem Ry {P:Program}{w:World}{K:PySem.W.Frag}{tg:Expr}(a it:Addr):Turn P w K tg (WB K a) [it] it (λi h=>h.IsListIter it a i) where
 mem:=by simp
 obj:=λi h st b hb=>by
  have e:b=it:=by simpa using hb
  subst e;obtain⟨o,e,c,d⟩:=st;exact⟨o,e,λv z=>by rw[d] at z;cases z⟩
 keep:=λi h h' st k=>st.at λo e=>k it (by simp) o e
 item:=by
  intro X hP hw hK hc i pins s σ H E I hf st hg;subst hP hw hK;obtain⟨xs,x,hq,hx⟩:=hg;obtain⟨its,rv,p,hz⟩:=I.list hq;obtain⟨u,hu,ru⟩:=rv.get hx;obtain⟨f0,f1,f2,f3,f4,f5⟩:=hf it (by simp);refine wpAny_pyNext_list_item st p.isList (x:=u) (by simpa using hu) λh' st' sb=>?_
  have I1:Inv X pins σ H { s with heap:=h' }:=I.turned (t':=s.toks) (λb o hb e=>(sb.2 b hb).trans e) f0 f1 f3 f4 f5;obtain⟨o,e,c,d⟩:=id st';exact⟨u,rfl,LH (s:={ s with heap:=h' }) e c d (by decide) ⟨x,H,I1,ru,⟨rfl,λys hy=>by rw[I.list_inj hy hq];exact hx⟩,st',λb hb=>(hf b hb).1⟩⟩
 done:=by
  intro X hP hw hK hc i pins s σ H E I hf st hg;subst hP hw hK;obtain⟨xs,hq,hx⟩:=hg;obtain⟨its,rv,p,hz⟩:=I.list hq;obtain⟨f0,f1,f2,f3,f4,f5⟩:=hf it (by simp);have hl:=rv.length;exact wpAny_pyNext_list_end (I.ok.hd hc) st p.isList (by simp;omega) λh' eb=>⟨rfl,I.turned (t':=s.toks) (λb o hb e=>eb b o hb e) f0 f1 f3 f4 f5⟩
 self:=λ_ _ _ _ _ st h=>wpAny_pyIter_listiter st h
theorem O4 {P:Program}{w:World}{K:PySem.W.Frag}{tg:Expr}(a it:Addr):Turn P w K tg (Wy K a) [it] it (λi h=>h.IsTupleIter it a i) where
 mem:=by simp
 obj:=λi h st b hb=>by
  have e:b=it:=by simpa using hb
  subst e;obtain⟨o,e,c,d⟩:=st;exact⟨o,e,λv z=>by rw[d] at z;cases z⟩
 keep:=λi h h' st k=>st.at λo e=>k it (by simp) o e
 item:=by
  intro X hP hw hK hc i pins s σ H E I hf st hg;subst hP hw hK;obtain⟨xs,x,hq,hx⟩:=hg;obtain⟨its,rv,p,hz⟩:=I.tuple hq;obtain⟨u,hu,ru⟩:=rv.get hx;obtain⟨f0,f1,f2,f3,f4,f5⟩:=hf it (by simp);refine wpAny_pyNext_tuple_item st (show s.heap.IsTuple a its.toArray from p) (x:=u) (by simpa using hu) λh' st' sb=>?_
  have I1:Inv X pins σ H { s with heap:=h' }:=I.turned (t':=s.toks) (λb o hb e=>(sb.2 b hb).trans e) f0 f1 f3 f4 f5;obtain⟨o,e,c,d⟩:=id st';exact⟨u,rfl,LH (s:={ s with heap:=h' }) e c d (by decide) ⟨x,H,I1,ru,⟨rfl,λys hy=>by rw[I.tuple_inj hy hq];exact hx⟩,st',λb hb=>(hf b hb).1⟩⟩
 done:=by
  intro X hP hw hK hc i pins s σ H E I hf st hg;subst hP hw hK;obtain⟨xs,hq,hx⟩:=hg;obtain⟨its,rv,p,hz⟩:=I.tuple hq;obtain⟨f0,f1,f2,f3,f4,f5⟩:=hf it (by simp);have hl:=rv.length;exact wpAny_pyNext_tuple_end (I.ok.hd hc) st (show s.heap.IsTuple a its.toArray from p) (by simp;omega) λh' eb=>⟨rfl,I.turned (t':=s.toks) (λb o hb e=>eb b o hb e) f0 f1 f3 f4 f5⟩
 self:=λ_ _ _ _ _ st h=>wpAny_pyIter_tupleiter st h
theorem Pt {P:Program}{w:World}{K:PySem.W.Frag}{tg:Expr}(it:Addr)(lo:Int)(n:Nat):Turn P w K tg (TY lo n) [it] it (λi h=>IsRangeIter h it (lo+(i:Nat)*1) ((n:Int)-(i:Nat)) 1) where
 mem:=by simp
 obj:=λi h st b hb=>by
  have e:b=it:=by simpa using hb
  subst e;exact⟨_,st,λv z=>by
   have z':Data.fields _=Data.cell v:=z;cases z'⟩
 keep:=λi h h' st k=>k it (by simp) _ st
 item:=by
  intro X hP hw hK hc i pins s σ H E I hf st hg;subst hP hw hK;obtain⟨f0,f1,f2,f3,f4,f5⟩:=hf it (by simp);have W:=Walks.range (prog:=X.prog) (w:=X.w) (I.ok.hd hc) it lo 1 n;refine W.item i s _ _ hg st λv h' tk hv st' kk=>?_
  obtain⟨t,rfl⟩:=hv;have I1:Inv X pins σ H { s with heap:=h',toks:=tk }:=I.turned (λb o hb e=>kk b o (by simpa using hb) e) f0 f1 f3 f4 f5;refine⟨_,rfl,LH (s:={ s with heap:=h',toks:=tk }) (n:="range_iterator") st' rfl rfl (by decide) ⟨.int (lo+i),H,I1,⟨t,?_⟩,⟨rfl,rfl⟩,st',λb hb=>(hf b hb).1⟩⟩;rw[gI]
 done:=by
  intro X hP hw hK hc i pins s σ H E I hf st hg;subst hP hw hK;obtain⟨f0,f1,f2,f3,f4,f5⟩:=hf it (by simp);exact wpAny_pyNext_range_end (I.ok.hd hc) st (by have:n<=i:=hg;omega) λh' eb=>⟨rfl,I.turned (t':=s.toks) (λb o hb e=>eb b o hb e) f0 f1 f3 f4 f5⟩
 self:=λ_ _ _ _ _ st h=>wpAny_pyIter_rangeiter st h
section
variable {X:Cx}{tg:Expr}
def WV (K:PySem.W.Frag)(tl:TE):TI:=λσ H R=>tl σ H λx H1=>∃a,x=.ref a/\(∃xs,AD K H1 a xs)/\R (WB K a) H1
def XW (K:PySem.W.Frag)(tl:TE):TI:=λσ H R=>tl σ H λx H1=>∃a,x=.ref a/\(∃xs,AL K H1 a xs)/\R (Wy K a) H1
theorem BQ {l:Expr}{tl:TE}(hl:PE X l tl):PI X tg l (WV X.K tl):=by
 intro pins s σ H R I h;refine Bc (hl pins s σ H _ I h) λv s1 ⟨x,H1,I1,r1,q1⟩=>?_
 obtain⟨a,e,⟨xs,hq⟩,q⟩:=q1;subst e;cases r1;obtain⟨its,rv,p,hz⟩:=I1.list hq;refine dy p.isList ?_;refine⟨s1.heap.objs.size,[s1.heap.objs.size],_,_,H1,rfl,I1.kept (t':=s1.toks) λb o e=>ah _ e,Ry a _,⟨_,aM _ rfl,rfl,rfl⟩,λb hb=>?_,q⟩;have e:b=s1.heap.objs.size:=by simpa using hb
 subst e;exact I1.fpOk (ar _) (I1.hok.fresh (ar _))
theorem Cv {l:Expr}{tl:TE}(hl:PE X l tl):PI X tg l (XW X.K tl):=by
 intro pins s σ H R I h;refine Bc (hl pins s σ H _ I h) λv s1 ⟨x,H1,I1,r1,q1⟩=>?_
 obtain⟨a,e,⟨xs,hq⟩,q⟩:=q1;subst e;cases r1;obtain⟨its,rv,p,hz⟩:=I1.tuple hq;refine wpAny_pyIter_tuple (show s1.heap.IsTuple a its.toArray from p) ?_;refine⟨s1.heap.objs.size,[s1.heap.objs.size],_,_,H1,rfl,I1.kept (t':=s1.toks) λb o e=>ah _ e,O4 a _,⟨_,aM _ rfl,rfl,rfl⟩,λb hb=>?_,q⟩;have e:b=s1.heap.objs.size:=by simpa using hb
 subst e;exact I1.fpOk (ar _) (I1.hok.fresh (ar _))
theorem SA {pins:List (Addr×Obj)} {σ:St} {H:Hp} {s:Shared} {R:It->Hp->Prop} {E:Value->Shared->Prop} {lo hi:Int} {t u v:Tok} {tk:Nat} (I:Inv X pins σ H s) (h1:-(2^62)<=lo) (h2:lo<2^62) (h3:-(2^62)<=hi) (h4:hi<2^62)
  (q:R (TY lo (hi-lo).toNat) H):wpAny (model X.prog X.w) X.A (pyIter (.ref s.heap.objs.size)) (Yo X pins σ tg R) E { s with heap:=s.heap.push { cls:=.type "range",data:=.fields #[.int lo t,.int hi u,.int 1 v] },toks:=tk }:=by
 refine wpAny_pyIter_range (IsRange.new ..) (small_one h1 h2 h3 h4) ?_;have I1:Inv X pins σ H { s with heap:=s.heap.push { cls:=.type "range",data:=.fields #[.int lo t,.int hi u,.int 1 v] },toks:=tk }:=I.kept λb o e=>ah _ e
 refine⟨(s.heap.push { cls:=.type "range",data:=.fields #[.int lo t,.int hi u,.int 1 v] }).objs.size,[(s.heap.push { cls:=.type "range",data:=.fields #[.int lo t,.int hi u,.int 1 v] }).objs.size],_,_,H,rfl,
  I1.kept (t':=tk) λb o e=>ah _ e,Pt _ lo (hi-lo).toNat,?_,λb hb=>?_,q⟩
 ·have e1:lo+((0:Nat):Int)*1=lo:=by simp
  have e2:(((hi-lo).toNat:Nat):Int)-((0:Nat):Int)=Builtin.Range.rangeSize lo hi 1:=by rw[rangeSize_one];split<;>omega
  show IsRangeIter _ _ (lo+((0:Nat):Int)*1) ((((hi-lo).toNat:Nat):Int)-((0:Nat):Int)) 1;rw[e1,e2];exact aM _ rfl
 ·have e:b=(s.heap.push { cls:=.type "range",data:=.fields #[.int lo t,.int hi u,.int 1 v] }).objs.size:=by simpa using hb
  subst e;exact I1.fpOk (ar _) (I1.hok.fresh (ar _))
def WK (ta:TA):TI:=λσ H R=>ta σ H λvs H1=>∃j:Int,vs=[.int j]/\-(2^62)<=j/\j<2^62/\R (TY 0 j.toNat) H1
theorem Bn {a:Expr}{ta:TA}{p pos:Pos}(hg:Gl X "range")(hm:X.mg "range"=none)(ha:PA X [a] ta)(hs:starEach [a] X.env=[(false,eval a X.env)]:=by rfl):PI X tg (.Call (.Name "range" p) [a] [] pos) (WK ta):=by
 intro pins s σ H R I h;refine Call_ (Jt I hg hm boot_range (fK (Bc (ha pos pins s σ H _ I h) λus s1 ⟨vs,H1,I1,r1,q1⟩=>?_) hs rfl));obtain⟨j,e,q1,q2,q⟩:=q1;subst e;cases r1 with
 |cons r rr=>
  cases rr;obtain⟨t,rfl⟩:=r;exact call_range_1 (SA I1 (by omega) (by omega) q1 q2 (by simpa using q))
def J7 (wi:TI)(g:TG)(tb:TS):TS:=λD σ H=>wi σ H λJ H1=>∃W:Nat->Nat->St->Hp->Prop,(∃m,W 0 m σ H1)/\∀i m σ H,W i m σ H->
 (J.stop i H/\D.nx σ H)\/(J.go i H/\∃N:St->Hp->Prop,(∀σ' H',N σ' H'->∃m',m'<m/\W (i+1) m' σ' H')/\∀x H',J.yld i H x H'->g x σ H' λσ2 H2=>tb { D with nx:=N,ct:=N,bk:=D.nx } σ2 H2)
def K2 (fp:List Addr)(h:Heap):List (Addr×Obj):=fp.filterMap λb=>(h.get? b).map λo=>(b,o)
theorem FV {fp:List Addr}{h:Heap}{b:Addr}{o:Obj}(hb:b∈fp)(e:h.get? b=some o):(b,o)∈K2 fp h:=List.mem_filterMap.mpr ⟨b,hb,by rw[e];rfl⟩
theorem Rx {fp:List Addr}{h:Heap}{p:Addr×Obj}(hp:p∈K2 fp h):p.1∈fp/\h.get? p.1=some p.2:=by
 obtain⟨b,hb,e⟩:=List.mem_filterMap.mp hp;cases q:h.get? b with
 |none=>rw[q] at e;cases e
 |some o=>
  rw[q] at e;have e':(b,o)=p:=aA e;subst e';exact⟨hb,q⟩
theorem Inv.pinned {pins:List (Addr×Obj)}{σ:St}{H:Hp}{s:Shared}{fp:List Addr}(I:Inv X pins σ H s)(hf:∀b∈fp,Lr X pins H b)(ho:∀b∈fp,∃o,s.heap.get? b=some o/\∀v,o.data≠.cell v):Inv X (pins++K2 fp s.heap) σ H s:=
 I.pins_of λp hp=>(av.mp hp).elim (λz=>I.pin p (aD _ z)) λz=>by
  obtain⟨hb,e⟩:=Rx z;obtain⟨f0,f1,f2,_⟩:=hf p.1 hb;obtain⟨o,e',d⟩:=ho p.1 hb;rw[e] at e';cases e';exact⟨e,f0,f1,f2,d⟩
theorem Inv.unpinned {pins pl:List (Addr×Obj)}{σ:St}{H:Hp}{s:Shared}(I:Inv X (pins++pl) σ H s):Inv X pins σ H s:=I.pins_of λp hp=>I.pin p (aD _ (aO _ hp))
theorem BR {iter:Expr} {body:List Stmt} {wi:TI} {g:TG} {tb:TS} {pos:Pos} (hp:PassesOwn (model X.prog X.w) X.A X.env X.xe) (hc:X.calm=true) (hi:PI X tg iter wi) (hg:PG X tg g) (hb:NN X body tb)
  (hs:∀x,foldedSetIterable iter X.env x=pure x:=by intro _;rfl):PS X (.For tg iter body [] pos) (J7 wi g tb):=by
 intro pins s σ H D I h;refine wpAny_For (Bc (hi pins s σ H _ I h) λv s1 h1=>Bc h1 λitv s2 h2=>?_) hs;obtain⟨it,fp,tn,J,H2,e,I2,T,st2,f2,W,⟨m0,w0⟩,turn⟩:=h2;subst e;have stat:∀{H':Hp},(∀b∈fp,H' b=none)->∀b∈fp,Lr X pins H' b:=λhn b hb=>⟨hn b hb,(f2 b hb).2⟩
 refine codeAny_forLoop_any (λn s'=>∃i σ' H',Inv X pins σ' H' s'/\tn i s'.heap/\(∀b∈fp,H' b=none)/\W i n σ' H') ?_ m0 ⟨0,σ,H2,I2,st2,λb hb=>(f2 b hb).1,w0⟩
 rintro n s3 ⟨i,σ3,H3,I3,st3,fr3,w3⟩
 rcases turn i n σ3 H3 w3 with⟨stop,qn⟩|⟨go,N,hN,step⟩
 ·refine cP hp (Bc (T.done X rfl rfl rfl hc i pins s3 σ3 H3 X.xe I3 (stat fr3) st3 stop) λr s4 ⟨hr,I4⟩=>?_);subst hr;exact dU ⟨σ3,H3,I4,qn⟩
 ·refine cP hp (Bc (T.item X rfl rfl rfl hc i pins s3 σ3 H3 X.xe I3 (stat fr3) st3 go) λr s4 ⟨u,hr,h4⟩=>?_);subst hr;refine cP hp (Bc h4 λ_ s5 z9=>?_);obtain⟨x,H5,I5,r5,y5,st5,fr5⟩:=z9;have I5':=I5.pinned (stat fr5) (T.obj _ _ st5);refine cP hp (Bc (hg _ s5 σ3 H5 x u _ I5' r5 (step x H5 y5)) λ_ s6 ⟨σ6,H6,I6,q6⟩=>?_);refine cP hp (Bc (hb _ s6 σ6 H6 _ I6 q6) λf s7 q7=>?_);have again:∀{σ7:St} {H7:Hp},Inv X (pins++K2 fp s5.heap) σ7 H7 s7->N σ7 H7->∃m,m<n/\∃i σ' H',Inv X pins σ' H' s7/\tn i s7.heap/\(∀b∈fp,H' b=none)/\W i m σ' H':=λ{σ7 H7} I7 n7=>by
   obtain⟨m',hm,w7⟩:=hN σ7 H7 n7;refine⟨m',hm,i+1,σ7,H7,I7.unpinned,T.keep _ _ _ st5 λb hb o e=>(I7.pin (b,o) (aD _ (aD _ (FV hb e)))).1,λb hb=>?_,w7⟩;obtain⟨o,e,d⟩:=T.obj _ _ st5 b hb;exact(I7.pin (b,o) (aD _ (aD _ (FV hb e)))).2.1
  cases f with
  |next=>obtain⟨σ7,H7,I7,n7⟩:=q7;exact again I7 n7
  |cont=>obtain⟨σ7,H7,I7,n7⟩:=q7;exact again I7 n7
  |brk=>obtain⟨σ7,H7,I7,q7⟩:=q7;exact⟨σ7,H7,I7.unpinned,q7⟩
  |ret v=>obtain⟨x7,σ7,H7,I7,r7,q7⟩:=q7;exact⟨x7,σ7,H7,I7.unpinned,r7,q7⟩
end
theorem E4 {K:PySem.W.Frag} {a:Addr} {xs:List V} {g:TG} {tb:TS} {D:Ends} {σ:St} {H:Hp} (Pv:Nat->St->Hp->Prop) (h0:Pv 0 σ H) (hl:∀i σ H,i<=xs.length->Pv i σ H->AD K H a xs)
  (hs:∀i x σ H,xs[i]?=some x->Pv i σ H->g x σ H λσ2 H2=>tb { D with nx:=Pv (i+1),ct:=Pv (i+1),bk:=D.nx } σ2 H2) (hd:∀σ H,Pv xs.length σ H->D.nx σ H) :
  ∃W:Nat->Nat->St->Hp->Prop,(∃m,W 0 m σ H)/\∀i m σ H,W i m σ H->
   ((WB K a).stop i H/\D.nx σ H)\/((WB K a).go i H/\∃N:St->Hp->Prop,(∀σ' H',N σ' H'->∃m',m'<m/\W (i+1) m' σ' H')/\∀x H',(WB K a).yld i H x H'->g x σ H' λσ2 H2=>tb { D with nx:=N,ct:=N,bk:=D.nx } σ2 H2):=by
 refine⟨λi m σ H=>m=xs.length-i/\i<=xs.length/\Pv i σ H,⟨xs.length,by simp,bC _,h0⟩,?_⟩
 rintro i m σ H ⟨rfl,hi,p⟩
 have q:=hl i σ H hi p
 by_cases hlt:i<xs.length
 ·refine .inr ⟨⟨xs,xs[i],q,by simp[hlt]⟩,Pv (i+1),λσ' H' p'=>⟨xs.length-(i+1),by omega,rfl,hlt,p'⟩,λx H' y=>?_⟩;obtain⟨e,y⟩:=y;subst e;exact hs i x σ _ (y xs q) p
 ·have e:i=xs.length:=by omega
  subst e;exact .inl ⟨⟨xs,q,ar _⟩,hd σ H p⟩
theorem Kp {K:PySem.W.Frag} {a:Addr} {xs:List V} {g:TG} {tb:TS} {D:Ends} {σ:St} {H:Hp} (Pv:Nat->St->Hp->Prop) (h0:Pv 0 σ H) (hl:∀i σ H,i<=xs.length->Pv i σ H->AL K H a xs)
  (hs:∀i x σ H,xs[i]?=some x->Pv i σ H->g x σ H λσ2 H2=>tb { D with nx:=Pv (i+1),ct:=Pv (i+1),bk:=D.nx } σ2 H2) (hd:∀σ H,Pv xs.length σ H->D.nx σ H) :
  ∃W:Nat->Nat->St->Hp->Prop,(∃m,W 0 m σ H)/\∀i m σ H,W i m σ H->
   ((Wy K a).stop i H/\D.nx σ H)\/((Wy K a).go i H/\∃N:St->Hp->Prop,(∀σ' H',N σ' H'->∃m',m'<m/\W (i+1) m' σ' H')/\∀x H',(Wy K a).yld i H x H'->g x σ H' λσ2 H2=>tb { D with nx:=N,ct:=N,bk:=D.nx } σ2 H2):=by
 refine⟨λi m σ H=>m=xs.length-i/\i<=xs.length/\Pv i σ H,⟨xs.length,by simp,bC _,h0⟩,?_⟩
 rintro i m σ H ⟨rfl,hi,p⟩
 have q:=hl i σ H hi p
 by_cases hlt:i<xs.length
 ·refine .inr ⟨⟨xs,xs[i],q,by simp[hlt]⟩,Pv (i+1),λσ' H' p'=>⟨xs.length-(i+1),by omega,rfl,hlt,p'⟩,λx H' y=>?_⟩;obtain⟨e,y⟩:=y;subst e;exact hs i x σ _ (y xs q) p
 ·have e:i=xs.length:=by omega
  subst e;exact .inl ⟨⟨xs,q,ar _⟩,hd σ H p⟩
theorem CI {lo:Int} {n:Nat} {g:TG} {tb:TS} {D:Ends} {σ:St} {H:Hp} (Pv:Nat->St->Hp->Prop) (h0:Pv 0 σ H)
  (hs:∀i σ H,i<n->Pv i σ H->g (.int (lo+i)) σ H λσ2 H2=>tb { D with nx:=Pv (i+1),ct:=Pv (i+1),bk:=D.nx } σ2 H2) (hd:∀σ H,Pv n σ H->D.nx σ H) :
  ∃W:Nat->Nat->St->Hp->Prop,(∃m,W 0 m σ H)/\∀i m σ H,W i m σ H->
   ((TY lo n).stop i H/\D.nx σ H)\/((TY lo n).go i H/\∃N:St->Hp->Prop,(∀σ' H',N σ' H'->∃m',m'<m/\W (i+1) m' σ' H')/\∀x H',(TY lo n).yld i H x H'->g x σ H' λσ2 H2=>tb { D with nx:=N,ct:=N,bk:=D.nx } σ2 H2):=by
 refine⟨λi m σ H=>m=n-i/\i<=n/\Pv i σ H,⟨n,by simp,bC _,h0⟩,?_⟩
 rintro i m σ H ⟨rfl,hi,p⟩
 by_cases hlt:i<n
 ·refine .inr ⟨hlt,Pv (i+1),λσ' H' p'=>⟨n-(i+1),by omega,rfl,hlt,p'⟩,λx H' y=>?_⟩;obtain⟨e,y⟩:=y;subst e y;exact hs i σ _ hlt p
 ·have e:i=n:=by omega
  subst e;exact .inl ⟨ar _,hd σ H p⟩
theorem N5 {c:TT} {tb:TS} {D:Ends} {σ:St} {H:Hp} (Pv:St->Hp->Prop) (μ:St->Hp->Nat) (h0:Pv σ H)
  (hs:∀σ H,Pv σ H->c σ H λb H1=>if b=true then tb { D with nx:=λσ' H'=>Pv σ' H'/\μ σ' H'<μ σ H,ct:=λσ' H'=>Pv σ' H'/\μ σ' H'<μ σ H,bk:=D.nx } σ H1 else D.nx σ H1)
  (mono:∀σ H Q Q',(∀b H1,Q b H1->Q' b H1)->c σ H Q->c σ H Q'):MI c tb D σ H:=by
 refine⟨λm σ H=>m=μ σ H/\Pv σ H,⟨_,rfl,h0⟩,?_⟩
 rintro m σ H ⟨rfl,p⟩
 refine mono σ H _ _ (λb H1 q=>?_) (hs σ H p);cases b with
 |true=>exact⟨_,λσ' H' ⟨p',l⟩=>⟨_,l,rfl,p'⟩,q⟩
 |false=>exact q
abbrev R2:=V->V->Hp->VK->Prop
def Gv (X:Cx)(f:Value->Value->Sem Value)(r:R2):Prop:=
 ∀(pins:List (Addr×Obj)) (s:Shared) (σ:St) (H:Hp) (x y:V) (v u:Value) (Q:VK),Inv X pins σ H s->RelV x v->RelV y u->r x y H Q->
  wpAny (model X.prog X.w) X.A (f v u) (EP X pins σ Q) X.xe s
def Yg (X:Cx)(f:Value->Sem Value)(r:V->Hp->VK->Prop):Prop:=
 ∀(pins:List (Addr×Obj)) (s:Shared) (σ:St) (H:Hp) (x:V) (v:Value) (Q:VK),Inv X pins σ H s->RelV x v->r x H Q->
  wpAny (model X.prog X.w) X.A (f v) (EP X pins σ Q) X.xe s
def DG (X:Cx)(f:Value)(r:List V->Hp->VK->Prop):Prop:=
 ∀(pins:List (Addr×Obj)) (s:Shared) (σ:St) (H:Hp) (xs:List V) (us:List Value) (Q:VK),Inv X pins σ H s->AG xs us->r xs H Q->
  wpAny (model X.prog X.w) X.A (call f us) (EP X pins σ Q) X.xe s
def WA (r:R2)(ta tb:TE):TE:=λσ H Q=>ta σ H λx H1=>tb σ H1 λy H2=>r x y H2 Q
def Yt (r:V->Hp->VK->Prop)(ta:TE):TE:=λσ H Q=>ta σ H λx H1=>r x H1 Q
def rI (C:Int->Int->Prop)(g:Int->Int->V):R2:=λx y H Q=>∃i j,x=.int i/\y=.int j/\C i j/\Q (g i j) H
def UT (g:Int->Int->V):R2:=λx y H Q=>∃i j,x=.int i/\y=.int j/\Q (g i j) H
def rU (g:Int->V):V->Hp->VK->Prop:=λx H Q=>∃i,x=.int i/\Q (g i) H
section
variable {X:Cx}{a b c:Expr}{ta tb tc:TE}{pos:Pos}
theorem Wc (ha:PE X a ta) (hb:PE X b tb) {pins:List (Addr×Obj)} {s:Shared} {σ:St} {H:Hp} {R:V->V->Hp->Prop} (I:Inv X pins σ H s)
  (h:ta σ H λx H1=>tb σ H1 λy H2=>R x y H2) {Q:Value->Shared->Prop} {f:Value->Value->Sem Value}
  (hf:∀v u s2 x y H2,Inv X pins σ H2 s2->RelV x v->RelV y u->R x y H2->wpAny (model X.prog X.w) X.A (f v u) Q X.xe s2) :
  wpAny (model X.prog X.w) X.A (eval a X.env) (λv s₁=>wpAny (model X.prog X.w) X.A (eval b X.env) (λu s₂=>wpAny (model X.prog X.w) X.A (f v u) Q X.xe s₂) X.xe s₁) X.xe s:=by
 refine Bc (ha pins s σ H _ I h) λv s1 ⟨x,H1,I1,r1,q1⟩=>?_
 refine Bc (hb pins s1 σ H1 _ I1 q1) λu s2 ⟨y,H2,I2,r2,q2⟩=>?_
 exact hf v u s2 x y H2 I2 r1 r2 q2
theorem Ao {op:Operator}{r:R2}(ho:Gv X (binaryOp op) r)(ha:PE X a ta)(hb:PE X b tb):PE X (.BinOp a op b pos) (WA r ta tb):=by
 intro pins s σ H Q I h;exact wpAny_BinOp (Wc ha hb I h λv u s2 x y H2 I2 rx ry q=>ho pins s2 σ H2 x y v u Q I2 rx ry q)
theorem Xb {op:UnaryOp}{r:V->Hp->VK->Prop}(ho:Yg X (unaryOp op) r)(ha:PE X a ta):PE X (.UnaryOp op a pos) (Yt r ta):=by
 intro pins s σ H Q I h;exact UnaryOp_ (Bc (ha pins s σ H _ I h) λv s1 ⟨x,H1,I1,r1,q1⟩=>ho pins s1 σ H1 x v Q I1 r1 q1)
theorem WE {f:Value->Value->Sem Value} {C:Int->Int->Prop} {g:Int->Int->Int}
  (rule:∀(i j:Int) (t u:Tok) (s:Shared) (Q:Value->Shared->Prop) (E:Value->Shared->Prop),C i j->Q (.int (g i j) s.toks) { s with toks:=s.toks+1 }->wpAny (model X.prog X.w) X.A (f (.int i t) (.int j u)) Q E s) :
  Gv X f (rI C λi j=>.int (g i j)):=by
 intro pins s σ H x y v u Q I rx ry h;obtain⟨i,j,rfl,rfl,hc,q⟩:=h;obtain⟨t,rfl⟩:=rx;obtain⟨t',rfl⟩:=ry;exact rule i j t t' s _ _ hc ⟨.int (g i j),H,I.tok _,⟨_,rfl⟩,q⟩
theorem VZ {f:Value->Value->Sem Value} {g:Int->Int->Int}
  (rule:∀(i j:Int) (t u:Tok) (s:Shared) (Q:Value->Shared->Prop) (E:Value->Shared->Prop),Q (.int (g i j) s.toks) { s with toks:=s.toks+1 }->wpAny (model X.prog X.w) X.A (f (.int i t) (.int j u)) Q E s) :
  Gv X f (UT λi j=>.int (g i j)):=by
 intro pins s σ H x y v u Q I rx ry h;obtain⟨i,j,rfl,rfl,q⟩:=h;obtain⟨t,rfl⟩:=rx;obtain⟨t',rfl⟩:=ry;exact rule i j t t' s _ _ ⟨.int (g i j),H,I.tok _,⟨_,rfl⟩,q⟩
theorem T5 {f:Value->Value->Sem Value} {g:Int->Int->Bool}
  (rule:∀(i j:Int) (t u:Tok) (s:Shared) (Q:Value->Shared->Prop) (E:Value->Shared->Prop),Q (.bool (g i j)) s->wpAny (model X.prog X.w) X.A (f (.int i t) (.int j u)) Q E s) :
  Gv X f (UT λi j=>.bl (g i j)):=by
 intro pins s σ H x y v u Q I rx ry h;obtain⟨i,j,rfl,rfl,q⟩:=h;obtain⟨t,rfl⟩:=rx;obtain⟨t',rfl⟩:=ry;exact rule i j t t' s _ _ ⟨.bl (g i j),H,I,rfl,q⟩
def XX (i j:Int):Prop:=0<j/\j<1073741824
def X1 (i j:Int):Prop:=0<=j/\j<=1000000/\i.natAbs<2^64
def VV (i j:Int):Prop:=(-(2^64)<i/\i<2^64)\/(-(2^64)<j/\j<2^64)
theorem VV.ok {i j:Int}(h:VV i j):IntMulOk i j:=by
 rcases h with⟨h1,h2⟩|⟨h1,h2⟩
 ·exact .of_left (intBits_le_64 h1 h2)
 ·exact .of_right (intBits_le_64 h1 h2)
theorem AF:Gv X (binaryOp .Add) (UT λi j=>.int (i+j)):=VZ λ_ _ _ _ _ _ _ q=>add_int q
theorem V9:Gv X (binaryOp .Sub) (UT λi j=>.int (i-j)):=VZ λ_ _ _ _ _ _ _ q=>sub_int q
theorem Bt:Gv X (binaryOp .Mult) (rI VV λi j=>.int (i*j)):=WE λ_ _ _ _ _ _ _ hc q=>mul_int q hc.ok
theorem Kn:Gv X (binaryOp .FloorDiv) (rI XX λi j=>.int (i/j)):=WE λi j _ _ _ _ _ hc q=>by
 have h1:(0:Int)<j:=hc.1;have h2:j<1073741824:=hc.2;exact floordiv_int (by omega) (by rw[fP i (by omega)];exact q) (.inl (PyProof.noPylong_small (by omega)))
theorem AR:Gv X (binaryOp .Mod) (rI (λ_ j=>0<j) λi j=>.int (i%j)):=WE λi j _ _ _ _ _ hc q=>by
 have h1:(0:Int)<j:=hc;exact mod_int' (by omega) (by rw[Int.fmod_eq_emod_of_nonneg i (by omega)];exact q)
theorem Pz:Gv X (binaryOp .Pow) (rI X1 λi j=>.int (i^j.toNat)):=WE λ_ _ _ _ _ _ _ hc q=>pow_int_small hc.1 hc.2.1 hc.2.2 q
theorem Qr:Gv X (inplaceOp .Add) (UT λi j=>.int (i+j)):=VZ λ_ _ _ _ _ _ _ q=>iadd_int q
theorem Yy {f:Value->Sem Value} {g:Int->Int}
  (rule:∀(i:Int) (t:Tok) (s:Shared) (Q:Value->Shared->Prop) (E:Value->Shared->Prop),Q (.int (g i) s.toks) { s with toks:=s.toks+1 }->wpAny (model X.prog X.w) X.A (f (.int i t)) Q E s) :
  Yg X f (rU λi=>.int (g i)):=by
 intro pins s σ H x v Q I rx h;obtain⟨i,rfl,q⟩:=h;obtain⟨t,rfl⟩:=rx;exact rule i t s _ _ ⟨.int (g i),H,I.tok _,⟨_,rfl⟩,q⟩
theorem Vy:Yg X (unaryOp .USub) (rU λi=>.int (-i)):=Yy λ_ _ _ _ _ q=>neg_int q
end
def W7:V->V->Bool
 | .non,.non=>true | .non,.int _=>true | .int _,.non=>true | .non,.bl _=>true | .bl _,.non=>true | .non,.str _=>true | .str _,.non=>true
 | .int _,.int _=>true | .bl _,.bl _=>true | .str _,.str _=>true | .byt _,.byt _=>true
 | .int _,.str _=>true | .str _,.int _=>true | .bl _,.str _=>true | .str _,.bl _=>true
 |_,_=>false
def Yz:R2:=λx y H Q=>W7 x y=true/\Q (.bl (decide (x=y))) H
def Yr:R2:=λx y H Q=>W7 x y=true/\Q (.bl (!decide (x=y))) H
theorem Me {i j:Int}:decide (V.int i=V.int j)=(i == j):=by
 rw[cU];simp
theorem Tn {i j:Bool}:decide (V.bl i=V.bl j)=(i == j):=by
 rw[cU];simp
theorem Mi {i j:Str}:decide (V.str i=V.str j)=(i == j):=by
 rw[cU];simp
theorem QB {i j:Array UInt8}:decide (V.byt i=V.byt j)=(i.toList == j.toList):=by
 rw[cU];cases i;cases j;simp
section
variable {X:Cx}{a b c:Expr}{ta tb tc:TE}{pos:Pos}
theorem A0 {pins:List (Addr×Obj)}{σ:St}{H:Hp}{s:Shared}{Q:VK}{k k':Bool}(I:Inv X pins σ H s)(q:Q (.bl k) H)(e:k=k'):EP X pins σ Q (.bool k') s:=by
 subst e;exact⟨.bl k,H,I,rfl,q⟩
theorem CV:Gv X (compareOp .Eq) Yz:=by
 intro pins s σ H x y v u Q I rx ry h;obtain⟨hs,q⟩:=h;cases x with
 |non=>
  cases rx;cases y with
  |non=>cases ry;exact PySem.EqNone.eq_none_none (A0 I q (by simp))
  |bl j=>cases ry;exact PySem.EqNone.eq_none_bool (A0 I q (by simp))
  |int j=>obtain⟨t',rfl⟩:=ry;exact PySem.EqNone.eq_none_int (A0 I q (by simp))
  |str j=>obtain⟨t',rfl⟩:=ry;exact PySem.EqNone.eq_none_str (A0 I q (by simp))
  |_=>exact absurd (show false=true from hs) aB
 |bl i=>
  cases rx;cases y with
  |non=>cases ry;exact PySem.EqNone.eq_bool_none (A0 I q (by simp))
  |bl j=>cases ry;exact eq_bool (A0 I q Tn)
  |str j=>obtain⟨t',rfl⟩:=ry;exact PySem.EqMixed.eq_bool_str (A0 I q (by simp))
  |_=>exact absurd (show false=true from hs) aB
 |int i=>
  obtain⟨t,rfl⟩:=rx;cases y with
  |non=>cases ry;exact PySem.EqNone.eq_int_none (A0 I q (by simp))
  |int j=>obtain⟨t',rfl⟩:=ry;exact eq_int (A0 I q Me)
  |str j=>obtain⟨t',rfl⟩:=ry;exact PySem.EqMixed.eq_int_str (A0 I q (by simp))
  |_=>exact absurd (show false=true from hs) aB
 |str i=>
  obtain⟨t,rfl⟩:=rx;cases y with
  |non=>cases ry;exact PySem.EqNone.eq_str_none (A0 I q (by simp))
  |bl j=>cases ry;exact PySem.EqMixed.eq_str_bool (A0 I q (by simp))
  |int j=>obtain⟨t',rfl⟩:=ry;exact PySem.EqMixed.eq_str_int (A0 I q (by simp))
  |str j=>obtain⟨t',rfl⟩:=ry;exact eq_str (A0 I q Mi)
  |_=>exact absurd (show false=true from hs) aB
 |byt i=>
  obtain⟨t,rfl⟩:=rx;cases y with
  |byt j=>obtain⟨t',rfl⟩:=ry;exact PySem.W.eq_bytes (A0 I q QB)
  |_=>exact absurd (show false=true from hs) aB
 |_=>cases y<;>exact absurd (show false=true from hs) aB
theorem NJ:Gv X (compareOp .NotEq) Yr:=by
 intro pins s σ H x y v u Q I rx ry h;obtain⟨hs,q⟩:=h;cases x with
 |non=>
  cases rx;cases y with
  |non=>cases ry;exact PySem.EqNone.ne_none_none (A0 I q (by simp))
  |bl j=>cases ry;exact PySem.EqNone.ne_none_bool (A0 I q (by simp))
  |int j=>obtain⟨t',rfl⟩:=ry;exact PySem.EqNone.ne_none_int (A0 I q (by simp))
  |str j=>obtain⟨t',rfl⟩:=ry;exact PySem.EqNone.ne_none_str (A0 I q (by simp))
  |_=>exact absurd (show false=true from hs) aB
 |bl i=>
  cases rx;cases y with
  |non=>cases ry;exact PySem.EqNone.ne_bool_none (A0 I q (by simp))
  |bl j=>cases ry;exact ne_bool (A0 I q (congrArg not Tn))
  |str j=>obtain⟨t',rfl⟩:=ry;exact PySem.EqMixed.ne_bool_str (A0 I q (by simp))
  |_=>exact absurd (show false=true from hs) aB
 |int i=>
  obtain⟨t,rfl⟩:=rx;cases y with
  |non=>cases ry;exact PySem.EqNone.ne_int_none (A0 I q (by simp))
  |int j=>obtain⟨t',rfl⟩:=ry;exact ne_int (A0 I q (congrArg not Me))
  |str j=>obtain⟨t',rfl⟩:=ry;exact PySem.EqMixed.ne_int_str (A0 I q (by simp))
  |_=>exact absurd (show false=true from hs) aB
 |str i=>
  obtain⟨t,rfl⟩:=rx;cases y with
  |non=>cases ry;exact PySem.EqNone.ne_str_none (A0 I q (by simp))
  |bl j=>cases ry;exact PySem.EqMixed.ne_str_bool (A0 I q (by simp))
  |int j=>obtain⟨t',rfl⟩:=ry;exact PySem.EqMixed.ne_str_int (A0 I q (by simp))
  |str j=>obtain⟨t',rfl⟩:=ry;exact ne_str (A0 I q (congrArg not Mi))
  |_=>exact absurd (show false=true from hs) aB
 |byt i=>
  obtain⟨t,rfl⟩:=rx;cases y with
  |byt j=>obtain⟨t',rfl⟩:=ry;exact PySem.W.ne_bytes (A0 I q (congrArg not QB))
  |_=>exact absurd (show false=true from hs) aB
 |_=>cases y<;>exact absurd (show false=true from hs) aB
theorem Qf:Gv X (compareOp .Lt) (UT λi j=>.bl (decide (i<j))):=T5 λ_ _ _ _ _ _ _ q=>lt_int q
theorem NR:Gv X (compareOp .LtE) (UT λi j=>.bl (decide (i<=j))):=T5 λ_ _ _ _ _ _ _ q=>le_int q
theorem LO:Gv X (compareOp .Gt) (UT λi j=>.bl (decide (j<i))):=T5 λ_ _ _ _ _ _ _ q=>gt_int q
theorem WR:Gv X (compareOp .GtE) (UT λi j=>.bl (decide (j<=i))):=T5 λ_ _ _ _ _ _ _ q=>ge_int q
theorem L6:Gv X (compareOp .In) (λx y H Q=>∃i j,x=.str i/\y=.str j/\Q (.bl (!(Builtin.Str.occurrences j i 0 j.length 1).isEmpty)) H):=by
 intro pins s σ H x y v u Q I rx ry h;obtain⟨i,j,rfl,rfl,q⟩:=h;obtain⟨t,rfl⟩:=rx;obtain⟨t',rfl⟩:=ry;exact in_str (A0 I q rfl)
theorem AH (b:Expr){op:CmpOp}(h:op≠.In:=by decide)(h2:op≠.NotIn:=by decide):behindInMarks op b=false:=by
 have e1:(op == CmpOp.In)=false:=by cases op<;>first|rfl|exact absurd rfl h
 have e2:(op == CmpOp.NotIn)=false:=by cases op<;>first|rfl|exact absurd rfl h2
 cases b<;>simp[behindInMarks,e1,e2]
theorem EA {op:CmpOp}{r:R2}(ho:Gv X (compareOp op) r)(ha:PE X a ta)(hb:PE X b tb)(hm:behindInMarks op b=false):PE X (.Compare a [op] [b] pos) (WA r ta tb):=by
 intro pins s σ H Q I h;exact wpAny_Compare1 (Wc ha hb I h λv u s2 x y H2 I2 rx ry q=>ho pins s2 σ H2 x y v u Q I2 rx ry q) hm
def Vr (t:TE):TT:=λσ H Q=>t σ H λx H'=>∃k,x=.bl k/\Q k H'
theorem AE {op:CmpOp}{r:R2}(ho:Gv X (compareOp op) r)(ha:PE X a ta)(hb:PE X b tb)(hm:behindInMarks op b=false):PT X (.Compare a [op] [b] pos) (Vr (WA r ta tb)):=by
 intro pins s σ H Q I h;refine wpAny_isTrue_Compare1 (Bc (ha pins s σ H _ I h) λv s1 ⟨x,H1,I1,r1,q1⟩=>Bc (hb pins s1 σ H1 _ I1 q1) λu s2 ⟨y,H2,I2,r2,q2⟩=>
  Bc (ho pins s2 σ H2 x y v u _ I2 r1 r2 q2) λc s3 ⟨z,H3,I3,r3,k,e,q3⟩=>?_) hm
 subst e;cases r3;exact cb ⟨H3,I3,q3⟩
def Si (r r':R2)(ta tb tc:TE):TE:=λσ H Q=>ta σ H λx H1=>tb σ H1 λy H2=>r x y H2 λz H3=>∃k,z=.bl k/\
 (if k=true then tc σ H3 λw' H4=>r' y w' H4 Q else Q (.bl false) H3)
theorem Sg {op op':CmpOp} {r r':R2} (ho:Gv X (compareOp op) r) (ho':Gv X (compareOp op') r') (ha:PE X a ta) (hb:PE X b tb) (hc:PE X c tc)
  (hm:lastMarks [op,op'] [b,c]=false:=by with_unfolding_all rfl):PE X (.Compare a [op,op'] [b,c] pos) (Si r r' ta tb tc):=by
 intro pins s σ H Q I h;refine Compare_chain (Bc (ha pins s σ H _ I h) λv s1 ⟨x,H1,I1,r1,q1⟩=>chain_link (Bc (hb pins s1 σ H1 _ I1 q1) λu s2 ⟨y,H2,I2,r2,q2⟩=>
  Bc (ho pins s2 σ H2 x y v u _ I2 r1 r2 q2) λd s3 ⟨z,H3,I3,r3,k,e,q3⟩=>?_)) hm
 subst e;cases r3;refine cb ?_;cases k with
 |false=>exact ite_ff ⟨.bl false,H3,I3,rfl,q3⟩
 |true=>exact ite_tt (chain_last (Bc (hc pins s3 σ H3 _ I3 q3) λw' s4 ⟨z',H4,I4,r4,q4⟩=>ho' pins s4 σ H4 y z' u w' Q I4 r2 r4 q4))
theorem Nq {op op':CmpOp} {r r':R2} (ho:Gv X (compareOp op) r) (ho':Gv X (compareOp op') r') (ha:PE X a ta) (hb:PE X b tb) (hc:PE X c tc)
  (hm:lastMarks [op,op'] [b,c]=false:=by with_unfolding_all rfl):PT X (.Compare a [op,op'] [b,c] pos) (Vr (Si r r' ta tb tc)):=by
 intro pins s σ H Q I h;refine isTrue_chain (Bc (ha pins s σ H _ I h) λv s1 ⟨x,H1,I1,r1,q1⟩=>test_link (Bc (hb pins s1 σ H1 _ I1 q1) λu s2 ⟨y,H2,I2,r2,q2⟩=>
  Bc (ho pins s2 σ H2 x y v u _ I2 r1 r2 q2) λd s3 ⟨z,H3,I3,r3,k,e,q3⟩=>?_)) hm
 subst e;cases r3;refine cb ?_;cases k with
 |false=>
  obtain⟨k',e',q'⟩:=q3;cases e';exact ite_ff ⟨H3,I3,q'⟩
 |true=>
  refine ite_tt (test_last (Bc (hc pins s3 σ H3 _ I3 q3) λw' s4 ⟨z',H4,I4,r4,q4⟩=>Bc (ho' pins s4 σ H4 y z' u w' _ I4 r2 r4 q4) λd' s5 z9=>?_));obtain⟨z2,H5,I5,r5,k2,e2,q5⟩:=z9;subst e2;cases r5;exact cb ⟨H5,I5,q5⟩
theorem Jj:(sizeLine:Nat)<2^63:=by rw[bE];decide
theorem HU:Gv X (binaryOp .Add) (λx y H Q=>∃i j,x=.str i/\y=.str j/\i.length+j.length<=sizeLine/\Q (.str (i++j)) H):=by
 intro pins s σ H x y v u Q I rx ry h;obtain⟨i,j,rfl,rfl,hz,q⟩:=h;obtain⟨t,rfl⟩:=rx;obtain⟨t',rfl⟩:=ry;exact add_str (λt' tk=>⟨.str (i++j),H,I.tok _,⟨_,rfl⟩,q⟩) hz
theorem vals1 {x:V}{us:List Value}(r:AG [x] us):∃u,us=[u]/\RelV x u:=by
 cases r with
 |cons r1 r2=>cases r2;exact⟨_,rfl,r1⟩
theorem vals2 {x y:V}{us:List Value}(r:AG [x,y] us):∃u w',us=[u,w']/\RelV x u/\RelV y w':=by
 cases r with
 |cons r1 r2=>
  cases r2 with
  |cons r3 r4=>cases r4;exact⟨_,_,rfl,r1,r3⟩
theorem SD:DG X (.builtin "abs") (λxs H Q=>∃i,xs=[.int i]/\Q (.int (if i<0 then -i else i)) H):=by
 intro pins s σ H xs us Q I r h;obtain⟨i,rfl,q⟩:=h;obtain⟨u,rfl,t,rfl⟩:=vals1 r;exact call_abs_int λu tk=>⟨.int (if i<0 then -i else i),H,I.tok _,⟨_,rfl⟩,q⟩
theorem Jf:DG X (.type "int") (λxs H Q=>(∃i,xs=[.int i]/\Q (.int i) H)\/∃k,xs=[.bl k]/\Q (.int (if k then 1 else 0)) H):=by
 intro pins s σ H xs us Q I r h;rcases h with⟨i,rfl,q⟩|⟨k,rfl,q⟩
 ·obtain⟨u,rfl,t,rfl⟩:=vals1 r;exact call_int_int ⟨.int i,H,I,⟨_,rfl⟩,q⟩
 ·obtain⟨u,rfl,r1⟩:=vals1 r;cases r1;exact call_int_bool ⟨.int (if k then 1 else 0),H,I.tok _,⟨_,rfl⟩,q⟩
end
structure ObjM (h:Heap) (x dx C:Addr) (mA:Str->Option Value):Prop where
 obj:h.get? x=some (PySem.W.instObj C dx)
 ns:h.Ns1 dx mA
 ne:dx≠x
theorem Q5 {h:Heap}{dx:Addr}{mA:Str->Option Value}(n:h.Ns1 dx mA):∃od,h.get? dx=some od/\∀name,PySem.W.lookIn name od=some (mA name):=by
 obtain⟨o,es,ep,ho,hd,hk,_,hm⟩:=n;refine⟨o,ho,λname=>?_⟩;have e:=hm name;unfold nsFind findBy at e;rw[<-Array.find?_toList] at e;unfold PySem.W.lookIn;rw[hd];dsimp only
 split
 ·rename_i y q
  rw[q] at e;exact congrArg some e
 ·rename_i q
  rw[q] at e;have a:es.toList.any (·.refKey)=false:=by
   rw[List.any_eq_false];intro y hy;obtain⟨z,t,hkey⟩:=hk y (Array.mem_toList_iff.mp hy);simp[DictEntry.refKey,hkey]
  have a':¬es.toList.any (·.refKey)=true:=by rw[a];exact aB
  rw[aJ a'];exact congrArg some e
theorem ObjM.look {h:Heap}{x dx C:Addr}{mA:Str->Option Value}(I:ObjM h x dx C mA):∃od,PySem.W.InstAt h x (PySem.W.instObj C dx) C (some od)/\∀name,PySem.W.lookIn name od=some (mA name):=
 let⟨od,ho,hl⟩:=Q5 I.ns
 ⟨od,⟨I.obj,rfl,rfl,ho⟩,hl⟩
section
variable {prog:Program}{w:World}{A:Around}{E:Value->Shared->Prop}{s:Shared}{K:PySem.W.Frag}{x dx C f:Addr}{mA:Str->Option Value}{name:Str}{v:Value}
theorem get_map {expr:Bool} {Q:Value->Shared->Prop} (X:K.In s.heap) (I:ObjM s.heap x dx C mA) (hg:PySem.W.plainGet K C name=true) (hh:PySem.W.hasDictIn K C=true)
  (ha:PySem.W.findIn K (.ref C) name=some none) (hv:mA name=some v) (hv':PySem.W.handedIn v=true) (h:Q v { s with toks:=s.toks+1 }) :
  wpAny (model prog w) A (getAttr (.ref x) name expr) Q E s:=by
 obtain⟨od,J,hl⟩:=I.look;exact PySem.W.get_value X J (eS hg).1 (PySem.W.findObj_own hh ha rfl (by rw[hl,hv])) hv' h
theorem TF {pl:Sem Bool} {Q:Value×List Value->Shared->Prop} (X:K.In s.heap) (I:ObjM s.heap x dx C mA) (hg:PySem.W.plainGet K C name=true)
  (hf:PySem.W.findIn K (.ref C) name=some (some (.ref f))) (ht:PySem.W.isFn K (.ref f)=true) (hv:mA name=none) (h:Q (.ref f,[.ref x]) s) :
  wpAny (model prog w) A (getMethod (.ref x) name pl) Q E s:=by
 obtain⟨od,J,hl⟩:=I.look;exact PySem.W.method_fn X J (eS hg).1 (eS hg).2 hf (cQ.mp ht) (by show(PySem.W.lookIn name od).map (·.isSome)=some false;rw[hl,hv];rfl) h
theorem UI {ns:List Str} {Q:Unit->Shared->Prop} (X:K.In s.heap) (I:ObjM s.heap x dx C mA)
  (hs:PySem.W.findIn K (.ref C) "__setattr__"=some (some (.builtin "object.__setattr__"))) (hp:PySem.W.plainOver K C=true) (ht:PySem.W.takerIn K C name=some none) (hh:PySem.W.hasDictIn K C=true)
  (hw:PySem.Within mA ns) (hsz:ns.length<=sizeLine)
  (h:∀h',ObjM h' x dx C (λy=>if y=name then some v else mA y)->Heap.SameBut dx s.heap h'->Q () { s with heap:=h',toks:=s.toks+2 }) :
  wpAny (model prog w) A (setAttr (.ref x) name v) Q E s:=by
 obtain⟨od,J,hl⟩:=I.look;refine PySem.W.set_plain X J hs (PySem.W.osa_open (s:={ s with toks:=s.toks+1 }) (r:=none) X J hp ht λb=>?_);obtain⟨cd,hc,hd'⟩:=PySem.W.any_some hh;have hx:s.heap.get? x=some ⟨.ref C,some dx,.plain,#[]⟩:=I.obj;refine ae (ax (ae (ae (wpAny_loadPart hx (ae (PySem.W.Looks.here (s:={ s with toks:=s.toks+1 }) (PySem.W.looks_clsIn X hc) ?_))))));rw[hd'];refine ax (a:=some dx) (ae (ax (ae ?_)));refine wpAny_nsSet1 (s:={ s with toks:=s.toks+1 }) I.ns λh' hn2 hs2=>?_
 obtain⟨oD,esD,epD,hoD,hdD,hcD⟩:=hn2.count (PySem.Within.cons name v hw);refine ae (wpAny_lookBehind hoD (by rw[hdD];exact pastItsLine_dict (bA hcD (by rw[aX];omega))) ?_);exact ax (h _ ⟨(hs2.2 _ (Ne.symm I.ne)).trans I.obj,hn2,I.ne⟩ hs2)
theorem Sz {R:Result->Shared->Prop} {vs:List Value} {kw:List (Str×Value)} (X:K.In s.heap) (hm:PySem.W.makesIn K C=true)
  (hi:PySem.W.findIn K (.ref C) "__init__"=some (some (.ref f))) (hf:PySem.W.typeIn K (.ref f)=some (.type "function"))
  (h:codeAny (model prog w) (A.under (.builtin "type.__call__" ⟨.ref C::vs,kw⟩)) (.call (.ref f) ⟨.ref (s.heap.objs.size+1)::vs,kw⟩) (PySem.W.InitBack (s.heap.objs.size+1) R)
   { s with heap:=(s.heap.push PySem.W.emptyDict).push (PySem.W.instObj C s.heap.objs.size) }) :
  codeAny (model prog w) A (.call (.ref C) ⟨vs,kw⟩) R s:=by
 obtain⟨hh,g,d,t,os⟩:=s;exact PySem.W.make_core (PySem.W.makes_of X hm) (PySem.W.looks_findIn X hi) (λself=>PySem.W.bind_fn X self hf) (.inl rfl) h
end
def E7 (f:Str)(v:V):List (Str×V)->List (Str×V)
 |[]=>[(f,v)]
 |(g,x)::r=>if g=f then(g,v)::r else(g,x)::E7 f v r
theorem JN (f g:Str)(v:V):∀fs:List (Str×V),(E7 f v fs).lookup g=if g=f then some v else fs.lookup g
 |[]=>by
  show List.lookup g [(f,v)]=_
  by_cases h:g=f
  ·have hb:(g == f)=true:=cQ.mpr h;simp only[List.lookup,hb,if_pos h]
  ·have hb:(g == f)=false:=cz.mpr h;simp only[List.lookup,hb,if_neg h]
 |(k,x)::r=>by
  have ih:=JN f g v r;rw[show E7 f v ((k,x)::r)=(if k=f then(k,v)::r else(k,x)::E7 f v r) from rfl]
  by_cases hk:k=f
  ·rw[aG hk]
   by_cases h:g=k
   ·have hb:(g == k)=true:=cQ.mpr h;simp only[List.lookup,hb,if_pos (h.trans hk)]
   ·have hb:(g == k)=false:=cz.mpr h;simp only[List.lookup,hb,if_neg (λe:g=f=>h (e.trans hk.symm))]
  ·rw[aJ hk]
   by_cases h:g=k
   ·have hb:(g == k)=true:=cQ.mpr h;simp only[List.lookup,hb,if_neg (λe:g=f=>hk (h.symm.trans e))]
   ·have hb:(g == k)=false:=cz.mpr h;simp only[List.lookup,hb];exact ih
theorem Jr (f:Str)(v:V):∀fs:List (Str×V),f∈(E7 f v fs).map (·.1)/\∀g,g∈fs.map (·.1)->g∈(E7 f v fs).map (·.1)
 |[]=>⟨by simp[E7],λg h=>by simp at h⟩
 |(k,x)::r=>by
  obtain⟨i1,i2⟩:=Jr f v r;rw[show E7 f v ((k,x)::r)=(if k=f then(k,v)::r else(k,x)::E7 f v r) from rfl]
  by_cases hk:k=f
  ·rw[aG hk];subst hk;exact⟨by simp,λg h=>by simpa using h⟩
  ·rw[aJ hk];refine⟨?_,λg h=>?_⟩
   ·rw[ao];exact aI _ i1
   ·rw[ao] at h ⊢;rcases aL.mp h with e|e
    ·exact aL.mpr (.inl e)
    ·exact aI _ (i2 g e)
theorem JV (f:Str)(v:V):∀fs:List (Str×V),(E7 f v fs).length<=fs.length+1
 |[]=>by simp[E7]
 |(k,x)::r=>by
  have ih:=JV f v r;rw[show E7 f v ((k,x)::r)=(if k=f then(k,v)::r else(k,x)::E7 f v r) from rfl]
  by_cases hk:k=f
  ·rw[aG hk,aX,aX];omega
  ·rw[aJ hk,aX,aX];omega
theorem FF.some_of {v:V}{o:Option Value}(r:FF (some v) o):∃u,o=some u/\RelV v u:=by
 cases o with
 |none=>exact(show False from r).elim
 |some u=>exact⟨u,rfl,r⟩
theorem FF.none_of {o:Option Value}(r:FF none o):o=none:=by
 cases o with
 |none=>rfl
 |some u=>exact(show False from r).elim
theorem QT {v:V}{u:Value}(r:RelV v u):PySem.W.handedIn u=true:=by
 cases v with
 |non=>cases(show u=Value.none from r);rfl
 |bl b=>cases(show u=Value.bool b from r);rfl
 |int i=>obtain⟨t,e⟩:=(show ∃t,u=Value.int i t from r);cases e;rfl
 |str x=>obtain⟨t,e⟩:=(show ∃t,u=Value.str x t from r);cases e;rfl
 |byt b=>obtain⟨t,e⟩:=(show ∃t,u=Value.bytes b t from r);cases e;rfl
 |flt b=>obtain⟨t,e⟩:=(show ∃t,u=Value.float b t from r);cases e;rfl
 |ref a=>cases(show u=Value.ref a from r);rfl
 |ty n=>cases(show u=Value.type n from r);rfl
section
variable {P:Program}{w:World}{H H':Hp}{h h':Heap}{a C dx:Addr}{fs fs':List (Str×V)}
theorem Ko (hok:HC P w H h)(e:H a=some (.ins C dx fs)):∃mA,ObjM h a dx C mA/\(∀f,FF (fs.lookup f) (mA f))/\PySem.Within mA (fs.map (·.1))/\fs.length<=1000/\H dx=some (.own a):=by
 obtain⟨d,z,ne,ob,mA,n,r,q⟩:=(show Ba P w H h a (.ins C dx fs) from hok a _ e)
 exact⟨mA,⟨ob,n,ne⟩,r,q,z,d⟩
end
structure Ja (K:PySem.W.Frag) (C:Addr):Prop where
 pg:PySem.W.plainGet K C Str.empty=true
 hd:PySem.W.hasDictIn K C=true
 po:PySem.W.plainOver K C=true
 sa:PySem.W.findIn K (.ref C) "__setattr__"=some (some (.builtin "object.__setattr__"))
theorem Ja.get {K:PySem.W.Frag}{C:Addr}(c:Ja K C)(f:Str):PySem.W.plainGet K C f=true:=c.pg
def BU (K:PySem.W.Frag)(C:Addr)(f:Str):Prop:=PySem.W.findIn K (.ref C) f=some none
theorem BU.taker {K:PySem.W.Frag}{C:Addr}{f:Str}(n:BU K C f):PySem.W.takerIn K C f=some none:=by
 unfold PySem.W.takerIn;rw[show PySem.W.findIn K (.ref C) f=some none from n];rfl
structure Meth (K:PySem.W.Frag) (C:Addr) (m:Str) (f:Addr):Prop where
 at_:PySem.W.findIn K (.ref C) m=some (some (.ref f))
 fn:PySem.W.isFn K (.ref f)=true
 kp:PySem.W.keepIn K (.ref f)=true
section
variable {X:Cx}{pins:List (Addr×Obj)}{σ:St}{H:Hp}{s:Shared}{a C dx:Addr}{fs:List (Str×V)}{f:Str}{v:V}{A:Around}{E:Value->Shared->Prop}
theorem K3 {b:Bool} {Q:Value->Shared->Prop} (I:Inv X pins σ H s) (e:H a=some (.ins C dx fs)) (c:Ja X.K C) (n:BU X.K C f) (l:fs.lookup f=some v)
  (h:∀u s',Inv X pins σ H s'->RelV v u->Q u s'):wpAny (model X.prog X.w) A (getAttr (.ref a) f b) Q E s:=by
 obtain⟨mA,O,r,_,_,_⟩:=Ko I.hok e;obtain⟨u,hu,ru⟩:=FF.some_of (v:=v) (o:=mA f) (by rw[<-l];exact r f);exact get_map I.kIn O (c.get f) c.hd n hu (QT ru) (h u _ (I.tok _) ru)
theorem HL {m:Str} {g:Addr} {pl:Sem Bool} {Q:Value×List Value->Shared->Prop} (I:Inv X pins σ H s) (e:H a=some (.ins C dx fs)) (c:Ja X.K C) (k:Meth X.K C m g) (l:fs.lookup m=none)
  (h:Q (.ref g,[.ref a]) s):wpAny (model X.prog X.w) A (getMethod (.ref a) m pl) Q E s:=by
 obtain⟨mA,O,r,_,_,_⟩:=Ko I.hok e;have hn:mA m=none:=FF.none_of (by rw[<-l];exact r m);exact TF I.kIn O (c.get m) k.at_ k.fn hn h
theorem Kq {y:V} {u:Value} {Q:Unit->Shared->Prop} (I:Inv X pins σ H s) (e:H a=some (.ins C dx fs)) (c:Ja X.K C) (n:BU X.K C f) (hl:fs.length<1000) (ry:RelV y u)
  (h:∀s',Inv X pins σ (upd H a (.ins C dx (E7 f y fs))) s'->Q () s'):wpAny (model X.prog X.w) A (setAttr (.ref a) f u) Q E s:=by
 obtain⟨mA,O,r,wi,_,ho⟩:=Ko I.hok e;have hz:(fs.map (·.1)).length<=sizeLine:=by rw[aa,bE];omega
 refine UI I.kIn O c.sa c.po n.taker c.hd wi hz λh' O' sb=>h _ ?_
 have hd:∃o,h'.get? dx=some o:=let⟨o,_,_,e',_⟩:=O'.ns;⟨o,e'⟩;refine I.write (x:=a) (e:=dx) (by rw[e];exact True.intro) (.inr ho) (λb q hb z=>(sb.2 b hb).trans z) hd ?_;refine⟨by rw[Ah O.ne];exact ho,?_,O.ne,O'.obj,_,O'.ns,λg=>?_,λg hg=>?_⟩
 ·have:=JV f y fs;omega
 ·show FF ((E7 f y fs).lookup g) (if g=f then some u else mA g);rw[JN]
  by_cases q:g=f
  ·rw[aG q,aG q];exact ry
  ·rw[aJ q,aJ q];exact r g
 ·by_cases q:g=f
  ·rw[q];exact(Jr f y fs).1
  ·refine(Jr f y fs).2 g (wi g λz=>hg ?_);show(if g=f then some u else mA g)=none;rw[aJ q];exact z
theorem Inv.made (I:Inv X pins σ H s):Inv X pins σ (upd (upd H s.heap.objs.size (.own (s.heap.objs.size+1))) (s.heap.objs.size+1) (.ins C s.heap.objs.size []))
  { s with heap:=(s.heap.push PySem.W.emptyDict).push (PySem.W.instObj C s.heap.objs.size) }:=by
 have e1:(s.heap.push PySem.W.emptyDict).get? s.heap.objs.size=some PySem.W.emptyDict:=aM s.heap rfl;have e2:((s.heap.push PySem.W.emptyDict).push (PySem.W.instObj C s.heap.objs.size)).get? (s.heap.objs.size+1)=some (PySem.W.instObj C s.heap.objs.size):=by
  have:=aM (s.heap.push PySem.W.emptyDict) (o:=PySem.W.instObj C s.heap.objs.size) rfl
  rwa [bT] at this
 have e3:(s.heap.push PySem.W.emptyDict).Ns s.heap.objs.size (λ_=>none):=⟨PySem.W.emptyDict,#[],_,e1,rfl,(λe he=>absurd he (by simp)),λ_=>rfl⟩
 have I1:=I.laid (a:=s.heap.objs.size) (o:=.own (s.heap.objs.size+1)) (h':=s.heap.push PySem.W.emptyDict) (t':=s.toks) (λb u q=>ah _ q) (ar _) ⟨_,e1⟩;refine I1.laid (a:=s.heap.objs.size+1) (o:=.ins C s.heap.objs.size []) (t':=s.toks) (λb u q=>ah _ q) (cS (bT _ _)) ?_;have ne:s.heap.objs.size≠s.heap.objs.size+1:=aR (cR _);refine⟨by rw[Ah ne,Ad],bC _,ne,e2,λ_=>none,(Heap.Ns1.of_empty e3).at λo q=>ah _ q,λ_=>True.intro,λy hy=>absurd rfl hy⟩
theorem UF {prog:Program} {w:World} {env:Env} {e:Expr} {f:Str} {pos:Pos} {s:Shared} {Q:Value->Shared->Prop} (hb:attributeBase e f env (eval e env)=eval e env)
  (h:wpAny (model prog w) A (eval e env) (λo s₁=>wpAny (model prog w) A (getAttr o f true) Q E s₁) E s):wpAny (model prog w) A (eval (.Attribute e f pos) env) Q E s:=
 Attribute_any_ h (by rw[arm_eval_Attribute,hb])
end
def XQ (K:PySem.W.Frag)(ta:TE)(f:Str):TE:=λσ H Q=>ta σ H λx H1=>∃a C dx fs v,x=.ref a/\H1 a=some (.ins C dx fs)/\Ja K C/\BU K C f/\fs.lookup f=some v/\Q v H1
def XJ (K:PySem.W.Frag)(ta tv:TE)(f:Str):TS:=λD σ H=>tv σ H λy H1=>ta σ H1 λx H2=>∃a C dx fs,x=.ref a/\H2 a=some (.ins C dx fs)/\Ja K C/\BU K C f/\fs.length<1000/\
 D.nx σ (upd H2 a (.ins C dx (E7 f y fs)))
def XA (X:Cx)(op:Operator)(rd:V->V->Hp->VK->Prop):Prop:=
 ∀(pins:List (Addr×Obj)) (s:Shared) (σ:St) (H:Hp) (x y:V) (u v:Value) (Q:VK),Inv X pins σ H s->RelV x u->RelV y v->rd x y H Q->wpAny (model X.prog X.w) X.A (inplaceOp op u v) (EP X pins σ Q) X.xe s
def UA (K:PySem.W.Frag)(ta tv:TE)(rd:V->V->Hp->VK->Prop)(f:Str):TS:=λD σ H=>ta σ H λx H1=>∃a C dx fs v,x=.ref a/\H1 a=some (.ins C dx fs)/\Ja K C/\BU K C f/\fs.lookup f=some v/\
 tv σ H1 λy H2=>rd v y H2 λz H3=>∃dx' fs',H3 a=some (.ins C dx' fs')/\fs'.length<1000/\D.nx σ (upd H3 a (.ins C dx' (E7 f z fs')))
section
variable {X:Cx}{o e value:Expr}{f:Str}{pos pos' tpos:Pos}{ta tv:TE}
theorem BK (he:PE X e ta)(hb:attributeBase e f X.env (eval e X.env)=eval e X.env):PE X (.Attribute e f pos) (XQ X.K ta f):=by
 intro pins s σ H Q I h;refine UF hb (Bc (he pins s σ H _ I h) λu s1 z9=>?_);obtain⟨x,H1,I1,rx,a,C,dx,fs,v,ex,ea,c,n,l,q⟩:=z9;subst ex;obtain rfl:u=Value.ref a:=rx;exact K3 I1 ea c n l λu' s2 I2 ru=>⟨v,H1,I2,ru,q⟩
theorem CY (ha:PE X o ta)(hv:PE X value tv)(hs:swapsWith value (some (.Attribute o f pos')) pos.line X.env=pure false):PS X (.Assign [.Attribute o f pos'] value pos) (XJ X.K ta tv f):=by
 intro pins s σ H D I h;refine plainObj_wpAny_Assign_Attribute (Bc (hv pins s σ H _ I h) λu s1 ⟨y,H1,I1,ry,q⟩=>Bc (ha pins s1 σ H1 _ I1 q) λov s2 z9=>?_) hs;obtain⟨x,H2,I2,rx,a,C,dx,fs,ex,ea,c,n,l,q2⟩:=z9;subst ex;obtain rfl:ov=Value.ref a:=rx;exact Kq I2 ea c n l ry λs3 I3=>⟨σ,_,I3,q2⟩
theorem LG {op:Operator}{rd:V->V->Hp->VK->Prop}(ha:PE X o ta)(hv:PE X value tv)(hop:XA X op rd):PS X (.AugAssign (.Attribute o f tpos) op value pos) (UA X.K ta tv rd f):=by
 intro pins s σ H D I h;refine wpAny_AugAssign_AttributeAny (Bc (ha pins s σ H _ I h) λov s1 z9=>?_);obtain⟨x,H1,I1,rx,a,C,dx,fs,v,ex,ea,c,n,l,q⟩:=z9;subst ex;obtain rfl:ov=Value.ref a:=rx;refine K3 I1 ea c n l λu s2 I2 ru=>Bc (hv pins s2 σ H1 _ I2 q) λw3 s3 ⟨y,H2,I3,ry,q3⟩=>Bc (hop pins s3 σ H2 v y u w3 _ I3 ru ry q3) λw4 s4 z9=>?_
 obtain⟨z,H3,I4,rz,dx',fs',ea',l',q4⟩:=z9;exact Kq I4 ea' c n l' rz λs5 I5=>⟨σ,_,I5,q4⟩
theorem Vm {pl:Sem Bool} {m:Str} {apos:Pos} {args:List Expr} {pins:List (Addr×Obj)} {s:Shared} {σ:St} {H:Hp} {Q:Value->Shared->Prop} {te:TE} (he:PE X e te) (I:Inv X pins σ H s)
  (h:te σ H λx H1=>∃a C dx fs g,x=.ref a/\H1 a=some (.ins C dx fs)/\Ja X.K C/\Meth X.K C m g/\fs.lookup m=none/\
   ∀s1,Inv X pins σ H1 s1->wpAny (model X.prog X.w) X.A (callWith pos (.ref g) [.ref a] (backTo pos (starEach args X.env)) (backToKw pos (keywordEach [] X.env))) Q X.xe s1)
  (ht:eval (.Call (.Attribute e m apos) args [] pos) X.env=(do
   let ov <-eval e X.env
   standAt apos.atName
   let(f,first) <-holding [ov] (getMethod ov m pl)
   callWith pos f first (backTo pos (starEach args X.env)) (backToKw pos (keywordEach [] X.env)))) :
  wpAny (model X.prog X.w) X.A (eval (.Call (.Attribute e m apos) args [] pos) X.env) Q X.xe s:=by
 refine eK (pl:=pl) (Bc (he pins s σ H _ I h) λu s1 z9=>?_) ht;obtain⟨x,H1,I1,rx,a,C,dx,fs,g,ex,ea,c,k,l,q⟩:=z9;subst ex;obtain rfl:u=Value.ref a:=rx;exact HL I1 ea c k l (q s1 I1)
end
section
variable {X:Cx}{pins:List (Addr×Obj)}{σ:St}{H:Hp}{s:Shared}{A:Around}{E:Value->Shared->Prop}{Q:Value->Shared->Prop}{c:Value}{b:Bool}
inductive TyOf (K:PySem.W.Frag) (H:Hp):V->Value->Prop where
 |non:TyOf K H .non (.type "NoneType")
 |bl (x:Bool):TyOf K H (.bl x) (.type "bool")
 |int (i:Int):TyOf K H (.int i) (.type "int")
 |str (x:Str):TyOf K H (.str x) (.type "str")
 |flt (x:UInt64):TyOf K H (.flt x) (.type "float")
 |lst {a:Addr} {xs:List V} (e:H a=some (.lst xs)):TyOf K H (.ref a) (.type "list")
 |frz {a:Addr} {o:Obj} {xs:List V} (e:H a=some (.frz o (.lst xs))):TyOf K H (.ref a) (.type "list")
 |tup {a:Addr} {xs:List V} (e:H a=some (.tup xs)):TyOf K H (.ref a) (.type "tuple")
 |dK {a:Addr} {kvs:List (Key×V)} (e:H a=some (.dK kvs)):TyOf K H (.ref a) (.type "dict")
 |dT {a:Addr} {kvs:List (List Key×V)} (e:H a=some (.dT kvs)):TyOf K H (.ref a) (.type "dict")
 |ins {a C dx:Addr} {fs:List (Str×V)} (e:H a=some (.ins C dx fs)) (cl:Ja K C) (ha:PySem.W.findIn K (.ref C) "__class__"=some (some (.builtin "object.__class__")))
   (hn:PySem.W.specialIn K (.builtin "object.__class__") "__get__"=some (some (.builtin "getset_descriptor.__get__"))) (htk:PySem.W.takesIn K (.builtin "object.__class__")=some true)
   (hm:PySem.W.mroIn K C (.type "object")=some true):TyOf K H (.ref a) (.ref C)
theorem Rm {x:V}{u t:Value}(I:Inv X pins σ H s)(rx:RelV x u)(ty:TyOf X.K H x t)(e:PySem.W.kitOne X.K t c=some b)(h:∀tk,Q (.bool b) { s with toks:=tk }) :
  wpAny (model X.prog X.w) A (call (.builtin "isinstance") [u,c]) Q E s:=by
 cases ty with
 |non=>cases(show u=Value.none from rx);exact bZ PySem.W.kitx_none I.kIn True.intro e (λz=>nomatch z) h
 |bl y=>cases(show u=Value.bool y from rx);exact bZ PySem.W.kitx_bool I.kIn True.intro e (λz=>nomatch z) h
 |int i=>obtain⟨t,q⟩:=(show ∃t,u=Value.int i t from rx);cases q;exact bZ PySem.W.kitx_int I.kIn True.intro e (λz=>nomatch z) h
 |str y=>obtain⟨t,q⟩:=(show ∃t,u=Value.str y t from rx);cases q;exact bZ PySem.W.kitx_str I.kIn True.intro e (λz=>nomatch z) h
 |flt y=>obtain⟨t,q⟩:=(show ∃t,u=Value.float y t from rx);cases q;exact bZ PySem.W.kitx_float I.kIn True.intro e (λz=>nomatch z) h
 |@lst a xs ea=>
  cases(show u=Value.ref a from rx);obtain⟨_,_,n,_,h1⟩:=(show Ba X.prog X.w H s.heap a (.lst xs) from I.hok a _ ea)
  exact bZ PySem.W.kitx_list I.kIn ⟨_,h1,rfl⟩ e (λz=>nomatch z) h
 |@frz a ob xs ea=>
  cases(show u=Value.ref a from rx);obtain⟨_,_,_,n,_,h1⟩:=(show Ba X.prog X.w H s.heap a (.frz ob (.lst xs)) from I.hok a _ ea)
  exact bZ PySem.W.kitx_list I.kIn ⟨_,h1,rfl⟩ e (λz=>nomatch z) h
 |@tup a xs ea=>
  cases(show u=Value.ref a from rx);obtain⟨_,_,_,p⟩:=(show Ba X.prog X.w H s.heap a (.tup xs) from I.hok a _ ea)
  obtain⟨o,h1,h2,_⟩:=p;exact bZ PySem.W.kitx_tuple I.kIn ⟨o,h1,h2⟩ e (λz=>nomatch z) h
 |@dK a kvs ea=>
  cases(show u=Value.ref a from rx);obtain⟨_,_,vs,_,p⟩:=(show Ba X.prog X.w H s.heap a (.dK kvs) from I.hok a _ ea)
  obtain⟨o,es,ep,h1,h2,_⟩:=p;exact bZ PySem.W.kitx_dict I.kIn ⟨o,h1,h2.1⟩ e (λz=>nomatch z) h
 |@dT a kvs ea=>
  cases(show u=Value.ref a from rx);obtain⟨_,_,xs,_,o,es,ep,h1,h2,_⟩:=(show Ba X.prog X.w H s.heap a (.dT kvs) from I.hok a _ ea)
  exact bZ PySem.W.kitx_dict I.kIn ⟨o,h1,h2.1⟩ e (λz=>nomatch z) h
 |@ins a C dx fs ea cl ha hn htk hm=>
  cases(show u=Value.ref a from rx);obtain⟨mA,O,_⟩:=Ko I.hok ea;obtain⟨od,J,_⟩:=O.look;exact bZ (PySem.W.kitx_own (cl.get _) cl.hd ha hn htk hm) I.kIn J e (λz=>nomatch z) h
end
structure Room (k:Nat) (A:Around):Prop where
 hd:A.handled=none
 dp:A.depth+3*k+5<recursionLimit
 un:A.units+16*k+200<cLine
theorem Room.mono {j k:Nat}{A:Around}(r:Room k A)(h:j<=k):Room j A:=⟨r.hd,by have:=r.dp;omega,by have:=r.un;omega⟩
theorem Room.deeper {k:Nat}{A:Around}(r:Room (k+1) A)(env:Env):Room k (A.deeper env):=
 ⟨r.hd,by have:=r.dp;show A.depth+1+3*k+5<_;omega,by have:=r.un;show A.units+3+16*k+200<_;omega⟩
theorem Room.in1 {k:Nat}{A:Around}(r:Room (k+1) A):Room k A.in1:=
 ⟨r.hd,by have:=r.dp;show A.depth+3*k+5<_;omega,by have:=r.un;show A.units+1+16*k+200<_;omega⟩
theorem PM {A:Around}{C:Addr}{us:List Value}{kw:List (Str×Value)}:(A.under (.builtin "type.__call__" ⟨.ref C::us,kw⟩)).depth=A.depth+1:=by
 first|rfl|simp[Around.under,Code.weight,Code.isCreation,Code.isGuard,Code.isCaller,Code.frames,Code.isFrame,guardIds]
theorem OI {A:Around}{C:Addr}{us:List Value}{kw:List (Str×Value)}:(A.under (.builtin "type.__call__" ⟨.ref C::us,kw⟩)).units=A.units+1:=by
 first|rfl|simp[Around.under,Code.cUnits,Code.frames,Code.isFrame]
theorem Room.make {k:Nat}{A:Around}(r:Room (k+1) A)(C:Addr)(us:List Value)(kw:List (Str×Value)):Room k (A.under (.builtin "type.__call__" ⟨.ref C::us,kw⟩)):=
 ⟨r.hd,by have:=r.dp;rw[PM];omega,by have:=r.un;rw[OI];omega⟩
theorem Room.depth {k:Nat}{A:Around}(r:Room k A):A.depth<recursionLimit:=by have:=r.dp;omega
theorem Room.units {k:Nat}{A:Around}(r:Room k A):A.units+64<cLine:=by have:=r.un;omega
def QI:TA:=λ_ H Q=>Q [] H
def Vp (ta:TE)(tr:TA):TA:=λσ H Q=>ta σ H λx H1=>tr σ H1 λxs H2=>Q (x::xs) H2
section
variable {X:Cx}{e:Expr}{es:List Expr}{te:TE}{t:TA}{pos:Pos}
theorem Af:PA X [] QI:=λ_ _ _ _ H Q I h=>fQ ⟨[],H,I,.nil,h⟩
theorem Ab (ha:PE X e te)(hr:PA X es t)(hs:starEach (e::es) X.env=(false,eval e X.env)::starEach es X.env:=by rfl):PA X (e::es) (Vp te t):=by
 intro pos pins s σ H Q I h;rw[hs];show wpAny _ _ (spliced ((false,eval e X.env)::backTo pos (starEach es X.env))) _ _ s;refine dr (Bc (ha pins s σ H _ I h) λu s1 ⟨x,H1,I1,r1,q1⟩=>?_);exact Bc (hr pos pins s1 σ H1 _ I1 q1) λus s2 ⟨xs,H2,I2,r2,q2⟩=>⟨x::xs,H2,I2,.cons r1 r2,q2⟩
def XH (t:TA):TE:=λσ H Q=>t σ H λxs H1=>xs.length<=sizeLine/\∀p,H1 p=none->Q (.ref p) (upd H1 p (.tup xs))
def X6 (t:TA):TE:=λσ H Q=>t σ H λxs H1=>xs.length<=sizeLine/\∀p,H1 p=none->Q (.ref p) (upd H1 p (.lst xs))
theorem BF {x1}(h:PA X es t):PE X (.Tuple es x1 pos) (XH t):=by
 intro pins s σ H Q I hq;refine wpAny_Tuple_spliced (Bc (h pos pins s σ H _ I hq) λus s1 ⟨xs,H1,I1,r,z,q⟩=>⟨by rw[<-r.length];exact z,?_⟩);have hf:H1 s1.heap.objs.size=none:=I1.hok.fresh (ar _);refine⟨.ref s1.heap.objs.size,upd H1 s1.heap.objs.size (.tup xs),I1.laid (t':=s1.toks) (λb u e=>ah _ e) (ar _) ?_,rfl,q _ hf⟩;exact⟨z,us,r,⟨_,aM _ rfl,rfl,_,rfl,λ_=>rfl⟩⟩
theorem Bb (h:PA X es t):PE X (.List es pos) (X6 t):=by
 intro pins s σ H Q I hq;refine wpAny_List_spliced (Bc (h pos pins s σ H _ I hq) λus s1 ⟨xs,H1,I1,r,z,q⟩=>⟨by rw[<-r.length];exact z,?_⟩);have hf:H1 s1.heap.objs.size=none:=I1.hok.fresh (ar _);refine⟨.ref s1.heap.objs.size,upd H1 s1.heap.objs.size (.lst xs),I1.laid (t':=s1.toks) (λb u e=>ah _ e) (ar _) ?_,rfl,q _ hf⟩;exact⟨z,us,0,r,aM _ rfl⟩
end
abbrev Sp:=List V->Hp->VK->XK->Prop
abbrev RB:=List Env->Hp->Shared->XK->Value->Shared->Prop
structure Env0 (P:Program) (w:World) (K:PySem.W.Frag) (mg:Str->Option Value) (base:Heap) (A:Around) (outer:List Env) (s:Shared) (H:Hp):Prop where
 frames:A.frames=some outer
 mod:Mod K mg base
 bs:∀b o,base.get? b=some o->s.heap.get? b=some o/\H b=none
 bsz:base.objs.size<=s.heap.objs.size
 funs:s.heap.FunFrames base outer
 frf:∀b∈MJ outer,H b=none
 hok:HC P w H s.heap
 bare:AllBare s.gens
def CE (outer:List Env)(P:Program)(w:World)(H:Hp)(s:Shared)(Q:VK)(u:Value)(s':Shared):Prop:=
 ∃v H',s'.os=s.os/\AllBare s'.gens/\Un (MJ outer) [] H H' s.heap s'.heap/\HC P w H' s'.heap/\RelV v u/\Q v H'
def CR (CX:RB)(outer:List Env)(P:Program)(w:World)(H:Hp)(s:Shared)(Q:VK)(E:XK)(r:Result)(s':Shared):Prop:=
 match r with
 | .ok (.ret u)=>CE outer P w H s Q u s'
 | .ok _=>False
 | .error e=>CX outer H s E e s'
structure FnOk (P:Program) (w:World) (K:PySem.W.Frag) (mg:Str->Option Value) (base:Heap) (CX:RB) (k:Nat) (f:Addr) (fd:FuncData) (ps:List Str) (sp:Sp):Prop where
 len:∀vs H Q E,sp vs H Q E->vs.length=ps.length
 run:∀(A:Around) (outer:List Env) (s:Shared) (H:Hp) (args:Args) (us:List Value) (vs:List V) (Q:VK) (E:XK),Room k A->Env0 P w K mg base A outer s H->BindsTo s fd args (ps.zip us)->AG vs us->sp vs H Q E->
  codeAny (model P w) A (.call (.ref f) args) (CR CX outer P w H s Q E) s
theorem FnOk.imp {P:Program} {w:World} {K:PySem.W.Frag} {mg:Str->Option Value} {base:Heap} {CX:RB} {k:Nat} {f:Addr} {fd:FuncData} {ps:List Str} {sp sp':Sp} (F:FnOk P w K mg base CX k f fd ps sp)
  (h:∀vs H Q E,sp' vs H Q E->sp vs H Q E):FnOk P w K mg base CX k f fd ps sp':=
 ⟨λvs H Q E q=>F.len vs H Q E (h _ _ _ _ q),λA outer s H args us vs Q E hr he hb hv hs=>F.run A outer s H args us vs Q E hr he hb hv (h _ _ _ _ hs)⟩
theorem Env0.make {P:Program}{w:World}{K:PySem.W.Frag}{mg:Str->Option Value}{base:Heap}{A:Around}{outer:List Env}{s:Shared}{H:Hp}(e:Env0 P w K mg base A outer s H)(C:Addr)(us:List Value)(kw:List (Str×Value)) :
  Env0 P w K mg base (A.under (.builtin "type.__call__" ⟨.ref C::us,kw⟩)) outer s H:=⟨by first|exact e.frames|(simpa [Around.under,Code.envs,Code.isFrame,pushEnvs] using e.frames),e.mod,e.bs,e.bsz,e.funs,e.frf,e.hok,e.bare⟩
theorem Env0.in1 {P:Program}{w:World}{K:PySem.W.Frag}{mg:Str->Option Value}{base:Heap}{A:Around}{outer:List Env}{s:Shared}{H:Hp}(e:Env0 P w K mg base A outer s H) :
  Env0 P w K mg base A.in1 outer s H:=⟨e.frames,e.mod,e.bs,e.bsz,e.funs,e.frf,e.hok,e.bare⟩
section
variable {X:Cx}{pins:List (Addr×Obj)}{σ:St}{H:Hp}{s s':Shared}
theorem Inv.env0 (I:Inv X pins σ H s):Env0 X.prog X.w X.K X.mg X.base X.A X.stack s H:=
 ⟨I.ok.frames,I.ok.mod,I.bs,bA I.ok.bsz I.sz,I.stack,I.stkFree,I.hok,I.bare⟩
theorem Inv.after {Q:VK}{u:Value}(I:Inv X pins σ H s)(h:CE X.stack X.prog X.w H s Q u s'):EP X pins σ Q u s':=by
 obtain⟨v,H',os,bare,un,hok,r,q⟩:=h;obtain⟨hh,g,d,t,os'⟩:=s';obtain rfl:os'=s.os:=os;exact⟨v,H',I.call (h':=hh) (g':=g) (d':=d) (t':=t) (ch:=[]) un hok bare (λb z=>absurd z (by simp)),r,q⟩
end
def Vu (sp:Sp)(dvs:List V)(E:XK)(t:TA):TE:=λσ H Q=>t σ H λvs H1=>sp (vs++dvs) H1 Q E
def PU (C:Addr)(m:Str)(sp:Sp)(dvs:List V)(E:XK)(ta:TE)(t:TA):TE:=λσ H Q=>ta σ H λx H1=>∃a dx fs,x=.ref a/\H1 a=some (.ins C dx fs)/\fs.lookup m=none/\
 t σ H1 λvs H2=>sp (x::(vs++dvs)) H2 Q E
def Vg (C:Addr)(sp:Sp)(dvs:List V)(E:XK)(t:TA):TE:=λσ H Q=>t σ H λvs H1=>∀x dx,H1 x=none->H1 dx=none->dx≠x->
 sp (.ref x::(vs++dvs)) (upd (upd H1 dx (.own x)) x (.ins C dx [])) (λv H2=>v=.non/\Q (.ref x) H2) E
def Binds (K:PySem.W.Frag)(fd:FuncData)(ps:List Str)(ds:List Value):Prop:=
 ∀(s:Shared) (us:List Value),K.In s.heap->(us++ds).length=ps.length->BindsTo s fd ⟨us,[]⟩ (ps.zip (us++ds))
theorem Binds.all {K:PySem.W.Frag}{fd:FuncData}{ps:List Str}(h:∀us:List Value,us.length=ps.length->bindArgs fd ⟨us,[]⟩=pure (ps.zip us)):Binds K fd ps []:=λs us _ hl=>by
 rw[cn] at hl ⊢;exact .of_eq (h us hl)
def HF (CX:RB)(X:Cx)(E:XK):Prop:=∀(pins:List (Addr×Obj)) (σ:St) (H:Hp) (s:Shared) (e:Value) (s':Shared),Inv X pins σ H s->CX X.stack H s E e s'->X.xe e s'
section
variable {X:Cx}{CX:RB}{k:Nat}{f C:Addr}{fd:FuncData}{ps:List Str}{sp:Sp}{dvs:List V}{ds:List Value}{E:XK}{x m:Str}{p pos apos:Pos}{e o:Expr}{es:List Expr}{ta:TE}{t:TA}
theorem Pn {pins:List (Addr×Obj)} {σ:St} {H:Hp} {s:Shared} {Q:VK} {us:List Value} {vs:List V} (F:FnOk X.prog X.w X.K X.mg X.base CX k f fd ps sp) (hr:Room k X.A) (hb:Binds X.K fd ps ds) (hd:AG dvs ds) (hx:HF CX X E)
  (I:Inv X pins σ H s) (r:AG vs us) (h:sp (vs++dvs) H Q E):wpAny (model X.prog X.w) X.A (call (.ref f) us) (EP X pins σ Q) X.xe s:=by
 have r2:AG (vs++dvs) (us++ds):=r.append hd;have hl:(us++ds).length=ps.length:=by rw[<-r2.length];exact F.len _ _ _ _ h
 refine gA (eR (F.run X.A X.stack s H ⟨us,[]⟩ (us++ds) (vs++dvs) Q E hr I.env0 (hb s us I.kIn hl) r2 h) λr s' hq=>?_);cases r with
 |error e=>exact hx pins σ H s e s' I hq
 |ok fl=>
  cases fl with
  |ret u=>exact I.after hq
  |next=>exact False.elim hq
  |brk=>exact False.elim hq
  |cont=>exact False.elim hq
theorem UM (F:FnOk X.prog X.w X.K X.mg X.base CX k f fd ps sp) (hr:Room k X.A) (hg:Gl X x) (hm:X.mg x=some (.ref f)) (hk:PySem.W.keepIn X.K (.ref f)=true) (hb:Binds X.K fd ps ds) (hd:AG dvs ds) (hx:HF CX X E)
  (ha:PA X (e::es) t) (hdb:(x == ("__debug__":Str))=false:=by decide) (he:starEach (e::es) X.env=(false,eval e X.env)::starEach es X.env:=by rfl) (hpl:(backTo pos (starEach es X.env)).any (·.1)=false:=by rfl) :
  PE X (.Call (.Name x p) (e::es) [] pos) (Vu sp dvs E t):=by
 intro pins s σ H Q I h;refine cO (Kj I hg hm ?_ hdb);refine eW (h₀:=X.base) I.ok.mod.kin hk (Bc (ha pos pins s σ H _ I h) λus s1 ⟨vs,H1,I1,r,q⟩=>⟨I1.kIn,?_⟩) he hpl;exact Pn F hr hb hd hx I1 r q
theorem UC {pl:Sem Bool} (he:PE X o ta) (c:Ja X.K C) (hm:Meth X.K C m f) (F:FnOk X.prog X.w X.K X.mg X.base CX k f fd ps sp) (hr:Room k X.A) (hb:Binds X.K fd ps ds) (hd:AG dvs ds) (hx:HF CX X E) (ha:PA X (e::es) t)
  (hst:starEach (e::es) X.env=(false,eval e X.env)::starEach es X.env:=by rfl) (hpl:(backTo pos (starEach es X.env)).any (·.1)=false:=by rfl)
  (ht:eval (.Call (.Attribute o m apos) (e::es) [] pos) X.env=(do
   let ov <-eval o X.env
   standAt apos.atName
   let(f,first) <-holding [ov] (getMethod ov m pl)
   callWith pos f first (backTo pos (starEach (e::es) X.env)) (backToKw pos (keywordEach [] X.env))):=by rfl) :
  PE X (.Call (.Attribute o m apos) (e::es) [] pos) (PU C m sp dvs E ta t):=by
 intro pins s σ H Q I h;refine eK (pl:=pl) (Bc (he pins s σ H _ I h) λu s1 z9=>?_) ht;obtain⟨x,H1,I1,rx,a,dx,fs,ex,ea,l,q⟩:=z9;subst ex;obtain rfl:u=Value.ref a:=rx;refine HL I1 ea c hm l ?_;refine eW (first:=[.ref a]) (h₀:=X.base) I.ok.mod.kin hm.kp (Bc (ha pos pins s1 σ H1 _ I1 q) λus s2 ⟨vs,H2,I2,r,q2⟩=>⟨I2.kIn,?_⟩) hst hpl;exact Pn (us:=.ref a::us) (vs:=.ref a::vs) F hr hb hd hx I2 (.cons rfl r) q2
theorem SM {pl:Sem Bool} (he:PE X o ta) (c:Ja X.K C) (hm:Meth X.K C m f) (F:FnOk X.prog X.w X.K X.mg X.base CX k f fd ps sp) (hr:Room k X.A) (hb:Binds X.K fd ps ds) (hd:AG dvs ds) (hx:HF CX X E)
  (ht:eval (.Call (.Attribute o m apos) [] [] pos) X.env=(do
   let ov <-eval o X.env
   standAt apos.atName
   let(f,first) <-holding [ov] (getMethod ov m pl)
   callWith pos f first (backTo pos (starEach [] X.env)) (backToKw pos (keywordEach [] X.env))):=by rfl) :
  PE X (.Call (.Attribute o m apos) [] [] pos) (PU C m sp dvs E ta QI):=by
 intro pins s σ H Q I h;refine eK (pl:=pl) (Bc (he pins s σ H _ I h) λu s1 z9=>?_) ht;obtain⟨x,H1,I1,rx,a,dx,fs,ex,ea,l,q⟩:=z9;subst ex;obtain rfl:u=Value.ref a:=rx;refine HL I1 ea c hm l ?_;exact PySem.W.callWith_K0 (first:=[.ref a]) I1.kIn hm.kp (Pn (us:=[.ref a]) (vs:=[.ref a]) F hr hb hd hx I1 (.cons rfl .nil) q)
structure Mk (K:PySem.W.Frag) (C f:Addr):Prop where
 makes:PySem.W.makesIn K C=true
 init:PySem.W.findIn K (.ref C) "__init__"=some (some (.ref f))
 fn:PySem.W.isFn K (.ref f)=true
 kp:PySem.W.keepIn K (.ref C)=true
theorem Sy {pins:List (Addr×Obj)} {σ:St} {H:Hp} {s:Shared} {Q:VK} {us:List Value} {vs:List V} (M:Mk X.K C f) (F:FnOk X.prog X.w X.K X.mg X.base CX k f fd ps sp) (hr:Room (k+1) X.A) (hb:Binds X.K fd ps ds) (hd:AG dvs ds)
  (hx:HF CX X E) (I:Inv X pins σ H s) (r:AG vs us)
  (h:∀x dx,H x=none->H dx=none->dx≠x->sp (.ref x::(vs++dvs)) (upd (upd H dx (.own x)) x (.ins C dx [])) (λv H2=>v=.non/\Q (.ref x) H2) E) :
  wpAny (model X.prog X.w) X.A (call (.ref C) us) (EP X pins σ Q) X.xe s:=by
 have hq:=h (s.heap.objs.size+1) s.heap.objs.size (I.hok.fresh (gF _)) (I.hok.fresh (ar _)) (aR (cR _));have I2:=Inv.made (C:=C) I;have r2:AG (V.ref (s.heap.objs.size+1)::(vs++dvs)) (Value.ref (s.heap.objs.size+1)::(us++ds)):=.cons rfl (r.append hd);have hl:(Value.ref (s.heap.objs.size+1)::us++ds).length=ps.length:=by
  have e:=r2.length;rw[F.len _ _ _ _ hq] at e;exact e.symm
 refine gA (Sz (f:=f) I.kIn M.makes M.init (cQ.mp M.fn) (eR (F.run _ X.stack _ _ ⟨Value.ref (s.heap.objs.size+1)::us,[]⟩ (Value.ref (s.heap.objs.size+1)::(us++ds)) _ _ E (hr.make C us [])
  (I2.env0.make C us []) (hb _ (Value.ref (s.heap.objs.size+1)::us) I2.kIn hl) r2 hq) λr s' hq'=>?_))
 cases r with
 |error e=>exact hx pins σ _ _ e s' I2 hq'
 |ok fl=>
  cases fl with
  |ret u=>
   obtain⟨v,H',I3,rv,ev,q3⟩:=I2.after hq';subst ev;exact⟨rv,⟨V.ref (s.heap.objs.size+1),H',I3,rfl,q3⟩⟩
  |next=>exact False.elim hq'
  |brk=>exact False.elim hq'
  |cont=>exact False.elim hq'
theorem U7 (M:Mk X.K C f) (F:FnOk X.prog X.w X.K X.mg X.base CX k f fd ps sp) (hr:Room (k+1) X.A) (hg:Gl X x) (hm:X.mg x=some (.ref C)) (hb:Binds X.K fd ps ds) (hd:AG dvs ds) (hx:HF CX X E)
  (ha:PA X (e::es) t) (hdb:(x == ("__debug__":Str))=false:=by decide) (he:starEach (e::es) X.env=(false,eval e X.env)::starEach es X.env:=by rfl) (hpl:(backTo pos (starEach es X.env)).any (·.1)=false:=by rfl) :
  PE X (.Call (.Name x p) (e::es) [] pos) (Vg C sp dvs E t):=by
 intro pins s σ H Q I h;refine cO (Kj I hg hm ?_ hdb);refine eW (h₀:=X.base) I.ok.mod.kin M.kp (Bc (ha pos pins s σ H _ I h) λus s1 ⟨vs,H1,I1,r,q⟩=>⟨I1.kIn,?_⟩) he hpl;exact Sy M F hr hb hd hx I1 r q
end
structure FnScope (N P:List Str) (sc:Scope):Prop where
 kind:sc.kind=.function
 co:sc.isCoroutine=false
 gen:sc.isGenerator=false
 nd:N.Nodup
 pre:N.take P.length=P
 par:∀x∈P,sc.names.lookup x=some .local\/sc.names.lookup x=some .cell
 nofree:∀y∈sc.names,y.2≠.free
theorem LV {kindOf:Str->Option NameKind}{x:Str}:∀{binds:List (Str×Value)} {m:Str->Option Value},(∀v,(x,v)∉binds)->bindL kindOf binds m x=m x
 |[],_,_=>rfl
 |(n,v)::r,m,h=>by
  unfold bindL;rw[LV λw hw=>h w (aI _ hw)]
  split
  ·have:x≠n:=by rintro rfl;exact h v aw
   simp[this]
  ·rfl
theorem L5 {kindOf:Str->Option NameKind}{x:Str}:∀{binds:List (Str×Value)} {m:Str->Option Value},(∀v,(x,v)∉binds)->bindC kindOf binds m x=m x
 |[],_,_=>rfl
 |(n,v)::r,m,h=>by
  unfold bindC;rw[L5 λw hw=>h w (aI _ hw)]
  split
  ·rfl
  ·have:x≠n:=by rintro rfl;exact h v aw
   simp[this]
theorem LS {kindOf:Str->Option NameKind}{x:Str}{v:Value}:∀{P:List Str} {vs:List Value} {i:Nat} {m:Str->Option Value},P.Nodup->P[i]?=some x->vs[i]?=some v->kindOf x=some .local->
  bindL kindOf (P.zip vs) m x=some v
 |[],_,_,_,_,h,_,_=>by simp at h
 |_::_,[],_,_,_,_,h,_=>by simp at h
 |p::P,w::vs,0,m,nd,h1,h2,hk=>by
  simp at h1 h2;subst h1;subst h2;show bindL kindOf ((p,w)::P.zip vs) m p=_;unfold bindL;rw[LV λv hv=>(bR.mp nd).1 (dD hv).1,aG hk];simp
 |p::P,w::vs,i+1,m,nd,h1,h2,hk=>by
  show bindL kindOf ((p,w)::P.zip vs) m x=_;unfold bindL;exact LS (i:=i) (bR.mp nd).2 (by simpa using h1) (by simpa using h2) hk
theorem LY {kindOf:Str->Option NameKind}{x:Str}{v:Value}:∀{P:List Str} {vs:List Value} {i:Nat} {m:Str->Option Value},P.Nodup->P[i]?=some x->vs[i]?=some v->kindOf x≠some .local->
  bindC kindOf (P.zip vs) m x=some v
 |[],_,_,_,_,h,_,_=>by simp at h
 |_::_,[],_,_,_,_,h,_=>by simp at h
 |p::P,w::vs,0,m,nd,h1,h2,hk=>by
  simp at h1 h2;subst h1;subst h2;show bindC kindOf ((p,w)::P.zip vs) m p=_;unfold bindC;rw[L5 λv hv=>(bR.mp nd).1 (dD hv).1,aJ hk];simp
 |p::P,w::vs,i+1,m,nd,h1,h2,hk=>by
  show bindC kindOf ((p,w)::P.zip vs) m x=_;unfold bindC;exact LY (i:=i) (bR.mp nd).2 (by simpa using h1) (by simpa using h2) hk
def start (N:List Str)(vs:List V):St:=vs.map some++List.replicate (N.length-vs.length) none
def Bh (CX:RB)(P:Program)(w:World)(K:PySem.W.Frag)(mg:Str->Option Value)(base:Heap)(N:List Str)(qual:Str)(scope:Scope)(f:Addr)(cd:Value)(A:Around)(outer:List Env)(s:Shared)(H:Hp)(E:XK):Cx where
 prog:=P
 w:=w
 K:=K
 mg:=mg
 base:=base
 A:=A.deeper (envOfC qual scope s.heap.objs.size f cd)
 N:=N
 s₀:=s
 H₀:=H
 env:=envOfC qual scope s.heap.objs.size f cd
 outer:=outer
 stack:=envOfC qual scope s.heap.objs.size f cd::outer
 ex:=[]
 calm:=true
 fn:=λ_=>true
 pn:=[]
 xe:=λe s'=>wpAny (model P w) (A.deeper (envOfC qual scope s.heap.objs.size f cd)) (leaving (envOfC qual scope s.heap.objs.size f cd) e) (λ_ s''=>CX outer H s E e s'') (λe' s''=>CX outer H s E e' s'') s'
theorem NB {sc:Scope}{n:Nat}{x:Str}(h:sc.names.lookup x=some .cell):∃c,(cellsFrom n sc.names []).lookup x=some c:=by
 have q:=gc sc.names n [] (.inl h);exact Option.isSome_iff_exists.mp q
theorem QR {CX:RB} {P:Program} {w:World} {K:PySem.W.Frag} {mg:Str->Option Value} {base:Heap} {N ps:List Str} {qual:Str} {scope:Scope} {f:Addr} {cd:Value} {A:Around} {outer:List Env} {s s1:Shared} {H:Hp} {E:XK} {us:List Value} {vs:List V}
  (S:FnScope N ps scope) (hd:A.handled=none) (e0:Env0 P w K mg base A outer s H) (hl:vs.length=ps.length) (r:AG vs us)
  (x:InCallC s s.heap.objs.size (bindL (envOfC qual scope s.heap.objs.size f cd).kindOf (ps.zip us) λ_=>none) (cellsFrom (s.heap.objs.size+1) scope.names []) (bindC (envOfC qual scope s.heap.objs.size f cd).kindOf (ps.zip us) λ_=>none) s1) :
  Inv (Bh CX P w K mg base N qual scope f cd A outer s H E) [] (start N vs) H s1:=by
 have hpl:ps.length<=N.length:=by have:=congrArg List.length S.pre;rw[aV] at this;omega
 obtain⟨h1,tk,rfl,hk⟩:=x.done;have noA:∀b:Addr,b∉(Bh CX P w K mg base N qual scope f cd A outer s H E).ex:=λb z=>absurd (show b∈([]:List Addr) from z) (by simp)
 refine⟨⟨e0.mod,S.kind,rfl,rfl,ar _,λy z c h1 h2=>?_,λy hy=>?_,λy c _ h=>?_,λ_=>hd,Around.frames_deeper e0.frames,.inr ⟨rfl,rfl⟩,λb z=>absurd z (noA b),e0.bs,e0.bsz,λb _ _=>noA b,λb z=>absurd z (noA b),e0.funs,e0.frf⟩,
  rfl,e0.bare,Un.kept hk,⟨_,x.toInCall.ns,λi y v h1 h2 h3=>?_⟩,λy c h=>⟨_,x.cell y c h⟩,e0.hok.fresh (ar _),λy c h=>?_,λp hp=>absurd (show p∈([]:List (Addr×Obj)) from hp) (by simp),e0.hok.kept hk,?_⟩
 ·exact name_of_addr x.apart (bU h1) (bU h2)
 ·have hy:scope.names.lookup y=some .cell\/scope.names.lookup y=some .free:=hy;rcases hy with hy|hy
  ·exact NB hy
  ·exact absurd rfl (S.nofree _ (bU hy))
 ·exact fg (x.above y c (bU h))
 ·have hi:i<vs.length:=by
   unfold start at h2
   by_cases hi:i<vs.length
   ·exact hi
   ·rw[bJ (by simpa using hi)] at h2;rw[List.getElem?_replicate] at h2
    split at h2<;>cases h2
  have ha:vs[i]?=some v:=by
   unfold start at h2;rw[bL (by simpa using hi),az] at h2;cases e:vs[i]? with
   |none=>rw[e] at h2;cases h2
   |some a=>rw[e] at h2;cases h2;rfl
  obtain⟨u,hu,rv⟩:=r.get ha;have hp:ps[i]?=some y:=by
   rw[<-S.pre,List.getElem?_take_of_lt (by omega)];exact h1
  have ndP:ps.Nodup:=by rw[<-S.pre];exact S.nd.sublist (dc _ _)
  refine⟨u,rv,?_⟩;rcases S.par y (aC hp) with k|k
  ·exact .inl ⟨k,LS ndP hp hu k⟩
  ·obtain⟨c,e⟩:=NB (n:=s.heap.objs.size+1) k;refine .inr ⟨.inl k,c,e,?_⟩;have q:=x.cell y c e;rw[LY ndP hp hu (by show scope.names.lookup y≠_;rw[k];decide)] at q;exact q
 ·exact e0.hok.fresh (fg (x.above y c (bU h)))
 ·unfold start;show _=N.length;rw[au,aa,List.length_replicate];omega
theorem Vn {CX:RB} {P:Program} {w:World} {K:PySem.W.Frag} {mg:Str->Option Value} {base:Heap} {k:Nat} {f:Addr} {name qual:Str} {params:Arguments} {body:List Stmt} {scope:Scope} {dV kV doc pm cdv ct oc:Value} {an od:Option Addr}
  {osl:Array (Option Value)} {N ps:List Str} {sp:Sp} (lk:K.lookup f=some ⟨oc,od,.func (PySem.W.fnOf name qual params body scope dV kV doc pm an cdv ct),osl⟩) (hcd:PySem.W.codeIn K cdv qual=true) (S:FnScope N ps scope)
  (len:∀vs H Q E,sp vs H Q E->vs.length=ps.length)
  (hbody:∀(A:Around) (outer:List Env) (s:Shared) (H:Hp) (vs:List V) (Q:VK) (E:XK),Room k (A.deeper (envOfC qual scope s.heap.objs.size f cdv))->sp vs H Q E->
   ∃t,NN (Bh CX P w K mg base N qual scope f cdv A outer s H E) body t/\t { nx:=λ_ H'=>Q .non H',rt:=Q } (start N vs) H) :
  FnOk P w K mg base CX (k+1) f (PySem.W.fnOf name qual params body scope dV kV doc pm an cdv ct) ps sp:=by
 refine⟨len,λA outer s H args us vs Q E hr e0 hb r hsp=>?_⟩;have hl:=len _ _ _ _ hsp;have KX:K.In s.heap:=e0.mod.kin.keeps λb o e=>(e0.bs b o e).1
 have lim:s.heap.NoLimit:=e0.mod.nolimit.keeps λb o e=>(e0.bs b o e).1
 have hkind:∀y∈ps.zip us,scope.names.lookup y.1=some .local\/(scope.names.lookup y.1=some .cell/\((cellsFrom (s.heap.objs.size+1) scope.names []).lookup y.1).isSome=true):=λ⟨n,v⟩ hy=>by
  rcases S.par n (dD hy).1 with q|q
  ·exact .inl q
  ·exact .inr ⟨q,gc _ _ _ (.inl q)⟩
 refine codeAny_call_function hr.depth (KX _ _ lk) rfl S.co S.gen rfl (PySem.W.codeRec_of KX hcd) (hb _ _ _ _ ?_);refine wpAny_newFunctionEnv_cells S.kind hkind λenv he s1 x=>?_
 subst he;refine⟨lim.keeps x.toInCall.keep,codeAny_func ?_⟩;obtain⟨t,ht,hq⟩:=hbody A outer s H vs Q E (hr.deeper _) hsp;have I:Inv (Bh CX P w K mg base N qual scope f cdv A outer s H E) [] (start N vs) H s1:=QR S hr.hd e0 hl r x;refine bB (ht [] s1 (start N vs) H _ I hq) (λfl s' hs=>?_) λe s' hs=>hs
 have fin:∀{σ':St} {H':Hp} {v:V} {u:Value},Inv (Bh CX P w K mg base N qual scope f cdv A outer s H E) [] σ' H' s'->RelV v u->Q v H'->CE outer P w H s Q u s':=
  λ{σ' H' v u} J rv q=>⟨v,H',J.os,J.bare,J.base,J.hok,rv,q⟩
 cases fl with
 |ret u=>
  obtain⟨v,σ',H',J,rv,q⟩:=hs;exact fin J rv q
 |next=>
  obtain⟨σ',H',J,q⟩:=hs;exact fin (v:=V.non) (u:=Value.none) J rfl q
 |brk=>
  obtain⟨_,_,_,q⟩:=hs;exact False.elim q
 |cont=>
  obtain⟨_,_,_,q⟩:=hs;exact False.elim q
section
variable {X:Cx}{x:Str}{p pos:Pos}{e:Expr}{es:List Expr}{t:TA}{id T:String}{r:List V->Hp->VK->Prop}
def Yh (r:List V->Hp->VK->Prop)(t:TA):TE:=λσ H Q=>t σ H λvs H1=>r vs H1 Q
theorem Ax (hc:DG X (.builtin id) r) (hg:Gl X x) (hm:X.mg x=none) (hv:bootBuiltins x=some (.builtin id)) (ha:PA X (e::es) t) (hn:x≠"__name__":=by decide) (hdb:(x == ("__debug__":Str))=false:=by decide)
  (he:starEach (e::es) X.env=(false,eval e X.env)::starEach es X.env:=by rfl) (hpl:(backTo pos (starEach es X.env)).any (·.1)=false:=by rfl):PE X (.Call (.Name x p) (e::es) [] pos) (Yh r t):=by
 intro pins s σ H Q I h;refine cO (Jt I hg hm hv ?_ hn hdb);exact PyProof.Rows.callWith_builtin1 (Bc (ha pos pins s σ H _ I h) λus s1 ⟨vs,H1,I1,r1,q1⟩=>hc pins s1 σ H1 vs us Q I1 r1 q1) he hpl
theorem Bj (hc:DG X (.type T) r) (hg:Gl X x) (hm:X.mg x=none) (hv:bootBuiltins x=some (.type T)) (ha:PA X (e::es) t) (hn:x≠"__name__":=by decide) (hdb:(x == ("__debug__":Str))=false:=by decide)
  (he:starEach (e::es) X.env=(false,eval e X.env)::starEach es X.env:=by rfl) (hpl:(backTo pos (starEach es X.env)).any (·.1)=false:=by rfl):PE X (.Call (.Name x p) (e::es) [] pos) (Yh r t):=by
 intro pins s σ H Q I h;refine cO (Jt I hg hm hv ?_ hn hdb);exact fK (Bc (ha pos pins s σ H _ I h) λus s1 ⟨vs,H1,I1,r1,q1⟩=>hc pins s1 σ H1 vs us Q I1 r1 q1) he hpl
end
end L2
namespace HT
open PySem PyProof.Rows
section
variable {prog:Program}{w:World}{A:Around}{E:Value->Shared->Prop}{s:Shared}
theorem Ue {t b:Addr} {vs ws:List Value} {Q:Value->Shared->Prop} (ht:IsTup s.heap t vs.toArray) (hb:IsTup s.heap b ws.toArray) (hv:vs≠[])
  (h1:ws=[]->Q (.ref t) s) (h2:ws≠[]->Q (.ref s.heap.objs.size) { s with heap:=s.heap.push { cls:=.type "tuple",data:=.seq (vs++ws).toArray } })
  (hsz:vs.length+ws.length<=sizeLine):wpAny (model prog w) A (binaryOp .Add (.ref t) (.ref b)) Q E s:=by
 obtain⟨⟨cls,dd,data,sl⟩,ho,hc,n,hd⟩:=id ht;obtain⟨⟨cls2,dd2,data2,sl2⟩,ho2,hc2,n2,hd2⟩:=id hb;simp only at hc hd hc2 hd2;subst hc hd hc2 hd2;have e:vs.toArray++ws.toArray=(vs++ws).toArray:=by simp
 by_cases hw:ws=[]
 ·exact fM ⟨_,ho,rfl⟩ ⟨_,ho2,rfl⟩ fV gT eA d8 (dX _ _)
   (tuple_addW1 t b vs.toArray ws.toArray n n2 dd dd2 sl sl2 (by simpa using hv) (by simp[hw])) ⟨ho,ho2,h1 hw⟩
 ·refine fM ⟨_,ho,rfl⟩ ⟨_,ho2,rfl⟩ fV gT eA d8 (dX _ _)
   (tuple_addW2 t b vs.toArray ws.toArray n n2 dd dd2 sl sl2 (by simpa using hv) (by simpa using hw) (by rw[aK,aK];exact hsz)) ⟨ho,ho2,?_⟩
  rw[e];exact h2 hw
def Ed (n d:Nat):Option Int->Nat
 |none=>d
 |some v=>if v<0 then(v+(n:Int)).toNat else min v.toNat n
theorem We (n d:Nat)(hd:d<=n)(o:Option Int):Ed n d o<=n:=by
 cases o with
 |none=>exact hd
 |some v=>
  show(if v<0 then(v+(n:Int)).toNat else min v.toNat n)<=n
  by_cases hv:v<0
  ·rw[aG hv];omega
  ·rw[aJ hv];exact Nat.min_le_right _ _
theorem Qa (v:Int)(n d:Nat):(if v<0 then max (v+(n:Int)) 0 else min v (n:Int))=((Ed n d (some v):Nat):Int):=by
 show(if v<0 then max (v+(n:Int)) 0 else min v (n:Int))=(((if v<0 then(v+(n:Int)).toNat else min v.toNat n):Nat):Int)
 by_cases hv:v<0
 ·simp only[if_pos hv];omega
 ·simp only[if_neg hv];omega
theorem Pj (lo hi:Option Int)(n:Nat):Builtin.Slice.sliceAdjust lo hi 1 (n:Int)=(((Ed n 0 lo:Nat):Int),((Ed n n hi:Nat):Int)):=by
 have h1:¬((1:Int)<0):=by omega
 unfold Builtin.Slice.sliceAdjust;simp only[h1,if_false];refine Prod.ext ?_ ?_
 ·cases lo with
  |none=>rfl
  |some v=>exact Qa v n 0
 ·cases hi with
  |none=>rfl
  |some v=>exact Qa v n n
theorem OS (i j:Nat):Builtin.Slice.slicePlaces (i:Int) (j:Int) 1=j-i:=by
 unfold Builtin.Slice.slicePlaces;have h1:(1:Int)>0:=by omega
 simp only[h1,if_true,Int.ediv_one]
 split<;>omega
theorem Kx {v:Value}{o:Option Int}{Q:Option Int->Shared->Prop}(p:IsPart v o)(h:Q o s):wpAny (model prog w) A (Builtin.Slice.slicePartIndex v) Q E s:=by
 cases p with
 |none=>exact slicePart_none h
 |int i t=>exact slicePart_int h
theorem Jc {sl:Addr} {vl vu:Value} {lo hi:Option Int} {n:Nat} {Q:Int×Int×Nat->Shared->Prop} (hs:s.heap.IsSliceOf sl vl vu .none) (pl:IsPart vl lo) (pu:IsPart vu hi)
  (h:Q (((Ed n 0 lo:Nat):Int),1,Ed n n hi-Ed n 0 lo) s):wpAny (model prog w) A (Builtin.Slice.sliceApplied (.ref sl) (pure (n:Int))) Q E s:=by
 obtain⟨os,hos,hcs,hds⟩:=id hs;unfold Builtin.Slice.sliceApplied Builtin.Slice.sliceFields;refine ae (ae (wpAny_field hos hds (x:=vl) rfl (ae (wpAny_field hos hds (x:=vu) rfl (ae (wpAny_field hos hds (x:=.none) rfl (ax ?_)))))));refine ae (slicePart_none ?_);show wpAny _ _ (if((1:Int) == 0)=true then _ else _) _ _ s;rw[aJ (by decide)];refine ae (Kx pl (ae (Kx pu (ae (ax ?_)))));show wpAny _ _ (match Builtin.Slice.sliceAdjust lo hi 1 (n:Int) with|(lo,hi)=>pure (lo,(1:Int),Builtin.Slice.slicePlaces lo hi 1)) _ _ s;rw[Pj lo hi n];show wpAny _ _ (pure (((Ed n 0 lo:Nat):Int),(1:Int),Builtin.Slice.slicePlaces ((Ed n 0 lo:Nat):Int) ((Ed n n hi:Nat):Int) 1)) _ _ s;rw[OS];exact ax h
theorem TK (xs:Array Value)(i k:Nat):((List.range k).filterMap λ(m:Nat)=>xs[((i:Int)+(m:Int)*1).toNat]?).toArray=((xs.toList.drop i).take k).toArray:=by
 have e:(λ(m:Nat)=>xs[((i:Int)+(m:Int)*1).toNat]?)=λm=>xs[i+m]?:=by
  funext m
  have:((i:Int)+(m:Int)*1).toNat=i+m:=by omega
  rw[this]
 rw[e];have:=pick_run xs i k;rw[eX] at this;have e2:((λx=>xs[x]?)∘λx=>i+x)=λm=>xs[i+m]?:=rfl
 rw[e2] at this;rw[this]
theorem IG {t sl:Addr} {items:Array Value} {vl vu:Value} {lo hi:Option Int} {Q:Value->Shared->Prop} (ht:IsTup s.heap t items) (hs:s.heap.IsSliceOf sl vl vu .none) (pl:IsPart vl lo) (pu:IsPart vu hi)
  (hw:¬(Ed items.size 0 lo=0/\Ed items.size items.size hi=items.size))
  (h:Q (.ref s.heap.objs.size) { s with heap:=s.heap.push { cls:=.type "tuple",data:=.seq ((items.toList.drop (Ed items.size 0 lo)).take (Ed items.size items.size hi-Ed items.size 0 lo)).toArray } })
  (hsz:items.size<=sizeLine):wpAny (model prog w) A (getItem (.ref t) (.ref sl)) Q E s:=by
 have htake:sizeOk (.seq ((items.toList.drop (Ed items.size 0 lo)).take (Ed items.size items.size hi-Ed items.size 0 lo)).toArray):=by
  show((items.toList.drop (Ed items.size 0 lo)).take (Ed items.size items.size hi-Ed items.size 0 lo)).toArray.size<=sizeLine;rw[aK,aV,cH,cm];omega
 have hj:Ed items.size items.size hi<=items.size:=We _ _ (ar _) hi;obtain⟨os,hos,hcs,hds⟩:=id hs;have hTs:s.TypeIs (.ref sl) "slice":=⟨os,hos,hcs⟩
 unfold getItem
 try with_reducible refine bM ?_
 first|refine ae (ax ?_)|skip
 refine ae (wpAny_sequenceKey ht.typeIs (by decide) ?_);refine ae (wpAny_callSpecial?_slot (name:=Str.ofString "__getitem__") ht.typeIs fu
  (dI fu ht.typeIs entry_tuple_getitem ?_ (args_tuple_getitem _ _)))
 show wpAny _ _ (Builtin.Tuple.tupleItemsOf (.ref t) >>= _) _ _ s;refine ae (tupleItemsOf_ ht ?_);refine ae (wpAny_typeOf hTs ?_);rw[aG (by decide)];refine ae (Jc hs pl pu ?_);have hno:¬((((Ed items.size 0 lo:Nat):Int) == 0&&(1:Int) == 1&&(Ed items.size items.size hi-Ed items.size 0 lo) == items.size)=true):=by
  intro q;rw[aY,aY] at q;have q1:((Ed items.size 0 lo:Nat):Int)=0:=eq_of_beq q.1.1;have q2:Ed items.size items.size hi-Ed items.size 0 lo=items.size:=eq_of_beq q.2;exact hw ⟨by omega,by omega⟩
 show wpAny _ _ (if(((Ed items.size 0 lo:Nat):Int) == 0&&(1:Int) == 1&&(Ed items.size items.size hi-Ed items.size 0 lo) == items.size)=true then _ else _) _ _ s;rw[aJ hno,TK]
 first
  |exact ae (m:=Builtin.Tuple.tupleExact _) (cB (ax ⟨_,rfl,ax h⟩) htake)
  |exact ae (m:=Builtin.Tuple.tupleExact _) (cB (ae (ax (ax ⟨_,rfl,ax h⟩))) htake)
  |exact ae (ae (m:=Builtin.Tuple.tupleExact _) (cB (ax (ax ⟨_,rfl,ax h⟩)) htake))
  |exact ae (ae (m:=Builtin.Tuple.tupleExact _) (cB (ax ⟨_,rfl,ax h⟩) htake))
end
end HT
namespace L2
open PySem PySem.Spec PyProof.Rows
abbrev TO:=St->Hp->(Option Int->Hp->Prop)->Prop
def PO (X:Cx)(e:Option Expr)(t:TO):Prop:=
 ∀(pins:List (Addr×Obj)) (s:Shared) (σ:St) (H:Hp) (Q:Option Int->Hp->Prop),Inv X pins σ H s->t σ H Q->
  wpAny (model X.prog X.w) X.A (evalPart e X.env) (λu s'=>∃o H',Inv X pins σ H' s'/\IsPart u o/\Q o H') X.xe s
def UB:TO:=λ_ H Q=>Q none H
def WZ (t:TE):TO:=λσ H Q=>t σ H λx H1=>∃i,x=.int i/\Q (some i) H1
theorem intsAre_of {ns:List Int}:∀{us:List Value},AG (ns.map V.int) us->IntsAre us ns:=by
 induction ns with
 |nil=>intro us r;rw[cx] at r;cases r;exact .nil
 |cons n ns ih=>
  intro us r;rw[ao] at r;cases r with
  |cons r1 r2=>
   obtain⟨t,e⟩:=r1;subst e;exact .cons n t (ih r2)
section
variable {X:Cx}{e:Expr}{te:TE}{lo hi:Option Expr}{tl th:TO}{pos p2:Pos}
theorem Km:PO X none UB:=by
 intro pins s σ H Q I h;rw[gU];exact ax ⟨none,H,I,.none,h⟩
theorem IV (h:PE X e te):PO X (some e) (WZ te):=by
 intro pins s σ H Q I hw;rw[evalPart_some];refine Bc (h pins s σ H _ I hw) λu s1 ⟨x,H1,I1,r1,q1⟩=>?_
 obtain⟨i,rfl,q⟩:=q1;obtain⟨t,rfl⟩:=r1;exact⟨some i,H1,I1,.int i t,q⟩
def Xu (X:Cx)(r:V->Option Int->Option Int->Hp->VK->Prop):Prop:=
 ∀(pins:List (Addr×Obj)) (s:Shared) (σ:St) (H:Hp) (x:V) (v vl vu:Value) (lo hi:Option Int) (sl:Addr) (Q:VK),Inv X pins σ H s->RelV x v->s.heap.IsSliceOf sl vl vu .none->IsPart vl lo->IsPart vu hi->r x lo hi H Q->
  ∃T id,typeLookup (.type T) "__getitem__"=pure (some (.builtin id))/\s.TypeIs v T/\wpAny (model X.prog X.w) X.A (getItem v (.ref sl)) (EP X pins σ Q) X.xe s
def Yx (r:V->Option Int->Option Int->Hp->VK->Prop)(te:TE)(tl th:TO):TE:=λσ H Q=>te σ H λx H1=>tl σ H1 λl H2=>th σ H2 λu H3=>r x l u H3 Q
theorem IB {r:V->Option Int->Option Int->Hp->VK->Prop}(hr:Xu X r)(he:PE X e te)(hl:PO X lo tl)(hu:PO X hi th):PE X (.Subscript e (.Slice lo hi none p2) pos) (Yx r te tl th):=by
 intro pins s σ H Q I h;refine gr (Bc (he pins s σ H _ I h) λv s1 ⟨x,H1,I1,r1,q1⟩=>?_);refine wpAny_Slice (Bc (hl pins s1 σ H1 _ I1 q1) λvl s2 ⟨l,H2,I2,pl,q2⟩=>Bc (hu pins s2 σ H2 _ I2 q2) λvu s3 ⟨u,H3,I3,pu,q3⟩=>?_);rw[gU];refine ax ?_;have I4:Inv X pins σ H3 { s3 with heap:=s3.heap.push { cls:=.type "slice",data:=.fields #[vl,vu,.none] } }:=I3.kept (t':=s3.toks) λb ob q=>ah _ q
 obtain⟨T,id,hT,ht,hg⟩:=hr pins { s3 with heap:=s3.heap.push { cls:=.type "slice",data:=.fields #[vl,vu,.none] } } σ H3 x v vl vu l u s3.heap.objs.size Q I4 r1 (Heap.IsSliceOf.new ..) pl pu q3;show wpAny (model X.prog X.w) X.A (subscriptTail e (.Slice lo hi none p2) v (.ref s3.heap.objs.size)) (EP X pins σ Q) X.xe { s3 with heap:=s3.heap.push { cls:=.type "slice",data:=.fields #[vl,vu,.none] } };exact tail_any (ops:=[.ref s3.heap.objs.size,v]) ht hT hg (by with_unfolding_all rfl)
def Rr (xs:List V)(lo hi:Option Int):List V:=(xs.drop (HT.Ed xs.length 0 lo)).take (HT.Ed xs.length xs.length hi-HT.Ed xs.length 0 lo)
theorem JM (xs:List V)(lo hi:Option Int):(Rr xs lo hi).length<=xs.length:=by
 unfold Rr;rw[aV,cH];omega
def XD (K:PySem.W.Frag):V->Option Int->Option Int->Hp->VK->Prop:=λx lo hi H Q=>∃a xs,x=.ref a/\AL K H a xs/\
 ¬(HT.Ed xs.length 0 lo=0/\HT.Ed xs.length xs.length hi=xs.length)/\∀p,H p=none->Q (.ref p) (upd H p (.tup (Rr xs lo hi)))
theorem Wa:Xu X (XD X.K):=by
 intro pins s σ H x v vl vu lo hi sl Q I rx hs pl pu h;obtain⟨a,xs,rfl,hx,hw,q⟩:=h;cases rx;obtain⟨its,r,ht,hz⟩:=I.tuple hx;have hlen:its.toArray.size=xs.length:=by rw[aK];exact r.length.symm
 refine⟨"tuple",_,PyProof.Rows.slot_tuple_getitem.lookup,ht.typeIs,?_⟩;refine HT.IG ht hs pl pu (by rw[hlen];exact hw) ?_ (by rw[hlen];exact hz);rw[hlen];refine⟨.ref s.heap.objs.size,_,I.laid (t':=s.toks) (o:=.tup (Rr xs lo hi)) (λb ob q=>ah _ q) (ar _) ?_,rfl,q _ (I.hok.fresh (ar _))⟩;exact⟨bA (JM xs lo hi) hz,_,(r.drop (HT.Ed xs.length 0 lo)).take (HT.Ed xs.length xs.length hi-HT.Ed xs.length 0 lo),Lv.new _ _⟩
def W6 (K:PySem.W.Frag):R2:=λx y H Q=>∃a b xs ys,x=.ref a/\y=.ref b/\AL K H a xs/\AL K H b ys/\xs≠[]/\xs.length+ys.length<=sizeLine/\
 (ys=[]->Q (.ref a) H)/\(ys≠[]->∀p,H p=none->Q (.ref p) (upd H p (.tup (xs++ys))))
theorem AG.nil_iff {xs:List V}{us:List Value}(r:AG xs us):us=[]↔xs=[]:=by
 cases r with
 |nil=>simp
 |cons _ _=>simp
theorem T7:Gv X (binaryOp .Add) (W6 X.K):=by
 intro pins s σ H x y v u Q I rx ry h;obtain⟨a,b,xs,ys,rfl,rfl,ha,hb,hx,hz,q1,q2⟩:=h;cases rx;cases ry;obtain⟨its,r1,p1,_⟩:=I.tuple ha;obtain⟨its2,r2,p2,_⟩:=I.tuple hb;refine HT.Ue p1 p2 (λz=>hx (r1.nil_iff.mp z)) (λz=>⟨.ref a,H,I,rfl,q1 (r2.nil_iff.mp z)⟩) (λz=>?_) (by rw[<-r1.length,<-r2.length];exact hz);refine⟨.ref s.heap.objs.size,_,I.laid (t':=s.toks) (o:=.tup (xs++ys)) (λb ob q=>ah _ q) (ar _) ?_,rfl,q2 (λw=>z (r2.nil_iff.mpr w)) _ (I.hok.fresh (ar _))⟩;exact⟨by rw[au];exact hz,_,r1.append r2,Lv.new _ _⟩
end
def TZ (n:Nat)(i:Int):Option Nat:=if 0<=i then(if i<n then some i.toNat else none) else if -(n:Int)<=i then some (i+n).toNat else none
def JS {α:Type}(xs:List α)(i:Int):Option α:=(TZ xs.length i).bind λj=>xs[j]?
theorem Qv {n:Nat}{i:Int}{j:Nat}(h:TZ n i=some j):seqIndex? i n=some j/\j<n/\-(n:Int)<=i/\i<n:=by
 unfold TZ at h
 by_cases h0:0<=i
 ·rw[aG h0] at h
  by_cases h1:i<n
  ·rw[aG h1] at h;have e:i.toNat=j:=aA h;exact⟨by rw[fX h0 h1,e],by omega,by omega,h1⟩
  ·rw[aJ h1] at h;cases h
 ·rw[aJ h0] at h
  by_cases h1:-(n:Int)<=i
  ·rw[aG h1] at h;have e:(i+n).toNat=j:=aA h;exact⟨by rw[seqIndex_neg (by omega) h1,e],by omega,h1,by omega⟩
  ·rw[aJ h1] at h;cases h
theorem MF {α:Type}{xs:List α}{i:Int}{v:α}(h:JS xs i=some v):∃j,seqIndex? i xs.length=some j/\xs[j]?=some v/\j<xs.length/\-(xs.length:Int)<=i/\i<xs.length:=by
 unfold JS at h;cases e:TZ xs.length i with
 |none=>rw[e] at h;cases h
 |some j=>
  rw[e] at h;obtain⟨h1,h2,h3,h4⟩:=Qv e;exact⟨j,h1,h,h2,h3,h4⟩
theorem Ar {α:Type}{xs:List α}{j:Nat}{v:α}(h:xs[j]?=some v):JS xs (j:Int)=some v:=by
 have hj:j<xs.length:=(ay.mp h).1;have e:TZ xs.length (j:Int)=some j:=by
  unfold TZ;rw[aG (by omega),aG (by omega)];simp
 unfold JS;rw[e];exact h
def U6 (b:Expr):Prop:=∀o i,subscripted b false o i=operate [o,i] (getItem o i)
def WC (X:Cx)(r:R2):Prop:=
 ∀(value slice:Expr) (pins:List (Addr×Obj)) (s:Shared) (σ:St) (H:Hp) (x y:V) (v u:Value) (Q:VK),Inv X pins σ H s->RelV x v->RelV y u->r x y H Q->
  subscripted slice false v u=operate [v,u] (getItem v u)->wpAny (model X.prog X.w) X.A (subscriptTail value slice v u) (EP X pins σ Q) X.xe s
def Xw (X:Cx)(id:String)(r:V->List V->Hp->VK->Prop):Prop:=
 ∀(pins:List (Addr×Obj)) (s:Shared) (σ:St) (H:Hp) (x:V) (xs:List V) (v:Value) (us:List Value) (Q:VK),Inv X pins σ H s->RelV x v->AG xs us->r x xs H Q->
  wpAny (model X.prog X.w) X.A (call (.builtin id) (v::us)) (EP X pins σ Q) X.xe s
section
variable {X:Cx}{a b:Expr}{ta tb:TE}{pos:Pos}
theorem An {r:R2}(hr:WC X r)(ha:PE X a ta)(hb:PE X b tb)(hs:U6 b):PE X (.Subscript a b pos) (WA r ta tb):=by
 intro pins s σ H Q I h;exact gr (Wc ha hb I h λv u s2 x y H2 I2 rx ry q=>hr a b pins s2 σ H2 x y v u Q I2 rx ry q (hs _ _))
def WH (K:PySem.W.Frag):R2:=λx y H Q=>∃p xs i v,x=.ref p/\y=.int i/\AD K H p xs/\JS xs i=some v/\Q v H
def T8 (K:PySem.W.Frag):R2:=λx y H Q=>∃p xs i v,x=.ref p/\y=.int i/\AL K H p xs/\JS xs i=some v/\Q v H
def XF:R2:=λx y H Q=>∃z i c,x=.str z/\y=.int i/\z.length<=sizeLine/\JS z.cps.toList i=some c/\Q (.str ⟨#[c]⟩) H
theorem AB:WC X (WH X.K):=by
 intro value slice pins s σ H x y v u Q I rx ry h hs;obtain⟨p,xs,i,z,rfl,rfl,hq,he,q⟩:=h;cases rx;obtain⟨t,rfl⟩:=ry;obtain⟨its,r,pl,hz⟩:=I.list hq;obtain⟨j,h1,h2,h3,h4,h5⟩:=MF he;obtain⟨w,ew,rw'⟩:=r.get h2;have hl:=r.length;have hn:=Jj;have fin:EP X pins σ Q w s:=⟨z,H,I,rw',q⟩
 by_cases h0:0<=i
 ·have hj:i.toNat=j:=by
   rw[fX h0 h5] at h1;exact aA h1
  exact item_listR pl.isList h0 (by omega) (by rw[hj];simpa using ew) fin hs
 ·have hj:(i+(its.toArray.size:Int)).toNat=j:=by
   rw[seqIndex_neg (by omega) h4] at h1;rw[aK,<-hl];exact aA h1
  exact fD (x:=w) pl.isList.typeIs slot_list_getitem.lookup
   (wpAny_getItem_list_neg (Q:=λr s'=>r=w/\EP X pins σ Q r s') pl.isList (by omega) (by rw[aK]<;>omega) (by omega) (by rw[hj];simpa using ew) ⟨rfl,fin⟩) hs
theorem Az:WC X (T8 X.K):=by
 intro value slice pins s σ H x y v u Q I rx ry h hs;obtain⟨p,xs,i,z,rfl,rfl,hq,he,q⟩:=h;cases rx;obtain⟨t,rfl⟩:=ry;obtain⟨its,r,pl,hz⟩:=I.tuple hq;obtain⟨j,h1,h2,h3,h4,h5⟩:=MF he;obtain⟨w,ew,rw'⟩:=r.get h2;have hl:=r.length;have hn:=Jj;have fin:EP X pins σ Q w s:=⟨z,H,I,rw',q⟩
 exact fD (x:=w) pl.typeIs slot_tuple_getitem.lookup
  (getItem_tuple (j:=j) (Q:=λr s'=>r=w/\EP X pins σ Q r s') pl (by omega) (by omega) (by rw[aK,<-hl];exact h1) (by simpa using ew) ⟨rfl,fin⟩) hs
theorem Na:WC X XF:=by
 intro value slice pins s σ H x y v u Q I rx ry h hs;obtain⟨z,i,c,rfl,rfl,hz,he,q⟩:=h;obtain⟨t,rfl⟩:=rx;obtain⟨t',rfl⟩:=ry;obtain⟨j,h1,h2,h3,h4,h5⟩:=MF he;have hl:z.cps.toList.length=z.length:=by simp[Str.length]
 rw[hl] at h1 h4 h5;have hn:=Jj;exact tail_any (typeIs_str s z t) slot_str_getitem.lookup (getItem_str (c:=c) (by
  have e1:decide (i < -(2^63:Int))=false:=ba (by omega);have e2:decide (i≥2^63)=false:=ba (by omega);rw[e1,e2,Bool.or_false]) (by rw[h1];simpa using h2) ⟨.str ⟨#[c]⟩,H,I.tok _,⟨_,rfl⟩,q⟩) hs
theorem Ph (its:List Value)(n j:Nat)(u:Value):Obj.mapSeq (·.setIfInBounds j u) { cls:=.type "list",data:=.seq its.toArray n }={ cls:=.type "list",data:=.seq (its.set j u).toArray n }:=by
 simp[Obj.mapSeq]
theorem Inv.lst {pins:List (Addr×Obj)}{σ:St}{H:Hp}{s:Shared}{p:Addr}{xs:List V}(I:Inv X pins σ H s)(h:H p=some (.lst xs)) :
  ∃(its:List Value) (n:Nat),AG xs its/\s.heap.get? p=some { cls:=.type "list",data:=.seq its.toArray n }/\xs.length<=sizeLine:=by
 obtain⟨z,its,n,r,e⟩:=I.hok p _ h;exact⟨its,n,r,e,z⟩
theorem Inv.lstUpd {pins:List (Addr×Obj)} {σ:St} {H:Hp} {s:Shared} {p:Addr} {xs ys:List V} {its its':List Value} {n n':Nat} {f:Obj->Obj} (I:Inv X pins σ H s) (h:H p=some (.lst xs))
  (ho:s.heap.get? p=some { cls:=.type "list",data:=.seq its.toArray n }) (hf:f { cls:=.type "list",data:=.seq its.toArray n }={ cls:=.type "list",data:=.seq its'.toArray n' }) (r:AG ys its') (hz:ys.length<=sizeLine) (t:Nat) :
  Inv X pins σ (upd H p (.lst ys)) { s with heap:=s.heap.update p f,toks:=t }:=by
 have e:(s.heap.update p f).get? p=some { cls:=.type "list",data:=.seq its'.toArray n' }:=by
  rw[dH f ho (by rw[hf]<;>rfl),hf]
 refine I.write (x:=p) (e:=p) (by rw[h];trivial) (.inl rfl) (λb u hb q=>(bz _ _ (Ne.symm hb)).trans q) ⟨_,e⟩ ?_;exact⟨hz,its',n',r,e⟩
def WO:V->V->V->Hp->(Hp->Prop)->Prop:=λo i v H Q=>∃p xs k j,o=.ref p/\i=.int k/\H p=some (.lst xs)/\TZ xs.length k=some j/\Q (upd H p (.lst (xs.set j v)))
theorem set_list:WQ X WO:=by
 intro pins s σ H o i v ov iv u Q I ro ri rv h;obtain⟨p,xs,k,j,rfl,rfl,hp,hj,q⟩:=h;cases ro;obtain⟨t,rfl⟩:=ri;obtain⟨its,n,r,ho,hz⟩:=I.lst hp;obtain⟨h1,h2,h3,h4⟩:=Qv hj;have hl:=r.length;have hn:=Jj;have I':Inv X pins σ (upd H p (.lst (xs.set j v))) { s with heap:=s.heap.update p (Obj.mapSeq (·.setIfInBounds j u)) }:=
  I.lstUpd hp ho (Ph its n j u) (r.set rv j) (by rw[List.length_set];exact hz) s.toks
 by_cases h0:0<=k
 ·have hk:k.toNat=j:=by
   rw[fX h0 h4] at h1;exact aA h1
  exact PySem.W.ki_setAt ho h0 (by omega) (by rw[aK,<-hl];exact h4) (by rw[hk];exact⟨_,I',q⟩)
 ·have hk:(k+(its.toArray.size:Int)).toNat=j:=by
   rw[seqIndex_neg (by omega) h3] at h1;rw[aK,<-hl];exact aA h1
  exact PySem.W.ki_setBack ho (by omega) (by rw[aK,<-hl];exact h3) (by omega) (by rw[hk];exact⟨_,I',q⟩)
theorem Nh (lo hi:Option Int)(n:Nat):(sliceBounds lo hi none n).1=((HT.Ed n 0 lo:Nat):Int)/\(sliceBounds lo hi none n).2.1=((HT.Ed n n hi:Nat):Int)/\(sliceBounds lo hi none n).2.2=1:=by
 refine⟨?_,?_,rfl⟩
 ·cases lo with
  |none=>simp[sliceBounds,HT.Ed]
  |some i=>
   simp only[sliceBounds,HT.Ed,Option.getD_none,show(1:Int)>0 by decide,if_true]
   by_cases h:i<0
   ·simp only[h,if_true]<;>omega
   ·simp only[h,if_false]<;>omega
 ·cases hi with
  |none=>simp[sliceBounds,HT.Ed]
  |some i=>
   simp only[sliceBounds,HT.Ed,Option.getD_none,show(1:Int)>0 by decide,if_true]
   by_cases h:i<0
   ·simp only[h,if_true]<;>omega
   ·simp only[h,if_false]<;>omega
theorem Ly (its:List Value)(lo hi:Option Int):slicePick its.toArray lo hi none=((its.drop (HT.Ed its.length 0 lo)).take (HT.Ed its.length its.length hi-HT.Ed its.length 0 lo)).toArray:=by
 obtain⟨h1,h2,h3⟩:=Nh lo hi its.toArray.size;unfold slicePick;rw[h1,h2,h3];simp only[sliceRange_one,pick_run,List.size_toArray]<;>rfl
def Ya (K:PySem.W.Frag):V->Option Int->Option Int->Hp->VK->Prop:=λx lo hi H Q=>∃a xs,x=.ref a/\AD K H a xs/\∀p,H p=none->Q (.ref p) (upd H p (.lst (Rr xs lo hi)))
theorem Xv:Xu X (Ya X.K):=by
 intro pins s σ H x v vl vu lo hi sl Q I rx hs pl pu h;obtain⟨a,xs,rfl,hx,q⟩:=h;cases rx;obtain⟨its,r,ht,hz⟩:=I.list hx;have hlen:=r.length;refine⟨"list",_,slot_list_getitem.lookup,ht.isList.typeIs,?_⟩;refine gS ht.isList hs pl pu .none (by simp) ?_ (by rw[aK]<;>omega);rw[Ly,<-hlen];refine⟨.ref s.heap.objs.size,_,I.laid (t':=s.toks) (o:=.lst (Rr xs lo hi)) (λb ob q=>ah _ q) (ar _) ?_,rfl,q _ (I.hok.fresh (ar _))⟩;exact⟨bA (JM xs lo hi) hz,_,0,(r.drop (HT.Ed xs.length 0 lo)).take (HT.Ed xs.length xs.length hi-HT.Ed xs.length 0 lo),aM _ rfl⟩
def GM:V->Bool
 | .non=>true
 | .bl _=>true
 | .int _=>true
 | .str _=>true
 |_=>false
def O1:V->V->Bool
 | .non,.non=>true
 | .bl a,.bl b=>a == b
 | .bl a,.int b=>(if a then 1 else 0) == b
 | .int a,.bl b=>a == (if b then 1 else 0)
 | .int a,.int b=>a == b
 | .str a,.str b=>a == b
 |_,_=>false
theorem Pq {A:Around}{s:Shared}{y x:V}{u v:Value}(ry:RelV y u)(rx:RelV x v)(fy:GM y=true)(fx:GM x=true):SeqAt.EqAt A s u v (O1 y x):=by
 cases y with
 |non=>
  cases ry;cases x with
  |non=>cases rx;exact SeqAt.EqAt.same _
  |bl b=>cases rx;exact SeqAt.EqAt.none_bool b
  |int b=>obtain⟨t,rfl⟩:=rx;exact SeqAt.EqAt.none_int b t
  |str b=>obtain⟨t,rfl⟩:=rx;exact SeqAt.EqAt.none_str b t
  |_=>exact absurd (show false=true from fx) aB
 |bl a=>
  cases ry;cases x with
  |non=>cases rx;exact SeqAt.EqAt.bool_none a
  |bl b=>cases rx;exact SeqAt.EqAt.bool_bool a b
  |int b=>obtain⟨t,rfl⟩:=rx;exact SeqAt.EqAt.bool_int a b t
  |str b=>obtain⟨t,rfl⟩:=rx;exact SeqAt.EqAt.bool_str a b t
  |_=>exact absurd (show false=true from fx) aB
 |int a=>
  obtain⟨t',rfl⟩:=ry;cases x with
  |non=>cases rx;exact SeqAt.EqAt.int_none a t'
  |bl b=>cases rx;exact SeqAt.EqAt.int_bool a t' b
  |int b=>obtain⟨t,rfl⟩:=rx;exact SeqAt.EqAt.int_int a t' b t
  |str b=>obtain⟨t,rfl⟩:=rx;exact fJ a t' b t
  |_=>exact absurd (show false=true from fx) aB
 |str a=>
  obtain⟨t',rfl⟩:=ry;cases x with
  |non=>cases rx;exact SeqAt.EqAt.str_none a t'
  |bl b=>cases rx;exact SeqAt.EqAt.str_bool a t' b
  |int b=>obtain⟨t,rfl⟩:=rx;exact fI a t' b t
  |str b=>obtain⟨t,rfl⟩:=rx;exact SeqAt.EqAt.str_str a t' b t
  |_=>exact absurd (show false=true from fx) aB
 |_=>exact absurd (show false=true from fy) aB
def Uj (x:V)(u:Value):Bool:=match u with
 | .none=>O1 .non x
 | .bool b=>O1 (.bl b) x
 | .int i _=>O1 (.int i) x
 | .str z _=>O1 (.str z) x
 |_=>false
theorem R0 {x y:V}{u:Value}(r:RelV y u)(f:GM y=true):Uj x u=O1 y x:=by
 cases y with
 |non=>cases r;rfl
 |bl b=>cases r;rfl
 |int i=>obtain⟨t,rfl⟩:=r;rfl
 |str z=>obtain⟨t,rfl⟩:=r;rfl
 |_=>exact absurd (show false=true from f) aB
theorem MG {x:V}:∀{xs:List V} {us:List Value},AG xs us->xs.all GM=true->us.any (Uj x)=xs.any λy=>O1 y x
 |_,_,.nil,_=>rfl
 |y::xs,u::us,.cons r t,f=>by
  rw[dZ,aY] at f;rw[dY,dY,R0 r f.1,MG t f.2]
theorem Le {A:Around}{s:Shared}{x:V}{v:Value}(rx:RelV x v)(fx:GM x=true):∀{xs:List V} {us:List Value},AG xs us->xs.all GM=true->∀u∈us,SeqAt.EqAt A s u v (Uj x u)
 |_,_,.nil,_=>λu hu=>by cases hu
 |y::xs,u::us,.cons r t,f=>λu' hu=>by
  rw[dZ,aY] at f;rcases aL.mp hu with rfl|hu
  ·rw[R0 r f.1];exact Pq r rx f.1 fx
  ·exact Le rx fx t f.2 u' hu
def RA (x:V)(xs:List V):Bool:=xs.any λy=>O1 y x
def Ym (K:PySem.W.Frag)(neg:Bool):R2:=λx y H Q=>∃p xs,y=.ref p/\(AD K H p xs\/AL K H p xs)/\GM x=true/\xs.all GM=true/\Q (.bl (if neg then !RA x xs else RA x xs)) H
theorem Rq:Gv X (compareOp .In) (Ym X.K false):=by
 intro pins s σ H x y v u Q I rx ry h;obtain⟨p,xs,rfl,hq,fx,fs,q⟩:=h;cases ry;rcases hq with hq|hq
 ·obtain⟨its,r,pl,hz⟩:=I.list hq;refine SeqAt.in_listAt (Uj x) pl.isList (λw hw=>Le rx fx r fs w (by simpa using hw)) ⟨.bl _,H,I,rfl,?_⟩;rw[show its.toArray.any (Uj x)=its.any (Uj x) by simp,MG r fs];exact q
 ·obtain⟨its,r,pl,hz⟩:=I.tuple hq;refine SeqAt.in_tupleAt (Uj x) pl (λw hw=>Le rx fx r fs w (by simpa using hw)) ⟨.bl _,H,I,rfl,?_⟩;rw[show its.toArray.any (Uj x)=its.any (Uj x) by simp,MG r fs];exact q
theorem AM:DG X (.builtin "len") (λxs H Q=>∃p ys,xs=[.ref p]/\(AD X.K H p ys\/AL X.K H p ys)/\Q (.int ys.length) H):=by
 intro pins s σ H xs us Q I r h;obtain⟨p,ys,rfl,hq,q⟩:=h;obtain⟨u,rfl,rx⟩:=vals1 r;cases rx;have hn:=Jj;rcases hq with hq|hq
 ·obtain⟨its,r',pl,hz⟩:=I.list hq;have hlen:=r'.length;exact Calls.call_len_list pl.isList (by simp only[List.size_toArray]<;>omega) ⟨.int ys.length,H,I.tok _,⟨s.toks+1,by rw[aK,hlen]⟩,q⟩
 ·obtain⟨its,r',pl,hz⟩:=I.tuple hq;have hlen:=r'.length;exact len_tuple pl (by simp only[List.size_toArray]<;>omega) ⟨.int ys.length,H,I.tok _,⟨s.toks+1,by rw[aK,hlen]⟩,q⟩
theorem Ey:DG X (.builtin "len") (λxs H Q=>∃z,xs=[.str z]/\z.length<=sizeLine/\Q (.int z.length) H):=by
 intro pins s σ H xs us Q I r h;obtain⟨z,rfl,hz,q⟩:=h;obtain⟨u,rfl,t,rfl⟩:=vals1 r;have hn:=Jj;exact len_str (by omega) ⟨.int z.length,H,I.tok _,⟨_,rfl⟩,q⟩
theorem DC:DG X (.type "list") (λxs H Q=>∃p ys,xs=[.ref p]/\(AD X.K H p ys\/AL X.K H p ys)/\∀l,H l=none->Q (.ref l) (upd H l (.lst ys))):=by
 intro pins s σ H xs us Q I r h;obtain⟨p,ys,rfl,hq,q⟩:=h;obtain⟨u,rfl,rx⟩:=vals1 r;cases rx;have fin:∀(its:List Value),AG ys its->ys.length<=sizeLine->∀(h':Heap) (c':Nat),(∀b o',s.heap.get? b=some o'->h'.get? b=some o')->
   h'.get? s.heap.objs.size=some { cls:=.type "list",dict:=none,data:=.seq its.toArray c',slots:=#[] }->EP X pins σ Q (.ref s.heap.objs.size) { s with heap:=h' }:=λits r' hz h' c' kp e=>
  ⟨.ref s.heap.objs.size,_,I.laid (t':=s.toks) kp (ar _) (show Ba X.prog X.w _ h' _ (.lst ys) from⟨hz,its,c',r',e⟩),rfl,q _ (I.hok.fresh (ar _))⟩
 rcases hq with hq|hq
 ·obtain⟨its,r',pl,hz⟩:=I.list hq;have hlen:=r'.length;obtain⟨o,ho,hc,n,hd⟩:=pl.isList;exact call_list_seq p (.inl rfl) ho hc hd (λh' c' kp e=>fin its r' hz h' c' kp e) (by simp only[List.size_toArray]<;>omega)
 ·obtain⟨its,r',pl,hz⟩:=I.tuple hq;have hlen:=r'.length;obtain⟨o,ho,hc,n,hd⟩:=pl;exact call_list_seq p (.inr rfl) ho hc hd (λh' c' kp e=>fin its r' hz h' c' kp e) (by simp only[List.size_toArray]<;>omega)
theorem D2:DG X (.type "tuple") (λxs H Q=>∃p ys,xs=[.ref p]/\((AD X.K H p ys/\∀l,H l=none->Q (.ref l) (upd H l (.tup ys)))\/(AL X.K H p ys/\Q (.ref p) H))):=by
 intro pins s σ H xs us Q I r h;obtain⟨p,ys,rfl,h⟩:=h;obtain⟨u,rfl,rx⟩:=vals1 r;cases rx;rcases h with⟨hq,q⟩|⟨hq,q⟩
 ·obtain⟨its,r',pl,hz⟩:=I.list hq;have hlen:=r'.length;refine call_tuple_list pl.isList (λh' kp=>?_) (by simp only[List.size_toArray]<;>omega);have I1:Inv X pins σ H { s with heap:=h' }:=I.kept (t':=s.toks) kp;have I2:Inv X pins σ (upd H h'.objs.size (.tup ys)) { s with heap:=h'.push { cls:=.type "tuple",data:=.seq its.toArray } }:=
   I1.laid (t':=s.toks) (λb o e=>ah _ e) (ar _) (show Ba X.prog X.w _ _ _ (.tup ys) from⟨hz,its,r',Lv.new _ _⟩)
  exact⟨.ref h'.objs.size,_,I2,rfl,q _ (I1.hok.fresh (ar _))⟩
 ·obtain⟨its,r',pl,hz⟩:=I.tuple hq;exact call_tuple_same pl ⟨.ref p,H,I,rfl,q⟩
def Yd (K:PySem.W.Frag)(T:String)(x:V)(H:Hp):Prop:=match x with
 | .str _=>T="str"
 | .int _=>T="int"
 | .ref p=>(T="list"/\∃xs,AD K H p xs)\/(T="tuple"/\∃o,K.lookup p=some o/\o.cls=.type "tuple"/\o.dict=none)\/
   (T="dict"/\((∃kvs,H p=some (.dK kvs))\/∃kvs,H p=some (.dT kvs)))\/(T="set"/\∃S n,H p=some (.set S n))
 |_=>False
theorem SB {pins:List (Addr×Obj)}{σ:St}{H:Hp}{s:Shared}{T:String}{x:V}{v:Value}(I:Inv X pins σ H s)(r:RelV x v)(ty:Yd X.K T x H) :
  s.TypeIs v T/\∀a,v=.ref a->∃ob,s.heap.get? a=some ob/\ob.dict=none:=by
 cases x with
 |str z=>
  obtain⟨t,rfl⟩:=r;cases(show T="str" from ty);exact⟨typeIs_str s z t,λ_ e=>nomatch e⟩
 |int i=>
  obtain⟨t,rfl⟩:=r;cases(show T="int" from ty);exact⟨typeIs_int s i t,λ_ e=>nomatch e⟩
 |ref p=>
  cases r;rcases ty with⟨rfl,xs,hq⟩|⟨rfl,o,hk,hc,hd⟩|⟨rfl,hk⟩|⟨rfl,S,n,hk⟩
  ·obtain⟨its,_,pl,_⟩:=I.list hq;refine⟨pl.isList.typeIs,λa e=>?_⟩;cases e;obtain⟨o,n,e,c,hd,_⟩:=pl;exact⟨o,e,hd⟩
  ·refine⟨⟨o,I.kIn p o hk,hc⟩,λa e=>?_⟩;cases e;exact⟨o,I.kIn _ o hk,hd⟩
  ·have z:∃o,s.heap.get? p=some o/\o.ExactDict:=by
    rcases hk with⟨kvs,hk⟩|⟨kvs,hk⟩
    ·obtain⟨_,_,_,_,o,_,_,e,ex,_⟩:=I.hok p _ hk;exact⟨o,e,ex⟩
    ·obtain⟨_,_,_,_,o,_,_,e,ex,_⟩:=I.hok p _ hk;exact⟨o,e,ex⟩
   obtain⟨o,e,ex⟩:=z;refine⟨⟨o,e,ex.1⟩,λa e2=>?_⟩;cases e2;exact⟨o,e,ex.2.1⟩
  ·obtain⟨o,_,_,_,e,ex,_⟩:=I.hok p _ hk;refine⟨⟨o,e,ex.1⟩,λa e2=>?_⟩;cases e2;exact⟨o,e,ex.2.1⟩
 |_=>exact False.elim ty
def XE (K:PySem.W.Frag)(T:String)(r:V->List V->Hp->VK->Prop)(to:TE):TE:=λσ H Q=>to σ H λx H1=>Yd K T x H1/\r x [] H1 Q
def Yv (K:PySem.W.Frag)(T:String)(r:V->List V->Hp->VK->Prop)(to:TE)(t:TA):TE:=λσ H Q=>to σ H λx H1=>Yd K T x H1/\t σ H1 λxs H2=>r x xs H2 Q
variable {o e:Expr}{es:List Expr}{to:TE}{t:TA}{name:Str}{apos cpos:Pos}{T id:String}{r:V->List V->Hp->VK->Prop}
theorem Sk (pa:PlainAttrs T) (slot:Slot T name id) (hty:typeOf (.builtin id)=pure (.type "method_descriptor")) (hm:Xw X id r) (ho:PE X o to)
  (hbase:attributeBase o name X.env (eval o X.env)=eval o X.env:=by rfl) (hline:(apos.endLine == cpos.line)=true:=by rfl):PE X (.Call (.Attribute o name apos) [] [] cpos) (XE X.K T r to):=by
 intro pins s σ H Q I h;refine wpAny_Call_method0_late hbase hline (Bc (ho pins s σ H _ I h) λv s1 z9=>?_);obtain⟨x,H1,I1,r1,ty,q1⟩:=z9;obtain⟨h1,h2⟩:=SB I1 r1 ty;exact⟨T,id,pa,slot,hty,h1,h2,dB rfl (PySem.evalArgs_none (hm pins s1 σ H1 x [] v [] Q I1 r1 .nil q1))⟩
theorem C4 (pa:PlainAttrs T) (slot:Slot T name id) (hty:typeOf (.builtin id)=pure (.type "method_descriptor")) (hm:Xw X id r) (ho:PE X o to) (ha:PA X (e::es) t)
  (hbase:attributeBase o name X.env (eval o X.env)=eval o X.env:=by rfl)
  (hfew:((backTo cpos (starEach (e::es) X.env)).all (λx=>!x.1)&&(backToKw cpos (keywordEach [] X.env)).all (λx=>x.1.isSome)
   && decide ((e::es).length+([]:List Keyword).length+(if([]:List Keyword).isEmpty then 0 else 1)<30))=true:=by rfl)
  (hline:(apos.endLine == cpos.line)=true:=by rfl) (hs:starEach (e::es) X.env=(false,eval e X.env)::starEach es X.env:=by rfl) (hplain:(backTo cpos (starEach es X.env)).any (·.1)=false:=by rfl) :
  PE X (.Call (.Attribute o name apos) (e::es) [] cpos) (Yv X.K T r to t):=by
 intro pins s σ H Q I h;refine wpAny_Call_method_late hbase hfew hline rfl (Bc (ho pins s σ H _ I h) λv s1 z9=>?_);obtain⟨x,H1,I1,r1,ty,q1⟩:=z9;obtain⟨h1,h2⟩:=SB I1 r1 ty;refine⟨T,id,pa,slot,hty,h1,h2,?_⟩;have hA:=ha cpos pins s1 σ H1 _ I1 q1;rw[hs] at hA ⊢;refine dB (by show(false||(backTo cpos (starEach es X.env)).any (·.1))=false;rw[hplain]<;>rfl) (fq ?_);exact Bc hA λus s2 ⟨vs,H2,I2,r2,q2⟩=>hm pins s2 σ H2 x vs v us Q I2 r1 r2 q2
end
def XT (X:Cx)(id:String)(r:V->List V->Hp->VK->Prop):Prop:=
 ∀(pins:List (Addr×Obj)) (s:Shared) (σ:St) (H:Hp) (x:V) (xs:List V) (v:Value) (us:List Value) (Q:VK),Inv X pins σ H s->RelV x v->AG xs us->r x xs H Q->
  wpAny (model X.prog X.w) X.A (call (.builtin id) (v::us)) (EP X pins σ Q) X.xe s
theorem AG.one:∀{x:V} {us:List Value},AG [x] us->∃u,us=[u]/\RelV x u
 |_,_,.cons r .nil=>⟨_,rfl,r⟩
theorem AG.zero:∀{us:List Value},AG [] us->us=[]
 |_,.nil=>rfl
theorem AG.dropLast {xs:List V}{us:List Value}(h:AG xs us):AG xs.dropLast us.dropLast:=by
 induction h with
 |nil=>exact .nil
 |cons r t ih=>
  cases t with
  |nil=>exact .nil
  |cons q t'=>exact .cons r ih
theorem AG.eraseIdx:∀{xs:List V} {us:List Value} (i:Nat),AG xs us->AG (xs.eraseIdx i) (us.eraseIdx i)
 |_,_,_,.nil=>.nil
 |_,_,0,.cons _ t=>t
 |_,_,i+1,.cons r t=>.cons r (AG.eraseIdx i t)
theorem AG.reverse {xs:List V}{us:List Value}(h:AG xs us):AG xs.reverse us.reverse:=by
 induction h with
 |nil=>exact .nil
 |cons r t ih=>rw[List.reverse_cons,List.reverse_cons];exact AG.append ih (.cons r .nil)
theorem OP {α:Type}(l:List α):l.eraseIdx (l.length-1)=l.dropLast:=by
 induction l with
 |nil=>rfl
 |cons a r ih=>
  cases r with
  |nil=>rfl
  |cons b r=>
   have e:(a::b::r).length-1=((b::r).length-1)+1:=by
    have h1:(a::b::r).length=r.length+2:=rfl;have h2:(b::r).length=r.length+1:=rfl;omega
   rw[e,List.eraseIdx_cons_succ,ih]
   all_goals rfl
section
variable {X:Cx}{pins:List (Addr×Obj)}{σ:St}{H:Hp}{s:Shared}{l b:Addr}{xs ys zs:List V}
theorem Inv.lset {its its':List Value} {n:Nat} {f:Array Value->Array Value} {t':Nat} (I:Inv X pins σ H s) (hH:H l=some (.lst xs))
  (e:s.heap.get? l=some { cls:=.type "list",data:=.seq its.toArray n }) (hf:f its.toArray=its'.toArray) (hv:AG ys its') (hz:ys.length<=sizeLine) :
  Inv X pins σ (upd H l (.lst ys)) { s with heap:=s.heap.update l (Obj.mapSeq f),toks:=t' }:=by
 have q:=PySem.IsL.update e f;rw[hf] at q;refine I.write (x:=l) (e:=l) (by rw[hH];exact trivial) (.inl rfl) (λb' u hb hu=>(bz s.heap (Obj.mapSeq f) (Ne.symm hb)).trans hu) ⟨_,q⟩ ?_;exact⟨hz,its',_,hv,q⟩
theorem Inv.lnew {its:List Value}{t':Nat}(I:Inv X pins σ H s)(hv:AG ys its)(hz:ys.length<=sizeLine) :
  Inv X pins σ (upd H s.heap.objs.size (.lst ys)) { s with heap:=s.heap.push { cls:=.type "list",data:=.seq its.toArray },toks:=t' }:=
 I.laid (λ_ _ q=>ah _ q) (ar _) ⟨hz,its,0,hv,aM _ rfl⟩
theorem Inv.fresh (I:Inv X pins σ H s):H s.heap.objs.size=none:=I.hok.fresh (ar _)
theorem Inv.lstM (I:Inv X pins σ H s)(hH:H l=some (.lst xs)):xs.length<=sizeLine/\∃(its:List Value) (n:Nat),AG xs its/\xs.length=its.length/\s.heap.get? l=some { cls:=.type "list",data:=.seq its.toArray n }:=by
 obtain⟨z,its,n,r,e⟩:=I.hok l _ hH;exact⟨z,its,n,r,r.length,e⟩
theorem Tj {n:Nat}(h:n<=sizeLine):Builtin.List.listTooLong n=false:=by
 unfold Builtin.List.listTooLong;exact ba (by omega)
end
section
variable {X:Cx}
def Uc:V->List V->Hp->VK->Prop:=λx vs H Q=>∃l xs y,x=.ref l/\vs=[y]/\H l=some (.lst xs)/\xs.length<sizeLine/\Q .non (upd H l (.lst (xs++[y])))
theorem BD:XT X "list.append" Uc:=by
 intro pins s σ H x vs v us Q I rx rv h;obtain⟨l,xs,y,rfl,rfl,hH,hz,q⟩:=h;cases rx;obtain⟨u,rfl,ru⟩:=rv.one;obtain⟨z,its,n,r,hl,e⟩:=I.lstM hH;refine gC F.slot_list_append ⟨_,e,rfl⟩ F.entry_list_append (F.args_list_append_2 _ _) (PySem.list_append l its.toArray n u (by rw[aK];omega)) ⟨e,?_⟩;refine⟨.non,_,I.lset (its':=its++[u]) hH e (by simp) (r.append (.cons ru .nil)) ?_,rfl,q⟩;rw[au,bO];omega
def UU:V->List V->Hp->VK->Prop:=λx vs H Q=>∃l b xs zs,x=.ref l/\vs=[.ref b]/\H l=some (.lst xs)/\H b=some (.lst zs)/\xs.length+zs.length<=sizeLine/\Q .non (upd H l (.lst (xs++zs)))
theorem EH:XT X "list.extend" UU:=by
 intro pins s σ H x vs v us Q I rx rv h;obtain⟨l,b,xs,zs,rfl,rfl,hH,hB,hz,q⟩:=h;cases rx;obtain⟨u,rfl,ru⟩:=rv.one;cases ru;obtain⟨z,its,n,r,hl,e⟩:=I.lstM hH;obtain⟨z2,its2,n2,r2,hl2,e2⟩:=I.lstM hB;have hsz:its.toArray.size+its2.toArray.size<=sizeLine:=by rw[aK,aK];omega
 have hlong:¬(!its.toArray.isEmpty&&Builtin.List.listTooLong (its.toArray.size+its2.toArray.size))=true:=by
  rw[Tj hsz,Bool.and_false];exact aB
 refine gC F.slot_list_extend ⟨_,e,rfl⟩ F.entry_list_extend (F.args_list_extend_2 _ _)
  (AutoSeq1.list_extend_list_list_0 l its.toArray n b its2.toArray n2 hlong (by rw[aK];omega) (by omega)) ⟨e,e2,?_⟩
 refine⟨.non,_,I.lset (its':=its++its2) hH e (by simp) (r.append r2) ?_,rfl,q⟩;rw[au];omega
def X4:V->List V->Hp->VK->Prop:=λx vs H Q=>∃l xs y,x=.ref l/\vs=[]/\H l=some (.lst xs)/\xs[xs.length-1]?=some y/\Q y (upd H l (.lst xs.dropLast))
theorem TJ:XT X "list.pop" X4:=by
 intro pins s σ H x vs v us Q I rx rv h;obtain⟨l,xs,y,rfl,rfl,hH,hy,q⟩:=h;cases rx;have hus:=rv.zero;subst hus;obtain⟨z,its,n,r,hl,e⟩:=I.lstM hH;obtain⟨u,hu,ru⟩:=r.get hy;have hy':its.toArray[its.toArray.size-1]?=some u:=by
  show its.toArray[its.length-1]?=some u;rw[<-cD,<-hl];exact hu
 refine gC F.slot_list_pop ⟨_,e,rfl⟩ F.entry_list_pop (F.args_list_pop_1 _) (MeetsSeq.list_pop_last l its.toArray n u hy' (by rw[aK];omega)) ⟨e,?_⟩;refine⟨y,_,I.lset (its':=its.dropLast) hH e ?_ r.dropLast ?_,ru,q⟩
 ·show its.toArray.eraseIdxIfInBounds (its.toArray.size-1)=its.dropLast.toArray;rw[aK,List.eraseIdxIfInBounds_toArray,OP]
 ·rw[List.length_dropLast];omega
end
end L2
namespace Att
open PySem PySem.W PySem.Calls PyProof.Rows
theorem Kc {P:Params}{h:Heap}:∀(ns:List Int) (vs:List Value),WellAll P h vs (ns.map WData.int)->IntsAre vs ns:=by
 intro ns
 induction ns with
 |nil=>
  intro vs w;rw[cx] at w;cases w;exact .nil
 |cons n ns ih=>
  intro vs w;rw[ao] at w;cases w with
  |cons a b=>
   cases a;exact .cons _ _ (ih _ b)
theorem Rh {l:OpenLaw} {n:Nat} (hn:l.most=some n) {P:Params} {h:Heap} {args:List WData} {vals:List Value}
  (hpre:l.row.toRowW.claim.pre args=true) (hwl:WellAll P h vals args) :
  ∃a vs ns,vals=[Value.ref a]/\args=[WData.list (ns.map WData.int)]/\h.get? a=some { cls:=.type "list",data:=.seq vs.toArray }/\IntsAre vs ns/\ns.length<=n:=by
 have hsh:WShape.hasAll [] args [.list .int]=true:=(pre_splitW hpre).1;have hc:l.pre.holds [] { args:=args }=true:=(pre_splitW hpre).2;obtain⟨d,r,rfl,h1,h2⟩:=hasAllW_cons hsh;obtain rfl:=hasAllW_nil h2;obtain⟨xs,rfl,h3⟩:=hasW_list h1;obtain⟨ns,rfl⟩:=items_int h3;have hlen:ns.length<=n:=by
  unfold OpenLaw.pre at hc;have h4:(WTm.not (.lt (.lit (.int (n:Int))) (.len (.arg 0)))).holds [] { args:=[.list (ns.map .int)] }=true:=by
   have h4:=(holds_andW hc).1;rw[hn] at h4;exact h4
  have h5:=condW_of h4 (w_not (w_lt w_lit (w_len_list (w_arg rfl))));rw[aa] at h5;refine Nat.le_of_not_lt λq=>?_
  have q':(n:Int)<((ns.length:Nat):Int):=by omega
  first
   |(rw[aE q'] at h5;exact absurd h5 (by decide))
   |(simp at h5;omega)
 cases hwl with
 |cons w1 w2=>
  cases w2;cases w1 with
  |list ho hall=>exact⟨_,_,ns,rfl,rfl,ho,Kc ns _ hall,hlen⟩
theorem QN (l:OpenLaw)(args:List WData):l.row.toRowW.claim.post args (.bool true) args=true:=
 postW_of (r:=l.row.toRowW) (X:=(true == true))
  (show WShape.has [] (.bool true) .bool=true by first|rfl|decide|simp[WShape.has,WShape.arms,WShape.armsAll])
  (show(WTm.eq .res (.lit (.bool true))).value [] { args:=args,res:=some (.bool true),after:=args }=some (.bool (true == true)) from w_eq_bool (w_res rfl) w_lit) rfl
theorem Ol {l:OpenLaw} {n:Nat} {q:Program} {loose:List Str} {XP:(Str->Option Value)->Heap->Prop} {YP:World->Heap->Prop} {d:DefRec}
  (hn:l.most=some n) (hdf:d.params.defaults=[])
  (call:∀(w:World) (s₀ s₁:Shared) (mg mb:Str->Option Value) (fa:Addr) (o:Obj) (pm cd doc:Value) (a:Addr) (vs:List Value) (ns:List Int),
   Ground q loose [] XP w s₀ mg mb s₁.heap->YP w s₁.heap->
   s₁.heap.get? fa=some o->o.data=.func (docDef d.name d.params d.body d.scope pm cd doc)->s₁.heap.CodeRec cd d.name->mg d.name=some (.ref fa)->
   s₁.heap.get? a=some { cls:=.type "list",data:=.seq vs.toArray }->IntsAre vs ns->ns.length<=n->s₁.gens = #[]->
   codeAny (model l.prog w) callerA (.call (.ref fa) ⟨[.ref a],[]⟩) (λr s'=>r=.ok (.ret (.bool true))/\OldK s₁.heap s'.heap/\s'.os=s₁.os/\AllBare s'.gens) s₁) :
  WalkO q loose XP YP l.row.toRowW d [] (λf vs=>PySem.call f vs):=by
 intro w s₀ s₁ mg mb G Y fa o pm cd doc dV kV ho hd hcd hD hmg hg args vals as hpre hlay hrd hwl hlo;obtain rfl:dV=.none:=Dflts.none hD hdf;obtain rfl:kV=.none:=Dflts.noKw hD;obtain⟨a,vs,ns,rfl,rfl,hobj,hints,hlen⟩:=Rh hn hpre hwl;refine enter_call (eR (call w s₀ s₁ mg mb fa o pm cd doc a vs ns G Y ho (fd_plain hd) hcd hmg hobj hints hlen hg) λr s' hq=>?_);obtain⟨rfl,h2,h3,h4⟩:=hq;exact⟨.inl ⟨.bool true,.bool true,[],rfl,λ_=>rfl,.bool true,QN l _,λ_=>⟨List.Pairwise.nil,λ_ hm=>(nomatch hm)⟩⟩,h2,h3,h4⟩
end Att
namespace L2
open PySem PySem.Spec PyProof.Rows
theorem Ji:∀{vs:List Value} {ns:List Int},IntsAre vs ns->AG (ns.map V.int) vs
 |_,_,.nil=>.nil
 |_,_,.cons n t h=>.cons ⟨t,rfl⟩ (Ji h)
def inClass (s:Stmt)(j:Nat):Stmt:=match s with
 | .ClassDef _ _ _ body _ _ _ _ _ _ _=>body.getD j (.Pass ⟨0,0,0,0⟩)
 |_=>.Pass ⟨0,0,0,0⟩
def As (s:Stmt):Arguments:=match s with
 | .FunctionDef _ a _ _ _ _ _ _ _ _=>a
 |_=>{ posonlyargs:=[],args:=[],vararg:=none,kwonlyargs:=[],kw_defaults:=[],kwarg:=none,defaults:=[] }
def Aq (s:Stmt):List Stmt:=match s with
 | .FunctionDef _ _ b _ _ _ _ _ _ _=>b
 |_=>[]
def Ai (s:Stmt):Scope:=match s with
 | .FunctionDef _ _ _ _ _ _ sc _ _ _=>sc
 |_=>{ kind:=.function,names:=[],isGenerator:=false,isCoroutine:=false }
abbrev Cf:RB:=λ_ _ _ _ _ _=>False
abbrev E0:XK:=λ_ _ _=>False
theorem P4 {X:Cx}:HF Cf X E0:=λ_ _ _ _ _ _ _ h=>h.elim
structure Fun (K:PySem.W.Frag) (x qual:Str) (st:Stmt) (f:Addr) (fd:FuncData):Prop where
 ex:∃(oc:Value) (od:Option Addr) (kV doc pm:Value) (an:Option Addr) (cdv ct:Value) (osl:Array (Option Value)),
  fd=PySem.W.fnOf x qual (As st) (Aq st) (Ai st) .none kV doc pm an cdv ct/\K.lookup f=some ⟨oc,od,.func fd,osl⟩/\PySem.W.codeIn K cdv qual=true
 kp:PySem.W.keepIn K (.ref f)=true
section
variable {P:Program}{w:World}{K:PySem.W.Frag}{mg:Str->Option Value}{base:Heap}
theorem Fun.ok {x qual:Str} {st:Stmt} {f:Addr} {fd:FuncData} {N ps:List Str} {k:Nat} {sp:Sp} (F:Fun K x qual st f fd) (S:FnScope N ps (Ai st)) (len:∀vs H Q E,sp vs H Q E->vs.length=ps.length)
  (hbody:∀(cdv:Value) (A:Around) (outer:List Env) (s:Shared) (H:Hp) (vs:List V) (Q:VK) (E:XK),Room k (A.deeper (envOfC qual (Ai st) s.heap.objs.size f cdv))->sp vs H Q E->
   ∃t,NN (Bh Cf P w K mg base N qual (Ai st) f cdv A outer s H E).nox (Aq st) t/\t { nx:=λ_ H'=>Q .non H',rt:=Q } (start N vs) H):FnOk P w K mg base Cf (k+1) f fd ps sp:=by
 obtain⟨oc,od,kV,doc,pm,an,cdv,ct,osl,rfl,lk,hcd⟩:=F.ex;refine Vn lk hcd S len λA outer s H vs Q E hr hsp=>?_
 obtain⟨t,h,q⟩:=hbody cdv A outer s H vs Q E hr hsp;exact⟨t,h.nox,q⟩
theorem Fun.binds {x qual:Str} {st:Stmt} {f:Addr} {fd:FuncData} {ps:List Str} (F:Fun K x qual st f fd)
  (h:∀(kV doc pm:Value) (an:Option Addr) (cdv ct:Value) (us:List Value),us.length=ps.length->bindArgs (PySem.W.fnOf x qual (As st) (Aq st) (Ai st) .none kV doc pm an cdv ct) ⟨us,[]⟩=pure (ps.zip us)):Binds K fd ps []:=by
 obtain⟨oc,od,kV,doc,pm,an,cdv,ct,osl,rfl,lk,hcd⟩:=F.ex;exact .all (h kV doc pm an cdv ct)
theorem AA {x qual:Str} {st:Stmt} {f:Addr} {oc:Value} {od an:Option Addr} {osl:Array (Option Value)} {kV doc pm cdv ct:Value} (l:K.lookup f=some ⟨oc,od,.func (PySem.W.fnOf x qual (As st) (Aq st) (Ai st) .none kV doc pm an cdv ct),osl⟩)
  (c:PySem.W.codeIn K cdv qual=true) (k:PySem.W.keepIn K (.ref f)=true):Fun K x qual st f (PySem.W.fnOf x qual (As st) (Aq st) (Ai st) .none kV doc pm an cdv ct):=⟨⟨oc,od,kV,doc,pm,an,cdv,ct,osl,rfl,l,c⟩,k⟩
end
theorem BI {A:Around}{k:Nat}(hr:Room k A):A.units+1<cLine:=cK (Nat.add_le_add_left (by decide:1<=64) _) hr.units
section
variable {X:Cx}
theorem pv (i:Nat) {x:Str} {pos:Pos} (hN:X.N[i]?=some x:=by rfl) (hv:XB X.env.scope x:=by first|exact Or.inl rfl|exact Or.inr (Or.inl rfl)|exact Or.inr (Or.inr rfl)) (hd:(x == ("__debug__":Str))=false:=by decide)
  (hcd:(x == ("__classdict__":Str))=false:=by decide):PE X (.Name x pos) (T9 i):=V6 hN hv hd hcd
end
theorem XR {A B:Prop}(h:A):if true=true then A else B:=by
 rw[aG rfl];exact h
theorem Et {c A B:Prop}[Decidable c](h1:c->A)(h2:¬c->B):if c then A else B:=by
 by_cases h:c
 ·rw[aG h];exact h1 h
 ·rw[aJ h];exact h2 h
def Am (H H':Hp):Prop:=∀b o,H b=some o->H' b=some o
theorem Am.refl (H:Hp):Am H H:=λ_ _ h=>h
theorem Am.trans {H H1 H2:Hp}(a:Am H H1)(b:Am H1 H2):Am H H2:=λc o h=>b c o (a c o h)
theorem Am.free {H H':Hp}(e:Am H H'){l:Addr}(h:H' l=Option.none):H l=Option.none:=by
 cases q:H l with
 |none=>rfl
 |some o=>
  rw[e l o q] at h;cases h
theorem Am.seq {K:PySem.W.Frag}{H H':Hp}{a:Addr}{xs:List V}(e:Am H H')(h:AD K H a xs):AD K H' a xs:=by
 rcases h with(h|⟨o,h⟩)|h
 ·exact .inl (.inl (e _ _ h))
 ·exact .inl (.inr ⟨o,e _ _ h⟩)
 ·exact .inr h
end L2
set_option maxHeartbeats 1000000
namespace L2
open PySem PySem.Spec PyProof.Rows
section
variable {prog:Program}{w:World}{A:Around}{env:Env}{elt target iter:Expr}{ifs:List Expr}{scope:Scope}{pos:Pos}{it acc:Value}
abbrev Vf (env:Env)(ifs:List Expr):Sem Bool:=forIn ifs true λc r=>(if r=true then(do let ok <-isTrue c env (eval c env);pure (ForInStep.yield ok)) else pure (ForInStep.yield r))
abbrev QA (prog:Program)(w:World)(A:Around)(env:Env)(elt target:Expr)(ifs:List Expr)(it acc:Value)(Ee:Value->Shared->Prop)(over on:Shared->Prop):Shared->Prop:=
 wpAny (model prog w) A (pyNext it) (fun|none,s1=>over s1|some v,s1=>wpAny (model prog w) A (letOwnedTupleGo target it v) (λ_ s2=>wpAny (model prog w) A (assign target env v) (λ_ s3=>wpAny (model prog w) A (Vf env ifs) (λok s4=>
  if ok=true then wpAny (model prog w) A (eval elt env) (λx s5=>wpAny (model prog w) A (call (.builtin "list.append") [acc,x]) (λ_=>on) (λ_ _=>False) s5) Ee s4 else on s4) Ee s3) Ee s2) (λ_ _=>False) s1) (λ_ _=>False)
theorem Ox {R:Result->Shared->Prop} {Ee:Value->Shared->Prop} (I:Nat->Shared->Prop) (hE:∀x s,Ee x s->notedBy (model prog w) A env (λx s=>R (.error x) s) x s)
  (turn:∀n s,I n s->QA prog w A env elt target ifs it acc Ee (R (.ok .next)) (λs'=>∃m,m<n/\I m s') s) (n:Nat) {s:Shared} (h:I n s) :
  codeAny (model prog w) A (.compLoop (.ListComp elt [⟨target,iter,ifs,0⟩] scope pos) 0 it acc env) R s:=by
 have none':∀{Z:Value->Shared->Prop} (x:Value) (s:Shared),False->Z x s:=λ_ _ z=>z.elim
 refine codeAny_loop rfl I (λk s1 h1=>?_) n h
 change wpAny _ A ((compTurn (.ListComp elt [⟨target,iter,ifs,0⟩] scope pos) 0 it acc env).onRaise (λx=>do noteFrame x env;theTreesLotGoes x)) _ _ s1
 refine wpAny_noted ?_;rw[compTurn_list];refine ae (eJ (ae (bB (turn k s1 h1) (λr s2 h2=>?_) none')))
 match r,h2 with
 |none,h2=>exact ax h2
 |some v,h2=>
  refine ae (bB h2 (λ_ s3 h3=>ae (bB h3 (λ_ s4 h4=>ae (bB h4 (λok s5 h5=>?_) hE)) hE)) none')
  match ok,h5 with
  |false,h5=>exact ax ⟨rfl,h5⟩
  |true,h5=>exact ae (ae (bB h5 (λx s6 h6=>ae (bB h6 (λ_ s7 h7=>ax (ax ⟨rfl,h7⟩)) none')) hE))
theorem Pg {R:Result->Shared->Prop}(I:Nat->Shared->Prop)(turn:∀n s,I n s->QA prog w A env elt target ifs it acc (λ_ _=>False) (R (.ok .next)) (λs'=>∃m,m<n/\I m s') s)(n:Nat){s:Shared}(h:I n s) :
  codeAny (model prog w) A (.compLoop (.ListComp elt [⟨target,iter,ifs,0⟩] scope pos) 0 it acc env) R s:=Ox I (λ_ _ z=>z.elim) turn n h
end
def OM (X:Cx)(ifs:List Expr)(t:TT):Prop:=
 ∀(pins:List (Addr×Obj)) (s:Shared) (σ:St) (H:Hp) (Q:Bool->Hp->Prop),Inv X pins σ H s->t σ H Q->
  wpAny (model X.prog X.w) X.A (forIn ifs true λc r=>if r=true then do let ok <-isTrue c X.env (eval c X.env);pure (ForInStep.yield ok) else pure (ForInStep.yield r)) (TP X pins σ Q) X.xe s
def Oq:TT:=λ_ H Q=>Q true H
theorem AO {X:Cx}:OM X [] Oq:=λ_ _ _ H _ I h=>wpAny_tests_nil ⟨H,I,h⟩
theorem Ci {X:Cx}{c:Expr}{t:TT}(h:PT X c t):OM X [c] t:=λpins s σ H Q I q=>wpAny_tests_one (h pins s σ H Q I q)
def Bs (X:Cx)(scope:Scope)(cl:List (Str×Addr))(N:List Str)(C:Addr)(s:Shared)(H:Hp)(fp:List Addr):Cx:=
 { prog:=X.prog,w:=X.w,K:=X.K,mg:=X.mg,base:=X.base,A:=X.A,N:=N,s₀:=s,H₀:=H,env:=compEnvC scope cl C X.env,outer:=X.stack,stack:=X.stack,ex:=fp,fn:=λ_=>false,calm:=X.calm,pn:=[],xe:=λ_ _=>False }
def stC (fr:List (Option Nat))(σ:St):St:=fr.map λo=>o.bind λi=>(σ[i]?).bind id
def Eo (fr:List (Option Nat))(g:TG)(tt:TT)(te:TE)(σ:St)(Q:VK)(J:It)(H1:Hp):Prop:=∀l,H1 l=none->∃W:Nat->Nat->St->Hp->Prop,(∃m,W 0 m (stC fr σ) (upd H1 l (.lst [])))/\∀i m σ H,W i m σ H->
 (J.stop i H/\Q (.ref l) H)\/(J.go i H/\∀x H',J.yld i H x H'->g x σ H' λσ2 H2=>tt σ2 H2 λb H3=>if b=true then te σ2 H3 λv H4=>∃xs,H4 l=some (.lst xs)/\xs.length<sizeLine/\∃m',m'<m/\W (i+1) m' σ2 (upd H4 l (.lst (xs++[v])))
  else ∃m',m'<m/\W (i+1) m' σ2 H3)
def L0 (fr:List (Option Nat))(wi:TI)(g:TG)(tt:TT)(te:TE):TE:=λσ H Q=>wi σ H (Eo fr g tt te σ Q)
def Hi (XN:List Str)(xs sc:Scope)(N:List Str)(fr:List (Option Nat)):Bool:=
 decide (sc.kind=.function)&&decide (fr.length=N.length)&&(sc.names.all λy=>!decide (y.2=.cell))&&(sc.names.all λy=>!decide (y.2=.local)||decide (sc.names.lookup y.1=some .local)) &&
 (sc.names.all λy=>!decide (y.2=.free)||(decide (xs.names.lookup y.1=some .cell)||decide (xs.names.lookup y.1=some .free))) &&
 ((N.zip fr).all λp=>match p.2 with|none=>true|some i=>decide (XN[i]?=some p.1)&&decide (sc.names.lookup p.1=some .free))
def OF (cells:List (Str×Addr)):List (Str×Addr)->Prop
 |[]=>True
 |p::r=>cells.lookup p.1=some p.2/\OF cells r
theorem OF.get {cells:List (Str×Addr)}:∀{cl:List (Str×Addr)},OF cells cl->∀{x:Str} {c:Addr},cl.lookup x=some c->cells.lookup x=some c
 |[],_,_,_,h=>by cases h
 |(y,d)::r,k,x,c,h=>by
  rw[d9] at h;cases e:x == y with
  |true=>
   rw[e] at h;cases h;rw[eq_of_beq e];exact k.1
  |false=>
   rw[e] at h;exact OF.get k.2 h
def IF (cl:List (Str×Addr)):List (Str×NameKind)->Prop
 |[]=>True
 |p::r=>(p.2=.free->∃c,cl.lookup p.1=some c)/\IF cl r
theorem IF.get {cl:List (Str×Addr)}:∀{ns:List (Str×NameKind)},IF cl ns->∀y∈ns,y.2=.free->∃c,cl.lookup y.1=some c
 |[],_,_,h=>by cases h
 |p::r,k,y,h=>by
  rcases aL.mp h with rfl|h
  ·exact k.1
  ·exact IF.get k.2 y h
theorem Gu {env:Env}:∀{names:List (Str×NameKind)} {x:Str} {k:NameKind},(names.map λ(n,k)=>if(k == NameKind.free&&env.scope.kind == .function&&env.kindOf n == some .cell) then(n,NameKind.cell) else(n,k)).lookup x=some k->
  names.lookup x=some k\/(k=.cell/\names.lookup x=some .free)
 |[],_,_,h=>by cases h
 |(n,k0)::r,x,k,h=>by
  have ih:=@Gu env r x k
  by_cases hc:(k0 == NameKind.free&&env.scope.kind == .function&&env.kindOf n == some .cell)=true
  ·simp only[List.map_cons,if_pos hc,List.lookup_cons] at h;rw[d9];cases e:x == n with
   |true=>
    rw[e] at h;cases h;simp only[Bool.and_eq_true] at hc;have:k0=.free:=by simpa using hc.1.1
    exact .inr ⟨rfl,by rw[this]⟩
   |false=>rw[e] at h;exact ih h
  ·simp only[List.map_cons,if_neg hc,List.lookup_cons] at h;rw[d9];cases e:x == n with
   |true=>rw[e] at h;exact .inl h
   |false=>rw[e] at h;exact ih h
theorem IQ {env:Env}:∀{names:List (Str×NameKind)} {x:Str},names.lookup x=some .free->
  (names.map λ(n,k)=>if(k == NameKind.free&&env.scope.kind == .function&&env.kindOf n == some .cell) then(n,NameKind.cell) else(n,k)).lookup x=some .cell\/
  (names.map λ(n,k)=>if(k == NameKind.free&&env.scope.kind == .function&&env.kindOf n == some .cell) then(n,NameKind.cell) else(n,k)).lookup x=some .free
 |[],_,h=>by cases h
 |(n,k0)::r,x,h=>by
  have ih:=@IQ env r x;rw[d9] at h
  by_cases hc:(k0 == NameKind.free&&env.scope.kind == .function&&env.kindOf n == some .cell)=true
  ·simp only[List.map_cons,if_pos hc,List.lookup_cons];cases e:x == n with
   |true=>exact .inl rfl
   |false=>rw[e] at h;exact ih h
  ·simp only[List.map_cons,if_neg hc,List.lookup_cons];cases e:x == n with
   |true=>rw[e] at h;exact .inr h
   |false=>rw[e] at h;exact ih h
section
variable {X:Cx}
theorem L4 (N:List Str) (fr:List (Option Nat)) {elt tg iter:Expr} {ifs:List Expr} {scope:Scope} {pos fpos:Pos} {wi:TI} {g:TG} {tt:TT} {te:TE} {cl:List (Str×Addr)}
  (hc:X.calm=true) (hi:PI X tg iter wi) (hchk:Hi X.N X.env.scope scope N fr=true) (hclos:closureFor scope X.env=pure cl) (hcl:OF X.env.cells cl) (hall:IF cl scope.names)
  (hb:∀(C:Addr) (s:Shared) (H:Hp) (fp:List Addr),PG (Bs X scope cl N C s H fp) tg g/\OM (Bs X scope cl N C s H fp) ifs tt/\PE (Bs X scope cl N C s H fp) elt te)
  (hs:∀x,foldedSetIterable iter X.env x=pure x) {pins:List (Addr×Obj)} {s:Shared} {σ:St} {H:Hp} {Q:VK} {use:Option (Value->Sem Unit)} {Qc:Value->Shared->Prop} (I:Inv X pins σ H s) (h:L0 fr wi g tt te σ H Q)
  (hfin:∀(l:Addr) (H':Hp) (s':Shared) (C:Addr),Inv X pins σ H' s'->Lr X pins H' C->(∃m,s'.heap.Ns C m)->Q (.ref l) H'->compPost (model X.prog X.w) X.A X.xe use Qc (.ref l) C (.ok .next) s') :
  wpAny (model X.prog X.w) X.A (comprehension (.ListComp elt [⟨tg,iter,ifs,0⟩] scope pos) scope X.env fpos (newList []) (firstAsync [⟨tg,iter,ifs,0⟩]) (firstIter [⟨tg,iter,ifs,0⟩] X.env) use) Qc X.xe s:=by
 simp only[Hi,Bool.and_eq_true,decide_eq_true_eq,List.all_eq_true,Bool.or_eq_true,Bool.not_eq_true',decide_eq_false_iff_not] at hchk;obtain⟨⟨⟨⟨⟨hkind,hlen⟩,hcell⟩,hnames⟩,hfree⟩,hfr⟩:=hchk;have hnames':∀x∈scope.names,x.2=.local->scope.names.lookup x.1=some .local:=λy hy e=>(hnames y hy).resolve_left λz=>z e
 have hcell':∀x∈scope.names,x.2≠.cell:=λy hy=>hcell y hy
 refine wpAny_comprehension_free (use:=use) rfl hs hclos hkind hnames' (Bc (hi pins s σ H _ I h) λv s1 h1=>Bc h1 λitv s2 h2=>?_);obtain⟨it,fp,tn,J,H2,e,I2,T,st2,f2,hQ⟩:=h2;subst e;refine cB (hd:=by size_fits) (wpAny_newFunctionEnv hcell' (by intro y hy;simp at hy) (λh₁ hns hsb=>?_) hkind);dsimp only at hns hsb ⊢;obtain⟨W,⟨m0,w0⟩,turn⟩:=hQ s2.heap.objs.size I2.fresh;have I3:Inv X pins σ (upd H2 s2.heap.objs.size (.lst [])) { s2 with heap:=s2.heap.push { cls:=.type "list",data:=.seq ([]:List Value).toArray },toks:=s2.toks }:=I2.lnew (its:=[]) .nil (bC _);generalize hh3:s2.heap.push { cls:=.type "list",dict:=none,data:=.seq ([]:List Value).toArray }=h3 at hns hsb ⊢;rw[show s2.heap.push { cls:=.type "list",data:=.seq ([]:List Value).toArray }=h3 from hh3] at I3;generalize hH3:upd H2 s2.heap.objs.size (.lst [])=H3 at I3 w0;generalize hl:s2.heap.objs.size=l at turn hH3 ⊢;have hl3:l<h3.objs.size:=by rw[<-hh3,<-hl,bT];exact cR _
 generalize hs3:({ s2 with heap:=h3,toks:=s2.toks }:Shared)=s3 at I3;have es3:s3.heap=h3:=by rw[<-hs3]
 have eos:s3.os=s2.os:=by rw[<-hs3]
 have egens:s3.gens=s2.gens:=by rw[<-hs3]
 generalize hC:h3.objs.size=C at hns hsb ⊢;have old:∀b o,h3.get? b=some o->h₁.get? b=some o:=λb o e=>
  hsb.extBut b o (by rw[<-hC];exact aR (aF e)) (ah _ e)
 have f3:∀b∈fp,Lr X pins H3 b:=λb hb=>by
  obtain⟨g0,g1⟩:=f2 b hb;refine⟨?_,g1⟩;rw[<-hH3];have:b≠l:=by
   obtain⟨o,e,_⟩:=T.obj _ _ st2 b hb;rw[<-hl];exact aR (aF e)
  rw[Ah this];exact g0
 have st3:tn 0 h₁:=T.keep _ _ _ st2 λb hb o e=>old b o (by rw[<-hh3];exact ah _ e)
 have ok:(Bs X scope cl N C s3 H3 fp).Ok:=by
  refine⟨I3.ok.mod,?_,I3.ok.glob,I3.ok.blt,?_,λx y c e1 e2=>I3.ok.inj x y c (hcl.get e1) (hcl.get e2),λx hx=>?_,λx c hx=>(by cases hx),I3.ok.hd,I3.ok.frames,.inl rfl,λb hb=>?_,λb o e=>?_,?_,λb o e hb=>?_,λb hb hb2=>?_,?_,λb hb=>?_⟩
  ·exact hkind
  ·show s3.heap.objs.size<=C;rw[es3,hC];exact ar _
  ·have hx':(relabel scope X.env).names.lookup x=some .cell\/(relabel scope X.env).names.lookup x=some .free:=hx;have:scope.names.lookup x=some .free:=by
    rcases hx' with z|z
    ·rcases Gu z with q|⟨_,q⟩
     ·exact absurd rfl (hcell' _ (bU q))
     ·exact q
    ·rcases Gu z with q|⟨q,_⟩
     ·exact q
     ·cases q
   exact hall.get _ (bU this) rfl
  ·obtain⟨g0,g1,g2,g3,g4,g5⟩:=f3 b hb;obtain⟨o,e,_⟩:=T.obj _ _ st2 b hb;refine⟨?_,λx c e=>g4 x c (hcl.get e)⟩;show b≠C;rw[<-hC];exact aR (aF (by rw[<-hh3];exact ah _ e))
  ·have q:=I3.bs b o e;exact q
  ·show X.base.objs.size<=s3.heap.objs.size;exact bA I3.ok.bsz I3.sz
  ·obtain⟨g0,g1,g2,g3,g4,g5⟩:=f3 b hb;rcases g3 with z|z
   ·exact I3.ok.noex b o e z
   ·exact absurd (aN (aF e) (bA I3.ok.bsz z)) (cT _)
  ·obtain⟨g0,g1,g2,g3,g4,g5⟩:=f3 b hb;rcases aL.mp (I3.stkSub b hb2) with z|z
   ·exact g1 z
   ·exact g2 z
  ·show s3.heap.FunFrames X.base X.stack;exact I3.stack
  ·exact I3.stkFree b hb
 have I4:Inv (Bs X scope cl N C s3 H3 fp) [] (stC fr σ) H3 { s2 with heap:=h₁,toks:=s2.toks+([]:List (Str×Value)).length }:=by
  have hk3:∀b o,s3.heap.get? b=some o->h₁.get? b=some o:=λb o e=>old b o (by rw[<-es3];exact e)
  refine⟨ok,eos.symm▸rfl,egens▸I3.bare,Un.kept hk3,⟨_,hns,λi x v e1 e2 e3=>?_⟩,λx c e=>?_,?_,λx c e=>I3.freeC x c (hcl.get e),λp hp=>(by cases hp),I3.hok.kept hk3,?_⟩
  ·
   have e1':N[i]?=some x:=e1;have e2':(fr[i]?).map (λo=>o.bind λi=>(σ[i]?).bind id)=some (some v):=by
    have:(stC fr σ)[i]?=some (some v):=e2;rw[stC,az] at this;exact this
   cases q:fr[i]? with
   |none=>rw[q] at e2';cases e2'
   |some o=>
    rw[q] at e2';cases o with
    |none=>cases e2'
    |some j=>
     have e2'':(σ[j]?).bind id=some v:=aA e2';obtain⟨p1,p2⟩:X.N[j]?=some x/\scope.names.lookup x=some .free:=by
      have hz:(x,some j)∈N.zip fr:=by
       have:(N.zip fr)[i]?=some (x,some j):=by
        rw[List.getElem?_zip_eq_some];exact⟨e1',q⟩
       exact aC this
      have:=hfr _ hz;simpa using this
     have hv:X.env.scope.names.lookup x=some .cell\/X.env.scope.names.lookup x=some .free:=by
      rcases hfree _ (bU p2) with z|z
      ·exact absurd rfl z
      ·simpa using z
     have e3':σ[j]?=some (some v):=by
      cases q3:σ[j]? with
      |none=>rw[q3] at e2'';cases e2''
      |some w'=>rw[q3] at e2'';have:w'=some v:=e2'';rw[this]
     obtain⟨m,hn,hl'⟩:=I3.loc;obtain⟨u,ru,lk⟩:=hl' j x v p1 e3' (.inr hv);refine⟨u,ru,.inr ⟨IQ p2,?_⟩⟩;rcases lk with⟨lk,_⟩|⟨_,c,ec,cc⟩
     ·have lk':X.env.scope.names.lookup x=some .local:=lk;rcases hv with z|z<;>(rw[z] at lk';cases lk')
     ·obtain⟨c',ec'⟩:=hall.get _ (bU p2) rfl;have:=hcl.get ec';rw[ec] at this;cases this;obtain⟨o,ho,hd⟩:=cc;exact⟨c,ec',o,hk3 _ _ ho,hd⟩
  ·obtain⟨v,o,ho,hd⟩:=I3.cell x c (hcl.get e);exact⟨v,o,hk3 _ _ ho,hd⟩
  ·show H3 C=none;exact I3.hok.fresh (by rw[es3,hC];exact ar _)
  ·show(stC fr σ).length=N.length;rw[stC,aa];exact hlen
 obtain⟨hg,ht,he⟩:=hb C s3 H3 fp;have fpc:∀{H':Hp},(∀b∈fp,H' b=none)->∀b∈fp,Lr (Bs X scope cl N C s3 H3 fp) [] H' b:=λhn b hb=>by
  obtain⟨q1,q2⟩:=ok.exf b hb;exact⟨hn b hb,q1,ok.exfs b hb,.inl hb,q2,λp hp=>by cases hp⟩
 have fin:∀(σ':St) (H':Hp) (s':Shared),Inv (Bs X scope cl N C s3 H3 fp) [] σ' H' s'->Q (.ref l) H'->compPost (model X.prog X.w) X.A X.xe use Qc (.ref l) C (.ok .next) s':=λσ' H' s' I' q=>by
  obtain⟨m,hn,_⟩:=I'.loc;have nC:∀b o,s3.heap.get? b=some o->b≠C:=λb o e=>by
   rw[<-hC,<-es3];exact aR (aF e)
  have fC:H' C=none:=I'.free;have u:=I'.base;refine hfin l H' s' C ?_ (I3.fpOk (by rw[es3,hC];exact ar _) fC) ⟨m,hn⟩ q;refine I3.call' (s':=s') (ch:=fp) I'.os ⟨λb o e n hb hx=>u.keep b o e n hb hx,λb o e n hb hx=>u.slot b o e n hb hx,u.free,λb o e hx=>u.there b o e hx,u.tups,u.frzs,u.tbls⟩ (λb o e=>I'.hok b o e) I'.bare λb hb=>?_
  obtain⟨g0,g1,g2,g3,g4,g5⟩:=f3 b hb;exact⟨g3,g1,g4,g5⟩
 have loop:codeAny (model X.prog X.w) X.A (.compLoop (.ListComp elt [⟨tg,iter,ifs,0⟩] scope pos) 0 (.ref it) (.ref l) (compEnvC scope cl C X.env)) (compPost (model X.prog X.w) X.A X.xe use Qc (.ref l) C)
   { s2 with heap:=h₁,toks:=s2.toks+([]:List (Str×Value)).length }:=by
  refine Pg (λn s'=>∃i σ' H',Inv (Bs X scope cl N C s3 H3 fp) [] σ' H' s'/\tn i s'.heap/\(∀b∈fp,H' b=none)/\W i n σ' H') ?_ m0 ⟨0,_,H3,I4,st3,λb hb=>(f3 b hb).1,w0⟩
  rintro n s5 ⟨i,σ5,H5,I5,st5,fr5,w5⟩
  rcases turn i n σ5 H5 w5 with⟨stop,qn⟩|⟨go,step⟩
  ·refine Bc (T.done (Bs X scope cl N C s3 H3 fp) rfl rfl rfl hc i [] s5 σ5 H5 (λ_ _=>False) I5 (fpc fr5) st5 stop) λr s6 ⟨hr,I6⟩=>?_
   subst hr;exact fin σ5 H5 s6 I6 qn
  ·refine Bc (T.item (Bs X scope cl N C s3 H3 fp) rfl rfl rfl hc i [] s5 σ5 H5 (λ_ _=>False) I5 (fpc fr5) st5 go) λr s6 ⟨u,hr,h6⟩=>?_
   subst hr;refine Bc h6 λ_ s7 z9=>?_
   obtain⟨x,H7,I7,r7,y7,st7,fr7⟩:=z9;have I7':=I7.pinned (fpc fr7) (T.obj _ _ st7);refine Bc (hg _ s7 σ5 H7 x u _ I7' r7 (step x H7 y7)) λ_ s8 ⟨σ8,H8,I8,q8⟩=>?_
   have again:∀{σ9:St} {H9:Hp} {s9:Shared},Inv (Bs X scope cl N C s3 H3 fp) ([]++K2 fp s7.heap) σ9 H9 s9->(∃m',m'<n/\W (i+1) m' σ9 H9)->∃m,m<n/\∃i σ' H',Inv (Bs X scope cl N C s3 H3 fp) [] σ' H' s9/\tn i s9.heap/\(∀b∈fp,H' b=none)/\W i m σ' H':=λ{σ9 H9 s9} I9 n9=>by
    obtain⟨m',hm,w9⟩:=n9;refine⟨m',hm,i+1,σ9,H9,I9.unpinned,T.keep _ _ _ st7 λb hb o e=>(I9.pin (b,o) (aD _ (aD _ (FV hb e)))).1,λb hb=>?_,w9⟩;obtain⟨o,e,d⟩:=T.obj _ _ st7 b hb;exact(I9.pin (b,o) (aD _ (aD _ (FV hb e)))).2.1
   refine Bc (ht _ s8 σ8 H8 _ I8 q8) λok s9 ⟨H9,I9,q9⟩=>?_
   cases ok with
   |false=>
    rw[aJ aB] at q9 ⊢;exact again I9 q9
   |true=>
    rw[aG rfl] at q9 ⊢;refine Bc (he _ s9 σ8 H9 _ I9 q9) λy sa ⟨vy,Ha,Ia,ry,qa⟩=>?_
    obtain⟨xs,hla,hsz,n9⟩:=qa;refine Bc (BD _ sa σ8 Ha (.ref l) [vy] (.ref l) [y] (λ_ Hb=>∃m',m'<n/\W (i+1) m' σ8 Hb) Ia rfl (.cons ry .nil) ⟨l,xs,vy,rfl,rfl,hla,hsz,n9⟩) λ_ sb ⟨_,Hb,Ib,_,qb⟩=>?_
    exact again Ib qb
 show codeAny (model X.prog X.w) X.A (.compStart (.ListComp elt [⟨tg,iter,ifs,0⟩] scope pos) 0 (.ref it) (.ref l) (compEnvC scope cl C X.env)) (compPost (model X.prog X.w) X.A X.xe use Qc (.ref l) C) { s2 with heap:=h₁,toks:=s2.toks+([]:List (Str×Value)).length };exact codeAny_compStart_list loop (T.self _ 0 _ _ _ st3 loop)
theorem BV (N:List Str) (fr:List (Option Nat)) {elt tg iter:Expr} {ifs:List Expr} {scope:Scope} {pos:Pos} {wi:TI} {g:TG} {tt:TT} {te:TE} {cl:List (Str×Addr)}
  (hc:X.calm=true) (hi:PI X tg iter wi) (hchk:Hi X.N X.env.scope scope N fr=true) (hclos:closureFor scope X.env=pure cl) (hcl:OF X.env.cells cl) (hall:IF cl scope.names)
  (hb:∀(C:Addr) (s:Shared) (H:Hp) (fp:List Addr),PG (Bs X scope cl N C s H fp) tg g/\OM (Bs X scope cl N C s H fp) ifs tt/\PE (Bs X scope cl N C s H fp) elt te)
  (hs:∀x,foldedSetIterable iter X.env x=pure x:=by intro _;rfl) :
  PE X (.ListComp elt [⟨tg,iter,ifs,0⟩] scope pos) (L0 fr wi g tt te):=by
 intro pins s σ H Q I h;rw[eval_ListComp];refine L4 N fr hc hi hchk hclos hcl hall hb hs I h λl H' s' C I' fC ⟨m,hn⟩ q=>?_
 refine⟨m,hn,λh'' hs''=>⟨.ref l,H',?_,rfl,q⟩⟩;obtain⟨f0,f1,f2,f3,f4,f5⟩:=fC;exact I'.turned (t':=s'.toks) (λb o hb e=>(hs''.2 b hb).trans e) f0 f1 f3 f4 f5
theorem Eu (N:List Str) (fr:List (Option Nat)) {i:Nat} {x:Str} {elt tg iter:Expr} {ifs:List Expr} {scope:Scope} {cpos pos pos':Pos} {wi:TI} {g:TG} {tt:TT} {te:TE} {cl:List (Str×Addr)}
  (hN:X.N.Nodup) (hi':X.N[i]?=some x) (hx:Loc X.env.scope x)
  (hc:X.calm=true) (hi:PI X tg iter wi) (hchk:Hi X.N X.env.scope scope N fr=true) (hclos:closureFor scope X.env=pure cl) (hcl:OF X.env.cells cl) (hall:IF cl scope.names)
  (hb:∀(C:Addr) (s:Shared) (H:Hp) (fp:List Addr),PG (Bs X scope cl N C s H fp) tg g/\OM (Bs X scope cl N C s H fp) ifs tt/\PE (Bs X scope cl N C s H fp) elt te)
  (hs:∀x,foldedSetIterable iter X.env x=pure x:=by intro _;rfl)
  (hsw:swapsWith (.ListComp elt [⟨tg,iter,ifs,0⟩] scope cpos) (some (.Name x pos')) pos.line X.env=pure true:=by rfl)
  (hf:X.fn x=true\/X.env.scope.names.lookup x=some .local:=by first|exact .inl rfl|exact .inr rfl|assumption) :
  PS X (.Assign [.Name x pos'] (.ListComp elt [⟨tg,iter,ifs,0⟩] scope cpos) pos) (SR (L0 fr wi g tt te) (Ay i)):=by
 intro pins s σ H D I h;rw[exec_Assign_arm];refine ae (eJ ?_);rw[show swapsWithSole [.Name x pos'] (.ListComp elt [⟨tg,iter,ifs,0⟩] scope cpos) pos.line X.env=pure true from hsw];refine ae (ax ?_);rw[aG rfl,arm_evalThenUse_ListComp];refine ae (ae ?_);have h1:L0 fr wi g tt te σ H λv H1=>D.nx (σ.set i (some v)) H1:=h
 refine L4 (use:=some _) N fr hc hi hchk hclos hcl hall hb hs I h1 λl H' s' C I' fC ⟨m,hn⟩ q=>?_
 obtain⟨f0,f1,f2,f3,f4,f5⟩:=fC;obtain⟨o,es,ep,ho,hd,hk,hm⟩:=hn;have Ip:Inv X (pins++[(C,o)]) σ H' s':=I'.pins_of λp hp=>(av.mp hp).elim (λz=>I'.pin p (aD _ z)) λz=>by
  rw[ai.mp z];exact⟨ho,f0,f1,f2,λv e=>by rw[hd] at e;cases e⟩
 show wpAny _ _ (assignAll (.ref l) [assign (.Name x pos') X.env]) _ _ _;rw[assignAll.eq_2];refine wpAny_assign_Name (GV Ip hN hi' hx (v:=.ref l) rfl (λs2 I2=>?_) hf);have ho2:=(I2.pin (C,o) (aD _ (aD _ (List.mem_singleton_self _)))).1;refine⟨m,⟨o,es,ep,ho2,hd,hk,hm⟩,λh' hs'=>ax (ax ⟨_,H',?_,q⟩)⟩;exact I2.unpinned.turned (t':=s2.toks) (λb o hb e=>(hs'.2 b hb).trans e) f0 f1 f3 f4 f5
def Ir (sc:Scope):Bool:=
 decide (sc.kind=.function)&&(sc.names.all λy=>!decide (y.2=.cell))&&(sc.names.all λy=>!decide (y.2=.local)||decide (sc.names.lookup y.1=some .local))&&(sc.names.all λy=>!decide (y.2=.free))
theorem BX (N:List Str) {elt tg iter:Expr} {ifs:List Expr} {scope:Scope} {pos:Pos} {wi:TI} {g:TG} {tt:TT} {te:TE}
  (hc:X.calm=true) (hi:PI X tg iter wi) (hchk:Ir scope=true)
  (hb:∀(C:Addr) (s:Shared) (H:Hp) (fp:List Addr),PG (Bs X scope [] N C s H fp) tg g/\OM (Bs X scope [] N C s H fp) ifs tt/\PE (Bs X scope [] N C s H fp) elt te)
  (hs:∀x,foldedSetIterable iter X.env x=pure x:=by intro _;rfl) :
  PE X (.ListComp elt [⟨tg,iter,ifs,0⟩] scope pos) (L0 (N.map λ_=>none) wi g tt te):=by
 simp only[Ir,Bool.and_eq_true,decide_eq_true_eq,List.all_eq_true,Bool.or_eq_true,Bool.not_eq_true',decide_eq_false_iff_not] at hchk;obtain⟨⟨⟨hkind,hcell⟩,hnames⟩,hfree⟩:=hchk;refine BV (cl:=[]) N (N.map λ_=>none) hc hi ?_ (closureFor_none λx hx=>hfree x hx) trivial ?_ hb hs
 ·simp only[Hi,Bool.and_eq_true,decide_eq_true_eq,List.all_eq_true,Bool.or_eq_true,Bool.not_eq_true',decide_eq_false_iff_not];refine⟨⟨⟨⟨⟨hkind,by simp⟩,hcell⟩,hnames⟩,λy hy=>.inl (hfree y hy)⟩,λp hp=>?_⟩;have:p.2∈N.map λ_=>(none:Option Nat):=(dD hp).2
  obtain⟨_,_,e⟩:=af.mp this;rw[<-e]
 ·have:∀ns:List (Str×NameKind),(∀y∈ns,y.2≠.free)->IF [] ns:=by
   intro ns
   induction ns with
   |nil=>intro _;exact trivial
   |cons p r ih=>intro h;exact⟨λe=>absurd e (h p aw),ih λy hy=>h y (aI _ hy)⟩
  exact this _ λy hy=>hfree y hy
theorem RC (N:List Str) {i:Nat} {x:Str} {elt tg iter:Expr} {ifs:List Expr} {scope:Scope} {cpos pos pos':Pos} {wi:TI} {g:TG} {tt:TT} {te:TE}
  (hN:X.N.Nodup) (hi':X.N[i]?=some x) (hx:Loc X.env.scope x)
  (hc:X.calm=true) (hi:PI X tg iter wi) (hchk:Ir scope=true)
  (hb:∀(C:Addr) (s:Shared) (H:Hp) (fp:List Addr),PG (Bs X scope [] N C s H fp) tg g/\OM (Bs X scope [] N C s H fp) ifs tt/\PE (Bs X scope [] N C s H fp) elt te)
  (hs:∀x,foldedSetIterable iter X.env x=pure x:=by intro _;rfl)
  (hsw:swapsWith (.ListComp elt [⟨tg,iter,ifs,0⟩] scope cpos) (some (.Name x pos')) pos.line X.env=pure true:=by rfl)
  (hf:X.fn x=true\/X.env.scope.names.lookup x=some .local:=by first|exact .inl rfl|exact .inr rfl|assumption) :
  PS X (.Assign [.Name x pos'] (.ListComp elt [⟨tg,iter,ifs,0⟩] scope cpos) pos) (SR (L0 (N.map λ_=>none) wi g tt te) (Ay i)):=by
 simp only[Ir,Bool.and_eq_true,decide_eq_true_eq,List.all_eq_true,Bool.or_eq_true,Bool.not_eq_true',decide_eq_false_iff_not] at hchk;obtain⟨⟨⟨hkind,hcell⟩,hnames⟩,hfree⟩:=hchk;refine Eu (cl:=[]) N (N.map λ_=>none) hN hi' hx hc hi ?_ (closureFor_none λx hx=>hfree x hx) trivial ?_ hb hs hsw hf
 ·simp only[Hi,Bool.and_eq_true,decide_eq_true_eq,List.all_eq_true,Bool.or_eq_true,Bool.not_eq_true',decide_eq_false_iff_not];refine⟨⟨⟨⟨⟨hkind,by simp⟩,hcell⟩,hnames⟩,λy hy=>.inl (hfree y hy)⟩,λp hp=>?_⟩;have:p.2∈N.map λ_=>(none:Option Nat):=(dD hp).2
  obtain⟨_,_,e⟩:=af.mp this;rw[<-e]
 ·have:∀ns:List (Str×NameKind),(∀y∈ns,y.2≠.free)->IF [] ns:=by
   intro ns
   induction ns with
   |nil=>intro _;exact trivial
   |cons p r ih=>intro h;exact⟨λe=>absurd e (h p aw),ih λy hy=>h y (aI _ hy)⟩
  exact this _ λy hy=>hfree y hy
end
def Def (P:Program)(w:World)(K:PySem.W.Frag)(mg:Str->Option Value)(base:Heap)(k:Nat)(x:Str)(ps:List Str)(sp:Sp):Prop:=
 ∃(f:Addr) (fd:FuncData),FnOk P w K mg base Cf k f fd ps sp/\mg x=some (.ref f)/\PySem.W.keepIn K (.ref f)=true/\Binds K fd ps []
section
variable {X:Cx}{k:Nat}{x:Str}{ps:List Str}{sp:Sp}{e:Expr}{es:List Expr}{t:TA}{p pos:Pos}
theorem AC (D:Def X.prog X.w X.K X.mg X.base k x ps sp) (hr:Room k X.A) (hg:Gl X x) (ha:PA X (e::es) t)
  (hdb:(x == ("__debug__":Str))=false:=by decide) (he:starEach (e::es) X.env=(false,eval e X.env)::starEach es X.env:=by rfl) (hpl:(backTo pos (starEach es X.env)).any (·.1)=false:=by rfl) :
  PE X (.Call (.Name x p) (e::es) [] pos) (Vu sp [] E0 t):=by
 obtain⟨f,fd,F,hm,hk,hb⟩:=D;exact UM F hr hg hm hk hb .nil P4 ha hdb he hpl
end
section
variable {X:Cx}
theorem Bq {x:Str}{i:Int}{pos:Pos}(hg:Gl X x)(hm:∃t,X.mg x=some (.int i t))(hd:(x == ("__debug__":Str))=false:=by decide):PE X (.Name x pos) (tC (.int i)):=by
 obtain⟨t,hm⟩:=hm;exact PQ hg hm ⟨_,rfl⟩ hd
theorem HA {x:Str}{T:String}{pos:Pos}(hg:Gl X x)(hm:X.mg x=none)(hv:bootBuiltins x=some (.type T))(hn:x≠"__name__":=by decide)(hd:(x == ("__debug__":Str))=false:=by decide):PE X (.Name x pos) (tC (.ty T)):=UN hg hm hv rfl hn hd
theorem KH {x z:Str}{pos:Pos}(hg:Gl X x)(hm:∃t,X.mg x=some (.str z t))(hd:(x == ("__debug__":Str))=false:=by decide):PE X (.Name x pos) (tC (.str z)):=by
 obtain⟨t,hm⟩:=hm;exact PQ hg hm ⟨_,rfl⟩ hd
end
theorem A1:bootBuiltins "isinstance"=some (.builtin "isinstance"):=by decide +kernel
theorem Tv:bootBuiltins "all"=some (.builtin "all"):=by decide +kernel
theorem Il:bootBuiltins "sum"=some (.builtin "sum"):=by decide +kernel
theorem EK:bootBuiltins "sorted"=some (.builtin "sorted"):=by decide +kernel
theorem BW:bootBuiltins "len"=some (.builtin "len"):=by decide +kernel
theorem VL:bootBuiltins "max"=some (.builtin "max"):=by decide +kernel
theorem Wv:bootBuiltins "min"=some (.builtin "min"):=by decide +kernel
theorem JB:bootBuiltins "int"=some (.type "int"):=by decide +kernel
theorem Qp:bootBuiltins "bool"=some (.type "bool"):=by decide +kernel
theorem Pm:bootBuiltins "str"=some (.type "str"):=by decide +kernel
theorem Gm:bootBuiltins "list"=some (.type "list"):=by decide +kernel
theorem GR:bootBuiltins "tuple"=some (.type "tuple"):=by decide +kernel
theorem Ut:bootBuiltins "dict"=some (.type "dict"):=by decide +kernel
theorem MN {t c:String}{b:Bool}(h:(if(Value.type t == Value.type c)=true then some true else if PySem.W.kitMeta c=true then(fastBuiltinMro t).map (·.contains (.type c)) else none)=some b)(K:PySem.W.Frag) :
  PySem.W.kitOne K (.type t) (.type c)=some b:=h
theorem N4 (K:PySem.W.Frag):PySem.W.kitOne K (.type "int") (.type "int")=some true:=MN (by decide +kernel) K
theorem MH (K:PySem.W.Frag):PySem.W.kitOne K (.type "int") (.type "bool")=some false:=MN (by decide +kernel) K
theorem JZ (K:PySem.W.Frag):PySem.W.kitOne K (.type "tuple") (.type "tuple")=some true:=MN (by decide +kernel) K
section
variable {X:Cx}
def XU (K:PySem.W.Frag):List V->Hp->VK->Prop:=λxs H Q=>∃x c t b,xs=[x,.ty c]/\TyOf K H x t/\PySem.W.kitOne K t (.type c)=some b/\Q (.bl b) H
theorem Bz:DG X (.builtin "isinstance") (XU X.K):=by
 intro pins s σ H xs us Q I r h;obtain⟨x,c,t,b,rfl,ty,e,q⟩:=h;obtain⟨u,v,rfl,ru,rv⟩:=vals2 r;have ev:v=Value.type c:=rv;subst ev;exact Rm I ru ty e λtk=>⟨.bl b,H,I.tok _,rfl,q⟩
end
def DF:V->Bool
 | .non=>true
 | .int _=>true
 | .str _=>true
 |_=>false
theorem Hj {x:V}(h:DF x=true):GM x=true:=by
 cases x<;>first|rfl|exact h
theorem pure_eq {x y:V}(hx:DF x=true)(hy:DF y=true):O1 x y=decide (x=y):=by
 cases x<;>first|exact absurd (show false=true from hx) aB|skip
 all_goals (cases y<;>first|exact absurd (show false=true from hy) aB|skip)
 ·rfl
 ·rfl
 ·rfl
 ·rfl
 ·exact Me.symm
 ·rfl
 ·rfl
 ·rfl
 ·exact Mi.symm
theorem Hz:∀(xs ys:List V),xs.length=ys.length->xs.all DF=true->ys.all DF=true->
  ((List.range xs.length).all λi=>O1 (xs.getD i .non) (ys.getD i .non))=decide (xs=ys):=by
 intro xs
 induction xs with
 |nil=>
  intro ys hl _ _;cases ys with
  |nil=>rfl
  |cons _ _=>simp at hl
 |cons x xs ih=>
  intro ys hl hx hy;cases ys with
  |nil=>simp at hl
  |cons y ys=>
   rw[dZ,aY] at hx hy;have q:=ih ys (by simpa using hl) hx.2 hy.2;rw[aX,List.range_succ_eq_map,dZ,gp];have e0:((λi=>O1 ((x::xs).getD i .non) ((y::ys).getD i .non))∘Nat.succ)=λi=>O1 (xs.getD i .non) (ys.getD i .non):=by
    funext i;simp
   rw[e0,q];show(O1 x y&&decide (xs=ys))=_;rw[pure_eq hx.1 hy.1]
   by_cases h1:x=y
   ·by_cases h2:xs=ys<;>simp[h1,h2]
   ·simp[h1]
theorem Kf {xs:List V}{us:List Value}(r:AG xs us){j:Nat}(hj:j<us.length):∃x,xs[j]?=some x/\RelV x us[j]:=by
 have hl:=r.length;obtain⟨u,e1,e2⟩:=r.get (i:=j) (x:=xs[j]'(by omega)) (by simp[show j<xs.length by omega]);refine⟨xs[j]'(by omega),by simp[show j<xs.length by omega],?_⟩;rw[ab hj] at e1;cases e1;exact e2
section
variable {X:Cx}
theorem SQ {A:Around} {s:Shared} {a b:Addr} {xs ys:List V} {its its2:List Value} (hu:A.units<cLine) (r1:AG xs its) (r2:AG ys its2) (h1:s.heap.IsList a its.toArray) (h2:s.heap.IsList b its2.toArray)
  (f1:xs.all DF=true) (f2:ys.all DF=true):SeqAt.RcAt A s (.ref a) (.ref b) (decide (xs=ys)):=by
 have l1:=r1.length;have l2:=r2.length
 by_cases hl:xs.length=ys.length
 ·have q:=SeqAt.RcAt.lists (A:=A) (s:=s) (e:=λi=>O1 (xs.getD i .non) (ys.getD i .non)) h1 h2 (by simp;omega) hu (λj g1 g2=>by
   have g1':j<its.length:=by simpa using g1
   have g2':j<its2.length:=by simpa using g2
   obtain⟨x,e1,rx⟩:=Kf r1 g1';obtain⟨y,e2,ry⟩:=Kf r2 g2';have p1:DF x=true:=bf.mp f1 x (aC e1);have p2:DF y=true:=bf.mp f2 y (aC e2);have:=Pq (A:=A.in1) (s:=s) rx ry (Hj p1) (Hj p2);simpa [List.getD,e1,e2] using this)
  have e:(its.toArray.size)=xs.length:=by simp;omega
  rw[e,Hz xs ys hl f1 f2] at q;exact q
 ·have e:decide (xs=ys)=false:=ba λz=>hl (by rw[z])
  rw[e];exact gV h1 h2 (by simp;omega) hu
def V8 (K:PySem.W.Frag)(neg:Bool):R2:=λx y H Q=>∃a b xs ys,x=.ref a/\y=.ref b/\AD K H a xs/\AD K H b ys/\xs.all DF=true/\ys.all DF=true/\Q (.bl (if neg then !decide (xs=ys) else decide (xs=ys))) H
theorem TL (hu:X.A.units+1<cLine):Gv X (compareOp .Eq) (V8 X.K false):=by
 intro pins s σ H x y v u Q I rx ry h;obtain⟨a,b,xs,ys,rfl,rfl,h1,h2,f1,f2,q⟩:=h;cases rx;cases ry;obtain⟨its,r1,p1,_⟩:=I.list h1;obtain⟨its2,r2,p2,_⟩:=I.list h2;exact SQ (by omega) r1 r2 p1.isList p2.isList f1 f2 _ _ _ _ ⟨.bl _,H,I,rfl,q⟩
theorem O9 {A:Around} {s:Shared} {a b:Addr} {xs ys:List V} {its its2:List Value} (hu:A.units<cLine) (r1:AG xs its) (r2:AG ys its2) (h1:s.heap.IsList a its.toArray) (h2:s.heap.IsList b its2.toArray)
  (f1:xs.all DF=true) (f2:ys.all DF=true):SeqAt.RcNeAt A s (.ref a) (.ref b) (!decide (xs=ys)):=by
 have l1:=r1.length;have l2:=r2.length
 by_cases hl:xs.length=ys.length
 ·have q:=SeqAt.RcNeAt.lists (A:=A) (s:=s) (e:=λi=>O1 (xs.getD i .non) (ys.getD i .non)) h1 h2 (by simp;omega) hu (λj g1 g2=>by
   have g1':j<its.length:=by simpa using g1
   have g2':j<its2.length:=by simpa using g2
   obtain⟨x,e1,rx⟩:=Kf r1 g1';obtain⟨y,e2,ry⟩:=Kf r2 g2';have p1:DF x=true:=bf.mp f1 x (aC e1);have p2:DF y=true:=bf.mp f2 y (aC e2);have:=Pq (A:=A.in1) (s:=s) rx ry (Hj p1) (Hj p2);simpa [List.getD,e1,e2] using this)
  have e:(its.toArray.size)=xs.length:=by simp;omega
  rw[e,Hz xs ys hl f1 f2] at q;exact q
 ·have e:decide (xs=ys)=false:=ba λz=>hl (by rw[z])
  rw[e];exact gE h1 h2 (by simp;omega) hu
theorem OQ (hu:X.A.units+1<cLine):Gv X (compareOp .NotEq) (V8 X.K true):=by
 intro pins s σ H x y v u Q I rx ry h;obtain⟨a,b,xs,ys,rfl,rfl,h1,h2,f1,f2,q⟩:=h;cases rx;cases ry;obtain⟨its,r1,p1,_⟩:=I.list h1;obtain⟨its2,r2,p2,_⟩:=I.list h2;exact O9 (by omega) r1 r2 p1.isList p2.isList f1 f2 _ _ _ _ ⟨.bl _,H,I,rfl,q⟩
end
theorem JR:∀{bs:List Bool} {us:List Value},AG (bs.map V.bl) us->LSm.BoolsAre us bs
 |[],_,.nil=>.nil
 |b::bs,_,.cons r t=>by
  have e:_=Value.bool b:=r;subst e;exact .cons b (JR t)
section
variable {prog:Program}{w:World}{A:Around}{E:Value->Shared->Prop}{s:Shared}{l:Addr}{vs:List Value}
theorem TR {bs:List Bool} {Q:Value->Shared->Prop} (hh:A.handled=none) (hl:s.heap.IsList l vs.toArray) (hb:LSm.BoolsAre vs bs)
  (h:∀h' tk,(∀b o,s.heap.get? b=some o->h'.get? b=some o)->Q (.bool (bs.all id)) { s with heap:=h',toks:=tk }):wpAny (model prog w) A (call (.builtin "all") [.ref l]) Q E s:=by
 have below:l<s.heap.objs.size:=(λ⟨_,e,_⟩=>aF e:s.heap.IsList l vs.toArray->_) hl;have whole:((List.range vs.toArray.size).all λi=>(bs[i]?).getD true)=bs.all id:=by rw[aK,hb.length,LSm.range_all]
 exact call_all_walk (dy hl ⟨s.heap.objs.size,[s.heap.objs.size,l],[s.heap.objs.size],vs.toArray.size,_,_,λi=>(bs[i]?).getD true,rfl,gD (A:=A.in1) hh _ l (aR below) vs.toArray,⟨⟨_,aM _ rfl,rfl,rfl⟩,hl.push _⟩,
  (λi v s' Q' E' hP hQ=>by
   obtain⟨b,hg,hv⟩:=hb.get i v (by simpa using hP);have hQ':Q' b s':=by simpa [hg] using hQ
   subst hv;exact cb hQ'),
  λh' tk hk=>whole▸h h' tk (LSm.kept_iter hk)⟩)
end
section
variable {X:Cx}
theorem Nu (hc:X.calm=true):DG X (.builtin "all") (λxs H Q=>∃(a:Addr) (bs:List Bool),xs=[.ref a]/\AD X.K H a (bs.map V.bl)/\Q (.bl (bs.all id)) H):=by
 intro pins s σ H xs us Q I r h;obtain⟨a,bs,rfl,h1,q⟩:=h;obtain⟨u,rfl,ru⟩:=vals1 r;cases ru;obtain⟨its,r1,p1,_⟩:=I.list h1;exact TR (I.ok.hd hc) p1.isList (JR r1) λh' tk hk=>⟨.bl _,H,I.kept hk,rfl,q⟩
theorem EN (hc:X.calm=true):DG X (.builtin "sum") (λxs H Q=>∃(a:Addr) (ns:List Int),xs=[.ref a]/\AD X.K H a (ns.map V.int)/\Q (.int ns.sum) H):=by
 intro pins s σ H xs us Q I r h;obtain⟨a,ns,rfl,h1,q⟩:=h;obtain⟨u,rfl,ru⟩:=vals1 r;cases ru;obtain⟨its,r1,p1,_⟩:=I.list h1;have hi:=intsAre_of r1;obtain⟨zs,hz⟩:=hi.allInts.items;have due:preSum (numAt zs) zs.size=ns.sum:=by
  have:zs.toList.map (·.1)=ns:=by rw[<-nums_intItems,<-hz];exact hi.numsOf
  rw[<-this,preSum_eq,aZ (by simp)]
 exact sum_intListG (I.ok.hd hc) (hz▸p1.isList) λh' tk t' hk=>⟨.int ns.sum,H,I.kept hk,⟨_,by rw[due]⟩,q⟩
def W9 (K:PySem.W.Frag):R2:=λx y H Q=>∃l b xs zs,x=.ref l/\y=.ref b/\AD K H l xs/\AD K H b zs/\xs.length+zs.length<=sizeLine/\∀p,H p=none->Q (.ref p) (upd H p (.lst (xs++zs)))
theorem IX:Gv X (binaryOp .Add) (W9 X.K):=by
 intro pins s σ H x y v u Q I rx ry h;obtain⟨l,b,xs,zs,rfl,rfl,h1,h2,hz,q⟩:=h;cases rx;cases ry;obtain⟨its,r,p1,_⟩:=I.list h1;obtain⟨its2,r2,p2,_⟩:=I.list h2;have l1:=r.length;have l2:=r2.length;obtain⟨⟨cls,dd,data,sl⟩,ho,hc,n,hd⟩:=id p1.isList;obtain⟨⟨cls2,dd2,data2,sl2⟩,ho2,hc2,n2,hd2⟩:=id p2.isList;simp only at hc hd hc2 hd2;subst hc hd hc2 hd2;have e:its.toArray++its2.toArray=(its++its2).toArray:=by simp
 refine fM ⟨_,ho,rfl⟩ ⟨_,ho2,rfl⟩ noFill_list_add seq_list_add PySem.F.slot_list_add PySem.F.entry_list_add (PySem.F.args_list_add_2 _ _) (list_addW l b its.toArray its2.toArray n n2 dd dd2 sl sl2 (by rw[aK,aK];omega)) ⟨ho,ho2,?_⟩;rw[e];exact⟨.ref _,_,I.lnew (t':=s.toks) (r.append r2) (by rw[au];omega),rfl,q _ I.fresh⟩
end
theorem Ak {H:Hp}{p:Addr}(h:H p=none)(o:HO):Am H (upd H p o):=λb u q=>by rw[Ah (Bp q h)];exact q
theorem AI {H H':Hp}{p:Addr}(s:Am H H')(h:H p=none)(o:HO):Am H (upd H' p o):=λb u q=>by rw[Ah (Bp q h)];exact s b u q
theorem Am.get {H H':Hp}{a:Addr}{o:HO}(s:Am H H')(h:H a=some o):H' a=some o:=s a o h
theorem IP:1000000<=sizeLine:=by decide
theorem small {n:Nat}(h:n<=1000000):n<=sizeLine:=bA h IP
theorem AU {n:Nat}(h:n<1000000):n<sizeLine:=aN h IP
theorem Du {ns:List Int}{i:Int}(h0:0<=i)(h1:i<ns.length):JS (ns.map V.int) i=some (.int (ns.getD i.toNat 0)):=by
 have hk:i.toNat<ns.length:=by omega
 have ek:i=((i.toNat:Nat):Int):=by omega
 have q:JS (ns.map V.int) ((i.toNat:Nat):Int)=some (.int (ns.getD i.toNat 0)):=Ar (by rw[az,ab hk];simp[List.getD,List.getElem?_eq_getElem hk]);rw[<-ek] at q;exact q
theorem Bi {c:Bool}{A B:Prop}(h:c=false)(b:B):if c=true then A else B:=by
 subst h;rw[aJ aB];exact b
theorem Fe {c:Bool}{A B:Prop}(h:c=true)(b:A):if c=true then A else B:=by
 subst h;rw[aG rfl];exact b
theorem dec_true {c:Prop}[Decidable c](h:decide c=true):c:=aQ h
theorem dec_false {c:Prop}[Decidable c](h:¬decide c=true):¬c:=λz=>h (aE z)
theorem W3 {t u:TT}{σ:St}{H:Hp}{Q:Bool->Hp->Prop}(c d:Bool)(ht:∀R:Bool->Hp->Prop,R c H->t σ H R)(hu:c=false->∀R:Bool->Hp->Prop,R d H->u σ H R)(q:Q (c||d) H):Yi t u σ H Q:=by
 refine ht _ ?_;cases c with
 |true=>rw[aG rfl];exact q
 |false=>rw[aJ aB];exact hu rfl _ q
theorem Jd {t u:TT}{σ:St}{H:Hp}{Q:Bool->Hp->Prop}(c d:Bool)(ht:∀R:Bool->Hp->Prop,R c H->t σ H R)(hu:c=true->∀R:Bool->Hp->Prop,R d H->u σ H R)(q:Q (c&&d) H):WT t u σ H Q:=by
 refine ht _ ?_;cases c with
 |false=>rw[aJ aB];exact q
 |true=>rw[aG rfl];exact hu rfl _ q
def Ie (J:It)(H:Hp)(xs:List V):Prop:=∀H',Am H H'->∀i:Nat,(i<xs.length->J.go i H')/\(∀x H'',J.yld i H' x H''->H''=H'/\(i<xs.length->xs[i]?=some x))/\(xs.length<=i->J.stop i H')
theorem Co {K:PySem.W.Frag}{a:Addr}{H:Hp}{xs:List V}(h:AD K H a xs):Ie (WB K a) H xs:=λH' s i=>
 ⟨λhi=>⟨xs,xs[i],s.seq h,by simp[hi]⟩,λx H'' y=>⟨y.1,λ_=>y.2 xs (s.seq h)⟩,λhi=>⟨xs,s.seq h,hi⟩⟩
theorem HK {lo:Int}{n:Nat}{H:Hp}:Ie (TY lo n) H ((List.range n).map λ(i:Nat)=>V.int (lo+(i:Int))):=λH' s i=>
 ⟨λhi=>(by simpa using hi:i<n),λx H'' y=>⟨y.1,λhi=>by
  have hi':i<n:=by simpa using hi
  rw[az,dG hi',y.2];rfl⟩,λhi=>(by simpa using hi:n<=i)⟩
theorem comp_map {J:It} {xs:List V} {fr:List (Option Nat)} {k:Nat} {te:TE} {Q:VK} {σ:St} {H:Hp} (f:V->V) (hJ:Ie J H xs) (hn:xs.length<=1000000)
  (helt:∀(x:V) (H':Hp) (R:VK),x∈xs->Am H H'->(∀H'',Am H' H''->R (f x) H'')->te ((stC fr σ).set k (some x)) H' R)
  (hQ:∀l H',H l=none->Am H H'->H' l=some (.lst (xs.map f))->Q (.ref l) H') :
  Eo fr (Ay k) Oq te σ Q J H:=by
 intro l hl;refine⟨λi m σ' H'=>m=xs.length-i/\i<=xs.length/\(∀y,σ'.set k y=(stC fr σ).set k y)/\Am H H'/\H' l=some (.lst ((xs.take i).map f)),⟨xs.length,by simp,bC _,λ_=>rfl,Ak hl _,by rw[Ad,dO,cx]⟩,?_⟩
 rintro i m σ' H' ⟨rfl,hi,hσ,hs,hl'⟩
 obtain⟨h1,h2,h3⟩:=hJ H' hs i
 by_cases hlt:i<xs.length
 ·refine .inr ⟨h1 hlt,λx H'' y=>?_⟩;obtain⟨rfl,hx⟩:=h2 x H'' y;have hx:=hx hlt;show te (σ'.set k (some x)) H'' _;rw[hσ];refine helt x H'' _ (aC hx) hs λH4 s4=>?_
  refine⟨_,s4.get hl',AU (by rw[aa,aV];omega),xs.length-(i+1),by omega,rfl,hlt,λy=>by rw[dg],AI (hs.trans s4) hl _,?_⟩;rw[Ad,aS,hx];simp
 ·have e:i=xs.length:=by omega
  subst e;exact .inl ⟨h3 (ar _),hQ l H' hl hs (by rw[hl',aZ (ar _)])⟩
section
variable {X:Cx}{K:PySem.W.Frag}
theorem FD (h:X.K=K):WC X (WH K):=by subst h;exact AB
theorem AW (h:X.K=K):WC X (T8 K):=by subst h;exact Az
theorem Lu (h:X.K=K):DG X (.builtin "len") (λxs H Q=>∃p ys,xs=[.ref p]/\(AD K H p ys\/AL K H p ys)/\Q (.int ys.length) H):=by subst h;exact AM
end
def Ok (H:Hp):V->Prop
 | .non=>True
 | .bl _=>True
 | .int _=>True
 | .str z=>z.length<=1000
 | .ref a=>(∃xs,H a=some (.lst xs))\/∃xs,H a=some (.tup xs)
 |_=>False
def HV (H:Hp):V->String
 | .non=>"NoneType"
 | .bl _=>"bool"
 | .int _=>"int"
 | .str _=>"str"
 | .ref a=>match H a with
  |some (.lst _)=>"list"
  |some (.tup _)=>"tuple"
  |_=>"?"
 |_=>"?"
theorem Ok.ty {H:Hp}{v:V}(h:Ok H v)(K:PySem.W.Frag):TyOf K H v (.type (HV H v)):=by
 cases v with
 |non=>exact .non
 |bl b=>exact .bl b
 |int i=>exact .int i
 |str z=>exact .str z
 |ref a=>
  rcases h with⟨xs,e⟩|⟨xs,e⟩
  ·have q:HV H (.ref a)="list":=by simp only[HV,e]
   rw[q];exact .lst e
  ·have q:HV H (.ref a)="tuple":=by simp only[HV,e]
   rw[q];exact .tup e
 |_=>exact h.elim
def isA (t c:String):Bool:=t == c||(t == "bool"&&c == "int")
theorem Ui {t c:String}(K:PySem.W.Frag)(ht:t∈["NoneType","bool","int","str","list","tuple"])(hc:c∈["bool","int","str","list","tuple"]):PySem.W.kitOne K (.type t) (.type c)=some (isA t c):=by
 have all:∀t∈["NoneType","bool","int","str","list","tuple"],∀c∈["bool","int","str","list","tuple"],(if(Value.type t == Value.type c)=true then some true else if PySem.W.kitMeta c=true then(fastBuiltinMro t).map (·.contains (.type c)) else none)=some (isA t c):=by decide +kernel
 exact MN (all t ht c hc) K
theorem Ok.tyMem {H:Hp}{v:V}(h:Ok H v):HV H v∈["NoneType","bool","int","str","list","tuple"]:=by
 cases v with
 |ref a=>
  rcases h with⟨xs,e⟩|⟨xs,e⟩
  ·simp only[HV,e];decide
  ·simp only[HV,e];decide
 |byt _=>exact h.elim
 |flt _=>exact h.elim
 |ty _=>exact h.elim
 |_=>simp only[HV];decide
theorem Ok.kit {H:Hp}{v:V}(h:Ok H v)(K:PySem.W.Frag){c:String}(hc:c∈["bool","int","str","list","tuple"]:=by decide):PySem.W.kitOne K (.type (HV H v)) (.type c)=some (isA (HV H v) c):=Ui K h.tyMem hc
theorem P9 {t u:TE}{σ:St}{H:Hp}{Q:VK}(c d:Bool)(ht:∀R:VK,R (.bl c) H->t σ H R)(hu:c=true->∀R:VK,R (.bl d) H->u σ H R)(q:Q (.bl (c&&d)) H):Vv t u σ H Q:=by
 refine ht _ ⟨c,rfl,?_⟩;cases c with
 |false=>rw[aJ aB];exact q
 |true=>rw[aG rfl];exact hu rfl _ q
theorem Ud {H:Hp}{a:Addr}{xs:List V}(e:H a=some (.lst xs)):HV H (.ref a)="list":=by simp only[HV,e]
theorem Ux {H:Hp}{a:Addr}{xs:List V}(e:H a=some (.tup xs)):HV H (.ref a)="tuple":=by simp only[HV,e]
theorem Ok.elim {H:Hp} {v:V} (ok:Ok H v) {C:Prop} (c1:v=.non->HV H v="NoneType"->C) (c2:∀b,v=.bl b->HV H v="bool"->C) (c3:∀i,v=.int i->HV H v="int"->C) (c4:∀z,v=.str z->z.length<=1000->HV H v="str"->C)
  (c5:∀a xs,v=.ref a->H a=some (.lst xs)->HV H v="list"->C) (c6:∀a xs,v=.ref a->H a=some (.tup xs)->HV H v="tuple"->C):C:=by
 cases v with
 |non=>exact c1 rfl rfl
 |bl b=>exact c2 b rfl rfl
 |int i=>exact c3 i rfl rfl
 |str z=>exact c4 z rfl ok rfl
 |ref a=>
  rcases ok with⟨xs,e⟩|⟨xs,e⟩
  ·exact c5 a xs rfl e (Ud e)
  ·exact c6 a xs rfl e (Ux e)
 |_=>exact(show False from ok).elim
def GT (H:Hp)(v:V):Bool:=isA (HV H v) "int" && !isA (HV H v) "bool"
theorem Rf (H:Hp)(i:Int):GT H (.int i)=true:=by
 show(isA "int" "int" && !isA "int" "bool")=true
 decide
theorem RL {H:Hp}{v:V}(ok:Ok H v)(h:GT H v=true):∃i,v=.int i:=by
 unfold GT at h;refine ok.elim (λ_ e=>?_) (λ_ _ e=>?_) (λi e _=>⟨i,e⟩) (λ_ _ _ e=>?_) (λ_ _ _ _ e=>?_) (λ_ _ _ _ e=>?_)
 all_goals (rw[e] at h;exact absurd h (by decide))
def R6 (a b:Int):V->Bool
 | .int i=>decide (a<=i)&&decide (i<=b)
 |_=>false
theorem Ur {H:Hp}{v:V}{a b:Int}(h:GT H v=false):R6 a b v=false:=by
 cases v with
 |int i=>rw[Rf] at h;cases h
 |_=>rfl
theorem VQ {H:Hp}{v:V}(ok:Ok H v)(h:isA (HV H v) "str"=true):∃z,v=.str z/\z.length<=1000:=by
 refine ok.elim (λ_ e=>?_) (λ_ _ e=>?_) (λ_ _ e=>?_) (λz e1 e2 _=>⟨z,e1,e2⟩) (λ_ _ _ _ e=>?_) (λ_ _ _ _ e=>?_)
 all_goals (rw[e] at h;exact absurd h (by decide))
def Xs (x:Str):It:=⟨λi _=>i<x.cps.size,λi H v H'=>H'=H/\∃c,x.cps[i]?=some c/\v=.str ⟨#[c]⟩,λi _=>x.cps.size<=i⟩
theorem PH {P:Program}{w:World}{K:PySem.W.Frag}{tg:Expr}(it:Addr)(x:Str)(t:Tok):Turn P w K tg (Xs x) [it] it (λi h=>h.IsStrIter it "str_ascii_iterator" x t i) where
 mem:=by simp
 obj:=λi h st b hb=>by
  have e:b=it:=by simpa using hb
  subst e;obtain⟨o,e,c,d⟩:=st;exact⟨o,e,λv z=>by rw[d] at z;cases z⟩
 keep:=λi h h' st k=>by
  obtain⟨o,e,c,d⟩:=st;exact⟨o,k it (by simp) o e,c,d⟩
 item:=by
  intro X hP hw hK hc i pins s σ H E I hf st hg;subst hP hw hK;have hg':i<x.cps.size:=hg;obtain⟨f0,f1,f2,f3,f4,f5⟩:=hf it (by simp);refine wpAny_pyNext_ascii_item st (c:=x.cps[i]) (by simp[hg']) λh' st' sb=>?_
  have I1:Inv X pins σ H { s with heap:=h',toks:=s.toks+1 }:=I.turned (λb o hb e=>(sb.2 b hb).trans e) f0 f1 f3 f4 f5;obtain⟨o,e,c,d⟩:=id st';exact⟨_,rfl,LH (s:={ s with heap:=h',toks:=s.toks+1 }) e c d (by decide) ⟨.str ⟨#[x.cps[i]]⟩,H,I1,⟨_,rfl⟩,⟨rfl,_,by simp[hg'],rfl⟩,st',λb hb=>(hf b hb).1⟩⟩
 done:=by
  intro X hP hw hK hc i pins s σ H E I hf st hg;subst hP hw hK;have hg':x.cps.size<=i:=hg;obtain⟨f0,f1,f2,f3,f4,f5⟩:=hf it (by simp);exact wpAny_pyNext_ascii_end (I.ok.hd hc) st (by simp[hg']) λh' eb=>⟨rfl,I.turned (t':=s.toks) (λb o hb e=>eb b o hb e) f0 f1 f3 f4 f5⟩
 self:=λ_ _ _ _ _ st h=>wpAny_pyIter_striter_ascii st h
theorem Ra {P:Program}{w:World}{K:PySem.W.Frag}{tg:Expr}(it:Addr)(x:Str)(t:Tok):Turn P w K tg (Xs x) [it] it (λi h=>h.IsStrIter it "str_iterator" x t i) where
 mem:=by simp
 obj:=λi h st b hb=>by
  have e:b=it:=by simpa using hb
  subst e;obtain⟨o,e,c,d⟩:=st;exact⟨o,e,λv z=>by rw[d] at z;cases z⟩
 keep:=λi h h' st k=>by
  obtain⟨o,e,c,d⟩:=st;exact⟨o,k it (by simp) o e,c,d⟩
 item:=by
  intro X hP hw hK hc i pins s σ H E I hf st hg;subst hP hw hK;have hg':i<x.cps.size:=hg;obtain⟨f0,f1,f2,f3,f4,f5⟩:=hf it (by simp);refine wpAny_pyNext_wide_item st (c:=x.cps[i]) (by simp[hg']) λh' st' sb=>?_
  have I1:Inv X pins σ H { s with heap:=h',toks:=s.toks+1 }:=I.turned (λb o hb e=>(sb.2 b hb).trans e) f0 f1 f3 f4 f5;obtain⟨o,e,c,d⟩:=id st';exact⟨_,rfl,LH (s:={ s with heap:=h',toks:=s.toks+1 }) e c d (by decide) ⟨.str ⟨#[x.cps[i]]⟩,H,I1,⟨_,rfl⟩,⟨rfl,_,by simp[hg'],rfl⟩,st',λb hb=>(hf b hb).1⟩⟩
 done:=by
  intro X hP hw hK hc i pins s σ H E I hf st hg;subst hP hw hK;have hg':x.cps.size<=i:=hg;obtain⟨f0,f1,f2,f3,f4,f5⟩:=hf it (by simp);exact wpAny_pyNext_wide_end (I.ok.hd hc) st (by simp[hg']) λh' eb=>⟨rfl,I.turned (t':=s.toks) (λb o hb e=>eb b o hb e) f0 f1 f3 f4 f5⟩
 self:=λ_ _ _ _ _ st h=>wpAny_pyIter_striter_wide st h
section
variable {X:Cx}{tg:Expr}
def Xy (tl:TE):TI:=λσ H R=>tl σ H λx H1=>∃z,x=.str z/\R (Xs z) H1
theorem KJ {l:Expr}{tl:TE}(hl:PE X l tl):PI X tg l (Xy tl):=by
 intro pins s σ H R I h;refine Bc (hl pins s σ H _ I h) λv s1 ⟨x,H1,I1,r1,q1⟩=>?_
 obtain⟨z,e,q⟩:=q1;subst e;obtain⟨t,rfl⟩:=r1;have fp:∀b∈[s1.heap.objs.size],Lr X pins H1 b:=λb hb=>by
  have e:b=s1.heap.objs.size:=by simpa using hb
  subst e;exact I1.fpOk (ar _) (I1.hok.fresh (ar _))
 cases ha:z.cps.all (· < 128)
 ·exact wpAny_pyIter_wide ha ⟨s1.heap.objs.size,[s1.heap.objs.size],_,_,H1,rfl,I1.kept (t':=s1.toks) (λb o e=>ah _ e),Ra _ z t,⟨_,aM _ rfl,rfl,rfl⟩,fp,q⟩
 ·exact wpAny_pyIter_ascii ha ⟨s1.heap.objs.size,[s1.heap.objs.size],_,_,H1,rfl,I1.kept (t':=s1.toks) (λb o e=>ah _ e),PH _ z t,⟨_,aM _ rfl,rfl,rfl⟩,fp,q⟩
end
theorem G0 {x:Str}{H:Hp}:Ie (Xs x) H (x.cps.toList.map λc=>V.str ⟨#[c]⟩):=λH' s i=>
 ⟨λhi=>(by simpa using hi:i<x.cps.size),λv H'' y=>⟨y.1,λhi=>by
  obtain⟨_,c,hc,e⟩:=y;rw[az,cD,hc,e];rfl⟩,λhi=>(by simpa using hi:x.cps.size<=i)⟩
section
variable {X:Cx}
def Vx:V->List V->Hp->VK->Prop:=λx vs H Q=>∃t u,x=.str t/\vs=[.str u]/\0<=Txt.find t u/\Q (.int (Txt.find t u)) H
theorem R9 (hc:X.calm=true):Xw X "str.index" Vx:=by
 intro pins s σ H x vs v us Q I rx rv h;obtain⟨t,u,rfl,rfl,h0,q⟩:=h;obtain⟨tk,rfl⟩:=rx;obtain⟨y,rfl,ry⟩:=rv.one;obtain⟨tk2,rfl⟩:=ry;refine index_or (I.ok.hd hc) (λe=>absurd e (by omega)) λ_ _=>⟨.int (Txt.find t u),H,I.tok _,⟨_,rfl⟩,q⟩
end
section
variable {X:Cx}
def XO:V->Option Int->Option Int->Hp->VK->Prop:=λx lo hi H Q=>∃z:Str,x=.str z/\z.length<=sizeLine/\Q (.str (PySem.Txt.slice z lo hi)) H
theorem Pf:Xu X XO:=by
 intro pins s σ H x v vl vu lo hi sl Q I rx hs pl pu h;obtain⟨z,rfl,hz,q⟩:=h;obtain⟨t,rfl⟩:=rx;refine⟨"str",_,slot_str_getitem.lookup,typeIs_str _ _ _,?_⟩;cases pl with
 |none=>
  cases pu with
  |none=>exact du (l:=none) (u:=none) (st:=none) hs rfl (eV ⟨bA (dM z _ _) hz,λt' k=>⟨.str _,H,I.tok k,⟨_,rfl⟩,q⟩⟩)
  |int j tj=>exact du (l:=none) (u:=some (j,tj)) (st:=none) hs rfl (eV ⟨bA (dM z _ _) hz,λt' k=>⟨.str _,H,I.tok k,⟨_,rfl⟩,q⟩⟩)
 |int i ti=>
  cases pu with
  |none=>exact du (l:=some (i,ti)) (u:=none) (st:=none) hs rfl (eV ⟨bA (dM z _ _) hz,λt' k=>⟨.str _,H,I.tok k,⟨_,rfl⟩,q⟩⟩)
  |int j tj=>exact du (l:=some (i,ti)) (u:=some (j,tj)) (st:=none) hs rfl (eV ⟨bA (dM z _ _) hz,λt' k=>⟨.str _,H,I.tok k,⟨_,rfl⟩,q⟩⟩)
theorem OY {ys:List Str}:∀{us:List Value},AG (ys.map V.str) us->StrsAre us ys:=by
 induction ys with
 |nil=>intro us r;rw[cx] at r;cases r;exact .nil
 |cons n ns ih=>
  intro us r;rw[ao] at r;cases r with
  |cons r1 r2=>
   obtain⟨t,e⟩:=r1;subst e;exact .cons n t (ih r2)
def rJoin (K:PySem.W.Frag):V->List V->Hp->VK->Prop:=λx vs H Q=>∃(a:Addr) (z:Str) (ys:List Str),x=.str z/\vs=[.ref a]/\AD K H a (ys.map V.str)/\(ys.map (·.length)).sum+ys.length*z.length<=16777216/\Q (.str (PySem.Txt.join z ys)) H
theorem Qd (_:X.calm=true):Xw X "str.join" (rJoin X.K):=by
 intro pins s σ H x vs v us Q I rx rv h;obtain⟨a,z,ys,rfl,rfl,hq,hz,q⟩:=h;obtain⟨tk,rfl⟩:=rx;obtain⟨y,rfl,ry⟩:=rv.one;cases ry;obtain⟨its,r1,p1,_⟩:=I.list hq;exact join_list p1.isList (OY (by simpa using r1)) hz λt' k=>⟨.str _,H,I.tok k,⟨_,rfl⟩,q⟩
end
end L2
namespace L2
open PySem PySem.Spec PyProof.Rows PySem.Builtin.Str
abbrev Bg (z:Str):List Nat:=z.cps.toList
theorem A3 (z:Str):(Bg z).length=z.length:=by simp[Str.length]
theorem Us {x y:Str}(h:Bg x=Bg y):x=y:=by
 obtain⟨a⟩:=x;obtain⟨b⟩:=y;have:a=b:=ej.mp h;rw[this]
theorem FN (a y:Str):Bg (a++y)=Bg a++Bg y:=by
 show(a.cps++y.cps).toList=_;simp
theorem Vl (z:Str){j:Int}(h0:0<=j):Bg (PySem.Txt.slice z none (some j))=(Bg z).take j.toNat:=by
 have hc:StrLaws.sliceText z none (some j)=StrLaws.sliceText z none (some (min j z.length)):=by
  have e:strSliceIndices none (some j) 1 z.length=strSliceIndices none (some (min j z.length)) 1 z.length:=by
   unfold strSliceIndices;have e1:(if j<0 then j+(z.length:Int) else j)=j:=aJ (by omega);have e2:(if min j (z.length:Int)<0 then min j (z.length:Int)+(z.length:Int) else min j (z.length:Int))=min j z.length:=aJ (by omega);simp only[e1,e2];have e3:max 0 (min j (z.length:Int))=max 0 (min (min j (z.length:Int)) z.length):=by omega
   rw[e3];simp only[if_pos (show(1:Int)>0 by decide)]
  unfold StrLaws.sliceText;rw[e]
 show Bg (StrLaws.sliceText z none (some j))=_;rw[hc,StrLaws.sliceText_to ⟨by omega,by rw[A3 z];omega⟩];show((Bg z).drop 0).take (min j (z.length:Int)-0).toNat=_;rw[List.drop_zero]
 by_cases h:j<=z.length
 ·congr 1;omega
 ·have hl:=A3 z;rw[aZ (by omega),aZ (by omega)]
end L2
namespace L2
open PySem PySem.Spec PyProof.Rows
theorem Ww:bootBuiltins "abs"=some (.builtin "abs"):=by decide +kernel
theorem QC {x:Int}{m:Nat}(h:x.natAbs<2^m):Builtin.Int.intBits x<=m:=by
 unfold Builtin.Int.intBits
 by_cases hx:x=0
 ·subst hx;simp
 ·rw[aJ (by simpa using hx)];have h0:x.natAbs≠0:=by omega
  have:=(Nat.log2_lt h0).mpr h;omega
theorem Ks {a b:Int}{m n:Nat}(ha:a.natAbs<2^m)(hb:b.natAbs<2^n)(h:m+n<=2^27:=by decide):IntMulOk a b:=by
 have h1:=QC ha;have h2:=QC hb;unfold IntMulOk Builtin.Int.intTooBig bitsLine;intro z;simp only[Bool.and_eq_true,decide_eq_true_eq] at z;have h3:=z.2;omega
theorem WS {x y:Int}(h:y.natAbs<2^8000):Builtin.divisionGoesByPylong x y=false:=by
 unfold Builtin.divisionGoesByPylong;have:¬((if(y == 0)=true then 0 else y.natAbs.log2/30+1)>300):=by
  by_cases hy:y=0
  ·subst hy;simp
  ·rw[aJ (by simpa using hy)];have h0:y.natAbs≠0:=by omega
   have:=(Nat.log2_lt h0).mpr h;omega
 simp only[decide_eq_false this,Bool.false_and]
theorem Ig {a b:Int}{m n:Nat}(ha:a.natAbs<2^m)(hb:b.natAbs<2^n):(a*b).natAbs<2^(m+n):=by
 rw[fN,Nat.pow_add];exact Nat.mul_lt_mul'' ha hb
theorem O2 {a b:Int}{m:Nat}(ha:a.natAbs<2^m)(hb:b.natAbs<2^m):(a+b).natAbs<2^(m+1):=by
 rw[Nat.pow_succ];omega
theorem Hu {a:Int}{m n:Nat}(ha:a.natAbs<2^m)(h:m<=n):a.natAbs<2^n:=aN ha (bQ (by decide) h)
def Xe (_ j:Int):Prop:=0<j/\j.natAbs<2^8000
section
variable {X:Cx}
theorem FW:Gv X (binaryOp .Mult) (rI IntMulOk λi j=>.int (i*j)):=WE λ_ _ _ _ _ _ _ hc q=>mul_int q hc
theorem N8:Gv X (binaryOp .FloorDiv) (rI Xe λi j=>.int (i/j)):=WE λi j _ _ _ _ _ hc q=>by
 have h1:(0:Int)<j:=hc.1;exact floordiv_int (by omega) (by rw[fP i (eE h1)];exact q) (.inl (WS hc.2))
end
theorem SO {J:It} {xs:List V} {fr:List (Option Nat)} {k:Nat} {te:TE} {Q:VK} {σ:St} {H:Hp} (P:V->V->Hp->Prop) (hP:∀x y H1 H2,P x y H1->Am H1 H2->P x y H2)
  (hU:∀x y H1 l us us',P x y H1->H1 l=some (.lst us)->y≠.ref l->P x y (upd H1 l (.lst us'))) (hJ:Ie J H xs) (hn:xs.length<=1000000)
  (helt:∀(x:V) (H':Hp) (R:VK),x∈xs->Am H H'->(∀y H'',Am H' H''->(∀a,y=.ref a->H' a=none)->P x y H''->R y H'')->te ((stC fr σ).set k (some x)) H' R)
  (hQ:∀l H' (ys:List V),H l=none->Am H H'->H' l=some (.lst ys)->ys.length=xs.length->(∀(i:Nat) x y,xs[i]?=some x->ys[i]?=some y->P x y H'/\y≠.ref l)->Q (.ref l) H') :
  Eo fr (Ay k) Oq te σ Q J H:=by
 intro l hl;refine⟨λi m σ' H'=>m=xs.length-i/\i<=xs.length/\(∀y,σ'.set k y=(stC fr σ).set k y)/\Am H H'/\∃ys:List V,H' l=some (.lst ys)/\ys.length=i/\(∀(i:Nat) x y,xs[i]?=some x->ys[i]?=some y->P x y H'/\y≠.ref l),
  ⟨xs.length,by simp,bC _,λ_=>rfl,Ak hl _,[],Ad,rfl,λi x y _ h=>by simp at h⟩,?_⟩
 rintro i m σ' H' ⟨rfl,hi,hσ,hs,ys,hl',hlen,hp⟩
 obtain⟨h1,h2,h3⟩:=hJ H' hs i
 by_cases hlt:i<xs.length
 ·refine .inr ⟨h1 hlt,λx H'' y=>?_⟩;obtain⟨rfl,hx⟩:=h2 x H'' y;have hx:=hx hlt;show te (σ'.set k (some x)) H'' _;rw[hσ];refine helt x H'' _ (aC hx) hs λy H4 s4 fy py=>?_
  have yl:y≠.ref l:=λz=>by rw[fy l z] at hl';cases hl'
  refine⟨_,s4.get hl',AU (by omega),xs.length-(i+1),by omega,rfl,hlt,λy=>by rw[dg],AI (hs.trans s4) hl _,ys++[y],Ad,by rw[au,hlen];rfl,λj x' y' hx' hy'=>?_⟩
  by_cases hj:j<ys.length
  ·rw[bL hj] at hy';obtain⟨q1,q2⟩:=hp j x' y' hx' hy';exact⟨hU _ _ _ _ _ _ (hP _ _ _ _ q1 s4) (s4.get hl') q2,q2⟩
  ·rw[bJ (by omega)] at hy'
   by_cases hj2:j=ys.length
   ·subst hj2;rw[Nat.sub_self] at hy';cases(aA hy':y=y');rw[hlen] at hx';cases(aA (hx.symm.trans hx'):x=x');exact⟨hU _ _ _ _ _ _ py (s4.get hl') yl,yl⟩
   ·rw[bX (by simp;omega)] at hy';cases hy'
 ·have e:i=xs.length:=by omega
  subst e;exact .inl ⟨h3 (ar _),hQ l H' ys hl hs hl' hlen hp⟩
theorem Ht {X:Cx}{K:PySem.W.Frag}{pos:Pos}{es:List Expr}{k:Nat}{t:Vo}{n:Nat}(hK:X.K=K)(hc:X.calm=true)(h:WU X es t)(hn:(assignEach es X.env).length=n:=by rfl)(hs:(assignEach es X.env).findIdx? (·.1)=none:=by rfl):PG X (.Tuple es k pos) (Rn K n t):=by
 subst hK;exact Ik hc h hn hs
section
variable {κ:Type}[DecidableEq κ]
def Bo (kvs:List (κ×V))(k:κ):Option V:=(kvs.find? λkv=>decide (kv.1=k)).map (·.2)
def putK (kvs:List (κ×V))(k:κ)(v:V):List (κ×V):=
 if(kvs.any λkv=>decide (kv.1=k))=true then kvs.map (λkv=>if kv.1=k then(kv.1,v) else kv) else kvs++[(k,v)]
theorem E3 {p:κ×V}{r:List (κ×V)}{k:κ}(e:p.1=k):Bo (p::r) k=some p.2:=by simp[Bo,List.find?_cons,e]
theorem D6 {p:κ×V}{r:List (κ×V)}{k:κ}(e:¬p.1=k):Bo (p::r) k=Bo r k:=by simp[Bo,List.find?_cons,e]
theorem GC (k:κ):∀kvs:List (κ×V),(kvs.any λkv=>decide (kv.1=k))=(Bo kvs k).isSome
 |[]=>rfl
 |p::r=>by
  rw[dY]
  by_cases e:p.1=k
  ·simp only[E3 e,decide_eq_true e,Bool.true_or,Option.isSome_some]
  ·rw[D6 e,ba e,Bool.false_or];exact GC k r
theorem GI (kvs:List (κ×V))(k:κ)(v:V):(putK kvs k v).length<=kvs.length+1:=by
 unfold putK
 split
 ·rw[aa];omega
 ·rw[au,aX,List.length_nil];omega
theorem DA {kvs:List (κ×V)}{k:κ}(v:V)(h:Bo kvs k=none):putK kvs k v=kvs++[(k,v)]:=by
 unfold putK;rw[GC,h];exact aJ (by decide)
theorem FF.isSome_eq {o:Option V}{u:Option Value}(r:FF o u):o.isSome=u.isSome:=by
 cases o with
 |none=>cases u with
  |none=>rfl
  |some _=>exact(show False from r).elim
 |some _=>cases u with
  |none=>exact(show False from r).elim
  |some _=>rfl
theorem FF.getD {o:Option V}{u:Option Value}{d:V}{d':Value}(r:FF o u)(rd:RelV d d'):RelV (o.getD d) (u.getD d'):=by
 cases o with
 |none=>cases u with
  |none=>exact rd
  |some _=>exact(show False from r).elim
 |some _=>cases u with
  |none=>exact(show False from r).elim
  |some _=>exact r
theorem KV.val {kvs:List (κ×V)}{vs:List (κ×Value)}(r:KV kvs vs)(k:κ):FF (Bo kvs k) (valueAt vs k):=by
 unfold KV at r
 induction r with
 |nil=>exact True.intro
 |@cons p q ps qs h t ih=>
  obtain⟨h1,h2⟩:=h
  by_cases e:p.1=k
  ·have e':q.1=k:=h1.symm.trans e;have b:valueAt (q::qs) k=some q.2:=by simp[valueAt,List.find?_cons,e']
   rw[E3 e,b];exact h2
  ·have e':¬q.1=k:=λz=>e (h1.trans z)
   have b:valueAt (q::qs) k=valueAt qs k:=by simp[valueAt,List.find?_cons,e']
   rw[D6 e,b];exact ih
theorem KV.any {kvs:List (κ×V)}{vs:List (κ×Value)}(r:KV kvs vs)(k:κ):(kvs.any λkv=>decide (kv.1=k))=vs.any λkv=>decide (kv.1=k):=by
 unfold KV at r
 induction r with
 |nil=>rfl
 |cons h t ih=>rw[dY,dY,ih,h.1]
theorem KV.repl {kvs:List (κ×V)}{vs:List (κ×Value)}(r:KV kvs vs)(k:κ){y:V}{u:Value}(ry:RelV y u) :
  KV (kvs.map λkv=>if kv.1=k then(kv.1,y) else kv) (vs.map λkv=>if kv.1=k then(kv.1,u) else kv):=by
 unfold KV at r ⊢
 induction r with
 |nil=>exact .nil
 |@cons p q ps qs h t ih=>
  rw[ao,ao];refine .cons ?_ ih;obtain⟨h1,h2⟩:=h
  by_cases e:p.1=k
  ·rw[aG e,aG (h1.symm.trans e)];exact⟨h1,ry⟩
  ·rw[aJ e,aJ (λz=>e (h1.trans z))];exact⟨h1,h2⟩
theorem KV.put {kvs:List (κ×V)}{vs:List (κ×Value)}(r:KV kvs vs)(k:κ){y:V}{u:Value}(ry:RelV y u):KV (putK kvs k y) (stored vs k u):=by
 unfold putK stored;rw[r.any k]
 by_cases e:(vs.any λkv=>decide (kv.1=k))=true
 ·rw[aG e,aG e];exact r.repl k ry
 ·rw[aJ e,aJ e];exact Paired.snoc r ⟨rfl,ry⟩
theorem KV.keys {kvs:List (κ×V)}{vs:List (κ×Value)}(r:KV kvs vs):kvs.map (·.1)=vs.map (·.1):=by
 unfold KV at r
 induction r with
 |nil=>rfl
 |cons h t ih=>rw[ao,ao,ih,h.1]
theorem KV.length {kvs:List (κ×V)}{vs:List (κ×Value)}(r:KV kvs vs):kvs.length=vs.length:=cY r
end
theorem JT {P:Program}{w:World}{k:Key}{u:Value}(r:RelV (kV k) u):(AS P w).is k u=true:=by
 cases k with
 |inl i=>obtain⟨t,e⟩:=(show ∃t,u=Value.int i t from r);subst e;exact NM P w i t
 |inr x=>obtain⟨t,e⟩:=(show ∃t,u=Value.str x t from r);subst e;exact Nl P w x t
theorem LR {P:Program}{w:World}:∀{ks:List Key} {us:List Value},AG (ks.map kV) us->ItemsAre (AS P w) ks us
 |[],_,r=>by rw[cx] at r;cases r;exact .nil
 |k::ks,_,r=>by
  rw[ao] at r;cases r with
  |cons h t=>exact .cons (JT h) (LR t)
abbrev KT (H:Hp):List (List Key×V)->List (List Key×Addr×Value)->Prop:=Paired λp q=>p.1=q.1/\H q.2.1=some (.tup (p.1.map kV))/\RelV p.2 q.2.2
theorem KT.val {H:Hp}{kvs:List (List Key×V)}{xs:List (List Key×Addr×Value)}(r:KT H kvs xs)(k:List Key):FF (Bo kvs k) ((atKey xs k).map (·.2)):=by
 induction r with
 |nil=>exact True.intro
 |@cons p q ps qs h t ih=>
  obtain⟨h1,_,h2⟩:=h
  by_cases e:p.1=k
  ·have e':q.1=k:=h1.symm.trans e;have b:atKey (q::qs) k=some q.2:=by simp[atKey,List.find?_cons,e']
   rw[E3 e,b];exact h2
  ·have e':¬q.1=k:=λz=>e (h1.trans z)
   have b:atKey (q::qs) k=atKey qs k:=by simp[atKey,List.find?_cons,e']
   rw[D6 e,b];exact ih
theorem KT.repl {H:Hp}{kvs:List (List Key×V)}{xs:List (List Key×Addr×Value)}(r:KT H kvs xs)(k:List Key){y:V}{u:Value}(ry:RelV y u) :
  KT H (kvs.map λkv=>if kv.1=k then(kv.1,y) else kv) (xs.map (putAt k u)):=by
 induction r with
 |nil=>exact .nil
 |@cons p q ps qs h t ih=>
  rw[ao,ao];refine .cons ?_ ih;obtain⟨h1,h2,h3⟩:=h;unfold putAt
  by_cases e:p.1=k
  ·rw[aG e,aG (h1.symm.trans e)];exact⟨h1,h2,ry⟩
  ·rw[aJ e,aJ (λz=>e (h1.trans z))];exact⟨h1,h2,h3⟩
theorem KT.put {H:Hp}{kvs:List (List Key×V)}{xs:List (List Key×Addr×Value)}(r:KT H kvs xs)(k:List Key){b:Addr}{y:V}{u:Value}(hb:H b=some (.tup (k.map kV)))(ry:RelV y u) :
  KT H (putK kvs k y) (storedH xs k b u):=by
 have e:(kvs.any λkv=>decide (kv.1=k))=(atKey xs k).isSome:=by
  rw[GC,(r.val k).isSome_eq,fc]
 unfold putK storedH;rw[e]
 by_cases q:(atKey xs k).isSome=true
 ·rw[aG q,aG q];exact r.repl k ry
 ·rw[aJ q,aJ q];exact Paired.snoc r ⟨rfl,hb,ry⟩
theorem KT.keeps {H H':Hp}{kvs:List (List Key×V)}{xs:List (List Key×Addr×Value)}(r:KT H kvs xs)(ht:∀b ys,H b=some (.tup ys)->H' b=some (.tup ys)):KT H' kvs xs:=
 Paired.mapP r λ_ _ z=>⟨z.1,ht _ _ z.2.1,z.2.2⟩
section
variable {P:Program}{w:World}{H:Hp}{h:Heap}{a:Addr}
theorem Vq {u:HO}(ok:HC P w H h)(e:Rd H a u):Ba P w H h a u:=e.ok ok
theorem KP {kvs:List (Key×V)}(ok:HC P w H h)(e:Rd H a (.dK kvs)):kvs.length<=sizeLine/\(a == sysModules)=false/\∃vs,KV kvs vs/\h.DictOf (AS P w) a vs:=
 show Ba P w H h a (.dK kvs) from Vq ok e
theorem Vt {kvs:List (Key×V)}(ok:HC P w H h)(e:H a=some (.dK kvs)):kvs.length<=sizeLine/\(a == sysModules)=false/\∃vs,KV kvs vs/\h.DictOf (AS P w) a vs:=KP ok (.inl e)
theorem Jy {ks:List Key}(ok:HC P w H h)(e:H a=some (.tup (ks.map kV))):(tupleKind (AS P w)).is h ks a:=by
 obtain⟨_,its,r,o,h1,h2,n,h3⟩:=(show Ba P w H h a (.tup (ks.map kV)) from ok a _ e)
 exact⟨o,its.toArray,n,h1,h2,h3.1,by simpa using LR r⟩
theorem Kz {kvs:List (List Key×V)}(ok:HC P w H h)(e:Rd H a (.dT kvs)):kvs.length<=sizeLine/\(a == sysModules)=false/\
  ∃xs,KT H kvs xs/\h.DictOfH (tupleKind (AS P w)) a xs:=by
 obtain⟨z,y,xs,r,o,es,ep,h1,h2,h3,h4,h5⟩:=(show Ba P w H h a (.dT kvs) from Vq ok e)
 refine⟨z,y,xs,r,o,es,ep,h1,h2,h3,h4,λx hx=>?_,h5⟩;have all:∀{l:List (List Key×V)} {m:List (List Key×Addr×Value)},KT H l m->∀x∈m,(tupleKind (AS P w)).is h x.1 x.2.1:=by
  intro l m q
  induction q with
  |nil=>intro x hx;exact nomatch hx
  |@cons p q ps qs hq t ih=>
   intro x hx;rcases aL.mp hx with e|hx
   ·subst e;exact Jy ok (by rw[<-hq.1];exact hq.2.1)
   ·exact ih x hx
 exact all r x hx
theorem Xk {kvs:List (List Key×V)}(ok:HC P w H h)(e:H a=some (.dT kvs)):kvs.length<=sizeLine/\(a == sysModules)=false/\
  ∃xs,KT H kvs xs/\h.DictOfH (tupleKind (AS P w)) a xs:=Kz ok (.inl e)
end
def BA (H:Hp)(a:Addr)(y:V)(r:Option V):Prop:=
 (∃kvs k,Rd H a (.dK kvs)/\y=kV k/\r=Bo kvs k)\/∃kvs k b,Rd H a (.dT kvs)/\y=.ref b/\H b=some (.tup (k.map kV))/\r=Bo kvs k
def Jg (H:Hp)(a:Addr)(y v:V)(H':Hp):Prop:=
 (∃kvs k,H a=some (.dK kvs)/\y=kV k/\kvs.length<sizeLine/\H'=upd H a (.dK (putK kvs k v)))\/
 ∃kvs k b,H a=some (.dT kvs)/\y=.ref b/\H b=some (.tup (k.map kV))/\kvs.length<sizeLine/\H'=upd H a (.dT (putK kvs k v))
theorem BA.k {H:Hp}{a:Addr}{kvs:List (Key×V)}{k:Key}(e:H a=some (.dK kvs)):BA H a (kV k) (Bo kvs k):=.inl ⟨kvs,k,.inl e,rfl,rfl⟩
theorem Jg.k {H:Hp}{a:Addr}{kvs:List (Key×V)}{k:Key}{v:V}(e:H a=some (.dK kvs))(hl:kvs.length<sizeLine):Jg H a (kV k) v (upd H a (.dK (putK kvs k v))):=.inl ⟨kvs,k,e,rfl,hl,rfl⟩
section
variable {X:Cx}{pins:List (Addr×Obj)}{σ:St}{H:Hp}{s:Shared}{a:Addr}{y v:V}{u r:Value}{o:Option V}{A:Around}{E:Value->Shared->Prop}
theorem Inv.big (I:Inv X pins σ H s):sysModules<s.heap.objs.size:=by
 have h:mainGlobals<s.heap.objs.size:=(I.mod.glob.keeps I.bk).lt;exact Nat.lt_trans (by decide) h
theorem QZ {Q:Value->Shared->Prop}(hu:A.units+1<cLine)(I:Inv X pins σ H s)(g:BA H a y (some v))(ry:RelV y u)(h:∀w' s',Inv X pins σ H s'->RelV v w'->Q w' s') :
  wpAny (model X.prog X.w) A (getItem (.ref a) u) Q E s:=by
 rcases g with⟨kvs,k,e,ey,l⟩|⟨kvs,k,b,e,ey,eb,l⟩
 ·subst ey;obtain⟨z,hd,vs,rel,dd⟩:=KP I.hok e;obtain⟨w',hw,rw'⟩:=FF.some_of (v:=v) (o:=valueAt vs k) (by rw[l];exact rel.val k);exact wpAny_getItem_of (JT ry) dd.mapOf hw (h w' _ (I.tok _) rw')
 ·subst ey;cases(show u=Value.ref b from ry);obtain⟨z,hd,xs,rel,dd⟩:=Kz I.hok e;obtain⟨w',hw,rw'⟩:=FF.some_of (v:=v) (o:=(atKey xs k).map (·.2)) (by rw[l];exact rel.val k);obtain⟨p,hp,hp2⟩:=bN.mp hw;refine wpAny_getItem_heap (dq hu) (Jy I.hok eb) dd hp ?_;rw[hp2];exact h w' _ (I.tok _) rw'
theorem X5 {Q:Value->Shared->Prop}(hu:A.units+1<cLine)(I:Inv X pins σ H s)(g:BA H a y o)(ry:RelV y u)(h:∀s',Inv X pins σ H s'->Q (.bool o.isSome) s') :
  wpAny (model X.prog X.w) A (compareOp .In u (.ref a)) Q E s:=by
 rcases g with⟨kvs,k,e,ey,l⟩|⟨kvs,k,b,e,ey,eb,l⟩
 ·subst ey;obtain⟨z,hd,vs,rel,dd⟩:=KP I.hok e;refine wpAny_in_of (JT ry) hd dd.mapOf ?_;rw[<-(rel.val k).isSome_eq,<-l];exact h _ (I.tok _)
 ·subst ey;cases(show u=Value.ref b from ry);obtain⟨z,hd,xs,rel,dd⟩:=Kz I.hok e;refine wpAny_in_heap (dq hu) (Jy I.hok eb) hd dd ?_;have q:=(rel.val k).isSome_eq;rw[fc] at q;rw[<-q,<-l];exact h _ (I.tok _)
theorem Up {Q:Value->Shared->Prop}(hu:A.units+1<cLine)(I:Inv X pins σ H s)(g:BA H a y o)(ry:RelV y u)(h:∀s',Inv X pins σ H s'->Q (.bool (!o.isSome)) s') :
  wpAny (model X.prog X.w) A (compareOp .NotIn u (.ref a)) Q E s:=by
 rcases g with⟨kvs,k,e,ey,l⟩|⟨kvs,k,b,e,ey,eb,l⟩
 ·subst ey;obtain⟨z,hd,vs,rel,dd⟩:=KP I.hok e;refine wpAny_notIn_of (JT ry) hd dd.mapOf ?_;rw[<-(rel.val k).isSome_eq,<-l];exact h _ (I.tok _)
 ·subst ey;cases(show u=Value.ref b from ry);obtain⟨z,hd,xs,rel,dd⟩:=Kz I.hok e;refine wpAny_notIn_heap (dq hu) (Jy I.hok eb) hd dd ?_;have q:=(rel.val k).isSome_eq;rw[fc] at q;rw[<-q,<-l];exact h _ (I.tok _)
theorem MP {h':Heap}{t':Nat}{ob:HO}(I:Inv X pins σ H s)(mu:Xh (H a))(hs:Heap.SameBut a s.heap h')(he:∃q,h'.get? a=some q)(new:Ba X.prog X.w (upd H a ob) h' a ob) :
  Inv X pins σ (upd H a ob) { s with heap:=h',toks:=t' }:=
 I.write (x:=a) (e:=a) mu (.inl rfl) (λb q hb z=>(hs.2 b hb).trans z) he new
theorem Pe {P:Program}{w:World}{H':Hp}{h':Heap}{kvs:List (Key×V)}{vs:List (Key×Value)}(z:kvs.length<=sizeLine)(hd:(a == sysModules)=false)(rel:KV kvs vs)(dd:h'.DictOf (AS P w) a vs) :
  Ba P w H' h' a (.dK kvs):=⟨z,hd,vs,rel,dd⟩
theorem QW {H':Hp}{Q:Unit->Shared->Prop}(hu:A.units+1<cLine)(I:Inv X pins σ H s)(g:Jg H a y v H')(ry:RelV y u)(rv:RelV v r)(h:∀s',Inv X pins σ H' s'->Q () s') :
  wpAny (model X.prog X.w) A (setItem (.ref a) u r) Q E s:=by
 rcases g with⟨kvs,k,e,ey,l,eH⟩|⟨kvs,k,b,e,ey,eb,l,eH⟩
 ·subst ey eH;obtain⟨z,hd,vs,rel,dd⟩:=Vt I.hok e;have hz:vs.length<=sizeLine:=by rw[<-rel.length];exact z
  have hl:(putK kvs k v).length<=sizeLine:=by have:=GI kvs k v;omega
  refine wpAny_setItem_pairs (hsz:=hz) (JT ry) dd λh' dd' hs=>h _ ?_
  have he:∃q,h'.get? a=some q:=let⟨q,_,_,hq,_⟩:=dd';⟨q,hq⟩;exact MP I (by rw[e];exact True.intro) hs he (Pe hl hd (rel.put k rv) dd')
 ·subst ey eH;cases(show u=Value.ref b from ry);obtain⟨z,hd,xs,rel,dd⟩:=Xk I.hok e;have hz:xs.length<=sizeLine:=by rw[<-cY rel];exact z
  have hl:(putK kvs k v).length<=sizeLine:=by have:=GI kvs k v;omega
  refine wpAny_setItem_heap (hsz:=hz) (dq hu) (Jy I.hok eb) dd λh' dd' hs=>h _ ?_
  obtain⟨q,es,ep,hq,h2,h3,h4,_,h5⟩:=dd';refine MP I (by rw[e];exact True.intro) hs ⟨q,hq⟩ ⟨hl,hd,_,(rel.put k eb rv).keeps λc ys ec=>?_,q,es,ep,hq,h2,h3,h4,h5⟩;rw[Ah (BG ec e (λz=>nomatch z))];exact ec
end
def Xm (i:Expr):Prop:=∀ov iv,subscripted i false ov iv=operate [ov,iv] (getItem ov iv)
theorem U0 {prog:Program} {w:World} {A:Around} {E:Value->Shared->Prop} {s:Shared} {env:Env} {value slice:Expr} {pos:Pos} {T id:String} {Q:Value->Shared->Prop}
  (hl:typeLookup (.type T) "__getitem__"=pure (some (.builtin id))) (hs:Xm slice)
  (h:wpAny (model prog w) A (eval value env) (λo s₁=>wpAny (model prog w) A (eval slice env) (λi s₂=>s₂.TypeIs o T/\wpAny (model prog w) A (getItem o i) Q E s₂) E s₁) E s) :
  wpAny (model prog w) A (eval (.Subscript value slice pos) env) Q E s:=by
 refine gr (bB h (λo s₁ h₁=>bB h₁ (λi s₂ h₂=>?_) λ_ _ x=>x) λ_ _ x=>x);obtain⟨hT,h₂⟩:=h₂;unfold subscriptTail;refine ae ?_;rw[getitemInPython_of_ne hT.not_modules];refine ae (wpAny_specialOf hT hl ?_);have fin:wpAny (model prog w) A (subscripted slice false o i) (λr s₃=>wpAny (model prog w) A (letTemporaryGo value o r >>= λ_=>pure r) Q E s₃) E s₂:=by
  rw[hs o i];exact wpAny_operating (bB h₂ (λr s₃ h₃=>ae (wpAny_letTemporaryGo (ax h₃))) λ_ _ x=>x)
 first
  |exact ax (ae fin)
  |exact ae (ax (ae fin))
  |exact ae fin
theorem Ow {X:Cx}{pins:List (Addr×Obj)}{σ:St}{H:Hp}{s:Shared}{a:Addr}{y:V}{o:Option V}(I:Inv X pins σ H s)(g:BA H a y o):s.TypeIs (.ref a) "dict":=by
 rcases g with⟨kvs,k,e,_,_⟩|⟨kvs,k,b,e,_,_,_⟩
 ·obtain⟨_,_,vs,_,dd⟩:=KP I.hok e;exact dd.typeIs
 ·obtain⟨_,_,xs,_,dd⟩:=Kz I.hok e;exact dd.typeIs
def W5 (td ty:TE):TE:=λσ H Q=>td σ H λx H1=>ty σ H1 λy H2=>∃a v,x=.ref a/\BA H2 a y (some v)/\Q v H2
def XM (ty td:TE):TE:=λσ H Q=>ty σ H λy H1=>td σ H1 λx H2=>∃a o,x=.ref a/\BA H2 a y o/\Q (.bl o.isSome) H2
def U4 (ty td:TE):TE:=λσ H Q=>ty σ H λy H1=>td σ H1 λx H2=>∃a o,x=.ref a/\BA H2 a y o/\Q (.bl (!o.isSome)) H2
def WI (td ty tv:TE):TS:=λD σ H=>tv σ H λv H1=>td σ H1 λx H2=>ty σ H2 λy H3=>∃a H4,x=.ref a/\Jg H3 a y v H4/\D.nx σ H4
section
variable {X:Cx}{o i e value:Expr}{pos pos' tpos:Pos}{td ty tv:TE}
theorem Br (hu:X.A.units+1<cLine)(ho:PE X o td)(hi:PE X i ty)(hs:Xm i):PE X (.Subscript o i pos) (W5 td ty):=by
 intro pins s σ H Q I h;refine U0 PySem.F.slot_dict_getitem.lookup hs (Bc (ho pins s σ H _ I h) λu s1 ⟨x,H1,I1,rx,q1⟩=>Bc (hi pins s1 σ H1 _ I1 q1) λiv s2 z9=>?_);obtain⟨y,H2,I2,ry,a,v,ex,g,q2⟩:=z9;subst ex;obtain rfl:u=Value.ref a:=rx;exact⟨Ow I2 g,QZ hu I2 g ry λw' s3 I3 rw'=>⟨v,H2,I3,rw',q2⟩⟩
theorem My (hu:X.A.units+1<cLine)(hi:PE X i ty)(ho:PE X o td):PC X .In i o (XM ty td):=by
 intro pins s σ H Q I h;refine Bc (hi pins s σ H _ I h) λiv s1 ⟨y,H1,I1,ry,q1⟩=>Bc (ho pins s1 σ H1 _ I1 q1) λu s2 z9=>?_
 obtain⟨x,H2,I2,rx,a,ov,ex,g,q2⟩:=z9;subst ex;obtain rfl:u=Value.ref a:=rx;exact X5 hu I2 g ry λs3 I3=>⟨.bl ov.isSome,H2,I3,rfl,q2⟩
theorem LX (hu:X.A.units+1<cLine)(hi:PE X i ty)(ho:PE X o td):PC X .NotIn i o (U4 ty td):=by
 intro pins s σ H Q I h;refine Bc (hi pins s σ H _ I h) λiv s1 ⟨y,H1,I1,ry,q1⟩=>Bc (ho pins s1 σ H1 _ I1 q1) λu s2 z9=>?_
 obtain⟨x,H2,I2,rx,a,ov,ex,g,q2⟩:=z9;subst ex;obtain rfl:u=Value.ref a:=rx;exact Up hu I2 g ry λs3 I3=>⟨.bl (!ov.isSome),H2,I3,rfl,q2⟩
theorem E8 (hu:X.A.units+1<cLine)(ho:PE X o td)(hi:PE X i ty)(hv:PE X value tv)(hs:swapsWith value (some (.Subscript o i pos')) pos.line X.env=pure false) :
  PS X (.Assign [.Subscript o i pos'] value pos) (WI td ty tv):=by
 intro pins s σ H D I h;refine wpAny_Assign_Subscript (Bc (hv pins s σ H _ I h) λr s1 ⟨v,H1,I1,rv,q1⟩=>Bc (ho pins s1 σ H1 _ I1 q1) λu s2 ⟨x,H2,I2,rx,q2⟩=>Bc (hi pins s2 σ H2 _ I2 q2) λiv s3 z9=>?_) hs;obtain⟨y,H3,I3,ry,a,H4,ex,g,q3⟩:=z9;subst ex;obtain rfl:u=Value.ref a:=rx;exact QW hu I3 g ry rv λs4 I4=>⟨σ,H4,I4,q3⟩
end
theorem Sf {P:Program}{w:World}{H:Hp}(h:Heap)(hb:sysModules<h.objs.size):Ba P w H (h.push { cls:=.type "dict",data:=.dict #[] }) h.objs.size (.dK []):=
 ⟨bC _,cz.mpr (Ne.symm (aR hb)),[],.nil,Heap.DictOf.new h⟩
def Wn:TE:=λ_ H Q=>∀p,H p=none->Q (.ref p) (upd H p (.dK []))
section
variable {X:Cx}{pos:Pos}
theorem Cs:PE X (.Dict [] [] pos) Wn:=λpins s σ H Q I h=>
 wpAny_Dict_empty ⟨.ref s.heap.objs.size,_,I.laid (a:=s.heap.objs.size) (o:=.dK []) (t':=s.toks) (λ_ _ q=>ah _ q) (ar _) (Sf s.heap I.big),rfl,h _ (I.hok.fresh (ar _))⟩
end
structure M2 (X:Cx) (o:Expr) (m:Str) (apos:Pos) (e f:Expr) (cpos:Pos):Prop where
 base:attributeBase o m X.env (eval o X.env)=eval o X.env
 few:((backTo cpos (starEach [e,f] X.env)).all (λx=>!x.1)&&(backToKw cpos (keywordEach [] X.env)).all (λx=>x.1.isSome)
  && decide (([e,f]:List Expr).length+([]:List Keyword).length+(if([]:List Keyword).isEmpty then 0 else 1)<30))=true
 line:(apos.endLine == cpos.line)=true
 trees:backTo cpos (starEach [e,f] X.env)=[(false,eval e X.env),(false,eval f X.env)]
def XI (H:Hp)(a:Addr):Prop:=(∃kvs,Rd H a (.dK kvs))\/∃kvs,Rd H a (.dT kvs)
theorem SN {X:Cx}{pins:List (Addr×Obj)}{σ:St}{H:Hp}{s:Shared}{a:Addr}(I:Inv X pins σ H s)(d:XI H a) :
  s.TypeIs (.ref a) "dict"/\(∀b,Value.ref a=.ref b->∃ob,s.heap.get? b=some ob/\ob.dict=none)/\(a == sysModules)=false:=by
 rcases d with⟨kvs,e⟩|⟨kvs,e⟩
 ·obtain⟨_,hd,vs,_,dd⟩:=KP I.hok e;refine⟨dd.typeIs,λb q=>?_,hd⟩;cases q;obtain⟨ob,_,_,h1,h2,_⟩:=dd;exact⟨ob,h1,h2.2.1⟩
 ·obtain⟨_,hd,xs,_,dd⟩:=Kz I.hok e;refine⟨dd.typeIs,λb q=>?_,hd⟩;cases q;obtain⟨ob,_,_,h1,h2,_⟩:=dd;exact⟨ob,h1,h2.2.1⟩
section
variable {X:Cx}{pins:List (Addr×Obj)}{σ:St}{H:Hp}{s:Shared}{a:Addr}{y d:V}{u r:Value}{o:Option V}{A:Around}{E:Value->Shared->Prop}
theorem Ws {Q:Value->Shared->Prop}(hu:A.units+1<cLine)(I:Inv X pins σ H s)(g:BA H a y o)(ry:RelV y u)(rd:RelV d r)(h:∀w' s',Inv X pins σ H s'->RelV (o.getD d) w'->Q w' s') :
  wpAny (model X.prog X.w) A (call (.builtin "dict.get") [.ref a,u,r]) Q E s:=by
 rcases g with⟨kvs,k,e,ey,l⟩|⟨kvs,k,b,e,ey,eb,l⟩
 ·subst ey;obtain⟨z,hd,vs,rel,dd⟩:=KP I.hok e;refine call_meetsIn eL dd.typeIs gh (gb _ _ _) (meets_dict_get_default (AS X.prog X.w) a (JT ry) hd r) ⟨_,dd.mapOf,h _ _ (I.tok _) ?_⟩;rw[l];exact(rel.val k).getD rd
 ·subst ey;cases(show u=Value.ref b from ry);obtain⟨z,hd,xs,rel,dd⟩:=Kz I.hok e;refine call_meetsIn eL dd.typeIs gh (gb _ _ _) (meetsH_dict_get_default (tupleKind (AS X.prog X.w)) a b hd r) ⟨dq hu,k,xs,Jy I.hok eb,dd,h _ _ (I.tok _) ?_⟩;rw[l];exact(rel.val k).getD rd
end
def V7 (td ty tx:TE):TE:=λσ H Q=>td σ H λx H1=>∃a,x=.ref a/\XI H1 a/\ty σ H1 λy H2=>tx σ H2 λz H3=>∃o,BA H3 a y o/\Q (o.getD z) H3
section
variable {X:Cx}{o e f:Expr}{apos cpos:Pos}{td ty tx:TE}
theorem Sj (hu:X.A.units+1<cLine)(ho:PE X o td)(he:PE X e ty)(hf:PE X f tx)(m:M2 X o "get" apos e f cpos):PE X (.Call (.Attribute o "get" apos) [e,f] [] cpos) (V7 td ty tx):=by
 intro pins s σ H Q I h;refine wpAny_Call_method m.base m.few m.line fZ eL PySem.F.type_dict_get (Bc (ho pins s σ H _ I h) λu s1 z9=>?_);obtain⟨x,H1,I1,rx,a,ex,d,q1⟩:=z9;subst ex;obtain rfl:u=Value.ref a:=rx;obtain⟨t1,t2,_⟩:=SN I1 d;refine⟨t1,t2,?_⟩;rw[m.trees];refine dB rfl (fq (dr (Bc (he pins s1 σ H1 _ I1 q1) λiv s2 ⟨y,H2,I2,ry,q2⟩=>
  dr (Bc (hf pins s2 σ H2 _ I2 q2) λfv s3 ⟨z,H3,I3,rz,ov,g,q3⟩=>fQ ?_))))
 exact Ws hu I3 g ry rz λw' s4 I4 rw'=>⟨_,H3,I4,rw',q3⟩
end
section
variable {X:Cx}
def VC (K:PySem.W.Frag):R2:=λx y H Q=>∃a b xs ys,x=.ref a/\y=.ref b/\AL K H a xs/\AL K H b ys/\xs.length+ys.length<=sizeLine/\
 (xs=[]->Q (.ref b) H)/\(xs≠[]->ys=[]->Q (.ref a) H)/\(xs≠[]->ys≠[]->∀p,H p=none->Q (.ref p) (upd H p (.tup (xs++ys))))
theorem RT:Gv X (binaryOp .Add) (VC X.K):=by
 intro pins s σ H x y v u Q I rx ry h;obtain⟨a,b,xs,ys,rfl,rfl,ha,hb,hz,q0,q1,q2⟩:=h
 by_cases hx:xs=[]
 ·subst hx;cases rx;cases ry;obtain⟨its,r1,p1,_⟩:=I.tuple ha;obtain⟨its2,r2,p2,_⟩:=I.tuple hb;cases r1;obtain⟨⟨cls,dd,data,sl⟩,ho,hc,n,hd⟩:=id p1;obtain⟨⟨cls2,dd2,data2,sl2⟩,ho2,hc2,n2,hd2⟩:=id p2;simp only at hc hd hc2 hd2;subst hc hd hc2 hd2;exact fM ⟨_,ho,rfl⟩ ⟨_,ho2,rfl⟩ fV gT eA d8 (dX _ _) (tuple_addW0 a b _ _ n n2 dd dd2 sl sl2 rfl) ⟨ho,ho2,.ref b,H,I,rfl,q0 rfl⟩
 ·exact T7 pins s σ H _ _ v u Q I rx ry ⟨a,b,xs,ys,rfl,rfl,ha,hb,hx,hz,q1 hx,q2 hx⟩
def WW (K:PySem.W.Frag)(neg:Bool):R2:=λx y H Q=>∃a b xs,x=.ref a/\y=.ref b/\AD K H a xs/\AD K H b []/\Q (.bl (if neg then !decide (xs=[]) else decide (xs=[]))) H
theorem VI (hu:X.A.units+1<cLine):Gv X (compareOp .Eq) (WW X.K false):=by
 intro pins s σ H x y v u Q I rx ry h;obtain⟨a,b,xs,rfl,rfl,h1,h2,q⟩:=h;cases rx;cases ry;obtain⟨its,r1,p1,_⟩:=I.list h1;obtain⟨its2,r2,p2,_⟩:=I.list h2;cases r2;cases r1 with
 |nil=>
  exact SeqAt.RcAt.lists (A:=X.A) (s:=s) (e:=λ_=>true) p1.isList p2.isList rfl (by omega) (λj g1 g2=>absurd g1 (by simp)) _ _ _ _ ⟨.bl _,H,I,rfl,q⟩
 |cons r rr=>
  exact gV p1.isList p2.isList (by simp) (by omega) _ _ _ _ ⟨.bl _,H,I,rfl,q⟩
end
inductive Tr where
 |non
 |bl (b:Bool)
 |int (i:Int)
 |str (z:Str)
 |tup (ts:List Tr)
 |lst (ts:List Tr)
mutual
def Rep (F:Addr->Prop)(H:Hp):Tr->V->Prop
 | .non,v=>v=.non
 | .bl b,v=>v=.bl b
 | .int i,v=>v=.int i
 | .str z,v=>v=.str z
 | .tup ts,v=>∃a vs,v=.ref a/\H a=some (.tup vs)/\AN F H ts vs
 | .lst ts,v=>∃a vs,v=.ref a/\F a/\H a=some (.lst vs)/\AN F H ts vs
def AN (F:Addr->Prop)(H:Hp):List Tr->List V->Prop
 |[],vs=>vs=[]
 |t::ts,vs=>∃v us,vs=v::us/\Rep F H t v/\AN F H ts us
end
mutual
def Tr.dep:Tr->Nat
 | .tup ts=>1+Tr.deps ts
 | .lst ts=>1+Tr.deps ts
 |_=>1
def Tr.deps:List Tr->Nat
 |[]=>0
 |t::ts=>max (Tr.dep t) (Tr.deps ts)
end
mutual
def Tr.ok:Tr->Prop
 | .str z=>z.length<=1000
 | .tup ts=>ts.length<=1000/\Tr.oks ts
 | .lst ts=>ts.length<=1000/\Tr.oks ts
 |_=>True
def Tr.oks:List Tr->Prop
 |[]=>True
 |t::ts=>Tr.ok t/\Tr.oks ts
end
mutual
theorem Rep.same {F:Addr->Prop}{H H':Hp}(s:Am H H'):∀(t:Tr) (v:V),Rep F H t v->Rep F H' t v
 | .non,_,h=>h
 | .bl _,_,h=>h
 | .int _,_,h=>h
 | .str _,_,h=>h
 | .tup ts,_,⟨a,vs,e,ha,hr⟩=>⟨a,vs,e,s.get ha,AN.same s ts vs hr⟩
 | .lst ts,_,⟨a,vs,e,fa,ha,hr⟩=>⟨a,vs,e,fa,s.get ha,AN.same s ts vs hr⟩
theorem AN.same {F:Addr->Prop}{H H':Hp}(s:Am H H'):∀(ts:List Tr) (vs:List V),AN F H ts vs->AN F H' ts vs
 |[],_,h=>h
 |t::ts,_,⟨v,us,e,h1,h2⟩=>⟨v,us,e,Rep.same s t v h1,AN.same s ts us h2⟩
end
theorem AN.len {F:Addr->Prop}{H:Hp}:∀(ts:List Tr) (vs:List V),AN F H ts vs->vs.length=ts.length
 |[],_,h=>by rw[show _=[] from h];rfl
 |t::ts,_,⟨v,us,e,_,h2⟩=>by rw[e,aX,aX,AN.len ts us h2]
theorem AN.get {F:Addr->Prop}{H:Hp}:∀{ts:List Tr} {vs:List V},AN F H ts vs->∀{i:Nat} {v:V},vs[i]?=some v->∃t,ts[i]?=some t/\Rep F H t v
 |[],_,h,i,v,hv=>by rw[show _=[] from h] at hv;simp at hv
 |t::ts,_,⟨w,us,e,h1,h2⟩,0,v,hv=>by
  rw[e] at hv;cases(aA hv);exact⟨t,rfl,h1⟩
 |t::ts,_,⟨w,us,e,h1,h2⟩,i+1,v,hv=>by
  rw[e] at hv;obtain⟨t',e1,e2⟩:=AN.get h2 (i:=i) (v:=v) (by simpa using hv);exact⟨t',by simpa using e1,e2⟩
theorem Rep.ok {F:Addr->Prop}{H:Hp}:∀{t:Tr} {v:V},Rep F H t v->t.ok->Ok H v
 | .non,_,h,_=>by rw[show _=V.non from h];trivial
 | .bl _,_,h,_=>by rw[show _=V.bl _ from h];trivial
 | .int _,_,h,_=>by rw[show _=V.int _ from h];trivial
 | .str z,_,h,o=>by rw[show _=V.str z from h];exact o
 | .tup ts,_,⟨a,vs,e,ha,_⟩,_=>by rw[e];exact .inr ⟨vs,ha⟩
 | .lst ts,_,⟨a,vs,e,_,ha,_⟩,_=>by rw[e];exact .inl ⟨vs,ha⟩
mutual
theorem Rep.mono {F G:Addr->Prop}{H:Hp}(h:∀a,F a->G a):∀(t:Tr) (v:V),Rep F H t v->Rep G H t v
 | .non,_,q=>q
 | .bl _,_,q=>q
 | .int _,_,q=>q
 | .str _,_,q=>q
 | .tup ts,_,⟨a,vs,e,ha,hr⟩=>⟨a,vs,e,ha,AN.mono h ts vs hr⟩
 | .lst ts,_,⟨a,vs,e,fa,ha,hr⟩=>⟨a,vs,e,h a fa,ha,AN.mono h ts vs hr⟩
theorem AN.mono {F G:Addr->Prop}{H:Hp}(h:∀a,F a->G a):∀(ts:List Tr) (vs:List V),AN F H ts vs->AN G H ts vs
 |[],_,q=>q
 |t::ts,_,⟨v,us,e,h1,h2⟩=>⟨v,us,e,Rep.mono h t v h1,AN.mono h ts us h2⟩
end
theorem Cb {K:PySem.W.Frag}{a:Addr}{H:Hp}{xs:List V}(h:H a=some (.tup xs)):Ie (Wy K a) H xs:=λH' s i=>
 ⟨λhi=>⟨xs,xs[i],AL.of (s.get h),by simp[hi]⟩,λx H'' y=>⟨y.1,λ_=>y.2 xs (AL.of (s.get h))⟩,λhi=>⟨xs,AL.of (s.get h),hi⟩⟩
def Tr.ty:Tr->String
 | .non=>"NoneType"
 | .bl _=>"bool"
 | .int _=>"int"
 | .str _=>"str"
 | .tup _=>"tuple"
 | .lst _=>"list"
theorem Rep.tyN {F:Addr->Prop}{H:Hp}:∀{t:Tr} {v:V},Rep F H t v->L2.HV H v=t.ty
 | .non,_,h=>by rw[show _=V.non from h];rfl
 | .bl _,_,h=>by rw[show _=V.bl _ from h];rfl
 | .int _,_,h=>by rw[show _=V.int _ from h];rfl
 | .str z,_,h=>by rw[show _=V.str z from h];rfl
 | .tup ts,_,⟨a,vs,e,ha,_⟩=>by rw[e];simp only[L2.HV,ha];rfl
 | .lst ts,_,⟨a,vs,e,_,ha,_⟩=>by rw[e];simp only[L2.HV,ha];rfl
theorem Ct {A:Around}{k:Nat}(hr:Room k A):A.units+150<cLine:=by have:=hr.un;omega
def CL (P:Program)(w:World)(K:PySem.W.Frag)(mg:Str->Option Value)(base:Heap)(k:Nat)(C:Addr)(m:Str)(ps:List Str)(sp:Sp):Prop:=
 ∃(f:Addr) (fd:FuncData),FnOk P w K mg base Cf k f fd ps sp/\Meth K C m f/\Binds K fd ps []
def O3 (P:Program)(w:World)(K:PySem.W.Frag)(mg:Str->Option Value)(base:Heap)(k:Nat)(C:Addr)(x:Str)(ps:List Str)(sp:Sp):Prop:=
 ∃(f:Addr) (fd:FuncData),FnOk P w K mg base Cf k f fd ps sp/\Mk K C f/\mg x=some (.ref C)/\Binds K fd ps []
section
variable {X:Cx}{k:Nat}{x m:Str}{C:Addr}{ps:List Str}{sp:Sp}{e o:Expr}{es:List Expr}{t:TA}{ta:TE}{p apos pos:Pos}
theorem OU (D:O3 X.prog X.w X.K X.mg X.base k C x ps sp) (hr:Room (k+1) X.A) (hg:Gl X x) (ha:PA X (e::es) t)
  (hdb:(x == ("__debug__":Str))=false:=by decide) (he:starEach (e::es) X.env=(false,eval e X.env)::starEach es X.env:=by rfl) (hpl:(backTo pos (starEach es X.env)).any (·.1)=false:=by rfl) :
  PE X (.Call (.Name x p) (e::es) [] pos) (Vg C sp [] E0 t):=by
 obtain⟨f,fd,F,M,hm,hb⟩:=D;exact U7 M F hr hg hm hb .nil P4 ha hdb he hpl
theorem CZ {pl:Sem Bool} (ho:PE X o ta) (c:Ja X.K C) (D:CL X.prog X.w X.K X.mg X.base k C m ps sp) (hr:Room k X.A) (ha:PA X (e::es) t)
  (hst:starEach (e::es) X.env=(false,eval e X.env)::starEach es X.env:=by rfl) (hpl:(backTo pos (starEach es X.env)).any (·.1)=false:=by rfl)
  (ht:eval (.Call (.Attribute o m apos) (e::es) [] pos) X.env=(do
   let ov <-eval o X.env
   standAt apos.atName
   let(f,first) <-holding [ov] (getMethod ov m pl)
   callWith pos f first (backTo pos (starEach (e::es) X.env)) (backToKw pos (keywordEach [] X.env))):=by rfl) :
  PE X (.Call (.Attribute o m apos) (e::es) [] pos) (PU C m sp [] E0 ta t):=by
 obtain⟨f,fd,F,M,hb⟩:=D;exact UC ho c M F hr hb .nil P4 ha hst hpl ht
theorem Mc {pl:Sem Bool} (ho:PE X o ta) (c:Ja X.K C) (D:CL X.prog X.w X.K X.mg X.base k C m ps sp) (hr:Room k X.A)
  (ht:eval (.Call (.Attribute o m apos) [] [] pos) X.env=(do
   let ov <-eval o X.env
   standAt apos.atName
   let(f,first) <-holding [ov] (getMethod ov m pl)
   callWith pos f first (backTo pos (starEach [] X.env)) (backToKw pos (keywordEach [] X.env))):=by rfl) :
  PE X (.Call (.Attribute o m apos) [] [] pos) (PU C m sp [] E0 ta QI):=by
 obtain⟨f,fd,F,M,hb⟩:=D;exact SM ho c M F hr hb .nil P4 ht
end
def Rz (d:Addr)(o:Obj)(kvs:List (Key×V)):It:=
 ⟨λi H=>H d=some (.frz o (.dK kvs))/\i<kvs.length,λi H x H'=>H'=H/\∃k v,kvs[i]?=some (k,v)/\x=kV k,λi H=>H d=some (.frz o (.dK kvs))/\kvs.length<=i⟩
theorem IW {P:Program}{w:World}{k:Key}{u:Value}(h:(AS P w).is k u=true):RelV (kV k) u:=by
 rcases Bw h with⟨i,t,rfl,rfl⟩|⟨x,t,rfl,rfl⟩
 ·exact⟨t,rfl⟩
 ·exact⟨t,rfl⟩
theorem Pw {X:Cx}{pins:List (Addr×Obj)}{σ:St}{H:Hp}{s:Shared}{d:Addr}{o:Obj}{kvs:List (Key×V)}{es:Array DictEntry}{ep:Nat}(I:Inv X pins σ H s)(h:H d=some (.frz o (.dK kvs)))(he:o.data=.dict es ep) :
  (d == sysModules)=false/\∃vs,KV kvs vs/\s.heap.DictAt (AS X.prog X.w) d vs ep:=by
 obtain⟨ho,_,hs,vs,r,o',es',ep',ho',h1,h2,h3⟩:=I.hok d _ h;rw[ho] at ho';cases ho';rw[he] at h2;injection h2 with e1 e2
 subst e1 e2;exact⟨hs,vs,r,o,es,ho,h1,he,h3⟩
theorem Rb {P:Program}{w:World}{K:PySem.W.Frag}{tg:Expr}(d it:Addr)(o:Obj)(kvs:List (Key×V))(es:Array DictEntry)(ep:Nat)(he:o.data=.dict es ep):Turn P w K tg (Rz d o kvs) [it] it (λi h=>h.IsKeyIter it d i kvs.length ep) where
 mem:=by simp
 obj:=λi h st b hb=>by
  have e:b=it:=by simpa using hb
  subst e;obtain⟨o,e,c,d⟩:=st;exact⟨o,e,λv z=>by rw[d] at z;cases z⟩
 keep:=λi h h' st k=>st.at λo e=>k it (by simp) o e
 item:=by
  intro X hP hw hK hc i pins s σ H E I hf st hg;subst hP hw hK;obtain⟨hq,hi⟩:=hg;obtain⟨_,vs,r,hat⟩:=Pw I hq he;have hl:kvs.length=vs.length:=cY r;obtain⟨f0,f1,f2,f3,f4,f5⟩:=hf it (by simp);have ek:kvs[i]?=some kvs[i]:=ab hi;have ev:vs[i]?=some vs[i]:=ab (by omega);have rk:=r.keys;have e1:kvs[i].1=(vs[i]'(by omega)).1:=by
   have:=congrArg (λl=>l[i]?) rk;simp only[List.getElem?_map,ek,ev,Option.map_some] at this;exact aA this
  rw[hl] at st;refine wpAny_pyNext_dict_item (k:=(vs[i]'(by omega)).1) (v:=(vs[i]'(by omega)).2) st hat ev λkey h' hkey st' sb=>?_
  have I1:Inv X pins σ H { s with heap:=h' }:=I.turned (t':=s.toks) (λb o hb e=>(sb.2 b hb).trans e) f0 f1 f3 f4 f5;rw[<-hl] at st';obtain⟨o2,e,c,dd⟩:=id st';exact⟨key,rfl,LH (s:={ s with heap:=h' }) e c dd (by decide) ⟨kV kvs[i].1,H,I1,IW (by rw[e1];exact hkey),⟨rfl,kvs[i].1,kvs[i].2,ek,rfl⟩,st',λb hb=>(hf b hb).1⟩⟩
 done:=by
  intro X hP hw hK hc i pins s σ H E I hf st hg;subst hP hw hK;obtain⟨hq,hi⟩:=hg;obtain⟨_,vs,r,hat⟩:=Pw I hq he;have hl:kvs.length=vs.length:=cY r;obtain⟨f0,f1,f2,f3,f4,f5⟩:=hf it (by simp);rw[hl] at st;exact wpAny_pyNext_dict_end (I.ok.hd hc) st hat (bX (by omega)) λh' eb=>⟨rfl,I.turned (t':=s.toks) (λb o hb e=>eb b o hb e) f0 f1 f3 f4 f5⟩
 self:=λ_ _ _ _ _ st h=>wpAny_pyIter_keyiter st h
theorem Inv.freeze {X:Cx}{pins:List (Addr×Obj)}{σ:St}{H:Hp}{s:Shared}{d:Addr}{o:Obj}{kvs:List (Key×V)}(I:Inv X pins σ H s)(h:H d=some (.dK kvs))(ho:s.heap.get? d=some o):Inv X pins σ (upd H d (.frz o (.dK kvs))) s:=by
 have nd:∀b,H b=none->upd H d (.frz o (.dK kvs)) b=none:=λb hb=>by
  rw[Ah (λz=>by rw[z,h] at hb;cases hb)];exact hb
 refine⟨I.ok,I.os,I.bare,⟨I.base.keep,I.base.slot,λb ob e1 e2 e3=>nd b (I.base.free b ob e1 e2 e3),I.base.there,λb xs e=>?_,λb o2 u e=>?_,λb ps e=>?_⟩,I.loc,I.cell,nd _ I.free,λx c e=>nd c (I.freeC x c e),λp hp=>?_,λb u e=>?_,I.len⟩
 ·have:=I.base.tups b xs e;rw[Ah (BG this h (by intro z;cases z))];exact this
 ·have:=I.base.frzs b o2 u e;rw[Ah (BG this h (by intro z;cases z))];exact this
 ·obtain⟨more,q⟩:=I.base.tbls b ps e;exact⟨more,by rw[Ah (BG q h (by intro z;cases z))];exact q⟩
 ·obtain⟨p1,p2,p3⟩:=I.pin p hp;exact⟨p1,nd _ p2,p3⟩
 ·by_cases hb:b=d
  ·subst hb;rw[Ad] at e;cases e;exact⟨ho,(I.hok b _ h).stay (λc v _ r=>r) (λc r=>by rw[Ah (BG r h (by intro z;cases z))];exact r) λc xs r=>by rw[Ah (BG r h (by intro z;cases z))];exact r⟩
  ·rw[Ah hb] at e;exact(I.hok b u e).stay (λc v _ r=>r) (λc r=>by rw[Ah (BG r h (by intro z;cases z))];exact r) λc xs r=>by rw[Ah (BG r h (by intro z;cases z))];exact r
section
variable {X:Cx}{tg:Expr}
def WM (tl:TE):TI:=λσ H R=>tl σ H λx H1=>∃d kvs,x=.ref d/\H1 d=some (.dK kvs)/\∀o,R (Rz d o kvs) (upd H1 d (.frz o (.dK kvs)))
theorem Iy {l:Expr}{tl:TE}(hl:PE X l tl):PI X tg l (WM tl):=by
 intro pins s σ H R I h;refine Bc (hl pins s σ H _ I h) λv s1 ⟨x,H1,I1,r1,q1⟩=>?_
 obtain⟨d,kvs,e,hq,q⟩:=q1;subst e;cases r1;obtain⟨_,_,vs,r,o,es,ep,ho,_,he,_⟩:=I1.hok d _ hq;have I2:=I1.freeze hq ho;obtain⟨hs,vs,r,hat⟩:=Pw I2 Ad he;have hl:kvs.length=vs.length:=cY r;refine wpAny_pyIter_dict hs hat ?_;refine⟨s1.heap.objs.size,[s1.heap.objs.size],_,_,_,rfl,I2.kept (t':=s1.toks) λb o e=>ah _ e,Rb d _ o kvs es ep he,⟨_,aM _ rfl,rfl,by rw[hl];rfl⟩,λb hb=>?_,q o⟩;have e:b=s1.heap.objs.size:=by simpa using hb
 subst e;exact I2.fpOk (ar _) (I2.hok.fresh (ar _))
end
theorem R3 {d:Addr} {o:Obj} {kvs:List (Key×V)} {g:TG} {tb:TS} {D:Ends} {σ:St} {H:Hp} (Pv:Nat->St->Hp->Prop) (h0:Pv 0 σ H) (hl:∀(i:Nat) (σ:St) (H:Hp),i<=kvs.length->Pv i σ H->H d=some (.frz o (.dK kvs)))
  (turn:∀(i:Nat) (k:Key) (v:V) (σ:St) (H:Hp),kvs[i]?=some (k,v)->Pv i σ H->g (kV k) σ H λσ2 H2=>tb { nx:=Pv (i+1),rt:=D.rt,bk:=D.nx,ct:=Pv (i+1) } σ2 H2)
  (done:∀(σ:St) (H:Hp),Pv kvs.length σ H->D.nx σ H) :
  ∃W:Nat->Nat->St->Hp->Prop,(∃m,W 0 m σ H)/\∀i m σ H,W i m σ H->
   ((Rz d o kvs).stop i H/\D.nx σ H)\/((Rz d o kvs).go i H/\∃N:St->Hp->Prop,(∀σ' H',N σ' H'->∃m',m'<m/\W (i+1) m' σ' H')/\∀x H',(Rz d o kvs).yld i H x H'->g x σ H' λσ2 H2=>tb { D with nx:=N,ct:=N,bk:=D.nx } σ2 H2):=by
 refine⟨λi m σ H=>m=kvs.length-i/\i<=kvs.length/\Pv i σ H,⟨_,rfl,bC _,h0⟩,?_⟩
 rintro i m σ H ⟨rfl,hi,hp⟩
 by_cases hlt:i<kvs.length
 ·refine .inr ⟨⟨hl i σ H hi hp,hlt⟩,Pv (i+1),λσ' H' hn=>⟨kvs.length-(i+1),by omega,rfl,hlt,hn⟩,?_⟩
  rintro x H' ⟨rfl,k,v,e,rfl⟩
  exact turn i k v σ _ e hp
 ·have e:i=kvs.length:=by omega
  subst e;exact .inl ⟨⟨hl _ σ H hi hp,ar _⟩,done σ H hp⟩
theorem BA.kf {H:Hp}{a:Addr}{o:Obj}{kvs:List (Key×V)}{k:Key}(e:H a=some (.frz o (.dK kvs))):BA H a (kV k) (Bo kvs k):=.inl ⟨kvs,k,.inr ⟨o,e⟩,rfl,rfl⟩
theorem Inv.thaw {X:Cx}{pins:List (Addr×Obj)}{σ:St}{H:Hp}{s:Shared}{d:Addr}{o:Obj}{kvs:List (Key×V)}(I:Inv X pins σ H s)(h:H d=some (.frz o (.dK kvs)))(nf:∀o u,X.H₀ d≠some (.frz o u)):Inv X pins σ (upd H d (.dK kvs)) s:=by
 have nd:∀b,H b=none->upd H d (.dK kvs) b=none:=λb hb=>by
  rw[Ah (λz=>by rw[z,h] at hb;cases hb)];exact hb
 refine⟨I.ok,I.os,I.bare,⟨I.base.keep,I.base.slot,λb ob e1 e2 e3=>nd b (I.base.free b ob e1 e2 e3),I.base.there,λb xs e=>?_,λb o2 u e=>?_,λb ps e=>?_⟩,I.loc,I.cell,nd _ I.free,λx c e=>nd c (I.freeC x c e),λp hp=>?_,λb u e=>?_,I.len⟩
 ·have:=I.base.tups b xs e;rw[Ah (BG this h (by intro z;cases z))];exact this
 ·have:=I.base.frzs b o2 u e;rw[Ah (λz=>nf o2 u (by rw[<-z];exact e))];exact this
 ·obtain⟨more,q⟩:=I.base.tbls b ps e;exact⟨more,by rw[Ah (BG q h (by intro z;cases z))];exact q⟩
 ·obtain⟨p1,p2,p3⟩:=I.pin p hp;exact⟨p1,nd _ p2,p3⟩
 ·by_cases hb:b=d
  ·subst hb;rw[Ad] at e;cases e;obtain⟨_,q⟩:=I.hok b _ h;exact Ba.stay (o:=.dK kvs) q (λc v _ r=>r) (λc r=>by rw[Ah (BG r h (by intro z;cases z))];exact r) λc xs r=>by rw[Ah (BG r h (by intro z;cases z))];exact r
  ·rw[Ah hb] at e;exact(I.hok b u e).stay (λc v _ r=>r) (λc r=>by rw[Ah (BG r h (by intro z;cases z))];exact r) λc xs r=>by rw[Ah (BG r h (by intro z;cases z))];exact r
section
variable {X:Cx}
def Gw (X:Cx)(D:Ends):Ends where
 nx:=λσ H=>∃d o kvs,(∀o u,X.H₀ d≠some (.frz o u))/\H d=some (.frz o (.dK kvs))/\D.nx σ (upd H d (.dK kvs))
 rt:=λv H=>∃d o kvs,(∀o u,X.H₀ d≠some (.frz o u))/\H d=some (.frz o (.dK kvs))/\D.rt v (upd H d (.dK kvs))
def Tq (X:Cx)(tl:TE)(g:TG)(tb:TS):TS:=λD σ H=>tl σ H λx H1=>∃d kvs,x=.ref d/\H1 d=some (.dK kvs)/\∀o,∃W:Nat->Nat->St->Hp->Prop,(∃m,W 0 m σ (upd H1 d (.frz o (.dK kvs))))/\∀i m σ H,W i m σ H->
 ((Rz d o kvs).stop i H/\(Gw X D).nx σ H)\/((Rz d o kvs).go i H/\∃N:St->Hp->Prop,(∀σ' H',N σ' H'->∃m',m'<m/\W (i+1) m' σ' H')/\∀x H',(Rz d o kvs).yld i H x H'->g x σ H' λσ2 H2=>tb { Gw X D with nx:=N,ct:=N,bk:=(Gw X D).nx } σ2 H2)
theorem Qx {tg l:Expr} {body:List Stmt} {tl:TE} {g:TG} {tb:TS} {pos:Pos} (hp:PassesOwn (model X.prog X.w) X.A X.env X.xe) (hc:X.calm=true) (hl:PE X l tl) (hg:PG X tg g) (hb:NN X body tb)
  (hs:∀x,foldedSetIterable l X.env x=pure x:=by intro _;rfl):PS X (.For tg l body [] pos) (Tq X tl g tb):=by
 intro pins s σ H D I h;refine Bc (BR (pos:=pos) hp hc (Iy hl) hg hb hs pins s σ H (Gw X D) I h) λf s' q=>?_
 cases f with
 |next=>
  obtain⟨σ',H',I',d,o,kvs,nf,hd,q⟩:=q;exact⟨σ',_,I'.thaw hd nf,q⟩
 |brk=>obtain⟨σ',H',I',q⟩:=q;exact False.elim q
 |cont=>obtain⟨σ',H',I',q⟩:=q;exact False.elim q
 |ret v=>
  obtain⟨x,σ',H',I',r,d,o,kvs,nf,hd,q⟩:=q;exact⟨x,σ',_,I'.thaw hd nf,r,q⟩
theorem LU {d:Addr} {o:Obj} {kvs:List (Key×V)} {g:TG} {tb:TS} {D:Ends} {σ:St} {H:Hp} (nf:∀o u,X.H₀ d≠some (.frz o u)) (Pv:Nat->St->Hp->Prop) (h0:Pv 0 σ H) (hl:∀(i:Nat) (σ:St) (H:Hp),i<=kvs.length->Pv i σ H->H d=some (.frz o (.dK kvs)))
  (turn:∀(i:Nat) (k:Key) (v:V) (σ:St) (H:Hp),kvs[i]?=some (k,v)->Pv i σ H->g (kV k) σ H λσ2 H2=>tb { nx:=Pv (i+1),rt:=(Gw X D).rt,bk:=(Gw X D).nx,ct:=Pv (i+1) } σ2 H2)
  (done:∀(σ:St) (H:Hp),Pv kvs.length σ H->D.nx σ (upd H d (.dK kvs))) :
  ∃W:Nat->Nat->St->Hp->Prop,(∃m,W 0 m σ H)/\∀i m σ H,W i m σ H->
   ((Rz d o kvs).stop i H/\(Gw X D).nx σ H)\/((Rz d o kvs).go i H/\∃N:St->Hp->Prop,(∀σ' H',N σ' H'->∃m',m'<m/\W (i+1) m' σ' H')/\∀x H',(Rz d o kvs).yld i H x H'->g x σ H' λσ2 H2=>tb { Gw X D with nx:=N,ct:=N,bk:=(Gw X D).nx } σ2 H2):=
 R3 (D:=Gw X D) Pv h0 hl turn λσ H p=>⟨d,o,kvs,nf,hl _ σ H (ar _) p,done σ H p⟩
end
theorem Bf {t u:TS}{D:Ends}{σ:St}{H:Hp}(M:St->Hp->Prop)(h1:∀N:St->Hp->Prop,(∀σ' H',M σ' H'->N σ' H')->t { D with nx:=N } σ H)(h2:∀σ' H',M σ' H'->u D σ' H'):Uk t u D σ H:=h1 (u D) h2
theorem Ml {J:It} {xs:List V} {fr:List (Option Nat)} {k:Nat} {te:TE} {Q:VK} {σ:St} {H:Hp} (I:Nat->List V->Addr->Hp->Prop) (hn:xs.length<=1000000)
  (hJ:∀i ys l H',I i ys l H'->(i<xs.length->J.go i H')/\(∀x H'',J.yld i H' x H''->H''=H'/\(i<xs.length->xs[i]?=some x))/\(xs.length<=i->J.stop i H'))
  (h0:∀l,H l=none->I 0 [] l (upd H l (.lst [])))
  (step:∀(i:Nat) (x:V) (ys:List V) (l:Addr) (H':Hp) (R:VK),xs[i]?=some x->H l=none->H' l=some (.lst ys)->ys.length=i->I i ys l H'->(∀y H'',H'' l=some (.lst ys)->I (i+1) (ys++[y]) l (upd H'' l (.lst (ys++[y])))->R y H'')->te ((stC fr σ).set k (some x)) H' R)
  (hQ:∀l H' (ys:List V),H l=none->H' l=some (.lst ys)->ys.length=xs.length->I xs.length ys l H'->Q (.ref l) H'):Eo fr (Ay k) Oq te σ Q J H:=by
 intro l hl;refine⟨λi m σ' H'=>m=xs.length-i/\i<=xs.length/\(∀y,σ'.set k y=(stC fr σ).set k y)/\∃ys:List V,H' l=some (.lst ys)/\ys.length=i/\I i ys l H',⟨xs.length,by simp,bC _,λ_=>rfl,[],Ad,rfl,h0 l hl⟩,?_⟩
 rintro i m σ' H' ⟨rfl,hi,hσ,ys,hl',hlen,hI⟩
 obtain⟨h1,h2,h3⟩:=hJ i ys l H' hI
 by_cases hlt:i<xs.length
 ·refine .inr ⟨h1 hlt,λx H'' y=>?_⟩;obtain⟨rfl,hx⟩:=h2 x H'' y;have hx:=hx hlt;show te (σ'.set k (some x)) H'' _;rw[hσ];refine step i x ys l H'' _ hx hl hl' hlen hI λy H4 hl4 hI4=>?_
  exact⟨ys,hl4,AU (by omega),xs.length-(i+1),by omega,rfl,hlt,λy=>by rw[dg],ys++[y],Ad,by rw[au,hlen];rfl,hI4⟩
 ·have e:i=xs.length:=by omega
  subst e;exact .inl ⟨h3 (ar _),hQ l H' ys hl hl' hlen hI⟩
theorem SK {lo:Int}{n i:Nat}{H:Hp}:(i<((List.range n).map λ(i:Nat)=>V.int (lo+(i:Int))).length->(TY lo n).go i H)/\(∀x H'',(TY lo n).yld i H x H''->H''=H/\(i<((List.range n).map λ(i:Nat)=>V.int (lo+(i:Int))).length->((List.range n).map λ(i:Nat)=>V.int (lo+(i:Int)))[i]?=some x))/\(((List.range n).map λ(i:Nat)=>V.int (lo+(i:Int))).length<=i->(TY lo n).stop i H):=by
 rw[aa,bP];refine⟨λh=>h,λx H'' y=>⟨y.1,λh=>?_⟩,λh=>h⟩;rw[az,dG h,y.2];rfl
end L2
namespace L2
section
open PySem
open Sem (wp wp_bind' wp_mono)
def U2 (o:Obj):Prop:=∃vs,o.data=.fields vs/\vs[2]?=some .none
def DictAt (h:Heap)(e:Addr)(d:Option Addr):Prop:=∃o,h.objs[e]?=some o/\o.dict=d/\U2 o
variable {α β:Type}
end
end L2
namespace L2
open PySem PySem.Spec PyProof.Rows
structure Fly (P:Program) (w:World) (outer:List Env) (H:Hp) (s:Shared) (ea:Addr) (cls:Value) (H':Hp) (B:Heap) (a0:Value) (s':Shared):Prop where
 os:s'.os=s.os
 bare:AllBare s'.gens
 un:Un (MJ outer) [] H H' s.heap s'.heap
 hok:HC P w H' B
 fl:Heap.FlyingW B outer ea cls a0 s'.heap
 kp:∀b o,s.heap.get? b=some o->H b=none->b∉MJ outer->B.get? b=some o
 th:∀b o,s.heap.get? b=some o->b∉MJ outer->∃o',B.get? b=some o'
 dj:∃d,DictAt s'.heap ea d
section
variable {P:Program}{w:World}{outer:List Env}{H H':Hp}{s s':Shared}{ea:Addr}{cls a0:Value}{B h' base:Heap}
theorem Fly.stay (F:Fly P w outer H s ea cls H' B a0 s')(hl:s.heap.FunFrames base outer)(hn:∀b∈MJ outer,H b=none)(sB:B.StaysIn h')(up:s'.heap.UpToSlots h'):Un (MJ outer) [] H H' s.heap h':=by
 have sl:∀b o,s.heap.get? b=some o->b∈MJ outer->∃sl,h'.get? b=some { o with slots:=sl }:=λb o q hb=>by
  obtain⟨z,e⟩:=F.un.slot b o q (hn b hb) hb (by simp);obtain⟨_,o',ho',hd⟩:=hl.mem hb;rw[q] at ho';cases ho';exact up b { o with slots:=z } e hd
 refine⟨λb o q n hb _=>sB b o (F.kp b o q n hb),λb o q _ hb _=>sl b o q hb,F.un.free,λb o q _=>?_,F.un.tups,F.un.frzs,F.un.tbls⟩
 by_cases hb:b∈MJ outer
 ·obtain⟨z,e⟩:=sl b o q hb;exact⟨_,e⟩
 ·obtain⟨o',e⟩:=F.th b o q hb;exact⟨o',sB b o' e⟩
end
section
variable {X:Cx}{pins:List (Addr×Obj)}{σ:St}{H H':Hp}{s s':Shared}{ea:Addr}{cls a0:Value}{B h':Heap}
theorem Inv.landed (I:Inv X pins σ H s)(F:Fly X.prog X.w X.stack H s ea cls H' B a0 s')(sB:B.StaysIn h')(up:s'.heap.UpToSlots h'):Inv X pins σ H' { s' with heap:=h' }:=
 I.call' (s':={ s' with heap:=h' }) (ch:=[]) F.os (F.stay I.stack I.stkFree sB up) (F.hok.kept sB) F.bare (λb z=>nomatch z)
end
abbrev XS:=Value->St->Hp->Prop
abbrev TX:=Ends->XS->St->Hp->Prop
def XP (X:Cx)(pins:List (Addr×Obj))(Ex:XS)(e:Value)(s':Shared):Prop:=
 ∃(ea:Addr) (cls:Value) (σ':St) (H1 H':Hp) (s1:Shared) (B:Heap) (a0:Value),e=.ref ea/\Inv X pins σ' H1 s1/\Fly X.prog X.w X.stack H1 s1 ea cls H' B a0 s'/\Ex cls σ' H'
def PX (X:Cx)(st:Stmt)(t:TX):Prop:=
 ∀(pins:List (Addr×Obj)) (s:Shared) (σ:St) (H:Hp) (D:Ends) (Ex:XS),Inv X pins σ H s->t D Ex σ H->wpAny (model X.prog X.w) X.A (exec st X.env) (SP X pins D) (XP X pins Ex) s
def Yk (X:Cx)(st:List Stmt)(t:TX):Prop:=
 ∀(pins:List (Addr×Obj)) (s:Shared) (σ:St) (H:Hp) (D:Ends) (Ex:XS),Inv X pins σ H s->t D Ex σ H->wpAny (model X.prog X.w) X.A (execs st X.env) (SP X pins D) (XP X pins Ex) s
section
variable {X:Cx}{st:Stmt}{rest:List Stmt}{e:Expr}{pos:Pos}
theorem U1 {t:TS}(h:PS X.nox st t):PX X st (λD _=>t D):=λpins s σ H D Ex I q=>
 bB (h pins s σ H D (I.wish _) q) (λ_ _ z=>z.unwish) λ_ _ z=>False.elim z
theorem U3 {t:TX}(h1:PX X st t):Yk X [st] t:=by
 intro pins s σ H D Ex I h;refine fU (Bc (h1 pins s σ H D Ex I h) λf s1 q=>?_);cases f with
 |next=>exact dU q
 |ret v=>exact q
 |brk=>exact q
 |cont=>exact q
end
def Cx.held (X:Cx)(e:Value):Cx:={ X with A:=X.A.mark (some e),calm:=false,xe:=λ_ _=>False }
section
variable {X:Cx}{pins:List (Addr×Obj)}{σ:St}{H:Hp}{s:Shared}{e:Value}
theorem Inv.held (I:Inv X pins σ H s)(e:Value):Inv (X.held e) pins σ H s:=
 ⟨⟨I.ok.mod,I.ok.kind,I.ok.glob,I.ok.blt,I.ok.above,I.ok.inj,I.ok.has,I.ok.cab,(λz=>nomatch z),I.ok.frames,I.ok.stk,I.ok.exf,I.ok.bs,I.ok.bsz,I.ok.noex,I.ok.exfs,I.ok.funs,I.ok.frf⟩,I.os,I.bare,I.base,I.loc,I.cell,I.free,I.freeC,I.pin,I.hok,I.len⟩
theorem Inv.unheld (J:Inv X pins σ H s){σ':St}{H':Hp}{s':Shared}(I:Inv (X.held e) pins σ' H' s'):Inv X pins σ' H' s':=
 ⟨J.ok,I.os,I.bare,I.base,I.loc,I.cell,I.free,I.freeC,I.pin,I.hok,I.len⟩
theorem SP.unheld (J:Inv X pins σ H s){D:Ends}{f:Flow}{s':Shared}(h:SP (X.held e) pins D f s'):SP X pins D f s':=by
 cases f with
 |next=>obtain⟨σ',H',I,q⟩:=h;exact⟨σ',H',J.unheld I,q⟩
 |brk=>obtain⟨σ',H',I,q⟩:=h;exact⟨σ',H',J.unheld I,q⟩
 |cont=>obtain⟨σ',H',I,q⟩:=h;exact⟨σ',H',J.unheld I,q⟩
 |ret u=>obtain⟨v,σ',H',I,r,q⟩:=h;exact⟨v,σ',H',J.unheld I,r,q⟩
end
section
variable {X:Cx}{x:Str}{c:Value}{body orelse suite:List Stmt}{b₀:Stmt}{np hpos pos:Pos}
def X8 (K:PySem.W.Frag)(c:Value)(tb:TX)(te ts:TS):TS:=λD σ H=>tb { D with nx:=te D } (λcls σ' H'=>PySem.W.exmOne K cls c=some true/\ts D σ' H') σ H
theorem V2 {tb:TX} {te ts:TS} (hst:X.stack=X.env::X.outer/\X.env.frame=some X.env.locals) (hm:X.mg x=some c) (hg:Gl X x) (hb:Yk X body tb) (he:NN X orelse te) (hs:∀e,NN (X.held e) (b₀::suite) ts)
  (hd:(x == ("__debug__":Str))=false:=by decide):PS X (.Try body [.ExceptHandler (some (.Name x np)) none (b₀::suite) hpos] orelse [] pos) (X8 X.K c tb te ts):=by
 intro pins s σ H D I h;refine wpAny_Try_except (bB (hb pins s σ H _ _ I h) (λf s1 q=>?_) λe s1 q=>?_)
 ·cases f with
  |next=>
   obtain⟨σ',H',I',q⟩:=q;exact he pins s1 σ' H' D I' q
  |ret v=>exact q
  |brk=>exact q
  |cont=>exact q
 ·obtain⟨ea,cls,σ',H1,H',s2,B,a0,rfl,I2,F,hx,q⟩:=q;have hfr:=I.ok.frames;have fl:=F.fl;rw[hst.1] at hfr fl;refine wpAny_looks_onW hfr hst.2 fl λh4 held4 up4=>?_
  refine wpAny_landsW held4 λh5 fl5 up5=>?_
  have J5:=I2.landed F fl5.1 (up4.trans up5);refine wpAny_handleBy_cons (codeAny_handlers_test (Kj (J5.held (.ref ea)) hg hm ?_ hd)) (by intro z;cases z);obtain⟨ob,hob,hcls⟩:=fl5.there;have LT:PySem.W.Looks (model X.prog X.w) h5 (typeOf (.ref ea)) cls:=by
   subst hcls;exact(PySem.W.Looks.ld hob).andThen .now
  refine(PySem.W.exm_one J5.kIn LT hx).here ?_;refine codeAny_handlers_suite (lands_againW fl5 λh6 fl6 up6=>?_);have J6:=I2.landed F fl6.1 ((up4.trans up5).trans up6);exact bB (hs (.ref ea) pins _ σ' H' D (J6.held (.ref ea)) q) (λf s7 z=>z.unheld J6) λ_ _ z=>False.elim z
end
end L2
namespace L2
section
open PySem PySem.Calls PyProof.Rows PySem.W Builtin Builtin.ObjectAttr Builtin.Getset_descriptor
section
variable {prog:Program}{w:World}{A:Around}{E:Value->Shared->Prop}{K:Frag}{e D:Addr}
structure ExcCls (K:Frag) (D:Addr):Prop where
 ga:findIn K (.ref D) "__getattribute__"=some (some (.builtin "BaseException.__getattribute__"))
 gg:findIn K (.ref D) "__getattr__"=some none
 cl:findIn K (.ref D) "__class__"=some (some (.builtin "object.__class__"))
 sp:specialIn K (.builtin "object.__class__") "__get__"=some (some (.builtin "getset_descriptor.__get__"))
 tk:takesIn K (.builtin "object.__class__")=some true
 mo:mroIn K D (.type "object")=some true
 mb:mroIn K D (.type "BaseException")=some true
theorem ExcCls.there (c:ExcCls K D):∃o,K.lookup D=some o/\∃cd,o.data=.cls cd:=by
 obtain⟨cd,h,_⟩:=Option.bind_eq_some_iff.mp c.mo;unfold clsIn at h
 split at h
 ·rename_i o d' cd' sl' ho
  exact⟨_,ho,_,rfl⟩
 ·cases h
end
end
open PySem PySem.Spec PyProof.Rows
section
variable {X:Cx}{pins:List (Addr×Obj)}{σ:St}{H:Hp}{s:Shared}
theorem Inv.know {e:Addr} {o:HO} (I:Inv X pins σ H s) (n0:e∉X.ex->X.s₀.heap.get? e=none) (nl:e≠X.env.locals) (nc:∀x c,X.env.cells.lookup x=some c->c≠e) (np:∀p∈X.pn++pins,p.1≠e) (hn:H e=none)
  (ho:Ba X.prog X.w (upd H e o) s.heap e o):Inv X pins σ (upd H e o) s:=by
 have up:∀{b:Addr} {u:HO},H b=some u->upd H e o b=some u:=λ{b u} q=>by rw[Ah (Bp q hn)];exact q
 refine⟨I.ok,I.os,I.bare,⟨I.base.keep,I.base.slot,λb ob q n x=>?_,I.base.there,λb xs q=>up (I.base.tups b xs q),λb ob u q=>up (I.base.frzs b ob u q),λb ps q=>?_⟩,I.loc,I.cell,?_,λx c q=>?_,λp hp=>?_,λb u q=>?_,I.len⟩
 ·rw[Ah (λz=>by subst z;rw[n0 x] at q;cases q)];exact I.base.free b ob q n x
 ·obtain⟨more,z⟩:=I.base.tbls b ps q;exact⟨more,up z⟩
 ·rw[Ah nl.symm];exact I.free
 ·rw[Ah (nc x c q)];exact I.freeC x c q
 ·obtain⟨h1,h2,h3⟩:=I.pin p hp;exact⟨h1,by rw[Ah (np p hp)];exact h2,h3⟩
 ·by_cases hb:b=e
  ·subst hb;rw[Ad] at q;cases q;exact ho
  ·rw[Ah hb] at q;exact(I.hok b u q).stay (λc v _ z=>z) (λ_ z=>up z) λ_ _ z=>up z
end
end L2
namespace L2
end L2
namespace L2
end L2
namespace L2
open PySem PySem.Spec PyProof.Rows
end L2
namespace L2
end L2
namespace L2
open PySem PySem.Calls PySem.Spec PyProof.Rows PySem.Builtin.Str
end L2
namespace L2
open PySem PySem.Spec PyProof.Rows
end L2
namespace L2
section
open PySem PySem.Spec PyProof.Rows
structure HeldS (X:Cx) (e:Addr) (oe:Obj):Prop where
 hd:X.A.handled=some (.ref e)
 at_:X.s₀.heap.get? e=some oe
 free:X.H₀ e=none
 nfs:e∉X.fs
 nex:e∉X.ex
 fl:U2 oe
structure NowH (h:Heap) (e:Addr) (oe:Obj):Prop where
 at_:h.get? e=some oe
 fl:U2 oe
theorem HeldS.now {X:Cx}{e:Addr}{oe:Obj}(h:HeldS X e oe){pins:List (Addr×Obj)}{σ:St}{H:Hp}{s:Shared}(I:Inv X pins σ H s):NowH s.heap e oe:=⟨I.base.keep e oe h.at_ h.free h.nfs h.nex,h.fl⟩
end
section
open PySem PySem.Spec PyProof.Rows
structure RoomH (k:Nat) (A:Around):Prop where
 dp:A.depth+3*k+5<recursionLimit
 un:A.units+16*k+200<cLine
structure FnOkH (P:Program) (w:World) (K:PySem.W.Frag) (mg:Str->Option Value) (base:Heap) (k:Nat) (f:Addr) (fd:FuncData) (ps:List Str) (sp:Sp):Prop where
 len:∀vs H Q E,sp vs H Q E->vs.length=ps.length
 run:∀(A:Around) (outer:List Env) (s:Shared) (H:Hp) (args:Args) (us:List Value) (vs:List V) (Q:VK) (E:XK) (eh:Addr) (oh:Obj),RoomH k A->Env0 P w K mg base A outer s H->A.handled=some (.ref eh)->s.heap.get? eh=some oh->H eh=none->eh∉MJ outer->U2 oh->BindsTo s fd args (ps.zip us)->AG vs us->sp vs H Q E->
  codeAny (model P w) A (.call (.ref f) args) (CR Cf outer P w H s Q E) s
def W8 (P:Program)(w:World)(K:PySem.W.Frag)(mg:Str->Option Value)(base:Heap)(k:Nat)(x:Str)(ps:List Str)(sp:Sp):Prop:=
 ∃(f:Addr) (fd:FuncData),FnOk P w K mg base Cf k f fd ps sp/\FnOkH P w K mg base k f fd ps sp/\mg x=some (.ref f)/\PySem.W.keepIn K (.ref f)=true/\Binds K fd ps []
theorem W8.def {P:Program}{w:World}{K:PySem.W.Frag}{mg:Str->Option Value}{base:Heap}{k:Nat}{x:Str}{ps:List Str}{sp:Sp}(D:W8 P w K mg base k x ps sp):Def P w K mg base k x ps sp:=by
 obtain⟨f,fd,F,_,r⟩:=D;exact⟨f,fd,F,r⟩
variable {X:Cx}{k:Nat}{x:Str}{ps:List Str}{sp:Sp}{e:Expr}{es:List Expr}{t:TA}{p pos:Pos}
end
end L2
namespace L2
section
open PySem PySem.Calls PyProof.Rows
variable {prog:Program}{w:World}{A:Around}{E:Value->Shared->Prop}{s:Shared}
def PZ (Q:Value->Shared->Prop)(vs:List Value)(s1:Shared):Prop:=∃ss,StrsAre vs ss/\vs.length<64/\
 ∀h' p (out:List Value) ss' c,StrsAre out ss'->ss'.Perm ss->sortedS ss'=true->s1.heap.objs.size<=p->(∀b o,s1.heap.get? b=some o->h'.get? b=some o)->
  h'.get? p=some (seqObj "list" out.toArray c)->Q (.ref p) { s1 with heap:=h' }
theorem Ll {x:Value}{Q:Value->Shared->Prop}(hc:wpAny (model prog w) A.in1 (collect x) (PZ Q) E s):wpAny (model prog w) A (call (.builtin "sorted") [x]) Q E s:=by
 refine eF kind_sorted gL gN (args_sorted1 x) ?_;unfold Builtin.«sorted»;refine ae (m:=checkCount "sorted" 1 1 _) (ax (ae (bB hc (λvs s1 z=>?_) λ_ _ e=>e)));obtain⟨ss,hS,few,q⟩:=z;refine ae (cW ?_);have there:(s1.heap.push (seqObj "list" vs.toArray 0)).get? s1.heap.objs.size=some (seqObj "list" vs.toArray 0):=aM _ rfl;refine ae (bM (dI fS ⟨_,there,rfl⟩ fH (list_sort_treeK strKind_oneLt there hS.keysOf (λv₁ v₂ rest e=>keyKind_strs (by rw[<-e];exact hS)) few λst' pm so=>⟨_,rfl,?_⟩) (args_list_sort _)));obtain⟨ss',y1,y2,y3⟩:=sorted_out_str hS pm so;obtain⟨c,hp⟩:=sortedHeap_at (out:=(arrOf st').map (·.2)) there;refine ax ⟨_,rfl,q _ _ ((arrOf st').map (·.2)).toList ss' c y1 y2 y3 (ar _) (λb o e=>?_) (by rw[gK];exact hp)⟩;have lt:=aF e;show Heap.get? _ b=some o;rw[sortedHeap_old (aR lt) (by rw[bT];exact bW lt)];exact ah _ e
def Wq (S:Addr)(Q:List Value->Shared->Prop)(r:Result)(s':Shared):Prop:=∃acc c,r=.ok (.ret (.ref S))/\s'.heap.get? S=some { cls:=.type "list",dict:=none,data:=.seq acc c,slots:=#[] }/\Q acc.toList s'
theorem NO {x:Value} {Q:List Value->Shared->Prop} (h:wpAny (model prog w) A.in1 (Builtin.List.listExtendWith (.ref s.heap.objs.size) x (.ref s.heap.objs.size))
   (λfin s'=>match fin with | .done f=>Wq s.heap.objs.size Q (.ok f) s' | .again c'=>c'.quiet=true/\codeAny (model prog w) A c' (Wq s.heap.objs.size Q) s') (λe s'=>Wq s.heap.objs.size Q (.error e) s')
   { s with heap:=s.heap.push { cls:=.type "list",data:=.seq #[] } }):wpAny (model prog w) A (collect x) Q E s:=by
 unfold collect;refine ae (wpAny_runValue (dm PySem.F.entry_proto_collect ?_));rw[cI PySem.F.plain_proto_collect _];refine ae (cB (ax ⟨cX fY _,dm PySem.F.entry_list_iadd ?_⟩));rw[cI fY _];refine bB h (λfin s' z=>?_) (λe s' z=>?_)
 ·cases fin with
  |done f=>
   obtain⟨acc,c,e,hS,q⟩:=z;cases e;exact ae (gz hS (ax q))
  |again c'=>
   refine⟨z.1,eR z.2 λr s2 z2=>?_⟩;obtain⟨acc,c,rfl,hS,q⟩:=z2;exact ae (gz hS (ax q))
 ·obtain⟨acc,c,e,_⟩:=z;cases e
theorem JW {T:String} {r d:Addr} {n:Nat} {P:Nat->Value->Prop} {OK:Heap->Prop} {Q:List Value->Shared->Prop} (S:PySem.W.KdlSrc prog w T r d n P OK) (hh:A.handled=none) (ok:OK s.heap) (hn:n<=sizeLine)
  (q:∀h' tk (vs:List Value),(∀b o,s.heap.get? b=some o->h'.get? b=some o)->vs.length=n->(∀j v,vs[j]?=some v->P j v)->Q vs { s with heap:=h',toks:=tk }):wpAny (model prog w) A (collect (.ref r)) Q E s:=by
 obtain⟨lr,ld⟩:=S.there _ ok;refine NO (PySem.W.kdl_extend S hh (S.keep _ _ ok λb _ o e=>ah _ e) s.heap.objs.size (cJ lr) (cJ ld) (.ref s.heap.objs.size) 0 (aM _ rfl) (λh' tk acc c k hS it=>?_) hn);refine⟨acc,c,rfl,hS,q h' tk acc.toList (λb o e=>k b o (aR (aF e)) (ah _ e)) (by rw[cm];exact it.1) λj v e=>it.2 j v (by rw[<-cD];exact e)⟩
def Vj (h:Heap)(it a:Addr)(first:Value)(i n ep:Nat):Prop:=∃o,h.get? it=some o/\o.cls=.type "set_iterator"/\o.data=.fields #[first,rawInt i,.ref a,rawInt n,rawInt ep]
theorem Vj.typeIs {it a:Addr}{f:Value}{i n ep:Nat}(x:Vj s.heap it a f i n ep):s.TypeIs (.ref it) "set_iterator":=let⟨o,e,c,_⟩:=x;⟨o,e,c⟩
end
end L2
namespace L2
end L2
namespace L2
end L2
namespace L2
end L2
namespace L2
section
open PySem PySem.Calls PyProof.Rows
variable {X:Cx}{pins:List (Addr×Obj)}{σ:St}{H:Hp}{s:Shared}
theorem Inv.drew {d':Drawn}(I:Inv X pins σ H s):Inv X pins σ H { s with drawn:=d' }:=⟨I.ok,I.os,I.bare,I.base,I.loc,I.cell,I.free,I.freeC,I.pin,I.hok,I.len⟩
theorem IJ:∀{ss:List Str} {its:List Value},StrsAre its ss->AG (ss.map V.str) its
 |_,_,.nil=>.nil
 |_,_,.cons x t h=>.cons ⟨t,rfl⟩ (IJ h)
theorem Qy:∀{us:List Value} {ss:List Str},us.length=ss.length->(∀(j:Nat) (v:Value),us[j]?=some v->∃k t,v=.str k t/\ss[j]?=some k)->StrsAre us ss
 |[],[],_,_=>.nil
 |[],_::_,h,_=>nomatch h
 |_::_,[],h,_=>nomatch h
 |u::us,k::ss,h,f=>by
  obtain⟨k',t,rfl,e⟩:=f 0 u rfl;cases e;exact .cons _ t (Qy (dJ h) λj v e=>f (j+1) v e)
theorem Kh:∀{kvs:List (Key×V)} {vs:List (Key×Value)},KV kvs vs->vs.map (·.1)=kvs.map (·.1)
 |_,_,.nil=>rfl
 |_,_,.cons h t=>by rw[ao,ao,Kh t,h.1]
def SU (H:Hp)(ks:List Str)(Q:VK):Prop:=∀ts p,ts.Perm ks->sortedS ts=true->H p=none->Q (.ref p) (upd H p (.lst (ts.map V.str)))
theorem SI {Q:VK}{ks:List Str}{d':Drawn}{tk:Nat}{h1:Heap}{vs:List Value}{ss:List Str}(I:Inv X pins σ H s)(k:∀b o,s.heap.get? b=some o->h1.get? b=some o)(hs:StrsAre vs ss)(pm:ss.Perm ks)(few:ks.length<64)(q:SU H ks Q) :
  PZ (EP X pins σ Q) vs { s with heap:=h1,drawn:=d',toks:=tk }:=by
 have I1:Inv X pins σ H { s with heap:=h1,drawn:=d',toks:=tk }:=(I.drew (d':=d')).kept (t':=tk) k;refine⟨ss,hs,by rw[hs.length,pm.length_eq];exact few,λh' p out ss' c ho pe so lp k' e=>⟨.ref p,_,I1.laid (t':=tk) k' lp (?_:Ba X.prog X.w _ h' p (.lst (ss'.map V.str))),rfl,q ss' p (pe.trans pm) so (I1.hok.fresh lp)⟩⟩;refine⟨?_,out,c,IJ ho,e⟩;rw[aa,pe.length_eq,pm.length_eq,bE];omega
def VT:List V->Hp->VK->Prop:=λxs H Q=>∃(d:Addr) (kvs:List (Key×V)) (ss:List Str),xs=[.ref d]/\H d=some (.dK kvs)/\kvs.map (·.1)=ss.map .inr/\ss.length<64/\SU H ss Q
theorem OH (hc:X.calm=true):DG X (.builtin "sorted") VT:=by
 intro pins s σ H xs us Q I r h;obtain⟨d,kvs,ss,rfl,h1,hk,few,q⟩:=h;obtain⟨u,rfl,ru⟩:=vals1 r;cases ru;obtain⟨_,lo,vs,rv,o,es,ep,ho,h2,h3,h4⟩:Ba X.prog X.w H s.heap d (.dK kvs):=I.hok d _ h1;have D:s.heap.DictAt (AS X.prog X.w) d vs ep:=⟨o,es,ho,h2,h3,h4⟩
 have ln:vs.length=ss.length:=by
  have:=congrArg List.length hk;rw[aa,aa] at this;rw[<-this];exact rv.length.symm
 refine Ll (JW (fw (knd:=AS X.prog X.w) (kvs:=vs) (ep:=ep) lo) (by simpa using I.ok.hd hc) D (by rw[ln,bE];omega) λh' tk us k lu it=>?_);have hs:StrsAre us ss:=by
  refine Qy (by rw[lu,ln]) λj v e=>?_
  obtain⟨ky,x,e1,e2⟩:=it j v e;have e3:(kvs.map (·.1))[j]?=some ky:=by rw[<-Kh rv,az,e1];rfl
  rw[hk,az] at e3;cases z:ss[j]? with
  |none=>rw[z] at e3;cases e3
  |some y=>
   rw[z] at e3;injection e3 with e3
   subst e3;obtain⟨t,rfl⟩:=IW e2;exact⟨_,t,rfl,rfl⟩
 exact SI (d':=s.drawn) I k hs (List.Perm.refl _) few q
end
end L2
namespace L2
open PySem
end L2
namespace L2
open PySem PySem.Spec PyProof.Rows
section
variable {X:Cx}
theorem Sn (hu:X.A.units+1<cLine):Gv X (compareOp .NotEq) (WW X.K true):=by
 intro pins s σ H x y v u Q I rx ry h;obtain⟨a,b,xs,rfl,rfl,h1,h2,q⟩:=h;cases rx;cases ry;obtain⟨its,r1,p1,_⟩:=I.list h1;obtain⟨its2,r2,p2,_⟩:=I.list h2;cases r2;cases r1 with
 |nil=>
  exact SeqAt.RcNeAt.lists (A:=X.A) (s:=s) (e:=λ_=>true) p1.isList p2.isList rfl (by omega) (λj g1 g2=>absurd g1 (by simp)) _ _ _ _ ⟨.bl _,H,I,rfl,q⟩
 |cons r rr=>
  exact gE p1.isList p2.isList (by simp) (by omega) _ _ _ _ ⟨.bl _,H,I,rfl,q⟩
end
theorem Iu:∀{ns:List Int} {its:List Value},IntsAre its ns->AG (ns.map V.int) its
 |[],_,.nil=>.nil
 |_::_,_,.cons n t h=>.cons ⟨_,rfl⟩ (Iu h)
end L2
namespace L2
end L2
namespace L2
section
open PySem PyProof.Rows
variable {prog:Program}{w:World}{A:Around}{E:Value->Shared->Prop}{s:Shared}{a₀:Array Keyed}
theorem LW:∀(fuel n r:Nat),minRun' fuel n r<=n+r
 |0,_,_=>ar _
 |fuel+1,n,r=>by
  rw[minRun'_succ]
  by_cases h:n<64
  ·rw[aG h];exact ar _
  ·rw[aJ h];have:=LW fuel (n/2) (max r (n%2));omega
theorem Ny {st:SortSt}{Q:Option Nat->SortSt->Prop}(h0:IntKeys a₀)(h1:1<=a₀.size)(hB:SBase a₀ st)(up:SortedTo (arrOf st) a₀.size)(h:Q (some a₀.size) st) :
  wpS (model prog w) A E s (countRun' 0 a₀.size) Q st:=by
 rw[countRun0_eq];have one:SortedTo (arrOf st) 1:=λi j hij hj=>by
  obtain rfl:i=j:=by omega
  exact dA _
 refine ft (wpS_ascLoop h0 (ar _) (ar 1) h1 hB one λn hn1 hn2 _ hor=>?_);have hn:n=a₀.size:=by
  rcases hor with e|lt
  ·exact e
  ·by_cases e:n=a₀.size
   ·exact e
   ·have:=up (n-1) n (by omega) (by omega);omega
 subst hn;dsimp only;rw[aG (by simp)];exact wpS_pure h
theorem Pa {st:SortSt} {Q:Unit->SortSt->Prop} (h0:IntKeys a₀) (hB:SBase a₀ st) (h2:2<=a₀.size) (up:SortedTo (arrOf st) a₀.size)
  (h:∀st',(arrOf st').Perm a₀->failedOf st'=none->SortedTo (arrOf st') a₀.size->Q () st'):wpS (model prog w) A E s sortRuns' Q st:=by
 rw[sortRuns'_eq];refine ft (wpS_get ?_);have hm:minRun' a₀.size a₀.size 0<=a₀.size:=LW _ _ 0;simp only[hB.size];generalize minRun' a₀.size a₀.size 0=mr at hm;have D:=hB.done up;refine ft (wpS_mono (wpS_forRange (I:=λx c st'=>(x=0/\c=(none,0)/\st'=st)\/(0<x/\c=(none,a₀.size)/\SDone a₀ st')) (Q:=λc st'=>c=(none,a₀.size)/\SDone a₀ st') (λx c st' _ hx hI=>?_) (λc st' hI=>?_) (.inl ⟨rfl,rfl,rfl⟩)) λc st' hc=>?_)
 ·rcases hI with⟨rfl,rfl,rfl⟩|⟨hx1,rfl,hD⟩
  ·dsimp only;rw[aJ (by omega)];simp only[Nat.sub_zero,Nat.zero_add];refine ft (Ny h0 (by omega) hB up ?_);dsimp only;rw[aJ (by omega)];refine ft (wpS_get ?_);have hb:(pendingOf st').back?=none:=by rw[hB.pend];rfl
   rw[hb];dsimp only;exact ft (wpS_modify (wpS_pure (.inr ⟨by omega,rfl,D⟩)))
  ·dsimp only;rw[aG (ar _)];exact wpS_pure ⟨rfl,hD⟩
 ·rcases hI with⟨hx,_⟩|⟨_,hc,hD⟩
  ·omega
  ·exact⟨hc,hD⟩
 ·obtain⟨rfl,hD⟩:=hc;dsimp only;refine ft (wpS_mono (wpS_forRange (I:=λ_ c st2=>c=(none,())/\st2=st') (Q:=λc st2=>c=(none,())/\st2=st') (λx c st2 _ _ hI=>?_) (λ_ _ hh=>hh) ⟨rfl,rfl⟩) λc st2 hc=>?_)
  ·obtain⟨rfl,rfl⟩:=hI;refine ft (wpS_get ?_);rw[aG (by rw[hD.2.2.1];exact ar 1)];exact wpS_pure ⟨rfl,rfl⟩
  ·obtain⟨rfl,rfl⟩:=hc;exact wpS_pure (h _ hD.1 hD.2.1 hD.2.2.2)
theorem TQ {vs:List Value}{ns:List Int}(hI:IntsAre vs ns)(up:ns.Pairwise (·<=·)):SortedTo (pairsOf vs) (pairsOf vs).size:=by
 have en:=hI.nums;intro i j hij hj;have hjv:j<vs.length:=by rw[pairsOf_size] at hj;exact hj
 have kk:∀k,(hk:k<vs.length)->K (pairsOf vs) k=(vs.map numOf)[k]'(by rw[aa];exact hk):=λk hk=>by
  rw[K_eq (by rw[pairsOf_size];exact hk)];simp[pairsOf]
 rw[kk i (by omega),kk j hjv];subst en
 by_cases e:i=j
 ·subst e;exact dA _
 ·exact bg.mp up i j _ _ (by omega)
theorem UP {a:Addr} {vs:List Value} {ns:List Int} {n:Nat} {P:PySem.Fin->Shared->Prop} (ho:s.heap.get? a=some (seqObj "list" vs.toArray n)) (hI:IntsAre vs ns) (up:vs.length<64\/(vs.length<=sizeLine/\ns.Pairwise (·<=·)))
  (h:∀(out:Array Value) (ns':List Int),IntsAre out.toList ns'->ns'.Perm ns->ns'.Pairwise (·<=·)->P (.done (.ret .none)) { s with heap:=sortedHeap s.heap a vs out }) :
  wpAny (model prog w) A (Builtin.«list.sort» ⟨[.ref a],[]⟩) P E s:=by
 by_cases few:vs.length<64
 ·exact list_sort_tree ho hI few h
 have hz:=(up.resolve_left few).1;have up':=(up.resolve_left few).2;rw[list_sort_plain];have ha:a<s.heap.objs.size:=aF ho;refine ae (gM ho rfl (ae (cN ho rfl ?_)));obtain⟨e1,h1⟩:∃e,(s.heap.update a (Obj.mapSeq λ_=>#[])).get? a=some (seqObj "list" #[] e):=⟨_,eG ho (λ_=>#[])⟩
 refine ae (eu h1 rfl (ae (gy (ae (cW (bM ?_))))));have n1:a≠(s.heap.update a (Obj.mapSeq λ_=>#[])).objs.size:=by rw[cM];exact aR ha
 have n2:a≠((s.heap.update a (Obj.mapSeq λ_=>#[])).push (seqObj "tuple" vs.toArray 0)).objs.size:=by rw[bT,cM];exact aR (bW ha)
 have h2:(((s.heap.update a (Obj.mapSeq λ_=>#[])).push (seqObj "tuple" vs.toArray 0)).push (seqObj "list" #[] 0)).get? a=some (seqObj "list" #[] e1):=by
  rw[eI _ _ _ n2,eI _ _ _ n1];exact h1
 show wpAny (model prog w) A _ P E { s with heap:=((s.heap.update a (Obj.mapSeq λ_=>#[])).push (seqObj "tuple" vs.toArray 0)).push (seqObj "list" #[] 0) };dsimp only;have hs2:¬vs.toArray.size<2:=by simp;omega
 have ps:=pairsOf_size vs;rw[aJ hs2,aJ hs2];obtain⟨v1,v2,rest,rfl⟩:∃v1 v2 rest,vs=v1::v2::rest:=by
  match vs,few with
  |[],q=>exact absurd (by decide) q
  |[_],q=>exact absurd (by show 1<64;decide) q
  |v1::v2::rest,_=>exact⟨v1,v2,rest,rfl⟩
 rw[keyKind_ints hI];refine ae (ax (ae (bB (Pa (a₀:=pairsOf (v1::v2::rest)) (st:=SortSt.mk' oneType' ((v1::v2::rest).toArray.zip (v1::v2::rest).toArray) #[] 7 none)
  (Q:=λ_ st'=>(arrOf st').Perm (pairsOf (v1::v2::rest))/\failedOf st'=none/\SortedTo (arrOf st') (pairsOf (v1::v2::rest)).size)
  hI.intKeys ⟨Array.Perm.refl _,rfl,rfl,rfl⟩ (by rw[ps];simp) (TQ hI up') λst' a1 a2 a3=>⟨a1,a2,a3⟩) (λr s' hr=>?_) λ_ _ e=>e)))
 obtain⟨⟨⟩,st'⟩:=r;obtain⟨rfl,hp,hf,hs⟩:=hr;dsimp only;refine ae (eu h2 rfl (ae (cN h2 rfl ?_ (hsz2:=?_))))
 ·rw[hf];simp only[bne_self_eq_false,Bool.false_eq_true,if_false];obtain⟨ns',g1,g2,g3⟩:=sorted_out hI hp hs;exact ax (h _ ns' g1 g2 g3)
 ·rw[Array.size_map,hp.size_eq,ps];exact Nat.le_succ_of_le hz
end
end L2
namespace L2
section
open PySem PySem.Calls PyProof.Rows
variable {prog:Program}{w:World}{A:Around}{E:Value->Shared->Prop}{s:Shared}
def RP (Q:Value->Shared->Prop)(vs:List Value)(s1:Shared):Prop:=∃ns,IntsAre vs ns/\(vs.length<64\/(vs.length<=sizeLine/\ns.Pairwise (·<=·)))/\
 ∀h' p (out:List Value) ns' c,IntsAre out ns'->ns'.Perm ns->ns'.Pairwise (·<=·)->s1.heap.objs.size<=p->(∀b o,s1.heap.get? b=some o->h'.get? b=some o)->
  h'.get? p=some (seqObj "list" out.toArray c)->Q (.ref p) { s1 with heap:=h' }
theorem K0 {x:Value}{Q:Value->Shared->Prop}(hc:wpAny (model prog w) A.in1 (collect x) (RP Q) E s):wpAny (model prog w) A (call (.builtin "sorted") [x]) Q E s:=by
 refine eF kind_sorted gL gN (args_sorted1 x) ?_;unfold Builtin.«sorted»;refine ae (m:=checkCount "sorted" 1 1 _) (ax (ae (bB hc (λvs s1 z=>?_) λ_ _ e=>e)));obtain⟨ns,hI,few,q⟩:=z;have there:(s1.heap.push (seqObj "list" vs.toArray 0)).get? s1.heap.objs.size=some (seqObj "list" vs.toArray 0):=aM _ rfl;refine ae (cW (ae (bM (dI fS ⟨_,there,rfl⟩ fH (UP there hI few λout ns' a1 a2 a3=>⟨_,rfl,?_⟩) (args_list_sort _)))));obtain⟨c,hp⟩:=sortedHeap_at (out:=out) there;refine ax ⟨_,rfl,q _ _ out.toList ns' c a1 a2 a3 (ar _) (λb o e=>?_) (by rw[gK];exact hp)⟩;have lt:=aF e;show Heap.get? _ b=some o;rw[sortedHeap_old (aR lt) (by rw[bT];exact bW lt)];exact ah _ e
end
section
open PySem PySem.Spec PyProof.Rows
variable {X:Cx}
theorem QF:∀{vs:List Value} {ns:List Int},vs.length=ns.length->(∀(j:Nat) v,vs[j]?=some v->∃n t,ns[j]?=some n/\v=.int n t)->IntsAre vs ns
 |[],[],_,_=>.nil
 |[],_::_,h,_=>by cases h
 |_::_,[],h,_=>by cases h
 |v::vs,n::ns,h,k=>by
  obtain⟨n',t,e,rfl⟩:=k 0 v rfl;cases e;exact .cons _ _ (QF (by simpa using h) λj v e=>k (j+1) v (by simpa using e))
def Ug:List V->Hp->VK->Prop:=λxs H Q=>∃(d:Addr) (kvs:List (Key×V)) (ns:List Int),xs=[.ref d]/\H d=some (.dK kvs)/\kvs.map (·.1)=ns.map .inl/\(ns.length<64\/(ns.length<=100000/\ns.Pairwise (·<=·)))/\∀(ms:List Int) (p:Addr),ms.Perm ns->ms.Pairwise (·<=·)->H p=none->Q (.ref p) (upd H p (.lst (ms.map V.int)))
theorem JP (hc:X.calm=true):DG X (.builtin "sorted") Ug:=by
 intro pins s σ H xs us Q I r h;obtain⟨d,kvs,ns,rfl,h1,hk,few,q⟩:=h;obtain⟨u,rfl,ru⟩:=vals1 r;cases ru;obtain⟨_,lo,vs,rv,o,es,ep,ho,h2,h3,h4⟩:Ba X.prog X.w H s.heap d (.dK kvs):=I.hok d _ h1;have D:s.heap.DictAt (AS X.prog X.w) d vs ep:=⟨o,es,ho,h2,h3,h4⟩
 have ln:vs.length=ns.length:=by
  have:=congrArg List.length hk;rw[aa,aa] at this;rw[<-this];exact rv.length.symm
 refine K0 (JW (fw (knd:=AS X.prog X.w) (kvs:=vs) (ep:=ep) lo) (by simpa using I.ok.hd hc) D (by rw[ln,bE];omega) λh' tk us k lu it=>?_);have hs:IntsAre us ns:=by
  refine QF (by rw[lu,ln]) λj v e=>?_
  obtain⟨ky,x,e1,e2⟩:=it j v e;have e3:(kvs.map (·.1))[j]?=some ky:=by rw[<-Kh rv,az,e1];rfl
  rw[hk,az] at e3;cases z:ns[j]? with
  |none=>rw[z] at e3;cases e3
  |some y=>
   rw[z] at e3;injection e3 with e3
   subst e3;obtain⟨t,rfl⟩:=IW e2;exact⟨_,t,rfl,rfl⟩
 have I1:Inv X pins σ H { s with heap:=h',toks:=tk }:=I.kept (t':=tk) k;refine⟨ns,hs,by rw[lu,ln];exact few.imp id λz=>⟨by rw[bE];omega,z.2⟩,λh2 p out ns' c a1 a2 a3 lp k2 hp=>⟨.ref p,_,I1.laid (t':=tk) k2 lp (?_:Ba X.prog X.w _ h2 p (.lst (ns'.map V.int))),rfl,q ns' p a2 a3 (I1.hok.fresh lp)⟩⟩;refine⟨?_,out,c,Iu a1,hp⟩;rw[aa,a2.length_eq,bE];omega
theorem RU {pins:List (Addr×Obj)} {σ:St} {H:Hp} {s:Shared} {a:Addr} {kvs:List (Key×V)} {k:Key} {u r:Value} {z:V} {A:Around} {E:Value->Shared->Prop} {Q:Value->Shared->Prop} (I:Inv X pins σ H s) (e:H a=some (.dK kvs)) (ry:RelV (kV k) u) (rz:RelV z r) (hl:kvs.length<sizeLine)
  (h1:∀v w' s',Bo kvs k=some v->Inv X pins σ H s'->RelV v w'->Q w' s') (h2:Bo kvs k=none->∀s',Inv X pins σ (upd H a (.dK (putK kvs k z))) s'->Q r s'):wpAny (model X.prog X.w) A (call (.builtin "dict.setdefault") [.ref a,u,r]) Q E s:=by
 obtain⟨z0,hd,vs,rel,dd⟩:=Vt I.hok e;have ki:=JT (P:=X.prog) (w:=X.w) ry;cases hv:Bo kvs k with
 |some v=>
  obtain⟨w',hw,rw'⟩:=FF.some_of (v:=v) (o:=valueAt vs k) (by rw[<-hv];exact rel.val k);refine call_meetsIn dC dd.typeIs fE (fA _ _ _) (meets_dict_setdefault (AS X.prog X.w) a ki hd r) ⟨_,dd.mapOf,?_,λv' e'=>?_,λe'=>?_⟩
  ·obtain⟨o,es,ep,ho,_,hx,_,hp,_⟩:=id dd;intro o' es' ep' g1 g2;rw[ho] at g1;cases g1;rw[hx] at g2;cases g2;have:=hp.length;rw[cm] at this;rw[this,<-rel.length];exact z0
  ·rw[hw] at e';cases e';exact h1 v _ _ hv (I.tok _) rw'
  ·rw[hw] at e';cases e'
 |none=>
  have hn:valueAt vs k=none:=FF.none_of (by rw[<-hv];exact rel.val k);obtain⟨o,es,ep,ho,hc,hx,hk,hp,nd⟩:=id dd;refine dI dC dd.typeIs fE ?_ (fA _ _ _);refine ae (ae (wpAny_notOrdered_dict dd.typeIs (ax ?_)))
  change wpAny _ _ (if(a == sysModules)=true then _ else(dictSetDefault a u r >>= _)) _ _ s
  rw[aJ (by rw[hd];exact aB)];have le:es.size<=sizeLine:=by
   have:=hp.length;rw[cm] at this;rw[this,<-rel.length];exact z0
  have nk:∀kv∈vs,decide (kv.1=k)=false:=λkv hkv=>by
   cases q:decide (kv.1=k) with
   |false=>rfl
   |true=>
    unfold valueAt at hn;rw[cZ,cL] at hn;exact absurd q (hn kv hkv)
  have fi:(es.findIdx? λe=>(AS X.prog X.w).is k e.key)=none:=by
   have h3:(es.toList.findIdx? λe=>(AS X.prog X.w).is k e.key)=none:=by rw[hp.findIdx k];exact List.findIdx?_eq_none_iff.mpr nk
   obtain⟨l⟩:=es;simpa using h3
  unfold dictSetDefault;refine ae (bM (ae ((AS X.prog X.w).pyHash ki (ae (wpAny_dictFind_of (s:={ s with toks:=s.toks+1 }) ki ho hx hk ?_)))));rw[fi];have est:stored vs k r=vs++[(k,r)]:=by
   unfold stored;rw[aJ λq=>by obtain⟨kv,h3,h4⟩:=List.any_eq_true.mp q;rw[nk kv h3] at h4;cases h4]
  refine ae (fF (ae (wpAny_updateDictKeys (hz:=le) (s:={ s with toks:=s.toks+1 }) ho hx (ax (ax ⟨r,rfl,h2 hv _ ?_⟩)))));have hlp:(putK kvs k z).length<=sizeLine:=by have:=GI kvs k z;omega
  refine MP (I.tok _) (by rw[e];exact True.intro) (Heap.SameBut.update ..) ⟨_,dH _ ho (Obj.isFreed_of_dict (fe hx _))⟩ (Pe hlp hd (rel.put k rz) ?_);rw[est];refine⟨_,_,ep+1,dH _ ho (Obj.isFreed_of_dict (fe hx _)),hc.mapDictKeys _,fe hx _,hk.push ki _,?_,?_⟩
  ·have:=hp.append ki ((AS X.prog X.w).hash k) r;obtain⟨l⟩:=es;simpa using this
  ·rw[aj];refine bI.mpr ⟨nd,by simp,λx hx y hy h5=>?_⟩;obtain⟨kv,h3,rfl⟩:=af.mp hx;have h6:=nk kv h3;rw[d4] at h6;rw[ao,cx,ai] at hy;exact h6 (h5.trans hy)
def Wk (td ty tx:TE):TE:=λσ H Q=>td σ H λx H1=>∃a,x=.ref a/\XI H1 a/\ty σ H1 λy H2=>tx σ H2 λz H3=>∃kvs k,H3 a=some (.dK kvs)/\y=kV k/\kvs.length<sizeLine/\(∀v,Bo kvs k=some v->Q v H3)/\(Bo kvs k=none->Q z (upd H3 a (.dK (putK kvs k z))))
theorem TM {o e f:Expr}{td ty tx:TE}{apos cpos:Pos}(ho:PE X o td)(he:PE X e ty)(hf:PE X f tx)(m:M2 X o "setdefault" apos e f cpos):PE X (.Call (.Attribute o "setdefault" apos) [e,f] [] cpos) (Wk td ty tx):=by
 intro pins s σ H Q I h;refine wpAny_Call_method m.base m.few m.line fZ dC PySem.F.type_dict_setdefault (Bc (ho pins s σ H _ I h) λu s1 z9=>?_);obtain⟨x,H1,I1,rx,a,ex,d,q1⟩:=z9;subst ex;obtain rfl:u=Value.ref a:=rx;obtain⟨t1,t2,_⟩:=SN I1 d;refine⟨t1,t2,?_⟩;rw[m.trees];refine dB rfl (fq (dr (Bc (he pins s1 σ H1 _ I1 q1) λiv s2 ⟨y,H2,I2,ry,q2⟩=>dr (Bc (hf pins s2 σ H2 _ I2 q2) λr s3 ⟨z,H3,I3,rz,kvs,k,hd,ey,hl,q3,q4⟩=>fQ ?_))));subst ey;exact RU I3 hd ry rz hl (λv w' s' hv I' rw'=>⟨v,H3,I',rw',q3 v hv⟩) λhv s' I'=>⟨z,_,I',rz,q4 hv⟩
end
section
open PySem PySem.Calls PyProof.Rows
variable {prog:Program}{w:World}{A:Around}{E:Value->Shared->Prop}{I S:Addr}{fp wr:List Addr}{n:Nat}{P:Nat->Value->Prop}{St:Nat->Heap->Prop}{bt:Nat->Nat->Bool}{d:Value}{R:Result->Shared->Prop}
def VM (P:Nat->Value->Prop)(bt:Nat->Nat->Bool)(i:Nat)(arr:List Value):Prop:=(arr=[]/\i=0)\/∃v,arr=[v,v]/\0<i/\P (argBest bt (i-1)) v
theorem Rv (W:Walks prog w A.in1 I fp wr n P St)(hcmp:CmpOf prog w A.in1 .Gt P bt)(hSf:S∉fp):∀(k i:Nat) (s:Shared) (arr:List Value) (c:Nat),i+k=n->St i s.heap->s.heap.get? S=some { cls:=.type "list",dict:=none,data:=.seq arr.toArray c,slots:=#[] }->VM P bt i arr->
  (∀r h' tk,(n=0/\r=d\/0<n/\P (argBest bt (n-1)) r)->(∀b o,b∉wr->b≠S->s.heap.get? b=some o->h'.get? b=some o)->R (.ok (.ret r)) { s with heap:=h',toks:=tk })->
  codeAny (model prog w) A (.builtin "max.loop" ⟨[.ref I,.none,.ref S],[("default",d)]⟩) R s:=by
 have hSw:S∉wr:=λh=>hSf (W.sub _ h)
 intro k
 induction k with
 |zero=>
  intro i s arr c hk hst hS hb hR;cases(show i=n by omega);refine dm gf ?_;rw[cI cA _];refine ae (m:=seqItems? (.ref S)) (wpAny_seqItems hS rfl (ae (eZ (W.done s _ _ hst λh' tk k'=>?_))));rcases hb with⟨rfl,i0⟩|⟨v,rfl,i0,hv⟩
  ·exact ae (fF (ax (hR d h' tk (.inl ⟨i0,rfl⟩) λb o hb _ e=>k' b o hb e)))
  ·exact ae (wpAny_updateSeq (k' S _ hSw hS) rfl (ae (fb (ax (hR v _ tk (.inr ⟨i0,hv⟩) λb o hb hS e=>(bz _ _ (Ne.symm hS)).trans (k' b o hb e))))))
 |succ k ih=>
  intro i s arr c hk hst hS hb hR;refine dm gf ?_;rw[cI cA _];refine ae (m:=seqItems? (.ref S)) (wpAny_seqItems hS rfl (ae (eZ (W.item i s _ _ (by omega) hst λx h' tk hP st' k'=>?_))));have hS':=k' S _ hSw hS;have nm:(toString "max"++toString ".loop":String)="max.loop":=by decide
  have la:arr.toArray.size<=sizeLine:=by
   rw[bE];rcases hb with⟨rfl,_⟩|⟨v,rfl,_⟩
   ·exact bC _
   ·show 2<=_;omega
  have put:∀(tk':Nat),P (argBest bt i) x->wpAny (model prog w) A.in1 (updateSeq S (λ_=>#[x,x])) (λ_ s'=>codeAny (model prog w) A (.builtin "max.loop" ⟨[.ref I,.none,.ref S],[("default",d)]⟩) R s') (λe s'=>R (.error e) s') { s with heap:=h',toks:=tk' }:=λtk' hx=>by
   refine wpAny_updateSeq (hz:=la) (s:={ s with heap:=h',toks:=tk' }) hS' rfl (ih (i+1) _ [x,x] _ (by omega) (W.frame _ _ _ st' λb hb o e=>?_) (dH _ hS' rfl) (.inr ⟨x,rfl,Nat.succ_pos _,hx⟩) λr h2 tk2 hr k2=>?_)
   ·exact(bz _ _ (λz:S=b=>hSf (by rw[z];exact hb))).trans e
   ·exact hR r h2 tk2 hr λb o hb hbS e=>k2 b o hb hbS ((bz _ _ (Ne.symm hbS)).trans (k' b o hb e))
  rcases hb with⟨rfl,i0⟩|⟨v,rfl,i0,hv⟩
  ·subst i0;refine ae (ax (ae (bB (put tk hP) (λ_ s' q=>?_) λ_ _ q=>q)));rw[nm];exact ax ⟨cX cA _,q⟩
  ·refine ae (ax (ae (eZ (bM (ae (hcmp i (argBest bt (i-1)) x v _ _ _ hP hv (ae (bM (cb (ae (fb (ax ?_))))))))))));have ea:argBest bt i=if bt i (argBest bt (i-1)) then i else argBest bt (i-1):=by
    obtain⟨j,rfl⟩:∃j,i=j+1:=⟨i-1,by omega⟩
    rfl
   cases q:bt i (argBest bt (i-1)) with
   |true=>
    rw[q,aG rfl] at ea;rw[aG rfl];refine ae (bB (put tk (by rw[ea];exact hP)) (λ_ s' z=>ae (fb ?_)) λ_ _ z=>z);rw[nm];exact ax ⟨cX cA _,z⟩
   |false=>
    rw[q,aJ aB] at ea;rw[aJ aB];refine ae (fb ?_);rw[nm];refine ax ⟨cX cA _,ih (i+1) _ [v,v] _ (by omega) st' hS' (.inr ⟨v,rfl,Nat.succ_pos _,?_⟩) λr h2 tk2 hr k2=>hR r h2 tk2 hr λb o hb hbS e=>k2 b o hb hbS (k' b o hb e)⟩;show P (argBest bt i) v;rw[ea];exact hv
theorem UK (l:Addr)(d:Value):checkBuiltinCall "max" ⟨[.ref l],[("default",d)]⟩=pure ():=by kernel_rfl
theorem QL {l:Addr} {items:Array Value} {Q:Value->Shared->Prop} {s:Shared} (hh:A.handled=none) (hl:s.heap.IsList l items) (val:Nat->Int) (hval:∀i v,items[i]?=some v->∃t,v=Value.int (val i) t)
  (q:∀r h' tk,(items.size=0/\r=d\/0<items.size/\items[argBest (λi j=>decide (val j<val i)) (items.size-1)]?=some r)->(∀b o,s.heap.get? b=some o->h'.get? b=some o)->Q r { s with heap:=h',toks:=tk }):wpAny (model prog w) A (call (.builtin "max") [.ref l] [("default",d)]) Q E s:=by
 refine gA (codeAny_call_builtin PySem.F.plain_max PySem.F.entry_max ?_);rw[UK];refine ax ?_;have nm:(toString "max"++toString ".loop":String)="max.loop":=by decide
 change wpAny _ A.in1 (Builtin.Builtins.bindParams "max" ["key","default"] 0 ⟨[],[("default",d)]⟩ >>= _) _ _ s
 refine ae (wpAny_of_eq (show Builtin.Builtins.bindParams "max" ["key","default"] 0 ⟨[],[("default",d)]⟩=pure [none,some d] from rfl) (ae (ax (ae (dy hl ?_)))));refine ae (cB ?_);rw[nm];have ll:l<s.heap.objs.size:=let⟨_,ho,_⟩:=hl;aF ho;have sz:(s.heap.push { cls:=.type "list_iterator",data:=.fields #[.ref l,.int 0 0] }).objs.size=s.heap.objs.size+1:=bT ..;refine ax ⟨cX cA _,Rv (P:=λi v=>items[i]?=some v) (gD (A:=A.in1) (show A.in1.handled=none from hh) s.heap.objs.size l (aR ll) items) (CmpOf.ints_gt val hval) (S:=(s.heap.push { cls:=.type "list_iterator",data:=.fields #[.ref l,.int 0 0] }).objs.size) ?_ items.size 0 _ [] 0 (ff _) ?_ ?_ (.inl ⟨rfl,rfl⟩) λr h' tk hr k=>?_⟩
 ·rw[sz];intro z;rcases aL.mp z with z|z
  ·exact Nat.succ_ne_self _ z
  ·exact cJ (bW ll) (ai.mp z)
 ·refine⟨⟨_,ah _ (aM _ rfl),rfl,rfl⟩,hl.at λo e=>ah _ (ah _ e)⟩
 ·exact aM _ rfl
 ·refine q r h' tk hr λb o e=>k b o ?_ ?_ (ah _ (ah _ e))
  ·exact λz=>aR (aF e) (ai.mp z)
  ·rw[sz];exact aR (bW (aF e))
theorem NT {M:Model} {A:Around} {E:Value->Shared->Prop} {s:Shared} {pos:Pos} {id:String} {args:List (Bool×Sem Value)} {kws:List (Option Str×Sem Value)} {Q:Value->Shared->Prop} (hp:args.any (·.1)=false) (hk:kws.any (·.1.isNone)=false)
  (h:wpAny M A (evalArgs (.builtin id) true args kws) (λz sz=>wpAny M A (call (.builtin id) z.pos z.kw) Q E sz) E s):wpAny M A (callWith pos (.builtin id) [] args kws) Q E s:=by
 unfold callWith;refine ae (bM (bB h (λz sz hz=>ae (eJ ?_)) λ_ _ y=>y));simp only[hp,hk,Bool.or_false];refine ae (ax (ae (bB hz (λv sv hv=>ae (bM (wpAny_point (ax hv)))) λ_ _ y=>y)))
end
section
open PySem PySem.Spec PyProof.Rows PySem.Calls
variable {X:Cx}
def Jz:List Int->Int
 |[]=>0
 |x::l=>l.foldl (λa b=>if a<b then b else a) x
theorem Re {l:List Int}(h:l≠[])(x:Int):Jz (l++[x])=if Jz l<x then x else Jz l:=by
 cases l with
 |nil=>exact absurd rfl h
 |cons y l=>
  show(l++[x]).foldl (λa b=>if a<b then b else a) y=_;rw[List.foldl_append];rfl
theorem L3 (ns:List Int):∀k,k<ns.length->argBest (λi j=>decide (ns.getD j 0<ns.getD i 0)) k<ns.length/\Jz (ns.take (k+1))=ns.getD (argBest (λi j=>decide (ns.getD j 0<ns.getD i 0)) k) 0
 |0,h=>by
  cases ns with
  |nil=>exact absurd h (Nat.not_lt_zero _)
  |cons x l=>exact⟨h,rfl⟩
 |k+1,h=>by
  obtain⟨h1,h2⟩:=L3 ns k (by omega);have e:ns.take (k+1+1)=ns.take (k+1)++[ns.getD (k+1) 0]:=by
   rw[aS,bK,ab h];rfl
  have ne:ns.take (k+1)≠[]:=λz=>by
   have:=congrArg List.length z;rw[aV,List.length_nil] at this;omega
  rw[e,Re ne,h2];show(if decide (_<_)=true then k+1 else _)<_/\_=ns.getD (if decide (_<_)=true then k+1 else _) 0
  by_cases q:ns.getD (argBest (λi j=>decide (ns.getD j 0<ns.getD i 0)) k) 0<ns.getD (k+1) 0
  ·rw[aG q,aG (aE q)];exact⟨h,rfl⟩
  ·rw[aJ q,aJ (by rw[ba q];exact aB)];exact⟨h1,rfl⟩
theorem G1:∀{its:List Value} {ns:List Int},IntsAre its ns->∀{i:Nat} {v:Value},its[i]?=some v->∃t,v=Value.int (ns.getD i 0) t
 |_,_,.nil,i,v,h=>by simp at h
 |_,_,.cons n t r,0,v,h=>by simp at h;exact⟨t,h.symm⟩
 |_,_,.cons n t r,i+1,v,h=>G1 r (by simpa using h)
def Xg (K:PySem.W.Frag)(ta:TA):TE:=λσ H Q=>ta σ H λvs H1=>∃(a:Addr) (ns:List Int),vs=[.ref a]/\AD K H1 a (ns.map V.int)/\Q (.int (Jz ns)) H1
theorem Ve {l:Expr} {ta:TA} {p pos kp cp:Pos} {j} (hc:X.calm=true) (hg:Gl X "max") (hm:X.mg "max"=none) (ha:PA X [l] ta)
  (he:backTo pos (starEach [l] X.env)=(false,eval l X.env)::backTo pos (starEach [] X.env):=by rfl)
  (hpl:(backTo pos (starEach [l] X.env)).any (·.1)=false:=by rfl) :
  PE X (.Call (.Name "max" p) [l] [⟨some "default",.Constant (.int 0) j cp,kp⟩] pos) (Xg X.K ta):=by
 intro pins s σ H Q I h;refine cO (Jt I hg hm VL (NT hpl rfl ?_));have hsp:=ha pos pins s σ H _ I h;rw[he] at hsp ⊢;refine evalArgs_kwB rfl (Bc hsp λus s1 ⟨vs,H1,I1,r1,q1⟩=>?_);refine kws_cons (fG (kws_nil ?_));obtain⟨a,ns,rfl,hq,q⟩:=q1;obtain⟨u,rfl,ru⟩:=vals1 r1;cases ru;have I2:=I1.tok (s1.toks+1);obtain⟨its,rv,p1,hz⟩:=I2.list hq;have hi:=intsAre_of rv;have ln:its.length=ns.length:=IntsAre.length hi;refine QL (items:=its.toArray) (d:=.int 0 s1.toks) (I2.ok.hd hc) p1.isList (λi=>ns.getD i 0) (λi v e=>G1 hi (by simpa using e)) λr h' tk hr k=>?_
 obtain⟨t,rfl⟩:∃t,r=Value.int (Jz ns) t:=by
  rcases hr with⟨h0,rfl⟩|⟨h0,h1⟩
  ·have:ns=[]:=List.eq_nil_of_length_eq_zero (by rw[<-ln];simpa using h0);subst this;exact⟨_,rfl⟩
  ·have h2:0<ns.length:=by rw[<-ln];simpa using h0
   obtain⟨t,e⟩:=G1 hi (i:=argBest (λi j=>decide (ns.getD j 0<ns.getD i 0)) (ns.length-1)) (v:=r) (by rw[<-ln];simpa using h1);have:=(L3 ns (ns.length-1) (by omega)).2;rw[show ns.length-1+1=ns.length by omega,bS] at this;exact⟨t,by rw[e,this]⟩
 exact⟨.int (Jz ns),H1,I2.kept (t':=tk) k,⟨t,rfl⟩,q⟩
end
end L2
namespace L2
section
open PySem PySem.Calls PyProof.Rows
variable {prog:Program}{w:World}{A:Around}{E:Value->Shared->Prop}{s:Shared}
theorem On:entryFor table "dict.update.loop"=some Builtin.«dict.update.loop»:=entryFor_of_tree (by kernel_rfl)
theorem IK:plainId "dict.update.loop"=true:=by decide +kernel
theorem QK:typeLookup (.type "list") "keys"=pure none:=by rw[typeLookup_type,builtinLookup_eq_fast];kernel_rfl
theorem Mm {a:Addr} {xs:Array Value} {k:Nat} {sl:Array (Option Value)} {Q:Option Value->Shared->Prop} (hx:s.heap.get? a=some { cls:=.type "list",dict:=none,data:=.seq xs k,slots:=sl }) (hA:A.handled=none)
  (h:∀h' tk,(∀b o,s.heap.get? b=some o->h'.get? b=some o)->Q none { s with heap:=h',toks:=tk }):wpAny (model prog w) A (getAttr? (.ref a) "keys") Q E s:=by
 obtain⟨hp,g,d,tk,os⟩:=s;have hT:∀tk',(⟨hp,g,d,tk',os⟩:Shared).TypeIs (.ref a) "list":=λ_=>⟨_,hx,rfl⟩
 have f1:=sub_AttributeError;have f3:=F.slot_list_getattribute.lookup;have f4:=F.slot_list_getattribute.bind (.ref a);have f5:=am_list_getattr_none;unfold getAttr? getAttrBy? getAttrBy
 repeat (any_goals (first|assumption|exact hT _|((with_reducible show wpAny _ _ (call (Value.builtin "list.__getattribute__") _ _) _ _ _);refine gC F.slot_list_getattribute (hT _) am_entry_list_getattribute (F.args_list_getattribute_2 _ _) (meets_getattribute_miss_list a xs k sl "keys" _ QK (by decide +kernel) (by decide +kernel)) ⟨hx,hA,λh' tk' e hx'=>?_⟩)|wp_step))
 obtain⟨t',u',he⟩:=hx'.there;show wpAny _ _ (getattributeRaised _ _ _ _ _ _ _) _ _ _;unfold getattributeRaised
 repeat (any_goals (first|assumption|wp_step))
 exact h _ _ λb o e=>hx'.keeps b o e
theorem pair_items {t:Addr}{k v:Value}{Q:List Value->Shared->Prop}(ht:IsTup s.heap t #[k,v])(h:Q [k,v] s):wpAny (model prog w) A (Builtin.Dict.pairItems (.ref t)) Q E s:=by
 obtain⟨o,ho,hc,n,hd⟩:=ht;have hT:s.TypeIs (.ref t) "tuple":=⟨o,ho,hc⟩
 unfold Builtin.Dict.pairItems;refine ae (wpAny_typeOf hT ?_);rw[aG (by decide)];refine ae (m:=seqItems? (.ref t)) ?_;unfold seqItems?;refine ae (gz ho ?_);rw[hd];exact ax (ax h)
theorem Q7 {R:Result->Shared->Prop} {I d:Addr} {fp:List Addr} {vs:List Value} {St:Nat->Heap->Prop} {D:Nat->Heap->Prop} {h0:Heap} (W:Walks prog w A.in1 I fp [I] vs.length (λi v=>vs[i]?=some v) St) (nd:d∉fp)
  (hI:h0.get? I=none) (hd0:h0.get? d=none) (keep:∀i h h',D i h->(∀o,h.get? d=some o->h'.get? d=some o)->D i h')
  (pr:∀i v,vs[i]?=some v->∃t x y,v=.ref t/\IsTup h0 t #[x,y]/\∀(s:Shared) (Q:Unit->Shared->Prop) (E:Value->Shared->Prop),(∀b o,h0.get? b=some o->s.heap.get? b=some o)->D i s.heap->(∀h' tk,D (i+1) h'->Heap.SameBut d s.heap h'->Q () { s with heap:=h',toks:=tk })->wpAny (model prog w) A.in1 (dictSet d x y) Q E s) :
  ∀(k i:Nat) (s:Shared),vs.length-i=k->i<=vs.length->(∀b o,h0.get? b=some o->s.heap.get? b=some o)->St i s.heap->D i s.heap->
   (∀h' tk,(∀b o,b∉[d,I]->s.heap.get? b=some o->h'.get? b=some o)->D vs.length h'->R (.ok (.ret .none)) { s with heap:=h',toks:=tk })->codeAny (model prog w) A (.builtin "dict.update.loop" ⟨[.ref d,.ref I,rawInt i,.none],[]⟩) R s:=by
 have nI:d∉[I]:=λz=>nd (W.sub _ z)
 intro k
 induction k with
 |zero=>
  intro i s hk hi old st T q;have e:i=vs.length:=by omega
  subst e;refine dm On ?_;rw[cI IK _];refine ae (m:=pyNext (.ref I)) (W.done s _ _ st λh' tk k'=>?_);refine ae (m:=Builtin.Dict.addKeywords d []) (ax (ax ?_));exact q h' tk (λb o n e=>k' b o (λz=>n (aI _ z)) e) (keep _ _ _ T λo e=>k' d o nI e)
 |succ k ih=>
  intro i s hk hi old st T q;have lt:i<vs.length:=by omega
  refine dm On ?_;rw[cI IK _];refine ae (m:=pyNext (.ref I)) (W.item i s _ _ lt st λv h' tk hv st' k'=>?_);obtain⟨t,x,y,rfl,ht,step⟩:=pr i v hv;have old':∀b o,h0.get? b=some o->h'.get? b=some o:=λb o e=>k' b o (λz=>by rw[ai.mp z,hI] at e;cases e) (old b o e)
  refine ae (bM (ae (eZ (pair_items (s:={ s with heap:=h',toks:=tk }) (ht.keeps old') ?_))));refine bM (step _ _ _ old' (keep _ _ _ T λo e=>k' d o nI e) λh2 tk2 T2 sb=>?_);refine ax ⟨cX IK _,ih (i+1) _ (by omega) lt (λb o e=>?_) (W.frame _ _ _ st' λb hb o e=>?_) T2 λh3 tk3 k3 T3=>?_⟩
  ·rw[sb.2 b (λz=>by rw[z,hd0] at e;cases e)];exact old' b o e
  ·rw[sb.2 b (λz=>nd (z▸hb))];exact e
  ·refine q h3 tk3 (λb o n e=>k3 b o n ?_) T3;rw[sb.2 b (λz=>n (by simp[z]))];exact k' b o (λz=>n (aI _ z)) e
theorem Ri {l:Addr} {vs:List Value} {D:Nat->Heap->Prop} {Q:Value->Shared->Prop} (hh:A.handled=none) (hl:∃n sl,s.heap.get? l=some { cls:=.type "list",dict:=none,data:=.seq vs.toArray n,slots:=sl })
  (keep:∀i h h',D i h->(∀o,h.get? s.heap.objs.size=some o->h'.get? s.heap.objs.size=some o)->D i h')
  (d0:∀h:Heap,h.get? s.heap.objs.size=some { cls:=.type "dict",data:=.dict #[] }->D 0 h)
  (pr:∀i v,vs[i]?=some v->∃t x y,v=.ref t/\IsTup s.heap t #[x,y]/\∀(s1:Shared) (Q:Unit->Shared->Prop) (E:Value->Shared->Prop),(∀b o,s.heap.get? b=some o->s1.heap.get? b=some o)->D i s1.heap->(∀h' tk,D (i+1) h'->Heap.SameBut s.heap.objs.size s1.heap h'->Q () { s1 with heap:=h',toks:=tk })->wpAny (model prog w) A.in1.in1 (dictSet s.heap.objs.size x y) Q E s1)
  (q:∀h' tk,(∀b o,s.heap.get? b=some o->h'.get? b=some o)->D vs.length h'->Q (.ref s.heap.objs.size) { s with heap:=h',toks:=tk }):wpAny (model prog w) A (call (.type "dict") [.ref l]) Q E s:=by
 obtain⟨n,sl,el⟩:=hl;have lt:l<s.heap.objs.size:=aF el;refine callType_codes (Q₁:=λobj s₁=>obj=.ref s.heap.objs.size/\s₁={ s with heap:=s.heap.push { cls:=.type "dict",data:=.dict #[] } }) PySem.F.kt_called_dict (PySem.F.kt_typeCall_dict_1 _) PySem.F.entry_dict_init (kt_code_dict_new _ ⟨rfl,rfl⟩) ?_
 rintro obj s₁ ⟨rfl,rfl⟩
 have hS:(s.heap.push { cls:=.type "dict",data:=.dict #[] }).get? s.heap.objs.size=some { cls:=.type "dict",data:=.dict #[] }:=aM _ rfl;have hT:Shared.TypeIs { s with heap:=s.heap.push { cls:=.type "dict",data:=.dict #[] } } (.ref s.heap.objs.size) "dict":=⟨_,hS,rfl⟩
 have el':=ah ({ cls:=.type "dict",data:=.dict #[] }:Obj) el;refine⟨hT,PySem.F.args_dict_init_2 _ _,?_⟩;unfold Builtin.«dict.__init__»;refine ae ?_;unfold Builtin.Dict.selfAndRest;refine ae (wpAny_notOrdered_dict hT ?_);show wpAny _ _ (pure (s.heap.objs.size,[Value.ref l])) _ _ _;refine ax ?_;show wpAny _ _ (Builtin.Dict.updateFrom "dict.__init__" s.heap.objs.size (.ref l) [] .none) _ _ _;unfold Builtin.Dict.updateFrom;refine ae (wpAny_typeOf (T:="list") ⟨_,el',rfl⟩ ?_);rw[aG (by decide)];refine ae (Mm (s:={ s with heap:=s.heap.push { cls:=.type "dict",data:=.dict #[] } }) el' (by simp[hh]) λh1 tk1 k1=>?_);rw[aG (show(none:Option Value).isNone=true from rfl)];refine ae (fF ?_);have el1:=k1 _ _ el';have l1:h1.IsList l vs.toArray:=⟨_,el1,rfl,_,rfl⟩
 refine ae (dy (s:={ s with heap:=h1,toks:=tk1 }) l1 ?_);have g1:s.heap.objs.size+1<=h1.objs.size:=aF (k1 _ _ hS);have nI:l≠h1.objs.size:=aR (aN lt (Nat.le_of_succ_le g1));have W:=gD (prog:=prog) (w:=w) (A:=A.in1.in1) (by simp[hh]) h1.objs.size l nI vs.toArray;have W2:Walks prog w A.in1.in1 h1.objs.size [h1.objs.size,l] [h1.objs.size] vs.length (λi v=>vs[i]?=some v) (λi h=>h.IsListIter h1.objs.size l i/\h.IsList l vs.toArray):=by
  simpa only [List.size_toArray,List.getElem?_toArray] using W
 have old1:∀b o,s.heap.get? b=some o->h1.get? b=some o:=λb o e=>k1 b o (ah _ e)
 refine ax ⟨cX IK _,Q7 (h0:=s.heap) (D:=D) W2 ?_ (dR (by omega)) (dR (ar _)) keep pr vs.length 0 _ (by omega) (bC _) (λb o e=>ah _ (old1 b o e)) ⟨⟨_,aM _ rfl,rfl,rfl⟩,l1.push _⟩ (d0 _ (ah _ (k1 _ _ hS))) λh' tk k' T=>⟨rfl,q h' tk (λb o e=>k' b o (λz=>?_) (ah _ (old1 b o e))) T⟩⟩
 ·simp only[List.mem_cons,List.not_mem_nil,or_false,not_or];exact⟨aR (by omega),cJ lt⟩
 ·have lb:=aF e;simp only[List.mem_cons,List.not_mem_nil,or_false] at z;rcases z with rfl|rfl
  ·exact absurd lb (cT _)
  ·exact absurd lb (Nat.not_lt.mpr (Nat.le_of_succ_le g1))
open PySem.Spec
theorem Ql:∀{ps:List Addr} {its:List Value},AG (ps.map V.ref) its->∀(i:Nat) v,its[i]?=some v->∃t,ps[i]?=some t/\v=.ref t
 |[],_,.nil,i,v,e=>by simp at e
 |t::ps,_,.cons r h,0,v,e=>⟨t,rfl,by cases r;simpa using e.symm⟩
 |t::ps,_,.cons r h,i+1,v,e=>by
  obtain⟨t',a,b⟩:=Ql h i v (by simpa using e);exact⟨t',by simpa using a,b⟩
theorem K4 {α β:Type}{F:α->β->Prop}:∀{l:List α} {m:List β},Paired F l m->∀{y:β},y∈m->∃x,x∈l/\F x y
 |_,_,.nil,_,h=>nomatch h
 |_,_,.cons r t,y,h=>by
  rcases aL.mp h with rfl|h
  ·exact⟨_,aw,r⟩
  ·obtain⟨x,a,b⟩:=K4 t h;exact⟨x,aI _ a,b⟩
end
end L2
namespace L2
section
open PySem PySem.W PyProof.Rows
variable {n:Nat}{lt:Nat->Nat->Bool}{cmp:Nat->Nat->(Bool->Shared->Prop)->Shared->Prop}{s:Shared}
structure Ordr (n:Nat) (lt:Nat->Nat->Bool) (cmp:Nat->Nat->(Bool->Shared->Prop)->Shared->Prop) (s:Shared):Prop where
 ask:∀(i j:Nat) (C:Bool->Shared->Prop),i<n->j<n->i≠j->C (lt i j) s->cmp i j C s
 tr:∀i j k,i<n->j<n->k<n->lt i j=true->lt j k=true->lt i k=true
 tot:∀i j,i<n->j<n->i≠j->lt i j=false->lt j i=true
def Jb (n:Nat)(p:Array Nat):Prop:=p.size=n/\p.toList.Perm (List.range n)
theorem Jb.lo {p:Array Nat}(h:Jb n p){i:Nat}(hi:i<n):p.getD i 0<n:=by
 have hs:i<p.size:=by rw[h.1];exact hi
 have e:p.getD i 0=p[i]:=by simp[Array.getD,hs]
 rw[e];exact cy.mp (h.2.mem_iff.mp (by simp))
theorem Jb.ne {p:Array Nat}(h:Jb n p){i j:Nat}(hi:i<n)(hj:j<n)(hij:i≠j):p.getD i 0≠p.getD j 0:=by
 have hs:i<p.size:=by rw[h.1];exact hi
 have ht:j<p.size:=by rw[h.1];exact hj
 have nd:p.toList.Nodup:=h.2.nodup_iff.mpr List.nodup_range;have e1:p.getD i 0=p.toList[i]'(by simpa using hs):=by simp[Array.getD,hs]
 have e2:p.getD j 0=p.toList[j]'(by simpa using ht):=by simp[Array.getD,ht]
 rw[e1,e2];intro z;have pw:=bg.mp nd;rcases dN hij with g|g
 ·exact pw i j (by simpa using hs) (by simpa using ht) g z
 ·exact pw j i (by simpa using ht) (by simpa using hs) g z.symm
def Gc (lt:Nat->Nat->Bool)(p:Array Nat)(k:Nat):Prop:=∀i j,i<j->j<k->lt (p.getD i 0) (p.getD j 0)=true
def Vz (lt:Nat->Nat->Bool)(p:Array Nat)(k:Nat):Prop:=∀i j,i<j->j<k->lt (p.getD j 0) (p.getD i 0)=true
theorem OG (O:Ordr n lt cmp s){p:Array Nat}(hp:Jb n p){G:Nat->Shared->Prop}:∀(f m:Nat),1<=m->m+f<=n->Gc lt p m->
  (∀m',m<=m'->m'<=m+f->Gc lt p m'->(m'=m+f\/lt (p.getD m' 0) (p.getD (m'-1) 0)=true)->G m' s)->(kas_asc p f m).kasWp cmp G s
 |0,m,_,_,up,h=>h m (ar _) (ar _) up (.inl rfl)
 |f+1,m,h1,h2,up,h=>by
  refine O.ask _ _ _ (hp.lo (by omega)) (hp.lo (by omega)) (hp.ne (by omega) (by omega) (by omega)) ?_;cases hl:lt (p.getD m 0) (p.getD (m-1) 0) with
  |true=>exact h m (ar _) (by omega) up (.inr hl)
  |false=>
   have hl':=O.tot _ _ (hp.lo (by omega)) (hp.lo (by omega)) (hp.ne (by omega) (by omega) (by omega)) hl;show(kas_asc p f (m+1)).kasWp cmp G s;refine OG O hp f (m+1) (by omega) (by omega) (λi j hij hj=>?_) λm' a b c d=>h m' (by omega) (by omega) c (d.imp (by omega) id)
   by_cases e:j=m
   ·subst e
    by_cases e2:i=j-1
    ·rw[e2];exact hl'
    ·exact O.tr _ _ _ (hp.lo (by omega)) (hp.lo (by omega)) (hp.lo (by omega)) (up i (j-1) (by omega) (by omega)) hl'
   ·exact up i j hij (by omega)
theorem PY (O:Ordr n lt cmp s){p:Array Nat}(hp:Jb n p){G:Array Nat×Nat×Nat->Shared->Prop}:∀(f m:Nat),1<=m->m+f<=n->Vz lt p m->
  (∀m',m<=m'->m'<=m+f->Vz lt p m'->G (p,m',0) s)->(kas_desc f p m 0).kasWp cmp G s
 |0,m,_,_,dn,h=>h m (ar _) (ar _) dn
 |f+1,m,h1,h2,dn,h=>by
  refine O.ask _ _ _ (hp.lo (by omega)) (hp.lo (by omega)) (hp.ne (by omega) (by omega) (by omega)) ?_;cases hl:lt (p.getD m 0) (p.getD (m-1) 0) with
  |true=>
   show(kas_desc f p (m+1) 0).kasWp cmp G s;refine PY O hp f (m+1) (by omega) (by omega) (λi j hij hj=>?_) λm' a b c=>h m' (by omega) (by omega) c
   by_cases e:j=m
   ·subst e
    by_cases e2:i=j-1
    ·rw[e2];exact hl
    ·exact O.tr _ _ _ (hp.lo (by omega)) (hp.lo (by omega)) (hp.lo (by omega)) hl (dn i (j-1) (by omega) (by omega))
   ·exact dn i j hij (by omega)
  |false=>
   have hl':=O.tot _ _ (hp.lo (by omega)) (hp.lo (by omega)) (hp.ne (by omega) (by omega) (by omega)) hl;refine O.ask _ _ _ (hp.lo (by omega)) (hp.lo (by omega)) (hp.ne (by omega) (by omega) (by omega)) ?_;rw[hl'];exact h m (ar _) (by omega) dn
theorem EZ (p:Array Nat)(i:Nat):p.getD i 0=(p[i]?).getD 0:=by
 by_cases h:i<p.size
 ·simp[Array.getD,h]
 ·simp[Array.getD,h]
theorem SH {p:Array Nat}{m:Nat}(hm:m<=p.size)(k:Nat):(kas_rev p 0 m).getD k 0=if k<m then p.getD (m-1-k) 0 else p.getD k 0:=by
 rw[EZ];unfold kas_rev;rw[getElem?_mirror_all hm]
 by_cases h:k<m
 ·rw[aG ⟨bC _,h⟩,aG h,EZ,ff]
 ·rw[aJ (λz=>h z.2),aJ h,EZ]
theorem UZ {p:Array Nat}(hp:Jb n p)(m:Nat):Jb n (kas_rev p 0 m):=⟨(mirror_size ..).trans hp.1,(fR.mp (mirror_perm ..)).trans hp.2⟩
theorem TU (O:Ordr n lt cmp s) {p:Array Nat} (hp:Jb n p) {m:Nat} (h1:1<=m) (hm:m<=n) (dn:Vz lt p m) {G:Nat×Array Nat->Shared->Prop}
  (h:∀m' p',Jb n p'->Gc lt p' m'->1<=m'->m'<=n->G (m',p') s):(kas_tail3 m n p).kasWp cmp G s:=by
 unfold kas_tail3;rw[d3];have hr:=UZ hp m;refine OG O hr (n-m) m h1 (by omega) (λi j hij hj=>?_) λm' a b c _=>h m' _ hr c (by omega) (by omega)
 rw[SH (by rw[hp.1];exact hm),SH (by rw[hp.1];exact hm),aG (by omega),aG hj];exact dn _ _ (by omega) (by omega)
theorem Sx (O:Ordr n lt cmp s) (hn:1<=n) {p:Array Nat} (hp:Jb n p) {G:Nat×Array Nat->Shared->Prop}
  (h:∀m' p',Jb n p'->Gc lt p' m'->1<=m'->m'<=n->G (m',p') s):(kas_count n p).kasWp cmp G s:=by
 unfold kas_count;rw[d3];refine OG O hp (n-1) 1 (ar _) (by omega) (λi j hij hj=>by omega) λm a b up d=>?_
 by_cases e:m=n
 ·subst e;rw[aG (by simp)];exact h _ _ hp up a (ar _)
 ·rw[aJ (by simpa using e)]
  by_cases g:m>1
  ·rw[aG g];refine O.ask _ _ _ (hp.lo (by omega)) (hp.lo (by omega)) (hp.ne (by omega) (by omega) (by omega)) ?_;rw[up 0 (m-1) (by omega) (by omega)];exact h _ _ hp up a (by omega)
  ·rw[aJ g];have e1:m=1:=by omega
   subst e1;have hl:=d.resolve_left (by omega);unfold kas_descPart;rw[d3];refine PY O hp (n-(1+1)) (1+1) (by omega) (by omega) (λi j hij hj=>?_) λm' a' b' dn=>?_
   ·obtain⟨rfl,rfl⟩:i=0/\j=1:=by omega
    exact hl
   ·rw[aJ (by simp)];exact TU O hp (by omega) (by omega) dn h
theorem Lh (O:Ordr n lt cmp s) {p:Array Nat} (hp:Jb n p) {k:Nat} (hk:k<n) (up:Gc lt p k) {G:Nat->Shared->Prop}
  (h:∀l,l<=k->(∀i,i<l->lt (p.getD i 0) (p.getD k 0)=true)->(∀i,l<=i->i<k->lt (p.getD k 0) (p.getD i 0)=true)->G l s) :
  ∀(f l r:Nat),l<=r->r<=k->r-l<=f->(∀i,i<l->lt (p.getD i 0) (p.getD k 0)=true)->(∀i,r<=i->i<k->lt (p.getD k 0) (p.getD i 0)=true)->(kas_place p k f l r).kasWp cmp G s
 |0,l,r,h1,h2,h3,a,b=>h l (by omega) a λi hi=>b i (by omega)
 |f+1,l,r,h1,h2,h3,a,b=>by
  unfold kas_place
  by_cases g:l≥r
  ·rw[aG g];exact h l (by omega) a λi hi=>b i (by omega)
  ·rw[aJ g];refine O.ask _ _ _ (hp.lo hk) (hp.lo (by omega)) (hp.ne hk (by omega) (by omega)) ?_;cases hl:lt (p.getD k 0) (p.getD ((l+r)/2) 0) with
   |true=>
    show(kas_place p k f l ((l+r)/2)).kasWp cmp G s;refine Lh O hp hk up h f l ((l+r)/2) (by omega) (by omega) (by omega) a λi hi hik=>?_
    by_cases e:i=(l+r)/2
    ·rw[e];exact hl
    ·exact O.tr _ _ _ (hp.lo hk) (hp.lo (by omega)) (hp.lo (by omega)) hl (up _ _ (by omega) hik)
   |false=>
    have hl':=O.tot _ _ (hp.lo hk) (hp.lo (by omega)) (hp.ne hk (by omega) (by omega)) hl;show(kas_place p k f ((l+r)/2+1) r).kasWp cmp G s;refine Lh O hp hk up h f ((l+r)/2+1) r (by omega) (by omega) (by omega) (λi hi=>?_) b
    by_cases e:i=(l+r)/2
    ·rw[e];exact hl'
    ·exact O.tr _ _ _ (hp.lo (by omega)) (hp.lo (by omega)) (hp.lo hk) (up _ _ (by omega) (by omega)) hl'
theorem Tt {p:Array Nat}{k l:Nat}(hk:k<p.size)(hl:l<=k)(i:Nat):(bubble p k (k-l)).getD i 0=if i=l then p.getD k 0 else if l<i/\i<=k then p.getD (i-1) 0 else p.getD i 0:=by
 rw[EZ,getElem?_bubble hk _ (by omega),show k-(k-l)=l by omega]
 by_cases h:i=l
 ·rw[aG h,aG h,EZ]
 ·rw[aJ h,aJ h]
  by_cases g:l<i/\i<=k
  ·rw[aG g,aG g,EZ]
  ·rw[aJ g,aJ g,EZ]
theorem Tx (O:Ordr n lt cmp s){G:Array Nat->Shared->Prop}(h:∀p,Jb n p->Gc lt p n->G p s):∀(f:Nat) (p:Array Nat) (k:Nat),k+f=n->Jb n p->Gc lt p k->(kas_bin f p k).kasWp cmp G s
 |0,p,k,e,hp,up=>h p hp (by rw[<-e];exact up)
 |f+1,p,k,e,hp,up=>by
  unfold kas_bin;rw[d3];refine Lh O hp (by omega) up (λl hl a b=>?_) k 0 k (bC _) (ar _) (by omega) (λi hi=>by omega) (λi h1 h2=>by omega);have hs:k<p.size:=by rw[hp.1];omega
  refine Tx O h f _ (k+1) (by omega) ⟨(bubble_size ..).trans hp.1,(fR.mp (bubble_perm ..)).trans hp.2⟩ λi j hij hj=>?_
  rw[Tt hs hl,Tt hs hl]
  by_cases i1:i=l
  ·rw[aG i1,aJ (by omega),aG (by omega)];exact b _ (by omega) (by omega)
  ·rw[aJ i1]
   by_cases j1:j=l
   ·rw[aJ (by omega),aG j1];exact a _ (by omega)
   ·rw[aJ j1]
    by_cases i2:l<i/\i<=k
    ·rw[aG i2,aG (by omega)];exact up _ _ (by omega) (by omega)
    ·rw[aJ i2]
     by_cases j2:l<j/\j<=k
     ·rw[aG j2];exact up _ _ (by omega) (by omega)
     ·rw[aJ j2];exact up _ _ (by omega) (by omega)
theorem Qo (O:Ordr n lt cmp s)(hn:1<=n){G:Array Nat->Shared->Prop}(h:∀p,Jb n p->Gc lt p n->G p s):(kas_sort n).kasWp cmp G s:=by
 unfold kas_sort;rw[d3];refine Sx O hn ⟨by simp,by simp⟩ λm p hp up h1 h2=>?_
 by_cases e:m<n
 ·rw[aG e];exact Tx O h _ _ _ (by omega) hp (by rw[show max m 1=m by omega];exact up)
 ·rw[aJ e];obtain rfl:m=n:=by omega
  exact h p hp up
end
end L2
namespace L2
section
open PySem PySem.W PySem.Calls PyProof.Rows
variable {prog:Program}{w:World}{A:Around}{E:Value->Shared->Prop}{s:Shared}
def Ec (vs:List Value)(p:Array Nat):List Value:=p.toList.map λi=>vs.getD i Value.none
theorem JL (vs:List Value):Ec vs (List.range vs.length).toArray=vs:=by
 unfold Ec;refine cg λi=>?_
 rw[az]
 by_cases h:i<vs.length
 ·simp[h]
 ·simp[h]
theorem Uq {a:Addr} {vs:List Value} {n:Nat} {lt:Nat->Nat->Bool} {P:PySem.Fin->Shared->Prop} (ho:s.heap.get? a=some (seqObj "list" vs.toArray n)) (few:vs.length<64)
  (hk:∀h',(∀b o,b≠a->s.heap.get? b=some o->h'.get? b=some o)->2<=vs.length->wpAny (model prog w) A (keyKind' vs.toArray) (λκ s'=>s'={ s with heap:=h' }/\Ordr vs.length lt (kas_ask prog w A κ vs) s') (λ_ _=>False) { s with heap:=h' })
  (h:∀p,Jb vs.length p->Gc lt p vs.length->P (.done (.ret .none)) { s with heap:=sortedHeap s.heap a vs (Ec vs p).toArray }) :
  wpAny (model prog w) A (Builtin.«list.sort» ⟨[.ref a],[]⟩) P E s:=by
 rw[list_sort_plain];have ha:a<s.heap.objs.size:=aF ho;refine ae (gM ho rfl (ae (cN ho rfl ?_)));obtain⟨e1,h1⟩:∃e,(s.heap.update a (Obj.mapSeq λ_=>#[])).get? a=some (seqObj "list" #[] e):=⟨_,eG ho (λ_=>#[])⟩
 refine ae (eu h1 rfl (ae (gy (ae (cW (bM ?_))))));have n1:a≠(s.heap.update a (Obj.mapSeq λ_=>#[])).objs.size:=by rw[cM];exact aR ha
 have n2:a≠((s.heap.update a (Obj.mapSeq λ_=>#[])).push (seqObj "tuple" vs.toArray 0)).objs.size:=by rw[bT,cM];exact aR (bW ha)
 have h2:(((s.heap.update a (Obj.mapSeq λ_=>#[])).push (seqObj "tuple" vs.toArray 0)).push (seqObj "list" #[] 0)).get? a=some (seqObj "list" #[] e1):=by
  rw[eI _ _ _ n2,eI _ _ _ n1];exact h1
 have old:∀b o,b≠a->s.heap.get? b=some o->(((s.heap.update a (Obj.mapSeq λ_=>#[])).push (seqObj "tuple" vs.toArray 0)).push (seqObj "list" #[] 0)).get? b=some o:=λb o nb e=>
  ah _ (ah _ ((bz _ _ (Ne.symm nb)).trans e))
 show wpAny (model prog w) A _ P E { s with heap:=((s.heap.update a (Obj.mapSeq λ_=>#[])).push (seqObj "tuple" vs.toArray 0)).push (seqObj "list" #[] 0) };dsimp only;have ez:vs.toArray.size=vs.length:=by simp
 by_cases hs2:vs.toArray.size<2
 ·rw[aG hs2,aG hs2];refine ae (ax ?_);rw[StateT.run_pure];refine ae (ax ?_);dsimp only;refine ae (eu h2 rfl (ae (cN h2 rfl ?_ (hsz2:=?_))))
  ·simp only[bne_self_eq_false,Bool.false_eq_true,if_false];have hq:=h (List.range vs.length).toArray ⟨by simp,by simp⟩ (λi j hij hj=>by omega);rw[JL] at hq;have e:(vs.toArray.zip vs.toArray).map (·.2)=vs.toArray:=by
    apply ej.mp;simp;exact fB (ar _)
   refine ax ?_;show P _ { s with heap:=sortedHeap s.heap a vs ((vs.toArray.zip vs.toArray).map (·.2)) };rw[e];exact hq
  ·show((vs.toArray.zip vs.toArray).map (·.2)).size<=_;rw[Array.size_map];simp;rw[bE];omega
 ·rw[aJ hs2,aJ hs2];refine ae (bB (hk _ old (by omega)) (λκ s' hs'=>?_) λ_ _ z=>z.elim);obtain⟨rfl,O⟩:=hs';refine ae (bB (kat_run (ks:=vs) (E:=E) (Q:=λst' s'=>s'={ s with heap:=((s.heap.update a (Obj.mapSeq λ_=>#[])).push (seqObj "tuple" vs.toArray 0)).push (seqObj "list" #[] 0) }/\∃p,Jb vs.length p/\Gc lt p vs.length/\(arrOf st').map (·.2)=(Ec vs p).toArray/\failedOf st'=none)
   (G:=λp s'=>s'={ s with heap:=((s.heap.update a (Obj.mapSeq λ_=>#[])).push (seqObj "tuple" vs.toArray 0)).push (seqObj "list" #[] 0) }/\Jb vs.length p/\Gc lt p vs.length) rfl (by omega) few
   (λp st' s' _ ea ef hg=>⟨hg.1,p,hg.2.1,hg.2.2,kat_snds rfl ea,ef⟩) (Qo O (by omega) λp hp up=>⟨rfl,hp,up⟩)) (λr s' hr=>?_) λ_ _ z=>z)
  obtain⟨⟨⟩,st'⟩:=r;obtain⟨rfl,p,hp,up,ea,ef⟩:=hr;dsimp only;refine ae (eu h2 rfl (ae (cN h2 rfl ?_ (hsz2:=?_))))
  ·rw[ef];simp only[bne_self_eq_false,Bool.false_eq_true,if_false];rw[ea];exact ax (h p hp up)
  ·rw[ea];unfold Ec;simp only[List.size_toArray,List.length_map,Array.length_toList,hp.1];rw[bE];omega
theorem O7 {vs:List Value}{ss:List Str}(nd:ss.Nodup)(hl:vs.length=ss.length)(hv:∀(i:Nat) x,ss[i]?=some x->∃(a:Addr) (o:Obj) (t:Tok) (xs:Array Value) (n:Nat),vs[i]?=some (.ref a)/\s.heap.get? a=some o/\o.data=.seq xs n/\xs[0]?=some (.str x t)) :
  Ordr vs.length (λi j=>decide ((ss.getD i ⟨#[]⟩).cps.toList<(ss.getD j ⟨#[]⟩).cps.toList)) (kas_ask prog w A (tuples' true) vs) s:=by
 have get:∀i,i<vs.length->ss[i]?=some (ss.getD i ⟨#[]⟩):=λi hi=>by
  rw[hl] at hi;simp[hi]
 refine⟨λi j C hi hj hij hC=>?_,λi j k _ _ _ h1 h2=>?_,λi j hi hj hij h1=>?_⟩
 ·obtain⟨a,o,t,xs,n,e1,e2,e3,e4⟩:=hv i _ (get i hi);obtain⟨a',o',t',xs',n',f1,f2,f3,f4⟩:=hv j _ (get j hj);have g1:vs.getD i Value.none=.ref a:=by simp[e1]
  have g2:vs.getD j Value.none=.ref a':=by simp[f1]
  unfold kas_ask;rw[g1,g2];have z1:0<xs.size:=(dS.mp e4).1;have z2:0<xs'.size:=(dS.mp f4).1;obtain⟨r,er⟩:∃r,xs.toList=.str (ss.getD i ⟨#[]⟩) t::r:=by
   cases hx:xs.toList with
   |nil=>rw[<-cm,hx] at z1;exact absurd z1 (by simp)
   |cons y r=>
    have:=e4;rw[<-cD,hx] at this;exact⟨r,by rw[show y=_ from aA this]⟩
  obtain⟨r',er'⟩:∃r,xs'.toList=.str (ss.getD j ⟨#[]⟩) t'::r:=by
   cases hx:xs'.toList with
   |nil=>rw[<-cm,hx] at z2;exact absurd z2 (by simp)
   |cons y r=>
    have:=f4;rw[<-cD,hx] at this;exact⟨r,by rw[show y=_ from aA this]⟩
  refine kat_lt e2 e3 f2 f3 ?_;rw[er,er',List.zip_cons_cons];refine kat_cons (eqBool_str ?_);have ne:((ss.getD i ⟨#[]⟩) == (ss.getD j ⟨#[]⟩))=false:=by
   rw[cz];intro z;have hi':i<ss.length:=by omega
   have hj':j<ss.length:=by omega
   have pw:=bg.mp nd;have z':ss[i]=ss[j]:=by simpa [hi',hj'] using z
   rcases dN hij with q|q
   ·exact pw i j hi' hj' q z'
   ·exact pw j i hj' hi' q z'.symm
  rw[ne];exact kat_no (oneLt_str hC)
 ·rw[bj] at *;exact List.lt_trans h1 h2
 ·rw[d4] at h1;rw[bj];have hle:=List.not_lt.mp h1;rcases Classical.em ((ss.getD j ⟨#[]⟩).cps.toList<(ss.getD i ⟨#[]⟩).cps.toList) with h|h
  ·exact h
  ·exfalso;have e:=List.le_antisymm hle (List.not_lt.mp h);have e2:ss.getD j ⟨#[]⟩=ss.getD i ⟨#[]⟩:=by
    cases hx:ss.getD j ⟨#[]⟩ with
    |mk c1=>
     cases hy:ss.getD i ⟨#[]⟩ with
     |mk c2=>
      rw[hx,hy] at e;have e3:c1=c2:=ej.mp e;rw[e3]
   have hi':i<ss.length:=by omega
   have hj':j<ss.length:=by omega
   have pw:=bg.mp nd;have z':ss[j]=ss[i]:=by simpa [hi',hj'] using e2
   rcases dN hij with q|q
   ·exact pw i j hi' hj' q z'.symm
   ·exact pw j i hj' hi' q z'
end
end L2
namespace L2
section
open PySem PySem.W PySem.Calls PyProof.Rows
variable {prog:Program}{w:World}{A:Around}{E:Value->Shared->Prop}{s:Shared}
def UX (prog:Program)(w:World)(Q:Value->Shared->Prop)(vs:List Value)(s1:Shared):Prop:=∃lt,vs.length<64/\
 (∀(A':Around) h',(∀b o,s1.heap.get? b=some o->h'.get? b=some o)->2<=vs.length->wpAny (model prog w) A' (keyKind' vs.toArray) (λκ s'=>s'={ s1 with heap:=h' }/\Ordr vs.length lt (kas_ask prog w A' κ vs) s') (λ_ _=>False) { s1 with heap:=h' })/\
 ∀h' p idx c,Jb vs.length idx->Gc lt idx vs.length->s1.heap.objs.size<=p->(∀b o,s1.heap.get? b=some o->h'.get? b=some o)->h'.get? p=some (seqObj "list" (Ec vs idx).toArray c)->Q (.ref p) { s1 with heap:=h' }
theorem QS {x:Value}{Q:Value->Shared->Prop}(hc:wpAny (model prog w) A.in1 (collect x) (UX prog w Q) E s):wpAny (model prog w) A (call (.builtin "sorted") [x]) Q E s:=by
 refine eF kind_sorted gL gN (args_sorted1 x) ?_;unfold Builtin.«sorted»;refine ae (m:=checkCount "sorted" 1 1 _) (ax (ae (bB hc (λvs s1 z=>?_) λ_ _ e=>e)));obtain⟨lt,few,hk,q⟩:=z;refine ae (cW ?_);have there:(s1.heap.push (seqObj "list" vs.toArray 0)).get? s1.heap.objs.size=some (seqObj "list" vs.toArray 0):=aM _ rfl;refine ae (bM (dI fS ⟨_,there,rfl⟩ fH (Uq (lt:=lt) there few (λh' old h2=>?_) λidx hp up=>⟨_,rfl,?_⟩) (args_list_sort _)))
 ·have k':∀b o,s1.heap.get? b=some o->h'.get? b=some o:=λb o e=>old b o (aR (aF e)) (ah _ e)
  exact hk _ h' k' h2
 ·obtain⟨c,hp'⟩:=sortedHeap_at (out:=(Ec vs idx).toArray) there;refine ax ⟨_,rfl,q _ _ idx c hp up (ar _) (λb o e=>?_) hp'⟩;have lt:=aF e;show Heap.get? _ b=some o;rw[sortedHeap_old (aR lt) (by rw[bT];exact bW lt)];exact ah _ e
end
end L2
namespace L2
section
open PySem PySem.W PySem.Calls PyProof.Rows
variable {X:Cx}
def T4 (H:Hp)(ts:List (Addr×Str))(Q:VK):Prop:=∀(us:List (Addr×Str)) (p:Addr),us.Perm ts->sortedS (us.map (·.2))=true->H p=none->Q (.ref p) (upd H p (.lst (us.map λt=>V.ref t.1)))
def UO (K:PySem.W.Frag):List V->Hp->VK->Prop:=λxs H Q=>∃(a:Addr) (ts:List (Addr×Str)),xs=[.ref a]/\AD K H a (ts.map λt=>V.ref t.1)/\ts.length<64/\(∀t∈ts,∃r,AL K H t.1 (.str t.2::r))/\(ts.map (·.2)).Nodup/\T4 H ts Q
theorem NG:∀{ts:List (Addr×Str)} {its:List Value},AG (ts.map λt=>V.ref t.1) its->its=ts.map λt=>Value.ref t.1
 |[],_,.nil=>rfl
 |t::ts,_,.cons r h=>by
  cases r;rw[ao,NG h]
theorem IS:∀(ts:List (Addr×Str)),AG (ts.map λt=>V.ref t.1) (ts.map λt=>Value.ref t.1)
 |[]=>.nil
 |t::ts=>.cons rfl (IS ts)
theorem JO {K:PySem.W.Frag}(hK:X.K=K):DG X (.builtin "sorted") (UO K):=by
 subst hK;intro pins s σ H xs us Q I r h;obtain⟨a,ts,rfl,h1,few,ht,nd,q⟩:=h;obtain⟨u,rfl,ru⟩:=vals1 r;cases ru;obtain⟨its,r1,p1,_⟩:=I.list h1;have ei:=NG r1;have li:its.length=ts.length:=by rw[ei,aa]
 refine QS (collect_list p1.isList ?_ (by rw[li,bE];omega));have old:∀b o,s.heap.get? b=some o->((s.heap.push (seqObj "list" #[] 0)).update s.heap.objs.size (Obj.mapSeq λx=>x++its.toArray)).get? b=some o:=λb o e=>(bz _ _ (cJ (aF e))).trans (ah _ e)
 have hsz:s.heap.objs.size<=((s.heap.push (seqObj "list" #[] 0)).update s.heap.objs.size (Obj.mapSeq λx=>x++its.toArray)).objs.size:=by rw[cM,bT];exact gF _
 generalize (s.heap.push (seqObj "list" #[] 0)).update s.heap.objs.size (Obj.mapSeq λx=>x++its.toArray)=h1 at old hsz ⊢;have tup:∀(i:Nat) x,(ts.map λt=>t.2)[i]?=some x->∃(b:Addr) (o:Obj) (t:Tok) (xs:Array Value) (n:Nat),its[i]?=some (.ref b)/\s.heap.get? b=some o/\o.cls=.type "tuple"/\o.data=.seq xs n/\xs[0]?=some (.str x t):=λi x hx=>by
  rw[az] at hx;cases hi:ts[i]? with
  |none=>rw[hi] at hx;cases hx
  |some y=>
   rw[hi] at hx;cases hx;obtain⟨r,hr⟩:=ht y (aC hi);obtain⟨ys,rv,⟨o,e1,e2,n,e3⟩,_⟩:=I.tuple hr;cases rv with
   |cons rv _=>
    obtain⟨t,rfl⟩:=rv;exact⟨y.1,o,t,_,n,by rw[ei,az,hi];rfl,e1,e2,e3,by simp⟩
 refine⟨λi j=>decide (((ts.map λt:Addr×Str=>t.2).getD i (⟨#[]⟩:Str)).cps.toList<((ts.map λt:Addr×Str=>t.2).getD j (⟨#[]⟩:Str)).cps.toList),by rw[li];exact few,λA' h' k h2=>?_,λh' p idx c hp up lp k e=>?_⟩
 ·obtain⟨fs,kt,kf⟩:∃fs,KatTups h' its fs/\fs.length=its.length/\∀v∈fs,∃x t,v=Value.str x t:=by
   have go:∀(l:List Value),(∀v∈l,∃(b:Addr) (o:Obj) (x:Str) (t:Tok) (xs:Array Value) (n:Nat),v=.ref b/\h'.get? b=some o/\o.cls=.type "tuple"/\o.data=.seq xs n/\xs[0]?=some (.str x t))->∃fs,KatTups h' l fs/\fs.length=l.length/\∀v∈fs,∃x t,v=Value.str x t:=by
    intro l
    induction l with
    |nil=>exact λ_=>⟨[],.nil,rfl,λ_ h=>nomatch h⟩
    |cons v l ih=>
     intro hl;obtain⟨fs,a1,a2,a3⟩:=ih λu hu=>hl u (aI _ hu)
     obtain⟨b,o,x,t,xs,n,rfl,e1,e2,e3,e4⟩:=hl v aw;refine⟨.str x t::fs,.cons e1 e2 e3 e4 a1,by rw[aX,aX,a2],λu hu=>?_⟩;rcases aL.mp hu with rfl|hu
     ·exact⟨x,t,rfl⟩
     ·exact a3 u hu
   refine go its λv hv=>?_
   obtain⟨i,hi⟩:=cf hv;have lt:i<ts.length:=by rw[<-li];exact(ay.mp hi).1
   obtain⟨b,o,t,xs,n,e1,e2,e3,e4,e5⟩:=tup i _ (ab (by rw[aa];exact lt));rw[hi] at e1;cases e1;exact⟨b,o,_,t,xs,n,rfl,k _ _ (old _ _ e2),e3,e4,e5⟩
  refine kat_kind (T:=.type "str") kt (by rw[kf.1];omega) (λv hv=>?_) (by decide) ?_
  ·obtain⟨x,t,rfl⟩:=kf.2 v hv;exact .now
  ·refine⟨rfl,?_⟩;refine O7 nd (by rw[li,aa]) λi x hx=>?_
   obtain⟨b,o,t,xs,n,e1,e2,_,e4,e5⟩:=tup i x hx;exact⟨b,o,t,xs,n,e1,k _ _ (old _ _ e2),e4,e5⟩
 ·have I1:Inv X pins σ H { s with heap:=h' }:=I.kept (t':=s.toks) λb o e=>k b o (old b o e)
  have ln:∀i,i<ts.length->∃t,ts[i]?=some t:=λi hi=>⟨_,ab hi⟩
  have g0:(0:Nat)<ts.length\/ts=[]:=by
   cases ts with
   |nil=>exact .inr rfl
   |cons _ _=>exact .inl (by simp)
  obtain⟨d,ed⟩:∃d:Addr×Str,True:=⟨(0,⟨#[]⟩),trivial⟩
  have lt:∀i∈idx.toList,i<ts.length:=λi hi=>by
   have:=cy.mp (hp.2.mem_iff.mp hi);omega
  have eo:Ec its idx=(idx.toList.map λi=>ts.getD i d).map λt=>Value.ref t.1:=by
   unfold Ec;rw[aq];refine bD λi hi=>?_
   have hl:=lt i hi;rw[ei];simp[hl]
  have pm:(idx.toList.map λi=>ts.getD i d).Perm ts:=by
   have h3:=hp.2.map λi=>ts.getD i d
   have e3:(List.range its.length).map (λi=>ts.getD i d)=ts:=by
    refine cg λi=>?_
    rw[az,li]
    by_cases hi:i<ts.length
    ·simp[hi]
    ·simp[hi]
   rw[e3] at h3;exact h3
  have so:sortedS ((idx.toList.map λi=>ts.getD i d).map (·.2))=true:=by
   apply sortedS_of_pairwise;rw[bg];intro i j hi hj hij;have hi':i<idx.size:=by simpa using hi
   have hj':j<idx.size:=by simpa using hj
   have h4:=up i j hij (by rw[<-hp.1];exact hj');have li':=lt idx[i] (by simp);have lj':=lt idx[j] (by simp);simp only[List.getElem_map,Array.getElem_toList];rw[ltCps_eq];have e5:idx.getD i 0=idx[i]:=by simp[Array.getD,hi']
   have e6:idx.getD j 0=idx[j]:=by simp[Array.getD,hj']
   rw[e5,e6,bj] at h4;have e7:(ts.map λt:Addr×Str=>t.2).getD idx[i] (⟨#[]⟩:Str)=(ts.getD idx[i] d).2:=by simp[li']
   have e8:(ts.map λt:Addr×Str=>t.2).getD idx[j] (⟨#[]⟩:Str)=(ts.getD idx[j] d).2:=by simp[lj']
   rw[e7,e8] at h4;exact ba λz=>absurd (List.lt_trans h4 z) (List.lt_irrefl _)
  rw[eo] at e;have lp':s.heap.objs.size<=p:=bA (by
   rcases Nat.lt_or_ge s.heap.objs.size h1.objs.size with g|g
   ·exact fg g
   ·exact cS (Nat.le_antisymm hsz g)) lp
  refine⟨.ref p,_,I.laid (t':=s.toks) (o:=.lst ((idx.toList.map λi=>ts.getD i d).map λt=>V.ref t.1)) (λb o e=>k b o (old b o e)) lp' ?_,rfl,q _ _ pm so (I.hok.fresh lp')⟩;refine⟨?_,_,c,IS _,e⟩;rw[aa,pm.length_eq,bE];omega
end
end L2
namespace L2
end L2
namespace L2
end L2
namespace L2
end L2
namespace L2
end L2
namespace L2
end L2
namespace L2
section
open PySem PySem.Calls PySem.Spec PyProof.Rows PySem.Builtin.Str
variable {X:Cx}
def X9 (K:PySem.W.Frag)(te:TE)(ts:TO):TE:=λσ H Q=>te σ H λx H1=>ts σ H1 λo H2=>o=some (-1)/\∃a xs,x=.ref a/\AD K H2 a xs/\∀p,H2 p=none->Q (.ref p) (upd H2 p (.lst xs.reverse))
theorem Ss (its:List Value):slicePick its.toArray none none (some (-1))=its.reverse.toArray:=by
 unfold slicePick;have hb:sliceBounds none none (some (-1)) its.toArray.size=((its.length:Int)-1,-1,-1):=by
  simp[sliceBounds]
 rw[hb];have hr:sliceRange ((its.length:Int)-1) (-1) (-1)=(List.range its.length).map λk=>its.length-1-k:=by
  unfold sliceRange;have hc:(if(its.length:Int)-1 > -1 then((its.length:Int)-1 - -1 - -1-1)/(- -1) else 0).toNat=its.length:=by
   rw[Int.neg_neg,Int.ediv_one]
   by_cases h0:(its.length:Int)-1 > -1
   ·rw[aG h0];omega
   ·rw[aJ h0];omega
  simp only[show ¬((-1:Int)>0) by decide,if_false];rw[hc];refine bD λk hk=>?_
  have:=cy.mp hk;omega
 show((sliceRange ((its.length:Int)-1) (-1) (-1)).filterMap (its.toArray[·]?)).toArray=_;rw[hr]
 congr 1
 have e:((List.range its.length).map λk=>its.length-1-k).filterMap (λk=>its.toArray[k]?)=(List.range its.length).filterMap λk=>its[its.length-1-k]?:=by
  rw[eX];simp only[List.getElem?_toArray,Function.comp_def]
 rw[e];have g:∀(l:List Nat) (n:Nat) (xs:List Value),(∀k∈l,k<xs.length)->l.filterMap (λk=>xs[k]?)=l.map λk=>xs.getD k Value.none:=by
  intro l n xs
  induction l with
  |nil=>intro _;rfl
  |cons k l ih=>
   intro h;have hk:=h k (aw ..);rw[List.filterMap_cons_some (b:=xs[k]) (ab hk),ih λj hj=>h j (aI _ hj),ao]
   congr 1
   rw[bK,ab hk];rfl
 have e2:((List.range its.length).filterMap λk=>its[its.length-1-k]?)=((List.range its.length).map λk=>its.length-1-k).filterMap λk=>its[k]?:=by
  rw[eX];rfl
 rw[e2,g _ 0 its (λk hk=>by
  obtain⟨j,hj,rfl⟩:=af.mp hk;have:=cy.mp hj;omega),aq]
 refine cg λk=>?_
 rw[az]
 by_cases hk:k<its.length
 ·rw[dG hk,List.getElem?_reverse hk];show some (its.getD (its.length-1-k) Value.none)=_;rw[bK,ab (by omega)];rfl
 ·rw[bX (by rw[bP];omega),bX (by rw[eT];omega)];rfl
theorem Wp {e st:Expr}{te:TE}{ts:TO}{p2 pos:Pos}(he:PE X e te)(hs:PO X (some st) ts):PE X (.Subscript e (.Slice none none (some st) p2) pos) (X9 X.K te ts):=by
 intro pins s σ H Q I h;refine gr (Bc (he pins s σ H _ I h) λv s1 ⟨x,H1,I1,r1,q1⟩=>?_);refine wpAny_Slice ?_;rw[gU];refine ax (ax (Bc (hs pins s1 σ H1 _ I1 q1) λvs s3 ⟨o,H3,I3,ps,q3⟩=>?_));obtain⟨rfl,a,xs,rfl,hx,q⟩:=q3;cases r1;have I4:Inv X pins σ H3 { s3 with heap:=s3.heap.push { cls:=.type "slice",data:=.fields #[.none,.none,vs] } }:=I3.kept (t':=s3.toks) λb ob q=>ah _ q
 obtain⟨its,r,ht,hz⟩:=I4.list hx;have hlen:=r.length;show wpAny (model X.prog X.w) X.A (subscriptTail e (.Slice none none (some st) p2) (.ref a) (.ref s3.heap.objs.size)) (EP X pins σ Q) X.xe { s3 with heap:=s3.heap.push { cls:=.type "slice",data:=.fields #[.none,.none,vs] } };refine tail_any (ops:=[.ref a,.ref s3.heap.objs.size]) ht.isList.typeIs slot_list_getitem.lookup ?_ (by with_unfolding_all rfl);refine gS ht.isList (Heap.IsSliceOf.new ..) .none .none ps (by simp) ?_ (by rw[aK]<;>omega);rw[Ss];refine⟨.ref _,_,I4.laid (t':=s3.toks) (o:=.lst xs.reverse) (λb ob q=>ah _ q) (ar _) ?_,rfl,q _ (I4.hok.fresh (ar _))⟩;exact⟨by rw[eT];exact hz,_,0,r.reverse,aM _ rfl⟩
end
end L2
namespace L2
open PySem PySem.Spec PyProof.Rows
def WJ:Bool->String
 |true=>"list_iterator"
 |false=>"tuple_iterator"
def RN (k:Bool)(h:Heap)(it a:Addr)(i:Nat):Prop:=∃o,h.get? it=some o/\o.cls=.type (WJ k)/\o.data=.fields #[.ref a,.int i 0]
def Src:Bool->Heap->Addr->Array Value->Prop
 |true,h,a,its=>h.IsList a its
 |false,h,a,its=>h.IsTuple a its
theorem Src.push {h:Heap}{a:Addr}{its:Array Value}(o:Obj):(k:Bool)->Src k h a its->Src k (h.push o) a its
 |true,⟨x,e,r⟩=>⟨x,ah _ e,r⟩
 |false,⟨x,e,r⟩=>⟨x,ah _ e,r⟩
theorem RN.extBut {k:Bool}{h h':Heap}{a b l:Addr}{i:Nat}(x:RN k h a l i)(hs:Heap.ExtBut b h h')(hab:a≠b):RN k h' a l i:=let⟨o,e,r⟩:=x;⟨o,hs _ _ hab e,r⟩
end L2
namespace L2
end L2
namespace L2
end L2
namespace L2
end L2
namespace L2
section
open PySem PySem.W PySem.Calls PyProof.Rows
variable {prog:Program}{w:World}{A:Around}{E:Value->Shared->Prop}{s:Shared}{a kS:Addr}{vs ks:List Value}{P:PySem.Fin->Shared->Prop}
def Xz (a b:Addr)(h h':Heap):Prop:=∀c o,c≠a->c≠b->h.get? c=some o->h'.get? c=some o
theorem NQ {st:SortSt} {keys:Array Value} {e e1:Nat} {out:List Value} (hk:s.heap.get? kS=some (seqObj "list" keys e)) (ha:s.heap.get? a=some (seqObj "list" #[] e1)) (ne:kS≠a) (zk:keys.size<=sizeLine) (hout:(arrOf st).map (·.2)=out.toArray) (zo:out.length<=sizeLine) (hf:failedOf st=none)
  (h:∀h' c,Xz a kS s.heap h'->h'.get? a=some (seqObj "list" out.toArray c)->P (.done (.ret .none)) { s with heap:=h' }):wpAny (model prog w) A (ksk_tail a false e1 (.ref kS) st) P E s:=by
 have a1:(s.heap.update kS (Obj.mapSeq λ_=>(#[]:Array Value))).get? a=some (seqObj "list" #[] e1):=(bz _ _ ne).trans ha;unfold ksk_tail;dsimp only;refine ae (cN hk rfl ?_ zk (bC _));refine ae (fb (ae (eu a1 rfl (ae (cN a1 rfl ?_ (bC _) ?_)))))
 ·rw[hf];simp only[bne_self_eq_false,Bool.false_eq_true,if_false];refine ax ?_;rw[hout];refine h _ _ (λc o h1 h2 q=>?_) (eG a1 λ_=>out.toArray);exact(bz _ _ (Ne.symm h1)).trans ((bz _ _ (Ne.symm h2)).trans q)
 ·rw[aJ aB,hout,aK];exact Nat.le_succ_of_le zo
theorem Um {lt:Nat->Nat->Bool} {e e1:Nat} (hk:s.heap.get? kS=some (seqObj "list" ks.toArray e)) (ha:s.heap.get? a=some (seqObj "list" #[] e1)) (ne:kS≠a) (hl:ks.length=vs.length) (few:vs.length<64)
  (kind:2<=vs.length->wpAny (model prog w) A (keyKind' ks.toArray) (λκ s'=>s'=s/\Ordr vs.length lt (kas_ask prog w A κ ks) s') (λ_ _=>False) s)
  (h:∀p h' c,Jb vs.length p->Gc lt p vs.length->Xz a kS s.heap h'->h'.get? a=some (seqObj "list" (Ec vs p).toArray c)->P (.done (.ret .none)) { s with heap:=h' }) :
  wpAny (model prog w) A (ksk_end a false vs.toArray e1 (.ref kS) ks.toArray) P E s:=by
 have zk:ks.toArray.size<=sizeLine:=by rw[aK,bE];omega
 unfold ksk_end;dsimp only;rw[aJ aB,aJ aB]
 by_cases h2:vs.toArray.size<2
 ·rw[aG h2,aG h2];refine ae (ax ?_);rw[StateT.run_pure];refine ae (ax ?_);dsimp only;rw[aK] at h2;refine NQ (out:=vs) hk ha ne zk ?_ (by rw[bE];omega) rfl λh' c k hc=>h (List.range vs.length).toArray h' c ⟨by simp,by simp⟩ (λi j hij hj=>by omega) k (by rw[JL];exact hc)
  show(ks.toArray.zip vs.toArray).map (·.2)=vs.toArray;apply ej.mp;simp;exact fB (by omega)
 ·rw[aJ h2,aJ h2];rw[aK] at h2;refine ae (bB (kind (by omega)) (λκ s' hs'=>?_) λ_ _ z=>z.elim);obtain⟨rfl,O⟩:=hs';refine ae (bB (kat_run (E:=E) (Q:=λst' s2=>s2=s'/\∃p,Jb vs.length p/\Gc lt p vs.length/\(arrOf st').map (·.2)=(Ec vs p).toArray/\failedOf st'=none) (G:=λp s2=>s2=s'/\Jb vs.length p/\Gc lt p vs.length) hl (by omega) few
   (λp st' s2 _ ea ef hg=>⟨hg.1,p,hg.2.1,hg.2.2,kat_snds hl ea,ef⟩) (Qo O (by omega) λp hp up=>⟨rfl,hp,up⟩)) (λr s2 hr=>?_) λ_ _ z=>z)
  obtain⟨⟨⟩,st'⟩:=r;obtain⟨rfl,p,hp,up,ea,ef⟩:=hr;dsimp only;refine NQ hk ha ne zk ea ?_ ef λh' c k hc=>h p h' c hp up k hc
  unfold Ec;rw[aa,cm,hp.1,bE];omega
def Qb (prog:Program)(w:World)(A:Around)(f:Value)(vs:List Value)(Ky:Nat->Value->Prop)(s:Shared)(a:Addr):Prop:=∀(i:Nat) (v:Value),vs[i]?=some v->∀(h:Heap) (tk:Nat),(∀b o,b≠a->s.heap.get? b=some o->h.get? b=some o)->
 wpAny (model prog w) A (call f [v]) (λk s'=>Ky i k/\∃h' tk',s'={ s with heap:=h',toks:=tk' }/\∀b o,h.get? b=some o->h'.get? b=some o) (λ_ _=>False) { s with heap:=h,toks:=tk }
theorem Sl {f:Value} {lt:Nat->Nat->Bool} {Ky:Nat->Value->Prop} {e1:Nat} (hk:s.heap.get? kS=some (seqObj "list" #[] 0)) (ha:s.heap.get? a=some (seqObj "list" #[] e1)) (ne:kS≠a) (few:vs.length<64)
  (turn:Qb prog w A f vs Ky s kS)
  (kind:∀(ks:List Value) (h':Heap) (tk:Nat),ks.length=vs.length->(∀i k,ks[i]?=some k->Ky i k)->(∀b o,b≠kS->s.heap.get? b=some o->h'.get? b=some o)->2<=vs.length->
   wpAny (model prog w) A (keyKind' ks.toArray) (λκ s'=>s'={ s with heap:=h',toks:=tk }/\Ordr vs.length lt (kas_ask prog w A κ ks) s') (λ_ _=>False) { s with heap:=h',toks:=tk })
  (h:∀p h' tk c,Jb vs.length p->Gc lt p vs.length->Xz a kS s.heap h'->h'.get? a=some (seqObj "list" (Ec vs p).toArray c)->P (.done (.ret .none)) { s with heap:=h',toks:=tk }) :
  wpAny (model prog w) A (ksk_rest a f false vs.toArray e1 (.ref kS)) P E s:=by
 unfold ksk_rest;refine ae (fF ?_);rw[List.forIn_toArray];refine ae (ksk_fold (λi s'=>∃h' tk ks e,s'={ s with heap:=h',toks:=tk }/\(∀b o,b≠kS->s.heap.get? b=some o->h'.get? b=some o)/\h'.get? kS=some (seqObj "list" (List.toArray ks) e)/\ks.length=i/\∀j k,ks[j]?=some k->Ky j k) vs 0 s ⟨s.heap,s.toks,[],0,rfl,λ_ _ _ q=>q,hk,rfl,λj k q=>by simp at q⟩ ?_ ?_)
 ·rintro j x s' hx ⟨h',tk,ks,e,rfl,k1,k2,hl,hK⟩
  rw[ff] at hl ⊢;have hj:j<vs.length:=(ay.mp hx).1;refine ae (wpAny_attempt (bB (turn j x hx h' tk k1) (λv s2 hv=>?_) λ_ _ z=>z.elim));obtain⟨ky,h2,tk2,rfl,k3⟩:=hv;dsimp only;refine ae (cN (k3 _ _ k2) rfl ?_ (by rw[aK,bE];omega) (by rw[Array.size_push,aK,bE];omega));obtain⟨c9,e9⟩:∃c9,(h2.update kS (Obj.mapSeq (·.push v))).get? kS=some (seqObj "list" (ks.toArray.push v) c9):=⟨_,eG (k3 _ _ k2) (·.push v)⟩
  refine ax ⟨rfl,_,tk2,ks++[v],c9,rfl,λb o nb q=>(bz _ _ (Ne.symm nb)).trans (k3 b o (k1 b o nb q)),?_,by rw[au,hl];rfl,λi k q=>?_⟩
  ·rw[e9,List.push_toArray]
  ·by_cases hi:i<ks.length
   ·rw[bL hi] at q;exact hK i k q
   ·rw[bJ (by omega)] at q;have hi2:i-ks.length=0:=by
     have:=(ay.mp q).1;simp at this;omega
    rw[hi2] at q;cases q;rw[show i=j by omega];exact ky
 ·rintro s' ⟨h',tk,ks,e,rfl,k1,k2,hl,hK⟩
  rw[ff] at hl;refine ae (gM k2 rfl ?_);refine Um (s:={ s with heap:=h',toks:=tk }) k2 (k1 _ _ (Ne.symm ne) ha) ne hl few (kind ks h' tk hl hK k1) λp h3 c hp up k3 hc=>h p h3 tk c hp up (λb o n1 n2 q=>k3 b o n1 n2 (k1 b o n2 q)) hc
theorem Sd {f:Value} {lt:Nat->Nat->Bool} {Ky:Nat->Value->Prop} {n:Nat} (ho:s.heap.get? a=some (seqObj "list" vs.toArray n)) (few:vs.length<64)
  (turn:Qb prog w A f vs Ky s a)
  (kind:∀(ks:List Value) (h':Heap) (tk:Nat),ks.length=vs.length->(∀i k,ks[i]?=some k->Ky i k)->(∀b o,b≠a->s.heap.get? b=some o->h'.get? b=some o)->2<=vs.length->
   wpAny (model prog w) A (keyKind' ks.toArray) (λκ s'=>s'={ s with heap:=h',toks:=tk }/\Ordr vs.length lt (kas_ask prog w A κ ks) s') (λ_ _=>False) { s with heap:=h',toks:=tk })
  (h:∀p h' tk c,Jb vs.length p->Gc lt p vs.length->(∀b o,b≠a->s.heap.get? b=some o->h'.get? b=some o)->h'.get? a=some (seqObj "list" (Ec vs p).toArray c)->P (.done (.ret .none)) { s with heap:=h',toks:=tk }) :
  wpAny (model prog w) A (ksk_tree a f false) P E s:=by
 have ha:a<s.heap.objs.size:=aF ho;unfold ksk_tree;refine ae (gM ho rfl (ae (cN ho rfl ?_ (by rw[aK,bE];omega) (bC _))));obtain⟨e1,h1⟩:∃e,(s.heap.update a (Obj.mapSeq λ_=>#[])).get? a=some (seqObj "list" #[] e):=⟨_,eG ho (λ_=>#[])⟩
 refine ae (eu h1 rfl (ae (gy (ae (cW (bM ?_) (bC _))) (by show vs.length<=_;rw[bE];omega))));have old:∀b o,b≠a->s.heap.get? b=some o->(((s.heap.update a (Obj.mapSeq λ_=>#[])).push (seqObj "tuple" vs.toArray 0)).push (seqObj "list" #[] 0)).get? b=some o:=λb o nb e=>
  ah _ (ah _ ((bz _ _ (Ne.symm nb)).trans e))
 have sz:((s.heap.update a (Obj.mapSeq λ_=>#[])).push (seqObj "tuple" vs.toArray 0)).objs.size=s.heap.objs.size+1:=by rw[bT,cM]
 have hk:(((s.heap.update a (Obj.mapSeq λ_=>#[])).push (seqObj "tuple" vs.toArray 0)).push (seqObj "list" #[] 0)).get? ((s.heap.update a (Obj.mapSeq λ_=>#[])).push (seqObj "tuple" vs.toArray 0)).objs.size=some (seqObj "list" #[] 0):=aM _ rfl;have h2:(((s.heap.update a (Obj.mapSeq λ_=>#[])).push (seqObj "tuple" vs.toArray 0)).push (seqObj "list" #[] 0)).get? a=some (seqObj "list" #[] e1):=ah _ (ah _ h1);rw[sz] at hk;show wpAny (model prog w) A (ksk_rest a f false vs.toArray e1 (.ref ((s.heap.update a (Obj.mapSeq λ_=>#[])).push (seqObj "tuple" vs.toArray 0)).objs.size)) P E { s with heap:=((s.heap.update a (Obj.mapSeq λ_=>#[])).push (seqObj "tuple" vs.toArray 0)).push (seqObj "list" #[] 0) };rw[sz];generalize ((s.heap.update a (Obj.mapSeq λ_=>#[])).push (seqObj "tuple" vs.toArray 0)).push (seqObj "list" #[] 0)=h0 at old hk h2;have nk:∀b o,s.heap.get? b=some o->b≠s.heap.objs.size+1:=λb o q=>aR (bW (aF q))
 refine Sl (s:={ s with heap:=h0 }) (Ky:=Ky) (lt:=lt) hk h2 (cJ (bW ha)) few (λi v hv h3 tk k3=>?_) (λks h3 tk hl hK k3 l2=>?_) λp h3 tk c hp up k3 hc=>?_
 ·exact turn i v hv h3 tk λb o nb q=>k3 b o (nk b o q) (old b o nb q)
 ·exact kind ks h3 tk hl hK (λb o nb q=>k3 b o (nk b o q) (old b o nb q)) l2
 ·exact h p h3 tk c hp up (λb o nb q=>k3 b o nb (nk b o q) (old b o nb q)) hc
theorem OX {l f:Addr} {lt:Nat->Nat->Bool} {Ky:Nat->Value->Prop} {Q:Value->Shared->Prop} (hl:s.heap.IsList l vs.toArray) (few:vs.length<64)
  (turn:∀(i:Nat) (v:Value),vs[i]?=some v->∀(h:Heap) (tk:Nat),(∀b o,s.heap.get? b=some o->h.get? b=some o)->
   wpAny (model prog w) A.in1.in1 (call (.ref f) [v]) (λk s'=>Ky i k/\∃h' tk',s'={ s with heap:=h',toks:=tk' }/\∀b o,h.get? b=some o->h'.get? b=some o) (λ_ _=>False) { s with heap:=h,toks:=tk })
  (kind:∀(ks:List Value) (h':Heap) (tk:Nat),ks.length=vs.length->(∀i k,ks[i]?=some k->Ky i k)->(∀b o,s.heap.get? b=some o->h'.get? b=some o)->2<=vs.length->
   wpAny (model prog w) A.in1.in1 (keyKind' ks.toArray) (λκ s'=>s'={ s with heap:=h',toks:=tk }/\Ordr vs.length lt (kas_ask prog w A.in1.in1 κ ks) s') (λ_ _=>False) { s with heap:=h',toks:=tk })
  (q:∀h' tk p idx c,Jb vs.length idx->Gc lt idx vs.length->s.heap.objs.size<=p->(∀b o,s.heap.get? b=some o->h'.get? b=some o)->h'.get? p=some (seqObj "list" (Ec vs idx).toArray c)->Q (.ref p) { s with heap:=h',toks:=tk }) :
  wpAny (model prog w) A (call (.builtin "sorted") [.ref l] [(Str.ofString "key",.ref f)]) Q E s:=by
 refine call_function_entry_kw kind_sorted gL gN (ksk_s1 _ _) ?_;unfold Builtin.«sorted»;refine ae (m:=checkCount "sorted" 1 1 _) (ax (ae (collect_list hl ?_ (by rw[bE];omega))));refine ae (cW ?_ (by rw[bE];omega));have old:∀b o,s.heap.get? b=some o->((s.heap.push (seqObj "list" #[] 0)).update s.heap.objs.size (Obj.mapSeq λx=>x++vs.toArray)).get? b=some o:=λb o e=>(bz _ _ (cJ (aF e))).trans (ah _ e)
 have hsz:s.heap.objs.size<=((s.heap.push (seqObj "list" #[] 0)).update s.heap.objs.size (Obj.mapSeq λx=>x++vs.toArray)).objs.size:=by rw[cM,bT];exact gF _
 generalize (s.heap.push (seqObj "list" #[] 0)).update s.heap.objs.size (Obj.mapSeq λx=>x++vs.toArray)=h1 at old hsz ⊢;have there:(h1.push (seqObj "list" vs.toArray 0)).get? h1.objs.size=some (seqObj "list" vs.toArray 0):=aM _ rfl;have old2:∀b o,s.heap.get? b=some o->b≠h1.objs.size/\(h1.push (seqObj "list" vs.toArray 0)).get? b=some o:=λb o e=>⟨aR (aN (aF e) hsz),ah _ (old b o e)⟩
 generalize h1.push (seqObj "list" vs.toArray 0)=h2 at there old2 ⊢;refine ae (bM (wpAny_call_entry_kw (s:={ s with heap:=h2 }) fS ⟨_,there,rfl⟩ fH ?_ (ksk_l1 _ _)));rw[ksk_t1];refine Sd (s:={ s with heap:=h2 }) (lt:=lt) (Ky:=Ky) there few (λi v hv h3 tk k3=>?_) (λks h3 tk hl hK k3 l2=>?_) λp h3 tk c hp up k3 hc=>?_
 ·exact turn i v hv h3 tk λb o e=>k3 b o (old2 b o e).1 (old2 b o e).2
 ·exact kind ks h3 tk hl hK (λb o e=>k3 b o (old2 b o e).1 (old2 b o e).2) l2
 ·refine⟨_,rfl,?_⟩;exact ax ⟨_,rfl,q h3 tk _ p c hp up hsz (λb o e=>k3 b o (old2 b o e).1 (old2 b o e).2) hc⟩
end
end L2
namespace L2
section
open PySem PySem.W PySem.Calls PyProof.Rows
variable {prog:Program}{w:World}{A:Around}{s:Shared}
abbrev PN (qual:Str)(params:Arguments)(body:Expr)(scope:Scope)(cl:List (Str×Addr))(pm cv ctv:Value):Obj:={ cls:=.type "function",data:=.func (kla_fn "<lambda>" qual params body scope cl pm cv ctv) }
theorem SF {f a c':Addr} {qual x:Str} {params:Arguments} {scope:Scope} {pm ctv:Value} {j:Nat} {p1 p2 p3:Pos} {items:Array Value} {v:Value} (ho:s.heap.get? f=some (PN qual params (.Subscript (.Name x p1) (.Constant (.int j) 0 p2) p3) scope [] pm (.ref c') ctv)) (hcd:s.heap.CodeRec (.ref c') qual) (nl:s.heap.NoLimit) (room:A.depth<recursionLimit)
  (hb:∀u,bindArgs (kla_fn "<lambda>" qual params (.Subscript (.Name x p1) (.Constant (.int j) 0 p2) p3) scope [] pm (.ref c') ctv) ⟨[u],[]⟩=pure [(x,u)]) (hx:scope.names.lookup x=some .local) (hk:scope.kind=.function) (hco:scope.isCoroutine=false) (hge:scope.isGenerator=false) (hce:∀y∈scope.names,y.2≠.cell)
  (hd:(x == ("__debug__":Str))=false) (hj:j<1000) (ht:IsTup s.heap a items) (hi:items[j]?=some v) :
  wpAny (model prog w) A (call (.ref f) [.ref a]) (λk s'=>k=v/\∃h' tk',s'={ s with heap:=h',toks:=tk' }/\∀b o,s.heap.get? b=some o->h'.get? b=some o) (λ_ _=>False) s:=by
 refine gA (kla_callFunE room ho rfl hco hge rfl hcd ?_);rw[hb];refine ax (wpAny_newFunctionEnv hce (λy hy=>by rw[ai.mp hy];exact hx) (λh₁ hns hsb=>⟨nl.fresh _ hsb,?_⟩) hk);have k1:∀b o,s.heap.get? b=some o->h₁.get? b=some o:=λb o e=>hsb.extBut b o (aR (aF e)) (ah _ e)
 show codeAny _ _ (.expr _ (envX qual scope s.heap.objs.size f (.ref c') [])) _ _;have hv:[(x,Value.ref a)].reverse.lookup x=some (.ref a):=by simp
 have ht':=ht.keeps k1;have l1:j<items.size:=(dS.mp hi).1;refine kla_codeExpr (gr (gB (wpAny_loadName_local (v:=.ref a) (m:=λy=>[(x,Value.ref a)].reverse.lookup y) hk hx hns hv ?_) hd));refine fG ?_;exact fD (x:=v) ht'.typeIs slot_tuple_getitem.lookup (getItem_tuple (j:=j) ht' (by omega) (by omega) (by rw[fX (by omega) (by omega)];simp) hi ⟨rfl,rfl,_,_,rfl,k1⟩)
end
end L2
namespace L2
section
open PySem PySem.Spec PyProof.Rows
variable {X:Cx}{pins:List (Addr×Obj)}{σ:St}{H:Hp}{s:Shared}
def NZ (c:Addr)(qual:Str):HO:=.ext λh=>h.CodeRec (.ref c) qual
theorem RD {P:Program}{w:World}{h:Heap}{c:Addr}{qual:Str}(e:h.CodeRec (.ref c) qual):Ba P w H h c (NZ c qual):=by
 obtain⟨c2,o,vs,t,e1,e2,e3⟩:=id e;cases e1;exact⟨e,⟨o,e2⟩,λh1 h2 ⟨c3,o3,vs3,t3,z1,z2,z3⟩ k=>by cases z1;exact⟨_,o3,vs3,t3,rfl,k o3 z2,z3⟩⟩
def Ej (P:Addr)(qual:Str)(pos:Pos)(H:Hp):Prop:=H P=some (.tbl #[])\/∃c,H P=some (.tbl #[rawInt pos.line,rawInt pos.col,.ref c])/\H c=some (NZ c qual)
def DE (P:Addr)(H H':Hp):Prop:=∀b o,b≠P->H b=some o->H' b=some o
theorem DE.refl (P:Addr)(H:Hp):DE P H H:=λ_ _ _ h=>h
theorem DE.trans {P:Addr}{H H1 H2:Hp}(a:DE P H H1)(b:DE P H1 H2):DE P H H2:=λc o n h=>b c o n (a c o n h)
theorem Am.t {H H':Hp}(a:Am H H')(P:Addr):DE P H H':=λb o _ h=>a b o h
theorem Ej.some {P:Addr}{qual:Str}{pos:Pos}{H:Hp}(t:Ej P qual pos H):∃ps,H P=some (.tbl ps):=by
 rcases t with h|⟨c,h,_⟩
 ·exact⟨_,h⟩
 ·exact⟨_,h⟩
theorem Ej.same {P:Addr}{qual:Str}{pos:Pos}{H H':Hp}(t:Ej P qual pos H)(e:Am H H'):Ej P qual pos H':=by
 rcases t with h|⟨c,h,h2⟩
 ·exact .inl (e _ _ h)
 ·exact .inr ⟨c,e _ _ h,e _ _ h2⟩
theorem DE.free {P:Addr}{qual:Str}{pos:Pos}{H H':Hp}(e:DE P H H')(t:Ej P qual pos H'){l:Addr}(h:H' l=none):H l=none:=by
 cases q:H l with
 |none=>rfl
 |some o=>
  by_cases z:l=P
  ·obtain⟨ps,hp⟩:=t.some;rw[z,hp] at h;cases h
  ·rw[e l o z q] at h;cases h
theorem DE.get {P:Addr}{qual:Str}{pos:Pos}{H H':Hp}(e:DE P H H')(t:Ej P qual pos H){b:Addr}{o:HO}(h:H b=some o)(n:∀ps,o≠.tbl ps):H' b=some o:=by
 refine e b o (λz=>?_) h;obtain⟨ps,hp⟩:=t.some;rw[z,hp] at h;exact n ps (aA h).symm
theorem DE.sqT {P:Addr}{qual:Str}{pos:Pos}{K:PySem.W.Frag}{H H':Hp}{a:Addr}{xs:List V}(e:DE P H H')(t:Ej P qual pos H)(h:AL K H a xs):AL K H' a xs:=by
 rcases h with(h|⟨o,h⟩)|h
 ·exact .inl (.inl (e.get t h (by intro _ z;cases z)))
 ·exact .inl (.inr ⟨o,e.get t h (by intro _ z;cases z)⟩)
 ·exact .inr h
theorem DE.sqL {P:Addr}{qual:Str}{pos:Pos}{K:PySem.W.Frag}{H H':Hp}{a:Addr}{xs:List V}(e:DE P H H')(t:Ej P qual pos H)(h:AD K H a xs):AD K H' a xs:=by
 rcases h with(h|⟨o,h⟩)|h
 ·exact .inl (.inl (e.get t h (by intro _ z;cases z)))
 ·exact .inl (.inr ⟨o,e.get t h (by intro _ z;cases z)⟩)
 ·exact .inr h
theorem Inv.tabled {P:Addr}{ps more:Array Value}{h':Heap}{t':Nat}(I:Inv X pins σ H s)(hP:H P=some (.tbl ps))(k:∀b o,b≠P->s.heap.get? b=some o->h'.get? b=some o)(hP':h'.get? P=some { cls:=.none,data:=.fields (ps++more) }) :
  Inv X pins σ (upd H P (.tbl (ps++more))) { s with heap:=h',toks:=t' }:=by
 have nP:∀b,H b=none->b≠P:=λb e z=>by rw[z,hP] at e;cases e
 have nt:∀{b:Addr} {u:HO},H b=some u->(∀ps,u≠.tbl ps)->upd H P (.tbl (ps++more)) b=some u:=λ{b u} e n=>by
  rw[Ah λz=>by rw[z,hP] at e;exact n _ (aA e).symm];exact e
 refine I.step (g':=s.gens) (d':=s.drawn) (ch:=[]) (λ_ z=>nomatch z) (λb o _ _ _ e n=>k b o (nP b n) e) (λb o _ _ _ e n=>⟨o.slots,k b o (nP b n) e⟩) (λb o _ _ n=>by rw[Ah (nP b n)];exact n) (λb o _ e=>?_)
  (λb xs e=>nt e (by intro _ z;cases z)) (λb o u e=>nt e (by intro _ z;cases z)) (λb qs e=>?_) (λm hm=>?_) (λb u e=>?_) I.bare
 ·by_cases z:b=P
  ·exact⟨_,by rw[z];exact hP'⟩
  ·exact⟨o,k b o z e⟩
 ·by_cases z:b=P
  ·rw[z,hP] at e;cases e;exact⟨more,by rw[z,Ad]⟩
  ·exact⟨#[],by rw[Ah z,e];simp⟩
 ·obtain⟨o,es,ep,ho,r⟩:=hm;exact⟨o,es,ep,k _ o (nP _ I.free) ho,r⟩
 ·by_cases z:b=P
  ·rw[z,Ad] at e;cases e;rw[z];exact hP'
  ·rw[Ah z] at e;refine(I.hok b u e).stay (λc v hc q=>k c v ?_ q) (λc q=>nt q (by intro _ z;cases z)) λc xs q=>nt q (by intro _ z;cases z)
   rcases hc with rfl|hc
   ·exact z
   ·intro y;rw[y,hP] at hc;cases hc
theorem L8 {α:Type}:∀{ts:List (Addr×α)} {its:List Value},AG (ts.map λt=>V.ref t.1) its->its=ts.map λt=>Value.ref t.1
 |[],_,.nil=>rfl
 |t::ts,_,.cons r h=>by
  cases r;rw[ao,L8 h]
theorem Lb {α:Type}:∀(ts:List (Addr×α)),AG (ts.map λt=>V.ref t.1) (ts.map λt=>Value.ref t.1)
 |[]=>.nil
 |t::ts=>.cons rfl (Lb ts)
theorem Wm {α:Type}(d:α)(ts:List (Addr×α)){idx:Array Nat}{lt:Nat->Nat->Bool}{R:α->α->Prop}(hp:Jb ts.length idx)(up:Gc lt idx ts.length)(hR:∀i j,i<ts.length->j<ts.length->lt i j=true->R (ts.getD i (0,d)).2 (ts.getD j (0,d)).2) :
  ∃us:List (Addr×α),us.Perm ts/\Ec (ts.map λt=>Value.ref t.1) idx=us.map (λt=>Value.ref t.1)/\us.Pairwise λx y=>R x.2 y.2:=by
 have lt':∀i∈idx.toList,i<ts.length:=λi hi=>cy.mp (hp.2.mem_iff.mp hi)
 refine⟨idx.toList.map λi=>ts.getD i (0,d),?_,?_,?_⟩
 ·have h3:=hp.2.map λi=>ts.getD i (0,d)
  have e3:(List.range ts.length).map (λi=>ts.getD i (0,d))=ts:=by
   refine cg λi=>?_
   rw[az]
   by_cases hi:i<ts.length
   ·simp[hi]
   ·simp[hi]
  rw[e3] at h3;exact h3
 ·unfold Ec;rw[aq];refine bD λi hi=>?_
  have hl:=lt' i hi;simp[hl]
 ·rw[bg];intro i j hi hj hij;have hi':i<idx.size:=by simpa using hi
  have hj':j<idx.size:=by simpa using hj
  have h4:=up i j hij (by rw[<-hp.1];exact hj');have e5:idx.getD i 0=idx[i]:=by simp[Array.getD,hi']
  have e6:idx.getD j 0=idx[j]:=by simp[Array.getD,hj']
  rw[e5,e6] at h4;simp only[List.getElem_map,Array.getElem_toList];exact hR _ _ (lt' _ (by simp)) (lt' _ (by simp)) h4
theorem KN {α:Type}{d:α}{l:List α}(nd:l.Nodup){i j:Nat}(hi:i<l.length)(hj:j<l.length)(hij:i≠j):l.getD i d≠l.getD j d:=by
 have e1:l.getD i d=l[i]:=by simp[hi]
 have e2:l.getD j d=l[j]:=by simp[hj]
 rw[e1,e2];have pw:=bg.mp nd;intro z;rcases dN hij with q|q
 ·exact pw i j hi hj q z
 ·exact pw j i hj hi q z.symm
theorem Oy:∀{ks:List Value} {kz:List Int},ks.length=kz.length->(∀(i:Nat) k,ks[i]?=some k->∃t,k=.int (kz.getD i 0) t)->IntsAre ks kz
 |[],[],_,_=>.nil
 |[],_::_,h,_=>by cases h
 |_::_,[],h,_=>by cases h
 |k::ks,z::kz,h,hk=>by
  obtain⟨t,e⟩:=hk 0 k rfl;rw[show k=Value.int z t from e];exact .cons z t (Oy (by simpa using h) λi k' q=>by
   have:=hk (i+1) k' (by simpa using q);simpa using this)
theorem Q9 {prog:Program}{w:World}{A:Around}{ks:List Value}{kz:List Int}(nd:kz.Nodup)(hl:ks.length=kz.length)(hk:∀(i:Nat) k,ks[i]?=some k->∃t,k=.int (kz.getD i 0) t) :
  Ordr ks.length (λi j=>decide (kz.getD i 0<kz.getD j 0)) (PySem.W.kas_ask prog w A oneType' ks) s:=by
 refine⟨λi j C hi hj hij hC=>?_,λi j k _ _ _ h1 h2=>?_,λi j hi hj hij h1=>?_⟩
 ·obtain⟨t,e⟩:=hk i _ (ab hi);obtain⟨u,e'⟩:=hk j _ (ab hj);unfold PySem.W.kas_ask;rw[show ks.getD i Value.none=.int (kz.getD i 0) t by rw[<-e];simp[hi],show ks.getD j Value.none=.int (kz.getD j 0) u by rw[<-e'];simp[hj]];exact PySem.W.kat_lt_int hC
 ·rw[bj] at *;omega
 ·rw[d4] at h1;rw[bj];have:=KN (d:=0) nd (by omega:i<kz.length) (by omega:j<kz.length) hij;omega
end
end L2
namespace L2
section
open PySem PySem.Spec PyProof.Rows PySem.Calls
variable {X:Cx}
structure LamAt (K:PySem.W.Frag) (mg:Str->Option Value) (base:Heap) (cdv:Value) (P:Addr):Prop where
 code:∃c,cdv=.ref c/\PySem.W.codeHdIn K c P=true
 bm:∃bm ob,mg "__builtins__"=some (.ref bm)/\bm≠builtinsNs/\bm≠mainGlobals/\base.get? bm=some ob/\ob.cls=.type "module"/\ob.dict=some builtinsNs/\ob.data=.plain
structure LamTx (x:Str) (params:Arguments) (scope:Scope):Prop where
 bind:∀(qual:Str) (body:Expr) (pm cv ctv u:Value),bindArgs (PySem.W.kla_fn "<lambda>" qual params body scope [] pm cv ctv) ⟨[u],[]⟩=pure [(x,u)]
 dflt:∀env,defaultsOf params env=([],[])
 clos:∀env,closureFor scope env=pure []
 loc:scope.names.lookup x=some .local
 kind:scope.kind=.function
 co:scope.isCoroutine=false
 ge:scope.isGenerator=false
 ce:∀y∈scope.names,y.2≠.cell
 db:(x == ("__debug__":Str))=false
theorem To {params:Arguments} {body:Expr} {scope:Scope} {cl:List (Str×Addr)} {lp:Pos} {P:Addr} {pins:List (Addr×Obj)} {σ:St} {H:Hp} {s:Shared} {Q:Value->Shared->Prop} {E:Value->Shared->Prop} (dfl:∀env,defaultsOf params env=([],[])) (hcl:closureFor scope X.env=pure cl) (at_:LamAt X.K X.mg X.base X.env.code P) (I:Inv X pins σ H s) (tb:Ej P (X.env.qual++"<lambda>") lp H)
  (h:∀f c' pm ctv H2 s2,Inv X pins σ H2 s2->DE P H H2->Ej P (X.env.qual++"<lambda>") lp H2->s2.heap.get? f=some (PN (X.env.qual++"<lambda>") params body scope cl pm (.ref c') ctv)->s2.heap.CodeRec (.ref c') (X.env.qual++"<lambda>")->Q (.ref f) s2) :
  wpAny (model X.prog X.w) X.A (eval (.Lambda params body scope lp) X.env) Q E s:=by
 obtain⟨⟨c,hc,hcd⟩,bm,ob,b1,b2,b3,b4,b5,b6,b7⟩:=at_;have C:=gO I.kIn hcd;have hg:s.heap.Ns mainGlobals X.mg:=I.mod.glob.keeps I.bk;have atP:∀{ps:Array Value},H P=some (.tbl ps)->s.heap.get? P=some (PySem.W.tabObj ps):=λ{ps} e=>I.hok P _ e
 have hgP:∀{ps:Array Value},H P=some (.tbl ps)->mainGlobals≠P:=λ{ps} e q=>by
  obtain⟨o,es,ep,e1,hd,_⟩:=hg;rw[q,atP e] at e1;cases e1;cases hd
 have bb:∀{ps:Array Value},H P=some (.tbl ps)->s.heap.BuiltinsAt X.mg P:=λ{ps} e=>⟨bm,ob,b1,b2,b3,(λq=>by
  have e1:=I.bk _ _ b4;rw[q,atP e] at e1;cases e1;cases b5),I.bk _ _ b4,b5,b6,b7⟩
 refine PySem.W.kla_eval (dfl _) ?_;rcases tb with e|⟨c',e,e2⟩
 ·refine PySem.W.kla_makeFunction (ps:=#[]) (mg:=X.mg) hcl I.ok.glob hg hc C (atP e) trivial rfl (hgP e) (bb e) λc' ctv h' tk hx hge hlt hrec htb=>?_
  have k1:∀b o,b≠P->s.heap.get? b=some o->(h'.push (PySem.W.kla_obj "<lambda>" (X.env.qual++"<lambda>") params body scope cl ((X.mg "__name__").getD .none) c' ctv)).get? b=some o:=λb o nb q=>ah _ (hx b o nb q)
  have I2:=I.tabled (t':=tk) (more:=#[rawInt lp.line,rawInt lp.col,.ref c']) e k1 (ah _ htb);have hr2:(h'.push (PySem.W.kla_obj "<lambda>" (X.env.qual++"<lambda>") params body scope cl ((X.mg "__name__").getD .none) c' ctv)).CodeRec (.ref c') (X.env.qual++"<lambda>"):=by
   obtain⟨c2,o,vs,t,z1,z2,z3⟩:=hrec;exact⟨c2,o,vs,t,z1,ah _ z2,z3⟩
  have n0:s.heap.get? c'=none:=dR hge;have nP:c'≠P:=λz=>by rw[z,atP e] at n0;cases n0
  have nH:H c'=none:=I.hok.fresh hge;have n2:upd H P (.tbl (#[] ++ #[rawInt lp.line,rawInt lp.col,.ref c'])) c'=none:=by rw[Ah nP];exact nH
  obtain⟨m,hn,_⟩:=id I.loc;obtain⟨oL,_,_,hoL,_⟩:=id hn;have I3:=I2.know (e:=c') (o:=NZ c' (X.env.qual++"<lambda>")) (λxx=>by
   cases q:X.s₀.heap.get? c' with
   |none=>rfl
   |some o=>
    obtain⟨o',z⟩:=I.base.there c' o q xx;rw[n0] at z;cases z) (λz=>by rw[<-z,n0] at hoL;cases hoL) (λx c q z=>by
    obtain⟨w',oc,e1,_⟩:=I.cell x c q;rw[z,n0] at e1;cases e1) (λp hp z=>by
    have:=(I.pin p hp).1;rw[z,n0] at this;cases this) n2 (RD hr2)
  refine h _ c' _ ctv _ _ I3 (λb o nb q=>?_) (.inr ⟨c',?_,Ad⟩) (aM _ rfl) hr2
  ·rw[Ah (λz=>by rw[z,nH] at q;cases q),Ah nb];exact q
  ·rw[Ah (Ne.symm nP),Ad];rfl
 ·obtain⟨hr,_,_⟩:Ba X.prog X.w H s.heap c' (NZ c' (X.env.qual++"<lambda>")):=I.hok c' _ e2;refine PySem.W.kla_makeFunctionHit (cv:=.ref c') (mg:=X.mg) hcl I.ok.glob hg hc C (atP e) ?_ ?_ (bb e) λctv h' tk k hsz=>?_
  ·exact(TriplesOk_snoc lp.line lp.col (.ref c') [] trivial:TriplesOk ([]++[rawInt lp.line,rawInt lp.col,.ref c']))
  ·exact(codeAmong_snoc (pos:=lp) (c:=.ref c') [] trivial rfl:codeAmong lp ([]++[rawInt lp.line,rawInt lp.col,.ref c'])=some (.ref c'))
  ·have k1:∀b o,s.heap.get? b=some o->(h'.push (PN (X.env.qual++"<lambda>") params body scope cl ((X.mg "__name__").getD .none) (.ref c') ctv)).get? b=some o:=λb o q=>ah _ (k b o q)
   refine h _ c' _ ctv H _ (I.kept (t':=tk) k1) (.refl P H) (.inr ⟨c',e,e2⟩) (aM _ rfl) ?_;obtain⟨c2,o,vs,t,z1,z2,z3⟩:=hr;exact⟨c2,o,vs,t,z1,k1 _ _ z2,z3⟩
end
end L2
namespace L2
section
open PySem PySem.Spec PyProof.Rows PySem.Calls
variable {X:Cx}
def VW (K:PySem.W.Frag)(P:Addr)(qual:Str)(lp:Pos)(j:Nat)(ta:TA):TE:=λσ H Q=>ta σ H λvs H1=>∃(a:Addr) (ts:List (Addr×Int)),vs=[.ref a]/\AD K H1 a (ts.map λt=>V.ref t.1)/\ts.length<64/\(∀t∈ts,∃xs,AL K H1 t.1 xs/\xs[j]?=some (.int t.2))/\(ts.map (·.2)).Nodup/\Ej P qual lp H1/\
 ∀(us:List (Addr×Int)) p H2,us.Perm ts->us.Pairwise (λx y=>x.2<y.2)->DE P H1 H2->Ej P qual lp H2->H2 p=none->Q (.ref p) (upd H2 p (.lst (us.map λt=>V.ref t.1)))
theorem R7 {e:Expr} {ta:TA} {x:Str} {params:Arguments} {scope:Scope} {j:Nat} {P:Addr} {k:Nat} {p pos kp lp p1 p2 p3:Pos} {qual:Str} (hr:Room k X.A) (L:LamTx x params scope) (at_:LamAt X.K X.mg X.base X.env.code P) (hj:j<1000) (hq:X.env.qual++"<lambda>"=qual) (hg:Gl X "sorted") (hm:X.mg "sorted"=none) (ha:PA X [e] ta)
  (he:backTo pos (starEach [e] X.env)=(false,eval e X.env)::backTo pos (starEach [] X.env):=by rfl)
  (hpl:(backTo pos (starEach [e] X.env)).any (·.1)=false:=by rfl) :
  PE X (.Call (.Name "sorted" p) [e] [⟨some "key",.Lambda params (.Subscript (.Name x p1) (.Constant (.int j) 0 p2) p3) scope lp,kp⟩] pos) (VW X.K P qual lp j ta):=by
 subst hq;intro pins s σ H Q I h;refine cO (Jt I hg hm EK (NT hpl rfl ?_));have hsp:=ha pos pins s σ H _ I h;rw[he] at hsp ⊢;refine evalArgs_kwB rfl (Bc hsp λus s1 ⟨vs,H1,I1,r1,q1⟩=>?_);obtain⟨a,ts,rfl,hl,few,ht,nd,tb,q⟩:=q1;obtain⟨u,rfl,ru⟩:=vals1 r1;cases ru;refine kws_cons (To L.dflt (L.clos _) at_ I1 tb λf c' pm ctv H2 s2 I2 st tb2 hf hcr=>kws_nil ?_);obtain⟨its,rv,p1',hz⟩:=I2.list (st.sqL tb hl);have ei:=L8 rv;have li:its.length=ts.length:=by rw[ei,aa]
 have gk:∀i,i<ts.length->(ts.map (·.2)).getD i 0=(ts.getD i (0,0)).2:=λi hi=>by simp[hi]
 refine OX (vs:=its) (Ky:=λi k=>∃t,k=Value.int ((ts.map (·.2)).getD i 0) t) (lt:=λi j=>decide ((ts.map (·.2)).getD i 0<(ts.map (·.2)).getD j 0)) p1'.isList (by rw[li];exact few) (λi v hv h' tk k=>?_) (λks h' tk hlk hK k l2=>?_) λh' tk pp idx c hp up lp' k hc=>?_
 ·have il:i<ts.length:=by rw[<-li];exact(ay.mp hv).1
  have ev:v=.ref (ts[i]).1:=by
   rw[ei,az,ab il] at hv;exact(aA hv).symm
  subst ev;obtain⟨xs,hx,hxj⟩:=ht _ (bF il);obtain⟨ys,r2,hy,_⟩:=I2.tuple (st.sqT tb hx);obtain⟨y,hyj,ry⟩:=r2.get hxj;obtain⟨t,rfl⟩:=ry;have cr:h'.CodeRec (.ref c') (X.env.qual++"<lambda>"):=by
   obtain⟨c2,o,vs,t,z1,z2,z3⟩:=hcr;exact⟨c2,o,vs,t,z1,k _ _ z2,z3⟩
  refine bB (SF (s:={ s2 with heap:=h',toks:=tk }) (A:=X.A.in1.in1) (items:=ys.toArray) (j:=j) (v:=.int (ts[i]).2 t) (k _ _ hf) cr (I2.nolimit.keeps k) hr.depth (λu=>L.bind _ _ _ _ _ u) L.loc L.kind L.co L.ge L.ce L.db hj (hy.keeps k) (by simpa using hyj)) (λkv s' z=>?_) λ_ _ z=>z
  obtain⟨rfl,h3,tk3,rfl,k3⟩:=z;exact⟨⟨t,by rw[gk i il];simp[il]⟩,h3,tk3,rfl,k3⟩
 ·have hl2:ks.length=(ts.map (·.2)).length:=by rw[hlk,li,aa]
  rw[ksk_kind (kz:=ts.map (·.2)) (by simpa using Oy hl2 hK) (by rw[aK];omega)];refine ax ⟨rfl,?_⟩;have:=Q9 (prog:=X.prog) (w:=X.w) (A:=X.A.in1.in1) (s:={ s2 with heap:=h',toks:=tk }) nd hl2 hK;rw[hlk] at this;exact this
 ·rw[li] at hp up;obtain⟨us,u1,u2,u3⟩:=Wm (0:Int) ts (R:=λa b=>a<b) hp up λi j hi hj hlt=>by
   rw[bj,gk i hi,gk j hj] at hlt;exact hlt
  rw[ei,u2] at hc;refine⟨.ref pp,_,I2.laid (t':=tk) (o:=.lst (us.map λt=>V.ref t.1)) k lp' ?_,rfl,q us pp H2 u1 u3 st tb2 (I2.hok.fresh lp')⟩;refine⟨?_,_,c,Lb us,hc⟩;rw[aa,u1.length_eq,bE];omega
end
end L2
namespace L2
section
open PySem PySem.Spec PyProof.Rows
def PL (mg:Str->Option Value)(base:Heap):Prop:=∃bm ob,mg "__builtins__"=some (.ref bm)/\bm≠builtinsNs/\bm≠mainGlobals/\base.get? bm=some ob/\ob.cls=.type "module"/\ob.dict=some builtinsNs/\ob.data=.plain
def Su (Ts:List Addr)(H:Hp):Prop:=(∀P∈Ts,H P=some (.tbl #[]))/\∀b,H b=none\/(∃o xs,H b=some (.frz o (.lst xs)))\/(b∈Ts/\H b=some (.tbl #[]))
def Dx (own:Hp)(Ts:List Addr):Hp:=λb=>if b∈Ts then some (.tbl #[]) else own b
theorem Q4 {P:Program} {w:World} {K:PySem.W.Frag} {mg mb:Str->Option Value} {CX:RB} {k:Nat} {fa a:Addr} {fd:FuncData} {x:Str} {sp:Sp} {s₁:Shared} {vs:List Value} {ns:List Int} {Ts:List Addr}
  (KX:K.In s₁.heap) (hns:s₁.heap.Ns mainGlobals mg) (hb:s₁.heap.Ns builtinsNs mb) (hbb:∀x:Str,x≠"__name__"->mb x=bootBuiltins x) (hlim:s₁.heap.NoLimit) (hbm:PL mg s₁.heap) (hg:s₁.gens = #[])
  (tabs:∀T∈Ts,s₁.heap.get? T=some (PySem.W.tabObj #[])/\K.lookup T=none/\∃c,PySem.W.codeHdIn K c T=true)
  (ha:s₁.heap.get? a=some { cls:=.type "list",data:=.seq vs.toArray }) (hi:IntsAre vs ns) (hl:ns.length<=sizeLine) (hr:Room k callerA)
  (F:∀base:Heap,K.In base->base.Ns mainGlobals mg->PL mg base->FnOk P w K mg base CX k fa fd [x] sp) (hbind:∀(s:Shared) (u:Value),BindsTo s fd ⟨[u],[]⟩ [(x,u)])
  (hsp:∀H:Hp,Su Ts H->AD K H a (ns.map V.int)->sp [.ref a] H (λv _=>v=.bl true) λ_ _ _=>False)
  (hCX:∀H e s',CX [] H s₁ (λ_ _ _=>False) e s'->False) :
  codeAny (model P w) callerA (.call (.ref fa) ⟨[.ref a],[]⟩) (λr s'=>r=.ok (.ret (.bool true))/\OldK s₁.heap s'.heap/\s'.os=s₁.os/\AllBare s'.gens) s₁:=by
 have aT:a∉Ts:=λz=>by
  have:=(tabs a z).1;rw[ha] at this;cases this
 have core:∀own:Hp,(∀b,own b=none\/∃o xs,own b=some (.frz o (.lst xs)))->AD K own a (ns.map V.int)->HC P w own s₁.heap->(∀b,own b≠none->b=a)->(own a≠none->K.lookup a=none)->
   codeAny (model P w) callerA (.call (.ref fa) ⟨[.ref a],[]⟩) (λr s'=>r=.ok (.ret (.bool true))/\OldK s₁.heap s'.heap/\s'.os=s₁.os/\AllBare s'.gens) s₁:=by
  intro own hO hS hok hA hK;have inT:∀{b},b∈Ts->Dx own Ts b=some (.tbl #[]):=λ{b} h=>aG h
  have notT:∀{b},b∉Ts->Dx own Ts b=own b:=λ{b} h=>aJ h
  have only:Su Ts (Dx own Ts):=⟨λT hT=>inT hT,λb=>by
   by_cases z:b∈Ts
   ·exact .inr (.inr ⟨z,inT z⟩)
   ·rw[notT z];exact(hO b).imp id .inl⟩
  have hok':HC P w (Dx own Ts) s₁.heap:=λb u e=>by
   by_cases z:b∈Ts
   ·rw[inT z] at e;cases e;exact(tabs b z).1
   ·rw[notT z] at e;rcases hO b with q|⟨o,xs,q⟩
    ·rw[q] at e;cases e
    ·rw[q] at e;cases e;obtain⟨e1,e2⟩:=hok b _ q;exact⟨e1,e2⟩
  have free:∀{b:Addr} {o:Obj},s₁.heap.get? b=some o->o.cls≠.none->b≠a->Dx own Ts b=none:=λ{b o} e hc na=>by
   have z:b∉Ts:=λz=>by
    have:=(tabs b z).1;rw[e] at this;cases this;exact hc rfl
   rw[notT z];cases q:own b with
   |none=>rfl
   |some u=>exact absurd (hA b (by rw[q];simp)) na
  have freeN:∀{b:Addr} {o:Obj} {es:Array DictEntry} {ep:Nat},s₁.heap.get? b=some o->o.data=.dict es ep->Dx own Ts b=none:=λ{b o es ep} e d=>by
   have z:b∉Ts:=λz=>by
    have:=(tabs b z).1;rw[e] at this;cases this;cases d
   rw[notT z];cases q:own b with
   |none=>rfl
   |some u=>
    have:=hA b (by rw[q];simp);subst this;rw[ha] at e;cases e;cases d
  have nsK:∀{b:Addr} {m:Str->Option Value},s₁.heap.Ns b m->(Mw s₁.heap (Dx own Ts)).Ns b m:=λ{b m} ⟨o,es,ep,e,d,r⟩=>⟨o,es,ep,KZ e (freeN e d),d,r⟩
  have hKb:K.In (Mw s₁.heap (Dx own Ts)):=λb o e=>KZ (KX b o e) (by
   have z:b∉Ts:=λz=>by rw[(tabs b z).2.1] at e;cases e
   rw[notT z];cases q:own b with
   |none=>rfl
   |some u=>
    have e':b=a:=hA b (by rw[q];simp);subst e';rw[hK (by rw[q];simp)] at e;cases e)
  have hM:Mod K mg (Mw s₁.heap (Dx own Ts)):=⟨hKb,nsK hns,⟨mb,nsK hb,hbb⟩,let⟨mc,h1,h2⟩:=hlim;⟨mc,nsK h1,h2⟩⟩
  have hB:PL mg (Mw s₁.heap (Dx own Ts)):=by
   obtain⟨bm,ob,b1,b2,b3,b4,b5,b6⟩:=hbm;refine⟨bm,ob,b1,b2,b3,KZ b4 (free b4 (by rw[b5];intro z;cases z) λz=>?_),b5,b6⟩;rw[z,ha] at b4;cases b4;exact absurd b5 (by intro y;injection y with y;exact absurd y (by decide))
  have e0:Env0 P w K mg (Mw s₁.heap (Dx own Ts)) callerA [] s₁ (Dx own Ts):=⟨rfl,hM,λb o e=>Uu e,cS (QM _ _),trivial,λb hb=>absurd (show b∈([]:List Addr) from hb) (by simp),hok',.of_eq hg⟩
  have hS':AD K (Dx own Ts) a (ns.map V.int):=by
   rcases hS with(h|⟨o,h⟩)|h
   ·exact .inl (.inl (by rw[notT aT];exact h))
   ·exact .inl (.inr ⟨o,by rw[notT aT];exact h⟩)
   ·exact .inr h
  refine eR ((F _ hKb (nsK hns) hB).run callerA [] s₁ (Dx own Ts) ⟨[.ref a],[]⟩ [.ref a] [.ref a] _ _ hr e0 (hbind s₁ (.ref a)) (.cons rfl .nil) (hsp _ only hS')) λr s' h=>?_
  match r,h with
  | .error e,h=>exact(hCX _ e s' h).elim
  | .ok (.ret u),h=>
   obtain⟨v,H',os,bare,un,hok2,r',q⟩:=h;have q':v=.bl true:=q;subst q';obtain rfl:u=Value.bool true:=r';refine⟨rfl,⟨λb o e=>?_,λb o e=>?_⟩,os,bare⟩
   ·rcases only.2 b with z|⟨ob,xs,z⟩|⟨zT,z⟩
    ·exact .inl (un.keep b o e z (by intro y;exact absurd (show b∈([]:List Addr) from y) (by simp)) (by simp))
    ·obtain⟨e1,_⟩:=hok' b _ z;obtain⟨e2,_⟩:=hok2 b _ (un.frzs b ob _ z);rw[e] at e1;cases e1;exact .inl e2
    ·obtain⟨t1,_,c,t3⟩:=tabs b zT;obtain⟨more,m1⟩:=un.tbls b _ z;have m2:s'.heap.get? b=some { cls:=.none,data:=.fields (#[]++more) }:=hok2 b _ m1;rw[e] at t1;cases t1;exact .inr (.inl ⟨((gO KX t3).tab e).isCodeTable,rfl,#[],more,rfl,m2⟩)
   ·exact un.there b o e (by simp)
 cases hk:K.lookup a with
 |some o=>
  have e:=KX a o hk;rw[ha] at e;cases e;refine core (λ_=>none) (λ_=>.inl rfl) (.inr ⟨_,vs.toArray,_,hk,rfl,rfl,rfl,by rw[aK,hi.length];exact hl,by simpa using Ji hi⟩) (λb u z=>by cases(show(none:Option HO)=some u from z)) (λb z=>absurd rfl z) λz=>absurd rfl z
 |none=>
  refine core (λb=>if b=a then some (.frz { cls:=.type "list",data:=.seq vs.toArray } (.lst (ns.map V.int))) else none) (λb=>?_) (.inl (.inr ⟨{ cls:=.type "list",data:=.seq vs.toArray },aG rfl⟩)) (λb u z=>?_) (λb z=>?_) λ_=>hk
  ·by_cases hb:b=a
   ·exact .inr ⟨_,_,aG hb⟩
   ·exact .inl (aJ hb)
  ·by_cases hb:b=a
   ·cases(aG hb).symm.trans z;subst hb;exact⟨ha,by rw[aa];exact hl,vs,_,Ji hi,ha⟩
   ·cases(aJ hb).symm.trans z
  ·by_cases hb:b=a
   ·exact hb
   ·exact absurd (aJ hb) z
theorem RO {l:PySem.W.OpenLaw} {n k:Nat} {q:Program} {loose:List Str} {XP:(Str->Option Value)->Heap->Prop} {YP:World->Heap->Prop} {d:DefRec} {K:Params->PySem.W.Frag} {CX:World->RB} {sp:World->Sp} {x:Str} {Ts:List Addr}
  (hn:l.most=some n) (hn2:n<=sizeLine) (hdf:d.params.defaults=[]) (hr:Room k callerA)
  (hY:∀(w:World) (h:Heap),YP w h->(K w.params).In h) (hT:∀(w:World) (h:Heap),YP w h->∀T∈Ts,h.get? T=some (PySem.W.tabObj #[]))
  (F:∀(w:World) (mg:Str->Option Value) (fa:Addr) (h:Heap),(K w.params).In h->h.Ns mainGlobals mg->mg d.name=some (.ref fa)->
   ∃fd:FuncData,(∀(s:Shared) (u:Value),BindsTo s fd ⟨[u],[]⟩ [(x,u)])/\(∀T∈Ts,(K w.params).lookup T=none/\∃c,PySem.W.codeHdIn (K w.params) c T=true)/\
    ∀base:Heap,(K w.params).In base->base.Ns mainGlobals mg->PL mg base->FnOk l.prog w (K w.params) mg base (CX w) k fa fd [x] (sp w))
  (hsp:∀(w:World) (H:Hp) (a:Addr) (ns:List Int),ns.length<=n->Su Ts H->AD (K w.params) H a (ns.map V.int)->sp w [.ref a] H (λv _=>v=.bl true) λ_ _ _=>False)
  (hCX:∀(w:World) (H:Hp) (s:Shared) (e:Value) (s':Shared),CX w [] H s (λ_ _ _=>False) e s'->False) :
  PySem.W.WalkO q loose XP YP l.row.toRowW d [] (λf vs=>PySem.call f vs):=by
 refine Att.Ol hn hdf λw s₀ s₁ mg mb fa o pm cd doc a vs ns G Y ho hd hcd hmg hobj hints hlen hg=>?_
 have KX:=hY w _ Y;obtain⟨fd,hb,ht,hF⟩:=F w mg fa _ KX G.T.g hmg;have bm:PL mg s₁.heap:=by
  obtain⟨bm,ob,b1,b2,b3,b4,b5,b6⟩:=G.T.bmain;refine⟨bm,ob,b1,b2,λz=>?_,b3,b4,b5,b6⟩;obtain⟨o,es,ep,e,hd,_⟩:=G.T.g;rw[z,e] at b3;cases b3;rw[hd] at b6;cases b6
 exact Q4 KX G.T.g G.T.b G.T.builtins G.T.nolimit bm hg (λT h=>⟨hT w _ Y T h,ht T h⟩) hobj hints (bA hlen hn2) hr hF hb (λH hO hS=>hsp w H a ns hlen hO hS) λH e s'=>hCX w H s₁ e s'
theorem Fun.okC {P:Program} {w:World} {K:PySem.W.Frag} {mg:Str->Option Value} {base:Heap} {x qual:Str} {st:Stmt} {f:Addr} {fd:FuncData} {N ps:List Str} {k:Nat} {sp:Sp} (F:Fun K x qual st f fd) (S:FnScope N ps (Ai st)) (len:∀vs H Q E,sp vs H Q E->vs.length=ps.length)
  (hbody:∀(cdv:Value) (A:Around) (outer:List Env) (s:Shared) (H:Hp) (vs:List V) (Q:VK) (E:XK),fd.code=cdv->Room k (A.deeper (PyProof.Rows.envOfC qual (Ai st) s.heap.objs.size f cdv))->sp vs H Q E->
   ∃t,NN (Bh Cf P w K mg base N qual (Ai st) f cdv A outer s H E).nox (Aq st) t/\t { nx:=λ_ H'=>Q .non H',rt:=Q } (start N vs) H):FnOk P w K mg base Cf (k+1) f fd ps sp:=by
 obtain⟨oc,od,kV,doc,pm,an,cdv,ct,osl,rfl,lk,hcd⟩:=F.ex;refine Vn lk hcd S len λA outer s H vs Q E hr hsp=>?_
 obtain⟨t,h,q⟩:=hbody cdv A outer s H vs Q E rfl hr hsp;exact⟨t,h.nox,q⟩
end
end L2
namespace L2
end L2
namespace L2
section
open PySem
variable {α:Type}
theorem FG {J:It} {ps:List α} {g:α->V} {fr:List (Option Nat)} {k:Nat} {tt:TT} {te:TE} {Q:VK} {σ:St} {H:Hp} (p:α->Bool) (P:α->V->Hp->Prop) (hP:∀x y H1 H2,P x y H1->Am H1 H2->P x y H2)
  (hU:∀x y H1 l us us',P x y H1->H1 l=some (.lst us)->P x y (upd H1 l (.lst us'))) (hJ:Ie J H (ps.map g)) (hn:ps.length<=1000000)
  (htest:∀x∈ps,∀(H':Hp) (R:Bool->Hp->Prop),Am H H'->(∀H'',Am H' H''->R (p x) H'')->tt ((stC fr σ).set k (some (g x))) H' R)
  (helt:∀x∈ps,p x=true->∀(H':Hp) (R:VK),Am H H'->(∀y H'',Am H' H''->P x y H''->R y H'')->te ((stC fr σ).set k (some (g x))) H' R)
  (hQ:∀l H' (ys:List (α×V)),H l=none->Am H H'->H' l=some (.lst (ys.map (·.2)))->ys.map (·.1)=ps.filter p->(∀q∈ys,P q.1 q.2 H')->Q (.ref l) H'):Eo fr (Ay k) tt te σ Q J H:=by
 intro l hl;refine⟨λi m σ' H'=>m=ps.length-i/\i<=ps.length/\(∀y,σ'.set k y=(stC fr σ).set k y)/\Am H H'/\∃ys:List (α×V),H' l=some (.lst (ys.map (·.2)))/\ys.map (·.1)=(ps.take i).filter p/\∀q∈ys,P q.1 q.2 H',
  ⟨ps.length,by simp,bC _,λ_=>rfl,Ak hl _,[],by rw[Ad];rfl,rfl,λ_ h=>nomatch h⟩,?_⟩
 rintro i m σ' H' ⟨rfl,hi,hσ,hs,ys,hl',e1,hys⟩
 obtain⟨h1,h2,h3⟩:=hJ H' hs i;rw[aa] at h1 h2 h3
 by_cases hlt:i<ps.length
 ·refine .inr ⟨h1 hlt,λx H'' y=>?_⟩;obtain⟨rfl,hx⟩:=h2 x H'' y;have hx:=hx hlt;rw[az,ab hlt] at hx;cases hx;have hm:ps[i]∈ps:=bF hlt;have et:(ps.take (i+1)).filter p=(ps.take i).filter p++(if p ps[i]=true then[ps[i]] else[]):=by
   rw[aS,ab hlt,cV];cases q:p ps[i]<;>simp[q]
  have le:ys.length<=i:=by
   have a:=congrArg List.length e1;have b:=bq p (ps.take i);rw[aa] at a;rw[aV] at b;omega
  show tt (σ'.set k (some (g ps[i]))) H'' _;rw[hσ];refine htest _ hm H'' _ hs λH0 s0=>?_
  have hs0:=hs.trans s0;refine Et (λc=>?_) (λc=>?_)
  ·refine helt _ hm c H0 _ hs0 λv H4 s4' hv=>?_
   have s4:=s0.trans s4';have hl4:=s4.get hl';refine⟨_,hl4,AU (by rw[aa];omega),ps.length-(i+1),by omega,rfl,hlt,λy=>by rw[dg],AI (hs.trans s4) hl _,ys++[(ps[i],v)],?_,?_,λq hq=>?_⟩
   ·rw[Ad,aj];rfl
   ·rw[et,aG c,aj,e1];rfl
   ·rcases av.mp hq with h|h
    ·exact hU _ _ _ _ _ _ (hP _ _ _ _ (hys q h) s4) hl4
    ·rw[ai.mp h];exact hU _ _ _ _ _ _ hv hl4
  ·exact⟨ps.length-(i+1),by omega,rfl,hlt,λy=>by rw[dg],hs0,ys,s0.get hl',by rw[et,aJ c,cn];exact e1,λq hq=>hP _ _ _ _ (hys q hq) s0⟩
 ·have e:i=ps.length:=by omega
  subst e;exact .inl ⟨h3 (ar _),hQ l H' ys hl hs hl' (by rw[e1,aZ (ar _)]) hys⟩
theorem Vc {ys:List (α×V)}{f:α->V}(h:∀q∈ys,q.2=f q.1):ys.map (·.2)=(ys.map (·.1)).map f:=by
 rw[aq];exact bD λq hq=>h q hq
theorem EF {J:It} {ps:List α} {g:α->V} {fr:List (Option Nat)} {k:Nat} {tt:TT} {te:TE} {Q:VK} {σ:St} {H:Hp} (p:α->Bool) (f:α->V) (hJ:Ie J H (ps.map g)) (hn:ps.length<=1000000)
  (htest:∀x∈ps,∀(H':Hp) (R:Bool->Hp->Prop),Am H H'->(∀H'',Am H' H''->R (p x) H'')->tt ((stC fr σ).set k (some (g x))) H' R)
  (helt:∀x∈ps,p x=true->∀(H':Hp) (R:VK),Am H H'->(∀H'',Am H' H''->R (f x) H'')->te ((stC fr σ).set k (some (g x))) H' R)
  (hQ:∀l H',H l=none->Am H H'->H' l=some (.lst ((ps.filter p).map f))->Q (.ref l) H'):Eo fr (Ay k) tt te σ Q J H:=by
 refine FG p (λx y _=>y=f x) (λ_ _ _ _ h _=>h) (λ_ _ _ _ _ _ h _=>h) hJ hn htest (λx hx hp H' R s' hR=>helt x hx hp H' R s' λH'' s''=>hR _ H'' s'' rfl) λl H' ys nl s' h' e hq=>hQ l H' nl s' ?_
 rw[<-e,<-Vc hq];exact h'
theorem CH {J:It} {ps:List α} {g:α->V} {fr:List (Option Nat)} {k:Nat} {tt:TT} {te:TE} {Q:VK} {σ:St} {H:Hp} (p:α->Bool) (f:α->V) (hJ:Ie J H (ps.map g)) (hn:ps.length<=1000000)
  (htest:∀x∈ps,∀(H':Hp) (R:Bool->Hp->Prop),Am H H'->R (p x) H'->tt ((stC fr σ).set k (some (g x))) H' R)
  (helt:∀x∈ps,p x=true->∀(H':Hp) (R:VK),Am H H'->(∀H'',Am H' H''->R (f x) H'')->te ((stC fr σ).set k (some (g x))) H' R)
  (hQ:∀l H',H l=none->Am H H'->H' l=some (.lst ((ps.filter p).map f))->Q (.ref l) H'):Eo fr (Ay k) tt te σ Q J H:=
 EF p f hJ hn (λx hx H' R s' hR=>htest x hx H' R s' (hR H' (Am.refl _))) helt hQ
theorem QH {K:PySem.W.Frag} {J:It} {ps:List α} {g:α->Addr} {A B f:α->V} {fr:List (Option Nat)} {i0 i1 n:Nat} {te:TE} {Q:VK} {σ:St} {H:Hp} (hJ:Ie J H (ps.map λx=>V.ref (g x))) (hpr:∀x∈ps,H (g x)=some (.tup [A x,B x])) (hn:ps.length<=1000000) (h2:n=2) (hne:i0≠i1)
  (helt:∀x∈ps,∀(H':Hp) (R:VK),Am H H'->(∀H'',Am H' H''->R (f x) H'')->te (((stC fr σ).set i0 (some (A x))).set i1 (some (B x))) H' R)
  (hQ:∀l H',H l=none->Am H H'->H' l=some (.lst (ps.map f))->Q (.ref l) H'):Eo fr (Rn K n (G9 (Ay i0) (G9 (Ay i1) RE))) Oq te σ Q J H:=by
 subst h2;intro l hl;refine⟨λi m σ' H'=>m=ps.length-i/\i<=ps.length/\(∀y z,(σ'.set i0 y).set i1 z=((stC fr σ).set i0 y).set i1 z)/\Am H H'/\H' l=some (.lst ((ps.take i).map f)),⟨ps.length,by simp,bC _,λ_ _=>rfl,Ak hl _,by rw[Ad];rfl⟩,?_⟩
 rintro i m σ' H' ⟨rfl,hi,hσ,hs,hl'⟩
 obtain⟨h1,h2,h3⟩:=hJ H' hs i;rw[aa] at h1 h2 h3
 by_cases hlt:i<ps.length
 ·refine .inr ⟨h1 hlt,λx H'' y=>?_⟩;obtain⟨rfl,hx⟩:=h2 x H'' y;have hx:=hx hlt;rw[az,ab hlt] at hx;cases hx;have hm:ps[i]∈ps:=bF hlt;refine⟨g ps[i],_,rfl,AL.of (hs.get (hpr _ hm)),rfl,_,_,rfl,_,_,rfl,rfl,?_⟩;show te ((σ'.set i0 (some (A ps[i]))).set i1 (some (B ps[i]))) _ _;rw[hσ];refine helt _ hm H'' _ hs λH4 s4=>?_
  refine⟨_,s4.get hl',AU (by rw[aa,aV];omega),ps.length-(i+1),by omega,rfl,hlt,λy z=>?_,AI (hs.trans s4) hl _,?_⟩
  ·rw[List.set_comm _ _ (Ne.symm hne),dg,dg]
  ·rw[Ad,aS,ab hlt,aj];rfl
 ·have e:i=ps.length:=by omega
  subst e;exact .inl ⟨h3 (ar _),hQ l H' hl hs (by rw[hl',aZ (ar _)])⟩
end
end L2
namespace L2
section
open PySem
variable {X:Cx}{K:PySem.W.Frag}
theorem Io (h:X.K=K):Gv X (compareOp .In) (Ym K false):=by subst h;exact Rq
end
end L2
namespace L2
end L2
namespace L2
end L2
namespace L2
end L2
namespace L2
end L2
namespace L2
end L2
namespace L2
end L2
namespace L2
section
open PySem PySem.Calls PyProof.Rows PySem.Spec
def VP (K:PySem.W.Frag):List V->Hp->VK->Prop:=λxs H Q=>∃(a:Addr) (ps:List Addr) (kvs:List (Key×V)),xs=[.ref a]/\AD K H a (ps.map V.ref)/\ps.length=kvs.length/\kvs.length<=100000/\(kvs.map (·.1)).Nodup/\
 (∀(i:Nat) t k v,ps[i]?=some t->kvs[i]?=some (k,v)->H t=some (.tup [kV k,v]))/\∀d,H d=none->Q (.ref d) (upd H d (.dK kvs))
abbrev X3 (p:Key×V)(q:Key×Value×Value):Prop:=p.1=q.1/\RelV (kV p.1) q.2.1/\RelV p.2 q.2.2
theorem LK {X:Cx}{pins:List (Addr×Obj)}{σ:St}{H:Hp}{s:Shared}(I:Inv X pins σ H s):∀(ps:List Addr) (kvs:List (Key×V)),ps.length=kvs.length->(∀(i:Nat) t k v,ps[i]?=some t->kvs[i]?=some (k,v)->H t=some (.tup [kV k,v]))->
  ∃xs:List (Key×Value×Value),Paired X3 kvs xs/\∀(i:Nat) t,ps[i]?=some t->∃q,xs[i]?=some q/\IsTup s.heap t #[q.2.1,q.2.2]
 |[],[],_,_=>⟨[],.nil,λi t h=>by simp at h⟩
 |[],_::_,h,_=>by cases h
 |_::_,[],h,_=>by cases h
 |t::ps,(k,v)::kvs,ln,hp=>by
  obtain⟨xs,r,a⟩:=LK I ps kvs (by simpa using ln) λi t k v e1 e2=>hp (i+1) t k v (by simpa using e1) (by simpa using e2)
  obtain⟨_,its,rv,it⟩:=(show Ba X.prog X.w H s.heap t (.tup [kV k,v]) from I.hok t _ (hp 0 t k v rfl rfl))
  cases rv with
  |@cons _ wk _ _ ra rb=>
   cases rb with
   |@cons _ wv _ _ rb rc=>
    cases rc;refine⟨(k,wk,wv)::xs,.cons ⟨rfl,ra,rb⟩ r,λi t' e=>?_⟩;cases i with
    |zero=>simp only[List.getElem?_cons_zero,Option.some.injEq] at e;subst e;exact⟨_,rfl,it.is⟩
    |succ i=>exact a i t' (by simpa using e)
theorem Xl {kvs:List (Key×V)}{xs:List (Key×Value×Value)}(h:Paired X3 kvs xs):KV kvs (xs.map λq=>(q.1,q.2.2)):=by
 induction h with
 |nil=>exact .nil
 |cons r _ ih=>exact .cons ⟨r.1,r.2.2⟩ ih
theorem Vb {kvs:List (Key×V)}{xs:List (Key×Value×Value)}(h:Paired X3 kvs xs):xs.map (·.1)=kvs.map (·.1):=by
 induction h with
 |nil=>rfl
 |cons r _ ih=>rw[ao,ao,ih,r.1]
theorem Pu {X:Cx}{K:PySem.W.Frag}(hK:X.K=K)(hc:X.calm=true):DG X (.type "dict") (VP K):=by
 subst hK;intro pins s σ H xs us Q I r h;obtain⟨a,ps,kvs,rfl,h1,ln,hz,nd,hp,q⟩:=h;obtain⟨u,rfl,ru⟩:=vals1 r;cases ru;obtain⟨its,r1,⟨o1,n1,e1,c1,d1,s1⟩,_⟩:=I.list h1;obtain⟨xs,rx,tx⟩:=LK I ps kvs ln hp;have lx:xs.length=kvs.length:=(cY rx).symm;have ndx:(xs.map (·.1)).Nodup:=by rw[Vb rx];exact nd
 have li:its.length=ps.length:=by have:=r1.length;rw[aa] at this;exact this.symm
 obtain⟨c,dd,da,sl⟩:=o1;simp only at c1 d1 s1;subst c1 d1 s1;refine Ri (A:=X.A) (I.ok.hd hc) ⟨n1,_,e1⟩ (D:=λi h=>h.DictOf (AS X.prog X.w) s.heap.objs.size ((xs.take i).map λq:Key×Value×Value=>(q.1,q.2.2))) (λi h h' ⟨o,es,ep,z1,z2⟩ k=>⟨o,es,ep,k o z1,z2⟩) (λh e=>?_) (λi v e=>?_) λh' tk k' z=>?_
 ·obtain⟨o,es,ep,z1,z2⟩:=(Heap.DictOf.new (knd:=AS X.prog X.w) s.heap)
  have e2:(s.heap.push { cls:=.type "dict",data:=.dict #[] }).get? s.heap.objs.size=some { cls:=.type "dict",data:=.dict #[] }:=aM _ rfl;rw[e2] at z1;cases z1;exact⟨_,es,ep,e,z2⟩
 ·obtain⟨t,et,rfl⟩:=Ql r1 i v e;obtain⟨⟨k,wk,wv⟩,eq,ht⟩:=tx i t et;refine⟨t,wk,wv,rfl,ht,λs2 Q2 E2 old hm hQ=>?_⟩;have rk:RelV (kV k) wk:=by
   obtain⟨p,_,e1,e2,_⟩:=K4 rx (aC eq);rw[e1] at e2;exact e2
  have ts:xs.take (i+1)=xs.take i++[(k,wk,wv)]:=by rw[aS,eq];rfl
  have no:valueAt ((xs.take i).map λq:Key×Value×Value=>(q.1,q.2.2)) k=none:=by
   unfold valueAt;rw[cZ,cL];intro x hx z;have e:=aQ z;obtain⟨y,hy,rfl⟩:=af.mp hx;have:=ndx.sublist ((dc (i+1) xs).map _);rw[ts,aj,bI] at this;exact this.2.2 _ (af.mpr ⟨y,hy,rfl⟩) k (by simp) e
  refine wpAny_dictSet_pairs (hsz:=?_) (k:=k) (JT rk) hm λh' hm' sb=>hQ _ _ ?_ sb
  ·rw[stored_absent no] at hm';rw[ts,aj];exact hm'
  ·rw[aa,aV,bE];omega
 ·have hb:=I.big;rw[li,ln,<-lx,bS] at z;refine⟨.ref s.heap.objs.size,_,I.laid (o:=.dK kvs) k' (ar _) (Pe (by rw[bE];omega) ?_ (Xl rx) z),rfl,q _ I.fresh⟩;rw[cz];exact cJ hb
end
end L2
namespace L2
end L2
namespace L2
open PySem
end L2
namespace L2
end L2
namespace L2
end L2
namespace L2
end L2
namespace L2
end L2
namespace L2
end L2
namespace L2
end L2
namespace L2
end L2
namespace L2
end L2
namespace L2
open PySem PySem.Spec PyProof.Rows
end L2
namespace L2
end L2
namespace L2
noncomputable instance trDec:DecidableEq Tr:=λa b=>Classical.propDecidable (a=b)
end L2
namespace L2
end L2
namespace L2
section
open PySem PySem.Spec PyProof.Rows PySem.Calls
variable {X:Cx}
theorem NP (ns:List Int):∀k,k<ns.length->argBest (λi j=>decide (ns.getD i 0<ns.getD j 0)) k<=k/\∀i,i<=k->ns.getD (argBest (λi j=>decide (ns.getD i 0<ns.getD j 0)) k) 0<=ns.getD i 0
 |0,_=>⟨ar _,λi hi=>by rw[Nat.le_zero.mp hi];exact dA _⟩
 |k+1,h=>by
  obtain⟨h1,h2⟩:=NP ns k (by omega);show(if decide (_<_)=true then k+1 else _)<=_/\∀i,i<=k+1->ns.getD (if decide (_<_)=true then k+1 else _) 0<=_
  by_cases q:ns.getD (k+1) 0<ns.getD (argBest (λi j=>decide (ns.getD i 0<ns.getD j 0)) k) 0
  ·rw[aG (aE q)];refine⟨ar _,λi hi=>?_⟩
   by_cases e:i=k+1
   ·rw[e];exact dA _
   ·have:=h2 i (by omega);omega
  ·rw[aJ (by rw[ba q];exact aB)];refine⟨by omega,λi hi=>?_⟩
   by_cases e:i=k+1
   ·rw[e];omega
   ·exact h2 i (by omega)
def W0 (K:PySem.W.Frag):List V->Hp->VK->Prop:=λxs H Q=>∃(a:Addr) (ns:List Int),xs=[.ref a]/\AD K H a (ns.map V.int)/\ns≠[]/\∀m,m∈ns->(∀x∈ns,m<=x)->Q (.int m) H
theorem Q3 {K:PySem.W.Frag}(hK:X.K=K)(hc:X.calm=true):DG X (.builtin "min") (W0 K):=by
 subst hK;intro pins s σ H xs us Q I r h;obtain⟨a,ns,rfl,hq,ne,q⟩:=h;obtain⟨u,rfl,ru⟩:=vals1 r;cases ru;obtain⟨its,rv,p1,hz⟩:=I.list hq;have hi:=intsAre_of rv;have ln:its.length=ns.length:=IntsAre.length hi;have h2:0<ns.length:=bV.mpr ne;have ll:a<s.heap.objs.size:=let⟨_,ho,_⟩:=p1.isList;aF ho;refine call_min_walk (dy p1.isList ?_);refine⟨s.heap.objs.size,_,_,its.toArray.size,(λi v=>its.toArray[i]?=some v),_,(λi j=>decide (ns.getD i 0<ns.getD j 0)),rfl,gD (A:=X.A.in1) (show X.A.in1.handled=none from I.ok.hd hc) s.heap.objs.size a (aR ll) its.toArray,⟨⟨_,aM _ rfl,rfl,rfl⟩,p1.isList.at λo e=>ah _ e⟩,λb hb=>?_,by rw[aK];omega,CmpOf.ints_lt (λi=>ns.getD i 0) (λi v e=>G1 hi (by simpa using e)),λv h' tk hv k=>?_⟩
 ·rw[bT];rcases aL.mp hb with rfl|hb
  ·exact cR _
  ·rw[ai.mp hb];exact bW ll
 ·obtain⟨t,e⟩:=G1 hi (i:=argBest (λi j=>decide (ns.getD i 0<ns.getD j 0)) (ns.length-1)) (v:=v) (by rw[<-ln];simpa using hv);obtain⟨g1,g2⟩:=NP ns (ns.length-1) (by omega);have gl:argBest (λi j=>decide (ns.getD i 0<ns.getD j 0)) (ns.length-1)<ns.length:=by omega
  refine⟨.int (ns.getD (argBest (λi j=>decide (ns.getD i 0<ns.getD j 0)) (ns.length-1)) 0),H,I.kept (t':=tk) λb o e=>k b o ?_ (ah _ e),⟨t,e⟩,q _ ?_ λx hx=>?_⟩
  ·exact λz=>aR (aF e) (ai.mp z)
  ·rw[bK,ab gl];exact bF gl
  ·obtain⟨i,hi2,rfl⟩:=cj hx;have:=g2 i (by omega);rw[bK (i:=i),ab hi2] at this;exact this
end
end L2
namespace L2
end L2
namespace L2
end L2
namespace L2
open PySem
end L2
namespace L2
open PySem PySem.Spec PyProof.Rows
variable {X:Cx}
theorem NY:∀{vs:List V} {us:List Value},us.length=vs.length->(∀(j:Nat) v u,vs[j]?=some v->us[j]?=some u->RelV v u)->AG vs us
 |[],[],_,_=>.nil
 |[],_::_,h,_=>nomatch h
 |_::_,[],h,_=>nomatch h
 |v::vs,u::us,h,k=>.cons (k 0 v u rfl rfl) (NY (by simpa using h) λj v' u' e1 e2=>k (j+1) v' u' (by simpa using e1) (by simpa using e2))
def VB:List V->Hp->VK->Prop:=λxs H Q=>∃(d:Addr) (kvs:List (Key×V)),xs=[.ref d]/\H d=some (.dK kvs)/\kvs.length<=100000/\∀l,H l=none->Q (.ref l) (upd H l (.lst (kvs.map λp=>kV p.1)))
theorem PK (hc:X.calm=true):DG X (.type "list") VB:=by
 intro pins s σ H xs us Q I r h;obtain⟨d,kvs,rfl,h1,few,q⟩:=h;obtain⟨u,rfl,ru⟩:=vals1 r;cases ru;obtain⟨_,lo,vs,rv,o,es,ep,ho,h2,h3,h4⟩:Ba X.prog X.w H s.heap d (.dK kvs):=I.hok d _ h1;have D:s.heap.DictAt (AS X.prog X.w) d vs ep:=⟨o,es,ho,h2,h3,h4⟩
 have ln:vs.length=kvs.length:=rv.length.symm;refine PySem.W.kdl_call (fw (knd:=AS X.prog X.w) (kvs:=vs) (ep:=ep) lo) (I.ok.hd hc) D (by rw[ln,bE];omega) λh' tk acc c' hk e' hacc=>?_
 refine⟨.ref s.heap.objs.size,_,I.laid hk (ar _) (show Ba X.prog X.w _ h' _ (.lst (kvs.map λp=>kV p.1)) from⟨?_,acc.toList,c',NY ?_ λj v u e1 e2=>?_,by simpa using e'⟩),rfl,q _ I.fresh⟩
 ·rw[aa,bE];omega
 ·rw[aa,cm,hacc.1,ln]
 ·obtain⟨ky,x,a1,a2⟩:=hacc.2 j u (by rw[<-cD];exact e2);have e3:(kvs.map (·.1))[j]?=some ky:=by rw[<-Kh rv,az,a1];rfl
  rw[az] at e1 e3;cases z:kvs[j]? with
  |none=>rw[z] at e3;cases e3
  |some y=>
   rw[z] at e1 e3;injection e3 with e3
   injection e1 with e1
   have e3:y.1=ky:=e3;rw[<-e1];show RelV (kV y.1) u;rw[e3];exact IW a2
variable {X:Cx}
def Wr (X:Cx)(t:TE):TE:=λσ H Q=>t σ H λx H'=>∃d o kvs,(∀o u,X.H₀ d≠some (.frz o u))/\H' d=some (.frz o (.dK kvs))/\Q x (upd H' d (.dK kvs))
theorem Kw {e:Expr}{t:TE}(h:PE X e t):PE X e (Wr X t):=by
 intro pins s σ H Q I q;refine Bc (h pins s σ H _ I q) λv s' z9=>?_
 obtain⟨x,H',I',r,d,o,kvs,nf,hd,q⟩:=z9;exact⟨x,_,I'.thaw hd nf,r,q⟩
def TH (X:Cx)(t:TS):TS:=λD σ H=>t (Gw X D) σ H
theorem Tw {st:Stmt}{t:TS}(h:PS X st t):PS X st (TH X t):=by
 intro pins s σ H D I q;refine Bc (h pins s σ H (Gw X D) I q) λf s' q=>?_
 cases f with
 |next=>
  obtain⟨σ',H',I',d,o,kvs,nf,hd,q⟩:=q;exact⟨σ',_,I'.thaw hd nf,q⟩
 |brk=>obtain⟨σ',H',I',q⟩:=q;exact False.elim q
 |cont=>obtain⟨σ',H',I',q⟩:=q;exact False.elim q
 |ret v=>
  obtain⟨x,σ',H',I',r,d,o,kvs,nf,hd,q⟩:=q;exact⟨x,σ',_,I'.thaw hd nf,r,q⟩
theorem UR {K:PySem.W.Frag}(h:X.K=K)(hu:X.A.units+1<cLine):Gv X (compareOp .Eq) (V8 K false):=by subst h;exact TL hu
theorem Hv {d:Addr}{o:Obj}{H:Hp}{kvs:List (Key×V)}(h:H d=some (.frz o (.dK kvs))):Ie (Rz d o kvs) H (kvs.map λp=>kV p.1):=by
 intro H' s i;refine⟨λhi=>⟨s.get h,by rw[aa] at hi;exact hi⟩,?_,λhi=>⟨s.get h,by rw[aa] at hi;exact hi⟩⟩
 rintro x H'' ⟨rfl,k,v,e,rfl⟩
 exact⟨rfl,λ_=>by rw[az,e];rfl⟩
end L2
namespace M06
end M06
namespace M55
def Iq (p q:Int×Int):Prop:=p.1*q.2=q.1*p.2
def Ke (p q:Int×Int):Int×Int:=(p.1*q.2+q.1*p.2,p.2*q.2)
def sumF (ps:List (Int×Int)):Int×Int:=ps.foldl Ke (0,1)
theorem Jq {p q r:Int×Int}(hq:0<q.2)(h1:Iq p q)(h2:Iq q r):Iq p r:=by
 unfold Iq at *;have e:q.2*(p.1*r.2)=q.2*(r.1*p.2):=by grind
 exact Int.eq_of_mul_eq_mul_left (by omega) e
theorem Qk {p q p' q':Int×Int}(h1:Iq p p')(h2:Iq q q'):Iq (Ke p q) (Ke p' q'):=by
 unfold Iq Ke at *
 grind
theorem Rp (ps:List (Int×Int))(p:Int×Int):sumF (ps++[p])=Ke (sumF ps) p:=by simp[sumF]
theorem ND:∀(ps qs:List (Int×Int)) (a b:Int×Int),Iq a b->ps.length=qs.length->(∀(i:Nat) p q,ps[i]?=some p->qs[i]?=some q->Iq p q)->Iq (ps.foldl Ke a) (qs.foldl Ke b)
 |[],[],_,_,h,_,_=>h
 |p::ps,q::qs,a,b,h,hl,hp=>by
  rw[dE,dE];exact ND ps qs _ _ (Qk h (hp 0 p q rfl rfl)) (by simpa using hl) λi x y hx hy=>hp (i+1) x y (by simpa using hx) (by simpa using hy)
theorem T6 {ps qs:List (Int×Int)}(hl:ps.length=qs.length)(h:∀(i:Nat) p q,ps[i]?=some p->qs[i]?=some q->Iq p q):Iq (sumF ps) (sumF qs):=ND ps qs _ _ rfl hl h
theorem LI:∀(ps:List (Int×Int)) (a:Int×Int),0<a.2->(∀p∈ps,0<p.2)->0<(ps.foldl Ke a).2
 |[],_,h,_=>h
 |p::ps,a,h,hp=>by
  rw[dE];exact LI ps _ (eQ h (hp p aw)) λq hq=>hp q (aI _ hq)
theorem Od {ps:List (Int×Int)}(h:∀p∈ps,0<p.2):0<(sumF ps).2:=LI ps _ (by decide) h
theorem low {t b:Int}{g:Nat}(hb:0<b)(hg:g=Nat.gcd t.natAbs b.toNat):0<(g:Int)/\0<b/g/\t/g*b=t*(b/g)/\Nat.gcd (t/(g:Int)).natAbs (b/(g:Int)).natAbs=1/\(t/(g:Int)).natAbs<=t.natAbs/\(b/(g:Int)).natAbs<=b.natAbs/\(g:Int).natAbs<=b.natAbs:=by
 have hbn:0<b.toNat:=by omega
 have hgp:0<g:=by rw[hg];exact Nat.gcd_pos_of_pos_right _ hbn
 have eb:b.natAbs=b.toNat:=by omega
 have d1:(g:Int) ∣ t:=Int.ofNat_dvd_left.mpr (hg▸Nat.gcd_dvd_left _ _);have d2:(g:Int) ∣ b:=Int.ofNat_dvd_left.mpr (by rw[eb];exact hg▸Nat.gcd_dvd_right _ _);obtain⟨p,rfl⟩:=d1;obtain⟨q,rfl⟩:=d2;have g0:(g:Int)≠0:=by omega
 rw[fW _ g0,fW _ g0];have hq:0<q:=Int.pos_of_mul_pos_right hb (by omega);have e1:((g:Int)*p).natAbs=g*p.natAbs:=by rw[fN,eY]
 have e2:((g:Int)*q).natAbs=g*q.natAbs:=by rw[fN,eY]
 rw[<-eb,e1,e2,Nat.gcd_mul_left] at hg;have hg1:g*1=g*Nat.gcd p.natAbs q.natAbs:=by rw[Nat.mul_one];exact hg
 have hc:1=Nat.gcd p.natAbs q.natAbs:=Nat.eq_of_mul_eq_mul_left hgp hg1;refine⟨by omega,hq,by grind,hc.symm,?_,?_,?_⟩
 ·rw[e1];exact gi _ hgp
 ·rw[e2];exact gi _ hgp
 ·rw[e2,eY];exact Nat.le_mul_of_pos_right _ (by omega)
theorem above {p q d e p' q' d' e':Int}(hq:0<q)(he:0<e)(hq':0<q')(he':0<e')(h:p*e=d*q)(h':p'*e'=d'*q'):p*q'>p'*q↔d*e'>d'*e:=by
 have k1:0<e*e':=eQ he he';have k2:0<q*q':=eQ hq hq';have i1:(p*q')*(e*e')=(d*e')*(q*q'):=by grind
 have i2:(p'*q)*(e*e')=(d'*e)*(q*q'):=by grind
 constructor
 ·intro z;have z2:(p'*q)*(e*e')<(p*q')*(e*e'):=fL z k1;rw[i1,i2] at z2;exact fO z2 (eE k2)
 ·intro z;have z2:(d'*e)*(q*q')<(d*e')*(q*q'):=fL z k2;rw[<-i1,<-i2] at z2;exact fO z2 (eE k1)
end M55
set_option maxHeartbeats 4000000
namespace K57
local macro_rules | `(!$x) => do
  let (f, a) ← match x with | `($f:ident $a*) => pure (f, a) | `($f:ident) => pure (f, #[]) | _ => Lean.Macro.throwUnsupported
  let some (n, m, t) := ([([`Af, `AV, `AO, `C5, `Km], 1, 0, ""), ([`IC, `Cs], 2, 0, ""), ([`Al, `Da, `TC, `U1, `U3, `IV, `Ci, `Tw, `Kw], 3, 0, ""), ([`SY, `Av, `EO, `GK, `Hy, `KJ, `Ae, `Bb, `Cv, `BQ, `Jn, `II, `Iy], 4, 0, ""), ([`Bl], 4, 2, "r"), ([`KH, `Bq], 4, 3, "d"), ([`HA], 4, 5, "dd"), ([`KS, `Ag, `My, `UJ, `BF, `LX], 5, 0, ""), ([`BK], 5, 2, "f"), ([`Ab, `AJ], 5, 3, "r"), ([`Br, `HY, `G5, `Xb], 6, 0, ""), ([`Bn], 6, 4, "r"), ([`Ik], 6, 4, "rr"), ([`OR], 6, 5, "rrr"), ([`K1, `GS, `An, `JD, `VF, `Wp], 7, 0, ""), ([`BH, `Ao, `BR, `Ov, `Qx], 8, 0, ""), ([`CY], 8, 3, "f"), ([`EA, `AE], 8, 4, "f"), ([`Ve], 8, 6, "rr"), ([`Sj, `TM], 9, 0, ""), ([`E8], 9, 5, "f"), ([`Sk], 9, 7, "rr"), ([`Ax, `Bj], 9, 9, "ddrr"), ([`LG, `IB], 10, 0, ""), ([`AC], 10, 7, "drr"), ([`Mc], 11, 5, "tr"), ([`OU], 11, 7, "drr"), ([`Sg, `Nq], 12, 0, ""), ([`C4], 12, 11, "rrrrr"), ([`V2], 13, 7, "d"), ([`CZ], 14, 8, "rrr")] : List (List Lean.Name × Nat × Nat × String)).findSome? (λ(l, n) => if l.contains f.getId then some n else none) | Lean.Macro.throwUnsupported
  let u ← `(_)
  let us := Array.replicate n u
  let mut p := #[]
  for c in t.toList.drop (t.length + a.size - m) do
    let v ← if c == 'r' then `(by rfl) else if c == 'd' then `(by decide) else if c == 'f' then `(rfl) else `(by trivial)
    p := p.push v
  `(@$f $us* $a* $p*)
set_option hygiene false
local macro_rules | `(tactic| exists $t) => `(tactic| refine F.ok $t (fun vs H Q E h => ?_) (fun cdv A outer s H vs Q E hr h => ?_))
set_option hygiene true
local macro_rules | `(tactic| trivial) => `(tactic| first | exact .inl rfl | exact .inr rfl | assumption | exact ⟨rfl, rfl, rfl, by decide +kernel, rfl, by decide +kernel, by decide +kernel⟩ | exact L2.Room.mono (by assumption) (by decide))
open PySem L2 M06 M55
theorem HX : 0 <= sizeLine := small (by decide)
theorem Td : 1 <= sizeLine := small (by decide)
theorem Fy : 2 <= sizeLine := small (by decide)
theorem MD : 3 <= sizeLine := small (by decide)
theorem VR : 5 <= sizeLine := small (by decide)
def top (i:Nat):Stmt:=PySem.Challenge.pw_stemshelf_k57_shares.main.body.getD i (.Pass ⟨0,0,0,0⟩)
abbrev DZ:Stmt:=top 2
theorem JU:FnScope ["top","bottom","common"] ["top","bottom"] (Ai DZ):=by trivial
abbrev Cn:Stmt:=top 3
theorem Dy:FnScope ["one","other","rest"] ["one","other"] (Ai Cn):=by trivial
abbrev Fz:Stmt:=top 4
theorem Fx:FnScope ["some","total","top","bottom"] ["some"] (Ai Fz):=by trivial
abbrev DP:Stmt:=top 5
theorem NV:FnScope ["one","other"] ["one","other"] (Ai DP):=by trivial
abbrev D0:Stmt:=top 7
theorem Oa:FnScope ["thing"] ["thing"] (Ai D0):=by trivial
abbrev CM:Stmt:=top 8
theorem Lo:FnScope ["thing","least","most"] ["thing","least","most"] (Ai CM):=by trivial
abbrev Dq:Stmt:=top 12
theorem M7:FnScope ["sign"] ["sign"] (Ai Dq):=by trivial
abbrev EJ:Stmt:=top 14
theorem Pp:FnScope ["thing","least","most"] ["thing","least","most"] (Ai EJ):=by trivial
abbrev OB:Stmt:=inClass (top 20) 0
theorem UW:FnScope ["self","number"] ["self","number"] (Ai OB):=by trivial
abbrev CB:Stmt:=top 29
theorem Fb:FnScope ["thing","words","part"] ["thing"] (Ai CB):=by trivial
abbrev FI:Stmt:=inClass (top 31) 1
theorem Lj:FnScope ["self"] ["self"] (Ai FI):=by trivial
abbrev ED:Stmt:=top 49
theorem ON:FnScope ["thing"] ["thing"] (Ai ED):=by trivial
abbrev FA:Stmt:=top 55
theorem He:FnScope ["block","total","number"] ["block"] (Ai FA):=by trivial
abbrev B2:Stmt:=top 56
theorem Ck:FnScope ["block","told","name","kind","tag"] ["block"] (Ai B2):=by trivial
abbrev EI:Stmt:=top 57
theorem OL:FnScope ["block"] ["block"] (Ai EI):=by trivial
abbrev EC:Stmt:=top 58
theorem O6:FnScope ["block"] ["block"] (Ai EC):=by trivial
abbrev DL:Stmt:=top 70
theorem N6:FnScope ["head"] ["head"] (Ai DL):=by trivial
abbrev DM:Stmt:=top 71
theorem JX:FnScope ["head","stem","seals"] ["head","stem"] (Ai DM):=by trivial
abbrev Di:Stmt:=top 72
theorem Gn:FnScope ["head","keeper","tags","stem"] ["head","keeper"] (Ai Di):=by trivial
abbrev CQ:Stmt:=top 74
theorem C0:FnScope ["pool","head","holders","keeper","bound","number"] ["pool","head"] (Ai CQ):=by trivial
abbrev EB:Stmt:=top 75
theorem Gj:FnScope ["pool","tags","found","waiting","number"] ["pool","tags"] (Ai EB):=by trivial
abbrev DJ:Stmt:=top 76
theorem Os:FnScope ["pool","head","keeper"] ["pool","head","keeper"] (Ai DJ):=by trivial
abbrev DW:Stmt:=top 77
theorem JK:FnScope ["pool","holders","keeper","held"] ["pool","holders","keeper"] (Ai DW):=by trivial
abbrev DR:Stmt:=top 78
theorem JY:FnScope ["pool","head","keeper","holders"] ["pool","head","keeper"] (Ai DR):=by trivial
abbrev Cr:Stmt:=top 79
theorem KA:FnScope ["pool","head","keeper"] ["pool","head","keeper"] (Ai Cr):=by trivial
abbrev DS:Stmt:=top 80
theorem Nj:FnScope ["pool"] ["pool"] (Ai DS):=by trivial
abbrev EG:Stmt:=top 81
theorem Kv:FnScope ["pool","head","holders"] ["pool","head"] (Ai EG):=by trivial
abbrev Cq:Stmt:=inClass (top 85) 0
theorem KF:FnScope ["self","many"] ["self","many"] (Ai Cq):=by trivial
abbrev BB:Stmt:=inClass (top 87) 0
theorem Iz:FnScope ["self","own_tag","block"] ["self","own_tag","block"] (Ai BB):=by trivial
abbrev Dl:Stmt:=inClass (top 88) 0
theorem M9:FnScope ["self","boards"] ["self","boards"] (Ai Dl):=by trivial
abbrev DN:Stmt:=inClass (top 88) 1
theorem GO:FnScope ["self","block","birth","found","tag"] ["self","block","birth"] (Ai DN):=by trivial
abbrev CC:Stmt:=inClass (top 88) 2
theorem D3:FnScope ["self","block","unread","number","found"] ["self","block"] (Ai CC):=by trivial
abbrev Bd:Stmt:=inClass (top 88) 3
theorem Hw:FnScope ["self"] ["self"] (Ai Bd):=by trivial
abbrev Dn:Stmt:=inClass (top 88) 4
theorem Er:FnScope ["self","tag","block","cell","same_sum","named"] ["self","tag","block"] (Ai Dn):=by trivial
abbrev Bm:Stmt:=inClass (top 88) 5
theorem Im:FnScope ["self","folder"] ["self","folder"] (Ai Bm):=by trivial
abbrev BL:Stmt:=inClass (top 88) 6
theorem FE:FnScope ["self","folder","steps"] ["self","folder"] (Ai BL):=by trivial
abbrev CN:Stmt:=inClass (top 88) 7
theorem Lq:FnScope ["self","tag"] ["self","tag"] (Ai CN):=by trivial
abbrev De:Stmt:=inClass (top 88) 8
theorem IH:FnScope ["self","tag","cell"] ["self","tag"] (Ai De):=by trivial
abbrev BY:Stmt:=inClass (top 88) 13
theorem Ka:FnScope ["self"] ["self"] (Ai BY):=by trivial
abbrev DV:Stmt:=inClass (top 88) 14
theorem N1:FnScope ["self","number"] ["self","number"] (Ai DV):=by trivial
abbrev Dp:Stmt:=inClass (top 88) 15
theorem Nc:FnScope ["self","number"] ["self","number"] (Ai Dp):=by trivial
abbrev Df:Stmt:=inClass (top 88) 17
theorem Mx:FnScope ["self","number"] ["self","number"] (Ai Df):=by trivial
abbrev Ca:Stmt:=inClass (top 88) 18
theorem J3:FnScope ["self","number"] ["self","number"] (Ai Ca):=by trivial
abbrev Dj:Stmt:=inClass (top 88) 19
theorem L9:FnScope ["self","number"] ["self","number"] (Ai Dj):=by trivial
abbrev B1:Stmt:=top 90
theorem J9:FnScope ["_law_script","_law_k"] ["_law_script","_law_k"] (Ai B1):=by trivial
abbrev DI:Stmt:=top 91
theorem Ea:FnScope ["_law_cell","_law_many","_law_found","_law_k","_law_number"] ["_law_cell","_law_many"] (Ai DI):=by trivial
abbrev CK:Stmt:=top 92
theorem By:FnScope ["_law_row_here","_law_many","_law_signs","_law_word","_law_at","_law_found","_law_k","_law_one"] ["_law_row_here","_law_many"] (Ai CK):=by trivial
abbrev Dk:Stmt:=top 93
theorem I0:FnScope ["_law_row_here","_law_at","_law_signs"] ["_law_row_here","_law_at"] (Ai Dk):=by trivial
abbrev DO:Stmt:=top 94
theorem JQ:FnScope ["_law_pool","_law_blocks_here","_law_block","_law_birth","_law_tag"] ["_law_pool","_law_blocks_here","_law_block","_law_birth"] (Ai DO):=by trivial
abbrev B9:Stmt:=top 95
theorem BN:FnScope ["_law_row_here","_law_at","_law_names_here","_law_files","_law_folders","_law_found","_law_k","_law_number","_law_kind","_law_name"] ["_law_row_here","_law_at","_law_names_here","_law_files","_law_folders"] (Ai B9):=by trivial
abbrev Cp:Stmt:=top 96
theorem AY:FnScope ["_law_script","_law_pool","_law_names_here","_law_blocks_here","_law_row_here","_law_pieces","_law_rows","_law_k","_law_some","_law_folders","_law_more"] ["_law_script","_law_pool","_law_names_here"] (Ai Cp):=by trivial
abbrev CS:Stmt:=top 97
theorem D5:FnScope ["_law_entries_here","_law_stem","_law_number","_law_own","_law_least","_law_seals"] ["_law_entries_here","_law_stem","_law_number"] (Ai CS):=by trivial
abbrev Dc:Stmt:=top 98
theorem AX:FnScope ["_law_script","_law_names_here","_law_folders","_law_row_here","_law_keepers","_law_k","_law_bound","_law_entries_here","_law_tag","_law_which","_law_stem"] ["_law_script","_law_names_here","_law_folders"] (Ai Dc):=by trivial
abbrev Dh:Stmt:=top 99
theorem Mr:FnScope ["_law_block"] ["_law_block"] (Ai Dh):=by trivial
abbrev Cc:Stmt:=top 100
theorem C6:FnScope ["_law_blocks_here","_law_tags_here","_law_found","_law_waiting","_law_number"] ["_law_blocks_here","_law_tags_here"] (Ai Cc):=by trivial
abbrev Do:Stmt:=top 101
theorem CJ:FnScope ["_law_blocks_here","_law_head_here","_law_held_here","_law_keeper","_law_bound","_law_stems","_law_tags_here"] ["_law_blocks_here","_law_head_here"] (Ai Do):=by trivial
abbrev BP:Stmt:=top 102
theorem HB:FnScope ["_law_thing"] ["_law_thing"] (Ai BP):=by trivial
abbrev Cm:Stmt:=top 103
theorem GY:FnScope ["_law_one","_law_other"] ["_law_one","_law_other"] (Ai Cm):=by trivial
abbrev CG:Stmt:=top 104
theorem Lp:FnScope ["_law_thing"] ["_law_thing"] (Ai CG):=by trivial
abbrev BO:Stmt:=top 105
theorem Jw:FnScope ["_law_found","_law_top","_law_bottom"] ["_law_found","_law_top","_law_bottom"] (Ai BO):=by trivial
abbrev Dd:Stmt:=top 106
theorem Be:FnScope ["_law_blocks_here","_law_held_here","_law_keeper","_law_top","_law_alone","_law_whole_here","_law_number","_law_many","_law_size"] ["_law_blocks_here","_law_held_here","_law_keeper"] (Ai Dd):=by trivial
abbrev CO:Stmt:=top 107
theorem C2:FnScope ["_law_pool","_law_blocks_here","_law_head_here","_law_held_here","_law_keeper","_law_top","_law_alone","_law_whole_here","_law_found"] ["_law_pool","_law_blocks_here","_law_head_here","_law_held_here","_law_keeper"] (Ai CO):=by trivial
abbrev IM:Stmt:=top 108
theorem Cy:FnScope ["_law_script","_law_cell","_law_names_here","_law_pool","_law_blocks_here","_law_folders","_law_head_here","_law_held_here","_law_keepers","_law_keeper","_law_space","_law_due","_law_found","_law_sizes","_law_number","_law_whole_here"] ["_law_script"] (Ai IM):=by trivial
structure Txt (K:W.Frag) (mg:Str->Option Value) (Aj:Addr) (Aa:Addr) (Ac:Addr) (XC:Nat->Addr):Prop where
 cl_Boards:Ja K Aj
 n_Boards_shelves:BU K Aj "shelves"
 n_Boards_writes:BU K Aj "writes"
 n_Boards_writes_left:BU K Aj "writes_left"
 cl_TakenCell:Ja K Aa
 n_TakenCell_own_tag:BU K Aa "own_tag"
 n_TakenCell_own_size:BU K Aa "own_size"
 n_TakenCell_named:BU K Aa "named"
 n_TakenCell_times_named:BU K Aa "times_named"
 n_TakenCell_entries_beneath:BU K Aa "entries_beneath"
 n_TakenCell_steps_beneath:BU K Aa "steps_beneath"
 cl_Pool:Ja K Ac
 n_Pool_boards:BU K Ac "boards"
 n_Pool_taken:BU K Ac "taken"
 n_Pool_by_sums:BU K Ac "by_sums"
 n_Pool_draft:BU K Ac "draft"
 n_Pool_first_maybe_free:BU K Ac "first_maybe_free"
 x_Lost:mg "Lost"=some (.ref (XC 0))
 b_abs:mg "abs"=none
 b_all:mg "all"=none
 b_bool:mg "bool"=none
 b_dict:mg "dict"=none
 b_int:mg "int"=none
 b_isinstance:mg "isinstance"=none
 b_len:mg "len"=none
 b_list:mg "list"=none
 b_max:mg "max"=none
 b_min:mg "min"=none
 b_range:mg "range"=none
 b_sorted:mg "sorted"=none
 b_str:mg "str"=none
 b_sum:mg "sum"=none
 b_tuple:mg "tuple"=none
 c_SIGNS:∃t,mg "SIGNS"=some (.str (PySem.Str.ofString " !\"#$&'()*+,-./0123456789:;<=>?@ABCDEFGHIJKLMNOPQRSTUVWXYZ[\\]^_`abcdefghijklmnopqrstuvwxyz{|}~") t)
 c_NUMBER_WORD:∃t,mg "NUMBER_WORD"=some (.int 0 t)
 c_TEXT_WORD:∃t,mg "TEXT_WORD"=some (.int 1 t)
 c_TUPLE_WORD:∃t,mg "TUPLE_WORD"=some (.int 2 t)
 c_PIECE:∃t,mg "PIECE"=some (.int 0 t)
 c_ROW:∃t,mg "ROW"=some (.int 1 t)
 c_FOLDER:∃t,mg "FOLDER"=some (.int 2 t)
 c_FOLDER_ENTRY:∃t,mg "FOLDER_ENTRY"=some (.int 2 t)
 c_NAME_SIGNS:∃t,mg "NAME_SIGNS"=some (.str (PySem.Str.ofString "0123456789abcdefghijklmnopqrstuvwxyz") t)
 c_MOST_NAME_SIGNS:∃t,mg "MOST_NAME_SIGNS"=some (.int 8 t)
 c_SUM_RESTS:∃t,mg "SUM_RESTS"=some (.int 997 t)
 c_STEM:∃t,mg "STEM"=some (.int 1 t)
 c_SEAL:∃t,mg "SEAL"=some (.int 2 t)
 c_LEAST_BOARDS:∃t,mg "LEAST_BOARDS"=some (.int 2 t)
 c_MOST_BOARDS:∃t,mg "MOST_BOARDS"=some (.int 4 t)
abbrev SG:Str:=PySem.Str.ofString " !\"#$&'()*+,-./0123456789:;<=>?@ABCDEFGHIJKLMNOPQRSTUVWXYZ[\\]^_`abcdefghijklmnopqrstuvwxyz{|}~"
theorem V5:SG.cps.toList.length=94:=by decide +kernel
theorem T1:∀k:Nat,k<94->PySem.Txt.find SG ⟨#[SG.cps.toList.getD k 0]⟩=(k:Int):=by decide +kernel
section
variable {P:Program}{w:World}{K:W.Frag}{mg:Str->Option Value}{base:Heap}{f Aj Aa Ac:Addr}{XC:Nat->Addr}{fd:FuncData}
def Dm (K:W.Frag):Sp:=λvs H Q _=>∃v,vs=[v]/\Ok H v/\Q (.bl (GT H v)) H
theorem Nx (T:Txt K mg Aj Aa Ac XC)(F:Fun K "is_whole" "is_whole" D0 f fd):FnOk P w K mg base Cf 1 f fd ["thing"] (Dm K):=by
 exists Oa
 ·obtain⟨c,rfl,_⟩:=h;rfl
 obtain⟨v,rfl,ok,q⟩:=h;refine⟨_,(!Al (!Av (!K1 (!Ax Bz (by rfl) T.b_isinstance A1 (!Ab (pv 0) (!Ab (!HA rfl T.b_int JB) (!Af)))) (!KS (!SY (!Ax Bz (by rfl) T.b_isinstance A1 (!Ab (pv 0) (!Ab (!HA rfl T.b_bool Qp) (!Af))))))))),?_⟩;exact P9 _ _ (λR q=>⟨_,rfl,_,_,_,_,rfl,ok.ty K,ok.kit K,q⟩) (λ_ R q=>⟨_,rfl,_,_,_,_,rfl,ok.ty K,ok.kit K,_,rfl,q⟩) q
def Fl (K:W.Frag):Sp:=λvs H Q _=>∃v a b,vs=[v,.int a,.int b]/\Ok H v/\Q (.bl (R6 a b v)) H
theorem Ln (T:Txt K mg Aj Aa Ac XC)(F:Fun K "is_between" "is_between" CM f fd)(BE:Def P w K mg base 1 "is_whole" ["thing"] (Dm K)):FnOk P w K mg base Cf 2 f fd ["thing","least","most"] (Fl K):=by
 exists Lo
 ·obtain⟨v,a,b,rfl,_⟩:=h;rfl
 obtain⟨v,a,b,rfl,ok,q⟩:=h;refine⟨_,(!Al (!Av (!K1 (!AC BE (by trivial) rfl (!Ab (pv 0) (!Af))) (!KS (!Sg NR NR (pv 1) (pv 0) (pv 2) (by with_unfolding_all rfl)))))),?_⟩;refine P9 (GT H v) (R6 a b v) (λR q=>⟨_,rfl,v,rfl,ok,q⟩) (λhw R q=>?_) ?_
 ·obtain⟨i,rfl⟩:=RL ok hw;refine⟨_,rfl,_,rfl,_,_,rfl,rfl,_,rfl,?_⟩;refine Et (λc=>?_) (λc=>?_)
  ·have e:R6 a b (.int i)=decide (i<=b):=by show(decide (a<=i)&&decide (i<=b))=_;rw[c];rfl
   rw[e] at q;exact⟨_,rfl,_,_,rfl,rfl,q⟩
  ·have e:R6 a b (.int i)=false:=by show(decide (a<=i)&&decide (i<=b))=_;rw[di.mpr c];rfl
   rw[e] at q;exact q
 ·cases hw:GT H v with
  |true=>exact q
  |false=>rw[Ur hw] at q;exact q
def BJ (t:Str)(z:Str):Bool:=(Bg z).all λc=>decide (c∈Bg t)
def IY (a b:Int):V->Bool
 | .str z=>decide (a<=(z.length:Int))&&decide ((z.length:Int)<=b)&&BJ SG z
 |_=>false
theorem RI {H:Hp}{v:V}{a b:Int}(h:isA (HV H v) "str"=false):IY a b v=false:=by
 cases v with
 |str z=>exact absurd (show isA "str" "str"=false from h) (by decide)
 |_=>rfl
def HZ (K:W.Frag):Sp:=λvs H Q _=>∃v a b,vs=[v,.int a,.int b]/\Ok H v/\∀H',Am H H'->Q (.bl (IY a b v)) H'
theorem LZ (t z:Str):((Bg z).map λc=>V.str ⟨#[c]⟩).map (λv=>match v with|V.str y=>V.bl (!(Builtin.Str.occurrences t y 0 t.length 1).isEmpty)|_=>V.non)=((Bg z).map λc=>decide (c∈Bg t)).map V.bl:=by
 rw[aq,aq];refine bD λc _=>?_
 show V.bl (!(Builtin.Str.occurrences t ⟨#[c]⟩ 0 t.length 1).isEmpty)=V.bl (decide (c∈Bg t));rw[PySem.StrLaws.found_one]
theorem OW (T:Txt K mg Aj Aa Ac XC)(F:Fun K "is_text" "is_text" EJ f fd):FnOk P w K mg base Cf 1 f fd ["thing","least","most"] (HZ K):=by
 exists Pp
 ·obtain⟨v,a,b,rfl,_⟩:=h;rfl
 obtain⟨v,a,b,rfl,ok,q⟩:=h;refine⟨_,(!Ag (!BH (@PW.pt _ _ _ (!GS (!EO (!Da (!Ax Bz (by rfl) T.b_isinstance A1 (!Ab (pv 0) (!Ab (!HA rfl T.b_str Pm) (!Af)))) (by intro _;rfl))) (!GK (!EO (!Nq NR NR (pv 1) (!Ax Ey (by rfl) T.b_len BW (!Ab (pv 0) (!Af))) (pv 2) (by with_unfolding_all rfl)))))) (!Al (!Av (!Hy))) (!AV)) (!Al (!Av (!Ax (Nu rfl) (by rfl) T.b_all Tv (!Ab (@BX _ ["sign"] _ _ _ _ _ _ _ _ _ _ rfl (!KJ (pv 0)) (by decide +kernel) (λC s H fp=>⟨(@Ap _ _ (0) _ (show(["sign"]:List Str).Nodup by decide +kernel) rfl (by trivial) (by trivial)),(!AO),(!EA L6 (pv 0) (!KH rfl T.c_SIGNS))⟩) (by intro _;rfl)) (!Af)))))),?_⟩;refine⟨_,rfl,_,_,_,_,rfl,ok.ty K,ok.kit K,_,rfl,?_⟩;cases hw:isA (HV H v) "str" with
 |false=>
  refine Fe rfl ?_;have:=q H (Am.refl _);rw[RI hw] at this;exact this
 |true=>
  refine Bi rfl ?_;obtain⟨z,rfl,hz⟩:=VQ ok hw;have zl:=A3 z;refine⟨_,rfl,_,rfl,_,rfl,small (by omega),_,_,rfl,rfl,_,rfl,?_⟩;refine Et (λc=>?_) (λc=>?_)
  ·refine⟨_,rfl,_,_,rfl,rfl,_,rfl,?_⟩;refine Et (λd=>?_) (λd=>?_)
   ·have d':decide ((z.length:Int)<=b)=false:=by simpa using d
    have e:IY a b (.str z)=false:=by show(decide (a<=(z.length:Int))&&decide ((z.length:Int)<=b)&&BJ SG z)=_;rw[d',Bool.and_false];rfl
    have:=q H (Am.refl _);rw[e] at this;exact this
   ·have d':decide ((z.length:Int)<=b)=true:=by simpa using d
    refine⟨_,rfl,z,rfl,?_⟩;refine comp_map (λv=>match v with | .str y=>.bl (!(Builtin.Str.occurrences SG y 0 SG.length 1).isEmpty)|_=>.non) G0 (by rw[aa];exact bA (cS zl) (by omega)) (λx H' R hx s' hR=>?_) λl H7 n7 s7 h7=>?_
    ·obtain⟨u,_,rfl⟩:=af.mp hx;exact⟨_,rfl,_,_,rfl,rfl,hR H' (Am.refl _)⟩
    rw[LZ] at h7;refine⟨l,_,rfl,AD.of h7,?_⟩;have e:IY a b (.str z)=((Bg z).map λc=>decide (c∈Bg SG)).all id:=by
     show(decide (a<=(z.length:Int))&&decide ((z.length:Int)<=b)&&BJ SG z)=_;unfold BJ;rw[c,d',gp];rfl
    have:=q H7 s7;rw[e] at this;exact this
  ·have c':decide (a<=(z.length:Int))=false:=di.mpr c;have e:IY a b (.str z)=false:=by show(decide (a<=(z.length:Int))&&decide ((z.length:Int)<=b)&&BJ SG z)=_;rw[c',Bool.false_and];rfl
   have:=q H (Am.refl _);rw[e] at this;exact⟨_,rfl,this⟩
abbrev NS:Str:=PySem.Str.ofString "0123456789abcdefghijklmnopqrstuvwxyz"
abbrev LN:Str:=PySem.Str.ofString "abcdefghijklmnopqrstuvwxyz0123456789"
theorem Sq:(∀c∈Bg NS,c∈Bg LN)/\∀c∈Bg LN,c∈Bg NS/\c∈Bg SG:=by decide +kernel
def IA:V->Bool
 | .str z=>decide ((1:Int)<=z.length)&&decide ((z.length:Int)<=8)&&BJ LN z
 |_=>false
theorem L1 (z:Str):(BJ SG z&&BJ NS z)=BJ LN z:=by
 unfold BJ;rw[cU,aY,bf,bf,bf];simp only[decide_eq_true_eq];exact⟨λh c hc=>Sq.1 c (h.2 c hc),λh=>⟨λc hc=>(Sq.2 c (h c hc)).2,λc hc=>(Sq.2 c (h c hc)).1⟩⟩
theorem Rk (v:V):IA v=match v with | .str z=>IY 1 8 v&&BJ NS z|_=>false:=by
 cases v with
 |str z=>
  show(decide ((1:Int)<=z.length)&&decide ((z.length:Int)<=8)&&BJ LN z)=((decide ((1:Int)<=(z.length:Int))&&decide ((z.length:Int)<=8)&&BJ SG z)&&BJ NS z);rw[<-L1 z];simp only[Bool.and_assoc]
 |_=>rfl
def KC (K:W.Frag):Sp:=λvs H Q _=>∃v,vs=[v]/\Ok H v/\∀H',Am H H'->Q (.bl (IA v)) H'
theorem OV (T:Txt K mg Aj Aa Ac XC)(F:Fun K "is_name" "is_name" ED f fd)(Jv:Def P w K mg base 1 "is_text" ["thing","least","most"] (HZ K)):FnOk P w K mg base Cf 2 f fd ["thing"] (KC K):=by
 exists ON
 ·obtain⟨v,rfl,_⟩:=h;rfl
 obtain⟨v,rfl,ok,q⟩:=h;refine⟨_,(!Al (!Av (!K1 (!AC Jv (by trivial) rfl (!Ab (pv 0) (!Ab (!Ae) (!Ab (!Bq rfl T.c_MOST_NAME_SIGNS) (!Af))))) (!KS (!Ax (Nu rfl) (by rfl) T.b_all Tv (!Ab (@BX _ ["sign"] _ _ _ _ _ _ _ _ _ _ rfl (!KJ (pv 0)) (by decide +kernel) (λC s H fp=>⟨(@Ap _ _ (0) _ (show(["sign"]:List Str).Nodup by decide +kernel) rfl (by trivial) (by trivial)),(!AO),(!EA L6 (pv 0) (!KH rfl T.c_NAME_SIGNS))⟩) (by intro _;rfl)) (!Af))))))),?_⟩;refine⟨_,rfl,v,1,8,rfl,ok,λH1 s1=>⟨_,rfl,?_⟩⟩;have en:=Rk v;refine Et (λc=>?_) (λc=>?_)
 ·cases v with
  |str z=>
   have hz:z.length<=1000:=ok;have zl:=A3 z;refine⟨_,rfl,z,rfl,?_⟩;refine comp_map (λv=>match v with | .str y=>.bl (!(Builtin.Str.occurrences NS y 0 NS.length 1).isEmpty)|_=>.non) G0 (by rw[aa];exact bA (cS zl) (by omega)) (λx H' R hx s' hR=>?_) λl H7 n7 s7 h7=>?_
   ·obtain⟨u,_,rfl⟩:=af.mp hx;exact⟨_,rfl,_,_,rfl,rfl,hR H' (Am.refl _)⟩
   rw[LZ] at h7;refine⟨l,_,rfl,AD.of h7,?_⟩;have e:IA (.str z)=((Bg z).map λc=>decide (c∈Bg NS)).all id:=by
    rw[en];show(IY 1 8 (.str z)&&BJ NS z)=_;rw[c];unfold BJ;rw[gp];rfl
   have:=q H7 (s1.trans s7);rw[e] at this;exact this
  |_=>exact absurd (show false=true from c) aB
 ·have e:IA v=false:=by
   rw[en];cases v with
   |str z=>show(IY 1 8 (.str z)&&BJ NS z)=false;rw[di.mpr c];rfl
   |_=>rfl
  have:=q H1 s1;rw[e] at this;exact this
def CF (K:W.Frag):Sp:=λvs H Q _=>∃u:Str,vs=[.str u]/\0<=PySem.Txt.find SG u/\Q (.int (PySem.Txt.find SG u)) H
theorem MY (T:Txt K mg Aj Aa Ac XC)(F:Fun K "number_of" "number_of" Dq f fd):FnOk P w K mg base Cf 1 f fd ["sign"] (CF K):=by
 exists M7
 ·obtain⟨u,rfl,_⟩:=h;rfl
 obtain⟨u,rfl,h0,q⟩:=h;refine⟨_,(!Al (!Av (!C4 eB PySem.F.slot_str_index PySem.F.type_str_index (R9 rfl) (!KH rfl T.c_SIGNS) (!Ab (pv 0) (!Af))))),?_⟩;exact⟨rfl,_,rfl,_,_,rfl,rfl,h0,q⟩
def Hg:Nat->Tr->Bool
 |0,_=>false
 |_+1,.int i=>decide (0<=i)&&decide (i<=999999999)
 |_+1,.str z=>decide ((z.length:Int)<=400)&&BJ SG z
 |n+1,.tup ts=>decide (ts.length<=100)&&ts.all (Hg n)
 |_+1,_=>false
def All:Addr->Prop:=λ_=>True
def NL:Addr->Prop:=λ_=>False
mutual
theorem CD {H H':Hp}(k:∀c xs,H c=some (.tup xs)->H' c=some (.tup xs)):∀(t:Tr) (v:V),Rep NL H t v->Rep NL H' t v
 | .non,_,h=>h
 | .bl _,_,h=>h
 | .int _,_,h=>h
 | .str _,_,h=>h
 | .tup ts,_,⟨a,vs,e,ha,hr⟩=>⟨a,vs,e,k a _ ha,B0 k ts vs hr⟩
 | .lst _,_,⟨_,_,_,fa,_⟩=>fa.elim
theorem B0 {H H':Hp}(k:∀c xs,H c=some (.tup xs)->H' c=some (.tup xs)):∀(ts:List Tr) (vs:List V),AN NL H ts vs->AN NL H' ts vs
 |[],_,h=>h
 |t::ts,_,⟨v,us,e,h1,h2⟩=>⟨v,us,e,CD k t v h1,B0 k ts us h2⟩
end
theorem Qi {H:Hp}{t:Tr}{v:V}(h:Rep NL H t v):Rep All H t v:=Rep.mono (λ_ z=>z.elim) t v h
mutual
theorem TN:∀(n:Nat) (t:Tr),Hg n t=true->t.ok
 |0,_,h=>nomatch h
 |n+1,.non,h=>nomatch h
 |n+1,.bl _,h=>nomatch h
 |n+1,.int _,_=>trivial
 |n+1,.str z,h=>by
  have h':(decide ((z.length:Int)<=400)&&BJ SG z)=true:=h;rw[aY,bj] at h';show z.length<=1000;omega
 |n+1,.tup ts,h=>by
  have h':(decide (ts.length<=100)&&ts.all (Hg n))=true:=h;rw[aY,bj] at h';exact⟨by omega,Qt n ts h'.2⟩
 |n+1,.lst _,h=>nomatch h
theorem Qt:∀(n:Nat) (ts:List Tr),ts.all (Hg n)=true->Tr.oks ts
 |_,[],_=>trivial
 |n,t::ts,h=>by
  rw[dZ,aY] at h;exact⟨TN n t h.1,Qt n ts h.2⟩
end
def idx (c:Nat):Int:=PySem.Txt.find SG ⟨#[c]⟩
theorem K5 {c:Nat}(h:c∈Bg SG):0<=idx c/\idx c<94/\SG.cps.toList.getD (idx c).toNat 0=c:=by
 obtain⟨k,hk,e⟩:=cj (show c∈SG.cps.toList from h);have hk':k<94:=by rw[V5] at hk;exact hk
 have eg:SG.cps.toList.getD k 0=c:=by simp only[List.getD,List.getElem?_eq_getElem hk,Option.getD_some];exact e
 have:=T1 k hk';rw[eg] at this;have ei:idx c=(k:Int):=this;rw[ei];exact⟨by omega,by omega,eg⟩
mutual
def wT:Tr->List Int
 | .int i=>[0,i]
 | .str z=>1::(z.length:Int)::(Bg z).map idx
 | .tup ts=>2::(ts.length:Int)::wTs ts
 |_=>[]
def wTs:List Tr->List Int
 |[]=>[]
 |t::ts=>wT t++wTs ts
end
theorem ME:∀(a b:List Tr),wTs (a++b)=wTs a++wTs b
 |[],_=>rfl
 |t::a,b=>by
  show wT t++wTs (a++b)=(wT t++wTs a)++wTs b;rw[ME a b,cF]
theorem NK {ts:List Tr}{i:Nat}{t:Tr}(h:ts[i]?=some t):wTs (ts.take (i+1))=wTs (ts.take i)++wT t:=by
 rw[aS,h,ME];show wTs (ts.take i)++(wT t++[])=_;rw[cn]
theorem Wo {ts:List Tr}(i:Nat):(wTs (ts.take i)).length<=(wTs ts).length:=by
 have:=congrArg List.length (ME (ts.take i) (ts.drop i));rw[eM,au] at this;omega
theorem U9 {ts:List Tr}{i:Nat}{t:Tr}(h:ts[i]?=some t):(wTs (ts.take i)).length+(wT t).length<=(wTs ts).length:=by
 have:=Wo (ts:=ts) (i+1);rw[NK h,au] at this;exact this
theorem Qm {n:Nat}{z:Str}(h:Hg n (.str z)=true):z.length<=400/\∀c∈Bg z,c∈Bg SG:=by
 cases n with
 |zero=>cases h
 |succ n=>
  have h':(decide ((z.length:Int)<=400)&&BJ SG z)=true:=h;rw[aY,bj] at h';refine⟨by omega,λc hc=>?_⟩;have:=bf.mp h'.2 c hc;simpa using this
theorem D1 {n:Nat}{ts:List Tr}(h:Hg (n+1) (.tup ts)=true):ts.length<=100/\∀(i:Nat) t,ts[i]?=some t->Hg n t=true:=by
 have h':(decide (ts.length<=100)&&ts.all (Hg n))=true:=h;rw[aY,bj] at h';exact⟨h'.1,λi t ht=>bf.mp h'.2 t (aC ht)⟩
theorem VH (ts:List Tr):wT (.tup ts)=2::(ts.length:Int)::wTs ts:=rfl
def QE (n:Nat)(K:W.Frag):Sp:=λvs H Q _=>∃(v:V) (t:Tr),vs=[v]/\Rep NL H t v/\Hg n t=true/\(wT t).length<=900000/\∀l H',Am H H'->H l=none->H' l=some (.lst ((wT t).map V.int))->Q (.ref l) H'
def GQ (K:W.Frag):Sp:=QE 8 K
theorem Uz (T:Txt K mg Aj Aa Ac XC)(F:Fun K "words_of" "words_of" CB f fd)(BE:Def P w K mg base 1 "is_whole" ["thing"] (Dm K))(A6:Def P w K mg base 1 "number_of" ["sign"] (CF K))(n:Nat)(ET:Def P w K mg base (1+n) "words_of" ["thing"] (QE n K)):FnOk P w K mg base Cf (1+n+1) f fd ["thing"] (QE (n+1) K):=by
 exists Fb
 ·obtain⟨v,t,rfl,_⟩:=h;rfl
 obtain⟨v,t,rfl,hv,ht,hw,q⟩:=h;have ok:=TN _ _ ht;have okv:=(Qi hv).ok ok;have ety:=(Qi hv).tyN;refine⟨_,(!Ag (!BH (!Da (!AC BE (hr.mono (by omega)) rfl (!Ab (pv 0) (!Af))) (by intro _;rfl)) (!Al (!Av (!Bb (!Ab (!Bq rfl T.c_NUMBER_WORD) (!Ab (pv 0) (!Af)))))) (!AV)) (!Ag (!BH (!Da (!Ax Bz (by rfl) T.b_isinstance A1 (!Ab (pv 0) (!Ab (!HA rfl T.b_str Pm) (!Af)))) (by intro _;rfl)) (!Al (!Av (!Ao IX (!Bb (!Ab (!Bq rfl T.c_TEXT_WORD) (!Ab (!Ax Ey (by rfl) T.b_len BW (!Ab (pv 0) (!Af))) (!Af)))) (@BX _ ["sign"] _ _ _ _ _ _ _ _ _ _ rfl (!KJ (pv 0)) (by decide +kernel) (λC s H fp=>⟨(@Ap _ _ (0) _ (show(["sign"]:List Str).Nodup by decide +kernel) rfl (by trivial) (by trivial)),(!AO),(!AC A6 (hr.mono (by omega)) rfl (!Ab (pv 0) (!Af)))⟩) (by intro _;rfl))))) (!AV)) (!Ag (@Au _ _ (1) _ _ _ _ Fb.nd rfl (by trivial) (!Bb (!Ab (!Bq rfl T.c_TUPLE_WORD) (!Ab (!Ax AM (by rfl) T.b_len BW (!Ab (pv 0) (!Af))) (!Af)))) (by rfl) (by trivial)) (!Ag (!BR aW rfl (!Cv (pv 0)) (@Ap _ _ (2) _ Fb.nd rfl (by trivial) (by trivial)) (!Al (!Bl (!C4 aP cw cu EH (pv 1) (!Ab (!AC ET (hr.mono (by omega)) rfl (!Ab (pv 2) (!Af))) (!Af))))) (by intro _;rfl)) (!Al (!Av (pv 1))))))),?_⟩;refine⟨_,rfl,v,rfl,okv,_,rfl,?_⟩;cases t with
 |int i=>
  cases(show v=V.int i from hv);refine Fe rfl ?_;exact⟨_,rfl,Fy,λl hl=>q l _ (Ak hl _) hl Ad⟩
 |str z=>
  cases(show v=V.str z from hv);obtain⟨zl,zs⟩:=Qm ht;have zc:=A3 z;refine Bi rfl ?_;refine⟨_,rfl,_,_,_,_,rfl,okv.ty K,okv.kit K,_,rfl,Fe (by rw[ety];show isA "str" "str"=true;decide) ?_⟩;refine⟨_,rfl,_,rfl,small (by omega),Fy,λp1 hp1=>?_⟩;refine⟨_,rfl,z,rfl,?_⟩;refine comp_map (λv=>match v with | .str y=>.int (PySem.Txt.find SG y)|_=>.non) G0 (by rw[aa];exact bA (cS zc) (by omega)) (λx H' R hx s' hR=>?_) λl H7 n7 s7 h7=>?_
  ·obtain⟨u,hu,rfl⟩:=af.mp hx;exact⟨_,rfl,_,rfl,(K5 (zs u hu)).1,hR H' (Am.refl _)⟩
  have e7:((z.cps.toList.map λc=>V.str ⟨#[c]⟩).map λv=>match v with|V.str y=>V.int (PySem.Txt.find SG y)|_=>V.non)=((Bg z).map idx).map V.int:=by
   rw[aq,aq];rfl
  rw[e7] at h7;have s1:=Ak hp1 (.lst [V.int 1,V.int (z.length:Int)]);refine⟨p1,l,_,_,rfl,rfl,AD.of (s7.get Ad),AD.of h7,small (by rw[aa,aa];show 2+_<=_;omega),λp hp=>?_⟩;exact q p _ ((s1.trans s7).trans (Ak hp _)) ((s1.trans s7).free hp) Ad
 |tup ts=>
  obtain⟨a,vs,rfl,ha,hr'⟩:=hv;have lv:=AN.len ts vs hr';obtain⟨tl,tt⟩:=D1 ht;rw[VH] at hw q;have hw2:(wTs ts).length<=899998:=by simp only[List.length_cons] at hw;omega
  refine Bi (by unfold GT;rw[ety];rfl) ?_;refine⟨_,rfl,_,_,_,_,rfl,okv.ty K,okv.kit K,_,rfl,Bi (by rw[ety];show isA "tuple" "str"=false;decide) ?_⟩;refine⟨_,rfl,a,_,rfl,.inr (AL.of ha),Fy,λg hg=>?_⟩;rw[lv];refine⟨_,rfl,a,rfl,⟨_,AL.of ((Ak hg _).get ha)⟩,Kp (K:=K) (a:=a) (xs:=vs) (λi σ H2=>∃(v2:Option V),σ=[some (.ref a),some (.ref g),v2]/\Am H H2/\H2 g=some (.lst ((2::(ts.length:Int)::wTs (ts.take i)).map V.int)))
   ⟨none,rfl,Ak hg _,Ad⟩ (λi σ H2 _ ⟨_,_,s2,_⟩=>AL.of (s2.get ha)) ?_ ?_⟩
  ·rintro i y σ H2 hi ⟨v2,rfl,s2,hg2⟩
   obtain⟨ty,et,ry⟩:=AN.get hr' hi;have b1:=U9 et;refine⟨_,rfl,.inl ⟨rfl,_,AD.of hg2⟩,_,rfl,y,ty,rfl,Rep.same s2 _ _ ry,tt i ty et,by omega,λl3 H3 s3 n3 h3=>?_⟩;refine⟨g,l3,_,_,rfl,rfl,s3.get hg2,h3,small (by simp only[List.length_map,List.length_cons];omega),?_⟩;refine⟨_,rfl,AI (s2.trans s3) hg _,?_⟩;rw[Ad,<-aj,NK et];rfl
  ·rintro σ H2 ⟨v2,rfl,s2,hg2⟩
   rw[lv,aZ (ar _)] at hg2;exact⟨_,rfl,q g H2 s2 hg hg2⟩
 |non=>cases n<;>cases ht
 |bl b=>cases n<;>cases ht
 |lst ts=>cases n<;>cases ht
theorem SC (T:Txt K mg Aj Aa Ac XC)(F:Fun K "words_of" "words_of" CB f fd)(BE:Def P w K mg base 1 "is_whole" ["thing"] (Dm K))(A6:Def P w K mg base 1 "number_of" ["sign"] (CF K))(hm:mg "words_of"=some (.ref f))(hk:W.keepIn K (.ref f)=true)(hb:Binds K fd ["thing"] []):∀n,FnOk P w K mg base Cf (1+n) f fd ["thing"] (QE n K)
 |0=>by
  exists Fb
  ·obtain⟨v,t,rfl,_,ht,_⟩:=h;cases ht
  ·obtain⟨v,t,rfl,_,ht,_⟩:=h;cases ht
 |n+1=>Uz T F BE A6 n ⟨f,fd,SC T F BE A6 hm hk hb n,hm,hk,hb⟩
theorem Om (T:Txt K mg Aj Aa Ac XC)(F:Fun K "words_of" "words_of" CB f fd)(BE:Def P w K mg base 1 "is_whole" ["thing"] (Dm K))(A6:Def P w K mg base 1 "number_of" ["sign"] (CF K))(hm:mg "words_of"=some (.ref f))(hk:W.keepIn K (.ref f)=true)(hb:Binds K fd ["thing"] []):FnOk P w K mg base Cf 9 f fd ["thing"] (GQ K):=
 SC T F BE A6 hm hk hb 8
def Xp (g:List Int->Option (Tr×List Int)):Nat->List Int->Option (List Tr×List Int)
 |0,ws=>some ([],ws)
 |i+1,ws=>match Xp g i ws with
  |none=>none
  |some (ts,r)=>match g r with
   |none=>none
   |some (t,r')=>some (ts++[t],r')
def RZ (x:Int):Nat:=SG.cps.toList.getD x.toNat 0
def Xt:Nat->List Int->Option (List Nat×List Int)
 |0,ws=>some ([],ws)
 |i+1,ws=>match Xt i ws with
  |some (cs,x::r)=>if 0<=x/\x<=93 then some (cs++[RZ x],r) else none
  |_=>none
def rd:Nat->List Int->Option (Tr×List Int)
 |0,_=>none
 |n+1,ws=>match ws with
  |[]=>none
  |x::ws1=>if 0<=x/\x<=2 then match ws1 with
    |[]=>none
    |m::r=>if x=0 then(if 0<=m/\m<=999999999 then some (.int m,r) else none)
     else if x=1 then(if 0<=m/\m<=400 then(match Xt m.toNat r with|some (cs,r')=>some (.str ⟨cs.toArray⟩,r')|none=>none) else none)
     else(if 0<=m/\m<=100 then(match Xp (rd n) m.toNat r with|some (ts,r')=>some (.tup ts,r')|none=>none) else none)
   else none
theorem OE {c:Nat}(h:c∈Bg SG):RZ (idx c)=c:=(K5 h).2.2
theorem NH:∀(cs:List Nat) (r:List Int),(∀c∈cs,c∈Bg SG)->∀i,i<=cs.length->Xt i (cs.map idx++r)=some (cs.take i,(cs.drop i).map idx++r)
 |cs,r,h,0,_=>rfl
 |cs,r,h,i+1,hi=>by
  have ih:=NH cs r h i (by omega);obtain⟨c,hc⟩:∃c,cs[i]?=some c:=⟨cs[i],ab _⟩
  have hd:cs.drop i=c::cs.drop (i+1):=by rw[dW (by omega)];congr 1;rw[ab (by omega)] at hc;exact aA hc
  obtain⟨b1,b2,b3⟩:=K5 (h c (aC hc));unfold Xt;rw[ih,hd];show(if 0<=idx c/\idx c<=93 then _ else _)=_;rw[aG ⟨b1,by omega⟩,aS,hc,OE (h c (aC hc))];rfl
theorem OC {g:List Int->Option (Tr×List Int)}(ts:List Tr)(r:List Int)(hg:∀t∈ts,∀r,g (wT t++r)=some (t,r)):∀i,i<=ts.length->Xp g i (wTs ts++r)=some (ts.take i,wTs (ts.drop i)++r)
 |0,_=>rfl
 |i+1,hi=>by
  have ih:=OC ts r hg i (by omega);obtain⟨t,ht⟩:∃t,ts[i]?=some t:=⟨ts[i],ab _⟩
  have hd:ts.drop i=t::ts.drop (i+1):=by rw[dW (by omega)];congr 1;rw[ab (by omega)] at ht;exact aA ht
  unfold Xp;rw[ih,hd];show(match g ((wT t++wTs (ts.drop (i+1)))++r) with|none=>none|some (t,r')=>some (ts.take i++[t],r'))=_;rw[cF,hg t (aC ht),aS,ht];rfl
theorem Ma:∀(n:Nat) (t:Tr) (r:List Int),Hg n t=true->rd n (wT t++r)=some (t,r)
 |0,_,_,h=>nomatch h
 |n+1,.non,_,h=>nomatch h
 |n+1,.bl _,_,h=>nomatch h
 |n+1,.lst _,_,h=>nomatch h
 |n+1,.int i,r,h=>by
  have h':(decide (0<=i)&&decide (i<=999999999))=true:=h;rw[aY,bj,bj] at h';show rd (n+1) (0::i::r)=_;unfold rd;dsimp only;rw[aG ⟨by decide,by decide⟩,aG rfl,aG h']
 |n+1,.str z,r,h=>by
  obtain⟨zl,zs⟩:=Qm h;have zc:=A3 z;show rd (n+1) (1::(z.length:Int)::((Bg z).map idx++r))=_;unfold rd;dsimp only;rw[aG ⟨by decide,by decide⟩];rw[aJ (by decide),aG rfl,aG ⟨by omega,by omega⟩,NH (Bg z) r zs _ (by omega),aZ (by omega),gm (by omega)];have:(⟨(Bg z).toArray⟩:Str)=z:=Us rfl;show some (Tr.str ⟨(Bg z).toArray⟩,r)=_;rw[this]
 |n+1,.tup ts,r,h=>by
  obtain⟨tl,tt⟩:=D1 h;have hg:∀t∈ts,∀r,rd n (wT t++r)=some (t,r):=λt ht r=>by
   obtain⟨i,hi⟩:=cf ht;exact Ma n t r (tt i t hi)
  show rd (n+1) (2::(ts.length:Int)::(wTs ts++r))=_;unfold rd;dsimp only;rw[aG ⟨by decide,by decide⟩];rw[aJ (by decide),aJ (by decide),aG ⟨by omega,by omega⟩,OC ts r hg _ (by omega),aZ (by omega),gm (by omega)];rfl
theorem OO {n:Nat}{t u:Tr}(ht:Hg n t=true)(hu:Hg n u=true)(h:wT t=wT u):t=u:=by
 have e1:=Ma n t [] ht;rw[h,Ma n u [] hu] at e1;exact(Prod.mk.inj (aA e1)).1.symm
theorem P3 {H:Hp}:∀(n:Nat) (t u:Tr) (v:V),Hg n t=true->Hg n u=true->Rep NL H t v->Rep NL H u v->t=u
 |0,_,_,_,h,_,_,_=>nomatch h
 |n+1,.int i,.int j,v,_,_,h1,h2=>by
  have e1:v=V.int i:=h1;have e2:v=V.int j:=h2;rw[e1] at e2;cases e2;rfl
 |n+1,.int i,.str z,v,_,_,h1,h2=>by
  have e1:v=V.int i:=h1;have e2:v=V.str z:=h2;rw[e1] at e2;cases e2
 |n+1,.int i,.tup ts,v,_,_,h1,⟨a,vs,e2,_⟩=>by
  have e1:v=V.int i:=h1;rw[e1] at e2;cases e2
 |n+1,.str z,.int j,v,_,_,h1,h2=>by
  have e1:v=V.str z:=h1;have e2:v=V.int j:=h2;rw[e1] at e2;cases e2
 |n+1,.str z,.str y,v,_,_,h1,h2=>by
  have e1:v=V.str z:=h1;have e2:v=V.str y:=h2;rw[e1] at e2;cases e2;rfl
 |n+1,.str z,.tup ts,v,_,_,h1,⟨a,vs,e2,_⟩=>by
  have e1:v=V.str z:=h1;rw[e1] at e2;cases e2
 |n+1,.tup ts,.int j,v,_,_,⟨a,vs,e1,_⟩,h2=>by
  have e2:v=V.int j:=h2;rw[e1] at e2;cases e2
 |n+1,.tup ts,.str y,v,_,_,⟨a,vs,e1,_⟩,h2=>by
  have e2:v=V.str y:=h2;rw[e1] at e2;cases e2
 |n+1,.tup ts,.tup us,v,ht,hu,⟨a,vs,e1,ha,r1⟩,⟨b,ws,e2,hb,r2⟩=>by
  subst e1;cases e2;rw[ha] at hb;cases hb;obtain⟨_,tt⟩:=D1 ht;obtain⟨_,tu⟩:=D1 hu;have l1:=AN.len ts vs r1;have l2:=AN.len us vs r2;have:ts=us:=by
   refine cg λi=>?_
   by_cases hi:i<vs.length
   ·obtain⟨t1,g1,p1⟩:=AN.get r1 (ab hi);obtain⟨t2,g2,p2⟩:=AN.get r2 (ab hi);rw[g1,g2,P3 n t1 t2 _ (tt i t1 g1) (tu i t2 g2) p1 p2]
   ·rw[bX (by omega),bX (by omega)]
  rw[this]
 |n+1,.non,_,_,h,_,_,_=>nomatch h
 |n+1,.bl _,_,_,h,_,_,_=>nomatch h
 |n+1,.lst _,_,_,h,_,_,_=>nomatch h
 |n+1,.int _,.non,_,_,h,_,_=>nomatch h
 |n+1,.int _,.bl _,_,_,h,_,_=>nomatch h
 |n+1,.int _,.lst _,_,_,h,_,_=>nomatch h
 |n+1,.str _,.non,_,_,h,_,_=>nomatch h
 |n+1,.str _,.bl _,_,_,h,_,_=>nomatch h
 |n+1,.str _,.lst _,_,_,h,_,_=>nomatch h
 |n+1,.tup _,.non,_,_,h,_,_=>nomatch h
 |n+1,.tup _,.bl _,_,_,h,_,_=>nomatch h
 |n+1,.tup _,.lst _,_,_,h,_,_=>nomatch h
theorem D9 {n:Nat}{t u:Tr}(ht:Hg n t=true)(hu:Hg n u=true){b:Bool}(h:b=true↔t=u):decide (wT t=wT u)=b:=by
 rw[cU,bj,h];exact⟨OO ht hu,λe=>by rw[e]⟩
theorem Oh {n:Nat}{ts us:List Tr}(ht:Hg (n+1) (.tup ts)=true)(hu:Hg (n+1) (.tup us)=true):decide (wT (.tup ts)=wT (.tup us))=((List.range (min ts.length us.length)).all (λj=>decide (wT (ts.getD j .non)=wT (us.getD j .non)))&&ts.length == us.length):=by
 obtain⟨_,tt⟩:=D1 ht;obtain⟨_,tu⟩:=D1 hu;refine D9 ht hu ?_;rw[aY,bf,cQ];constructor
 ·rintro⟨h1,h2⟩
  congr 1
  refine cg λi=>?_
  by_cases hi:i<ts.length
  ·have e:=h1 i (cy.mpr (by omega));obtain⟨t1,g1⟩:∃t1,ts[i]?=some t1:=⟨ts[i],ab hi⟩
   obtain⟨t2,g2⟩:∃t2,us[i]?=some t2:=⟨us[i]'(by omega),ab _⟩
   simp only[List.getD,g1,g2,Option.getD_some,decide_eq_true_eq] at e;rw[g1,g2,OO (tt i t1 g1) (tu i t2 g2) e]
  ·rw[bX (by omega),bX (by omega)]
 ·intro h;cases h;exact⟨λi _=>aE rfl,rfl⟩
section
variable {X:Cx}{pins:List (Addr×Obj)}{σ:St}{H:Hp}{s:Shared}
theorem SE (I:Inv X pins σ H s):∀(n:Nat) (t u:Tr) (A:Around) (v w:V) (vv ww:Value),Hg n t=true->Hg n u=true->A.units+n<cLine->Rep NL H t v->Rep NL H u w->RelV v vv->RelV w ww->SeqAt.EqAt A s vv ww (decide (wT t=wT u))
 |0,_,_,_,_,_,_,_,h,_,_,_,_,_,_=>nomatch h
 |n+1,t,u,A,v,w,vv,ww,ht,hu,hA,h1,h2,r1,r2=>by
  cases t with
  |int i=>
   cases(show v=V.int i from h1);obtain⟨t1,rfl⟩:=r1;cases u with
   |int j=>
    cases(show w=V.int j from h2);obtain⟨t2,rfl⟩:=r2;rw[D9 ht hu (b:=i == j) (by rw[cQ];exact⟨λe=>by rw[e],λe=>by cases e;rfl⟩)];exact SeqAt.EqAt.int_int i t1 j t2
   |str z=>
    cases(show w=V.str z from h2);obtain⟨t2,rfl⟩:=r2;rw[D9 ht hu (b:=false) ⟨(λe=>nomatch e),(λe=>nomatch e)⟩];exact fJ i t1 z t2
   |tup us=>
    obtain⟨b,ws,rfl,hb,_⟩:=h2;cases r2;obtain⟨its,_,p,_⟩:=I.tuple (AL.of (K:=X.K) hb);rw[D9 ht hu (b:=false) ⟨(λe=>nomatch e),(λe=>nomatch e)⟩];exact SeqAt.EqAt.int_tuple i t1 p (by omega)
   |non=>cases hu
   |bl _=>cases hu
   |lst _=>cases hu
  |str y=>
   cases(show v=V.str y from h1);obtain⟨t1,rfl⟩:=r1;cases u with
   |int j=>
    cases(show w=V.int j from h2);obtain⟨t2,rfl⟩:=r2;rw[D9 ht hu (b:=false) ⟨(λe=>nomatch e),(λe=>nomatch e)⟩];exact fI y t1 j t2
   |str z=>
    cases(show w=V.str z from h2);obtain⟨t2,rfl⟩:=r2;rw[D9 ht hu (b:=y == z) (by rw[cQ];exact⟨λe=>by rw[e],λe=>by cases e;rfl⟩)];exact SeqAt.EqAt.str_str y t1 z t2
   |tup us=>
    obtain⟨b,ws,rfl,hb,_⟩:=h2;cases r2;obtain⟨its,_,p,_⟩:=I.tuple (AL.of (K:=X.K) hb);rw[D9 ht hu (b:=false) ⟨(λe=>nomatch e),(λe=>nomatch e)⟩];exact SeqAt.EqAt.str_tuple y t1 p (by omega)
   |non=>cases hu
   |bl _=>cases hu
   |lst _=>cases hu
  |tup ts=>
   obtain⟨a,vs,rfl,ha,hr1⟩:=h1;cases r1;obtain⟨its,rv1,p1,_⟩:=I.tuple (AL.of (K:=X.K) ha);cases u with
   |int j=>
    cases(show w=V.int j from h2);obtain⟨t2,rfl⟩:=r2;rw[D9 ht hu (b:=false) ⟨(λe=>nomatch e),(λe=>nomatch e)⟩];exact SeqAt.EqAt.tuple_int j t2 p1 (by omega)
   |str z=>
    cases(show w=V.str z from h2);obtain⟨t2,rfl⟩:=r2;rw[D9 ht hu (b:=false) ⟨(λe=>nomatch e),(λe=>nomatch e)⟩];exact SeqAt.EqAt.tuple_str z t2 p1 (by omega)
   |tup us=>
    obtain⟨b,ws,rfl,hb,hr2⟩:=h2;cases r2;obtain⟨its2,rv2,p2,_⟩:=I.tuple (AL.of (K:=X.K) hb)
    by_cases hab:a=b
    ·subst hab;have:=P3 (n+1) (.tup ts) (.tup us) (.ref a) ht hu ⟨a,vs,rfl,ha,hr1⟩ ⟨a,ws,rfl,hb,hr2⟩;rw[this,aE rfl];exact SeqAt.EqAt.same _
    obtain⟨_,tt⟩:=D1 ht;obtain⟨_,tu⟩:=D1 hu;have l1:=rv1.length.symm.trans (AN.len ts vs hr1);have l2:=rv2.length.symm.trans (AN.len us ws hr2);have q:=SeqAt.RcAt.tuples (A:=A) (s:=s) (e:=λj=>decide (wT (ts.getD j .non)=wT (us.getD j .non))) p1 p2 (by omega) (λj g1 g2=>by
     have g1':j<its.length:=by simpa using g1
     have g2':j<its2.length:=by simpa using g2
     have lv1:=rv1.length;have lv2:=rv2.length;obtain⟨x1,hx1⟩:∃x1,vs[j]?=some x1:=⟨vs[j]'(by omega),ab _⟩
     obtain⟨x2,hx2⟩:∃x2,ws[j]?=some x2:=⟨ws[j]'(by omega),ab _⟩
     obtain⟨y1,hy1,ry1⟩:=rv1.get hx1;obtain⟨y2,hy2,ry2⟩:=rv2.get hx2;obtain⟨t1,e1,p1'⟩:=AN.get hr1 hx1;obtain⟨t2,e2,p2'⟩:=AN.get hr2 hx2;have:=SE I n t1 t2 A.in1 x1 x2 y1 y2 (tt j t1 e1) (tu j t2 e2) (by show A.units+1+n<cLine;omega) p1' p2' ry1 ry2;rw[ab g1'] at hy1;rw[ab g2'] at hy2;cases hy1;cases hy2;simp only[List.getD,e1,e2,Option.getD_some];simpa using this)
    rw[Oh ht hu];simp only[List.size_toArray,l1,l2] at q;exact SeqAt.EqAt.of_refs hab q
   |non=>cases hu
   |bl _=>cases hu
   |lst _=>cases hu
  |non=>cases ht
  |bl _=>cases ht
  |lst _=>cases ht
end
section
variable {X:Cx}
def Ye (neg:Bool):R2:=λx y H Q=>∃t u,Hg 8 t=true/\Hg 8 u=true/\Rep NL H t x/\Rep NL H u y/\Q (.bl (if neg then !decide (wT t=wT u) else decide (wT t=wT u))) H
theorem SS {pins:List (Addr×Obj)} {σ:St} {H:Hp} {s:Shared} (I:Inv X pins σ H s) {n:Nat} {A:Around} {ts us:List Tr} {vs ws:List V} {its its2:List Value} (hA:A.units+1+n<cLine) (tt:∀(i:Nat) t,ts[i]?=some t->Hg n t=true) (tu:∀(i:Nat) t,us[i]?=some t->Hg n t=true)
  (hr1:AN NL H ts vs) (hr2:AN NL H us ws) (rv1:AG vs its) (rv2:AG ws its2) (j:Nat) (g1:j<its.toArray.size) (g2:j<its2.toArray.size):SeqAt.EqAt A.in1 s its.toArray[j] its2.toArray[j] (decide (wT (ts.getD j .non)=wT (us.getD j .non))):=by
 have g1':j<its.length:=by simpa using g1
 have g2':j<its2.length:=by simpa using g2
 have lv1:=rv1.length;have lv2:=rv2.length;obtain⟨x1,hx1⟩:∃x1,vs[j]?=some x1:=⟨vs[j]'(by omega),ab _⟩
 obtain⟨x2,hx2⟩:∃x2,ws[j]?=some x2:=⟨ws[j]'(by omega),ab _⟩
 obtain⟨y1,hy1,ry1⟩:=rv1.get hx1;obtain⟨y2,hy2,ry2⟩:=rv2.get hx2;obtain⟨t1,e1,p1'⟩:=AN.get hr1 hx1;obtain⟨t2,e2,p2'⟩:=AN.get hr2 hx2;have:=SE I n t1 t2 A.in1 x1 x2 y1 y2 (tt j t1 e1) (tu j t2 e2) (by show A.units+1+n<cLine;omega) p1' p2' ry1 ry2;rw[ab g1'] at hy1;rw[ab g2'] at hy2;cases hy1;cases hy2;simp only[List.getD,e1,e2,Option.getD_some];simpa using this
theorem VE (hu9:X.A.units+150<cLine):Gv X (compareOp .Eq) (Ye false):=by
 intro pins s σ H x y v u Q I rx ry h;obtain⟨t,w,ht,hw,h1,h2,q⟩:=h;have fin:∀b:Bool,decide (wT t=wT w)=b->SeqAt.RcAt X.A s v u b->wpAny (model X.prog X.w) X.A (compareOp .Eq v u) (EP X pins σ Q) X.xe s:=λb e r=>by
  rw[e] at q;exact r _ _ _ _ ⟨.bl _,H,I,rfl,q⟩
 cases t with
 |int i=>
  cases(show x=V.int i from h1);obtain⟨t1,rfl⟩:=rx;cases w with
  |int j=>
   cases(show y=V.int j from h2);obtain⟨t2,rfl⟩:=ry;exact fin (i == j) (D9 ht hw (by rw[cQ];exact⟨λe=>by rw[e],λe=>by cases e;rfl⟩)) (SeqAt.RcAt.int_int i t1 j t2)
  |str z=>
   cases(show y=V.str z from h2);obtain⟨t2,rfl⟩:=ry;exact fin false (D9 ht hw ⟨(λe=>nomatch e),(λe=>nomatch e)⟩) (SeqAt.RcAt.int_str i t1 z t2)
  |tup us=>
   obtain⟨b,ws,rfl,hb,_⟩:=h2;cases ry;obtain⟨its,_,p,_⟩:=I.tuple (AL.of (K:=X.K) hb);exact fin false (D9 ht hw ⟨(λe=>nomatch e),(λe=>nomatch e)⟩) (SeqAt.RcAt.int_tuple i t1 p (by omega))
  |non=>cases hw
  |bl _=>cases hw
  |lst _=>cases hw
 |str a=>
  cases(show x=V.str a from h1);obtain⟨t1,rfl⟩:=rx;cases w with
  |int j=>
   cases(show y=V.int j from h2);obtain⟨t2,rfl⟩:=ry;exact fin false (D9 ht hw ⟨(λe=>nomatch e),(λe=>nomatch e)⟩) (SeqAt.RcAt.str_int a t1 j t2)
  |str z=>
   cases(show y=V.str z from h2);obtain⟨t2,rfl⟩:=ry;exact fin (a == z) (D9 ht hw (by rw[cQ];exact⟨λe=>by rw[e],λe=>by cases e;rfl⟩)) (SeqAt.RcAt.str_str a t1 z t2)
  |tup us=>
   obtain⟨b,ws,rfl,hb,_⟩:=h2;cases ry;obtain⟨its,_,p,_⟩:=I.tuple (AL.of (K:=X.K) hb);exact fin false (D9 ht hw ⟨(λe=>nomatch e),(λe=>nomatch e)⟩) (SeqAt.RcAt.str_tuple a t1 p (by omega))
  |non=>cases hw
  |bl _=>cases hw
  |lst _=>cases hw
 |tup ts=>
  obtain⟨a,vs,rfl,ha,hr1⟩:=h1;cases rx;obtain⟨its,rv1,p1,_⟩:=I.tuple (AL.of (K:=X.K) ha);cases w with
  |int j=>
   cases(show y=V.int j from h2);obtain⟨t2,rfl⟩:=ry;exact fin false (D9 ht hw ⟨(λe=>nomatch e),(λe=>nomatch e)⟩) (SeqAt.RcAt.tuple_int j t2 p1 (by omega))
  |str z=>
   cases(show y=V.str z from h2);obtain⟨t2,rfl⟩:=ry;exact fin false (D9 ht hw ⟨(λe=>nomatch e),(λe=>nomatch e)⟩) (SeqAt.RcAt.tuple_str z t2 p1 (by omega))
  |tup us=>
   obtain⟨b,ws,rfl,hb,hr2⟩:=h2;cases ry;obtain⟨its2,rv2,p2,_⟩:=I.tuple (AL.of (K:=X.K) hb);have l1:=rv1.length.symm.trans (AN.len ts vs hr1);have l2:=rv2.length.symm.trans (AN.len us ws hr2);have r:=SeqAt.RcAt.tuples (A:=X.A) (s:=s) (e:=λj=>decide (wT (ts.getD j .non)=wT (us.getD j .non))) p1 p2 (by omega) (λj g1 g2=>SS I (n:=7) (by omega) (D1 ht).2 (D1 hw).2 hr1 hr2 rv1 rv2 j g1 g2);simp only[List.size_toArray,l1,l2] at r;exact fin _ (Oh ht hw) r
  |non=>cases hw
  |bl _=>cases hw
  |lst _=>cases hw
 |non=>cases ht
 |bl _=>cases ht
 |lst _=>cases ht
end
end
section
variable {P:Program}{w:World}{K:W.Frag}{mg:Str->Option Value}{base:Heap}{f Aj Aa Ac:Addr}{XC:Nat->Addr}{fd:FuncData}
abbrev Yb:=List (Int×List Int)
def XY (H:Hp):Key×V->Int×List Int->Prop:=λkv x=>kv.1=Sum.inl x.1/\∃r,kv.2=.ref r/\H r=some (.lst (x.2.map V.int))
def VU (H:Hp)(kvs:List (Key×V))(b:Yb):Prop:=Paired (XY H) kvs b
def Yl (H:Hp)(ds:List Addr)(bs:List Yb):Prop:=Paired (λd b=>∃kvs,H d=some (.dK kvs)/\VU H kvs b/\(b.map (·.1)).Nodup) ds bs
def W4 (s:Addr)(n:Int)(lf:V):List (Str×V):=[("shelves",.ref s),("writes",.int n),("writes_left",lf)]
def Yw (Aj:Addr)(H:Hp)(p:Addr)(ds:List Addr)(bs:List Yb)(n:Int)(lf:V):Prop:=∃dx s,H p=some (.ins Aj dx (W4 s n lf))/\H s=some (.lst (ds.map V.ref))/\ds.Nodup/\Yl H ds bs
def EU (K:W.Frag)(Aj:Addr):Sp:=λvs H Q _=>∃(p dx:Addr) (m:Nat),vs=[.ref p,.int m]/\2<=m/\m<=4/\H p=some (.ins Aj dx [])/\∀H' ds,Yw Aj H' p ds (List.replicate m []) 0 .non->(∀d∈ds,H d=none)->(∀b o,H b=some o->b≠p->H' b=some o)->Q .non H'
theorem K9 (T:Txt K mg Aj Aa Ac XC)(F:Fun K "__init__" "Boards.__init__" Cq f fd)(Gh:Def P w K mg base 2 "is_between" ["thing","least","most"] (Fl K)):FnOk P w K mg base Cf 3 f fd ["self","many"] (EU K Aj):=by
 exists KF
 ·obtain⟨p,dx,m,rfl,_⟩:=h;rfl
 obtain⟨p,dx,m,rfl,m1,m2,h1,q⟩:=h;refine⟨_,(!Ag (!BH (!EO (!Da (!AC Gh (by trivial) rfl (!Ab (pv 1) (!Ab (!Bq rfl T.c_LEAST_BOARDS) (!Ab (!Bq rfl T.c_MOST_BOARDS) (!Af))))) (by intro _;rfl))) (!Al (!IC)) (!AV)) (!Ag (!CY (pv 0) (@BX _ ["board"] _ _ _ _ _ _ _ _ _ _ rfl (!Bn rfl T.b_range (!Ab (pv 1) (!Af))) (by decide +kernel) (λC s H fp=>⟨(@Ap _ _ (0) _ (show(["board"]:List Str).Nodup by decide +kernel) rfl (by trivial) (by trivial)),(!AO),(!Cs)⟩) (by intro _;rfl))) (!Ag (!CY (pv 0) (!Ae)) (!Al (!CY (pv 0) (!TC)))))),?_⟩
 try dsimp only[Bh,Cx.nox,Cx.wish]
 refine⟨_,rfl,.int m,2,4,rfl,trivial,_,rfl,Bi ?_ ?_⟩
 ·show(!(decide ((2:Int)<=(m:Int))&&decide ((m:Int)<=4)))=false;rw[aE (show(2:Int)<=(m:Int) by omega),aE (show(m:Int)<=4 by omega)];rfl
 refine⟨_,rfl,m,rfl,by omega,by omega,?_⟩;refine Ml (xs:=(List.range (m:Int).toNat).map λ(i:Nat)=>V.int (0+(i:Int))) (λi ys l H'=>Am H H'/\∃ds:List Addr,ys=ds.map V.ref/\ds.Nodup/\∀d∈ds,H' d=some (.dK [])/\H d=none) (by rw[aa,bP];omega) (λi ys l H' _=>SK) (λl hl=>⟨Ak hl _,[],rfl,bY,λ_ h=>nomatch h⟩) (λi x ys l H' R hx hl hl' hlen hI hR d hd=>?_) λl H1 ys hl hl1 ly hI=>?_
 ·obtain⟨s',ds,rfl,nd,hds⟩:=hI;have nld:l≠d:=Bp hl' hd;refine hR _ _ (by rw[Ah nld];exact hl') ⟨AI (AI s' (s'.free hd) _) hl _,ds++[d],by rw[aj];rfl,?_,λe he=>?_⟩
  ·rw[bI];refine⟨nd,by simp,λe he g hg=>?_⟩;rw[ai.mp hg];intro z;have:=(hds e he).1;rw[z,hd] at this;cases this
  ·have nel:∀{o},H' e=some (.dK o)->e≠l:=λq=>BG q hl' (by intro z;cases z)
   rcases av.mp he with he|he
   ·obtain⟨g1,g2⟩:=hds e he;exact⟨by rw[Ah (nel g1),Ah (Bp g1 hd)];exact g1,g2⟩
   ·rw[ai.mp he];exact⟨by rw[Ah nld.symm,Ad],s'.free hd⟩
 obtain⟨s1,ds,rfl,nd,hds⟩:=hI;have lds:ds.length=m:=by rw[aa,aa,bP] at ly;omega
 have p1:=s1.get h1;have npl:l≠p:=BG hl1 p1 (by intro z;cases z);refine⟨_,rfl,p,Aj,dx,[],rfl,p1,T.cl_Boards,T.n_Boards_shelves,(by show 0<1000;decide),?_⟩;refine⟨_,rfl,p,Aj,dx,_,rfl,Ad,T.cl_Boards,T.n_Boards_writes,(by show 1<1000;decide),?_⟩;refine⟨_,rfl,p,Aj,dx,_,rfl,Ad,T.cl_Boards,T.n_Boards_writes_left,(by show 2<1000;decide),?_⟩;rw[Iw,Iw];refine q _ ds ⟨dx,l,Ad,by rw[Ah npl];exact hl1,nd,?_⟩ (λd hd=>(hds d hd).2) λb o e hb=>?_
 ·have all:∀(es:List Addr),(∀d∈es,d∈ds)->Yl (upd H1 p (.ins Aj dx (E7 "writes_left" V.non (E7 "writes" (V.int 0) (E7 "shelves" (V.ref l) []))))) es (List.replicate es.length []):=by
   intro es
   induction es with
   |nil=>intro _;exact .nil
   |cons d es ih=>
    intro hm;refine .cons ⟨[],?_,.nil,bY⟩ (ih λe he=>hm e (aI _ he));have:=(hds d (hm d aw)).1;rw[Ah (BG this p1 (by intro z;cases z))];exact this
  have:=all ds λ_ h=>h
  rw[lds] at this;exact this
 ·rw[Ah hb];exact s1.get e
abbrev Tg:=Int×Int×Int
structure En where
 nm:Str
 kd:Int
 tg:Tg
inductive Bk where
 |piece (z:Str)
 |row (lv:Int) (ts:List Tg)
 |folder (es:List En)
def Gx (t:Tg):Tr:=.tup [.int t.1,.int t.2.1,.int t.2.2]
def Kr (e:En):Tr:=.tup [.str e.nm,.int e.kd,Gx e.tg]
def DB:Bk->Tr
 | .piece z=>.tup [.int 0,.str z]
 | .row lv ts=>.tup [.int 1,.int lv,.tup (ts.map Gx)]
 | .folder es=>.tup [.int 2,.tup (es.map Kr)]
def LB (t:Tg):Prop:=(1<=t.1/\t.1<=999999)/\(0<=t.2.1/\t.2.1<=999999999)/\0<=t.2.2/\t.2.2<=996
def U5 (e:En):Prop:=IA (.str e.nm)=true/\(1<=e.kd/\e.kd<=2)/\LB e.tg
def W1 (lv:Int)(ts:List Tg):Prop:=ts.length<=8/\(1<lv->ts≠[])/\∀t∈ts,LB t
def Xf (es:List En):Prop:=es.length<=16/\(∀e∈es,U5 e)/\PyProof.Rows.sortedS (es.map (·.nm))=true/\(es.map (·.nm)).Nodup
def GJ:Bk->Prop
 | .piece z=>IY 1 8 (.str z)=true
 | .row lv ts=>(1<=lv/\lv<=9)/\W1 lv ts
 | .folder es=>Xf es
theorem KR {H:Hp}{t:Tg}{v:V}(h:Rep NL H (Gx t) v):∃a,v=.ref a/\H a=some (.tup [.int t.1,.int t.2.1,.int t.2.2]):=by
 obtain⟨a,vs,rfl,e,x1,u1,rfl,rfl,x2,u2,rfl,rfl,x3,u3,rfl,rfl,rfl⟩:=h;exact⟨a,rfl,e⟩
theorem Lf {H:Hp}{t:Tg}{a:Addr}(e:H a=some (.tup [.int t.1,.int t.2.1,.int t.2.2])):Rep NL H (Gx t) (.ref a):=⟨a,_,rfl,e,_,_,rfl,rfl,_,_,rfl,rfl,_,_,rfl,rfl,rfl⟩
theorem Fh {H:Hp}{x:En}{v:V}(h:Rep NL H (Kr x) v):∃a b,v=.ref a/\H a=some (.tup [.str x.nm,.int x.kd,.ref b])/\H b=some (.tup [.int x.tg.1,.int x.tg.2.1,.int x.tg.2.2]):=by
 obtain⟨a,vs,rfl,e,x1,u1,rfl,rfl,x2,u2,rfl,rfl,x3,u3,rfl,r3,rfl⟩:=h;obtain⟨b,rfl,e2⟩:=KR r3;exact⟨a,b,rfl,e,e2⟩
theorem VO {H:Hp}{x:En}{a b:Addr}(e:H a=some (.tup [.str x.nm,.int x.kd,.ref b]))(e2:H b=some (.tup [.int x.tg.1,.int x.tg.2.1,.int x.tg.2.2])):Rep NL H (Kr x) (.ref a):=⟨a,_,rfl,e,_,_,rfl,rfl,_,_,rfl,rfl,_,_,rfl,Lf e2,rfl⟩
theorem Hq {H:Hp}{z:Str}{v:V}(h:Rep NL H (DB (.piece z)) v):∃a,v=.ref a/\H a=some (.tup [.int 0,.str z]):=by
 obtain⟨a,vs,rfl,e,x1,u1,rfl,rfl,x2,u2,rfl,rfl,rfl⟩:=h;exact⟨a,rfl,e⟩
theorem Kg {H:Hp}{lv:Int}{ts:List Tg}{v:V}(h:Rep NL H (DB (.row lv ts)) v):∃a b vs,v=.ref a/\H a=some (.tup [.int 1,.int lv,.ref b])/\H b=some (.tup vs)/\AN NL H (ts.map Gx) vs:=by
 obtain⟨a,vs,rfl,e,x1,u1,rfl,rfl,x2,u2,rfl,rfl,x3,u3,rfl,⟨b,us,rfl,e2,r⟩,rfl⟩:=h;exact⟨a,b,us,rfl,e,e2,r⟩
theorem DK {H:Hp}{es:List En}{v:V}(h:Rep NL H (DB (.folder es)) v):∃a b vs,v=.ref a/\H a=some (.tup [.int 2,.ref b])/\H b=some (.tup vs)/\AN NL H (es.map Kr) vs:=by
 obtain⟨a,vs,rfl,e,x1,u1,rfl,rfl,x2,u2,rfl,⟨b,us,rfl,e2,r⟩,rfl⟩:=h;exact⟨a,b,us,rfl,e,e2,r⟩
theorem Hh {α:Type}{g:α->Tr}{H:Hp}{xs:List α}{vs:List V}(h:AN NL H (xs.map g) vs){v:V}(hv:v∈vs):∃x∈xs,Rep NL H (g x) v:=by
 obtain⟨i,hi,e⟩:=cj hv;obtain⟨t,ht,r⟩:=AN.get h (show vs[i]?=some v by rw[ab hi,e]);rw[az] at ht;cases z:xs[i]? with
 |none=>rw[z] at ht;cases ht
 |some x=>
  rw[z] at ht;cases ht;exact⟨x,aC z,r⟩
theorem SW {t:Tg}(h:LB t)(n:Nat):Hg (n+2) (Gx t)=true:=by
 obtain⟨⟨a1,a2⟩,⟨b1,b2⟩,c1,c2⟩:=h;simp only[Gx,Hg,List.all_cons,List.all_nil,List.length_cons,List.length_nil,Bool.and_true,Bool.and_eq_true,decide_eq_true_eq];omega
theorem FJ {z:Str}(h:IA (.str z)=true):1<=z.length/\z.length<=8/\BJ SG z=true/\∀c∈Bg z,c∈Bg SG:=by
 have h':(decide ((1:Int)<=z.length)&&decide ((z.length:Int)<=8)&&BJ LN z)=true:=h;simp only[Bool.and_eq_true,decide_eq_true_eq] at h';have a:BJ SG z=true:=by
  have:=h'.2;rw[<-L1,aY] at this;exact this.1
 refine⟨by omega,by omega,a,λc hc=>?_⟩;have:=bf.mp a c hc;simpa using this
theorem Vw {x:En}(h:U5 x)(n:Nat):Hg (n+3) (Kr x)=true:=by
 obtain⟨a,b,c⟩:=h;obtain⟨n1,n2,n3,_⟩:=FJ a;have d:=SW c n;simp only[Kr,Hg,List.all_cons,List.all_nil,List.length_cons,List.length_nil,Bool.and_true,Bool.and_eq_true,decide_eq_true_eq,n3,d,and_true];omega
theorem Lc {b:Bk}(h:GJ b):Hg 8 (DB b)=true:=by
 cases b with
 |piece z=>
  have h':(decide ((1:Int)<=(z.length:Int))&&decide ((z.length:Int)<=8)&&BJ SG z)=true:=h;simp only[Bool.and_eq_true,decide_eq_true_eq] at h';simp only[DB,Hg,List.all_cons,List.all_nil,List.length_cons,List.length_nil,Bool.and_true,Bool.and_eq_true,decide_eq_true_eq,h'.2,and_true];omega
 |row lv ts=>
  obtain⟨l,n,_,o⟩:=h;have d:(ts.map Gx).all (Hg 6)=true:=bf.mpr λt ht=>by
   obtain⟨x,hx,rfl⟩:=af.mp ht;exact SW (o x hx) 4
  simp only[DB,Hg,List.all_cons,List.all_nil,List.length_cons,List.length_nil,List.length_map,Bool.and_true,Bool.and_eq_true,decide_eq_true_eq,d,and_true];omega
 |folder es=>
  obtain⟨n,o,_⟩:=h;have d:(es.map Kr).all (Hg 6)=true:=bf.mpr λt ht=>by
   obtain⟨x,hx,rfl⟩:=af.mp ht;exact Vw (o x hx) 3
  simp only[DB,Hg,List.all_cons,List.all_nil,List.length_cons,List.length_nil,List.length_map,Bool.and_true,Bool.and_eq_true,decide_eq_true_eq,d,and_true];omega
theorem Ti:∀{es:List En} {us:List V} {H:Hp},AN NL H (es.map Kr) us->(us.map λv=>match v with | .ref x=>(match H x with|some (.tup (y::_))=>y|_=>.non)|_=>.non)=(es.map (·.nm)).map V.str
 |[],us,H,r=>by rw[show us=[] from r];rfl
 |e::es,us,H,r=>by
  obtain⟨v,us',rfl,r1,r2⟩:=r;obtain⟨a,b,rfl,e1,_⟩:=Fh r1;rw[ao,ao,ao,Ti r2];simp only[e1]
theorem QJ {J:It} {xs:List V} {te:TE} {Q:VK} {σ:St} {H:Hp} (f:V->V) (hJ:Ie J H xs) (hn:xs.length<=1000000) (htg:∀x∈xs,∃a x1 x2 x3,x=.ref a/\H a=some (.tup [x1,x2,x3]))
  (helt:∀a x1 x2 x3 (H':Hp) (R:VK),V.ref a∈xs->H a=some (.tup [x1,x2,x3])->Am H H'->(∀H'',Am H' H''->R (f (.ref a)) H'')->te [some x1,some x2,some x3] H' R)
  (hQ:∀l H',H l=none->Am H H'->H' l=some (.lst (xs.map f))->Q (.ref l) H') :
  Eo [none,none,none] (Rn K 3 (G9 (Ay 0) (G9 (Ay 1) (G9 (Ay 2) RE)))) Oq te σ Q J H:=by
 intro l hl;refine⟨λi m σ' H'=>m=xs.length-i/\i<=xs.length/\(∃y0 y1 y2,σ'=[y0,y1,y2])/\Am H H'/\H' l=some (.lst ((xs.take i).map f)),⟨xs.length,by simp,bC _,⟨_,_,_,rfl⟩,Ak hl _,by rw[Ad,dO,cx]⟩,?_⟩
 rintro i m σ' H' ⟨rfl,hi,⟨y0,y1,y2,rfl⟩,hs,hl'⟩
 obtain⟨h1,h2,h3⟩:=hJ H' hs i
 by_cases hlt:i<xs.length
 ·refine .inr ⟨h1 hlt,λx H'' y=>?_⟩;obtain⟨rfl,hx⟩:=h2 x H'' y;have hx:=hx hlt;obtain⟨a,x1,x2,x3,rfl,ha⟩:=htg x (aC hx);refine⟨a,_,rfl,AL.of (hs.get ha),rfl,_,_,rfl,_,_,rfl,_,_,rfl,rfl,?_⟩;refine helt a x1 x2 x3 H'' _ (aC hx) ha hs λH4 s4=>?_
  refine⟨_,s4.get hl',AU (by rw[aa,aV];omega),xs.length-(i+1),by omega,rfl,hlt,⟨_,_,_,rfl⟩,AI (hs.trans s4) hl _,?_⟩;rw[Ad,aS,hx];simp
 ·have e:i=xs.length:=by omega
  subst e;exact .inl ⟨h3 (ar _),hQ l H' hl hs (by rw[hl',aZ (ar _)])⟩
def Ep (x:En):List Int:=(Bg x.nm).map idx++[x.kd,x.tg.2.2]
def told:Bk->List Int
 | .piece z=>(Bg z).map idx
 | .row lv ts=>lv::ts.map (·.2.2)
 | .folder es=>es.flatMap Ep
theorem idx_map (z:Str):((z.cps.toList.map λc=>V.str ⟨#[c]⟩).map λv=>match v with|V.str y=>V.int (PySem.Txt.find SG y)|_=>V.non)=((Bg z).map idx).map V.int:=by
 rw[aq,aq];rfl
theorem Ou:∀{ts:List Tg} {us:List V} {H:Hp},AN NL H (ts.map Gx) us->(us.map λv=>match v with | .ref x=>(match H x with|some (.tup [_,_,y])=>y|_=>.non)|_=>.non)=(ts.map (·.2.2)).map V.int
 |[],us,H,r=>by rw[show us=[] from r];rfl
 |e::es,us,H,r=>by
  obtain⟨v,us',rfl,r1,r2⟩:=r;obtain⟨a,rfl,e1⟩:=KR r1;rw[ao,ao,ao,Ou r2];simp only[e1]
theorem Q6 {es:List En}{i:Nat}{x:En}(h:es[i]?=some x):(es.take (i+1)).flatMap Ep=(es.take i).flatMap Ep++Ep x:=by
 rw[aS,h,List.flatMap_append];simp
theorem R4 {es:List En}(h:∀x∈es,(Ep x).length<=10):(es.flatMap Ep).length<=10*es.length:=by
 induction es with
 |nil=>exact ar _
 |cons x r ih=>
  rw[List.flatMap_cons,au,aX];have:=h x aw;have:=ih λy hy=>h y (aI _ hy)
  omega
theorem Wb {x:En}(h:U5 x):(Ep x).length<=10:=by
 have:=(FJ h.1).2.1;unfold Ep;rw[au,aa,A3];show x.nm.length+2<=10;omega
def Eh (K:W.Frag):Sp:=λvs H Q _=>∃v b,vs=[v]/\Rep NL H (DB b) v/\GJ b/\∀l H',Am H H'->H l=none->H' l=some (.lst ((told b).map V.int))->Q (.ref l) H'
theorem J2 (T:Txt K mg Aj Aa Ac XC)(F:Fun K "numbers_told" "numbers_told" B2 f fd)(A6:Def P w K mg base 1 "number_of" ["sign"] (CF K)):FnOk P w K mg base Cf 2 f fd ["block"] (Eh K):=by
 exists Ck
 ·obtain⟨v,b,rfl,_⟩:=h;rfl
 obtain⟨v,b,rfl,hv,ok,q⟩:=h;refine⟨_,(!Ag (!BH (!AE CV (!An Az (pv 0) (!Ae) (λ_ _=>rfl)) (!Bq rfl T.c_PIECE) (AH _)) (!Al (!Av (@BX _ ["sign"] _ _ _ _ _ _ _ _ _ _ rfl (!KJ (!An Az (pv 0) (!Ae) (λ_ _=>rfl))) (by decide +kernel) (λC s H fp=>⟨(@Ap _ _ (0) _ (show(["sign"]:List Str).Nodup by decide +kernel) rfl (by trivial) (by trivial)),(!AO),(!AC A6 (by trivial) rfl (!Ab (pv 0) (!Af)))⟩) (by intro _;rfl)))) (!AV)) (!Ag (!BH (!AE CV (!An Az (pv 0) (!Ae) (λ_ _=>rfl)) (!Bq rfl T.c_ROW) (AH _)) (!Al (!Av (!Ao IX (!Bb (!Ab (!An Az (pv 0) (!Ae) (λ_ _=>rfl)) (!Af))) (@BX _ ["tag"] _ _ _ _ _ _ _ _ _ _ rfl (!Cv (!An Az (pv 0) (!Ae) (λ_ _=>rfl))) (by decide +kernel) (λC s H fp=>⟨(@Ap _ _ (0) _ (show(["tag"]:List Str).Nodup by decide +kernel) rfl (by trivial) (by trivial)),(!AO),(!An (AW (K:=K) (by rfl)) (pv 0) (!Ae) (λ_ _=>rfl))⟩) (by intro _;rfl))))) (!AV)) (!Ag (@Au _ _ (1) _ _ _ _ Ck.nd rfl (by trivial) (!Bb (!Af)) (by rfl) (by trivial)) (!Ag (!BR aW rfl (!Cv (!An Az (pv 0) (!Ae) (λ_ _=>rfl))) (!Ik rfl (!AJ (@Ap _ _ (2) _ Ck.nd rfl (by trivial) (by trivial)) (!AJ (@Ap _ _ (3) _ Ck.nd rfl (by trivial) (by trivial)) (!AJ (@Ap _ _ (4) _ Ck.nd rfl (by trivial) (by trivial)) (!C5))))) (!Ag (!Bl (!C4 aP cw cu EH (pv 1) (!Ab (@BX _ ["sign"] _ _ _ _ _ _ _ _ _ _ rfl (!KJ (pv 2)) (by decide +kernel) (λC s H fp=>⟨(@Ap _ _ (0) _ (show(["sign"]:List Str).Nodup by decide +kernel) rfl (by trivial) (by trivial)),(!AO),(!AC A6 (by trivial) rfl (!Ab (pv 0) (!Af)))⟩) (by intro _;rfl)) (!Af)))) (!Al (!Bl (!C4 aP cw cu EH (pv 1) (!Ab (!Bb (!Ab (pv 3) (!Ab (!An Az (pv 4) (!Ae) (λ_ _=>rfl)) (!Af)))) (!Af)))))) (by intro _;rfl)) (!Al (!Av (pv 1))))))),?_⟩;cases b with
 |piece z=>
  obtain⟨a,rfl,e⟩:=Hq hv;have h':(decide ((1:Int)<=(z.length:Int))&&decide ((z.length:Int)<=8)&&BJ SG z)=true:=ok;simp only[Bool.and_eq_true,decide_eq_true_eq] at h';have zs:∀c∈Bg z,c∈Bg SG:=λc hc=>by simpa using bf.mp h'.2 c hc
  refine⟨_,rfl,a,_,_,_,rfl,rfl,AL.of e,rfl,rfl,_,rfl,Fe rfl ?_⟩;refine⟨_,rfl,a,_,_,_,rfl,rfl,AL.of e,rfl,z,rfl,?_⟩;refine comp_map (λv=>match v with | .str y=>.int (PySem.Txt.find SG y)|_=>.non) G0 (by rw[aa];exact bA (cS (A3 z)) (by omega)) (λx H' R hx s' hR=>?_) λl H7 n7 s7 h7=>?_
  ·obtain⟨u,hu,rfl⟩:=af.mp hx;exact⟨_,rfl,_,rfl,(K5 (zs u hu)).1,hR H' (Am.refl _)⟩
  rw[idx_map] at h7;exact q l H7 s7 n7 h7
 |row lv ts=>
  obtain⟨a,b,us,rfl,e,e2,r⟩:=Kg hv;have lu:=AN.len _ _ r;rw[aa] at lu;have l8:=ok.2.1;refine⟨_,rfl,a,_,_,_,rfl,rfl,AL.of e,rfl,rfl,_,rfl,Bi rfl ?_⟩;refine⟨_,rfl,a,_,_,_,rfl,rfl,AL.of e,rfl,rfl,_,rfl,Fe rfl ?_⟩;refine⟨_,rfl,a,_,_,_,rfl,rfl,AL.of e,rfl,Td,λp1 hp1=>?_⟩;have s1:=Ak hp1 (.lst [V.int lv]);have e2':=s1.get e2;have r':=AN.same s1 _ _ r;refine⟨_,rfl,a,_,_,_,rfl,rfl,AL.of (s1.get e),rfl,b,rfl,⟨_,AL.of e2'⟩,comp_map (λv=>match v with | .ref x=>(match(upd H p1 (.lst [V.int lv])) x with|some (.tup [_,_,y])=>y|_=>.non)|_=>.non) (Cb e2') (by omega) (λx H' R hx s' hR=>?_) λl H7 n7 s7 h7=>?_⟩
  ·obtain⟨t,ht,rt⟩:=Hh r' hx;obtain⟨c,rfl,ec⟩:=KR rt;have:=hR H' (Am.refl _);simp only[ec] at this;exact⟨_,rfl,c,_,_,_,rfl,rfl,AL.of (s'.get ec),rfl,this⟩
  rw[Ou r'] at h7;refine⟨p1,l,_,_,rfl,rfl,AD.of (s7.get Ad),AD.of h7,small (by rw[aa,aa];show 1+ts.length<=1000000;omega),λp hp=>?_⟩;exact q p _ ((s1.trans s7).trans (Ak hp _)) ((s1.trans s7).free hp) Ad
 |folder es=>
  obtain⟨a,b,us,rfl,e,e2,r⟩:=DK hv;have lu:=AN.len _ _ r;rw[aa] at lu;obtain⟨o1,o2,_⟩:=ok;refine⟨_,rfl,a,_,_,_,rfl,rfl,AL.of e,rfl,rfl,_,rfl,Bi rfl ?_⟩;refine⟨_,rfl,a,_,_,_,rfl,rfl,AL.of e,rfl,rfl,_,rfl,Bi rfl ?_⟩;refine⟨HX,λg hg=>?_⟩;have sg:=Ak hg (.lst []);refine⟨_,rfl,a,_,_,_,rfl,rfl,AL.of (sg.get e),rfl,b,rfl,⟨_,AL.of (sg.get e2)⟩,Kp (K:=K) (a:=b) (xs:=us) (λi σ H2=>∃v2 v3 v4,σ=[some (.ref a),some (.ref g),v2,v3,v4]/\Am H H2/\H2 g=some (.lst (((es.take i).flatMap Ep).map V.int))) ⟨none,none,none,rfl,sg,Ad⟩ (by rintro i σ H2 _ ⟨_,_,_,_,s2,_⟩;exact AL.of (s2.get e2)) ?_ ?_⟩
  ·rintro i y σ H2 hi ⟨v2,v3,v4,rfl,s2,hg2⟩
   obtain⟨t,ht,ry⟩:=AN.get r hi;rw[az] at ht;cases z:es[i]? with
   |none=>rw[z] at ht;cases ht
   |some x=>
    rw[z] at ht;cases ht;obtain⟨c,d,rfl,ec,ed⟩:=Fh ry;have ox:=o2 x (aC z);obtain⟨n1,n2,_,n4⟩:=FJ ox.1;have tl:((es.take i).flatMap Ep).length<=160:=by
     have:=R4 (es:=es.take i) λy hy=>Wb (o2 y (eO hy))
     rw[aV] at this;omega
    refine⟨c,_,rfl,AL.of (s2.get ec),rfl,_,_,rfl,_,_,rfl,_,_,rfl,rfl,?_⟩;refine⟨_,rfl,.inl ⟨rfl,_,AD.of hg2⟩,_,rfl,x.nm,rfl,?_⟩;refine comp_map (λv=>match v with | .str y=>.int (PySem.Txt.find SG y)|_=>.non) G0 (by rw[aa];exact bA (cS (A3 x.nm)) (by omega)) (λu H' R hu s' hR=>?_) λl H7 n7 s7 h7=>?_
    ·obtain⟨k,hk,rfl⟩:=af.mp hu;exact⟨_,rfl,_,rfl,(K5 (n4 k hk)).1,hR H' (Am.refl _)⟩
    rw[idx_map] at h7;refine⟨g,l,_,_,rfl,rfl,s7.get hg2,h7,small (by rw[aa,aa,aa,A3];omega),?_⟩;have t7:=AI (s2.trans s7) hg (.lst (((es.take i).flatMap Ep).map V.int++((Bg x.nm).map idx).map V.int));refine⟨_,rfl,.inl ⟨rfl,_,AD.of Ad⟩,_,rfl,_,rfl,d,_,_,_,rfl,rfl,AL.of (t7.get ed),rfl,Fy,λp hp=>?_⟩;have t8:=Ak hp (.lst [V.int x.kd,V.int x.tg.2.2]);refine⟨g,p,_,_,rfl,rfl,t8.get Ad,Ad,small (by rw[au,aa,aa,aa,A3];show _+_+2<=_;omega),?_⟩;refine⟨_,_,_,rfl,AI (t7.trans t8) hg _,?_⟩;rw[Ad,Q6 z,aj];unfold Ep;rw[aj,cF];rfl
  ·rintro σ H2 ⟨v2,v3,v4,rfl,s2,hg2⟩
   rw[lu,aZ (ar _)] at hg2;exact⟨_,rfl,q g H2 s2 hg hg2⟩
def kindB:Bk->Int
 | .piece _=>0
 | .row _ _=>1
 | .folder _=>2
def BC (b:Bk):Int:=(told b).foldl (λt n=>(31*t+n+1)%997) (1+kindB b)
theorem NW {H:Hp}{b:Bk}{v:V}(h:Rep NL H (DB b) v):∃a xs,v=.ref a/\H a=some (.tup (.int (kindB b)::xs)):=by
 cases b with
 |piece z=>obtain⟨a,rfl,e⟩:=Hq h;exact⟨a,_,rfl,e⟩
 |row lv ts=>obtain⟨a,b,us,rfl,e,_⟩:=Kg h;exact⟨a,_,rfl,e⟩
 |folder es=>obtain⟨a,b,us,rfl,e,_⟩:=DK h;exact⟨a,_,rfl,e⟩
theorem Og {x:V}{xs:List V}:JS (x::xs) 0=some x:=by
 unfold JS TZ;simp
theorem ints_get {ns:List Int}{i:Nat}{y:V}(h:(ns.map V.int)[i]?=some y):∃n,y=.int n/\ns[i]?=some n:=by
 rw[az] at h;cases z:ns[i]? with
 |none=>rw[z] at h;cases h
 |some n=>rw[z] at h;cases h;exact⟨n,rfl,rfl⟩
theorem QP {f:Int->Int->Int}{z:Int}{ns:List Int}{i:Nat}{n:Int}(h:ns[i]?=some n):(ns.take (i+1)).foldl f z=f ((ns.take i).foldl f z) n:=by
 rw[aS,h,List.foldl_append];rfl
def Hs (K:W.Frag):Sp:=λvs H Q _=>∃v b,vs=[v]/\Rep NL H (DB b) v/\GJ b/\∀H',Am H H'->Q (.int (BC b)) H'
theorem QU (T:Txt K mg Aj Aa Ac XC)(F:Fun K "sum_of" "sum_of" FA f fd)(E5:Def P w K mg base 2 "numbers_told" ["block"] (Eh K)):FnOk P w K mg base Cf 3 f fd ["block"] (Hs K):=by
 exists He
 ·obtain⟨v,b,rfl,_⟩:=h;rfl
 obtain⟨v,b,rfl,hv,ok,q⟩:=h;obtain⟨a,xs,rfl,e⟩:=NW hv;refine⟨_,(!Ag (@Au _ _ (1) _ _ _ _ He.nd rfl (by trivial) (!Ao AF (!Ae) (!An Az (pv 0) (!Ae) (λ_ _=>rfl))) (by rfl) (by trivial)) (!Ag (!BR aW rfl (!BQ (!AC E5 (by trivial) rfl (!Ab (pv 0) (!Af)))) (@Ap _ _ (2) _ He.nd rfl (by trivial) (by trivial)) (!Al (@Au _ _ (1) _ _ _ _ He.nd rfl (by trivial) (!Ao AR (!Ao AF (!Ao AF (!Ao Bt (!Ae) (pv 1)) (pv 2)) (!Ae)) (!Bq rfl T.c_SUM_RESTS)) (by rfl) (by trivial))) (by intro _;rfl)) (!Al (!Av (pv 1))))),?_⟩;refine⟨_,rfl,a,_,_,_,rfl,rfl,AL.of e,Og,_,_,rfl,rfl,?_⟩;refine⟨_,rfl,_,b,rfl,hv,ok,λl H1 s1 n1 h1=>?_⟩;refine⟨l,rfl,⟨_,AD.of h1⟩,E4 (K:=K) (a:=l) (xs:=(told b).map V.int) (λi σ H2=>∃v2,σ=[some (.ref a),some (.int (((told b).take i).foldl (λt n=>(31*t+n+1)%997) (1+kindB b))),v2]/\Am H1 H2) ⟨none,rfl,Am.refl _⟩ (λi σ H2 _ ⟨_,_,s2⟩=>AD.of (s2.get h1)) ?_ ?_⟩
 ·rintro i y σ H2 hi ⟨v2,rfl,s2⟩
  obtain⟨n,rfl,hn⟩:=ints_get hi;refine⟨_,rfl,_,_,rfl,rfl,.inl ⟨by decide,by decide⟩,_,rfl,_,_,rfl,rfl,_,_,rfl,rfl,_,_,rfl,rfl,(show(0:Int)<997 by decide),?_⟩;refine⟨some (.int n),?_,s2⟩;rw[QP hn];rfl
 ·rintro σ H2 ⟨v2,rfl,s2⟩
  rw[aa,bS];exact⟨_,rfl,q H2 (s1.trans s2)⟩
theorem Q1 (ts:List Tg):(wTs (ts.map Gx)).length=8*ts.length:=by
 induction ts with
 |nil=>rfl
 |cons t r ih=>
  rw[ao];show(wT (Gx t)++wTs (r.map Gx)).length=_;rw[au,ih,aX];have:(wT (Gx t)).length=8:=rfl;omega
def L7:Bk->Nat
 | .piece z=>6+z.length
 | .row _ ts=>8+8*ts.length
 | .folder es=>6+(es.map λx=>14+x.nm.length).sum
theorem Tf (es:List En):(wTs (es.map Kr)).length=(es.map λx=>14+x.nm.length).sum:=by
 induction es with
 |nil=>rfl
 |cons x r ih=>
  rw[ao,ao,bG,<-ih];show(wT (Kr x)++wTs (r.map Kr)).length=_;rw[au];have:(wT (Kr x)).length=14+x.nm.length:=by
   show(2::((3:Int))::((1::(x.nm.length:Int)::(Bg x.nm).map idx)++([0,x.kd]++(wT (Gx x.tg)++[])))).length=_;have t8:(wT (Gx x.tg)).length=8:=rfl;simp only[List.length_cons,List.length_append,List.length_map,A3,List.length_nil,t8];omega
  omega
theorem P8 (b:Bk):(wT (DB b)).length=L7 b:=by
 cases b with
 |piece z=>
  show(2::(2:Int)::([0,0]++((1::(z.length:Int)::(Bg z).map idx)++[]))).length=6+z.length;simp only[List.length_cons,List.length_append,List.length_map,A3,List.length_nil];omega
 |row lv ts=>
  show(2::(3:Int)::([0,1]++([0,lv]++((2::((ts.map Gx).length:Int)::wTs (ts.map Gx))++[])))).length=8+8*ts.length;simp only[List.length_cons,List.length_append,List.length_nil,Q1];omega
 |folder es=>
  show(2::(2:Int)::([0,2]++((2::((es.map Kr).length:Int)::wTs (es.map Kr))++[]))).length=6+(es.map λx=>14+x.nm.length).sum;simp only[List.length_cons,List.length_append,List.length_nil,Tf];omega
theorem size_le {b:Bk}(h:GJ b):L7 b<=500:=by
 cases b with
 |piece z=>
  have h':(decide ((1:Int)<=(z.length:Int))&&decide ((z.length:Int)<=8)&&BJ SG z)=true:=h;simp only[Bool.and_eq_true,decide_eq_true_eq] at h';show 6+z.length<=500;omega
 |row lv ts=>
  have:=h.2.1;show 8+8*ts.length<=500;omega
 |folder es=>
  have n:=h.1;have s0:∀l:List En,(∀x∈l,U5 x)->(l.map λx=>14+x.nm.length).sum<=22*l.length:=λl=>by
   induction l with
   |nil=>intro _;exact ar _
   |cons x r ih=>
    intro hx;rw[ao,bG,aX];have:=ih λy hy=>hx y (aI _ hy)
    have:=(FJ (hx x aw).1).2.1;omega
  have:=s0 es h.2.1;show 6+_<=500;omega
def HN (K:W.Frag):Sp:=λvs H Q _=>∃v b,vs=[v]/\Rep NL H (DB b) v/\GJ b/\∀H',Am H H'->Q (.int ((wT (DB b)).length:Int)) H'
theorem PP (T:Txt K mg Aj Aa Ac XC)(F:Fun K "size_of" "size_of" EI f fd)(ET:Def P w K mg base 9 "words_of" ["thing"] (GQ K)):FnOk P w K mg base Cf 10 f fd ["block"] (HN K):=by
 exists OL
 ·obtain⟨v,b,rfl,_⟩:=h;rfl
 obtain⟨v,b,rfl,hv,ok,q⟩:=h;refine⟨_,(!Al (!Av (!Ax AM (by rfl) T.b_len BW (!Ab (!AC ET (by trivial) rfl (!Ab (pv 0) (!Af))) (!Af))))),?_⟩
 try dsimp only[Bh,Cx.nox,Cx.wish]
 have:=P8 b;have:=size_le ok;refine⟨_,rfl,v,DB b,rfl,hv,Lc ok,by omega,λwl H2 s2 nw hw=>⟨wl,_,rfl,.inl (AD.of hw),?_⟩⟩;rw[aa];exact q _ s2
def AQ:Bk->List Tg
 | .piece _=>[]
 | .row _ ts=>ts
 | .folder es=>es.map (·.tg)
def Mf (H:Hp):V->V
 | .ref a=>match H a with
  |some (.tup [_,_,t])=>t
  |_=>.non
 |_=>.non
theorem KO {H:Hp}{a:Addr}{x y z:V}(h:H a=some (.tup [x,y,z])):Mf H (.ref a)=z:=by
 show(match H a with|some (.tup [_,_,t])=>t|_=>V.non)=z;rw[h]
theorem HR {H:Hp}:∀{es:List En} {us:List V},AN NL H (es.map Kr) us->AN NL H ((es.map (·.tg)).map Gx) (us.map (Mf H))
 |[],us,h=>by cases h;exact rfl
 |e::es,us,h=>by
  obtain⟨v,vs,rfl,h1,h2⟩:=h;obtain⟨a,b,rfl,e1,e2⟩:=Fh h1;refine⟨_,_,rfl,?_,HR h2⟩;rw[KO e1];exact Lf e2
def HQ (K:W.Frag):Sp:=λvs H Q _=>∃v b,vs=[v]/\Rep NL H (DB b) v/\GJ b/\∀l us H',Am H H'->H l=none->H' l=some (.lst us)->AN NL H' ((AQ b).map Gx) us->Q (.ref l) H'
theorem Pi (T:Txt K mg Aj Aa Ac XC)(F:Fun K "tags_in" "tags_in" EC f fd):FnOk P w K mg base Cf 1 f fd ["block"] (HQ K):=by
 exists O6
 ·obtain⟨v,b,rfl,_⟩:=h;rfl
 obtain⟨v,b,rfl,hv,ok,q⟩:=h;refine⟨_,(!Ag (!BH (!AE CV (!An Az (pv 0) (!Ae) (λ_ _=>rfl)) (!Bq rfl T.c_PIECE) (AH _)) (!Al (!Av (!Bb (!Af)))) (!AV)) (!Ag (!BH (!AE CV (!An Az (pv 0) (!Ae) (λ_ _=>rfl)) (!Bq rfl T.c_ROW) (AH _)) (!Al (!Av (!Bj DC (by rfl) T.b_list Gm (!Ab (!An Az (pv 0) (!Ae) (λ_ _=>rfl)) (!Af))))) (!AV)) (!Al (!Av (@BX _ ["name","kind","tag"] _ _ _ _ _ _ _ _ _ _ rfl (!Cv (!An Az (pv 0) (!Ae) (λ_ _=>rfl))) (by decide +kernel) (λC s H fp=>⟨(@Ht _ (K) _ _ _ _ (3) (by rfl) rfl (!AJ (@Ap _ _ (0) _ (show(["name","kind","tag"]:List Str).Nodup by decide +kernel) rfl (by trivial) (by trivial)) (!AJ (@Ap _ _ (1) _ (show(["name","kind","tag"]:List Str).Nodup by decide +kernel) rfl (by trivial) (by trivial)) (!AJ (@Ap _ _ (2) _ (show(["name","kind","tag"]:List Str).Nodup by decide +kernel) rfl (by trivial) (by trivial)) (!C5)))) (by rfl) (by rfl)),(!AO),(pv 2)⟩) (by intro _;rfl)))))),?_⟩
 try dsimp only[Bh,Cx.nox,Cx.wish]
 cases b with
 |piece z=>
  obtain⟨a,rfl,e⟩:=Hq hv;refine⟨_,rfl,a,_,_,_,rfl,rfl,AL.of e,rfl,rfl,_,rfl,Fe rfl ?_⟩;exact⟨HX,λl hl=>q l [] _ (Ak hl _) hl Ad rfl⟩
 |row lv ts=>
  obtain⟨a,d,us,rfl,e,e2,r⟩:=Kg hv;refine⟨_,rfl,a,_,_,_,rfl,rfl,AL.of e,rfl,rfl,_,rfl,Bi rfl ?_⟩;refine⟨_,rfl,a,_,_,_,rfl,rfl,AL.of e,rfl,rfl,_,rfl,Fe rfl ?_⟩;exact⟨_,rfl,a,_,_,_,rfl,rfl,AL.of e,rfl,d,_,rfl,.inr (AL.of e2),λl hl=>q l us _ (Ak hl _) hl Ad (AN.same (Ak hl _) _ _ r)⟩
 |folder es=>
  obtain⟨a,d,us,rfl,e,e2,r⟩:=DK hv;refine⟨_,rfl,a,_,_,_,rfl,rfl,AL.of e,rfl,rfl,_,rfl,Bi rfl ?_⟩;refine⟨_,rfl,a,_,_,_,rfl,rfl,AL.of e,rfl,rfl,_,rfl,Bi rfl ?_⟩;refine⟨_,rfl,a,_,_,_,rfl,rfl,AL.of e,rfl,d,rfl,⟨_,AL.of e2⟩,?_⟩;have lu:us.length=es.length:=by rw[AN.len _ _ r,aa]
  have l16:es.length<=16:=ok.1;refine QJ (xs:=us) (Mf H) (Cb e2) (by omega) (λx hx=>?_) (λb x1 x2 x3 H' R hx hb s' hR=>⟨_,rfl,?_⟩) λl H' nl s' hl=>q l _ H' s' nl hl (AN.same s' _ _ (HR r))
  ·obtain⟨en,_,hr⟩:=Hh r hx;obtain⟨b,c,rfl,e3,_⟩:=Fh hr;exact⟨b,_,_,_,rfl,e3⟩
  ·have:=hR H' (Am.refl _);rw[KO hb] at this;exact this
def GX (t:Addr)(n:Int)(l:Addr)(k e s:Int):List (Str×V):=[("own_tag",.ref t),("own_size",.int n),("named",.ref l),("times_named",.int k),("entries_beneath",.int e),("steps_beneath",.int s)]
def Dv (K:W.Frag)(C:Addr):Sp:=λvs H Q _=>∃(x dx ta:Addr) (v:V) (b:Bk),vs=[.ref x,.ref ta,v]/\H x=some (.ins C dx [])/\Rep NL H (DB b) v/\GJ b/\
 ∀l us H',(∀c o,H c=some o->c≠x->H' c=some o)->H l=none->H' l=some (.lst us)->AN NL H' ((AQ b).map Gx) us->H' x=some (.ins C dx (GX ta ((wT (DB b)).length:Int) l 0 0 0))->Q .non H'
theorem IT (T:Txt K mg Aj Aa Ac XC)(F:Fun K "__init__" "TakenCell.__init__" BB f fd)(Js:Def P w K mg base 10 "size_of" ["block"] (HN K))(JH:Def P w K mg base 1 "tags_in" ["block"] (HQ K)):FnOk P w K mg base Cf 11 f fd ["self","own_tag","block"] (Dv K Aa):=by
 exists Iz
 ·obtain⟨x,dx,ta,v,b,rfl,_⟩:=h;rfl
 obtain⟨x,dx,ta,v,b,rfl,hx,hv,ok,q⟩:=h;refine⟨_,(!Ag (!CY (pv 0) (pv 1)) (!Ag (!CY (pv 0) (!AC Js (by trivial) rfl (!Ab (pv 2) (!Af)))) (!Ag (!CY (pv 0) (!AC JH (by trivial) rfl (!Ab (pv 2) (!Af)))) (!Ag (!CY (pv 0) (!Ae)) (!Ag (!CY (pv 0) (!Ae)) (!Al (!CY (pv 0) (!Ae)))))))),?_⟩
 try dsimp only[Bh,Cx.nox,Cx.wish]
 have tp:∀(o:HO) c ys,H c=some (.tup ys)->(upd H x o) c=some (.tup ys):=λo c ys h=>by rw[Ah (BG h hx (by intro z;cases z))];exact h
 refine⟨_,rfl,_,rfl,x,Aa,dx,[],rfl,hx,T.cl_TakenCell,T.n_TakenCell_own_tag,(by show 0<1000;decide),?_⟩;refine⟨_,rfl,v,b,rfl,CD (tp _) _ _ hv,ok,λH1 s1=>⟨_,rfl,x,Aa,dx,_,rfl,s1.get Ad,T.cl_TakenCell,T.n_TakenCell_own_size,(by show 1<1000;decide),?_⟩⟩;have hx1:∀o,(upd H1 x o) x=some o:=λo=>Ad
 have k1:∀o c u,H c=some u->c≠x->(upd H1 x o) c=some u:=λo c u h n=>by rw[Ah n];exact s1.get (by rw[Ah n];exact h)
 refine⟨_,rfl,v,b,rfl,CD (λc ys h=>k1 _ c _ h (BG h hx (by intro z;cases z))) _ _ hv,ok,λl us H2 s2 nl hl r=>⟨_,rfl,x,Aa,dx,_,rfl,s2.get (hx1 _),T.cl_TakenCell,T.n_TakenCell_named,(by show 2<1000;decide),?_⟩⟩;have nlx:l≠x:=λz=>by rw[z,hx1] at nl;cases nl
 refine⟨_,rfl,x,Aa,dx,_,rfl,Ad,T.cl_TakenCell,T.n_TakenCell_times_named,(by show 3<1000;decide),?_⟩;refine⟨_,rfl,x,Aa,dx,_,rfl,Ad,T.cl_TakenCell,T.n_TakenCell_entries_beneath,(by show 4<1000;decide),?_⟩;refine⟨_,rfl,x,Aa,dx,_,rfl,Ad,T.cl_TakenCell,T.n_TakenCell_steps_beneath,(by show 5<1000;decide),?_⟩;rw[Iw,Iw,Iw];have nlH:H l=none:=by
  cases h:H l with
  |none=>rfl
  |some o=>rw[k1 _ l o h nlx] at nl;cases nl
 refine q l us _ (λc o h n=>by rw[Ah n];exact s2.get (k1 _ c o h n)) nlH (by rw[Ah nlx];exact hl) (B0 (λc ys h=>?_) _ _ r) Ad;rw[Ah (λz=>by have:=s2.get (hx1 (.ins Aa dx (E7 "own_size" (V.int ((wT (DB b)).length:Int)) (E7 "own_tag" (V.ref ta) []))));rw[z,this] at h;cases h)];exact h
def KW (bo dt dz dd:Addr)(n:Int):List (Str×V):=[("boards",.ref bo),("taken",.ref dt),("by_sums",.ref dz),("draft",.ref dd),("first_maybe_free",.int n)]
def FT (K:W.Frag)(C:Addr):Sp:=λvs H Q _=>∃(x dx bo:Addr),vs=[.ref x,.ref bo]/\H x=some (.ins C dx [])/\
 ∀dt dz dd H',(∀c o,H c=some o->c≠x->H' c=some o)->dt≠dz->dt≠dd->dz≠dd->H' dt=some (.dK [])->H' dz=some (.dK [])->H' dd=some (.dK [])->H' x=some (.ins C dx (KW bo dt dz dd 1))->Q .non H'
theorem MW (T:Txt K mg Aj Aa Ac XC)(F:Fun K "__init__" "Pool.__init__" Dl f fd):FnOk P w K mg base Cf 1 f fd ["self","boards"] (FT K Ac):=by
 exists M9
 ·obtain⟨x,dx,bo,rfl,_⟩:=h;rfl
 obtain⟨x,dx,bo,rfl,hx,q⟩:=h;refine⟨_,(!Ag (!CY (pv 0) (pv 1)) (!Ag (!CY (pv 0) (!Cs)) (!Ag (!CY (pv 0) (!Cs)) (!Ag (!CY (pv 0) (!Cs)) (!Al (!CY (pv 0) (!Ae))))))),?_⟩
 try dsimp only[Bh,Cx.nox,Cx.wish]
 refine⟨_,rfl,_,rfl,x,Ac,dx,[],rfl,hx,T.cl_Pool,T.n_Pool_boards,(by show 0<1000;decide),?_⟩;refine λdt hdt=>?_
 have n1:dt≠x:=λz=>by rw[z,Ad] at hdt;cases hdt
 refine⟨_,rfl,x,Ac,dx,_,rfl,(Ak hdt _).get Ad,T.cl_Pool,T.n_Pool_taken,(by show 1<1000;decide),?_⟩;refine λdz hdz=>?_
 have n2:dz≠x:=λz=>by rw[z,Ad] at hdz;cases hdz
 have e1:dz≠dt:=λz=>by rw[z,Ah n1,Ad] at hdz;cases hdz
 refine⟨_,rfl,x,Ac,dx,_,rfl,(Ak hdz _).get Ad,T.cl_Pool,T.n_Pool_by_sums,(by show 2<1000;decide),?_⟩;refine λdd hdd=>?_
 have n3:dd≠x:=λz=>by rw[z,Ad] at hdd;cases hdd
 have e2:dd≠dz:=λz=>by rw[z,Ah n2,Ad] at hdd;cases hdd
 have e3:dd≠dt:=λz=>by rw[z,Ah n1,Ah (Ne.symm e1),Ah n1,Ad] at hdd;cases hdd
 refine⟨_,rfl,x,Ac,dx,_,rfl,(Ak hdd _).get Ad,T.cl_Pool,T.n_Pool_draft,(by show 3<1000;decide),?_⟩;refine⟨_,rfl,x,Ac,dx,_,rfl,Ad,T.cl_Pool,T.n_Pool_first_maybe_free,(by show 4<1000;decide),?_⟩;refine q dt dz dd _ (λc o h n=>?_) (Ne.symm e1) (Ne.symm e3) (Ne.symm e2) ?_ ?_ ?_ Ad
 ·have a1:c≠dt:=λz=>by rw[<-z,Ah n,h] at hdt;cases hdt
  have b1:=h;have a2:c≠dz:=λz=>by rw[<-z,Ah n,Ah a1,Ah n,h] at hdz;cases hdz
  have a3:c≠dd:=λz=>by rw[<-z,Ah n,Ah a2,Ah n,Ah a1,Ah n,h] at hdd;cases hdd
  rw[Ah n,Ah n,Ah a3,Ah n,Ah a2,Ah n,Ah a1,Ah n];exact h
 ·rw[Ah n1,Ah n1,Ah (Ne.symm e3),Ah n1,Ah (Ne.symm e1),Ah n1,Ad]
 ·rw[Ah n2,Ah n2,Ah (Ne.symm e2),Ah n2,Ad]
 ·rw[Ah n3,Ah n3,Ad]
structure Cl where
 z:Int
 y:Int
 bk:Bk
 v:V
 c:Addr
 dx:Addr
 ta:Addr
 l:Addr
 k:Int
 en:Int
 st:Int
structure Pl where
 dp:Addr
 bo:Addr
 dt:Addr
 dz:Addr
 dd:Addr
 n:Int
def Jh (C:Addr)(H:Hp)(e:Cl):Prop:=H e.c=some (.ins C e.dx (GX e.ta ((wT (DB e.bk)).length:Int) e.l e.k e.en e.st))/\H e.ta=some (.tup [.int e.z,.int e.y,.int (BC e.bk)])/\Rep NL H (DB e.bk) e.v/\GJ e.bk
def Mp (cs:List Cl):List (Key×V):=cs.map λe=>(Sum.inl e.z,.ref e.c)
def Rl (cs:List Cl):List (Key×V):=cs.map λe=>(Sum.inl e.z,e.v)
def FB (CP CT:Addr)(H:Hp)(p:Addr)(q:Pl)(cs:List Cl):Prop:=H p=some (.ins CP q.dp (KW q.bo q.dt q.dz q.dd q.n))/\H q.dt=some (.dK (Mp cs))/\(∀e∈cs,Jh CT H e)/\(cs.map (·.z)).Nodup
theorem Nb {κ:Type}[DecidableEq κ]:∀{kvs:List (κ×V)} (_:(kvs.map (·.1)).Nodup) {k:κ} {v:V},(k,v)∈kvs->Bo kvs k=some v
 |[],_,_,_,h=>nomatch h
 |x::kvs,nd,k,v,h=>by
  rw[ao,bR] at nd;rcases aL.mp h with rfl|h
  ·exact E3 rfl
  ·rw[D6 (λe=>nd.1 (by rw[e];exact af.mpr ⟨_,h,rfl⟩))];exact Nb nd.2 h
theorem JF {g:Cl->V}:∀{cs:List Cl},(cs.map (·.z)).Nodup->((cs.map λe=>((Sum.inl e.z:Key),g e)).map (·.1)).Nodup
 |[],_=>bY
 |e::cs,h=>by
  rw[ao,bR] at h;rw[ao,ao,bR];refine⟨λq=>h.1 ?_,JF h.2⟩;obtain⟨x,hx,e1⟩:=af.mp q;obtain⟨u,hu,rfl⟩:=af.mp hx;exact af.mpr ⟨u,hu,bH e1⟩
theorem HJ {cs:List Cl}(nd:(cs.map (·.z)).Nodup){e:Cl}(h:e∈cs):Bo (Mp cs) (Sum.inl e.z)=some (.ref e.c):=Nb (JF nd) (af.mpr ⟨e,h,rfl⟩)
theorem Wt {cs:List Cl}(nd:(cs.map (·.z)).Nodup){e:Cl}(h:e∈cs):Bo (Rl cs) (Sum.inl e.z)=some e.v:=Nb (JF nd) (af.mpr ⟨e,h,rfl⟩)
def GF (K:W.Frag)(CP CT:Addr):Sp:=λvs H Q _=>∃p q cs e,vs=[.ref p,.int e.z]/\FB CP CT H p q cs/\e∈cs/\Q (.ref e.ta) H
theorem Oe (T:Txt K mg Aj Aa Ac XC)(F:Fun K "tag" "Pool.tag" DV f fd):FnOk P w K mg base Cf 1 f fd ["self","number"] (GF K Ac Aa):=by
 exists N1
 ·obtain⟨p,q,cs,e,rfl,_⟩:=h;rfl
 obtain⟨p,q,cs,e,rfl,⟨h1,h2,h4,nd⟩,he,hq⟩:=h;have hu:=BI hr;refine⟨_,(!Al (!Av (!BK (!Br hu (!BK (pv 0)) (pv 1) (λ_ _=>rfl))))),?_⟩
 try dsimp only[Bh,Cx.nox,Cx.wish]
 have g:BA H q.dt (.int e.z) (some (.ref e.c)):=by
  have:=BA.k (k:=Sum.inl e.z) h2;rw[HJ nd he] at this;exact this
 exact⟨_,rfl,p,Ac,q.dp,_,_,rfl,h1,T.cl_Pool,T.n_Pool_taken,rfl,_,rfl,q.dt,_,rfl,g,e.c,Aa,e.dx,_,_,rfl,(h4 e he).1,T.cl_TakenCell,T.n_TakenCell_own_tag,rfl,hq⟩
def Ei (K:W.Frag)(CP CT:Addr):Sp:=λvs H Q _=>∃p q cs e,vs=[.ref p,.int e.z]/\FB CP CT H p q cs/\e∈cs/\Q (.int e.en) H
theorem Kd (T:Txt K mg Aj Aa Ac XC)(F:Fun K "entries" "Pool.entries" Ca f fd):FnOk P w K mg base Cf 1 f fd ["self","number"] (Ei K Ac Aa):=by
 exists J3
 ·obtain⟨p,q,cs,e,rfl,_⟩:=h;rfl
 obtain⟨p,q,cs,e,rfl,⟨h1,h2,h4,nd⟩,he,hq⟩:=h;have hu:=BI hr;refine⟨_,(!Al (!Av (!BK (!Br hu (!BK (pv 0)) (pv 1) (λ_ _=>rfl))))),?_⟩
 try dsimp only[Bh,Cx.nox,Cx.wish]
 have g:BA H q.dt (.int e.z) (some (.ref e.c)):=by
  have:=BA.k (k:=Sum.inl e.z) h2;rw[HJ nd he] at this;exact this
 exact⟨_,rfl,p,Ac,q.dp,_,_,rfl,h1,T.cl_Pool,T.n_Pool_taken,rfl,_,rfl,q.dt,_,rfl,g,e.c,Aa,e.dx,_,_,rfl,(h4 e he).1,T.cl_TakenCell,T.n_TakenCell_entries_beneath,rfl,hq⟩
def FR (K:W.Frag)(CP CT:Addr):Sp:=λvs H Q _=>∃p q cs e,vs=[.ref p,.int e.z]/\FB CP CT H p q cs/\e∈cs/\Q (.int e.st) H
theorem MU (T:Txt K mg Aj Aa Ac XC)(F:Fun K "deep" "Pool.deep" Dj f fd):FnOk P w K mg base Cf 1 f fd ["self","number"] (FR K Ac Aa):=by
 exists L9
 ·obtain⟨p,q,cs,e,rfl,_⟩:=h;rfl
 obtain⟨p,q,cs,e,rfl,⟨h1,h2,h4,nd⟩,he,hq⟩:=h;have hu:=BI hr;refine⟨_,(!Al (!Av (!BK (!Br hu (!BK (pv 0)) (pv 1) (λ_ _=>rfl))))),?_⟩
 try dsimp only[Bh,Cx.nox,Cx.wish]
 have g:BA H q.dt (.int e.z) (some (.ref e.c)):=by
  have:=BA.k (k:=Sum.inl e.z) h2;rw[HJ nd he] at this;exact this
 exact⟨_,rfl,p,Ac,q.dp,_,_,rfl,h1,T.cl_Pool,T.n_Pool_taken,rfl,_,rfl,q.dt,_,rfl,g,e.c,Aa,e.dx,_,_,rfl,(h4 e he).1,T.cl_TakenCell,T.n_TakenCell_steps_beneath,rfl,hq⟩
def Fs (K:W.Frag)(CP CT:Addr):Sp:=λvs H Q _=>∃p q cs e,∃(ta:Addr) (y k:V),vs=[.ref p,.ref ta]/\FB CP CT H p q cs/\H q.dd=some (.dK (Rl cs))/\e∈cs/\H ta=some (.tup [.int e.z,y,k])/\Q e.v H
theorem LD (T:Txt K mg Aj Aa Ac XC)(F:Fun K "block" "Pool.block" CN f fd):FnOk P w K mg base Cf 1 f fd ["self","tag"] (Fs K Ac Aa):=by
 exists Lq
 ·obtain⟨p,q,cs,e,ta,y,k,rfl,_⟩:=h;rfl
 obtain⟨p,q,cs,e,ta,y,k,rfl,⟨h1,h2,h4,nd⟩,h3,he,ht,hq⟩:=h;have hu:=BI hr;refine⟨_,(!Ag (!BH (!HY (!My hu (!An Az (pv 1) (!Ae) (λ_ _=>rfl)) (!BK (pv 0))) (by first|exact D7 _ (by decide) (by decide)|rfl)) (!Al (!Av (!Br hu (!BK (pv 0)) (!An Az (pv 1) (!Ae) (λ_ _=>rfl)) (λ_ _=>rfl)))) (!AV)) (!Al (!IC))),?_⟩
 try dsimp only[Bh,Cx.nox,Cx.wish]
 have g:BA H q.dd (.int e.z) (some e.v):=by
  have:=BA.k (k:=Sum.inl e.z) h3;rw[Wt nd he] at this;exact this
 refine⟨_,rfl,ta,_,_,_,rfl,rfl,AL.of ht,rfl,_,rfl,p,Ac,q.dp,_,_,rfl,h1,T.cl_Pool,T.n_Pool_draft,rfl,q.dd,_,rfl,g,?_⟩;refine⟨_,rfl,Fe rfl ?_⟩;exact⟨_,rfl,p,Ac,q.dp,_,_,rfl,h1,T.cl_Pool,T.n_Pool_draft,rfl,_,rfl,ta,_,_,_,rfl,rfl,AL.of ht,rfl,q.dd,_,rfl,g,hq⟩
def Gg (K:W.Frag)(CP CT:Addr):Sp:=λvs H Q _=>∃p q cs e,∃(ta:Addr) (y k:V),vs=[.ref p,.ref ta]/\FB CP CT H p q cs/\e∈cs/\H ta=some (.tup [.int e.z,y,k])/\Q .non (upd H e.c (.ins CT e.dx (GX e.ta ((wT (DB e.bk)).length:Int) e.l (e.k+1) e.en e.st)))
theorem M8 (T:Txt K mg Aj Aa Ac XC)(F:Fun K "hold" "Pool.hold" De f fd):FnOk P w K mg base Cf 1 f fd ["self","tag"] (Gg K Ac Aa):=by
 exists IH
 ·obtain⟨p,q,cs,e,ta,y,k,rfl,_⟩:=h;rfl
 obtain⟨p,q,cs,e,ta,y,k,rfl,⟨h1,h2,h4,nd⟩,he,ht,hq⟩:=h;have hu:=BI hr;refine⟨_,(!Ag (@Au _ _ (2) _ _ _ _ IH.nd rfl (by trivial) (!Br hu (!BK (pv 0)) (!An Az (pv 1) (!Ae) (λ_ _=>rfl)) (λ_ _=>rfl)) (by rfl) (by trivial)) (!Al (!LG (pv 2) (!Ae) Qr))),?_⟩
 try dsimp only[Bh,Cx.nox,Cx.wish]
 have g:BA H q.dt (.int e.z) (some (.ref e.c)):=by
  have:=BA.k (k:=Sum.inl e.z) h2;rw[HJ nd he] at this;exact this
 have hc:=(h4 e he).1;refine⟨_,rfl,p,Ac,q.dp,_,_,rfl,h1,T.cl_Pool,T.n_Pool_taken,rfl,_,rfl,ta,_,_,_,rfl,rfl,AL.of ht,rfl,q.dt,_,rfl,g,?_⟩;exact⟨_,rfl,e.c,Aa,e.dx,_,_,rfl,hc,T.cl_TakenCell,T.n_TakenCell_times_named,rfl,_,_,rfl,rfl,e.dx,_,hc,(by show 6<1000;decide),hq⟩
def CW (K:W.Frag)(CP CT:Addr):Sp:=λvs H Q _=>∃p q cs,vs=[.ref p]/\FB CP CT H p q cs/\(∀(i:Nat) e,cs[i]?=some e->e.z=(i:Int)+1)/\1<=q.n/\q.n<=(cs.length:Int)+1/\
 ∀H',H' p=some (.ins CP q.dp (KW q.bo q.dt q.dz q.dd ((cs.length:Int)+1)))->(∀b,b≠p->H' b=H b)->Q (.int ((cs.length:Int)+1)) H'
theorem Hx (T:Txt K mg Aj Aa Ac XC)(F:Fun K "free_number" "Pool.free_number" Bd f fd):FnOk P w K mg base Cf 1 f fd ["self"] (CW K Ac Aa):=by
 exists Hw
 ·obtain⟨p,q,cs,rfl,_⟩:=h;rfl
 obtain⟨p,q,cs,rfl,⟨h1,h2,h4,nd⟩,zs,n1,n2,hq⟩:=h;have hu:=BI hr;refine⟨_,(!Ag (!G5 aW (!HY (!My hu (!BK (pv 0)) (!BK (pv 0))) (by first|exact D7 _ (by decide) (by decide)|rfl)) (!Al (!LG (pv 0) (!Ae) Qr))) (!Al (!Av (!BK (pv 0))))),?_⟩
 try dsimp only[Bh,Cx.nox,Cx.wish]
 have nt:q.dt≠p:=BG h2 h1 (by intro z;cases z);have vn:∀j:Int,(cs.length:Int)<j->Bo (Mp cs) (Sum.inl j)=none:=λj hj=>by
  unfold Bo;rw[cZ,cL];intro x hx;obtain⟨e,he,rfl⟩:=af.mp hx;obtain⟨i,hi,rfl⟩:=cj he;have:=zs i _ (ab hi);intro z;have:=bH (aQ z);omega
 refine⟨λm σ H2=>∃j:Int,m=((cs.length:Int)+1-j).toNat/\1<=j/\j<=(cs.length:Int)+1/\σ=[some (.ref p)]/\H2 p=some (.ins Ac q.dp (KW q.bo q.dt q.dz q.dd j))/\∀b,b≠p->H2 b=H b,⟨_,q.n,rfl,n1,n2,rfl,h1,λ_ _=>rfl⟩,?_⟩
 rintro m σ H2 ⟨j,rfl,j1,j2,rfl,hp,ho⟩
 have hdt:H2 q.dt=some (.dK (Mp cs)):=by rw[ho _ nt];exact h2
 refine⟨_,rfl,p,Ac,q.dp,_,_,rfl,hp,T.cl_Pool,T.n_Pool_first_maybe_free,rfl,_,rfl,p,Ac,q.dp,_,_,rfl,hp,T.cl_Pool,T.n_Pool_taken,rfl,q.dt,_,rfl,BA.k (k:=Sum.inl j) hdt,_,rfl,Et (λc=>?_) (λc=>?_)⟩
 ·have hj:j<=(cs.length:Int):=cE λz=>by
   rw[vn j (by omega)] at c;cases c
  refine⟨λσ H'=>σ=[some (.ref p)]/\H' p=some (.ins Ac q.dp (KW q.bo q.dt q.dz q.dd (j+1)))/\∀b,b≠p->H' b=H b,?_,?_⟩
  ·rintro σ' H' ⟨rfl,a1,a2⟩
   exact⟨((cs.length:Int)+1-(j+1)).toNat,by omega,j+1,rfl,by omega,by omega,rfl,a1,a2⟩
  ·refine⟨_,rfl,p,Ac,q.dp,_,_,rfl,hp,T.cl_Pool,T.n_Pool_first_maybe_free,rfl,_,_,rfl,rfl,q.dp,_,hp,(by show 5<1000;decide),rfl,Ad,λb hb=>?_⟩;rw[Ah hb];exact ho b hb
 ·have hj:j=(cs.length:Int)+1:=cE λz=>by
   have li:(j-1).toNat<cs.length:=by omega
   have hz:=zs _ _ (ab li);have:=HJ nd (bF li);rw[hz,show(((j-1).toNat:Nat):Int)+1=j by omega] at this;rw[this] at c;exact c rfl
  subst hj;exact⟨_,rfl,p,Ac,q.dp,_,_,rfl,hp,T.cl_Pool,T.n_Pool_first_maybe_free,rfl,hq H2 hp ho⟩
end
open M06
section
variable {P:Program}{w:World}{K:W.Frag}{mg:Str->Option Value}{base:Heap}{f Aj Aa Ac:Addr}{XC:Nat->Addr}{fd:FuncData}
theorem KL {J:It} {xs:List V} {te:TE} {Q:VK} {s0:Option V} {σ:St} {H:Hp} (f:V->V) (hJ:Ie J H xs) (hn:xs.length<=1000000) (htg:∀x∈xs,∃a x1 x2 x3,x=.ref a/\H a=some (.tup [x1,x2,x3]))
  (helt:∀a x1 x2 x3 (H':Hp) (R:VK),V.ref a∈xs->H a=some (.tup [x1,x2,x3])->Am H H'->(∀H'',Am H' H''->R (f (.ref a)) H'')->te [some x1,some x2,some x3,s0] H' R)
  (hQ:∀l H',H l=none->Am H H'->H' l=some (.lst (xs.map f))->Q (.ref l) H') :
  Eo [none,none,none,some 0] (Rn K 3 (G9 (Ay 0) (G9 (Ay 1) (G9 (Ay 2) RE)))) Oq te (s0::σ) Q J H:=by
 intro l hl;refine⟨λi m σ' H'=>m=xs.length-i/\i<=xs.length/\(∃y0 y1 y2,σ'=[y0,y1,y2,s0])/\Am H H'/\H' l=some (.lst ((xs.take i).map f)),⟨xs.length,by simp,bC _,⟨_,_,_,rfl⟩,Ak hl _,by rw[Ad,dO,cx]⟩,?_⟩
 rintro i m σ' H' ⟨rfl,hi,⟨y0,y1,y2,rfl⟩,hs,hl'⟩
 obtain⟨h1,h2,h3⟩:=hJ H' hs i
 by_cases hlt:i<xs.length
 ·refine .inr ⟨h1 hlt,λx H'' y=>?_⟩;obtain⟨rfl,hx⟩:=h2 x H'' y;have hx:=hx hlt;obtain⟨a,x1,x2,x3,rfl,ha⟩:=htg x (aC hx);refine⟨a,_,rfl,AL.of (hs.get ha),rfl,_,_,rfl,_,_,rfl,_,_,rfl,rfl,?_⟩;refine helt a x1 x2 x3 H'' _ (aC hx) ha hs λH4 s4=>?_
  refine⟨_,s4.get hl',AU (by rw[aa,aV];omega),xs.length-(i+1),by omega,rfl,hlt,⟨_,_,_,rfl⟩,AI (hs.trans s4) hl _,?_⟩;rw[Ad,aS,hx];simp
 ·have e:i=xs.length:=by omega
  subst e;exact .inl ⟨h3 (ar _),hQ l H' hl hs (by rw[hl',aZ (ar _)])⟩
theorem Jh.tup {C:Addr}{H H':Hp}{e:Cl}(hc:H' e.c=H e.c)(ht:∀c ys,H c=some (.tup ys)->H' c=some (.tup ys))(h:Jh C H e):Jh C H' e:=⟨by rw[hc];exact h.1,ht _ _ h.2.1,CD ht _ _ h.2.2.1,h.2.2.2⟩
theorem FB.same {CP CT:Addr}{H H':Hp}{p:Addr}{q:Pl}{cs:List Cl}(s:Am H H')(h:FB CP CT H p q cs):FB CP CT H' p q cs:=
 ⟨s.get h.1,s.get h.2.1,λe he=>(h.2.2.1 e he).tup ((s.get (h.2.2.1 e he).1).trans (h.2.2.1 e he).1.symm) (λc ys h=>s.get h),h.2.2.2⟩
def OA (cs:List Cl)(z:Int):Int:=match cs.find? (λe=>decide (e.z=z)) with
 |some e=>e.en
 |none=>0
def Ob (cs:List Cl)(z:Int):Int:=match cs.find? (λe=>decide (e.z=z)) with
 |some e=>e.st
 |none=>0
def UY (cs:List Cl)(x:En):Int:=1+if x.kd=2 then OA cs x.tg.1 else 0
def Ub (cs:List Cl)(x:En):Int:=1+if x.kd=2 then Ob cs x.tg.1 else 0
theorem SJ {cs:List Cl}(nd:(cs.map (·.z)).Nodup){e:Cl}(h:e∈cs):cs.find? (λx=>decide (x.z=e.z))=some e:=by
 induction cs with
 |nil=>nomatch h
 |cons x cs ih=>
  rw[ao,bR] at nd;rcases aL.mp h with rfl|h
  ·exact eC (by simp)
  ·have n:x.z≠e.z:=λz=>nd.1 (by rw[z];exact af.mpr ⟨_,h,rfl⟩)
   rw[eD (by simpa using n)];exact ih nd.2 h
theorem Uw {cs:List Cl}(nd:(cs.map (·.z)).Nodup){e:Cl}(h:e∈cs):OA cs e.z=e.en:=by unfold OA;rw[SJ nd h]
theorem UV {cs:List Cl}(nd:(cs.map (·.z)).Nodup){e:Cl}(h:e∈cs):Ob cs e.z=e.st:=by unfold Ob;rw[SJ nd h]
def RG (H:Hp)(g:Int->Int->Int):V->V
 | .ref a=>match H a with
  |some (.tup [_,.int k,.ref b])=>(match H b with
   |some (.tup (.int z::_))=>.int (g k z)
   |_=>.non)
  |_=>.non
 |_=>.non
theorem PB {H:Hp}{g:Int->Int->Int}{a b:Addr}{x:V}{k z:Int}{xs:List V}(h:H a=some (.tup [x,.int k,.ref b]))(h2:H b=some (.tup (.int z::xs))):RG H g (.ref a)=.int (g k z):=by
 unfold RG;simp only[h,h2]
theorem KE {H:Hp}{g:Int->Int->Int}:∀{es:List En} {us:List V},AN NL H (es.map Kr) us->us.map (RG H g)=(es.map λx=>g x.kd x.tg.1).map V.int
 |[],us,h=>by cases h;exact rfl
 |e::es,us,h=>by
  obtain⟨v,vs,rfl,h1,h2⟩:=h;obtain⟨a,b,rfl,e1,e2⟩:=Fh h1;rw[ao,PB e1 e2,KE h2];rfl
def C9 (K:W.Frag)(CP CT:Addr):Sp:=λvs H Q _=>∃p q cs v es,vs=[.ref p,v]/\FB CP CT H p q cs/\Rep NL H (DB (.folder es)) v/\es.length<=16/\(∀x∈es,x.kd=2->∃e∈cs,e.z=x.tg.1)/\∀H',Am H H'->Q (.int (es.map (UY cs)).sum) H'
theorem HP (T:Txt K mg Aj Aa Ac XC)(F:Fun K "entries_of" "Pool.entries_of" Bm f fd)(ER:CL P w K mg base 1 Ac "entries" ["self","number"] (Ei K Ac Aa)):FnOk P w K mg base Cf 2 f fd ["self","folder"] (C9 K Ac Aa):=by
 exists Im
 ·obtain⟨p,q,cs,v,es,rfl,_⟩:=h;rfl
 obtain⟨p,q,cs,v,es,rfl,pa,hv,l16,kn,hq⟩:=h;have hu:=BI hr;refine⟨_,(!Al (!Av (!Ax (EN rfl) (by rfl) T.b_sum Il (!Ab (@BV _ ["name","kind","tag","self"] [none,none,none,some 0] _ _ _ _ _ _ _ _ _ _ _ rfl (!Cv (!An Az (pv 1) (!Ae) (λ_ _=>rfl))) (by rfl) rfl (by repeat (first|exact trivial|refine⟨rfl,?_⟩)) (by repeat (first|exact trivial|refine⟨λh=>(by first|exact⟨_,rfl⟩|cases h),?_⟩)) (λC s H fp=>⟨(@Ht _ (K) _ _ _ _ (3) (by rfl) rfl (!AJ (@Ap _ _ (0) _ (show(["name","kind","tag","self"]:List Str).Nodup by decide +kernel) rfl (by trivial) (by trivial)) (!AJ (@Ap _ _ (1) _ (show(["name","kind","tag","self"]:List Str).Nodup by decide +kernel) rfl (by trivial) (by trivial)) (!AJ (@Ap _ _ (2) _ (show(["name","kind","tag","self"]:List Str).Nodup by decide +kernel) rfl (by trivial) (by trivial)) (!C5)))) (by rfl) (by rfl)),(!AO),(!Ao AF (!Ae) (!Ov (!AE CV (pv 1) (!Bq rfl T.c_FOLDER_ENTRY) (AH _)) (!CZ (pv 3) T.cl_Pool ER (by trivial) (!Ab (!An (AW (K:=K) (by rfl)) (pv 2) (!Ae) (λ_ _=>rfl)) (!Af))) (!Ae)))⟩) (by intro _;rfl)) (!Af))))),?_⟩
 try dsimp only[Bh,Cx.nox,Cx.wish]
 obtain⟨a,b,us,rfl,e1,e2,r⟩:=DK hv;have lu:us.length=es.length:=by rw[AN.len _ _ r,aa]
 have nd:=pa.2.2.2;refine⟨_,rfl,a,_,_,_,rfl,rfl,AL.of e1,rfl,b,rfl,⟨_,AL.of e2⟩,?_⟩;refine KL (xs:=us) (RG H λk z=>1+if k=2 then OA cs z else 0) (Cb e2) (by omega) (λx hx=>?_) (λc x1 x2 x3 H' R hx hb s' hR=>?_) λl H' nl s' hl=>⟨l,es.map (UY cs),rfl,AD.of (by rw[hl,KE r];rfl),hq H' s'⟩
 ·obtain⟨en,_,hr⟩:=Hh r hx;obtain⟨c,d,rfl,e3,_⟩:=Fh hr;exact⟨c,_,_,_,rfl,e3⟩
 ·obtain⟨en,hen,hr⟩:=Hh r hx;obtain⟨c',d,z,e3,e4⟩:=Fh hr;cases z;rw[hb] at e3;cases e3;have hR:=hR H' (Am.refl _);rw[PB hb e4] at hR;refine⟨_,rfl,rfl,_,rfl,Et (λhk=>?_) (λhk=>?_)⟩
  ·have hk:=aQ hk;have hk:en.kd=2:=V.int.inj hk;obtain⟨e,he,hz⟩:=kn en hen hk;rw[aG hk,<-hz,Uw nd he] at hR;rw[<-hz] at e4;exact⟨_,rfl,p,q.dp,_,rfl,(pa.same s').1,rfl,_,rfl,d,_,_,_,rfl,rfl,AL.of (s'.get e4),rfl,p,q,cs,e,rfl,pa.same s',he,_,_,rfl,rfl,hR⟩
  ·have hk:¬en.kd=2:=λz=>hk (aE (congrArg V.int z))
   rw[aJ hk] at hR;exact⟨_,_,rfl,rfl,hR⟩
def DX (K:W.Frag)(CP CT:Addr):Sp:=λvs H Q _=>∃p q cs v es,vs=[.ref p,v]/\FB CP CT H p q cs/\Rep NL H (DB (.folder es)) v/\es.length<=16/\(∀x∈es,x.kd=2->∃e∈cs,e.z=x.tg.1)/\∀H',Am H H'->Q (.int (Jz (es.map (Ub cs)))) H'
theorem Jk (T:Txt K mg Aj Aa Ac XC)(F:Fun K "steps_of" "Pool.steps_of" BL f fd)(GH:CL P w K mg base 1 Ac "deep" ["self","number"] (FR K Ac Aa)):FnOk P w K mg base Cf 2 f fd ["self","folder"] (DX K Ac Aa):=by
 exists FE
 ·obtain⟨p,q,cs,v,es,rfl,_⟩:=h;rfl
 obtain⟨p,q,cs,v,es,rfl,pa,hv,l16,kn,hq⟩:=h;have hu:=BI hr;refine⟨_,(!Ag (@Eu _ ["name","kind","tag","self"] [none,none,none,some 0] (2) _ _ _ _ _ _ _ _ _ _ _ _ _ _ FE.nd rfl (by trivial) rfl (!Cv (!An Az (pv 1) (!Ae) (λ_ _=>rfl))) (by rfl) rfl (by repeat (first|exact trivial|refine⟨rfl,?_⟩)) (by repeat (first|exact trivial|refine⟨λh=>(by first|exact⟨_,rfl⟩|cases h),?_⟩)) (λC s H fp=>⟨(@Ht _ (K) _ _ _ _ (3) (by rfl) rfl (!AJ (@Ap _ _ (0) _ (show(["name","kind","tag","self"]:List Str).Nodup by decide +kernel) rfl (by trivial) (by trivial)) (!AJ (@Ap _ _ (1) _ (show(["name","kind","tag","self"]:List Str).Nodup by decide +kernel) rfl (by trivial) (by trivial)) (!AJ (@Ap _ _ (2) _ (show(["name","kind","tag","self"]:List Str).Nodup by decide +kernel) rfl (by trivial) (by trivial)) (!C5)))) (by rfl) (by rfl)),(!AO),(!Ao AF (!Ae) (!Ov (!AE CV (pv 1) (!Bq rfl T.c_FOLDER_ENTRY) (AH _)) (!CZ (pv 3) T.cl_Pool GH (by trivial) (!Ab (!An (AW (K:=K) (by rfl)) (pv 2) (!Ae) (λ_ _=>rfl)) (!Af))) (!Ae)))⟩) (by intro _;rfl) (by rfl) (by trivial)) (!Al (!Av (!Ve rfl (by rfl) T.b_max (!Ab (pv 2) (!Af)))))),?_⟩
 try dsimp only[Bh,Cx.nox,Cx.wish]
 obtain⟨a,b,us,rfl,e1,e2,r⟩:=DK hv;have lu:us.length=es.length:=by rw[AN.len _ _ r,aa]
 have nd:=pa.2.2.2;refine⟨_,rfl,a,_,_,_,rfl,rfl,AL.of e1,rfl,b,rfl,⟨_,AL.of e2⟩,?_⟩;refine KL (xs:=us) (RG H λk z=>1+if k=2 then Ob cs z else 0) (Cb e2) (by omega) (λx hx=>?_) (λc x1 x2 x3 H' R hx hb s' hR=>?_) λl H' nl s' hl=>⟨_,rfl,l,es.map (Ub cs),rfl,AD.of (by rw[hl,KE r];rfl),hq H' s'⟩
 ·obtain⟨en,_,hr⟩:=Hh r hx;obtain⟨c,d,rfl,e3,_⟩:=Fh hr;exact⟨c,_,_,_,rfl,e3⟩
 ·obtain⟨en,hen,hr⟩:=Hh r hx;obtain⟨c',d,z,e3,e4⟩:=Fh hr;cases z;rw[hb] at e3;cases e3;have hR:=hR H' (Am.refl _);rw[PB hb e4] at hR;refine⟨_,rfl,rfl,_,rfl,Et (λhk=>?_) (λhk=>?_)⟩
  ·have hk:=aQ hk;have hk:en.kd=2:=V.int.inj hk;obtain⟨e,he,hz⟩:=kn en hen hk;rw[aG hk,<-hz,UV nd he] at hR;rw[<-hz] at e4;exact⟨_,rfl,p,q.dp,_,rfl,(pa.same s').1,rfl,_,rfl,d,_,_,_,rfl,rfl,AL.of (s'.get e4),rfl,p,q,cs,e,rfl,pa.same s',he,_,_,rfl,rfl,hR⟩
  ·have hk:¬en.kd=2:=λz=>hk (aE (congrArg V.int z))
   rw[aJ hk] at hR;exact⟨_,_,rfl,rfl,hR⟩
theorem map_one {α β:Type}{g:α->β}(hg:∀a b,g a=g b->a=b):∀{l l':List α},l.map g=l'.map g->l=l'
 |[],[],_=>rfl
 |[],_::_,h=>nomatch h
 |_::_,[],h=>nomatch h
 |x::l,y::l',h=>by
  rw[ao,ao] at h;injection h with h1 h2
  rw[hg x y h1,map_one hg h2]
theorem Qq (a b:Tg)(h:Gx a=Gx b):a=b:=by
 obtain⟨a1,a2,a3⟩:=a;obtain⟨b1,b2,b3⟩:=b;injection h with h
 injection h with h1 h
 injection h with h2 h
 injection h with h3 _
 injection h1 with h1
 injection h2 with h2
 injection h3 with h3
 dsimp only at h1 h2 h3;rw[h1,h2,h3]
theorem UD (a b:En)(h:Kr a=Kr b):a=b:=by
 obtain⟨a1,a2,a3⟩:=a;obtain⟨b1,b2,b3⟩:=b;injection h with h
 injection h with h1 h
 injection h with h2 h
 injection h with h3 _
 injection h1 with h1
 injection h2 with h2
 have h3:=Qq _ _ h3;dsimp only at h1 h2 h3;rw[h1,h2,h3]
theorem Uy {a b:Bk}(h:DB a=DB b):a=b:=by
 cases a with
 |piece z=>
  cases b with
  |piece z'=>injection h with h;injection h with _ h;injection h with h _;injection h with h;rw[h]
  |row lv ts=>injection h with h;injection h with h _;injection h with h;cases h
  |folder es=>injection h with h;injection h with h _;injection h with h;cases h
 |row lv ts=>
  cases b with
  |piece z'=>injection h with h;injection h with h _;injection h with h;cases h
  |row lv' ts'=>
   injection h with h;injection h with _ h;injection h with h1 h;injection h with h2 _
   injection h1 with h1
   injection h2 with h2
   rw[h1,map_one Qq h2]
  |folder es=>injection h with h;injection h with h _;injection h with h;cases h
 |folder es=>
  cases b with
  |piece z'=>injection h with h;injection h with h _;injection h with h;cases h
  |row lv ts=>injection h with h;injection h with h _;injection h with h;cases h
  |folder es'=>injection h with h;injection h with _ h;injection h with h _;injection h with h;rw[map_one UD h]
theorem BZ {α β:Type}{g:α->β}:∀{l:List α},(l.map g).Nodup->∀{x y:α},x∈l->y∈l->g x=g y->x=y
 |[],_,_,_,h,_,_=>nomatch h
 |a::l,nd,x,y,hx,hy,e=>by
  rw[ao,bR] at nd;rcases aL.mp hx with hx|hx
  ·rcases aL.mp hy with hy|hy
   ·rw[hx,hy]
   ·exact(nd.1 (by rw[<-hx,e];exact af.mpr ⟨_,hy,rfl⟩)).elim
  ·rcases aL.mp hy with hy|hy
   ·exact(nd.1 (by rw[<-hy,<-e];exact af.mpr ⟨_,hx,rfl⟩)).elim
   ·exact BZ nd.2 hx hy e
def bump (zs:List Int)(e:Cl):Cl:={ e with k:=e.k+(zs.count e.z:Int) }
theorem Q0 (zs ys:List Int)(e:Cl):bump ys (bump zs e)=bump (zs++ys) e:=by
 unfold bump;rw[List.count_append];simp only[Int.natCast_add,Int.add_assoc]
theorem SL (e:Cl):bump [] e=e:=by
 unfold bump;simp
theorem Rt (cs:List Cl):cs.map (bump [])=cs:=by
 rw[show(bump []:Cl->Cl)=id from funext SL];simp
theorem Px (zs ys:List Int)(cs:List Cl):(cs.map (bump zs)).map (bump ys)=cs.map (bump (zs++ys)):=by
 rw[aq];exact bD λe _=>Q0 zs ys e
theorem RY (zs:List Int)(cs:List Cl):Mp (cs.map (bump zs))=Mp cs:=by unfold Mp;rw[aq];rfl
theorem RV (zs:List Int)(cs:List Cl):Rl (cs.map (bump zs))=Rl cs:=by unfold Rl;rw[aq];rfl
theorem UG (zs:List Int)(cs:List Cl):(cs.map (bump zs)).map (·.z)=cs.map (·.z):=by rw[aq];rfl
theorem Mh (zs:List Int)(cs:List Cl):(cs.map (bump zs)).map (·.c)=cs.map (·.c):=by rw[aq];rfl
def Ez (cs:List Cl)(s:Int):List Int:=(cs.filter (λe=>decide (BC e.bk=s))).map (·.z)
theorem LJ (zs:List Int)(s:Int):∀cs:List Cl,Ez (cs.map (bump zs)) s=Ez cs s
 |[]=>rfl
 |e::cs=>by
  have ih:=LJ zs s cs;unfold Ez at ih ⊢;rw[ao,cq,cq];have:decide (BC (bump zs e).bk=s)=decide (BC e.bk=s):=rfl;rw[this];cases decide (BC e.bk=s)
  ·exact ih
  ·show(bump zs e).z::_=e.z::_;rw[ih];rfl
theorem LL (cs:List Cl)(e:Cl)(s:Int):Ez (cs++[e]) s=Ez cs s++if BC e.bk=s then[e.z] else[]:=by
 unfold Ez;rw[cV,aj]
 by_cases h:BC e.bk=s
 ·rw[aG h,List.filter_cons_of_pos (by simpa using h)];rfl
 ·rw[aJ h,List.filter_cons_of_neg (by simpa using h)];rfl
theorem IU {cs:List Cl}{s z:Int}:z∈Ez cs s↔∃e∈cs,BC e.bk=s/\e.z=z:=by
 unfold Ez;rw[af];constructor
 ·rintro⟨e,he,rfl⟩
  rw[aU,bj] at he;exact⟨e,he.1,he.2,rfl⟩
 ·rintro⟨e,he,hs,rfl⟩
  exact⟨e,aU.mpr ⟨he,by simpa using hs⟩,rfl⟩
theorem Of (cs:List Cl)(s:Int):(Ez cs s).length<=cs.length:=by
 unfold Ez;rw[aa];exact bq _ _
def QQ (ns:List Int):List (Key×V):=ns.map λz=>(Sum.inl z,V.bl true)
def SX (bs:List (Int×Addr)):List (Key×V):=bs.map λx=>(Sum.inl x.1,V.ref x.2)
theorem KY {κ:Type}[DecidableEq κ]{kvs:List (κ×V)}{k:κ}(h:∀x∈kvs,x.1≠k):Bo kvs k=none:=by
 unfold Bo;rw[cZ,cL];intro x hx z;exact h x hx (aQ z)
theorem UL {κ:Type}[DecidableEq κ]{kvs:List (κ×V)}{k:κ}{v:V}(h:Bo kvs k=some v):(k,v)∈kvs:=by
 unfold Bo at h;rw[bN] at h;obtain⟨x,hx,rfl⟩:=h;have:=fT hx;have e:x.1=k:=by simpa using List.find?_some hx
 rw[<-e];exact this
structure BsAt (H:Hp) (q:Pl) (cs:List Cl) (bs:List (Int×Addr)):Prop where
 h:H q.dz=some (.dK (SX bs))
 k:(bs.map (·.1)).Nodup
 a:(bs.map (·.2)).Nodup
 d:∀x∈bs,H x.2=some (.dK (QQ (Ez cs x.1)))/\x.2≠q.dt/\x.2≠q.dz/\x.2≠q.dd
 all:∀e∈cs,∃x∈bs,x.1=BC e.bk
theorem RK {bs:List (Int×Addr)}(nd:(bs.map (·.1)).Nodup){x:Int×Addr}(h:x∈bs):Bo (SX bs) (Sum.inl x.1)=some (.ref x.2):=by
 refine Nb ?_ (af.mpr ⟨x,h,rfl⟩);unfold SX;rw[aq,show((λy:Key×V=>y.1)∘λx:Int×Addr=>((Sum.inl x.1:Key),V.ref x.2))=(λz:Int=>(Sum.inl z:Key))∘(λx:Int×Addr=>x.1) from rfl,<-aq];exact List.Pairwise.map _ (λa b n e=>n (bH e)) nd
theorem Tz {bs:List (Int×Addr)}{s:Int}{v:V}(h:Bo (SX bs) (Sum.inl s)=some v):∃x∈bs,x.1=s/\v=.ref x.2:=by
 obtain⟨x,hx,e⟩:=af.mp (UL h);exact⟨x,hx,bH (congrArg Prod.fst e),(congrArg Prod.snd e).symm⟩
theorem BsAt.no {H:Hp}{q:Pl}{cs:List Cl}{bs:List (Int×Addr)}(B:BsAt H q cs bs){s:Int}(h:Bo (SX bs) (Sum.inl s)=none):Ez cs s=[]:=by
 rw[List.eq_nil_iff_forall_not_mem];intro z hz;obtain⟨e,he,rfl,rfl⟩:=IU.mp hz;obtain⟨x,hx,hs⟩:=B.all e he;rw[<-hs,RK B.k hx] at h;cases h
structure PAt (CP CT:Addr) (H:Hp) (p:Addr) (q:Pl) (cs:List Cl) (bs:List (Int×Addr)):Prop where
 t:FB CP CT H p q cs
 d:H q.dd=some (.dK (Rl cs))
 b:BsAt H q cs bs
 n1:q.dt≠q.dz
 n2:q.dt≠q.dd
 n3:q.dz≠q.dd
 c:(cs.map (·.c)).Nodup
 z:∀(i:Nat) e,cs[i]?=some e->e.z=(i:Int)+1
 w:bs.length<=cs.length
 f1:1<=q.n
 f2:q.n<=(cs.length:Int)+1
def Cw (p:Addr)(q:Pl)(cs:List Cl)(bs:List (Int×Addr)):List Addr:=p::q.dt::q.dz::q.dd::(bs.map (·.2)++cs.map (·.c))
def WG (L:List Addr)(H H':Hp):Prop:=∀a o,H a=some o->a∉L->H' a=some o
theorem Am.frm {L:List Addr}{H H':Hp}(s:Am H H'):WG L H H':=λ_ _ h _=>s.get h
theorem PAt.same {CP CT:Addr}{H H':Hp}{p:Addr}{q:Pl}{cs:List Cl}{bs:List (Int×Addr)}(s:Am H H')(h:PAt CP CT H p q cs bs):PAt CP CT H' p q cs bs:=
 { h with t:=h.t.same s,d:=s.get h.d,b:={ h.b with h:=s.get h.b.h,d:=λx hx=>⟨s.get (h.b.d x hx).1,(h.b.d x hx).2⟩ } }
theorem PAt.apart {CP CT:Addr}{H:Hp}{p:Addr}{q:Pl}{cs:List Cl}{bs:List (Int×Addr)}(h:PAt CP CT H p q cs bs){a:Addr}{o:HO}(e:H a=some o)(n1:∀C d fs,o≠.ins C d fs)(n2:∀kvs,o≠.dK kvs):a∉Cw p q cs bs:=by
 have no:∀{b u},H b=some u->u≠o->a≠b:=λ{b u} hb hn z=>hn (by rw[z,hb] at e;exact aA e)
 unfold Cw;simp only[List.mem_cons,List.mem_append,List.mem_map,not_or];refine⟨no h.t.1 (Ne.symm (n1 _ _ _)),no h.t.2.1 (Ne.symm (n2 _)),no h.b.h (Ne.symm (n2 _)),no h.d (Ne.symm (n2 _)),?_,?_⟩
 ·rintro⟨x,hx,z⟩
  exact no (h.b.d x hx).1 (Ne.symm (n2 _)) z.symm
 ·rintro⟨x,hx,z⟩
  exact no (h.t.2.2.1 x hx).1 (Ne.symm (n1 _ _ _)) z.symm
theorem FB.hold {CP CT:Addr}{H:Hp}{p:Addr}{q:Pl}{cs:List Cl}(h:FB CP CT H p q cs)(nc:(cs.map (·.c)).Nodup){e:Cl}(he:e∈cs):FB CP CT (upd H e.c (.ins CT e.dx (GX e.ta ((wT (DB e.bk)).length:Int) e.l (e.k+1) e.en e.st))) p q (cs.map (bump [e.z])):=by
 obtain⟨h1,h2,h4,nd⟩:=h;have hc:=(h4 e he).1;have n1:p≠e.c:=λz=>by
  rw[z,hc] at h1;have:=aA h1;injection this with _ _ this
  injection this with this _
  injection this with this _
  revert this
  decide
 refine⟨by rw[Ah n1];exact h1,by rw[Ah (BG h2 hc (by intro z;cases z)),RY];exact h2,λx hx=>?_,by rw[UG];exact nd⟩;obtain⟨y,hy,rfl⟩:=af.mp hx;have ht:∀c ys,H c=some (.tup ys)->(upd H e.c (.ins CT e.dx (GX e.ta ((wT (DB e.bk)).length:Int) e.l (e.k+1) e.en e.st))) c=some (.tup ys):=λc ys h=>by rw[Ah (BG h hc (by intro z;cases z))];exact h
 obtain⟨a1,a2,a3,a4⟩:=h4 y hy
 by_cases hz:y.z=e.z
 ·obtain rfl:=BZ nd hy he hz;refine⟨?_,ht _ _ a2,CD ht _ _ a3,a4⟩;show upd H y.c _ y.c=some (.ins CT y.dx (GX y.ta ((wT (DB y.bk)).length:Int) y.l (y.k+(([y.z].count y.z:Nat):Int)) y.en y.st));rw[Ad,List.count_singleton_self];rfl
 ·have nn:y.c≠e.c:=λz=>hz (by rw[BZ nc hy he z])
  refine⟨?_,ht _ _ a2,CD ht _ _ a3,a4⟩;show upd H e.c _ y.c=some (.ins CT y.dx (GX y.ta ((wT (DB y.bk)).length:Int) y.l (y.k+(([e.z].count y.z:Nat):Int)) y.en y.st));rw[Ah nn,a1,List.count_eq_zero.mpr (by simpa using hz)];simp
def OZ (cs:List Cl):Bk->Int×Int
 | .folder es=>((es.map (UY cs)).sum,Jz (es.map (Ub cs)))
 |_=>(0,0)
def Wl (cs:List Cl):Prop:=∀e∈cs,LB (e.z,e.y,BC e.bk)/\(∀t∈AQ e.bk,∃c∈cs,c.z=t.1)/\(e.en,e.st)=OZ cs e.bk
theorem Mz (zs:List Int):∀(cs:List Cl) (z:Int),(cs.map (bump zs)).find? (λe=>decide (e.z=z))=(cs.find? (λe=>decide (e.z=z))).map (bump zs)
 |[],_=>rfl
 |e::cs,z=>by
  rw[ao]
  by_cases h:e.z=z
  ·have h':(bump zs e).z=z:=h;rw[eC (by simpa using h'),eC (by simpa using h)];rfl
  ·have h':¬(bump zs e).z=z:=h;rw[eD (by simpa using h'),eD (by simpa using h)];exact Mz zs cs z
theorem QO (zs:List Int)(cs:List Cl)(z:Int):OA (cs.map (bump zs)) z=OA cs z:=by
 unfold OA;rw[Mz];cases cs.find? (λe=>decide (e.z=z))<;>rfl
theorem Ro (zs:List Int)(cs:List Cl)(z:Int):Ob (cs.map (bump zs)) z=Ob cs z:=by
 unfold Ob;rw[Mz];cases cs.find? (λe=>decide (e.z=z))<;>rfl
theorem Oo (zs:List Int)(cs:List Cl)(b:Bk):OZ (cs.map (bump zs)) b=OZ cs b:=by
 cases b with
 |folder es=>
  have e1:UY (cs.map (bump zs))=UY cs:=funext λx=>by unfold UY;rw[QO]
  have e2:Ub (cs.map (bump zs))=Ub cs:=funext λx=>by unfold Ub;rw[Ro]
  show((es.map _).sum,Jz (es.map _))=((es.map _).sum,Jz (es.map _));rw[e1,e2]
 |_=>rfl
theorem NA {cs ds:List Cl}{z:Int}(h:∃e∈cs,e.z=z):(cs++ds).find? (λe=>decide (e.z=z))=cs.find? (λe=>decide (e.z=z)):=by
 rw[fk];obtain⟨e,he,hz⟩:=h;have:(cs.find? (λe=>decide (e.z=z))).isSome=true:=List.find?_isSome.mpr ⟨e,he,by simpa using hz⟩;cases hh:cs.find? (λe=>decide (e.z=z)) with
 |none=>rw[hh] at this;cases this
 |some x=>rfl
theorem Qh {cs ds:List Cl}{b:Bk}(h:∀t∈AQ b,∃c∈cs,c.z=t.1):OZ (cs++ds) b=OZ cs b:=by
 cases b with
 |folder es=>
  have e1:es.map (UY (cs++ds))=es.map (UY cs):=bD λx hx=>by unfold UY OA;rw[NA (h x.tg (af.mpr ⟨x,hx,rfl⟩))]
  have e2:es.map (Ub (cs++ds))=es.map (Ub cs):=bD λx hx=>by unfold Ub Ob;rw[NA (h x.tg (af.mpr ⟨x,hx,rfl⟩))]
  show((es.map _).sum,Jz (es.map _))=((es.map _).sum,Jz (es.map _));rw[e1,e2]
 |_=>rfl
theorem Wl.more {cs:List Cl}(h:Wl cs){e:Cl}(ok:LB (e.z,e.y,BC e.bk))(hn:∀t∈AQ e.bk,∃c∈cs,c.z=t.1)(hb:(e.en,e.st)=OZ cs e.bk)(zs:List Int):Wl ((cs++[e]).map (bump zs)):=by
 intro x hx;obtain⟨y,hy,rfl⟩:=af.mp hx;have up:∀t:Int,(∃c∈cs,c.z=t)->∃c∈(cs++[e]).map (bump zs),c.z=t:=λt ⟨c,hc,z⟩=>⟨bump zs c,af.mpr ⟨c,av.mpr (.inl hc),rfl⟩,z⟩
 rcases av.mp hy with hy|hy
 ·obtain⟨a1,a2,a3⟩:=h y hy;refine⟨a1,λt ht=>up _ (a2 t ht),?_⟩;show(y.en,y.st)=OZ _ y.bk;rw[Oo,Qh a2];exact a3
 ·rw[ai.mp hy];refine⟨ok,λt ht=>up _ (hn t ht),?_⟩;show(e.en,e.st)=OZ _ e.bk;rw[Oo,Qh hn];exact hb
theorem Ua {cs:List Cl}(hz:∀(i:Nat) e,cs[i]?=some e->e.z=(i:Int)+1){s:Int}:(Ez cs s).Pairwise (·<=·):=by
 have all:(cs.map (·.z)).Pairwise (·<=·):=by
  rw[bg];intro i j hi hj hij;rw[aa] at hi hj;rw[cC,cC,hz i _ (ab hi),hz j _ (ab hj)];omega
 unfold Ez;exact List.Pairwise.sublist (List.Sublist.map _ gQ) all
def Fp (K:W.Frag)(CP CT:Addr):Sp:=λvs H Q _=>∃p q cs bs v b,vs=[.ref p,v]/\PAt CP CT H p q cs bs/\cs.length<=10000/\Rep NL H (DB b) v/\GJ b/\(∀e∈cs,e.bk=b->∀H',Am H H'->Q (.ref e.ta) H')/\((∀e∈cs,e.bk≠b)->∀H',Am H H'->Q .non H')
theorem Lw (T:Txt K mg Aj Aa Ac XC)(F:Fun K "alike" "Pool.alike" CC f fd)(FH:Def P w K mg base 3 "sum_of" ["block"] (Hs K))(Gq:CL P w K mg base 1 Ac "block" ["self","tag"] (Fs K Ac Aa))(FZ:CL P w K mg base 1 Ac "tag" ["self","number"] (GF K Ac Aa)):FnOk P w K mg base Cf 4 f fd ["self","block"] (Fp K Ac Aa):=by
 exists D3
 ·obtain⟨p,q,cs,bs,v,b,rfl,_⟩:=h;rfl
 obtain⟨p,q,cs,bs,v,b,rfl,pa,few,hv,ok,hq1,hq2⟩:=h;have hu:=BI hr;have hu9:=Ct hr;refine⟨_,(!Ag (@Au _ _ (2) _ _ _ _ D3.nd rfl (by trivial) (!Bb (!Af)) (by rfl) (by trivial)) (!Ag (!BR aW rfl (!BQ (!Ax (JP rfl) (by rfl) T.b_sorted EK (!Ab (!Sj hu (!BK (pv 0)) (!AC FH (by trivial) rfl (!Ab (pv 1) (!Af))) (!Cs) ⟨rfl,rfl,rfl,rfl⟩) (!Af)))) (@Ap _ _ (3) _ D3.nd rfl (by trivial) (by trivial)) (!Al (!V2 ⟨rfl,rfl⟩ T.x_Lost rfl (!U3 (!U1 (@Au _ _ (4) _ _ _ _ D3.nd rfl (by trivial) (!CZ (pv 0) T.cl_Pool Gq (by trivial) (!Ab (!CZ (pv 0) T.cl_Pool FZ (by trivial) (!Ab (pv 3) (!Af))) (!Af))) (by rfl) (by trivial)))) (!Al (!BH (!AE (VE hu9) (pv 4) (pv 1) (AH _)) (!Al (!Av (!CZ (pv 0) T.cl_Pool FZ (by trivial) (!Ab (pv 3) (!Af))))) (!AV))) (λe=>(!Al (!IC))))) (by intro _;rfl)) (!Ag (!BH (!AE LO (!Ax AM (by rfl) T.b_len BW (!Ab (pv 2) (!Af))) (!Ae) (AH _)) (!Al (!IC)) (!AV)) (!Al (!Av (!TC)))))),?_⟩
 try dsimp only[Bh,Cx.nox,Cx.wish]
 refine⟨HX,λun hun=>?_⟩;have s1:=Ak hun (.lst []);have pa1:=pa.same s1;refine⟨_,rfl,p,Ac,q.dp,_,_,rfl,pa1.t.1,T.cl_Pool,T.n_Pool_by_sums,rfl,q.dz,rfl,.inl ⟨_,.inl pa1.b.h⟩,?_⟩;refine⟨_,rfl,v,b,rfl,Rep.same s1 _ _ hv,ok,λH2 s2 dn hdn=>?_⟩;have s3:=(s1.trans s2).trans (Ak hdn (.dK []));have pa3:=pa.same s3;obtain⟨d,hd,hd2⟩:∃d,(((Bo (SX bs) (Sum.inl (BC b))).getD (.ref dn))=.ref d)/\(upd H2 dn (.dK [])) d=some (.dK (QQ (Ez cs (BC b)))):=by
  cases hc:Bo (SX bs) (Sum.inl (BC b)) with
  |none=>exact⟨dn,rfl,by rw[pa.b.no hc];exact Ad⟩
  |some u=>
   obtain⟨x,hx,hs,rfl⟩:=Tz hc;exact⟨x.2,rfl,by rw[(pa3.b.d x hx).1,hs]⟩
 refine⟨_,BA.k (k:=Sum.inl (BC b)) pa3.b.h,d,_,Ez cs (BC b),?_,hd2,?_,?_,λms pl pm so hpl=>?_⟩
 ·rw[hd]
 ·unfold QQ;rw[aq];rfl
 ·have:=Of cs (BC b);exact .inr ⟨by omega,Ua pa.z⟩
 have s4:=s3.trans (Ak hpl (.lst (ms.map V.int)));have pa4:=pa.same s4;have hun4:(upd (upd H2 dn (.dK [])) pl (.lst (ms.map V.int))) un=some (.lst []):=(Ak hpl _).get ((Ak hdn _).get (s2.get Ad));have hpl4:(upd (upd H2 dn (.dK [])) pl (.lst (ms.map V.int))) pl=some (.lst (ms.map V.int)):=Ad;generalize (upd (upd H2 dn (.dK [])) pl (.lst (ms.map V.int)))=H4 at s4 pa4 hun4 hpl4;refine⟨pl,rfl,⟨_,AD.of hpl4⟩,E4 (K:=K) (a:=pl) (xs:=ms.map V.int) (λi σ H'=>H'=H4/\(∃v3 v4,σ=[some (.ref p),some v,some (.ref un),v3,v4])/\∀(j:Nat) n,j<i->ms[j]?=some n->∀e∈cs,e.z=n->e.bk≠b) ⟨rfl,⟨_,_,rfl⟩,λj _ h=>absurd h (Nat.not_lt_zero j)⟩ ?_ ?_ ?_⟩
 ·rintro i σ H' _ ⟨rfl,_⟩
  exact AD.of hpl4
 ·rintro i x σ H' hx ⟨rfl,⟨v3,v4,rfl⟩,hb⟩
  obtain⟨n,rfl,hn⟩:=ints_get hx;obtain⟨e,he,hs,hz⟩:=IU.mp (pm.mem_iff.mp (aC hn));subst hz;have ce:=pa4.t.2.2.1 e he;refine⟨_,rfl,p,q.dp,_,rfl,pa4.t.1,rfl,_,rfl,p,q.dp,_,rfl,pa4.t.1,rfl,_,rfl,p,q,cs,e,rfl,pa4.t,he,?_⟩;refine⟨p,q,cs,e,e.ta,_,_,rfl,pa4.t,pa4.d,he,ce.2.1,?_⟩;refine⟨_,rfl,_,rfl,DB e.bk,DB b,Lc ce.2.2.2,Lc ok,ce.2.2.1,Rep.same s4 _ _ hv,_,rfl,Et (λhk=>?_) (λhk=>?_)⟩
  ·have hk:decide (wT (DB e.bk)=wT (DB b))=true:=hk;have eb:e.bk=b:=Uy (OO (Lc ce.2.2.2) (Lc ok) (aQ hk));exact⟨_,rfl,p,q.dp,_,rfl,pa4.t.1,rfl,_,rfl,p,q,cs,e,rfl,pa4.t,he,hq1 e he eb _ s4⟩
  ·have hk:¬decide (wT (DB e.bk)=wT (DB b))=true:=hk;refine⟨rfl,⟨_,_,rfl⟩,λj n hj hm e' he' hz=>?_⟩
   by_cases hji:j<i
   ·exact hb j n hji hm e' he' hz
   ·obtain rfl:j=i:=by omega
    rw[hn] at hm;obtain rfl:=BZ pa4.t.2.2.2 he he' ((aA hm).trans hz.symm);intro z;exact hk (by rw[z];exact aE rfl)
 ·rintro σ H' ⟨rfl,⟨v3,v4,rfl⟩,hb⟩
  refine⟨_,rfl,un,_,rfl,.inl (AD.of hun4),_,_,rfl,rfl,_,rfl,Bi rfl ?_⟩;refine hq2 (λe he z=>?_) _ s4;have:e.z∈ms:=pm.mem_iff.mpr (IU.mpr ⟨e,he,by rw[z],rfl⟩);obtain⟨j,hj,hje⟩:=cj this;exact hb j e.z (by rw[aa];exact hj) (by rw[ab hj,hje]) e he rfl z
theorem BsAt.same {H H':Hp}{q:Pl}{cs:List Cl}{bs:List (Int×Addr)}(s:Am H H')(h:BsAt H q cs bs):BsAt H' q cs bs:={ h with h:=s.get h.h,d:=λx hx=>⟨s.get (h.d x hx).1,(h.d x hx).2⟩ }
theorem BsAt.ins {H:Hp}{q:Pl}{cs:List Cl}{bs:List (Int×Addr)}{x C d:Addr}{fs:List (Str×V)}{o:HO}(hx:H x=some (.ins C d fs))(h:BsAt H q cs bs):BsAt (upd H x o) q cs bs:=
 { h with h:=by rw[Ah (BG h.h hx (by intro z;cases z))];exact h.h,d:=λy hy=>⟨by rw[Ah (BG (h.d y hy).1 hx (by intro z;cases z))];exact(h.d y hy).1,(h.d y hy).2⟩ }
theorem BsAt.bump {H:Hp}{q:Pl}{cs:List Cl}{bs:List (Int×Addr)}(zs:List Int)(h:BsAt H q cs bs):BsAt H q (cs.map (bump zs)) bs:=
 { h with d:=λx hx=>by rw[LJ];exact h.d x hx,all:=λe he=>(af.mp he).elim λy hy=>(by rw[<-hy.2];exact h.all y hy.1) }
theorem US {ns:List Int}{z:Int}(h:z∉ns):putK (QQ ns) (Sum.inl z) (.bl true)=QQ (ns++[z]):=by
 rw[DA _ (KY λx hx=>?_)]
 ·unfold QQ;rw[aj];rfl
 ·obtain⟨y,hy,rfl⟩:=af.mp hx;intro e;exact h (by rw[<-bH e];exact hy)
theorem BsAt.snoc {H:Hp}{q:Pl}{cs:List Cl}{bs:List (Int×Addr)}{d:Addr}{e:Cl}(h:BsAt H q cs bs)(hd:(BC e.bk,d)∈bs)(hz:e.z∉Ez cs (BC e.bk)):BsAt (upd H d (.dK (putK (QQ (Ez cs (BC e.bk))) (Sum.inl e.z) (.bl true)))) q (cs++[e]) bs where
 h:=by rw[Ah (Ne.symm (h.d _ hd).2.2.1)];exact h.h
 k:=h.k
 a:=h.a
 d:=λx hx=>by
  by_cases hs:x.1=BC e.bk
  ·obtain rfl:x=(BC e.bk,d):=BZ h.k hx hd hs;exact⟨by rw[Ad,US hz,LL,aG rfl],(h.d _ hx).2⟩
  ·have n:x.2≠d:=λz=>hs (congrArg Prod.fst (BZ h.a hx hd z))
   rw[Ah n,LL,aJ (λz=>hs z.symm),cn];exact h.d x hx
 all:=λx hx=>by
  rcases av.mp hx with hx|hx
  ·exact h.all x hx
  ·rw[ai.mp hx];exact⟨_,hd,rfl⟩
theorem BsAt.fresh {H:Hp}{q:Pl}{cs:List Cl}{bs:List (Int×Addr)}{dn:Addr}{s:Int}(h:BsAt H q cs bs)(hv:Bo (SX bs) (Sum.inl s)=none)(hd:H dn=none)(n1:dn≠q.dt)(n2:dn≠q.dd):BsAt (upd (upd H dn (.dK [])) q.dz (.dK (putK (SX bs) (Sum.inl s) (.ref dn)))) q cs (bs++[(s,dn)]):=by
 have nz:dn≠q.dz:=λz=>by rw[z,h.h] at hd;cases hd
 have nb:∀x∈bs,x.2≠dn:=λx hx z=>by have:=(h.d x hx).1;rw[z,hd] at this;cases this
 refine⟨?_,?_,?_,λx hx=>?_,λe he=>?_⟩
 ·rw[Ad,DA _ hv];unfold SX;rw[aj];rfl
 ·rw[aj,bI];refine⟨h.k,by simp,λa ha b hb=>?_⟩;obtain⟨x,hx,rfl⟩:=af.mp ha;have:b=s:=by simpa using hb
  rw[this];intro z;rw[<-z,RK h.k hx] at hv;cases hv
 ·rw[aj,bI];refine⟨h.a,by simp,λa ha b hb=>?_⟩;obtain⟨x,hx,rfl⟩:=af.mp ha;have:b=dn:=by simpa using hb
  rw[this];exact nb x hx
 ·rcases av.mp hx with hx|hx
  ·rw[Ah (h.d x hx).2.2.1,Ah (nb x hx)];exact h.d x hx
  ·rw[ai.mp hx];refine⟨?_,n1,nz,n2⟩;show upd _ _ _ dn=some (.dK (QQ (Ez cs s)));rw[Ah nz,Ad,h.no hv];rfl
 ·obtain⟨x,hx,e1⟩:=h.all e he;exact⟨x,av.mpr (.inl hx),e1⟩
structure Md (CP CT:Addr) (H H':Hp) (p:Addr) (q:Pl) (cs:List Cl) (own:List Addr) (e:Cl) (us:List V) (dtk:List (Key×V)):Prop where
 f:WG own H H'
 p:H' p=some (.ins CP q.dp (KW q.bo q.dt q.dz q.dd q.n))
 t:H' q.dt=some (.dK dtk)
 d:H' q.dd=some (.dK (Rl cs))
 c:∀x∈cs,Jh CT H' x
 n:Jh CT H' e
 l:H' e.l=some (.lst us)
 u:AN NL H' ((AQ e.bk).map Gx) us
theorem Md.put {CP CT:Addr}{H H':Hp}{p:Addr}{q:Pl}{cs:List Cl}{own:List Addr}{e:Cl}{us:List V}{dtk:List (Key×V)}(M:Md CP CT H H' p q cs own e us dtk){x:Addr}{o:HO}(hx:x∈own\/H x=none)(nt:x≠q.dt)(nd:x≠q.dd)(k:∀u,H' x=some u->∃kvs,u=.dK kvs):Md CP CT H (upd H' x o) p q cs own e us dtk:=by
 have no:∀{a u},H' a=some u->(∀kvs,u≠.dK kvs)->a≠x:=λ{a u} h n z=>by
  rw[z] at h;obtain⟨kvs,e⟩:=k _ h;exact n kvs e
 have ht:∀c ys,H' c=some (.tup ys)->(upd H' x o) c=some (.tup ys):=λc ys h=>by rw[Ah (no h (by intro kvs z;cases z))];exact h
 refine⟨λa u h n=>?_,?_,?_,?_,λy hy=>?_,?_,?_,B0 ht _ _ M.u⟩
 ·have:a≠x:=λz=>by
   rcases hx with hx|hx
   ·exact n (by rw[z];exact hx)
   ·rw[z,hx] at h;cases h
  rw[Ah this];exact M.f a u h n
 ·rw[Ah (no M.p (by intro kvs z;cases z))];exact M.p
 ·rw[Ah (Ne.symm nt)];exact M.t
 ·rw[Ah (Ne.symm nd)];exact M.d
 ·exact(M.c y hy).tup (Ah (no (M.c y hy).1 (by intro kvs z;cases z))) ht
 ·exact M.n.tup (Ah (no M.n.1 (by intro kvs z;cases z))) ht
 ·rw[Ah (no M.l (by intro kvs z;cases z))];exact M.l
theorem Md.putT {CP CT:Addr}{H H':Hp}{p:Addr}{q:Pl}{cs:List Cl}{own:List Addr}{e:Cl}{us:List V}{dtk dt2:List (Key×V)}(M:Md CP CT H H' p q cs own e us dtk)(hx:q.dt∈own)(nd:q.dt≠q.dd):Md CP CT H (upd H' q.dt (.dK dt2)) p q cs own e us dt2:=by
 have no:∀{a u},H' a=some u->(∀kvs,u≠.dK kvs)->a≠q.dt:=λ{a u} h n z=>by
  rw[z,M.t] at h;exact n _ (aA h).symm
 have ht:∀c ys,H' c=some (.tup ys)->(upd H' q.dt (.dK dt2)) c=some (.tup ys):=λc ys h=>by rw[Ah (no h (by intro kvs z;cases z))];exact h
 refine⟨λa u h n=>?_,?_,Ad,?_,λy hy=>?_,?_,?_,B0 ht _ _ M.u⟩
 ·rw[Ah (λz=>n (by rw[z];exact hx))];exact M.f a u h n
 ·rw[Ah (no M.p (by intro kvs z;cases z))];exact M.p
 ·rw[Ah (Ne.symm nd)];exact M.d
 ·exact(M.c y hy).tup (Ah (no (M.c y hy).1 (by intro kvs z;cases z))) ht
 ·exact M.n.tup (Ah (no M.n.1 (by intro kvs z;cases z))) ht
 ·rw[Ah (no M.l (by intro kvs z;cases z))];exact M.l
def Dz (z y:Int)(b:Bk)(v:V)(c dx ta l:Addr)(cs:List Cl):Cl:=⟨z,y,b,v,c,dx,ta,l,0,(OZ cs b).1,(OZ cs b).2⟩
def FQ (K:W.Frag)(CP CT:Addr):Sp:=λvs H Q _=>∃p q cs bs v b,∃(ta:Addr) (z y:Int),vs=[.ref p,.ref ta,v]/\PAt CP CT H p q cs bs/\cs.length<=10000/\Rep NL H (DB b) v/\GJ b/\H ta=some (.tup [.int z,.int y,.int (BC b)])/\z=(cs.length:Int)+1/\(∀t∈AQ b,∃e∈cs,e.z=t.1)/\
 ∀H' c dx l bs',H c=none->H l=none->(∃us,H' l=some (.lst us)/\AN NL H' ((AQ b).map Gx) us)->FB CP CT H' p q ((cs++[Dz z y b v c dx ta l cs]).map (bump ((AQ b).map (·.1))))->BsAt H' q ((cs++[Dz z y b v c dx ta l cs]).map (bump ((AQ b).map (·.1)))) bs'->bs'.length<=bs.length+1->H' q.dd=some (.dK (Rl cs))->WG (Cw p q cs bs) H H'->(∀x∈bs',x∈bs\/H x.2=none)->Q .non H'
theorem Mn (T:Txt K mg Aj Aa Ac XC)(F:Fun K "take" "Pool.take" Dn f fd)(DH:O3 P w K mg base 11 Aa "TakenCell" ["self","own_tag","block"] (Dv K Aa))(Dt:CL P w K mg base 2 Ac "entries_of" ["self","folder"] (C9 K Ac Aa))(El:CL P w K mg base 2 Ac "steps_of" ["self","folder"] (DX K Ac Aa))(GL:CL P w K mg base 1 Ac "hold" ["self","tag"] (Gg K Ac Aa)):FnOk P w K mg base Cf 13 f fd ["self","tag","block"] (FQ K Ac Aa):=by
 exists Er
 ·obtain⟨p,q,cs,bs,v,b,ta,z,y,rfl,_⟩:=h;rfl
 obtain⟨p,q,cs,bs,v,b,ta,z,y,rfl,pa,few,hv,ok,hta,hz,hn,hq⟩:=h;have hu:=BI hr;refine⟨_,(!Ag (@Au _ _ (3) _ _ _ _ Er.nd rfl (by trivial) (!OU DH (by trivial) rfl (!Ab (pv 1) (!Ab (pv 2) (!Af)))) (by rfl) (by trivial)) (!Ag (!BH (!AE CV (!An Az (pv 2) (!Ae) (λ_ _=>rfl)) (!Bq rfl T.c_FOLDER) (AH _)) (!Ag (!CY (pv 3) (!CZ (pv 0) T.cl_Pool Dt (by trivial) (!Ab (pv 2) (!Af)))) (!Al (!CY (pv 3) (!CZ (pv 0) T.cl_Pool El (by trivial) (!Ab (pv 2) (!Af)))))) (!AV)) (!Ag (!E8 hu (!BK (pv 0)) (!An Az (pv 1) (!Ae) (λ_ _=>rfl)) (pv 3)) (!Ag (@Au _ _ (4) _ _ _ _ Er.nd rfl (by trivial) (!TM (!BK (pv 0)) (!An Az (pv 1) (!Ae) (λ_ _=>rfl)) (!Cs) ⟨rfl,rfl,rfl,rfl⟩) (by rfl) (by trivial)) (!Ag (!E8 hu (pv 4) (!An Az (pv 1) (!Ae) (λ_ _=>rfl)) (!Hy)) (!Al (!BR aW rfl (!BQ (!BK (pv 3))) (@Ap _ _ (5) _ Er.nd rfl (by trivial) (by trivial)) (!Al (!Bl (!CZ (pv 0) T.cl_Pool GL (by trivial) (!Ab (pv 5) (!Af))))) (by intro _;rfl)))))))),?_⟩
 try dsimp only[Bh,Cx.nox,Cx.wish]
 refine⟨_,rfl,_,rfl,λc dx hc hdx hcd=>?_⟩;have hH1:∀a o,H a=some o->(upd (upd H dx (.own c)) c (.ins Aa dx [])) a=some o:=λa o h=>by
  rw[Ah (λz=>by rw[z,hc] at h;cases h),Ah (λz=>by rw[z,hdx] at h;cases h)];exact h
 refine⟨c,dx,ta,v,b,rfl,Ad,CD (λc ys h=>hH1 c _ h) _ _ hv,ok,λl us H2 f2 nl hl r hc2=>⟨rfl,?_⟩⟩;have s2:Am H H2:=λa o h=>f2 a o (hH1 a o h) (λz=>by rw[z,hc] at h;cases h)
 have nlH:H l=none:=by
  cases h:H l with
  |none=>rfl
  |some o=>rw[hH1 l o h] at nl;cases nl
 dsimp only[Ay];refine Bf (λσ' H'=>σ'=[some (.ref p),some (.ref ta),some v,some (.ref c),none,none]/\Am H H'/\H' c=some (.ins Aa dx (GX ta ((wT (DB b)).length:Int) l 0 (OZ cs b).1 (OZ cs b).2))/\H' l=some (.lst us)/\AN NL H' ((AQ b).map Gx) us) (λN hN=>?_) ?_
 ·obtain⟨va,xs,rfl,hva⟩:=NW hv;refine⟨_,rfl,va,_,_,_,rfl,rfl,AL.of (s2.get hva),Og,rfl,_,rfl,Et (λhk=>?_) (λhk=>?_)⟩
  ·cases b with
   |folder es=>
    have kn:∀x∈es,x.kd=2->∃e∈cs,e.z=x.tg.1:=λx hx _=>hn x.tg (af.mpr ⟨x,hx,rfl⟩)
    refine⟨_,rfl,p,q.dp,_,rfl,(pa.same s2).t.1,rfl,_,rfl,p,q,cs,_,es,rfl,(pa.same s2).t,Rep.same s2 _ _ hv,ok.1,kn,λH4 s4=>?_⟩;refine⟨_,rfl,c,Aa,dx,_,rfl,s4.get hc2,T.cl_TakenCell,T.n_TakenCell_entries_beneath,(by show 6<1000;decide),?_⟩;have s5:Am H (upd H4 c (.ins Aa dx (GX ta ((wT (DB (.folder es))).length:Int) l 0 (OZ cs (.folder es)).1 0))):=AI (s2.trans s4) hc _;refine⟨_,rfl,p,q.dp,_,rfl,(pa.same s5).t.1,rfl,_,rfl,p,q,cs,_,es,rfl,(pa.same s5).t,Rep.same s5 _ _ hv,ok.1,kn,λH6 s6=>?_⟩;refine⟨_,rfl,c,Aa,dx,_,rfl,s6.get Ad,T.cl_TakenCell,T.n_TakenCell_steps_beneath,(by show 6<1000;decide),?_⟩;have nlc:l≠c:=BG hl hc2 (by intro z;cases z);have tp:∀a ys,H2 a=some (.tup ys)->(upd H6 c (.ins Aa dx (GX ta ((wT (DB (.folder es))).length:Int) l 0 (OZ cs (.folder es)).1 (OZ cs (.folder es)).2))) a=some (.tup ys):=λa ys h=>by
     have na:a≠c:=BG h hc2 (by intro z;cases z);rw[Ah na];exact s6.get (by rw[Ah na];exact s4.get h)
    refine hN _ _ ⟨rfl,AI (s5.trans s6) hc _,Ad,?_,B0 tp _ _ r⟩;rw[Ah nlc];exact s6.get (by rw[Ah nlc];exact s4.get hl)
   |piece _=>cases hk
   |row _ _=>cases hk
  ·refine hN _ _ ⟨rfl,s2,?_,hl,r⟩;cases b with
   |folder es=>exact absurd rfl hk
   |piece _=>exact hc2
   |row _ _=>exact hc2
 rintro σ' H3 ⟨rfl,s3,hc3,hl3,r3⟩
 have pa3:=pa.same s3;have M3:Md Ac Aa H H3 p q cs (Cw p q cs bs) (Dz z y b v c dx ta l cs) us (Mp cs):=⟨Am.frm s3,pa3.t.1,pa3.t.2.1,pa3.d,pa3.t.2.2.1,⟨hc3,s3.get hta,Rep.same s3 _ _ hv,ok⟩,hl3,r3⟩
 have fz:∀e∈cs,e.z≠z:=λe he=>by
  obtain⟨i,hi,rfl⟩:=cj he;have:=pa.z i _ (ab hi);omega
 have tkl:(Mp cs).length<100000:=by unfold Mp;rw[aa];omega
 have ht3:=s3.get hta;refine⟨_,rfl,_,rfl,p,Ac,q.dp,_,_,rfl,M3.p,T.cl_Pool,T.n_Pool_taken,rfl,_,rfl,ta,_,_,_,rfl,rfl,AL.of ht3,rfl,q.dt,_,rfl,Jg.k (k:=Sum.inl z) M3.t (AU (by omega)),?_⟩;have etk:putK (Mp cs) (Sum.inl z) (.ref c)=Mp (cs++[Dz z y b v c dx ta l cs]):=by
  rw[DA _ (KY λx hx=>?_)]
  ·unfold Mp;rw[aj];rfl
  ·obtain⟨e,he,rfl⟩:=af.mp hx;intro z;exact fz e he (bH z)
 rw[etk];have ot:q.dt∈Cw p q cs bs:=by unfold Cw;simp
 have oz:q.dz∈Cw p q cs bs:=by unfold Cw;simp
 have M4:=M3.putT (dt2:=Mp (cs++[Dz z y b v c dx ta l cs])) ot pa.n2;have B4:BsAt (upd H3 q.dt (.dK (Mp (cs++[Dz z y b v c dx ta l cs])))) q cs bs:={ pa3.b with h:=by rw[Ah (Ne.symm pa.n1)];exact pa3.b.h,d:=λx hx=>⟨by rw[Ah (pa3.b.d x hx).2.1];exact(pa3.b.d x hx).1,(pa3.b.d x hx).2⟩ }
 have hz4:∀a,(upd H3 q.dt (.dK (Mp (cs++[Dz z y b v c dx ta l cs])))) a=none->H a=none:=λa h=>by
  cases ha:H a with
  |none=>rfl
  |some o=>
   have:=s3.get ha
   by_cases e:a=q.dt
   ·rw[e,Ad] at h;cases h
   ·rw[Ah e,this] at h;cases h
 generalize (upd H3 q.dt (.dK (Mp (cs++[Dz z y b v c dx ta l cs]))))=H4 at M4 B4 hz4;have bl:bs.length<=100000:=by have:=pa.w;omega
 dsimp only;refine Bf (λσ' H'=>∃d bs',σ'=[some (.ref p),some (.ref ta),some v,some (.ref c),some (.ref d),none]/\Md Ac Aa H H' p q cs (Cw p q cs bs) (Dz z y b v c dx ta l cs) us (Mp (cs++[Dz z y b v c dx ta l cs]))/\BsAt H' q cs bs'/\(BC b,d)∈bs'/\bs'.length<=bs.length+1/\(∀x∈bs',x∈bs\/H x.2=none)/\(d∈Cw p q cs bs\/H d=none)) (λN hN=>?_) ?_
 ·refine⟨_,rfl,p,Ac,q.dp,_,_,rfl,M4.p,T.cl_Pool,T.n_Pool_by_sums,rfl,q.dz,rfl,.inl ⟨_,.inl B4.h⟩,_,rfl,ta,_,_,_,rfl,rfl,AL.of M4.n.2.1,rfl,λdn hdn=>?_⟩;have ndn:∀{a o},H4 a=some o->dn≠a:=λ{a o} h z=>by rw[z,h] at hdn;cases hdn
  have M5:=M4.put (x:=dn) (o:=.dK []) (.inr (hz4 _ hdn)) (ndn M4.t) (ndn M4.d) (λu h=>by rw[hdn] at h;cases h);have B5:=B4.same (Ak hdn (.dK []));refine⟨_,Sum.inl (BC b),B5.h,rfl,AU (by unfold SX;rw[aa];omega),λu hv=>?_,λhv=>?_⟩
  ·obtain⟨x,hx,hs,rfl⟩:=Tz hv;refine hN _ _ ⟨x.2,bs,rfl,M5,B5,by rw[<-hs];exact hx,by omega,(λ_ h=>.inl h),.inl ?_⟩;unfold Cw;simp only[List.mem_cons,List.mem_append];exact .inr (.inr (.inr (.inr (.inl (af.mpr ⟨x,hx,rfl⟩)))))
  ·refine hN _ _ ⟨dn,bs++[(BC b,dn)],rfl,M5.put (.inl oz) (Ne.symm pa.n1) pa.n3 (λu h=>⟨_,by rw[B5.h] at h;exact(aA h).symm⟩),B4.fresh hv hdn (ndn M4.t) (ndn M4.d),by simp,by simp,(λx hx=>(av.mp hx).imp id λh=>by rw[ai.mp h];exact hz4 _ hdn),.inr (hz4 _ hdn)⟩
 rintro σ' H5 ⟨d,bs',rfl,M5,B5,hd5,lb,bfr,od⟩
 have hd6:=B5.d _ hd5;refine⟨_,rfl,_,rfl,ta,_,_,_,rfl,rfl,AL.of M5.n.2.1,rfl,d,_,rfl,Jg.k (k:=Sum.inl z) hd6.1 (AU (by unfold QQ;rw[aa];have:=Of cs (BC b);show(Ez cs (BC b)).length<1000000;omega)),?_⟩;have B6:=B5.snoc (e:=Dz z y b v c dx ta l cs) hd5 (λh=>by
  obtain⟨e,he,_,hz'⟩:=IU.mp h;exact fz e he hz')
 have M6:=M5.put (x:=d) (o:=.dK (putK (QQ (Ez cs (BC b))) (Sum.inl z) (.bl true))) od hd6.2.1 hd6.2.2.2 (λu h=>⟨_,by rw[hd6.1] at h;exact(aA h).symm⟩);have e6:(upd H5 d (.dK (putK (QQ (Ez cs (BC b))) (Sum.inl z) (.bl true))))=(upd H5 d (.dK (putK (QQ (Ez cs (BC (Dz z y b v c dx ta l cs).bk))) (Sum.inl (Dz z y b v c dx ta l cs).z) (.bl true)))):=rfl;rw[<-e6] at B6;dsimp only;generalize (upd H5 d (.dK (putK (QQ (Ez cs (BC b))) (Sum.inl z) (.bl true))))=H6 at M6 B6;have nc6:((cs++[Dz z y b v c dx ta l cs]).map (·.c)).Nodup:=by
  rw[aj,bI];refine⟨pa.c,by simp,λa ha b' hb=>?_⟩;obtain⟨x,hx,rfl⟩:=af.mp ha;have:b'=c:=ai.mp hb;rw[this];intro zz;have:=(pa.t.2.2.1 x hx).1;rw[zz,hc] at this;cases this
 have P6:FB Ac Aa H6 p q (cs++[Dz z y b v c dx ta l cs]):=by
  refine⟨M6.p,M6.t,λe he=>?_,?_⟩
  ·rcases av.mp he with he|he
   ·exact M6.c e he
   ·rw[ai.mp he];exact M6.n
  ·rw[aj,bI];refine⟨pa.t.2.2.2,by simp,λa ha b' hb=>?_⟩;obtain⟨x,hx,rfl⟩:=af.mp ha;have:b'=z:=ai.mp hb;rw[this];exact fz x hx
 refine⟨_,rfl,c,Aa,dx,_,_,rfl,M6.n.1,T.cl_TakenCell,T.n_TakenCell_named,rfl,l,rfl,⟨_,AD.of M6.l⟩,?_⟩;refine E4 (K:=K) (a:=l) (xs:=us) (λi σ H'=>(∃v5,σ=[some (.ref p),some (.ref ta),some v,some (.ref c),some (.ref d),v5])/\FB Ac Aa H' p q ((cs++[Dz z y b v c dx ta l cs]).map (bump (((AQ b).map (·.1)).take i)))/\BsAt H' q (cs++[Dz z y b v c dx ta l cs]) bs'/\H' q.dd=some (.dK (Rl cs))/\H' l=some (.lst us)/\AN NL H' ((AQ b).map Gx) us/\WG (Cw p q cs bs) H H') ⟨⟨_,rfl⟩,by rw[dO,Rt];exact P6,B6,M6.d,M6.l,M6.u,M6.f⟩ ?_ ?_ ?_
 ·rintro i σ H' _ ⟨_,_,_,_,h,_⟩
  exact AD.of h
 ·rintro i x σ H' hx ⟨⟨v5,rfl⟩,P7,B7,d7,l7,u7,f7⟩
  obtain⟨t,ht,rt⟩:=AN.get u7 hx;rw[az] at ht;obtain⟨g,hg,rfl⟩:=bN.mp ht;obtain⟨tx,rfl,htx⟩:=KR rt;obtain⟨e,he,hze⟩:=hn g (aC hg);have he7:bump (((AQ b).map (·.1)).take i) e∈(cs++[Dz z y b v c dx ta l cs]).map (bump (((AQ b).map (·.1)).take i)):=af.mpr ⟨e,av.mpr (.inl he),rfl⟩;have hz7:(bump (((AQ b).map (·.1)).take i) e).z=g.1:=hze;have H7:=P7.hold (by rw[Mh];exact nc6) he7;have c7:=(P7.2.2.1 _ he7).1;rw[<-hz7] at htx;refine⟨_,rfl,p,q.dp,_,rfl,P7.1,rfl,_,rfl,p,q,_,_,tx,_,_,rfl,P7,he7,htx,?_⟩;have tp:∀a ys,H' a=some (.tup ys)->(upd H' (bump (((AQ b).map (·.1)).take i) e).c (.ins Aa (bump (((AQ b).map (·.1)).take i) e).dx (GX (bump (((AQ b).map (·.1)).take i) e).ta ((wT (DB (bump (((AQ b).map (·.1)).take i) e).bk)).length:Int) (bump (((AQ b).map (·.1)).take i) e).l ((bump (((AQ b).map (·.1)).take i) e).k+1) (bump (((AQ b).map (·.1)).take i) e).en (bump (((AQ b).map (·.1)).take i) e).st))) a=some (.tup ys):=λa ys h=>by rw[Ah (BG h c7 (by intro z;cases z))];exact h
  refine⟨⟨_,rfl⟩,?_,B7.ins c7,by rw[Ah (BG d7 c7 (by intro z;cases z))];exact d7,by rw[Ah (BG l7 c7 (by intro z;cases z))];exact l7,B0 tp _ _ u7,λa o h n=>?_⟩
  ·rw[Px,hz7] at H7;rw[aS,az,hg];exact H7
  ·rw[Ah (λzz=>n (by rw[zz];unfold Cw;simp only[List.mem_cons,List.mem_append];exact .inr (.inr (.inr (.inr (.inr (af.mpr ⟨e,he,rfl⟩)))))))];exact f7 a o h n
 ·rintro σ H' ⟨⟨v5,rfl⟩,P7,B7,d7,l7,u7,f7⟩
  have lu:us.length=((AQ b).map (·.1)).length:=by rw[AN.len _ _ u7,aa,aa]
  rw[lu,bS] at P7;exact hq H' c dx l bs' hc nlH ⟨us,l7,u7⟩ P7 (B7.bump _) lb d7 f7 bfr
theorem PAt.lst {CP CT:Addr}{H:Hp}{p:Addr}{q:Pl}{cs:List Cl}{bs:List (Int×Addr)}{l:Addr}{us us':List V}(h:PAt CP CT H p q cs bs)(hl:H l=some (.lst us)):PAt CP CT (upd H l (.lst us')) p q cs bs:=by
 have no:∀{a o},H a=some o->(∀ys,o≠.lst ys)->(upd H l (.lst us')) a=some o:=λ{a o} h1 n=>by rw[Ah (λz=>by rw[z,hl] at h1;exact n _ (aA h1).symm)];exact h1
 have nk:∀{a kvs},H a=some (.dK kvs)->(upd H l (.lst us')) a=some (.dK kvs):=λ{a kvs} h1=>no h1 (by intro ys z;cases z)
 refine⟨⟨no h.t.1 (by intro ys z;cases z),nk h.t.2.1,λe he=>?_,h.t.2.2.2⟩,nk h.d,{ h.b with h:=nk h.b.h,d:=λx hx=>⟨nk (h.b.d x hx).1,(h.b.d x hx).2⟩ },h.n1,h.n2,h.n3,h.c,h.z,h.w,h.f1,h.f2⟩;have hc:=(h.t.2.2.1 e he).1;exact(h.t.2.2.1 e he).tup ((no hc (by intro ys z;cases z)).trans hc.symm) λc ys h1=>no h1 (by intro ys z;cases z)
theorem PAt.setn {CP CT:Addr}{H H':Hp}{p:Addr}{q:Pl}{cs:List Cl}{bs:List (Int×Addr)}{m:Int}(h:PAt CP CT H p q cs bs)(hp:H' p=some (.ins CP q.dp (KW q.bo q.dt q.dz q.dd m)))(ho:∀b,b≠p->H' b=H b)(m1:1<=m)(m2:m<=(cs.length:Int)+1):PAt CP CT H' p { q with n:=m } cs bs:=by
 have no:∀{a o},H a=some o->(∀C d fs,o≠.ins C d fs)->H' a=some o:=λ{a o} h1 n=>by rw[ho a (λz=>by rw[z,h.t.1] at h1;exact n _ _ _ (aA h1).symm)];exact h1
 have nk:∀{a kvs},H a=some (.dK kvs)->H' a=some (.dK kvs):=λ{a kvs} h1=>no h1 (by intro C d fs z;cases z)
 refine⟨⟨hp,nk h.t.2.1,λe he=>?_,h.t.2.2.2⟩,nk h.d,{ h.b with h:=nk h.b.h,d:=λx hx=>⟨nk (h.b.d x hx).1,(h.b.d x hx).2⟩ },h.n1,h.n2,h.n3,h.c,h.z,h.w,m1,m2⟩;have hc:=(h.t.2.2.1 e he).1;refine(h.t.2.2.1 e he).tup (ho _ λz=>?_) λc ys h1=>no h1 (by intro C d fs z;cases z)
 rw[z,h.t.1] at hc;have:=aA hc;injection this with _ _ this
 injection this with this _
 injection this with this _
 revert this
 decide
def GB (K:W.Frag)(CP CT:Addr):Sp:=λvs H Q _=>∃p q cs bs v b,∃(y:Int),vs=[.ref p,v,.int y]/\PAt CP CT H p q cs bs/\cs.length<=10000/\Rep NL H (DB b) v/\GJ b/\(∀t∈AQ b,∃e∈cs,e.z=t.1)/\
 (∀e∈cs,e.bk=b->∀H',Am H H'->Q (.ref e.ta) H')/\
 ((∀e∈cs,e.bk≠b)->∀H' c dx l ta bs',H c=none->H l=none->(∃us,H' l=some (.lst us)/\AN NL H' ((AQ b).map Gx) us)->PAt CP CT H' p { q with n:=(cs.length:Int)+1 } ((cs++[Dz ((cs.length:Int)+1) y b v c dx ta l cs]).map (bump ((AQ b).map (·.1)))) bs'->WG (Cw p q cs bs) H H'->(∀x∈bs',x∈bs\/H x.2=none)->Q (.ref ta) H')
theorem N2 (T:Txt K mg Aj Aa Ac XC)(F:Fun K "put" "Pool.put" DN f fd)(FM:CL P w K mg base 4 Ac "alike" ["self","block"] (Fp K Ac Aa))(G2:CL P w K mg base 13 Ac "take" ["self","tag","block"] (FQ K Ac Aa))(C8:CL P w K mg base 1 Ac "free_number" ["self"] (CW K Ac Aa))(FH:Def P w K mg base 3 "sum_of" ["block"] (Hs K)):FnOk P w K mg base Cf 14 f fd ["self","block","birth"] (GB K Ac Aa):=by
 exists GO
 ·obtain⟨p,q,cs,bs,v,b,y,rfl,_⟩:=h;rfl
 obtain⟨p,q,cs,bs,v,b,y,rfl,pa,few,hv,ok,hn,hq1,hq2⟩:=h;have hu:=BI hr;refine⟨_,(!Ag (@Au _ _ (3) _ _ _ _ GO.nd rfl (by trivial) (!CZ (pv 0) T.cl_Pool FM (by trivial) (!Ab (pv 1) (!Af))) (by rfl) (by trivial)) (!Ag (!BH (!HY (!UJ (pv 3)) (by first|exact D7 _ (by decide) (by decide)|rfl)) (!Al (!Av (pv 3))) (!AV)) (!Ag (@Au _ _ (4) _ _ _ _ GO.nd rfl (by trivial) (!BF (!Ab (!Mc (pv 0) T.cl_Pool C8) (!Ab (pv 2) (!Ab (!AC FH (by trivial) rfl (!Ab (pv 1) (!Af))) (!Af))))) (by rfl) (by trivial)) (!Ag (!Bl (!CZ (pv 0) T.cl_Pool G2 (by trivial) (!Ab (pv 4) (!Ab (pv 1) (!Af))))) (!Ag (!E8 hu (!BK (pv 0)) (!An Az (pv 4) (!Ae) (λ_ _=>rfl)) (pv 1)) (!Al (!Av (pv 4)))))))),?_⟩
 try dsimp only[Bh,Cx.nox,Cx.wish]
 refine⟨_,rfl,p,q.dp,_,rfl,pa.t.1,rfl,_,rfl,p,q,cs,bs,v,b,rfl,pa,few,hv,ok,λe he eb H1 s1=>?_,λhne H1 s1=>?_⟩
 ·exact⟨_,rfl,_,rfl,Fe rfl ⟨_,rfl,hq1 e he eb H1 s1⟩⟩
 refine⟨_,rfl,_,rfl,Bi rfl ?_⟩;have pa1:=pa.same s1;refine⟨_,rfl,p,q.dp,_,rfl,pa1.t.1,rfl,p,q,cs,rfl,pa1.t,pa.z,pa.f1,pa.f2,λH2 hp2 ho2=>?_⟩;have pa2:PAt Ac Aa H2 p { q with n:=(cs.length:Int)+1 } cs bs:=pa1.setn hp2 ho2 (by omega) (by omega);have tp2:∀a ys,H1 a=some (.tup ys)->H2 a=some (.tup ys):=λa ys h=>by rw[ho2 a (BG h pa1.t.1 (by intro z;cases z))];exact h
 have k2:∀a o,H a=some o->∃o',H2 a=some o':=λa o h=>by
  by_cases e:a=p
  ·exact⟨_,by rw[e];exact hp2⟩
  ·exact⟨o,by rw[ho2 a e];exact s1.get h⟩
 refine⟨_,rfl,_,rfl,v,b,rfl,CD tp2 _ _ (Rep.same s1 _ _ hv),ok,λH3 s3=>?_⟩;refine⟨MD,λta hta=>?_⟩;have s4:=s3.trans (Ak hta (.tup [.int ((cs.length:Int)+1),.int y,.int (BC b)]));have pa4:=pa2.same s4;have t4:(upd H3 ta (.tup [.int ((cs.length:Int)+1),.int y,.int (BC b)])) ta=some (.tup [.int ((cs.length:Int)+1),.int y,.int (BC b)]):=Ad;have hv4:=Rep.same s4 _ _ (CD tp2 _ _ (Rep.same s1 _ _ hv));generalize (upd H3 ta (.tup [.int ((cs.length:Int)+1),.int y,.int (BC b)]))=H4 at s4 pa4 t4 hv4;refine⟨_,rfl,p,q.dp,_,rfl,pa4.t.1,rfl,_,rfl,_,rfl,p,_,cs,bs,v,b,ta,_,y,rfl,pa4,few,hv4,ok,t4,rfl,hn,λH5 c dx l bs' hc hl4 ⟨us,l5,u5⟩ P5 B5 lb d5 f5 bfr=>?_⟩;have t5:=f5 ta _ t4 (pa4.apart t4 (by intro C d fs z;cases z) (by intro kvs z;cases z));refine⟨_,rfl,_,rfl,p,Ac,q.dp,_,_,rfl,P5.1,T.cl_Pool,T.n_Pool_draft,rfl,_,rfl,ta,_,_,_,rfl,rfl,AL.of t5,rfl,q.dd,_,rfl,Jg.k (k:=Sum.inl ((cs.length:Int)+1)) d5 (AU (by unfold Rl;rw[aa];omega)),?_⟩;have fr:∀a,H4 a=none->H a=none:=λa hc=>by
  cases h:H a with
  |none=>rfl
  |some o=>
   obtain⟨o',h'⟩:=k2 a o h;rw[s4.get h'] at hc;cases hc
 have hcH:=fr c hc;have edr:putK (Rl cs) (Sum.inl ((cs.length:Int)+1)) v=Rl ((cs++[Dz ((cs.length:Int)+1) y b v c dx ta l cs]).map (bump ((AQ b).map (·.1)))):=by
  rw[RV,DA _ (KY λx hx=>?_)]
  ·unfold Rl;rw[aj];rfl
  ·obtain⟨e,he,rfl⟩:=af.mp hx;obtain⟨i,hi,rfl⟩:=cj he;have:=pa.z i _ (ab hi);intro zz;have:=bH zz;omega
 rw[edr];have nt0:∀{a u},H5 a=some u->(∀kvs,u≠.dK kvs)->a≠q.dd:=λ{a u} h n zz=>by
  rw[zz,d5] at h;exact n _ (aA h).symm
 refine⟨_,rfl,hq2 hne _ c dx l ta bs' hcH (fr l hl4) ⟨us,by rw[Ah (nt0 l5 (by intro kvs z;cases z))];exact l5,B0 (λa ys h=>by rw[Ah (nt0 h (by intro kvs z;cases z))];exact h) _ _ u5⟩ ?_ (λa o h n=>?_) λx hx=>(bfr x hx).imp id (fr x.2)⟩
 ·have nt:∀{a u},H5 a=some u->(∀kvs,u≠.dK kvs)->a≠q.dd:=λ{a u} h n zz=>by
   rw[zz,d5] at h;exact n _ (aA h).symm
  refine⟨⟨?_,?_,λe he=>?_,P5.2.2.2⟩,Ad,{ B5 with h:=?_,d:=λx hx=>⟨?_,(B5.d x hx).2⟩ },pa.n1,pa.n2,pa.n3,?_,λi e h=>?_,?_,?_,?_⟩
  ·rw[Ah (nt P5.1 (by intro kvs z;cases z))];exact P5.1
  ·rw[Ah pa.n2];exact P5.2.1
  ·exact(P5.2.2.1 e he).tup (Ah (nt (P5.2.2.1 e he).1 (by intro kvs z;cases z))) λa ys h=>by rw[Ah (nt h (by intro kvs z;cases z))];exact h
  ·rw[Ah pa.n3];exact B5.h
  ·rw[Ah (B5.d x hx).2.2.2];exact(B5.d x hx).1
  ·rw[Mh,aj,bI];refine⟨pa.c,by simp,λa ha b' hb=>?_⟩;obtain⟨x,hx,rfl⟩:=af.mp ha;have:b'=c:=ai.mp hb;rw[this];intro zz;have:=(pa.t.2.2.1 x hx).1;rw[zz,hcH] at this;cases this
  ·rw[az] at h;obtain⟨x,hx,rfl⟩:=bN.mp h;show x.z=_
   by_cases hi:i<cs.length
   ·rw[bL hi] at hx;exact pa.z i x hx
   ·rw[bJ (by omega)] at hx;obtain⟨h1,h2⟩:=ay.mp hx;have:i=cs.length:=by
     have:i-cs.length<1:=h1;omega
    subst this;simp only[Nat.sub_self,List.getElem_cons_zero] at h2;rw[<-h2];rfl
  ·rw[aa,au];have:=pa.w;show bs'.length<=cs.length+1;omega
  ·show(1:Int)<=(cs.length:Int)+1;omega
  ·rw[aa,au];show(cs.length:Int)+1<=((cs.length+1:Nat):Int)+1;omega
 ·have na:a≠q.dd:=λzz=>n (by rw[zz];unfold Cw;simp)
  have np:a≠p:=λzz=>n (by rw[zz];unfold Cw;simp)
  rw[Ah na];exact f5 a o (s4.get (by rw[ho2 a np];exact s1.get h)) n
end
open M06
section
variable {P:Program}{w:World}{K:W.Frag}{mg:Str->Option Value}{base:Heap}{f Aj Aa Ac:Addr}{XC:Nat->Addr}{fd:FuncData}
def Cg (K:W.Frag):Sp:=λvs H Q _=>∃(a:Addr) (ns:List Int) (k:Int),vs=[.ref a,.int k]/\0<=k/\AD K H a (ns.map V.int)/\∀z:Int,Q (.int z) H
theorem Kb (T:Txt K mg Aj Aa Ac XC)(F:Fun K "_law_cell_at" "_law_cell_at" B1 f fd):FnOk P w K mg base Cf 1 f fd ["_law_script","_law_k"] (Cg K):=by
 exists J9
 ·obtain⟨a,ns,k,rfl,_⟩:=h;rfl
 obtain⟨a,ns,k,rfl,hk,hS,q⟩:=h;refine⟨_,(!Ag (!BH (!AE Qf (pv 1) (!Ax AM (by rfl) T.b_len BW (!Ab (pv 0) (!Af))) (AH _)) (!Al (!Av (!An AB (pv 0) (pv 1) (λ_ _=>rfl)))) (!AV)) (!Al (!Av (!Ae)))),?_⟩;refine⟨_,rfl,_,rfl,a,_,rfl,.inl hS,_,_,rfl,rfl,_,rfl,Et (λc=>?_) (λc=>q 0)⟩;have c':=dec_true c;rw[aa] at c';exact⟨_,rfl,_,rfl,a,_,_,_,rfl,rfl,hS,Du hk c',q _⟩
theorem Ku {g:Array Nat}(hg:g.toList=[]):∀(xs:List Str) (acc:Array Nat),(xs.foldl (λacc p=>acc++g++p.cps) acc).toList=acc.toList++(xs.map Bg).flatten
 |[],acc=>by simp
 |x::xs,acc=>by
  rw[dE,Ku hg xs,gR,gR,hg,cn,ao,List.flatten_cons,cF]
theorem RJ {g:Str}(hg:Bg g=[])(ys:List Str):Bg (PySem.Txt.join g ys)=(ys.map Bg).flatten:=by
 unfold PySem.Txt.join PySem.Builtin.Str.glued
 change Array.toList (List.foldl _ _ _)=_
 rw[Ku (g:=g.cps) hg];cases ys with
 |nil=>rfl
 |cons y ys=>simp
theorem Aw {te:TE}{g:TG}{u:TS}{D:Ends}{σ:St}{H:Hp}(h:te σ H λx H'=>g x σ H' λσ' H''=>u D σ' H''):Uk (SR te g) u D σ H:=h
theorem Nv {te:TE}{u:TS}{D:Ends}{σ:St}{H:Hp}(h:te σ H λ_ H'=>u D σ H'):Uk (Vs te) u D σ H:=h
abbrev EM:Str:=PySem.Str.ofString ""
abbrev HG (H:Hp)(a:Addr)(t:Tg):Prop:=H a=some (.tup [.int t.1,.int t.2.1,.int t.2.2])
theorem len_app (x y:Str):(x++y).length=x.length+y.length:=Str.length_append x y
theorem Iv {α:Type} {J:It} {ps:List α} {g:α->V} {fr:List (Option Nat)} {k:Nat} {te:TE} {Q:VK} {σ:St} {H:Hp} (f:α->V) (hJ:Ie J H (ps.map g)) (hn:ps.length<=1000000)
  (helt:∀x∈ps,∀(H':Hp) (R:VK),Am H H'->(∀H'',Am H' H''->R (f x) H'')->te ((stC fr σ).set k (some (g x))) H' R)
  (hQ:∀l H',H l=none->Am H H'->H' l=some (.lst (ps.map f))->Q (.ref l) H'):Eo fr (Ay k) Oq te σ Q J H:=
 CH (λ_=>true) f hJ hn (λx hx H' R s' hR=>hR) (λx hx _=>helt x hx) λl H' nl s' hl=>hQ l H' nl s' (by rw[hl,ck.mpr λ_ _=>rfl])
abbrev HD (H:Hp)(ps:List (Addr×Tg)):Prop:=∀p∈ps,HG H p.1 p.2
theorem MR {H:Hp}:∀{ts:List Tg} {us:List V},AN NL H (ts.map Gx) us->∃ps:List (Addr×Tg),us=ps.map (λp=>V.ref p.1)/\ts=ps.map (·.2)/\HD H ps
 |[],us,h=>⟨[],by rw[show us=[] from h];rfl,rfl,λ_ h=>nomatch h⟩
 |x::ts,us,h=>by
  obtain⟨v,vs,rfl,r,rs⟩:=h;obtain⟨ps,e1,e2,e3⟩:=MR rs;obtain⟨a,rfl,h1⟩:=KR r;refine⟨(a,x)::ps,by rw[e1];rfl,by rw[e2];rfl,λp hp=>?_⟩;rcases aL.mp hp with rfl|hp
  ·exact h1
  ·exact e3 p hp
theorem QG {H:Hp}:∀{ps:List (Addr×Tg)},HD H ps->AN NL H ((ps.map (·.2)).map Gx) (ps.map λp=>V.ref p.1)
 |[],_=>rfl
 |p::ps,h=>⟨_,_,rfl,Lf (h p aw),QG λq hq=>h q (aI _ hq)⟩
theorem HD.same {H H':Hp}{ps:List (Addr×Tg)}(h:HD H ps)(s:Am H H'):HD H' ps:=λp hp=>s.get (h p hp)
theorem Mu {α:Type}{R:α->Addr->Prop}:∀{ys:List (α×V)},(∀q∈ys,∃t,q.2=V.ref t/\R q.1 t)->∃rs:List (α×Addr),ys.map (·.2)=rs.map (λp=>V.ref p.2)/\rs.map (·.1)=ys.map (·.1)/\∀p∈rs,R p.1 p.2
 |[],_=>⟨[],rfl,rfl,λ_ h=>nomatch h⟩
 |y::ys,h=>by
  obtain⟨rs,e1,e2,e3⟩:=Mu λq hq=>h q (aI _ hq)
  obtain⟨t,et,ht⟩:=h y aw;refine⟨(y.1,t)::rs,by rw[ao,ao,e1,et],by rw[ao,ao,e2],λp hp=>?_⟩;rcases aL.mp hp with rfl|hp
  ·exact ht
  ·exact e3 p hp
abbrev KT (H H':Hp):Prop:=∀c xs,H c=some (.tup xs)->H' c=some (.tup xs)
theorem KT.of {H H':Hp}(s:Am H H'):KT H H':=λ_ _ h=>s.get h
theorem KT.lst {H:Hp}{l:Addr}{us:List V}(h:H l=some (.lst us))(o:HO):KT H (upd H l o):=λc xs e=>by rw[Ah λw=>by rw[w,h] at e;cases e];exact e
abbrev BM:=Int->Option Bk
def Rw (B:BM):Nat->Int->Prop
 |0,z=>∃c,B z=some (.piece c)/\c.length<=8
 |n+1,z=>(∃c,B z=some (.piece c)/\c.length<=8)\/∃lv ts,B z=some (.row lv ts)/\ts.length<=3/\∀t∈ts,Rw B n t.1
theorem Tb (zs:List Str):(PySem.Txt.join EM zs).length=(zs.map (·.length)).sum:=by
 rw[<-A3,RJ rfl,List.length_flatten,aq];rfl
theorem Hn {α β:Type}{f:α->β}{us vs:List β}(h:us.Perm vs):∀{qs:List α},vs=qs.map f->∃us':List α,us'.Perm qs/\us'.map f=us:=by
 induction h with
 |nil=>intro qs e;exact⟨[],by rw[gP.mp e.symm],rfl⟩
 |cons x _ ih=>
  intro qs e;cases qs with
  |nil=>cases e
  |cons q qs=>
   rw[ao] at e;injection e with e1 e2
   obtain⟨us',h1,h2⟩:=ih e2;exact⟨q::us',h1.cons q,by rw[ao,h2,e1]⟩
 |swap x y l=>
  intro qs e;cases qs with
  |nil=>cases e
  |cons q qs=>
   cases qs with
   |nil=>cases e
   |cons q' qs=>
    rw[ao,ao] at e;injection e with e1 e2
    injection e2 with e2 e3
    exact⟨q'::q::qs,List.Perm.swap _ _ _,by rw[ao,ao,e1,e2,e3]⟩
 |trans _ _ ih1 ih2=>
  intro qs e;obtain⟨a,h1,h2⟩:=ih2 e;obtain⟨b,h3,h4⟩:=ih1 h2.symm;exact⟨b,h3.trans h1,h4⟩
def TV (H:Hp)(p:Addr×En):Prop:=∃b,H p.1=some (.tup [.str p.2.nm,.int p.2.kd,.ref b])/\H b=some (.tup [.int p.2.tg.1,.int p.2.tg.2.1,.int p.2.tg.2.2])
theorem TV.same {H H':Hp}{p:Addr×En}(h:TV H p)(s:Am H H'):TV H' p:=let⟨b,h1,h2⟩:=h;⟨b,s.get h1,s.get h2⟩
theorem TV.tup {H H':Hp}{p:Addr×En}(h:TV H p)(k:∀b xs,H b=some (.tup xs)->H' b=some (.tup xs)):TV H' p:=let⟨b,h1,h2⟩:=h;⟨b,k _ _ h1,k _ _ h2⟩
theorem Te {H:Hp}:∀{es:List En} {us:List V},AN NL H (es.map Kr) us->∃ps:List (Addr×En),us=ps.map (λp=>V.ref p.1)/\es=ps.map (·.2)/\∀p∈ps,TV H p
 |[],us,h=>⟨[],by rw[show us=[] from h];rfl,rfl,λ_ h=>nomatch h⟩
 |x::es,us,h=>by
  obtain⟨v,vs,rfl,r,rs⟩:=h;obtain⟨ps,e1,e2,e3⟩:=Te rs;obtain⟨a,b,rfl,h1,h2⟩:=Fh r;refine⟨(a,x)::ps,by rw[e1];rfl,by rw[e2];rfl,λp hp=>?_⟩;rcases aL.mp hp with rfl|hp
  ·exact⟨b,h1,h2⟩
  ·exact e3 p hp
theorem Qs {H:Hp}:∀{ps:List (Addr×En)},(∀p∈ps,TV H p)->AN NL H ((ps.map (·.2)).map Kr) (ps.map λp=>V.ref p.1)
 |[],_=>rfl
 |p::ps,h=>by
  obtain⟨b,h1,h2⟩:=h p aw;exact⟨_,_,rfl,VO h1 h2,Qs λq hq=>h q (aI _ hq)⟩
theorem Cj {σ:St}{H:Hp}{Q:List V->Hp->Prop}(h:Q [] H):QI σ H Q:=h
structure HE where
 nm:Str
 kd:Int
 ow:Str
 og:Key
 tg:Tg
def Ih (H:Hp)(p:Addr×HE):Prop:=∃ta,H p.1=some (.tup [.str p.2.nm,.int p.2.kd,.str p.2.ow,kV p.2.og,.ref ta])/\HG H ta p.2.tg
theorem Ih.same {H H':Hp}{p:Addr×HE}(h:Ih H p)(s:Am H H'):Ih H' p:=let⟨ta,h1,h2⟩:=h;⟨ta,s.get h1,s.get h2⟩
theorem Va {α:Type}{p:α->Bool}{es:List α}{i:Nat}{y:α}(ey:es[i]?=some y)(e:p y=true)(no:∀x∈es.take i,p x=false):es.find? p=some y:=by
 have h1:es=es.take i++y::es.drop (i+1):=by
  obtain⟨hl,he⟩:=ay.mp ey;rw[<-he];exact(eM i es).symm.trans (by rw[dW hl])
 rw[h1,fk,cL.mpr λx hx c=>(by rw[no x hx] at c;cases c),List.find?_cons,e];rfl
theorem KM {α:Type}{z:α->Int}{v:α->V}:∀{cs:List α},(cs.map z).Nodup->∀c∈cs,Bo (cs.map λc=>(Sum.inl (z c),v c):List (Key×V)) (.inl (z c))=some (v c)
 |x::cs,nd,c,hc=>by
  rw[ao,bR] at nd;rw[ao];rcases aL.mp hc with rfl|hc
  ·exact E3 rfl
  ·rw[D6 λe=>nd.1 (af.mpr ⟨c,hc,(bH e).symm⟩)];exact KM nd.2 c hc
end
section
variable {P:Program}{w:World}{K:W.Frag}{mg:Str->Option Value}{base:Heap}{f:Addr}{XC:Nat->Addr}{fd:FuncData}
def Eb (K:W.Frag):Sp:=λvs H Q _=>∃(c m:Int),vs=[.int c,.int m]/\0<=m/\m<=1000/\
 ∀(r:Addr) (H':Hp) (ns:List Int),Am H H'->H r=none->H' r=some (.lst (ns.map V.int))->ns.length=m.toNat->(∀x∈ns,0<=x/\x<60)->Q (.ref r) H'
theorem Np (T:Txt K mg Aj Aa Ac XC)(F:Fun K "_law_row" "_law_row" DI f fd):FnOk P w K mg base Cf 1 f fd ["_law_cell","_law_many"] (Eb K):=by
 exists Ea
 ·obtain⟨c,m,rfl,_⟩:=h;rfl
 obtain⟨c,m,rfl,hm0,hm1,q⟩:=h;refine⟨_,(!Ag (@Au _ _ (2) _ _ _ _ Ea.nd rfl (by trivial) (!Bb (!Af)) (by rfl) (by trivial)) (!Ag (!BR aW rfl (!Bn rfl T.b_range (!Ab (pv 1) (!Af))) (@Ap _ _ (3) _ Ea.nd rfl (by trivial) (by trivial)) (!Al (!BH (!Nq NR Qf (!Ae) (pv 0) (!Ao Pz (!Ae) (!Ae)) (by with_unfolding_all rfl)) (!Ag (@Au _ _ (4) _ _ _ _ Ea.nd rfl (by trivial) (!Ao AR (!Ao AF (!Ao AF (!Ao Bt (!Ao AR (pv 0) (!Ae)) (!Ae)) (!Ao Bt (!Ao Bt (pv 3) (pv 3)) (!Ae))) (!Ae)) (!Ae)) (by rfl) (by trivial)) (!Al (!Bl (!C4 aP bu br BD (pv 2) (!Ab (!Ao AR (!Ao Kn (!Ao AR (!Ao Bt (pv 4) (!Ao AF (!Ao AR (pv 4) (!Ae)) (!Ae))) (!Ae)) (!Ae)) (!Ae)) (!Af)))))) (!Ag (!Bl (!C4 aP bu br BD (pv 2) (!Ab (!Ao AR (pv 0) (!Ae)) (!Af)))) (!Al (@Au _ _ (0) _ _ _ _ Ea.nd rfl (by trivial) (!Ao Kn (pv 0) (!Ae)) (by rfl) (by trivial)))))) (by intro _;rfl)) (!Al (!Av (pv 2))))),?_⟩
 try dsimp only[Bh,Cx.nox,Cx.wish]
 refine⟨HX,λg hg=>?_⟩;refine⟨_,rfl,m,rfl,by omega,by omega,CI (lo:=0) (n:=m.toNat) (λi σ H2=>∃(ns:List Int) (z:Int) (v u:Option V),σ=[some (.int z),some (.int m),some (.ref g),v,u]/\Am H H2/\H2 g=some (.lst (ns.map V.int))/\ns.length=i/\∀x∈ns,0<=x/\x<60)
  ⟨[],c,none,none,rfl,Ak hg _,Ad,rfl,λ_ h=>nomatch h⟩ ?_ ?_⟩
 ·rintro i σ H2 hi ⟨ns,z,v,u,rfl,s2,hg2,hl,hb⟩
  have app:∀x:Int,0<=x->x<60->∀(z:Int) (v u:Option V),∃(ns':List Int) (z':Int) (v' u':Option V),[some (.int z),some (.int m),some (.ref g),v,u]=[some (.int z'),some (.int m),some (.ref g),v',u']/\Am H (upd H2 g (.lst (ns.map V.int++[.int x])))/\(upd H2 g (.lst (ns.map V.int++[.int x]))) g=some (.lst (ns'.map V.int))/\ns'.length=i+1/\∀x∈ns',0<=x/\x<60:=λx h0 h1 z v u=>
   ⟨ns++[x],z,v,u,rfl,AI s2 hg _,by rw[Ad,aj];rfl,by rw[au,hl];rfl,λy hy=>by
    rcases av.mp hy with hy|hy
    ·exact hb y hy
    ·rw[ai.mp hy];exact⟨h0,h1⟩⟩
  have few:(ns.map V.int).length<sizeLine:=AU (by rw[aa];omega);refine⟨_,rfl,_,_,rfl,rfl,_,rfl,Et (λc1=>?_) (λc1=>?_)⟩
  ·refine⟨_,_,rfl,rfl,⟨by decide,by decide,by decide⟩,_,_,rfl,rfl,_,rfl,Et (λc2=>?_) (λc2=>?_)⟩
   ·refine⟨_,rfl,_,_,rfl,rfl,(by show(0:Int)<2147483629;decide),_,_,rfl,rfl,.inr ⟨by decide,by decide⟩,_,rfl,_,rfl,_,_,rfl,rfl,.inl ⟨by omega,by omega⟩,_,_,rfl,rfl,.inr ⟨by decide,by decide⟩,_,_,rfl,rfl,_,_,rfl,rfl,_,_,rfl,rfl,(by show(0:Int)<2147483647;decide),?_⟩;have b0:=bw (z%2147483629*48271+(0+(i:Int))*(0+(i:Int))*69621+7) (show(2147483647:Int)≠0 by decide);have b1:=bc (z%2147483629*48271+(0+(i:Int))*(0+(i:Int))*69621+7) (show(0:Int)<2147483647 by decide);dsimp only;generalize (z%2147483629*48271+(0+(i:Int))*(0+(i:Int))*69621+7)%2147483647=y at b0 b1;refine⟨_,rfl,.inl ⟨rfl,_,AD.of hg2⟩,_,rfl,_,rfl,_,_,rfl,rfl,(by show(0:Int)<65521;decide),_,_,rfl,rfl,_,_,rfl,rfl,.inl ⟨by omega,by omega⟩,_,_,rfl,rfl,(by show(0:Int)<2147483629;decide),_,_,rfl,rfl,⟨by decide,by decide⟩,_,_,rfl,rfl,(by show(0:Int)<60;decide),g,_,_,rfl,rfl,hg2,few,?_⟩;exact app _ (bw _ (by decide)) (bc _ (by decide)) _ _ _
   ·refine⟨_,rfl,.inl ⟨rfl,_,AD.of hg2⟩,_,rfl,_,_,rfl,rfl,(by show(0:Int)<60;decide),g,_,_,rfl,rfl,hg2,few,?_⟩;refine⟨_,rfl,_,_,rfl,rfl,⟨by decide,by decide⟩,?_⟩;exact app _ (bw _ (by decide)) (bc _ (by decide)) _ _ _
  ·refine⟨_,rfl,Bi rfl ?_⟩;refine⟨_,rfl,.inl ⟨rfl,_,AD.of hg2⟩,_,rfl,_,_,rfl,rfl,(by show(0:Int)<60;decide),g,_,_,rfl,rfl,hg2,few,?_⟩;refine⟨_,rfl,_,_,rfl,rfl,⟨by decide,by decide⟩,?_⟩;exact app _ (bw _ (by decide)) (bc _ (by decide)) _ _ _
 ·rintro σ H2 ⟨ns,z,v,u,rfl,s2,hg2,hl,hb⟩
  exact⟨_,rfl,q g _ ns s2 hg hg2 hl hb⟩
theorem KU:(Bg LN).length=36:=by decide +kernel
theorem Xd:(Bg LN).Nodup:=by decide +kernel
def VY (i:Int):Nat:=(Bg LN).getD (i%36).toNat 0
theorem UE {i j:Int}(h:VY i=VY j):i%36=j%36:=by
 have i0:=bw i (show(36:Int)≠0 by decide);have i1:=bc i (show(0:Int)<36 by decide);have j0:=bw j (show(36:Int)≠0 by decide);have j1:=bc j (show(0:Int)<36 by decide)
 by_cases e:(i%36).toNat=(j%36).toNat
 ·omega
 ·exact absurd h (KN Xd (by rw[KU];omega) (by rw[KU];omega) e)
theorem Xn (i:Int):JS LN.cps.toList (i%36)=some (VY i)/\VY i∈Bg LN:=by
 have i0:=bw i (show(36:Int)≠0 by decide);have i1:=bc i (show(0:Int)<36 by decide);have hk:(i%36).toNat<(Bg LN).length:=by rw[KU];omega
 have e:VY i=(Bg LN)[(i%36).toNat]:=by
  show(Bg LN).getD (i%36).toNat 0=_;rw[bK,ab hk];rfl
 have:=Ar (xs:=Bg LN) (j:=(i%36).toNat) (ab hk);rw[show(((i%36).toNat:Nat):Int)=i%36 by omega] at this;exact⟨by rw[e];exact this,by rw[e];exact bF hk⟩
theorem RW {z:Str}{i:Int}(h0:0<=i)(h1:i<(Bg z).length):∃c,JS z.cps.toList i=some c/\c∈Bg z:=by
 have hk:i.toNat<(Bg z).length:=by omega
 have ek:((i.toNat:Nat):Int)=i:=by omega
 refine⟨(Bg z)[i.toNat],?_,bF hk⟩;have:=Ar (xs:=Bg z) (j:=i.toNat) (ab hk);rw[ek] at this;exact this
theorem Uh (z:Str){i:Int}(h0:0<=i):∃n,min i.toNat z.length<=n/\Bg (PySem.Txt.slice z (some i) none)=(Bg z).drop n:=by
 have hz:=A3 z
 by_cases h:i<=z.length
 ·refine⟨i.toNat,Nat.min_le_left _ _,?_⟩;show Bg (StrLaws.sliceText z (some i) none)=_;rw[StrLaws.sliceText_from ⟨h0,by rw[hz];exact h⟩];refine aZ ?_;rw[cH];show(Bg z).length-i.toNat<=(((Bg z).length:Int)-i).toNat;omega
 ·refine⟨z.length,Nat.min_le_right _ _,?_⟩;have e:PySem.Builtin.Str.strSliceIndices (some i) none 1 z.length=PySem.Builtin.Str.strSliceIndices (some (z.length:Int)) none 1 z.length:=by
   unfold PySem.Builtin.Str.strSliceIndices;have e1:(if i<0 then i+(z.length:Int) else i)=i:=aJ (by omega);have e2:(if(z.length:Int)<0 then(z.length:Int)+(z.length:Int) else(z.length:Int))=z.length:=aJ (by omega);simp only[e1,e2];have e3:max 0 (min i (z.length:Int))=max 0 (min (z.length:Int) z.length):=by omega
   rw[e3];simp only[if_pos (show(1:Int)>0 by decide)]
  show Bg (StrLaws.sliceText z (some i) none)=_;have e':StrLaws.sliceText z (some i) none=StrLaws.sliceText z (some (z.length:Int)) none:=by
   unfold StrLaws.sliceText;rw[e]
  rw[e',StrLaws.sliceText_from ⟨by omega,by rw[hz];omega⟩];refine aZ ?_;rw[cH];show(Bg z).length-z.length<=(((Bg z).length:Int)-(z.length:Int)).toNat;omega
theorem Oz {M:List Nat}:∀(ys:List V),(∀y∈ys,∃c,y=.str ⟨#[c]⟩/\c∈M)->∃cs:List Nat,ys=(cs.map λc=>(⟨#[c]⟩:Str)).map V.str/\∀c∈cs,c∈M
 |[],_=>⟨[],rfl,λ_ h=>nomatch h⟩
 |y::ys,h=>by
  obtain⟨c,rfl,hc⟩:=h y aw;obtain⟨cs,rfl,hw⟩:=Oz ys λy hy=>h y (aI _ hy)
  refine⟨c::cs,rfl,λx hx=>?_⟩;rcases aL.mp hx with rfl|hx
  ·exact hc
  ·exact hw x hx
theorem Jl (cs:List Nat):Bg (PySem.Txt.join EM (cs.map λc=>(⟨#[c]⟩:Str)))=cs:=by
 show Bg (PySem.Builtin.Str.glued EM _)=_;rw[StrLaws.glued_eq_join]
 induction cs with
 |nil=>rfl
 |cons c r ih=>
  cases r with
  |nil=>rfl
  |cons d r=>
   show Bg (⟨#[c]⟩++EM++PySem.Str.join EM (List.map _ (d::r)))=c::d::r;rw[FN,FN,ih];rfl
def Wj (z:Str):Prop:=Bg z≠[]/\z.length<=8/\∀c∈Bg z,c∈Bg LN
def Fv (K:W.Frag):Sp:=λvs H Q _=>∃(a:Addr) (ns:List Int) (m:Int),vs=[.ref a,.int m]/\H a=some (.lst (ns.map V.int))/\ns.length=10/\(∀x∈ns,0<=x/\x<60)/\0<=m/\m<=30/\
 ∀l H' (zs:List Str),Am H H'->H l=none->H' l=some (.lst (zs.map V.str))->zs.length=m.toNat->(∀z∈zs,Wj z)->zs.Nodup->Q (.ref l) H'
theorem Lk (T:Txt K mg Aj Aa Ac XC)(F:Fun K "_law_names" "_law_names" CK f fd):FnOk P w K mg base Cf 1 f fd ["_law_row_here","_law_many"] (Fv K):=by
 exists By
 ·obtain⟨a,ns,m,rfl,_⟩:=h;rfl
 obtain⟨a,ns,m,rfl,ha,ln,nb,hm0,hm1,q⟩:=h;refine⟨_,(!Ag (@Au _ _ (2) _ _ _ _ By.nd rfl (by trivial) (!Jn) (by rfl) (by trivial)) (!Ag (@Au _ _ (3) _ _ _ _ By.nd rfl (by trivial) (!C4 eB gw gu (Qd rfl) (!Jn) (!Ab (@BV _ ["_law_k","_law_signs","_law_row_here"] [none,some 2,some 0] _ _ _ _ _ _ _ _ _ _ _ rfl (!Bn rfl T.b_range (!Ab (!Ae) (!Af))) (by rfl) rfl (by repeat (first|exact trivial|refine⟨rfl,?_⟩)) (by repeat (first|exact trivial|refine⟨λh=>(by first|exact⟨_,rfl⟩|cases h),?_⟩)) (λC s H fp=>⟨(@Ap _ _ (0) _ (show(["_law_k","_law_signs","_law_row_here"]:List Str).Nodup by decide +kernel) rfl (by trivial) (by trivial)),(!AO),(!An Na (pv 1) (!Ao AR (!An (FD (K:=K) (by rfl)) (pv 2) (pv 0) (λ_ _=>rfl)) (!Ae)) (λ_ _=>rfl))⟩) (by intro _;rfl)) (!Af))) (by rfl) (by trivial)) (!Ag (@Au _ _ (4) _ _ _ _ By.nd rfl (by trivial) (!Ao AR (!An AB (pv 0) (!Ae) (λ_ _=>rfl)) (!Ae)) (by rfl) (by trivial)) (!Ag (@Au _ _ (5) _ _ _ _ By.nd rfl (by trivial) (!Bb (!Af)) (by rfl) (by trivial)) (!Ag (!BR aW rfl (!Bn rfl T.b_range (!Ab (pv 1) (!Af))) (@Ap _ _ (6) _ By.nd rfl (by trivial) (by trivial)) (!Ag (@Au _ _ (7) _ _ _ _ By.nd rfl (by trivial) (!Ao HU (!IB Pf (pv 3) (!Km) (!IV (pv 4))) (!An Na (pv 2) (!Ao AR (!Ao AF (!An AB (pv 0) (!Ae) (λ_ _=>rfl)) (pv 6)) (!Ae)) (λ_ _=>rfl))) (by rfl) (by trivial)) (!Ag (@Au _ _ (7) _ _ _ _ By.nd rfl (by trivial) (!Ao HU (pv 7) (!IB Pf (pv 3) (!IV (!Ao AF (pv 4) (!Ae))) (!Km))) (by rfl) (by trivial)) (!Al (!Bl (!C4 aP bu br BD (pv 5) (!Ab (!An AB (!Bb (!Ab (pv 7) (!Ab (!IB Pf (pv 7) (!Km) (!IV (!Ao AF (pv 4) (!Ae)))) (!Ab (!Ao HU (pv 7) (!An Na (pv 2) (pv 6) (λ_ _=>rfl))) (!Af))))) (!Ao AR (!Ao AF (!An AB (pv 0) (!Ae) (λ_ _=>rfl)) (pv 6)) (!Ae)) (λ_ _=>rfl)) (!Af))))))) (by intro _;rfl)) (!Al (!Av (pv 5)))))))),?_⟩
 try dsimp only[Bh,Cx.nox,Cx.wish]
 have nn:∀k:Nat,k<10->0<=ns.getD k 0:=λk hk=>by
  have hk':k<ns.length:=by omega
  simp only[List.getD,List.getElem?_eq_getElem hk',Option.getD_some];exact(nb _ (bF hk')).1
 have A7:JS (ns.map V.int) 7=some (.int (ns.getD 7 0)):=Du (by decide) (by omega);have A8:JS (ns.map V.int) 8=some (.int (ns.getD 8 0)):=Du (by decide) (by omega);have A9:JS (ns.map V.int) 9=some (.int (ns.getD 9 0)):=Du (by decide) (by omega);refine⟨rfl,7,rfl,by decide,by decide,?_⟩;refine SO (xs:=(List.range (7:Int).toNat).map λ(i:Nat)=>V.int (0+(i:Int))) (λ_ y _=>∃c,y=.str ⟨#[c]⟩/\c∈Bg LN) (λ_ _ _ _ h _=>h) (λ_ _ _ _ _ _ h _ _=>h) HK (by rw[aa,bP];decide) (λx H' R hx s' hR=>?_) λl H1 ys n1 s1 h1 l1 hy=>?_
 ·obtain⟨i,hi,rfl⟩:=af.mp hx;have hi':i<7:=cy.mp hi;obtain⟨c,hc,mc⟩:=RW (z:=LN) (i:=ns.getD (0+(i:Int)).toNat 0%36) (bw _ (by decide)) (by rw[KU];exact bc _ (by decide));refine⟨_,rfl,_,rfl,_,rfl,a,_,_,_,rfl,rfl,AD.of (s'.get ha),Du (by omega) (by omega),_,_,rfl,rfl,(by show(0:Int)<36;decide),LN,_,c,rfl,rfl,small (by decide +kernel),hc,?_⟩;exact hR (.str ⟨#[c]⟩) H' (Am.refl _) (λ_ z=>by cases z) ⟨c,rfl,mc⟩
 obtain⟨cs,rfl,hcs⟩:=Oz ys λy hm=>by
  obtain⟨i,hi⟩:=cf hm;have il:=(ay.mp hi).1;exact(hy i _ y (ab (by omega)) hi).1
 have lcs:cs.length=7:=by
  rw[aa,aa,aa,bP] at l1;exact l1
 have wl:(Bg (PySem.Txt.join EM (cs.map λc=>(⟨#[c]⟩:Str))))=cs:=Jl cs;refine⟨l,EM,cs.map λc=>(⟨#[c]⟩:Str),rfl,rfl,AD.of h1,?_,?_⟩
 ·have e:((cs.map λc=>(⟨#[c]⟩:Str)).map (·.length)).sum=cs.length:=by
   rw[aq];have:((λz:Str=>z.length)∘λc=>(⟨#[c]⟩:Str))=λ_:Nat=>1:=rfl
   rw[this]
   clear this hcs h1 hy l1 wl lcs
   induction cs with
   |nil=>rfl
   |cons c cs ih=>rw[ao,bG,ih,aX];omega
  rw[e,aa,lcs]
  decide +kernel
 dsimp only;have hwl:(PySem.Txt.join EM (cs.map λc=>(⟨#[c]⟩:Str))).length=7:=by rw[<-A3,wl,lcs]
 have hwc:∀c∈Bg (PySem.Txt.join EM (cs.map λc=>(⟨#[c]⟩:Str))),c∈Bg LN:=by rw[wl];exact hcs
 generalize PySem.Txt.join EM (cs.map λc=>(⟨#[c]⟩:Str))=wd at hwl hwc;refine⟨_,rfl,a,_,_,_,rfl,rfl,AD.of (s1.get ha),A7,_,_,rfl,rfl,(by show(0:Int)<7;decide),?_⟩;have t0:=bw (ns.getD 7 0) (show(7:Int)≠0 by decide);have t1:=bc (ns.getD 7 0) (show(0:Int)<7 by decide);dsimp only;generalize ns.getD 7 0%7=at_ at t0 t1;refine⟨HX,λg hg=>?_⟩;have hgH:H g=none:=s1.free hg;refine⟨_,rfl,m,rfl,by omega,by omega,CI (lo:=0) (n:=m.toNat) (λi σ H2=>∃(zs:List Str) (v u:Option V),σ=[some (.ref a),some (.int m),some (.str LN),some (.str wd),some (.int at_),some (.ref g),v,u]/\Am H H2/\H2 g=some (.lst (zs.map V.str))/\zs.length=i/\(∀z∈zs,Wj z)/\∀(j:Nat) z,zs[j]?=some z->(Bg z)[at_.toNat]?=some (VY (ns.getD 8 0+(0+(j:Int)))))
  ⟨[],none,none,rfl,s1.trans (Ak hg _),Ad,rfl,(λ_ h=>nomatch h),(λj z h=>by simp at h)⟩ ?_ ?_⟩
 ·rintro i σ H2 hi ⟨zs,v,u,rfl,s2,hg2,hl,hb,hat⟩
  have ha2:=s2.get ha;obtain⟨hc,mc⟩:=Xn (ns.getD 8 0+(0+(i:Int)));generalize ec:VY (ns.getD 8 0+(0+(i:Int)))=c at hc mc;obtain⟨d,hd,md⟩:=RW (z:=LN) (i:=0+(i:Int)) (by omega) (by rw[KU];omega);have e1:=Vl wd t0;obtain⟨k,kk,e2⟩:=Uh wd (i:=at_+1) (by omega);have lwd:=A3 wd;have l1:(PySem.Txt.slice wd none (some at_)).length<=at_.toNat:=by rw[<-A3,e1,aV];omega
  have l2:(PySem.Txt.slice wd (some (at_+1)) none).length<=6-at_.toNat:=by rw[<-A3,e2,cH];omega
  refine⟨_,rfl,_,rfl,_,rfl,wd,rfl,small (by omega),_,rfl,_,rfl,a,_,_,_,rfl,rfl,AD.of ha2,A8,_,rfl,_,_,rfl,rfl,_,_,rfl,rfl,(by show(0:Int)<36;decide),LN,_,c,rfl,rfl,small (by decide +kernel),hc,_,_,rfl,rfl,small (by show _+1<=1000000;omega),?_⟩;refine⟨_,rfl,_,rfl,_,rfl,_,_,rfl,rfl,_,rfl,wd,rfl,small (by omega),_,_,rfl,rfl,small (by rw[len_app];show _+1+_<=1000000;omega),?_⟩;have oc:Bg (PySem.Txt.slice wd none (some at_)++⟨#[c]⟩++PySem.Txt.slice wd (some (at_+1)) none)=(Bg wd).take at_.toNat++c::(Bg wd).drop k:=by
   rw[FN,FN,e1,e2,cF];rfl
  have ol:(PySem.Txt.slice wd none (some at_)++⟨#[c]⟩++PySem.Txt.slice wd (some (at_+1)) none).length<=7:=by
   rw[len_app,len_app];show _+1+_<=7;omega
  dsimp only;generalize PySem.Txt.slice wd none (some at_)++⟨#[c]⟩++PySem.Txt.slice wd (some (at_+1)) none=one at oc ol;have on:Wj one:=⟨by rw[oc];simp,by omega,λx hx=>by
   rw[oc] at hx;rcases av.mp hx with hx|hx
   ·exact hwc x (eO hx)
   ·rcases aL.mp hx with rfl|hx
    ·exact mc
    ·exact hwc x (List.mem_of_mem_drop hx)⟩
  have e3:=Vl one (j:=at_+1) (by omega);have tn:Wj (PySem.Txt.slice one none (some (at_+1))):=⟨by
    rw[e3];have:=on.1;cases h:Bg one with
    |nil=>exact absurd h this
    |cons x l=>
     rw[show(at_+1).toNat=at_.toNat+1 by omega,List.take_succ_cons];simp,by rw[<-A3,e3,aV,A3];omega,λx hx=>by rw[e3] at hx;exact on.2.2 x (eO hx)⟩
  have pn:Wj (one++⟨#[d]⟩):=⟨by rw[FN];simp,by rw[len_app];show one.length+1<=8;omega,λx hx=>by
   rw[FN] at hx;rcases av.mp hx with hx|hx
   ·exact on.2.2 x hx
   ·rw[ai.mp hx];exact md⟩
  have oat:(Bg one)[at_.toNat]?=some c:=by
   rw[oc,bJ (by rw[aV];omega),aV,show at_.toNat-min at_.toNat (Bg wd).length=0 by omega];rfl
  have tat:(Bg (PySem.Txt.slice one none (some (at_+1))))[at_.toNat]?=some c:=by
   rw[e3,dQ,aG (by omega)];exact oat
  have pat:(Bg (one++⟨#[d]⟩))[at_.toNat]?=some c:=by
   rw[FN,bL (ay.mp oat).1];exact oat
  refine⟨_,rfl,.inl ⟨rfl,_,AD.of hg2⟩,_,rfl,_,rfl,_,rfl,_,_,rfl,rfl,_,rfl,one,rfl,small (by omega),_,rfl,_,rfl,_,rfl,LN,_,d,rfl,rfl,small (by decide +kernel),hd,_,_,rfl,rfl,small (by show one.length+1<=1000000;omega),MD,λp hp=>?_⟩;have s3:=Ak hp (.lst [V.str one,V.str (PySem.Txt.slice one none (some (at_+1))),V.str (one++⟨#[d]⟩)]);obtain⟨z,hz,hzn,hza⟩:∃z,JS [V.str one,V.str (PySem.Txt.slice one none (some (at_+1))),V.str (one++⟨#[d]⟩)] ((ns.getD 9 0+(0+(i:Int)))%3)=some (.str z)/\Wj z/\(Bg z)[at_.toNat]?=some c:=by
   have r0:=bw (ns.getD 9 0+(0+(i:Int))) (show(3:Int)≠0 by decide);have r1:=bc (ns.getD 9 0+(0+(i:Int))) (show(0:Int)<3 by decide);generalize (ns.getD 9 0+(0+(i:Int)))%3=r at r0 r1;have:r=0\/r=1\/r=2:=by omega
   rcases this with rfl|rfl|rfl
   ·exact⟨_,rfl,on,oat⟩
   ·exact⟨_,rfl,tn,tat⟩
   ·exact⟨_,rfl,pn,pat⟩
  refine⟨_,rfl,a,_,_,_,rfl,rfl,AD.of (s3.get ha2),A9,_,rfl,_,_,rfl,rfl,_,_,rfl,rfl,(by show(0:Int)<3;decide),p,_,_,_,rfl,rfl,AD.of Ad,hz,g,_,_,rfl,rfl,s3.get hg2,AU (by rw[aa];omega),?_⟩;refine⟨zs++[z],_,_,rfl,AI (s2.trans s3) hgH _,by rw[Ad,aj];rfl,by rw[au,hl];rfl,λy hy=>?_,λj y hj=>?_⟩
  ·rcases av.mp hy with hy|hy
   ·exact hb y hy
   ·rw[ai.mp hy];exact hzn
  ·by_cases hjl:j<zs.length
   ·rw[bL hjl] at hj;exact hat j y hj
   ·rw[bJ (by omega)] at hj;have h0:j-zs.length=0:=by
     have:=(ay.mp hj).1;simp at this;omega
    rw[h0] at hj;cases hj;rw[show j=i by omega,ec];exact hza
 ·rintro σ H2 ⟨zs,v,u,rfl,s2,hg2,hl,hb,hat⟩
  refine⟨_,rfl,q g _ zs s2 hgH hg2 hl hb ?_⟩;refine bg.mpr λi j hi hj hij e=>?_
  have e1:=hat i _ (ab hi);have e2:=hat j _ (ab hj);rw[e,e2] at e1;have:=UE (aA e1);have l30:zs.length<=30:=by omega
  omega
end
section
variable {P:Program}{w:World}{K:W.Frag}{mg:Str->Option Value}{base:Heap}{f Aj Aa Ac:Addr}{XC:Nat->Addr}{fd:FuncData}
abbrev TX:Str:=PySem.Str.ofString " abcdefghijklmnopqrstuvwxyz0123456789!#&*+,-./:;<=>?\x40[]^_{|}~"
theorem RF:(Bg TX).length=61:=by decide +kernel
theorem Xa:∀c∈Bg TX,c∈Bg SG:=by decide +kernel
def WY (z:Str):Prop:=∀c∈Bg z,c∈Bg SG
def Gd (K:W.Frag):Sp:=λvs H Q _=>∃(a:Addr) (ns:List Int) (k:Int),vs=[.ref a,.int k]/\H a=some (.lst (ns.map V.int))/\0<=k/\k+2<ns.length/\(∀x∈ns,0<=x/\x<60)/\∀z H',Am H H'->1<=z.length->z.length<=8->WY z->Q (.str z) H'
theorem DD {ns:List Int}(h:∀x∈ns,0<=x/\x<60)(k:Nat):0<=ns.getD k 0/\ns.getD k 0<60:=by
 rw[bK];cases e:ns[k]? with
 |none=>exact⟨by decide,by decide⟩
 |some x=>exact h x (aC e)
theorem MC (T:Txt K mg Aj Aa Ac XC)(F:Fun K "_law_text" "_law_text" Dk f fd):FnOk P w K mg base Cf 1 f fd ["_law_row_here","_law_at"] (Gd K):=by
 exists I0
 ·obtain⟨a,ns,k,rfl,_⟩:=h;rfl
 obtain⟨a,ns,k,rfl,ha,k0,k1,hb,q⟩:=h;refine⟨_,(!Ag (@Au _ _ (2) _ _ _ _ I0.nd rfl (by trivial) (!Jn) (by rfl) (by trivial)) (!Al (!Av (!C4 eB gw gu (Qd rfl) (!Jn) (!Ab (@BV _ ["_law_k","_law_signs","_law_row_here","_law_at"] [none,some 2,some 0,some 1] _ _ _ _ _ _ _ _ _ _ _ rfl (!Bn rfl T.b_range (!Ab (!Ao AF (!Ae) (!Ao AR (!An AB (pv 0) (!Ao AF (pv 1) (!Ae)) (λ_ _=>rfl)) (!Ae))) (!Af))) (by rfl) rfl (by repeat (first|exact trivial|refine⟨rfl,?_⟩)) (by repeat (first|exact trivial|refine⟨λh=>(by first|exact⟨_,rfl⟩|cases h),?_⟩)) (λC s H fp=>⟨(@Ap _ _ (0) _ (show(["_law_k","_law_signs","_law_row_here","_law_at"]:List Str).Nodup by decide +kernel) rfl (by trivial) (by trivial)),(!AO),(!An Na (pv 1) (!Ao AR (!Ao AF (!An (FD (K:=K) (by rfl)) (pv 2) (pv 3) (λ_ _=>rfl)) (!Ao Bt (pv 0) (!An (FD (K:=K) (by rfl)) (pv 2) (!Ao AF (pv 3) (!Ae)) (λ_ _=>rfl)))) (!Ax Ey (by rfl) T.b_len BW (!Ab (pv 1) (!Af)))) (λ_ _=>rfl))⟩) (by intro _;rfl)) (!Af)))))),?_⟩
 try dsimp only[Bh,Cx.nox,Cx.wish]
 have r0:=bw (ns.getD (k+2).toNat 0) (show(8:Int)≠0 by decide);have r1:=bc (ns.getD (k+2).toNat 0) (show(0:Int)<8 by decide);refine Aw ⟨rfl,_,rfl,_,rfl,_,_,rfl,rfl,a,_,_,_,rfl,rfl,AD.of ha,Du (by omega) k1,_,_,rfl,rfl,(by show(0:Int)<8;decide),_,_,rfl,rfl,_,rfl,by omega,by omega,?_⟩;generalize ns.getD (k+2).toNat 0%8=r at r0 r1;refine Iv (ps:=List.range (1+r).toNat) (λi=>.str ⟨#[(Bg TX).getD ((ns.getD k.toNat 0+(0+(i:Int))*ns.getD (k+1).toNat 0)%61).toNat 0]⟩) HK (by rw[bP];omega) (λi hi H' R s' hR=>?_) λl H1 nl s1 hl=>?_
 ·have i1:=cy.mp hi;have m0:=bw (ns.getD k.toNat 0+(0+(i:Int))*ns.getD (k+1).toNat 0) (show(61:Int)≠0 by decide);have m1:=bc (ns.getD k.toNat 0+(0+(i:Int))*ns.getD (k+1).toNat 0) (show(0:Int)<61 by decide);have hk:((ns.getD k.toNat 0+(0+(i:Int))*ns.getD (k+1).toNat 0)%61).toNat<(Bg TX).length:=by rw[RF];omega
  have hat:=Ar (xs:=Bg TX) (ab hk);rw[show(((((ns.getD k.toNat 0+(0+(i:Int))*ns.getD (k+1).toNat 0)%61).toNat:Nat)):Int)=(ns.getD k.toNat 0+(0+(i:Int))*ns.getD (k+1).toNat 0)%61 by omega] at hat;have:=hR H' (Am.refl _);rw[bK,ab hk] at this;exact⟨_,rfl,_,rfl,_,rfl,a,_,_,_,rfl,rfl,AD.of (s'.get ha),Du (by omega) (by omega),_,rfl,_,rfl,_,rfl,_,_,rfl,rfl,a,_,_,_,rfl,rfl,AD.of (s'.get ha),Du (by omega) (by omega),_,_,rfl,rfl,.inl ⟨by omega,by omega⟩,_,_,rfl,rfl,_,rfl,TX,rfl,small (by decide +kernel),_,_,rfl,rfl,(by show(0:Int)<(TX.length:Int);decide +kernel),TX,_,_,rfl,rfl,small (by decide +kernel),hat,this⟩
 ·have el:(List.range (1+r).toNat).map (λ(i:Nat)=>V.str ⟨#[(Bg TX).getD ((ns.getD k.toNat 0+(0+(i:Int))*ns.getD (k+1).toNat 0)%61).toNat 0]⟩)=(((List.range (1+r).toNat).map λ(i:Nat)=>(Bg TX).getD ((ns.getD k.toNat 0+(0+(i:Int))*ns.getD (k+1).toNat 0)%61).toNat 0).map λc=>(⟨#[c]⟩:Str)).map V.str:=by rw[aq,aq];rfl
  rw[el] at hl;have lc:1<=((List.range (1+r).toNat).map λ(i:Nat)=>(Bg TX).getD ((ns.getD k.toNat 0+(0+(i:Int))*ns.getD (k+1).toNat 0)%61).toNat 0).length/\((List.range (1+r).toNat).map λ(i:Nat)=>(Bg TX).getD ((ns.getD k.toNat 0+(0+(i:Int))*ns.getD (k+1).toNat 0)%61).toNat 0).length<=8:=by rw[aa,bP];omega
  have mc:∀c∈(List.range (1+r).toNat).map λ(i:Nat)=>(Bg TX).getD ((ns.getD k.toNat 0+(0+(i:Int))*ns.getD (k+1).toNat 0)%61).toNat 0,c∈Bg SG:=λc hc=>by
   obtain⟨i,_,rfl⟩:=af.mp hc;have m0:=bw (ns.getD k.toNat 0+(0+(i:Int))*ns.getD (k+1).toNat 0) (show(61:Int)≠0 by decide);have m1:=bc (ns.getD k.toNat 0+(0+(i:Int))*ns.getD (k+1).toNat 0) (show(0:Int)<61 by decide);rw[bK,ab (by rw[RF];omega)];exact Xa _ (bF _)
  generalize ((List.range (1+r).toNat).map λ(i:Nat)=>(Bg TX).getD ((ns.getD k.toNat 0+(0+(i:Int))*ns.getD (k+1).toNat 0)%61).toNat 0)=cs at hl lc mc;have lj:(PySem.Txt.join EM (cs.map λc=>(⟨#[c]⟩:Str))).length=cs.length:=by rw[<-A3,Jl]
  refine⟨l,EM,_,rfl,rfl,AD.of hl,?_,q _ H1 s1 (by rw[lj];exact lc.1) (by rw[lj];exact lc.2) λc hc=>mc c (by rw[Jl] at hc;exact hc)⟩;rw[<-Tb,lj,show EM.length=0 from rfl,Nat.mul_zero];omega
theorem IL {α:Type}{g:α->V}{ns:List α}{i:Nat}{y:V}(h:(ns.map g)[i]?=some y):∃n,y=g n/\ns[i]?=some n:=by
 rw[az] at h;obtain⟨n,e,rfl⟩:=bN.mp h;exact⟨n,rfl,e⟩
theorem Em {α:Type}{k:α->Key}{g:α->V}:∀{rs:List α},(rs.map k).Nodup->∀r∈rs,Bo (rs.map λr=>(k r,g r)) (k r)=some (g r)
 |x::rs,nd,r,hr=>by
  rw[ao,bR] at nd;rw[ao];rcases aL.mp hr with rfl|hr
  ·exact E3 rfl
  ·rw[D6 λe=>nd.1 (af.mpr ⟨r,hr,e.symm⟩)];exact Em nd.2 r hr
theorem GP {α:Type}{k:α->Key}{g:α->V}{z:Key}:∀{rs:List α},(∀r∈rs,k r≠z)->Bo (rs.map λr=>(k r,g r)) z=none
 |[],_=>rfl
 |x::rs,h=>by
  rw[ao,D6 (h x aw)];exact GP λr hr=>h r (aI _ hr)
theorem VS {α:Type}{k:α->Key}{g:α->V}(rs:List α)(n:α)(nd:(rs.map k).Nodup):∃rs':List α,(rs'.map λr=>(k r,g r))=putK (rs.map λr=>(k r,g r)) (k n) (g n)/\(∀r∈rs',r=n\/r∈rs)/\(rs'.map k).Nodup/\rs'.length<=rs.length+1:=by
 by_cases h:k n∈rs.map k
 ·refine⟨rs.map λr=>if k r=k n then n else r,?_,λr hr=>?_,?_,by rw[aa];omega⟩
  ·obtain⟨r0,h0,e0⟩:=af.mp h;unfold putK;rw[GC,<-e0,Em nd r0 h0,aG (show(some (g r0)).isSome=true from rfl),aq,aq];refine bD λr _=>?_
   dsimp only[Function.comp]
   by_cases e:k r=k r0
   ·rw[aG e,aG e,e,e0]
   ·rw[aJ e,aJ e]
  ·obtain⟨x,hx,rfl⟩:=af.mp hr
   by_cases e:k x=k n
   ·rw[aG e];exact .inl rfl
   ·rw[aJ e];exact .inr hx
  ·rw[aq,show(k∘λr=>if k r=k n then n else r)=k from funext λr=>by
    dsimp only[Function.comp]
    by_cases e:k r=k n
    ·rw[aG e,e]
    ·rw[aJ e]]
   exact nd
 ·refine⟨rs++[n],?_,λr hr=>?_,?_,by rw[au];exact ar _⟩
  ·rw[DA _ (GP λr hr e=>h (af.mpr ⟨r,hr,e⟩)),aj];rfl
  ·rcases av.mp hr with hr|hr
   ·exact .inr hr
   ·exact .inl (ai.mp hr)
  ·rw[aj,bI];refine⟨nd,by simp,λa ha b hb e=>?_⟩;rw[ai.mp hb] at e;exact h (e▸ha)
theorem JJ {xs:List V}{n:Int}(h:(xs.length:Int)=n)(h0:0<n)(i:Int):∃v∈xs,JS xs (i%n)=some v:=by
 have i0:=bw i (show n≠0 by omega);have i1:=bc i h0;have hk:(i%n).toNat<xs.length:=by omega
 refine⟨xs[(i%n).toNat],bF hk,?_⟩;have:=Ar (xs:=xs) (j:=(i%n).toNat) (ab hk);rw[show(((i%n).toNat:Nat):Int)=i%n by omega] at this;exact this
def VG (zs:List Str)(fs gs:List (Addr×Tg))(e:En):Prop:=e.nm∈zs/\((e.kd=1/\∃p∈fs,e.tg=p.2)\/(e.kd=2/\∃p∈gs,e.tg=p.2))
def Eg (K:W.Frag):Sp:=λvs H Q _=>∃(a na fa ga:Addr) (ns:List Int) (k:Int) (zs:List Str) (fs gs:List (Addr×Tg)),vs=[.ref a,.int k,.ref na,.ref fa,.ref ga]/\H a=some (.lst (ns.map V.int))/\0<=k/\k+7<ns.length/\(∀x∈ns,0<=x/\x<60)/\AD K H na (zs.map V.str)/\zs≠[]/\zs.length<=100/\
 H fa=some (.lst (fs.map λp=>V.ref p.1))/\H ga=some (.lst (gs.map λp=>V.ref p.1))/\HD H fs/\HD H gs/\fs≠[]/\fs.length<=100/\gs.length<=100/\
 ∀v es H',Am H H'->Rep NL H' (DB (.folder es)) v->es.length<=3->(∀e∈es,VG zs fs gs e)->(es.map (·.nm)).Nodup->PyProof.Rows.sortedS (es.map (·.nm))=true->Q v H'
theorem J8 (T:Txt K mg Aj Aa Ac XC)(F:Fun K "_law_entries" "_law_entries" B9 f fd):FnOk P w K mg base Cf 1 f fd ["_law_row_here","_law_at","_law_names_here","_law_files","_law_folders"] (Eg K):=by
 exists BN
 ·obtain⟨a,na,fa,ga,ns,k,zs,fs,gs,rfl,_⟩:=h;rfl
 obtain⟨a,na,fa,ga,ns,k,zs,fs,gs,rfl,ha,k0,k1,hb,hna,zn,lz,hfa,hga,tf,tg,fn,lf,lg,q⟩:=h;have hu:=BI hr;have hu9:=Ct hr;refine⟨_,(!Ag (@Au _ _ (5) _ _ _ _ BN.nd rfl (by trivial) (!Cs) (by rfl) (by trivial)) (!Ag (!BR aW rfl (!Bn rfl T.b_range (!Ab (!Ao AR (!An AB (pv 0) (pv 1) (λ_ _=>rfl)) (!Ae)) (!Af))) (@Ap _ _ (6) _ BN.nd rfl (by trivial) (by trivial)) (!Ag (@Au _ _ (7) _ _ _ _ BN.nd rfl (by trivial) (!Ao AR (!An AB (pv 0) (!Ao AF (!Ao AF (pv 1) (!Ae)) (!Ao Bt (!Ae) (pv 6))) (λ_ _=>rfl)) (!Ao AF (!Ax AM (by rfl) T.b_len BW (!Ab (pv 3) (!Af))) (!Ax AM (by rfl) T.b_len BW (!Ab (pv 4) (!Af))))) (by rfl) (by trivial)) (!Ag (@Au _ _ (8) _ _ _ _ BN.nd rfl (by trivial) (!Ao AF (!Ae) (!Bj Jf (by rfl) T.b_int JB (!Ab (!EA WR (pv 7) (!Ax AM (by rfl) T.b_len BW (!Ab (pv 3) (!Af))) (AH _)) (!Af)))) (by rfl) (by trivial)) (!Ag (@Au _ _ (9) _ _ _ _ BN.nd rfl (by trivial) (!An AB (pv 2) (!Ao AR (!An AB (pv 0) (!Ao AF (!Ao AF (pv 1) (!Ae)) (!Ao Bt (!Ae) (pv 6))) (λ_ _=>rfl)) (!Ax AM (by rfl) T.b_len BW (!Ab (pv 2) (!Af)))) (λ_ _=>rfl)) (by rfl) (by trivial)) (!Al (!E8 hu (pv 5) (pv 9) (!BF (!Ab (pv 9) (!Ab (pv 8) (!Ab (!An AB (!Ao IX (pv 3) (pv 4)) (pv 7) (λ_ _=>rfl)) (!Af)))))))))) (by intro _;rfl)) (!Al (!Av (!BF (!Ab (!Ae) (!Ab (!Bj D2 (by rfl) T.b_tuple GR (!Ab (@BV _ ["_law_name","_law_found"] [none,some 5] _ _ _ _ _ _ _ _ _ _ _ rfl (!BQ (!Ax (OH rfl) (by rfl) T.b_sorted EK (!Ab (pv 5) (!Af)))) (by rfl) rfl (by repeat (first|exact trivial|refine⟨rfl,?_⟩)) (by repeat (first|exact trivial|refine⟨λh=>(by first|exact⟨_,rfl⟩|cases h),?_⟩)) (λC s H fp=>⟨(@Ap _ _ (0) _ (show(["_law_name","_law_found"]:List Str).Nodup by decide +kernel) rfl (by trivial) (by trivial)),(!AO),(!Br hu (pv 1) (pv 0) (λ_ _=>rfl))⟩) (by intro _;rfl)) (!Af))) (!Af)))))))),?_⟩
 try dsimp only[Bh,Cx.nox,Cx.wish]
 refine Aw λde nde=>?_
 have s0:=Ak nde (.dK []);have hd0:(upd H de (.dK [])) de=some (.dK []):=Ad;generalize upd H de (.dK [])=H0 at s0 hd0;dsimp only[Ay];obtain⟨x0,x1⟩:=DD hb k.toNat;refine Bf (t:=J7 _ _ _) (λσ' H'=>∃(rs:List (Addr×En)) (v6 v7 v8 v9:Option V),σ'=[some (.ref a),some (.int k),some (.ref na),some (.ref fa),some (.ref ga),some (.ref de),v6,v7,v8,v9]/\Am H H'/\H' de=some (.dK (rs.map λr=>(.inr r.2.nm,.ref r.1)))/\(rs.map λr=>(.inr r.2.nm:Key)).Nodup/\rs.length<=3/\∀r∈rs,TV H' r/\VG zs fs gs r.2) (λN hN=>?_) ?_
 ·refine⟨_,rfl,_,rfl,a,_,_,_,rfl,rfl,AD.of (s0.get ha),Du k0 (by omega),_,_,rfl,rfl,(by show(0:Int)<4;decide),_,rfl,by omega,by omega,?_⟩;refine CI (lo:=0) (λi σ H'=>∃(rs:List (Addr×En)) (v6 v7 v8 v9:Option V),σ=[some (.ref a),some (.int k),some (.ref na),some (.ref fa),some (.ref ga),some (.ref de),v6,v7,v8,v9]/\Am H H'/\H' de=some (.dK (rs.map λr=>(.inr r.2.nm,.ref r.1)))/\(rs.map λr=>(.inr r.2.nm:Key)).Nodup/\rs.length<=i/\∀r∈rs,TV H' r/\VG zs fs gs r.2) ⟨[],none,none,none,none,rfl,s0,hd0,bY,ar _,λ_ h=>nomatch h⟩ ?_ ?_
  ·rintro i σ H1 hi ⟨rs,v6,v7,v8,v9,rfl,s1,hd1,nd,lr,hrs⟩
   have i3:(i:Int)<3:=by omega
   have ha1:=s1.get ha;have hfa1:=s1.get hfa;have hga1:=s1.get hga;obtain⟨y0,y1⟩:=DD hb (k+1+2*(0+(i:Int))).toNat;have pf:0<fs.length:=bV.mpr fn;have lfg:(((fs.map λp=>V.ref p.1).length:Nat):Int)+(((gs.map λp=>V.ref p.1).length:Nat):Int)=(fs.length:Int)+(gs.length:Int):=by rw[aa,aa]
   refine Aw ⟨_,rfl,_,rfl,_,_,rfl,rfl,_,rfl,_,_,rfl,rfl,.inl ⟨by decide,by decide⟩,_,_,rfl,rfl,a,_,_,_,rfl,rfl,AD.of ha1,Du (by omega) (by omega),_,rfl,fa,_,rfl,.inl (AD.of hfa1),_,rfl,ga,_,rfl,.inl (AD.of hga1),_,_,rfl,rfl,_,_,rfl,rfl,(by show(0:Int)<_+_;rw[lfg];omega),?_⟩;rw[lfg];have n0:=bw (ns.getD (k+1+2*(0+(i:Int))).toNat 0) (show(fs.length:Int)+(gs.length:Int)≠0 by omega);have n1:=bc (ns.getD (k+1+2*(0+(i:Int))).toNat 0) (show(0:Int)<(fs.length:Int)+(gs.length:Int) by omega);dsimp only[Ay];generalize ns.getD (k+1+2*(0+(i:Int))).toNat 0%((fs.length:Int)+(gs.length:Int))=n at n0 n1;obtain⟨pq,hpq,hk⟩:∃pq,(fs++gs)[n.toNat]?=some pq/\((¬(fs.length:Int)<=n/\pq∈fs)\/((fs.length:Int)<=n/\pq∈gs)):=by
    by_cases h:n.toNat<fs.length
    ·exact⟨_,by rw[bL h,ab h],.inl ⟨by omega,bF _⟩⟩
    ·have h2:n.toNat-fs.length<gs.length:=by omega
     exact⟨_,by rw[bJ (by omega),ab h2],.inr ⟨by omega,bF _⟩⟩
   have hat:JS (fs.map (λp=>V.ref p.1)++gs.map λp=>V.ref p.1) n=some (.ref pq.1):=by
    have:=Ar (xs:=fs.map (λp=>V.ref p.1)++gs.map λp=>V.ref p.1) (j:=n.toNat) (v:=.ref pq.1) (by rw[<-aj,az,hpq];rfl)
    rwa [show((n.toNat:Nat):Int)=n by omega] at this
   refine Aw ⟨_,rfl,_,rfl,fa,_,rfl,.inl (AD.of hfa1),_,_,rfl,rfl,.inr ⟨_,rfl,_,_,rfl,rfl,?_⟩⟩;rw[show(((fs.map λp=>V.ref p.1).length:Nat):Int)=(fs.length:Int) by rw[aa]];dsimp only[Ay];obtain⟨kd,ekd,hkd⟩:∃kd:Int,(1+if decide ((fs.length:Int)<=n)=true then 1 else 0)=kd/\((kd=1/\pq∈fs)\/(kd=2/\pq∈gs)):=by
    rcases hk with⟨h,m⟩|⟨h,m⟩
    ·exact⟨1,by rw[ba h];rfl,.inl ⟨rfl,m⟩⟩
    ·exact⟨2,by rw[aE h];rfl,.inr ⟨rfl,m⟩⟩
   rw[ekd];have lz':(((zs.map V.str).length:Nat):Int)=(zs.length:Int):=by rw[aa]
   have pz:0<zs.length:=bV.mpr zn;obtain⟨vz,hvz,haz⟩:=JJ (xs:=zs.map V.str) lz' (by omega) (ns.getD (k+2+2*(0+(i:Int))).toNat 0);obtain⟨z,hz,rfl⟩:=af.mp hvz;refine Aw ⟨_,rfl,_,rfl,_,rfl,_,_,rfl,rfl,_,rfl,_,_,rfl,rfl,.inl ⟨by decide,by decide⟩,_,_,rfl,rfl,a,_,_,_,rfl,rfl,AD.of ha1,Du (by omega) (by omega),_,rfl,na,_,rfl,.inl (s1.seq hna),_,_,rfl,rfl,(by show(0:Int)<_;rw[lz'];omega),na,_,_,_,rfl,rfl,s1.seq hna,(by rw[lz'];exact haz),?_⟩;dsimp only[Ay];refine⟨_,rfl,_,rfl,_,rfl,_,rfl,fa,ga,_,_,rfl,rfl,AD.of hfa1,AD.of hga1,small (by rw[aa,aa];omega),λp1 np1=>?_⟩;have s2:=Ak np1 (.lst (fs.map (λp=>V.ref p.1)++gs.map λp=>V.ref p.1));refine⟨_,rfl,p1,_,_,_,rfl,rfl,AD.of Ad,hat,MD,λt nt=>?_⟩;have s3:=Ak nt (.tup [.str z,.int kd,.ref pq.1]);have ht3:(upd (upd H1 p1 (.lst (fs.map (λp=>V.ref p.1)++gs.map λp=>V.ref p.1))) t (.tup [.str z,.int kd,.ref pq.1])) t=some (.tup [.str z,.int kd,.ref pq.1]):=Ad;generalize upd (upd H1 p1 (.lst (fs.map (λp=>V.ref p.1)++gs.map λp=>V.ref p.1))) t (.tup [.str z,.int kd,.ref pq.1])=H3 at s3 ht3;have s13:=s2.trans s3;have hd3:=s13.get hd1;refine⟨_,rfl,_,rfl,de,_,rfl,Jg.k (k:=.inr z) hd3 (AU (by rw[aa];omega)),?_⟩;obtain⟨rs',e1,e2,e3,e4⟩:=VS (k:=λr:Addr×En=>.inr r.2.nm) (g:=λr=>.ref r.1) rs (t,⟨z,kd,pq.2⟩) nd;have tp:KT H3 (upd H3 de (.dK (putK (rs.map λr=>(.inr r.2.nm,.ref r.1)) (.inr z) (.ref t)))):=λc xs e=>by rw[Ah λw=>by rw[w,hd3] at e;cases e];exact e
   refine⟨rs',_,_,_,_,rfl,AI (s1.trans s13) nde _,by rw[Ad,<-e1],e3,by omega,λr hr=>?_⟩;rcases e2 r hr with rfl|hr
   ·have hpt:HG H pq.1 pq.2:=by
     rcases hkd with⟨_,m⟩|⟨_,m⟩
     ·exact tf pq m
     ·exact tg pq m
    refine⟨⟨pq.1,tp _ _ ht3,tp _ _ ((s1.trans s13).get hpt)⟩,hz,?_⟩;rcases hkd with⟨e,m⟩|⟨e,m⟩
    ·exact .inl ⟨e,pq,m,rfl⟩
    ·exact .inr ⟨e,pq,m,rfl⟩
   ·obtain⟨h1,h2⟩:=hrs r hr;exact⟨(h1.same s13).tup tp,h2⟩
  ·rintro σ H1 ⟨rs,v6,v7,v8,v9,rfl,s1,hd1,nd,lr,hrs⟩
   exact hN _ _ ⟨rs,_,_,_,_,rfl,s1,hd1,nd,by omega,hrs⟩
 ·rintro σ' H1 ⟨rs,v6,v7,v8,v9,rfl,s1,hd1,nd,lr,hrs⟩
  refine⟨_,rfl,de,_,rs.map (·.2.nm),rfl,hd1,by rw[aq,aq];rfl,by rw[aa];omega,λts pl pm so npl=>?_⟩;obtain⟨rs',pm',ets⟩:=Hn pm rfl;have s2:=Ak npl (.lst (ts.map V.str));have lr':rs'.length<=3:=by rw[pm'.length_eq];exact lr
  have hl2:(upd H1 pl (.lst (ts.map V.str))) pl=some (.lst (rs'.map λr=>V.str r.2.nm)):=by rw[Ad,<-ets,aq];rfl
  refine⟨pl,rfl,⟨_,AD.of hl2⟩,Iv (ps:=rs') (λr=>.ref r.1) (Co (AD.of hl2)) (by omega) (λr hr H2 R s' hR=>?_) λl H2 nl s' hl=>?_⟩
  ·have g:=BA.k (k:=.inr r.2.nm) (s'.get (s2.get hd1));rw[Em (k:=λr:Addr×En=>.inr r.2.nm) (g:=λr=>.ref r.1) nd r (pm'.mem_iff.mp hr)] at g;exact⟨_,rfl,_,rfl,de,_,rfl,g,hR H2 (Am.refl _)⟩
  ·refine⟨l,_,rfl,.inl ⟨AD.of hl,λt nt=>⟨Fy,λfp nf=>?_⟩⟩⟩;have s3:=Ak nt (.tup (rs'.map λr=>V.ref r.1));have s4:=Ak nf (.tup [.int 2,.ref t]);have s25:=s2.trans (s'.trans (s3.trans s4));refine q (.ref fp) (rs'.map (·.2)) _ (s1.trans s25) ⟨fp,_,rfl,Ad,_,_,rfl,rfl,_,_,rfl,⟨t,_,rfl,s4.get Ad,Qs λp hp=>((hrs p (pm'.mem_iff.mp hp)).1).same s25⟩,rfl⟩ (by rw[aa];exact lr') (λe he=>?_) ?_ (by rw[aq];rw[<-ets] at so;exact so)
   ·obtain⟨r,hr,rfl⟩:=af.mp he;exact(hrs r (pm'.mem_iff.mp hr)).2
   ·rw[aq];have nd2:=(pm'.map λr=>(.inr r.2.nm:Key)).nodup_iff.mpr nd;exact bh.mpr ((bh.mp nd2).imp λh e=>h (congrArg Sum.inr e))
end
open M06
section
variable {P:Program}{w:World}{K:W.Frag}{mg:Str->Option Value}{base:Heap}{f Aj Aa Ac:Addr}{XC:Nat->Addr}{fd:FuncData}
structure Cz where
 tg:Tg
 bk:Bk
 p:Addr
 ta:Addr
 v:V
def Po (H:Hp)(c:Cz):Prop:=H c.p=some (.tup [.ref c.ta,c.v])/\HG H c.ta c.tg/\Rep NL H (DB c.bk) c.v
theorem Po.keep {H H':Hp}{c:Cz}(h:Po H c)(k:KT H H'):Po H' c:=⟨k _ _ h.1,k _ _ h.2.1,CD k _ _ h.2.2⟩
def G8 (cs:List Cz):List (Key×V):=cs.map λc=>(.inl c.tg.1,.ref c.p)
def Kt (H H':Hp):Prop:=∀a o,H a=some o->(∀C d fs,o≠.ins C d fs)->(∀kvs,o≠.dK kvs)->H' a=some o
theorem Kt.of {H H':Hp}(s:Am H H'):Kt H H':=λ_ _ h _ _=>s.get h
theorem Kt.trans {H H' H'':Hp}(h:Kt H H')(k:Kt H' H''):Kt H H'':=λa o e n m=>k a o (h a o e n m) n m
theorem Kt.tup {H H':Hp}(h:Kt H H'):∀c xs,H c=some (.tup xs)->H' c=some (.tup xs):=λc xs e=>h c _ e (λ_ _ _ z=>by cases z) λ_ z=>by cases z
theorem Kt.lst {H H':Hp}(h:Kt H H'){c:Addr}{xs:List V}(e:H c=some (.lst xs)):H' c=some (.lst xs):=h c _ e (λ_ _ _ z=>by cases z) λ_ z=>by cases z
theorem Kt.frm {CP CT:Addr}{H H':Hp}{p:Addr}{q:Pl}{cs:List Cl}{bs:List (Int×Addr)}(pa:PAt CP CT H p q cs bs)(h:WG (Cw p q cs bs) H H'):Kt H H':=λa o e n m=>h a o e (pa.apart e n m)
theorem Qj:∀(l:List Int) (t:Int),0<=t->t<=996->0<=l.foldl (λt n=>(31*t+n+1)%997) t/\l.foldl (λt n=>(31*t+n+1)%997) t<=996
 |[],t,h0,h1=>⟨h0,h1⟩
 |x::l,t,_,_=>Qj l ((31*t+x+1)%997) (by omega) (by omega)
theorem sum_in (b:Bk):0<=BC b/\BC b<=996:=by
 have k:0<=kindB b/\kindB b<=2:=by cases b<;>simp[kindB]
 exact Qj _ _ (by omega) (by omega)
def bm (cs:List Cz):BM:=λz=>(cs.find? λc=>decide (c.tg.1=z)).map (·.bk)
abbrev Mon (B B':BM):Prop:=∀z b,B z=some b->B' z=some b
theorem Wg (cs more:List Cz):Mon (bm cs) (bm (cs++more)):=λz b h=>by
 unfold bm at h ⊢;obtain⟨c,hc,e⟩:=bN.mp h;rw[fk,hc];exact congrArg some e
theorem O8 {cs:List Cz}(nd:(cs.map (·.tg.1)).Nodup){c:Cz}(hc:c∈cs):bm cs c.tg.1=some c.bk:=by
 obtain⟨i,hi⟩:=cf hc;unfold bm;rw[Va (p:=λx:Cz=>decide (x.tg.1=c.tg.1)) hi (aE rfl) λx hx=>ba λe=>?_]
 ·rfl
 ·obtain⟨j,hj⟩:=cf hx;have jl:=(ay.mp hj).1;rw[aV] at jl;rw[dQ,aG (by omega)] at hj;have il:=(ay.mp hi)
  have jl':=(ay.mp hj)
  have:=bg.mp nd j i (by rw[aa];omega) (by rw[aa];exact il.1) (by omega);rw[cC,cC,il.2,jl'.2] at this;exact this e
theorem Rw.mon {B B':BM}(m:Mon B B'):∀{n:Nat} {z:Int},Rw B n z->Rw B' n z
 |0,z,⟨c,e,l⟩=>⟨c,m _ _ e,l⟩
 |n+1,z,.inl ⟨c,e,l⟩=>.inl ⟨c,m _ _ e,l⟩
 |n+1,z,.inr ⟨lv,ts,e,l,h⟩=>.inr ⟨lv,ts,m _ _ e,l,λt ht=>Rw.mon m (h t ht)⟩
theorem Rw.up {B:BM}:∀{n:Nat} {z:Int},Rw B n z->Rw B (n+1) z
 |0,z,h=>.inl h
 |n+1,z,.inl h=>.inl h
 |n+1,z,.inr ⟨lv,ts,e,l,h⟩=>.inr ⟨lv,ts,e,l,λt ht=>Rw.up (h t ht)⟩
def Fd (B:BM)(Nm:Str->Prop):Nat->Int->Prop
 |0,_=>False
 |n+1,z=>∃es,B z=some (.folder es)/\es.length<=3/\(es.map (·.nm)).Nodup/\∀e∈es,Nm e.nm/\((e.kd=1/\Rw B 2 e.tg.1)\/(e.kd=2/\Fd B Nm n e.tg.1))
theorem Fd.mon {B B':BM}{Nm:Str->Prop}(m:Mon B B'):∀{n:Nat} {z:Int},Fd B Nm n z->Fd B' Nm n z
 |n+1,z,⟨es,e,l,nd,h⟩=>⟨es,m _ _ e,l,nd,λx hx=>⟨(h x hx).1,(h x hx).2.imp (λ⟨k,r⟩=>⟨k,r.mon m⟩) λ⟨k,r⟩=>⟨k,Fd.mon m r⟩⟩⟩
theorem Fd.up {B:BM}{Nm:Str->Prop}:∀{n:Nat} {z:Int},Fd B Nm n z->Fd B Nm (n+1) z
 |n+1,z,⟨es,e,l,nd,h⟩=>⟨es,e,l,nd,λx hx=>⟨(h x hx).1,(h x hx).2.imp id λ⟨k,r⟩=>⟨k,Fd.up r⟩⟩⟩
theorem PR {v:V}{σ:St}{H:Hp}{Q:List V->Hp->Prop}(h:Q [v] H):Vp (tC v) QI σ H Q:=h
abbrev Gy (H:Hp)(l:Addr)(ps:List (Addr×Tg)):Prop:=H l=some (.lst (ps.map λp=>V.ref p.1))/\HD H ps
theorem Gy.same {l:Addr}{H H':Hp}{ps:List (Addr×Tg)}(h:Gy H l ps)(s:Am H H'):Gy H' l ps:=⟨s.get h.1,λp hp=>s.get (h.2 p hp)⟩
theorem Gy.snoc {l:Addr}{H:Hp}{ps:List (Addr×Tg)}{ta:Addr}{t:Tg}(h:Gy H l ps)(ht:HG H ta t):Gy (upd H l (.lst (ps.map (λp=>V.ref p.1)++[.ref ta]))) l (ps++[(ta,t)]):=by
 refine⟨by rw[Ad,aj];rfl,λp hp=>?_⟩;have k:=KT.lst h.1 (.lst (ps.map (λp=>V.ref p.1)++[.ref ta]));rcases av.mp hp with hp|hp
 ·exact k _ _ (h.2 p hp)
 ·cases ai.mp hp;exact k _ _ ht
theorem Gy.at {l:Addr}{H:Hp}{ps:List (Addr×Tg)}(h:Gy H l ps){n:Int}(hn:(ps.length:Int)=n)(h0:0<n)(i:Int):∃p∈ps,JS (ps.map λp=>V.ref p.1) (i%n)=some (.ref p.1):=by
 obtain⟨v,hv,e⟩:=JJ (xs:=ps.map λp=>V.ref p.1) (n:=n) (by rw[aa];exact hn) h0 i;obtain⟨p,hp,rfl⟩:=af.mp hv;exact⟨p,hp,e⟩
theorem Qe {α:Type}{ps:List (Addr×Tg)}:∀{ys:List (α×V)},(∀q∈ys,∃p∈ps,q.2=V.ref p.1)->∃qs:List (Addr×Tg),ys.map (·.2)=qs.map (λp=>V.ref p.1)/\(∀q∈qs,q∈ps)/\qs.length=ys.length
 |[],_=>⟨[],rfl,(λ_ h=>nomatch h),rfl⟩
 |y::ys,h=>by
  obtain⟨qs,e1,e2,e3⟩:=Qe λq hq=>h q (aI _ hq)
  obtain⟨p,hp,e⟩:=h y aw;refine⟨p::qs,by rw[ao,ao,e1,e],λq hq=>?_,by rw[aX,aX,e3]⟩;rcases aL.mp hq with rfl|hq
  ·exact hp
  ·exact e2 q hq
theorem Cd {cs:List Cz}{z:Int}{b:Bk}(h:bm cs z=some b):∃c∈cs,c.tg.1=z/\c.bk=b:=by
 obtain⟨c,hc,e⟩:=bN.mp h;exact⟨c,fT hc,aQ (List.find?_some (p:=λc:Cz=>decide (c.tg.1=z)) hc),e⟩
def Mb (e:Cl):Tg:=(e.z,e.y,BC e.bk)
structure Sb (CP CT:Addr) (H0 H:Hp) (p:Addr) (q:Pl) (cs:List Cl) (bs:List (Int×Addr)) (d:Addr) (zs:List Cz) (n:Nat):Prop where
 kt:Kt H0 H
 pa:PAt CP CT H p q cs bs
 wl:Wl cs
 nl:∀e∈cs,∃us,H e.l=some (.lst us)/\AN NL H ((AQ e.bk).map Gx) us
 at_:H d=some (.dK (G8 zs))
 ce:∀c∈zs,Po H c
 eq:zs.map (λc=>(c.tg,c.bk))=cs.map λe=>(Mb e,e.bk)
 ap:d∉Cw p q cs bs
 few:cs.length<=n
section
variable {CP CT:Addr}{H0 H H':Hp}{p:Addr}{q:Pl}{cs:List Cl}{bs:List (Int×Addr)}{d:Addr}{zs:List Cz}{n:Nat}
theorem Sb.on (h:Sb CP CT H0 H p q cs bs d zs n)(s:Am H H'):Sb CP CT H0 H' p q cs bs d zs n:=
 ⟨h.kt.trans (Kt.of s),h.pa.same s,h.wl,λe he=>let⟨us,h1,h2⟩:=h.nl e he;⟨us,s.get h1,AN.same s _ _ h2⟩,s.get h.at_,λc hc=>(h.ce c hc).keep (KT.of s),h.eq,h.ap,h.few⟩
theorem Sb.nd (h:Sb CP CT H0 H p q cs bs d zs n):(zs.map (·.tg.1)).Nodup:=by
 have e:=congrArg (List.map λx:Tg×Bk=>x.1.1) h.eq;rw[aq,aq] at e;rw[show zs.map (λc=>c.tg.1)=zs.map ((λx:Tg×Bk=>x.1.1)∘λc=>(c.tg,c.bk)) from rfl,e];exact h.pa.t.2.2.2
theorem Sb.mate (h:Sb CP CT H0 H p q cs bs d zs n){c:Cz}(hc:c∈zs):∃e∈cs,c.tg=Mb e/\c.bk=e.bk:=by
 have:(c.tg,c.bk)∈cs.map λe=>(Mb e,e.bk):=by rw[<-h.eq];exact aH hc
 obtain⟨e,he,ee⟩:=af.mp this;exact⟨e,he,(congrArg (·.1) ee).symm,(congrArg (·.2) ee).symm⟩
theorem Sb.mateZ (h:Sb CP CT H0 H p q cs bs d zs n){e:Cl}(he:e∈cs):∃c∈zs,c.tg=Mb e/\c.bk=e.bk:=by
 have:(Mb e,e.bk)∈zs.map λc=>(c.tg,c.bk):=by rw[h.eq];exact aH (f:=λe:Cl=>(Mb e,e.bk)) he
 obtain⟨c,hc,ee⟩:=af.mp this;exact⟨c,hc,congrArg (·.1) ee,congrArg (·.2) ee⟩
theorem Sb.cl (h:Sb CP CT H0 H p q cs bs d zs n){z:Int}{b:Bk}(e:bm zs z=some b):∃x∈cs,x.z=z/\x.bk=b:=by
 obtain⟨c,hc,rfl,rfl⟩:=Cd e;obtain⟨x,hx,e1,e2⟩:=h.mate hc;exact⟨x,hx,by rw[e1];rfl,e2.symm⟩
theorem PAt.dict {kvs kvs':List (Key×V)}(h:PAt CP CT H p q cs bs)(hd:H d=some (.dK kvs))(nd:d∉Cw p q cs bs):PAt CP CT (upd H d (.dK kvs')) p q cs bs:=by
 have own:∀{a},a∈Cw p q cs bs->(upd H d (.dK kvs')) a=H a:=λ{a} ha=>Ah λw=>nd (by rw[<-w];exact ha)
 have tp:∀c ys,H c=some (.tup ys)->(upd H d (.dK kvs')) c=some (.tup ys):=λc ys e=>by rw[Ah λw=>by rw[w,hd] at e;cases e];exact e
 have o1:p∈Cw p q cs bs:=by simp[Cw]
 have o2:q.dt∈Cw p q cs bs:=by simp[Cw]
 have o3:q.dz∈Cw p q cs bs:=by simp[Cw]
 have o4:q.dd∈Cw p q cs bs:=by simp[Cw]
 have o5:∀e∈cs,e.c∈Cw p q cs bs:=λe he=>by
  unfold Cw;simp only[List.mem_cons,List.mem_append];exact .inr (.inr (.inr (.inr (.inr (af.mpr ⟨e,he,rfl⟩)))))
 have o6:∀x∈bs,x.2∈Cw p q cs bs:=λe he=>by
  unfold Cw;simp only[List.mem_cons,List.mem_append];exact .inr (.inr (.inr (.inr (.inl (af.mpr ⟨e,he,rfl⟩)))))
 exact⟨⟨by rw[own o1];exact h.t.1,by rw[own o2];exact h.t.2.1,λe he=>(h.t.2.2.1 e he).tup (own (o5 e he)) tp,h.t.2.2.2⟩,by rw[own o4];exact h.d,{ h.b with h:=by rw[own o3];exact h.b.h,d:=λx hx=>⟨by rw[own (o6 x hx)];exact(h.b.d x hx).1,(h.b.d x hx).2⟩ },h.n1,h.n2,h.n3,h.c,h.z,h.w,h.f1,h.f2⟩
end
theorem Kt.dict {H:Hp}{d:Addr}{kvs:List (Key×V)}(hd:H d=some (.dK kvs))(o:HO):Kt H (upd H d o):=λa u e _ n=>by rw[Ah λw=>by rw[w,hd] at e;exact n _ (aA e).symm];exact e
theorem Wu {zs zs':List Cz}(nd:(zs'.map (·.tg.1)).Nodup)(h:∀c∈zs,∃c'∈zs',c'.tg.1=c.tg.1/\c'.bk=c.bk):Mon (bm zs) (bm zs'):=λz b e=>by
 obtain⟨c,hc,rfl,rfl⟩:=Cd e;obtain⟨c',hc',e1,e2⟩:=h c hc;rw[<-e1,<-e2];exact O8 nd hc'
def E9 (K:W.Frag)(CP CT:Addr):Sp:=λvs H Q _=>∃(H0:Hp) (p d:Addr) (q:Pl) (cs:List Cl) (bs:List (Int×Addr)) (zs:List Cz) (n:Nat) (v:V) (b:Bk) (y:Int),vs=[.ref p,.ref d,v,.int y]/\Sb CP CT H0 H p q cs bs d zs n/\n<=100/\Rep NL H (DB b) v/\GJ b/\(∀t∈AQ b,∃e∈cs,e.z=t.1)/\(0<=y/\y<=999999999)/\
 ∀q' cs' bs' zs' ta t H',Sb CP CT H0 H' p q' cs' bs' d zs' (n+1)->Kt H H'->(∀e∈cs',e.l∈cs.map (·.l)\/H e.l=none)->bm zs' t.1=some b->HG H' ta t->LB t->Mon (bm zs) (bm zs')->Q (.ref ta) H'
theorem Ot (T:Txt K mg Aj Aa Ac XC)(F:Fun K "_law_put" "_law_put" DO f fd)(Ij:CL P w K mg base 14 Ac "put" ["self","block","birth"] (GB K Ac Aa)):FnOk P w K mg base Cf 15 f fd ["_law_pool","_law_blocks_here","_law_block","_law_birth"] (E9 K Ac Aa):=by
 exists JQ
 ·obtain⟨H0,p,d,q,cs,bs,zs,n,v,b,y,rfl,_⟩:=h;rfl
 obtain⟨H0,p,d,q,cs,bs,zs,n,v,b,y,rfl,sb,n100,hv,ok,ht,hy,hq⟩:=h;have hu:=BI hr;have hu9:=Ct hr;refine⟨_,(!Ag (@Au _ _ (4) _ _ _ _ JQ.nd rfl (by trivial) (!CZ (pv 0) T.cl_Pool Ij (by trivial) (!Ab (pv 2) (!Ab (pv 3) (!Af)))) (by rfl) (by trivial)) (!Ag (!E8 hu (pv 1) (!An Az (pv 4) (!Ae) (λ_ _=>rfl)) (!BF (!Ab (pv 4) (!Ab (pv 2) (!Af))))) (!Al (!Av (pv 4))))),?_⟩
 try dsimp only[Bh,Cx.nox,Cx.wish]
 have few:=sb.few;refine Aw ⟨_,rfl,p,q.dp,_,rfl,sb.pa.t.1,rfl,_,rfl,_,rfl,Cj ⟨p,q,cs,bs,v,b,y,rfl,sb.pa,by omega,hv,ok,ht,λe he eb H1 s1=>?_,λhne H1 c dx l ta bs1 nc nl ⟨us,hl,hus⟩ pa1 fr bfr=>?_⟩⟩
 ·have sb1:=sb.on s1;obtain⟨_,hta,_,_⟩:=sb1.pa.t.2.2.1 e he;dsimp only[Ay];refine⟨_,rfl,_,rfl,Fy,λpn npn=>?_⟩;have s2:=Ak npn (.tup [.ref e.ta,v]);have hpn:(upd H1 pn (.tup [.ref e.ta,v])) pn=some (.tup [.ref e.ta,v]):=Ad;have sb2:=sb1.on s2;have hta2:=s2.get hta;have hv2:=Rep.same (s1.trans s2) _ _ hv;have k2:=Kt.of (s1.trans s2);generalize upd H1 pn (.tup [.ref e.ta,v])=H2 at hpn sb2 hta2 hv2 k2;obtain⟨c0,hc0,e1,e2⟩:=sb.mateZ he;have lz:zs.length=cs.length:=by have:=congrArg List.length sb.eq;rw[aa,aa] at this;exact this
  have put:putK (G8 zs) (.inl e.z) (.ref pn)=G8 (zs.map λc=>if c.tg.1=e.z then⟨c.tg,c.bk,pn,e.ta,v⟩ else c):=by
   have hv0:Bo (G8 zs) (.inl e.z)=some (.ref c0.p):=by
    rw[show e.z=c0.tg.1 by rw[e1];rfl];exact KM (z:=λc:Cz=>c.tg.1) (v:=λc=>.ref c.p) sb.nd c0 hc0
   unfold putK;rw[GC,hv0,aG (show(some (V.ref c0.p)).isSome=true from rfl)];unfold G8;rw[aq,aq];refine bD λc _=>?_
   dsimp only[Function.comp]
   by_cases z:c.tg.1=e.z
   ·rw[aG (by rw[z]),aG z,z]
   ·rw[aJ (λw=>z (bH w)),aJ z]
  refine⟨_,rfl,_,rfl,e.ta,_,_,_,rfl,rfl,AL.of hta2,Ar (j:=0) rfl,d,_,rfl,Jg.k (k:=.inl e.z) sb2.at_ (AU (by unfold G8;rw[aa];omega)),?_⟩;rw[put];have kd:=Kt.dict sb2.at_ (.dK (G8 (zs.map λc=>if c.tg.1=e.z then⟨c.tg,c.bk,pn,e.ta,v⟩ else c)));have sb3:Sb Ac Aa H0 (upd H2 d (.dK (G8 (zs.map λc=>if c.tg.1=e.z then⟨c.tg,c.bk,pn,e.ta,v⟩ else c)))) p q cs bs d (zs.map λc=>if c.tg.1=e.z then⟨c.tg,c.bk,pn,e.ta,v⟩ else c) (n+1):=by
   refine⟨sb2.kt.trans kd,sb2.pa.dict sb2.at_ sb2.ap,sb2.wl,λx hx=>?_,Ad,λc' hc'=>?_,?_,sb2.ap,by omega⟩
   ·obtain⟨us,h1,h2⟩:=sb2.nl x hx;exact⟨us,kd.lst h1,B0 kd.tup _ _ h2⟩
   ·obtain⟨c,hc,rfl⟩:=af.mp hc'
    split
    ·next z=>
     obtain⟨x,hx,x1,x2⟩:=sb.mate hc;have xe:x=e:=BZ sb.pa.t.2.2.2 hx he (by rw[x1] at z;exact z);subst xe;refine⟨kd.tup _ _ hpn,?_,?_⟩
     ·show HG _ x.ta c.tg;rw[x1];exact kd.tup _ _ hta2
     ·show Rep NL _ (DB c.bk) v;rw[x2,eb];exact CD kd.tup _ _ hv2
    ·exact(sb2.ce c hc).keep kd.tup
   ·rw[aq,<-sb.eq];refine bD λc _=>?_
    dsimp only[Function.comp]
    split<;>rfl
  have hc1:(⟨c0.tg,c0.bk,pn,e.ta,v⟩:Cz)∈zs.map λc=>if c.tg.1=e.z then⟨c.tg,c.bk,pn,e.ta,v⟩ else c:=by
   refine af.mpr ⟨c0,hc0,?_⟩;rw[aG (by rw[e1];rfl)]
  have hb:=O8 sb3.nd hc1;refine⟨_,rfl,hq q cs bs _ e.ta (Mb e) _ sb3 (k2.trans kd) (λx hx=>.inl (aH hx)) ?_ (kd.tup _ _ hta2) (sb.wl e he).1 (Wu sb3.nd λc hc=>?_)⟩
  ·rw[<-e1,<-eb,<-e2];exact hb
  ·by_cases z:c.tg.1=e.z
   ·exact⟨_,af.mpr ⟨c,hc,aG z⟩,rfl,rfl⟩
   ·exact⟨c,af.mpr ⟨c,hc,aJ z⟩,rfl,rfl⟩
 ·have tok:LB ((cs.length:Int)+1,y,BC b):=⟨⟨by show(1:Int)<=(cs.length:Int)+1;omega,by show(cs.length:Int)+1<=999999;omega⟩,hy,sum_in b⟩
  have k1:Kt H H1:=Kt.frm sb.pa fr;have hd1:=fr d _ sb.at_ sb.ap;have wl1:=sb.wl.more (e:=Dz ((cs.length:Int)+1) y b v c dx ta l cs) tok ht rfl ((AQ b).map (·.1));have mem1:∀x∈(cs++[Dz ((cs.length:Int)+1) y b v c dx ta l cs]).map (bump ((AQ b).map (·.1))),(∃x0∈cs,x.l=x0.l/\x.bk=x0.bk)\/(x.l=l/\x.bk=b):=λx hx=>by
   obtain⟨x0,h0,rfl⟩:=af.mp hx;rcases av.mp h0 with h0|h0
   ·exact .inl ⟨x0,h0,rfl,rfl⟩
   ·rw[ai.mp h0];exact .inr ⟨rfl,rfl⟩
  have nl1:∀x∈(cs++[Dz ((cs.length:Int)+1) y b v c dx ta l cs]).map (bump ((AQ b).map (·.1))),∃us,H1 x.l=some (.lst us)/\AN NL H1 ((AQ x.bk).map Gx) us:=λx hx=>by
   rcases mem1 x hx with⟨x0,h0,e1,e2⟩|⟨e1,e2⟩
   ·obtain⟨us,h1,h2⟩:=sb.nl x0 h0;rw[e1,e2];exact⟨us,k1.lst h1,B0 k1.tup _ _ h2⟩
   ·rw[e1,e2];exact⟨us,hl,hus⟩
  have ap1:d∉Cw p q ((cs++[Dz ((cs.length:Int)+1) y b v c dx ta l cs]).map (bump ((AQ b).map (·.1)))) bs1:=λhm=>by
   have ap:=sb.ap;have dn:∀{a},H a=none->d≠a:=λ{a} ha w=>by rw[<-w,sb.at_] at ha;cases ha
   unfold Cw at hm ap;rw[Mh,aj] at hm;simp only[List.mem_cons,List.mem_append,not_or] at hm ap;rcases hm with h|h|h|h|h|h
   ·exact ap.1 h
   ·exact ap.2.1 h
   ·exact ap.2.2.1 h
   ·exact ap.2.2.2.1 h
   ·obtain⟨x,hx,e⟩:=af.mp h;rcases bfr x hx with h|h
    ·exact ap.2.2.2.2.1 (af.mpr ⟨x,h,e⟩)
    ·exact dn h e.symm
   ·rcases h with h|h
    ·exact ap.2.2.2.2.2 h
    ·have h':d=(Dz ((cs.length:Int)+1) y b v c dx ta l cs).c:=by simpa using h
     exact dn nc h'
  have hta:=(pa1.t.2.2.1 _ (aH (aD _ aw))).2.1;have hta:H1 ta=some (.tup [.int ((cs.length:Int)+1),.int y,.int (BC b)]):=hta;have ecs:((cs++[Dz ((cs.length:Int)+1) y b v c dx ta l cs]).map (bump ((AQ b).map (·.1)))).map (λe=>(Mb e,e.bk))=cs.map (λe=>(Mb e,e.bk))++[(((cs.length:Int)+1,y,BC b),b)]:=by
   rw[aq,aj];rfl
  have lcs:((cs++[Dz ((cs.length:Int)+1) y b v c dx ta l cs]).map (bump ((AQ b).map (·.1)))).length=cs.length+1:=by rw[aa,au];rfl
  have lold:∀x∈(cs++[Dz ((cs.length:Int)+1) y b v c dx ta l cs]).map (bump ((AQ b).map (·.1))),x.l∈cs.map (·.l)\/H x.l=none:=λx hx=>by
   rcases mem1 x hx with⟨x0,h0,e1,e2⟩|⟨e1,e2⟩
   ·rw[e1];exact .inl (aH h0)
   ·rw[e1];exact .inr nl
  generalize (cs++[Dz ((cs.length:Int)+1) y b v c dx ta l cs]).map (bump ((AQ b).map (·.1)))=cs1 at pa1 wl1 nl1 ap1 ecs lcs lold;have hv1:=CD k1.tup _ _ hv;have ce1:∀c∈zs,Po H1 c:=λc hc=>(sb.ce c hc).keep k1.tup
  dsimp only[Ay];refine⟨_,rfl,_,rfl,Fy,λpn npn=>?_⟩;have s2:=Ak npn (.tup [.ref ta,v]);have hpn:(upd H1 pn (.tup [.ref ta,v])) pn=some (.tup [.ref ta,v]):=Ad;have hta2:=s2.get hta;have hv2:=Rep.same s2 _ _ hv1;have pa2:=pa1.same s2;have nl2:∀x∈cs1,∃us,_/\AN NL _ ((AQ x.bk).map Gx) us:=λx hx=>let⟨us,h1,h2⟩:=nl1 x hx;⟨us,s2.get h1,AN.same s2 _ _ h2⟩
  have hd2:=s2.get hd1;have ce2:∀c∈zs,Po _ c:=λc hc=>(ce1 c hc).keep (KT.of s2)
  have k2:=k1.trans (Kt.of s2);generalize upd H1 pn (.tup [.ref ta,v])=H2 at hpn hta2 hv2 pa2 nl2 hd2 ce2 k2;have lz:zs.length=cs.length:=by have:=congrArg List.length sb.eq;rw[aa,aa] at this;exact this
  have put:putK (G8 zs) (.inl ((cs.length:Int)+1)) (.ref pn)=G8 (zs++[⟨((cs.length:Int)+1,y,BC b),b,pn,ta,v⟩]):=by
   unfold G8;rw[DA _ (GP (k:=λc:Cz=>.inl c.tg.1) (g:=λc=>.ref c.p) (z:=.inl ((cs.length:Int)+1)) λc0 hc e=>?_),aj]
   ·rfl
   ·obtain⟨x,hx,x1,_⟩:=sb.mate hc;obtain⟨i,hi⟩:=cf hx;have:=sb.pa.z i x hi;have il:=(ay.mp hi).1;have e:c0.tg.1=(cs.length:Int)+1:=bH e;rw[x1] at e;have e:x.z=(cs.length:Int)+1:=e;omega
  refine⟨_,rfl,_,rfl,ta,_,_,_,rfl,rfl,AL.of hta2,Ar (j:=0) rfl,d,_,rfl,Jg.k (k:=.inl ((cs.length:Int)+1)) hd2 (AU (by unfold G8;rw[aa];omega)),?_⟩;rw[put];have kd:=Kt.dict hd2 (.dK (G8 (zs++[⟨((cs.length:Int)+1,y,BC b),b,pn,ta,v⟩])));have sb3:Sb Ac Aa H0 (upd H2 d (.dK (G8 (zs++[⟨((cs.length:Int)+1,y,BC b),b,pn,ta,v⟩])))) p { q with n:=(cs.length:Int)+1 } cs1 bs1 d (zs++[⟨((cs.length:Int)+1,y,BC b),b,pn,ta,v⟩]) (n+1):=by
   refine⟨sb.kt.trans (k2.trans kd),pa2.dict hd2 ap1,wl1,λx hx=>?_,Ad,λc' hc'=>?_,?_,ap1,by omega⟩
   ·obtain⟨us,h1,h2⟩:=nl2 x hx;exact⟨us,kd.lst h1,B0 kd.tup _ _ h2⟩
   ·rcases av.mp hc' with hc'|hc'
    ·exact(ce2 c' hc').keep kd.tup
    ·cases ai.mp hc';exact⟨kd.tup _ _ hpn,kd.tup _ _ hta2,CD kd.tup _ _ hv2⟩
   ·rw[ecs,aj,sb.eq];rfl
  exact⟨_,rfl,hq _ cs1 bs1 _ ta ((cs.length:Int)+1,y,BC b) _ sb3 (k2.trans kd) lold (O8 sb3.nd (aD _ aw)) (kd.tup _ _ hta2) tok (Wg _ _)⟩
end
open M06
section
variable {P:Program}{w:World}{K:W.Frag}{mg:Str->Option Value}{base:Heap}{f Aj Aa Ac:Addr}{XC:Nat->Addr}{fd:FuncData}
abbrev Nw (H0:Hp)(l:Addr):Prop:=∀o,H0 l=some o->(∃C d fs,o=.ins C d fs)\/∃kvs,o=.dK kvs
theorem Kt.nw {H0 H:Hp}(k:Kt H0 H){l:Addr}(nl:H l=none):Nw H0 l:=λo e=>cE λh=>by
 have:=k l o e (λC d fs z=>h (.inl ⟨C,d,fs,z⟩)) λkvs z=>h (.inr ⟨kvs,z⟩)
 rw[nl] at this;cases this
theorem Kt.new {H0 H:Hp}(k:Kt H0 H){l:Addr}(nl:Nw H0 l)(o:HO):Kt H0 (upd H l o):=λa u e n m=>by
 rw[Ah λw=>?_]
 ·exact k a u e n m
 ·rw[w] at e;rcases nl u e with⟨C,d,fs,z⟩|⟨kvs,z⟩
  ·exact n _ _ _ z
  ·exact m _ z
theorem Kt.seq {H H':Hp}(k:Kt H H'){a:Addr}{xs:List V}(h:AD K H a xs):AD K H' a xs:=by
 rcases h with(h|⟨o,h⟩)|h
 ·exact .inl (.inl (k.lst h))
 ·exact .inl (.inr ⟨o,k a _ h (λ_ _ _ z=>by cases z) λ_ z=>by cases z⟩)
 ·exact .inr h
theorem Gy.kt {l:Addr}{H H':Hp}{ps:List (Addr×Tg)}(h:Gy H l ps)(k:Kt H H'):Gy H' l ps:=⟨k.lst h.1,λp hp=>k.tup _ _ (h.2 p hp)⟩
def Sv (CP CT:Addr)(H0 H:Hp)(p d:Addr)(L:List Addr)(zs:List Cz)(n:Nat):Prop:=∃q cs bs,Sb CP CT H0 H p q cs bs d zs n/\∀a∈L,(∃us,H a=some (.lst us))/\∀e∈cs,e.l≠a
section
variable {CP CT:Addr}{H0 H H':Hp}{p d:Addr}{L:List Addr}{zs:List Cz}{n:Nat}
theorem Sv.kt (h:Sv CP CT H0 H p d L zs n):Kt H0 H:=let⟨_,_,_,h,_⟩:=h;h.kt
theorem Sv.on (h:Sv CP CT H0 H p d L zs n)(s:Am H H'):Sv CP CT H0 H' p d L zs n:=let⟨q,cs,bs,h,k⟩:=h;⟨q,cs,bs,h.on s,λa ha=>⟨let⟨us,e⟩:=(k a ha).1;⟨us,s.get e⟩,(k a ha).2⟩⟩
theorem Sv.sub {L':List Addr}(h:Sv CP CT H0 H p d L zs n)(s:∀a∈L',a∈L):Sv CP CT H0 H p d L' zs n:=let⟨q,cs,bs,h,k⟩:=h;⟨q,cs,bs,h,λa ha=>k a (s a ha)⟩
theorem Sv.add {l:Addr}{us:List V}(h:Sv CP CT H0 H p d L zs n)(nl:H l=none):Sv CP CT H0 (upd H l (.lst us)) p d (l::L) zs n:=by
 obtain⟨q,cs,bs,h,k⟩:=h;have s:=Ak nl (.lst us);refine⟨q,cs,bs,h.on s,λa ha=>?_⟩;rcases aL.mp ha with rfl|ha
 ·exact⟨⟨us,Ad⟩,λe he w=>by
   obtain⟨vs,e1,_⟩:=h.nl e he;rw[w,nl] at e1;cases e1⟩
 ·exact⟨let⟨us,e⟩:=(k a ha).1;⟨us,s.get e⟩,(k a ha).2⟩
theorem Kk {l:Addr}{us us':List V}(h:Sv CP CT H0 H p d L zs n)(hL:l∈L)(hl:H l=some (.lst us))(nw:Nw H0 l):Sv CP CT H0 (upd H l (.lst us')) p d L zs n:=by
 obtain⟨q,cs,bs,h,k⟩:=h;have tp:=KT.lst hl (.lst us');refine⟨q,cs,bs,⟨h.kt.new nw _,h.pa.lst hl,h.wl,λe he=>?_,by rw[Ah λw=>by rw[<-w,h.at_] at hl;cases hl];exact h.at_,λc hc=>(h.ce c hc).keep tp,h.eq,h.ap,h.few⟩,λa ha=>⟨?_,(k a ha).2⟩⟩
 ·obtain⟨vs,e1,e2⟩:=h.nl e he;exact⟨vs,by rw[Ah ((k l hL).2 e he)];exact e1,B0 tp _ _ e2⟩
 ·by_cases w:a=l
  ·exact⟨us',by rw[w,Ad]⟩
  ·obtain⟨vs,e⟩:=(k a ha).1;exact⟨vs,by rw[Ah w];exact e⟩
theorem LF {v:V} {b:Bk} {y:Int} {Q:VK} (h:Sv CP CT H0 H p d L zs n) (hn:n<=50) (hv:Rep NL H (DB b) v) (ok:GJ b) (ht:∀t∈AQ b,∃b',bm zs t.1=some b') (hy:0<=y/\y<=9999)
  (q:∀zs' H' ta t,Sv CP CT H0 H' p d L zs' (n+1)->Kt H H'->bm zs' t.1=some b->HG H' ta t->LB t->Mon (bm zs) (bm zs')->Q (.ref ta) H'):E9 K CP CT [.ref p,.ref d,v,.int y] H Q E0:=by
 obtain⟨q0,cs,bs,h,k⟩:=h;refine⟨H0,p,d,q0,cs,bs,zs,n,v,b,y,rfl,h,by omega,hv,ok,λt ht'=>?_,by omega,λq' cs' bs' zs' ta t H' sb kt hl eb hta tok mon=>q zs' H' ta t ⟨q',cs',bs',sb,λa ha=>?_⟩ kt eb hta tok mon⟩
 ·obtain⟨b',e⟩:=ht t ht';obtain⟨x,hx,e1,_⟩:=h.cl e;exact⟨x,hx,e1⟩
 ·obtain⟨⟨us,e⟩,k2⟩:=k a ha;refine⟨⟨us,kt.lst e⟩,λx hx w=>?_⟩;rcases hl x hx with h1|h1
  ·obtain⟨x0,hx0,e0⟩:=af.mp h1;exact k2 x0 hx0 (e0.trans w)
  ·rw[w,e] at h1;cases h1
end
theorem Rw.some {B:BM}:∀{n:Nat} {z:Int},Rw B n z->∃b,B z=some b
 |0,_,⟨_,e,_⟩=>⟨_,e⟩
 |_+1,_,.inl ⟨_,e,_⟩=>⟨_,e⟩
 |_+1,_,.inr ⟨_,_,e,_⟩=>⟨_,e⟩
theorem Fd.some {B:BM}{Nm:Str->Prop}:∀{n:Nat} {z:Int},Fd B Nm n z->∃b,B z=some b
 |_+1,_,⟨_,e,_⟩=>⟨_,e⟩
abbrev Pk (B:BM)(n:Nat)(t:Tg):Prop:=LB t/\Rw B n t.1
abbrev Vd (B:BM)(Nm:Str->Prop)(n:Nat)(t:Tg):Prop:=LB t/\Fd B Nm n t.1
theorem Pk.mon {B B':BM}{n:Nat}{t:Tg}(h:Pk B n t)(m:Mon B B'):Pk B' n t:=⟨h.1,h.2.mon m⟩
theorem Pk.up {B:BM}{n:Nat}{t:Tg}(h:Pk B n t):Pk B (n+1) t:=⟨h.1,h.2.up⟩
theorem Vd.mon {B B':BM}{Nm:Str->Prop}{n:Nat}{t:Tg}(h:Vd B Nm n t)(m:Mon B B'):Vd B' Nm n t:=⟨h.1,h.2.mon m⟩
theorem Vd.up {B:BM}{Nm:Str->Prop}{n:Nat}{t:Tg}(h:Vd B Nm n t):Vd B Nm (n+1) t:=⟨h.1,h.2.up⟩
theorem R1 {z:Str}(l1:1<=z.length)(l8:z.length<=8)(h:WY z):GJ (.piece z):=by
 show(decide ((1:Int)<=(z.length:Int))&&decide ((z.length:Int)<=8)&&BJ SG z)=true;rw[aY,aY];refine⟨⟨aE (by omega),aE (by omega)⟩,?_⟩;unfold BJ;exact bf.mpr λc hc=>aE (h c hc)
def E6 (K:W.Frag)(CP CT:Addr):Sp:=λvs H Q _=>∃(sa pl na:Addr) (ns:List Int) (zs:List Str) (q0:Pl),vs=[.ref sa,.ref pl,.ref na]/\AD K H sa (ns.map V.int)/\PAt CP CT H pl q0 [] []/\AD K H na (zs.map V.str)/\zs≠[]/\zs.length<=100/\(∀z∈zs,IA (.str z)=true)/\
 ∀t d fo cs (gs:List (Addr×Tg)) H',Sv CP CT H H' pl d [] cs 15->H' t=some (.tup [.ref d,.ref fo])->H' fo=some (.lst (gs.map λp=>V.ref p.1))->HD H' gs->(∀p∈gs,Fd (bm cs) (·∈zs) 6 p.2.1)->(∃p∈gs,bm cs p.2.1=some (.folder []))->gs.length<=6->Q (.ref t) H'
theorem K8 (T:Txt K mg Aj Aa Ac XC)(F:Fun K "_law_blocks" "_law_blocks" Cp f fd)(BS:Def P w K mg base 1 "_law_row" ["_law_cell","_law_many"] (Eb K))(AZ:Def P w K mg base 1 "_law_cell_at" ["_law_script","_law_k"] (Cg K))(Cu:Def P w K mg base 15 "_law_put" ["_law_pool","_law_blocks_here","_law_block","_law_birth"] (E9 K Ac Aa))(GW:Def P w K mg base 1 "_law_text" ["_law_row_here","_law_at"] (Gd K))(EW:Def P w K mg base 1 "_law_entries" ["_law_row_here","_law_at","_law_names_here","_law_files","_law_folders"] (Eg K)):FnOk P w K mg base Cf 16 f fd ["_law_script","_law_pool","_law_names_here"] (E6 K Ac Aa):=by
 exists AY
 ·obtain⟨sa,pl,na,ns,zs,q0,rfl,_⟩:=h;rfl
 obtain⟨sa,pl,na,ns,zs,q0,rfl,hsa,hpl,hna,zn,lz,zok,q⟩:=h;have hu:=BI hr;have hu9:=Ct hr;refine⟨_,(!Ag (@Au _ _ (3) _ _ _ _ AY.nd rfl (by trivial) (!Cs) (by rfl) (by trivial)) (!Ag (@Au _ _ (4) _ _ _ _ AY.nd rfl (by trivial) (!AC BS (by trivial) rfl (!Ab (!AC AZ (by trivial) rfl (!Ab (pv 0) (!Ab (!Ae) (!Af)))) (!Ab (!Ae) (!Af)))) (by rfl) (by trivial)) (!Ag (@Au _ _ (5) _ _ _ _ AY.nd rfl (by trivial) (@BV _ ["_law_k","_law_pool","_law_blocks_here","_law_row_here"] [none,some 1,some 3,some 4] _ _ _ _ _ _ _ _ _ _ _ rfl (!Bn rfl T.b_range (!Ab (!Ae) (!Af))) (by rfl) rfl (by repeat (first|exact trivial|refine⟨rfl,?_⟩)) (by repeat (first|exact trivial|refine⟨λh=>(by first|exact⟨_,rfl⟩|cases h),?_⟩)) (λC s H fp=>⟨(@Ap _ _ (0) _ (show(["_law_k","_law_pool","_law_blocks_here","_law_row_here"]:List Str).Nodup by decide +kernel) rfl (by trivial) (by trivial)),(!AO),(!AC Cu (by trivial) rfl (!Ab (pv 1) (!Ab (pv 2) (!Ab (!BF (!Ab (!Ae) (!Ab (!AC GW (by trivial) rfl (!Ab (pv 3) (!Ab (!Ao Bt (!Ae) (pv 0)) (!Af)))) (!Af)))) (!Ab (!Ao AF (!Ae) (!Ao AR (!An (FD (K:=K) (by rfl)) (pv 3) (!Ae) (λ_ _=>rfl)) (!Ae))) (!Af))))))⟩) (by intro _;rfl)) (by rfl) (by trivial)) (!Ag (@Au _ _ (6) _ _ _ _ AY.nd rfl (by trivial) (!Bb (!Ab (!AC Cu (by trivial) rfl (!Ab (pv 1) (!Ab (pv 3) (!Ab (!BF (!Ab (!Ae) (!Ab (!Ae) (!Ab (!BF (!Af)) (!Af))))) (!Ab (!Ae) (!Af)))))) (!Af))) (by rfl) (by trivial)) (!Ag (!BR aW rfl (!Bn rfl T.b_range (!Ab (!Ae) (!Af))) (@Ap _ _ (7) _ AY.nd rfl (by trivial) (by trivial)) (!Ag (@Eu _ ["_law_j","_law_pieces","_law_row_here","_law_k"] [none,some 5,some 4,some 7] (8) _ _ _ _ _ _ _ _ _ _ _ _ _ _ AY.nd rfl (by trivial) rfl (!Bn rfl T.b_range (!Ab (!Ao AF (!Ae) (!Ao AR (!An AB (pv 4) (!Ao AF (!Ae) (!Ao Bt (!Ae) (pv 7))) (λ_ _=>rfl)) (!Ae))) (!Af))) (by rfl) rfl (by repeat (first|exact trivial|refine⟨rfl,?_⟩)) (by repeat (first|exact trivial|refine⟨λh=>(by first|exact⟨_,rfl⟩|cases h),?_⟩)) (λC s H fp=>⟨(@Ap _ _ (0) _ (show(["_law_j","_law_pieces","_law_row_here","_law_k"]:List Str).Nodup by decide +kernel) rfl (by trivial) (by trivial)),(!AO),(!An (FD (K:=K) (by rfl)) (pv 1) (!Ao AR (!An (FD (K:=K) (by rfl)) (pv 2) (!Ao AF (!Ao AF (!Ae) (!Ao Bt (!Ae) (pv 3))) (pv 0)) (λ_ _=>rfl)) (!Ae)) (λ_ _=>rfl))⟩) (by intro _;rfl) (by rfl) (by trivial)) (!Al (!Bl (!C4 aP bu br BD (pv 6) (!Ab (!AC Cu (by trivial) rfl (!Ab (pv 1) (!Ab (pv 3) (!Ab (!BF (!Ab (!Ae) (!Ab (!Ae) (!Ab (!Bj D2 (by rfl) T.b_tuple GR (!Ab (pv 8) (!Af))) (!Af))))) (!Ab (!Ae) (!Af)))))) (!Af)))))) (by intro _;rfl)) (!Ag (!Bl (!C4 aP bu br BD (pv 6) (!Ab (!AC Cu (by trivial) rfl (!Ab (pv 1) (!Ab (pv 3) (!Ab (!BF (!Ab (!Ae) (!Ab (!Ae) (!Ab (!BF (!Ab (!An AB (pv 6) (!Ao AR (!An AB (pv 4) (!Ae) (λ_ _=>rfl)) (!Ae)) (λ_ _=>rfl)) (!Ab (!An AB (pv 6) (!Ao AR (!An AB (pv 4) (!Ae) (λ_ _=>rfl)) (!Ae)) (λ_ _=>rfl)) (!Af)))) (!Af))))) (!Ab (!Ae) (!Af)))))) (!Af)))) (!Ag (@Au _ _ (9) _ _ _ _ AY.nd rfl (by trivial) (!Bb (!Ab (!AC Cu (by trivial) rfl (!Ab (pv 1) (!Ab (pv 3) (!Ab (!BF (!Ab (!Ae) (!Ab (!BF (!Af)) (!Af)))) (!Ab (!Ae) (!Af)))))) (!Af))) (by rfl) (by trivial)) (!Ag (@Au _ _ (10) _ _ _ _ AY.nd rfl (by trivial) (!AC BS (by trivial) rfl (!Ab (!AC AZ (by trivial) rfl (!Ab (pv 0) (!Ab (!Ae) (!Af)))) (!Ab (!Ae) (!Af)))) (by rfl) (by trivial)) (!Ag (!BR aW rfl (!Bn rfl T.b_range (!Ab (!Ae) (!Af))) (@Ap _ _ (7) _ AY.nd rfl (by trivial) (by trivial)) (!Al (!Bl (!C4 aP bu br BD (pv 9) (!Ab (!AC Cu (by trivial) rfl (!Ab (pv 1) (!Ab (pv 3) (!Ab (!AC EW (by trivial) rfl (!Ab (pv 10) (!Ab (!Ao Bt (!Ae) (pv 7)) (!Ab (pv 2) (!Ab (pv 6) (!Ab (pv 9) (!Af))))))) (!Ab (!Ao AF (!Ae) (!Ao AR (!An AB (pv 10) (!Ao AF (!Ao Bt (!Ae) (pv 7)) (!Ae)) (λ_ _=>rfl)) (!Ae))) (!Af)))))) (!Af))))) (by intro _;rfl)) (!Al (!Av (!BF (!Ab (pv 3) (!Ab (pv 9) (!Af))))))))))))))),?_⟩
 try dsimp only[Bh,Cx.nox,Cx.wish]
 refine Aw λd nd=>?_
 have sb0:Sv Ac Aa H (upd H d (.dK [])) pl d [] [] 0:=⟨q0,[],[],⟨Kt.of (Ak nd _),hpl.same (Ak nd _),(λ_ h=>nomatch h),(λ_ h=>nomatch h),Ad,(λ_ h=>nomatch h),rfl,(λhm=>by
  simp only[Cw,List.map_nil,List.append_nil,List.mem_cons,List.not_mem_nil,or_false] at hm;rcases hm with h|h|h|h
  ·rw[h,hpl.t.1] at nd;cases nd
  ·rw[h,hpl.t.2.1] at nd;cases nd
  ·rw[h,hpl.b.h] at nd;cases nd
  ·rw[h,hpl.d] at nd;cases nd),ar _⟩,λ_ h=>nomatch h⟩
 dsimp only[Ay];generalize upd H d (.dK [])=H1 at sb0;refine Aw ⟨_,rfl,sa,ns,1,rfl,by decide,sb0.kt.seq hsa,λc1=>⟨c1,40,rfl,by decide,by decide,λra H2 ms s2 nra hra lms bms=>?_⟩⟩;have sb2:=sb0.on s2;have nraH:=sb0.kt.nw nra;have lms:ms.length=40:=lms;have A:∀k:Int,0<=k->k<40->JS (ms.map V.int) k=some (.int (ms.getD k.toNat 0)):=λk h0 h1=>Du h0 (by omega)
 dsimp only[Ay];refine Aw ⟨4,rfl,by decide,by decide,?_⟩;refine Ml (xs:=(List.range (4:Int).toNat).map λ(i:Nat)=>V.int (0+(i:Int))) (λi ys l H'=>∃cs ps,Sv Ac Aa H H' pl d [l] cs i/\ys=ps.map (λp=>V.ref p.1)/\HD H' ps/\(∀p∈ps,Pk (bm cs) 0 p.2)/\H' ra=some (.lst (ms.map V.int))/\ps.length=i/\Nw H l/\l≠ra) (by rw[aa,bP];decide) (λi ys l H' _=>SK) (λl nl=>?_) (λi x ys l H' R hx nl hl ly ⟨cs,ps,sb,ey,tp,hp,hr',lp,nlH,nlr⟩ hR=>?_) λl H3 ys nl hl ly ⟨cs,ps,sb3,ey,tp3,hp3,hr3,lp,nlH,nlr⟩=>?_
 ·have sl:=Ak nl (.lst []);exact⟨[],[],sb2.add nl,rfl,(λ_ h=>nomatch h),(λ_ h=>nomatch h),sl.get hra,rfl,sb2.kt.nw nl,λw=>by rw[w,hra] at nl;cases nl⟩
 ·have hi:i<4:=by have:=(ay.mp hx).1;rw[aa,bP] at this;exact this
  rw[az,dG (show i<(4:Int).toNat from hi)] at hx;cases hx;refine⟨_,rfl,_,rfl,_,rfl,_,rfl,_,_,rfl,rfl,.inl ⟨by decide,by decide⟩,ra,ms,_,rfl,hr',by omega,by omega,bms,λz H4 s4 l1 lz hz=>⟨Fy,λt nt=>?_⟩⟩;have s5:=Ak nt (.tup [.int 0,.str z]);have s45:=s4.trans s5;refine⟨_,rfl,ra,_,_,_,rfl,rfl,AD.of (s45.get hr'),A 12 (by decide) (by decide),_,_,rfl,rfl,(by show(0:Int)<9;decide),_,_,rfl,rfl,Cj (LF (K:=K) (b:=.piece z) (sb.on s45) (by omega) ⟨t,_,rfl,Ad,_,_,rfl,rfl,_,_,rfl,rfl,rfl⟩ (R1 l1 lz hz) (λ_ h=>nomatch h) (by have:=DD bms 12;omega) λcs' H6 ta tt sb6 k6 eb hta tok mon=>?_)⟩;have hl6:=k6.lst (s45.get hl);refine hR _ H6 hl6 ⟨cs',ps++[(ta,tt)],Kk sb6 aw hl6 nlH,by rw[ey,aj];rfl,λp hp'=>?_,λp hp'=>?_,by rw[Ah (Ne.symm nlr)];exact k6.lst (s45.get hr'),by rw[au,lp];rfl,nlH,nlr⟩
  ·rcases av.mp hp' with h|h
   ·exact KT.lst hl6 _ _ _ (k6.tup _ _ (s45.get (tp p h)))
   ·cases ai.mp h;exact KT.lst hl6 _ _ _ hta
  ·rcases av.mp hp' with h|h
   ·exact(hp p h).mon mon
   ·cases ai.mp h;exact⟨tok,z,eb,lz⟩
 subst ey;have lp:ps.length=4:=lp;have la3:Gy H3 l ps:=⟨hl,tp3⟩
 clear hl tp3 ly
 dsimp only[Ay];refine Aw ⟨_,rfl,_,rfl,HX,λe0 ne0=>⟨MD,λt0 nt0=>?_⟩⟩;have s4:=Ak ne0 (.tup []);have s5:=Ak nt0 (.tup [.int 1,.int 1,.ref e0]);have s45:=s4.trans s5;have sb5:=sb3.on s45;have la5:=la3.same s45;have hr5:=s45.get hr3;have rep5:Rep NL (upd (upd H3 e0 (.tup [])) t0 (.tup [.int 1,.int 1,.ref e0])) (DB (.row 1 [])) (.ref t0):=⟨t0,_,rfl,Ad,_,_,rfl,rfl,_,_,rfl,rfl,_,_,rfl,⟨e0,_,rfl,s5.get Ad,rfl⟩,rfl⟩
 generalize upd (upd H3 e0 (.tup [])) t0 (.tup [.int 1,.int 1,.ref e0])=H5 at s45 sb5 la5 hr5 rep5;refine PR (LF (K:=K) (b:=.row 1 []) sb5 (by decide) rep5 ⟨⟨by decide,by decide⟩,by decide,(λh=>absurd h (by decide)),λ_ h=>nomatch h⟩ (λ_ h=>nomatch h) (by decide) λcs6 H6 ta6 tt6 sb6 k6 eb6 hta6 tok6 mon6=>⟨Td,λlr nlr6=>?_⟩);have s7:=Ak nlr6 (.lst [.ref ta6]);have sb7:=(sb6.add (us:=[.ref ta6]) nlr6).sub (L':=[lr]) λa ha=>by rw[ai.mp ha];exact aw
 have la7:=(la5.kt k6).same s7;have hr7:=s7.get (k6.lst hr5);have nlrH:=sb6.kt.nw nlr6;have lb7:Gy (upd H6 lr (.lst [.ref ta6])) lr [(ta6,tt6)]:=⟨Ad,λp hp=>by cases ai.mp hp;exact s7.get hta6⟩
 have hp7:∀p∈ps,Pk (bm cs6) 0 p.2:=λp hp=>(hp3 p hp).mon mon6
 have hb7:∀p∈[(ta6,tt6)],Pk (bm cs6) 1 p.2:=λp hp=>by
  cases ai.mp hp;exact⟨tok6,.inr ⟨1,[],eb6,(by decide),λ_ h=>nomatch h⟩⟩
 generalize upd H6 lr (.lst [.ref ta6])=H7 at s7 sb7 la7 hr7 lb7
 clear hp3 hr3 la3 sb3 la5 hr5 rep5 sb5 s45 k6 eb6 hta6 mon6 sb6 nlr6
 dsimp only[Ay];refine Bf (t:=J7 _ _ _) (λσ' H'=>∃(cs:List Cz) (rs:List (Addr×Tg)) (v7 v8:Option V),σ'=[some (.ref sa),some (.ref pl),some (.ref na),some (.ref d),some (.ref ra),some (.ref l),some (.ref lr),v7,v8,none,none]/\Sv Ac Aa H H' pl d [lr] cs 8/\Gy H' lr rs/\(∀p∈rs,Pk (bm cs) 1 p.2)/\H' ra=some (.lst (ms.map V.int))/\rs.length=4) (λN hN=>?_) ?_
 ·refine⟨3,rfl,by decide,by decide,?_⟩;refine CI (lo:=0) (λi σ H'=>∃(cs:List Cz) (rs:List (Addr×Tg)) (v7 v8:Option V),σ=[some (.ref sa),some (.ref pl),some (.ref na),some (.ref d),some (.ref ra),some (.ref l),some (.ref lr),v7,v8,none,none]/\Sv Ac Aa H H' pl d [lr] cs (5+i)/\Gy H' l ps/\Gy H' lr rs/\(∀p∈ps,Pk (bm cs) 0 p.2)/\(∀p∈rs,Pk (bm cs) 1 p.2)/\H' ra=some (.lst (ms.map V.int))/\rs.length=1+i) ⟨cs6,[(ta6,tt6)],none,none,rfl,sb7,la7,lb7,hp7,hb7,hr7,rfl⟩ ?_ ?_
  ·rintro i σ H1 hi ⟨cs,rs,v7,v8,rfl,sb,la,lb,hp,hb,hra1,lrs⟩
   have hi:i<3:=hi;obtain⟨y0,y1⟩:=DD bms (16+4*(0+(i:Int))).toNat;refine Aw ⟨_,rfl,_,rfl,_,_,rfl,rfl,.inl ⟨by decide,by decide⟩,_,_,rfl,rfl,ra,_,_,_,rfl,rfl,AD.of hra1,A _ (by omega) (by omega),_,_,rfl,rfl,(by show(0:Int)<3;decide),_,_,rfl,rfl,_,rfl,by omega,by omega,?_⟩;have m0:=bw (ms.getD (16+4*(0+(i:Int))).toNat 0) (show(3:Int)≠0 by decide);have m1:=bc (ms.getD (16+4*(0+(i:Int))).toNat 0) (show(0:Int)<3 by decide);generalize ms.getD (16+4*(0+(i:Int))).toNat 0%3=r at m0 m1;refine FG (ps:=List.range (1+r).toNat) (λ_=>true) (λ_ y _=>∃p∈ps,y=.ref p.1) (λ_ _ _ _ h _=>h) (λ_ _ _ _ _ _ h _=>h) HK (by rw[bP];omega) (λj hj H' S s' hS=>hS _ (Am.refl _)) (λj hj _ H' S s' hS=>?_) λls H2 ys nls s2 hls ey hys=>?_
   ·have hj:=cy.mp hj;obtain⟨p,hp',hat⟩:=la.at (n:=4) (by omega) (by decide) (ms.getD (13+4*(0+(i:Int))+(0+(j:Int))).toNat 0);exact⟨_,rfl,_,rfl,_,rfl,_,_,rfl,rfl,.inl ⟨by decide,by decide⟩,_,_,rfl,rfl,_,rfl,_,_,rfl,rfl,ra,_,_,_,rfl,rfl,AD.of (s'.get hra1),A _ (by omega) (by omega),_,_,rfl,rfl,(by show(0:Int)<4;decide),l,_,_,_,rfl,rfl,AD.of (s'.get la.1),hat,hS _ _ (Am.refl _) ⟨p,hp',rfl⟩⟩
   obtain⟨qs,eq1,eq2,eq3⟩:=Qe hys;have lqs:qs.length<=3:=by
    have:=congrArg List.length ey;rw[aa,ck.mpr λ_ _=>rfl,bP] at this;omega
   rw[eq1] at hls;dsimp only[Ay];refine⟨_,rfl,.inl ⟨rfl,_,AD.of (s2.get lb.1)⟩,_,rfl,_,rfl,_,rfl,ls,_,rfl,.inl ⟨AD.of hls,λtt ntt=>⟨MD,λt nt=>?_⟩⟩⟩;have s3:=Ak ntt (.tup (qs.map λp=>V.ref p.1));have s4:=Ak nt (.tup [.int 1,.int 1,.ref tt]);have s24:=s2.trans (s3.trans s4);have sb4:=sb.on s24;have la4:=la.same s24;have lb4:=lb.same s24;have rep4:Rep NL (upd (upd H2 tt (.tup (qs.map λp=>V.ref p.1))) t (.tup [.int 1,.int 1,.ref tt])) (DB (.row 1 (qs.map (·.2)))) (.ref t):=⟨t,_,rfl,Ad,_,_,rfl,rfl,_,_,rfl,rfl,_,_,rfl,⟨tt,_,rfl,s4.get Ad,QG λq hq=>la4.2 q (eq2 q hq)⟩,rfl⟩
   have hr4:=s24.get hra1;generalize upd (upd H2 tt (.tup (qs.map λp=>V.ref p.1))) t (.tup [.int 1,.int 1,.ref tt])=H4 at s24 sb4 la4 lb4 rep4 hr4;refine PR (LF (K:=K) (b:=.row 1 (qs.map (·.2))) sb4 (by omega) rep4 ⟨⟨by decide,by decide⟩,(by rw[aa];omega),(λh=>absurd h (by decide)),λt ht=>by obtain⟨q',hq',rfl⟩:=af.mp ht;exact(hp q' (eq2 q' hq')).1⟩ (λt ht=>by obtain⟨q',hq',rfl⟩:=af.mp ht;exact(hp q' (eq2 q' hq')).2.some) (by decide) λcs5 H5 ta5 tt5 sb5 k5 eb5 hta5 tok5 mon5=>?_);have la5:=la4.kt k5;have lb5:=lb4.kt k5;have nll:l≠lr:=λw=>by
    have e1:=la.1;rw[w,lb.1] at e1;have:=congrArg List.length (HO.lst.inj (aA e1));rw[aa,aa] at this;omega
   have nra5:ra≠lr:=λw=>by
    have e1:=hra1;rw[w,lb.1] at e1;have:=congrArg List.length (HO.lst.inj (aA e1));rw[aa,aa] at this;omega
   refine⟨lr,_,_,rfl,rfl,lb5.1,AU (by rw[aa];omega),cs5,rs++[(ta5,tt5)],_,_,rfl,Kk sb5 aw lb5.1 nlrH,⟨by rw[Ah nll];exact la5.1,λp hp'=>KT.lst lb5.1 _ _ _ (la5.2 p hp')⟩,lb5.snoc hta5,λp hp'=>(hp p hp').mon mon5,λp hp'=>?_,by rw[Ah nra5];exact k5.lst hr4,by rw[au,lrs];show 1+i+1=_;omega⟩;rcases av.mp hp' with h|h
   ·exact(hb p h).mon mon5
   ·cases ai.mp h;refine⟨tok5,.inr ⟨1,_,eb5,by rw[aa];exact lqs,λt ht=>?_⟩⟩;obtain⟨q',hq',rfl⟩:=af.mp ht;exact((hp q' (eq2 q' hq')).mon mon5).2
  ·rintro σ H1 ⟨cs,rs,v7,v8,rfl,sb,la,lb,hp,hb,hra1,lrs⟩
   exact hN _ _ ⟨cs,rs,_,_,rfl,sb,lb,hb,hra1,lrs⟩
 clear hp7 hb7 la7 lb7 hr7 sb7
 rintro σ' H1 ⟨cs,rs,v7,v8,rfl,sb,lb,hb,hra1,lrs⟩
 obtain⟨u1,hu1,at1⟩:=lb.at (n:=4) (by omega) (by decide) (ms.getD (25:Int).toNat 0);obtain⟨u2,hu2,at2⟩:=lb.at (n:=4) (by omega) (by decide) (ms.getD (26:Int).toNat 0);refine Nv ⟨_,rfl,.inl ⟨rfl,_,AD.of lb.1⟩,_,rfl,_,rfl,_,rfl,_,rfl,ra,_,_,_,rfl,rfl,AD.of hra1,A 25 (by decide) (by decide),_,_,rfl,rfl,(by show(0:Int)<4;decide),lr,_,_,_,rfl,rfl,AD.of lb.1,at1,_,rfl,_,rfl,ra,_,_,_,rfl,rfl,AD.of hra1,A 26 (by decide) (by decide),_,_,rfl,rfl,(by show(0:Int)<4;decide),lr,_,_,_,rfl,rfl,AD.of lb.1,at2,Fy,λtt ntt=>⟨MD,λt nt=>?_⟩⟩;have s3:=Ak ntt (.tup [.ref u1.1,.ref u2.1]);have s4:=Ak nt (.tup [.int 1,.int 2,.ref tt]);have s24:=s3.trans s4;have sb4:=sb.on s24;have lb4:=lb.same s24;have rep4:Rep NL (upd (upd H1 tt (.tup [.ref u1.1,.ref u2.1])) t (.tup [.int 1,.int 2,.ref tt])) (DB (.row 2 [u1.2,u2.2])) (.ref t):=⟨t,_,rfl,Ad,_,_,rfl,rfl,_,_,rfl,rfl,_,_,rfl,⟨tt,_,rfl,s4.get Ad,_,_,rfl,Lf (lb4.2 u1 hu1),_,_,rfl,Lf (lb4.2 u2 hu2),rfl⟩,rfl⟩
 generalize upd (upd H1 tt (.tup [.ref u1.1,.ref u2.1])) t (.tup [.int 1,.int 2,.ref tt])=H4 at s24 sb4 lb4 rep4;refine PR (LF (K:=K) (b:=.row 2 [u1.2,u2.2]) sb4 (by omega) rep4 ⟨⟨by decide,by decide⟩,(by show 2<=8;decide),(λ_ h=>nomatch h),λt ht=>by
  rcases aL.mp ht with rfl|ht
  ·exact(hb u1 hu1).1
  ·rw[ai.mp ht];exact(hb u2 hu2).1⟩ (λt ht=>by
  rcases aL.mp ht with rfl|ht
  ·exact(hb u1 hu1).2.some
  ·rw[ai.mp ht];exact(hb u2 hu2).2.some) (by decide) λcs5 H5 ta5 tt5 sb5 k5 eb5 hta5 tok5 mon5=>?_)
 have lb5:=lb4.kt k5;refine⟨lr,_,_,rfl,rfl,lb5.1,AU (by rw[aa];omega),?_⟩;have sb6:=Kk (us':=rs.map (λp=>V.ref p.1)++[.ref ta5]) sb5 aw lb5.1 nlrH;have lb6:=lb5.snoc hta5;have hb6:∀p∈rs++[(ta5,tt5)],Pk (bm cs5) 2 p.2:=λp hp'=>by
  rcases av.mp hp' with h|h
  ·exact((hb p h).mon mon5).up
  ·cases ai.mp h;refine⟨tok5,.inr ⟨2,_,eb5,(by show 2<=3;decide),λt ht=>?_⟩⟩;rcases aL.mp ht with rfl|ht
   ·exact((hb u1 hu1).mon mon5).2
   ·rw[ai.mp ht];exact((hb u2 hu2).mon mon5).2
 have lrs6:(rs++[(ta5,tt5)]).length=5:=by rw[au,lrs];rfl
 generalize upd H5 lr (.lst (rs.map (λp=>V.ref p.1)++[.ref ta5]))=H6 at sb6 lb6;generalize rs++[(ta5,tt5)]=rs6 at lb6 hb6 lrs6
 clear sb lb hb hra1 lb4 rep4 sb4 s24 k5 eb5 hta5 mon5 sb5 lb5 at1 at2
 refine Aw ⟨_,rfl,_,rfl,HX,λe0 ne0=>⟨Fy,λt0 nt0=>?_⟩⟩;have s7:=Ak ne0 (.tup []);have s8:=Ak nt0 (.tup [.int 2,.ref e0]);have s78:=s7.trans s8;have sb8:=sb6.on s78;have lb8:=lb6.same s78;have rep8:Rep NL (upd (upd H6 e0 (.tup [])) t0 (.tup [.int 2,.ref e0])) (DB (.folder [])) (.ref t0):=⟨t0,_,rfl,Ad,_,_,rfl,rfl,_,_,rfl,⟨e0,_,rfl,s8.get Ad,rfl⟩,rfl⟩
 generalize upd (upd H6 e0 (.tup [])) t0 (.tup [.int 2,.ref e0])=H8 at s78 sb8 lb8 rep8;refine PR (LF (K:=K) (b:=.folder []) sb8 (by omega) rep8 ⟨by decide,(λ_ h=>nomatch h),rfl,bY⟩ (λ_ h=>nomatch h) (by decide) λcs9 H9 ta9 tt9 sb9 k9 eb9 hta9 tok9 mon9=>⟨Td,λlg nlg9=>?_⟩);have s10:=Ak nlg9 (.lst [.ref ta9]);have sb10:=(sb9.add (us:=[.ref ta9]) nlg9).sub (L':=[lg]) λa ha=>by rw[ai.mp ha];exact aw
 have lb10:=(lb8.kt k9).same s10;have nlgH:=sb9.kt.nw nlg9;have nlg:lg≠lr:=λw=>by rw[w,(lb8.kt k9).1] at nlg9;cases nlg9
 have lg10:Gy (upd H9 lg (.lst [.ref ta9])) lg [(ta9,tt9)]:=⟨Ad,λp hp=>by cases ai.mp hp;exact s10.get hta9⟩
 generalize upd H9 lg (.lst [.ref ta9])=H10 at s10 sb10 lb10 lg10;dsimp only[Ay];refine Aw ⟨_,rfl,sa,ns,2,rfl,by decide,sb10.kt.seq hsa,λc2=>⟨c2,40,rfl,by decide,by decide,λrb H11 mt s11 nrb hrb lmt bmt=>?_⟩⟩;have lmt:mt.length=40:=lmt;have A2:∀k:Int,0<=k->k<40->JS (mt.map V.int) k=some (.int (mt.getD k.toNat 0)):=λk h0 h1=>Du h0 (by omega)
 have sb11:=sb10.on s11;have lb11:=lb10.same s11;have lg11:=lg10.same s11;have hb11:∀p∈rs6,Pk (bm cs9) 2 p.2:=λp hp=>(hb6 p hp).mon mon9
 have hg11:∀p∈[(ta9,tt9)],Vd (bm cs9) (·∈zs) 1 p.2:=λp hp=>by
  cases ai.mp hp;exact⟨tok9,[],eb9,by decide,bY,λ_ h=>nomatch h⟩
 have nrg:rb≠lg:=λw=>by rw[w,lg10.1] at nrb;cases nrb
 clear lb10 lg10 sb10 lb8 rep8 sb8 s78 k9 hta9 mon9 sb9 nlg9 hb6 lb6 sb6
 dsimp only[Ay];refine Bf (t:=J7 _ _ _) (λσ' H'=>∃(cs:List Cz) (gs:List (Addr×Tg)) (v7:Option V),σ'=[some (.ref sa),some (.ref pl),some (.ref na),some (.ref d),some (.ref ra),some (.ref l),some (.ref lr),v7,v8,some (.ref lg),some (.ref rb)]/\Sv Ac Aa H H' pl d [lg] cs 15/\Gy H' lg gs/\(∀p∈gs,Vd (bm cs) (·∈zs) 6 p.2)/\(∃p∈gs,bm cs p.2.1=some (.folder []))/\gs.length<=6) (λN hN=>?_) ?_
 ·refine⟨5,rfl,by decide,by decide,?_⟩;refine CI (lo:=0) (λi σ H'=>∃(cs:List Cz) (gs:List (Addr×Tg)) (v7:Option V),σ=[some (.ref sa),some (.ref pl),some (.ref na),some (.ref d),some (.ref ra),some (.ref l),some (.ref lr),v7,v8,some (.ref lg),some (.ref rb)]/\Sv Ac Aa H H' pl d [lg] cs (10+i)/\Gy H' lr rs6/\Gy H' lg gs/\(∀p∈rs6,Pk (bm cs) 2 p.2)/\(∀p∈gs,Vd (bm cs) (·∈zs) (1+i) p.2)/\H' rb=some (.lst (mt.map V.int))/\gs.length=1+i/\∃p∈gs,bm cs p.2.1=some (.folder [])) ⟨cs9,[(ta9,tt9)],_,rfl,sb11,lb11,lg11,hb11,hg11,hrb,rfl,_,aw,eb9⟩ ?_ ?_
  ·rintro i σ H1 hi ⟨cs,gs,v7,rfl,sb,lb,lg,hb,hg,hrb1,lgs,pe,hpe,epe⟩
   have hi:i<5:=hi;refine⟨_,rfl,.inl ⟨rfl,_,AD.of lg.1⟩,_,rfl,_,rfl,_,rfl,_,rfl,_,_,rfl,rfl,.inl ⟨by decide,by decide⟩,_,rfl,_,rfl,_,rfl,?_⟩;refine⟨rb,na,lr,_,mt,_,zs,rs6,gs,rfl,hrb1,by omega,by omega,bmt,sb.kt.seq hna,zn,lz,lb.1,lg.1,lb.2,lg.2,(λe=>by rw[e] at lrs6;cases lrs6),by omega,by omega,λv es H2 s2 hv l3 he nde sso=>?_⟩;refine⟨_,rfl,_,rfl,_,_,rfl,rfl,.inl ⟨by decide,by decide⟩,_,_,rfl,rfl,rb,_,_,_,rfl,rfl,AD.of (s2.get hrb1),A2 _ (by omega) (by omega),_,_,rfl,rfl,(by show(0:Int)<5;decide),_,_,rfl,rfl,Cj (LF (K:=K) (b:=.folder es) (sb.on s2) (by omega) hv ⟨by omega,(λe h=>⟨zok _ (he e h).1,by rcases(he e h).2 with⟨k,_⟩|⟨k,_⟩<;>omega,by
    rcases(he e h).2 with⟨_,p,hp',e'⟩|⟨_,p,hp',e'⟩
    ·rw[e'];exact(hb p hp').1
    ·rw[e'];exact(hg p hp').1⟩),sso,nde⟩ (λt ht=>by
    obtain⟨e,h,rfl⟩:=af.mp ht;rcases(he e h).2 with⟨_,p,hp',e'⟩|⟨_,p,hp',e'⟩
    ·rw[e'];exact(hb p hp').2.some
    ·rw[e'];exact(hg p hp').2.some) (by have:=DD bmt (8*(0+(i:Int))+7).toNat;omega) λcs5 H5 ta5 tt5 sb5 k5 eb5 hta5 tok5 mon5=>?_)⟩
   have lb5:=(lb.same s2).kt k5;have lg5:=(lg.same s2).kt k5;refine⟨_,_,_,rfl,rfl,lg5.1,AU (by rw[aa];omega),cs5,gs++[(ta5,tt5)],_,rfl,Kk sb5 aw lg5.1 nlgH,⟨by rw[Ah (Ne.symm nlg)];exact lb5.1,λp hp'=>KT.lst lg5.1 _ _ _ (lb5.2 p hp')⟩,lg5.snoc hta5,λp hp'=>(hb p hp').mon mon5,λp hp'=>?_,by rw[Ah nrg];exact k5.lst (s2.get hrb1),by rw[au,lgs];show 1+i+1=_;omega,pe,aO _ hpe,mon5 _ _ epe⟩;rcases av.mp hp' with h|h
   ·exact((hg p h).mon mon5).up
   ·cases ai.mp h;rw[show 1+(i+1)=(1+i)+1 by omega];refine⟨tok5,es,eb5,l3,nde,λe h=>⟨(he e h).1,(he e h).2.imp (λ⟨k,p,hp',e'⟩=>⟨k,?_⟩) λ⟨k,p,hp',e'⟩=>⟨k,?_⟩⟩⟩
    ·rw[e'];exact((hb p hp').mon mon5).2
    ·rw[e'];exact((hg p hp').mon mon5).2
  ·rintro σ H1 ⟨cs,gs,v7,rfl,sb,lb,lg,hb,hg,hrb1,lgs,pe⟩
   exact hN _ _ ⟨cs,gs,_,rfl,sb,lg,hg,pe,by have:gs.length=1+5:=lgs;omega⟩
 ·rintro σ' H1 ⟨cs,gs,v7,rfl,sb,lg1,hg,pe,lgs⟩
  refine⟨_,rfl,_,rfl,Fy,λt nt=>?_⟩;have st:=Ak nt (.tup [.ref d,.ref lg]);exact q t d lg cs gs _ ((sb.on st).sub λ_ h=>nomatch h) Ad (st.get lg1.1) (lg1.2.same st) (λp hp=>(hg p hp).2) pe lgs
end
open M06
section
variable {P:Program}{w:World}{K:W.Frag}{mg:Str->Option Value}{base:Heap}{f Aj Aa Ac:Addr}{XC:Nat->Addr}{fd:FuncData}
abbrev JE (H:Hp)(q:Addr×Str×Int):Prop:=H q.1=some (.tup [.str q.2.1,.int q.2.2])
def J4 (e:HE):Prop:=(e.kd=1/\∃z,e.og=.inr z)\/(e.kd=2/\∃i,e.og=.inl i)
def OD (e:HE):Int:=match e.og with
 | .inl i=>i
 | .inr _=>0
theorem Tp {e:HE}(h:J4 e)(k:e.kd=2):kV e.og=.int (OD e):=by
 rcases h with⟨k',_⟩|⟨_,i,ei⟩
 ·omega
 ·unfold OD;rw[ei];rfl
theorem Yn {k:Int}(h:decide (V.int k=V.int 2)=true):k=2:=V.int.inj (aQ h)
def Fo (K:W.Frag):Sp:=λvs H Q _=>∃(l:Addr) (ps:List (Addr×HE)) (p:Addr×HE) (n:Int),vs=[.ref l,.ref p.1,.int n]/\H l=some (.lst (ps.map λp=>V.ref p.1))/\(∀p∈ps,Ih H p/\J4 p.2)/\ps.length<=50/\Ih H p/\p.2.kd=1/\J4 p.2/\0<=n/\
 ∀(a:Addr) (z:Str) H',Am H H'->Ih H' (a,⟨p.2.nm,p.2.kd,p.2.ow,.inr z,p.2.tg⟩)->Q (.ref a) H'
theorem LC (T:Txt K mg Aj Aa Ac XC)(F:Fun K "_law_grown" "_law_grown" CS f fd):FnOk P w K mg base Cf 1 f fd ["_law_entries_here","_law_stem","_law_number"] (Fo K):=by
 exists D5
 ·obtain⟨l,ps,p,n,rfl,_⟩:=h;rfl
 obtain⟨l,ps,p,n,rfl,hl,hps,few,hp,k1,og,n0,q⟩:=h;have hu:=BI hr;have hu9:=Ct hr;refine⟨_,(!Ag (@Eu _ ["_law_entry","_law_stem"] [none,some 1] (3) _ _ _ _ _ _ _ _ _ _ _ _ _ _ D5.nd rfl (by trivial) rfl (!BQ (pv 0)) (by rfl) rfl (by repeat (first|exact trivial|refine⟨rfl,?_⟩)) (by repeat (first|exact trivial|refine⟨λh=>(by first|exact⟨_,rfl⟩|cases h),?_⟩)) (λC s H fp=>⟨(@Ap _ _ (0) _ (show(["_law_entry","_law_stem"]:List Str).Nodup by decide +kernel) rfl (by trivial) (by trivial)),(!Ci (@PW.pt _ _ _ (!JD (!AE CV (!An (AW (K:=K) (by rfl)) (pv 0) (!Ae) (λ_ _=>rfl)) (!Ae) (AH _)) (!II (!AE CV (!An (AW (K:=K) (by rfl)) (pv 0) (!Ae) (λ_ _=>rfl)) (!An (AW (K:=K) (by rfl)) (pv 1) (!Ae) (λ_ _=>rfl)) (AH _)))))),(!An (AW (K:=K) (by rfl)) (pv 0) (!Ae) (λ_ _=>rfl))⟩) (by intro _;rfl) (by rfl) (by trivial)) (!Ag (@Au _ _ (4) _ _ _ _ D5.nd rfl (by trivial) (!Ax (Q3 (K:=K) (by rfl) rfl) (by rfl) T.b_min Wv (!Ab (!Ao IX (pv 3) (!Bb (!Ab (!Ao Pz (!Ae) (!Ae)) (!Af)))) (!Af))) (by rfl) (by trivial)) (!Ag (@Eu _ ["_law_entry","_law_least","_law_stem"] [none,some 4,some 1] (5) _ _ _ _ _ _ _ _ _ _ _ _ _ _ D5.nd rfl (by trivial) rfl (!BQ (pv 0)) (by rfl) rfl (by repeat (first|exact trivial|refine⟨rfl,?_⟩)) (by repeat (first|exact trivial|refine⟨λh=>(by first|exact⟨_,rfl⟩|cases h),?_⟩)) (λC s H fp=>⟨(@Ap _ _ (0) _ (show(["_law_entry","_law_least","_law_stem"]:List Str).Nodup by decide +kernel) rfl (by trivial) (by trivial)),(!Ci (@PW.pt _ _ _ (!JD (!AE CV (!An (AW (K:=K) (by rfl)) (pv 0) (!Ae) (λ_ _=>rfl)) (!Ae) (AH _)) (!JD (!AE NJ (!An (AW (K:=K) (by rfl)) (pv 0) (!Ae) (λ_ _=>rfl)) (!An (AW (K:=K) (by rfl)) (pv 2) (!Ae) (λ_ _=>rfl)) (AH _)) (!II (!AE Qf (!An (AW (K:=K) (by rfl)) (pv 0) (!Ae) (λ_ _=>rfl)) (pv 1) (AH _))))))),(!An (AW (K:=K) (by rfl)) (pv 0) (!Ae) (λ_ _=>rfl))⟩) (by intro _;rfl) (by rfl) (by trivial)) (!Ag (!BH (@PW.pt _ _ _ (!GS (!AE LO (!Ao AR (pv 2) (!Ae)) (!Ae) (AH _)) (!GK (!AE (VI hu) (pv 5) (!Bb (!Af)) (AH _))))) (!Al (!Av (pv 1))) (!AV)) (!Al (!Av (!Ao RT (!IB Wa (pv 1) (!Km) (!IV (!Ae))) (!BF (!Ab (!An AB (pv 5) (!Ao AR (!Ao Kn (pv 2) (!Ae)) (!Ax AM (by rfl) T.b_len BW (!Ab (pv 5) (!Af)))) (λ_ _=>rfl)) (!Ab (!An Az (pv 1) (!Ae) (λ_ _=>rfl)) (!Af))))))))))),?_⟩
 try dsimp only[Bh,Cx.nox,Cx.wish]
 obtain⟨tp,hp1,hp2⟩:=hp;have at5:∀(x:Addr×HE),x∈ps->∃ta,H x.1=some (.tup [.str x.2.nm,.int x.2.kd,.str x.2.ow,kV x.2.og,.ref ta]):=λx hx=>let⟨ta,h,_⟩:=(hps x hx).1;⟨ta,h⟩
 refine Aw ⟨_,rfl,l,rfl,⟨_,AD.of hl⟩,CH (ps:=ps) (λx=>decide (V.int x.2.kd=V.int 2)&&decide (V.str x.2.ow=V.str p.2.nm)) (λx=>.int (OD x.2)) (Co (AD.of hl)) (by omega) (λx hx H' R s' hR=>?_) (λx hx px H' R s' hR=>?_) λlo H1 nlo s1 hlo=>?_⟩
 ·obtain⟨ta,h⟩:=at5 x hx;refine Jd _ _ (λR q=>⟨_,rfl,x.1,_,_,_,rfl,rfl,AL.of (s'.get h),Ar (j:=1) rfl,rfl,_,rfl,q⟩) (λ_ R q=>⟨_,rfl,x.1,_,_,_,rfl,rfl,AL.of (s'.get h),Ar (j:=2) rfl,_,rfl,p.1,_,_,_,rfl,rfl,AL.of (s'.get hp1),Ar (j:=0) rfl,rfl,_,rfl,q⟩) hR
 ·obtain⟨ta,h⟩:=at5 x hx;have e:=Tp (hps x hx).2 (Yn (Bool.and_eq_true_iff.mp px).1);have:=hR H' (Am.refl _);rw[<-e] at this;exact⟨_,rfl,x.1,_,_,_,rfl,rfl,AL.of (s'.get h),Ar (j:=3) rfl,this⟩
 have lfil:∀g:Addr×HE->Bool,(ps.filter g).length<=50:=λg=>bA (bq g ps) few
 have hlo':H1 lo=some (.lst (((ps.filter λx=>decide (V.int x.2.kd=V.int 2)&&decide (V.str x.2.ow=V.str p.2.nm)).map λx=>OD x.2).map V.int)):=by rw[hlo,aq];rfl
 have lo50:=lfil λx=>decide (V.int x.2.kd=V.int 2)&&decide (V.str x.2.ow=V.str p.2.nm)
 dsimp only[Ay];generalize (ps.filter λx=>decide (V.int x.2.kd=V.int 2)&&decide (V.str x.2.ow=V.str p.2.nm))=os at hlo' lo50;refine Aw ⟨_,rfl,_,_,rfl,rfl,⟨by decide,by decide,by decide⟩,Td,λl1 nl1=>?_⟩;have s2:=Ak nl1 (.lst [.int (10^(9:Int).toNat)]);refine⟨lo,l1,_,_,rfl,rfl,AD.of (s2.get hlo'),AD.of Ad,small (by rw[aa,aa];show _+1<=_;omega),λl2 nl2=>?_⟩;have s3:=Ak nl2 (.lst ((os.map λx=>OD x.2).map V.int++[.int (10^(9:Int).toNat)]));refine⟨l2,(os.map λx=>OD x.2)++[10^(9:Int).toNat],rfl,AD.of (by rw[Ad,aj];rfl),(by simp),λm _ _=>?_⟩;have s13:=s1.trans (s2.trans s3);generalize upd (upd H1 l1 (.lst [.int (10^(9:Int).toNat)])) l2 (.lst ((os.map λx=>OD x.2).map V.int++[.int (10^(9:Int).toNat)]))=H3 at s13;dsimp only[Ay];refine Aw ⟨_,rfl,l,rfl,⟨_,AD.of (s13.get hl)⟩,CH (ps:=ps) (λx=>decide (V.int x.2.kd=V.int 2)&&(!decide (V.str x.2.ow=V.str p.2.nm)&&decide (OD x.2<m))) (λx=>.str x.2.nm) (Co (AD.of (s13.get hl))) (by omega) (λx hx H' R s' hR=>?_) (λx hx px H' R s' hR=>?_) λls H4 nls s4 hls=>?_⟩
 ·obtain⟨ta,h⟩:=at5 x hx;have h':=s'.get (s13.get h);refine Jd _ _ (λR q=>⟨_,rfl,x.1,_,_,_,rfl,rfl,AL.of h',Ar (j:=1) rfl,rfl,_,rfl,q⟩) (λc R q=>Jd _ _ (λR q=>⟨_,rfl,x.1,_,_,_,rfl,rfl,AL.of h',Ar (j:=2) rfl,_,rfl,p.1,_,_,_,rfl,rfl,AL.of (s'.get (s13.get hp1)),Ar (j:=0) rfl,rfl,_,rfl,q⟩) (λ_ R q=>?_) q) hR;have e:=Tp (hps x hx).2 (Yn c);rw[e] at h';exact⟨_,rfl,x.1,_,_,_,rfl,rfl,AL.of h',Ar (j:=3) rfl,_,rfl,_,_,rfl,rfl,_,rfl,q⟩
 ·obtain⟨ta,h⟩:=at5 x hx;exact⟨_,rfl,x.1,_,_,_,rfl,rfl,AL.of (s'.get (s13.get h)),Ar (j:=0) rfl,hR H' (Am.refl _)⟩
 have ls50:=lfil λx=>decide (V.int x.2.kd=V.int 2)&&(!decide (V.str x.2.ow=V.str p.2.nm)&&decide (OD x.2<m))
 dsimp only[Ay];generalize (ps.filter λx=>decide (V.int x.2.kd=V.int 2)&&(!decide (V.str x.2.ow=V.str p.2.nm)&&decide (OD x.2<m)))=ss at hls ls50;have s14:=s13.trans s4;have same:∀H',Am H H'->Q (.ref p.1) H':=λH' s'=>by
  obtain⟨z,ez⟩:∃z,p.2.og=.inr z:=by
   rcases og with⟨_,z⟩|⟨k,_⟩
   ·exact z
   ·omega
  exact q p.1 z H' s' ⟨tp,by rw[<-ez];exact s'.get hp1,s'.get hp2⟩
 refine⟨_,rfl,_,_,rfl,rfl,(by show(0:Int)<3;decide),_,_,rfl,rfl,_,rfl,Et (λc=>Fe rfl ⟨_,rfl,same _ s14⟩) (λc=>?_)⟩;refine⟨_,rfl,HX,λle nle=>?_⟩;have s5:=Ak nle (.lst []);refine⟨ls,le,_,rfl,rfl,AD.of (s5.get hls),AD.of Ad,_,rfl,Et (λc=>⟨_,rfl,same _ (s14.trans s5)⟩) (λc=>?_)⟩;have ne:0<ss.length:=bV.mpr λe=>c (by rw[e];rfl)
 have s15:=s14.trans s5;obtain⟨v,hv,hat⟩:=JJ (xs:=ss.map λx=>V.str x.2.nm) (n:=(ss.length:Int)) (by rw[aa]) (by omega) (n/3);obtain⟨x,_,rfl⟩:=af.mp hv;dsimp only[N9];refine⟨_,rfl,_,rfl,p.1,_,rfl,AL.of (s15.get hp1),(by show ¬(HT.Ed 5 0 none=0/\HT.Ed 5 5 (some 3)=5);decide),λt1 nt1=>?_⟩;have s6:=Ak nt1 (.tup [.str p.2.nm,.int p.2.kd,.str p.2.ow]);refine⟨_,rfl,_,rfl,_,_,rfl,rfl,⟨by decide,by decide⟩,_,rfl,ls,_,rfl,.inl (AD.of (s6.get (s5.get hls))),_,_,rfl,rfl,(by rw[aa];show(0:Int)<(ss.length:Int);omega),ls,_,_,_,rfl,rfl,AD.of (s6.get (s5.get hls)),(by rw[aa];exact hat),_,rfl,p.1,_,_,_,rfl,rfl,AL.of (s6.get (s15.get hp1)),Ar (j:=4) rfl,Fy,λt2 nt2=>?_⟩;have s7:=Ak nt2 (.tup [.str x.2.nm,.ref tp]);refine⟨t1,t2,_,_,rfl,rfl,AL.of (s7.get Ad),AL.of Ad,VR,(λe=>nomatch e),(λ_ e=>nomatch e),λ_ _ t3 nt3=>?_⟩;have s8:=Ak nt3 (.tup [.str p.2.nm,.int p.2.kd,.str p.2.ow,.str x.2.nm,.ref tp]);have s18:=s15.trans (s6.trans (s7.trans s8));exact q t3 x.2.nm _ s18 ⟨tp,Ad,s18.get hp2⟩
def Lx (es:List HE):List Int:=(es.filter λe=>decide (e.kd=2)).map OD
def Rg (e:HE):Int×Int:=(e.kd,if e.kd=2 then OD e else 0)
theorem Sa:∀es:List HE,Lx es=((es.map Rg).filter λp=>decide (p.1=2)).map (·.2)
 |[]=>rfl
 |e::es=>by
  have ih:=Sa es;unfold Lx at ih ⊢;rw[ao,cq,cq]
  by_cases k:e.kd=2
  ·rw[aG (aE k),aG (show decide ((Rg e).1=2)=true from aE k),ao,ao,ih];unfold Rg;rw[aG k]
  ·rw[aJ (λz=>k (aQ z)),aJ (show ¬decide ((Rg e).1=2)=true from λz=>k (aQ z)),ih]
theorem Qw (a b:List HE):Lx (a++b)=Lx a++Lx b:=by unfold Lx;rw[cV,aj]
def XG (k:Addr×Str×Int):Prop:=0<=k.2.2/\k.2.2<=1000000000
def FL (K:W.Frag):Sp:=λvs H Q _=>∃(sa na fo:Addr) (ns:List Int) (zs:List Str) (gs:List (Addr×Tg)),vs=[.ref sa,.ref na,.ref fo]/\AD K H sa (ns.map V.int)/\AD K H na (zs.map V.str)/\zs.length=18/\zs.Nodup/\Gy H fo gs/\gs≠[]/\gs.length<=50/\
 ∀h ag ka ea (ks:List (Addr×Str×Int)) (ps:List (Addr×HE)) H',Am H H'->H' h=some (.tup [.int ag,.ref ka,.ref ea])->H' ka=some (.tup (ks.map λp=>V.ref p.1))->(∀k∈ks,JE H' k)->(ks.map (·.2.1)).Nodup->ks.length<=8->H' ea=some (.tup (ps.map λp=>V.ref p.1))->(∀p∈ps,Ih H' p/\J4 p.2/\p.2.nm∈zs/\∃g∈gs,p.2.tg=g.2)->(ps.map (·.2.nm)).Nodup->ps.length<=12->(Lx (ps.map (·.2))).Nodup->(∀k∈ks,XG k)->Q (.ref h) H'
theorem MS (T:Txt K mg Aj Aa Ac XC)(F:Fun K "_law_head" "_law_head" Dc f fd)(BS:Def P w K mg base 1 "_law_row" ["_law_cell","_law_many"] (Eb K))(AZ:Def P w K mg base 1 "_law_cell_at" ["_law_script","_law_k"] (Cg K))(Gs:Def P w K mg base 1 "_law_grown" ["_law_entries_here","_law_stem","_law_number"] (Fo K)):FnOk P w K mg base Cf 2 f fd ["_law_script","_law_names_here","_law_folders"] (FL K):=by
 exists AX
 ·obtain⟨sa,na,fo,ns,zs,gs,rfl,_⟩:=h;rfl
 obtain⟨sa,na,fo,ns,zs,gs,rfl,hsa,hna,lz,ndz,hfo,gn,lg,q⟩:=h;have hu:=BI hr;have hu9:=Ct hr;refine⟨_,(!Ag (@Au _ _ (3) _ _ _ _ AX.nd rfl (by trivial) (!AC BS (by trivial) rfl (!Ab (!AC AZ (by trivial) rfl (!Ab (pv 0) (!Ab (!Ae) (!Af)))) (!Ab (!Ae) (!Af)))) (by rfl) (by trivial)) (!Ag (@Au _ _ (4) _ _ _ _ AX.nd rfl (by trivial) (!Bb (!Af)) (by rfl) (by trivial)) (!Ag (!BR aW rfl (!Bn rfl T.b_range (!Ab (!Ao AF (!Ae) (!Ao AR (!An AB (pv 3) (!Ae) (λ_ _=>rfl)) (!Ae))) (!Af))) (@Ap _ _ (5) _ AX.nd rfl (by trivial) (by trivial)) (!Ag (@Au _ _ (6) _ _ _ _ AX.nd rfl (by trivial) (!An AB (!Bb (!Ab (!An AB (pv 3) (!Ao AF (!Ae) (pv 5)) (λ_ _=>rfl)) (!Ab (!Ao AF (!Ao Bt (!Ae) (!An AB (pv 3) (!Ao AF (!Ae) (pv 5)) (λ_ _=>rfl))) (!An AB (pv 3) (!Ae) (λ_ _=>rfl))) (!Ab (!Ao V9 (!Ao Pz (!Ae) (!Ae)) (!Ae)) (!Af))))) (!Ao AR (!An AB (pv 3) (!Ao AF (!Ae) (pv 5)) (λ_ _=>rfl)) (!Ae)) (λ_ _=>rfl)) (by rfl) (by trivial)) (!Al (!Bl (!C4 aP bu br BD (pv 4) (!Ab (!BF (!Ab (!An AB (pv 1) (!Ao AF (!Ae) (pv 5)) (λ_ _=>rfl)) (!Ab (pv 6) (!Af)))) (!Af)))))) (by intro _;rfl)) (!Ag (@Au _ _ (7) _ _ _ _ AX.nd rfl (by trivial) (!Bb (!Af)) (by rfl) (by trivial)) (!Ag (!BR aW rfl (!Bn rfl T.b_range (!Ab (!Ao AR (!An AB (pv 3) (!Ae) (λ_ _=>rfl)) (!Ae)) (!Af))) (@Ap _ _ (5) _ AX.nd rfl (by trivial) (by trivial)) (!Ag (@Au _ _ (8) _ _ _ _ AX.nd rfl (by trivial) (!An AB (pv 2) (!Ao AR (!An AB (pv 3) (!Ao AF (!Ae) (!Ao Bt (!Ae) (pv 5))) (λ_ _=>rfl)) (!Ax AM (by rfl) T.b_len BW (!Ab (pv 2) (!Af)))) (λ_ _=>rfl)) (by rfl) (by trivial)) (!Ag (@Au _ _ (9) _ _ _ _ AX.nd rfl (by trivial) (!An AB (!Bb (!Ab (!An AB (pv 3) (!Ao AF (!Ae) (!Ao Bt (!Ae) (pv 5))) (λ_ _=>rfl)) (!Ab (pv 5) (!Af)))) (!Ao AR (!An AB (pv 3) (!Ae) (λ_ _=>rfl)) (!Ae)) (λ_ _=>rfl)) (by rfl) (by trivial)) (!Al (!Bl (!C4 aP bu br BD (pv 7) (!Ab (!BF (!Ab (!An AB (pv 1) (pv 5) (λ_ _=>rfl)) (!Ab (!Ae) (!Ab (!An Az (!An AB (pv 4) (!Ao AR (pv 9) (!Ax AM (by rfl) T.b_len BW (!Ab (pv 4) (!Af)))) (λ_ _=>rfl)) (!Ae) (λ_ _=>rfl)) (!Ab (!Jn) (!Ab (pv 8) (!Af))))))) (!Af))))))) (by intro _;rfl)) (!Ag (!BR aW rfl (!Bn rfl T.b_range (!Ab (!Ao Bt (!Ao AR (!An AB (pv 3) (!Ae) (λ_ _=>rfl)) (!Ae)) (!Bj Jf (by rfl) T.b_int JB (!Ab (!EA (Sn hu) (pv 7) (!Bb (!Af)) (AH _)) (!Af)))) (!Af))) (@Ap _ _ (5) _ AX.nd rfl (by trivial) (by trivial)) (!Ag (@Au _ _ (8) _ _ _ _ AX.nd rfl (by trivial) (!An AB (pv 2) (!Ao AR (!An AB (pv 3) (!Ao AF (!Ae) (!Ao Bt (!Ae) (pv 5))) (λ_ _=>rfl)) (!Ax AM (by rfl) T.b_len BW (!Ab (pv 2) (!Af)))) (λ_ _=>rfl)) (by rfl) (by trivial)) (!Ag (@Au _ _ (10) _ _ _ _ AX.nd rfl (by trivial) (!An Az (!An AB (pv 7) (!Ao AR (!An AB (pv 3) (!Ao AF (!Ae) (!Ao Bt (!Ae) (pv 5))) (λ_ _=>rfl)) (!Ao AR (!An AB (pv 3) (!Ae) (λ_ _=>rfl)) (!Ae))) (λ_ _=>rfl)) (!Ae) (λ_ _=>rfl)) (by rfl) (by trivial)) (!Al (!Bl (!C4 aP bu br BD (pv 7) (!Ab (!BF (!Ab (!An AB (pv 1) (!Ao AF (!Ae) (pv 5)) (λ_ _=>rfl)) (!Ab (!Ae) (!Ab (pv 10) (!Ab (!Ao AF (!Ao AF (!Ae) (!An AB (pv 3) (!Ae) (λ_ _=>rfl))) (!Ao Bt (!Ae) (pv 5))) (!Ab (pv 8) (!Af))))))) (!Af))))))) (by intro _;rfl)) (!Ag (!BR aW rfl (!Bn rfl T.b_range (!Ab (!Ao AR (!An AB (pv 3) (!Ae) (λ_ _=>rfl)) (!Ae)) (!Af))) (@Ap _ _ (5) _ AX.nd rfl (by trivial) (by trivial)) (!Al (!OR (!AC Gs (by trivial) rfl (!Ab (pv 7) (!Ab (!An AB (pv 7) (pv 5) (λ_ _=>rfl)) (!Ab (!An AB (pv 3) (!Ao AF (!Ae) (pv 5)) (λ_ _=>rfl)) (!Af))))) (!VF (pv 7) (pv 5) set_list (by intro _;rfl)))) (by intro _;rfl)) (!Al (!Av (!BF (!Ab (!An AB (pv 3) (!Ae) (λ_ _=>rfl)) (!Ab (!Bj D2 (by rfl) T.b_tuple GR (!Ab (!Ax (JO (K:=K) (by rfl)) (by rfl) T.b_sorted EK (!Ab (pv 4) (!Af))) (!Af))) (!Ab (!Bj D2 (by rfl) T.b_tuple GR (!Ab (!Ax (JO (K:=K) (by rfl)) (by rfl) T.b_sorted EK (!Ab (pv 7) (!Af))) (!Af))) (!Af)))))))))))))),?_⟩
 try dsimp only[Bh,Cx.nox,Cx.wish]
 have Z:∀k:Int,0<=k->k<18->∃z,zs[k.toNat]?=some z/\JS (zs.map V.str) k=some (.str z):=λk h0 h1=>by
  have hk:k.toNat<zs.length:=by omega
  refine⟨zs[k.toNat],ab hk,?_⟩;have:=Ar (xs:=zs.map V.str) (j:=k.toNat) (v:=.str zs[k.toNat]) (by rw[az,ab hk];rfl)
  rwa [show((k.toNat:Nat):Int)=k by omega] at this
 refine Aw ⟨_,rfl,sa,ns,3,rfl,by decide,hsa,λc1=>⟨c1,60,rfl,by decide,by decide,λra H1 ms s1 nra hra lms bms=>?_⟩⟩;have lms:ms.length=60:=lms;have A:∀k:Int,0<=k->k<60->JS (ms.map V.int) k=some (.int (ms.getD k.toNat 0)):=λk h0 h1=>Du h0 (by omega)
 dsimp only[Ay];refine Aw ⟨HX,λlk nlk=>?_⟩;have s2:=Ak nlk (.lst []);have hlk2:(upd H1 lk (.lst [])) lk=some (.lst []):=Ad;generalize upd H1 lk (.lst [])=H2 at s2 hlk2;have s12:=s1.trans s2;have nlkH:=s1.free nlk;have nrk:ra≠lk:=λw=>by rw[w] at hra;rw[hra] at nlk;cases nlk
 dsimp only[Ay];obtain⟨x0,x1⟩:=DD bms (0:Int).toNat;refine Bf (t:=J7 _ _ _) (λσ' H'=>∃(ks:List (Addr×Str×Int)) (v5 v6:Option V),σ'=[some (.ref sa),some (.ref na),some (.ref fo),some (.ref ra),some (.ref lk),v5,v6,none,none,none,none]/\Am H H'/\H' ra=some (.lst (ms.map V.int))/\H' lk=some (.lst (ks.map λp=>V.ref p.1))/\(∀k∈ks,JE H' k)/\(ks.map (·.2.1)).Nodup/\ks.length<=8/\ks≠[]/\∀k∈ks,XG k) (λN hN=>?_) ?_
 ·refine⟨_,rfl,ra,_,_,_,rfl,rfl,AD.of (s2.get hra),A 0 (by decide) (by decide),_,_,rfl,rfl,(by show(0:Int)<8;decide),_,_,rfl,rfl,_,rfl,by omega,by omega,?_⟩;refine CI (lo:=0) (λi σ H'=>∃(ks:List (Addr×Str×Int)) (v5 v6:Option V),σ=[some (.ref sa),some (.ref na),some (.ref fo),some (.ref ra),some (.ref lk),v5,v6,none,none,none,none]/\Am H H'/\H' ra=some (.lst (ms.map V.int))/\H' lk=some (.lst (ks.map λp=>V.ref p.1))/\(∀k∈ks,JE H' k)/\ks.map (·.2.1)=(zs.drop 10).take i/\ks.length=i/\∀k∈ks,XG k) ⟨[],none,none,rfl,s12,s2.get hra,hlk2,(λ_ h=>nomatch h),rfl,rfl,(λ_ h=>nomatch h)⟩ ?_ ?_
  ·rintro i σ H3 hi ⟨ks,v5,v6,rfl,s3,hra3,hlk3,hks,eks,lks,kbd⟩
   have i8:i<8:=by omega
   refine Aw ⟨_,rfl,_,rfl,_,_,rfl,rfl,ra,_,_,_,rfl,rfl,AD.of hra3,A _ (by omega) (by omega),_,rfl,_,rfl,_,_,rfl,rfl,ra,_,_,_,rfl,rfl,AD.of hra3,A _ (by omega) (by omega),_,_,rfl,rfl,.inl ⟨by decide,by decide⟩,_,rfl,ra,_,_,_,rfl,rfl,AD.of hra3,A 5 (by decide) (by decide),_,_,rfl,rfl,_,_,rfl,rfl,⟨by decide,by decide,by decide⟩,_,_,rfl,rfl,MD,λlb nlb=>?_⟩;obtain⟨v,hv,hat⟩:=JJ (xs:=[V.int (ms.getD (44+(0+(i:Int))).toNat 0),V.int (10*ms.getD (44+(0+(i:Int))).toNat 0+ms.getD (5:Int).toNat 0),V.int (10^(9:Int).toNat-1)]) (n:=3) rfl (by decide) (ms.getD (52+(0+(i:Int))).toNat 0);obtain⟨bd,rfl,hbd⟩:∃bd:Int,v=.int bd/\0<=bd/\bd<=1000000000:=by
    obtain⟨y0,y1⟩:=DD bms (44+(0+(i:Int))).toNat;obtain⟨y2,y3⟩:=DD bms (5:Int).toNat;rcases aL.mp hv with h|hv
    ·exact⟨_,h,by omega,by omega⟩
    ·rcases aL.mp hv with h|hv
     ·exact⟨_,h,by omega,by omega⟩
     ·exact⟨_,ai.mp hv,by decide,by decide⟩
   have s4:=Ak nlb (.lst [V.int (ms.getD (44+(0+(i:Int))).toNat 0),V.int (10*ms.getD (44+(0+(i:Int))).toNat 0+ms.getD (5:Int).toNat 0),V.int (10^(9:Int).toNat-1)]);refine⟨_,rfl,_,rfl,_,_,rfl,rfl,ra,_,_,_,rfl,rfl,AD.of (s4.get hra3),A _ (by omega) (by omega),_,_,rfl,rfl,(by show(0:Int)<3;decide),lb,_,_,_,rfl,rfl,AD.of Ad,hat,?_⟩;have s34:=s3.trans s4;have hra4:=s4.get hra3;have hlk4:=s4.get hlk3;have hks4:∀k∈ks,JE _ k:=λk hk=>s4.get (hks k hk)
   dsimp only[Ay];generalize upd H3 lb (.lst [V.int (ms.getD (44+(0+(i:Int))).toNat 0),V.int (10*ms.getD (44+(0+(i:Int))).toNat 0+ms.getD (5:Int).toNat 0),V.int (10^(9:Int).toNat-1)])=H4 at s34 hra4 hlk4 hks4;obtain⟨z,hz,haz⟩:=Z (10+(0+(i:Int))) (by omega) (by omega);refine⟨_,rfl,.inl ⟨rfl,_,AD.of hlk4⟩,_,rfl,_,rfl,_,_,rfl,rfl,na,_,_,_,rfl,rfl,s34.seq hna,haz,_,rfl,Fy,λt nt=>?_⟩;have s5:=Ak nt (.tup [.str z,.int bd]);have hlk5:=s5.get hlk4;refine⟨lk,_,_,rfl,rfl,hlk5,AU (by rw[aa];omega),ks++[(t,z,bd)],_,_,rfl,AI (s34.trans s5) nlkH _,by rw[Ah nrk];exact s5.get hra4,by rw[Ad,aj];rfl,λk hk=>KT.lst hlk5 _ _ _ ?_,?_,by rw[au,lks];rfl,λk hk=>?_⟩
   ·rcases av.mp hk with h|h
    ·exact s5.get (hks4 k h)
    ·cases ai.mp h;exact Ad
   ·rw[aj,eks,aS,List.getElem?_drop,show 10+i=(10+(0+(i:Int))).toNat by omega,hz];rfl
   ·rcases av.mp hk with h|h
    ·exact kbd k h
    ·cases ai.mp h;exact hbd
  ·rintro σ H3 ⟨ks,v5,v6,rfl,s3,hra3,hlk3,hks,eks,lks,kbd⟩
   refine hN _ _ ⟨ks,_,_,rfl,s3,hra3,hlk3,hks,?_,by omega,λe=>by rw[e] at lks;simp at lks;omega,kbd⟩;rw[eks];exact(ndz.sublist (List.drop_sublist _ _)).sublist (dc _ _)
 rintro σ' H3 ⟨ks,v5,v6,rfl,s3,hra3,hlk3,hks3,ndk,lks,kn,kbd⟩
 refine Aw ⟨HX,λle nle=>?_⟩;have s4:=Ak nle (.lst []);have hle4:(upd H3 le (.lst [])) le=some (.lst []):=Ad;have hks4:∀k∈ks,JE (upd H3 le (.lst [])) k:=λk hk=>s4.get (hks3 k hk)
 have nke:lk≠le:=λw=>by rw[<-w,hlk3] at nle;cases nle
 have nre:ra≠le:=λw=>by rw[<-w,hra3] at nle;cases nle
 generalize upd H3 le (.lst [])=H4 at s4 hle4 hks4;have s14:=s3.trans s4;have hra4:=s4.get hra3;have hlk4:=s4.get hlk3;have nleH:=s3.free nle
 clear hks3 hra3 hlk3
 dsimp only[Ay];have pk:0<ks.length:=bV.mpr kn;have pg:0<gs.length:=bV.mpr gn;obtain⟨y0,y1⟩:=DD bms (10:Int).toNat;have m0:=bw (ms.getD (10:Int).toNat 0) (show(9:Int)≠0 by decide);have m1:=bc (ms.getD (10:Int).toNat 0) (show(0:Int)<9 by decide);refine Bf (t:=J7 _ _ _) (λσ' H'=>∃(ps:List (Addr×HE)) (v5 v8 v9:Option V),σ'=[some (.ref sa),some (.ref na),some (.ref fo),some (.ref ra),some (.ref lk),v5,v6,some (.ref le),v8,v9,none]/\Am H H'/\H' ra=some (.lst (ms.map V.int))/\H' lk=some (.lst (ks.map λp=>V.ref p.1))/\(∀k∈ks,JE H' k)/\H' le=some (.lst (ps.map λp=>V.ref p.1))/\(∀p∈ps,Ih H' p/\J4 p.2/\∃g∈gs,p.2.tg=g.2)/\ps.map (·.2.nm)=zs.take (ms.getD (10:Int).toNat 0%9).toNat/\∀p∈ps,p.2.kd=1) (λN hN=>?_) ?_
 ·refine⟨_,rfl,ra,_,_,_,rfl,rfl,AD.of hra4,A 10 (by decide) (by decide),_,_,rfl,rfl,(by show(0:Int)<9;decide),_,rfl,by omega,by omega,?_⟩;refine CI (lo:=0) (λi σ H'=>∃(ps:List (Addr×HE)) (v5 v8 v9:Option V),σ=[some (.ref sa),some (.ref na),some (.ref fo),some (.ref ra),some (.ref lk),v5,v6,some (.ref le),v8,v9,none]/\Am H H'/\H' ra=some (.lst (ms.map V.int))/\H' lk=some (.lst (ks.map λp=>V.ref p.1))/\(∀k∈ks,JE H' k)/\H' le=some (.lst (ps.map λp=>V.ref p.1))/\(∀p∈ps,Ih H' p/\J4 p.2/\∃g∈gs,p.2.tg=g.2)/\ps.map (·.2.nm)=zs.take i/\∀p∈ps,p.2.kd=1) ⟨[],_,none,none,rfl,s14,hra4,hlk4,hks4,hle4,(λ_ h=>nomatch h),rfl,(λ_ h=>nomatch h)⟩ ?_ ?_
  ·rintro i σ H5 hi ⟨ps,v5,v8,v9,rfl,s5,hra5,hlk5,hks5,hle5,hps,eps,kps⟩
   have i8:i<8:=by omega
   have lps:ps.length=i:=by have:=congrArg List.length eps;rw[aa,aV] at this;omega
   have fo5:=hfo.same s5;obtain⟨g,hg,hag⟩:=fo5.at (n:=(gs.length:Int)) rfl (by omega) (ms.getD (11+2*(0+(i:Int))).toNat 0);have lgs:(((gs.map λp=>V.ref p.1).length:Nat):Int)=(gs.length:Int):=by rw[aa]
   refine Aw ⟨_,rfl,_,rfl,_,rfl,_,_,rfl,rfl,.inl ⟨by decide,by decide⟩,_,_,rfl,rfl,ra,_,_,_,rfl,rfl,AD.of hra5,A _ (by omega) (by omega),_,rfl,fo,_,rfl,.inl (AD.of fo5.1),_,_,rfl,rfl,(by show(0:Int)<_;rw[lgs];omega),fo,_,_,_,rfl,rfl,AD.of fo5.1,(by rw[lgs];exact hag),?_⟩;dsimp only[Ay];refine Aw ⟨_,rfl,_,rfl,_,_,rfl,rfl,.inl ⟨by decide,by decide⟩,_,_,rfl,rfl,ra,_,_,_,rfl,rfl,AD.of hra5,A _ (by omega) (by omega),_,rfl,Fy,λlb nlb=>?_⟩;obtain⟨v,hv,hat⟩:=JJ (xs:=[V.int (ms.getD (12+2*(0+(i:Int))).toNat 0),V.int (0+(i:Int))]) (n:=2) rfl (by decide) (ms.getD (43:Int).toNat 0);obtain⟨wi,rfl⟩:∃wi:Int,v=.int wi:=by
    rcases aL.mp hv with h|hv
    ·exact⟨_,h⟩
    ·exact⟨_,ai.mp hv⟩
   have s6:=Ak nlb (.lst [V.int (ms.getD (12+2*(0+(i:Int))).toNat 0),V.int (0+(i:Int))]);refine⟨_,rfl,ra,_,_,_,rfl,rfl,AD.of (s6.get hra5),A 43 (by decide) (by decide),_,_,rfl,rfl,(by show(0:Int)<2;decide),lb,_,_,_,rfl,rfl,AD.of Ad,hat,?_⟩;have s56:=s5.trans s6;have hra6:=s6.get hra5;have hlk6:=s6.get hlk5;have hle6:=s6.get hle5;have hks6:∀k∈ks,JE _ k:=λk hk=>s6.get (hks5 k hk)
   have hps6:∀p∈ps,Ih _ p:=λp hp=>(hps p hp).1.same s6
   have hg6:=s6.get (fo5.2 g hg);dsimp only[Ay];generalize upd H5 lb (.lst [V.int (ms.getD (12+2*(0+(i:Int))).toNat 0),V.int (0+(i:Int))])=H6 at s56 hra6 hlk6 hle6 hks6 hps6 hg6;obtain⟨z,hz,haz⟩:=Z (0+(i:Int)) (by omega) (by omega);obtain⟨u,hu',hau⟩:=JJ (xs:=ks.map λp=>V.ref p.1) (n:=(ks.length:Int)) (by rw[aa]) (by omega) wi;obtain⟨kp,hkp,rfl⟩:=af.mp hu';have lks':(((ks.map λp=>V.ref p.1).length:Nat):Int)=(ks.length:Int):=by rw[aa]
   refine⟨_,rfl,.inl ⟨rfl,_,AD.of hle6⟩,_,rfl,_,rfl,na,_,_,_,rfl,rfl,s56.seq hna,haz,_,rfl,_,rfl,_,rfl,lk,_,rfl,.inl (AD.of hlk6),_,_,rfl,rfl,(by show(0:Int)<_;rw[lks'];omega),lk,_,_,_,rfl,rfl,AD.of hlk6,(by rw[lks'];exact hau),kp.1,_,_,_,rfl,rfl,AL.of (hks6 kp hkp),Ar (j:=0) rfl,_,rfl,VR,λt nt=>?_⟩;have s7:=Ak nt (.tup [.str z,.int 1,.str kp.2.1,.str EM,.ref g.1]);have hle7:=s7.get hle6;have kt:=KT.lst hle7 (.lst (ps.map (λp=>V.ref p.1)++[.ref t]));refine⟨le,_,_,rfl,rfl,hle7,AU (by rw[aa];omega),ps++[(t,⟨z,1,kp.2.1,.inr EM,g.2⟩)],_,_,_,rfl,AI (s56.trans s7) nleH _,by rw[Ah nre];exact s7.get hra6,by rw[Ah nke];exact s7.get hlk6,λk hk=>kt _ _ (s7.get (hks6 k hk)),by rw[Ad,aj];rfl,λp hp=>?_,?_,λp hp=>?_⟩
   ·rcases av.mp hp with h|h
    ·obtain⟨ta,e1,e2⟩:=hps6 p h;exact⟨⟨ta,kt _ _ (s7.get e1),kt _ _ (s7.get e2)⟩,(hps p h).2⟩
    ·cases ai.mp h;exact⟨⟨g.1,kt _ _ Ad,kt _ _ (s7.get hg6)⟩,.inl ⟨rfl,_,rfl⟩,g,hg,rfl⟩
   ·rw[aj,eps,aS,show i=(0+(i:Int)).toNat by omega,hz,show(0+(i:Int)).toNat=i by omega];rfl
   ·rcases av.mp hp with h|h
    ·exact kps p h
    ·cases ai.mp h;rfl
  ·rintro σ H5 ⟨ps,v5,v8,v9,rfl,s5,hra5,hlk5,hks5,hle5,hps,eps,kps⟩
   exact hN _ _ ⟨ps,_,_,_,rfl,s5,hra5,hlk5,hks5,hle5,hps,eps,kps⟩
 rintro σ' H5 ⟨ps,v5,v8,v9,rfl,s5,hra5,hlk5,hks5,hle5,hps5,eps,kps⟩
 have A10:=A 10 (by decide) (by decide);generalize hn1:ms.getD (10:Int).toNat 0%9=n1 at m0 m1 eps;have lps:ps.length=n1.toNat:=by have:=congrArg List.length eps;rw[aa,aV] at this;omega
 refine Bf (t:=J7 _ _ _) (λσ' H'=>∃(ss:List (Addr×HE)) (v5 v8 v10:Option V),σ'=[some (.ref sa),some (.ref na),some (.ref fo),some (.ref ra),some (.ref lk),v5,v6,some (.ref le),v8,v9,v10]/\Am H H'/\H' ra=some (.lst (ms.map V.int))/\H' lk=some (.lst (ks.map λp=>V.ref p.1))/\(∀k∈ks,JE H' k)/\H' le=some (.lst ((ps++ss).map λp=>V.ref p.1))/\(∀p∈ps++ss,Ih H' p/\J4 p.2/\∃g∈gs,p.2.tg=g.2)/\(∃n2,n2<=4/\ss.map (·.2.nm)=(zs.drop 8).take n2)/\ss.length<=4/\(Lx (ss.map (·.2))).Nodup) (λN hN=>?_) ?_
 ·obtain⟨w0,w1⟩:=DD bms (30:Int).toNat;have q0:=bw (ms.getD (30:Int).toNat 0) (show(5:Int)≠0 by decide);have q1:=bc (ms.getD (30:Int).toNat 0) (show(0:Int)<5 by decide);obtain⟨n2,en2,b0,b1,bp⟩:∃n2:Int,ms.getD (30:Int).toNat 0%5*(if(if true=true then !decide ((ps.map λp=>V.ref p.1)=[]) else decide ((ps.map λp=>V.ref p.1)=[]))=true then 1 else 0)=n2/\0<=n2/\n2<=4/\(0<n2->0<ps.length):=by
   refine⟨_,rfl,?_⟩;rw[aG (rfl:true=true)]
   by_cases e:ps=[]
   ·rw[e,cx,aE rfl,show(if(!true)=true then(1:Int) else 0)=0 from rfl,Int.mul_zero];exact⟨by decide,by decide,λh=>absurd h (by decide)⟩
   ·rw[ba λh=>e (gP.mp h)];have:=bV.mpr e;simp only[Bool.not_false,if_true,Int.mul_one];exact⟨by omega,by omega,λ_=>this⟩
  refine⟨_,rfl,ra,_,_,_,rfl,rfl,AD.of hra5,A 30 (by decide) (by decide),_,_,rfl,rfl,(by show(0:Int)<5;decide),_,rfl,HX,λl0 nl0=>?_⟩;have s6:=Ak nl0 (.lst []);refine⟨le,l0,_,rfl,rfl,AD.of (s6.get hle5),AD.of Ad,.inr ⟨_,rfl,_,_,rfl,rfl,.inl ⟨by omega,by omega⟩,?_⟩⟩;refine⟨_,rfl,by rw[en2];omega,by rw[en2];omega,?_⟩;rw[en2];have s16:=s5.trans s6;refine CI (lo:=0) (λi σ H'=>∃(ss:List (Addr×HE)) (v5 v8 v10:Option V),σ=[some (.ref sa),some (.ref na),some (.ref fo),some (.ref ra),some (.ref lk),v5,v6,some (.ref le),v8,v9,v10]/\Am H H'/\H' ra=some (.lst (ms.map V.int))/\H' lk=some (.lst (ks.map λp=>V.ref p.1))/\(∀k∈ks,JE H' k)/\H' le=some (.lst ((ps++ss).map λp=>V.ref p.1))/\(∀p∈ps++ss,Ih H' p/\J4 p.2/\∃g∈gs,p.2.tg=g.2)/\ss.map (·.2.nm)=(zs.drop 8).take i/\Lx (ss.map (·.2))=(List.range i).map λ(j:Nat)=>1+ms.getD (40:Int).toNat 0+3*(0+(j:Int))) ⟨[],_,_,none,rfl,s16,s6.get hra5,s6.get hlk5,λk hk=>s6.get (hks5 k hk),by rw[cn];exact s6.get hle5,λp hp=>by rw[cn] at hp;exact⟨(hps5 p hp).1.same s6,(hps5 p hp).2⟩,rfl,rfl⟩ ?_ ?_
  ·rintro i σ H7 hi ⟨ss,v5,v8,v10,rfl,s7,hra7,hlk7,hks7,hle7,hps7,ess,esl⟩
   have i4:i<4:=by omega
   have lss:ss.length=i:=by have:=congrArg List.length ess;rw[aa,aV,cH] at this;omega
   have pp:=bp (by omega);have fo7:=hfo.same s7;obtain⟨g,hg,hag⟩:=fo7.at (n:=(gs.length:Int)) rfl (by omega) (ms.getD (31+2*(0+(i:Int))).toNat 0);have lgs:(((gs.map λp=>V.ref p.1).length:Nat):Int)=(gs.length:Int):=by rw[aa]
   refine Aw ⟨_,rfl,_,rfl,_,rfl,_,_,rfl,rfl,.inl ⟨by decide,by decide⟩,_,_,rfl,rfl,ra,_,_,_,rfl,rfl,AD.of hra7,A _ (by omega) (by omega),_,rfl,fo,_,rfl,.inl (AD.of fo7.1),_,_,rfl,rfl,(by show(0:Int)<_;rw[lgs];omega),fo,_,_,_,rfl,rfl,AD.of fo7.1,(by rw[lgs];exact hag),?_⟩;dsimp only[Ay];have t0:=bw (ms.getD (32+2*(0+(i:Int))).toNat 0) (show n1≠0 by omega);have t1:=bc (ms.getD (32+2*(0+(i:Int))).toNat 0) (show 0<n1 by omega);have hst:(ms.getD (32+2*(0+(i:Int))).toNat 0%n1).toNat<ps.length:=by omega
   have hat:JS ((ps++ss).map λp=>V.ref p.1) (ms.getD (32+2*(0+(i:Int))).toNat 0%n1)=some (.ref (ps[(ms.getD (32+2*(0+(i:Int))).toNat 0%n1).toNat]).1):=by
    have:=Ar (xs:=(ps++ss).map λp=>V.ref p.1) (j:=(ms.getD (32+2*(0+(i:Int))).toNat 0%n1).toNat) (v:=.ref (ps[(ms.getD (32+2*(0+(i:Int))).toNat 0%n1).toNat]).1) (by rw[az,bL hst,ab hst];rfl)
    rwa [show(((ms.getD (32+2*(0+(i:Int))).toNat 0%n1).toNat:Nat):Int)=ms.getD (32+2*(0+(i:Int))).toNat 0%n1 by omega] at this
   have hsm:ps[(ms.getD (32+2*(0+(i:Int))).toNat 0%n1).toNat]∈ps++ss:=aO _ (bF hst);generalize ps[(ms.getD (32+2*(0+(i:Int))).toNat 0%n1).toNat]=sp at hat hsm;obtain⟨ta,e1,_⟩:=(hps7 sp hsm).1;refine Aw ⟨_,rfl,_,rfl,_,rfl,_,_,rfl,rfl,.inl ⟨by decide,by decide⟩,_,_,rfl,rfl,ra,_,_,_,rfl,rfl,AD.of hra7,A _ (by omega) (by omega),_,rfl,ra,_,_,_,rfl,rfl,AD.of hra7,A10,_,_,rfl,rfl,(by show(0:Int)<9;decide),_,_,rfl,rfl,(by show(0:Int)<_;rw[hn1];omega),le,_,_,_,rfl,rfl,AD.of hle7,(by rw[hn1];exact hat),sp.1,_,_,_,rfl,rfl,AL.of e1,Ar (j:=0) rfl,?_⟩;dsimp only[Ay];obtain⟨z,hz,haz⟩:=Z (8+(0+(i:Int))) (by omega) (by omega);refine⟨_,rfl,.inl ⟨rfl,_,AD.of hle7⟩,_,rfl,_,rfl,_,_,rfl,rfl,na,_,_,_,rfl,rfl,s7.seq hna,haz,_,rfl,_,rfl,ra,_,_,_,rfl,rfl,AD.of hra7,A 40 (by decide) (by decide),_,_,rfl,rfl,_,rfl,_,_,rfl,rfl,.inl ⟨by decide,by decide⟩,_,_,rfl,rfl,_,rfl,VR,λt nt=>?_⟩;have s8:=Ak nt (.tup [.str z,.int 2,.str sp.2.nm,.int (1+ms.getD (40:Int).toNat 0+3*(0+(i:Int))),.ref g.1]);have hle8:=s8.get hle7;have kt:=KT.lst hle8 (.lst ((ps++ss).map (λp=>V.ref p.1)++[.ref t]));refine⟨le,_,_,rfl,rfl,hle8,AU (by rw[aa,au];omega),ss++[(t,⟨z,2,sp.2.nm,.inl (1+ms.getD (40:Int).toNat 0+3*(0+(i:Int))),g.2⟩)],_,_,_,rfl,AI (s7.trans s8) nleH _,by rw[Ah nre];exact s8.get hra7,by rw[Ah nke];exact s8.get hlk7,λk hk=>kt _ _ (s8.get (hks7 k hk)),by rw[Ad,aj,aj,aj,cF];rfl,λp hp=>?_,?_,by rw[aj,Qw,esl,List.range_succ,aj];rfl⟩
   ·rw[<-cF] at hp;rcases av.mp hp with h|h
    ·obtain⟨⟨ta,e1,e2⟩,r⟩:=hps7 p h;exact⟨⟨ta,kt _ _ (s8.get e1),kt _ _ (s8.get e2)⟩,r⟩
    ·cases ai.mp h;exact⟨⟨g.1,kt _ _ Ad,kt _ _ (s8.get (fo7.2 g hg))⟩,.inr ⟨rfl,_,rfl⟩,g,hg,rfl⟩
   ·rw[aj,ess,aS,List.getElem?_drop,show 8+i=(8+(0+(i:Int))).toNat by omega,hz];rfl
  ·rintro σ H7 ⟨ss,v5,v8,v10,rfl,s7,hra7,hlk7,hks7,hle7,hps7,ess,esl⟩
   refine hN _ _ ⟨ss,_,_,_,rfl,s7,hra7,hlk7,hks7,hle7,hps7,⟨_,by omega,ess⟩,?_,by rw[esl];exact bh.mpr (List.nodup_range.imp λh e=>h (by omega))⟩;have:=congrArg List.length ess;rw[aa,aV,cH] at this;omega
 rintro σ' H7 ⟨ss,v5,v8,v10,rfl,s7,hra7,hlk7,hks7,hle7,hps7,⟨n2,b2,ess⟩,lss,nsl⟩
 have names:((ps++ss).map (·.2.nm)).Nodup/\∀z∈(ps++ss).map (·.2.nm),z∈zs:=by
  have sub:((ps++ss).map (·.2.nm)).Sublist zs:=by
   rw[aj,eps,ess];have h1:(zs.take n1.toNat).Sublist (zs.take 8):=by
    rw[show n1.toNat=min n1.toNat 8 by omega,<-List.take_take];exact dc _ _
   exact(List.Sublist.append h1 (dc _ _)).trans (by rw[eM];exact List.Sublist.refl _)
  exact⟨ndz.sublist sub,λz hz=>sub.subset hz⟩
 have lall:(ps++ss).length<=12:=by rw[au];omega
 have Ni:n1.toNat<=(ps++ss).length:=by rw[au];omega
 have k1:∀(i:Nat) p,i<n1.toNat->(ps++ss)[i]?=some p->p.2.kd=1:=λi p hi hp=>by
  rw[bL (by omega)] at hp;exact kps p (aC hp)
 have nsl:(Lx ((ps++ss).map (·.2))).Nodup:=by
  rw[aj,Qw,show Lx (ps.map (·.2))=[] from ?_]
  ·exact nsl
  ·unfold Lx;rw[List.filter_eq_nil_iff.mpr λe he z=>?_]
   ·rfl
   ·obtain⟨p,hp,rfl⟩:=af.mp he;have:=aQ z;rw[kps p hp] at this;cases this
 generalize ps++ss=es at hle7 hps7 names lall Ni k1 nsl;refine Bf (t:=J7 _ _ _) (λσ' H'=>∃(fs:List (Addr×HE)) (v5:Option V),σ'=[some (.ref sa),some (.ref na),some (.ref fo),some (.ref ra),some (.ref lk),v5,v6,some (.ref le),v8,v9,v10]/\Am H H'/\H' ra=some (.lst (ms.map V.int))/\H' lk=some (.lst (ks.map λp=>V.ref p.1))/\(∀k∈ks,JE H' k)/\H' le=some (.lst (fs.map λp=>V.ref p.1))/\(∀p∈fs,Ih H' p/\J4 p.2/\∃g∈gs,p.2.tg=g.2)/\fs.map (·.2.nm)=es.map (·.2.nm)/\fs.map (λp=>Rg p.2)=es.map (λp=>Rg p.2)) (λN hN=>?_) ?_
 ·refine⟨_,rfl,ra,_,_,_,rfl,rfl,AD.of hra7,A10,_,_,rfl,rfl,(by show(0:Int)<9;decide),_,rfl,by rw[hn1];omega,by rw[hn1];omega,?_⟩;rw[hn1];refine CI (lo:=0) (λi σ H'=>∃(fs:List (Addr×HE)) (v5:Option V),σ=[some (.ref sa),some (.ref na),some (.ref fo),some (.ref ra),some (.ref lk),v5,v6,some (.ref le),v8,v9,v10]/\Am H H'/\H' ra=some (.lst (ms.map V.int))/\H' lk=some (.lst (ks.map λp=>V.ref p.1))/\(∀k∈ks,JE H' k)/\H' le=some (.lst (fs.map λp=>V.ref p.1))/\(∀p∈fs,Ih H' p/\J4 p.2/\∃g∈gs,p.2.tg=g.2)/\fs.map (·.2.nm)=es.map (·.2.nm)/\fs.map (·.2.kd)=es.map (·.2.kd)/\fs.map (λp=>Rg p.2)=es.map (λp=>Rg p.2)) ⟨es,_,rfl,s7,hra7,hlk7,hks7,hle7,hps7,rfl,rfl,rfl⟩ ?_ ?_
  ·rintro i σ H8 hi ⟨fs,v5,rfl,s8,hra8,hlk8,hks8,hle8,hfs8,enm,ekd,ekt⟩
   have li:i<fs.length:=by have:=congrArg List.length enm;rw[aa,aa] at this;omega
   have lf:fs.length<=12:=by have:=congrArg List.length enm;rw[aa,aa] at this;omega
   have hm:fs[i]∈fs:=bF li;have ex:fs[i]?=some fs[i]:=ab li;generalize fs[i]=x at hm ex;have kx:x.2.kd=1:=by
    have h:=congrArg (λl:List Int=>l[i]?) ekd;simp only[List.getElem?_map,ex,Option.map_some] at h;cases ey:es[i]? with
    |none=>rw[ey] at h;cases h
    |some y=>
     rw[ey] at h;rw[aA h];exact k1 i y hi ey
   have hat:JS (fs.map λp=>V.ref p.1) (0+(i:Int))=some (.ref x.1):=by
    have:=Ar (xs:=fs.map λp=>V.ref p.1) (j:=i) (v:=.ref x.1) (by rw[az,ex];rfl)
    rwa [show((i:Nat):Int)=0+(i:Int) by omega] at this
   obtain⟨y0,y1⟩:=DD bms (11+(0+(i:Int))).toNat;obtain⟨hx1,hx2,g,hg,hx3⟩:=hfs8 x hm;dsimp only[Ay];refine⟨_,rfl,_,rfl,_,rfl,le,_,_,_,rfl,rfl,AD.of hle8,hat,_,rfl,_,rfl,_,_,rfl,rfl,ra,_,_,_,rfl,rfl,AD.of hra8,A _ (by omega) (by omega),le,fs,x,_,rfl,hle8,λp hp=>⟨(hfs8 p hp).1,(hfs8 p hp).2.1⟩,by omega,hx1,kx,hx2,y0,λa z H9 s9 ha=>?_⟩;have hle9:=s9.get hle8;have hix:TZ (fs.map λp=>V.ref p.1).length (0+(i:Int))=some i:=by
    unfold TZ;rw[aG (by omega),aG (by rw[aa];omega)];exact congrArg some (by omega)
   have kt:=KT.lst hle9 (.lst ((fs.map λp=>V.ref p.1).set i (.ref a)));refine⟨_,rfl,_,rfl,le,_,_,i,rfl,rfl,hle9,hix,fs.set i (a,⟨x.2.nm,x.2.kd,x.2.ow,.inr z,x.2.tg⟩),_,rfl,AI (s8.trans s9) nleH _,by rw[Ah nre];exact s9.get hra8,by rw[Ah nke];exact s9.get hlk8,λk hk=>kt _ _ (s9.get (hks8 k hk)),by rw[Ad,fh],λp hp=>?_,?_,?_,?_⟩
   ·rcases List.mem_or_eq_of_mem_set hp with h|h
    ·obtain⟨⟨ta,e1,e2⟩,r⟩:=hfs8 p h;exact⟨⟨ta,kt _ _ (s9.get e1),kt _ _ (s9.get e2)⟩,r⟩
    ·subst h;obtain⟨ta,e1,e2⟩:=ha;exact⟨⟨ta,kt _ _ e1,kt _ _ e2⟩,.inl ⟨kx,_,rfl⟩,g,hg,hx3⟩
   ·rw[fh,<-enm];refine cg λj=>?_
    rw[fj]
    split
    ·next e=>
     subst e;rw[aG (by rw[aa];exact li),az,ex];rfl
    ·rfl
   ·rw[fh,<-ekd];refine cg λj=>?_
    rw[fj]
    split
    ·next e=>
     subst e;rw[aG (by rw[aa];exact li),az,ex];rfl
    ·rfl
   ·rw[fh,<-ekt];refine cg λj=>?_
    rw[fj]
    split
    ·next e=>
     subst e;rw[aG (by rw[aa];exact li),az,ex];show some (Rg ⟨x.2.nm,x.2.kd,x.2.ow,.inr z,x.2.tg⟩)=some (Rg x.2);unfold Rg;rw[aJ (by rw[kx];decide),aJ (by rw[kx];decide)]
    ·rfl
  ·rintro σ H8 ⟨fs,v5,rfl,s8,hra8,hlk8,hks8,hle8,hfs8,enm,ekd,ekt⟩
   exact hN _ _ ⟨fs,_,rfl,s8,hra8,hlk8,hks8,hle8,hfs8,enm,ekt⟩
 rintro σ' H8 ⟨fs,v5,rfl,s8,hra8,hlk8,hks8,hle8,hfs8,enm,ekt⟩
 have nsf:(Lx (fs.map (·.2))).Nodup:=by
  rw[Sa,aq] at nsl ⊢;rw[show fs.map (Rg∘λp=>p.2)=es.map (Rg∘λp=>p.2) from ekt];exact nsl
 have lfs:fs.length<=12:=by have:=congrArg List.length enm;rw[aa,aa] at this;omega
 have ndf:(fs.map (·.2.nm)).Nodup:=by rw[enm];exact names.1
 dsimp only[WX];refine⟨_,rfl,ra,_,_,_,rfl,rfl,AD.of hra8,A 41 (by decide) (by decide),_,rfl,lk,ks.map λp=>(p.1,p.2.1),rfl,AD.of (by rw[aq];exact hlk8),by rw[aa];omega,λt ht=>?_,by rw[aq];exact ndk,λus l up so np=>?_⟩
 ·obtain⟨p,hp,rfl⟩:=af.mp ht;exact⟨_,AL.of (hks8 p hp)⟩
 obtain⟨ks',pk,rfl⟩:=Hn up rfl;rw[aq];have s9:=Ak np (.lst (ks'.map ((λt:Addr×Str=>V.ref t.1)∘λp:Addr×Str×Int=>(p.1,p.2.1))));refine⟨l,_,rfl,.inl ⟨AD.of Ad,λka nka=>?_⟩⟩;have s10:=Ak nka (.tup (ks'.map ((λt:Addr×Str=>V.ref t.1)∘λp:Addr×Str×Int=>(p.1,p.2.1))));have s910:=s9.trans s10;have hka:(upd (upd H8 l (.lst (ks'.map ((λt:Addr×Str=>V.ref t.1)∘λp:Addr×Str×Int=>(p.1,p.2.1))))) ka (.tup (ks'.map ((λt:Addr×Str=>V.ref t.1)∘λp:Addr×Str×Int=>(p.1,p.2.1))))) ka=some (.tup (ks'.map λp=>V.ref p.1)):=Ad;generalize upd (upd H8 l (.lst (ks'.map ((λt:Addr×Str=>V.ref t.1)∘λp:Addr×Str×Int=>(p.1,p.2.1))))) ka (.tup (ks'.map ((λt:Addr×Str=>V.ref t.1)∘λp:Addr×Str×Int=>(p.1,p.2.1))))=H10 at s910 hka;refine⟨_,rfl,le,fs.map λp=>(p.1,p.2.nm),rfl,AD.of (by rw[aq];exact s910.get hle8),by rw[aa];omega,λt ht=>?_,by rw[aq];exact ndf,λus l2 up2 so2 np2=>?_⟩
 ·obtain⟨p,hp,rfl⟩:=af.mp ht;obtain⟨⟨ta,e1,_⟩,_⟩:=hfs8 p hp;exact⟨_,AL.of (s910.get e1)⟩
 obtain⟨fs',pf,rfl⟩:=Hn up2 rfl;rw[aq];have s11:=Ak np2 (.lst (fs'.map ((λt:Addr×Str=>V.ref t.1)∘λp:Addr×HE=>(p.1,p.2.nm))));refine⟨l2,_,rfl,.inl ⟨AD.of Ad,λea nea=>?_⟩⟩;have s12:=Ak nea (.tup (fs'.map ((λt:Addr×Str=>V.ref t.1)∘λp:Addr×HE=>(p.1,p.2.nm))));have s1112:=s11.trans s12;have hea:(upd (upd H10 l2 (.lst (fs'.map ((λt:Addr×Str=>V.ref t.1)∘λp:Addr×HE=>(p.1,p.2.nm))))) ea (.tup (fs'.map ((λt:Addr×Str=>V.ref t.1)∘λp:Addr×HE=>(p.1,p.2.nm))))) ea=some (.tup (fs'.map λp=>V.ref p.1)):=Ad;generalize upd (upd H10 l2 (.lst (fs'.map ((λt:Addr×Str=>V.ref t.1)∘λp:Addr×HE=>(p.1,p.2.nm))))) ea (.tup (fs'.map ((λt:Addr×Str=>V.ref t.1)∘λp:Addr×HE=>(p.1,p.2.nm))))=H12 at s1112 hea;refine⟨MD,λh nh=>?_⟩;have s13:=Ak nh (.tup [.int (ms.getD (41:Int).toNat 0),.ref ka,.ref ea]);have s813:=s910.trans (s1112.trans s13);refine q h _ ka ea ks' fs' _ (s8.trans s813) Ad ((s1112.trans s13).get hka) (λk hk=>s813.get (hks8 k (pk.mem_iff.mp hk))) ((pk.map _).nodup_iff.mpr ndk) (by rw[pk.length_eq];omega) (s13.get hea) (λp hp=>?_) ((pf.map _).nodup_iff.mpr ndf) (by rw[pf.length_eq];omega) (by
  have pm:(Lx (fs'.map (·.2))).Perm (Lx (fs.map (·.2))):=((pf.map λp:Addr×HE=>p.2).filter _).map _;exact pm.nodup_iff.mpr nsf) (λk hk=>kbd k (pk.mem_iff.mp hk))
 obtain⟨h1,h2,h3⟩:=hfs8 p (pf.mem_iff.mp hp);exact⟨h1.same s813,h2,names.2 _ (by rw[<-enm];exact aH (f:=λp:Addr×HE=>p.2.nm) (pf.mem_iff.mp hp)),h3⟩
def Gr (K:W.Frag):Sp:=λvs H Q _=>∃v b,vs=[v]/\Rep NL H (DB b) v/\(AQ b).length<=1000/\∀l (ps:List (Addr×Tg)) H',Am H H'->H l=none->Gy H' l ps->ps.map (·.2)=AQ b->Q (.ref l) H'
theorem MM (T:Txt K mg Aj Aa Ac XC)(F:Fun K "_law_tags" "_law_tags" Dh f fd):FnOk P w K mg base Cf 1 f fd ["_law_block"] (Gr K):=by
 exists Mr
 ·obtain⟨v,b,rfl,_⟩:=h;rfl
 obtain⟨v,b,rfl,hv,few,q⟩:=h;refine⟨_,(!Ag (!BH (!AE CV (!An Az (pv 0) (!Ae) (λ_ _=>rfl)) (!Ae) (AH _)) (!Al (!Av (!Bb (!Af)))) (!AV)) (!Ag (!BH (!AE CV (!An Az (pv 0) (!Ae) (λ_ _=>rfl)) (!Ae) (AH _)) (!Al (!Av (!Bj DC (by rfl) T.b_list Gm (!Ab (!An Az (pv 0) (!Ae) (λ_ _=>rfl)) (!Af))))) (!AV)) (!Al (!Av (@BX _ ["_law_entry"] _ _ _ _ _ _ _ _ _ _ rfl (!Cv (!An Az (pv 0) (!Ae) (λ_ _=>rfl))) (by decide +kernel) (λC s H fp=>⟨(@Ap _ _ (0) _ (show(["_law_entry"]:List Str).Nodup by decide +kernel) rfl (by trivial) (by trivial)),(!AO),(!An (AW (K:=K) (by rfl)) (pv 0) (!Ae) (λ_ _=>rfl))⟩) (by intro _;rfl)))))),?_⟩
 try dsimp only[Bh,Cx.nox,Cx.wish]
 cases b with
 |piece z=>
  obtain⟨a,rfl,e⟩:=Hq hv;refine⟨_,rfl,a,_,_,_,rfl,rfl,AL.of e,rfl,rfl,_,rfl,Fe rfl ?_⟩;exact⟨HX,λl hl=>q l [] _ (Ak hl _) hl ⟨Ad,λ_ h=>nomatch h⟩ rfl⟩
 |row lv ts=>
  obtain⟨a,d,us,rfl,e,e2,r⟩:=Kg hv;obtain⟨ps,rfl,rfl,hps⟩:=MR r;refine⟨_,rfl,a,_,_,_,rfl,rfl,AL.of e,rfl,rfl,_,rfl,Bi rfl ?_⟩;refine⟨_,rfl,a,_,_,_,rfl,rfl,AL.of e,rfl,rfl,_,rfl,Fe rfl ?_⟩;exact⟨_,rfl,a,_,_,_,rfl,rfl,AL.of e,rfl,d,_,rfl,.inr (AL.of e2),λl hl=>q l ps _ (Ak hl _) hl ⟨Ad,λp hp=>(Ak hl _).get (hps p hp)⟩ rfl⟩
 |folder es=>
  obtain⟨a,d,us,rfl,e,e2,r⟩:=DK hv;obtain⟨ps,rfl,rfl,hps⟩:=Te r;have few':((ps.map (·.2)).map (·.tg)).length<=1000:=few;rw[aa,aa] at few';refine⟨_,rfl,a,_,_,_,rfl,rfl,AL.of e,rfl,rfl,_,rfl,Bi rfl ?_⟩;refine⟨_,rfl,a,_,_,_,rfl,rfl,AL.of e,rfl,rfl,_,rfl,Bi rfl ?_⟩;refine⟨_,rfl,a,_,_,_,rfl,rfl,AL.of e,rfl,d,rfl,⟨_,AL.of e2⟩,?_⟩;obtain⟨qs,e3,e4,hqs⟩:=MR (HR r);refine Iv (ps:=ps) (λx=>Mf H (.ref x.1)) (Cb e2) (by omega) (λx hx H' R s' hR=>?_) λl H' nl s' hl=>q l qs H' s' nl ⟨?_,λp hp=>s'.get (hqs p hp)⟩ e4.symm
  ·obtain⟨b,h1,h2⟩:=hps x hx;have:=hR H' (Am.refl _);rw[KO h1] at this;exact⟨_,rfl,x.1,_,_,_,rfl,rfl,AL.of (s'.get h1),Ar (j:=2) rfl,this⟩
  ·rw[hl,<-e3,aq];rfl
def Q8 (B:BM)(z:Int):List Int:=match B z with
 |some b=>(AQ b).map (·.1)
 |none=>[]
theorem Fw {α:Type}[DecidableEq α]:∀{l m:List α},l.Nodup->(∀x∈l,x∈m)->l.length<=m.length
 |[],_,_,_=>bC _
 |a::l,m,nd,h=>by
  rw[bR] at nd;have ha:=h a aw;have:=Fw (m:=m.erase a) nd.2 λx hx=>(List.mem_erase_of_ne (λz=>nd.1 (by rw[<-z];exact hx))).mpr (h x (aI _ hx))
  rw[List.length_erase_of_mem ha] at this;have:0<m.length:=List.length_pos_of_mem ha;rw[aX];omega
def Nn (B:BM):Nat->List Int->List Int->List Int
 |0,_,fs=>fs
 |n+1,ws,fs=>match ws.getLast? with
  |none=>fs
  |some z=>if z∈fs then Nn B n ws.dropLast fs else Nn B n (ws.dropLast++Q8 B z) (fs++[z])
theorem Kl (B:BM):∀n fs,Nn B n [] fs=fs
 |0,_=>rfl
 |_+1,_=>rfl
theorem IZ (B:BM)(n:Nat)(ws:List Int)(z:Int)(fs:List Int):Nn B (n+1) (ws++[z]) fs=if z∈fs then Nn B n ws fs else Nn B n (ws++Q8 B z) (fs++[z]):=by
 rw[Nn,List.getLast?_concat,eP]
structure Bx (H:Hp) (d:Addr) (cs:List Cz):Prop where
 at_:H d=some (.dK (G8 cs))
 ce:∀c∈cs,Po H c
 nd:(cs.map (·.tg.1)).Nodup
 few:cs.length<=50
theorem Bx.same {H H':Hp}{d:Addr}{cs:List Cz}(h:Bx H d cs)(s:Am H H'):Bx H' d cs:=⟨s.get h.at_,λc hc=>(h.ce c hc).keep (KT.of s),h.nd,h.few⟩
theorem Bx.get {H:Hp}{d:Addr}{cs:List Cz}(h:Bx H d cs){c:Cz}(hc:c∈cs):BA H d (.int c.tg.1) (some (.ref c.p)):=by
 have g:=BA.k (k:=.inl c.tg.1) h.at_;rw[show Bo (G8 cs) (.inl c.tg.1)=some (.ref c.p) from KM (z:=λc:Cz=>c.tg.1) (v:=λc=>.ref c.p) h.nd c hc] at g;exact g
def Ja (B:BM)(Ok:Int->Prop):Prop:=∀z,Ok z->∃b,B z=some b/\(AQ b).length<=3/\∀t∈AQ b,Ok t.1
theorem Py {B:BM}{Ok:Int->Prop}(cl:Ja B Ok){N:List Int}(hN:∀z,Ok z->z∈N):∀(n:Nat) (ws fs:List Int),ws.length+4*(N.length-fs.length)<=n->fs.Nodup->(∀z∈ws,Ok z)->(∀z∈fs,Ok z)->(∀z∈fs,∀t∈Q8 B z,t∈fs\/t∈ws)->
  (Nn B n ws fs).Nodup/\(∀z∈fs,z∈Nn B n ws fs)/\(∀z∈ws,z∈Nn B n ws fs)/\(∀z∈Nn B n ws fs,Ok z)/\∀z∈Nn B n ws fs,∀t∈Q8 B z,t∈Nn B n ws fs
 |0,ws,fs,hn,nd,hw,hf,hc=>by
  have:ws=[]:=cG.mp (by omega);subst this;exact⟨nd,λ_ h=>h,(λ_ h=>nomatch h),hf,λz hz t ht=>(hc z hz t ht).resolve_right λh=>nomatch h⟩
 |n+1,ws,fs,hn,nd,hw,hf,hc=>by
  rcases dv ws with rfl|⟨ws',z,rfl⟩
  ·rw[Kl];exact⟨nd,λ_ h=>h,(λ_ h=>nomatch h),hf,λz hz t ht=>(hc z hz t ht).resolve_right λh=>nomatch h⟩
  ·rw[dw] at *;rw[IZ];rw[au,bO] at hn;have oz:=hw z (aD _ aw)
   by_cases hz:z∈fs
   ·rw[aG hz];obtain⟨h1,h2,h3,h4,h5⟩:=Py cl hN n ws' fs (by omega) nd (λx hx=>hw x (aO _ hx)) hf λx hx t ht=>by
     rcases hc x hx t ht with h|h
     ·exact .inl h
     ·rcases av.mp h with h|h
      ·exact .inr h
      ·rw[ai.mp h];exact .inl hz
    refine⟨h1,h2,λx hx=>?_,h4,h5⟩;rcases av.mp hx with hx|hx
    ·exact h3 x hx
    ·rw[ai.mp hx];exact h2 z hz
   ·rw[aJ hz];obtain⟨b,eb,l3,ok⟩:=cl z oz;have et:Q8 B z=(AQ b).map (·.1):=by unfold Q8;rw[eb]
    have nd':(fs++[z]).Nodup:=bI.mpr ⟨nd,by simp,λa ha c hc e=>hz (by rw[ai.mp hc] at e;rw[<-e];exact ha)⟩;have hf':∀x∈fs++[z],Ok x:=λx hx=>by
     rcases av.mp hx with hx|hx
     ·exact hf x hx
     ·rw[ai.mp hx];exact oz
    have lN:(fs++[z]).length<=N.length:=Fw nd' λx hx=>hN x (hf' x hx)
    rw[au,bO] at lN;obtain⟨h1,h2,h3,h4,h5⟩:=Py cl hN n (ws'++Q8 B z) (fs++[z]) (by rw[au,au,et,aa,bO];omega) nd' (λx hx=>by
     rcases av.mp hx with hx|hx
     ·exact hw x (aO _ hx)
     ·rw[et] at hx;obtain⟨t,ht,rfl⟩:=af.mp hx;exact ok t ht) hf' λx hx t ht=>by
     rcases av.mp hx with hx|hx
     ·rcases hc x hx t ht with h|h
      ·exact .inl (aO _ h)
      ·rcases av.mp h with h|h
       ·exact .inr (aO _ h)
       ·exact .inl (aD _ h)
     ·rw[ai.mp hx] at ht;exact .inr (aD _ ht)
    refine⟨h1,λx hx=>h2 x (aO _ hx),λx hx=>?_,h4,h5⟩;rcases av.mp hx with hx|hx
    ·exact h3 x (aO _ hx)
    ·exact h2 x (aD _ hx)
def Fq (cs:List Cz)(ws:List Int):List Int:=Nn (bm cs) (ws.length+4*cs.length) ws []
def AK (fs:List Int):List (Key×V):=fs.map λz=>(.inl z,.bl true)
def Ef (K:W.Frag):Sp:=λvs H Q _=>∃(d la:Addr) (cs:List Cz) (ps:List (Addr×Tg)) (Ok:Int->Prop),vs=[.ref d,.ref la]/\Bx H d cs/\Gy H la ps/\ps.length<=100/\Ja (bm cs) Ok/\(∀p∈ps,Ok p.2.1)/\
 ∀dd H',Am H H'->H dd=none->H' dd=some (.dK (AK (Fq cs (ps.map (·.2.1)))))->Q (.ref dd) H'
theorem J0 (T:Txt K mg Aj Aa Ac XC)(F:Fun K "_law_reached" "_law_reached" Cc f fd)(GA:Def P w K mg base 1 "_law_tags" ["_law_block"] (Gr K)):FnOk P w K mg base Cf 2 f fd ["_law_blocks_here","_law_tags_here"] (Ef K):=by
 exists C6
 ·obtain⟨d,la,cs,ps,Ok,rfl,_⟩:=h;rfl
 obtain⟨d,la,cs,ps,Ok,rfl,bx,hla,few,cl,okw,q⟩:=h;have hu:=BI hr;have hu9:=Ct hr;refine⟨_,(!Ag (@Au _ _ (2) _ _ _ _ C6.nd rfl (by trivial) (!Cs) (by rfl) (by trivial)) (!Ag (@Au _ _ (3) _ _ _ _ C6.nd rfl (by trivial) (!Bj DC (by rfl) T.b_list Gm (!Ab (pv 1) (!Af))) (by rfl) (by trivial)) (!Ag (!G5 aW (!AE (Sn hu) (pv 3) (!Bb (!Af)) (AH _)) (!Ag (@Au _ _ (4) _ _ _ _ C6.nd rfl (by trivial) (!An Az (!Sk aP gx gv TJ (pv 3)) (!Ae) (λ_ _=>rfl)) (by rfl) (by trivial)) (!Al (!BH (!HY (!LX hu (pv 4) (pv 2)) (by first|exact D7 _ (by decide) (by decide)|rfl)) (!Ag (!E8 hu (pv 2) (pv 4) (!Hy)) (!Al (!Bl (!C4 aP cw cu EH (pv 3) (!Ab (!AC GA (by trivial) rfl (!Ab (!An Az (!Br hu (pv 0) (pv 4) (λ_ _=>rfl)) (!Ae) (λ_ _=>rfl)) (!Af))) (!Af)))))) (!AV))))) (!Al (!Av (pv 2)))))),?_⟩
 try dsimp only[Bh,Cx.nox,Cx.wish]
 refine Aw λdf ndf=>?_
 have s1:=Ak ndf (.dK []);have hdf:(upd H df (.dK [])) df=some (.dK (AK [])):=Ad;dsimp only[Ay];generalize upd H df (.dK [])=H1 at s1 hdf;refine Aw ⟨_,rfl,la,_,rfl,.inl (AD.of (s1.get hla.1)),λlw nlw=>?_⟩;have s2:=Ak nlw (.lst (ps.map λp=>V.ref p.1));have hlw:(upd H1 lw (.lst (ps.map λp=>V.ref p.1))) lw=some (.lst (ps.map λp=>V.ref p.1)):=Ad;have hdf2:=s2.get hdf;have nlwH:=s1.free nlw;have nlf:df≠lw:=λw=>by rw[<-w,hdf] at nlw;cases nlw
 dsimp only[Ay];generalize upd H1 lw (.lst (ps.map λp=>V.ref p.1))=H2 at s2 hlw hdf2;have s12:=s1.trans s2;have N0:∀z,Ok z->z∈cs.map (·.tg.1):=λz hz=>by
  obtain⟨b,eb,_⟩:=cl z hz;obtain⟨c,hc,e,_⟩:=Cd eb;rw[<-e];exact aH (f:=λc:Cz=>c.tg.1) hc
 refine Bf (t:=MI _ _) (λσ' H'=>∃(v4:Option V),σ'=[some (.ref d),some (.ref la),some (.ref df),some (.ref lw),v4]/\Am H H'/\H' df=some (.dK (AK (Fq cs (ps.map (·.2.1)))))) (λN hN=>?_) ?_
 ·refine⟨λm σ' H'=>∃(ws:List (Addr×Tg)) (fs:List Int) (v4:Option V),σ'=[some (.ref d),some (.ref la),some (.ref df),some (.ref lw),v4]/\Am H H'/\H' df=some (.dK (AK fs))/\Gy H' lw ws/\Nn (bm cs) m (ws.map (·.2.1)) fs=Fq cs (ps.map (·.2.1))/\ws.length+4*(cs.length-fs.length)<=m/\fs.Nodup/\(∀p∈ws,Ok p.2.1)/\(∀z∈fs,Ok z)/\m<=300,
   ⟨ps.length+4*cs.length,ps,[],none,rfl,s12,hdf2,⟨hlw,λp hp=>s12.get (hla.2 p hp)⟩,by unfold Fq;rw[aa],by simp,by simp,okw,(λ_ h=>nomatch h),by have:=bx.few;omega⟩,?_⟩
  rintro m σ' H3 ⟨ws,fs,v4,rfl,s3,hdf3,hlw3,er,hm,nd,okws,okfs,m3⟩
  refine⟨_,rfl,HX,λle nle=>?_⟩;have s4:=Ak nle (.lst []);have hle:(upd H3 le (.lst [])) le=some (.lst []):=Ad;have hdf4:=s4.get hdf3;have hlw4:=hlw3.same s4;have s34:=s3.trans s4;generalize upd H3 le (.lst [])=H4 at s4 hle hdf4 hlw4 s34;refine⟨lw,le,_,rfl,rfl,AD.of hlw4.1,AD.of hle,_,rfl,Et (λc=>?_) (λc=>?_)⟩
  ·rcases dv ws with rfl|⟨ws,y,rfl⟩
   ·exact absurd c (by simp)
   rw[dw] at *;have y1:HG H4 y.1 y.2:=hlw4.2 y (aD _ aw);have oy:=okws y (aD _ aw);rw[au,bO] at hm;obtain⟨m,rfl⟩:∃m',m=m'+1:=⟨m-1,by omega⟩
   rw[aj,List.map_singleton,IZ] at er;refine⟨_,λσ' H' h=>⟨m,cR m,h⟩,?_⟩;have hlast:((ws++[y]).map λp=>V.ref p.1)[((ws++[y]).map λp=>V.ref p.1).length-1]?=some (.ref y.1):=by
    rw[aj,au,bJ (by simp)];simp
   have hdl:((ws++[y]).map λp=>V.ref p.1).dropLast=ws.map λp=>V.ref p.1:=by
    rw[aj];exact eP
   have k5:=KT.lst hlw4.1 (.lst (ws.map λp=>V.ref p.1));have hlw5:Gy (upd H4 lw (.lst (ws.map λp=>V.ref p.1))) lw ws:=⟨Ad,λp hp=>k5 _ _ (hlw4.2 p (aO _ hp))⟩
   have s5:Am H (upd H4 lw (.lst (ws.map λp=>V.ref p.1))):=AI s34 nlwH _;have hdf5:(upd H4 lw (.lst (ws.map λp=>V.ref p.1))) df=some (.dK (AK fs)):=by rw[Ah nlf];exact hdf4
   refine Aw ⟨_,rfl,.inl ⟨rfl,_,AD.of hlw4.1⟩,lw,_,_,rfl,rfl,hlw4.1,hlast,?_⟩;rw[hdl];refine⟨y.1,_,_,_,rfl,rfl,AL.of (k5 _ _ y1),Ar (j:=0) rfl,?_⟩;dsimp only[Ay];generalize upd H4 lw (.lst (ws.map λp=>V.ref p.1))=H5 at hlw5 s5 hdf5;have g:=BA.k (k:=.inl y.2.1) hdf5;refine⟨_,rfl,_,rfl,df,_,rfl,g,_,rfl,Et (λc=>?_) (λc=>?_)⟩
   ·have hz:y.2.1∉fs:=λh=>by
     rw[show Bo (AK fs) (.inl y.2.1)=some (.bl true) from Em (k:=λz:Int=>.inl z) (g:=λ_=>.bl true) (bh.mpr (nd.imp λh e=>h (bH e))) y.2.1 h] at c;cases c
    rw[aJ hz] at er;obtain⟨b,eb,l3,okb⟩:=cl _ oy;obtain⟨cc,hc,e1,e2⟩:=Cd eb;have nd':(fs++[y.2.1]).Nodup:=bI.mpr ⟨nd,by simp,λa ha c hc e=>hz (by rw[ai.mp hc] at e;rw[<-e];exact ha)⟩;have hf':∀x∈fs++[y.2.1],Ok x:=λx hx=>by
     rcases av.mp hx with hx|hx
     ·exact okfs x hx
     ·rw[ai.mp hx];exact oy
    have lN:=Fw nd' λx hx=>N0 x (hf' x hx)
    rw[au,bO,aa] at lN;have lf50:=bx.few;have put:putK (AK fs) (.inl y.2.1) (.bl true)=AK (fs++[y.2.1]):=by
     rw[AK,AK,DA _ (GP (k:=λz:Int=>.inl z) (g:=λ_=>.bl true) (z:=.inl y.2.1) λr hr e=>hz (by rw[<-bH e];exact hr)),aj];rfl
    refine⟨_,rfl,_,rfl,df,_,rfl,Jg.k (k:=.inl y.2.1) hdf5 (AU (by rw[AK,aa];omega)),?_⟩;rw[put];have k6:KT H5 (upd H5 df (.dK (AK (fs++[y.2.1])))):=λc xs e=>by rw[Ah λw=>by rw[w,hdf5] at e;cases e];exact e
    have s6:Am H (upd H5 df (.dK (AK (fs++[y.2.1])))):=AI s5 ndf _;have hdf6:(upd H5 df (.dK (AK (fs++[y.2.1])))) df=some (.dK (AK (fs++[y.2.1]))):=Ad;have hlw6:Gy (upd H5 df (.dK (AK (fs++[y.2.1])))) lw ws:=⟨by rw[Ah (Ne.symm nlf)];exact hlw5.1,λp hp=>k6 _ _ (hlw5.2 p hp)⟩
    generalize upd H5 df (.dK (AK (fs++[y.2.1])))=H6 at k6 s6 hdf6 hlw6;have bx6:=bx.same s6;obtain⟨c1,c2,c3⟩:=bx6.ce cc hc;have g6:=bx6.get hc;rw[e1] at g6;rw[e2] at c3;dsimp only[N9];refine⟨_,rfl,.inl ⟨rfl,_,AD.of hlw6.1⟩,_,rfl,_,rfl,d,_,rfl,g6,cc.p,_,_,_,rfl,rfl,AL.of c1,Ar (j:=1) rfl,cc.v,b,rfl,c3,by omega,λl qs H7 s7 nl hl7 eq=>?_⟩;have hlw7:=hlw6.same s7;have lq:qs.length<=3:=by rw[<-eq,aa] at l3;exact l3
    have nl6:lw≠l:=λw=>by rw[<-w,hlw6.1] at nl;cases nl
    refine⟨lw,l,_,_,rfl,rfl,hlw7.1,hl7.1,small (by rw[aa,aa];omega),?_⟩;have k8:=KT.lst hlw7.1 (.lst (ws.map (λp=>V.ref p.1)++qs.map λp=>V.ref p.1));have et:Q8 (bm cs) y.2.1=qs.map (·.2.1):=by unfold Q8;rw[eb];dsimp only;rw[<-eq,aq];rfl
    refine⟨ws++qs,fs++[y.2.1],_,rfl,AI (s6.trans s7) nlwH _,by rw[Ah nlf];exact s7.get hdf6,⟨by rw[Ad,aj],λp hp=>?_⟩,by rw[aj,<-et];exact er,?_,nd',λp hp=>?_,hf',by omega⟩
    ·rcases av.mp hp with hp|hp
     ·exact k8 _ _ (hlw7.2 p hp)
     ·exact k8 _ _ (hl7.2 p hp)
    ·rw[au,au,bO];omega
    ·rcases av.mp hp with hp|hp
     ·exact okws p (aO _ hp)
     ·exact okb p.2 (by rw[<-eq];exact aH hp)
   ·have hz:y.2.1∈fs:=cE λh=>by
     rw[show Bo (AK fs) (.inl y.2.1)=none from GP (k:=λz:Int=>.inl z) (g:=λ_=>.bl true) λr hr e=>h (by rw[<-bH e];exact hr)] at c;exact c rfl
    rw[aG hz] at er;exact⟨ws,fs,_,rfl,s5,hdf5,hlw5,er,by omega,nd,λp hp=>okws p (aO _ hp),okfs,by omega⟩
  ·have e:ws=[]:=by
    rcases ws with _|⟨y,ws⟩
    ·rfl
    ·exact absurd (by simp) c
   subst e;rw[cx,Kl] at er;refine hN _ _ ⟨_,rfl,s34,?_⟩;rw[<-er];exact hdf4
 ·rintro σ' H3 ⟨v4,rfl,s3,hdf3⟩
  exact⟨_,rfl,q df H3 s3 ndf hdf3⟩
structure Hd (H:Hp) (h:Addr) (ag:Int) (ka ea:Addr) (ks:List (Addr×Str×Int)) (ps:List (Addr×HE)):Prop where
 at_:H h=some (.tup [.int ag,.ref ka,.ref ea])
 kt:H ka=some (.tup (ks.map λp=>V.ref p.1))
 ke:∀k∈ks,JE H k
 kn:(ks.map (·.2.1)).Nodup
 kl:ks.length<=8
 et:H ea=some (.tup (ps.map λp=>V.ref p.1))
 en:∀p∈ps,Ih H p
 og:∀p∈ps,J4 p.2
 nd:(ps.map (·.2.nm)).Nodup
 el:ps.length<=12
theorem Hd.same {H H':Hp}{h:Addr}{ag:Int}{ka ea:Addr}{ks:List (Addr×Str×Int)}{ps:List (Addr×HE)}(a:Hd H h ag ka ea ks ps)(s:Am H H'):Hd H' h ag ka ea ks ps:=
 ⟨s.get a.at_,s.get a.kt,λk hk=>s.get (a.ke k hk),a.kn,a.kl,s.get a.et,λp hp=>(a.en p hp).same s,a.og,a.nd,a.el⟩
def UQ (z:Str)(x:Addr×HE):Bool:=decide (V.int x.2.kd=V.int 1)&&decide (V.str x.2.ow=V.str z)
def TB (ps:List (Addr×HE))(z:Str):List V:=(ps.filter (UQ z)).map λx=>.str x.2.nm
def N3 (ss:List V)(x:Addr×HE):Bool:=RA (.str x.2.nm) ss||(decide (V.int x.2.kd=V.int 2)&&RA (.str x.2.ow) ss)
def CU (cs:List Cz)(ps:List (Addr×HE))(z:Str):List Int:=Fq cs ((ps.filter (N3 (TB ps z))).map (·.2.tg.1))
structure Hl (H:Hp) (dh:Addr) (cs:List Cz) (ps:List (Addr×HE)) (hs:List (Str×Addr)):Prop where
 at_:H dh=some (.dK (hs.map λr=>(.inr r.1,.ref r.2)))
 ea:∀r∈hs,H r.2=some (.dK (AK (CU cs ps r.1)))
 nd:(hs.map (·.1)).Nodup
theorem Hl.same {H H':Hp}{dh:Addr}{cs:List Cz}{ps:List (Addr×HE)}{hs:List (Str×Addr)}(a:Hl H dh cs ps hs)(s:Am H H'):Hl H' dh cs ps hs:=⟨s.get a.at_,λr hr=>s.get (a.ea r hr),a.nd⟩
def FX (K:W.Frag):Sp:=λvs H Q _=>∃(d h:Addr) (cs:List Cz) (ag:Int) (ka ea:Addr) (ks:List (Addr×Str×Int)) (ps:List (Addr×HE)) (Ok:Int->Prop),vs=[.ref d,.ref h]/\Bx H d cs/\Hd H h ag ka ea ks ps/\Ja (bm cs) Ok/\(∀p∈ps,Ok p.2.tg.1)/\
 ∀dh hs H',Am H H'->H dh=none->Hl H' dh cs ps hs->hs.map (·.1)=ks.map (·.2.1)->Q (.ref dh) H'
theorem Nf (T:Txt K mg Aj Aa Ac XC)(F:Fun K "_law_held" "_law_held" Do f fd)(EY:Def P w K mg base 2 "_law_reached" ["_law_blocks_here","_law_tags_here"] (Ef K)):FnOk P w K mg base Cf 3 f fd ["_law_blocks_here","_law_head_here"] (FX K):=by
 exists CJ
 ·obtain⟨d,h,cs,ag,ka,ea,ks,ps,Ok,rfl,_⟩:=h;rfl
 obtain⟨d,h,cs,ag,ka,ea,ks,ps,Ok,rfl,bx,hd,cl,okw,q⟩:=h;have hu:=BI hr;have hu9:=Ct hr;refine⟨_,(!Ag (@Au _ _ (2) _ _ _ _ CJ.nd rfl (by trivial) (!Cs) (by rfl) (by trivial)) (!Ag (!BR aW rfl (!Cv (!An Az (pv 1) (!Ae) (λ_ _=>rfl))) (!Ik rfl (!AJ (@Ap _ _ (3) _ CJ.nd rfl (by trivial) (by trivial)) (!AJ (@Ap _ _ (4) _ CJ.nd rfl (by trivial) (by trivial)) (!C5)))) (!Ag (@Au _ _ (5) _ _ _ _ CJ.nd rfl (by trivial) (@BV _ ["_law_entry","_law_keeper"] [none,some 3] _ _ _ _ _ _ _ _ _ _ _ rfl (!Cv (!An Az (pv 1) (!Ae) (λ_ _=>rfl))) (by rfl) rfl (by repeat (first|exact trivial|refine⟨rfl,?_⟩)) (by repeat (first|exact trivial|refine⟨λh=>(by first|exact⟨_,rfl⟩|cases h),?_⟩)) (λC s H fp=>⟨(@Ap _ _ (0) _ (show(["_law_entry","_law_keeper"]:List Str).Nodup by decide +kernel) rfl (by trivial) (by trivial)),(!Ci (@PW.pt _ _ _ (!JD (!AE CV (!An (AW (K:=K) (by rfl)) (pv 0) (!Ae) (λ_ _=>rfl)) (!Ae) (AH _)) (!II (!AE CV (!An (AW (K:=K) (by rfl)) (pv 0) (!Ae) (λ_ _=>rfl)) (pv 1) (AH _)))))),(!An (AW (K:=K) (by rfl)) (pv 0) (!Ae) (λ_ _=>rfl))⟩) (by intro _;rfl)) (by rfl) (by trivial)) (!Ag (@Eu _ ["_law_entry","_law_stems"] [none,some 5] (6) _ _ _ _ _ _ _ _ _ _ _ _ _ _ CJ.nd rfl (by trivial) rfl (!Cv (!An Az (pv 1) (!Ae) (λ_ _=>rfl))) (by rfl) rfl (by repeat (first|exact trivial|refine⟨rfl,?_⟩)) (by repeat (first|exact trivial|refine⟨λh=>(by first|exact⟨_,rfl⟩|cases h),?_⟩)) (λC s H fp=>⟨(@Ap _ _ (0) _ (show(["_law_entry","_law_stems"]:List Str).Nodup by decide +kernel) rfl (by trivial) (by trivial)),(!Ci (@PW.pt _ _ _ (!GS (!AE (Io (K:=K) (by rfl)) (!An (AW (K:=K) (by rfl)) (pv 0) (!Ae) (λ_ _=>rfl)) (pv 1)) (!GK (@PW.pt _ _ _ (!JD (!AE CV (!An (AW (K:=K) (by rfl)) (pv 0) (!Ae) (λ_ _=>rfl)) (!Ae) (AH _)) (!II (!AE (Io (K:=K) (by rfl)) (!An (AW (K:=K) (by rfl)) (pv 0) (!Ae) (λ_ _=>rfl)) (pv 1))))))))),(!An (AW (K:=K) (by rfl)) (pv 0) (!Ae) (λ_ _=>rfl))⟩) (by intro _;rfl) (by rfl) (by trivial)) (!Al (!E8 hu (pv 2) (pv 3) (!AC EY (by trivial) rfl (!Ab (pv 0) (!Ab (pv 6) (!Af)))))))) (by intro _;rfl)) (!Al (!Av (pv 2))))),?_⟩
 try dsimp only[Bh,Cx.nox,Cx.wish]
 refine Aw λdh ndh=>?_
 have s1:=Ak ndh (.dK []);have hdh:(upd H dh (.dK [])) dh=some (.dK []):=Ad;dsimp only[Ay];generalize upd H dh (.dK [])=H1 at s1 hdh;refine Bf (t:=J7 _ _ _) (λσ' H'=>∃(hs:List (Str×Addr)) (v3 v4 v5 v6:Option V),σ'=[some (.ref d),some (.ref h),some (.ref dh),v3,v4,v5,v6]/\Am H H'/\Hl H' dh cs ps hs/\hs.map (·.1)=ks.map (·.2.1)) (λN hN=>?_) ?_
 ·refine⟨_,rfl,h,_,_,_,rfl,rfl,AL.of (s1.get hd.at_),Ar (j:=1) rfl,ka,rfl,⟨_,AL.of (s1.get hd.kt)⟩,?_⟩;refine Kp (K:=K) (a:=ka) (xs:=ks.map λp=>V.ref p.1) (λi σ H'=>∃(hs:List (Str×Addr)) (v3 v4 v5 v6:Option V),σ=[some (.ref d),some (.ref h),some (.ref dh),v3,v4,v5,v6]/\Am H H'/\Hl H' dh cs ps hs/\hs.map (·.1)=(ks.take i).map (·.2.1)) ⟨[],none,none,none,none,rfl,s1,⟨hdh,(λ_ h=>nomatch h),by simp⟩,rfl⟩ (by rintro i σ H' _ ⟨_,_,_,_,_,_,s',_⟩;exact AL.of (s'.get hd.kt)) ?_ ?_
  ·rintro i x σ H2 hi ⟨hs,v3,v4,v5,v6,rfl,s2,hl2,ehs⟩
   obtain⟨k,rfl,hk⟩:=IL hi;have hd2:=hd.same s2;dsimp only[Ay];refine⟨k.1,_,rfl,AL.of (hd2.ke k (aC hk)),rfl,_,_,rfl,_,_,rfl,rfl,?_⟩;have k8:=(ay.mp hk).1;have kl:=hd.kl;have el:=hd.el;have lh:hs.length<=8:=by have:=congrArg List.length ehs;rw[aa,aa,aV] at this;omega
   have at5:∀x∈ps,∃ta,H2 x.1=some (.tup [.str x.2.nm,.int x.2.kd,.str x.2.ow,kV x.2.og,.ref ta])/\HG H2 ta x.2.tg:=λx hx=>hd2.en x hx
   refine Aw ⟨_,rfl,h,_,_,_,rfl,rfl,AL.of hd2.at_,Ar (j:=2) rfl,ea,rfl,⟨_,AL.of hd2.et⟩,CH (ps:=ps) (UQ k.2.1) (λx=>.str x.2.nm) (Cb hd2.et) (by omega) (λx hx H' R s' hR=>?_) (λx hx px H' R s' hR=>?_) λls H3 nls s3 hls=>?_⟩
   ·obtain⟨ta,h1,_⟩:=at5 x hx;exact Jd _ _ (λR q=>⟨_,rfl,x.1,_,_,_,rfl,rfl,AL.of (s'.get h1),Ar (j:=1) rfl,rfl,_,rfl,q⟩) (λ_ R q=>⟨_,rfl,x.1,_,_,_,rfl,rfl,AL.of (s'.get h1),Ar (j:=2) rfl,_,rfl,rfl,_,rfl,q⟩) hR
   ·obtain⟨ta,h1,_⟩:=at5 x hx;exact⟨_,rfl,x.1,_,_,_,rfl,rfl,AL.of (s'.get h1),Ar (j:=0) rfl,hR H' (Am.refl _)⟩
   have hls:H3 ls=some (.lst (TB ps k.2.1)):=hls;have fl:(TB ps k.2.1).all GM=true:=bf.mpr λv hv=>by
    obtain⟨x,_,rfl⟩:=af.mp hv;rfl
   have hd3:=hd2.same s3;have e23:=s2.trans s3;dsimp only[Ay];refine Aw ⟨_,rfl,h,_,_,_,rfl,rfl,AL.of hd3.at_,Ar (j:=2) rfl,ea,rfl,⟨_,AL.of hd3.et⟩,FG (ps:=ps) (N3 (TB ps k.2.1)) (λx y H'=>∃ta,y=.ref ta/\HG H' ta x.2.tg) (λx y H1 H2 ⟨ta,e,h⟩ s=>⟨ta,e,s.get h⟩) (λx y H1 l us us' ⟨ta,e,h⟩ hl=>⟨ta,e,KT.lst hl _ _ _ h⟩) (Cb hd3.et) (by omega) (λx hx H' R s' hR=>?_) (λx hx px H' R s' hR=>?_) λlt H4 ys nlt s4 hlt ey hys=>?_⟩
   ·obtain⟨ta,h1,_⟩:=at5 x hx;have h1:=s'.get (s3.get h1);exact W3 _ _ (λR q=>⟨_,rfl,x.1,_,_,_,rfl,rfl,AL.of h1,Ar (j:=0) rfl,_,rfl,ls,_,rfl,.inl (AD.of (s'.get hls)),rfl,fl,_,rfl,q⟩) (λ_ R q=>Jd _ _ (λR q=>⟨_,rfl,x.1,_,_,_,rfl,rfl,AL.of h1,Ar (j:=1) rfl,rfl,_,rfl,q⟩) (λ_ R q=>⟨_,rfl,x.1,_,_,_,rfl,rfl,AL.of h1,Ar (j:=2) rfl,_,rfl,ls,_,rfl,.inl (AD.of (s'.get hls)),rfl,fl,_,rfl,q⟩) q) (hR H' (Am.refl _))
   ·obtain⟨ta,h1,h2⟩:=at5 x hx;exact⟨_,rfl,x.1,_,_,_,rfl,rfl,AL.of (s'.get (s3.get h1)),Ar (j:=4) rfl,hR _ H' (Am.refl _) ⟨ta,rfl,s'.get (s3.get h2)⟩⟩
   obtain⟨rs,e1,e2,hrs⟩:=Mu (R:=λ(x:Addr×HE) t=>HG H4 t x.2.tg) hys;have s24:=e23.trans s4;have lrs:rs.length<=12:=by
    have:=congrArg List.length e2;rw[ey,aa] at this;have:=bq (N3 (TB ps k.2.1)) ps;omega
   have hlt:Gy H4 lt (rs.map λr=>(r.2,r.1.2.tg)):=⟨by rw[hlt,e1,aq];rfl,λp hp=>by obtain⟨r,hr,rfl⟩:=af.mp hp;exact hrs r hr⟩
   dsimp only[Ay];refine⟨_,rfl,_,rfl,d,lt,cs,rs.map λr=>(r.2,r.1.2.tg),Ok,rfl,bx.same s24,hlt,by rw[aa];omega,cl,λp hp=>?_,λdd H5 s5 ndd hdd=>?_⟩
   ·obtain⟨r,hr,rfl⟩:=af.mp hp;refine okw r.1 ?_;have:r.1∈rs.map (·.1):=aH hr;rw[e2,ey] at this;exact(aU.mp this).1
   have eh:Fq cs ((rs.map λr=>(r.2,r.1.2.tg)).map (·.2.1))=CU cs ps k.2.1:=by
    unfold CU;rw[<-ey,<-e2,aq,aq];rfl
   rw[eh] at hdd;have hl5:=hl2.same (s3.trans (s4.trans s5));refine⟨_,rfl,_,rfl,dh,_,rfl,Jg.k (k:=.inr k.2.1) hl5.at_ (AU (by rw[aa];omega)),?_⟩;have hn:k.2.1∉hs.map (·.1):=λh=>by
    rw[ehs] at h;obtain⟨k',hk',e⟩:=af.mp h;obtain⟨j,hj⟩:=cf hk';have jl:=(ay.mp hj).1;rw[aV] at jl;rw[dQ,aG (by omega)] at hj;have:=bg.mp hd.kn j i (by rw[aa];omega) (by rw[aa];exact k8) (by omega);rw[cC,cC,(ay.mp hj).2,(ay.mp hk).2] at this;exact this e
   have put:putK (hs.map λr=>(.inr r.1,.ref r.2)) (.inr k.2.1) (.ref dd)=(hs++[(k.2.1,dd)]).map λr=>((.inr r.1,.ref r.2):Key×V):=by
    rw[DA _ (GP (k:=λr:Str×Addr=>.inr r.1) (g:=λr=>.ref r.2) (z:=.inr k.2.1) λr hr e=>hn (by rw[<-eN e];exact aH (f:=λr:Str×Addr=>r.1) hr)),aj];rfl
   rw[put];have ndd4:dd≠dh:=λw=>by rw[w,(hl2.same (s3.trans s4)).at_] at ndd;cases ndd
   refine⟨hs++[(k.2.1,dd)],_,_,_,_,rfl,AI (s24.trans s5) ndh _,⟨Ad,λr hr=>?_,?_⟩,?_⟩
   ·rcases av.mp hr with hr|hr
    ·have:=hl5.ea r hr;rw[Ah λw=>?_]
     ·exact this
     ·have ea:=hl5.ea r hr;rw[w,hl5.at_] at ea;have ea:=HO.dK.inj (aA ea);have m:((.inr r.1,.ref r.2):Key×V)∈AK (CU cs ps r.1):=by
       rw[<-ea];exact aH (f:=λr:Str×Addr=>((.inr r.1,.ref r.2):Key×V)) hr
      obtain⟨z,_,e⟩:=af.mp m;cases e
    ·cases ai.mp hr;rw[Ah ndd4];exact hdd
   ·rw[aj];exact bI.mpr ⟨hl2.nd,by simp,λa ha c hc e=>hn (by rw[ai.mp hc] at e;have e:a=k.2.1:=e;rw[<-e];exact ha)⟩
   ·rw[aj,ehs,aS,hk,aj];rfl
  ·rintro σ H2 ⟨hs,v3,v4,v5,v6,rfl,s2,hl2,ehs⟩
   rw[aa,bS] at ehs;exact hN _ _ ⟨hs,_,_,_,_,rfl,s2,hl2,ehs⟩
 ·rintro σ' H2 ⟨hs,v3,v4,v5,v6,rfl,s2,hl2,ehs⟩
  exact⟨_,rfl,q dh hs H2 s2 ndh hl2 ehs⟩
end
open M06
section
variable {P:Program}{w:World}{K:W.Frag}{mg:Str->Option Value}{base:Heap}{f Aj Aa Ac:Addr}{XC:Nat->Addr}{fd:FuncData}
theorem MO {B:BM}{S:Int->Prop}(cl:∀z,S z->∀t∈Q8 B z,S t):∀(n:Nat) (ws fs:List Int),(∀z∈ws,S z)->(∀z∈fs,S z)->∀z∈Nn B n ws fs,S z
 |0,_,fs,_,hf,z,hz=>hf z hz
 |n+1,ws,fs,hw,hf,z,hz=>by
  rcases dv ws with rfl|⟨ws',y,rfl⟩
  ·rw[Kl] at hz;exact hf z hz
  ·rw[dw] at *;rw[IZ] at hz;have sy:=hw y (aD _ aw)
   by_cases hy:y∈fs
   ·rw[aG hy] at hz;exact MO cl n ws' fs (λx hx=>hw x (aO _ hx)) hf z hz
   ·rw[aJ hy] at hz;refine MO cl n _ _ (λx hx=>?_) (λx hx=>?_) z hz
    ·rcases av.mp hx with hx|hx
     ·exact hw x (aO _ hx)
     ·exact cl y sy x hx
    ·rcases av.mp hx with hx|hx
     ·exact hf x hx
     ·rw[ai.mp hx];exact sy
theorem IR {cs:List Cz}{Ok:Int->Prop}(cl:Ja (bm cs) Ok){ws:List Int}(hw:∀z∈ws,Ok z):(Fq cs ws).Nodup/\(∀z∈ws,z∈Fq cs ws)/\(∀z∈Fq cs ws,Ok z)/\∀z∈Fq cs ws,∀t∈Q8 (bm cs) z,t∈Fq cs ws:=by
 obtain⟨h1,_,h3,h4,h5⟩:=Py cl (N:=cs.map (·.tg.1)) (λz hz=>by
  obtain⟨b,eb,_⟩:=cl z hz;obtain⟨c,hc,e,_⟩:=Cd eb;rw[<-e];exact aH (f:=λc:Cz=>c.tg.1) hc) (ws.length+4*cs.length) ws [] (by rw[aa];simp) bY hw (λ_ h=>nomatch h) (λ_ h=>nomatch h)
 exact⟨h1,h3,h4,h5⟩
theorem IE {cs:List Cz}{Ok:Int->Prop}(cl:Ja (bm cs) Ok){ws us:List Int}(hw:∀z∈ws,Ok z)(hs:∀z∈us,z∈ws):∀z∈Fq cs us,z∈Fq cs ws:=by
 obtain⟨_,h2,_,h4⟩:=IR cl hw;exact MO h4 _ us [] (λz hz=>h2 z (hs z hz)) λ_ h=>nomatch h
def Ew (K:W.Frag)(CP CT:Addr):Sp:=λvs H Q _=>∃p q cs e us,vs=[.ref p,.int e.z]/\FB CP CT H p q cs/\e∈cs/\H e.l=some (.lst us)/\∀l,H l=none->Q (.ref l) (upd H l (.lst us))
theorem MQ (T:Txt K mg Aj Aa Ac XC)(F:Fun K "tags" "Pool.tags" Df f fd):FnOk P w K mg base Cf 1 f fd ["self","number"] (Ew K Ac Aa):=by
 exists Mx
 ·obtain⟨p,q,cs,e,us,rfl,_⟩:=h;rfl
 obtain⟨p,q,cs,e,us,rfl,pa,he,hl,hq⟩:=h;have hu:=BI hr;refine⟨_,(!Al (!Av (!Bj DC (by rfl) T.b_list Gm (!Ab (!BK (!Br hu (!BK (pv 0)) (pv 1) (λ_ _=>rfl))) (!Af))))),?_⟩
 try dsimp only[Bh,Cx.nox,Cx.wish]
 obtain⟨h1,h2,h4,nd⟩:=pa;have g:BA H q.dt (.int e.z) (some (.ref e.c)):=by
  have:=BA.k (k:=Sum.inl e.z) h2;rw[HJ nd he] at this;exact this
 exact⟨_,rfl,p,Ac,q.dp,_,_,rfl,h1,T.cl_Pool,T.n_Pool_taken,rfl,_,rfl,q.dt,_,rfl,g,e.c,Aa,e.dx,_,_,rfl,(h4 e he).1,T.cl_TakenCell,T.n_TakenCell_named,rfl,e.l,_,rfl,.inl (AD.of hl),hq⟩
theorem Xj {cs:List Cl}(hz:∀(i:Nat) e,cs[i]?=some e->e.z=(i:Int)+1):(cs.map (·.z)).Pairwise (·<=·):=by
 refine bg.mpr λi j hi hj ij=>?_
 rw[aa] at hi hj;rw[cC,cC,hz i _ (ab hi),hz j _ (ab hj)];omega
theorem NU:∀{a b:List Int},a.Perm b->a.Pairwise (·<=·)->b.Pairwise (·<=·)->a=b
 |[],b,p,_,_=>(List.nil_perm.mp p).symm
 |x::a,[],p,_,_=>absurd p.length_eq (by simp)
 |x::a,y::b,p,ha,hb=>by
  rw[List.pairwise_cons] at ha hb;have e:x=y:=by
   have m1:x∈y::b:=p.mem_iff.mp aw;have m2:y∈x::a:=p.mem_iff.mpr aw;rcases aL.mp m1 with e|m1
   ·exact e
   rcases aL.mp m2 with e|m2
   ·exact e.symm
   have l1:=ha.1 y m2;have l2:=hb.1 x m1;omega
  subst e;rw[NU p.cons_inv ha.2 hb.2]
theorem Th {a b:Int}:decide (V.int a=V.int b)=decide (a=b):=by
 by_cases z:a=b
 ·rw[aE z,aE (by rw[z])]
 ·rw[ba z,ba λh=>z (V.int.inj h)]
theorem V3 {a b:Str}:decide (V.str a=V.str b)=decide (a=b):=by
 by_cases z:a=b
 ·rw[aE z,aE (by rw[z])]
 ·rw[ba z,ba λh=>z (V.str.inj h)]
def C7 (K:W.Frag)(CP CT:Addr):Sp:=λvs H Q _=>∃p q cs bs,vs=[.ref p]/\PAt CP CT H p q cs bs/\cs.length<=100/\∀l,H l=none->Q (.ref l) (upd H l (.lst ((cs.map (·.z)).map V.int)))
theorem J1 (T:Txt K mg Aj Aa Ac XC)(F:Fun K "numbers" "Pool.numbers" BY f fd):FnOk P w K mg base Cf 1 f fd ["self"] (C7 K Ac Aa):=by
 exists Ka
 ·obtain⟨p,q,cs,bs,rfl,_⟩:=h;rfl
 obtain⟨p,q,cs,bs,rfl,pa,few,hq⟩:=h;have hu:=BI hr;refine⟨_,(!Al (!Av (!Ax (JP rfl) (by rfl) T.b_sorted EK (!Ab (!BK (pv 0)) (!Af))))),?_⟩
 try dsimp only[Bh,Cx.nox,Cx.wish]
 refine⟨_,rfl,p,Ac,q.dp,_,_,rfl,pa.t.1,T.cl_Pool,T.n_Pool_taken,rfl,q.dt,_,cs.map (·.z),rfl,pa.t.2.1,by unfold Mp;rw[aq,aq];rfl,.inr ⟨by rw[aa];omega,Xj pa.z⟩,λms l pm so nl=>?_⟩;rw[NU pm so (Xj pa.z)];exact hq l nl
def GD (K:W.Frag):Sp:=λvs H Q _=>∃(h:Addr) (ag:Int) (ka ea:Addr) (ks:List (Addr×Str×Int)) (ps:List (Addr×HE)),vs=[.ref h]/\Hd H h ag ka ea ks ps/\∀l H',Am H H'->H l=none->H' l=some (.lst ((ps.filter λx=>decide (x.2.kd=1)).map λp=>V.ref p.1))->Q (.ref l) H'
theorem Nr (T:Txt K mg Aj Aa Ac XC)(F:Fun K "stems_in" "stems_in" DL f fd):FnOk P w K mg base Cf 1 f fd ["head"] (GD K):=by
 exists N6
 ·obtain⟨h,ag,ka,ea,ks,ps,rfl,_⟩:=h;rfl
 obtain⟨h,ag,ka,ea,ks,ps,rfl,hd,q⟩:=h;refine⟨_,(!Al (!Av (@BX _ ["named"] _ _ _ _ _ _ _ _ _ _ rfl (!Cv (!An Az (pv 0) (!Ae) (λ_ _=>rfl))) (by decide +kernel) (λC s H fp=>⟨(@Ap _ _ (0) _ (show(["named"]:List Str).Nodup by decide +kernel) rfl (by trivial) (by trivial)),(!Ci (!AE CV (!An (AW (K:=K) (by rfl)) (pv 0) (!Ae) (λ_ _=>rfl)) (!Bq rfl T.c_STEM) (AH _))),(pv 0)⟩) (by intro _;rfl)))),?_⟩
 try dsimp only[Bh,Cx.nox,Cx.wish]
 have el:=hd.el;refine⟨_,rfl,h,_,_,_,rfl,rfl,AL.of hd.at_,Ar (j:=2) rfl,ea,rfl,⟨_,AL.of hd.et⟩,CH (ps:=ps) (λx=>decide (x.2.kd=1)) (λx=>.ref x.1) (Cb hd.et) (by omega) (λx hx H' R s' hR=>?_) (λx hx _ H' R s' hR=>⟨_,rfl,hR H' (Am.refl _)⟩) λl H1 nl s1 hl=>q l H1 s1 nl hl⟩;obtain⟨ta,h1,_⟩:=hd.en x hx;refine⟨_,rfl,x.1,_,_,_,rfl,rfl,AL.of (s'.get h1),Ar (j:=1) rfl,rfl,_,rfl,?_⟩;rw[Th];exact hR
end
open M06
section
variable {P:Program}{w:World}{K:W.Frag}{mg:Str->Option Value}{base:Heap}{f Aj Aa Ac:Addr}{XC:Nat->Addr}{fd:FuncData}{PT:Addr}
abbrev LQ:Str:=PySem.Str.ofString "seals_of"++PySem.Str.ofString ".<locals>."++PySem.Str.ofString "<lambda>"
abbrev LP:Pos:=⟨215,29,215,49⟩
def KB (H H':Hp):Prop:=∀a o,H a=some o->(∀ps,o≠.tbl ps)->H' a=some o
theorem KB.of {H H':Hp}(s:Am H H'):KB H H':=λ_ _ h _=>s.get h
theorem KB.tup {H H':Hp}(h:KB H H'):∀c xs,H c=some (.tup xs)->H' c=some (.tup xs):=λc xs e=>h c _ e λ_ z=>by cases z
theorem KB.lst {H H':Hp}(h:KB H H'){c:Addr}{xs:List V}(e:H c=some (.lst xs)):H' c=some (.lst xs):=h c _ e λ_ z=>by cases z
theorem KB.dk {H H':Hp}(h:KB H H'){c:Addr}{kvs:List (Key×V)}(e:H c=some (.dK kvs)):H' c=some (.dK kvs):=h c _ e λ_ z=>by cases z
structure ST (PT:Addr) (H H':Hp):Prop where
 s:DE PT H H'
 t:Ej PT LQ LP H
 t':Ej PT LQ LP H'
theorem ST.kb {H H':Hp}(h:ST PT H H'):KB H H':=λ_ _ e n=>h.s.get h.t e n
theorem ST.trans {H H' H'':Hp}(h:ST PT H H')(k:ST PT H' H''):ST PT H H'':=⟨h.s.trans k.s,h.t,k.t'⟩
theorem ST.of {H H':Hp}(t:Ej PT LQ LP H)(s:Am H H'):ST PT H H':=⟨s.t PT,t,t.same s⟩
theorem ST.on {H H' H'':Hp}(h:ST PT H H')(s:Am H' H''):ST PT H H'':=h.trans (ST.of h.t' s)
theorem ST.free {H H':Hp}(h:ST PT H H'){l:Addr}(e:H' l=none):H l=none:=h.s.free h.t' e
theorem ST.new {H H':Hp}(h:ST PT H H'){l:Addr}(nl:H l=none){o u:HO}(hl:H' l=some u)(nt:∀ps,u≠.tbl ps)(nt2:∀c,u≠NZ c LQ):ST PT H (upd H' l o):=by
 refine⟨λb v n e=>?_,h.t,?_⟩
 ·rw[Ah λw=>by rw[w,nl] at e;cases e];exact h.s b v n e
 ·rcases h.t' with e|⟨c,e,e2⟩
  ·exact .inl (by rw[Ah λw=>by rw[w,hl] at e;exact nt _ (aA e)];exact e)
  ·exact .inr ⟨c,by rw[Ah λw=>by rw[w,hl] at e;exact nt _ (aA e)];exact e,by rw[Ah λw=>by rw[w,hl] at e2;exact nt2 _ (by rw[<-w] at *;exact(aA e2))];exact e2⟩
theorem Hd.keep {H H':Hp}{h:Addr}{ag:Int}{ka ea:Addr}{ks:List (Addr×Str×Int)}{ps:List (Addr×HE)}(a:Hd H h ag ka ea ks ps)(k:KT H H'):Hd H' h ag ka ea ks ps:=
 ⟨k _ _ a.at_,k _ _ a.kt,λx hx=>k _ _ (a.ke x hx),a.kn,a.kl,k _ _ a.et,λp hp=>let⟨ta,e1,e2⟩:=a.en p hp;⟨ta,k _ _ e1,k _ _ e2⟩,a.og,a.nd,a.el⟩
def QX (sm:Str)(x:Addr×HE):Bool:=decide (x.2.kd=2)&&decide (x.2.ow=sm)
def GN (K:W.Frag)(PT:Addr):Sp:=λvs H Q _=>∃(h:Addr) (sm:Str) (ag:Int) (ka ea:Addr) (ks:List (Addr×Str×Int)) (ps:List (Addr×HE)),vs=[.ref h,.str sm]/\Hd H h ag ka ea ks ps/\(Lx (ps.map (·.2))).Nodup/\Ej PT LQ LP H/\
 ∀(us:List (Addr×HE)) l H',us.Perm (ps.filter (QX sm))->ST PT H H'->H l=none->H' l=some (.lst (us.map λp=>V.ref p.1))->Q (.ref l) H'
theorem N7 (T:Txt K mg Aj Aa Ac XC)(F:Fun K "seals_of" "seals_of" DM f fd)(LA:LamAt K mg base fd.code PT):FnOk P w K mg base Cf 1 f fd ["head","stem"] (GN K PT):=by
 refine F.okC JX (λvs H Q E h=>?_) (λcdv A outer s H vs Q E hcd hr h=>?_)
 ·obtain⟨h,sm,ag,ka,ea,ks,ps,rfl,_⟩:=h;rfl
 subst hcd;obtain⟨h,sm,ag,ka,ea,ks,ps,rfl,hd,nd,tb,q⟩:=h;refine⟨_,(!Ag (@Eu _ ["named","stem"] [none,some 1] (2) _ _ _ _ _ _ _ _ _ _ _ _ _ _ JX.nd rfl (by trivial) rfl (!Cv (!An Az (pv 0) (!Ae) (λ_ _=>rfl))) (by rfl) rfl (by repeat (first|exact trivial|refine⟨rfl,?_⟩)) (by repeat (first|exact trivial|refine⟨λh=>(by first|exact⟨_,rfl⟩|cases h),?_⟩)) (λC s H fp=>⟨(@Ap _ _ (0) _ (show(["named","stem"]:List Str).Nodup by decide +kernel) rfl (by trivial) (by trivial)),(!Ci (@PW.pt _ _ _ (!JD (!AE CV (!An (AW (K:=K) (by rfl)) (pv 0) (!Ae) (λ_ _=>rfl)) (!Bq rfl T.c_SEAL) (AH _)) (!II (!AE CV (!An (AW (K:=K) (by rfl)) (pv 0) (!Ae) (λ_ _=>rfl)) (pv 1) (AH _)))))),(pv 0)⟩) (by intro _;rfl) (by rfl) (by trivial)) (!Al (!Av (@R7 _ _ _ _ _ _ (3) _ _ _ _ _ _ _ _ _ _ (hr.mono (ar _)) ⟨λ_ _ _ _ _ _=>rfl,λ_=>rfl,λ_=>rfl,rfl,rfl,rfl,rfl,by decide,by decide⟩ LA (by decide) rfl rfl T.b_sorted (!Ab (pv 2) (!Af)) (by rfl) (by rfl))))),?_⟩
 try dsimp only[Bh,Cx.nox,Cx.wish]
 have el:=hd.el;refine⟨_,rfl,h,_,_,_,rfl,rfl,AL.of hd.at_,Ar (j:=2) rfl,ea,rfl,⟨_,AL.of hd.et⟩,?_⟩;refine CH (ps:=ps) (g:=λp=>V.ref p.1) (QX sm) (λp=>V.ref p.1) (Cb hd.et) (by omega) (λp hp H' R s' hR=>?_) (λp hp hs H' R s' hR=>⟨_,rfl,hR H' (Am.refl _)⟩) λl H7 n7 s7 h7=>?_
 ·obtain⟨ta,h1,_⟩:=hd.en p hp;refine Jd _ _ (λR q=>⟨_,rfl,p.1,_,_,_,rfl,rfl,AL.of (s'.get h1),Ar (j:=1) rfl,rfl,_,rfl,by rw[Th];exact q⟩) (λ_ R q=>⟨_,rfl,p.1,_,_,_,rfl,rfl,AL.of (s'.get h1),Ar (j:=2) rfl,_,rfl,rfl,_,rfl,by rw[V3];exact q⟩) hR
 have lf:=bq (QX sm) ps;have ndq:((ps.filter (QX sm)).map λp=>OD p.2).Nodup:=by
  have sub:((ps.filter (QX sm)).map λp=>OD p.2).Sublist (Lx (ps.map (·.2))):=by
   unfold Lx;rw[dF,aq];have e:ps.filter (QX sm)=(ps.filter λp=>decide (p.2.kd=2)).filter λp=>decide (p.2.ow=sm):=by
    rw[List.filter_filter];refine List.filter_congr λp _=>?_
    unfold QX;rw[Bool.and_comm]
   rw[e];exact(gQ).map _
  exact nd.sublist sub
 have inq:∀p∈ps.filter (QX sm),p∈ps/\p.2.kd=2:=λp hp=>by
  obtain⟨h1,h2⟩:=aU.mp hp;unfold QX at h2;rw[aY] at h2;exact⟨h1,aQ h2.1⟩
 generalize ps.filter (QX sm)=qs at h7 ndq q lf inq;refine⟨_,rfl,l,qs.map λp=>(p.1,OD p.2),rfl,AD.of (by rw[aq];exact h7),by rw[aa];omega,λt ht=>?_,by rw[aq];exact ndq,tb.same s7,λus p H2 up us2 st tb2 np=>?_⟩
 ·obtain⟨p,hp,rfl⟩:=af.mp ht;obtain⟨h1,k2⟩:=inq p hp;obtain⟨ta,e1,_⟩:=hd.en p h1;rw[Tp (hd.og p h1) k2] at e1;exact⟨_,AL.of (s7.get e1),rfl⟩
 ·obtain⟨us',p1,rfl⟩:=Hn up rfl;rw[aq];have S:ST PT H (upd H2 p (.lst (us'.map ((λt:Addr×Int=>V.ref t.1)∘λp:Addr×HE=>(p.1,OD p.2))))):=⟨((s7.t PT).trans st).trans ((Ak np _).t PT),tb,tb2.same (Ak np _)⟩
  exact q us' p _ p1 S (((s7.t PT).trans st).free tb2 np) Ad
def R5 (ts:List (Addr×HE))(k:Str)(x:Addr×HE):Prop:=(x∈ts/\x.2.ow=k)\/(x.2.kd=2/\∃y∈ts,y.2.ow=k/\x.2.ow=y.2.nm)
theorem Hk {ts:List (Addr×HE)}{k:Str}{x y:Addr×HE}:R5 (ts++[x]) k y↔R5 ts k y\/(x.2.ow=k/\(y=x\/(y.2.kd=2/\y.2.ow=x.2.nm))):=by
 unfold R5;constructor
 ·rintro(⟨hm,ho⟩|⟨k2,z,hm,ho,hn⟩)
  ·rcases av.mp hm with hm|hm
   ·exact .inl (.inl ⟨hm,ho⟩)
   ·have e:=ai.mp hm;exact .inr ⟨by rw[<-e];exact ho,.inl e⟩
  ·rcases av.mp hm with hm|hm
   ·exact .inl (.inr ⟨k2,z,hm,ho,hn⟩)
   ·have e:=ai.mp hm;rw[e] at ho hn;exact .inr ⟨ho,.inr ⟨k2,hn⟩⟩
 ·rintro((⟨hm,ho⟩|⟨k2,z,hm,ho,hn⟩)|⟨ho,rfl|⟨k2,hn⟩⟩)
  ·exact .inl ⟨aO _ hm,ho⟩
  ·exact .inr ⟨k2,z,aO _ hm,ho,hn⟩
  ·exact .inl ⟨aD _ aw,ho⟩
  ·exact .inr ⟨k2,x,aD _ aw,ho,hn⟩
theorem ST.lst {H H':Hp}(h:ST PT H H'){l:Addr}(nl:H l=none){us us':List V}(hl:H' l=some (.lst us)):ST PT H (upd H' l (.lst us')):=h.new nl hl (λ_ z=>by cases z) (λ_ z=>by cases z)
def Es (K:W.Frag)(PT:Addr):Sp:=λvs H Q _=>∃(h:Addr) (k:Str) (ag:Int) (ka ea:Addr) (ks:List (Addr×Str×Int)) (ps:List (Addr×HE)),vs=[.ref h,.str k]/\Hd H h ag ka ea ks ps/\(Lx (ps.map (·.2))).Nodup/\Ej PT LQ LP H/\
 ∀l (rs:List (Addr×Tg)) H',ST PT H H'->H l=none->Gy H' l rs->rs.length<=200->(∀r∈rs,∃x∈ps,R5 (ps.filter λx=>decide (x.2.kd=1)) k x/\r.2=x.2.tg)->(∀x∈ps,R5 (ps.filter λx=>decide (x.2.kd=1)) k x->∃r∈rs,r.2=x.2.tg)->Q (.ref l) H'
theorem ML (T:Txt K mg Aj Aa Ac XC)(F:Fun K "tags_kept" "tags_kept" Di f fd)(HW:Def P w K mg base 1 "stems_in" ["head"] (GD K))(Ii:Def P w K mg base 1 "seals_of" ["head","stem"] (GN K PT)):FnOk P w K mg base Cf 2 f fd ["head","keeper"] (Es K PT):=by
 exists Gn
 ·obtain⟨h,k,ag,ka,ea,ks,ps,rfl,_⟩:=h;rfl
 obtain⟨h,k,ag,ka,ea,ks,ps,rfl,hd,nd,tb,q⟩:=h;have hu:=BI hr;have hu9:=Ct hr;refine⟨_,(!Ag (@Au _ _ (2) _ _ _ _ Gn.nd rfl (by trivial) (!Bb (!Af)) (by rfl) (by trivial)) (!Ag (!BR aW rfl (!BQ (!AC HW (by trivial) rfl (!Ab (pv 0) (!Af)))) (@Ap _ _ (3) _ Gn.nd rfl (by trivial) (by trivial)) (!Al (!BH (!AE CV (!An Az (pv 3) (!Ae) (λ_ _=>rfl)) (pv 1) (AH _)) (!Ag (!Bl (!C4 aP bu br BD (pv 2) (!Ab (!An Az (pv 3) (!Ae) (λ_ _=>rfl)) (!Af)))) (!Al (!Bl (!C4 aP cw cu EH (pv 2) (!Ab (@BX _ ["seal"] _ _ _ _ _ _ _ _ _ _ rfl (!BQ (!AC Ii (by trivial) rfl (!Ab (pv 0) (!Ab (!An Az (pv 3) (!Ae) (λ_ _=>rfl)) (!Af))))) (by decide +kernel) (λC s H fp=>⟨(@Ap _ _ (0) _ (show(["seal"]:List Str).Nodup by decide +kernel) rfl (by trivial) (by trivial)),(!AO),(!An (AW (K:=K) (by rfl)) (pv 0) (!Ae) (λ_ _=>rfl))⟩) (by intro _;rfl)) (!Af)))))) (!AV))) (by intro _;rfl)) (!Al (!Av (pv 2))))),?_⟩
 try dsimp only[Bh,Cx.nox,Cx.wish]
 have el:=hd.el;refine Aw ⟨HX,λlt nlt=>?_⟩;have s1:=Ak nlt (.lst []);have hlt:(upd H lt (.lst [])) lt=some (.lst []):=Ad;dsimp only[Ay];generalize upd H lt (.lst [])=H1 at s1 hlt;have S1:=ST.of tb s1;refine Bf (t:=J7 _ _ _) (λσ' H'=>∃(rs:List (Addr×Tg)) (v3:Option V),σ'=[some (.ref h),some (.str k),some (.ref lt),v3]/\ST PT H H'/\Gy H' lt rs/\rs.length<=200/\(∀r∈rs,∃x∈ps,R5 (ps.filter λx=>decide (x.2.kd=1)) k x/\r.2=x.2.tg)/\(∀x∈ps,R5 (ps.filter λx=>decide (x.2.kd=1)) k x->∃r∈rs,r.2=x.2.tg)) (λN hN=>?_) ?_
 ·refine⟨_,rfl,h,ag,ka,ea,ks,ps,rfl,hd.same s1,λls H2 s2 nls hls=>?_⟩;have nle:ls≠lt:=λw=>by rw[w,hlt] at nls;cases nls
  have lss:=bq (λx:Addr×HE=>decide (x.2.kd=1)) ps;have inps:∀x∈ps.filter (λx=>decide (x.2.kd=1)),x∈ps:=λx hx=>(aU.mp hx).1
  generalize ps.filter (λx=>decide (x.2.kd=1))=ss at hls hN lss inps;refine⟨ls,rfl,⟨_,AD.of hls⟩,E4 (K:=K) (a:=ls) (xs:=ss.map λp=>V.ref p.1) (λi σ H'=>∃(rs:List (Addr×Tg)) (v3:Option V),σ=[some (.ref h),some (.str k),some (.ref lt),v3]/\ST PT H H'/\H' ls=some (.lst (ss.map λp=>V.ref p.1))/\Gy H' lt rs/\rs.length<=13*i/\(∀r∈rs,∃x∈ps,R5 (ss.take i) k x/\r.2=x.2.tg)/\(∀x∈ps,R5 (ss.take i) k x->∃r∈rs,r.2=x.2.tg)) ⟨[],none,rfl,S1.on s2,hls,⟨s2.get hlt,λ_ h=>nomatch h⟩,bC _,(λ_ h=>nomatch h),λx _ hk=>?_⟩ (by rintro i σ H' _ ⟨_,_,_,_,h,_⟩;exact AD.of h) ?_ ?_⟩
  ·rcases hk with⟨hm,_⟩|⟨_,_,hm,_⟩
   ·cases hm
   ·cases hm
  ·rintro i v σ H3 hi ⟨rs,v3,rfl,S3,hls3,hlt3,lrs,k1,k2⟩
   obtain⟨x,rfl,hx⟩:=IL hi;have hxm:=aC hx;have il:=(ay.mp hx).1;have tk:ss.take (i+1)=ss.take i++[x]:=by rw[aS,hx];rfl
   have hd3:=hd.keep S3.kb.tup;obtain⟨ta,hx1,hx2⟩:=hd3.en x (inps x hxm);dsimp only[Ay];refine⟨_,rfl,x.1,_,_,_,rfl,rfl,AL.of hx1,Ar (j:=2) rfl,_,rfl,rfl,_,rfl,Et (λc=>?_) (λc=>?_)⟩
   ·have ok:x.2.ow=k:=V.str.inj (aQ c);refine Nv ⟨_,rfl,.inl ⟨rfl,_,AD.of hlt3.1⟩,_,rfl,x.1,_,_,_,rfl,rfl,AL.of hx1,Ar (j:=4) rfl,lt,_,_,rfl,rfl,hlt3.1,AU (by rw[aa];omega),?_⟩;have S4:=S3.lst (us':=rs.map (λp=>V.ref p.1)++[.ref ta]) nlt hlt3.1;have hlt4:=hlt3.snoc hx2;have hls4:(upd H3 lt (.lst (rs.map (λp=>V.ref p.1)++[.ref ta]))) ls=some (.lst (ss.map λp=>V.ref p.1)):=by rw[Ah nle];exact hls3
    generalize upd H3 lt (.lst (rs.map (λp=>V.ref p.1)++[.ref ta]))=H4 at S4 hlt4 hls4;have hd4:=hd.keep S4.kb.tup;obtain⟨ta4,hx14,hx24⟩:=hd4.en x (inps x hxm);refine⟨_,rfl,.inl ⟨rfl,_,AD.of hlt4.1⟩,_,rfl,_,rfl,x.1,_,_,_,rfl,rfl,AL.of hx14,Ar (j:=0) rfl,h,x.2.nm,ag,ka,ea,ks,ps,rfl,hd4,nd,S4.t',λus l5 H5 pm S5 nl5 hl5=>?_⟩;have hd5:=hd4.keep S5.kb.tup;have lus:us.length<=12:=by rw[pm.length_eq];have:=bq (QX x.2.nm) ps;omega
    have inus:∀y∈us,y∈ps/\y.2.kd=2/\y.2.ow=x.2.nm:=λy hy=>by
     obtain⟨h1,h2⟩:=aU.mp (pm.mem_iff.mp hy);unfold QX at h2;rw[aY] at h2;exact⟨h1,aQ h2.1,aQ h2.2⟩
    refine⟨l5,rfl,⟨_,AD.of hl5⟩,FG (ps:=us) (λ_=>true) (λy v H'=>∃t,v=.ref t/\HG H' t y.2.tg) (λy v H1 H2 ⟨t,e,h⟩ s=>⟨t,e,s.get h⟩) (λy v H1 l us us' ⟨t,e,h⟩ hl=>⟨t,e,KT.lst hl _ _ _ h⟩) (Co (AD.of hl5)) (by omega) (λy hy H' R s' hR=>hR H' (Am.refl _)) (λy hy _ H' R s' hR=>?_) λl6 H6 ys nl6 s6 hl6 ey hys=>?_⟩
    ·obtain⟨tt,h1,h2⟩:=hd5.en y (inus y hy).1;exact⟨_,rfl,y.1,_,_,_,rfl,rfl,AL.of (s'.get h1),Ar (j:=4) rfl,hR _ H' (Am.refl _) ⟨tt,rfl,s'.get h2⟩⟩
    rw[ck.mpr λ_ _=>rfl] at ey;obtain⟨rr,e1,e2,hrr⟩:=Mu (R:=λ(y:Addr×HE) t=>HG H6 t y.2.tg) hys;rw[ey] at e2;rw[e1] at hl6;have S6:=(S4.trans S5).on s6;have S46:=S5.on s6;have lrr:rr.length=us.length:=by have:=congrArg List.length e2;rw[aa] at this;exact this
    have hlt6:Gy H6 lt (rs++[(ta,x.2.tg)]):=⟨S46.kb.lst hlt4.1,λp hp=>S46.kb.tup _ _ (hlt4.2 p hp)⟩
    have kt:=KT.lst hlt6.1 (.lst ((rs++[(ta,x.2.tg)]).map (λp=>V.ref p.1)++rr.map λp=>V.ref p.2));refine⟨lt,l6,_,_,rfl,rfl,hlt6.1,hl6,small (by rw[aa,aa,au];show rs.length+1+_<=_;omega),(rs++[(ta,x.2.tg)])++rr.map (λr=>(r.2,r.1.2.tg)),_,rfl,S6.lst nlt hlt6.1,by rw[Ah nle];exact S46.kb.lst hls4,⟨by rw[Ad,aj (l₁:=rs++[(ta,x.2.tg)]),aq];rfl,λp hp=>?_⟩,by rw[au,au,aa];show rs.length+1+_<=_;omega,λr hr=>?_,λy hy hk=>?_⟩
    ·rcases av.mp hp with hp|hp
     ·exact kt _ _ (hlt6.2 p hp)
     ·obtain⟨r,hr,rfl⟩:=af.mp hp;exact kt _ _ (hrr r hr)
    ·rw[tk];rcases av.mp hr with hr|hr
     ·rcases av.mp hr with hr|hr
      ·obtain⟨y,hy,hk,e⟩:=k1 r hr;exact⟨y,hy,Hk.mpr (.inl hk),e⟩
      ·rw[ai.mp hr];exact⟨x,inps x hxm,Hk.mpr (.inr ⟨ok,.inl rfl⟩),rfl⟩
     ·obtain⟨r',hr',rfl⟩:=af.mp hr;have hy:r'.1∈us:=by rw[<-e2];exact aH hr'
      obtain⟨a1,a2,a3⟩:=inus _ hy;exact⟨r'.1,a1,Hk.mpr (.inr ⟨ok,.inr ⟨a2,a3⟩⟩),rfl⟩
    ·rw[tk] at hk;rcases Hk.mp hk with hk|⟨_,rfl|⟨a2,a3⟩⟩
     ·obtain⟨r,hr,e⟩:=k2 y hy hk;exact⟨r,aO _ (aO _ hr),e⟩
     ·exact⟨_,aO _ (aD _ aw),rfl⟩
     ·have hyu:y∈us:=pm.mem_iff.mpr (aU.mpr ⟨hy,by unfold QX;rw[aE a2,aE a3];rfl⟩);rw[<-e2] at hyu;obtain⟨r',hr',e⟩:=af.mp hyu;exact⟨_,aD _ (af.mpr ⟨r',hr',rfl⟩),by rw[e]⟩
   ·have no:x.2.ow≠k:=λe=>c (aE (by rw[e]))
    refine⟨rs,_,rfl,S3,hls3,hlt3,by omega,λr hr=>?_,λy hy hk=>?_⟩
    ·obtain⟨y,hy,hk,e⟩:=k1 r hr;rw[tk];exact⟨y,hy,Hk.mpr (.inl hk),e⟩
    ·rw[tk] at hk;rcases Hk.mp hk with hk|⟨ho,_⟩
     ·exact k2 y hy hk
     ·exact absurd ho no
  ·rintro σ H3 ⟨rs,v3,rfl,S3,hls3,hlt3,lrs,k1,k2⟩
   rw[aa,bS] at k1 k2;rw[aa] at lrs;exact hN _ _ ⟨rs,_,rfl,S3,hlt3,by omega,k1,k2⟩
 ·rintro σ' H3 ⟨rs,v3,rfl,S3,hlt3,lrs,k1,k2⟩
  exact⟨_,rfl,q lt rs H3 S3 nlt hlt3 lrs k1 k2⟩
end
open M06
section
variable {P:Program}{w:World}{K:W.Frag}{mg:Str->Option Value}{base:Heap}{f Aj Aa Ac:Addr}{XC:Nat->Addr}{fd:FuncData}{PT:Addr}
def Pv (CP CT:Addr)(H:Hp)(p d:Addr)(zs:List Cz):Prop:=∃q cs bs,PAt CP CT H p q cs bs/\(∀e∈cs,∃us,H e.l=some (.lst us)/\AN NL H ((AQ e.bk).map Gx) us)/\Bx H d zs/\zs.map (λc=>(c.tg,c.bk))=(cs.map λe=>(Mb e,e.bk))/\zs.length<=15
theorem PAt.kb {CP CT:Addr}{H H':Hp}{p:Addr}{q:Pl}{cs:List Cl}{bs:List (Int×Addr)}(h:PAt CP CT H p q cs bs)(k:KB H H'):PAt CP CT H' p q cs bs:=by
 have ki:∀{a C d fs},H a=some (.ins C d fs)->H' a=some (.ins C d fs):=λ{a C d fs} e=>k a _ e λ_ z=>by cases z
 refine⟨⟨ki h.t.1,k.dk h.t.2.1,λe he=>?_,h.t.2.2.2⟩,k.dk h.d,{ h.b with h:=k.dk h.b.h,d:=λx hx=>⟨k.dk (h.b.d x hx).1,(h.b.d x hx).2⟩ },h.n1,h.n2,h.n3,h.c,h.z,h.w,h.f1,h.f2⟩;have hc:=(h.t.2.2.1 e he).1;exact(h.t.2.2.1 e he).tup ((ki hc).trans hc.symm) k.tup
theorem Pv.kb {CP CT:Addr}{H H':Hp}{p d:Addr}{zs:List Cz}(h:Pv CP CT H p d zs)(k:KB H H'):Pv CP CT H' p d zs:=by
 obtain⟨q,cs,bs,pa,nl,bx,eq,few⟩:=h;exact⟨q,cs,bs,pa.kb k,λe he=>let⟨us,h1,h2⟩:=nl e he;⟨us,k.lst h1,B0 k.tup _ _ h2⟩,⟨k.dk bx.at_,λc hc=>(bx.ce c hc).keep k.tup,bx.nd,bx.few⟩,eq,few⟩
theorem Pv.tags {CP CT:Addr}{H:Hp}{p d:Addr}{zs:List Cz}{z:Int}{b:Bk}{Q:VK}(h:Pv CP CT H p d zs)(e:bm zs z=some b)(hq:∀l (ps:List (Addr×Tg)) H',Am H H'->H l=none->Gy H' l ps->ps.map (·.2)=AQ b->Q (.ref l) H'):Ew K CP CT [.ref p,.int z] H Q E0:=by
 obtain⟨q,cs,bs,pa,nl,bx,eq,few⟩:=h;obtain⟨c,hc,rfl,rfl⟩:=Cd e;have:(c.tg,c.bk)∈cs.map λe=>(Mb e,e.bk):=by rw[<-eq];exact aH hc
 obtain⟨x,hx,ex⟩:=af.mp this;have e1:Mb x=c.tg:=congrArg (·.1) ex;have e2:x.bk=c.bk:=congrArg (·.2) ex;obtain⟨us,h1,h2⟩:=nl x hx;obtain⟨ps,rfl,ep,hps⟩:=MR h2;refine⟨p,q,cs,x,_,by rw[<-e1];rfl,pa.t,hx,h1,λl nl=>?_⟩;have s:=Ak nl (.lst (ps.map λp=>V.ref p.1));exact hq l ps _ s nl ⟨Ad,λp hp=>s.get (hps p hp)⟩ (by rw[<-e2];exact ep.symm)
def Gf (K:W.Frag)(CP CT:Addr):Sp:=λvs H Q _=>∃(p d la:Addr) (cs:List Cz) (ps:List (Addr×Tg)) (Ok:Int->Prop),vs=[.ref p,.ref la]/\Pv CP CT H p d cs/\Gy H la ps/\ps.length<=200/\Ja (bm cs) Ok/\(∀x∈ps,Ok x.2.1)/\
 ∀l H',Am H H'->H l=none->H' l=some (.lst ((Fq cs (ps.map (·.2.1))).map V.int))->Q (.ref l) H'
theorem O5 (T:Txt K mg Aj Aa Ac XC)(F:Fun K "reached" "reached" EB f fd)(Gz:CL P w K mg base 1 Ac "tags" ["self","number"] (Ew K Ac Aa)):FnOk P w K mg base Cf 2 f fd ["pool","tags"] (Gf K Ac Aa):=by
 exists Gj
 ·obtain⟨p,d,la,cs,ps,Ok,rfl,_⟩:=h;rfl
 obtain⟨p,d,la,cs,ps,Ok,rfl,pvv,hla,few,cl,okw,q⟩:=h;have hu:=BI hr;have hu9:=Ct hr;have few15:cs.length<=15:=let⟨_,_,_,_,_,_,_,h⟩:=pvv;h;refine⟨_,(!Ag (@Au _ _ (2) _ _ _ _ Gj.nd rfl (by trivial) (!Cs) (by rfl) (by trivial)) (!Ag (@Au _ _ (3) _ _ _ _ Gj.nd rfl (by trivial) (!Bj DC (by rfl) T.b_list Gm (!Ab (pv 1) (!Af))) (by rfl) (by trivial)) (!Ag (!G5 aW (!AE LO (!Ax AM (by rfl) T.b_len BW (!Ab (pv 3) (!Af))) (!Ae) (AH _)) (!Ag (@Au _ _ (4) _ _ _ _ Gj.nd rfl (by trivial) (!An Az (!Sk aP gx gv TJ (pv 3)) (!Ae) (λ_ _=>rfl)) (by rfl) (by trivial)) (!Al (!BH (!HY (!LX hu (pv 4) (pv 2)) (by first|exact D7 _ (by decide) (by decide)|rfl)) (!Ag (!E8 hu (pv 2) (pv 4) (!Hy)) (!Al (!Bl (!C4 aP cw cu EH (pv 3) (!Ab (!CZ (pv 0) T.cl_Pool Gz (by trivial) (!Ab (pv 4) (!Af))) (!Af)))))) (!AV))))) (!Al (!Av (!Bj (PK rfl) (by rfl) T.b_list Gm (!Ab (pv 2) (!Af)))))))),?_⟩
 try dsimp only[Bh,Cx.nox,Cx.wish]
 refine Aw λdf ndf=>?_
 have s1:=Ak ndf (.dK []);have hdf:(upd H df (.dK [])) df=some (.dK (AK [])):=Ad;dsimp only[Ay];generalize upd H df (.dK [])=H1 at s1 hdf;refine Aw ⟨_,rfl,la,_,rfl,.inl (AD.of (s1.get hla.1)),λlw nlw=>?_⟩;have s2:=Ak nlw (.lst (ps.map λp=>V.ref p.1));have hlw:(upd H1 lw (.lst (ps.map λp=>V.ref p.1))) lw=some (.lst (ps.map λp=>V.ref p.1)):=Ad;have hdf2:=s2.get hdf;have nlwH:=s1.free nlw;have nlf:df≠lw:=λw=>by rw[<-w,hdf] at nlw;cases nlw
 dsimp only[Ay];generalize upd H1 lw (.lst (ps.map λp=>V.ref p.1))=H2 at s2 hlw hdf2;have s12:=s1.trans s2;have N0:∀z,Ok z->z∈cs.map (·.tg.1):=λz hz=>by
  obtain⟨b,eb,_⟩:=cl z hz;obtain⟨c,hc,e,_⟩:=Cd eb;rw[<-e];exact aH (f:=λc:Cz=>c.tg.1) hc
 have lN0:∀{fs:List Int},fs.Nodup->(∀x∈fs,Ok x)->fs.length<=cs.length:=λ{fs} nd hf=>by
  have:=Fw nd λx hx=>N0 x (hf x hx)
  rw[aa] at this;exact this
 refine Bf (t:=MI _ _) (λσ' H'=>∃(v4:Option V),σ'=[some (.ref p),some (.ref la),some (.ref df),some (.ref lw),v4]/\Am H H'/\H' df=some (.dK (AK (Fq cs (ps.map (·.2.1)))))) (λN hN=>?_) ?_
 ·refine⟨λm σ' H'=>∃(ws:List (Addr×Tg)) (fs:List Int) (v4:Option V),σ'=[some (.ref p),some (.ref la),some (.ref df),some (.ref lw),v4]/\Am H H'/\H' df=some (.dK (AK fs))/\Gy H' lw ws/\Nn (bm cs) m (ws.map (·.2.1)) fs=Fq cs (ps.map (·.2.1))/\ws.length+4*(cs.length-fs.length)<=m/\fs.Nodup/\(∀p∈ws,Ok p.2.1)/\(∀z∈fs,Ok z)/\m<=300,
   ⟨ps.length+4*cs.length,ps,[],none,rfl,s12,hdf2,⟨hlw,λp hp=>s12.get (hla.2 p hp)⟩,by unfold Fq;rw[aa],by simp,by simp,okw,(λ_ h=>nomatch h),by omega⟩,?_⟩
  rintro m σ' H3 ⟨ws,fs,v4,rfl,s3,hdf3,hlw3,er,hm,nd,okws,okfs,m3⟩
  refine⟨_,rfl,lw,_,rfl,.inl (AD.of hlw3.1),_,_,rfl,rfl,_,rfl,Et (λc=>?_) (λc=>?_)⟩
  ·have c:=aQ c;rcases dv ws with rfl|⟨ws,y,rfl⟩
   ·exact absurd c (by simp)
   rw[dw] at *;have y1:HG H3 y.1 y.2:=hlw3.2 y (aD _ aw);have oy:=okws y (aD _ aw);rw[au,bO] at hm;obtain⟨m,rfl⟩:∃m',m=m'+1:=⟨m-1,by omega⟩
   rw[aj,List.map_singleton,IZ] at er;refine⟨_,λσ' H' h=>⟨m,cR m,h⟩,?_⟩;have hlast:((ws++[y]).map λp=>V.ref p.1)[((ws++[y]).map λp=>V.ref p.1).length-1]?=some (.ref y.1):=by
    rw[aj,au,bJ (by simp)];simp
   have hdl:((ws++[y]).map λp=>V.ref p.1).dropLast=ws.map λp=>V.ref p.1:=by
    rw[aj];exact eP
   have k5:=KT.lst hlw3.1 (.lst (ws.map λp=>V.ref p.1));have hlw5:Gy (upd H3 lw (.lst (ws.map λp=>V.ref p.1))) lw ws:=⟨Ad,λp hp=>k5 _ _ (hlw3.2 p (aO _ hp))⟩
   have s5:Am H (upd H3 lw (.lst (ws.map λp=>V.ref p.1))):=AI s3 nlwH _;have hdf5:(upd H3 lw (.lst (ws.map λp=>V.ref p.1))) df=some (.dK (AK fs)):=by rw[Ah nlf];exact hdf3
   refine Aw ⟨_,rfl,.inl ⟨rfl,_,AD.of hlw3.1⟩,lw,_,_,rfl,rfl,hlw3.1,hlast,?_⟩;rw[hdl];refine⟨y.1,_,_,_,rfl,rfl,AL.of (k5 _ _ y1),Ar (j:=0) rfl,?_⟩;dsimp only[Ay];generalize upd H3 lw (.lst (ws.map λp=>V.ref p.1))=H5 at hlw5 s5 hdf5;have g:=BA.k (k:=.inl y.2.1) hdf5;refine⟨_,rfl,_,rfl,df,_,rfl,g,_,rfl,Et (λc=>?_) (λc=>?_)⟩
   ·have hz:y.2.1∉fs:=λh=>by
     rw[show Bo (AK fs) (.inl y.2.1)=some (.bl true) from Em (k:=λz:Int=>.inl z) (g:=λ_=>.bl true) (bh.mpr (nd.imp λh e=>h (bH e))) y.2.1 h] at c;cases c
    rw[aJ hz] at er;obtain⟨b,eb,l3,okb⟩:=cl _ oy;have nd':(fs++[y.2.1]).Nodup:=bI.mpr ⟨nd,by simp,λa ha c hc e=>hz (by rw[ai.mp hc] at e;rw[<-e];exact ha)⟩;have hf':∀x∈fs++[y.2.1],Ok x:=λx hx=>by
     rcases av.mp hx with hx|hx
     ·exact okfs x hx
     ·rw[ai.mp hx];exact oy
    have lN:=lN0 nd' hf';rw[au,bO] at lN;have put:putK (AK fs) (.inl y.2.1) (.bl true)=AK (fs++[y.2.1]):=by
     rw[AK,AK,DA _ (GP (k:=λz:Int=>.inl z) (g:=λ_=>.bl true) (z:=.inl y.2.1) λr hr e=>hz (by rw[<-bH e];exact hr)),aj];rfl
    refine⟨_,rfl,_,rfl,df,_,rfl,Jg.k (k:=.inl y.2.1) hdf5 (AU (by rw[AK,aa];omega)),?_⟩;rw[put];have k6:KT H5 (upd H5 df (.dK (AK (fs++[y.2.1])))):=λc xs e=>by rw[Ah λw=>by rw[w,hdf5] at e;cases e];exact e
    have s6:Am H (upd H5 df (.dK (AK (fs++[y.2.1])))):=AI s5 ndf _;have hdf6:(upd H5 df (.dK (AK (fs++[y.2.1])))) df=some (.dK (AK (fs++[y.2.1]))):=Ad;have hlw6:Gy (upd H5 df (.dK (AK (fs++[y.2.1])))) lw ws:=⟨by rw[Ah (Ne.symm nlf)];exact hlw5.1,λp hp=>k6 _ _ (hlw5.2 p hp)⟩
    generalize upd H5 df (.dK (AK (fs++[y.2.1])))=H6 at k6 s6 hdf6 hlw6;have pv6:=pvv.kb (KB.of s6);obtain⟨q6,cs6,bs6,pa6,_⟩:=id pv6;dsimp only[N9];refine⟨_,rfl,.inl ⟨rfl,_,AD.of hlw6.1⟩,_,rfl,p,q6.dp,_,rfl,pa6.t.1,rfl,_,rfl,Cj (pv6.tags (K:=K) eb λl qs H7 s7 nl hl7 eq=>?_)⟩;have hlw7:=hlw6.same s7;have lq:qs.length<=3:=by rw[<-eq,aa] at l3;exact l3
    refine⟨lw,l,_,_,rfl,rfl,hlw7.1,hl7.1,small (by rw[aa,aa];omega),?_⟩;have k8:=KT.lst hlw7.1 (.lst (ws.map (λp=>V.ref p.1)++qs.map λp=>V.ref p.1));have et:Q8 (bm cs) y.2.1=qs.map (·.2.1):=by unfold Q8;rw[eb];dsimp only;rw[<-eq,aq];rfl
    refine⟨ws++qs,fs++[y.2.1],_,rfl,AI (s6.trans s7) nlwH _,by rw[Ah nlf];exact s7.get hdf6,⟨by rw[Ad,aj],λp hp=>?_⟩,by rw[aj,<-et];exact er,?_,nd',λp hp=>?_,hf',by omega⟩
    ·rcases av.mp hp with hp|hp
     ·exact k8 _ _ (hlw7.2 p hp)
     ·exact k8 _ _ (hl7.2 p hp)
    ·rw[au,au,bO];omega
    ·rcases av.mp hp with hp|hp
     ·exact okws p (aO _ hp)
     ·exact okb p.2 (by rw[<-eq];exact aH hp)
   ·have hz:y.2.1∈fs:=cE λh=>by
     rw[show Bo (AK fs) (.inl y.2.1)=none from GP (k:=λz:Int=>.inl z) (g:=λ_=>.bl true) λr hr e=>h (by rw[<-bH e];exact hr)] at c;exact c rfl
    rw[aG hz] at er;exact⟨ws,fs,_,rfl,s5,hdf5,hlw5,er,by omega,nd,λp hp=>okws p (aO _ hp),okfs,by omega⟩
  ·have c:=of_decide_eq_false (di.mpr c);have e:ws=[]:=by
    rcases ws with _|⟨y,ws⟩
    ·rfl
    ·exact absurd (by rw[aa,aX];omega) c
   subst e;rw[cx,Kl] at er;refine hN _ _ ⟨_,rfl,s3,?_⟩;rw[<-er];exact hdf3
 ·rintro σ' H3 ⟨v4,rfl,s3,hdf3⟩
  refine⟨_,rfl,df,_,rfl,hdf3,?_,λl nl=>q l _ (s3.trans (Ak nl _)) (s3.free nl) (by rw[Ad,AK,aq];rfl)⟩;obtain⟨h1,_,h3,_⟩:=IR cl (ws:=ps.map (·.2.1)) λz hz=>by obtain⟨x,hx,rfl⟩:=af.mp hz;exact okw x hx
  have:=lN0 h1 h3;rw[AK,aa];omega
end
open M06
section
variable {P:Program}{w:World}{K:W.Frag}{mg:Str->Option Value}{base:Heap}{f Aj Aa Ac:Addr}{XC:Nat->Addr}{fd:FuncData}{PT:Addr}
structure Ho (H:Hp) (dh:Addr) (hs:List (Int×Addr)) (g:Int->List Str):Prop where
 at_:H dh=some (.dK (hs.map λr=>(.inl r.1,.ref r.2)))
 ls:∀r∈hs,H r.2=some (.lst ((g r.1).map V.str))
 na:(hs.map (·.2)).Nodup
 nz:(hs.map (·.1)).Nodup
theorem Ho.get {H:Hp}{dh:Addr}{hs:List (Int×Addr)}{g:Int->List Str}(h:Ho H dh hs g){r:Int×Addr}(hr:r∈hs):BA H dh (.int r.1) (some (.ref r.2)):=by
 have d:=BA.k (k:=.inl r.1) h.at_;rw[show Bo (hs.map λr=>((.inl r.1:Key),V.ref r.2)) (.inl r.1)=some (.ref r.2) from Em (k:=λr:Int×Addr=>.inl r.1) (g:=λr=>.ref r.2) (bh.mpr ((bh.mp h.nz).imp λh e=>h (bH e))) r hr] at d;exact d
theorem Ho.kb {H H':Hp}{dh:Addr}{hs:List (Int×Addr)}{g:Int->List Str}(h:Ho H dh hs g)(k:KB H H'):Ho H' dh hs g:=⟨k.dk h.at_,λr hr=>k.lst (h.ls r hr),h.na,h.nz⟩
theorem Ho.put {H:Hp}{dh:Addr}{hs:List (Int×Addr)}{g:Int->List Str}(h:Ho H dh hs g){r:Int×Addr}(hr:r∈hs)(k:Str):Ho (upd H r.2 (.lst ((g r.1).map V.str++[.str k]))) dh hs (λz=>if z=r.1 then g z++[k] else g z):=by
 refine⟨by rw[Ah λw=>by have:=h.ls r hr;rw[<-w,h.at_] at this;cases this];exact h.at_,λx hx=>?_,h.na,h.nz⟩
 by_cases e:x=r
 ·subst e;rw[Ad,aG rfl,aj];rfl
 ·have n1:x.2≠r.2:=λw=>e (BZ h.na hx hr w)
  have n2:x.1≠r.1:=λw=>e (BZ h.nz hx hr w)
  rw[Ah n1,aJ n2];exact h.ls x hx
def D8 (cs:List Cz)(ks:List (Addr×Str×Int))(ps:List (Addr×HE))(z:Int):List Str:=(ks.filter λk=>decide (z∈CU cs ps k.2.1)).map (·.2.1)
theorem Ki {z:Str}{vs:List V}:RA (.str z) vs=true↔V.str z∈vs:=by
 unfold RA;rw[List.any_eq_true];constructor
 ·rintro⟨y,hy,e⟩
  cases y<;>first|exact absurd e aB|skip
  rw[eq_of_beq (show(_ == z)=true from e)] at hy;exact hy
 ·exact λh=>⟨_,h,beq_self_eq_true z⟩
theorem Hm {ps:List (Addr×HE)}(nd:(ps.map (·.2.nm)).Nodup){k:Str}{x:Addr×HE}(hx:x∈ps)(og:J4 x.2):R5 (ps.filter λx=>decide (x.2.kd=1)) k x↔N3 (TB ps k) x=true:=by
 have ins:∀z:Str,RA (.str z) (TB ps k)=true↔∃y∈ps,y.2.kd=1/\y.2.ow=k/\y.2.nm=z:=λz=>by
  rw[Ki];unfold TB;rw[af];constructor
  ·rintro⟨y,hy,e⟩
   obtain⟨h1,h2⟩:=aU.mp hy;unfold UQ at h2;rw[Th,V3,aY] at h2;exact⟨y,h1,aQ h2.1,aQ h2.2,V.str.inj e⟩
  ·rintro⟨y,h1,h2,h3,h4⟩
   exact⟨y,aU.mpr ⟨h1,by unfold UQ;rw[Th,V3,aE h2,aE h3];rfl⟩,by rw[h4]⟩
 unfold N3;rw[Bool.or_eq_true,aY,ins,ins,Th,bj];unfold R5;constructor
 ·rintro(⟨hm,ho⟩|⟨k2,y,hm,ho,hn⟩)
  ·obtain⟨h1,h2⟩:=aU.mp hm;exact .inl ⟨x,h1,aQ h2,ho,rfl⟩
  ·obtain⟨h1,h2⟩:=aU.mp hm;exact .inr ⟨k2,y,h1,aQ h2,ho,hn.symm⟩
 ·rintro(⟨y,h1,h2,h3,h4⟩|⟨k2,y,h1,h2,h3,h4⟩)
  ·have e:=BZ nd h1 hx h4;subst e;exact .inl ⟨aU.mpr ⟨h1,aE h2⟩,h3⟩
  ·exact .inr ⟨k2,y,aU.mpr ⟨h1,aE h2⟩,h3,h4.symm⟩
def C3 (K:W.Frag)(CP CT PT:Addr):Sp:=λvs H Q _=>∃(p d h:Addr) (cs:List Cz) (ag:Int) (ka ea:Addr) (ks:List (Addr×Str×Int)) (ps:List (Addr×HE)) (Ok:Int->Prop),vs=[.ref p,.ref h]/\Pv CP CT H p d cs/\Hd H h ag ka ea ks ps/\(Lx (ps.map (·.2))).Nodup/\Ej PT LQ LP H/\Ja (bm cs) Ok/\(∀x∈ps,Ok x.2.tg.1)/\
 ∀dh hs H',ST PT H H'->Ho H' dh hs (D8 cs ks ps)->hs.map (·.1)=cs.map (·.tg.1)->H dh=none->(∀r∈hs,H r.2=none)->Q (.ref dh) H'
theorem Li (T:Txt K mg Aj Aa Ac XC)(F:Fun K "holders_in" "holders_in" CQ f fd)(EL:Def P w K mg base 2 "reached" ["pool","tags"] (Gf K Ac Aa))(Dg:Def P w K mg base 2 "tags_kept" ["head","keeper"] (Es K PT))(B8:CL P w K mg base 1 Ac "numbers" ["self"] (C7 K Ac Aa)):FnOk P w K mg base Cf 3 f fd ["pool","head"] (C3 K Ac Aa PT):=by
 exists C0
 ·obtain⟨p,d,h,cs,ag,ka,ea,ks,ps,Ok,rfl,_⟩:=h;rfl
 obtain⟨p,d,h,cs,ag,ka,ea,ks,ps,Ok,rfl,pvv,hd,nsl,tb,cl,okp,q⟩:=h;have hu:=BI hr;have hu9:=Ct hr;refine⟨_,(!Ag (@Au _ _ (2) _ _ _ _ C0.nd rfl (by trivial) (!Bj (Pu (K:=K) (by rfl) rfl) (by rfl) T.b_dict Ut (!Ab (@BX _ ["number"] _ _ _ _ _ _ _ _ _ _ rfl (!BQ (!Mc (pv 0) T.cl_Pool B8)) (by decide +kernel) (λC s H fp=>⟨(@Ap _ _ (0) _ (show(["number"]:List Str).Nodup by decide +kernel) rfl (by trivial) (by trivial)),(!AO),(!BF (!Ab (pv 0) (!Ab (!Bb (!Af)) (!Af))))⟩) (by intro _;rfl)) (!Af))) (by rfl) (by trivial)) (!Ag (!BR aW rfl (!Cv (!An Az (pv 1) (!Ae) (λ_ _=>rfl))) (!Ik rfl (!AJ (@Ap _ _ (3) _ C0.nd rfl (by trivial) (by trivial)) (!AJ (@Ap _ _ (4) _ C0.nd rfl (by trivial) (by trivial)) (!C5)))) (!Al (!BR aW rfl (!BQ (!AC EL (by trivial) rfl (!Ab (pv 0) (!Ab (!AC Dg (by trivial) rfl (!Ab (pv 1) (!Ab (pv 3) (!Af)))) (!Af))))) (@Ap _ _ (5) _ C0.nd rfl (by trivial) (by trivial)) (!Al (!Bl (!C4 aP bu br BD (!Br hu (pv 2) (pv 5) (λ_ _=>rfl)) (!Ab (pv 3) (!Af))))) (by intro _;rfl))) (by intro _;rfl)) (!Al (!Av (pv 2))))),?_⟩
 try dsimp only[Bh,Cx.nox,Cx.wish]
 obtain⟨q0,cs0,bs0,pa0,nl0,bx0,eq0,few0⟩:=id pvv;have ez:cs0.map (·.z)=cs.map (·.tg.1):=by
  have e:=congrArg (List.map λx:Tg×Bk=>x.1.1) eq0;rw[aq,aq] at e;exact e.symm
 have lz:cs0.length=cs.length:=by have:=congrArg List.length ez;rw[aa,aa] at this;exact this
 refine Aw ⟨_,rfl,p,q0.dp,_,rfl,pa0.t.1,rfl,Cj ⟨p,q0,cs0,bs0,rfl,pa0,by omega,λl1 nl1=>?_⟩⟩;rw[ez];have s1:=Ak nl1 (.lst ((cs.map (·.tg.1)).map V.int));have hl1:(upd H l1 (.lst ((cs.map (·.tg.1)).map V.int))) l1=some (.lst ((cs.map (·.tg.1)).map V.int)):=Ad;generalize upd H l1 (.lst ((cs.map (·.tg.1)).map V.int))=H1 at s1 hl1;have ndz:(cs.map (·.tg.1)).Nodup:=bx0.nd;have lzz:(cs.map (·.tg.1)).length=cs.length:=aa ..;generalize cs.map (·.tg.1)=zz at hl1 ez ndz lzz q;refine⟨l1,rfl,⟨_,AD.of hl1⟩,Ml (xs:=zz.map V.int) (λi ys l H'=>∃rs:List (Int×Addr×Addr),ys=rs.map (λr=>V.ref r.2.2)/\rs.map (·.1)=zz.take i/\Am H1 H'/\(∀r∈rs,H' r.2.2=some (.tup [.int r.1,.ref r.2.1])/\H' r.2.1=some (.lst [])/\r.2.1≠l/\H1 r.2.1=none)/\(rs.map (·.2.1)).Nodup) (by rw[aa];omega) (λi ys l H' ⟨_,_,_,s',_⟩=>Co (AD.of (s'.get hl1)) H' (Am.refl _) i) (λl nl=>⟨[],rfl,rfl,Ak nl _,(λ_ h=>nomatch h),bY⟩) (λi x ys l H' R hx nl hl ly ⟨rs,ey,er,s',hrs,na⟩ hR=>?_) λl H2 ys nl hl ly ⟨rs,ey,er,s2,hrs,na⟩=>?_⟩
 ·obtain⟨z,rfl,hz⟩:=IL hx;refine⟨_,rfl,HX,λla nla=>⟨Fy,λt nt=>?_⟩⟩;have sa:=Ak nla (.lst []);have st:=Ak nt (.tup [.int z,.ref la]);have sb:=sa.trans st;have hl2:=sb.get hl;have nal:la≠l:=λw=>by rw[w,hl] at nla;cases nla
  have kt:=KT.lst hl2 (.lst (ys++[.ref t]));refine hR _ _ hl2 ⟨rs++[(z,la,t)],by rw[ey,aj];rfl,by rw[aj,er,aS,hz];rfl,AI (s'.trans sb) nl _,λr hr=>?_,?_⟩
  ·rcases av.mp hr with hr|hr
   ·obtain⟨h1,h2,h3,h4⟩:=hrs r hr;exact⟨kt _ _ (sb.get h1),by rw[Ah h3];exact sb.get h2,h3,h4⟩
   ·cases ai.mp hr;exact⟨kt _ _ Ad,by rw[Ah nal];exact st.get Ad,nal,s'.free nla⟩
  ·rw[aj];refine bI.mpr ⟨na,by simp,λa ha b hb e=>?_⟩;obtain⟨r,hr,rfl⟩:=af.mp ha;have:=(hrs r hr).2.1;rw[e,ai.mp hb] at this;have this:H' la=some (.lst []):=this;rw[nla] at this;cases this
 rw[aa,bS] at er;have lrs:rs.length=cs.length:=by have:=congrArg List.length er;rw[aa] at this;omega
 subst ey;refine⟨l,rs.map (·.2.2),rs.map λr=>(.inl r.1,.ref r.2.1),rfl,AD.of (by rw[hl,aq];rfl),by rw[aa,aa],by rw[aa];omega,?_,λi t k v ht hk=>?_,λdh ndh=>?_⟩
 ·rw[aq];have:((λp:Key×V=>p.1)∘λr:Int×Addr×Addr=>((.inl r.1,.ref r.2.1):Key×V))=Sum.inl∘(λr:Int×Addr×Addr=>r.1):=rfl;rw[this,<-aq,er];exact ndz.map _ λa b n e=>n (bH e)
 ·rw[az] at ht hk;obtain⟨r,hr1,rfl⟩:=bN.mp ht;rw[hr1] at hk;cases hk;exact(hrs r (aC hr1)).1
 have s3:=Ak ndh (.dK (rs.map λr=>(.inl r.1,.ref r.2.1)));have s13:=s1.trans (s2.trans s3);have ndhH:=(s1.trans s2).free ndh;have S3:=ST.of tb s13;obtain⟨hs,ehs⟩:∃hs:List (Int×Addr),hs=rs.map λr=>(r.1,r.2.1):=⟨_,rfl⟩
 have ez2:hs.map (·.1)=zz:=by rw[ehs,aq];exact er
 have hfr:∀r∈hs,H r.2=none:=λr hr=>by
  rw[ehs] at hr;obtain⟨x,hx,rfl⟩:=af.mp hr;exact s1.free (hrs x hx).2.2.2
 have ho3:Ho (upd H2 dh (.dK (rs.map λr=>(.inl r.1,.ref r.2.1)))) dh hs (D8 cs (ks.take 0) ps):=by
  refine⟨by rw[Ad,ehs,aq];rfl,λr hr=>?_,by rw[ehs,aq];exact na,by rw[ez2];exact ndz⟩;rw[ehs] at hr;obtain⟨x,hx,rfl⟩:=af.mp hr;exact s3.get (hrs x hx).2.1
 dsimp only[Ay];generalize upd H2 dh (.dK (rs.map λr=>(.inl r.1,.ref r.2.1)))=H3 at S3 ho3
 clear hrs na s2 s3 ndh hl nl s13
 have el:=hd.el;have kl:=hd.kl;refine Bf (t:=J7 _ _ _) (λσ' H'=>∃(v3 v4 v5:Option V),σ'=[some (.ref p),some (.ref h),some (.ref dh),v3,v4,v5]/\ST PT H H'/\Ho H' dh hs (D8 cs ks ps)) (λN hN=>?_) ?_
 ·have hd3:=hd.keep S3.kb.tup;refine⟨_,rfl,h,_,_,_,rfl,rfl,AL.of hd3.at_,Ar (j:=1) rfl,ka,rfl,⟨_,AL.of hd3.kt⟩,?_⟩;refine Kp (K:=K) (a:=ka) (xs:=ks.map λp=>V.ref p.1) (λi σ H'=>∃(v3 v4 v5:Option V),σ=[some (.ref p),some (.ref h),some (.ref dh),v3,v4,v5]/\ST PT H H'/\Ho H' dh hs (D8 cs (ks.take i) ps)) ⟨none,none,none,rfl,S3,ho3⟩ (by rintro i σ H' _ ⟨_,_,_,_,s',_⟩;exact AL.of (s'.kb.tup _ _ hd.kt)) ?_ ?_
  ·rintro i v σ H4 hi ⟨v3,v4,v5,rfl,S4,ho4⟩
   obtain⟨k,rfl,hk⟩:=IL hi;have hd4:=hd.keep S4.kb.tup;have il:=(ay.mp hk).1;dsimp only[Ay];refine⟨k.1,_,rfl,AL.of (hd4.ke k (aC hk)),rfl,_,_,rfl,_,_,rfl,rfl,?_⟩;refine⟨_,rfl,_,rfl,_,rfl,h,k.2.1,ag,ka,ea,ks,ps,rfl,hd4,nsl,S4.t',λlt rs2 H5 S5 nlt hlt lrs2 k1 k2=>?_⟩;have S05:=S4.trans S5;have okr:∀x∈rs2,Ok x.2.1:=λx hx=>by
    obtain⟨y,hy,_,e⟩:=k1 x hx;rw[e];exact okp y hy
   refine⟨p,d,lt,cs,rs2,Ok,rfl,pvv.kb S05.kb,hlt,lrs2,cl,okr,λln H6 s6 nln hln=>?_⟩;have okw:∀z∈rs2.map (·.2.1),Ok z:=λz hz=>by obtain⟨x,hx,rfl⟩:=af.mp hz;exact okr x hx
   have oku:∀z∈(ps.filter (N3 (TB ps k.2.1))).map (·.2.tg.1),Ok z:=λz hz=>by
    obtain⟨x,hx,rfl⟩:=af.mp hz;exact okp x (aU.mp hx).1
   have mem:∀z,z∈Fq cs (rs2.map (·.2.1))↔z∈CU cs ps k.2.1:=λz=>by
    constructor
    ·refine IE cl oku (λy hy=>?_) z;obtain⟨x,hx,rfl⟩:=af.mp hy;obtain⟨u,hu,hk',e⟩:=k1 x hx;rw[e];exact af.mpr ⟨u,aU.mpr ⟨hu,(Hm hd.nd hu (hd.og u hu)).mp hk'⟩,rfl⟩
    ·refine IE cl okw (λy hy=>?_) z;obtain⟨u,hu,rfl⟩:=af.mp hy;obtain⟨hu1,hu2⟩:=aU.mp hu;obtain⟨x,hx,e⟩:=k2 u hu1 ((Hm hd.nd hu1 (hd.og u hu1)).mpr hu2);exact af.mpr ⟨x,hx,by rw[e]⟩
   obtain⟨ndn,_,okn,_⟩:=IR cl okw;generalize Fq cs (rs2.map (·.2.1))=ns at hln mem ndn okn;have S06:=S05.on s6;have ho6:=ho4.kb (S5.on s6).kb;have nlnr:∀r∈hs,ln≠r.2:=λr hr w=>by
    have:=(ho4.kb S5.kb).ls r hr;rw[<-w,nln] at this;cases this
   refine⟨ln,rfl,⟨_,AD.of hln⟩,E4 (K:=K) (a:=ln) (xs:=ns.map V.int) (λj σ H'=>∃(v5:Option V),σ=[some (.ref p),some (.ref h),some (.ref dh),some (.str k.2.1),some (.int k.2.2),v5]/\ST PT H H'/\H' ln=some (.lst (ns.map V.int))/\Ho H' dh hs (λz=>D8 cs (ks.take i) ps z++if z∈ns.take j then[k.2.1] else[])) ⟨_,rfl,S06,hln,?_⟩ (λj σ H' _ ⟨_,_,_,h,_⟩=>AD.of h) ?_ ?_⟩
   ·have e:(λz=>D8 cs (ks.take i) ps z++if z∈ns.take 0 then[k.2.1] else[])=D8 cs (ks.take i) ps:=funext λz=>by
     rw[dO,aJ (by simp),cn]
    rw[e];exact ho6
   ·rintro j v σ H7 hj ⟨v5,rfl,S7,hln7,ho7⟩
    obtain⟨z,rfl,hz⟩:=IL hj;have jl:=(ay.mp hz)
    have zm:z∈hs.map (·.1):=by
     rw[ez2,<-ez];obtain⟨b,eb,_⟩:=cl z (okn z (aC hz));obtain⟨c,hc,e,_⟩:=Cd eb;have:(c.tg,c.bk)∈cs0.map λe=>(Mb e,e.bk):=by rw[<-eq0];exact aH hc
     obtain⟨x,hx,ex⟩:=af.mp this;have e1:Mb x=c.tg:=congrArg (·.1) ex;exact af.mpr ⟨x,hx,by rw[<-e,<-e1];rfl⟩
    obtain⟨r,hr,er⟩:=af.mp zm;have er:r.1=z:=er;subst er;have hl7:=ho7.ls r hr;have few:((D8 cs (ks.take i) ps r.1++if r.1∈ns.take j then[k.2.1] else[]).map V.str).length<=20:=by
     rw[aa,au];have l1:(D8 cs (ks.take i) ps r.1).length<=8:=by
      unfold D8;have:=bq (λk:Addr×Str×Int=>decide (r.1∈CU cs ps k.2.1)) (ks.take i);rw[aa];rw[aV] at this;omega
     have l2:(if r.1∈ns.take j then[k.2.1] else[]).length<=1:=by split<;>simp
     omega
    dsimp only[Ay];refine⟨_,rfl,_,rfl,dh,_,rfl,ho7.get hr,.inl ⟨rfl,_,AD.of hl7⟩,_,rfl,r.2,_,_,rfl,rfl,hl7,AU (by omega),_,rfl,S7.lst (hfr r hr) hl7,by rw[Ah (nlnr r hr)];exact hln7,?_⟩;have nin:r.1∉ns.take j:=λhm=>by
     obtain⟨j2,hj2⟩:=cf hm;have l2:=(ay.mp hj2).1;rw[aV] at l2;rw[dQ,aG (by omega)] at hj2;have:=bg.mp ndn j2 j (by omega) jl.1 (by omega);rw[(ay.mp hj2).2,jl.2] at this;exact this rfl
    have hp:=ho7.put hr k.2.1;have e:(λz=>if z=r.1 then(D8 cs (ks.take i) ps z++if z∈ns.take j then[k.2.1] else[])++[k.2.1] else D8 cs (ks.take i) ps z++if z∈ns.take j then[k.2.1] else[])=λz=>D8 cs (ks.take i) ps z++if z∈ns.take (j+1) then[k.2.1] else[]:=funext λz=>by
     rw[aS,hz,Option.toList_some]
     by_cases e:z=r.1
     ·rw[e,aG rfl,aJ nin,aG (aD _ aw),cn]
     ·rw[aJ e]
      by_cases m:z∈ns.take j
      ·rw[aG m,aG (aO _ m)]
      ·rw[aJ m,aJ λw=>(av.mp w).elim m λw=>e (ai.mp w)]
    rw[e] at hp;exact hp
   ·rintro σ H7 ⟨v5,rfl,S7,hln7,ho7⟩
    refine⟨_,_,_,rfl,S7,?_⟩;rw[aa,bS] at ho7;have e:(λz=>D8 cs (ks.take i) ps z++if z∈ns then[k.2.1] else[])=D8 cs (ks.take (i+1)) ps:=funext λz=>by
     unfold D8;rw[aS,hk,Option.toList_some,cV,aj]
     by_cases m:z∈ns
     ·rw[aG m,cq,aG (aE ((mem z).mp m))];rfl
     ·rw[aJ m,cq,aJ λw=>m ((mem z).mpr (aQ w))];rfl
    rw[e] at ho7;exact ho7
  ·rintro σ H4 ⟨v3,v4,v5,rfl,S4,ho4⟩
   rw[aa,bS] at ho4;exact hN _ _ ⟨_,_,_,rfl,S4,ho4⟩
 ·rintro σ' H4 ⟨v3,v4,v5,rfl,S4,ho4⟩
  exact⟨_,rfl,q dh hs H4 S4 ho4 ez2 ndhH hfr⟩
end
open M06 M55
section
variable {P:Program}{w:World}{K:W.Frag}{mg:Str->Option Value}{base:Heap}{f Aj Aa Ac:Addr}{XC:Nat->Addr}{fd:FuncData}
def Pr (H:Hp)(v:V)(p:Int×Int):Prop:=∃a,v=.ref a/\H a=some (.tup [.int p.1,.int p.2])
def Xx (H:Hp)(ys:List V)(ps:List (Int×Int)):Prop:=ys.length=ps.length/\∀(i:Nat) y p,ys[i]?=some y->ps[i]?=some p->Pr H y p
theorem Xx.get {H:Hp}{ys:List V}{ps:List (Int×Int)}(h:Xx H ys ps){i:Nat}(hi:i<ps.length):∃a,ys[i]?=some (.ref a)/\H a=some (.tup [.int ps[i].1,.int ps[i].2]):=by
 have hi':i<ys.length:=by rw[h.1];exact hi
 obtain⟨a,e,q⟩:=h.2 i ys[i] ps[i] (ab hi') (ab hi);exact⟨a,by rw[ab hi',e],q⟩
def Small (p:Int×Int):Prop:=0<p.2/\p.1.natAbs<2^150/\p.2.natAbs<2^150
def Xr (p:Int×Int):Prop:=p.1.natAbs<2^4000/\p.2.natAbs<2^4000
def Ff (K:W.Frag):Sp:=λvs H Q _=>∃(t b:Int),vs=[.int t,.int b]/\0<b/\b.natAbs<2^8000/\
 ∀(r:Addr) (H':Hp) (p q:Int),Am H H'->H r=none->H' r=some (.tup [.int p,.int q])->0<q->Iq (p,q) (t,b)->Nat.gcd p.natAbs q.natAbs=1->p.natAbs<=t.natAbs->q.natAbs<=b.natAbs->Q (.ref r) H'
def Dw (K:W.Frag):Sp:=λvs H Q _=>∃(m n:Nat),vs=[.int m,.int n]/\Q (.int (Nat.gcd m n)) H
def JI (K:W.Frag):Sp:=λvs H Q _=>∃(a:Addr) (ys:List V) (ps:List (Int×Int)),vs=[.ref a]/\AD K H a ys/\Xx H ys ps/\ps.length<=15/\(∀p∈ps,Small p)/\
 ∀(r:Addr) (H':Hp) (p q:Int),Am H H'->H r=none->H' r=some (.tup [.int p,.int q])->0<q->Iq (p,q) (sumF ps)->Nat.gcd p.natAbs q.natAbs=1->p.natAbs<2^4000->q.natAbs<2^4000->Q (.ref r) H'
def Hc (K:W.Frag):Sp:=λvs H Q _=>∃(v u:V) (p q:Int×Int),vs=[v,u]/\Pr H v p/\Pr H u q/\Xr p/\Xr q/\Q (.bl (decide (p.1*q.2>q.1*p.2))) H
def EX (K:W.Frag):Sp:=Dw K
def C1 (K:W.Frag):Sp:=λvs H Q _=>∃(i:Int),vs=[.int i]/\Q (.bl true) H
def DU (K:W.Frag):Sp:=λvs H Q _=>∃(v:V) (p:Int×Int) (t b:Int),vs=[v,.int t,.int b]/\Pr H v p/\0<=p.1/\0<p.2/\Iq p (t,b)/\Nat.gcd p.1.natAbs p.2.natAbs=1/\p.1.natAbs<2^4000/\p.2.natAbs<2^4000/\t.natAbs<2^4000/\b.natAbs<2^4000/\Q (.bl true) H
def WN:St->Hp->Nat:=λσ _=>match σ with
 |_::some (.int b)::_=>b.toNat
 |_=>0
theorem Oc {a b:Nat}:Nat.gcd b (a%b)=Nat.gcd a b:=by rw[Nat.gcd_comm b,<-Nat.gcd_rec,Nat.gcd_comm]
theorem KI (T:Txt K mg Aj Aa Ac XC)(F:Fun K "common_part" "common_part" Cn f fd):FnOk P w K mg base Cf 1 f fd ["one","other"] (Dw K):=by
 exists Dy
 ·obtain⟨m,n,rfl,_⟩:=h;rfl
 obtain⟨m,n,rfl,q⟩:=h;refine⟨_,(!Ag (!G5 aW (!AE LO (pv 1) (!Ae) (AH _)) (!Ag (@Au _ _ (2) _ _ _ _ Dy.nd rfl (by trivial) (!Ao AR (pv 0) (pv 1)) (by rfl) (by trivial)) (!Ag (@Au _ _ (0) _ _ _ _ Dy.nd rfl (by trivial) (pv 1) (by rfl) (by trivial)) (!Al (@Au _ _ (1) _ _ _ _ Dy.nd rfl (by trivial) (pv 2) (by rfl) (by trivial)))))) (!Al (!Av (pv 0)))),?_⟩;refine N5 (λσ H2=>∃(a b:Nat) (v:Option V),σ=[some (.int a),some (.int b),v]/\H2=H/\Nat.gcd a b=Nat.gcd m n) WN ⟨m,n,none,rfl,rfl,rfl⟩ ?_ ?_
 ·rintro σ H2 ⟨a,b,v,rfl,rfl,hg⟩
  refine⟨_,rfl,_,_,rfl,rfl,_,rfl,?_⟩;refine Et (λc=>?_) (λc=>?_)
  ·have c':0<b:=by have:=dec_true c;omega
   refine⟨_,rfl,_,rfl,_,_,rfl,rfl,by omega,?_⟩;refine⟨_,rfl,_,rfl,?_⟩;refine⟨⟨b,a%b,_,rfl,rfl,Oc.trans hg⟩,?_⟩;show((a:Int)%b).toNat<(b:Int).toNat;have:=Nat.mod_lt a c';omega
  ·have c':b=0:=by have:=dec_false c;omega
   subst c';rw[Nat.gcd_zero_right] at hg;refine⟨_,rfl,?_⟩;rw[hg];exact q
 ·rintro σ H Q Q' hQ ⟨v,e,i,j,h1,h2,k,e2,q⟩
  exact⟨v,e,i,j,h1,h2,k,e2,hQ _ _ q⟩
theorem K7 (T:Txt K mg Aj Aa Ac XC)(F:Fun K "_law_common" "_law_common" Cm f fd):FnOk P w K mg base Cf 1 f fd ["_law_one","_law_other"] (EX K):=by
 exists GY
 ·obtain⟨m,n,rfl,_⟩:=h;rfl
 obtain⟨m,n,rfl,q⟩:=h;refine⟨_,(!Ag (!G5 aW (!AE NJ (pv 1) (!Ae) (AH _)) (!Al (@Wf _ _ (0) (1) _ _ _ _ _ _ _ _ _ _ _ rfl GY.nd rfl rfl (by decide) rfl rfl (!Ab (pv 1) (!Ab (!Ao AR (pv 0) (pv 1)) (!Af))) rfl (by rfl)))) (!Al (!Av (pv 0)))),?_⟩;refine N5 (λσ H2=>∃(a b:Nat),σ=[some (.int a),some (.int b)]/\H2=H/\Nat.gcd a b=Nat.gcd m n) WN ⟨m,n,rfl,rfl,rfl⟩ ?_ ?_
 ·rintro σ H2 ⟨a,b,rfl,rfl,hg⟩
  refine⟨_,rfl,rfl,_,rfl,?_⟩;refine Et (λc=>?_) (λc=>?_)
  ·have c':0<b:=by
    simp only[Bool.not_eq_true',decide_eq_false_iff_not,V.int.injEq] at c;omega
   refine⟨_,rfl,_,rfl,_,rfl,_,_,rfl,rfl,by omega,_,_,rfl,?_⟩;refine⟨⟨b,a%b,rfl,rfl,Oc.trans hg⟩,?_⟩;show((a:Int)%b).toNat<(b:Int).toNat;have:=Nat.mod_lt a c';omega
  ·have c':b=0:=by
    simp only[Bool.not_eq_true',decide_eq_false_iff_not,V.int.injEq,Decidable.not_not] at c;omega
   subst c';rw[Nat.gcd_zero_right] at hg;refine⟨_,rfl,?_⟩;rw[hg];exact q
 ·rintro σ H Q Q' hQ ⟨v,e,h1,k,e2,q⟩
  exact⟨v,e,h1,k,e2,hQ _ _ q⟩
theorem Nz (T:Txt K mg Aj Aa Ac XC)(F:Fun K "fraction" "fraction" DZ f fd)(Ft:Def P w K mg base 1 "common_part" ["one","other"] (Dw K)):FnOk P w K mg base Cf 2 f fd ["top","bottom"] (Ff K):=by
 exists JU
 ·obtain⟨m,n,rfl,_⟩:=h;rfl
 obtain⟨t,b,rfl,hb,hb2,q⟩:=h;refine⟨_,(!Ag (@Au _ _ (2) _ _ _ _ JU.nd rfl (by trivial) (!AC Ft (by trivial) rfl (!Ab (!Ax SD (by rfl) T.b_abs Ww (!Ab (pv 0) (!Af))) (!Ab (pv 1) (!Af)))) (by rfl) (by trivial)) (!Al (!Av (!BF (!Ab (!Ao N8 (pv 0) (pv 2)) (!Ab (!Ao N8 (pv 1) (pv 2)) (!Af))))))),?_⟩;obtain⟨l0,l1,l2,l3,l4,l5,l6⟩:=low (t:=t) hb rfl;have bd:((Nat.gcd t.natAbs b.toNat:Nat):Int).natAbs<2^8000:=cK l6 hb2;refine⟨_,rfl,_,rfl,_,rfl,t.natAbs,b.toNat,by rw[PyProof.Rows.ite_abs',Int.toNat_of_nonneg (by omega)];rfl,?_⟩;refine⟨_,rfl,_,rfl,_,_,rfl,rfl,⟨l0,bd⟩,_,rfl,_,rfl,_,_,rfl,rfl,⟨l0,bd⟩,Fy,λr hr=>?_⟩;exact q r _ _ _ (Ak hr _) hr Ad l1 l2 l3 l4 l5
theorem Oj (T:Txt K mg Aj Aa Ac XC)(F:Fun K "is_above" "is_above" DP f fd):FnOk P w K mg base Cf 1 f fd ["one","other"] (Hc K):=by
 exists NV
 ·obtain⟨v,u,p,q,rfl,_⟩:=h;rfl
 obtain⟨_,_,p,q,rfl,⟨a,rfl,ha⟩,⟨b,rfl,hb⟩,⟨p1,p2⟩,⟨q1,q2⟩,hq⟩:=h;refine⟨_,(!Al (!Av (!EA LO (!Ao FW (!An Az (pv 0) (!Ae) (λ_ _=>rfl)) (!An Az (pv 1) (!Ae) (λ_ _=>rfl))) (!Ao FW (!An Az (pv 1) (!Ae) (λ_ _=>rfl)) (!An Az (pv 0) (!Ae) (λ_ _=>rfl))) (AH _)))),?_⟩;refine⟨_,rfl,a,_,_,_,rfl,rfl,AL.of ha,Ar (j:=0) rfl,_,rfl,b,_,_,_,rfl,rfl,AL.of hb,Ar (j:=1) rfl,_,_,rfl,rfl,Ks p1 q2,?_⟩;refine⟨_,rfl,b,_,_,_,rfl,rfl,AL.of hb,Ar (j:=0) rfl,_,rfl,a,_,_,_,rfl,rfl,AL.of ha,Ar (j:=1) rfl,_,_,rfl,rfl,Ks q1 p2,_,_,rfl,rfl,hq⟩
theorem Ls (T:Txt K mg Aj Aa Ac XC)(F:Fun K "_law_whole" "_law_whole" CG f fd):FnOk P w K mg base Cf 1 f fd ["_law_thing"] (C1 K):=by
 exists Lp
 ·obtain⟨c,rfl,_⟩:=h;rfl
 obtain⟨c,rfl,q⟩:=h;refine⟨_,(!Al (!Av (!K1 (!Ax Bz (by rfl) T.b_isinstance A1 (!Ab (pv 0) (!Ab (!HA rfl T.b_int JB) (!Af)))) (!KS (!SY (!Ax Bz (by rfl) T.b_isinstance A1 (!Ab (pv 0) (!Ab (!HA rfl T.b_bool Qp) (!Af))))))))),?_⟩;refine⟨_,rfl,_,_,_,_,rfl,.int _,N4 K,_,rfl,XR ?_⟩;exact⟨_,rfl,_,_,_,_,rfl,.int _,MH K,_,rfl,q⟩
theorem Ju (T:Txt K mg Aj Aa Ac XC)(F:Fun K "_law_is_share" "_law_is_share" BO f fd)(Fu:Def P w K mg base 1 "_law_common" ["_law_one","_law_other"] (EX K))(A4:Def P w K mg base 1 "_law_whole" ["_law_thing"] (C1 K)):FnOk P w K mg base Cf 2 f fd ["_law_found","_law_top","_law_bottom"] (DU K):=by
 exists Jw
 ·obtain⟨v,p,t,b,rfl,_⟩:=h;rfl
 obtain⟨_,p,t,b,rfl,⟨a,rfl,ha⟩,hp0,hp,he,hg,b1,b2,b3,b4,q⟩:=h;refine⟨_,(!Ag (!BH (@PW.pt _ _ _ (!GS (!EO (!Da (!Ax Bz (by rfl) T.b_isinstance A1 (!Ab (pv 0) (!Ab (!HA rfl T.b_tuple GR) (!Af)))) (by intro _;rfl))) (!GS (!AE NJ (!Ax AM (by rfl) T.b_len BW (!Ab (pv 0) (!Af))) (!Ae) (AH _)) (!GS (!EO (!Da (!AC A4 (by trivial) rfl (!Ab (!An Az (pv 0) (!Ae) (λ_ _=>rfl)) (!Af))) (by intro _;rfl))) (!GK (!EO (!Da (!AC A4 (by trivial) rfl (!Ab (!An Az (pv 0) (!Ae) (λ_ _=>rfl)) (!Af))) (by intro _;rfl)))))))) (!Al (!Av (!Hy))) (!AV)) (!Ag (!BH (@PW.pt _ _ _ (!GS (!AE Qf (!An Az (pv 0) (!Ae) (λ_ _=>rfl)) (!Ae) (AH _)) (!GK (!AE NJ (!Ao FW (!An Az (pv 0) (!Ae) (λ_ _=>rfl)) (pv 2)) (!Ao FW (pv 1) (!An Az (pv 0) (!Ae) (λ_ _=>rfl))) (AH _))))) (!Al (!Av (!Hy))) (!AV)) (!Al (!Av (!EA CV (!AC Fu (by trivial) rfl (!Ab (!An Az (pv 0) (!Ae) (λ_ _=>rfl)) (!Ab (!An Az (pv 0) (!Ae) (λ_ _=>rfl)) (!Af)))) (!Ae) (AH _)))))),?_⟩;have f0:∀R:VK,R (.int p.1) H->WA (T8 K) (T9 0) (tC (V.int 0)) (L2.start ["_law_found","_law_top","_law_bottom"] [V.ref a,V.int t,V.int b]) H R:=λR h=>⟨_,rfl,a,_,_,_,rfl,rfl,AL.of ha,Ar (j:=0) rfl,h⟩
 have f1:∀R:VK,R (.int p.2) H->WA (T8 K) (T9 0) (tC (V.int 1)) (L2.start ["_law_found","_law_top","_law_bottom"] [V.ref a,V.int t,V.int b]) H R:=λR h=>⟨_,rfl,a,_,_,_,rfl,rfl,AL.of ha,Ar (j:=1) rfl,h⟩
 refine⟨_,rfl,_,_,_,_,rfl,.tup ha,JZ K,_,rfl,Bi rfl ?_⟩;refine⟨_,rfl,a,_,rfl,.inr (AL.of ha),rfl,_,rfl,Bi (by simp) ?_⟩;refine f0 _ ⟨p.1,rfl,_,rfl,Bi rfl ?_⟩;refine f1 _ ⟨p.2,rfl,_,rfl,Bi rfl ?_⟩;refine f1 _ ⟨_,_,rfl,rfl,_,rfl,Bi (ba (by omega)) ?_⟩;refine f0 _ ⟨_,rfl,_,_,rfl,rfl,Ks b1 b4,_,rfl,f1 _ ⟨_,_,rfl,rfl,Ks b3 b2,rfl,_,rfl,Bi ?_ ?_⟩⟩
 ·have he':p.1*b=t*p.2:=he;simp[he']
 refine f0 _ (f1 _ ⟨p.1.natAbs,p.2.natAbs,by rw[gH (eE hp),gH hp0];rfl,rfl,?_⟩);rw[hg];exact q
theorem QV (T:Txt K mg Aj Aa Ac XC)(F:Fun K "summed" "summed" Fz f fd)(DQ:Def P w K mg base 2 "fraction" ["top","bottom"] (Ff K)):FnOk P w K mg base Cf 3 f fd ["some"] (JI K):=by
 exists Fx
 ·obtain⟨a,ys,ps,rfl,_⟩:=h;rfl
 obtain⟨a,ys,ps,rfl,hS,hP,hl,hb,q⟩:=h;refine⟨_,(!Ag (@Au _ _ (1) _ _ _ _ Fx.nd rfl (by trivial) (!BF (!Ab (!Ae) (!Ab (!Ae) (!Af)))) (by rfl) (by trivial)) (!Ag (!BR aW rfl (!BQ (pv 0)) (!Ik rfl (!AJ (@Ap _ _ (2) _ Fx.nd rfl (by trivial) (by trivial)) (!AJ (@Ap _ _ (3) _ Fx.nd rfl (by trivial) (by trivial)) (!C5)))) (!Al (@Au _ _ (1) _ _ _ _ Fx.nd rfl (by trivial) (!AC DQ (by trivial) rfl (!Ab (!Ao AF (!Ao FW (!An Az (pv 1) (!Ae) (λ_ _=>rfl)) (pv 3)) (!Ao FW (pv 2) (!An Az (pv 1) (!Ae) (λ_ _=>rfl)))) (!Ab (!Ao FW (!An Az (pv 1) (!Ae) (λ_ _=>rfl)) (pv 3)) (!Af)))) (by rfl) (by trivial))) (by intro _;rfl)) (!Al (!Av (pv 1))))),?_⟩;refine⟨Fy,λt0 ht0=>?_⟩;refine⟨_,rfl,a,rfl,⟨_,(Ak ht0 _).seq hS⟩,E4 (K:=K) (a:=a) (xs:=ys) (λi σ H2=>∃(tt:Addr) (p q:Int) (v v':Option V),σ=[some (.ref a),some (.ref tt),v,v']/\Am H H2/\H tt=none/\H2 tt=some (.tup [.int p,.int q])/\0<q/\Iq (p,q) (sumF (ps.take i))/\Nat.gcd p.natAbs q.natAbs=1/\p.natAbs<2^(200*(i+1))/\q.natAbs<2^(200*(i+1)))
  ⟨t0,0,1,none,none,rfl,Ak ht0 _,ht0,Ad,by decide,rfl,by decide,by decide,by decide⟩ (by rintro i σ H2 _ ⟨_,_,_,_,_,_,s2,_⟩;exact s2.seq hS) ?_ ?_⟩
 ·rintro i y σ H2 hi ⟨tt,p,q',v,v',rfl,s2,htt,ht2,hq0,he,hg,b1,b2⟩
  have hil:i<ys.length:=(ay.mp hi).1;have hip:i<ps.length:=by rw[<-hP.1];exact hil
  obtain⟨r,hr1,hr2⟩:=hP.get hip;have er:y=.ref r:=aA (hi.symm.trans hr1);subst er;obtain⟨c0,c1,c2⟩:=hb _ (bF hip);generalize hpp:ps[i]=pp at *;have sq:=s2.get hr2;have c1':pp.1.natAbs<2^(150:Nat):=c1;have k1:=Ig b1 c2;have k2:=Ig c1 b2;have k3:=Ig b2 c2;have kb:200*(i+1)+150<=4000:=by omega
  refine⟨r,_,rfl,AL.of sq,rfl,?_⟩;refine⟨_,_,rfl,_,_,rfl,rfl,?_⟩;have e1:AL K H2 tt [.int p,.int q']:=AL.of ht2;refine⟨_,rfl,tt,_,_,_,rfl,rfl,e1,Ar (j:=0) rfl,_,rfl,_,_,rfl,rfl,Ks b1 c2 (by omega),_,rfl,_,rfl,tt,_,_,_,rfl,rfl,e1,Ar (j:=1) rfl,_,_,rfl,rfl,Ks c1 b2 (by omega),_,_,rfl,rfl,
   _,rfl,tt,_,_,_,rfl,rfl,e1,Ar (j:=1) rfl,_,rfl,_,_,rfl,rfl,Ks b2 c2 (by omega),?_⟩
  refine⟨_,_,rfl,eQ hq0 c0,Hu k3 (by omega),λr2 H3 p2 q2 s3 n3 h3 w0 w1 w2 w3 w4=>?_⟩;refine⟨r2,p2,q2,_,_,rfl,s2.trans s3,s2.free n3,h3,w0,?_,w2,?_,?_⟩
  ·have et:ps.take (i+1)=ps.take i++[pp]:=by rw[aS,ab hip,hpp];rfl
   rw[et,Rp];refine Jq (q:=Ke (p,q') pp) (eQ hq0 c0) w1 (Qk he rfl)
  ·refine cK w3 (Hu (O2 k1 (Hu k2 (by omega))) (by omega))
  ·refine cK w4 (Hu k3 (by omega))
 ·rintro σ H2 ⟨tt,p,q',v,v',rfl,s2,htt,ht2,hq0,he,hg,b1,b2⟩
  rw[hP.1,aZ (ar _)] at he;refine⟨_,rfl,q tt _ p q' s2 htt ht2 hq0 he hg (aN b1 (bQ (by decide) ?_)) (aN b2 (bQ (by decide) ?_))⟩
  all_goals (rw[hP.1];omega)
end
open M06 M55
section
variable {P:Program}{w:World}{K:W.Frag}{mg:Str->Option Value}{base:Heap}{f Aj Aa Ac:Addr}{XC:Nat->Addr}{fd:FuncData}
def QD:Nat->Tr->Int
 |_,.str z=>2+(z.length:Int)
 |n+1,.tup ts=>2+(ts.map (QD n)).sum
 |_,_=>2
def Wz:Nat->Tr->Prop
 |_,.int _=>True
 |_,.str z=>z.length<=1000
 |n+1,.tup ts=>ts.length<=1000/\∀t∈ts,Wz n t
 |_,_=>False
def P0 (n:Nat)(K:W.Frag):Sp:=match n with
 |0=>λ_ _ _ _=>False
 |n+1=>λvs H Q _=>∃v t,vs=[v]/\Rep NL H t v/\Wz n t/\∀H',Am H H'->Q (.int (QD n t)) H'
def D4 (K:W.Frag):Sp:=P0 6 K
theorem Uv (T:Txt K mg Aj Aa Ac XC)(F:Fun K "_law_words" "_law_words" BP f fd)(n:Nat)(Bv:Def P w K mg base (1+n) "_law_words" ["_law_thing"] (P0 n K)):FnOk P w K mg base Cf (1+n+1) f fd ["_law_thing"] (P0 (n+1) K):=by
 exists HB
 ·obtain⟨v,t,rfl,_⟩:=h;rfl
 obtain⟨v,t,rfl,hv,ht,q⟩:=h;refine⟨_,(!Ag (!BH (!Da (!Ax Bz (by rfl) T.b_isinstance A1 (!Ab (pv 0) (!Ab (!HA rfl T.b_int JB) (!Af)))) (by intro _;rfl)) (!Al (!Av (!Ae))) (!AV)) (!Ag (!BH (!Da (!Ax Bz (by rfl) T.b_isinstance A1 (!Ab (pv 0) (!Ab (!HA rfl T.b_str Pm) (!Af)))) (by intro _;rfl)) (!Al (!Av (!Ao AF (!Ae) (!Ax Ey (by rfl) T.b_len BW (!Ab (pv 0) (!Af)))))) (!AV)) (!Al (!Av (!Ao AF (!Ae) (!Ax (EN rfl) (by rfl) T.b_sum Il (!Ab (@BX _ ["_law_part"] _ _ _ _ _ _ _ _ _ _ rfl (!Cv (pv 0)) (by decide +kernel) (λC s H fp=>⟨(@Ap _ _ (0) _ (show(["_law_part"]:List Str).Nodup by decide +kernel) rfl (by trivial) (by trivial)),(!AO),(!AC Bv (hr.mono (by omega)) rfl (!Ab (pv 0) (!Af)))⟩) (by intro _;rfl)) (!Af)))))))),?_⟩
 try dsimp only[Bh,Cx.nox,Cx.wish]
 cases t with
 |int i=>
  cases(show v=V.int i from hv);have ok:Ok H (.int i):=trivial;refine⟨_,rfl,_,_,_,_,rfl,ok.ty K,ok.kit K,_,rfl,Fe (by show isA "int" "int"=true;decide) ?_⟩;have e:=q H (Am.refl _);cases n<;>exact e
 |str z=>
  cases(show v=V.str z from hv);have lz:z.length<=1000:=by cases n<;>exact ht
  have ok:Ok H (.str z):=lz;refine⟨_,rfl,_,_,_,_,rfl,ok.ty K,ok.kit K,_,rfl,Bi (by show isA "str" "int"=false;decide) ?_⟩;refine⟨_,rfl,_,_,_,_,rfl,ok.ty K,ok.kit K,_,rfl,Fe (by show isA "str" "str"=true;decide) ?_⟩;have e:=q H (Am.refl _);refine⟨_,rfl,z,rfl,small (by omega),_,_,rfl,rfl,?_⟩;cases n<;>exact e
 |tup ts=>
  obtain⟨a,us,rfl,ha,r⟩:=hv;have ok:Ok H (.ref a):=.inr ⟨us,ha⟩;have ety:HV H (.ref a)="tuple":=by simp only[HV,ha]
  refine⟨_,rfl,_,_,_,_,rfl,ok.ty K,ok.kit K,_,rfl,Bi (by rw[ety];decide) ?_⟩;refine⟨_,rfl,_,_,_,_,rfl,ok.ty K,ok.kit K,_,rfl,Bi (by rw[ety];decide) ?_⟩;cases n with
  |zero=>exact ht.elim
  |succ n=>
   obtain⟨lt,ht⟩:=ht;have lu:=AN.len ts us r;obtain⟨qs,rfl,rfl,hqs⟩:∃qs:List (V×Tr),us=qs.map (·.1)/\ts=qs.map (·.2)/\∀q∈qs,Rep NL H q.2 q.1:=by
    refine⟨us.zip ts,by rw[List.map_fst_zip (by omega)],by rw[fB (by omega)],λq hq=>?_⟩;obtain⟨i,hi,rfl⟩:=cj hq;rw[List.getElem_zip];rw[List.length_zip] at hi;obtain⟨t,et,rt⟩:=AN.get r (ab (show i<us.length by omega));rw[ab (show i<ts.length by omega)] at et;cases et;exact rt
   rw[aa] at lt;refine⟨_,rfl,a,rfl,⟨_,AL.of ha⟩,Iv (ps:=qs) (λx=>.int (QD n x.2)) (Cb ha) (by omega) (λx hx H' R s' hR=>?_) λl H1 nl s1 hl=>?_⟩
   ·exact⟨_,rfl,x.1,x.2,rfl,Rep.same s' _ _ (hqs x hx),ht _ (aH hx),hR⟩
   ·have e:=q H1 s1;rw[QD,aq] at e;exact⟨l,qs.map λ(x:V×Tr)=>QD n x.2,rfl,AD.of (by rw[hl,aq];rfl),_,_,rfl,rfl,e⟩
 |_=>cases n<;>exact ht.elim
theorem RS (T:Txt K mg Aj Aa Ac XC)(F:Fun K "_law_words" "_law_words" BP f fd)(hm:mg "_law_words"=some (.ref f))(hk:W.keepIn K (.ref f)=true)(hb:Binds K fd ["_law_thing"] []):∀n,FnOk P w K mg base Cf (1+n) f fd ["_law_thing"] (P0 n K)
 |0=>F.ok HB (λvs H Q E h=>h.elim) (λcdv A outer s H vs Q E hr h=>h.elim)
 |n+1=>Uv T F n ⟨f,fd,RS T F hm hk hb n,hm,hk,hb⟩
theorem Lz (T:Txt K mg Aj Aa Ac XC)(F:Fun K "_law_words" "_law_words" BP f fd)(hm:mg "_law_words"=some (.ref f))(hk:W.keepIn K (.ref f)=true)(hb:Binds K fd ["_law_thing"] []):FnOk P w K mg base Cf 7 f fd ["_law_thing"] (D4 K):=
 RS T F hm hk hb 6
def Ce (K:W.Frag)(CP CT:Addr):Sp:=λvs H Q _=>∃p q cs e,vs=[.ref p,.int e.z]/\FB CP CT H p q cs/\e∈cs/\Q (.int (L7 e.bk:Int)) H
theorem Mj (T:Txt K mg Aj Aa Ac XC)(F:Fun K "size" "Pool.size" Dp f fd):FnOk P w K mg base Cf 1 f fd ["self","number"] (Ce K Ac Aa):=by
 exists Nc
 ·obtain⟨p,q,cs,e,rfl,_⟩:=h;rfl
 obtain⟨p,q,cs,e,rfl,⟨h1,h2,h4,nd⟩,he,hq⟩:=h;have hu:=BI hr;refine⟨_,(!Al (!Av (!BK (!Br hu (!BK (pv 0)) (pv 1) (λ_ _=>rfl))))),?_⟩
 try dsimp only[Bh,Cx.nox,Cx.wish]
 have g:BA H q.dt (.int e.z) (some (.ref e.c)):=by
  have:=BA.k (k:=Sum.inl e.z) h2;rw[HJ nd he] at this;exact this
 rw[<-P8] at hq;exact⟨_,rfl,p,Ac,q.dp,_,_,rfl,h1,T.cl_Pool,T.n_Pool_taken,rfl,_,rfl,q.dt,_,rfl,g,e.c,Aa,e.dx,_,_,rfl,(h4 e he).1,T.cl_TakenCell,T.n_TakenCell_own_size,rfl,hq⟩
theorem Qg (t:Tg)(n:Nat):QD (n+1) (Gx t)=8/\Wz (n+1) (Gx t):=by
 refine⟨by cases n<;>rfl,by show 3<=1000;decide,λx hx=>?_⟩;have:∃i,x=.int i:=by
  rcases aL.mp hx with rfl|hx
  ·exact⟨_,rfl⟩
  rcases aL.mp hx with rfl|hx
  ·exact⟨_,rfl⟩
  ·exact⟨_,ai.mp hx⟩
 obtain⟨i,rfl⟩:=this;cases n<;>trivial
theorem Vh {x:En}(h:x.nm.length<=8):QD 3 (Kr x)=14+(x.nm.length:Int)/\Wz 3 (Kr x):=by
 refine⟨?_,by show 3<=1000;decide,λy hy=>?_⟩
 ·show(2:Int)+((2+(x.nm.length:Int))+(2+(QD 2 (Gx x.tg)+0)))=_;rw[(Qg x.tg 1).1];omega
 ·rcases aL.mp hy with rfl|hy
  ·show x.nm.length<=1000;omega
  rcases aL.mp hy with rfl|hy
  ·trivial
  ·rw[ai.mp hy];exact(Qg x.tg 1).2
theorem O0 {α:Type}{g:α->Tr}{m:α->Nat}{n:Nat}:∀{l:List α},(∀x∈l,QD n (g x)=(m x:Int))->((l.map g).map (QD n)).sum=(((l.map m).sum:Nat):Int)
 |[],_=>rfl
 |x::l,h=>by
  rw[ao,ao,bG,ao,bG,O0 λy hy=>h y (aI _ hy),h x aw];omega
theorem Vk {α:Type}:∀l:List α,(l.map λ_=>8).sum=8*l.length
 |[]=>rfl
 |_::l=>by rw[ao,bG,Vk l,aX];omega
theorem RQ {b:Bk}(ok:GJ b):QD 5 (DB b)=(L7 b:Int)/\Wz 5 (DB b):=by
 cases b with
 |piece z=>
  have lz:6+z.length<=500:=size_le ok;refine⟨?_,by show 2<=1000;decide,λy hy=>?_⟩
  ·show(2:Int)+(2+((2+(z.length:Int))+0))=((6+z.length:Nat):Int);omega
  ·rcases aL.mp hy with rfl|hy
   ·trivial
   ·rw[ai.mp hy];show z.length<=1000;omega
 |row lv ts=>
  obtain⟨_,l8,_⟩:=ok;refine⟨?_,by show 3<=1000;decide,λy hy=>?_⟩
  ·show(2:Int)+(2+(2+((2+((ts.map Gx).map (QD 3)).sum)+0)))=((8+8*ts.length:Nat):Int);rw[O0 (m:=λ_=>8) λt _=>(Qg t 2).1,Vk];omega
  ·rcases aL.mp hy with rfl|hy
   ·trivial
   rcases aL.mp hy with rfl|hy
   ·trivial
   ·rw[ai.mp hy];refine⟨by rw[aa];omega,λt ht=>?_⟩;obtain⟨x,_,rfl⟩:=af.mp ht;exact(Qg x 2).2
 |folder es=>
  obtain⟨l16,oke,_⟩:=ok;have l8:∀x∈es,x.nm.length<=8:=λx hx=>by
   have h:=(oke x hx).1;unfold IA at h;rw[aY,aY] at h;have:=aQ h.1.2;omega
  refine⟨?_,by show 2<=1000;decide,λy hy=>?_⟩
  ·show(2:Int)+(2+((2+((es.map Kr).map (QD 3)).sum)+0))=((6+(es.map λx=>14+x.nm.length).sum:Nat):Int);rw[O0 (m:=λx:En=>14+x.nm.length) λx hx=>by rw[(Vh (l8 x hx)).1];omega];omega
  ·rcases aL.mp hy with rfl|hy
   ·trivial
   ·rw[ai.mp hy];refine⟨by rw[aa];omega,λt ht=>?_⟩;obtain⟨x,hx,rfl⟩:=af.mp ht;exact(Vh (l8 x hx)).2
def DY (cs:List Cz)(z:Int):Int:=match bm cs z with
 |some b=>(L7 b:Int)
 |none=>0
theorem Pv.size {CP CT:Addr}{H:Hp}{p d:Addr}{zs:List Cz}{z:Int}{b:Bk}{Q:VK}(h:Pv CP CT H p d zs)(e:bm zs z=some b)(hq:Q (.int (DY zs z)) H):Ce K CP CT [.ref p,.int z] H Q E0:=by
 unfold DY at hq;rw[e] at hq;obtain⟨q,cs,bs,pa,nl,bx,eq,few⟩:=h;obtain⟨c,hc,rfl,rfl⟩:=Cd e;have:(c.tg,c.bk)∈cs.map λe=>(Mb e,e.bk):=by rw[<-eq];exact aH hc
 obtain⟨x,hx,ex⟩:=af.mp this;have e1:Mb x=c.tg:=congrArg (·.1) ex;have e2:x.bk=c.bk:=congrArg (·.2) ex;exact⟨p,q,cs,x,by rw[<-e1];rfl,pa.t,hx,by rw[e2];exact hq⟩
end
open M06 M55
section
variable {P:Program}{w:World}{K:W.Frag}{mg:Str->Option Value}{base:Heap}{f Aj Aa Ac:Addr}{XC:Nat->Addr}{fd:FuncData}{PT:Addr}
theorem Wx {a:Int×Int}{t s m:Int}(h:Iq a (t,840))(hm:m ∣ 840):Iq (Ke a (s,m)) (t+840*s/m,840):=by
 obtain⟨c,hc⟩:=hm;unfold Iq Ke at *;have e:840*s/m*m=840*s:=Int.ediv_mul_cancel ⟨c*s,by rw[hc];grind⟩;generalize 840*s/m=u at e ⊢;show(a.1*m+s*a.2)*840=(t+u)*(a.2*m);have h:a.1*840=t*a.2:=h
 grind
theorem Qn {α:Type}{s m:α->Int}:∀{l:List α} {a:Int×Int} {t:Int},Iq a (t,840)->(∀x∈l,m x ∣ 840)->Iq ((l.map λx=>(s x,m x)).foldl Ke a) (t+(l.map λx=>840*s x/m x).sum,840)
 |[],a,t,h,_=>by
  show Iq a (t+0,840);rw[fm];exact h
 |x::l,a,t,h,hm=>by
  have:=Qn (s:=s) (l:=l) (Wx (s:=s x) h (hm x aw)) λy hy=>hm y (aI _ hy)
  rw[ao,dE,ao,bG,<-Int.add_assoc];exact this
theorem VA {α:Type}{s m:α->Int}{l:List α}(h:∀x∈l,m x ∣ 840):Iq (sumF (l.map λx=>(s x,m x))) ((l.map λx=>840*s x/m x).sum,840):=by
 have:=Qn (s:=s) (l:=l) (a:=(0,1)) (t:=0) rfl h;rw[Int.zero_add] at this;exact this
theorem S0 {n:Nat}(h0:n≠0)(h8:n<=8):(n:Int) ∣ 840:=by
 have:n=1\/n=2\/n=3\/n=4\/n=5\/n=6\/n=7\/n=8:=by omega
 rcases this with rfl|rfl|rfl|rfl|rfl|rfl|rfl|rfl<;>decide
def MT (cs:List Cz)(g:Int->List Str)(k:Str):Int:=(((cs.map (·.tg.1)).filter λz=>decide (k∈g z)).map λz=>840*DY cs z/((g z).length:Int)).sum
theorem PF {CP CT:Addr}{H:Hp}{p d:Addr}{cs:List Cz}(h:Pv CP CT H p d cs)(z:Int):0<=DY cs z/\DY cs z<=500:=by
 unfold DY
 split
 ·rename_i b e
  obtain⟨q,cs0,bs,pa,nl,bx,eq,few⟩:=h;obtain⟨c,hc,rfl,rfl⟩:=Cd e;have:(c.tg,c.bk)∈cs0.map λe=>(Mb e,e.bk):=by rw[<-eq];exact aH hc
  obtain⟨x,hx,ex⟩:=af.mp this;have e2:x.bk=c.bk:=congrArg (·.2) ex;have:=size_le (pa.t.2.2.1 x hx).2.2.2;rw[e2] at this;omega
 ·omega
theorem EE {H H2:Hp}{d:Addr}{o:Obj}{kvs:List (Key×V)}(h:H d=some (.dK kvs))(s:Am (upd H d (.frz o (.dK kvs))) H2):Am H (upd H2 d (.dK kvs)):=λb ob e=>by
 by_cases w:b=d
 ·rw[w] at e ⊢;rw[Ad,<-h];exact e
 ·rw[Ah w];exact s b ob (by rw[Ah w];exact e)
theorem Xc {H:Hp}{dh:Addr}{o:Obj}{hs:List (Int×Addr)}(h:H dh=some (.frz o (.dK (hs.map λr=>((.inl r.1:Key),V.ref r.2)))))(nz:(hs.map (·.1)).Nodup){r:Int×Addr}(hr:r∈hs):BA H dh (.int r.1) (some (.ref r.2)):=by
 have d:=BA.kf (k:=.inl r.1) h;rw[show Bo (hs.map λr=>((.inl r.1:Key),V.ref r.2)) (.inl r.1)=some (.ref r.2) from Em (k:=λr:Int×Addr=>.inl r.1) (g:=λr=>.ref r.2) (bh.mpr ((bh.mp nz).imp λh e=>h (bH e))) r hr] at d;exact d
theorem Qz {cs:List Cz}{z:Int}(h:z∈cs.map (·.tg.1)):∃b,bm cs z=some b:=by
 obtain⟨c,hc,rfl⟩:=af.mp h;unfold bm;cases e:cs.find? λx=>decide (x.tg.1=c.tg.1) with
 |some y=>exact⟨_,rfl⟩
 |none=>exact absurd (aE rfl) (cL.mp e c hc)
theorem Sr {α:Type}{H:Hp}{s m:α->Int}:∀(ys:List (α×V)),(∀q∈ys,∃a u v,q.2=V.ref a/\H a=some (.tup [.int u,.int v])/\Iq (u,v) (s q.1,m q.1)/\Small (u,v))->∃ds,Xx H (ys.map (·.2)) ds/\(∀d∈ds,Small d)/\∀(i:Nat) p q,ds[i]?=some p->(ys.map λy=>(s y.1,m y.1))[i]?=some q->Iq p q
 |[],_=>⟨[],⟨rfl,λi y p h _=>by cases h⟩,(λ_ h=>nomatch h),λi p q h _=>by cases h⟩
 |y::ys,h=>by
  obtain⟨a,u,v,e,ha,he,hs⟩:=h y aw;obtain⟨ds,pr,sm,pe⟩:=Sr ys λq hq=>h q (aI _ hq)
  refine⟨(u,v)::ds,⟨by rw[ao,aX,aX,pr.1],λi y' p h1 h2=>?_⟩,λd hd=>?_,λi p q h1 h2=>?_⟩
  ·cases i with
   |zero=>
    cases h1;cases h2;exact⟨a,e,ha⟩
   |succ i=>exact pr.2 i y' p h1 h2
  ·rcases aL.mp hd with rfl|hd
   ·exact hs
   ·exact sm d hd
  ·cases i with
   |zero=>
    cases h1;cases h2;exact he
   |succ i=>exact pe i p q h1 h2
def Fc (K:W.Frag)(CP CT:Addr):Sp:=λvs H Q _=>∃(p d dh:Addr) (k:Str) (cs:List Cz) (hs:List (Int×Addr)) (g:Int->List Str),vs=[.ref p,.ref dh,.str k]/\Pv CP CT H p d cs/\Ho H dh hs g/\hs.map (·.1)=cs.map (·.tg.1)/\(∀z,(g z).length<=8)/\dh≠d/\
 ∀(r:Addr) (H':Hp) (x y:Int),Am H H'->H r=none->H' r=some (.tup [.int x,.int y])->0<y->Iq (x,y) (MT cs g k,840)->Nat.gcd x.natAbs y.natAbs=1->Xr (x,y)->Q (.ref r) H'
theorem NC (T:Txt K mg Aj Aa Ac XC)(F:Fun K "share_by" "share_by" DW f fd)(Ld:Def P w K mg base 3 "summed" ["some"] (JI K))(DQ:Def P w K mg base 2 "fraction" ["top","bottom"] (Ff K))(A5:CL P w K mg base 1 Ac "size" ["self","number"] (Ce K Ac Aa)):FnOk P w K mg base Cf 4 f fd ["pool","holders","keeper"] (Fc K Ac Aa):=by
 exists JK
 ·obtain⟨p,d,dh,k,cs,hs,g,rfl,_⟩:=h;rfl
 obtain⟨p,d,dh,k,cs,hs,g,rfl,pvv,ho,ez,g8,ndd,q⟩:=h;have hu:=BI hr;have hu9:=Ct hr;refine⟨_,(!Ag (!Tw (@Eu _ ["number","keeper","holders"] [none,some 2,some 1] (3) _ _ _ _ _ _ _ _ _ _ _ _ _ _ JK.nd rfl (by trivial) rfl (!Iy (pv 1)) (by rfl) rfl (by repeat (first|exact trivial|refine⟨rfl,?_⟩)) (by repeat (first|exact trivial|refine⟨λh=>(by first|exact⟨_,rfl⟩|cases h),?_⟩)) (λC s H fp=>⟨(@Ap _ _ (0) _ (show(["number","keeper","holders"]:List Str).Nodup by decide +kernel) rfl (by trivial) (by trivial)),(!Ci (!AE (Io (K:=K) (by rfl)) (pv 1) (!Br hu (pv 2) (pv 0) (λ_ _=>rfl)))),(pv 0)⟩) (by intro _;rfl) (by rfl) (by trivial))) (!Al (!Av (!AC Ld (by trivial) rfl (!Ab (@BV _ ["number","pool","holders"] [none,some 0,some 1] _ _ _ _ _ _ _ _ _ _ _ rfl (!BQ (pv 3)) (by rfl) rfl (by repeat (first|exact trivial|refine⟨rfl,?_⟩)) (by repeat (first|exact trivial|refine⟨λh=>(by first|exact⟨_,rfl⟩|cases h),?_⟩)) (λC s H fp=>⟨(@Ap _ _ (0) _ (show(["number","pool","holders"]:List Str).Nodup by decide +kernel) rfl (by trivial) (by trivial)),(!AO),(!AC DQ (by trivial) rfl (!Ab (!CZ (pv 1) T.cl_Pool A5 (by trivial) (!Ab (pv 0) (!Af))) (!Ab (!Ax (Lu (K:=K) (by rfl)) (by rfl) T.b_len BW (!Ab (!Br hu (pv 2) (pv 0) (λ_ _=>rfl)) (!Af))) (!Af))))⟩) (by intro _;rfl)) (!Af)))))),?_⟩
 try dsimp only[Bh,Cx.nox,Cx.wish]
 obtain⟨q0,cs0,bs0,pa0,nl0,bx0,eq0,few0⟩:=id pvv;have lhs:hs.length=cs.length:=by have:=congrArg List.length ez;rw[aa,aa] at this;exact this
 have nf:∀o u,H dh≠some (.frz o u):=λo u z=>by rw[ho.at_] at z;cases z
 have fl:∀z,((g z).map V.str).all GM=true:=λz=>bf.mpr λv hv=>by obtain⟨x,_,rfl⟩:=af.mp hv;rfl
 refine Bf (t:=TH _ _) (λσ' H'=>∃l,σ'=[some (.ref p),some (.ref dh),some (.str k),some (.ref l)]/\Am H H'/\H' l=some (.lst ((hs.filter λr=>RA (.str k) ((g r.1).map V.str)).map λr=>V.int r.1))) (λN hN=>?_) ?_
 ·refine⟨_,rfl,dh,_,rfl,ho.at_,λo=>?_⟩;have hf:(upd H dh (.frz o (.dK (hs.map λr=>((.inl r.1:Key),V.ref r.2))))) dh=some (.frz o (.dK (hs.map λr=>((.inl r.1:Key),V.ref r.2)))):=Ad;have hfl:∀r∈hs,(upd H dh (.frz o (.dK (hs.map λr=>((.inl r.1:Key),V.ref r.2))))) r.2=some (.lst ((g r.1).map V.str)):=λr hr=>by
   rw[Ah λw=>by have:=ho.ls r hr;rw[w,ho.at_] at this;cases this];exact ho.ls r hr
  have th:∀H2,Am (upd H dh (.frz o (.dK (hs.map λr=>((.inl r.1:Key),V.ref r.2))))) H2->Am H (upd H2 dh (.dK (hs.map λr=>((.inl r.1:Key),V.ref r.2)))):=λH2 s2=>EE ho.at_ s2
  have fre:∀l,(upd H dh (.frz o (.dK (hs.map λr=>((.inl r.1:Key),V.ref r.2))))) l=none->l≠dh:=λl nl w=>by rw[w,hf] at nl;cases nl
  generalize upd H dh (.frz o (.dK (hs.map λr=>((.inl r.1:Key),V.ref r.2))))=Hf at hf hfl th fre;have it:=Hv hf;rw[aq] at it;refine CH (ps:=hs) (λr=>RA (.str k) ((g r.1).map V.str)) (λr=>V.int r.1) it (by omega) (λr hr H' R s' hR=>?_) (λr hr _ H' R s' hR=>⟨_,rfl,hR H' (Am.refl _)⟩) λl H2 nl s2 hl=>?_
  ·have gg:=Xc (s'.get hf) ho.nz hr;exact⟨_,rfl,_,rfl,_,rfl,dh,_,rfl,gg,r.2,_,rfl,.inl (AD.of (s'.get (hfl r hr))),rfl,fl r.1,_,rfl,hR⟩
  ·refine⟨dh,o,_,nf,s2.get hf,hN _ _ ⟨l,rfl,th H2 s2,?_⟩⟩;rw[Ah (fre l nl)];exact hl
 rintro σ' H1 ⟨l,rfl,s1,hl⟩
 have pv1:=pvv.kb (KB.of s1);have ho1:=ho.kb (KB.of s1);obtain⟨rs,ers⟩:∃rs,rs=hs.filter λr=>RA (.str k) ((g r.1).map V.str):=⟨_,rfl⟩
 rw[<-ers] at hl;have rsub:∀r∈rs,r∈hs/\k∈g r.1:=λr hr=>by
  rw[ers] at hr;obtain⟨h1,h2⟩:=aU.mp hr;obtain⟨z,hz,e⟩:=af.mp (Ki.mp h2);cases e;exact⟨h1,hz⟩
 have lrs:rs.length<=15:=by
  have:=bq (λr:Int×Addr=>RA (.str k) ((g r.1).map V.str)) hs;rw[<-ers] at this;omega
 refine⟨_,rfl,l,rfl,⟨_,AD.of hl⟩,FG (ps:=rs) (g:=λr=>V.int r.1) (λ_=>true) (λr y H'=>∃a u v,y=V.ref a/\H' a=some (.tup [.int u,.int v])/\Iq (u,v) (DY cs r.1,((g r.1).length:Int))/\Small (u,v)) ?_ ?_ (Co (AD.of hl)) (by omega) (λr hr H' R s' hR=>hR H' (Am.refl _)) (λr hr _ H' R s' hR=>?_) λl2 H2 ys nl2 s2 hl2 ey hy=>?_⟩
 ·rintro r y Ha Hb ⟨a,u,v,e,ha,h1,h2⟩ sab
  exact⟨a,u,v,e,sab.get ha,h1,h2⟩
 ·rintro r y Ha la us us' ⟨a,u,v,e,ha,h1,h2⟩ hla
  exact⟨a,u,v,e,by rw[Ah (BG ha hla (by intro z;cases z))];exact ha,h1,h2⟩
 ·obtain⟨hr1,hr2⟩:=rsub r hr;have pv':=pv1.kb (KB.of s');have ho':=ho1.kb (KB.of s');obtain⟨q',cs',bs',pa',_⟩:=id pv';have rm:r.1∈cs.map (·.tg.1):=by rw[<-ez];exact aH (f:=λr:Int×Addr=>r.1) hr1
  obtain⟨b,eb⟩:=Qz rm;have sz:=PF pv' r.1;have g0:(g r.1).length≠0:=λe=>by rw[cG.mp e] at hr2;cases hr2
  have g8':=g8 r.1;refine⟨_,rfl,p,q'.dp,_,rfl,pa'.t.1,rfl,_,rfl,Cj (pv'.size (K:=K) eb ?_)⟩;refine⟨_,rfl,_,rfl,dh,_,rfl,ho'.get hr1,r.2,_,rfl,.inl (AD.of (ho'.ls r hr1)),?_⟩;rw[aa];have p9:(2:Nat)^9<=2^150:=bQ (by decide) (by decide);have p4:(2:Nat)^4<=2^150:=bQ (by decide) (by decide);refine⟨_,_,rfl,by omega,aN (show((g r.1).length:Int).natAbs<2^4 by omega) (bQ (by decide) (by decide)),λa H2 u v s2 na ha hv he hg h1 h2=>hR _ _ s2 ⟨a,u,v,rfl,ha,he,hv,?_,?_⟩⟩
  ·show u.natAbs<2^150;have:(DY cs r.1).natAbs<2^9:=by omega
   exact cK h1 (aN this p9)
  ·show v.natAbs<2^150;have:((g r.1).length:Int).natAbs<2^4:=by omega
   exact cK h2 (aN this p4)
 have ef:ys.map (·.1)=rs:=by rw[ey];exact ck.mpr λ_ _=>rfl
 obtain⟨ds,prs,sm,pe⟩:=Sr (s:=λr:Int×Addr=>DY cs r.1) (m:=λr=>((g r.1).length:Int)) ys hy;have lds:ds.length=rs.length:=by rw[<-prs.1,aa,<-ef,aa]
 refine Cj ⟨l2,_,ds,rfl,AD.of hl2,prs,by omega,sm,λr H3 u v s3 nr hr hv he hg h1 h2=>q r H3 u v (s1.trans (s2.trans s3)) ((s1.trans s2).free nr) hr hv ?_ hg ⟨h1,h2⟩⟩;have e1:Iq (sumF ds) (sumF (rs.map λr=>(DY cs r.1,((g r.1).length:Int)))):=T6 (by rw[aa];exact lds) (by rw[<-ef,aq];exact pe);have e2:=VA (s:=λr:Int×Addr=>DY cs r.1) (m:=λr=>((g r.1).length:Int)) (l:=rs) λr hr=>S0 (λe=>by have:=(rsub r hr).2;rw[cG.mp e] at this;cases this) (g8 r.1)
 have e3:MT cs g k=(rs.map λr=>840*DY cs r.1/((g r.1).length:Int)).sum:=by
  unfold MT;rw[<-ez,dF,aq,ers];have:((λz=>decide (k∈g z))∘λr:Int×Addr=>r.1)=λr=>RA (.str k) ((g r.1).map V.str):=funext λr=>by
   show decide (k∈g r.1)=_
   by_cases h:k∈g r.1
   ·rw[aE h,Ki.mpr (aH h)]
   ·rw[ba h];refine(di.mpr λe=>h ?_).symm;obtain⟨z,hz,e⟩:=af.mp (Ki.mp e);cases e;exact hz
  rw[this];rfl
 rw[e3];exact Jq (Od λd hd=>(sm d hd).1) he (Jq (Od λd hd=>by
  obtain⟨r,hr,rfl⟩:=af.mp hd;have:=(rsub r hr).2;have:(g r.1).length≠0:=λe=>by rw[cG.mp e] at this;cases this
  show(0:Int)<((g r.1).length:Int);omega) e1 e2)
end
open M06 M55
section
variable {P:Program}{w:World}{K:W.Frag}{mg:Str->Option Value}{base:Heap}{f Aj Aa Ac:Addr}{XC:Nat->Addr}{fd:FuncData}{PT:Addr}
structure Wd (CP CT PT:Addr) (H:Hp) (p d h:Addr) (cs:List Cz) (ag:Int) (ka ea:Addr) (ks:List (Addr×Str×Int)) (ps:List (Addr×HE)):Prop where
 pv:Pv CP CT H p d cs
 hd:Hd H h ag ka ea ks ps
 sl:(Lx (ps.map (·.2))).Nodup
 tb:Ej PT LQ LP H
 ok:∃Ok:Int->Prop,Ja (bm cs) Ok/\∀x∈ps,Ok x.2.tg.1
 kb:∀k∈ks,k.2.2.natAbs<2^4000
theorem Wd.on {CP CT PT:Addr}{H H':Hp}{p d h:Addr}{cs:List Cz}{ag:Int}{ka ea:Addr}{ks:List (Addr×Str×Int)}{ps:List (Addr×HE)}(a:Wd CP CT PT H p d h cs ag ka ea ks ps)(s:ST PT H H'):Wd CP CT PT H' p d h cs ag ka ea ks ps:=⟨a.pv.kb s.kb,a.hd.keep s.kb.tup,a.sl,s.t',a.ok,a.kb⟩
theorem RR {cs:List Cz}{ks:List (Addr×Str×Int)}{ps:List (Addr×HE)}(h:ks.length<=8)(z:Int):(D8 cs ks ps z).length<=8:=by
 unfold D8;have:=bq (λk:Addr×Str×Int=>decide (z∈CU cs ps k.2.1)) ks;rw[aa];omega
def G4 (K:W.Frag)(CP CT PT:Addr):Sp:=λvs H Q _=>∃(p d h:Addr) (k:Str) (cs:List Cz) (ag:Int) (ka ea:Addr) (ks:List (Addr×Str×Int)) (ps:List (Addr×HE)),vs=[.ref p,.ref h,.str k]/\Wd CP CT PT H p d h cs ag ka ea ks ps/\
 ∀(r:Addr) (H':Hp) (x y:Int),ST PT H H'->H r=none->H' r=some (.tup [.int x,.int y])->0<y->Iq (x,y) (MT cs (D8 cs ks ps) k,840)->Nat.gcd x.natAbs y.natAbs=1->Xr (x,y)->Q (.ref r) H'
theorem Nk (T:Txt K mg Aj Aa Ac XC)(F:Fun K "share_in" "share_in" DJ f fd)(DT:Def P w K mg base 4 "share_by" ["pool","holders","keeper"] (Fc K Ac Aa))(Bu:Def P w K mg base 3 "holders_in" ["pool","head"] (C3 K Ac Aa PT)):FnOk P w K mg base Cf 5 f fd ["pool","head","keeper"] (G4 K Ac Aa PT):=by
 exists Os
 ·obtain⟨p,d,h,k,cs,ag,ka,ea,ks,ps,rfl,_⟩:=h;rfl
 obtain⟨p,d,h,k,cs,ag,ka,ea,ks,ps,rfl,wd,q⟩:=h;refine⟨_,(!Al (!Av (!AC DT (by trivial) rfl (!Ab (pv 0) (!Ab (!AC Bu (by trivial) rfl (!Ab (pv 0) (!Ab (pv 1) (!Af)))) (!Ab (pv 2) (!Af))))))),?_⟩
 try dsimp only[Bh,Cx.nox,Cx.wish]
 obtain⟨Ok,cl,okp⟩:=wd.ok;refine⟨_,rfl,_,rfl,_,rfl,p,d,h,cs,ag,ka,ea,ks,ps,Ok,rfl,wd.pv,wd.hd,wd.sl,wd.tb,cl,okp,λdh hs H1 S1 ho ez ndh _=>?_⟩;have ndd:dh≠d:=λe=>by
  obtain⟨_,_,_,_,_,bx,_⟩:=wd.pv;rw[e,bx.at_] at ndh;cases ndh
 exact⟨_,rfl,p,d,dh,k,cs,hs,_,rfl,wd.pv.kb S1.kb,ho,ez,RR wd.hd.kl,ndd,λr H2 x y s2 nr hr hy he hg b=>q r H2 x y (S1.on s2) (S1.free nr) hr hy he hg b⟩
def GE (K:W.Frag)(CP CT:Addr):Sp:=λvs H Q _=>∃(p d:Addr) (cs:List Cz),vs=[.ref p]/\Pv CP CT H p d cs/\∀H',Am H H'->Q (.int ((cs.map (·.tg.1)).map (DY cs)).sum) H'
theorem NI (T:Txt K mg Aj Aa Ac XC)(F:Fun K "space_in" "space_in" DS f fd)(A5:CL P w K mg base 1 Ac "size" ["self","number"] (Ce K Ac Aa))(B8:CL P w K mg base 1 Ac "numbers" ["self"] (C7 K Ac Aa)):FnOk P w K mg base Cf 2 f fd ["pool"] (GE K Ac Aa):=by
 exists Nj
 ·obtain⟨p,d,cs,rfl,_⟩:=h;rfl
 obtain⟨p,d,cs,rfl,pvv,q⟩:=h;refine⟨_,(!Al (!Av (!Ax (EN rfl) (by rfl) T.b_sum Il (!Ab (@BV _ ["number","pool"] [none,some 0] _ _ _ _ _ _ _ _ _ _ _ rfl (!BQ (!Mc (pv 0) T.cl_Pool B8)) (by rfl) rfl (by repeat (first|exact trivial|refine⟨rfl,?_⟩)) (by repeat (first|exact trivial|refine⟨λh=>(by first|exact⟨_,rfl⟩|cases h),?_⟩)) (λC s H fp=>⟨(@Ap _ _ (0) _ (show(["number","pool"]:List Str).Nodup by decide +kernel) rfl (by trivial) (by trivial)),(!AO),(!CZ (pv 1) T.cl_Pool A5 (by trivial) (!Ab (pv 0) (!Af)))⟩) (by intro _;rfl)) (!Af))))),?_⟩
 try dsimp only[Bh,Cx.nox,Cx.wish]
 obtain⟨q0,cs0,bs0,pa0,nl0,bx0,eq0,few0⟩:=id pvv;have ez:cs0.map (·.z)=cs.map (·.tg.1):=by
  have e:=congrArg (List.map λx:Tg×Bk=>x.1.1) eq0;rw[aq,aq] at e;exact e.symm
 have lz:cs0.length=cs.length:=by have:=congrArg List.length ez;rw[aa,aa] at this;exact this
 refine⟨_,rfl,p,q0.dp,_,rfl,pa0.t.1,rfl,Cj ⟨p,q0,cs0,bs0,rfl,pa0,by omega,λl1 nl1=>?_⟩⟩;rw[ez];have s1:=Ak nl1 (.lst ((cs.map (·.tg.1)).map V.int));have hl1:(upd H l1 (.lst ((cs.map (·.tg.1)).map V.int))) l1=some (.lst ((cs.map (·.tg.1)).map V.int)):=Ad;generalize upd H l1 (.lst ((cs.map (·.tg.1)).map V.int))=H1 at s1 hl1;have pv1:=pvv.kb (KB.of s1);refine⟨l1,rfl,⟨_,AD.of hl1⟩,EF (ps:=cs.map (·.tg.1)) (g:=V.int) (λ_=>true) (λz=>.int (DY cs z)) (Co (AD.of hl1)) (by rw[aa];omega) (λz hz H' R s' hR=>hR H' (Am.refl _)) (λz hz _ H' R s' hR=>?_) λl2 H2 nl2 s2 hl2=>?_⟩
 ·have pv':=pv1.kb (KB.of s');obtain⟨q',cs',bs',pa',_⟩:=id pv';obtain⟨b,eb⟩:=Qz hz;exact⟨_,rfl,p,q'.dp,_,rfl,pa'.t.1,rfl,_,rfl,Cj (pv'.size (K:=K) eb (hR H' (Am.refl _)))⟩
 rw[ck.mpr λ_ _=>rfl] at hl2;exact Cj ⟨l2,(cs.map (·.tg.1)).map (DY cs),rfl,AD.of (by rw[hl2,aq (f:=DY cs)];rfl),q _ (s1.trans s2)⟩
theorem KG {l1 l2:List Int}(h:l1.Perm l2):l1.sum=l2.sum:=by
 induction h with
 |nil=>rfl
 |cons x _ ih=>rw[bG,bG,ih]
 |swap x y l=>
  rw[bG,bG,bG,bG];omega
 |trans _ _ h1 h2=>exact h1.trans h2
theorem Sm {cs:List Cz}{ps:List (Addr×HE)}{Ok:Int->Prop}(cl:Ja (bm cs) Ok)(okp:∀x∈ps,Ok x.2.tg.1)(k:Str):(CU cs ps k).Nodup/\∀z∈CU cs ps k,∃b,bm cs z=some b:=by
 have oku:∀z∈(ps.filter (N3 (TB ps k))).map (·.2.tg.1),Ok z:=λz hz=>by
  obtain⟨x,hx,rfl⟩:=af.mp hz;exact okp x (aU.mp hx).1
 obtain⟨h1,_,h3,_⟩:=IR cl oku;exact⟨h1,λz hz=>let⟨b,e,_⟩:=cl z (h3 z hz);⟨b,e⟩⟩
def ES (K:W.Frag)(CP CT PT:Addr):Sp:=λvs H Q _=>∃(p d h:Addr) (k:Str) (cs:List Cz) (ag:Int) (ka ea:Addr) (ks:List (Addr×Str×Int)) (ps:List (Addr×HE)),vs=[.ref p,.ref h,.str k]/\Wd CP CT PT H p d h cs ag ka ea ks ps/\∀H',ST PT H H'->Q (.int ((CU cs ps k).map (DY cs)).sum) H'
theorem KQ (T:Txt K mg Aj Aa Ac XC)(F:Fun K "all_in_hand" "all_in_hand" Cr f fd)(A5:CL P w K mg base 1 Ac "size" ["self","number"] (Ce K Ac Aa))(EL:Def P w K mg base 2 "reached" ["pool","tags"] (Gf K Ac Aa))(Dg:Def P w K mg base 2 "tags_kept" ["head","keeper"] (Es K PT)):FnOk P w K mg base Cf 3 f fd ["pool","head","keeper"] (ES K Ac Aa PT):=by
 exists KA
 ·obtain⟨p,d,h,k,cs,ag,ka,ea,ks,ps,rfl,_⟩:=h;rfl
 obtain⟨p,d,h,k,cs,ag,ka,ea,ks,ps,rfl,wd,q⟩:=h;refine⟨_,(!Al (!Av (!Ax (EN rfl) (by rfl) T.b_sum Il (!Ab (@BV _ ["number","pool"] [none,some 0] _ _ _ _ _ _ _ _ _ _ _ rfl (!BQ (!AC EL (by trivial) rfl (!Ab (pv 0) (!Ab (!AC Dg (by trivial) rfl (!Ab (pv 1) (!Ab (pv 2) (!Af)))) (!Af))))) (by rfl) rfl (by repeat (first|exact trivial|refine⟨rfl,?_⟩)) (by repeat (first|exact trivial|refine⟨λh=>(by first|exact⟨_,rfl⟩|cases h),?_⟩)) (λC s H fp=>⟨(@Ap _ _ (0) _ (show(["number","pool"]:List Str).Nodup by decide +kernel) rfl (by trivial) (by trivial)),(!AO),(!CZ (pv 1) T.cl_Pool A5 (by trivial) (!Ab (pv 0) (!Af)))⟩) (by intro _;rfl)) (!Af))))),?_⟩
 try dsimp only[Bh,Cx.nox,Cx.wish]
 obtain⟨Ok,cl,okp⟩:=wd.ok;have hd:=wd.hd;refine⟨_,rfl,_,rfl,_,rfl,h,k,ag,ka,ea,ks,ps,rfl,hd,wd.sl,wd.tb,λlt rs2 H5 S5 nlt hlt lrs2 k1 k2=>?_⟩;have okr:∀x∈rs2,Ok x.2.1:=λx hx=>by
  obtain⟨y,hy,_,e⟩:=k1 x hx;rw[e];exact okp y hy
 refine⟨p,d,lt,cs,rs2,Ok,rfl,wd.pv.kb S5.kb,hlt,lrs2,cl,okr,λln H6 s6 nln hln=>?_⟩;have okw:∀z∈rs2.map (·.2.1),Ok z:=λz hz=>by obtain⟨x,hx,rfl⟩:=af.mp hz;exact okr x hx
 have oku:∀z∈(ps.filter (N3 (TB ps k))).map (·.2.tg.1),Ok z:=λz hz=>by
  obtain⟨x,hx,rfl⟩:=af.mp hz;exact okp x (aU.mp hx).1
 have mem:∀z,z∈Fq cs (rs2.map (·.2.1))↔z∈CU cs ps k:=λz=>by
  constructor
  ·refine IE cl oku (λy hy=>?_) z;obtain⟨x,hx,rfl⟩:=af.mp hy;obtain⟨u,hu,hk',e⟩:=k1 x hx;rw[e];exact af.mpr ⟨u,aU.mpr ⟨hu,(Hm hd.nd hu (hd.og u hu)).mp hk'⟩,rfl⟩
  ·refine IE cl okw (λy hy=>?_) z;obtain⟨u,hu,rfl⟩:=af.mp hy;obtain⟨hu1,hu2⟩:=aU.mp hu;obtain⟨x,hx,e⟩:=k2 u hu1 ((Hm hd.nd hu1 (hd.og u hu1)).mpr hu2);exact af.mpr ⟨x,hx,by rw[e]⟩
 obtain⟨ndn,_,okn,_⟩:=IR cl okw;have pm:=(dP ndn (Sm cl okp k).1).mpr mem;generalize Fq cs (rs2.map (·.2.1))=ns at hln mem ndn okn pm;have S6:=S5.on s6;have pv6:=wd.pv.kb S6.kb;have few:ns.length<=15:=by
  obtain⟨_,_,_,_,_,_,_,few0⟩:=wd.pv;have:ns.length<=(cs.map (·.tg.1)).length:=Fw ndn λz hz=>by
   obtain⟨b,eb,_⟩:=cl z (okn z hz);obtain⟨c,hc,e,_⟩:=Cd eb;exact af.mpr ⟨c,hc,e⟩
  rw[aa] at this;omega
 refine⟨ln,rfl,⟨_,AD.of hln⟩,EF (ps:=ns) (g:=V.int) (λ_=>true) (λz=>.int (DY cs z)) (Co (AD.of hln)) (by omega) (λz hz H' R s' hR=>hR H' (Am.refl _)) (λz hz _ H' R s' hR=>?_) λl2 H7 nl2 s7 hl2=>?_⟩
 ·have pv':=pv6.kb (KB.of s');obtain⟨q',cs',bs',pa',_⟩:=id pv';obtain⟨b,eb,_⟩:=cl z (okn z hz);exact⟨_,rfl,p,q'.dp,_,rfl,pa'.t.1,rfl,_,rfl,Cj (pv'.size (K:=K) eb (hR H' (Am.refl _)))⟩
 rw[ck.mpr λ_ _=>rfl] at hl2;refine Cj ⟨l2,ns.map (DY cs),rfl,AD.of (by rw[hl2,aq];rfl),?_⟩;rw[KG (pm.map (DY cs))];exact q _ (S6.on s7)
def Sw (cs:List Cz)(g:Int->List Str)(k:Str):Int:=(((cs.map (·.tg.1)).filter λz=>decide (g z=[k])).map (DY cs)).sum
def G7 (K:W.Frag)(CP CT PT:Addr):Sp:=λvs H Q _=>∃(p d h:Addr) (k:Str) (cs:List Cz) (ag:Int) (ka ea:Addr) (ks:List (Addr×Str×Int)) (ps:List (Addr×HE)),vs=[.ref p,.ref h,.str k]/\Wd CP CT PT H p d h cs ag ka ea ks ps/\∀H',ST PT H H'->Q (.int (Sw cs (D8 cs ks ps) k)) H'
theorem NF (T:Txt K mg Aj Aa Ac XC)(F:Fun K "alone_in" "alone_in" DR f fd)(Bu:Def P w K mg base 3 "holders_in" ["pool","head"] (C3 K Ac Aa PT))(A5:CL P w K mg base 1 Ac "size" ["self","number"] (Ce K Ac Aa)):FnOk P w K mg base Cf 4 f fd ["pool","head","keeper"] (G7 K Ac Aa PT):=by
 exists JY
 ·obtain⟨p,d,h,k,cs,ag,ka,ea,ks,ps,rfl,_⟩:=h;rfl
 obtain⟨p,d,h,k,cs,ag,ka,ea,ks,ps,rfl,wd,q⟩:=h;have hu:=BI hr;have hu9:=Ct hr;refine⟨_,(!Ag (@Au _ _ (3) _ _ _ _ JY.nd rfl (by trivial) (!AC Bu (by trivial) rfl (!Ab (pv 0) (!Ab (pv 1) (!Af)))) (by rfl) (by trivial)) (!Al (!Av (!Ax (EN rfl) (by rfl) T.b_sum Il (!Ab (!Kw (@BV _ ["number","pool","holders","keeper"] [none,some 0,some 3,some 2] _ _ _ _ _ _ _ _ _ _ _ rfl (!Iy (pv 3)) (by rfl) rfl (by repeat (first|exact trivial|refine⟨rfl,?_⟩)) (by repeat (first|exact trivial|refine⟨λh=>(by first|exact⟨_,rfl⟩|cases h),?_⟩)) (λC s H fp=>⟨(@Ap _ _ (0) _ (show(["number","pool","holders","keeper"]:List Str).Nodup by decide +kernel) rfl (by trivial) (by trivial)),(!Ci (!AE (UR (K:=K) (by rfl) hu) (!Br hu (pv 2) (pv 0) (λ_ _=>rfl)) (!Bb (!Ab (pv 3) (!Af))) (AH _))),(!CZ (pv 1) T.cl_Pool A5 (by trivial) (!Ab (pv 0) (!Af)))⟩) (by intro _;rfl))) (!Af)))))),?_⟩
 try dsimp only[Bh,Cx.nox,Cx.wish]
 obtain⟨Ok,cl,okp⟩:=wd.ok;refine Aw ⟨_,rfl,_,rfl,p,d,h,cs,ag,ka,ea,ks,ps,Ok,rfl,wd.pv,wd.hd,wd.sl,wd.tb,cl,okp,λdh hs H1 S1 ho ez ndh _=>?_⟩;dsimp only[Ay];generalize eg:D8 cs ks ps=g at ho q;have nf:∀o u,H dh≠some (.frz o u):=λo u z=>by rw[ndh] at z;cases z
 have pv1:=wd.pv.kb S1.kb;refine⟨_,rfl,dh,_,rfl,ho.at_,λo=>?_⟩;have hf:(upd H1 dh (.frz o (.dK (hs.map λr=>((.inl r.1:Key),V.ref r.2))))) dh=some (.frz o (.dK (hs.map λr=>((.inl r.1:Key),V.ref r.2)))):=Ad;have kf:KB H (upd H1 dh (.frz o (.dK (hs.map λr=>((.inl r.1:Key),V.ref r.2))))):=λa ob e n=>by
  rw[Ah λw=>by rw[w,ndh] at e;cases e];exact S1.kb a ob e n
 have hfl:∀r∈hs,(upd H1 dh (.frz o (.dK (hs.map λr=>((.inl r.1:Key),V.ref r.2))))) r.2=some (.lst ((g r.1).map V.str)):=λr hr=>by
  rw[Ah λw=>by have:=ho.ls r hr;rw[w,ho.at_] at this;cases this];exact ho.ls r hr
 have th:∀H2,Am (upd H1 dh (.frz o (.dK (hs.map λr=>((.inl r.1:Key),V.ref r.2))))) H2->Am H1 (upd H2 dh (.dK (hs.map λr=>((.inl r.1:Key),V.ref r.2)))):=λH2 s2=>EE ho.at_ s2
 have fre:∀l,(upd H1 dh (.frz o (.dK (hs.map λr=>((.inl r.1:Key),V.ref r.2))))) l=none->l≠dh:=λl nl w=>by rw[w,hf] at nl;cases nl
 generalize upd H1 dh (.frz o (.dK (hs.map λr=>((.inl r.1:Key),V.ref r.2))))=Hf at hf hfl th fre kf;have pvf:=wd.pv.kb kf;have it:=Hv hf;rw[aq] at it;have pu:∀z:Int,((g z).map V.str).all DF=true:=λz=>bf.mpr λv hv=>by obtain⟨x,_,rfl⟩:=af.mp hv;rfl
 obtain⟨_,_,_,_,_,_,_,few0⟩:=wd.pv;have lhs:hs.length=cs.length:=by have:=congrArg List.length ez;rw[aa,aa] at this;exact this
 refine EF (ps:=hs) (λr=>decide ((g r.1).map V.str=[V.str k])) (λr=>V.int (DY cs r.1)) it (by omega) (λr hr H' R s' hR=>?_) (λr hr _ H' R s' hR=>?_) λl H2 nl s2 hl=>?_
 ·have gg:=Xc (s'.get hf) ho.nz hr;refine⟨_,rfl,_,rfl,dh,_,rfl,gg,_,rfl,Td,λl nl=>?_⟩;have sl:=Ak nl (.lst [V.str k]);exact⟨r.2,l,_,_,rfl,rfl,AD.of (sl.get (s'.get (hfl r hr))),AD.of Ad,pu r.1,rfl,_,rfl,hR _ sl⟩
 ·have pv':=pvf.kb (KB.of s');obtain⟨q',cs',bs',pa',_⟩:=id pv';have rm:r.1∈cs.map (·.tg.1):=by rw[<-ez];exact aH (f:=λr:Int×Addr=>r.1) hr
  obtain⟨b,eb⟩:=Qz rm;exact⟨_,rfl,p,q'.dp,_,rfl,pa'.t.1,rfl,_,rfl,Cj (pv'.size (K:=K) eb (hR H' (Am.refl _)))⟩
 refine⟨dh,o,_,nf,s2.get hf,Cj ⟨l,(hs.filter λr=>decide ((g r.1).map V.str=[V.str k])).map λr=>DY cs r.1,rfl,AD.of (by rw[Ah (fre l nl),hl,aq];rfl),?_⟩⟩;have e3:Sw cs g k=((hs.filter λr=>decide ((g r.1).map V.str=[V.str k])).map λr=>DY cs r.1).sum:=by
  unfold Sw;rw[<-ez,dF,aq];have:((λz=>decide (g z=[k]))∘λr:Int×Addr=>r.1)=λr=>decide ((g r.1).map V.str=[V.str k]):=funext λr=>by
   show decide (g r.1=[k])=_;refine d6.mpr ⟨λe=>by rw[e];rfl,λe=>?_⟩;exact(List.map_inj_right λa b e=>V.str.inj e).mp (show(g r.1).map V.str=[k].map V.str from e)
  rw[this];rfl
 rw[<-e3];exact q _ (S1.on (th H2 s2))
end
open M06 M55
section
variable {P:Program}{w:World}{K:W.Frag}{mg:Str->Option Value}{base:Heap}{f Aj Aa Ac:Addr}{XC:Nat->Addr}{fd:FuncData}{PT:Addr}
theorem KD {α:Type} {J:It} {ps:List α} {g:α->Addr} {A B:α->V} {fr:List (Option Nat)} {rest:St} {tt:TT} {te:TE} {Q:VK} {σ:St} {H:Hp} (p:α->Bool) (f:α->V) (hst:stC fr σ=none::none::rest) (hJ:Ie J H (ps.map λx=>V.ref (g x))) (hpr:∀x∈ps,H (g x)=some (.tup [A x,B x])) (hn:ps.length<=1000000)
  (htest:∀x∈ps,∀(H':Hp) (R:Bool->Hp->Prop),Am H H'->(∀H'',Am H' H''->R (p x) H'')->tt (some (A x)::some (B x)::rest) H' R)
  (helt:∀x∈ps,∀(H':Hp) (R:VK),Am H H'->R (f x) H'->te (some (A x)::some (B x)::rest) H' R)
  (hQ:∀l H',H l=none->Am H H'->H' l=some (.lst ((ps.filter p).map f))->Q (.ref l) H'):Eo fr (Rn K 2 (G9 (Ay 0) (G9 (Ay 1) RE))) tt te σ Q J H:=by
 intro l hl;refine⟨λi m σ' H'=>m=ps.length-i/\i<=ps.length/\(∃y0 y1,σ'=y0::y1::rest)/\Am H H'/\H' l=some (.lst (((ps.take i).filter p).map f)),⟨ps.length,by simp,bC _,⟨_,_,hst⟩,Ak hl _,by rw[Ad];rfl⟩,?_⟩
 rintro i m σ' H' ⟨rfl,hi,⟨y0,y1,rfl⟩,hs,hl'⟩
 obtain⟨h1,h2,h3⟩:=hJ H' hs i;rw[aa] at h1 h2 h3
 by_cases hlt:i<ps.length
 ·refine .inr ⟨h1 hlt,λx H'' y=>?_⟩;obtain⟨rfl,hx⟩:=h2 x H'' y;have hx:=hx hlt;rw[az,ab hlt] at hx;cases hx;have hm:ps[i]∈ps:=bF hlt;have et:((ps.take (i+1)).filter p).map f=((ps.take i).filter p).map f++(if p ps[i]=true then[f ps[i]] else[]):=by
   rw[aS,ab hlt,cV,aj];cases q:p ps[i]<;>simp[q]
  have le:(((ps.take i).filter p).map f).length<=i:=by
   have b:=bq p (ps.take i);rw[aV] at b;rw[aa];omega
  refine⟨g ps[i],_,rfl,AL.of (hs.get (hpr _ hm)),rfl,_,_,rfl,_,_,rfl,rfl,?_⟩;refine htest _ hm H'' _ hs λH3 s3=>?_
  have hs:=hs.trans s3;have hl':=s3.get hl';refine Et (λc=>?_) (λc=>?_)
  ·refine helt _ hm H3 _ hs ⟨_,hl',AU (by omega),ps.length-(i+1),by omega,rfl,hlt,⟨_,_,rfl⟩,AI hs hl _,?_⟩;rw[Ad,et,aG c]
  ·exact⟨ps.length-(i+1),by omega,rfl,hlt,⟨_,_,rfl⟩,hs,by rw[et,aJ c,cn];exact hl'⟩
 ·have e:i=ps.length:=by omega
  subst e;exact .inl ⟨h3 (ar _),hQ l H' hl hs (by rw[hl',aZ (ar _)])⟩
def Rj (cs:List Cz)(g:Int->List Str)(k:Addr×Str×Int):Bool:=decide (MT cs g k.2.1>840*k.2.2)
def HS (K:W.Frag)(CP CT PT:Addr):Sp:=λvs H Q _=>∃(p d h:Addr) (cs:List Cz) (ag:Int) (ka ea:Addr) (ks:List (Addr×Str×Int)) (ps:List (Addr×HE)),vs=[.ref p,.ref h]/\Wd CP CT PT H p d h cs ag ka ea ks ps/\∀l H',ST PT H H'->H l=none->H' l=some (.lst ((ks.filter (Rj cs (D8 cs ks ps))).map λk=>V.str k.2.1))->Q (.ref l) H'
theorem Pb (T:Txt K mg Aj Aa Ac XC)(F:Fun K "over_in" "over_in" EG f fd)(Bu:Def P w K mg base 3 "holders_in" ["pool","head"] (C3 K Ac Aa PT))(HI:Def P w K mg base 1 "is_above" ["one","other"] (Hc K))(DT:Def P w K mg base 4 "share_by" ["pool","holders","keeper"] (Fc K Ac Aa)):FnOk P w K mg base Cf 5 f fd ["pool","head"] (HS K Ac Aa PT):=by
 exists Kv
 ·obtain⟨p,d,h,cs,ag,ka,ea,ks,ps,rfl,_⟩:=h;rfl
 obtain⟨p,d,h,cs,ag,ka,ea,ks,ps,rfl,wd,q⟩:=h;have hu:=BI hr;have hu9:=Ct hr;refine⟨_,(!Ag (@Au _ _ (2) _ _ _ _ Kv.nd rfl (by trivial) (!AC Bu (by trivial) rfl (!Ab (pv 0) (!Ab (pv 1) (!Af)))) (by rfl) (by trivial)) (!Al (!Av (@BV _ ["keeper","bound","pool","holders"] [none,none,some 0,some 2] _ _ _ _ _ _ _ _ _ _ _ rfl (!Cv (!An Az (pv 1) (!Ae) (λ_ _=>rfl))) (by rfl) rfl (by repeat (first|exact trivial|refine⟨rfl,?_⟩)) (by repeat (first|exact trivial|refine⟨λh=>(by first|exact⟨_,rfl⟩|cases h),?_⟩)) (λC s H fp=>⟨(@Ht _ (K) _ _ _ _ (2) (by rfl) rfl (!AJ (@Ap _ _ (0) _ (show(["keeper","bound","pool","holders"]:List Str).Nodup by decide +kernel) rfl (by trivial) (by trivial)) (!AJ (@Ap _ _ (1) _ (show(["keeper","bound","pool","holders"]:List Str).Nodup by decide +kernel) rfl (by trivial) (by trivial)) (!C5))) (by rfl) (by rfl)),(!Ci (!Da (!AC HI (by trivial) rfl (!Ab (!AC DT (by trivial) rfl (!Ab (pv 2) (!Ab (pv 3) (!Ab (pv 0) (!Af))))) (!Ab (!BF (!Ab (pv 1) (!Ab (!Ae) (!Af)))) (!Af)))) (by intro _;rfl))),(pv 0)⟩) (by intro _;rfl))))),?_⟩
 try dsimp only[Bh,Cx.nox,Cx.wish]
 obtain⟨Ok,cl,okp⟩:=wd.ok;refine Aw ⟨_,rfl,_,rfl,p,d,h,cs,ag,ka,ea,ks,ps,Ok,rfl,wd.pv,wd.hd,wd.sl,wd.tb,cl,okp,λdh hs H1 S1 ho ez ndh _=>?_⟩;have ndd:dh≠d:=λe=>by
  obtain⟨_,_,_,_,_,bx,_⟩:=wd.pv;rw[e,bx.at_] at ndh;cases ndh
 have g8:=RR (cs:=cs) (ps:=ps) wd.hd.kl;dsimp only[Ay];generalize eg:D8 cs ks ps=g at ho q g8;have wd1:=wd.on S1;have hd1:=wd1.hd;have kl:=hd1.kl;refine⟨_,rfl,h,_,_,_,rfl,rfl,AL.of hd1.at_,Ar (j:=1) rfl,ka,rfl,⟨_,AL.of hd1.kt⟩,KD (K:=K) (ps:=ks) (g:=λk=>k.1) (A:=λk=>.str k.2.1) (B:=λk=>.int k.2.2) (Rj cs g) (λk=>.str k.2.1) rfl (Cb hd1.kt) hd1.ke (by omega) (λk hk H' R s' hR=>?_) (λk hk H' R s' hR=>⟨_,rfl,hR⟩) λl H2 nl s2 hl=>q l H2 (S1.on s2) (S1.free nl) hl⟩;refine⟨_,rfl,_,rfl,_,rfl,p,d,dh,k.2.1,cs,hs,g,rfl,wd1.pv.kb (KB.of s'),ho.kb (KB.of s'),ez,g8,ndd,λr H2 x y s2 nr hr hy he hg b=>?_⟩;refine⟨_,rfl,Fy,λt nt=>?_⟩;have st:=Ak nt (.tup [.int k.2.2,.int 1]);have e:decide (x*1>k.2.2*y)=Rj cs g k:=by
  unfold Rj;refine d6.mpr ?_;have:=above (q:=y) (e:=840) (q':=1) (e':=1) (p':=k.2.2) (d':=k.2.2) hy (by decide) (by decide) (by decide) (show x*840=MT cs g k.2.1*y from he) rfl;rw[this,gI,Int.mul_comm k.2.2 840]
 have h1:(1:Int).natAbs<2^4000:=aN (show(1:Int).natAbs<2^1 by decide) (bQ (by decide) (by decide));refine⟨_,_,(x,y),(k.2.2,1),rfl,⟨r,rfl,st.get hr⟩,⟨t,rfl,Ad⟩,b,⟨wd.kb k hk,h1⟩,_,rfl,?_⟩;show R (decide (x*1>k.2.2*y)) _;rw[e];exact hR _ (s2.trans st)
end
open M06 M55
section
variable {P:Program}{w:World}{K:W.Frag}{mg:Str->Option Value}{base:Heap}{f Aj Aa Ac:Addr}{XC:Nat->Addr}{fd:FuncData}{PT:Addr}
theorem Je (z:Int):∀fs:List Int,(Bo (AK fs) (.inl z)).isSome=decide (z∈fs)
 |[]=>rfl
 |y::fs=>by
  by_cases e:y=z
  ·subst e;rw[AK,ao,E3 rfl,aE aw];rfl
  ·have:=Je z fs;rw[AK] at this;rw[AK,ao,D6 λw=>e (bH w),this];exact d6.mpr ⟨aI _,λh=>(aL.mp h).resolve_left λw=>e w.symm⟩
def K6 (cs:List Cz)(ps:List (Addr×HE))(hs:List (Str×Addr))(z:Int):Int:=((hs.filter λr=>decide (z∈CU cs ps r.1)).length:Int)
def FC (cs:List Cz)(ps:List (Addr×HE))(hs:List (Str×Addr))(l:List Int):Int:=(l.map λz=>840*DY cs z/K6 cs ps hs z).sum
def ID (cs:List Cz)(ps:List (Addr×HE))(hs:List (Str×Addr))(l:List Int):Int:=(l.map λz=>DY cs z*if K6 cs ps hs z=1 then 1 else 0).sum
def Mq (cs:List Cz)(l:List Int):Int:=(l.map (DY cs)).sum
def Ds (K:W.Frag):Sp:=λvs H Q _=>∃(CP CT p d dk:Addr) (k:Str×Addr) (cs:List Cz) (ps:List (Addr×HE)) (hs:List (Str×Addr)),vs=[.ref d,.ref dk,.str k.1]/\Pv CP CT H p d cs/\Hl H dk cs ps hs/\k∈hs/\hs.length<=8/\d≠dk/\(∀r∈hs,r.2≠d/\r.2≠dk)/\(∀z∈CU cs ps k.1,∃b,bm cs z=some b)/\(CU cs ps k.1).length<=15/\
 ∀(r:Addr) (H':Hp),Am H H'->H r=none->H' r=some (.tup [.int (FC cs ps hs (CU cs ps k.1)),.int (ID cs ps hs (CU cs ps k.1)),.int (Mq cs (CU cs ps k.1))])->Q (.ref r) H'
theorem Mv (T:Txt K mg Aj Aa Ac XC)(F:Fun K "_law_sums" "_law_sums" Dd f fd)(Bv:Def P w K mg base 7 "_law_words" ["_law_thing"] (D4 K)):FnOk P w K mg base Cf 8 f fd ["_law_blocks_here","_law_held_here","_law_keeper"] (Ds K):=by
 exists Be
 ·obtain⟨CP,CT,p,d,dk,k,cs,ps,hs,rfl,_⟩:=h;rfl
 obtain⟨CP,CT,p,d,dk,k,cs,ps,hs,rfl,pvv,hl,hk,l8,ndk,nds,okz,few,q⟩:=h;have hu:=BI hr;have hu9:=Ct hr;refine⟨_,(!Ag (@Au _ _ (3) _ _ _ _ Be.nd rfl (by trivial) (!Ae) (by rfl) (by trivial)) (!Ag (@Au _ _ (4) _ _ _ _ Be.nd rfl (by trivial) (!Ae) (by rfl) (by trivial)) (!Ag (@Au _ _ (5) _ _ _ _ Be.nd rfl (by trivial) (!Ae) (by rfl) (by trivial)) (!Ag (!Qx aW rfl (!Br hu (pv 1) (pv 2) (λ_ _=>rfl)) (@Ap _ _ (6) _ Be.nd rfl (by trivial) (by trivial)) (!Ag (@Au _ _ (7) _ _ _ _ Be.nd rfl (by trivial) (!Ax AM (by rfl) T.b_len BW (!Ab (!Kw (@BV _ ["_law_other","_law_number","_law_held_here"] [none,some 6,some 1] _ _ _ _ _ _ _ _ _ _ _ rfl (!Iy (pv 1)) (by rfl) rfl (by repeat (first|exact trivial|refine⟨rfl,?_⟩)) (by repeat (first|exact trivial|refine⟨λh=>(by first|exact⟨_,rfl⟩|cases h),?_⟩)) (λC s H fp=>⟨(@Ap _ _ (0) _ (show(["_law_other","_law_number","_law_held_here"]:List Str).Nodup by decide +kernel) rfl (by trivial) (by trivial)),(!Ci (!HY (!My hu (pv 1) (!Br hu (pv 2) (pv 0) (λ_ _=>rfl))) (by first|exact D7 _ (by decide) (by decide)|rfl))),(pv 0)⟩) (by intro _;rfl))) (!Af))) (by rfl) (by trivial)) (!Ag (@Au _ _ (8) _ _ _ _ Be.nd rfl (by trivial) (!AC Bv (by trivial) rfl (!Ab (!An Az (!Br hu (pv 0) (pv 6) (λ_ _=>rfl)) (!Ae) (λ_ _=>rfl)) (!Af))) (by rfl) (by trivial)) (!Ag (@Au _ _ (3) _ _ _ _ Be.nd rfl (by trivial) (!Ao AF (pv 3) (!Ao Kn (!Ao Bt (!Ae) (pv 8)) (pv 7))) (by rfl) (by trivial)) (!Ag (@Au _ _ (4) _ _ _ _ Be.nd rfl (by trivial) (!Ao AF (pv 4) (!Ao Bt (pv 8) (!Bj Jf (by rfl) T.b_int JB (!Ab (!EA CV (pv 7) (!Ae) (AH _)) (!Af))))) (by rfl) (by trivial)) (!Al (@Au _ _ (5) _ _ _ _ Be.nd rfl (by trivial) (!Ao AF (pv 5) (pv 8)) (by rfl) (by trivial))))))) (by intro _;rfl)) (!Al (!Av (!BF (!Ab (pv 3) (!Ab (pv 4) (!Ab (pv 5) (!Af))))))))))),?_⟩
 try dsimp only[Bh,Cx.nox,Cx.wish]
 have nf:∀b kvs,H b=some (.dK kvs)->∀o u,H b≠some (.frz o u):=λb kvs e o u z=>by rw[e] at z;cases z
 obtain⟨q0,cs0,bs0,pa0,nl0,bx0,eq0,few0⟩:=id pvv;refine Aw ?_;dsimp only[tC,Ay];refine Aw ?_;dsimp only[tC,Ay];refine Aw ?_;dsimp only[tC,Ay];have gk:=BA.k (k:=.inr k.1) hl.at_;rw[show Bo (hs.map λr=>((.inr r.1:Key),V.ref r.2)) (.inr k.1)=some (.ref k.2) from Em (k:=λr:Str×Addr=>.inr r.1) (g:=λr=>.ref r.2) (bh.mpr ((bh.mp hl.nd).imp λh e=>h (eN e))) k hk] at gk;have hka:=hl.ea k hk;have mn8:∀z,0<=K6 cs ps hs z/\K6 cs ps hs z<=8:=λz=>by
  unfold K6;have:=bq (λr:Str×Addr=>decide (z∈CU cs ps r.1)) hs;omega
 have mn1:∀z∈CU cs ps k.1,1<=K6 cs ps hs z:=λz hz=>by
  unfold K6;have:k∈hs.filter λr=>decide (z∈CU cs ps r.1):=aU.mpr ⟨hk,aE hz⟩
  have:=bV.mpr (List.ne_nil_of_mem this);omega
 generalize ez:CU cs ps k.1=zs at hka okz few q mn1;refine Bf (t:=Tq _ _ _ _) (λσ' H'=>∃v6 v7 v8,σ'=[some (.ref d),some (.ref dk),some (.str k.1),some (.int (FC cs ps hs zs)),some (.int (ID cs ps hs zs)),some (.int (Mq cs zs)),v6,v7,v8]/\Am H H') (λN hN=>?_) ?_
 ·refine⟨_,rfl,_,rfl,dk,_,rfl,gk,k.2,_,rfl,hka,λo=>?_⟩;have hf:(upd H k.2 (.frz o (.dK (AK zs)))) k.2=some (.frz o (.dK (AK zs))):=Ad;have oth:∀b ob,b≠k.2->H b=some ob->(upd H k.2 (.frz o (.dK (AK zs)))) b=some ob:=λb ob n e=>by rw[Ah n];exact e
  have th:∀H2,Am (upd H k.2 (.frz o (.dK (AK zs)))) H2->Am H (upd H2 k.2 (.dK (AK zs))):=λH2 s2=>EE hka s2
  generalize upd H k.2 (.frz o (.dK (AK zs)))=Hf at hf oth th;have lz:(AK zs).length=zs.length:=by unfold AK;rw[aa]
  refine LU (d:=k.2) (o:=o) (kvs:=AK zs) (nf _ _ hka) (λi σ H'=>∃v6 v7 v8,σ=[some (.ref d),some (.ref dk),some (.str k.1),some (.int (FC cs ps hs (zs.take i))),some (.int (ID cs ps hs (zs.take i))),some (.int (Mq cs (zs.take i))),v6,v7,v8]/\Am Hf H') ⟨none,none,none,rfl,Am.refl _⟩ (λi σ H' _ ⟨_,_,_,_,s'⟩=>s'.get hf) ?_ ?_
  ·rintro i key vv σ H1 hi ⟨v6,v7,v8,rfl,s1⟩
   unfold AK at hi;rw[az] at hi;obtain⟨z,hz,e⟩:=bN.mp hi;cases e;have hzm:=aC hz;dsimp only[Ay,kV];have hd1:=s1.get (oth _ _ (Ne.symm (nds k hk).1) bx0.at_);have hk1:=s1.get (oth _ _ (Ne.symm (nds k hk).2) hl.at_);have he1:∀H':Hp,(∀b ob,b≠dk->H1 b=some ob->H' b=some ob)->∀r∈hs,BA H' r.2 (.int z) (Bo (AK (CU cs ps r.1)) (.inl z)):=λH' ke r hr=>by
    by_cases w:r.2=k.2
    ·have e1:=hl.ea r hr;rw[w,hka] at e1;have e2:=HO.dK.inj (aA e1);rw[w,<-e2];exact BA.kf (k:=.inl z) (ke _ _ (nds k hk).2 (s1.get hf))
    ·exact BA.k (k:=.inl z) (ke _ _ (nds r hr).2 (s1.get (oth _ _ w (hl.ea r hr))))
   refine Aw ⟨_,rfl,dk,_,rfl,hk1,λo2=>?_⟩;have hf2:(upd H1 dk (.frz o2 (.dK (hs.map λr=>((.inr r.1:Key),V.ref r.2))))) dk=some (.frz o2 (.dK (hs.map λr=>((.inr r.1:Key),V.ref r.2)))):=Ad;have th2:∀H2,Am (upd H1 dk (.frz o2 (.dK (hs.map λr=>((.inr r.1:Key),V.ref r.2))))) H2->Am H1 (upd H2 dk (.dK (hs.map λr=>((.inr r.1:Key),V.ref r.2)))):=λH2 s2=>EE hk1 s2
   have ke2:∀H',Am (upd H1 dk (.frz o2 (.dK (hs.map λr=>((.inr r.1:Key),V.ref r.2))))) H'->∀b ob,b≠dk->H1 b=some ob->H' b=some ob:=λH' s' b ob n e=>s' b ob (by rw[Ah n];exact e)
   have fre:∀l,(upd H1 dk (.frz o2 (.dK (hs.map λr=>((.inr r.1:Key),V.ref r.2))))) l=none->l≠dk:=λl nl w=>by rw[w,hf2] at nl;cases nl
   generalize upd H1 dk (.frz o2 (.dK (hs.map λr=>((.inr r.1:Key),V.ref r.2))))=F2 at hf2 th2 ke2 fre;have it:=Hv hf2;rw[aq] at it;refine CH (ps:=hs) (λr=>decide (z∈CU cs ps r.1)) (λr=>V.str r.1) it (by omega) (λr hr H' R s' hR=>?_) (λr hr _ H' R s' hR=>⟨_,rfl,hR H' (Am.refl _)⟩) λl H2 nl s2 hl2=>?_
   ·have g1:=BA.kf (k:=.inr r.1) (s'.get hf2);rw[show Bo (hs.map λr=>((.inr r.1:Key),V.ref r.2)) (.inr r.1)=some (.ref r.2) from Em (k:=λr:Str×Addr=>.inr r.1) (g:=λr=>.ref r.2) (bh.mpr ((bh.mp hl.nd).imp λh e=>h (eN e))) r hr] at g1;refine⟨_,rfl,_,rfl,_,rfl,dk,_,rfl,g1,r.2,_,rfl,he1 H' (ke2 H' s') r hr,_,rfl,?_⟩;rw[Je];exact hR
   refine⟨dk,o2,_,nf _ _ hl.at_,s2.get hf2,Cj ⟨l,_,rfl,.inl (AD.of (by rw[Ah (fre l nl)];exact hl2)),?_⟩⟩;have s12:=th2 H2 s2;generalize upd H2 dk (.dK (hs.map λr=>((.inr r.1:Key),V.ref r.2)))=H3 at s12;have em:((((hs.filter λr=>decide (z∈CU cs ps r.1)).map λr=>V.str r.1).length:Nat):Int)=K6 cs ps hs z:=by rw[aa];rfl
   rw[em];dsimp only[Ay];obtain⟨b,eb⟩:=okz z hzm;have esz:DY cs z=(L7 b:Int):=by unfold DY;rw[eb]
   obtain⟨c,hc,e1,e2⟩:=Cd eb;have okb:GJ b:=by
    have:(c.tg,c.bk)∈cs0.map λe=>(Mb e,e.bk):=by rw[<-eq0];exact aH hc
    obtain⟨x,hx,ex⟩:=af.mp this;have e3:x.bk=c.bk:=congrArg (·.2) ex;rw[<-e2,<-e3];exact(pa0.t.2.2.1 x hx).2.2.2
   have kt3:KT H H3:=λa xs e=>(s1.trans s12).get (oth a _ (λw=>by rw[w,hka] at e;cases e) e)
   obtain⟨c1,_,c3⟩:=(bx0.ce c hc).keep kt3;have gd:=BA.k (k:=.inl z) (s12.get hd1);rw[<-e1,show Bo (G8 cs) (.inl c.tg.1)=some (.ref c.p) from Em (k:=λc:Cz=>.inl c.tg.1) (g:=λc=>.ref c.p) (bh.mpr ((bh.mp bx0.nd).imp λh e=>h (bH e))) c hc,e1] at gd;have wb:=RQ okb;rw[e2] at c3;refine Aw ⟨_,rfl,_,rfl,d,_,rfl,gd,c.p,_,_,_,rfl,rfl,AL.of c1,Ar (j:=1) rfl,Cj ⟨c.v,DB b,rfl,c3,wb.2,λH4 s4=>?_⟩⟩;rw[wb.1,<-esz];have sb:=PF pvv z;have m1:=mn1 z hzm;have m8:=(mn8 z).2;dsimp only[Ay];refine Aw ⟨_,rfl,_,rfl,_,_,rfl,rfl,.inl ⟨by decide,by decide⟩,_,rfl,_,_,rfl,rfl,⟨by omega,by omega⟩,_,_,rfl,rfl,?_⟩;dsimp only[Ay];refine Aw ⟨_,rfl,_,rfl,_,rfl,rfl,Cj (.inr ⟨_,rfl,_,_,rfl,rfl,.inl ⟨by omega,by omega⟩,_,_,rfl,rfl,?_⟩)⟩;dsimp only[Ay];refine⟨_,rfl,_,rfl,_,_,rfl,rfl,some (.int z),some (.int (K6 cs ps hs z)),some (.int (DY cs z)),?_,s1.trans (s12.trans s4)⟩;have tk:∀F:Int->Int,((zs.take (i+1)).map F).sum=((zs.take i).map F).sum+F z:=λF=>by
    rw[aS,hz,aj,List.sum_append];show _+(F z+0)=_;rw[fm]
   have t1:FC cs ps hs (zs.take (i+1))=FC cs ps hs (zs.take i)+840*DY cs z/K6 cs ps hs z:=tk λz=>840*DY cs z/K6 cs ps hs z
   have t2:ID cs ps hs (zs.take (i+1))=ID cs ps hs (zs.take i)+DY cs z*(if K6 cs ps hs z=1 then 1 else 0):=tk λz=>DY cs z*if K6 cs ps hs z=1 then 1 else 0
   have t3:Mq cs (zs.take (i+1))=Mq cs (zs.take i)+DY cs z:=tk (DY cs);have ei:(if decide (V.int (K6 cs ps hs z)=V.int 1)=true then(1:Int) else 0)=if K6 cs ps hs z=1 then 1 else 0:=by
    by_cases h:K6 cs ps hs z=1
    ·rw[h];rfl
    ·rw[aJ h,aJ λe=>h (V.int.inj (aQ e))]
   rw[t1,t2,t3,<-ei];rfl
  ·rintro σ H1 ⟨v6,v7,v8,rfl,s1⟩
   rw[lz,bS];exact hN _ _ ⟨_,_,_,rfl,th _ s1⟩
 rintro σ' H1 ⟨v6,v7,v8,rfl,s1⟩
 exact⟨_,rfl,_,rfl,_,rfl,MD,λr nr=>q r _ (s1.trans (Ak nr _)) (s1.free nr) Ad⟩
end
open M06 M55
section
variable {P:Program}{w:World}{K:W.Frag}{mg:Str->Option Value}{base:Heap}{f Aj Aa Ac:Addr}{XC:Nat->Addr}{fd:FuncData}{PT:Addr}
theorem PV (cs:List Cz)(ks:List (Addr×Str×Int))(ps:List (Addr×HE))(z:Int):D8 cs ks ps z=(ks.map (·.2.1)).filter λk=>decide (z∈CU cs ps k):=by
 unfold D8;rw[dF];rfl
theorem Vi {cs:List Cz}{ks:List (Addr×Str×Int)}{ps:List (Addr×HE)}{hs:List (Str×Addr)}(en:hs.map (·.1)=ks.map (·.2.1))(z:Int):K6 cs ps hs z=((D8 cs ks ps z).length:Int):=by
 rw[PV,<-en,dF,aa];rfl
theorem MB {cs:List Cz}{ks:List (Addr×Str×Int)}{ps:List (Addr×HE)}{k:Str}(hk:k∈ks.map (·.2.1))(z:Int):k∈D8 cs ks ps z↔z∈CU cs ps k:=by
 rw[PV,aU];exact⟨λh=>aQ h.2,λh=>⟨hk,aE h⟩⟩
theorem RX {s:Int->Int}{c:Int->Prop}[DecidablePred c]:∀l:List Int,(l.map λz=>s z*if c z then 1 else 0).sum=((l.filter λz=>decide (c z)).map s).sum
 |[]=>rfl
 |x::l=>by
  rw[ao,bG,RX l,cq]
  by_cases h:c x
  ·rw[aG h,aG (aE h),ao,bG,gI]
  ·rw[aJ h,aJ (by rw[ba h];decide),Int.mul_zero,Int.zero_add]
structure Num (cs:List Cz) (ks:List (Addr×Str×Int)) (ps:List (Addr×HE)) (hs:List (Str×Addr)) (k:Str):Prop where
 nd:(cs.map (·.tg.1)).Nodup
 hn:(CU cs ps k).Nodup
 hb:∀z∈CU cs ps k,z∈cs.map (·.tg.1)
 en:hs.map (·.1)=ks.map (·.2.1)
 km:k∈ks.map (·.2.1)
theorem Num.top {cs:List Cz}{ks:List (Addr×Str×Int)}{ps:List (Addr×HE)}{hs:List (Str×Addr)}{k:Str}(a:Num cs ks ps hs k):MT cs (D8 cs ks ps) k=FC cs ps hs (CU cs ps k):=by
 unfold MT FC;have pm:((cs.map (·.tg.1)).filter λz=>decide (k∈D8 cs ks ps z)).Perm (CU cs ps k):=(dP (a.nd.filter _) a.hn).mpr λz=>by
  rw[aU,bj,MB a.km];exact⟨λh=>h.2,λh=>⟨a.hb z h,h⟩⟩
 rw[KG (pm.map _)];exact congrArg List.sum (bD λz _=>by rw[Vi a.en])
theorem Num.aln {cs:List Cz}{ks:List (Addr×Str×Int)}{ps:List (Addr×HE)}{hs:List (Str×Addr)}{k:Str}(a:Num cs ks ps hs k):Sw cs (D8 cs ks ps) k=ID cs ps hs (CU cs ps k):=by
 unfold Sw ID;rw[RX];have pm:((cs.map (·.tg.1)).filter λz=>decide (D8 cs ks ps z=[k])).Perm ((CU cs ps k).filter λz=>decide (K6 cs ps hs z=1)):=(dP (a.nd.filter _) (a.hn.filter _)).mpr λz=>by
  rw[aU,aU,bj,bj,Vi a.en,<-MB a.km];constructor
  ·rintro⟨_,h⟩
   rw[h];exact⟨ai.mpr rfl,rfl⟩
  ·rintro⟨h1,h2⟩
   refine⟨a.hb z ((MB a.km z).mp h1),?_⟩;obtain⟨x,hx⟩:=List.length_eq_one_iff.mp (show(D8 cs ks ps z).length=1 by omega);rw[hx] at h1 ⊢;rw[ai.mp h1]
 exact KG (pm.map _)
theorem Nt {CP CT:Addr}{H:Hp}{p d:Addr}{cs:List Cz}(pv:Pv CP CT H p d cs){ps:List (Addr×HE)}{hs:List (Str×Addr)}:∀l:List Int,0<=FC cs ps hs l/\FC cs ps hs l<=420000*l.length
 |[]=>⟨dA _,dA _⟩
 |z::l=>by
  have ih:=Nt pv (ps:=ps) (hs:=hs) l;have sz:=PF pv z;have e:FC cs ps hs (z::l)=840*DY cs z/K6 cs ps hs z+FC cs ps hs l:=rfl;have m0:0<=K6 cs ps hs z:=by unfold K6;omega
  have h1:0<=840*DY cs z/K6 cs ps hs z:=Int.ediv_nonneg (by omega) m0;have h2:840*DY cs z/K6 cs ps hs z<=840*DY cs z:=Int.ediv_le_self _ (by omega);rw[e,aX];omega
structure Al5 (CP CT PT:Addr) (H:Hp) (p d h dk:Addr) (cs:List Cz) (ag:Int) (ka ea:Addr) (ks:List (Addr×Str×Int)) (ps:List (Addr×HE)) (hs:List (Str×Addr)):Prop where
 w:Wd CP CT PT H p d h cs ag ka ea ks ps
 l:Hl H dk cs ps hs
 en:hs.map (·.1)=ks.map (·.2.1)
 n1:d≠dk
 n2:∀r∈hs,r.2≠d/\r.2≠dk
theorem Al5.on {CP CT PT:Addr}{H H':Hp}{p d h dk:Addr}{cs:List Cz}{ag:Int}{ka ea:Addr}{ks:List (Addr×Str×Int)}{ps:List (Addr×HE)}{hs:List (Str×Addr)}(a:Al5 CP CT PT H p d h dk cs ag ka ea ks ps hs)(s:ST PT H H'):Al5 CP CT PT H' p d h dk cs ag ka ea ks ps hs:=⟨a.w.on s,⟨s.kb.dk a.l.at_,λr hr=>s.kb.dk (a.l.ea r hr),a.l.nd⟩,a.en,a.n1,a.n2⟩
theorem Al5.num {CP CT PT:Addr}{H:Hp}{p d h dk:Addr}{cs:List Cz}{ag:Int}{ka ea:Addr}{ks:List (Addr×Str×Int)}{ps:List (Addr×HE)}{hs:List (Str×Addr)}(a:Al5 CP CT PT H p d h dk cs ag ka ea ks ps hs){k:Str×Addr}(hk:k∈hs):Num cs ks ps hs k.1/\(CU cs ps k.1).length<=15/\∀z∈CU cs ps k.1,∃b,bm cs z=some b:=by
 obtain⟨Ok,cl,okp⟩:=a.w.ok;obtain⟨_,_,_,_,_,bx,_,few⟩:=a.w.pv;obtain⟨h1,h2⟩:=Sm cl okp k.1;have hb:∀z∈CU cs ps k.1,z∈cs.map (·.tg.1):=λz hz=>by
  obtain⟨b,eb⟩:=h2 z hz;obtain⟨c,hc,e,_⟩:=Cd eb;exact af.mpr ⟨c,hc,e⟩
 refine⟨⟨bx.nd,h1,hb,a.en,by rw[<-a.en];exact aH (f:=λr:Str×Addr=>r.1) hk⟩,?_,h2⟩;have:=Fw h1 hb;rw[aa] at this;omega
theorem Al5.sums {CP CT PT:Addr}{H:Hp}{p d h dk:Addr}{cs:List Cz}{ag:Int}{ka ea:Addr}{ks:List (Addr×Str×Int)}{ps:List (Addr×HE)}{hs:List (Str×Addr)}(a:Al5 CP CT PT H p d h dk cs ag ka ea ks ps hs){k:Str×Addr}(hk:k∈hs){Q:VK}(q:∀(r:Addr) (H':Hp),Am H H'->H r=none->H' r=some (.tup [.int (FC cs ps hs (CU cs ps k.1)),.int (ID cs ps hs (CU cs ps k.1)),.int (Mq cs (CU cs ps k.1))])->Q (.ref r) H'):Ds K [.ref d,.ref dk,.str k.1] H Q E0:=by
 obtain⟨_,few,hb⟩:=a.num hk;have l8:hs.length<=8:=by have:=congrArg List.length a.en;rw[aa,aa] at this;rw[this];exact a.w.hd.kl
 exact⟨CP,CT,p,d,dk,k,cs,ps,hs,rfl,a.w.pv,a.l,hk,l8,a.n1,a.n2,hb,few,q⟩
def Fk (K:W.Frag)(CP CT PT:Addr):Sp:=λvs H Q _=>∃(p d h dk:Addr) (k:Str×Addr) (cs:List Cz) (ag:Int) (ka ea:Addr) (ks:List (Addr×Str×Int)) (ps:List (Addr×HE)) (hs:List (Str×Addr)),vs=[.ref p,.ref d,.ref h,.ref dk,.str k.1]/\Al5 CP CT PT H p d h dk cs ag ka ea ks ps hs/\k∈hs/\∀H',ST PT H H'->Q (.bl true) H'
theorem Lm (T:Txt K mg Aj Aa Ac XC)(F:Fun K "_law_right" "_law_right" CO f fd)(CA:Def P w K mg base 8 "_law_sums" ["_law_blocks_here","_law_held_here","_law_keeper"] (Ds K))(Ek:Def P w K mg base 2 "_law_is_share" ["_law_found","_law_top","_law_bottom"] (DU K))(HM:Def P w K mg base 4 "alone_in" ["pool","head","keeper"] (G7 K Ac Aa PT))(Fn:Def P w K mg base 3 "all_in_hand" ["pool","head","keeper"] (ES K Ac Aa PT))(Ic:Def P w K mg base 5 "share_in" ["pool","head","keeper"] (G4 K Ac Aa PT))(A4:Def P w K mg base 1 "_law_whole" ["_law_thing"] (C1 K)):FnOk P w K mg base Cf 9 f fd ["_law_pool","_law_blocks_here","_law_head_here","_law_held_here","_law_keeper"] (Fk K Ac Aa PT):=by
 exists C2
 ·obtain⟨p,d,h,dk,k,cs,ag,ka,ea,ks,ps,hs,rfl,_⟩:=h;rfl
 obtain⟨p,d,h,dk,k,cs,ag,ka,ea,ks,ps,hs,rfl,al,hk,q⟩:=h;have hu:=BI hr;have hu9:=Ct hr;refine⟨_,(!Ag (!OR (!AC CA (by trivial) rfl (!Ab (pv 1) (!Ab (pv 3) (!Ab (pv 4) (!Af))))) (!Ik rfl (!AJ (@Ap _ _ (5) _ C2.nd rfl (by trivial) (by trivial)) (!AJ (@Ap _ _ (6) _ C2.nd rfl (by trivial) (by trivial)) (!AJ (@Ap _ _ (7) _ C2.nd rfl (by trivial) (by trivial)) (!C5)))))) (!Ag (@Au _ _ (8) _ _ _ _ C2.nd rfl (by trivial) (!Bb (!Ab (!AC HM (by trivial) rfl (!Ab (pv 0) (!Ab (pv 2) (!Ab (pv 4) (!Af))))) (!Ab (!AC Fn (by trivial) rfl (!Ab (pv 0) (!Ab (pv 2) (!Ab (pv 4) (!Af))))) (!Af)))) (by rfl) (by trivial)) (!Ag (!BH (@PW.pt _ _ _ (!GS (!AE (OQ hu) (pv 8) (!Bb (!Ab (pv 6) (!Ab (pv 7) (!Af)))) (AH _)) (!GS (!EO (!Da (!AC A4 (by trivial) rfl (!Ab (!An AB (pv 8) (!Ae) (λ_ _=>rfl)) (!Af))) (by intro _;rfl))) (!GK (!EO (!Da (!AC A4 (by trivial) rfl (!Ab (!An AB (pv 8) (!Ae) (λ_ _=>rfl)) (!Af))) (by intro _;rfl))))))) (!Al (!Av (!Hy))) (!AV)) (!Al (!Av (!AC Ek (by trivial) rfl (!Ab (!AC Ic (by trivial) rfl (!Ab (pv 0) (!Ab (pv 2) (!Ab (pv 4) (!Af))))) (!Ab (pv 5) (!Ab (!Ae) (!Af)))))))))),?_⟩
 try dsimp only[Bh,Cx.nox,Cx.wish]
 obtain⟨nm,few,hb⟩:=al.num hk;refine Aw ⟨_,rfl,_,rfl,_,rfl,Cj (al.sums (K:=K) hk λr H1 s1 nr hr=>?_)⟩;have S1:=ST.of al.w.tb s1;have al1:=al.on S1;refine⟨r,_,rfl,AL.of hr,rfl,_,_,rfl,_,_,rfl,_,_,rfl,rfl,?_⟩;refine Aw ⟨_,rfl,_,rfl,_,rfl,p,d,h,k.1,cs,ag,ka,ea,ks,ps,rfl,al1.w,λH2 S2=>⟨_,rfl,_,rfl,_,rfl,p,d,h,k.1,cs,ag,ka,ea,ks,ps,rfl,al1.w.on S2,λH3 S3=>⟨Fy,λlf nlf=>?_⟩⟩⟩;rw[nm.aln];have s4:=Ak nlf (.lst [V.int (ID cs ps hs (CU cs ps k.1)),V.int ((CU cs ps k.1).map (DY cs)).sum]);have S4:=(S1.trans (S2.trans S3)).on s4;have hlf:(upd H3 lf (.lst [V.int (ID cs ps hs (CU cs ps k.1)),V.int ((CU cs ps k.1).map (DY cs)).sum])) lf=some (.lst [V.int (ID cs ps hs (CU cs ps k.1)),V.int (Mq cs (CU cs ps k.1))]):=Ad;dsimp only[Ay];generalize upd H3 lf (.lst [V.int (ID cs ps hs (CU cs ps k.1)),V.int ((CU cs ps k.1).map (DY cs)).sum])=H4 at s4 S4 hlf;refine Bf (t:=Uo _ _ _) (λσ' H'=>σ'=[some (.ref p),some (.ref d),some (.ref h),some (.ref dk),some (.str k.1),some (.int (FC cs ps hs (CU cs ps k.1))),some (.int (ID cs ps hs (CU cs ps k.1))),some (.int (Mq cs (CU cs ps k.1))),some (.ref lf)]/\ST PT H H') (λN hN=>?_) ?_
 ·refine⟨_,rfl,_,rfl,_,rfl,Fy,λl2 nl2=>?_⟩;have s5:=Ak nl2 (.lst [V.int (ID cs ps hs (CU cs ps k.1)),V.int (Mq cs (CU cs ps k.1))]);have hl5:=s5.get hlf;refine⟨lf,l2,_,_,rfl,rfl,AD.of hl5,AD.of Ad,rfl,rfl,_,rfl,Bi (by rw[aG rfl,aE rfl];rfl) ?_⟩;refine⟨_,rfl,lf,_,_,_,rfl,rfl,AD.of hl5,Ar (j:=0) rfl,_,rfl,_,rfl,Bi rfl ?_⟩;exact⟨_,rfl,lf,_,_,_,rfl,rfl,AD.of hl5,Ar (j:=1) rfl,_,rfl,_,rfl,Bi rfl (hN _ _ ⟨rfl,S4.on s5⟩)⟩
 rintro σ' H5 ⟨rfl,S5⟩
 refine⟨_,rfl,_,rfl,_,rfl,p,d,h,k.1,cs,ag,ka,ea,ks,ps,rfl,al.w.on S5,λr2 H6 x y S6 nr2 hr2 hy he hg bd=>?_⟩;rw[nm.top] at he;have tp:=Nt al.w.pv (ps:=ps) (hs:=hs) (CU cs ps k.1);have x0:0<=x:=by
  have e:x*840=FC cs ps hs (CU cs ps k.1)*y:=he;have:=Int.mul_nonneg tp.1 (eE hy);omega
 have b1:(FC cs ps hs (CU cs ps k.1)).natAbs<2^4000:=aN (show _<2^23 by omega) (bQ (by decide) (by decide));have b2:(840:Int).natAbs<2^4000:=aN (show(840:Int).natAbs<2^10 by decide) (bQ (by decide) (by decide));exact⟨_,rfl,_,(x,y),_,_,rfl,⟨r2,rfl,hr2⟩,x0,hy,he,hg,bd.1,bd.2,b1,b2,q _ (S5.trans S6)⟩
end
open M06 M55
section
variable {P:Program}{w:World}{K:W.Frag}{mg:Str->Option Value}{base:Heap}{f Aj Aa Ac:Addr}{XC:Nat->Addr}{fd:FuncData}{PT:Addr}
theorem Ej.kt {H H':Hp}(t:Ej PT LQ LP H)(k:Kt H H'):Ej PT LQ LP H':=by
 rcases t with e|⟨c,e,e2⟩
 ·exact .inl (k _ _ e (λ_ _ _ z=>by cases z) λ_ z=>by cases z)
 ·exact .inr ⟨c,k _ _ e (λ_ _ _ z=>by cases z) (λ_ z=>by cases z),k _ _ e2 (λ_ _ _ z=>by cases z) λ_ z=>by cases z⟩
def Yj (B:BM)(Nm:Str->Prop)(z:Int):Prop:=Rw B 2 z\/Fd B Nm 6 z
theorem Qu (B:BM)(Nm:Str->Prop):Ja B (Yj B Nm):=λz h=>by
 rcases h with h|⟨es,e,l,nd,h⟩
 ·rcases h with⟨c,e,_⟩|⟨lv,ts,e,l,h⟩
  ·exact⟨_,e,bC _,λ_ h=>nomatch h⟩
  ·exact⟨_,e,l,λt ht=>.inl (h t ht).up⟩
 ·refine⟨_,e,by rw[AQ,aa];exact l,λt ht=>?_⟩;obtain⟨x,hx,rfl⟩:=af.mp ht;rcases(h x hx).2 with⟨_,r⟩|⟨_,r⟩
  ·exact .inl r
  ·exact .inr r.up
theorem U8 {z:Str}(h:Wj z):IA (.str z)=true:=by
 show(decide ((1:Int)<=z.length)&&decide ((z.length:Int)<=8)&&BJ LN z)=true;have l0:0<z.length:=by rw[<-A3];exact bV.mpr h.1
 have l8:=h.2.1;rw[aY,aY];refine⟨⟨aE (by omega),aE (by omega)⟩,?_⟩;unfold BJ;exact bf.mpr λc hc=>aE (h.2.2 c hc)
theorem made {C:Addr}{H1 H2:Hp}{x dx:Addr}(nx:H1 x=none)(ndx:H1 dx=none)(k:∀b o,(upd (upd H1 dx (.own x)) x (.ins C dx [])) b=some o->b≠x->H2 b=some o):Am H1 H2:=λb o e=>by
 have n1:b≠x:=Bp e nx;have n2:b≠dx:=Bp e ndx;exact k b o (by rw[Ah n1,Ah n2];exact e) n1
theorem WL {cs:List Cz}(nd:(cs.map (·.tg.1)).Nodup){c:Cz}(hc:c∈cs):Bo (G8 cs) (.inl c.tg.1)=some (.ref c.p):=Em (k:=λc:Cz=>.inl c.tg.1) (g:=λc=>.ref c.p) (bh.mpr ((bh.mp nd).imp λh e=>h (bH e))) c hc
theorem Pv.wrd {CP CT:Addr}{H:Hp}{p d:Addr}{cs:List Cz}(h:Pv CP CT H p d cs){c:Cz}(hc:c∈cs):Wz 5 (DB c.bk)/\QD 5 (DB c.bk)=DY cs c.tg.1:=by
 obtain⟨q0,cs0,bs0,pa0,nl0,bx0,eq0,few0⟩:=h;obtain⟨b,eb⟩:=Qz (aH (f:=λc:Cz=>c.tg.1) hc);obtain⟨c',hc',e1,e2⟩:=Cd eb;have ec:c'=c:=BZ bx0.nd hc' hc e1;rw[ec] at e2;have:(c.tg,c.bk)∈cs0.map λe=>(Mb e,e.bk):=by rw[<-eq0];exact aH hc
 obtain⟨x,hx,ex⟩:=af.mp this;have e3:x.bk=c.bk:=congrArg (·.2) ex;have ok:GJ c.bk:=by rw[<-e3];exact(pa0.t.2.2.1 x hx).2.2.2
 have wb:=RQ ok;refine⟨wb.2,?_⟩;unfold DY;rw[eb,wb.1,e2]
theorem NX {c:Int->Int}(p:Str->Int->Bool):∀(N:List Str) (L:List Int),(N.map λk=>((L.filter (p k)).map c).sum).sum=(L.map λz=>((N.filter λk=>p k z).length:Int)*c z).sum
 |[],L=>by
  rw[cx,List.sum_nil]
  induction L with
  |nil=>rfl
  |cons z L ih=>rw[ao,bG,<-ih];show 0=((0:Nat):Int)*c z+0;rw[Int.natCast_zero,Int.zero_mul];rfl
 |k::N,L=>by
  rw[ao,bG,NX p N L]
  induction L with
  |nil=>rfl
  |cons z L ih=>
   rw[ao,bG,ao,bG,<-ih,cq,cq];cases h:p k z
   ·rw[aJ (by decide),aJ (by decide)];omega
   ·rw[aG rfl,aG rfl,ao,bG,aX,Int.natCast_add,Int.add_mul,Int.natCast_one,Int.one_mul];omega
def Wi (cs:List Cz)(ks:List (Addr×Str×Int))(ps:List (Addr×HE))(l:List Int):Int:=(l.map λz=>if D8 cs ks ps z=[] then 0 else 840*DY cs z).sum
theorem R8 {cs:List Cz}{ks:List (Addr×Str×Int)}{ps:List (Addr×HE)}{hs:List (Str×Addr)}(kl:ks.length<=8)(nm:∀k∈ks,Num cs ks ps hs k.2.1):(ks.map λk=>FC cs ps hs (CU cs ps k.2.1)).sum=Wi cs ks ps (cs.map (·.tg.1)):=by
 have e1:(ks.map λk=>FC cs ps hs (CU cs ps k.2.1))=(ks.map (·.2.1)).map λk=>(((cs.map (·.tg.1)).filter λz=>decide (z∈CU cs ps k)).map λz=>840*DY cs z/((D8 cs ks ps z).length:Int)).sum:=by
  rw[aq];refine bD λk hk=>?_
  rw[<-(nm k hk).top];unfold MT;show _=(((cs.map (·.tg.1)).filter λz=>decide (z∈CU cs ps k.2.1)).map _).sum;rw[show(cs.map (·.tg.1)).filter (λz=>decide (k.2.1∈D8 cs ks ps z))=(cs.map (·.tg.1)).filter λz=>decide (z∈CU cs ps k.2.1) from List.filter_congr λz _=>d6.mpr (MB (nm k hk).km z)]
 rw[e1,NX (λk z=>decide (z∈CU cs ps k))];unfold Wi;refine congrArg List.sum (bD λz _=>?_);rw[<-PV];have l8:(D8 cs ks ps z).length<=8:=by
  rw[PV];have:=bq (λk=>decide (z∈CU cs ps k)) (ks.map (·.2.1));rw[aa] at this;omega
 by_cases e:D8 cs ks ps z=[]
 ·rw[aG e,e];show((0:Nat):Int)*_=0;rw[Int.natCast_zero,Int.zero_mul]
 ·rw[aJ e];exact Int.mul_ediv_cancel' (Int.dvd_mul_of_dvd_left (S0 (λw=>e (cG.mp w)) l8))
def Mo (K:W.Frag)(PT:Addr):Sp:=λvs H Q _=>∃(a:Addr) (ns:List Int),vs=[.ref a]/\AD K H a (ns.map V.int)/\ns.length<=63/\Ej PT LQ LP H/\∀H',Q (.bl true) H'
theorem VX (T:Txt K mg Aj Aa Ac XC)(F:Fun K "law" "law" IM f fd)(AZ:Def P w K mg base 1 "_law_cell_at" ["_law_script","_law_k"] (Cg K))(FS:Def P w K mg base 1 "_law_names" ["_law_row_here","_law_many"] (Fv K))(GG:O3 P w K mg base 1 Ac "Pool" ["self","boards"] (FT K Ac))(Fj:Def P w K mg base 16 "_law_blocks" ["_law_script","_law_pool","_law_names_here"] (E6 K Ac Aa))(G3:Def P w K mg base 2 "_law_head" ["_law_script","_law_names_here","_law_folders"] (FL K))(GU:Def P w K mg base 3 "_law_held" ["_law_blocks_here","_law_head_here"] (FX K))(HH:Def P w K mg base 2 "space_in" ["pool"] (GE K Ac Aa))(Hr:Def P w K mg base 5 "over_in" ["pool","head"] (HS K Ac Aa PT))(BS:Def P w K mg base 1 "_law_row" ["_law_cell","_law_many"] (Eb K))(Fm:O3 P w K mg base 3 Aj "Boards" ["self","many"] (EU K Aj))(Gb:Def P w K mg base 9 "_law_right" ["_law_pool","_law_blocks_here","_law_head_here","_law_held_here","_law_keeper"] (Fk K Ac Aa PT))(A4:Def P w K mg base 1 "_law_whole" ["_law_thing"] (C1 K))(CA:Def P w K mg base 8 "_law_sums" ["_law_blocks_here","_law_held_here","_law_keeper"] (Ds K))(Bv:Def P w K mg base 7 "_law_words" ["_law_thing"] (D4 K)):FnOk P w K mg base Cf 17 f fd ["_law_script"] (Mo K PT):=by
 exists Cy
 ·obtain⟨a,ns,rfl,_⟩:=h;rfl
 obtain⟨a,ns,rfl,hsa,lns,tb,q⟩:=h;have hu:=BI hr;have hu9:=Ct hr;refine⟨_,(!Ag (@Au _ _ (1) _ _ _ _ Cy.nd rfl (by trivial) (!AC AZ (by trivial) rfl (!Ab (pv 0) (!Ab (!Ae) (!Af)))) (by rfl) (by trivial)) (!Ag (@Au _ _ (2) _ _ _ _ Cy.nd rfl (by trivial) (!AC FS (by trivial) rfl (!Ab (!AC BS (by trivial) rfl (!Ab (pv 1) (!Ab (!Ae) (!Af)))) (!Ab (!Ae) (!Af)))) (by rfl) (by trivial)) (!Ag (@Au _ _ (3) _ _ _ _ Cy.nd rfl (by trivial) (!OU GG (by trivial) rfl (!Ab (!OU Fm (by trivial) rfl (!Ab (!Ao AF (!Ae) (!Ao AR (pv 1) (!Ae))) (!Af))) (!Af))) (by rfl) (by trivial)) (!Ag (!OR (!AC Fj (by trivial) rfl (!Ab (pv 0) (!Ab (pv 3) (!Ab (pv 2) (!Af))))) (!Ik rfl (!AJ (@Ap _ _ (4) _ Cy.nd rfl (by trivial) (by trivial)) (!AJ (@Ap _ _ (5) _ Cy.nd rfl (by trivial) (by trivial)) (!C5))))) (!Ag (@Au _ _ (6) _ _ _ _ Cy.nd rfl (by trivial) (!AC G3 (by trivial) rfl (!Ab (pv 0) (!Ab (pv 2) (!Ab (pv 5) (!Af))))) (by rfl) (by trivial)) (!Ag (@Au _ _ (7) _ _ _ _ Cy.nd rfl (by trivial) (!AC GU (by trivial) rfl (!Ab (pv 4) (!Ab (pv 6) (!Af)))) (by rfl) (by trivial)) (!Ag (@RC _ ["_law_keeper","_law_bound"] (8) _ _ _ _ _ _ _ _ _ _ _ _ _ Cy.nd rfl (by trivial) rfl (!Cv (!An Az (pv 6) (!Ae) (λ_ _=>rfl))) (by decide +kernel) (λC s H fp=>⟨(@Ht _ (K) _ _ _ _ (2) (by rfl) rfl (!AJ (@Ap _ _ (0) _ (show(["_law_keeper","_law_bound"]:List Str).Nodup by decide +kernel) rfl (by trivial) (by trivial)) (!AJ (@Ap _ _ (1) _ (show(["_law_keeper","_law_bound"]:List Str).Nodup by decide +kernel) rfl (by trivial) (by trivial)) (!C5))) (by rfl) (by rfl)),(!AO),(pv 0)⟩) (by intro _;rfl) (by rfl) (by trivial)) (!Ag (!BR aW rfl (!BQ (!Ao IX (pv 8) (!Wp (pv 8) (!IV (!Xb Vy (!Ae)))))) (@Ap _ _ (9) _ Cy.nd rfl (by trivial) (by trivial)) (!Al (!BH (!EO (!Da (!AC Gb (by trivial) rfl (!Ab (pv 3) (!Ab (pv 4) (!Ab (pv 6) (!Ab (pv 7) (!Ab (pv 9) (!Af))))))) (by intro _;rfl))) (!Al (!Av (!Hy))) (!AV))) (by intro _;rfl)) (!Ag (@Au _ _ (10) _ _ _ _ Cy.nd rfl (by trivial) (!AC HH (by trivial) rfl (!Ab (pv 3) (!Af))) (by rfl) (by trivial)) (!Ag (!BH (@PW.pt _ _ _ (!GS (!EO (!Da (!AC A4 (by trivial) rfl (!Ab (pv 10) (!Af))) (by intro _;rfl))) (!GK (!AE NJ (pv 10) (!Ax (EN rfl) (by rfl) T.b_sum Il (!Ab (!Kw (@BV _ ["_law_number","_law_blocks_here"] [none,some 4] _ _ _ _ _ _ _ _ _ _ _ rfl (!Iy (pv 4)) (by rfl) rfl (by repeat (first|exact trivial|refine⟨rfl,?_⟩)) (by repeat (first|exact trivial|refine⟨λh=>(by first|exact⟨_,rfl⟩|cases h),?_⟩)) (λC s H fp=>⟨(@Ap _ _ (0) _ (show(["_law_number","_law_blocks_here"]:List Str).Nodup by decide +kernel) rfl (by trivial) (by trivial)),(!AO),(!AC Bv (by trivial) rfl (!Ab (!An (AW (K:=K) (by rfl)) (!Br hu (pv 1) (pv 0) (λ_ _=>rfl)) (!Ae) (λ_ _=>rfl)) (!Af)))⟩) (by intro _;rfl))) (!Af))) (AH _))))) (!Al (!Av (!Hy))) (!AV)) (!Ag (@Eu _ ["_law_keeper","_law_bound","_law_blocks_here","_law_held_here"] [none,none,some 4,some 7] (11) _ _ _ _ _ _ _ _ _ _ _ _ _ _ Cy.nd rfl (by trivial) rfl (!Cv (!An Az (pv 6) (!Ae) (λ_ _=>rfl))) (by rfl) rfl (by repeat (first|exact trivial|refine⟨rfl,?_⟩)) (by repeat (first|exact trivial|refine⟨λh=>(by first|exact⟨_,rfl⟩|cases h),?_⟩)) (λC s H fp=>⟨(@Ht _ (K) _ _ _ _ (2) (by rfl) rfl (!AJ (@Ap _ _ (0) _ (show(["_law_keeper","_law_bound","_law_blocks_here","_law_held_here"]:List Str).Nodup by decide +kernel) rfl (by trivial) (by trivial)) (!AJ (@Ap _ _ (1) _ (show(["_law_keeper","_law_bound","_law_blocks_here","_law_held_here"]:List Str).Nodup by decide +kernel) rfl (by trivial) (by trivial)) (!C5))) (by rfl) (by rfl)),(!Ci (!AE LO (!An (AW (K:=K) (by rfl)) (!AC CA (by trivial) rfl (!Ab (pv 2) (!Ab (pv 3) (!Ab (pv 0) (!Af))))) (!Ae) (λ_ _=>rfl)) (!Ao Bt (!Ae) (pv 1)) (AH _))),(pv 0)⟩) (by intro _;rfl) (by rfl) (by trivial)) (!Ag (@Au _ _ (12) _ _ _ _ Cy.nd rfl (by trivial) (!AC Hr (by trivial) rfl (!Ab (pv 3) (!Ab (pv 6) (!Af)))) (by rfl) (by trivial)) (!Ag (!BH (@PW.pt _ _ _ (!GS (!EO (!Da (!Ax Bz (by rfl) T.b_isinstance A1 (!Ab (pv 12) (!Ab (!HA rfl T.b_list Gm) (!Af)))) (by intro _;rfl))) (!GK (!AE (OQ hu) (pv 12) (pv 11) (AH _))))) (!Al (!Av (!Hy))) (!AV)) (!Ag (!Bl (!C4 aP bu br BD (pv 12) (!Ab (!Jn) (!Af)))) (!Ag (@Au _ _ (13) _ _ _ _ Cy.nd rfl (by trivial) (!Ae) (by rfl) (by trivial)) (!Ag (!Qx aW rfl (pv 4) (@Ap _ _ (14) _ Cy.nd rfl (by trivial) (by trivial)) (!Al (!BH (!AE (OQ hu) (@BV _ ["_law_keeper","_law_number","_law_held_here"] [none,some 14,some 7] _ _ _ _ _ _ _ _ _ _ _ rfl (!BQ (pv 8)) (by rfl) rfl (by repeat (first|exact trivial|refine⟨rfl,?_⟩)) (by repeat (first|exact trivial|refine⟨λh=>(by first|exact⟨_,rfl⟩|cases h),?_⟩)) (λC s H fp=>⟨(@Ap _ _ (0) _ (show(["_law_keeper","_law_number","_law_held_here"]:List Str).Nodup by decide +kernel) rfl (by trivial) (by trivial)),(!Ci (!HY (!My hu (pv 1) (!Br hu (pv 2) (pv 0) (λ_ _=>rfl))) (by first|exact D7 _ (by decide) (by decide)|rfl))),(pv 0)⟩) (by intro _;rfl)) (!Bb (!Af)) (AH _)) (!Al (@Au _ _ (13) _ _ _ _ Cy.nd rfl (by trivial) (!Ao AF (pv 13) (!Ao Bt (!Ae) (!AC Bv (by trivial) rfl (!Ab (!An Az (!Br hu (pv 4) (pv 14) (λ_ _=>rfl)) (!Ae) (λ_ _=>rfl)) (!Af))))) (by rfl) (by trivial))) (!AV))) (by intro _;rfl)) (!Ag (@Au _ _ (15) _ _ _ _ Cy.nd rfl (by trivial) (!Ax (EN rfl) (by rfl) T.b_sum Il (!Ab (@BV _ ["_law_keeper","_law_blocks_here","_law_held_here"] [none,some 4,some 7] _ _ _ _ _ _ _ _ _ _ _ rfl (!BQ (pv 8)) (by rfl) rfl (by repeat (first|exact trivial|refine⟨rfl,?_⟩)) (by repeat (first|exact trivial|refine⟨λh=>(by first|exact⟨_,rfl⟩|cases h),?_⟩)) (λC s H fp=>⟨(@Ap _ _ (0) _ (show(["_law_keeper","_law_blocks_here","_law_held_here"]:List Str).Nodup by decide +kernel) rfl (by trivial) (by trivial)),(!AO),(!An (AW (K:=K) (by rfl)) (!AC CA (by trivial) rfl (!Ab (pv 1) (!Ab (pv 2) (!Ab (pv 0) (!Af))))) (!Ae) (λ_ _=>rfl))⟩) (by intro _;rfl)) (!Af))) (by rfl) (by trivial)) (!Al (!Av (!K1 (!EA (TL hu) (!AC Hr (by trivial) rfl (!Ab (pv 3) (!Ab (pv 6) (!Af)))) (pv 11) (AH _)) (!KS (!EA CV (pv 15) (pv 13) (AH _))))))))))))))))))))))),?_⟩
 try dsimp only[Bh,Cx.nox,Cx.wish]
 refine Aw ⟨_,rfl,a,ns,0,rfl,by decide,hsa,λc0=>?_⟩;dsimp only[Ay];refine Aw ⟨_,rfl,c0,10,rfl,by decide,by decide,λra H1 ms s1 nra hra lms bms=>⟨ra,ms,18,rfl,hra,lms,bms,by decide,by decide,λna H2 zs s2 nna hna lz nmz ndz=>?_⟩⟩;have s12:=s1.trans s2;have lz:zs.length=18:=lz;dsimp only[Ay];refine Aw ⟨_,rfl,_,_,rfl,rfl,(by show(0:Int)<3;decide),_,_,rfl,rfl,?_⟩;obtain⟨m,hm,m2,m4⟩:∃m:Nat,2+c0%3=(m:Int)/\2<=m/\m<=4:=⟨(2+c0%3).toNat,by omega,by omega,by omega⟩
 dsimp only[QI];rw[hm];intro xb dxb nxb ndxb _;refine⟨xb,dxb,m,rfl,m2,m4,Ad,λH3 ds B3 n3 k3=>⟨rfl,?_⟩⟩;have s3:=made nxb ndxb k3;intro x dx nx ndx _;refine⟨x,dx,xb,rfl,Ad,λdt dz dd H4 k4 e1 e2 e3 hdt hdz hdd hx=>⟨rfl,?_⟩⟩;have s4:=made nx ndx k4;have s04:=s12.trans (s3.trans s4);have hna4:=(s3.trans s4).get hna;have pa4:PAt Ac Aa H4 x ⟨dx,xb,dt,dz,dd,1⟩ [] []:=⟨⟨hx,hdt,(λ_ h=>nomatch h),bY⟩,hdd,⟨hdz,bY,bY,(λ_ h=>nomatch h),(λ_ h=>nomatch h)⟩,e1,e2,e3,bY,(λi e h=>by cases h),ar _,dA _,(by show(1:Int)<=0+1;decide)⟩
 have tb4:=tb.same s04;have hsa4:=s04.seq hsa
 clear k3 k4 B3 n3 nxb ndxb nx ndx hdt hdz hdd hx s3 s4
 dsimp only[Ay];refine Aw ⟨_,rfl,_,rfl,_,rfl,a,x,na,ns,zs,_,rfl,hsa4,pa4,AD.of hna4,(λe=>by rw[e] at lz;cases lz),by omega,λz hz=>U8 (nmz z hz),λt d fo cs gs H5 sv ht hfo tg hgs hem lgs=>?_⟩;have kt5:=sv.kt;obtain⟨qP,cl5,bs5,sb5,_⟩:=sv;have lcs:cs.length=cl5.length:=by have:=congrArg List.length sb5.eq;rw[aa,aa] at this;exact this
 have few5:=sb5.few;have pv5:Pv Ac Aa H5 x d cs:=⟨qP,cl5,bs5,sb5.pa,sb5.nl,⟨sb5.at_,sb5.ce,sb5.nd,by omega⟩,sb5.eq,by omega⟩
 have tb5:=Ej.kt tb4 kt5;have nfd:∀o u,H d≠some (.frz o u):=λo u e=>by
  have:=kt5 _ _ (s04.get e) (λ_ _ _ z=>by cases z) λ_ z=>by cases z
  rw[sb5.at_] at this;cases this
 obtain⟨pe,hpe,epe⟩:=hem;have cne:cs≠[]:=λe=>by
  obtain⟨c,hc,_⟩:=Cd epe;rw[e] at hc;cases hc
 dsimp only[Ay];refine⟨t,_,rfl,AL.of ht,rfl,_,_,rfl,_,_,rfl,rfl,?_⟩;refine Aw ⟨_,rfl,_,rfl,_,rfl,a,na,fo,ns,zs,gs,rfl,kt5.seq hsa4,kt5.seq (AD.of hna4),lz,ndz,⟨hfo,tg⟩,(λe=>by rw[e] at hpe;cases hpe),by omega,λh ag ka ea ks ps H6 s6 hh hka hks ndk lks hea hps ndp lps nsl kbd=>?_⟩;have hd6:Hd H6 h ag ka ea ks ps:=⟨hh,hka,hks,ndk,lks,hea,λp hp=>(hps p hp).1,λp hp=>(hps p hp).2.1,ndp,lps⟩
 have okp:∀y∈ps,Yj (bm cs) (·∈zs) y.2.tg.1:=λy hy=>by
  obtain⟨_,_,_,g,hg,e⟩:=hps y hy;rw[e];exact .inr (hgs g hg)
 dsimp only[Ay];have pv6:=pv5.kb (KB.of s6);have tb6:=tb5.same s6;have wd6:Wd Ac Aa PT H6 x d h cs ag ka ea ks ps:=⟨pv6,hd6,nsl,tb6,⟨_,Qu (bm cs) (·∈zs),okp⟩,λk hk=>by
  obtain⟨b0,b1⟩:=kbd k hk;exact aN (show k.2.2.natAbs<2^31 by omega) (bQ (by decide) (by decide))⟩
 obtain⟨_,_,_,_,_,bx6,_,few6⟩:=id pv6;refine Aw ⟨_,rfl,_,rfl,d,h,cs,ag,ka,ea,ks,ps,_,rfl,bx6,hd6,Qu (bm cs) (·∈zs),okp,λdk hs H7 s7 ndk hl7 en=>?_⟩;have S7:=ST.of tb6 s7;have al7:Al5 Ac Aa PT H7 x d h dk cs ag ka ea ks ps hs:=by
  refine⟨wd6.on S7,hl7,en,(λe=>by rw[<-e,bx6.at_] at ndk;cases ndk),λr hr=>⟨λe=>?_,λe=>?_⟩⟩
  ·have h1:=hl7.ea r hr;rw[e,s7.get bx6.at_] at h1;have e:=HO.dK.inj (aA h1);obtain⟨c0,hc0⟩:=List.exists_mem_of_ne_nil _ cne;have m:((.inl c0.tg.1,.ref c0.p):Key×V)∈AK (CU cs ps r.1):=by rw[<-e];exact aH (f:=λc:Cz=>((.inl c.tg.1,.ref c.p):Key×V)) hc0
   obtain⟨z,_,e⟩:=af.mp m;cases e
  ·have h1:=hl7.ea r hr;rw[e,hl7.at_] at h1;have e:=HO.dK.inj (aA h1);have m:((.inr r.1,.ref r.2):Key×V)∈AK (CU cs ps r.1):=by rw[<-e];exact aH (f:=λc:Str×Addr=>((.inr c.1,.ref c.2):Key×V)) hr
   obtain⟨z,_,e⟩:=af.mp m;cases e
 clear hps hd6 wd6 tb6 bx6 pv5 pv6 tb5
 dsimp only[Ay];have kl:=al7.w.hd.kl;refine Aw ⟨_,rfl,h,_,_,_,rfl,rfl,AL.of al7.w.hd.at_,Ar (j:=1) rfl,ka,rfl,⟨_,AL.of al7.w.hd.kt⟩,QH (K:=K) (ps:=ks) (g:=λk=>k.1) (A:=λk=>.str k.2.1) (B:=λk=>.int k.2.2) (f:=λk=>.str k.2.1) (Cb al7.w.hd.kt) al7.w.hd.ke (by omega) rfl (by decide) (λk hk H' R s' hR=>⟨_,rfl,hR H' (Am.refl _)⟩) λlk H8 nlk s8 hlk=>?_⟩;have S8:=ST.of al7.w.tb s8;have al8:=al7.on S8;have inh:∀k∈ks,∃a,(k.2.1,a)∈hs:=λk hk=>by
  have:k.2.1∈hs.map (·.1):=by rw[en];exact aH (f:=λk:Addr×Str×Int=>k.2.1) hk
  obtain⟨r,hr,e⟩:=af.mp this;exact⟨r.2,by rw[<-e];exact hr⟩
 clear al7 hl7 s7 S7
 dsimp only[Ay];refine Bf (t:=J7 _ _ _) (λσ' H'=>∃v9,σ'=[some (.ref a),some (.int c0),some (.ref na),some (.ref x),some (.ref d),some (.ref fo),some (.ref h),some (.ref dk),some (.ref lk),v9,none,none,none,none,none,none]/\ST PT H8 H') (λN hN=>?_) ?_
 ·have lk8:(ks.map λk=>V.str k.2.1).length<=8:=by rw[aa];exact kl
  refine⟨_,rfl,_,rfl,1,rfl,-1,rfl,rfl,lk,_,rfl,AD.of hlk,λp1 np1=>?_⟩;have s9:=Ak np1 (.lst (ks.map λk=>V.str k.2.1).reverse);refine⟨lk,p1,_,_,rfl,rfl,AD.of (s9.get hlk),AD.of Ad,small (by rw[eT];omega),λp2 np2=>?_⟩;generalize upd H8 p1 (.lst (ks.map λk=>V.str k.2.1).reverse)=H9 at s9 np2;have s10:=Ak np2 (.lst ((ks.map λk=>V.str k.2.1)++(ks.map λk=>V.str k.2.1).reverse));have h10:(upd H9 p2 (.lst ((ks.map λk=>V.str k.2.1)++(ks.map λk=>V.str k.2.1).reverse))) p2=some (.lst ((ks.map λk=>V.str k.2.1)++(ks.map λk=>V.str k.2.1).reverse)):=Ad;generalize upd H9 p2 (.lst ((ks.map λk=>V.str k.2.1)++(ks.map λk=>V.str k.2.1).reverse))=H10 at s10 h10;have S10:=ST.of al8.w.tb (s9.trans s10);refine⟨p2,rfl,⟨_,AD.of h10⟩,E4 (K:=K) (a:=p2) (xs:=(ks.map λk=>V.str k.2.1)++(ks.map λk=>V.str k.2.1).reverse) (λi σ H'=>∃v9,σ=[some (.ref a),some (.int c0),some (.ref na),some (.ref x),some (.ref d),some (.ref fo),some (.ref h),some (.ref dk),some (.ref lk),v9,none,none,none,none,none,none]/\ST PT H10 H') ⟨_,rfl,ST.of S10.t' (Am.refl _)⟩ (λi σ H' _ ⟨_,_,s'⟩=>AD.of (s'.kb.lst h10)) ?_ ?_⟩
  ·rintro i v σ H11 hi ⟨v9,rfl,S11⟩
   have vm:v∈ks.map λk=>V.str k.2.1:=by
    rcases av.mp (aC hi) with h|h
    ·exact h
    ·exact List.mem_reverse.mp h
   obtain⟨k,hk,rfl⟩:=af.mp vm;obtain⟨ak,hka⟩:=inh k hk;dsimp only[Ay];exact⟨_,rfl,_,rfl,_,rfl,_,rfl,_,rfl,x,d,h,dk,(k.2.1,ak),cs,ag,ka,ea,ks,ps,hs,rfl,al8.on (S10.trans S11),hka,λH12 S12=>⟨_,rfl,Bi rfl ⟨_,rfl,S11.trans S12⟩⟩⟩
  ·rintro σ H11 ⟨v9,rfl,S11⟩
   exact hN _ _ ⟨_,rfl,S10.trans S11⟩
 rintro σ' H9 ⟨v9,rfl,S9⟩
 have al9:=al8.on S9;have hlk9:=S9.kb.lst hlk;refine Aw ⟨_,rfl,Cj ⟨x,d,cs,rfl,al9.w.pv,λH10 s10=>?_⟩⟩;have S10:=S9.on s10;have al10:=al8.on S10;obtain⟨_,_,_,_,_,bx10,_,_⟩:=id al10.w.pv;dsimp only[Ay];refine Bf (t:=Uo _ _ _) (λσ' H'=>σ'=[some (.ref a),some (.int c0),some (.ref na),some (.ref x),some (.ref d),some (.ref fo),some (.ref h),some (.ref dk),some (.ref lk),v9,some (.int ((cs.map (·.tg.1)).map (DY cs)).sum),none,none,none,none,none]/\ST PT H8 H') (λN hN=>?_) ?_
 ·refine⟨_,rfl,_,rfl,_,rfl,Bi rfl ?_⟩;refine⟨_,rfl,_,rfl,d,_,rfl,bx10.at_,λo=>?_⟩;have hf:(upd H10 d (.frz o (.dK (G8 cs)))) d=some (.frz o (.dK (G8 cs))):=Ad;have kt:KT H10 (upd H10 d (.frz o (.dK (G8 cs)))):=λb xs e=>by rw[Ah λw=>by rw[w,bx10.at_] at e;cases e];exact e
  have th:∀H2,Am (upd H10 d (.frz o (.dK (G8 cs)))) H2->Am H10 (upd H2 d (.dK (G8 cs))):=λH2 s2=>EE bx10.at_ s2
  generalize upd H10 d (.frz o (.dK (G8 cs)))=Hf at hf kt th;have it:=Hv hf;unfold G8 at it;rw[aq] at it;refine EF (ps:=cs) (λ_=>true) (λc=>V.int (DY cs c.tg.1)) it (by omega) (λc hc H' R s' hR=>hR H' (Am.refl _)) (λc hc _ H' R s' hR=>?_) λl H2 nl s2 hl=>?_
  ·obtain⟨w1,w2⟩:=al10.w.pv.wrd hc;have kt':KT H10 H':=λb xs e=>s'.get (kt b xs e)
   obtain⟨c1,_,c3⟩:=(bx10.ce c hc).keep kt';have gd:=BA.kf (k:=.inl c.tg.1) (s'.get hf);rw[WL bx10.nd hc] at gd;refine⟨_,rfl,_,rfl,d,_,rfl,gd,c.p,_,_,_,rfl,rfl,AL.of c1,Ar (j:=1) rfl,Cj ⟨c.v,DB c.bk,rfl,c3,w1,λH4 s4=>?_⟩⟩;rw[w2];exact hR H4 s4
  ·rw[ck.mpr λ_ _=>rfl] at hl;have nld:l≠d:=λw=>by rw[w,hf] at nl;cases nl
   refine⟨d,o,_,nfd,s2.get hf,Cj ⟨l,(cs.map (·.tg.1)).map (DY cs),rfl,AD.of (by rw[Ah nld,hl,aq,aq];rfl),rfl,_,rfl,Bi (by rw[aE rfl];rfl) (hN _ _ ⟨rfl,S10.on (th H2 s2)⟩)⟩⟩
 rintro σ' H11 ⟨rfl,S11⟩
 have al11:=al8.on S11;have hlk11:=S11.kb.lst hlk;have hd11:=al11.w.hd;refine Aw ⟨_,rfl,h,_,_,_,rfl,rfl,AL.of hd11.at_,Ar (j:=1) rfl,ka,rfl,⟨_,AL.of hd11.kt⟩,KD (K:=K) (ps:=ks) (g:=λk=>k.1) (A:=λk=>.str k.2.1) (B:=λk=>.int k.2.2) (Rj cs (D8 cs ks ps)) (λk=>.str k.2.1) rfl (Cb hd11.kt) hd11.ke (by omega) (λk hk H' R s' hR=>?_) (λk hk H' R s' hR=>⟨_,rfl,hR⟩) λld H12 nld s12 hd12=>?_⟩
 ·obtain⟨ak,hka⟩:=inh k hk;have al':=al11.on (ST.of al11.w.tb s');have nm:=(al'.num hka).1;refine⟨_,rfl,_,rfl,_,rfl,Cj (al'.sums (K:=K) hka λr H2 s2 nr hr=>?_)⟩;refine⟨r,_,_,_,rfl,rfl,AL.of hr,Ar (j:=0) rfl,_,rfl,_,_,rfl,rfl,.inl ⟨by decide,by decide⟩,_,_,rfl,rfl,_,rfl,?_⟩;have e:decide (840*k.2.2<FC cs ps hs (CU cs ps k.2.1))=Rj cs (D8 cs ks ps) k:=by
   unfold Rj;rw[nm.top]
  rw[e];exact hR _ s2
 have S12:=S11.on s12;have al12:=al8.on S12;dsimp only[Ay];refine Aw ⟨_,rfl,_,rfl,x,d,h,cs,ag,ka,ea,ks,ps,rfl,al12.w,λlf H13 S13 nlf hf13=>?_⟩;dsimp only[Ay];have hd13:=S13.kb.lst hd12;have pu:((ks.filter (Rj cs (D8 cs ks ps))).map λk=>V.str k.2.1).all DF=true:=bf.mpr λv hv=>by obtain⟨z,_,rfl⟩:=af.mp hv;rfl
 have ldv:((ks.filter (Rj cs (D8 cs ks ps))).map λk=>V.str k.2.1).length<=8:=by
  rw[aa];exact bA (bq _ _) kl
 refine Bf (t:=Uo _ _ _) (λσ' H'=>σ'=[some (.ref a),some (.int c0),some (.ref na),some (.ref x),some (.ref d),some (.ref fo),some (.ref h),some (.ref dk),some (.ref lk),v9,some (.int ((cs.map (·.tg.1)).map (DY cs)).sum),some (.ref ld),some (.ref lf),none,none,none]/\H13=H') (λN hN=>?_) ?_
 ·refine⟨_,rfl,_,_,_,_,rfl,.lst hf13,rfl,_,rfl,Bi rfl ?_⟩;exact⟨_,rfl,_,rfl,lf,ld,_,_,rfl,rfl,AD.of hf13,AD.of hd13,pu,pu,_,rfl,Bi (by rw[aG rfl,aE rfl];rfl) (hN _ _ ⟨rfl,rfl⟩)⟩
 rintro σ' _ ⟨rfl,rfl⟩
 have ndl:ld≠lf:=λw=>by rw[<-w,hd12] at nlf;cases nlf
 refine⟨_,rfl,.inl ⟨rfl,_,AD.of hf13⟩,lf,_,_,rfl,rfl,hf13,AU (by omega),?_⟩;have S14:=S12.trans (S13.new nlf (o:=.lst (((ks.filter (Rj cs (D8 cs ks ps))).map λk=>V.str k.2.1)++[.str (PySem.Str.ofString "more")])) hf13 (λ_ z=>by cases z) λ_ z=>by cases z);have hd14:(upd H13 lf (.lst (((ks.filter (Rj cs (D8 cs ks ps))).map λk=>V.str k.2.1)++[.str (PySem.Str.ofString "more")]))) ld=some (.lst ((ks.filter (Rj cs (D8 cs ks ps))).map λk=>V.str k.2.1)):=by rw[Ah ndl];exact hd13
 dsimp only;generalize upd H13 lf (.lst (((ks.filter (Rj cs (D8 cs ks ps))).map λk=>V.str k.2.1)++[.str (PySem.Str.ofString "more")]))=H14 at S14 hd14;have al14:=al8.on S14;have hlk14:=S14.kb.lst hlk;refine Aw ?_;dsimp only[tC,Ay];obtain⟨_,_,_,_,_,bx14,_,_⟩:=id al14.w.pv;refine Bf (t:=Tq _ _ _ _) (λσ' H'=>∃v14,σ'=[some (.ref a),some (.int c0),some (.ref na),some (.ref x),some (.ref d),some (.ref fo),some (.ref h),some (.ref dk),some (.ref lk),v9,some (.int ((cs.map (·.tg.1)).map (DY cs)).sum),some (.ref ld),some (.ref lf),some (.int (Wi cs ks ps (cs.map (·.tg.1)))),v14,none]/\Am H14 H') (λN hN=>?_) ?_
 ·refine⟨_,rfl,d,_,rfl,bx14.at_,λo=>?_⟩;have hf:(upd H14 d (.frz o (.dK (G8 cs)))) d=some (.frz o (.dK (G8 cs))):=Ad;have oth:∀b ob,b≠d->H14 b=some ob->(upd H14 d (.frz o (.dK (G8 cs)))) b=some ob:=λb ob n e=>by rw[Ah n];exact e
  have th:∀H2,Am (upd H14 d (.frz o (.dK (G8 cs)))) H2->Am H14 (upd H2 d (.dK (G8 cs))):=λH2 s2=>EE bx14.at_ s2
  generalize upd H14 d (.frz o (.dK (G8 cs)))=Hf at hf oth th;refine LU (d:=d) (o:=o) (kvs:=G8 cs) nfd (λi σ H'=>∃v14,σ=[some (.ref a),some (.int c0),some (.ref na),some (.ref x),some (.ref d),some (.ref fo),some (.ref h),some (.ref dk),some (.ref lk),v9,some (.int ((cs.map (·.tg.1)).map (DY cs)).sum),some (.ref ld),some (.ref lf),some (.int (Wi cs ks ps ((cs.map (·.tg.1)).take i))),v14,none]/\Am Hf H') ⟨none,rfl,Am.refl _⟩ (λi σ H' _ ⟨_,_,s'⟩=>s'.get hf) ?_ ?_
  ·rintro i key vv σ H1 hi ⟨v14,rfl,s1⟩
   unfold G8 at hi;rw[az] at hi;obtain⟨c,hc,e⟩:=bN.mp hi;cases e;have hcm:=aC hc;dsimp only[Ay,kV];have hlk1:=s1.get (oth lk _ (λw=>by rw[w,bx14.at_] at hlk14;cases hlk14) hlk14);have tk:Wi cs ks ps ((cs.map (·.tg.1)).take (i+1))=Wi cs ks ps ((cs.map (·.tg.1)).take i)+(if D8 cs ks ps c.tg.1=[] then 0 else 840*DY cs c.tg.1):=by
    unfold Wi;rw[aS,az,hc,aj,List.sum_append];show _+((if D8 cs ks ps c.tg.1=[] then 0 else 840*DY cs c.tg.1)+0)=_;rw[fm]
   refine⟨_,rfl,lk,rfl,⟨_,AD.of hlk1⟩,CH (ps:=ks) (g:=λk=>V.str k.2.1) (λk=>decide (c.tg.1∈CU cs ps k.2.1)) (λk=>V.str k.2.1) (Co (AD.of hlk1)) (by omega) (λk hk H' R s' hR=>?_) (λk hk _ H' R s' hR=>⟨_,rfl,hR H' (Am.refl _)⟩) λl9 H9 nl9 s9 hl9=>?_⟩
   ·obtain⟨ak,hka⟩:=inh k hk;have g1:=BA.k (k:=.inr k.2.1) (s'.get (s1.get (oth dk _ (Ne.symm al14.n1) al14.l.at_)));rw[show Bo (hs.map λr=>((.inr r.1:Key),V.ref r.2)) (.inr k.2.1)=some (.ref ak) from Em (k:=λr:Str×Addr=>.inr r.1) (g:=λr=>.ref r.2) (bh.mpr ((bh.mp al14.l.nd).imp λh e=>h (eN e))) (k.2.1,ak) hka] at g1;have g2:=BA.k (k:=.inl c.tg.1) (s'.get (s1.get (oth _ _ (al14.n2 _ hka).1 (al14.l.ea _ hka))));refine⟨_,rfl,_,rfl,_,rfl,dk,_,rfl,g1,ak,_,rfl,g2,_,rfl,?_⟩;rw[Je];exact hR
   have hl9:H9 l9=some (.lst ((D8 cs ks ps c.tg.1).map V.str)):=by rw[hl9,D8,aq];rfl
   have pu9:((D8 cs ks ps c.tg.1).map V.str).all DF=true:=bf.mpr λv hv=>by obtain⟨z,_,rfl⟩:=af.mp hv;rfl
   refine⟨small (by decide),λl0 nl0=>?_⟩;have s0:=Ak nl0 (.lst []);have h0:(upd H9 l0 (.lst [])) l0=some (.lst []):=Ad;generalize upd H9 l0 (.lst [])=H10 at s0 h0;refine⟨l9,l0,_,_,rfl,rfl,AD.of (s0.get hl9),AD.of h0,pu9,rfl,_,rfl,Et (λe=>?_) (λe=>?_)⟩
   ·have kne:D8 cs ks ps c.tg.1≠[]:=λw=>by rw[w] at e;cases e
    rw[aJ kne] at tk;obtain⟨w1,w2⟩:=al14.w.pv.wrd hcm;have kt10:KT H14 H10:=λb xs e=>(s1.trans (s9.trans s0)).get (oth b _ (λw=>by rw[w,bx14.at_] at e;cases e) e)
    obtain⟨c1,_,c3⟩:=(bx14.ce c hcm).keep kt10;have gd:=BA.kf (k:=.inl c.tg.1) ((s1.trans (s9.trans s0)).get hf);rw[WL bx14.nd hcm] at gd;refine⟨_,rfl,_,rfl,_,rfl,d,_,rfl,gd,c.p,_,_,_,rfl,rfl,AL.of c1,Ar (j:=1) rfl,Cj ⟨c.v,DB c.bk,rfl,c3,w1,λH4 s4=>?_⟩⟩;rw[w2];refine⟨_,_,rfl,rfl,.inl ⟨by decide,by decide⟩,_,_,rfl,rfl,?_⟩;dsimp only[Ay];refine⟨some (.int c.tg.1),?_,s1.trans (s9.trans (s0.trans s4))⟩;rw[tk];rfl
   ·have kne:D8 cs ks ps c.tg.1=[]:=by
     cases w:D8 cs ks ps c.tg.1 with
     |nil=>rfl
     |cons y l=>rw[w] at e;exact absurd rfl e
    rw[aG kne,fm] at tk;dsimp only[N9];refine⟨some (.int c.tg.1),?_,s1.trans (s9.trans s0)⟩;rw[tk];rfl
  ·rintro σ H1 ⟨v14,rfl,s1⟩
   refine hN _ _ ⟨v14,?_,th _ s1⟩;rw[show(G8 cs).length=(cs.map (·.tg.1)).length by unfold G8;rw[aa,aa],bS]
 rintro σ' H15 ⟨v14,rfl,s15⟩
 have S15:=S14.on s15;have al15:=al8.on S15;have hlk15:=s15.get hlk14;have hd15:=s15.get hd14;refine Aw ⟨_,rfl,lk,rfl,⟨_,AD.of hlk15⟩,EF (ps:=ks) (g:=λk=>V.str k.2.1) (λ_=>true) (λk=>V.int (FC cs ps hs (CU cs ps k.2.1))) (Co (AD.of hlk15)) (by omega) (λk hk H' R s' hR=>hR H' (Am.refl _)) (λk hk _ H' R s' hR=>?_) λl16 H16 nl16 s16 hl16=>?_⟩
 ·obtain⟨ak,hka⟩:=inh k hk;have al':=al15.on (ST.of al15.w.tb s');exact⟨_,rfl,_,rfl,_,rfl,Cj (al'.sums (K:=K) hka λr H2 s2 nr hr=>⟨r,_,_,_,rfl,rfl,AL.of hr,Ar (j:=0) rfl,hR _ s2⟩)⟩
 rw[ck.mpr λ_ _=>rfl] at hl16;refine Cj ⟨l16,ks.map λk=>FC cs ps hs (CU cs ps k.2.1),rfl,AD.of (by rw[hl16,aq];rfl),?_⟩;rw[R8 kl λk hk=>by obtain⟨ak,hka⟩:=inh k hk;exact(al15.num hka).1];dsimp only[Ay];have S16:=S15.on s16;have al16:=al8.on S16;have hd16:=s16.get hd15;refine⟨_,rfl,_,rfl,x,d,h,cs,ag,ka,ea,ks,ps,rfl,al16.w,λl17 H17 S17 nl17 hl17=>?_⟩;refine⟨_,rfl,l17,ld,_,_,rfl,rfl,AD.of hl17,AD.of (S17.kb.lst hd16),pu,pu,_,rfl,?_⟩;rw[aG (by rw[aJ (by decide)];exact aE rfl)];refine⟨_,rfl,_,rfl,rfl,?_⟩;show Q (.bl (decide _)) _;rw[aE rfl];exact q _
end
theorem Yu {us:List Value}(h:us.length=0):us=[]:=by
 cases us with
 |nil=>rfl
 |cons _ _=>cases h
theorem Ni {us:List Value}(h:us.length=1):∃x0,us=[x0]:=by
 cases us with
 |nil=>cases h
 |cons a us=>
  cases Yu (dJ h);exact⟨_,rfl⟩
theorem ln2 {us:List Value}(h:us.length=2):∃x0 x1,us=[x0,x1]:=by
 cases us with
 |nil=>cases h
 |cons a us=>
  obtain⟨_,rfl⟩:=Ni (dJ h);exact⟨_,_,rfl⟩
theorem PJ {us:List Value}(h:us.length=3):∃x0 x1 x2,us=[x0,x1,x2]:=by
 cases us with
 |nil=>cases h
 |cons a us=>
  obtain⟨_,_,rfl⟩:=ln2 (dJ h);exact⟨_,_,_,rfl⟩
theorem Yp {us:List Value}(h:us.length=4):∃x0 x1 x2 x3,us=[x0,x1,x2,x3]:=by
 cases us with
 |nil=>cases h
 |cons a us=>
  obtain⟨_,_,_,rfl⟩:=PJ (dJ h);exact⟨_,_,_,_,rfl⟩
theorem Yq {us:List Value}(h:us.length=5):∃x0 x1 x2 x3 x4,us=[x0,x1,x2,x3,x4]:=by
 cases us with
 |nil=>cases h
 |cons a us=>
  obtain⟨_,_,_,_,rfl⟩:=Yp (dJ h);exact⟨_,_,_,_,_,rfl⟩
theorem all_mk {l:W.OpenLaw} {w:World} {K:W.Frag} {h:Heap} {mg:Str->Option Value} {fa:Addr} (X:K.In h) (G:h.Ns mainGlobals mg) (hfa:mg "law"=some (.ref fa))
  {PT:Addr}
  {f0:Addr} {od0 an0:Option Addr} {sl0:Array (Option Value)} {oc0 kV0 dc0 pm0 cd0 ct0:Value}
  {f1:Addr} {od1 an1:Option Addr} {sl1:Array (Option Value)} {oc1 kV1 dc1 pm1 cd1 ct1:Value}
  {f2:Addr} {od2 an2:Option Addr} {sl2:Array (Option Value)} {oc2 kV2 dc2 pm2 cd2 ct2:Value}
  {f3:Addr} {od3 an3:Option Addr} {sl3:Array (Option Value)} {oc3 kV3 dc3 pm3 cd3 ct3:Value}
  {f4:Addr} {od4 an4:Option Addr} {sl4:Array (Option Value)} {oc4 kV4 dc4 pm4 cd4 ct4:Value}
  {f5:Addr} {od5 an5:Option Addr} {sl5:Array (Option Value)} {oc5 kV5 dc5 pm5 cd5 ct5:Value}
  {f6:Addr} {od6 an6:Option Addr} {sl6:Array (Option Value)} {oc6 kV6 dc6 pm6 cd6 ct6:Value}
  {f7:Addr} {od7 an7:Option Addr} {sl7:Array (Option Value)} {oc7 kV7 dc7 pm7 cd7 ct7:Value}
  {f8:Addr} {od8 an8:Option Addr} {sl8:Array (Option Value)} {oc8 kV8 dc8 pm8 cd8 ct8:Value}
  {f9:Addr} {od9 an9:Option Addr} {sl9:Array (Option Value)} {oc9 kV9 dc9 pm9 cd9 ct9:Value}
  {f10:Addr} {od10 an10:Option Addr} {sl10:Array (Option Value)} {oc10 kV10 dc10 pm10 cd10 ct10:Value}
  {f11:Addr} {od11 an11:Option Addr} {sl11:Array (Option Value)} {oc11 kV11 dc11 pm11 cd11 ct11:Value}
  {f12:Addr} {od12 an12:Option Addr} {sl12:Array (Option Value)} {oc12 kV12 dc12 pm12 cd12 ct12:Value}
  {f13:Addr} {od13 an13:Option Addr} {sl13:Array (Option Value)} {oc13 kV13 dc13 pm13 cd13 ct13:Value}
  {f14:Addr} {od14 an14:Option Addr} {sl14:Array (Option Value)} {oc14 kV14 dc14 pm14 cd14 ct14:Value}
  {f15:Addr} {od15 an15:Option Addr} {sl15:Array (Option Value)} {oc15 kV15 dc15 pm15 ct15:Value}
  {cc15:Addr}
  {f16:Addr} {od16 an16:Option Addr} {sl16:Array (Option Value)} {oc16 kV16 dc16 pm16 cd16 ct16:Value}
  {f17:Addr} {od17 an17:Option Addr} {sl17:Array (Option Value)} {oc17 kV17 dc17 pm17 cd17 ct17:Value}
  {f18:Addr} {od18 an18:Option Addr} {sl18:Array (Option Value)} {oc18 kV18 dc18 pm18 cd18 ct18:Value}
  {f19:Addr} {od19 an19:Option Addr} {sl19:Array (Option Value)} {oc19 kV19 dc19 pm19 cd19 ct19:Value}
  {f20:Addr} {od20 an20:Option Addr} {sl20:Array (Option Value)} {oc20 kV20 dc20 pm20 cd20 ct20:Value}
  {f21:Addr} {od21 an21:Option Addr} {sl21:Array (Option Value)} {oc21 kV21 dc21 pm21 cd21 ct21:Value}
  {f22:Addr} {od22 an22:Option Addr} {sl22:Array (Option Value)} {oc22 kV22 dc22 pm22 cd22 ct22:Value}
  {f23:Addr} {od23 an23:Option Addr} {sl23:Array (Option Value)} {oc23 kV23 dc23 pm23 cd23 ct23:Value}
  {f24:Addr} {od24 an24:Option Addr} {sl24:Array (Option Value)} {oc24 kV24 dc24 pm24 cd24 ct24:Value}
  {f25:Addr} {od25 an25:Option Addr} {sl25:Array (Option Value)} {oc25 kV25 dc25 pm25 cd25 ct25:Value}
  {f26:Addr} {od26 an26:Option Addr} {sl26:Array (Option Value)} {oc26 kV26 dc26 pm26 cd26 ct26:Value}
  {f27:Addr} {od27 an27:Option Addr} {sl27:Array (Option Value)} {oc27 kV27 dc27 pm27 cd27 ct27:Value}
  {f28:Addr} {od28 an28:Option Addr} {sl28:Array (Option Value)} {oc28 kV28 dc28 pm28 cd28 ct28:Value}
  {f29:Addr} {od29 an29:Option Addr} {sl29:Array (Option Value)} {oc29 kV29 dc29 pm29 cd29 ct29:Value}
  {f30:Addr} {od30 an30:Option Addr} {sl30:Array (Option Value)} {oc30 kV30 dc30 pm30 cd30 ct30:Value}
  {f31:Addr} {od31 an31:Option Addr} {sl31:Array (Option Value)} {oc31 kV31 dc31 pm31 cd31 ct31:Value}
  {f32:Addr} {od32 an32:Option Addr} {sl32:Array (Option Value)} {oc32 kV32 dc32 pm32 cd32 ct32:Value}
  {f33:Addr} {od33 an33:Option Addr} {sl33:Array (Option Value)} {oc33 kV33 dc33 pm33 cd33 ct33:Value}
  {f34:Addr} {od34 an34:Option Addr} {sl34:Array (Option Value)} {oc34 kV34 dc34 pm34 cd34 ct34:Value}
  {f35:Addr} {od35 an35:Option Addr} {sl35:Array (Option Value)} {oc35 kV35 dc35 pm35 cd35 ct35:Value}
  {f36:Addr} {od36 an36:Option Addr} {sl36:Array (Option Value)} {oc36 kV36 dc36 pm36 cd36 ct36:Value}
  {f37:Addr} {od37 an37:Option Addr} {sl37:Array (Option Value)} {oc37 kV37 dc37 pm37 cd37 ct37:Value}
  {f38:Addr} {od38 an38:Option Addr} {sl38:Array (Option Value)} {oc38 kV38 dc38 pm38 cd38 ct38:Value}
  {f39:Addr} {od39 an39:Option Addr} {sl39:Array (Option Value)} {oc39 kV39 dc39 pm39 cd39 ct39:Value}
  {f40:Addr} {od40 an40:Option Addr} {sl40:Array (Option Value)} {oc40 kV40 dc40 pm40 cd40 ct40:Value}
  {f41:Addr} {od41 an41:Option Addr} {sl41:Array (Option Value)} {oc41 kV41 dc41 pm41 cd41 ct41:Value}
  {f42:Addr} {od42 an42:Option Addr} {sl42:Array (Option Value)} {oc42 kV42 dc42 pm42 cd42 ct42:Value}
  {f43:Addr} {od43 an43:Option Addr} {sl43:Array (Option Value)} {oc43 kV43 dc43 pm43 cd43 ct43:Value}
  {f44:Addr} {od44 an44:Option Addr} {sl44:Array (Option Value)} {oc44 kV44 dc44 pm44 cd44 ct44:Value}
  {f45:Addr} {od45 an45:Option Addr} {sl45:Array (Option Value)} {oc45 kV45 dc45 pm45 cd45 ct45:Value}
  {f46:Addr} {od46 an46:Option Addr} {sl46:Array (Option Value)} {oc46 kV46 dc46 pm46 cd46 ct46:Value}
  {f47:Addr} {od47 an47:Option Addr} {sl47:Array (Option Value)} {oc47 kV47 dc47 pm47 cd47 ct47:Value}
  {f48:Addr} {od48 an48:Option Addr} {sl48:Array (Option Value)} {oc48 kV48 dc48 pm48 cd48 ct48:Value}
  {f49:Addr} {od49 an49:Option Addr} {sl49:Array (Option Value)} {oc49 kV49 dc49 pm49 cd49 ct49:Value}
  {f50:Addr} {od50 an50:Option Addr} {sl50:Array (Option Value)} {oc50 kV50 dc50 pm50 cd50 ct50:Value}
  {f51:Addr} {od51 an51:Option Addr} {sl51:Array (Option Value)} {oc51 kV51 dc51 pm51 cd51 ct51:Value}
  {f52:Addr} {od52 an52:Option Addr} {sl52:Array (Option Value)} {oc52 kV52 dc52 pm52 cd52 ct52:Value}
  {f53:Addr} {od53 an53:Option Addr} {sl53:Array (Option Value)} {oc53 kV53 dc53 pm53 cd53 ct53:Value}
  {f54:Addr} {od54 an54:Option Addr} {sl54:Array (Option Value)} {oc54 kV54 dc54 pm54 cd54 ct54:Value}
  {f55:Addr} {od55 an55:Option Addr} {sl55:Array (Option Value)} {oc55 kV55 dc55 pm55 cd55 ct55:Value}
  {f56:Addr} {od56 an56:Option Addr} {sl56:Array (Option Value)} {oc56 kV56 dc56 pm56 cd56 ct56:Value}
  {f57:Addr} {od57 an57:Option Addr} {sl57:Array (Option Value)} {oc57 kV57 dc57 pm57 cd57 ct57:Value}
  {f58:Addr} {od58 an58:Option Addr} {sl58:Array (Option Value)} {oc58 kV58 dc58 pm58 cd58 ct58:Value}
  {f59:Addr} {od59 an59:Option Addr} {sl59:Array (Option Value)} {oc59 kV59 dc59 pm59 cd59 ct59:Value}
  {f60:Addr} {od60 an60:Option Addr} {sl60:Array (Option Value)} {oc60 kV60 dc60 pm60 cd60 ct60:Value}
  {Aj:Addr}
  {Aa:Addr}
  {Ac:Addr}
  {Tu:Addr}
  {t_SIGNS:Tok}
  {t_NUMBER_WORD:Tok}
  {t_TEXT_WORD:Tok}
  {t_TUPLE_WORD:Tok}
  {t_PIECE:Tok}
  {t_ROW:Tok}
  {t_FOLDER:Tok}
  {t_FOLDER_ENTRY:Tok}
  {t_NAME_SIGNS:Tok}
  {t_MOST_NAME_SIGNS:Tok}
  {t_SUM_RESTS:Tok}
  {t_STEM:Tok}
  {t_SEAL:Tok}
  {t_LEAST_BOARDS:Tok}
  {t_MOST_BOARDS:Tok}
  (a0:W.nsIn K mainGlobals "fraction"=some (some (.ref f0))) (l0:K.lookup f0=some ⟨oc0,od0,.func (W.fnOf "fraction" "fraction" (As DZ) (Aq DZ) (Ai DZ) .none kV0 dc0 pm0 an0 cd0 ct0),sl0⟩) (c0:W.codeIn K cd0 "fraction"=true) (k0:W.keepIn K (.ref f0)=true)
  (a1:W.nsIn K mainGlobals "common_part"=some (some (.ref f1))) (l1:K.lookup f1=some ⟨oc1,od1,.func (W.fnOf "common_part" "common_part" (As Cn) (Aq Cn) (Ai Cn) .none kV1 dc1 pm1 an1 cd1 ct1),sl1⟩) (c1:W.codeIn K cd1 "common_part"=true) (k1:W.keepIn K (.ref f1)=true)
  (a2:W.nsIn K mainGlobals "summed"=some (some (.ref f2))) (l2:K.lookup f2=some ⟨oc2,od2,.func (W.fnOf "summed" "summed" (As Fz) (Aq Fz) (Ai Fz) .none kV2 dc2 pm2 an2 cd2 ct2),sl2⟩) (c2:W.codeIn K cd2 "summed"=true) (k2:W.keepIn K (.ref f2)=true)
  (a3:W.nsIn K mainGlobals "is_above"=some (some (.ref f3))) (l3:K.lookup f3=some ⟨oc3,od3,.func (W.fnOf "is_above" "is_above" (As DP) (Aq DP) (Ai DP) .none kV3 dc3 pm3 an3 cd3 ct3),sl3⟩) (c3:W.codeIn K cd3 "is_above"=true) (k3:W.keepIn K (.ref f3)=true)
  (a4:W.nsIn K mainGlobals "is_whole"=some (some (.ref f4))) (l4:K.lookup f4=some ⟨oc4,od4,.func (W.fnOf "is_whole" "is_whole" (As D0) (Aq D0) (Ai D0) .none kV4 dc4 pm4 an4 cd4 ct4),sl4⟩) (c4:W.codeIn K cd4 "is_whole"=true) (k4:W.keepIn K (.ref f4)=true)
  (a5:W.nsIn K mainGlobals "is_between"=some (some (.ref f5))) (l5:K.lookup f5=some ⟨oc5,od5,.func (W.fnOf "is_between" "is_between" (As CM) (Aq CM) (Ai CM) .none kV5 dc5 pm5 an5 cd5 ct5),sl5⟩) (c5:W.codeIn K cd5 "is_between"=true) (k5:W.keepIn K (.ref f5)=true)
  (a6:W.nsIn K mainGlobals "number_of"=some (some (.ref f6))) (l6:K.lookup f6=some ⟨oc6,od6,.func (W.fnOf "number_of" "number_of" (As Dq) (Aq Dq) (Ai Dq) .none kV6 dc6 pm6 an6 cd6 ct6),sl6⟩) (c6:W.codeIn K cd6 "number_of"=true) (k6:W.keepIn K (.ref f6)=true)
  (a7:W.nsIn K mainGlobals "is_text"=some (some (.ref f7))) (l7:K.lookup f7=some ⟨oc7,od7,.func (W.fnOf "is_text" "is_text" (As EJ) (Aq EJ) (Ai EJ) .none kV7 dc7 pm7 an7 cd7 ct7),sl7⟩) (c7:W.codeIn K cd7 "is_text"=true) (k7:W.keepIn K (.ref f7)=true)
  (a8:W.nsIn K mainGlobals "words_of"=some (some (.ref f8))) (l8:K.lookup f8=some ⟨oc8,od8,.func (W.fnOf "words_of" "words_of" (As CB) (Aq CB) (Ai CB) .none kV8 dc8 pm8 an8 cd8 ct8),sl8⟩) (c8:W.codeIn K cd8 "words_of"=true) (k8:W.keepIn K (.ref f8)=true)
  (a9:W.nsIn K mainGlobals "is_name"=some (some (.ref f9))) (l9:K.lookup f9=some ⟨oc9,od9,.func (W.fnOf "is_name" "is_name" (As ED) (Aq ED) (Ai ED) .none kV9 dc9 pm9 an9 cd9 ct9),sl9⟩) (c9:W.codeIn K cd9 "is_name"=true) (k9:W.keepIn K (.ref f9)=true)
  (a10:W.nsIn K mainGlobals "sum_of"=some (some (.ref f10))) (l10:K.lookup f10=some ⟨oc10,od10,.func (W.fnOf "sum_of" "sum_of" (As FA) (Aq FA) (Ai FA) .none kV10 dc10 pm10 an10 cd10 ct10),sl10⟩) (c10:W.codeIn K cd10 "sum_of"=true) (k10:W.keepIn K (.ref f10)=true)
  (a11:W.nsIn K mainGlobals "numbers_told"=some (some (.ref f11))) (l11:K.lookup f11=some ⟨oc11,od11,.func (W.fnOf "numbers_told" "numbers_told" (As B2) (Aq B2) (Ai B2) .none kV11 dc11 pm11 an11 cd11 ct11),sl11⟩) (c11:W.codeIn K cd11 "numbers_told"=true) (k11:W.keepIn K (.ref f11)=true)
  (a12:W.nsIn K mainGlobals "size_of"=some (some (.ref f12))) (l12:K.lookup f12=some ⟨oc12,od12,.func (W.fnOf "size_of" "size_of" (As EI) (Aq EI) (Ai EI) .none kV12 dc12 pm12 an12 cd12 ct12),sl12⟩) (c12:W.codeIn K cd12 "size_of"=true) (k12:W.keepIn K (.ref f12)=true)
  (a13:W.nsIn K mainGlobals "tags_in"=some (some (.ref f13))) (l13:K.lookup f13=some ⟨oc13,od13,.func (W.fnOf "tags_in" "tags_in" (As EC) (Aq EC) (Ai EC) .none kV13 dc13 pm13 an13 cd13 ct13),sl13⟩) (c13:W.codeIn K cd13 "tags_in"=true) (k13:W.keepIn K (.ref f13)=true)
  (a14:W.nsIn K mainGlobals "stems_in"=some (some (.ref f14))) (l14:K.lookup f14=some ⟨oc14,od14,.func (W.fnOf "stems_in" "stems_in" (As DL) (Aq DL) (Ai DL) .none kV14 dc14 pm14 an14 cd14 ct14),sl14⟩) (c14:W.codeIn K cd14 "stems_in"=true) (k14:W.keepIn K (.ref f14)=true)
  (a15:W.nsIn K mainGlobals "seals_of"=some (some (.ref f15))) (l15:K.lookup f15=some ⟨oc15,od15,.func (W.fnOf "seals_of" "seals_of" (As DM) (Aq DM) (Ai DM) .none kV15 dc15 pm15 an15 (.ref cc15) ct15),sl15⟩) (c15:W.codeIn K (.ref cc15) "seals_of"=true) (k15:W.keepIn K (.ref f15)=true) (Ul:W.codeHdIn K cc15 PT=true) (V4:K.lookup PT=none)
  (a16:W.nsIn K mainGlobals "tags_kept"=some (some (.ref f16))) (l16:K.lookup f16=some ⟨oc16,od16,.func (W.fnOf "tags_kept" "tags_kept" (As Di) (Aq Di) (Ai Di) .none kV16 dc16 pm16 an16 cd16 ct16),sl16⟩) (c16:W.codeIn K cd16 "tags_kept"=true) (k16:W.keepIn K (.ref f16)=true)
  (a17:W.nsIn K mainGlobals "holders_in"=some (some (.ref f17))) (l17:K.lookup f17=some ⟨oc17,od17,.func (W.fnOf "holders_in" "holders_in" (As CQ) (Aq CQ) (Ai CQ) .none kV17 dc17 pm17 an17 cd17 ct17),sl17⟩) (c17:W.codeIn K cd17 "holders_in"=true) (k17:W.keepIn K (.ref f17)=true)
  (a18:W.nsIn K mainGlobals "reached"=some (some (.ref f18))) (l18:K.lookup f18=some ⟨oc18,od18,.func (W.fnOf "reached" "reached" (As EB) (Aq EB) (Ai EB) .none kV18 dc18 pm18 an18 cd18 ct18),sl18⟩) (c18:W.codeIn K cd18 "reached"=true) (k18:W.keepIn K (.ref f18)=true)
  (a19:W.nsIn K mainGlobals "share_in"=some (some (.ref f19))) (l19:K.lookup f19=some ⟨oc19,od19,.func (W.fnOf "share_in" "share_in" (As DJ) (Aq DJ) (Ai DJ) .none kV19 dc19 pm19 an19 cd19 ct19),sl19⟩) (c19:W.codeIn K cd19 "share_in"=true) (k19:W.keepIn K (.ref f19)=true)
  (a20:W.nsIn K mainGlobals "share_by"=some (some (.ref f20))) (l20:K.lookup f20=some ⟨oc20,od20,.func (W.fnOf "share_by" "share_by" (As DW) (Aq DW) (Ai DW) .none kV20 dc20 pm20 an20 cd20 ct20),sl20⟩) (c20:W.codeIn K cd20 "share_by"=true) (k20:W.keepIn K (.ref f20)=true)
  (a21:W.nsIn K mainGlobals "alone_in"=some (some (.ref f21))) (l21:K.lookup f21=some ⟨oc21,od21,.func (W.fnOf "alone_in" "alone_in" (As DR) (Aq DR) (Ai DR) .none kV21 dc21 pm21 an21 cd21 ct21),sl21⟩) (c21:W.codeIn K cd21 "alone_in"=true) (k21:W.keepIn K (.ref f21)=true)
  (a22:W.nsIn K mainGlobals "all_in_hand"=some (some (.ref f22))) (l22:K.lookup f22=some ⟨oc22,od22,.func (W.fnOf "all_in_hand" "all_in_hand" (As Cr) (Aq Cr) (Ai Cr) .none kV22 dc22 pm22 an22 cd22 ct22),sl22⟩) (c22:W.codeIn K cd22 "all_in_hand"=true) (k22:W.keepIn K (.ref f22)=true)
  (a23:W.nsIn K mainGlobals "space_in"=some (some (.ref f23))) (l23:K.lookup f23=some ⟨oc23,od23,.func (W.fnOf "space_in" "space_in" (As DS) (Aq DS) (Ai DS) .none kV23 dc23 pm23 an23 cd23 ct23),sl23⟩) (c23:W.codeIn K cd23 "space_in"=true) (k23:W.keepIn K (.ref f23)=true)
  (a24:W.nsIn K mainGlobals "over_in"=some (some (.ref f24))) (l24:K.lookup f24=some ⟨oc24,od24,.func (W.fnOf "over_in" "over_in" (As EG) (Aq EG) (Ai EG) .none kV24 dc24 pm24 an24 cd24 ct24),sl24⟩) (c24:W.codeIn K cd24 "over_in"=true) (k24:W.keepIn K (.ref f24)=true)
  (a25:W.findIn K (.ref Aj) "__init__"=some (some (.ref f25))) (i25:W.isFn K (.ref f25)=true) (l25:K.lookup f25=some ⟨oc25,od25,.func (W.fnOf "__init__" "Boards.__init__" (As Cq) (Aq Cq) (Ai Cq) .none kV25 dc25 pm25 an25 cd25 ct25),sl25⟩) (c25:W.codeIn K cd25 "Boards.__init__"=true) (k25:W.keepIn K (.ref f25)=true)
  (a26:W.findIn K (.ref Aa) "__init__"=some (some (.ref f26))) (i26:W.isFn K (.ref f26)=true) (l26:K.lookup f26=some ⟨oc26,od26,.func (W.fnOf "__init__" "TakenCell.__init__" (As BB) (Aq BB) (Ai BB) .none kV26 dc26 pm26 an26 cd26 ct26),sl26⟩) (c26:W.codeIn K cd26 "TakenCell.__init__"=true) (k26:W.keepIn K (.ref f26)=true)
  (a27:W.findIn K (.ref Ac) "__init__"=some (some (.ref f27))) (i27:W.isFn K (.ref f27)=true) (l27:K.lookup f27=some ⟨oc27,od27,.func (W.fnOf "__init__" "Pool.__init__" (As Dl) (Aq Dl) (Ai Dl) .none kV27 dc27 pm27 an27 cd27 ct27),sl27⟩) (c27:W.codeIn K cd27 "Pool.__init__"=true) (k27:W.keepIn K (.ref f27)=true)
  (a28:W.findIn K (.ref Ac) "put"=some (some (.ref f28))) (i28:W.isFn K (.ref f28)=true) (l28:K.lookup f28=some ⟨oc28,od28,.func (W.fnOf "put" "Pool.put" (As DN) (Aq DN) (Ai DN) .none kV28 dc28 pm28 an28 cd28 ct28),sl28⟩) (c28:W.codeIn K cd28 "Pool.put"=true) (k28:W.keepIn K (.ref f28)=true)
  (a29:W.findIn K (.ref Ac) "alike"=some (some (.ref f29))) (i29:W.isFn K (.ref f29)=true) (l29:K.lookup f29=some ⟨oc29,od29,.func (W.fnOf "alike" "Pool.alike" (As CC) (Aq CC) (Ai CC) .none kV29 dc29 pm29 an29 cd29 ct29),sl29⟩) (c29:W.codeIn K cd29 "Pool.alike"=true) (k29:W.keepIn K (.ref f29)=true)
  (a30:W.findIn K (.ref Ac) "free_number"=some (some (.ref f30))) (i30:W.isFn K (.ref f30)=true) (l30:K.lookup f30=some ⟨oc30,od30,.func (W.fnOf "free_number" "Pool.free_number" (As Bd) (Aq Bd) (Ai Bd) .none kV30 dc30 pm30 an30 cd30 ct30),sl30⟩) (c30:W.codeIn K cd30 "Pool.free_number"=true) (k30:W.keepIn K (.ref f30)=true)
  (a31:W.findIn K (.ref Ac) "take"=some (some (.ref f31))) (i31:W.isFn K (.ref f31)=true) (l31:K.lookup f31=some ⟨oc31,od31,.func (W.fnOf "take" "Pool.take" (As Dn) (Aq Dn) (Ai Dn) .none kV31 dc31 pm31 an31 cd31 ct31),sl31⟩) (c31:W.codeIn K cd31 "Pool.take"=true) (k31:W.keepIn K (.ref f31)=true)
  (a32:W.findIn K (.ref Ac) "entries_of"=some (some (.ref f32))) (i32:W.isFn K (.ref f32)=true) (l32:K.lookup f32=some ⟨oc32,od32,.func (W.fnOf "entries_of" "Pool.entries_of" (As Bm) (Aq Bm) (Ai Bm) .none kV32 dc32 pm32 an32 cd32 ct32),sl32⟩) (c32:W.codeIn K cd32 "Pool.entries_of"=true) (k32:W.keepIn K (.ref f32)=true)
  (a33:W.findIn K (.ref Ac) "steps_of"=some (some (.ref f33))) (i33:W.isFn K (.ref f33)=true) (l33:K.lookup f33=some ⟨oc33,od33,.func (W.fnOf "steps_of" "Pool.steps_of" (As BL) (Aq BL) (Ai BL) .none kV33 dc33 pm33 an33 cd33 ct33),sl33⟩) (c33:W.codeIn K cd33 "Pool.steps_of"=true) (k33:W.keepIn K (.ref f33)=true)
  (a34:W.findIn K (.ref Ac) "block"=some (some (.ref f34))) (i34:W.isFn K (.ref f34)=true) (l34:K.lookup f34=some ⟨oc34,od34,.func (W.fnOf "block" "Pool.block" (As CN) (Aq CN) (Ai CN) .none kV34 dc34 pm34 an34 cd34 ct34),sl34⟩) (c34:W.codeIn K cd34 "Pool.block"=true) (k34:W.keepIn K (.ref f34)=true)
  (a35:W.findIn K (.ref Ac) "hold"=some (some (.ref f35))) (i35:W.isFn K (.ref f35)=true) (l35:K.lookup f35=some ⟨oc35,od35,.func (W.fnOf "hold" "Pool.hold" (As De) (Aq De) (Ai De) .none kV35 dc35 pm35 an35 cd35 ct35),sl35⟩) (c35:W.codeIn K cd35 "Pool.hold"=true) (k35:W.keepIn K (.ref f35)=true)
  (a36:W.findIn K (.ref Ac) "numbers"=some (some (.ref f36))) (i36:W.isFn K (.ref f36)=true) (l36:K.lookup f36=some ⟨oc36,od36,.func (W.fnOf "numbers" "Pool.numbers" (As BY) (Aq BY) (Ai BY) .none kV36 dc36 pm36 an36 cd36 ct36),sl36⟩) (c36:W.codeIn K cd36 "Pool.numbers"=true) (k36:W.keepIn K (.ref f36)=true)
  (a37:W.findIn K (.ref Ac) "tag"=some (some (.ref f37))) (i37:W.isFn K (.ref f37)=true) (l37:K.lookup f37=some ⟨oc37,od37,.func (W.fnOf "tag" "Pool.tag" (As DV) (Aq DV) (Ai DV) .none kV37 dc37 pm37 an37 cd37 ct37),sl37⟩) (c37:W.codeIn K cd37 "Pool.tag"=true) (k37:W.keepIn K (.ref f37)=true)
  (a38:W.findIn K (.ref Ac) "size"=some (some (.ref f38))) (i38:W.isFn K (.ref f38)=true) (l38:K.lookup f38=some ⟨oc38,od38,.func (W.fnOf "size" "Pool.size" (As Dp) (Aq Dp) (Ai Dp) .none kV38 dc38 pm38 an38 cd38 ct38),sl38⟩) (c38:W.codeIn K cd38 "Pool.size"=true) (k38:W.keepIn K (.ref f38)=true)
  (a39:W.findIn K (.ref Ac) "tags"=some (some (.ref f39))) (i39:W.isFn K (.ref f39)=true) (l39:K.lookup f39=some ⟨oc39,od39,.func (W.fnOf "tags" "Pool.tags" (As Df) (Aq Df) (Ai Df) .none kV39 dc39 pm39 an39 cd39 ct39),sl39⟩) (c39:W.codeIn K cd39 "Pool.tags"=true) (k39:W.keepIn K (.ref f39)=true)
  (a40:W.findIn K (.ref Ac) "entries"=some (some (.ref f40))) (i40:W.isFn K (.ref f40)=true) (l40:K.lookup f40=some ⟨oc40,od40,.func (W.fnOf "entries" "Pool.entries" (As Ca) (Aq Ca) (Ai Ca) .none kV40 dc40 pm40 an40 cd40 ct40),sl40⟩) (c40:W.codeIn K cd40 "Pool.entries"=true) (k40:W.keepIn K (.ref f40)=true)
  (a41:W.findIn K (.ref Ac) "deep"=some (some (.ref f41))) (i41:W.isFn K (.ref f41)=true) (l41:K.lookup f41=some ⟨oc41,od41,.func (W.fnOf "deep" "Pool.deep" (As Dj) (Aq Dj) (Ai Dj) .none kV41 dc41 pm41 an41 cd41 ct41),sl41⟩) (c41:W.codeIn K cd41 "Pool.deep"=true) (k41:W.keepIn K (.ref f41)=true)
  (a42:W.nsIn K mainGlobals "_law_cell_at"=some (some (.ref f42))) (l42:K.lookup f42=some ⟨oc42,od42,.func (W.fnOf "_law_cell_at" "_law_cell_at" (As B1) (Aq B1) (Ai B1) .none kV42 dc42 pm42 an42 cd42 ct42),sl42⟩) (c42:W.codeIn K cd42 "_law_cell_at"=true) (k42:W.keepIn K (.ref f42)=true)
  (a43:W.nsIn K mainGlobals "_law_row"=some (some (.ref f43))) (l43:K.lookup f43=some ⟨oc43,od43,.func (W.fnOf "_law_row" "_law_row" (As DI) (Aq DI) (Ai DI) .none kV43 dc43 pm43 an43 cd43 ct43),sl43⟩) (c43:W.codeIn K cd43 "_law_row"=true) (k43:W.keepIn K (.ref f43)=true)
  (a44:W.nsIn K mainGlobals "_law_names"=some (some (.ref f44))) (l44:K.lookup f44=some ⟨oc44,od44,.func (W.fnOf "_law_names" "_law_names" (As CK) (Aq CK) (Ai CK) .none kV44 dc44 pm44 an44 cd44 ct44),sl44⟩) (c44:W.codeIn K cd44 "_law_names"=true) (k44:W.keepIn K (.ref f44)=true)
  (a45:W.nsIn K mainGlobals "_law_text"=some (some (.ref f45))) (l45:K.lookup f45=some ⟨oc45,od45,.func (W.fnOf "_law_text" "_law_text" (As Dk) (Aq Dk) (Ai Dk) .none kV45 dc45 pm45 an45 cd45 ct45),sl45⟩) (c45:W.codeIn K cd45 "_law_text"=true) (k45:W.keepIn K (.ref f45)=true)
  (a46:W.nsIn K mainGlobals "_law_put"=some (some (.ref f46))) (l46:K.lookup f46=some ⟨oc46,od46,.func (W.fnOf "_law_put" "_law_put" (As DO) (Aq DO) (Ai DO) .none kV46 dc46 pm46 an46 cd46 ct46),sl46⟩) (c46:W.codeIn K cd46 "_law_put"=true) (k46:W.keepIn K (.ref f46)=true)
  (a47:W.nsIn K mainGlobals "_law_entries"=some (some (.ref f47))) (l47:K.lookup f47=some ⟨oc47,od47,.func (W.fnOf "_law_entries" "_law_entries" (As B9) (Aq B9) (Ai B9) .none kV47 dc47 pm47 an47 cd47 ct47),sl47⟩) (c47:W.codeIn K cd47 "_law_entries"=true) (k47:W.keepIn K (.ref f47)=true)
  (a48:W.nsIn K mainGlobals "_law_blocks"=some (some (.ref f48))) (l48:K.lookup f48=some ⟨oc48,od48,.func (W.fnOf "_law_blocks" "_law_blocks" (As Cp) (Aq Cp) (Ai Cp) .none kV48 dc48 pm48 an48 cd48 ct48),sl48⟩) (c48:W.codeIn K cd48 "_law_blocks"=true) (k48:W.keepIn K (.ref f48)=true)
  (a49:W.nsIn K mainGlobals "_law_grown"=some (some (.ref f49))) (l49:K.lookup f49=some ⟨oc49,od49,.func (W.fnOf "_law_grown" "_law_grown" (As CS) (Aq CS) (Ai CS) .none kV49 dc49 pm49 an49 cd49 ct49),sl49⟩) (c49:W.codeIn K cd49 "_law_grown"=true) (k49:W.keepIn K (.ref f49)=true)
  (a50:W.nsIn K mainGlobals "_law_head"=some (some (.ref f50))) (l50:K.lookup f50=some ⟨oc50,od50,.func (W.fnOf "_law_head" "_law_head" (As Dc) (Aq Dc) (Ai Dc) .none kV50 dc50 pm50 an50 cd50 ct50),sl50⟩) (c50:W.codeIn K cd50 "_law_head"=true) (k50:W.keepIn K (.ref f50)=true)
  (a51:W.nsIn K mainGlobals "_law_tags"=some (some (.ref f51))) (l51:K.lookup f51=some ⟨oc51,od51,.func (W.fnOf "_law_tags" "_law_tags" (As Dh) (Aq Dh) (Ai Dh) .none kV51 dc51 pm51 an51 cd51 ct51),sl51⟩) (c51:W.codeIn K cd51 "_law_tags"=true) (k51:W.keepIn K (.ref f51)=true)
  (a52:W.nsIn K mainGlobals "_law_reached"=some (some (.ref f52))) (l52:K.lookup f52=some ⟨oc52,od52,.func (W.fnOf "_law_reached" "_law_reached" (As Cc) (Aq Cc) (Ai Cc) .none kV52 dc52 pm52 an52 cd52 ct52),sl52⟩) (c52:W.codeIn K cd52 "_law_reached"=true) (k52:W.keepIn K (.ref f52)=true)
  (a53:W.nsIn K mainGlobals "_law_held"=some (some (.ref f53))) (l53:K.lookup f53=some ⟨oc53,od53,.func (W.fnOf "_law_held" "_law_held" (As Do) (Aq Do) (Ai Do) .none kV53 dc53 pm53 an53 cd53 ct53),sl53⟩) (c53:W.codeIn K cd53 "_law_held"=true) (k53:W.keepIn K (.ref f53)=true)
  (a54:W.nsIn K mainGlobals "_law_words"=some (some (.ref f54))) (l54:K.lookup f54=some ⟨oc54,od54,.func (W.fnOf "_law_words" "_law_words" (As BP) (Aq BP) (Ai BP) .none kV54 dc54 pm54 an54 cd54 ct54),sl54⟩) (c54:W.codeIn K cd54 "_law_words"=true) (k54:W.keepIn K (.ref f54)=true)
  (a55:W.nsIn K mainGlobals "_law_common"=some (some (.ref f55))) (l55:K.lookup f55=some ⟨oc55,od55,.func (W.fnOf "_law_common" "_law_common" (As Cm) (Aq Cm) (Ai Cm) .none kV55 dc55 pm55 an55 cd55 ct55),sl55⟩) (c55:W.codeIn K cd55 "_law_common"=true) (k55:W.keepIn K (.ref f55)=true)
  (a56:W.nsIn K mainGlobals "_law_whole"=some (some (.ref f56))) (l56:K.lookup f56=some ⟨oc56,od56,.func (W.fnOf "_law_whole" "_law_whole" (As CG) (Aq CG) (Ai CG) .none kV56 dc56 pm56 an56 cd56 ct56),sl56⟩) (c56:W.codeIn K cd56 "_law_whole"=true) (k56:W.keepIn K (.ref f56)=true)
  (a57:W.nsIn K mainGlobals "_law_is_share"=some (some (.ref f57))) (l57:K.lookup f57=some ⟨oc57,od57,.func (W.fnOf "_law_is_share" "_law_is_share" (As BO) (Aq BO) (Ai BO) .none kV57 dc57 pm57 an57 cd57 ct57),sl57⟩) (c57:W.codeIn K cd57 "_law_is_share"=true) (k57:W.keepIn K (.ref f57)=true)
  (a58:W.nsIn K mainGlobals "_law_sums"=some (some (.ref f58))) (l58:K.lookup f58=some ⟨oc58,od58,.func (W.fnOf "_law_sums" "_law_sums" (As Dd) (Aq Dd) (Ai Dd) .none kV58 dc58 pm58 an58 cd58 ct58),sl58⟩) (c58:W.codeIn K cd58 "_law_sums"=true) (k58:W.keepIn K (.ref f58)=true)
  (a59:W.nsIn K mainGlobals "_law_right"=some (some (.ref f59))) (l59:K.lookup f59=some ⟨oc59,od59,.func (W.fnOf "_law_right" "_law_right" (As CO) (Aq CO) (Ai CO) .none kV59 dc59 pm59 an59 cd59 ct59),sl59⟩) (c59:W.codeIn K cd59 "_law_right"=true) (k59:W.keepIn K (.ref f59)=true)
  (a60:W.nsIn K mainGlobals "law"=some (some (.ref f60))) (l60:K.lookup f60=some ⟨oc60,od60,.func (W.fnOf "law" "law" (As IM) (Aq IM) (Ai IM) .none kV60 dc60 pm60 an60 cd60 ct60),sl60⟩) (c60:W.codeIn K cd60 "law"=true) (k60:W.keepIn K (.ref f60)=true)
  (Jp:W.nsIn K mainGlobals "Boards"=some (some (.ref Aj))) (JC:W.plainGet K Aj Str.empty=true) (JG:W.hasDictIn K Aj=true) (JA:W.plainOver K Aj=true) (Jo:W.findIn K (.ref Aj) "__setattr__"=some (some (.builtin "object.__setattr__"))) (Jm:W.makesIn K Aj=true) (Jx:W.keepIn K (.ref Aj)=true)
  (n_Boards_shelves:W.findIn K (.ref Aj) "shelves"=some none)
  (n_Boards_writes:W.findIn K (.ref Aj) "writes"=some none)
  (n_Boards_writes_left:W.findIn K (.ref Aj) "writes_left"=some none)
  (FK:W.nsIn K mainGlobals "TakenCell"=some (some (.ref Aa))) (FU:W.plainGet K Aa Str.empty=true) (Gk:W.hasDictIn K Aa=true) (Gp:W.plainOver K Aa=true) (FY:W.findIn K (.ref Aa) "__setattr__"=some (some (.builtin "object.__setattr__"))) (Gi:W.makesIn K Aa=true) (FO:W.keepIn K (.ref Aa)=true)
  (n_TakenCell_own_tag:W.findIn K (.ref Aa) "own_tag"=some none)
  (n_TakenCell_own_size:W.findIn K (.ref Aa) "own_size"=some none)
  (n_TakenCell_named:W.findIn K (.ref Aa) "named"=some none)
  (n_TakenCell_times_named:W.findIn K (.ref Aa) "times_named"=some none)
  (n_TakenCell_entries_beneath:W.findIn K (.ref Aa) "entries_beneath"=some none)
  (n_TakenCell_steps_beneath:W.findIn K (.ref Aa) "steps_beneath"=some none)
  (Mt:W.nsIn K mainGlobals "Pool"=some (some (.ref Ac))) (Nd:W.plainGet K Ac Str.empty=true) (Mg:W.hasDictIn K Ac=true) (MV:W.plainOver K Ac=true) (Ng:W.findIn K (.ref Ac) "__setattr__"=some (some (.builtin "object.__setattr__"))) (MZ:W.makesIn K Ac=true) (MA:W.keepIn K (.ref Ac)=true)
  (n_Pool_boards:W.findIn K (.ref Ac) "boards"=some none)
  (n_Pool_taken:W.findIn K (.ref Ac) "taken"=some none)
  (n_Pool_by_sums:W.findIn K (.ref Ac) "by_sums"=some none)
  (n_Pool_draft:W.findIn K (.ref Ac) "draft"=some none)
  (n_Pool_first_maybe_free:W.findIn K (.ref Ac) "first_maybe_free"=some none)
  (x_Lost:W.nsIn K mainGlobals "Lost"=some (some (.ref Tu)))
  (Sh:W.nsIn K mainGlobals "abs"=some none)
  (RH:W.nsIn K mainGlobals "all"=some none)
  (Pd:W.nsIn K mainGlobals "bool"=some none)
  (Pc:W.nsIn K mainGlobals "dict"=some none)
  (SV:W.nsIn K mainGlobals "int"=some none)
  (FP:W.nsIn K mainGlobals "isinstance"=some none)
  (RM:W.nsIn K mainGlobals "len"=some none)
  (OT:W.nsIn K mainGlobals "list"=some none)
  (Se:W.nsIn K mainGlobals "max"=some none)
  (So:W.nsIn K mainGlobals "min"=some none)
  (Ms:W.nsIn K mainGlobals "range"=some none)
  (Lg:W.nsIn K mainGlobals "sorted"=some none)
  (SZ:W.nsIn K mainGlobals "str"=some none)
  (Ta:W.nsIn K mainGlobals "sum"=some none)
  (MX:W.nsIn K mainGlobals "tuple"=some none)
  (M0:W.nsIn K mainGlobals "SIGNS"=some (some (.str (PySem.Str.ofString " !\"#$&'()*+,-./0123456789:;<=>?@ABCDEFGHIJKLMNOPQRSTUVWXYZ[\\]^_`abcdefghijklmnopqrstuvwxyz{|}~") t_SIGNS)))
  (Fi:W.nsIn K mainGlobals "NUMBER_WORD"=some (some (.int 0 t_NUMBER_WORD)))
  (G6:W.nsIn K mainGlobals "TEXT_WORD"=some (some (.int 1 t_TEXT_WORD)))
  (Ge:W.nsIn K mainGlobals "TUPLE_WORD"=some (some (.int 2 t_TUPLE_WORD)))
  (M1:W.nsIn K mainGlobals "PIECE"=some (some (.int 0 t_PIECE)))
  (Tc:W.nsIn K mainGlobals "ROW"=some (some (.int 1 t_ROW)))
  (La:W.nsIn K mainGlobals "FOLDER"=some (some (.int 2 t_FOLDER)))
  (E1:W.nsIn K mainGlobals "FOLDER_ENTRY"=some (some (.int 2 t_FOLDER_ENTRY)))
  (Ga:W.nsIn K mainGlobals "NAME_SIGNS"=some (some (.str (PySem.Str.ofString "0123456789abcdefghijklmnopqrstuvwxyz") t_NAME_SIGNS)))
  (Dr:W.nsIn K mainGlobals "MOST_NAME_SIGNS"=some (some (.int 8 t_MOST_NAME_SIGNS)))
  (GZ:W.nsIn K mainGlobals "SUM_RESTS"=some (some (.int 997 t_SUM_RESTS)))
  (PD:W.nsIn K mainGlobals "STEM"=some (some (.int 1 t_STEM)))
  (OJ:W.nsIn K mainGlobals "SEAL"=some (some (.int 2 t_SEAL)))
  (EV:W.nsIn K mainGlobals "LEAST_BOARDS"=some (some (.int 2 t_LEAST_BOARDS)))
  (Fg:W.nsIn K mainGlobals "MOST_BOARDS"=some (some (.int 4 t_MOST_BOARDS))) :
  ∃fd:FuncData,(∀(s:Shared) (v:Value),BindsTo s fd ⟨[v],[]⟩ [("_law_script",v)])/\(∀T∈[PT],K.lookup T=none/\∃c,W.codeHdIn K c T=true)/\∀base:Heap,K.In base->base.Ns mainGlobals mg->PL mg base->FnOk l.prog w K mg base Cf 17 fa fd ["_law_script"] (Mo K PT):=by
 have e:=hfa.symm.trans (W.mg_of X G a60);cases e;have T:Txt K mg Aj Aa Ac (λn=>match n with|0=>Tu|_=>0):=⟨⟨JC,JG,JA,Jo⟩,n_Boards_shelves,n_Boards_writes,n_Boards_writes_left,⟨FU,Gk,Gp,FY⟩,n_TakenCell_own_tag,n_TakenCell_own_size,n_TakenCell_named,n_TakenCell_times_named,n_TakenCell_entries_beneath,n_TakenCell_steps_beneath,⟨Nd,Mg,MV,Ng⟩,n_Pool_boards,n_Pool_taken,n_Pool_by_sums,n_Pool_draft,n_Pool_first_maybe_free,W.mg_of X G x_Lost,W.mg_none_of X G Sh,W.mg_none_of X G RH,W.mg_none_of X G Pd,W.mg_none_of X G Pc,W.mg_none_of X G SV,W.mg_none_of X G FP,W.mg_none_of X G RM,W.mg_none_of X G OT,W.mg_none_of X G Se,W.mg_none_of X G So,W.mg_none_of X G Ms,W.mg_none_of X G Lg,W.mg_none_of X G SZ,W.mg_none_of X G Ta,W.mg_none_of X G MX,⟨_,W.mg_of X G M0⟩,⟨_,W.mg_of X G Fi⟩,⟨_,W.mg_of X G G6⟩,⟨_,W.mg_of X G Ge⟩,⟨_,W.mg_of X G M1⟩,⟨_,W.mg_of X G Tc⟩,⟨_,W.mg_of X G La⟩,⟨_,W.mg_of X G E1⟩,⟨_,W.mg_of X G Ga⟩,⟨_,W.mg_of X G Dr⟩,⟨_,W.mg_of X G GZ⟩,⟨_,W.mg_of X G PD⟩,⟨_,W.mg_of X G OJ⟩,⟨_,W.mg_of X G EV⟩,⟨_,W.mg_of X G Fg⟩⟩
 have F0:=AA (st:=DZ) l0 c0 k0;have b0:=F0.binds (ps:=["top","bottom"]) λ_ _ _ _ _ _ us hl=>by
  obtain⟨_,_,rfl⟩:=ln2 hl;rfl
 have F1:=AA (st:=Cn) l1 c1 k1;have b1:=F1.binds (ps:=["one","other"]) λ_ _ _ _ _ _ us hl=>by
  obtain⟨_,_,rfl⟩:=ln2 hl;rfl
 have F2:=AA (st:=Fz) l2 c2 k2;have b2:=F2.binds (ps:=["some"]) λ_ _ _ _ _ _ us hl=>by
  obtain⟨_,rfl⟩:=Ni hl;rfl
 have F3:=AA (st:=DP) l3 c3 k3;have b3:=F3.binds (ps:=["one","other"]) λ_ _ _ _ _ _ us hl=>by
  obtain⟨_,_,rfl⟩:=ln2 hl;rfl
 have F4:=AA (st:=D0) l4 c4 k4;have b4:=F4.binds (ps:=["thing"]) λ_ _ _ _ _ _ us hl=>by
  obtain⟨_,rfl⟩:=Ni hl;rfl
 have F5:=AA (st:=CM) l5 c5 k5;have b5:=F5.binds (ps:=["thing","least","most"]) λ_ _ _ _ _ _ us hl=>by
  obtain⟨_,_,_,rfl⟩:=PJ hl;rfl
 have F6:=AA (st:=Dq) l6 c6 k6;have b6:=F6.binds (ps:=["sign"]) λ_ _ _ _ _ _ us hl=>by
  obtain⟨_,rfl⟩:=Ni hl;rfl
 have F7:=AA (st:=EJ) l7 c7 k7;have b7:=F7.binds (ps:=["thing","least","most"]) λ_ _ _ _ _ _ us hl=>by
  obtain⟨_,_,_,rfl⟩:=PJ hl;rfl
 have F8:=AA (st:=CB) l8 c8 k8;have b8:=F8.binds (ps:=["thing"]) λ_ _ _ _ _ _ us hl=>by
  obtain⟨_,rfl⟩:=Ni hl;rfl
 have F9:=AA (st:=ED) l9 c9 k9;have b9:=F9.binds (ps:=["thing"]) λ_ _ _ _ _ _ us hl=>by
  obtain⟨_,rfl⟩:=Ni hl;rfl
 have F10:=AA (st:=FA) l10 c10 k10;have b10:=F10.binds (ps:=["block"]) λ_ _ _ _ _ _ us hl=>by
  obtain⟨_,rfl⟩:=Ni hl;rfl
 have F11:=AA (st:=B2) l11 c11 k11;have b11:=F11.binds (ps:=["block"]) λ_ _ _ _ _ _ us hl=>by
  obtain⟨_,rfl⟩:=Ni hl;rfl
 have F12:=AA (st:=EI) l12 c12 k12;have b12:=F12.binds (ps:=["block"]) λ_ _ _ _ _ _ us hl=>by
  obtain⟨_,rfl⟩:=Ni hl;rfl
 have F13:=AA (st:=EC) l13 c13 k13;have b13:=F13.binds (ps:=["block"]) λ_ _ _ _ _ _ us hl=>by
  obtain⟨_,rfl⟩:=Ni hl;rfl
 have F14:=AA (st:=DL) l14 c14 k14;have b14:=F14.binds (ps:=["head"]) λ_ _ _ _ _ _ us hl=>by
  obtain⟨_,rfl⟩:=Ni hl;rfl
 have F15:=AA (st:=DM) l15 c15 k15;have b15:=F15.binds (ps:=["head","stem"]) λ_ _ _ _ _ _ us hl=>by
  obtain⟨_,_,rfl⟩:=ln2 hl;rfl
 have F16:=AA (st:=Di) l16 c16 k16;have b16:=F16.binds (ps:=["head","keeper"]) λ_ _ _ _ _ _ us hl=>by
  obtain⟨_,_,rfl⟩:=ln2 hl;rfl
 have F17:=AA (st:=CQ) l17 c17 k17;have b17:=F17.binds (ps:=["pool","head"]) λ_ _ _ _ _ _ us hl=>by
  obtain⟨_,_,rfl⟩:=ln2 hl;rfl
 have F18:=AA (st:=EB) l18 c18 k18;have b18:=F18.binds (ps:=["pool","tags"]) λ_ _ _ _ _ _ us hl=>by
  obtain⟨_,_,rfl⟩:=ln2 hl;rfl
 have F19:=AA (st:=DJ) l19 c19 k19;have b19:=F19.binds (ps:=["pool","head","keeper"]) λ_ _ _ _ _ _ us hl=>by
  obtain⟨_,_,_,rfl⟩:=PJ hl;rfl
 have F20:=AA (st:=DW) l20 c20 k20;have b20:=F20.binds (ps:=["pool","holders","keeper"]) λ_ _ _ _ _ _ us hl=>by
  obtain⟨_,_,_,rfl⟩:=PJ hl;rfl
 have F21:=AA (st:=DR) l21 c21 k21;have b21:=F21.binds (ps:=["pool","head","keeper"]) λ_ _ _ _ _ _ us hl=>by
  obtain⟨_,_,_,rfl⟩:=PJ hl;rfl
 have F22:=AA (st:=Cr) l22 c22 k22;have b22:=F22.binds (ps:=["pool","head","keeper"]) λ_ _ _ _ _ _ us hl=>by
  obtain⟨_,_,_,rfl⟩:=PJ hl;rfl
 have F23:=AA (st:=DS) l23 c23 k23;have b23:=F23.binds (ps:=["pool"]) λ_ _ _ _ _ _ us hl=>by
  obtain⟨_,rfl⟩:=Ni hl;rfl
 have F24:=AA (st:=EG) l24 c24 k24;have b24:=F24.binds (ps:=["pool","head"]) λ_ _ _ _ _ _ us hl=>by
  obtain⟨_,_,rfl⟩:=ln2 hl;rfl
 have F25:=AA (st:=Cq) l25 c25 k25;have b25:=F25.binds (ps:=["self","many"]) λ_ _ _ _ _ _ us hl=>by
  obtain⟨_,_,rfl⟩:=ln2 hl;rfl
 have F26:=AA (st:=BB) l26 c26 k26;have b26:=F26.binds (ps:=["self","own_tag","block"]) λ_ _ _ _ _ _ us hl=>by
  obtain⟨_,_,_,rfl⟩:=PJ hl;rfl
 have F27:=AA (st:=Dl) l27 c27 k27;have b27:=F27.binds (ps:=["self","boards"]) λ_ _ _ _ _ _ us hl=>by
  obtain⟨_,_,rfl⟩:=ln2 hl;rfl
 have F28:=AA (st:=DN) l28 c28 k28;have b28:=F28.binds (ps:=["self","block","birth"]) λ_ _ _ _ _ _ us hl=>by
  obtain⟨_,_,_,rfl⟩:=PJ hl;rfl
 have F29:=AA (st:=CC) l29 c29 k29;have b29:=F29.binds (ps:=["self","block"]) λ_ _ _ _ _ _ us hl=>by
  obtain⟨_,_,rfl⟩:=ln2 hl;rfl
 have F30:=AA (st:=Bd) l30 c30 k30;have b30:=F30.binds (ps:=["self"]) λ_ _ _ _ _ _ us hl=>by
  obtain⟨_,rfl⟩:=Ni hl;rfl
 have F31:=AA (st:=Dn) l31 c31 k31;have b31:=F31.binds (ps:=["self","tag","block"]) λ_ _ _ _ _ _ us hl=>by
  obtain⟨_,_,_,rfl⟩:=PJ hl;rfl
 have F32:=AA (st:=Bm) l32 c32 k32;have b32:=F32.binds (ps:=["self","folder"]) λ_ _ _ _ _ _ us hl=>by
  obtain⟨_,_,rfl⟩:=ln2 hl;rfl
 have F33:=AA (st:=BL) l33 c33 k33;have b33:=F33.binds (ps:=["self","folder"]) λ_ _ _ _ _ _ us hl=>by
  obtain⟨_,_,rfl⟩:=ln2 hl;rfl
 have F34:=AA (st:=CN) l34 c34 k34;have b34:=F34.binds (ps:=["self","tag"]) λ_ _ _ _ _ _ us hl=>by
  obtain⟨_,_,rfl⟩:=ln2 hl;rfl
 have F35:=AA (st:=De) l35 c35 k35;have b35:=F35.binds (ps:=["self","tag"]) λ_ _ _ _ _ _ us hl=>by
  obtain⟨_,_,rfl⟩:=ln2 hl;rfl
 have F36:=AA (st:=BY) l36 c36 k36;have b36:=F36.binds (ps:=["self"]) λ_ _ _ _ _ _ us hl=>by
  obtain⟨_,rfl⟩:=Ni hl;rfl
 have F37:=AA (st:=DV) l37 c37 k37;have b37:=F37.binds (ps:=["self","number"]) λ_ _ _ _ _ _ us hl=>by
  obtain⟨_,_,rfl⟩:=ln2 hl;rfl
 have F38:=AA (st:=Dp) l38 c38 k38;have b38:=F38.binds (ps:=["self","number"]) λ_ _ _ _ _ _ us hl=>by
  obtain⟨_,_,rfl⟩:=ln2 hl;rfl
 have F39:=AA (st:=Df) l39 c39 k39;have b39:=F39.binds (ps:=["self","number"]) λ_ _ _ _ _ _ us hl=>by
  obtain⟨_,_,rfl⟩:=ln2 hl;rfl
 have F40:=AA (st:=Ca) l40 c40 k40;have b40:=F40.binds (ps:=["self","number"]) λ_ _ _ _ _ _ us hl=>by
  obtain⟨_,_,rfl⟩:=ln2 hl;rfl
 have F41:=AA (st:=Dj) l41 c41 k41;have b41:=F41.binds (ps:=["self","number"]) λ_ _ _ _ _ _ us hl=>by
  obtain⟨_,_,rfl⟩:=ln2 hl;rfl
 have F42:=AA (st:=B1) l42 c42 k42;have b42:=F42.binds (ps:=["_law_script","_law_k"]) λ_ _ _ _ _ _ us hl=>by
  obtain⟨_,_,rfl⟩:=ln2 hl;rfl
 have F43:=AA (st:=DI) l43 c43 k43;have b43:=F43.binds (ps:=["_law_cell","_law_many"]) λ_ _ _ _ _ _ us hl=>by
  obtain⟨_,_,rfl⟩:=ln2 hl;rfl
 have F44:=AA (st:=CK) l44 c44 k44;have b44:=F44.binds (ps:=["_law_row_here","_law_many"]) λ_ _ _ _ _ _ us hl=>by
  obtain⟨_,_,rfl⟩:=ln2 hl;rfl
 have F45:=AA (st:=Dk) l45 c45 k45;have b45:=F45.binds (ps:=["_law_row_here","_law_at"]) λ_ _ _ _ _ _ us hl=>by
  obtain⟨_,_,rfl⟩:=ln2 hl;rfl
 have F46:=AA (st:=DO) l46 c46 k46;have b46:=F46.binds (ps:=["_law_pool","_law_blocks_here","_law_block","_law_birth"]) λ_ _ _ _ _ _ us hl=>by
  obtain⟨_,_,_,_,rfl⟩:=Yp hl;rfl
 have F47:=AA (st:=B9) l47 c47 k47;have b47:=F47.binds (ps:=["_law_row_here","_law_at","_law_names_here","_law_files","_law_folders"]) λ_ _ _ _ _ _ us hl=>by
  obtain⟨_,_,_,_,_,rfl⟩:=Yq hl;rfl
 have F48:=AA (st:=Cp) l48 c48 k48;have b48:=F48.binds (ps:=["_law_script","_law_pool","_law_names_here"]) λ_ _ _ _ _ _ us hl=>by
  obtain⟨_,_,_,rfl⟩:=PJ hl;rfl
 have F49:=AA (st:=CS) l49 c49 k49;have b49:=F49.binds (ps:=["_law_entries_here","_law_stem","_law_number"]) λ_ _ _ _ _ _ us hl=>by
  obtain⟨_,_,_,rfl⟩:=PJ hl;rfl
 have F50:=AA (st:=Dc) l50 c50 k50;have b50:=F50.binds (ps:=["_law_script","_law_names_here","_law_folders"]) λ_ _ _ _ _ _ us hl=>by
  obtain⟨_,_,_,rfl⟩:=PJ hl;rfl
 have F51:=AA (st:=Dh) l51 c51 k51;have b51:=F51.binds (ps:=["_law_block"]) λ_ _ _ _ _ _ us hl=>by
  obtain⟨_,rfl⟩:=Ni hl;rfl
 have F52:=AA (st:=Cc) l52 c52 k52;have b52:=F52.binds (ps:=["_law_blocks_here","_law_tags_here"]) λ_ _ _ _ _ _ us hl=>by
  obtain⟨_,_,rfl⟩:=ln2 hl;rfl
 have F53:=AA (st:=Do) l53 c53 k53;have b53:=F53.binds (ps:=["_law_blocks_here","_law_head_here"]) λ_ _ _ _ _ _ us hl=>by
  obtain⟨_,_,rfl⟩:=ln2 hl;rfl
 have F54:=AA (st:=BP) l54 c54 k54;have b54:=F54.binds (ps:=["_law_thing"]) λ_ _ _ _ _ _ us hl=>by
  obtain⟨_,rfl⟩:=Ni hl;rfl
 have F55:=AA (st:=Cm) l55 c55 k55;have b55:=F55.binds (ps:=["_law_one","_law_other"]) λ_ _ _ _ _ _ us hl=>by
  obtain⟨_,_,rfl⟩:=ln2 hl;rfl
 have F56:=AA (st:=CG) l56 c56 k56;have b56:=F56.binds (ps:=["_law_thing"]) λ_ _ _ _ _ _ us hl=>by
  obtain⟨_,rfl⟩:=Ni hl;rfl
 have F57:=AA (st:=BO) l57 c57 k57;have b57:=F57.binds (ps:=["_law_found","_law_top","_law_bottom"]) λ_ _ _ _ _ _ us hl=>by
  obtain⟨_,_,_,rfl⟩:=PJ hl;rfl
 have F58:=AA (st:=Dd) l58 c58 k58;have b58:=F58.binds (ps:=["_law_blocks_here","_law_held_here","_law_keeper"]) λ_ _ _ _ _ _ us hl=>by
  obtain⟨_,_,_,rfl⟩:=PJ hl;rfl
 have F59:=AA (st:=CO) l59 c59 k59;have b59:=F59.binds (ps:=["_law_pool","_law_blocks_here","_law_head_here","_law_held_here","_law_keeper"]) λ_ _ _ _ _ _ us hl=>by
  obtain⟨_,_,_,_,_,rfl⟩:=Yq hl;rfl
 have F60:=AA (st:=IM) l60 c60 k60;refine⟨W.fnOf "law" "law" (As IM) (Aq IM) (Ai IM) .none kV60 dc60 pm60 an60 cd60 ct60,λs v=>.of_eq rfl,λT hT=>by
  simp only[List.mem_cons,List.not_mem_nil,or_false] at hT;rcases hT with rfl
  ·exact⟨V4,_,Ul⟩,λbase _ _ hBm=>?_⟩
 have Ft:Def l.prog w K mg base 1 "common_part" ["one","other"] (Dw K):=⟨_,_,KI T F1 ,W.mg_of X G a1,k1,b1⟩
 have HI:Def l.prog w K mg base 1 "is_above" ["one","other"] (Hc K):=⟨_,_,Oj T F3 ,W.mg_of X G a3,k3,b3⟩
 have BE:Def l.prog w K mg base 1 "is_whole" ["thing"] (Dm K):=⟨_,_,Nx T F4 ,W.mg_of X G a4,k4,b4⟩
 have A6:Def l.prog w K mg base 1 "number_of" ["sign"] (CF K):=⟨_,_,MY T F6 ,W.mg_of X G a6,k6,b6⟩
 have Jv:Def l.prog w K mg base 1 "is_text" ["thing","least","most"] (HZ K):=⟨_,_,OW T F7 ,W.mg_of X G a7,k7,b7⟩
 have JH:Def l.prog w K mg base 1 "tags_in" ["block"] (HQ K):=⟨_,_,Pi T F13 ,W.mg_of X G a13,k13,b13⟩
 have HW:Def l.prog w K mg base 1 "stems_in" ["head"] (GD K):=⟨_,_,Nr T F14 ,W.mg_of X G a14,k14,b14⟩
 have Ii:Def l.prog w K mg base 1 "seals_of" ["head","stem"] (GN K PT):=⟨_,_,N7 T F15 ⟨⟨cc15,rfl,Ul⟩,hBm⟩ ,W.mg_of X G a15,k15,b15⟩
 have GG:O3 l.prog w K mg base 1 Ac "Pool" ["self","boards"] (FT K Ac):=⟨_,_,MW T F27 ,⟨MZ,a27,i27,MA⟩,W.mg_of X G Mt,b27⟩
 have C8:CL l.prog w K mg base 1 Ac "free_number" ["self"] (CW K Ac Aa):=⟨_,_,Hx T F30 ,⟨a30,i30,k30⟩,b30⟩
 have Gq:CL l.prog w K mg base 1 Ac "block" ["self","tag"] (Fs K Ac Aa):=⟨_,_,LD T F34 ,⟨a34,i34,k34⟩,b34⟩
 have GL:CL l.prog w K mg base 1 Ac "hold" ["self","tag"] (Gg K Ac Aa):=⟨_,_,M8 T F35 ,⟨a35,i35,k35⟩,b35⟩
 have B8:CL l.prog w K mg base 1 Ac "numbers" ["self"] (C7 K Ac Aa):=⟨_,_,J1 T F36 ,⟨a36,i36,k36⟩,b36⟩
 have FZ:CL l.prog w K mg base 1 Ac "tag" ["self","number"] (GF K Ac Aa):=⟨_,_,Oe T F37 ,⟨a37,i37,k37⟩,b37⟩
 have A5:CL l.prog w K mg base 1 Ac "size" ["self","number"] (Ce K Ac Aa):=⟨_,_,Mj T F38 ,⟨a38,i38,k38⟩,b38⟩
 have Gz:CL l.prog w K mg base 1 Ac "tags" ["self","number"] (Ew K Ac Aa):=⟨_,_,MQ T F39 ,⟨a39,i39,k39⟩,b39⟩
 have ER:CL l.prog w K mg base 1 Ac "entries" ["self","number"] (Ei K Ac Aa):=⟨_,_,Kd T F40 ,⟨a40,i40,k40⟩,b40⟩
 have GH:CL l.prog w K mg base 1 Ac "deep" ["self","number"] (FR K Ac Aa):=⟨_,_,MU T F41 ,⟨a41,i41,k41⟩,b41⟩
 have AZ:Def l.prog w K mg base 1 "_law_cell_at" ["_law_script","_law_k"] (Cg K):=⟨_,_,Kb T F42 ,W.mg_of X G a42,k42,b42⟩
 have BS:Def l.prog w K mg base 1 "_law_row" ["_law_cell","_law_many"] (Eb K):=⟨_,_,Np T F43 ,W.mg_of X G a43,k43,b43⟩
 have FS:Def l.prog w K mg base 1 "_law_names" ["_law_row_here","_law_many"] (Fv K):=⟨_,_,Lk T F44 ,W.mg_of X G a44,k44,b44⟩
 have GW:Def l.prog w K mg base 1 "_law_text" ["_law_row_here","_law_at"] (Gd K):=⟨_,_,MC T F45 ,W.mg_of X G a45,k45,b45⟩
 have EW:Def l.prog w K mg base 1 "_law_entries" ["_law_row_here","_law_at","_law_names_here","_law_files","_law_folders"] (Eg K):=⟨_,_,J8 T F47 ,W.mg_of X G a47,k47,b47⟩
 have Gs:Def l.prog w K mg base 1 "_law_grown" ["_law_entries_here","_law_stem","_law_number"] (Fo K):=⟨_,_,LC T F49 ,W.mg_of X G a49,k49,b49⟩
 have GA:Def l.prog w K mg base 1 "_law_tags" ["_law_block"] (Gr K):=⟨_,_,MM T F51 ,W.mg_of X G a51,k51,b51⟩
 have Fu:Def l.prog w K mg base 1 "_law_common" ["_law_one","_law_other"] (EX K):=⟨_,_,K7 T F55 ,W.mg_of X G a55,k55,b55⟩
 have A4:Def l.prog w K mg base 1 "_law_whole" ["_law_thing"] (C1 K):=⟨_,_,Ls T F56 ,W.mg_of X G a56,k56,b56⟩
 have DQ:Def l.prog w K mg base 2 "fraction" ["top","bottom"] (Ff K):=⟨_,_,Nz T F0 Ft,W.mg_of X G a0,k0,b0⟩
 have Gh:Def l.prog w K mg base 2 "is_between" ["thing","least","most"] (Fl K):=⟨_,_,Ln T F5 BE,W.mg_of X G a5,k5,b5⟩
 have WD:Def l.prog w K mg base 2 "is_name" ["thing"] (KC K):=⟨_,_,OV T F9 Jv,W.mg_of X G a9,k9,b9⟩
 have E5:Def l.prog w K mg base 2 "numbers_told" ["block"] (Eh K):=⟨_,_,J2 T F11 A6,W.mg_of X G a11,k11,b11⟩
 have Dg:Def l.prog w K mg base 2 "tags_kept" ["head","keeper"] (Es K PT):=⟨_,_,ML T F16 HW Ii,W.mg_of X G a16,k16,b16⟩
 have EL:Def l.prog w K mg base 2 "reached" ["pool","tags"] (Gf K Ac Aa):=⟨_,_,O5 T F18 Gz,W.mg_of X G a18,k18,b18⟩
 have HH:Def l.prog w K mg base 2 "space_in" ["pool"] (GE K Ac Aa):=⟨_,_,NI T F23 A5 B8,W.mg_of X G a23,k23,b23⟩
 have Dt:CL l.prog w K mg base 2 Ac "entries_of" ["self","folder"] (C9 K Ac Aa):=⟨_,_,HP T F32 ER,⟨a32,i32,k32⟩,b32⟩
 have El:CL l.prog w K mg base 2 Ac "steps_of" ["self","folder"] (DX K Ac Aa):=⟨_,_,Jk T F33 GH,⟨a33,i33,k33⟩,b33⟩
 have G3:Def l.prog w K mg base 2 "_law_head" ["_law_script","_law_names_here","_law_folders"] (FL K):=⟨_,_,MS T F50 BS AZ Gs,W.mg_of X G a50,k50,b50⟩
 have EY:Def l.prog w K mg base 2 "_law_reached" ["_law_blocks_here","_law_tags_here"] (Ef K):=⟨_,_,J0 T F52 GA,W.mg_of X G a52,k52,b52⟩
 have Ek:Def l.prog w K mg base 2 "_law_is_share" ["_law_found","_law_top","_law_bottom"] (DU K):=⟨_,_,Ju T F57 Fu A4,W.mg_of X G a57,k57,b57⟩
 have Ld:Def l.prog w K mg base 3 "summed" ["some"] (JI K):=⟨_,_,QV T F2 DQ,W.mg_of X G a2,k2,b2⟩
 have FH:Def l.prog w K mg base 3 "sum_of" ["block"] (Hs K):=⟨_,_,QU T F10 E5,W.mg_of X G a10,k10,b10⟩
 have Bu:Def l.prog w K mg base 3 "holders_in" ["pool","head"] (C3 K Ac Aa PT):=⟨_,_,Li T F17 EL Dg B8,W.mg_of X G a17,k17,b17⟩
 have Fn:Def l.prog w K mg base 3 "all_in_hand" ["pool","head","keeper"] (ES K Ac Aa PT):=⟨_,_,KQ T F22 A5 EL Dg,W.mg_of X G a22,k22,b22⟩
 have Fm:O3 l.prog w K mg base 3 Aj "Boards" ["self","many"] (EU K Aj):=⟨_,_,K9 T F25 Gh,⟨Jm,a25,i25,Jx⟩,W.mg_of X G Jp,b25⟩
 have GU:Def l.prog w K mg base 3 "_law_held" ["_law_blocks_here","_law_head_here"] (FX K):=⟨_,_,Nf T F53 EY,W.mg_of X G a53,k53,b53⟩
 have DT:Def l.prog w K mg base 4 "share_by" ["pool","holders","keeper"] (Fc K Ac Aa):=⟨_,_,NC T F20 Ld DQ A5,W.mg_of X G a20,k20,b20⟩
 have HM:Def l.prog w K mg base 4 "alone_in" ["pool","head","keeper"] (G7 K Ac Aa PT):=⟨_,_,NF T F21 Bu A5,W.mg_of X G a21,k21,b21⟩
 have FM:CL l.prog w K mg base 4 Ac "alike" ["self","block"] (Fp K Ac Aa):=⟨_,_,Lw T F29 FH Gq FZ,⟨a29,i29,k29⟩,b29⟩
 have Ic:Def l.prog w K mg base 5 "share_in" ["pool","head","keeper"] (G4 K Ac Aa PT):=⟨_,_,Nk T F19 DT Bu,W.mg_of X G a19,k19,b19⟩
 have Hr:Def l.prog w K mg base 5 "over_in" ["pool","head"] (HS K Ac Aa PT):=⟨_,_,Pb T F24 Bu HI DT,W.mg_of X G a24,k24,b24⟩
 have Bv:Def l.prog w K mg base 7 "_law_words" ["_law_thing"] (D4 K):=⟨_,_,Lz T F54 (W.mg_of X G a54) k54 b54,W.mg_of X G a54,k54,b54⟩
 have CA:Def l.prog w K mg base 8 "_law_sums" ["_law_blocks_here","_law_held_here","_law_keeper"] (Ds K):=⟨_,_,Mv T F58 Bv,W.mg_of X G a58,k58,b58⟩
 have ET:Def l.prog w K mg base 9 "words_of" ["thing"] (GQ K):=⟨_,_,Om T F8 BE A6 (W.mg_of X G a8) k8 b8,W.mg_of X G a8,k8,b8⟩
 have Gb:Def l.prog w K mg base 9 "_law_right" ["_law_pool","_law_blocks_here","_law_head_here","_law_held_here","_law_keeper"] (Fk K Ac Aa PT):=⟨_,_,Lm T F59 CA Ek HM Fn Ic A4,W.mg_of X G a59,k59,b59⟩
 have Js:Def l.prog w K mg base 10 "size_of" ["block"] (HN K):=⟨_,_,PP T F12 ET,W.mg_of X G a12,k12,b12⟩
 have DH:O3 l.prog w K mg base 11 Aa "TakenCell" ["self","own_tag","block"] (Dv K Aa):=⟨_,_,IT T F26 Js JH,⟨Gi,a26,i26,FO⟩,W.mg_of X G FK,b26⟩
 have G2:CL l.prog w K mg base 13 Ac "take" ["self","tag","block"] (FQ K Ac Aa):=⟨_,_,Mn T F31 DH Dt El GL,⟨a31,i31,k31⟩,b31⟩
 have Ij:CL l.prog w K mg base 14 Ac "put" ["self","block","birth"] (GB K Ac Aa):=⟨_,_,N2 T F28 FM G2 C8 FH,⟨a28,i28,k28⟩,b28⟩
 have Cu:Def l.prog w K mg base 15 "_law_put" ["_law_pool","_law_blocks_here","_law_block","_law_birth"] (E9 K Ac Aa):=⟨_,_,Ot T F46 Ij,W.mg_of X G a46,k46,b46⟩
 have Fj:Def l.prog w K mg base 16 "_law_blocks" ["_law_script","_law_pool","_law_names_here"] (E6 K Ac Aa):=⟨_,_,K8 T F48 BS AZ Cu GW EW,W.mg_of X G a48,k48,b48⟩
 exact VX T F60 AZ FS GG Fj G3 GU HH Hr BS Fm Gb A4 CA Bv
theorem walk {l:W.OpenLaw} {q:Program} {loose:List Str} {XP:(Str->Option Value)->Heap->Prop} {YP:World->Heap->Prop} {d:DefRec} {K:Params->W.Frag} {PT:Addr} (hn:l.most=some 63) (hdf:d.params.defaults=[])
  (hY:∀(w:World) (h:Heap),YP w h->(K w.params).In h) (hT:∀(w:World) (h:Heap),YP w h->∀T∈[PT],h.get? T=some (W.tabObj #[]))
  (F:∀(w:World) (mg:Str->Option Value) (fa:Addr) (h:Heap),(K w.params).In h->h.Ns mainGlobals mg->mg d.name=some (.ref fa)->
   ∃fd:FuncData,(∀(s:Shared) (u:Value),BindsTo s fd ⟨[u],[]⟩ [("_law_script",u)])/\(∀T∈[PT],(K w.params).lookup T=none/\∃c,W.codeHdIn (K w.params) c T=true)/\∀base:Heap,(K w.params).In base->base.Ns mainGlobals mg->PL mg base->FnOk l.prog w (K w.params) mg base Cf 17 fa fd ["_law_script"] (Mo (K w.params) PT)) :
  W.WalkO q loose XP YP l.row.toRowW d [] (λf vs=>PySem.call f vs):=
 L2.RO (n:=63) (k:=17) (x:="_law_script") (CX:=λ_=>Cf) (sp:=λw=>Mo (K w.params) PT) hn (by decide) hdf ⟨rfl,by decide,by decide⟩ hY hT F (λ_ _ a ns hl hO hS=>⟨a,ns,rfl,hS,hl,.inl (hO.1 _ (by simp)),λ_=>rfl⟩) λ_ _ _ _ _ z=>z
end K57
def PySem.W.Fast.tw15641715125113993005:Type:=PySem.Expr
theorem PySem.W.Fast.te15641715125113993005:PySem.Expr = PySem.W.Fast.tw15641715125113993005:=rfl
def PySem.W.Fast.tw90343872475197607:Type:=PySem.Params
theorem PySem.W.Fast.te90343872475197607:PySem.Params = PySem.W.Fast.tw90343872475197607:=rfl
open PySem PySem.W PyProof.Rows
set_option maxRecDepth 100000 in
set_option maxHeartbeats 0 in
theorem PySem.Challenge.cw_stemshelf_k57_shares_holds : PySem.Challenge.rw_stemshelf_k57_shares.Holds := by
 w_on;o_law;k_head;(case hw=>w_witness2)
 k_fill
 refine K57.walk (l:=PySem.Challenge.rw_stemshelf_k57_shares) rfl rfl (λw h Y=>W.km_in_of Y) (λw h Y=>W.km_tabs_of Y) ?F
 case F=>
  intro w mg fa h KX G hmg
  refine' K57.all_mk KX G hmg ?a0 ?l0 ?c0 ?k0 ?a1 ?l1 ?c1 ?k1 ?a2 ?l2 ?c2 ?k2 ?a3 ?l3 ?c3 ?k3 ?a4 ?l4 ?c4 ?k4 ?a5 ?l5 ?c5 ?k5 ?a6 ?l6 ?c6 ?k6 ?a7 ?l7 ?c7 ?k7 ?a8 ?l8 ?c8 ?k8 ?a9 ?l9 ?c9 ?k9 ?a10 ?l10 ?c10 ?k10 ?a11 ?l11 ?c11 ?k11 ?a12 ?l12 ?c12 ?k12 ?a13 ?l13 ?c13 ?k13 ?a14 ?l14 ?c14 ?k14 ?a15 ?l15 ?c15 ?k15 ?Ul ?V4 ?a16 ?l16 ?c16 ?k16 ?a17 ?l17 ?c17 ?k17 ?a18 ?l18 ?c18 ?k18 ?a19 ?l19 ?c19 ?k19 ?a20 ?l20 ?c20 ?k20 ?a21 ?l21 ?c21 ?k21 ?a22 ?l22 ?c22 ?k22 ?a23 ?l23 ?c23 ?k23 ?a24 ?l24 ?c24 ?k24 ?a25 ?i25 ?l25 ?c25 ?k25 ?a26 ?i26 ?l26 ?c26 ?k26 ?a27 ?i27 ?l27 ?c27 ?k27 ?a28 ?i28 ?l28 ?c28 ?k28 ?a29 ?i29 ?l29 ?c29 ?k29 ?a30 ?i30 ?l30 ?c30 ?k30 ?a31 ?i31 ?l31 ?c31 ?k31 ?a32 ?i32 ?l32 ?c32 ?k32 ?a33 ?i33 ?l33 ?c33 ?k33 ?a34 ?i34 ?l34 ?c34 ?k34 ?a35 ?i35 ?l35 ?c35 ?k35 ?a36 ?i36 ?l36 ?c36 ?k36 ?a37 ?i37 ?l37 ?c37 ?k37 ?a38 ?i38 ?l38 ?c38 ?k38 ?a39 ?i39 ?l39 ?c39 ?k39 ?a40 ?i40 ?l40 ?c40 ?k40 ?a41 ?i41 ?l41 ?c41 ?k41 ?a42 ?l42 ?c42 ?k42 ?a43 ?l43 ?c43 ?k43 ?a44 ?l44 ?c44 ?k44 ?a45 ?l45 ?c45 ?k45 ?a46 ?l46 ?c46 ?k46 ?a47 ?l47 ?c47 ?k47 ?a48 ?l48 ?c48 ?k48 ?a49 ?l49 ?c49 ?k49 ?a50 ?l50 ?c50 ?k50 ?a51 ?l51 ?c51 ?k51 ?a52 ?l52 ?c52 ?k52 ?a53 ?l53 ?c53 ?k53 ?a54 ?l54 ?c54 ?k54 ?a55 ?l55 ?c55 ?k55 ?a56 ?l56 ?c56 ?k56 ?a57 ?l57 ?c57 ?k57 ?a58 ?l58 ?c58 ?k58 ?a59 ?l59 ?c59 ?k59 ?a60 ?l60 ?c60 ?k60 ?Jp ?JC ?JG ?JA ?Jo ?Jm ?Jx ?n_Boards_shelves ?n_Boards_writes ?n_Boards_writes_left ?FK ?FU ?Gk ?Gp ?FY ?Gi ?FO ?n_TakenCell_own_tag ?n_TakenCell_own_size ?n_TakenCell_named ?n_TakenCell_times_named ?n_TakenCell_entries_beneath ?n_TakenCell_steps_beneath ?Mt ?Nd ?Mg ?MV ?Ng ?MZ ?MA ?n_Pool_boards ?n_Pool_taken ?n_Pool_by_sums ?n_Pool_draft ?n_Pool_first_maybe_free ?x_Lost ?Sh ?RH ?Pd ?Pc ?SV ?FP ?RM ?OT ?Se ?So ?Ms ?Lg ?SZ ?Ta ?MX ?M0 ?Fi ?G6 ?Ge ?M1 ?Tc ?La ?E1 ?Ga ?Dr ?GZ ?PD ?OJ ?EV ?Fg
  (case Jp|FK|Mt|x_Lost|a0|l0|c0|k0|a1|l1|c1|k1|a2|l2|c2|k2|a3|l3|c3|k3|a4|l4|c4|k4|a5|l5|c5|k5|a6|l6|c6|k6|a7|l7|c7|k7|a8|l8|c8|k8|a9|l9|c9|k9|a10|l10|c10|k10|a11|l11|c11|k11|a12|l12|c12|k12|a13|l13|c13|k13|a14|l14|c14|k14|a15|l15|c15|k15=>k_is)
  (case Ul|V4=>kernel_rfl)
  (case a16|l16|c16|k16|a17|l17|c17|k17|a18|l18|c18|k18|a19|l19|c19|k19|a20|l20|c20|k20|a21|l21|c21|k21|a22|l22|c22|k22|a23|l23|c23|k23|a24|l24|c24|k24|a25|i25|l25|c25|k25|a26|i26|l26|c26|k26|a27|i27|l27|c27|k27|a28|i28|l28|c28|k28|a29|i29|l29|c29|k29|a30|i30|l30|c30|k30|a31|i31|l31|c31|k31|a32|i32|l32|c32|k32|a33|i33|l33|c33|k33|a34|i34|l34|c34|k34|a35|i35|l35|c35|k35|a36|i36|l36|c36|k36|a37|i37|l37|c37|k37|a38|i38|l38|c38|k38|a39|i39|l39|c39|k39|a40|i40|l40|c40|k40|a41|i41|l41|c41|k41|a42|l42|c42|k42|a43|l43|c43|k43|a44|l44|c44|k44|a45|l45|c45|k45|a46|l46|c46|k46|a47|l47|c47|k47|a48|l48|c48|k48|a49|l49|c49|k49|a50|l50|c50|k50|a51|l51|c51|k51|a52|l52|c52|k52|a53|l53|c53|k53|a54|l54|c54|k54|a55|l55|c55|k55|a56|l56|c56|k56|a57|l57|c57|k57|a58|l58|c58|k58|a59|l59|c59|k59|a60|l60|c60|k60|JC|JG|JA|Jo|Jm|Jx|n_Boards_shelves|n_Boards_writes|n_Boards_writes_left|FU|Gk|Gp|FY|Gi|FO|n_TakenCell_own_tag|n_TakenCell_own_size|n_TakenCell_named|n_TakenCell_times_named|n_TakenCell_entries_beneath|n_TakenCell_steps_beneath|Nd|Mg|MV|Ng|MZ|MA|n_Pool_boards|n_Pool_taken|n_Pool_by_sums|n_Pool_draft|n_Pool_first_maybe_free|Sh|RH|Pd|Pc|SV|FP|RM|OT|Se|So|Ms|Lg|SZ|Ta|MX|M0|Fi|G6|Ge|M1|Tc|La|E1|Ga|Dr|GZ|PD|OJ|EV|Fg=>k_is)
