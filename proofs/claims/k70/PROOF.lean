import PyProof.Rows.All
import Wide.All
import OpenK.AllK
import Wide.FinOn
import Lean
import PyProof.EqAt
import PyProof.EqKinds
import PyProof.TupleCall
import PySem.Challenge.RW_stemshelf_k70_plain_trees
set_option compiler.extract_closed false
set_option Elab.async false
set_option linter.all false
set_option maxRecDepth 100000
def aa:=@List.length_map
def ae:=@PySem.wpAny_bind
def af:=@PySem.Heap.get?_push_of_some
def ah:=@List.mem_singleton
def ai:=@if_neg
def aj:=@List.mem_map
def ak:=@if_pos
def ao:=@List.mem_cons_of_mem
def aq:=@decide_eq_false
def ar:=@List.length_append
def au:=@Nat.le_refl
def av:=@decide_eq_true
def aw:=@List.mem_cons_self
def ay:=@Bool.false_ne_true
def az:=@List.map_map
def aA:=@List.getElem?_eq_some_iff
def aB:=@PySem.wpAny_pure
def aC:=@List.getElem?_eq_getElem
def aD:=@List.getElem?_map
def aE:=@of_decide_eq_true
def aF:=@List.map_cons
def aG:=@List.mem_append_right
def aH:=@PySem.Heap.get?_push_size
def aI:=@Option.some.inj
def aJ:=@List.append_nil
def aK:=@List.mem_append
def aL:=@PySem.Heap.lt_size
def aM:=@List.mem_cons
def aN:=@List.mem_of_getElem?
def aO:=@List.map_append
def aP:=@List.size_toArray
def aQ:=@Bool.and_eq_true
def aR:=@Int.emod_lt_of_pos
def aS:=@List.length_cons
def aU:=@Option.map_eq_some_iff
def aV:=@List.mem_filter
def aW:=@Nat.lt_of_lt_of_le
def aX:=@Nat.le_trans
def aY:=@List.take_of_length_le
def aZ:=@Int.emod_nonneg
def a4:=@Nat.ne_of_lt
def a5:=@List.all_eq_true
def a6:=@Nat.zero_le
def a7:=@PySem.F.plainAttrs_list
def a8:=@List.length_take
def bc:=@List.length_singleton
def bf:=@List.map_congr_left
def bg:=@PySem.wpAny_mono
def bh:=@PySem.sizeLine_eq
def bj:=@List.filter_cons
def bp:=@List.length_filter_le
def bq:=@Sum.inr.inj
def br:=@List.flatMap_cons
def bu:=@PySem.Txt.slice_le
def bw:=@List.nodup_cons
def bz:=@PySem.F.plainAttrs_str
def bA:=@List.mem_of_mem_take
def bB:=@List.mem_append_left
def bC:=@PySem.F.type_list_append
def bD:=@PySem.F.slot_list_append
def bE:=@Nat.le_of_ble_eq_true
def bF:=@List.length_drop
def bG:=@List.take_add_one
def bH:=@List.pairwise_map
def bI:=@List.append_assoc
def bJ:=@PySem.PassesOwn.never
def bK:=@List.find?_cons
def bL:=@List.cons_ne_nil
def bM:=@PySem.Heap.get?_update_other
def bN:=@PySem.wpAny_holding
def bO:=@List.head_eq_of_cons_eq
def bP:=@decide_eq_true_iff
def bQ:=@beq_iff_eq
def bR:=@PySem.Str.length_append
def bS:=@List.getElem?_append_right
def bT:=@List.dropLast_concat
def bU:=@PySem.W.kia_one
def bV:=@List.any_eq_true
def bW:=@List.getElem?_append_left
def bX:=@PySem.mem_of_lookup
def bY:=@List.flatMap_append
def bZ:=@decide_eq_true_eq
def b8:=@List.pairwise_cons
def b9:=@List.getElem_mem
def cf:=@List.cons.inj
def cg:=@List.append_eq_nil_iff
def cj:=@Bool.eq_false_iff
def cm:=@beq_eq_false_iff_ne
def cn:=@Bool.eq_iff_iff
def cq:=@List.pairwise_iff_getElem
def cu:=@List.take_length
def cw:=@PySem.Paired.length
def cx:=@List.nil_append
def cy:=@PySem.W.hideAll_get
def cz:=@PySem.Heap.get?_none_of_le
def cA:=@List.filter_eq_nil_iff
def cB:=@List.all_map
def cD:=@PySem.wpAny_truthy_bool
def cE:=@List.filter_append
def cF:=@List.getElem?_eq_none
def cG:=@PySem.wpAny_Call_Name_kw
def cH:=@PySem.Heap.size_push
def cI:=@Nat.lt_irrefl
def cJ:=@List.map_eq_nil_iff
def cK:=@List.cons_append
def cL:=@PySem.Around.under_plainId
def cM:=@PySem.wpAny_call
def cN:=@PySem.codeAny_builtin
def cO:=@List.nodup_nil
def cP:=@List.mem_of_mem_drop
def cQ:=@Bool.and_eq_true_iff
def cR:=@decide_eq_decide
def cS:=@Nat.ne_of_gt
def cT:=@List.map_nil
def cU:=@PySem.wpAny_newObj_type
def cW:=@List.mem_of_find?_eq_some
def cX:=@PySem.codeAny_call_builtin
def cY:=@List.map_take
def cZ:=@List.take_left'
def c7:=@List.drop_left'
def c8:=@PySem.codeAny_mono
def dc:=@PySem.W.callWith_K
def df:=@List.find?_eq_none
def dg:=@List.map_id
def dh:=@List.drop_eq_nil_of_le
def di:=@Int.toNat_natCast
def dq:=@PySem.SeqAt.EqAt.same
def du:=@PySem.tupleKind_room_in1
def dv:=@PySem.wpAny_getItem_str_slice
def dw:=@List.take_append_drop
def dy:=@List.lookup_cons_self
def dz:=@List.lookup_cons
def dA:=@List.all_cons
def dB:=@PySem.StrLaws.sliceText_from
def dC:=@PySem.PassesOwn.leaving
def dD:=@PySem.Calls.callWith_builtin
def dE:=@List.of_mem_zip
def dF:=@List.filter_eq_self
def dG:=@Array.length_toList
def dH:=@List.mem_filterMap
def dI:=@PySem.wpAny_passesOwn
def dJ:=@Option.filter_eq_some_iff
def dM:=@List.append_right_eq_self
def dN:=@Classical.byContradiction
def dO:=@Nat.lt_succ_of_lt
def dP:=@List.take_sublist
def dQ:=@List.nodup_append
def dR:=@List.find?_isSome
def dS:=@PySem.F.args_tuple_add_2
def dU:=@List.lt_trans
def dW:=@List.any_cons
def dX:=@PySem.W.KasT.kasWp_bind
def dY:=@PySem.W.looks_findIn
def dZ:=@PySem.call_meets
def eh:=@PySem.F.plainAttrs_dict
def eo:=@PySem.F.entry_tuple_add
def eu:=@List.mem_flatMap
def eC:=@List.length_eq_zero_iff
def eE:=@Int.eq_ofNat_of_zero_le
def eF:=@PySem.F.slot_tuple_add
def eG:=@Option.map_eq_none_iff
def eJ:=@Nat.zero_add
def eK:=@Nat.sub_zero
def eL:=@Nat.sub_self
def eM:=@Nat.le_of_eq
def eO:=@List.getElem?_set_self
def eQ:=@PySem.wpAny_pyIter_list
def eT:=@PySem.wpAny_loadPart_at
def eU:=@List.find?_some
def eV:=@PySem.wpAny_standAt
def eW:=@PySem.plainId_quiet
def eX:=@PySem.W.methodCall_KW
def eY:=@PySem.F.type_str_join
def eZ:=@PySem.F.slot_str_join
def e8:=@PySem.F.slot_dict_get
def fb:=@Array.getElem?_toList
def fc:=@List.take_zero
def fg:=@List.mem_range
def fh:=@List.getElem?_set_ne
def fj:=@List.getElem?_of_mem
def fk:=@List.drop_zero
def fm:=@PySem.call_meetsIn
def fq:=@PySem.W.plainGet_of
def fu:=@List.take_succ_cons
def fv:=@List.filterMap_cons
def fz:=@PySem.wpAny_execs_nil
def fA:=@PySem.post_val_or_str
def fB:=@List.map_drop
def fD:=@of_decide_eq_false
def fE:=@PySem.StrLaws.strSub_toList
def fF:=@PySem.W.of_hideAll
def fG:=@PySem.W.Looks.here
def fH:=@List.getElem?_take
def fJ:=@eq_false
def fK:=@Option.isSome_map
def fL:=@Nat.le_of_lt
def fM:=@List.set_set
def fN:=@PySem.Calls.evalArgs_plain
def fO:=@PyProof.Rows.slot_tuple_getitem
def fP:=@Nat.lt_succ_self
def fQ:=@Array.toList_inj
def fR:=@PySem.wpAny_attempt
def fS:=@PyProof.Rows.subscriptTail_builtinR
def fT:=@Prod.mk.inj
def fU:=@Nat.le_succ
def fV:=@PySem.typeIs_str
def fW:=@PySem.SeqAt.EqAt.str_int
def fX:=@PySem.SeqAt.EqAt.of_refs
def fY:=@PySem.SeqAt.EqAt.int_str
def fZ:=@List.length_nil
def gb:=@List.countP_eq_length_filter
def gc:=@PySem.Code.quiet_builtin
def gd:=@PySem.Calls.spliced_cons
def gf:=@PySem.F.type_str_startswith
def gh:=@PySem.F.slot_str_startswith
def gm:=@PyProof.Rows.callWith_type1
def gq:=@PySem.wpAny_typeOf
def gr:=@PySem.concat_meets
def gu:=@PySem.SeqAt.RcAt.tuples
def gw:=@PySem.F.excBase_ValueError
def gx:=@List.perm_ext_iff_of_nodup
def gy:=@List.perm_append_singleton
def gz:=@PySem.Calls.spliced_nil
def gA:=@Array.perm_iff_toList_perm
def gB:=@Array.getElem?_eq_some_iff
def gD:=@PySem.plainObj_wpAny_Assign_Attribute
def gE:=@PySem.F.slot_dict_delitem
def gG:=@List.drop_eq_getElem_cons
def gH:=@PySem.wpAny_execs_cons
def gI:=@PySem.noFill_tuple_add
def gJ:=@PySem.F.type_list_extend
def gK:=@PySem.F.slot_list_extend
def gL:=@List.Pairwise.imp_of_mem
def gM:=@PySem.StrLaws.found_one
def gO:=@PySem.F.type_list_count
def gQ:=@PySem.F.slot_list_count
def gR:=@PySem.F.plain_list_iadd
def gS:=@PySem.F.args_dict_get_2
def gU:=@PyProof.Rows.listUpdate_at
def gV:=@PySem.W.funFrames_hide
def gW:=@PySem.W.cellsFrom_some
def gX:=@PySem.F.type_str_split
def gY:=@PySem.F.type_str_count
def gZ:=@PySem.F.slot_str_split
def g6:=@PySem.F.slot_str_count
def g8:=@PySem.F.entry_dict_get
def g9:=@List.range_succ_eq_map
def hG:=@List.length_pos_of_mem
def hV:=@PySem.F.slot_dict_pop
def hW:=@Array.getElem?_modify
def hZ:=@PySem.wpAny_loadPart
def ia:=@PySem.wpAny_load
def ib:=@PySem.wpAny_Name
def ic:=@PySem.W.hideAll_none
def ie:=@List.dropLast_subset
def ig:=@PySem.Calls.Name_function_global
def ij:=@PySem.W.findObj_own
def ik:=@PySem.W.codeHd_of_K
def ip:=@List.length_take_le
def iq:=@List.length_pos_iff
def ir:=@List.countP_pos_iff
def iu:=@PySem.wpAny_newList
def iw:=@PySem.seq_tuple_add
namespace L2
open PySem PySem.Spec PyProof.Rows
abbrev Key:=Sum Int Str
def NH:Key->Value->Bool
 | .inl k,v=>Value.isInt k v
 | .inr x,v=>Value.isStrOf x v
def Zo (w:World):Key->Int
 | .inl k=>hashInt k
 | .inr x=>hashStr w x
theorem BY:∀{k:Key} {v:Value},NH k v=true->(∃i t,k=Sum.inl i/\v=Value.int i t)\/(∃x t,k=Sum.inr x/\v=Value.str x t)
 | .inl i,v,h=>by
  obtain⟨t,e⟩:=Value.isInt_shape (k:=i) (v:=v) h;exact .inl ⟨i,t,rfl,e⟩
 | .inr x,v,h=>by
  obtain⟨t,e⟩:=Value.isStrOf_shape (x:=x) (v:=v) h;exact .inr ⟨x,t,rfl,e⟩
theorem Ti (i:Int)(t:Tok):NH (.inl i) (.int i t)=true:=by simp[NH,Value.isInt]
theorem Te (x:Str)(t:Tok):NH (.inr x) (.str x t)=true:=by simp[NH,Value.isStrOf]
theorem Xu (a b:Int):decide ((Sum.inl a:Key)=Sum.inl b)=(a == b):=by
 by_cases e:a=b
 ·subst e;simp
 ·have h:¬(Sum.inl a:Key)=Sum.inl b:=λq=>e (Sum.inl.inj q)
  rw[aq h];exact(cm.mpr e).symm
theorem Xg (a b:Str):decide ((Sum.inr a:Key)=Sum.inr b)=decide (a=b):=by
 by_cases e:a=b
 ·subst e;simp
 ·have h:¬(Sum.inr a:Key)=Sum.inr b:=λq=>e (bq q)
  rw[aq h,aq e]
theorem W8 (a:Int)(b:Str):decide ((Sum.inl a:Key)=Sum.inr b)=false:=aq (λq=>nomatch q)
theorem W1 (a:Str)(b:Int):decide ((Sum.inr a:Key)=Sum.inl b)=false:=aq (λq=>nomatch q)
def A6 (prog:Program)(w:World):PySem.KeyKind prog w Key where
 is:=NH
 hash:=Zo w
 inj:=λv a b ha hb=>by
  rcases BY ha with⟨i,t,rfl,rfl⟩|⟨x,t,rfl,rfl⟩
  ·rcases BY hb with⟨j,u,rfl,e⟩|⟨y,u,rfl,e⟩
   ·injection e with e1 _;rw[e1]
   ·exact nomatch e
  ·rcases BY hb with⟨j,u,rfl,e⟩|⟨y,u,rfl,e⟩
   ·exact nomatch e
   ·injection e with e1 _;rw[e1]
 byValue:=λk v h=>by
  rcases BY h with⟨i,t,rfl,rfl⟩|⟨x,t,rfl,rfl⟩<;>rfl
 pyHash:=λhv h=>by
  rcases BY hv with⟨i,t,rfl,rfl⟩|⟨x,t,rfl,rfl⟩
  ·exact wpAny_pyHash_int h
  ·exact wpAny_pyHash_str h
 eqBool:=λhu hv h=>by
  rcases BY hu with⟨i,t,rfl,rfl⟩|⟨x,t,rfl,rfl⟩
  ·rcases BY hv with⟨j,u,rfl,rfl⟩|⟨y,u,rfl,rfl⟩
   ·rw[Xu] at h;exact wpAny_eqBool_int h
   ·rw[W8] at h;exact fY i t y u _ _ _ _ h
  ·rcases BY hv with⟨j,u,rfl,rfl⟩|⟨y,u,rfl,rfl⟩
   ·rw[W1] at h;exact fW x t j u _ _ _ _ h
   ·rw[Xg] at h;exact wpAny_eqBool_str h
 «strs»:=λk x t v h=>by
  rcases BY h with⟨i,u,rfl,e⟩|⟨y,u,rfl,e⟩
  ·exact nomatch e
  ·injection e with e1 _
   subst e1;cases v<;>rfl
theorem Pw (prog:Program)(w:World)(i:Int)(t:Tok):(A6 prog w).is (.inl i) (.int i t)=true:=Ti i t
theorem PX (prog:Program)(w:World)(x:Str)(t:Tok):(A6 prog w).is (.inr x) (.str x t)=true:=Te x t
inductive V where
 |non|bl (b:Bool)|int (i:Int)|str (x:Str)|byt (b:Array UInt8)|flt (b:UInt64)|ref (a:Addr)|ty (n:String)
 deriving DecidableEq
def RelV:V->Value->Prop
 | .non,u=>u=Value.none
 | .bl b,u=>u=Value.bool b
 | .int i,u=>∃t,u=Value.int i t
 | .str x,u=>∃t,u=Value.str x t
 | .byt b,u=>∃t,u=Value.bytes b t
 | .flt b,u=>∃t,u=Value.float b t
 | .ref a,u=>u=Value.ref a
 | .ty n,u=>u=Value.type n
abbrev A5:List V->List Value->Prop:=Paired RelV
theorem A5.length {xs:List V}{us:List Value}(r:A5 xs us):xs.length=us.length:=cw r
theorem A5.get:∀{xs:List V} {us:List Value} {i:Nat} {x:V},A5 xs us->xs[i]?=some x->∃u,us[i]?=some u/\RelV x u
 |_,_,_,_,.nil,e=>by simp at e
 |_,_,0,_,.cons r _,e=>by simp at e;subst e;exact⟨_,rfl,r⟩
 |_,_,i+1,x,.cons _ t,e=>by
  obtain⟨u,h1,h2⟩:=A5.get (i:=i) (x:=x) t (by simpa using e);exact⟨u,by simpa using h1,h2⟩
theorem A5.append:∀{xs ys:List V} {us ws:List Value},A5 xs us->A5 ys ws->A5 (xs++ys) (us++ws)
 |_,_,_,_,.nil,s=>s
 |_,_,_,_,.cons r t,s=>.cons r (A5.append t s)
theorem A5.take:∀{xs:List V} {us:List Value} (n:Nat),A5 xs us->A5 (xs.take n) (us.take n)
 |_,_,0,_=>.nil
 |_,_,_+1,.nil=>.nil
 |_,_,n+1,.cons r t=>.cons r (A5.take n t)
theorem A5.drop:∀{xs:List V} {us:List Value} (n:Nat),A5 xs us->A5 (xs.drop n) (us.drop n)
 |_,_,0,r=>r
 |_,_,_+1,.nil=>.nil
 |_,_,n+1,.cons _ t=>A5.drop n t
def Gj:Option V->Option Value->Prop
 |some v,some u=>RelV v u
 |none,none=>True
 |_,_=>False
def KV {κ:Type}:List (κ×V)->List (κ×Value)->Prop:=Paired λ(p:κ×V) (q:κ×Value)=>p.1=q.1/\RelV p.2 q.2
def kV:Key->V
 | .inl i=>.int i
 | .inr x=>.str x
inductive HO where
 |lst (xs:List V)
 |tup (xs:List V)
 |dK (kvs:List (Key×V))|dT (kvs:List (List Key×V))
 |set (S:Int->Bool) (n:Nat)
 |ins (C dx:Addr) (fs:List (Str×V))
 |own (x:Addr)
 |xd (fs:List (Str×V))
 |met (f x:Addr)
 |rng (lo hi:Int)
 |frz (o:Obj) (u:HO)
 |tbl (ps:Array Value)
 |ext (φ:Heap->Prop)
abbrev Hp:=Addr->Option HO
def upd (H:Hp)(a:Addr)(o:HO):Hp:=λb=>if b=a then some o else H b
theorem Ac {H:Hp}{a:Addr}{o:HO}:upd H a o a=some o:=by unfold upd;rw[ak rfl]
theorem Ak {H:Hp}{a b:Addr}{o:HO}(h:b≠a):upd H a o b=H b:=by unfold upd;rw[ai h]
theorem BW {H:Hp}{a b:Addr}{o u:HO}(h:H a=some o)(h':H b=some u)(d:o≠u):a≠b:=by
 intro e;subst e;rw[h] at h';exact d (aI h')
theorem Cr {H:Hp}{a b:Addr}{o:HO}(h:H a=some o)(h':H b=none):a≠b:=by
 intro e;subst e;rw[h] at h';cases h'
def ZF:List V->Bool
 |[.int _,_]=>true
 |_=>false
def M7 (b:Bool)(h:Heap)(a:Addr)(items:Array Value):Prop:=∃o,h.get? a=some o/\o.cls=.type "tuple"/\∃n,o.data=.seq items n/\(b=false->o.dict=none)
theorem M7.is {b:Bool}{h:Heap}{a:Addr}{items:Array Value}(x:M7 b h a items):IsTup h a items:=let⟨o,e,c,n,d,_⟩:=x;⟨o,e,c,n,d⟩
theorem M7.lt {b:Bool}{h:Heap}{a:Addr}{items:Array Value}(x:M7 b h a items):a<h.objs.size:=x.is.lt
theorem M7.new {b:Bool}(h:Heap)(items:Array Value):M7 b (h.push { cls:=.type "tuple",data:=.seq items }) h.objs.size items:=⟨_,aH _ rfl,rfl,_,rfl,λ_=>rfl⟩
section
variable (P:Program)(w:World)
def Be (H:Hp)(h:Heap)(a:Addr):HO->Prop
 | .lst xs=>xs.length<=sizeLine/\∃(its:List Value) (n:Nat),A5 xs its/\h.get? a=some { cls:=.type "list",data:=.seq its.toArray n }
 | .tup xs=>xs.length<=sizeLine/\∃its:List Value,A5 xs its/\M7 (ZF xs) h a its.toArray
 | .dK kvs=>kvs.length<=sizeLine/\(a == sysModules)=false/\∃vs,KV kvs vs/\h.DictOf (A6 P w) a vs
 | .dT kvs=>kvs.length<=sizeLine/\(a == sysModules)=false/\∃xs:List (List Key×Addr×Value),
   Paired (λ(p:List Key×V) (q:List Key×Addr×Value)=>p.1=q.1/\H q.2.1=some (.tup (p.1.map kV))/\RelV p.2 q.2.2) kvs xs/\
   ∃o es ep,h.get? a=some o/\o.ExactDict/\o.data=.dict es ep/\es.toList=xs.map (entryOfKey (tupleKind (A6 P w)))/\(xs.map (·.1)).Nodup
 | .set S n=>h.SetOf (intKind P w) a S n
 | .ins C dx fs=>H dx=some (.own a)/\fs.length<=1000/\dx≠a/\h.get? a=some (PySem.W.instObj C dx)/\
   ∃mA,h.Ns1 dx mA/\(∀f,Gj (fs.lookup f) (mA f))/\PySem.Within mA (fs.map (·.1))
 | .own _=>∃o,h.get? a=some o
 | .xd fs=>∃mA,h.Ns1 a mA/\∀f,Gj (fs.lookup f) (mA f)
 | .rng lo hi=>∃t u v,h.get? a=some { cls:=.type "range",data:=.fields #[.int lo t,.int hi u,.int 1 v] }
 | .frz o u=>h.get? a=some o/\Be H h a u
 | .tbl ps=>h.get? a=some { cls:=.none,data:=.fields ps }
 | .met f x=>h.get? a=some (PySem.W.methodObj (.ref f) (.ref x))
 | .ext φ=>φ h/\(∃o,h.get? a=some o)/\∀h1 h2:Heap,φ h1->(∀o,h1.get? a=some o->h2.get? a=some o)->φ h2
def IA (H:Hp)(h:Heap):Prop:=∀a o,H a=some o->Be P w H h a o
end
section
variable {P:Program}{w:World}{H H':Hp}{h h':Heap}{a:Addr}{o:HO}
theorem Be.lt (x:Be P w H h a o):a<h.objs.size:=by
 cases o with
 |lst xs=>obtain⟨_,_,_,_,e⟩:=x;exact aL e
 |tup xs=>obtain⟨_,_,_,p⟩:=x;exact p.lt
 |dK kvs=>obtain⟨_,_,_,_,o,_,_,e,_⟩:=x;exact aL e
 |dT kvs=>obtain⟨_,_,_,_,o,_,_,e,_⟩:=x;exact aL e
 |set S n=>obtain⟨o,_,_,_,e,_⟩:=x;exact aL e
 |ins C dx fs=>obtain⟨_,_,_,e,_⟩:=x;exact aL e
 |own y=>obtain⟨_,e⟩:=x;exact aL e
 |xd fs=>obtain⟨_,⟨_,_,_,e,_⟩,_⟩:=x;exact aL e
 |rng lo hi=>obtain⟨_,_,_,e⟩:=x;exact aL e
 |frz ob u=>obtain⟨e,_⟩:=x;exact aL e
 |tbl ps=>exact aL (show h.get? a=some _ from x)
 |met f y=>exact aL (show h.get? a=some _ from x)
 |ext φ=>obtain⟨_,⟨_,e⟩,_⟩:=x;exact aL e
theorem Paired.mapP {α β:Type}{F G:α->β->Prop}:∀{l₁:List α} {l₂:List β},Paired F l₁ l₂->(∀a b,F a b->G a b)->Paired G l₁ l₂
 |_,_,.nil,_=>.nil
 |_,_,.cons r t,f=>.cons (f _ _ r) (Paired.mapP t f)
theorem Be.stay (x:Be P w H h a o) (k:∀b u,(b=a\/H b=some (.own a))->h.get? b=some u->h'.get? b=some u)
  (ho:∀b,H b=some (.own a)->H' b=some (.own a)) (ht:∀b xs,H b=some (.tup xs)->H' b=some (.tup xs)):Be P w H' h' a o:=by
 induction o with
 |lst xs=>obtain⟨z,its,n,r,e⟩:=x;exact⟨z,its,n,r,k _ _ (.inl rfl) e⟩
 |tup xs=>obtain⟨z,its,r,ob,e,c⟩:=x;exact⟨z,its,r,ob,k _ _ (.inl rfl) e,c⟩
 |dK kvs=>obtain⟨z,y,vs,r,ob,es,ep,e,c⟩:=x;exact⟨z,y,vs,r,ob,es,ep,k _ _ (.inl rfl) e,c⟩
 |dT kvs=>
  obtain⟨z,y,xs,r,ob,es,ep,e,c⟩:=x;exact⟨z,y,xs,Paired.mapP r λp q z=>⟨z.1,ht _ _ z.2.1,z.2.2⟩,ob,es,ep,k _ _ (.inl rfl) e,c⟩
 |set S n=>obtain⟨ob,es,ep,t,e,c⟩:=x;exact⟨ob,es,ep,t,k _ _ (.inl rfl) e,c⟩
 |ins C dx fs=>
  obtain⟨d,z,ne,e,mA,⟨od,es,ep,e2,c⟩,r⟩:=x;exact⟨ho _ d,z,ne,k _ _ (.inl rfl) e,mA,⟨od,es,ep,k _ _ (.inr d) e2,c⟩,r⟩
 |own y=>obtain⟨ob,e⟩:=x;exact⟨ob,k _ _ (.inl rfl) e⟩
 |xd fs=>obtain⟨mA,⟨od,es,ep,e,c⟩,r⟩:=x;exact⟨mA,⟨od,es,ep,k _ _ (.inl rfl) e,c⟩,r⟩
 |rng lo hi=>obtain⟨t,u,v,e⟩:=x;exact⟨t,u,v,k _ _ (.inl rfl) e⟩
 |frz ob u ih=>obtain⟨e,q⟩:=x;exact⟨k _ _ (.inl rfl) e,ih q⟩
 |tbl ps=>
  have e:h.get? a=some { cls:=.none,data:=.fields ps }:=x;show h'.get? a=some { cls:=.none,data:=.fields ps };exact k a _ (.inl rfl) e
 |met f y=>
  have e:h.get? a=some (PySem.W.methodObj (.ref f) (.ref y)):=x;show h'.get? a=some (PySem.W.methodObj (.ref f) (.ref y));exact k a _ (.inl rfl) e
 |ext φ=>obtain⟨p,⟨o,e⟩,st⟩:=x;exact⟨st _ _ p λo q=>k _ _ (.inl rfl) q,⟨o,k _ _ (.inl rfl) e⟩,st⟩
theorem IA.lt (x:IA P w H h)(e:H a=some o):a<h.objs.size:=(x a o e).lt
theorem IA.fresh (x:IA P w H h)(e:h.objs.size<=a):H a=none:=by
 cases q:H a with
 |none=>rfl
 |some u=>exact absurd (aW (x.lt q) e) (cI _)
theorem IA.kept (x:IA P w H h)(k:∀b u,h.get? b=some u->h'.get? b=some u):IA P w H h':=λa o e=>
 (x a o e).stay (λb u _ q=>k b u q) (λ_ q=>q) λ_ _ q=>q
theorem IA.laid (x:IA P w H h)(k:∀b u,h.get? b=some u->h'.get? b=some u)(hp:h.objs.size<=a)(new:Be P w (upd H a o) h' a o):IA P w (upd H a o) h':=λb u e=>by
 have hn:=x.fresh hp
 by_cases hb:b=a
 ·subst hb;rw[Ac] at e;cases e;exact new
 ·rw[Ak hb] at e;exact(x b u e).stay (λc v _ q=>k c v q) (λc q=>by rw[Ak (Cr q hn)];exact q) λc xs q=>by rw[Ak (Cr q hn)];exact q
end
def Rd (H:Hp)(a:Addr)(u:HO):Prop:=H a=some u\/∃o,H a=some (.frz o u)
theorem Rd.ok {P:Program}{w:World}{H:Hp}{h:Heap}{a:Addr}{u:HO}(r:Rd H a u)(x:IA P w H h):Be P w H h a u:=by
 rcases r with r|⟨o,r⟩
 ·exact x a u r
 ·obtain⟨_,q⟩:=x a _ r;exact q
def YI:Option HO->Prop
 |some (.lst _)=>True
 |some (.dK _)=>True
 |some (.dT _)=>True
 |some (.set _ _)=>True
 |some (.ins _ _ _)=>True
 |some (.ext _)=>True
 |_=>False
section
variable {P:Program}{w:World}{H:Hp}{h h':Heap}{x e:Addr}{o':HO}
theorem IA.write (ok:IA P w H h) (mu:YI (H x)) (he:e=x\/H e=some (.own x)) (k:∀b u,b≠e->h.get? b=some u->h'.get? b=some u) (heo:∃u,h'.get? e=some u)
  (new:Be P w (upd H x o') h' x o'):IA P w (upd H x o') h':=λb u q=>by
 have nown:∀c y,H c=some (.own y)->c≠x:=λc y r z=>by subst z;rw[r] at mu;exact mu
 have ntup:∀c xs,H c=some (.tup xs)->c≠x:=λc xs r z=>by subst z;rw[r] at mu;exact mu
 by_cases hb:b=x
 ·subst hb;rw[Ac] at q;cases q;exact new
 ·rw[Ak hb] at q
  by_cases hbe:b=e
  ·have q':H b=some (.own x):=by
    rcases he with z|z
    ·exact absurd (hbe.trans z) hb
    ·rw[hbe];exact z
   rw[q] at q';cases q';obtain⟨v,hv⟩:=heo;exact⟨v,by rw[hbe];exact hv⟩
  ·refine(ok b u q).stay (λc v hc r=>k c v ?_ r) (λc r=>by rw[Ak (nown c b r)];exact r) λc xs r=>by rw[Ak (ntup c xs r)];exact r
   rcases hc with rfl|hc
   ·exact hbe
   ·rintro rfl
    rcases he with z|z
    ·exact nown c b hc z
    ·rw[hc] at z;cases z;exact hb rfl
end
structure Un (fs ex:List Addr) (H H':Hp) (h h':Heap):Prop where
 keep:∀b o,h.get? b=some o->H b=none->b∉fs->b∉ex->h'.get? b=some o
 slot:∀b o,h.get? b=some o->H b=none->b∈fs->b∉ex->∃sl,h'.get? b=some { o with slots:=sl }
 free:∀b o,h.get? b=some o->H b=none->b∉ex->H' b=none
 there:∀b o,h.get? b=some o->b∉ex->∃o',h'.get? b=some o'
 tups:∀b xs,H b=some (.tup xs)->H' b=some (.tup xs)
 frzs:∀b o u,H b=some (.frz o u)->H' b=some (.frz o u)
 tbls:∀b ps,H b=some (.tbl ps)->∃more,H' b=some (.tbl (ps++more))
section
variable {fs fs' ex ex':List Addr}{H H1 H2:Hp}{h h1 h2 h':Heap}{a x e:Addr}{o:HO}
theorem Un.any (u:Un fs ex H H1 h h1){b:Addr}{ob:Obj}(q:h.get? b=some ob)(n:H b=none)(hx:b∉ex):∃sl,h1.get? b=some { ob with slots:=sl }:=by
 by_cases hb:b∈fs
 ·exact u.slot b ob q n hb hx
 ·exact⟨ob.slots,u.keep b ob q n hb hx⟩
theorem Un.kept (k:∀b u,h.get? b=some u->h'.get? b=some u):Un fs ex H H h h':=
 ⟨λb ob q _ _ _=>k b ob q,λb ob q _ _ _=>⟨ob.slots,k b ob q⟩,λ_ _ _ n _=>n,λb ob q _=>⟨ob,k b ob q⟩,λ_ _ q=>q,λ_ _ _ q=>q,λ_ ps q=>⟨#[],by rw[q];simp⟩⟩
theorem Un.refl:Un fs ex H H h h:=Un.kept λ_ _ q=>q
theorem Un.laid (k:∀b u,h.get? b=some u->h'.get? b=some u)(hp:h.objs.size<=a)(hn:H a=none):Un fs ex H (upd H a o) h h' where
 keep:=λb u q _ _ _=>k b u q
 slot:=λb u q _ _ _=>⟨u.slots,k b u q⟩
 free:=λb u q n _=>by rw[Ak (a4 (aW (aL q) hp))];exact n
 there:=λb u q _=>⟨u,k b u q⟩
 tups:=λb xs q=>by rw[Ak (Cr q hn)];exact q
 frzs:=λb u xs q=>by rw[Ak (Cr q hn)];exact q
 tbls:=λb ps q=>⟨#[],by rw[Ak (Cr q hn),q];simp⟩
theorem Un.write (mu:YI (H x))(he:e=x\/H e=some (.own x))(k:∀b u,b≠e->h.get? b=some u->h'.get? b=some u)(heo:∃u,h'.get? e=some u):Un fs ex H (upd H x o) h h':=by
 have hx:∀b,H b=none->b≠x:=λb n z=>by subst z;rw[n] at mu;exact mu
 have hb:∀b,H b=none->b≠e:=λb n z=>by
  subst z;rcases he with r|r
  ·exact hx b n r
  ·rw[n] at r;cases r
 have hm:∀b u,H b=some u->¬YI (some u)->b≠x:=λb u q nm z=>by subst z;rw[q] at mu;exact nm mu
 refine⟨λb u q n _ _=>k b u (hb b n) q,λb u q n _ _=>⟨u.slots,k b u (hb b n) q⟩,λb u q n _=>by rw[Ak (hx b n)];exact n,λb u q _=>?_,
  λb xs q=>by rw[Ak (hm b _ q λz=>z)];exact q,λb u xs q=>by rw[Ak (hm b _ q λz=>z)];exact q,λb ps q=>⟨#[],by rw[Ak (hm b _ q λz=>z),q];simp⟩⟩
 by_cases hbe:b=e
 ·subst hbe;exact heo
 ·exact⟨u,k b u hbe q⟩
end
def YV (h:Heap)(H:Hp):List Addr:=(List.range h.objs.size).filter λa=>(H a).isSome
def OL (h:Heap)(H:Hp):Heap:=PySem.W.hideAll h (YV h H)
theorem SR (h:Heap)(H:Hp):(OL h H).objs.size=h.objs.size:=PySem.W.hideAll_size _ _
theorem MM {h:Heap}{H:Hp}{b:Addr}{o:Obj}(e:h.get? b=some o)(n:H b=none):(OL h H).get? b=some o:=
 cy _ e λhm=>by
  have q:(H b).isSome=true:=(aV.mp hm).2;rw[n] at q;simp at q
theorem Wn {h:Heap}{H:Hp}{b:Addr}{o:Obj}(e:(OL h H).get? b=some o):h.get? b=some o/\H b=none:=by
 have e':h.get? b=some o:=fF (YV h H) e;refine⟨e',?_⟩;cases q:H b with
 |none=>rfl
 |some x=>
  have hm:b∈YV h H:=aV.mpr ⟨fg.mpr (aL e'),by simp[q]⟩;have z:(OL h H).get? b=none:=ic (YV h H) hm;rw[z] at e;cases e
def VZ (g h:Heap)(L:Addr):List (Addr×Obj):=(List.range h.objs.size).filterMap λa=>if a=L\/(g.get? a).isSome=true then none else(h.get? a).map λo=>(a,o)
def rest (g h:Heap)(L d:Addr):List (Addr×Obj):=(VZ g h L).filter λp=>decide (p.1≠d)
structure Mod (K:PySem.W.Frag) (mg:Str->Option Value) (base:Heap):Prop where
 kin:K.In base
 glob:base.Ns mainGlobals mg
 blt:∃mb,base.Ns builtinsNs mb/\∀x:Str,x≠"__name__"->mb x=bootBuiltins x
 nolimit:base.NoLimit
structure Cx where
 prog:Program
 w:World
 K:PySem.W.Frag
 mg:Str->Option Value
 base:Heap
 A:Around
 N:List Str
 s₀:Shared
 H₀:Hp
 env:Env
 outer:List Env
 stack:List Env
 ex:List Addr
 fn:Str->Bool
 calm:Bool
 pn:List (Addr×Obj)
 xe:Value->Shared->Prop
def G4 (l:List Env):List Addr:=l.filterMap (·.frame)
abbrev Cx.fs (X:Cx):List Addr:=G4 X.outer
def Zq (sc:Scope)(x:Str):Prop:=sc.names.lookup x=some .local\/sc.names.lookup x=some .cell\/sc.names.lookup x=some .free
def Loc (sc:Scope)(x:Str):Prop:=sc.names.lookup x=some .local\/sc.names.lookup x=some .cell
def Look (env:Env)(h:Heap)(m:Str->Option Value)(x:Str)(u:Value):Prop:=
 (env.kindOf x=some .local/\m x=some u)\/((env.kindOf x=some .cell\/env.kindOf x=some .free)/\∃c,env.cells.lookup x=some c/\h.IsCell c (some u))
structure Cx.Ok (X:Cx):Prop where
 mod:Mod X.K X.mg X.base
 kind:X.env.scope.kind=.function
 glob:X.env.globals=mainGlobals
 blt:X.env.builtins=builtinsNs
 above:X.s₀.heap.objs.size<=X.env.locals
 inj:∀x y c,X.env.cells.lookup x=some c->X.env.cells.lookup y=some c->x=y
 has:∀x,(X.env.kindOf x=some .cell\/X.env.kindOf x=some .free)->∃c,X.env.cells.lookup x=some c
 cab:∀x c,X.fn x=true->X.env.cells.lookup x=some c->X.s₀.heap.objs.size<=c
 hd:X.calm=true->X.A.handled=none
 frames:X.A.frames=some X.stack
 stk:X.stack=X.outer\/(X.stack=X.env::X.outer/\X.env.frame=some X.env.locals)
 exf:∀b∈X.ex,b≠X.env.locals/\∀x c,X.env.cells.lookup x=some c->c≠b
 bs:∀b o,X.base.get? b=some o->X.s₀.heap.get? b=some o/\X.H₀ b=none
 bsz:X.base.objs.size<=X.s₀.heap.objs.size
 noex:∀b o,X.base.get? b=some o->b∉X.ex
 exfs:∀b∈X.ex,b∉X.fs
 funs:X.s₀.heap.FunFrames X.base X.outer
 frf:∀b∈X.fs,X.H₀ b=none
structure Inv (X:Cx) (pins:List (Addr×Obj)) (σ:List (Option V)) (H:Hp) (s:Shared):Prop where
 ok:X.Ok
 os:s.os=X.s₀.os
 bare:AllBare s.gens
 base:Un X.fs X.ex X.H₀ H X.s₀.heap s.heap
 loc:∃m,s.heap.Ns X.env.locals m/\∀(i:Nat) (x:Str) (v:V),X.N[i]?=some x->σ[i]?=some (some v)->Zq X.env.scope x->∃u,RelV v u/\Look X.env s.heap m x u
 cell:∀x c,X.env.cells.lookup x=some c->∃v,s.heap.IsCell c v
 free:H X.env.locals=none
 freeC:∀x c,X.env.cells.lookup x=some c->H c=none
 pin:∀p∈X.pn++pins,s.heap.get? p.1=some p.2/\H p.1=none/\p.1≠X.env.locals/\p.1∉X.fs/\∀v,p.2.data≠.cell v
 hok:IA X.prog X.w H s.heap
 len:σ.length=X.N.length
section
variable {X:Cx}{pins:List (Addr×Obj)}{σ:List (Option V)}{H H':Hp}{s:Shared}{h':Heap}
theorem Cx.Ok.nofr (ok:X.Ok){b:Addr}{o:Obj}(e:X.base.get? b=some o):b∉X.fs:=λhb=>by
 have:=(ok.funs.mem hb).1;rw[e] at this;cases this
theorem Inv.bs (I:Inv X pins σ H s):∀b o,X.base.get? b=some o->s.heap.get? b=some o/\H b=none:=λb o e=>
 ⟨I.base.keep b o (I.ok.bs b o e).1 (I.ok.bs b o e).2 (I.ok.nofr e) (I.ok.noex b o e),I.base.free b o (I.ok.bs b o e).1 (I.ok.bs b o e).2 (I.ok.noex b o e)⟩
theorem Inv.bk (I:Inv X pins σ H s):∀b o,X.base.get? b=some o->s.heap.get? b=some o:=λb o e=>(I.bs b o e).1
theorem Inv.mod (I:Inv X pins σ H s):Mod X.K X.mg X.base:=I.ok.mod
theorem Inv.kIn (I:Inv X pins σ H s):X.K.In s.heap:=I.ok.mod.kin.keeps I.bk
theorem Inv.nolimit (I:Inv X pins σ H s):s.heap.NoLimit:=I.ok.mod.nolimit.keeps I.bk
theorem Inv.lt (I:Inv X pins σ H s):X.env.locals<s.heap.objs.size:=let⟨_,hn,_⟩:=I.loc;hn.lt
theorem Inv.sz (I:Inv X pins σ H s):X.s₀.heap.objs.size<=s.heap.objs.size:=aX I.ok.above (fL I.lt)
theorem Inv.nofs (I:Inv X pins σ H s){a:Addr}(h:s.heap.objs.size<=a):a∉X.fs:=λhb=>by
 obtain⟨_,o,ho,_⟩:=I.ok.funs.mem hb;exact absurd (aW (aL ho) (aX I.sz h)) (cI _)
theorem Inv.cne (I:Inv X pins σ H s):∀x c,X.env.cells.lookup x=some c->c≠X.env.locals:=λx c e z=>by
 obtain⟨v,o,ho,hd⟩:=I.cell x c e;obtain⟨m,⟨o',es,ep,ho',hd',_⟩,_⟩:=I.loc;rw[z,ho'] at ho;cases ho;rw[hd'] at hd;cases hd
theorem Inv.funs (I:Inv X pins σ H s):s.heap.FunFrames X.base X.outer:=by
 have all:∀(l:List Env),(∀b∈G4 l,b∈X.fs)->X.s₀.heap.FunFrames X.base l->s.heap.FunFrames X.base l:=by
  intro l
  induction l with
  |nil=>intro _ _;trivial
  |cons env r ih=>
   intro hs hl;obtain⟨hk,⟨L,o,hf,hn,ho,hd⟩,hr⟩:=hl;have hL:L∈X.fs:=hs L (by unfold G4;rw[fv,hf];exact aw);obtain⟨sl,e⟩:=I.base.slot L o ho (I.ok.frf L hL) hL λz=>I.ok.exfs L z hL
   exact⟨hk,⟨L,_,hf,hn,e,hd⟩,ih (λb hb=>hs b (by unfold G4;rw[fv,hf];exact ao _ hb)) hr⟩
 exact all X.outer (λ_ hb=>hb) I.ok.funs
theorem Inv.stack (I:Inv X pins σ H s):s.heap.FunFrames X.base X.stack:=by
 rcases I.ok.stk with e|⟨e,hf⟩
 ·rw[e];exact I.funs
 ·rw[e];obtain⟨m,hn,_⟩:=I.loc;refine .cons (by rw[I.ok.kind];decide) hf hn ?_ I.funs;exact cz (aX I.ok.bsz I.ok.above)
theorem Inv.stkSub (I:Inv X pins σ H s):∀b∈G4 X.stack,b∈X.env.locals::X.fs:=λb hb=>by
 rcases I.ok.stk with e|⟨e,hf⟩
 ·rw[e] at hb;exact ao _ hb
 ·rw[e] at hb;unfold G4 at hb;rw[fv,hf] at hb;exact hb
theorem Inv.stkFree (I:Inv X pins σ H s):∀b∈G4 X.stack,H b=none:=λb hb=>by
 rcases aM.mp (I.stkSub b hb) with e|hb
 ·rw[e];exact I.free
 ·obtain⟨_,o,ho,_⟩:=I.ok.funs.mem hb;exact I.base.free b o ho (I.ok.frf b hb) λz=>I.ok.exfs b z hb
theorem Inv.step {g':Array GenState} {t':Nat} {d':Drawn} {ch:List Addr} (I:Inv X pins σ H s)
  (hch:∀b∈ch,(b∈X.ex\/X.s₀.heap.objs.size<=b)/\b≠X.env.locals/\(∀x c,X.env.cells.lookup x=some c->c≠b)/\∀p∈X.pn++pins,p.1≠b)
  (keep:∀b o,b≠X.env.locals->b∉X.fs->b∉ch->s.heap.get? b=some o->H b=none->h'.get? b=some o)
  (slot:∀b o,b≠X.env.locals->b∈X.fs->b∉ch->s.heap.get? b=some o->H b=none->∃sl,h'.get? b=some { o with slots:=sl }) (free:∀b o,b∉ch->s.heap.get? b=some o->H b=none->H' b=none)
  (there:∀b o,b∉ch->s.heap.get? b=some o->∃o',h'.get? b=some o')
  (tups:∀b xs,H b=some (.tup xs)->H' b=some (.tup xs)) (frzs:∀b o u,H b=some (.frz o u)->H' b=some (.frz o u)) (tbls:∀b ps,H b=some (.tbl ps)->∃more,H' b=some (.tbl (ps++more)))
  (ns:∀m,s.heap.Ns X.env.locals m->h'.Ns X.env.locals m) (hok:IA X.prog X.w H' h') (hg:AllBare g') :
  Inv X pins σ H' { s with heap:=h',gens:=g',drawn:=d',toks:=t' }:=by
 have neL:∀b o,X.s₀.heap.get? b=some o->b≠X.env.locals:=λb o e=>a4 (aW (aL e) I.ok.above)
 have neC:∀b o,X.s₀.heap.get? b=some o->b∉X.ex->b∉ch:=λb o e hx hb=>by
  rcases(hch b hb).1 with z|z
  ·exact hx z
  ·exact absurd (aW (aL e) z) (cI _)
 have cellK:∀x c,X.env.cells.lookup x=some c->∀v,s.heap.IsCell c v->h'.IsCell c v:=λx c e v ⟨o,ho,hd⟩=>by
  have nch:c∉ch:=λz=>(hch c z).2.2.1 x c e rfl
  by_cases hc:c∈X.fs
  ·obtain⟨sl,q⟩:=slot c o (I.cne x c e) hc nch ho (I.freeC x c e);exact⟨_,q,hd⟩
  ·exact⟨o,keep c o (I.cne x c e) hc nch ho (I.freeC x c e),hd⟩
 refine⟨I.ok,I.os,hg,⟨λb o e n hb hx=>?_,λb o e n hb hx=>?_,λb o e n hx=>?_,λb o e hx=>?_,λb xs e=>tups b xs (I.base.tups b xs e),λb o xs e=>frzs b o xs (I.base.frzs b o xs e),λb ps e=>?_⟩,?_,λx c e=>?_,?_,λx c e=>?_,λp hp=>?_,hok,I.len⟩
 ·exact keep b o (neL b o e) hb (neC b o e hx) (I.base.keep b o e n hb hx) (I.base.free b o e n hx)
 ·obtain⟨sl,e1⟩:=I.base.slot b o e n hb hx;obtain⟨sl',e2⟩:=slot b _ (neL b o e) hb (neC b o e hx) e1 (I.base.free b o e n hx);exact⟨sl',e2⟩
 ·obtain⟨o',e1⟩:=I.base.there b o e hx;exact free b o' (neC b o e hx) e1 (I.base.free b o e n hx)
 ·obtain⟨o',e1⟩:=I.base.there b o e hx;exact there b o' (neC b o e hx) e1
 ·obtain⟨m1,e1⟩:=I.base.tbls b ps e;obtain⟨m2,e2⟩:=tbls b _ e1;exact⟨m1++m2,by rw[e2,Array.append_assoc]⟩
 ·obtain⟨m,hn,hl⟩:=I.loc;refine⟨m,ns m hn,λi x v e1 e2 e3=>?_⟩;obtain⟨u,r,l⟩:=hl i x v e1 e2 e3;refine⟨u,r,?_⟩;rcases l with l|⟨k,c,e,z⟩
  ·exact .inl l
  ·exact .inr ⟨k,c,e,cellK x c e _ z⟩
 ·obtain⟨v,z⟩:=I.cell x c e;exact⟨v,cellK x c e v z⟩
 ·obtain⟨m,⟨o,_,_,ho,_⟩,_⟩:=I.loc;exact free _ o (λz=>(hch _ z).2.1 rfl) ho I.free
 ·obtain⟨v,o,ho,hd⟩:=I.cell x c e;exact free c o (λz=>(hch c z).2.2.1 x c e rfl) ho (I.freeC x c e)
 ·obtain⟨e,n,ne,nf,d⟩:=I.pin p hp;have nch:p.1∉ch:=λz=>(hch p.1 z).2.2.2 p hp rfl
  exact⟨keep p.1 p.2 ne nf nch e n,free p.1 p.2 nch e n,ne,nf,d⟩
theorem Inv.un {t':Nat}(I:Inv X pins σ H s)(u:Un X.fs [] H H' s.heap h')(hok:IA X.prog X.w H' h'):Inv X pins σ H' { s with heap:=h',toks:=t' }:=by
 obtain⟨m,⟨o,es,ep,ho,r⟩,_⟩:=id I.loc;obtain⟨sl,hL⟩:=u.any ho I.free (by simp);exact I.step (g':=s.gens) (d':=s.drawn) (ch:=[]) (λ_ z=>nomatch z) (λb o _ hb _ e n=>u.keep b o e n hb (by simp)) (λb o _ hb _ e n=>u.slot b o e n hb (by simp)) (λb o _ e n=>u.free b o e n (by simp)) (λb o _ e=>u.there b o e (by simp)) u.tups u.frzs u.tbls (λm' hm=>by
  obtain⟨o',es',ep',ho',r'⟩:=hm;rw[ho] at ho';cases ho';exact⟨_,es',ep',hL,r'⟩) hok I.bare
theorem Inv.call {g':Array GenState} {t':Nat} {d':Drawn} {ch:List Addr} (I:Inv X pins σ H s) (u:Un (G4 X.stack) ch H H' s.heap h') (hok:IA X.prog X.w H' h') (hg:AllBare g')
  (hch:∀b∈ch,(b∈X.ex\/X.s₀.heap.objs.size<=b)/\b≠X.env.locals/\(∀x c,X.env.cells.lookup x=some c->c≠b)/\∀p∈X.pn++pins,p.1≠b) :
  Inv X pins σ H' { s with heap:=h',gens:=g',drawn:=d',toks:=t' }:=by
 obtain⟨m,⟨o,es,ep,ho,r⟩,_⟩:=id I.loc;obtain⟨sl,hL⟩:=u.any ho I.free λz=>(hch _ z).2.1 rfl
 exact I.step (ch:=ch) hch (λb o hL hb hc e n=>u.keep b o e n (λz=>(aM.mp (I.stkSub b z)).elim hL hb) hc) (λb o _ _ hc e n=>u.any e n hc) (λb o hc e n=>u.free b o e n hc) (λb o hc e=>u.there b o e hc) u.tups u.frzs u.tbls (λm' hm=>by
  obtain⟨o',es',ep',ho',r'⟩:=hm;rw[ho] at ho';cases ho';exact⟨_,es',ep',hL,r'⟩) hok hg
theorem Inv.turned {t':Nat} {it:Addr} (I:Inv X pins σ H s) (k:∀b o,b≠it->s.heap.get? b=some o->h'.get? b=some o) (hn:H it=none) (hL:it≠X.env.locals)
  (h1:it∈X.ex\/X.s₀.heap.objs.size<=it) (h2:∀x c,X.env.cells.lookup x=some c->c≠it) (h3:∀p∈X.pn++pins,p.1≠it):Inv X pins σ H { s with heap:=h',toks:=t' }:=by
 have nit:∀b u,H b=some u->b≠it:=λb u e z=>by rw[z,hn] at e;cases e
 refine I.step (g':=s.gens) (d':=s.drawn) (ch:=[it]) (λb hb=>?_) (λb o _ _ hc e _=>k b o (λz=>hc (by simp[z])) e) (λb o _ _ hc e _=>⟨o.slots,k b o (λz=>hc (by simp[z])) e⟩) (λ_ _ _ _ n=>n)
  (λb o hc e=>⟨o,k b o (λz=>hc (by simp[z])) e⟩) (λ_ _ e=>e) (λ_ _ _ e=>e) (λb ps e=>⟨#[],by rw[e];simp⟩) (λm hm=>?_) (λb u e=>?_) I.bare
 ·have e:b=it:=by simpa using hb
  subst e;exact⟨h1,hL,h2,h3⟩
 ·obtain⟨o,es,ep,ho,r⟩:=hm;exact⟨o,es,ep,k _ o (Ne.symm hL) ho,r⟩
 ·refine(I.hok b u e).stay (λc v hc q=>k c v ?_ q) (λ_ q=>q) λ_ _ q=>q
  rcases hc with z|z
  ·rw[z];exact nit b u e
  ·exact nit c _ z
theorem Inv.tok (I:Inv X pins σ H s)(t:Nat):Inv X pins σ H { s with toks:=t }:=I.un (h':=s.heap) (t':=t) Un.refl I.hok
theorem Inv.kept {t':Nat}(I:Inv X pins σ H s)(k:∀b u,s.heap.get? b=some u->h'.get? b=some u):Inv X pins σ H { s with heap:=h',toks:=t' }:=I.un (Un.kept k) (I.hok.kept k)
theorem Inv.laid {a:Addr}{o:HO}{t':Nat}(I:Inv X pins σ H s)(k:∀b u,s.heap.get? b=some u->h'.get? b=some u)(hp:s.heap.objs.size<=a)(new:Be X.prog X.w (upd H a o) h' a o) :
  Inv X pins σ (upd H a o) { s with heap:=h',toks:=t' }:=I.un (Un.laid k hp (I.hok.fresh hp)) (I.hok.laid k hp new)
theorem Inv.write {x e:Addr} {o:HO} {t':Nat} (I:Inv X pins σ H s) (mu:YI (H x)) (he:e=x\/H e=some (.own x)) (k:∀b u,b≠e->s.heap.get? b=some u->h'.get? b=some u) (heo:∃u,h'.get? e=some u)
  (new:Be X.prog X.w (upd H x o) h' x o):Inv X pins σ (upd H x o) { s with heap:=h',toks:=t' }:=I.un (Un.write mu he k heo) (I.hok.write mu he k heo new)
theorem Inv.pins_of {pins':List (Addr×Obj)}(I:Inv X pins σ H s)(h:∀p∈pins',s.heap.get? p.1=some p.2/\H p.1=none/\p.1≠X.env.locals/\p.1∉X.fs/\∀v,p.2.data≠.cell v):Inv X pins' σ H s:=
 ⟨I.ok,I.os,I.bare,I.base,I.loc,I.cell,I.free,I.freeC,λp hp=>(aK.mp hp).elim (λz=>I.pin p (bB _ z)) (h p),I.hok,I.len⟩
theorem Me {N:List Str}(hN:N.Nodup){i j:Nat}{x:Str}(a:N[i]?=some x)(b:N[j]?=some x):i=j:=by
 obtain⟨h1,e1⟩:=aA.mp a;obtain⟨h2,e2⟩:=aA.mp b;exact(List.getElem_inj hN).mp (e1.trans e2.symm)
theorem Tt {M:Model} {A:Around} {E:Value->Shared->Prop} {i:Nat} {x:Str} {v:V} {u:Value} {Q:Unit->Shared->Prop} (I:Inv X pins σ H s) (hN:X.N.Nodup) (hi:X.N[i]?=some x) (hx:Loc X.env.scope x) (r:RelV v u)
  (h:∀s',Inv X pins (σ.set i (some v)) H s'->(∃a,Heap.SameBut a s.heap s'.heap/\(a=X.env.locals\/X.env.cells.lookup x=some a))->Q () s') (hf:X.fn x=true\/X.env.scope.names.lookup x=some .local:=by first|exact .inl rfl|exact .inr rfl|assumption):wpAny M A (storeName X.env x u) Q E s:=by
 obtain⟨m,hn,hl⟩:=id I.loc;have hcls:(X.env.scope.kind == .class||(X.env.scope.kind == .module&&X.env.locals != X.env.globals))=false:=by rw[I.ok.kind];rfl
 have hiσ:i<σ.length:=by rw[I.len];exact(aA.mp hi).1
 have cne:=I.cne;have tracked:∀{a:Addr} {h':Heap},(∃o,s.heap.get? a=some o/\H a=none)->Heap.SameBut a s.heap h'->IA X.prog X.w H h':=λ{a h'} ha hs b ob e=>by
  obtain⟨_,_,hfree⟩:=ha;refine(I.hok b ob e).stay (λc w' hc q=>(hs.2 c ?_).trans q) (λ_ q=>q) λ_ _ q=>q
  rintro rfl
  rcases hc with rfl|hc
  ·rw[hfree] at e;cases e
  ·rw[hfree] at hc;cases hc
 rcases hx with hk|hk
 ·refine wpAny_storeName_local hk hn (λh' hn' hs=>?_) hcls;obtain⟨oL,_,_,hoL,_⟩:=id hn;refine h _ ⟨I.ok,I.os,I.bare,⟨λb o e n hb hx=>?_,λb o e n hb hx=>?_,I.base.free,λb o e hx=>?_,I.base.tups,I.base.frzs,I.base.tbls⟩,⟨_,hn',λj y v' e1 e2 e3=>?_⟩,λy c e=>?_,I.free,I.freeC,λp hp=>?_,tracked ⟨oL,hoL,I.free⟩ hs,by simpa using I.len⟩ ⟨_,hs,.inl rfl⟩
  ·exact(hs.2 b (a4 (aW (aL e) I.ok.above))).trans (I.base.keep b o e n hb hx)
  ·obtain⟨sl,e1⟩:=I.base.slot b o e n hb hx;exact⟨sl,(hs.2 b (a4 (aW (aL e) I.ok.above))).trans e1⟩
  ·obtain⟨o',e1⟩:=I.base.there b o e hx;exact⟨o',(hs.2 b (a4 (aW (aL e) I.ok.above))).trans e1⟩
  ·by_cases hj:j=i
   ·subst hj;rw[hi] at e1;cases e1;rw[eO hiσ] at e2;cases e2;exact⟨u,r,.inl ⟨hk,by simp⟩⟩
   ·rw[fh (Ne.symm hj)] at e2;obtain⟨u',r',q⟩:=hl j y v' e1 e2 e3;refine⟨u',r',?_⟩;rcases q with⟨k,e⟩|⟨k,c,e,z⟩
    ·refine .inl ⟨k,?_⟩;have:y≠x:=λe=>hj (Me hN e1 (e▸hi))
     simp[this,e]
    ·exact .inr ⟨k,c,e,z.sameBut hs (cne y c e)⟩
  ·obtain⟨w',z⟩:=I.cell y c e;exact⟨w',z.sameBut hs (cne y c e)⟩
  ·obtain⟨e,n,ne,nf,d⟩:=I.pin p hp;exact⟨(hs.2 p.1 ne).trans e,n,ne,nf,d⟩
 ·have hfn:X.fn x=true:=by
   rcases hf with z|z
   ·exact z
   ·rw[z] at hk;cases hk
  obtain⟨c,hc⟩:=I.ok.has x (.inl hk);obtain⟨w',z⟩:=I.cell x c hc;refine wpAny_storeName_cell I.ok.kind hk hc z (λh' hc' hs=>?_);obtain⟨oc,hoc,hocd⟩:=id z;refine h { s with heap:=h' } ⟨I.ok,I.os,I.bare,⟨λb o e n hb hx=>?_,λb o e n hb hx=>?_,I.base.free,λb o e hx=>?_,I.base.tups,I.base.frzs,I.base.tbls⟩,⟨m,hn.sameBut hs (Ne.symm (cne x c hc)),λj y v' e1 e2 e3=>?_⟩,λy c' e=>?_,I.free,I.freeC,λp hp=>?_,tracked ⟨oc,hoc,I.freeC x c hc⟩ hs,by simpa using I.len⟩ ⟨c,hs,.inr hc⟩
  ·exact(hs.2 b (a4 (aW (aL e) (I.ok.cab x c hfn hc)))).trans (I.base.keep b o e n hb hx)
  ·obtain⟨sl,e1⟩:=I.base.slot b o e n hb hx;exact⟨sl,(hs.2 b (a4 (aW (aL e) (I.ok.cab x c hfn hc)))).trans e1⟩
  ·obtain⟨o',e1⟩:=I.base.there b o e hx;exact⟨o',(hs.2 b (a4 (aW (aL e) (I.ok.cab x c hfn hc)))).trans e1⟩
  ·by_cases hj:j=i
   ·subst hj;rw[hi] at e1;cases e1;rw[eO hiσ] at e2;cases e2;exact⟨u,r,.inr ⟨.inl hk,c,hc,hc'⟩⟩
   ·rw[fh (Ne.symm hj)] at e2;obtain⟨u',r',q⟩:=hl j y v' e1 e2 e3;refine⟨u',r',?_⟩;rcases q with q|⟨k,c',e,z'⟩
    ·exact .inl q
    ·refine .inr ⟨k,c',e,z'.sameBut hs ?_⟩
     rintro rfl
     exact hj (Me hN e1 (I.ok.inj _ _ _ e hc▸hi))
  ·by_cases hcc:c'=c
   ·subst hcc;exact⟨_,hc'⟩
   ·obtain⟨w2,z2⟩:=I.cell y c' e;exact⟨w2,z2.sameBut hs hcc⟩
  ·obtain⟨e,n,ne,nf,d⟩:=I.pin p hp;refine⟨(hs.2 p.1 ?_).trans e,n,ne,nf,d⟩;intro q;rw[q,hoc] at e;have q':oc=p.2:=aI e;exact d w' (by rw[<-q'];exact hocd)
theorem JW {M:Model} {A:Around} {E:Value->Shared->Prop} {i:Nat} {x:Str} {v:V} {u:Value} {Q:Unit->Shared->Prop} (I:Inv X pins σ H s) (hN:X.N.Nodup) (hi:X.N[i]?=some x) (hx:Loc X.env.scope x) (r:RelV v u)
  (h:∀s',Inv X pins (σ.set i (some v)) H s'->Q () s') (hf:X.fn x=true\/X.env.scope.names.lookup x=some .local:=by first|exact .inl rfl|exact .inr rfl|assumption):wpAny M A (storeName X.env x u) Q E s:=
 Tt I hN hi hx r (λs' I' _=>h s' I') hf
theorem Inv.call' {s':Shared} {ch:List Addr} (I:Inv X pins σ H s) (ho:s'.os=s.os) (u:Un (G4 X.stack) ch H H' s.heap s'.heap) (hok:IA X.prog X.w H' s'.heap) (hg:AllBare s'.gens)
  (hch:∀b∈ch,(b∈X.ex\/X.s₀.heap.objs.size<=b)/\b≠X.env.locals/\(∀x c,X.env.cells.lookup x=some c->c≠b)/\∀p∈X.pn++pins,p.1≠b):Inv X pins σ H' s':=by
 obtain⟨h',g',d',t',o'⟩:=s';have e:o'=s.os:=ho;subst e;exact I.call (g':=g') (t':=t') (d':=d') u hok hg hch
end
abbrev XK:=Value->Option Addr->Hp->Prop
abbrev St:=List (Option V)
abbrev VK:=V->Hp->Prop
abbrev TE:=St->Hp->VK->Prop
abbrev TT:=St->Hp->(Bool->Hp->Prop)->Prop
abbrev TA:=St->Hp->(List V->Hp->Prop)->Prop
structure Ends where
 nx:St->Hp->Prop
 rt:VK
 bk:St->Hp->Prop:=λ_ _=>False
 ct:St->Hp->Prop:=λ_ _=>False
abbrev TS:=Ends->St->Hp->Prop
def EP (X:Cx)(pins:List (Addr×Obj))(σ:St)(Q:VK)(u:Value)(s':Shared):Prop:=∃v H',Inv X pins σ H' s'/\RelV v u/\Q v H'
def TP (X:Cx)(pins:List (Addr×Obj))(σ:St)(Q:Bool->Hp->Prop)(b:Bool)(s':Shared):Prop:=∃H',Inv X pins σ H' s'/\Q b H'
def AP (X:Cx)(pins:List (Addr×Obj))(σ:St)(Q:List V->Hp->Prop)(us:List Value)(s':Shared):Prop:=∃vs H',Inv X pins σ H' s'/\A5 vs us/\Q vs H'
def SP (X:Cx)(pins:List (Addr×Obj))(D:Ends)(f:Flow)(s':Shared):Prop:=
 match f with
 | .next=>∃σ' H',Inv X pins σ' H' s'/\D.nx σ' H'
 | .brk=>∃σ' H',Inv X pins σ' H' s'/\D.bk σ' H'
 | .cont=>∃σ' H',Inv X pins σ' H' s'/\D.ct σ' H'
 | .ret u=>∃v σ' H',Inv X pins σ' H' s'/\RelV v u/\D.rt v H'
def PE (X:Cx)(e:Expr)(t:TE):Prop:=
 ∀(pins:List (Addr×Obj)) (s:Shared) (σ:St) (H:Hp) (Q:VK),Inv X pins σ H s->t σ H Q->wpAny (model X.prog X.w) X.A (eval e X.env) (EP X pins σ Q) X.xe s
def PT (X:Cx)(e:Expr)(t:TT):Prop:=
 ∀(pins:List (Addr×Obj)) (s:Shared) (σ:St) (H:Hp) (Q:Bool->Hp->Prop),Inv X pins σ H s->t σ H Q->wpAny (model X.prog X.w) X.A (isTrue e X.env (eval e X.env)) (TP X pins σ Q) X.xe s
def PW (X:Cx)(e:Expr)(t:TT):Prop:=
 ∀(whole:Sem Value) (pins:List (Addr×Obj)) (s:Shared) (σ:St) (H:Hp) (Q:Bool->Hp->Prop),Inv X pins σ H s->t σ H Q->wpAny (model X.prog X.w) X.A (isTrue e X.env whole) (TP X pins σ Q) X.xe s
theorem PW.pt {X:Cx}{e:Expr}{t:TT}(h:PW X e t):PT X e t:=h _
def PA (X:Cx)(es:List Expr)(t:TA):Prop:=
 ∀(pos:Pos) (pins:List (Addr×Obj)) (s:Shared) (σ:St) (H:Hp) (Q:List V->Hp->Prop),Inv X pins σ H s->t σ H Q->wpAny (model X.prog X.w) X.A (spliced (backTo pos (starEach es X.env))) (AP X pins σ Q) X.xe s
def PS (X:Cx)(st:Stmt)(t:TS):Prop:=
 ∀(pins:List (Addr×Obj)) (s:Shared) (σ:St) (H:Hp) (D:Ends),Inv X pins σ H s->t D σ H->wpAny (model X.prog X.w) X.A (exec st X.env) (SP X pins D) X.xe s
def Qo (X:Cx)(st:List Stmt)(t:TS):Prop:=
 ∀(pins:List (Addr×Obj)) (s:Shared) (σ:St) (H:Hp) (D:Ends),Inv X pins σ H s->t D σ H->wpAny (model X.prog X.w) X.A (execs st X.env) (SP X pins D) X.xe s
theorem BN {α:Type}{t:Sem α}{Q Q':α->Shared->Prop}{M:Model}{A:Around}{E:Value->Shared->Prop}{s:Shared}(h:wpAny M A t Q E s)(hQ:∀a s,Q a s->Q' a s):wpAny M A t Q' E s:=bg h hQ λ_ _ x=>x
section
variable {X:Cx}
theorem bin {a b:Expr} {ta tb:TE} (ha:PE X a ta) (hb:PE X b tb) {pins:List (Addr×Obj)} {s:Shared} {σ:St} {H:Hp} {R:V->V->Hp->Prop} (I:Inv X pins σ H s) (h:ta σ H λx H1=>tb σ H1 λy H2=>R x y H2)
  {α:Type} {Q:α->Shared->Prop} {f:Value->Value->Sem α}
  (hf:∀v u s2 x y H2,Inv X pins σ H2 s2->RelV x v->RelV y u->R x y H2->wpAny (model X.prog X.w) X.A (f v u) Q X.xe s2) :
  wpAny (model X.prog X.w) X.A (eval a X.env) (λv s₁=>wpAny (model X.prog X.w) X.A (eval b X.env) (λu s₂=>wpAny (model X.prog X.w) X.A (f v u) Q X.xe s₂) X.xe s₁) X.xe s:=by
 refine BN (ha pins s σ H _ I h) λv s1 ⟨x,H1,I1,r1,q1⟩=>?_
 refine BN (hb pins s1 σ H1 _ I1 q1) λu s2 ⟨y,H2,I2,r2,q2⟩=>?_
 exact hf v u s2 x y H2 I2 r1 r2 q2
def NB (i:Nat):TE:=λσ H Q=>∃v,σ[i]?=some (some v)/\Q v H
def tC (v:V):TE:=λ_ H Q=>Q v H
theorem Xi {i:Nat}{x:Str}{pos:Pos}(hN:X.N[i]?=some x)(hv:Zq X.env.scope x)(hd:(x == ("__debug__":Str))=false:=by decide)(hcd:(x == ("__classdict__":Str))=false:=by decide):PE X (.Name x pos) (NB i):=by
 intro pins s σ H Q I h;obtain⟨v,e,h⟩:=h;obtain⟨m,hn,hl⟩:=I.loc;obtain⟨u,r,l⟩:=hl i x v hN e hv;have fin:EP X pins σ Q u s:=⟨v,H,I,r,h⟩
 rcases l with⟨hk,hm⟩|⟨hk,c,hc,hcell⟩
 ·exact ib (wpAny_loadName_local I.ok.kind hk hn hm fin) hd
 ·rcases hk with hk|hk
  ·exact ib (wpAny_loadName_cell I.ok.kind hk hc hcell fin) hd
  ·exact ib (wpAny_loadName_free I.ok.kind hk hc hcell fin hcd) hd
theorem Ag {i j pos}:PE X (.Constant (.int i) j pos) (tC (.int i)):=λ_ _ _ H _ I h=>wpAny_Constant_int ⟨.int i,H,I.tok _,⟨_,rfl⟩,h⟩
theorem G5 {b j pos}:PE X (.Constant (.bool b) j pos) (tC (.bl b)):=λ_ _ _ H _ I h=>Constant_bool ⟨.bl b,H,I,rfl,h⟩
theorem Ig {j pos}:PE X (.Constant .none j pos) (tC .non):=λ_ _ _ H _ I h=>Constant_none ⟨.non,H,I,rfl,h⟩
theorem Aj {x j pos}:PE X (.Constant (.str x) j pos) (tC (.str x)):=λ_ _ _ H _ I h=>Calls.Constant_str ⟨.str x,H,I.tok _,⟨_,rfl⟩,h⟩
def Gl (X:Cx)(x:Str):Prop:=X.env.kindOf x=some .globalImplicit
theorem GF {E:Value->Shared->Prop} {pins:List (Addr×Obj)} {s:Shared} {σ:St} {H:Hp} {x:Str} {u:Value} {pos:Pos} {Q:Value->Shared->Prop} (I:Inv X pins σ H s) (hg:Gl X x) (hm:X.mg x=some u) (h:Q u s)
  (hd:(x == ("__debug__":Str))=false:=by decide):wpAny (model X.prog X.w) X.A (eval (.Name x pos) X.env) Q E s:=
 ig I.ok.kind hg (Calls.loadGlobal_global (by rw[I.ok.glob];exact I.mod.glob.keeps I.bk) hm h) hd
theorem MO {E:Value->Shared->Prop} {pins:List (Addr×Obj)} {s:Shared} {σ:St} {H:Hp} {x:Str} {u:Value} {pos:Pos} {Q:Value->Shared->Prop} (I:Inv X pins σ H s) (hg:Gl X x) (hm:X.mg x=none) (hv:bootBuiltins x=some u) (h:Q u s)
  (hn:x≠"__name__":=by decide) (hd:(x == ("__debug__":Str))=false:=by decide):wpAny (model X.prog X.w) X.A (eval (.Name x pos) X.env) Q E s:=by
 obtain⟨mb,h1,h2⟩:=I.mod.blt;exact ig I.ok.kind hg (Calls.loadGlobal_builtin (by rw[I.ok.glob];exact I.mod.glob.keeps I.bk) hm (by rw[I.ok.blt];exact h1.keeps I.bk) ((h2 x hn).trans hv) h) hd
theorem OS {x:Str}{v:V}{u:Value}{pos:Pos}(hg:Gl X x)(hm:X.mg x=some u)(r:RelV v u)(hd:(x == ("__debug__":Str))=false:=by decide):PE X (.Name x pos) (tC v):=
 λ_ _ _ H _ I h=>GF I hg hm ⟨v,H,I,r,h⟩ hd
theorem V0 {x:Str}{v:V}{u:Value}{pos:Pos}(hg:Gl X x)(hm:X.mg x=none)(hv:bootBuiltins x=some u)(r:RelV v u)(hn:x≠"__name__":=by decide)(hd:(x == ("__debug__":Str))=false:=by decide):PE X (.Name x pos) (tC v):=
 λ_ _ _ H _ I h=>MO I hg hm hv ⟨v,H,I,r,h⟩ hn hd
variable {a b:Expr}{ta tb:TE}{pos:Pos}
def PC (X:Cx)(op:CmpOp)(a b:Expr)(t:TE):Prop:=
 ∀(pins:List (Addr×Obj)) (s:Shared) (σ:St) (H:Hp) (Q:VK),Inv X pins σ H s->t σ H Q->
  wpAny (model X.prog X.w) X.A (eval a X.env) (λv s₁=>wpAny (model X.prog X.w) X.A (eval b X.env) (λu s₂=>wpAny (model X.prog X.w) X.A (compareOp op v u) (EP X pins σ Q) X.xe s₂) X.xe s₁) X.xe s
theorem Bt (b:Expr){op:CmpOp}(h:op≠.In)(h2:op≠.NotIn):behindInMarks op b=false:=by
 have e1:(op == CmpOp.In)=false:=by cases op<;>first|rfl|exact absurd rfl h
 have e2:(op == CmpOp.NotIn)=false:=by cases op<;>first|rfl|exact absurd rfl h2
 cases b<;>simp[behindInMarks,e1,e2]
def Zp (ta:TE):TE:=λσ H Q=>ta σ H λx H1=>Q (.bl (decide (x=.non))) H1
def Yc (ta:TE):TE:=λσ H Q=>ta σ H λx H1=>Q (.bl (!decide (x=.non))) H1
theorem RelV.none_iff {x:V}{v:Value}(r:RelV x v):(v == Value.none)=decide (x=.non):=by
 cases x with
 |non=>cases r;rfl
 |bl _=>cases r;rfl
 |int _=>obtain⟨t,rfl⟩:=r;rfl
 |str _=>obtain⟨t,rfl⟩:=r;rfl
 |byt _=>obtain⟨t,rfl⟩:=r;rfl
 |flt _=>obtain⟨t,rfl⟩:=r;rfl
 |ref _=>cases r;rfl
 |ty _=>cases r;rfl
theorem FZ {j pos'}(ha:PE X a ta):PC X .Is a (.Constant .none j pos') (Zp ta):=by
 intro pins s σ H Q I h;refine BN (ha pins s σ H _ I h) λv s1 ⟨x,H1,I1,r1,q1⟩=>?_
 exact Constant_none (is_none_gen ⟨.bl _,H1,I1,by rw[r1.none_iff];rfl,q1⟩)
theorem RK {j pos'}(ha:PE X a ta):PC X .IsNot a (.Constant .none j pos') (Yc ta):=by
 intro pins s σ H Q I h;refine BN (ha pins s σ H _ I h) λv s1 ⟨x,H1,I1,r1,q1⟩=>?_
 exact Constant_none (isnot_none_gen ⟨.bl _,H1,I1,by rw[r1.none_iff];rfl,q1⟩)
def tB (t:TE):TT:=λσ H Q=>t σ H λx H1=>∃c,x=.bl c/\Q c H1
theorem RC {op:CmpOp}{t:TE}(h:PC X op a b t)(h1:behindInMarks op b=false:=by first|exact Bt _ (by decide) (by decide)|rfl):PE X (.Compare a [op] [b] pos) t:=λpins s σ H Q I hw=>wpAny_Compare1 (h pins s σ H Q I hw) h1
theorem DT {op:CmpOp}{t:TE}(h:PC X op a b t)(h1:behindInMarks op b=false:=by first|exact Bt _ (by decide) (by decide)|rfl):PT X (.Compare a [op] [b] pos) (tB t):=by
 intro pins s σ H Q I hw;refine wpAny_isTrue_Compare1 (BN (h pins s σ H _ I hw) λv s1 h1=>BN h1 λu s2 h2=>BN h2 λc s3 ⟨x,H1,I1,r1,q1⟩=>?_) h1;obtain⟨d,rfl,q⟩:=q1;cases r1;exact cD ⟨H1,I1,q⟩
theorem Bq {e:Expr}{t:TE}(h:PE X e t)(he:∀whole,isTrue e X.env whole=(do let v <-whole;standAt e.pos;holding [v] (truthy v)):=by intro _;rfl):PT X e (tB t):=by
 intro pins s σ H Q I hw;refine isTrue_plain (BN (h pins s σ H _ I hw) λv s1 ⟨x,H1,I1,r1,q1⟩=>?_) (he _);obtain⟨d,rfl,q⟩:=q1;cases r1;exact cD ⟨H1,I1,q⟩
variable {tA tB':TT}{rest:List Expr}
def Zu (t u:TT):TT:=λσ H Q=>t σ H λc H1=>if c=true then u σ H1 Q else Q false H1
def ZV (t u:TT):TT:=λσ H Q=>t σ H λc H1=>if c=true then Q true H1 else u σ H1 Q
def Ze (t:TT):TT:=λσ H Q=>t σ H λc H1=>Q (!c) H1
theorem IF (ha:PT X a tA):PW X (.BoolOp .And [a] pos) tA:=by
 intro wh pins s σ H Q I h;refine isTrue_and (BN (ha pins s σ H Q I h) λc s1 e=>?_);cases c with
 |true=>exact isTrue_and_nil e
 |false=>exact e
theorem CM (ha:PT X a tA):PW X (.BoolOp .Or [a] pos) tA:=by
 intro wh pins s σ H Q I h;refine isTrue_or (BN (ha pins s σ H Q I h) λc s1 e=>?_);cases c with
 |false=>exact isTrue_or_nil e
 |true=>exact e
theorem Kr (ha:PT X a tA)(hb:PW X (.BoolOp .And (b::rest) pos) tB'):PW X (.BoolOp .And (a::b::rest) pos) (Zu tA tB'):=by
 intro wh pins s σ H Q I h;refine isTrue_and (BN (ha pins s σ H _ I h) λc s1 ⟨H1,I1,q1⟩=>?_);cases c with
 |true=>exact hb wh pins s1 σ H1 Q I1 q1
 |false=>exact⟨H1,I1,q1⟩
theorem D1 (ha:PT X a tA)(hb:PW X (.BoolOp .Or (b::rest) pos) tB'):PW X (.BoolOp .Or (a::b::rest) pos) (ZV tA tB'):=by
 intro wh pins s σ H Q I h;refine isTrue_or (BN (ha pins s σ H _ I h) λc s1 ⟨H1,I1,q1⟩=>?_);cases c with
 |true=>exact⟨H1,I1,q1⟩
 |false=>exact hb wh pins s1 σ H1 Q I1 q1
theorem Cg (ha:PT X a tA):PT X (.UnaryOp .Not a pos) (Ze tA):=by
 intro pins s σ H Q I h;exact isTrue_not (ha pins s σ H (λc H1=>Q (!c) H1) I h)
def YB (ta tb:TE):TE:=λσ H Q=>ta σ H λx H1=>∃c,x=.bl c/\if c=true then tb σ H1 Q else Q (.bl false) H1
def ZD (ta tb:TE):TE:=λσ H Q=>ta σ H λx H1=>∃c,x=.bl c/\if c=true then Q (.bl true) H1 else tb σ H1 Q
theorem Mj {op}{t:TE}(h:PE X a t):PE X (.BoolOp op [a] pos) t:=λpins s σ H Q I hw=>BoolOp_one (h pins s σ H Q I hw)
theorem Vj (ha:PE X a ta)(hb:PE X (.BoolOp .And (b::rest) pos) tb):PE X (.BoolOp .And (a::b::rest) pos) (YB ta tb):=by
 intro pins s σ H Q I h;refine BoolOp_and (BN (ha pins s σ H _ I h) λv s1 ⟨x,H1,I1,r1,q1⟩=>?_);obtain⟨c,rfl,q1⟩:=q1;cases r1;refine cD ?_;cases c with
 |true=>exact hb pins s1 σ H1 Q I1 q1
 |false=>exact⟨.bl false,H1,I1,rfl,q1⟩
theorem RY (ha:PE X a ta)(hb:PE X (.BoolOp .Or (b::rest) pos) tb):PE X (.BoolOp .Or (a::b::rest) pos) (ZD ta tb):=by
 intro pins s σ H Q I h;refine BoolOp_or (BN (ha pins s σ H _ I h) λv s1 ⟨x,H1,I1,r1,q1⟩=>?_);obtain⟨c,rfl,q1⟩:=q1;cases r1;refine cD ?_;cases c with
 |false=>exact hb pins s1 σ H1 Q I1 q1
 |true=>exact⟨.bl true,H1,I1,rfl,q1⟩
def ZS (t:TT)(ta tb:TE):TE:=λσ H Q=>t σ H λc H1=>if c=true then ta σ H1 Q else tb σ H1 Q
theorem TU {c:Expr}(hc:PT X c tA)(ha:PE X a ta)(hb:PE X b tb):PE X (.IfExp c a b pos) (ZS tA ta tb):=by
 intro pins s σ H Q I h;refine wpAny_IfExp (BN (hc pins s σ H _ I h) λd s1 ⟨H1,I1,q1⟩=>?_);cases d with
 |true=>exact ha pins s1 σ H1 Q I1 q1
 |false=>exact hb pins s1 σ H1 Q I1 q1
end
def AV (K:PySem.W.Frag)(H:Hp)(a:Addr)(xs:List V):Prop:=
 Rd H a (.lst xs)\/
  ∃(o:Obj) (its:Array Value) (n:Nat),K.lookup a=some o/\o.cls=.type "list"/\o.dict=none/\o.data=.seq its n/\its.size<=sizeLine/\A5 xs its.toList
def AW (K:PySem.W.Frag)(H:Hp)(a:Addr)(xs:List V):Prop:=
 Rd H a (.tup xs)\/
  ∃(o:Obj) (its:Array Value) (n:Nat),K.lookup a=some o/\o.cls=.type "tuple"/\o.data=.seq its n/\its.size<=sizeLine/\A5 xs its.toList
def Zx:Value->Option V
 | .none=>some .non
 | .bool b=>some (.bl b)
 | .int i _=>some (.int i)
 | .str x _=>some (.str x)
 | .bytes b _=>some (.byt b)
 | .float b _=>some (.flt b)
 | .ref a=>some (.ref a)
 | .type n=>some (.ty n)
 |_=>none
theorem RelV.abs {x:V}{u:Value}(r:RelV x u):Zx u=some x:=by
 cases x with
 |non=>cases r;rfl
 |bl _=>cases r;rfl
 |int _=>obtain⟨t,rfl⟩:=r;rfl
 |str _=>obtain⟨t,rfl⟩:=r;rfl
 |byt _=>obtain⟨t,rfl⟩:=r;rfl
 |flt _=>obtain⟨t,rfl⟩:=r;rfl
 |ref _=>cases r;rfl
 |ty _=>cases r;rfl
theorem RelV.inj {x y:V}{u:Value}(r:RelV x u)(q:RelV y u):x=y:=aI (r.abs.symm.trans q.abs)
theorem A5.inj:∀{xs ys:List V} {us:List Value},A5 xs us->A5 ys us->xs=ys
 |_,_,_,.nil,.nil=>rfl
 |_,_,_,.cons r t,.cons r' t'=>by rw[r.inj r',A5.inj t t']
section
variable {X:Cx}{pins:List (Addr×Obj)}{σ:St}{H:Hp}{s:Shared}{a:Addr}{xs ys:List V}
theorem AV.of {K:PySem.W.Frag}(h:H a=some (.lst xs)):AV K H a xs:=.inl (.inl h)
theorem AW.of {K:PySem.W.Frag}(h:H a=some (.tup xs)):AW K H a xs:=.inl (.inl h)
theorem Inv.list (I:Inv X pins σ H s)(h:AV X.K H a xs):∃its:List Value,A5 xs its/\PlainL s.heap a its.toArray/\xs.length<=sizeLine:=by
 rcases h with h|⟨o,its,n,hk,hc,hd,hs,hz,r⟩
 ·obtain⟨z,its,n,r,e⟩:=h.ok I.hok;exact⟨its,r,⟨_,n,e,rfl,rfl,rfl⟩,z⟩
 ·refine⟨its.toList,r,⟨o,n,I.kIn a o hk,hc,hd,by simpa using hs⟩,?_⟩;have e:=r.length;simp only[Array.length_toList] at e;omega
theorem Inv.tuple (I:Inv X pins σ H s)(h:AW X.K H a xs):∃its:List Value,A5 xs its/\IsTup s.heap a its.toArray/\xs.length<=sizeLine:=by
 rcases h with h|⟨o,its,n,hk,hc,hs,hz,r⟩
 ·obtain⟨z,its,r,p⟩:=h.ok I.hok;exact⟨its,r,p.is,z⟩
 ·refine⟨its.toList,r,⟨o,I.kIn a o hk,hc,n,by simpa using hs⟩,?_⟩;have e:=r.length;simp only[Array.length_toList] at e;omega
theorem Inv.list_inj (I:Inv X pins σ H s)(h:AV X.K H a xs)(h':AV X.K H a ys):xs=ys:=by
 obtain⟨its,r,⟨o,n,e,_,_,d⟩,_⟩:=I.list h;obtain⟨its',r',⟨o',n',e',_,_,d'⟩,_⟩:=I.list h';rw[e] at e';cases e';rw[d] at d';injection d' with d1 _
 have:its=its':=by simpa using congrArg Array.toList d1
 subst this;exact r.inj r'
theorem Inv.tuple_inj (I:Inv X pins σ H s)(h:AW X.K H a xs)(h':AW X.K H a ys):xs=ys:=by
 obtain⟨its,r,⟨o,e,_,n,d⟩,_⟩:=I.tuple h;obtain⟨its',r',⟨o',e',_,n',d'⟩,_⟩:=I.tuple h';rw[e] at e';cases e';rw[d] at d';injection d' with d1 _
 have:its=its':=by simpa using congrArg Array.toList d1
 subst this;exact r.inj r'
end
abbrev Cx.wish (X:Cx)(E:Value->Shared->Prop):Cx:={ X with xe:=E }
abbrev Cx.nox (X:Cx):Cx:=X.wish λ_ _=>False
theorem Cx.Ok.wish {X:Cx}(ok:X.Ok)(E:Value->Shared->Prop):(X.wish E).Ok:=
 ⟨ok.mod,ok.kind,ok.glob,ok.blt,ok.above,ok.inj,ok.has,ok.cab,ok.hd,ok.frames,ok.stk,ok.exf,ok.bs,ok.bsz,ok.noex,ok.exfs,ok.funs,ok.frf⟩
theorem Cx.Ok.unwish {X:Cx}{E:Value->Shared->Prop}(ok:(X.wish E).Ok):X.Ok:=
 ⟨ok.mod,ok.kind,ok.glob,ok.blt,ok.above,ok.inj,ok.has,ok.cab,ok.hd,ok.frames,ok.stk,ok.exf,ok.bs,ok.bsz,ok.noex,ok.exfs,ok.funs,ok.frf⟩
section
variable {X:Cx}{pins:List (Addr×Obj)}{σ:St}{H:Hp}{s:Shared}{E:Value->Shared->Prop}
theorem Inv.wish (I:Inv X pins σ H s)(E:Value->Shared->Prop):Inv (X.wish E) pins σ H s:=⟨I.ok.wish E,I.os,I.bare,I.base,I.loc,I.cell,I.free,I.freeC,I.pin,I.hok,I.len⟩
theorem Inv.unwish (I:Inv (X.wish E) pins σ H s):Inv X pins σ H s:=⟨I.ok.unwish,I.os,I.bare,I.base,I.loc,I.cell,I.free,I.freeC,I.pin,I.hok,I.len⟩
theorem SP.unwish {D:Ends}{f:Flow}{s':Shared}(h:SP (X.wish E) pins D f s'):SP X pins D f s':=by
 cases f with
 |next=>obtain⟨σ',H',I,q⟩:=h;exact⟨σ',H',I.unwish,q⟩
 |brk=>obtain⟨σ',H',I,q⟩:=h;exact⟨σ',H',I.unwish,q⟩
 |cont=>obtain⟨σ',H',I,q⟩:=h;exact⟨σ',H',I.unwish,q⟩
 |ret u=>obtain⟨v,σ',H',I,r,q⟩:=h;exact⟨v,σ',H',I.unwish,r,q⟩
theorem Qo.nox {st:List Stmt}{t:TS}(h:Qo X.nox st t):Qo X st t:=λpins s σ H D I hw=>
 bg (h pins s σ H D (I.wish _) hw) (λ_ _ q=>q.unwish) λ_ _ z=>False.elim z
end
section
variable {X:Cx}{st:Stmt}{rest:List Stmt}{t u:TS}{e:Expr}{te:TE}{pos:Pos}
def AZ:TS:=λD σ H=>D.nx σ H
def SH (t u:TS):TS:=λD σ H=>t { D with nx:=u D } σ H
theorem Ao:Qo X [] AZ:=λ_ _ σ H _ I h=>fz ⟨σ,H,I,h⟩
theorem Ad (h1:PS X st t)(h2:Qo X rest u):Qo X (st::rest) (SH t u):=by
 intro pins s σ H D I h;refine gH (BN (h1 pins s σ H { D with nx:=u D } I h) λf s1 q=>?_);cases f with
 |next=>
  obtain⟨σ',H',I',q⟩:=q;exact h2 pins s1 σ' H' D I' q
 |ret v=>exact q
 |brk=>exact q
 |cont=>exact q
theorem Af (h1:PS X st t):Qo X [st] t:=by
 intro pins s σ H D I h;refine gH (BN (h1 pins s σ H D I h) λf s1 q=>?_);cases f with
 |next=>exact fz q
 |ret v=>exact q
 |brk=>exact q
 |cont=>exact q
theorem Inv.quiet {pins:List (Addr×Obj)}{σ:St}{H:Hp}{s:Shared}(I:Inv X pins σ H s):interactive X.env=false:=by simp[interactive,I.ok.kind]
def Vf (te:TE):TS:=λD σ H=>te σ H λ_ H1=>D.nx σ H1
theorem AD (he:PE X e te)(hs:swapsWith e none pos.line X.env=pure false:=by rfl):PS X (.Expr e pos) (Vf te):=by
 intro pins s σ H D I h;exact wpAny_Expr_any (BN (he pins s σ H _ I h) λv s1 ⟨x,H1,I1,r1,q1⟩=>⟨σ,H1,I1,q1⟩) I.quiet hs
def Zg (te:TE):TS:=λD σ H=>te σ H D.rt
theorem Aq (he:PE X e te):PS X (.Return (some e) pos) (Zg te):=by
 intro pins s σ H D I h;exact wpAny_Return_some (BN (he pins s σ H _ I h) λv s1 ⟨x,H1,I1,r1,q1⟩=>⟨x,σ,H1,I1,r1,q1⟩)
def Zz (c:TT)(t u:TS):TS:=λD σ H=>c σ H λb H1=>if b=true then t D σ H1 else u D σ H1
theorem AJ {c:Expr}{a b:List Stmt}{tc:TT}(hc:PT X c tc)(ha:Qo X a t)(hb:Qo X b u):PS X (.If c a b pos) (Zz tc t u):=by
 intro pins s σ H D I h;refine wpAny_If (BN (hc pins s σ H _ I h) λd s1 ⟨H1,I1,q1⟩=>?_);cases d with
 |true=>exact ha pins s1 σ H1 D I1 q1
 |false=>exact hb pins s1 σ H1 D I1 q1
end
abbrev TG:=V->St->Hp->(St->Hp->Prop)->Prop
abbrev WY:=List V->St->Hp->(St->Hp->Prop)->Prop
def PG (X:Cx)(target:Expr)(t:TG):Prop:=
 ∀(pins:List (Addr×Obj)) (s:Shared) (σ:St) (H:Hp) (v:V) (u:Value) (Q:St->Hp->Prop),Inv X pins σ H s->RelV v u->t v σ H Q->
  wpAny (model X.prog X.w) X.A (assign target X.env u) (λ_ s'=>∃σ' H',Inv X pins σ' H' s'/\Q σ' H') X.xe s
def Yo (X:Cx)(ts:List Expr)(t:WY):Prop:=
 ∀(pins:List (Addr×Obj)) (s:Shared) (σ:St) (H:Hp) (vs:List V) (us:List Value) (Q:St->Hp->Prop),Inv X pins σ H s->A5 vs us->t vs σ H Q->
  wpAny (model X.prog X.w) X.A (assignInOrder ((assignEach ts X.env).map (·.2)) us) (λ_ s'=>∃σ' H',Inv X pins σ' H' s'/\Q σ' H') X.xe s
section
variable {X:Cx}{pos:Pos}
def AU (i:Nat):TG:=λv σ H Q=>Q (σ.set i (some v)) H
theorem AK {i:Nat}{x:Str}(hN:X.N.Nodup)(hi:X.N[i]?=some x)(hx:Loc X.env.scope x)(hf:X.fn x=true\/X.env.scope.names.lookup x=some .local:=by first|exact .inl rfl|exact .inr rfl|assumption):PG X (.Name x pos) (AU i):=by
 intro pins s σ H v u Q I r h;exact wpAny_assign_Name (JW I hN hi hx r (λs' I'=>⟨_,H,I',h⟩) hf)
def Xw:WY:=λvs σ H Q=>vs=[]/\Q σ H
def Qf (t:TG)(u:WY):WY:=λvs σ H Q=>∃v r,vs=v::r/\t v σ H λσ' H'=>u r σ' H' Q
theorem GS:Yo X [] Xw:=by
 intro pins s σ H vs us Q I r h;obtain⟨e,h⟩:=h;subst e;cases r;exact assignInOrder_nil ⟨σ,H,I,h⟩
theorem B7 {e:Expr} {es:List Expr} {t:TG} {u:WY} (h1:PG X e t) (h2:Yo X es u)
  (hs:(assignEach (e::es) X.env).map (·.2)=assign e X.env::(assignEach es X.env).map (·.2):=by rfl):Yo X (e::es) (Qf t u):=by
 intro pins s σ H vs us Q I r h;obtain⟨v,vr,e1,h⟩:=h;subst e1;cases r with
 |cons r rr=>
  rw[hs];refine assignInOrder_cons (BN (h1 pins s σ H _ _ _ I r h) λ_ s1 ⟨σ1,H1,I1,q1⟩=>?_);exact h2 pins s1 σ1 H1 _ _ Q I1 rr q1
def V2 (K:PySem.W.Frag)(n:Nat)(t:WY):TG:=λv σ H Q=>∃a xs,v=.ref a/\AW K H a xs/\xs.length=n/\t xs σ H Q
theorem Jd {es:List Expr} {k:Nat} {t:WY} {n:Nat} (hc:X.calm=true) (h:Yo X es t)
  (hn:(assignEach es X.env).length=n:=by rfl) (hst:(assignEach es X.env).findIdx? (·.1)=none:=by rfl):PG X (.Tuple es k pos) (V2 X.K n t):=by
 intro pins s σ H v u Q I r hw;obtain⟨a,xs,e1,hq,hl,hw⟩:=hw;subst e1;cases r;obtain⟨its,rv,ht,hz⟩:=I.tuple hq;refine assign_Tuple_tuple (I.ok.hd hc) ht (by simp[hn,<-hl,rv.length]) hst λh' hx=>?_
 have I1:Inv X pins σ H { s with heap:=h' }:=I.kept (t':=s.toks) λb o e=>hx b o (a4 (aL e)) e
 exact h pins _ σ H xs _ Q I1 (by simpa using rv) hw
def Ui (te:TE)(g:TG):TS:=λD σ H=>te σ H λx H1=>g x σ H1 D.nx
theorem Ve {tg e:Expr} {te:TE} {g:TG} (he:PE X e te) (hg:PG X tg g) (hs:swapsWithSole [tg] e pos.line X.env=pure false:=by rfl) (hw:swappedStores [tg] e X.env=pure none:=by rfl)
  (h1:(assignEach [tg] X.env).map (·.2)=[assign tg X.env]:=by rfl):PS X (.Assign [tg] e pos) (Ui te g):=by
 intro pins s σ H D I h;refine wpAny_Assign_stores (BN (he pins s σ H _ I h) λv s1 ⟨x,H1,I1,r1,q1⟩=>?_) hs hw;rw[h1];exact BN (hg pins s1 σ H1 x v _ I1 r1 q1) λ_ s2 q=>q
theorem Av {i:Nat}{x:Str}{e:Expr}{te:TE}{pos':Pos}(hN:X.N.Nodup)(hi:X.N[i]?=some x)(hx:Loc X.env.scope x)(he:PE X e te)(hs:swapsWith e (some (.Name x pos')) pos.line X.env=pure false:=by rfl)(hf:X.fn x=true\/X.env.scope.names.lookup x=some .local:=by first|exact .inl rfl|exact .inr rfl|assumption) :
  PS X (.Assign [.Name x pos'] e pos) (Ui te (AU i)):=by
 intro pins s σ H D I h;refine wpAny_Assign_Name (BN (he pins s σ H _ I h) λv s1 ⟨y,H1,I1,r1,q1⟩=>?_) hs;exact JW I1 hN hi hx r1 (λs2 I2=>⟨_,H1,I2,q1⟩) hf
end
structure It where
 go:Nat->Hp->Prop
 yld:Nat->Hp->V->Hp->Prop
 stop:Nat->Hp->Prop
def Ng (X:Cx)(pins:List (Addr×Obj))(H:Hp)(b:Addr):Prop:=
 H b=none/\b≠X.env.locals/\b∉X.fs/\(b∈X.ex\/X.s₀.heap.objs.size<=b)/\(∀x c,X.env.cells.lookup x=some c->c≠b)/\∀p∈X.pn++pins,p.1≠b
theorem Inv.fpOk {X:Cx}{pins:List (Addr×Obj)}{σ:St}{H H':Hp}{s:Shared}{b:Addr}(I:Inv X pins σ H s)(hb:s.heap.objs.size<=b)(hn:H' b=none):Ng X pins H' b:=by
 refine⟨hn,cS (aW I.lt hb),I.nofs hb,.inr (aX I.sz hb),λx c e z=>?_,λp hp z=>?_⟩
 ·obtain⟨v,q⟩:=I.cell x c e;exact absurd (aW q.lt (by rw[z];exact hb)) (cI _)
 ·exact absurd (aW (aL (I.pin p hp).1) (by rw[z];exact hb)) (cI _)
structure Turn (P:Program) (w:World) (K:PySem.W.Frag) (tg:Expr) (J:It) (fp:List Addr) (it:Addr) (tn:Nat->Heap->Prop):Prop where
 mem:it∈fp
 obj:∀i h,tn i h->∀b∈fp,∃o,h.get? b=some o/\∀v,o.data≠.cell v
 keep:∀i h h',tn i h->(∀b∈fp,∀o,h.get? b=some o->h'.get? b=some o)->tn i h'
 item:∀(X:Cx),X.prog=P->X.w=w->X.K=K->X.calm=true->∀(i:Nat) (pins:List (Addr×Obj)) (s:Shared) (σ:St) (H:Hp) (E:Value->Shared->Prop),Inv X pins σ H s->(∀b∈fp,Ng X pins H b)->tn i s.heap->J.go i H->
  wpAny (model P w) X.A (pyNext (.ref it)) (λr s1=>∃u,r=some u/\
   wpAny (model P w) X.A (letOwnedTupleGo tg (.ref it) u) (λ_ s2=>∃x H',Inv X pins σ H' s2/\RelV x u/\J.yld i H x H'/\tn (i+1) s2.heap/\∀b∈fp,H' b=none) E s1) E s
 done:∀(X:Cx),X.prog=P->X.w=w->X.K=K->X.calm=true->∀(i:Nat) (pins:List (Addr×Obj)) (s:Shared) (σ:St) (H:Hp) (E:Value->Shared->Prop),Inv X pins σ H s->(∀b∈fp,Ng X pins H b)->tn i s.heap->J.stop i H->
  wpAny (model P w) X.A (pyNext (.ref it)) (λr s1=>r=none/\Inv X pins σ H s1) E s
 self:∀(A:Around) (i:Nat) (s:Shared) (Q:Value->Shared->Prop) (E:Value->Shared->Prop),tn i s.heap->Q (.ref it) s->wpAny (model P w) A (pyIter (.ref it)) Q E s
abbrev TI:=St->Hp->(It->Hp->Prop)->Prop
def ZJ (X:Cx)(pins:List (Addr×Obj))(σ:St)(tg:Expr)(R:It->Hp->Prop)(itv:Value)(s2:Shared):Prop:=
 ∃(it:Addr) (fp:List Addr) (tn:Nat->Heap->Prop) (J:It) (H':Hp),itv=.ref it/\Inv X pins σ H' s2/\Turn X.prog X.w X.K tg J fp it tn/\tn 0 s2.heap/\(∀b∈fp,Ng X pins H' b)/\R J H'
def PI (X:Cx)(tg iter:Expr)(wi:TI):Prop:=
 ∀(pins:List (Addr×Obj)) (s:Shared) (σ:St) (H:Hp) (R:It->Hp->Prop),Inv X pins σ H s->wi σ H R->
  wpAny (model X.prog X.w) X.A (eval iter X.env) (λv s1=>wpAny (model X.prog X.w) X.A (pyIter v) (ZJ X pins σ tg R) X.xe s1) X.xe s
theorem Mh {M:Model} {A:Around} {E:Value->Shared->Prop} {s:Shared} {tg:Expr} {it:Addr} {u:Value} {o:Obj} {n:String} {vs:Array Value} {Q:Unit->Shared->Prop} (ho:s.heap.get? it=some o) (hc:o.cls=.type n) (hd:o.data=.fields vs)
  (hn:["enumerate","zip","dict_itemiterator","dict_reverseitemiterator","odict_iterator","itertools.zip_longest","itertools.pairwise"].contains n=false) (hQ:Q () s):wpAny M A (letOwnedTupleGo tg (.ref it) u) Q E s:=by
 unfold letOwnedTupleGo;cases tg<;>first
  |exact aB hQ
  |(cases u<;>first
    |exact aB hQ
    |(refine ae (ia ho ?_)
      rw[hc,hd];show wpAny M A (if(["enumerate","zip","dict_itemiterator","dict_reverseitemiterator","odict_iterator","itertools.zip_longest","itertools.pairwise"].contains n&&vs[0]? == some (rawInt _))=true then _ else _) Q E s;rw[ai (by intro h;rw[hn,Bool.false_and] at h;cases h)];exact aB hQ))
def X4 (K:PySem.W.Frag)(a:Addr):It:=
 ⟨λi H=>∃xs x,AV K H a xs/\xs[i]?=some x,λi H x H'=>H'=H/\∀xs,AV K H a xs->xs[i]?=some x,λi H=>∃xs,AV K H a xs/\xs.length<=i⟩
def XZ (K:PySem.W.Frag)(a:Addr):It:=
 ⟨λi H=>∃xs x,AW K H a xs/\xs[i]?=some x,λi H x H'=>H'=H/\∀xs,AW K H a xs->xs[i]?=some x,λi H=>∃xs,AW K H a xs/\xs.length<=i⟩
def Xe (lo:Int)(n:Nat):It:=⟨λi _=>i<n,λi H x H'=>H'=H/\x=.int (lo+i),λi _=>n<=i⟩
theorem SM {P:Program}{w:World}{K:PySem.W.Frag}{tg:Expr}(a it:Addr):Turn P w K tg (X4 K a) [it] it (λi h=>h.IsListIter it a i) where
 mem:=by simp
 obj:=λi h st b hb=>by
  have e:b=it:=by simpa using hb
  subst e;obtain⟨o,e,c,d⟩:=st;exact⟨o,e,λv z=>by rw[d] at z;cases z⟩
 keep:=λi h h' st k=>st.at λo e=>k it (by simp) o e
 item:=by
  intro X hP hw hK hc i pins s σ H E I hf st hg;subst hP hw hK;obtain⟨xs,x,hq,hx⟩:=hg;obtain⟨its,rv,p,hz⟩:=I.list hq;obtain⟨u,hu,ru⟩:=rv.get hx;obtain⟨f0,f1,f2,f3,f4,f5⟩:=hf it (by simp);refine wpAny_pyNext_list_item st p.isList (x:=u) (by simpa using hu) λh' st' sb=>?_
  have I1:Inv X pins σ H { s with heap:=h' }:=I.turned (t':=s.toks) (λb o hb e=>(sb.2 b hb).trans e) f0 f1 f3 f4 f5;obtain⟨o,e,c,d⟩:=id st';exact⟨u,rfl,Mh (s:={ s with heap:=h' }) e c d (by decide) ⟨x,H,I1,ru,⟨rfl,λys hy=>by rw[I.list_inj hy hq];exact hx⟩,st',λb hb=>(hf b hb).1⟩⟩
 done:=by
  intro X hP hw hK hc i pins s σ H E I hf st hg;subst hP hw hK;obtain⟨xs,hq,hx⟩:=hg;obtain⟨its,rv,p,hz⟩:=I.list hq;obtain⟨f0,f1,f2,f3,f4,f5⟩:=hf it (by simp);have hl:=rv.length;exact wpAny_pyNext_list_end (I.ok.hd hc) st p.isList (by simp;omega) λh' eb=>⟨rfl,I.turned (t':=s.toks) (λb o hb e=>eb b o hb e) f0 f1 f3 f4 f5⟩
 self:=λ_ _ _ _ _ st h=>wpAny_pyIter_listiter st h
theorem QZ {P:Program}{w:World}{K:PySem.W.Frag}{tg:Expr}(a it:Addr):Turn P w K tg (XZ K a) [it] it (λi h=>h.IsTupleIter it a i) where
 mem:=by simp
 obj:=λi h st b hb=>by
  have e:b=it:=by simpa using hb
  subst e;obtain⟨o,e,c,d⟩:=st;exact⟨o,e,λv z=>by rw[d] at z;cases z⟩
 keep:=λi h h' st k=>st.at λo e=>k it (by simp) o e
 item:=by
  intro X hP hw hK hc i pins s σ H E I hf st hg;subst hP hw hK;obtain⟨xs,x,hq,hx⟩:=hg;obtain⟨its,rv,p,hz⟩:=I.tuple hq;obtain⟨u,hu,ru⟩:=rv.get hx;obtain⟨f0,f1,f2,f3,f4,f5⟩:=hf it (by simp);refine wpAny_pyNext_tuple_item st (show s.heap.IsTuple a its.toArray from p) (x:=u) (by simpa using hu) λh' st' sb=>?_
  have I1:Inv X pins σ H { s with heap:=h' }:=I.turned (t':=s.toks) (λb o hb e=>(sb.2 b hb).trans e) f0 f1 f3 f4 f5;obtain⟨o,e,c,d⟩:=id st';exact⟨u,rfl,Mh (s:={ s with heap:=h' }) e c d (by decide) ⟨x,H,I1,ru,⟨rfl,λys hy=>by rw[I.tuple_inj hy hq];exact hx⟩,st',λb hb=>(hf b hb).1⟩⟩
 done:=by
  intro X hP hw hK hc i pins s σ H E I hf st hg;subst hP hw hK;obtain⟨xs,hq,hx⟩:=hg;obtain⟨its,rv,p,hz⟩:=I.tuple hq;obtain⟨f0,f1,f2,f3,f4,f5⟩:=hf it (by simp);have hl:=rv.length;exact wpAny_pyNext_tuple_end (I.ok.hd hc) st (show s.heap.IsTuple a its.toArray from p) (by simp;omega) λh' eb=>⟨rfl,I.turned (t':=s.toks) (λb o hb e=>eb b o hb e) f0 f1 f3 f4 f5⟩
 self:=λ_ _ _ _ _ st h=>wpAny_pyIter_tupleiter st h
theorem QR {P:Program}{w:World}{K:PySem.W.Frag}{tg:Expr}(it:Addr)(lo:Int)(n:Nat):Turn P w K tg (Xe lo n) [it] it (λi h=>IsRangeIter h it (lo+(i:Nat)*1) ((n:Int)-(i:Nat)) 1) where
 mem:=by simp
 obj:=λi h st b hb=>by
  have e:b=it:=by simpa using hb
  subst e;exact⟨_,st,λv z=>by
   have z':Data.fields _=Data.cell v:=z;cases z'⟩
 keep:=λi h h' st k=>k it (by simp) _ st
 item:=by
  intro X hP hw hK hc i pins s σ H E I hf st hg;subst hP hw hK;obtain⟨f0,f1,f2,f3,f4,f5⟩:=hf it (by simp);have W:=Walks.range (prog:=X.prog) (w:=X.w) (I.ok.hd hc) it lo 1 n;refine W.item i s _ _ hg st λv h' tk hv st' kk=>?_
  obtain⟨t,rfl⟩:=hv;have I1:Inv X pins σ H { s with heap:=h',toks:=tk }:=I.turned (λb o hb e=>kk b o (by simpa using hb) e) f0 f1 f3 f4 f5;refine⟨_,rfl,Mh (s:={ s with heap:=h',toks:=tk }) (n:="range_iterator") st' rfl rfl (by decide) ⟨.int (lo+i),H,I1,⟨t,?_⟩,⟨rfl,rfl⟩,st',λb hb=>(hf b hb).1⟩⟩;rw[Int.mul_one]
 done:=by
  intro X hP hw hK hc i pins s σ H E I hf st hg;subst hP hw hK;obtain⟨f0,f1,f2,f3,f4,f5⟩:=hf it (by simp);exact wpAny_pyNext_range_end (I.ok.hd hc) st (by have:n<=i:=hg;omega) λh' eb=>⟨rfl,I.turned (t':=s.toks) (λb o hb e=>eb b o hb e) f0 f1 f3 f4 f5⟩
 self:=λ_ _ _ _ _ st h=>wpAny_pyIter_rangeiter st h
section
variable {X:Cx}{tg:Expr}
def Ya (K:PySem.W.Frag)(tl:TE):TI:=λσ H R=>tl σ H λx H1=>∃a,x=.ref a/\(∃xs,AV K H1 a xs)/\R (X4 K a) H1
def Zc (K:PySem.W.Frag)(tl:TE):TI:=λσ H R=>tl σ H λx H1=>∃a,x=.ref a/\(∃xs,AW K H1 a xs)/\R (XZ K a) H1
theorem Cb {l:Expr}{tl:TE}(hl:PE X l tl):PI X tg l (Ya X.K tl):=by
 intro pins s σ H R I h;refine BN (hl pins s σ H _ I h) λv s1 ⟨x,H1,I1,r1,q1⟩=>?_
 obtain⟨a,e,⟨xs,hq⟩,q⟩:=q1;subst e;cases r1;obtain⟨its,rv,p,hz⟩:=I1.list hq;refine eQ p.isList ?_;refine⟨s1.heap.objs.size,[s1.heap.objs.size],_,_,H1,rfl,I1.kept (t':=s1.toks) λb o e=>af _ e,SM a _,⟨_,aH _ rfl,rfl,rfl⟩,λb hb=>?_,q⟩;have e:b=s1.heap.objs.size:=by simpa using hb
 subst e;exact I1.fpOk (au _) (I1.hok.fresh (au _))
theorem Vw {l:Expr}{tl:TE}(hl:PE X l tl):PI X tg l (Zc X.K tl):=by
 intro pins s σ H R I h;refine BN (hl pins s σ H _ I h) λv s1 ⟨x,H1,I1,r1,q1⟩=>?_
 obtain⟨a,e,⟨xs,hq⟩,q⟩:=q1;subst e;cases r1;obtain⟨its,rv,p,hz⟩:=I1.tuple hq;refine wpAny_pyIter_tuple (show s1.heap.IsTuple a its.toArray from p) ?_;refine⟨s1.heap.objs.size,[s1.heap.objs.size],_,_,H1,rfl,I1.kept (t':=s1.toks) λb o e=>af _ e,QZ a _,⟨_,aH _ rfl,rfl,rfl⟩,λb hb=>?_,q⟩;have e:b=s1.heap.objs.size:=by simpa using hb
 subst e;exact I1.fpOk (au _) (I1.hok.fresh (au _))
theorem Vk {pins:List (Addr×Obj)} {σ:St} {H:Hp} {s:Shared} {R:It->Hp->Prop} {E:Value->Shared->Prop} {lo hi:Int} {t u v:Tok} {tk:Nat} (I:Inv X pins σ H s) (h1:-(2^62)<=lo) (h2:lo<2^62) (h3:-(2^62)<=hi) (h4:hi<2^62)
  (q:R (Xe lo (hi-lo).toNat) H):wpAny (model X.prog X.w) X.A (pyIter (.ref s.heap.objs.size)) (ZJ X pins σ tg R) E { s with heap:=s.heap.push { cls:=.type "range",data:=.fields #[.int lo t,.int hi u,.int 1 v] },toks:=tk }:=by
 refine wpAny_pyIter_range (IsRange.new ..) (small_one h1 h2 h3 h4) ?_;have I1:Inv X pins σ H { s with heap:=s.heap.push { cls:=.type "range",data:=.fields #[.int lo t,.int hi u,.int 1 v] },toks:=tk }:=I.kept λb o e=>af _ e
 refine⟨(s.heap.push { cls:=.type "range",data:=.fields #[.int lo t,.int hi u,.int 1 v] }).objs.size,[(s.heap.push { cls:=.type "range",data:=.fields #[.int lo t,.int hi u,.int 1 v] }).objs.size],_,_,H,rfl,
  I1.kept (t':=tk) λb o e=>af _ e,QR _ lo (hi-lo).toNat,?_,λb hb=>?_,q⟩
 ·have e1:lo+((0:Nat):Int)*1=lo:=by simp
  have e2:(((hi-lo).toNat:Nat):Int)-((0:Nat):Int)=Builtin.Range.rangeSize lo hi 1:=by rw[rangeSize_one];split<;>omega
  show IsRangeIter _ _ (lo+((0:Nat):Int)*1) ((((hi-lo).toNat:Nat):Int)-((0:Nat):Int)) 1;rw[e1,e2];exact aH _ rfl
 ·have e:b=(s.heap.push { cls:=.type "range",data:=.fields #[.int lo t,.int hi u,.int 1 v] }).objs.size:=by simpa using hb
  subst e;exact I1.fpOk (au _) (I1.hok.fresh (au _))
def YM (ta:TA):TI:=λσ H R=>ta σ H λvs H1=>∃j:Int,vs=[.int j]/\-(2^62)<=j/\j<2^62/\R (Xe 0 j.toNat) H1
theorem Fb {a:Expr}{ta:TA}{p pos:Pos}(hg:Gl X "range")(hm:X.mg "range"=none)(ha:PA X [a] ta)(hs:starEach [a] X.env=[(false,eval a X.env)]:=by rfl):PI X tg (.Call (.Name "range" p) [a] [] pos) (YM ta):=by
 intro pins s σ H R I h;refine Call_ (MO I hg hm boot_range (gm (BN (ha pos pins s σ H _ I h) λus s1 ⟨vs,H1,I1,r1,q1⟩=>?_) hs rfl));obtain⟨j,e,q1,q2,q⟩:=q1;subst e;cases r1 with
 |cons r rr=>
  cases rr;obtain⟨t,rfl⟩:=r;exact call_range_1 (Vk I1 (by omega) (by omega) q1 q2 (by simpa using q))
def Zw (wi:TI)(g:TG)(tb:TS):TS:=λD σ H=>wi σ H λJ H1=>∃W:Nat->Nat->St->Hp->Prop,(∃m,W 0 m σ H1)/\∀i m σ H,W i m σ H->
 (J.stop i H/\D.nx σ H)\/(J.go i H/\∃N:St->Hp->Prop,(∀σ' H',N σ' H'->∃m',m'<m/\W (i+1) m' σ' H')/\∀x H',J.yld i H x H'->g x σ H' λσ2 H2=>tb { D with nx:=N,ct:=N,bk:=D.nx } σ2 H2)
def LS (fp:List Addr)(h:Heap):List (Addr×Obj):=fp.filterMap λb=>(h.get? b).map λo=>(b,o)
theorem GU {fp:List Addr}{h:Heap}{b:Addr}{o:Obj}(hb:b∈fp)(e:h.get? b=some o):(b,o)∈LS fp h:=dH.mpr ⟨b,hb,by rw[e];rfl⟩
theorem TF {fp:List Addr}{h:Heap}{p:Addr×Obj}(hp:p∈LS fp h):p.1∈fp/\h.get? p.1=some p.2:=by
 obtain⟨b,hb,e⟩:=dH.mp hp;cases q:h.get? b with
 |none=>rw[q] at e;cases e
 |some o=>
  rw[q] at e;have e':(b,o)=p:=aI e;subst e';exact⟨hb,q⟩
theorem Inv.pinned {pins:List (Addr×Obj)}{σ:St}{H:Hp}{s:Shared}{fp:List Addr}(I:Inv X pins σ H s)(hf:∀b∈fp,Ng X pins H b)(ho:∀b∈fp,∃o,s.heap.get? b=some o/\∀v,o.data≠.cell v):Inv X (pins++LS fp s.heap) σ H s:=
 I.pins_of λp hp=>(aK.mp hp).elim (λz=>I.pin p (aG _ z)) λz=>by
  obtain⟨hb,e⟩:=TF z;obtain⟨f0,f1,f2,_⟩:=hf p.1 hb;obtain⟨o,e',d⟩:=ho p.1 hb;rw[e] at e';cases e';exact⟨e,f0,f1,f2,d⟩
theorem Inv.unpinned {pins pl:List (Addr×Obj)}{σ:St}{H:Hp}{s:Shared}(I:Inv X (pins++pl) σ H s):Inv X pins σ H s:=I.pins_of λp hp=>I.pin p (aG _ (bB _ hp))
theorem CQ {iter:Expr} {body:List Stmt} {wi:TI} {g:TG} {tb:TS} {pos:Pos} (hp:PassesOwn (model X.prog X.w) X.A X.env X.xe) (hc:X.calm=true) (hi:PI X tg iter wi) (hg:PG X tg g) (hb:Qo X body tb)
  (hs:∀x,foldedSetIterable iter X.env x=pure x:=by intro _;rfl):PS X (.For tg iter body [] pos) (Zw wi g tb):=by
 intro pins s σ H D I h;refine wpAny_For (BN (hi pins s σ H _ I h) λv s1 h1=>BN h1 λitv s2 h2=>?_) hs;obtain⟨it,fp,tn,J,H2,e,I2,T,st2,f2,W,⟨m0,w0⟩,turn⟩:=h2;subst e;have stat:∀{H':Hp},(∀b∈fp,H' b=none)->∀b∈fp,Ng X pins H' b:=λhn b hb=>⟨hn b hb,(f2 b hb).2⟩
 refine codeAny_forLoop_any (λn s'=>∃i σ' H',Inv X pins σ' H' s'/\tn i s'.heap/\(∀b∈fp,H' b=none)/\W i n σ' H') ?_ m0 ⟨0,σ,H2,I2,st2,λb hb=>(f2 b hb).1,w0⟩
 rintro n s3 ⟨i,σ3,H3,I3,st3,fr3,w3⟩
 rcases turn i n σ3 H3 w3 with⟨stop,qn⟩|⟨go,N,hN,step⟩
 ·refine dI hp (BN (T.done X rfl rfl rfl hc i pins s3 σ3 H3 X.xe I3 (stat fr3) st3 stop) λr s4 ⟨hr,I4⟩=>?_);subst hr;exact fz ⟨σ3,H3,I4,qn⟩
 ·refine dI hp (BN (T.item X rfl rfl rfl hc i pins s3 σ3 H3 X.xe I3 (stat fr3) st3 go) λr s4 ⟨u,hr,h4⟩=>?_);subst hr;refine dI hp (BN h4 λ_ s5 z9=>?_);obtain⟨x,H5,I5,r5,y5,st5,fr5⟩:=z9;have I5':=I5.pinned (stat fr5) (T.obj _ _ st5);refine dI hp (BN (hg _ s5 σ3 H5 x u _ I5' r5 (step x H5 y5)) λ_ s6 ⟨σ6,H6,I6,q6⟩=>?_);refine dI hp (BN (hb _ s6 σ6 H6 _ I6 q6) λf s7 q7=>?_);have again:∀{σ7:St} {H7:Hp},Inv X (pins++LS fp s5.heap) σ7 H7 s7->N σ7 H7->∃m,m<n/\∃i σ' H',Inv X pins σ' H' s7/\tn i s7.heap/\(∀b∈fp,H' b=none)/\W i m σ' H':=λ{σ7 H7} I7 n7=>by
   obtain⟨m',hm,w7⟩:=hN σ7 H7 n7;refine⟨m',hm,i+1,σ7,H7,I7.unpinned,T.keep _ _ _ st5 λb hb o e=>(I7.pin (b,o) (aG _ (aG _ (GU hb e)))).1,λb hb=>?_,w7⟩;obtain⟨o,e,d⟩:=T.obj _ _ st5 b hb;exact(I7.pin (b,o) (aG _ (aG _ (GU hb e)))).2.1
  cases f with
  |next=>obtain⟨σ7,H7,I7,n7⟩:=q7;exact again I7 n7
  |cont=>obtain⟨σ7,H7,I7,n7⟩:=q7;exact again I7 n7
  |brk=>obtain⟨σ7,H7,I7,q7⟩:=q7;exact⟨σ7,H7,I7.unpinned,q7⟩
  |ret v=>obtain⟨x7,σ7,H7,I7,r7,q7⟩:=q7;exact⟨x7,σ7,H7,I7.unpinned,r7,q7⟩
end
theorem Dj {K:PySem.W.Frag} {a:Addr} {xs:List V} {g:TG} {tb:TS} {D:Ends} {σ:St} {H:Hp} (Pv:Nat->St->Hp->Prop) (h0:Pv 0 σ H) (hl:∀i σ H,i<=xs.length->Pv i σ H->AV K H a xs)
  (hs:∀i x σ H,xs[i]?=some x->Pv i σ H->g x σ H λσ2 H2=>tb { D with nx:=Pv (i+1),ct:=Pv (i+1),bk:=D.nx } σ2 H2) (hd:∀σ H,Pv xs.length σ H->D.nx σ H) :
  ∃W:Nat->Nat->St->Hp->Prop,(∃m,W 0 m σ H)/\∀i m σ H,W i m σ H->
   ((X4 K a).stop i H/\D.nx σ H)\/((X4 K a).go i H/\∃N:St->Hp->Prop,(∀σ' H',N σ' H'->∃m',m'<m/\W (i+1) m' σ' H')/\∀x H',(X4 K a).yld i H x H'->g x σ H' λσ2 H2=>tb { D with nx:=N,ct:=N,bk:=D.nx } σ2 H2):=by
 refine⟨λi m σ H=>m=xs.length-i/\i<=xs.length/\Pv i σ H,⟨xs.length,by simp,a6 _,h0⟩,?_⟩
 rintro i m σ H ⟨rfl,hi,p⟩
 have q:=hl i σ H hi p
 by_cases hlt:i<xs.length
 ·refine .inr ⟨⟨xs,xs[i],q,by simp[hlt]⟩,Pv (i+1),λσ' H' p'=>⟨xs.length-(i+1),by omega,rfl,hlt,p'⟩,λx H' y=>?_⟩;obtain⟨e,y⟩:=y;subst e;exact hs i x σ _ (y xs q) p
 ·have e:i=xs.length:=by omega
  subst e;exact .inl ⟨⟨xs,q,au _⟩,hd σ H p⟩
theorem WB {K:PySem.W.Frag} {a:Addr} {xs:List V} {g:TG} {tb:TS} {D:Ends} {σ:St} {H:Hp} (Pv:Nat->St->Hp->Prop) (h0:Pv 0 σ H) (hl:∀i σ H,i<=xs.length->Pv i σ H->AW K H a xs)
  (hs:∀i x σ H,xs[i]?=some x->Pv i σ H->g x σ H λσ2 H2=>tb { D with nx:=Pv (i+1),ct:=Pv (i+1),bk:=D.nx } σ2 H2) (hd:∀σ H,Pv xs.length σ H->D.nx σ H) :
  ∃W:Nat->Nat->St->Hp->Prop,(∃m,W 0 m σ H)/\∀i m σ H,W i m σ H->
   ((XZ K a).stop i H/\D.nx σ H)\/((XZ K a).go i H/\∃N:St->Hp->Prop,(∀σ' H',N σ' H'->∃m',m'<m/\W (i+1) m' σ' H')/\∀x H',(XZ K a).yld i H x H'->g x σ H' λσ2 H2=>tb { D with nx:=N,ct:=N,bk:=D.nx } σ2 H2):=by
 refine⟨λi m σ H=>m=xs.length-i/\i<=xs.length/\Pv i σ H,⟨xs.length,by simp,a6 _,h0⟩,?_⟩
 rintro i m σ H ⟨rfl,hi,p⟩
 have q:=hl i σ H hi p
 by_cases hlt:i<xs.length
 ·refine .inr ⟨⟨xs,xs[i],q,by simp[hlt]⟩,Pv (i+1),λσ' H' p'=>⟨xs.length-(i+1),by omega,rfl,hlt,p'⟩,λx H' y=>?_⟩;obtain⟨e,y⟩:=y;subst e;exact hs i x σ _ (y xs q) p
 ·have e:i=xs.length:=by omega
  subst e;exact .inl ⟨⟨xs,q,au _⟩,hd σ H p⟩
theorem F8 {lo:Int} {n:Nat} {g:TG} {tb:TS} {D:Ends} {σ:St} {H:Hp} (Pv:Nat->St->Hp->Prop) (h0:Pv 0 σ H)
  (hs:∀i σ H,i<n->Pv i σ H->g (.int (lo+i)) σ H λσ2 H2=>tb { D with nx:=Pv (i+1),ct:=Pv (i+1),bk:=D.nx } σ2 H2) (hd:∀σ H,Pv n σ H->D.nx σ H) :
  ∃W:Nat->Nat->St->Hp->Prop,(∃m,W 0 m σ H)/\∀i m σ H,W i m σ H->
   ((Xe lo n).stop i H/\D.nx σ H)\/((Xe lo n).go i H/\∃N:St->Hp->Prop,(∀σ' H',N σ' H'->∃m',m'<m/\W (i+1) m' σ' H')/\∀x H',(Xe lo n).yld i H x H'->g x σ H' λσ2 H2=>tb { D with nx:=N,ct:=N,bk:=D.nx } σ2 H2):=by
 refine⟨λi m σ H=>m=n-i/\i<=n/\Pv i σ H,⟨n,by simp,a6 _,h0⟩,?_⟩
 rintro i m σ H ⟨rfl,hi,p⟩
 by_cases hlt:i<n
 ·refine .inr ⟨hlt,Pv (i+1),λσ' H' p'=>⟨n-(i+1),by omega,rfl,hlt,p'⟩,λx H' y=>?_⟩;obtain⟨e,y⟩:=y;subst e y;exact hs i σ _ hlt p
 ·have e:i=n:=by omega
  subst e;exact .inl ⟨au _,hd σ H p⟩
abbrev R2:=V->V->Hp->VK->Prop
def IL (X:Cx)(f:Value->Value->Sem Value)(r:R2):Prop:=
 ∀(pins:List (Addr×Obj)) (s:Shared) (σ:St) (H:Hp) (x y:V) (v u:Value) (Q:VK),Inv X pins σ H s->RelV x v->RelV y u->r x y H Q->
  wpAny (model X.prog X.w) X.A (f v u) (EP X pins σ Q) X.xe s
def Zn (X:Cx)(f:Value->Sem Value)(r:V->Hp->VK->Prop):Prop:=
 ∀(pins:List (Addr×Obj)) (s:Shared) (σ:St) (H:Hp) (x:V) (v:Value) (Q:VK),Inv X pins σ H s->RelV x v->r x H Q->
  wpAny (model X.prog X.w) X.A (f v) (EP X pins σ Q) X.xe s
def EV (X:Cx)(f:Value)(r:List V->Hp->VK->Prop):Prop:=
 ∀(pins:List (Addr×Obj)) (s:Shared) (σ:St) (H:Hp) (xs:List V) (us:List Value) (Q:VK),Inv X pins σ H s->A5 xs us->r xs H Q->
  wpAny (model X.prog X.w) X.A (call f us) (EP X pins σ Q) X.xe s
def YY (r:R2)(ta tb:TE):TE:=λσ H Q=>ta σ H λx H1=>tb σ H1 λy H2=>r x y H2 Q
def ZT (r:V->Hp->VK->Prop)(ta:TE):TE:=λσ H Q=>ta σ H λx H1=>r x H1 Q
def rI (C:Int->Int->Prop)(g:Int->Int->V):R2:=λx y H Q=>∃i j,x=.int i/\y=.int j/\C i j/\Q (g i j) H
def XT (g:Int->Int->V):R2:=λx y H Q=>∃i j,x=.int i/\y=.int j/\Q (g i j) H
def rU (g:Int->V):V->Hp->VK->Prop:=λx H Q=>∃i,x=.int i/\Q (g i) H
section
variable {X:Cx}{a b c:Expr}{ta tb tc:TE}{pos:Pos}
theorem XS (ha:PE X a ta) (hb:PE X b tb) {pins:List (Addr×Obj)} {s:Shared} {σ:St} {H:Hp} {R:V->V->Hp->Prop} (I:Inv X pins σ H s)
  (h:ta σ H λx H1=>tb σ H1 λy H2=>R x y H2) {Q:Value->Shared->Prop} {f:Value->Value->Sem Value}
  (hf:∀v u s2 x y H2,Inv X pins σ H2 s2->RelV x v->RelV y u->R x y H2->wpAny (model X.prog X.w) X.A (f v u) Q X.xe s2) :
  wpAny (model X.prog X.w) X.A (eval a X.env) (λv s₁=>wpAny (model X.prog X.w) X.A (eval b X.env) (λu s₂=>wpAny (model X.prog X.w) X.A (f v u) Q X.xe s₂) X.xe s₁) X.xe s:=by
 refine BN (ha pins s σ H _ I h) λv s1 ⟨x,H1,I1,r1,q1⟩=>?_
 refine BN (hb pins s1 σ H1 _ I1 q1) λu s2 ⟨y,H2,I2,r2,q2⟩=>?_
 exact hf v u s2 x y H2 I2 r1 r2 q2
theorem Ay {op:Operator}{r:R2}(ho:IL X (binaryOp op) r)(ha:PE X a ta)(hb:PE X b tb):PE X (.BinOp a op b pos) (YY r ta tb):=by
 intro pins s σ H Q I h;exact wpAny_BinOp (XS ha hb I h λv u s2 x y H2 I2 rx ry q=>ho pins s2 σ H2 x y v u Q I2 rx ry q)
theorem Uj {op:UnaryOp}{r:V->Hp->VK->Prop}(ho:Zn X (unaryOp op) r)(ha:PE X a ta):PE X (.UnaryOp op a pos) (ZT r ta):=by
 intro pins s σ H Q I h;exact UnaryOp_ (BN (ha pins s σ H _ I h) λv s1 ⟨x,H1,I1,r1,q1⟩=>ho pins s1 σ H1 x v Q I1 r1 q1)
theorem Y1 {f:Value->Value->Sem Value} {C:Int->Int->Prop} {g:Int->Int->Int}
  (rule:∀(i j:Int) (t u:Tok) (s:Shared) (Q:Value->Shared->Prop) (E:Value->Shared->Prop),C i j->Q (.int (g i j) s.toks) { s with toks:=s.toks+1 }->wpAny (model X.prog X.w) X.A (f (.int i t) (.int j u)) Q E s) :
  IL X f (rI C λi j=>.int (g i j)):=by
 intro pins s σ H x y v u Q I rx ry h;obtain⟨i,j,rfl,rfl,hc,q⟩:=h;obtain⟨t,rfl⟩:=rx;obtain⟨t',rfl⟩:=ry;exact rule i j t t' s _ _ hc ⟨.int (g i j),H,I.tok _,⟨_,rfl⟩,q⟩
theorem Zj {f:Value->Value->Sem Value} {g:Int->Int->Int}
  (rule:∀(i j:Int) (t u:Tok) (s:Shared) (Q:Value->Shared->Prop) (E:Value->Shared->Prop),Q (.int (g i j) s.toks) { s with toks:=s.toks+1 }->wpAny (model X.prog X.w) X.A (f (.int i t) (.int j u)) Q E s) :
  IL X f (XT λi j=>.int (g i j)):=by
 intro pins s σ H x y v u Q I rx ry h;obtain⟨i,j,rfl,rfl,q⟩:=h;obtain⟨t,rfl⟩:=rx;obtain⟨t',rfl⟩:=ry;exact rule i j t t' s _ _ ⟨.int (g i j),H,I.tok _,⟨_,rfl⟩,q⟩
theorem V1 {f:Value->Value->Sem Value} {g:Int->Int->Bool}
  (rule:∀(i j:Int) (t u:Tok) (s:Shared) (Q:Value->Shared->Prop) (E:Value->Shared->Prop),Q (.bool (g i j)) s->wpAny (model X.prog X.w) X.A (f (.int i t) (.int j u)) Q E s) :
  IL X f (XT λi j=>.bl (g i j)):=by
 intro pins s σ H x y v u Q I rx ry h;obtain⟨i,j,rfl,rfl,q⟩:=h;obtain⟨t,rfl⟩:=rx;obtain⟨t',rfl⟩:=ry;exact rule i j t t' s _ _ ⟨.bl (g i j),H,I,rfl,q⟩
def ZA (i j:Int):Prop:=0<j/\j<1073741824
def Zr (i j:Int):Prop:=0<=j/\j<=1000000/\i.natAbs<2^64
def XD (i j:Int):Prop:=(-(2^64)<i/\i<2^64)\/(-(2^64)<j/\j<2^64)
theorem XD.ok {i j:Int}(h:XD i j):IntMulOk i j:=by
 rcases h with⟨h1,h2⟩|⟨h1,h2⟩
 ·exact .of_left (intBits_le_64 h1 h2)
 ·exact .of_right (intBits_le_64 h1 h2)
theorem Ce:IL X (binaryOp .Add) (XT λi j=>.int (i+j)):=Zj λ_ _ _ _ _ _ _ q=>add_int q
theorem K0:IL X (binaryOp .Mult) (rI XD λi j=>.int (i*j)):=Y1 λ_ _ _ _ _ _ _ hc q=>mul_int q hc.ok
theorem GT:IL X (binaryOp .FloorDiv) (rI ZA λi j=>.int (i/j)):=Y1 λi j _ _ _ _ _ hc q=>by
 have h1:(0:Int)<j:=hc.1;have h2:j<1073741824:=hc.2;exact floordiv_int (by omega) (by rw[Int.fdiv_eq_ediv_of_nonneg i (by omega)];exact q) (.inl (PyProof.noPylong_small (by omega)))
theorem Bw:IL X (binaryOp .Mod) (rI (λ_ j=>0<j) λi j=>.int (i%j)):=Y1 λi j _ _ _ _ _ hc q=>by
 have h1:(0:Int)<j:=hc;exact mod_int' (by omega) (by rw[Int.fmod_eq_emod_of_nonneg i (by omega)];exact q)
theorem QX:IL X (binaryOp .Pow) (rI Zr λi j=>.int (i^j.toNat)):=Y1 λ_ _ _ _ _ _ _ hc q=>pow_int_small hc.1 hc.2.1 hc.2.2 q
theorem ZX {f:Value->Sem Value} {g:Int->Int}
  (rule:∀(i:Int) (t:Tok) (s:Shared) (Q:Value->Shared->Prop) (E:Value->Shared->Prop),Q (.int (g i) s.toks) { s with toks:=s.toks+1 }->wpAny (model X.prog X.w) X.A (f (.int i t)) Q E s) :
  Zn X f (rU λi=>.int (g i)):=by
 intro pins s σ H x v Q I rx h;obtain⟨i,rfl,q⟩:=h;obtain⟨t,rfl⟩:=rx;exact rule i t s _ _ ⟨.int (g i),H,I.tok _,⟨_,rfl⟩,q⟩
theorem Rj:Zn X (unaryOp .USub) (rU λi=>.int (-i)):=ZX λ_ _ _ _ _ q=>neg_int q
end
def Rr:V->V->Bool
 | .non,.non=>true | .non,.int _=>true | .int _,.non=>true | .non,.bl _=>true | .bl _,.non=>true | .non,.str _=>true | .str _,.non=>true
 | .int _,.int _=>true | .bl _,.bl _=>true | .str _,.str _=>true | .byt _,.byt _=>true
 | .int _,.str _=>true | .str _,.int _=>true | .bl _,.str _=>true | .str _,.bl _=>true
 |_,_=>false
def ZQ:R2:=λx y H Q=>Rr x y=true/\Q (.bl (decide (x=y))) H
def ZW:R2:=λx y H Q=>Rr x y=true/\Q (.bl (!decide (x=y))) H
theorem OV {i j:Int}:decide (V.int i=V.int j)=(i == j):=by
 rw[cn];simp
theorem UM {i j:Bool}:decide (V.bl i=V.bl j)=(i == j):=by
 rw[cn];simp
theorem Gq {i j:Str}:decide (V.str i=V.str j)=(i == j):=by
 rw[cn];simp
theorem RP {i j:Array UInt8}:decide (V.byt i=V.byt j)=(i.toList == j.toList):=by
 rw[cn];cases i;cases j;simp
section
variable {X:Cx}{a b c:Expr}{ta tb tc:TE}{pos:Pos}
theorem Bi {pins:List (Addr×Obj)}{σ:St}{H:Hp}{s:Shared}{Q:VK}{k k':Bool}(I:Inv X pins σ H s)(q:Q (.bl k) H)(e:k=k'):EP X pins σ Q (.bool k') s:=by
 subst e;exact⟨.bl k,H,I,rfl,q⟩
theorem Ck:IL X (compareOp .Eq) ZQ:=by
 intro pins s σ H x y v u Q I rx ry h;obtain⟨hs,q⟩:=h;cases x with
 |non=>
  cases rx;cases y with
  |non=>cases ry;exact PySem.EqNone.eq_none_none (Bi I q (by simp))
  |bl j=>cases ry;exact PySem.EqNone.eq_none_bool (Bi I q (by simp))
  |int j=>obtain⟨t',rfl⟩:=ry;exact PySem.EqNone.eq_none_int (Bi I q (by simp))
  |str j=>obtain⟨t',rfl⟩:=ry;exact PySem.EqNone.eq_none_str (Bi I q (by simp))
  |_=>exact absurd (show false=true from hs) ay
 |bl i=>
  cases rx;cases y with
  |non=>cases ry;exact PySem.EqNone.eq_bool_none (Bi I q (by simp))
  |bl j=>cases ry;exact eq_bool (Bi I q UM)
  |str j=>obtain⟨t',rfl⟩:=ry;exact PySem.EqMixed.eq_bool_str (Bi I q (by simp))
  |_=>exact absurd (show false=true from hs) ay
 |int i=>
  obtain⟨t,rfl⟩:=rx;cases y with
  |non=>cases ry;exact PySem.EqNone.eq_int_none (Bi I q (by simp))
  |int j=>obtain⟨t',rfl⟩:=ry;exact eq_int (Bi I q OV)
  |str j=>obtain⟨t',rfl⟩:=ry;exact PySem.EqMixed.eq_int_str (Bi I q (by simp))
  |_=>exact absurd (show false=true from hs) ay
 |str i=>
  obtain⟨t,rfl⟩:=rx;cases y with
  |non=>cases ry;exact PySem.EqNone.eq_str_none (Bi I q (by simp))
  |bl j=>cases ry;exact PySem.EqMixed.eq_str_bool (Bi I q (by simp))
  |int j=>obtain⟨t',rfl⟩:=ry;exact PySem.EqMixed.eq_str_int (Bi I q (by simp))
  |str j=>obtain⟨t',rfl⟩:=ry;exact eq_str (Bi I q Gq)
  |_=>exact absurd (show false=true from hs) ay
 |byt i=>
  obtain⟨t,rfl⟩:=rx;cases y with
  |byt j=>obtain⟨t',rfl⟩:=ry;exact PySem.W.eq_bytes (Bi I q RP)
  |_=>exact absurd (show false=true from hs) ay
 |_=>cases y<;>exact absurd (show false=true from hs) ay
theorem JO:IL X (compareOp .NotEq) ZW:=by
 intro pins s σ H x y v u Q I rx ry h;obtain⟨hs,q⟩:=h;cases x with
 |non=>
  cases rx;cases y with
  |non=>cases ry;exact PySem.EqNone.ne_none_none (Bi I q (by simp))
  |bl j=>cases ry;exact PySem.EqNone.ne_none_bool (Bi I q (by simp))
  |int j=>obtain⟨t',rfl⟩:=ry;exact PySem.EqNone.ne_none_int (Bi I q (by simp))
  |str j=>obtain⟨t',rfl⟩:=ry;exact PySem.EqNone.ne_none_str (Bi I q (by simp))
  |_=>exact absurd (show false=true from hs) ay
 |bl i=>
  cases rx;cases y with
  |non=>cases ry;exact PySem.EqNone.ne_bool_none (Bi I q (by simp))
  |bl j=>cases ry;exact ne_bool (Bi I q (congrArg not UM))
  |str j=>obtain⟨t',rfl⟩:=ry;exact PySem.EqMixed.ne_bool_str (Bi I q (by simp))
  |_=>exact absurd (show false=true from hs) ay
 |int i=>
  obtain⟨t,rfl⟩:=rx;cases y with
  |non=>cases ry;exact PySem.EqNone.ne_int_none (Bi I q (by simp))
  |int j=>obtain⟨t',rfl⟩:=ry;exact ne_int (Bi I q (congrArg not OV))
  |str j=>obtain⟨t',rfl⟩:=ry;exact PySem.EqMixed.ne_int_str (Bi I q (by simp))
  |_=>exact absurd (show false=true from hs) ay
 |str i=>
  obtain⟨t,rfl⟩:=rx;cases y with
  |non=>cases ry;exact PySem.EqNone.ne_str_none (Bi I q (by simp))
  |bl j=>cases ry;exact PySem.EqMixed.ne_str_bool (Bi I q (by simp))
  |int j=>obtain⟨t',rfl⟩:=ry;exact PySem.EqMixed.ne_str_int (Bi I q (by simp))
  |str j=>obtain⟨t',rfl⟩:=ry;exact ne_str (Bi I q (congrArg not Gq))
  |_=>exact absurd (show false=true from hs) ay
 |byt i=>
  obtain⟨t,rfl⟩:=rx;cases y with
  |byt j=>obtain⟨t',rfl⟩:=ry;exact PySem.W.ne_bytes (Bi I q (congrArg not RP))
  |_=>exact absurd (show false=true from hs) ay
 |_=>cases y<;>exact absurd (show false=true from hs) ay
theorem Se:IL X (compareOp .Lt) (XT λi j=>.bl (decide (i<j))):=V1 λ_ _ _ _ _ _ _ q=>lt_int q
theorem Ms:IL X (compareOp .LtE) (XT λi j=>.bl (decide (i<=j))):=V1 λ_ _ _ _ _ _ _ q=>le_int q
theorem IQ:IL X (compareOp .Gt) (XT λi j=>.bl (decide (j<i))):=V1 λ_ _ _ _ _ _ _ q=>gt_int q
theorem Yf:IL X (compareOp .GtE) (XT λi j=>.bl (decide (j<=i))):=V1 λ_ _ _ _ _ _ _ q=>ge_int q
theorem NP:IL X (compareOp .In) (λx y H Q=>∃i j,x=.str i/\y=.str j/\Q (.bl (!(Builtin.Str.occurrences j i 0 j.length 1).isEmpty)) H):=by
 intro pins s σ H x y v u Q I rx ry h;obtain⟨i,j,rfl,rfl,q⟩:=h;obtain⟨t,rfl⟩:=rx;obtain⟨t',rfl⟩:=ry;exact in_str (Bi I q rfl)
theorem Oz:IL X (compareOp .NotIn) (λx y H Q=>∃i j,x=.str i/\y=.str j/\Q (.bl (!(!(Builtin.Str.occurrences j i 0 j.length 1).isEmpty))) H):=by
 intro pins s σ H x y v u Q I rx ry h;obtain⟨i,j,rfl,rfl,q⟩:=h;obtain⟨t,rfl⟩:=rx;obtain⟨t',rfl⟩:=ry;exact notIn_str (Bi I q rfl)
theorem AC (b:Expr){op:CmpOp}(h:op≠.In:=by decide)(h2:op≠.NotIn:=by decide):behindInMarks op b=false:=by
 have e1:(op == CmpOp.In)=false:=by cases op<;>first|rfl|exact absurd rfl h
 have e2:(op == CmpOp.NotIn)=false:=by cases op<;>first|rfl|exact absurd rfl h2
 cases b<;>simp[behindInMarks,e1,e2]
theorem Ej {op:CmpOp}{r:R2}(ho:IL X (compareOp op) r)(ha:PE X a ta)(hb:PE X b tb)(hm:behindInMarks op b=false):PE X (.Compare a [op] [b] pos) (YY r ta tb):=by
 intro pins s σ H Q I h;exact wpAny_Compare1 (XS ha hb I h λv u s2 x y H2 I2 rx ry q=>ho pins s2 σ H2 x y v u Q I2 rx ry q) hm
def WX (t:TE):TT:=λσ H Q=>t σ H λx H'=>∃k,x=.bl k/\Q k H'
theorem Ax {op:CmpOp}{r:R2}(ho:IL X (compareOp op) r)(ha:PE X a ta)(hb:PE X b tb)(hm:behindInMarks op b=false):PT X (.Compare a [op] [b] pos) (WX (YY r ta tb)):=by
 intro pins s σ H Q I h;refine wpAny_isTrue_Compare1 (BN (ha pins s σ H _ I h) λv s1 ⟨x,H1,I1,r1,q1⟩=>BN (hb pins s1 σ H1 _ I1 q1) λu s2 ⟨y,H2,I2,r2,q2⟩=>
  BN (ho pins s2 σ H2 x y v u _ I2 r1 r2 q2) λc s3 ⟨z,H3,I3,r3,k,e,q3⟩=>?_) hm
 subst e;cases r3;exact cD ⟨H3,I3,q3⟩
def W9 (r r':R2)(ta tb tc:TE):TE:=λσ H Q=>ta σ H λx H1=>tb σ H1 λy H2=>r x y H2 λz H3=>∃k,z=.bl k/\
 (if k=true then tc σ H3 λw' H4=>r' y w' H4 Q else Q (.bl false) H3)
theorem MU {op op':CmpOp} {r r':R2} (ho:IL X (compareOp op) r) (ho':IL X (compareOp op') r') (ha:PE X a ta) (hb:PE X b tb) (hc:PE X c tc)
  (hm:lastMarks [op,op'] [b,c]=false:=by with_unfolding_all rfl):PT X (.Compare a [op,op'] [b,c] pos) (WX (W9 r r' ta tb tc)):=by
 intro pins s σ H Q I h;refine isTrue_chain (BN (ha pins s σ H _ I h) λv s1 ⟨x,H1,I1,r1,q1⟩=>test_link (BN (hb pins s1 σ H1 _ I1 q1) λu s2 ⟨y,H2,I2,r2,q2⟩=>
  BN (ho pins s2 σ H2 x y v u _ I2 r1 r2 q2) λd s3 ⟨z,H3,I3,r3,k,e,q3⟩=>?_)) hm
 subst e;cases r3;refine cD ?_;cases k with
 |false=>
  obtain⟨k',e',q'⟩:=q3;cases e';exact ite_ff ⟨H3,I3,q'⟩
 |true=>
  refine ite_tt (test_last (BN (hc pins s3 σ H3 _ I3 q3) λw' s4 ⟨z',H4,I4,r4,q4⟩=>BN (ho' pins s4 σ H4 y z' u w' _ I4 r2 r4 q4) λd' s5 z9=>?_));obtain⟨z2,H5,I5,r5,k2,e2,q5⟩:=z9;subst e2;cases r5;exact cD ⟨H5,I5,q5⟩
theorem MJ:(sizeLine:Nat)<2^63:=by rw[bh];decide
theorem AR:IL X (binaryOp .Add) (λx y H Q=>∃i j,x=.str i/\y=.str j/\i.length+j.length<=sizeLine/\Q (.str (i++j)) H):=by
 intro pins s σ H x y v u Q I rx ry h;obtain⟨i,j,rfl,rfl,hz,q⟩:=h;obtain⟨t,rfl⟩:=rx;obtain⟨t',rfl⟩:=ry;exact add_str (λt' tk=>⟨.str (i++j),H,I.tok _,⟨_,rfl⟩,q⟩) hz
theorem vals1 {x:V}{us:List Value}(r:A5 [x] us):∃u,us=[u]/\RelV x u:=by
 cases r with
 |cons r1 r2=>cases r2;exact⟨_,rfl,r1⟩
theorem vals2 {x y:V}{us:List Value}(r:A5 [x,y] us):∃u w',us=[u,w']/\RelV x u/\RelV y w':=by
 cases r with
 |cons r1 r2=>
  cases r2 with
  |cons r3 r4=>cases r4;exact⟨_,_,rfl,r1,r3⟩
theorem KU:EV X (.type "int") (λxs H Q=>(∃i,xs=[.int i]/\Q (.int i) H)\/∃k,xs=[.bl k]/\Q (.int (if k then 1 else 0)) H):=by
 intro pins s σ H xs us Q I r h;rcases h with⟨i,rfl,q⟩|⟨k,rfl,q⟩
 ·obtain⟨u,rfl,t,rfl⟩:=vals1 r;exact call_int_int ⟨.int i,H,I,⟨_,rfl⟩,q⟩
 ·obtain⟨u,rfl,r1⟩:=vals1 r;cases r1;exact call_int_bool ⟨.int (if k then 1 else 0),H,I.tok _,⟨_,rfl⟩,q⟩
end
structure ObjM (h:Heap) (x dx C:Addr) (mA:Str->Option Value):Prop where
 obj:h.get? x=some (PySem.W.instObj C dx)
 ns:h.Ns1 dx mA
 ne:dx≠x
theorem Oe {h:Heap}{dx:Addr}{mA:Str->Option Value}(n:h.Ns1 dx mA):∃od,h.get? dx=some od/\∀name,PySem.W.lookIn name od=some (mA name):=by
 obtain⟨o,es,ep,ho,hd,hk,_,hm⟩:=n;refine⟨o,ho,λname=>?_⟩;have e:=hm name;unfold nsFind findBy at e;rw[<-Array.find?_toList] at e;unfold PySem.W.lookIn;rw[hd];dsimp only
 split
 ·rename_i y q
  rw[q] at e;exact congrArg some e
 ·rename_i q
  rw[q] at e;have a:es.toList.any (·.refKey)=false:=by
   rw[List.any_eq_false];intro y hy;obtain⟨z,t,hkey⟩:=hk y (Array.mem_toList_iff.mp hy);simp[DictEntry.refKey,hkey]
  have a':¬es.toList.any (·.refKey)=true:=by rw[a];exact ay
  rw[ai a'];exact congrArg some e
theorem ObjM.look {h:Heap}{x dx C:Addr}{mA:Str->Option Value}(I:ObjM h x dx C mA):∃od,PySem.W.InstAt h x (PySem.W.instObj C dx) C (some od)/\∀name,PySem.W.lookIn name od=some (mA name):=
 let⟨od,ho,hl⟩:=Oe I.ns
 ⟨od,⟨I.obj,rfl,rfl,ho⟩,hl⟩
section
variable {prog:Program}{w:World}{A:Around}{E:Value->Shared->Prop}{s:Shared}{K:PySem.W.Frag}{x dx C f:Addr}{mA:Str->Option Value}{name:Str}{v:Value}
theorem get_map {expr:Bool} {Q:Value->Shared->Prop} (X:K.In s.heap) (I:ObjM s.heap x dx C mA) (hg:PySem.W.plainGet K C name=true) (hh:PySem.W.hasDictIn K C=true)
  (ha:PySem.W.findIn K (.ref C) name=some none) (hv:mA name=some v) (hv':PySem.W.handedIn v=true) (h:Q v { s with toks:=s.toks+1 }) :
  wpAny (model prog w) A (getAttr (.ref x) name expr) Q E s:=by
 obtain⟨od,J,hl⟩:=I.look;exact PySem.W.get_value X J (fq hg).1 (ij hh ha rfl (by rw[hl,hv])) hv' h
theorem UG {pl:Sem Bool} {Q:Value×List Value->Shared->Prop} (X:K.In s.heap) (I:ObjM s.heap x dx C mA) (hg:PySem.W.plainGet K C name=true)
  (hf:PySem.W.findIn K (.ref C) name=some (some (.ref f))) (ht:PySem.W.isFn K (.ref f)=true) (hv:mA name=none) (h:Q (.ref f,[.ref x]) s) :
  wpAny (model prog w) A (getMethod (.ref x) name pl) Q E s:=by
 obtain⟨od,J,hl⟩:=I.look;exact PySem.W.method_fn X J (fq hg).1 (fq hg).2 hf (bQ.mp ht) (by show(PySem.W.lookIn name od).map (·.isSome)=some false;rw[hl,hv];rfl) h
theorem Ws {ns:List Str} {Q:Unit->Shared->Prop} (X:K.In s.heap) (I:ObjM s.heap x dx C mA)
  (hs:PySem.W.findIn K (.ref C) "__setattr__"=some (some (.builtin "object.__setattr__"))) (hp:PySem.W.plainOver K C=true) (ht:PySem.W.takerIn K C name=some none) (hh:PySem.W.hasDictIn K C=true)
  (hw:PySem.Within mA ns) (hsz:ns.length<=sizeLine)
  (h:∀h',ObjM h' x dx C (λy=>if y=name then some v else mA y)->Heap.SameBut dx s.heap h'->Q () { s with heap:=h',toks:=s.toks+2 }) :
  wpAny (model prog w) A (setAttr (.ref x) name v) Q E s:=by
 obtain⟨od,J,hl⟩:=I.look;refine PySem.W.set_plain X J hs (PySem.W.osa_open (s:={ s with toks:=s.toks+1 }) (r:=none) X J hp ht λb=>?_);obtain⟨cd,hc,hd'⟩:=PySem.W.any_some hh;have hx:s.heap.get? x=some ⟨.ref C,some dx,.plain,#[]⟩:=I.obj;refine ae (aB (ae (ae (hZ hx (ae (PySem.W.Looks.here (s:={ s with toks:=s.toks+1 }) (PySem.W.looks_clsIn X hc) ?_))))));rw[hd'];refine aB (a:=some dx) (ae (aB (ae ?_)));refine wpAny_nsSet1 (s:={ s with toks:=s.toks+1 }) I.ns λh' hn2 hs2=>?_
 obtain⟨oD,esD,epD,hoD,hdD,hcD⟩:=hn2.count (PySem.Within.cons name v hw);refine ae (wpAny_lookBehind hoD (by rw[hdD];exact pastItsLine_dict (aX hcD (by rw[aS];omega))) ?_);exact aB (h _ ⟨(hs2.2 _ (Ne.symm I.ne)).trans I.obj,hn2,I.ne⟩ hs2)
theorem TL {R:Result->Shared->Prop} {vs:List Value} {kw:List (Str×Value)} (X:K.In s.heap) (hm:PySem.W.makesIn K C=true)
  (hi:PySem.W.findIn K (.ref C) "__init__"=some (some (.ref f))) (hf:PySem.W.typeIn K (.ref f)=some (.type "function"))
  (h:codeAny (model prog w) (A.under (.builtin "type.__call__" ⟨.ref C::vs,kw⟩)) (.call (.ref f) ⟨.ref (s.heap.objs.size+1)::vs,kw⟩) (PySem.W.InitBack (s.heap.objs.size+1) R)
   { s with heap:=(s.heap.push PySem.W.emptyDict).push (PySem.W.instObj C s.heap.objs.size) }) :
  codeAny (model prog w) A (.call (.ref C) ⟨vs,kw⟩) R s:=by
 obtain⟨hh,g,d,t,os⟩:=s;exact PySem.W.make_core (PySem.W.makes_of X hm) (PySem.W.looks_findIn X hi) (λself=>PySem.W.bind_fn X self hf) (.inl rfl) h
end
def II (f:Str)(v:V):List (Str×V)->List (Str×V)
 |[]=>[(f,v)]
 |(g,x)::r=>if g=f then(g,v)::r else(g,x)::II f v r
theorem K9 (f g:Str)(v:V):∀fs:List (Str×V),(II f v fs).lookup g=if g=f then some v else fs.lookup g
 |[]=>by
  show List.lookup g [(f,v)]=_
  by_cases h:g=f
  ·have hb:(g == f)=true:=bQ.mpr h;simp only[List.lookup,hb,if_pos h]
  ·have hb:(g == f)=false:=cm.mpr h;simp only[List.lookup,hb,if_neg h]
 |(k,x)::r=>by
  have ih:=K9 f g v r;rw[show II f v ((k,x)::r)=(if k=f then(k,v)::r else(k,x)::II f v r) from rfl]
  by_cases hk:k=f
  ·rw[ak hk]
   by_cases h:g=k
   ·have hb:(g == k)=true:=bQ.mpr h;simp only[List.lookup,hb,if_pos (h.trans hk)]
   ·have hb:(g == k)=false:=cm.mpr h;simp only[List.lookup,hb,if_neg (λe:g=f=>h (e.trans hk.symm))]
  ·rw[ai hk]
   by_cases h:g=k
   ·have hb:(g == k)=true:=bQ.mpr h;simp only[List.lookup,hb,if_neg (λe:g=f=>hk (h.symm.trans e))]
   ·have hb:(g == k)=false:=cm.mpr h;simp only[List.lookup,hb];exact ih
theorem Kv (f:Str)(v:V):∀fs:List (Str×V),f∈(II f v fs).map (·.1)/\∀g,g∈fs.map (·.1)->g∈(II f v fs).map (·.1)
 |[]=>⟨by simp[II],λg h=>by simp at h⟩
 |(k,x)::r=>by
  obtain⟨i1,i2⟩:=Kv f v r;rw[show II f v ((k,x)::r)=(if k=f then(k,v)::r else(k,x)::II f v r) from rfl]
  by_cases hk:k=f
  ·rw[ak hk];subst hk;exact⟨by simp,λg h=>by simpa using h⟩
  ·rw[ai hk];refine⟨?_,λg h=>?_⟩
   ·rw[aF];exact ao _ i1
   ·rw[aF] at h ⊢;rcases aM.mp h with e|e
    ·exact aM.mpr (.inl e)
    ·exact ao _ (i2 g e)
theorem Le (f:Str)(v:V):∀fs:List (Str×V),(II f v fs).length<=fs.length+1
 |[]=>by simp[II]
 |(k,x)::r=>by
  have ih:=Le f v r;rw[show II f v ((k,x)::r)=(if k=f then(k,v)::r else(k,x)::II f v r) from rfl]
  by_cases hk:k=f
  ·rw[ak hk,aS,aS];omega
  ·rw[ai hk,aS,aS];omega
theorem Gj.some_of {v:V}{o:Option Value}(r:Gj (some v) o):∃u,o=some u/\RelV v u:=by
 cases o with
 |none=>exact(show False from r).elim
 |some u=>exact⟨u,rfl,r⟩
theorem Gj.none_of {o:Option Value}(r:Gj none o):o=none:=by
 cases o with
 |none=>rfl
 |some u=>exact(show False from r).elim
theorem NK {v:V}{u:Value}(r:RelV v u):PySem.W.handedIn u=true:=by
 cases v with
 |non=>cases(show u=Value.none from r);rfl
 |bl b=>cases(show u=Value.bool b from r);rfl
 |int i=>obtain⟨t,e⟩:=(show ∃t,u=Value.int i t from r);cases e;rfl
 |str x=>obtain⟨t,e⟩:=(show ∃t,u=Value.str x t from r);cases e;rfl
 |byt b=>obtain⟨t,e⟩:=(show ∃t,u=Value.bytes b t from r);cases e;rfl
 |flt b=>obtain⟨t,e⟩:=(show ∃t,u=Value.float b t from r);cases e;rfl
 |ref a=>cases(show u=Value.ref a from r);rfl
 |ty n=>cases(show u=Value.type n from r);rfl
section
variable {P:Program}{w:World}{H H':Hp}{h h':Heap}{a C dx:Addr}{fs fs':List (Str×V)}
theorem Lv (hok:IA P w H h)(e:H a=some (.ins C dx fs)):∃mA,ObjM h a dx C mA/\(∀f,Gj (fs.lookup f) (mA f))/\PySem.Within mA (fs.map (·.1))/\fs.length<=1000/\H dx=some (.own a):=by
 obtain⟨d,z,ne,ob,mA,n,r,q⟩:=(show Be P w H h a (.ins C dx fs) from hok a _ e)
 exact⟨mA,⟨ob,n,ne⟩,r,q,z,d⟩
end
structure Cls (K:PySem.W.Frag) (C:Addr):Prop where
 pg:PySem.W.plainGet K C Str.empty=true
 hd:PySem.W.hasDictIn K C=true
 po:PySem.W.plainOver K C=true
 sa:PySem.W.findIn K (.ref C) "__setattr__"=some (some (.builtin "object.__setattr__"))
theorem Cls.get {K:PySem.W.Frag}{C:Addr}(c:Cls K C)(f:Str):PySem.W.plainGet K C f=true:=c.pg
def Gy (K:PySem.W.Frag)(C:Addr)(f:Str):Prop:=PySem.W.findIn K (.ref C) f=some none
theorem Gy.taker {K:PySem.W.Frag}{C:Addr}{f:Str}(n:Gy K C f):PySem.W.takerIn K C f=some none:=by
 unfold PySem.W.takerIn;rw[show PySem.W.findIn K (.ref C) f=some none from n];rfl
structure Meth (K:PySem.W.Frag) (C:Addr) (m:Str) (f:Addr):Prop where
 at_:PySem.W.findIn K (.ref C) m=some (some (.ref f))
 fn:PySem.W.isFn K (.ref f)=true
 kp:PySem.W.keepIn K (.ref f)=true
section
variable {X:Cx}{pins:List (Addr×Obj)}{σ:St}{H:Hp}{s:Shared}{a C dx:Addr}{fs:List (Str×V)}{f:Str}{v:V}{A:Around}{E:Value->Shared->Prop}
theorem QC {b:Bool} {Q:Value->Shared->Prop} (I:Inv X pins σ H s) (e:H a=some (.ins C dx fs)) (c:Cls X.K C) (n:Gy X.K C f) (l:fs.lookup f=some v)
  (h:∀u s',Inv X pins σ H s'->RelV v u->Q u s'):wpAny (model X.prog X.w) A (getAttr (.ref a) f b) Q E s:=by
 obtain⟨mA,O,r,_,_,_⟩:=Lv I.hok e;obtain⟨u,hu,ru⟩:=Gj.some_of (v:=v) (o:=mA f) (by rw[<-l];exact r f);exact get_map I.kIn O (c.get f) c.hd n hu (NK ru) (h u _ (I.tok _) ru)
theorem Jx {m:Str} {g:Addr} {pl:Sem Bool} {Q:Value×List Value->Shared->Prop} (I:Inv X pins σ H s) (e:H a=some (.ins C dx fs)) (c:Cls X.K C) (k:Meth X.K C m g) (l:fs.lookup m=none)
  (h:Q (.ref g,[.ref a]) s):wpAny (model X.prog X.w) A (getMethod (.ref a) m pl) Q E s:=by
 obtain⟨mA,O,r,_,_,_⟩:=Lv I.hok e;have hn:mA m=none:=Gj.none_of (by rw[<-l];exact r m);exact UG I.kIn O (c.get m) k.at_ k.fn hn h
theorem QU {y:V} {u:Value} {Q:Unit->Shared->Prop} (I:Inv X pins σ H s) (e:H a=some (.ins C dx fs)) (c:Cls X.K C) (n:Gy X.K C f) (hl:fs.length<1000) (ry:RelV y u)
  (h:∀s',Inv X pins σ (upd H a (.ins C dx (II f y fs))) s'->Q () s'):wpAny (model X.prog X.w) A (setAttr (.ref a) f u) Q E s:=by
 obtain⟨mA,O,r,wi,_,ho⟩:=Lv I.hok e;have hz:(fs.map (·.1)).length<=sizeLine:=by rw[aa,bh];omega
 refine Ws I.kIn O c.sa c.po n.taker c.hd wi hz λh' O' sb=>h _ ?_
 have hd:∃o,h'.get? dx=some o:=let⟨o,_,_,e',_⟩:=O'.ns;⟨o,e'⟩;refine I.write (x:=a) (e:=dx) (by rw[e];exact True.intro) (.inr ho) (λb q hb z=>(sb.2 b hb).trans z) hd ?_;refine⟨by rw[Ak O.ne];exact ho,?_,O.ne,O'.obj,_,O'.ns,λg=>?_,λg hg=>?_⟩
 ·have:=Le f y fs;omega
 ·show Gj ((II f y fs).lookup g) (if g=f then some u else mA g);rw[K9]
  by_cases q:g=f
  ·rw[ak q,ak q];exact ry
  ·rw[ai q,ai q];exact r g
 ·by_cases q:g=f
  ·rw[q];exact(Kv f y fs).1
  ·refine(Kv f y fs).2 g (wi g λz=>hg ?_);show(if g=f then some u else mA g)=none;rw[ai q];exact z
theorem Inv.made (I:Inv X pins σ H s):Inv X pins σ (upd (upd H s.heap.objs.size (.own (s.heap.objs.size+1))) (s.heap.objs.size+1) (.ins C s.heap.objs.size []))
  { s with heap:=(s.heap.push PySem.W.emptyDict).push (PySem.W.instObj C s.heap.objs.size) }:=by
 have e1:(s.heap.push PySem.W.emptyDict).get? s.heap.objs.size=some PySem.W.emptyDict:=aH s.heap rfl;have e2:((s.heap.push PySem.W.emptyDict).push (PySem.W.instObj C s.heap.objs.size)).get? (s.heap.objs.size+1)=some (PySem.W.instObj C s.heap.objs.size):=by
  have:=aH (s.heap.push PySem.W.emptyDict) (o:=PySem.W.instObj C s.heap.objs.size) rfl
  rwa [cH] at this
 have e3:(s.heap.push PySem.W.emptyDict).Ns s.heap.objs.size (λ_=>none):=⟨PySem.W.emptyDict,#[],_,e1,rfl,(λe he=>absurd he (by simp)),λ_=>rfl⟩
 have I1:=I.laid (a:=s.heap.objs.size) (o:=.own (s.heap.objs.size+1)) (h':=s.heap.push PySem.W.emptyDict) (t':=s.toks) (λb u q=>af _ q) (au _) ⟨_,e1⟩;refine I1.laid (a:=s.heap.objs.size+1) (o:=.ins C s.heap.objs.size []) (t':=s.toks) (λb u q=>af _ q) (eM (cH _ _)) ?_;have ne:s.heap.objs.size≠s.heap.objs.size+1:=a4 (fP _);refine⟨by rw[Ak ne,Ac],a6 _,ne,e2,λ_=>none,(Heap.Ns1.of_empty e3).at λo q=>af _ q,λ_=>True.intro,λy hy=>absurd rfl hy⟩
theorem RX {prog:Program} {w:World} {env:Env} {e:Expr} {f:Str} {pos:Pos} {s:Shared} {Q:Value->Shared->Prop} (hb:attributeBase e f env (eval e env)=eval e env)
  (h:wpAny (model prog w) A (eval e env) (λo s₁=>wpAny (model prog w) A (getAttr o f true) Q E s₁) E s):wpAny (model prog w) A (eval (.Attribute e f pos) env) Q E s:=
 Attribute_any_ h (by rw[arm_eval_Attribute,hb])
end
def Zd (K:PySem.W.Frag)(ta:TE)(f:Str):TE:=λσ H Q=>ta σ H λx H1=>∃a C dx fs v,x=.ref a/\H1 a=some (.ins C dx fs)/\Cls K C/\Gy K C f/\fs.lookup f=some v/\Q v H1
def Zi (K:PySem.W.Frag)(ta tv:TE)(f:Str):TS:=λD σ H=>tv σ H λy H1=>ta σ H1 λx H2=>∃a C dx fs,x=.ref a/\H2 a=some (.ins C dx fs)/\Cls K C/\Gy K C f/\fs.length<1000/\
 D.nx σ (upd H2 a (.ins C dx (II f y fs)))
section
variable {X:Cx}{o e value:Expr}{f:Str}{pos pos' tpos:Pos}{ta tv:TE}
theorem Ju (he:PE X e ta)(hb:attributeBase e f X.env (eval e X.env)=eval e X.env):PE X (.Attribute e f pos) (Zd X.K ta f):=by
 intro pins s σ H Q I h;refine RX hb (BN (he pins s σ H _ I h) λu s1 z9=>?_);obtain⟨x,H1,I1,rx,a,C,dx,fs,v,ex,ea,c,n,l,q⟩:=z9;subst ex;obtain rfl:u=Value.ref a:=rx;exact QC I1 ea c n l λu' s2 I2 ru=>⟨v,H1,I2,ru,q⟩
theorem O5 (ha:PE X o ta)(hv:PE X value tv)(hs:swapsWith value (some (.Attribute o f pos')) pos.line X.env=pure false):PS X (.Assign [.Attribute o f pos'] value pos) (Zi X.K ta tv f):=by
 intro pins s σ H D I h;refine gD (BN (hv pins s σ H _ I h) λu s1 ⟨y,H1,I1,ry,q⟩=>BN (ha pins s1 σ H1 _ I1 q) λov s2 z9=>?_) hs;obtain⟨x,H2,I2,rx,a,C,dx,fs,ex,ea,c,n,l,q2⟩:=z9;subst ex;obtain rfl:ov=Value.ref a:=rx;exact QU I2 ea c n l ry λs3 I3=>⟨σ,_,I3,q2⟩
theorem WN {pl:Sem Bool} {m:Str} {apos:Pos} {args:List Expr} {pins:List (Addr×Obj)} {s:Shared} {σ:St} {H:Hp} {Q:Value->Shared->Prop} {te:TE} (he:PE X e te) (I:Inv X pins σ H s)
  (h:te σ H λx H1=>∃a C dx fs g,x=.ref a/\H1 a=some (.ins C dx fs)/\Cls X.K C/\Meth X.K C m g/\fs.lookup m=none/\
   ∀s1,Inv X pins σ H1 s1->wpAny (model X.prog X.w) X.A (callWith pos (.ref g) [.ref a] (backTo pos (starEach args X.env)) (backToKw pos (keywordEach [] X.env))) Q X.xe s1)
  (ht:eval (.Call (.Attribute e m apos) args [] pos) X.env=(do
   let ov <-eval e X.env
   standAt apos.atName
   let(f,first) <-holding [ov] (getMethod ov m pl)
   callWith pos f first (backTo pos (starEach args X.env)) (backToKw pos (keywordEach [] X.env)))) :
  wpAny (model X.prog X.w) X.A (eval (.Call (.Attribute e m apos) args [] pos) X.env) Q X.xe s:=by
 refine eX (pl:=pl) (BN (he pins s σ H _ I h) λu s1 z9=>?_) ht;obtain⟨x,H1,I1,rx,a,C,dx,fs,g,ex,ea,c,k,l,q⟩:=z9;subst ex;obtain rfl:u=Value.ref a:=rx;exact Jx I1 ea c k l (q s1 I1)
end
section
variable {X:Cx}{pins:List (Addr×Obj)}{σ:St}{H:Hp}{s:Shared}{A:Around}{E:Value->Shared->Prop}{Q:Value->Shared->Prop}{c:Value}{b:Bool}
inductive TyOf (K:PySem.W.Frag) (H:Hp):V->Value->Prop where
 |non:TyOf K H .non (.type "NoneType")
 |bl (x:Bool):TyOf K H (.bl x) (.type "bool")
 |int (i:Int):TyOf K H (.int i) (.type "int")
 |str (x:Str):TyOf K H (.str x) (.type "str")
 |flt (x:UInt64):TyOf K H (.flt x) (.type "float")
 |lst {a:Addr} {xs:List V} (e:H a=some (.lst xs)):TyOf K H (.ref a) (.type "list")
 |frz {a:Addr} {o:Obj} {xs:List V} (e:H a=some (.frz o (.lst xs))):TyOf K H (.ref a) (.type "list")
 |tup {a:Addr} {xs:List V} (e:H a=some (.tup xs)):TyOf K H (.ref a) (.type "tuple")
 |dK {a:Addr} {kvs:List (Key×V)} (e:H a=some (.dK kvs)):TyOf K H (.ref a) (.type "dict")
 |dT {a:Addr} {kvs:List (List Key×V)} (e:H a=some (.dT kvs)):TyOf K H (.ref a) (.type "dict")
 |ins {a C dx:Addr} {fs:List (Str×V)} (e:H a=some (.ins C dx fs)) (cl:Cls K C) (ha:PySem.W.findIn K (.ref C) "__class__"=some (some (.builtin "object.__class__")))
   (hn:PySem.W.specialIn K (.builtin "object.__class__") "__get__"=some (some (.builtin "getset_descriptor.__get__"))) (htk:PySem.W.takesIn K (.builtin "object.__class__")=some true)
   (hm:PySem.W.mroIn K C (.type "object")=some true):TyOf K H (.ref a) (.ref C)
theorem Tc {x:V}{u t:Value}(I:Inv X pins σ H s)(rx:RelV x u)(ty:TyOf X.K H x t)(e:PySem.W.kitOne X.K t c=some b)(h:∀tk,Q (.bool b) { s with toks:=tk }) :
  wpAny (model X.prog X.w) A (call (.builtin "isinstance") [u,c]) Q E s:=by
 cases ty with
 |non=>cases(show u=Value.none from rx);exact bU PySem.W.kitx_none I.kIn True.intro e (λz=>nomatch z) h
 |bl y=>cases(show u=Value.bool y from rx);exact bU PySem.W.kitx_bool I.kIn True.intro e (λz=>nomatch z) h
 |int i=>obtain⟨t,q⟩:=(show ∃t,u=Value.int i t from rx);cases q;exact bU PySem.W.kitx_int I.kIn True.intro e (λz=>nomatch z) h
 |str y=>obtain⟨t,q⟩:=(show ∃t,u=Value.str y t from rx);cases q;exact bU PySem.W.kitx_str I.kIn True.intro e (λz=>nomatch z) h
 |flt y=>obtain⟨t,q⟩:=(show ∃t,u=Value.float y t from rx);cases q;exact bU PySem.W.kitx_float I.kIn True.intro e (λz=>nomatch z) h
 |@lst a xs ea=>
  cases(show u=Value.ref a from rx);obtain⟨_,_,n,_,h1⟩:=(show Be X.prog X.w H s.heap a (.lst xs) from I.hok a _ ea)
  exact bU PySem.W.kitx_list I.kIn ⟨_,h1,rfl⟩ e (λz=>nomatch z) h
 |@frz a ob xs ea=>
  cases(show u=Value.ref a from rx);obtain⟨_,_,_,n,_,h1⟩:=(show Be X.prog X.w H s.heap a (.frz ob (.lst xs)) from I.hok a _ ea)
  exact bU PySem.W.kitx_list I.kIn ⟨_,h1,rfl⟩ e (λz=>nomatch z) h
 |@tup a xs ea=>
  cases(show u=Value.ref a from rx);obtain⟨_,_,_,p⟩:=(show Be X.prog X.w H s.heap a (.tup xs) from I.hok a _ ea)
  obtain⟨o,h1,h2,_⟩:=p;exact bU PySem.W.kitx_tuple I.kIn ⟨o,h1,h2⟩ e (λz=>nomatch z) h
 |@dK a kvs ea=>
  cases(show u=Value.ref a from rx);obtain⟨_,_,vs,_,p⟩:=(show Be X.prog X.w H s.heap a (.dK kvs) from I.hok a _ ea)
  obtain⟨o,es,ep,h1,h2,_⟩:=p;exact bU PySem.W.kitx_dict I.kIn ⟨o,h1,h2.1⟩ e (λz=>nomatch z) h
 |@dT a kvs ea=>
  cases(show u=Value.ref a from rx);obtain⟨_,_,xs,_,o,es,ep,h1,h2,_⟩:=(show Be X.prog X.w H s.heap a (.dT kvs) from I.hok a _ ea)
  exact bU PySem.W.kitx_dict I.kIn ⟨o,h1,h2.1⟩ e (λz=>nomatch z) h
 |@ins a C dx fs ea cl ha hn htk hm=>
  cases(show u=Value.ref a from rx);obtain⟨mA,O,_⟩:=Lv I.hok ea;obtain⟨od,J,_⟩:=O.look;exact bU (PySem.W.kitx_own (cl.get _) cl.hd ha hn htk hm) I.kIn J e (λz=>nomatch z) h
end
structure Room (k:Nat) (A:Around):Prop where
 hd:A.handled=none
 dp:A.depth+3*k+5<recursionLimit
 un:A.units+16*k+200<cLine
theorem Room.mono {j k:Nat}{A:Around}(r:Room k A)(h:j<=k):Room j A:=⟨r.hd,by have:=r.dp;omega,by have:=r.un;omega⟩
theorem Room.deeper {k:Nat}{A:Around}(r:Room (k+1) A)(env:Env):Room k (A.deeper env):=
 ⟨r.hd,by have:=r.dp;show A.depth+1+3*k+5<_;omega,by have:=r.un;show A.units+3+16*k+200<_;omega⟩
theorem Rw {A:Around}{C:Addr}{us:List Value}{kw:List (Str×Value)}:(A.under (.builtin "type.__call__" ⟨.ref C::us,kw⟩)).depth=A.depth+1:=by
 first|rfl|simp[Around.under,Code.weight,Code.isCreation,Code.isGuard,Code.isCaller,Code.frames,Code.isFrame,guardIds]
theorem QV {A:Around}{C:Addr}{us:List Value}{kw:List (Str×Value)}:(A.under (.builtin "type.__call__" ⟨.ref C::us,kw⟩)).units=A.units+1:=by
 first|rfl|simp[Around.under,Code.cUnits,Code.frames,Code.isFrame]
theorem Room.make {k:Nat}{A:Around}(r:Room (k+1) A)(C:Addr)(us:List Value)(kw:List (Str×Value)):Room k (A.under (.builtin "type.__call__" ⟨.ref C::us,kw⟩)):=
 ⟨r.hd,by have:=r.dp;rw[Rw];omega,by have:=r.un;rw[QV];omega⟩
theorem Room.depth {k:Nat}{A:Around}(r:Room k A):A.depth<recursionLimit:=by have:=r.dp;omega
theorem Room.units {k:Nat}{A:Around}(r:Room k A):A.units+64<cLine:=by have:=r.un;omega
def Q4:TA:=λ_ H Q=>Q [] H
def IT (ta:TE)(tr:TA):TA:=λσ H Q=>ta σ H λx H1=>tr σ H1 λxs H2=>Q (x::xs) H2
section
variable {X:Cx}{e:Expr}{es:List Expr}{te:TE}{t:TA}{pos:Pos}
theorem Ab:PA X [] Q4:=λ_ _ _ _ H Q I h=>gz ⟨[],H,I,.nil,h⟩
theorem Aa (ha:PE X e te)(hr:PA X es t)(hs:starEach (e::es) X.env=(false,eval e X.env)::starEach es X.env:=by rfl):PA X (e::es) (IT te t):=by
 intro pos pins s σ H Q I h;rw[hs];show wpAny _ _ (spliced ((false,eval e X.env)::backTo pos (starEach es X.env))) _ _ s;refine gd (BN (ha pins s σ H _ I h) λu s1 ⟨x,H1,I1,r1,q1⟩=>?_);exact BN (hr pos pins s1 σ H1 _ I1 q1) λus s2 ⟨xs,H2,I2,r2,q2⟩=>⟨x::xs,H2,I2,.cons r1 r2,q2⟩
def Y5 (t:TA):TE:=λσ H Q=>t σ H λxs H1=>xs.length<=sizeLine/\∀p,H1 p=none->Q (.ref p) (upd H1 p (.tup xs))
def Y9 (t:TA):TE:=λσ H Q=>t σ H λxs H1=>xs.length<=sizeLine/\∀p,H1 p=none->Q (.ref p) (upd H1 p (.lst xs))
theorem Az {x1}(h:PA X es t):PE X (.Tuple es x1 pos) (Y5 t):=by
 intro pins s σ H Q I hq;refine wpAny_Tuple_spliced (BN (h pos pins s σ H _ I hq) λus s1 ⟨xs,H1,I1,r,z,q⟩=>⟨by rw[<-r.length];exact z,?_⟩);have hf:H1 s1.heap.objs.size=none:=I1.hok.fresh (au _);refine⟨.ref s1.heap.objs.size,upd H1 s1.heap.objs.size (.tup xs),I1.laid (t':=s1.toks) (λb u e=>af _ e) (au _) ?_,rfl,q _ hf⟩;exact⟨z,us,r,⟨_,aH _ rfl,rfl,_,rfl,λ_=>rfl⟩⟩
theorem Bk (h:PA X es t):PE X (.List es pos) (Y9 t):=by
 intro pins s σ H Q I hq;refine wpAny_List_spliced (BN (h pos pins s σ H _ I hq) λus s1 ⟨xs,H1,I1,r,z,q⟩=>⟨by rw[<-r.length];exact z,?_⟩);have hf:H1 s1.heap.objs.size=none:=I1.hok.fresh (au _);refine⟨.ref s1.heap.objs.size,upd H1 s1.heap.objs.size (.lst xs),I1.laid (t':=s1.toks) (λb u e=>af _ e) (au _) ?_,rfl,q _ hf⟩;exact⟨z,us,0,r,aH _ rfl⟩
end
abbrev Sp:=List V->Hp->VK->XK->Prop
abbrev R1:=List Env->Hp->Shared->XK->Value->Shared->Prop
structure Env0 (P:Program) (w:World) (K:PySem.W.Frag) (mg:Str->Option Value) (base:Heap) (A:Around) (outer:List Env) (s:Shared) (H:Hp):Prop where
 frames:A.frames=some outer
 mod:Mod K mg base
 bs:∀b o,base.get? b=some o->s.heap.get? b=some o/\H b=none
 bsz:base.objs.size<=s.heap.objs.size
 funs:s.heap.FunFrames base outer
 frf:∀b∈G4 outer,H b=none
 hok:IA P w H s.heap
 bare:AllBare s.gens
def CE (outer:List Env)(P:Program)(w:World)(H:Hp)(s:Shared)(Q:VK)(u:Value)(s':Shared):Prop:=
 ∃v H',s'.os=s.os/\AllBare s'.gens/\Un (G4 outer) [] H H' s.heap s'.heap/\IA P w H' s'.heap/\RelV v u/\Q v H'
def CR (CX:R1)(outer:List Env)(P:Program)(w:World)(H:Hp)(s:Shared)(Q:VK)(E:XK)(r:Result)(s':Shared):Prop:=
 match r with
 | .ok (.ret u)=>CE outer P w H s Q u s'
 | .ok _=>False
 | .error e=>CX outer H s E e s'
structure FnOk (P:Program) (w:World) (K:PySem.W.Frag) (mg:Str->Option Value) (base:Heap) (CX:R1) (k:Nat) (f:Addr) (fd:FuncData) (ps:List Str) (sp:Sp):Prop where
 len:∀vs H Q E,sp vs H Q E->vs.length=ps.length
 run:∀(A:Around) (outer:List Env) (s:Shared) (H:Hp) (args:Args) (us:List Value) (vs:List V) (Q:VK) (E:XK),Room k A->Env0 P w K mg base A outer s H->BindsTo s fd args (ps.zip us)->A5 vs us->sp vs H Q E->
  codeAny (model P w) A (.call (.ref f) args) (CR CX outer P w H s Q E) s
theorem Env0.make {P:Program}{w:World}{K:PySem.W.Frag}{mg:Str->Option Value}{base:Heap}{A:Around}{outer:List Env}{s:Shared}{H:Hp}(e:Env0 P w K mg base A outer s H)(C:Addr)(us:List Value)(kw:List (Str×Value)) :
  Env0 P w K mg base (A.under (.builtin "type.__call__" ⟨.ref C::us,kw⟩)) outer s H:=⟨by first|exact e.frames|(simpa [Around.under,Code.envs,Code.isFrame,pushEnvs] using e.frames),e.mod,e.bs,e.bsz,e.funs,e.frf,e.hok,e.bare⟩
section
variable {X:Cx}{pins:List (Addr×Obj)}{σ:St}{H:Hp}{s s':Shared}
theorem Inv.env0 (I:Inv X pins σ H s):Env0 X.prog X.w X.K X.mg X.base X.A X.stack s H:=
 ⟨I.ok.frames,I.ok.mod,I.bs,aX I.ok.bsz I.sz,I.stack,I.stkFree,I.hok,I.bare⟩
theorem Inv.after {Q:VK}{u:Value}(I:Inv X pins σ H s)(h:CE X.stack X.prog X.w H s Q u s'):EP X pins σ Q u s':=by
 obtain⟨v,H',os,bare,un,hok,r,q⟩:=h;obtain⟨hh,g,d,t,os'⟩:=s';obtain rfl:os'=s.os:=os;exact⟨v,H',I.call (h':=hh) (g':=g) (d':=d) (t':=t) (ch:=[]) un hok bare (λb z=>absurd z (by simp)),r,q⟩
end
def Mu (sp:Sp)(dvs:List V)(E:XK)(t:TA):TE:=λσ H Q=>t σ H λvs H1=>sp (vs++dvs) H1 Q E
def RZ (C:Addr)(m:Str)(sp:Sp)(dvs:List V)(E:XK)(ta:TE)(t:TA):TE:=λσ H Q=>ta σ H λx H1=>∃a dx fs,x=.ref a/\H1 a=some (.ins C dx fs)/\fs.lookup m=none/\
 t σ H1 λvs H2=>sp (x::(vs++dvs)) H2 Q E
def WL (C:Addr)(sp:Sp)(dvs:List V)(E:XK)(t:TA):TE:=λσ H Q=>t σ H λvs H1=>∀x dx,H1 x=none->H1 dx=none->dx≠x->
 sp (.ref x::(vs++dvs)) (upd (upd H1 dx (.own x)) x (.ins C dx [])) (λv H2=>v=.non/\Q (.ref x) H2) E
def Binds (K:PySem.W.Frag)(fd:FuncData)(ps:List Str)(ds:List Value):Prop:=
 ∀(s:Shared) (us:List Value),K.In s.heap->(us++ds).length=ps.length->BindsTo s fd ⟨us,[]⟩ (ps.zip (us++ds))
theorem Binds.all {K:PySem.W.Frag}{fd:FuncData}{ps:List Str}(h:∀us:List Value,us.length=ps.length->bindArgs fd ⟨us,[]⟩=pure (ps.zip us)):Binds K fd ps []:=λs us _ hl=>by
 rw[aJ] at hl ⊢;exact .of_eq (h us hl)
def Fv (CX:R1)(X:Cx)(E:XK):Prop:=∀(pins:List (Addr×Obj)) (σ:St) (H:Hp) (s:Shared) (e:Value) (s':Shared),Inv X pins σ H s->CX X.stack H s E e s'->X.xe e s'
section
variable {X:Cx}{CX:R1}{k:Nat}{f C:Addr}{fd:FuncData}{ps:List Str}{sp:Sp}{dvs:List V}{ds:List Value}{E:XK}{x m:Str}{p pos apos:Pos}{e o:Expr}{es:List Expr}{ta:TE}{t:TA}
theorem Vb {pins:List (Addr×Obj)} {σ:St} {H:Hp} {s:Shared} {Q:VK} {us:List Value} {vs:List V} (F:FnOk X.prog X.w X.K X.mg X.base CX k f fd ps sp) (hr:Room k X.A) (hb:Binds X.K fd ps ds) (hd:A5 dvs ds) (hx:Fv CX X E)
  (I:Inv X pins σ H s) (r:A5 vs us) (h:sp (vs++dvs) H Q E):wpAny (model X.prog X.w) X.A (call (.ref f) us) (EP X pins σ Q) X.xe s:=by
 have r2:A5 (vs++dvs) (us++ds):=r.append hd;have hl:(us++ds).length=ps.length:=by rw[<-r2.length];exact F.len _ _ _ _ h
 refine cM (c8 (F.run X.A X.stack s H ⟨us,[]⟩ (us++ds) (vs++dvs) Q E hr I.env0 (hb s us I.kIn hl) r2 h) λr s' hq=>?_);cases r with
 |error e=>exact hx pins σ H s e s' I hq
 |ok fl=>
  cases fl with
  |ret u=>exact I.after hq
  |next=>exact False.elim hq
  |brk=>exact False.elim hq
  |cont=>exact False.elim hq
theorem RU (F:FnOk X.prog X.w X.K X.mg X.base CX k f fd ps sp) (hr:Room k X.A) (hg:Gl X x) (hm:X.mg x=some (.ref f)) (hk:PySem.W.keepIn X.K (.ref f)=true) (hb:Binds X.K fd ps ds) (hd:A5 dvs ds) (hx:Fv CX X E)
  (ha:PA X (e::es) t) (hdb:(x == ("__debug__":Str))=false:=by decide) (he:starEach (e::es) X.env=(false,eval e X.env)::starEach es X.env:=by rfl) (hpl:(backTo pos (starEach es X.env)).any (·.1)=false:=by rfl) :
  PE X (.Call (.Name x p) (e::es) [] pos) (Mu sp dvs E t):=by
 intro pins s σ H Q I h;refine cG (GF I hg hm ?_ hdb);refine dc (h₀:=X.base) I.ok.mod.kin hk (BN (ha pos pins s σ H _ I h) λus s1 ⟨vs,H1,I1,r,q⟩=>⟨I1.kIn,?_⟩) he hpl;exact Vb F hr hb hd hx I1 r q
theorem V8 {pl:Sem Bool} (he:PE X o ta) (c:Cls X.K C) (hm:Meth X.K C m f) (F:FnOk X.prog X.w X.K X.mg X.base CX k f fd ps sp) (hr:Room k X.A) (hb:Binds X.K fd ps ds) (hd:A5 dvs ds) (hx:Fv CX X E) (ha:PA X (e::es) t)
  (hst:starEach (e::es) X.env=(false,eval e X.env)::starEach es X.env:=by rfl) (hpl:(backTo pos (starEach es X.env)).any (·.1)=false:=by rfl)
  (ht:eval (.Call (.Attribute o m apos) (e::es) [] pos) X.env=(do
   let ov <-eval o X.env
   standAt apos.atName
   let(f,first) <-holding [ov] (getMethod ov m pl)
   callWith pos f first (backTo pos (starEach (e::es) X.env)) (backToKw pos (keywordEach [] X.env))):=by rfl) :
  PE X (.Call (.Attribute o m apos) (e::es) [] pos) (RZ C m sp dvs E ta t):=by
 intro pins s σ H Q I h;refine eX (pl:=pl) (BN (he pins s σ H _ I h) λu s1 z9=>?_) ht;obtain⟨x,H1,I1,rx,a,dx,fs,ex,ea,l,q⟩:=z9;subst ex;obtain rfl:u=Value.ref a:=rx;refine Jx I1 ea c hm l ?_;refine dc (first:=[.ref a]) (h₀:=X.base) I.ok.mod.kin hm.kp (BN (ha pos pins s1 σ H1 _ I1 q) λus s2 ⟨vs,H2,I2,r,q2⟩=>⟨I2.kIn,?_⟩) hst hpl;exact Vb (us:=.ref a::us) (vs:=.ref a::vs) F hr hb hd hx I2 (.cons rfl r) q2
structure Mk (K:PySem.W.Frag) (C f:Addr):Prop where
 makes:PySem.W.makesIn K C=true
 init:PySem.W.findIn K (.ref C) "__init__"=some (some (.ref f))
 fn:PySem.W.isFn K (.ref f)=true
 kp:PySem.W.keepIn K (.ref C)=true
theorem UD {pins:List (Addr×Obj)} {σ:St} {H:Hp} {s:Shared} {Q:VK} {us:List Value} {vs:List V} (M:Mk X.K C f) (F:FnOk X.prog X.w X.K X.mg X.base CX k f fd ps sp) (hr:Room (k+1) X.A) (hb:Binds X.K fd ps ds) (hd:A5 dvs ds)
  (hx:Fv CX X E) (I:Inv X pins σ H s) (r:A5 vs us)
  (h:∀x dx,H x=none->H dx=none->dx≠x->sp (.ref x::(vs++dvs)) (upd (upd H dx (.own x)) x (.ins C dx [])) (λv H2=>v=.non/\Q (.ref x) H2) E) :
  wpAny (model X.prog X.w) X.A (call (.ref C) us) (EP X pins σ Q) X.xe s:=by
 have hq:=h (s.heap.objs.size+1) s.heap.objs.size (I.hok.fresh (fU _)) (I.hok.fresh (au _)) (a4 (fP _));have I2:=Inv.made (C:=C) I;have r2:A5 (V.ref (s.heap.objs.size+1)::(vs++dvs)) (Value.ref (s.heap.objs.size+1)::(us++ds)):=.cons rfl (r.append hd);have hl:(Value.ref (s.heap.objs.size+1)::us++ds).length=ps.length:=by
  have e:=r2.length;rw[F.len _ _ _ _ hq] at e;exact e.symm
 refine cM (TL (f:=f) I.kIn M.makes M.init (bQ.mp M.fn) (c8 (F.run _ X.stack _ _ ⟨Value.ref (s.heap.objs.size+1)::us,[]⟩ (Value.ref (s.heap.objs.size+1)::(us++ds)) _ _ E (hr.make C us [])
  (I2.env0.make C us []) (hb _ (Value.ref (s.heap.objs.size+1)::us) I2.kIn hl) r2 hq) λr s' hq'=>?_))
 cases r with
 |error e=>exact hx pins σ _ _ e s' I2 hq'
 |ok fl=>
  cases fl with
  |ret u=>
   obtain⟨v,H',I3,rv,ev,q3⟩:=I2.after hq';subst ev;exact⟨rv,⟨V.ref (s.heap.objs.size+1),H',I3,rfl,q3⟩⟩
  |next=>exact False.elim hq'
  |brk=>exact False.elim hq'
  |cont=>exact False.elim hq'
theorem Vn (M:Mk X.K C f) (F:FnOk X.prog X.w X.K X.mg X.base CX k f fd ps sp) (hr:Room (k+1) X.A) (hg:Gl X x) (hm:X.mg x=some (.ref C)) (hb:Binds X.K fd ps ds) (hd:A5 dvs ds) (hx:Fv CX X E)
  (hdb:(x == ("__debug__":Str))=false:=by decide):PE X (.Call (.Name x p) [] [] pos) (WL C sp dvs E Q4):=by
 intro pins s σ H Q I h;refine cG (GF I hg hm ?_ hdb);exact PySem.W.callWith_K0 I.kIn M.kp (UD (us:=[]) M F hr hb hd hx I .nil h)
end
structure FnScope (N P:List Str) (sc:Scope):Prop where
 kind:sc.kind=.function
 co:sc.isCoroutine=false
 gen:sc.isGenerator=false
 nd:N.Nodup
 pre:N.take P.length=P
 par:∀x∈P,sc.names.lookup x=some .local\/sc.names.lookup x=some .cell
 nofree:∀y∈sc.names,y.2≠.free
theorem N5 {kindOf:Str->Option NameKind}{x:Str}:∀{binds:List (Str×Value)} {m:Str->Option Value},(∀v,(x,v)∉binds)->bindL kindOf binds m x=m x
 |[],_,_=>rfl
 |(n,v)::r,m,h=>by
  unfold bindL;rw[N5 λw hw=>h w (ao _ hw)]
  split
  ·have:x≠n:=by rintro rfl;exact h v aw
   simp[this]
  ·rfl
theorem N9 {kindOf:Str->Option NameKind}{x:Str}:∀{binds:List (Str×Value)} {m:Str->Option Value},(∀v,(x,v)∉binds)->bindC kindOf binds m x=m x
 |[],_,_=>rfl
 |(n,v)::r,m,h=>by
  unfold bindC;rw[N9 λw hw=>h w (ao _ hw)]
  split
  ·rfl
  ·have:x≠n:=by rintro rfl;exact h v aw
   simp[this]
theorem N7 {kindOf:Str->Option NameKind}{x:Str}{v:Value}:∀{P:List Str} {vs:List Value} {i:Nat} {m:Str->Option Value},P.Nodup->P[i]?=some x->vs[i]?=some v->kindOf x=some .local->
  bindL kindOf (P.zip vs) m x=some v
 |[],_,_,_,_,h,_,_=>by simp at h
 |_::_,[],_,_,_,_,h,_=>by simp at h
 |p::P,w::vs,0,m,nd,h1,h2,hk=>by
  simp at h1 h2;subst h1;subst h2;show bindL kindOf ((p,w)::P.zip vs) m p=_;unfold bindL;rw[N5 λv hv=>(bw.mp nd).1 (dE hv).1,ak hk];simp
 |p::P,w::vs,i+1,m,nd,h1,h2,hk=>by
  show bindL kindOf ((p,w)::P.zip vs) m x=_;unfold bindL;exact N7 (i:=i) (bw.mp nd).2 (by simpa using h1) (by simpa using h2) hk
theorem NY {kindOf:Str->Option NameKind}{x:Str}{v:Value}:∀{P:List Str} {vs:List Value} {i:Nat} {m:Str->Option Value},P.Nodup->P[i]?=some x->vs[i]?=some v->kindOf x≠some .local->
  bindC kindOf (P.zip vs) m x=some v
 |[],_,_,_,_,h,_,_=>by simp at h
 |_::_,[],_,_,_,_,h,_=>by simp at h
 |p::P,w::vs,0,m,nd,h1,h2,hk=>by
  simp at h1 h2;subst h1;subst h2;show bindC kindOf ((p,w)::P.zip vs) m p=_;unfold bindC;rw[N9 λv hv=>(bw.mp nd).1 (dE hv).1,ai hk];simp
 |p::P,w::vs,i+1,m,nd,h1,h2,hk=>by
  show bindC kindOf ((p,w)::P.zip vs) m x=_;unfold bindC;exact NY (i:=i) (bw.mp nd).2 (by simpa using h1) (by simpa using h2) hk
def start (N:List Str)(vs:List V):St:=vs.map some++List.replicate (N.length-vs.length) none
def A4 (CX:R1)(P:Program)(w:World)(K:PySem.W.Frag)(mg:Str->Option Value)(base:Heap)(N:List Str)(qual:Str)(scope:Scope)(f:Addr)(cd:Value)(A:Around)(outer:List Env)(s:Shared)(H:Hp)(E:XK):Cx where
 prog:=P
 w:=w
 K:=K
 mg:=mg
 base:=base
 A:=A.deeper (envOfC qual scope s.heap.objs.size f cd)
 N:=N
 s₀:=s
 H₀:=H
 env:=envOfC qual scope s.heap.objs.size f cd
 outer:=outer
 stack:=envOfC qual scope s.heap.objs.size f cd::outer
 ex:=[]
 calm:=true
 fn:=λ_=>true
 pn:=[]
 xe:=λe s'=>wpAny (model P w) (A.deeper (envOfC qual scope s.heap.objs.size f cd)) (leaving (envOfC qual scope s.heap.objs.size f cd) e) (λ_ s''=>CX outer H s E e s'') (λe' s''=>CX outer H s E e' s'') s'
theorem P6 {sc:Scope}{n:Nat}{x:Str}(h:sc.names.lookup x=some .cell):∃c,(cellsFrom n sc.names []).lookup x=some c:=by
 have q:=gW sc.names n [] (.inl h);exact Option.isSome_iff_exists.mp q
theorem TC {CX:R1} {P:Program} {w:World} {K:PySem.W.Frag} {mg:Str->Option Value} {base:Heap} {N ps:List Str} {qual:Str} {scope:Scope} {f:Addr} {cd:Value} {A:Around} {outer:List Env} {s s1:Shared} {H:Hp} {E:XK} {us:List Value} {vs:List V}
  (S:FnScope N ps scope) (hd:A.handled=none) (e0:Env0 P w K mg base A outer s H) (hl:vs.length=ps.length) (r:A5 vs us)
  (x:InCallC s s.heap.objs.size (bindL (envOfC qual scope s.heap.objs.size f cd).kindOf (ps.zip us) λ_=>none) (cellsFrom (s.heap.objs.size+1) scope.names []) (bindC (envOfC qual scope s.heap.objs.size f cd).kindOf (ps.zip us) λ_=>none) s1) :
  Inv (A4 CX P w K mg base N qual scope f cd A outer s H E) [] (start N vs) H s1:=by
 have hpl:ps.length<=N.length:=by have:=congrArg List.length S.pre;rw[a8] at this;omega
 obtain⟨h1,tk,rfl,hk⟩:=x.done;have noA:∀b:Addr,b∉(A4 CX P w K mg base N qual scope f cd A outer s H E).ex:=λb z=>absurd (show b∈([]:List Addr) from z) (by simp)
 refine⟨⟨e0.mod,S.kind,rfl,rfl,au _,λy z c h1 h2=>?_,λy hy=>?_,λy c _ h=>?_,λ_=>hd,Around.frames_deeper e0.frames,.inr ⟨rfl,rfl⟩,λb z=>absurd z (noA b),e0.bs,e0.bsz,λb _ _=>noA b,λb z=>absurd z (noA b),e0.funs,e0.frf⟩,
  rfl,e0.bare,Un.kept hk,⟨_,x.toInCall.ns,λi y v h1 h2 h3=>?_⟩,λy c h=>⟨_,x.cell y c h⟩,e0.hok.fresh (au _),λy c h=>?_,λp hp=>absurd (show p∈([]:List (Addr×Obj)) from hp) (by simp),e0.hok.kept hk,?_⟩
 ·exact name_of_addr x.apart (bX h1) (bX h2)
 ·have hy:scope.names.lookup y=some .cell\/scope.names.lookup y=some .free:=hy;rcases hy with hy|hy
  ·exact P6 hy
  ·exact absurd rfl (S.nofree _ (bX hy))
 ·exact fL (x.above y c (bX h))
 ·have hi:i<vs.length:=by
   unfold start at h2
   by_cases hi:i<vs.length
   ·exact hi
   ·rw[bS (by simpa using hi)] at h2;rw[List.getElem?_replicate] at h2
    split at h2<;>cases h2
  have ha:vs[i]?=some v:=by
   unfold start at h2;rw[bW (by simpa using hi),aD] at h2;cases e:vs[i]? with
   |none=>rw[e] at h2;cases h2
   |some a=>rw[e] at h2;cases h2;rfl
  obtain⟨u,hu,rv⟩:=r.get ha;have hp:ps[i]?=some y:=by
   rw[<-S.pre,List.getElem?_take_of_lt (by omega)];exact h1
  have ndP:ps.Nodup:=by rw[<-S.pre];exact S.nd.sublist (dP _ _)
  refine⟨u,rv,?_⟩;rcases S.par y (aN hp) with k|k
  ·exact .inl ⟨k,N7 ndP hp hu k⟩
  ·obtain⟨c,e⟩:=P6 (n:=s.heap.objs.size+1) k;refine .inr ⟨.inl k,c,e,?_⟩;have q:=x.cell y c e;rw[NY ndP hp hu (by show scope.names.lookup y≠_;rw[k];decide)] at q;exact q
 ·exact e0.hok.fresh (fL (x.above y c (bX h)))
 ·unfold start;show _=N.length;rw[ar,aa,List.length_replicate];omega
theorem U6 {CX:R1} {P:Program} {w:World} {K:PySem.W.Frag} {mg:Str->Option Value} {base:Heap} {k:Nat} {f:Addr} {name qual:Str} {params:Arguments} {body:List Stmt} {scope:Scope} {dV kV doc pm cdv ct oc:Value} {an od:Option Addr}
  {osl:Array (Option Value)} {N ps:List Str} {sp:Sp} (lk:K.lookup f=some ⟨oc,od,.func (PySem.W.fnOf name qual params body scope dV kV doc pm an cdv ct),osl⟩) (hcd:PySem.W.codeIn K cdv qual=true) (S:FnScope N ps scope)
  (len:∀vs H Q E,sp vs H Q E->vs.length=ps.length)
  (hbody:∀(A:Around) (outer:List Env) (s:Shared) (H:Hp) (vs:List V) (Q:VK) (E:XK),Room k (A.deeper (envOfC qual scope s.heap.objs.size f cdv))->sp vs H Q E->
   ∃t,Qo (A4 CX P w K mg base N qual scope f cdv A outer s H E) body t/\t { nx:=λ_ H'=>Q .non H',rt:=Q } (start N vs) H) :
  FnOk P w K mg base CX (k+1) f (PySem.W.fnOf name qual params body scope dV kV doc pm an cdv ct) ps sp:=by
 refine⟨len,λA outer s H args us vs Q E hr e0 hb r hsp=>?_⟩;have hl:=len _ _ _ _ hsp;have KX:K.In s.heap:=e0.mod.kin.keeps λb o e=>(e0.bs b o e).1
 have lim:s.heap.NoLimit:=e0.mod.nolimit.keeps λb o e=>(e0.bs b o e).1
 have hkind:∀y∈ps.zip us,scope.names.lookup y.1=some .local\/(scope.names.lookup y.1=some .cell/\((cellsFrom (s.heap.objs.size+1) scope.names []).lookup y.1).isSome=true):=λ⟨n,v⟩ hy=>by
  rcases S.par n (dE hy).1 with q|q
  ·exact .inl q
  ·exact .inr ⟨q,gW _ _ _ (.inl q)⟩
 refine codeAny_call_function hr.depth (KX _ _ lk) rfl S.co S.gen rfl (PySem.W.codeRec_of KX hcd) (hb _ _ _ _ ?_);refine wpAny_newFunctionEnv_cells S.kind hkind λenv he s1 x=>?_
 subst he;refine⟨lim.keeps x.toInCall.keep,codeAny_func ?_⟩;obtain⟨t,ht,hq⟩:=hbody A outer s H vs Q E (hr.deeper _) hsp;have I:Inv (A4 CX P w K mg base N qual scope f cdv A outer s H E) [] (start N vs) H s1:=TC S hr.hd e0 hl r x;refine bg (ht [] s1 (start N vs) H _ I hq) (λfl s' hs=>?_) λe s' hs=>hs
 have fin:∀{σ':St} {H':Hp} {v:V} {u:Value},Inv (A4 CX P w K mg base N qual scope f cdv A outer s H E) [] σ' H' s'->RelV v u->Q v H'->CE outer P w H s Q u s':=
  λ{σ' H' v u} J rv q=>⟨v,H',J.os,J.bare,J.base,J.hok,rv,q⟩
 cases fl with
 |ret u=>
  obtain⟨v,σ',H',J,rv,q⟩:=hs;exact fin J rv q
 |next=>
  obtain⟨σ',H',J,q⟩:=hs;exact fin (v:=V.non) (u:=Value.none) J rfl q
 |brk=>
  obtain⟨_,_,_,q⟩:=hs;exact False.elim q
 |cont=>
  obtain⟨_,_,_,q⟩:=hs;exact False.elim q
section
variable {X:Cx}{x:Str}{p pos:Pos}{e:Expr}{es:List Expr}{t:TA}{id T:String}{r:List V->Hp->VK->Prop}
def ZI (r:List V->Hp->VK->Prop)(t:TA):TE:=λσ H Q=>t σ H λvs H1=>r vs H1 Q
theorem AA (hc:EV X (.builtin id) r) (hg:Gl X x) (hm:X.mg x=none) (hv:bootBuiltins x=some (.builtin id)) (ha:PA X (e::es) t) (hn:x≠"__name__":=by decide) (hdb:(x == ("__debug__":Str))=false:=by decide)
  (he:starEach (e::es) X.env=(false,eval e X.env)::starEach es X.env:=by rfl) (hpl:(backTo pos (starEach es X.env)).any (·.1)=false:=by rfl):PE X (.Call (.Name x p) (e::es) [] pos) (ZI r t):=by
 intro pins s σ H Q I h;refine cG (MO I hg hm hv ?_ hn hdb);exact PyProof.Rows.callWith_builtin1 (BN (ha pos pins s σ H _ I h) λus s1 ⟨vs,H1,I1,r1,q1⟩=>hc pins s1 σ H1 vs us Q I1 r1 q1) he hpl
theorem Cy (hc:EV X (.type T) r) (hg:Gl X x) (hm:X.mg x=none) (hv:bootBuiltins x=some (.type T)) (ha:PA X (e::es) t) (hn:x≠"__name__":=by decide) (hdb:(x == ("__debug__":Str))=false:=by decide)
  (he:starEach (e::es) X.env=(false,eval e X.env)::starEach es X.env:=by rfl) (hpl:(backTo pos (starEach es X.env)).any (·.1)=false:=by rfl):PE X (.Call (.Name x p) (e::es) [] pos) (ZI r t):=by
 intro pins s σ H Q I h;refine cG (MO I hg hm hv ?_ hn hdb);exact gm (BN (ha pos pins s σ H _ I h) λus s1 ⟨vs,H1,I1,r1,q1⟩=>hc pins s1 σ H1 vs us Q I1 r1 q1) he hpl
end
end L2
namespace HT
open PySem PyProof.Rows
section
variable {prog:Program}{w:World}{A:Around}{E:Value->Shared->Prop}{s:Shared}
theorem VW {t b:Addr} {vs ws:List Value} {Q:Value->Shared->Prop} (ht:IsTup s.heap t vs.toArray) (hb:IsTup s.heap b ws.toArray) (hv:vs≠[])
  (h1:ws=[]->Q (.ref t) s) (h2:ws≠[]->Q (.ref s.heap.objs.size) { s with heap:=s.heap.push { cls:=.type "tuple",data:=.seq (vs++ws).toArray } })
  (hsz:vs.length+ws.length<=sizeLine):wpAny (model prog w) A (binaryOp .Add (.ref t) (.ref b)) Q E s:=by
 obtain⟨⟨cls,dd,data,sl⟩,ho,hc,n,hd⟩:=id ht;obtain⟨⟨cls2,dd2,data2,sl2⟩,ho2,hc2,n2,hd2⟩:=id hb;simp only at hc hd hc2 hd2;subst hc hd hc2 hd2;have e:vs.toArray++ws.toArray=(vs++ws).toArray:=by simp
 by_cases hw:ws=[]
 ·exact gr ⟨_,ho,rfl⟩ ⟨_,ho2,rfl⟩ gI iw eF eo (dS _ _)
   (tuple_addW1 t b vs.toArray ws.toArray n n2 dd dd2 sl sl2 (by simpa using hv) (by simp[hw])) ⟨ho,ho2,h1 hw⟩
 ·refine gr ⟨_,ho,rfl⟩ ⟨_,ho2,rfl⟩ gI iw eF eo (dS _ _)
   (tuple_addW2 t b vs.toArray ws.toArray n n2 dd dd2 sl sl2 (by simpa using hv) (by simpa using hw) (by rw[aP,aP];exact hsz)) ⟨ho,ho2,?_⟩
  rw[e];exact h2 hw
def DE (n d:Nat):Option Int->Nat
 |none=>d
 |some v=>if v<0 then(v+(n:Int)).toNat else min v.toNat n
theorem Qb (n d:Nat):DE n d none=d:=rfl
theorem RF (n d k:Nat):DE n d (some (k:Int))=min k n:=by
 show(if(k:Int)<0 then((k:Int)+(n:Int)).toNat else min (k:Int).toNat n)=min k n;rw[ai (by omega),di]
theorem Xd (n d:Nat)(hd:d<=n)(o:Option Int):DE n d o<=n:=by
 cases o with
 |none=>exact hd
 |some v=>
  show(if v<0 then(v+(n:Int)).toNat else min v.toNat n)<=n
  by_cases hv:v<0
  ·rw[ak hv];omega
  ·rw[ai hv];exact Nat.min_le_right _ _
theorem Sa (v:Int)(n d:Nat):(if v<0 then max (v+(n:Int)) 0 else min v (n:Int))=((DE n d (some v):Nat):Int):=by
 show(if v<0 then max (v+(n:Int)) 0 else min v (n:Int))=(((if v<0 then(v+(n:Int)).toNat else min v.toNat n):Nat):Int)
 by_cases hv:v<0
 ·simp only[if_pos hv];omega
 ·simp only[if_neg hv];omega
theorem QE (lo hi:Option Int)(n:Nat):Builtin.Slice.sliceAdjust lo hi 1 (n:Int)=(((DE n 0 lo:Nat):Int),((DE n n hi:Nat):Int)):=by
 have h1:¬((1:Int)<0):=by omega
 unfold Builtin.Slice.sliceAdjust;simp only[h1,if_false];refine Prod.ext ?_ ?_
 ·cases lo with
  |none=>rfl
  |some v=>exact Sa v n 0
 ·cases hi with
  |none=>rfl
  |some v=>exact Sa v n n
theorem QJ (i j:Nat):Builtin.Slice.slicePlaces (i:Int) (j:Int) 1=j-i:=by
 unfold Builtin.Slice.slicePlaces;have h1:(1:Int)>0:=by omega
 simp only[h1,if_true,Int.ediv_one]
 split<;>omega
theorem ML {v:Value}{o:Option Int}{Q:Option Int->Shared->Prop}(p:IsPart v o)(h:Q o s):wpAny (model prog w) A (Builtin.Slice.slicePartIndex v) Q E s:=by
 cases p with
 |none=>exact slicePart_none h
 |int i t=>exact slicePart_int h
theorem KR {sl:Addr} {vl vu:Value} {lo hi:Option Int} {n:Nat} {Q:Int×Int×Nat->Shared->Prop} (hs:s.heap.IsSliceOf sl vl vu .none) (pl:IsPart vl lo) (pu:IsPart vu hi)
  (h:Q (((DE n 0 lo:Nat):Int),1,DE n n hi-DE n 0 lo) s):wpAny (model prog w) A (Builtin.Slice.sliceApplied (.ref sl) (pure (n:Int))) Q E s:=by
 obtain⟨os,hos,hcs,hds⟩:=id hs;unfold Builtin.Slice.sliceApplied Builtin.Slice.sliceFields;refine ae (ae (wpAny_field hos hds (x:=vl) rfl (ae (wpAny_field hos hds (x:=vu) rfl (ae (wpAny_field hos hds (x:=.none) rfl (aB ?_)))))));refine ae (slicePart_none ?_);show wpAny _ _ (if((1:Int) == 0)=true then _ else _) _ _ s;rw[ai (by decide)];refine ae (ML pl (ae (ML pu (ae (aB ?_)))));show wpAny _ _ (match Builtin.Slice.sliceAdjust lo hi 1 (n:Int) with|(lo,hi)=>pure (lo,(1:Int),Builtin.Slice.slicePlaces lo hi 1)) _ _ s;rw[QE lo hi n];show wpAny _ _ (pure (((DE n 0 lo:Nat):Int),(1:Int),Builtin.Slice.slicePlaces ((DE n 0 lo:Nat):Int) ((DE n n hi:Nat):Int) 1)) _ _ s;rw[QJ];exact aB h
theorem Vh (xs:Array Value)(i k:Nat):((List.range k).filterMap λ(m:Nat)=>xs[((i:Int)+(m:Int)*1).toNat]?).toArray=((xs.toList.drop i).take k).toArray:=by
 have e:(λ(m:Nat)=>xs[((i:Int)+(m:Int)*1).toNat]?)=λm=>xs[i+m]?:=by
  funext m
  have:((i:Int)+(m:Int)*1).toNat=i+m:=by omega
  rw[this]
 rw[e];have:=pick_run xs i k;rw[List.filterMap_map] at this;have e2:((λx=>xs[x]?)∘λx=>i+x)=λm=>xs[i+m]?:=rfl
 rw[e2] at this;rw[this]
theorem JZ {t sl:Addr} {items:Array Value} {vl vu:Value} {lo hi:Option Int} {Q:Value->Shared->Prop} (ht:IsTup s.heap t items) (hs:s.heap.IsSliceOf sl vl vu .none) (pl:IsPart vl lo) (pu:IsPart vu hi)
  (hw:¬(DE items.size 0 lo=0/\DE items.size items.size hi=items.size))
  (h:Q (.ref s.heap.objs.size) { s with heap:=s.heap.push { cls:=.type "tuple",data:=.seq ((items.toList.drop (DE items.size 0 lo)).take (DE items.size items.size hi-DE items.size 0 lo)).toArray } })
  (hsz:items.size<=sizeLine):wpAny (model prog w) A (getItem (.ref t) (.ref sl)) Q E s:=by
 have htake:sizeOk (.seq ((items.toList.drop (DE items.size 0 lo)).take (DE items.size items.size hi-DE items.size 0 lo)).toArray):=by
  show((items.toList.drop (DE items.size 0 lo)).take (DE items.size items.size hi-DE items.size 0 lo)).toArray.size<=sizeLine;rw[aP,a8,bF,dG];omega
 have hj:DE items.size items.size hi<=items.size:=Xd _ _ (au _) hi;obtain⟨os,hos,hcs,hds⟩:=id hs;have hTs:s.TypeIs (.ref sl) "slice":=⟨os,hos,hcs⟩
 unfold getItem
 try with_reducible refine bN ?_
 first|refine ae (aB ?_)|skip
 refine ae (wpAny_sequenceKey ht.typeIs (by decide) ?_);refine ae (wpAny_callSpecial?_slot (name:=Str.ofString "__getitem__") ht.typeIs fO
  (wpAny_call_entry fO ht.typeIs entry_tuple_getitem ?_ (args_tuple_getitem _ _)))
 show wpAny _ _ (Builtin.Tuple.tupleItemsOf (.ref t) >>= _) _ _ s;refine ae (tupleItemsOf_ ht ?_);refine ae (gq hTs ?_);rw[ak (by decide)];refine ae (KR hs pl pu ?_);have hno:¬((((DE items.size 0 lo:Nat):Int) == 0&&(1:Int) == 1&&(DE items.size items.size hi-DE items.size 0 lo) == items.size)=true):=by
  intro q;rw[aQ,aQ] at q;have q1:((DE items.size 0 lo:Nat):Int)=0:=eq_of_beq q.1.1;have q2:DE items.size items.size hi-DE items.size 0 lo=items.size:=eq_of_beq q.2;exact hw ⟨by omega,by omega⟩
 show wpAny _ _ (if(((DE items.size 0 lo:Nat):Int) == 0&&(1:Int) == 1&&(DE items.size items.size hi-DE items.size 0 lo) == items.size)=true then _ else _) _ _ s;rw[ai hno,Vh]
 first
  |exact ae (m:=Builtin.Tuple.tupleExact _) (cU (aB ⟨_,rfl,aB h⟩) htake)
  |exact ae (m:=Builtin.Tuple.tupleExact _) (cU (ae (aB (aB ⟨_,rfl,aB h⟩))) htake)
  |exact ae (ae (m:=Builtin.Tuple.tupleExact _) (cU (aB (aB ⟨_,rfl,aB h⟩)) htake))
  |exact ae (ae (m:=Builtin.Tuple.tupleExact _) (cU (aB ⟨_,rfl,aB h⟩) htake))
end
end HT
namespace L2
open PySem PySem.Spec PyProof.Rows
abbrev TO:=St->Hp->(Option Int->Hp->Prop)->Prop
def PO (X:Cx)(e:Option Expr)(t:TO):Prop:=
 ∀(pins:List (Addr×Obj)) (s:Shared) (σ:St) (H:Hp) (Q:Option Int->Hp->Prop),Inv X pins σ H s->t σ H Q->
  wpAny (model X.prog X.w) X.A (evalPart e X.env) (λu s'=>∃o H',Inv X pins σ H' s'/\IsPart u o/\Q o H') X.xe s
def We:TO:=λ_ H Q=>Q none H
def YH (t:TE):TO:=λσ H Q=>t σ H λx H1=>∃i,x=.int i/\Q (some i) H1
section
variable {X:Cx}{e:Expr}{te:TE}{lo hi:Option Expr}{tl th:TO}{pos p2:Pos}
theorem B6:PO X none We:=by
 intro pins s σ H Q I h;rw[evalPart_none];exact aB ⟨none,H,I,.none,h⟩
theorem BO (h:PE X e te):PO X (some e) (YH te):=by
 intro pins s σ H Q I hw;rw[evalPart_some];refine BN (h pins s σ H _ I hw) λu s1 ⟨x,H1,I1,r1,q1⟩=>?_
 obtain⟨i,rfl,q⟩:=q1;obtain⟨t,rfl⟩:=r1;exact⟨some i,H1,I1,.int i t,q⟩
def Y3 (X:Cx)(r:V->Option Int->Option Int->Hp->VK->Prop):Prop:=
 ∀(pins:List (Addr×Obj)) (s:Shared) (σ:St) (H:Hp) (x:V) (v vl vu:Value) (lo hi:Option Int) (sl:Addr) (Q:VK),Inv X pins σ H s->RelV x v->s.heap.IsSliceOf sl vl vu .none->IsPart vl lo->IsPart vu hi->r x lo hi H Q->
  ∃T id,typeLookup (.type T) "__getitem__"=pure (some (.builtin id))/\s.TypeIs v T/\wpAny (model X.prog X.w) X.A (getItem v (.ref sl)) (EP X pins σ Q) X.xe s
def ZZ (r:V->Option Int->Option Int->Hp->VK->Prop)(te:TE)(tl th:TO):TE:=λσ H Q=>te σ H λx H1=>tl σ H1 λl H2=>th σ H2 λu H3=>r x l u H3 Q
theorem BA {r:V->Option Int->Option Int->Hp->VK->Prop}(hr:Y3 X r)(he:PE X e te)(hl:PO X lo tl)(hu:PO X hi th):PE X (.Subscript e (.Slice lo hi none p2) pos) (ZZ r te tl th):=by
 intro pins s σ H Q I h;refine Subscript_ (BN (he pins s σ H _ I h) λv s1 ⟨x,H1,I1,r1,q1⟩=>?_);refine wpAny_Slice (BN (hl pins s1 σ H1 _ I1 q1) λvl s2 ⟨l,H2,I2,pl,q2⟩=>BN (hu pins s2 σ H2 _ I2 q2) λvu s3 ⟨u,H3,I3,pu,q3⟩=>?_);rw[evalPart_none];refine aB ?_;have I4:Inv X pins σ H3 { s3 with heap:=s3.heap.push { cls:=.type "slice",data:=.fields #[vl,vu,.none] } }:=I3.kept (t':=s3.toks) λb ob q=>af _ q
 obtain⟨T,id,hT,ht,hg⟩:=hr pins { s3 with heap:=s3.heap.push { cls:=.type "slice",data:=.fields #[vl,vu,.none] } } σ H3 x v vl vu l u s3.heap.objs.size Q I4 r1 (Heap.IsSliceOf.new ..) pl pu q3;show wpAny (model X.prog X.w) X.A (subscriptTail e (.Slice lo hi none p2) v (.ref s3.heap.objs.size)) (EP X pins σ Q) X.xe { s3 with heap:=s3.heap.push { cls:=.type "slice",data:=.fields #[vl,vu,.none] } };exact tail_any (ops:=[.ref s3.heap.objs.size,v]) ht hT hg (by with_unfolding_all rfl)
def IK (xs:List V)(lo hi:Option Int):List V:=(xs.drop (HT.DE xs.length 0 lo)).take (HT.DE xs.length xs.length hi-HT.DE xs.length 0 lo)
theorem Li (xs:List V)(lo hi:Option Int):(IK xs lo hi).length<=xs.length:=by
 unfold IK;rw[a8,bF];omega
def ZE (K:PySem.W.Frag):V->Option Int->Option Int->Hp->VK->Prop:=λx lo hi H Q=>∃a xs,x=.ref a/\AW K H a xs/\
 ¬(HT.DE xs.length 0 lo=0/\HT.DE xs.length xs.length hi=xs.length)/\∀p,H p=none->Q (.ref p) (upd H p (.tup (IK xs lo hi)))
theorem Xq:Y3 X (ZE X.K):=by
 intro pins s σ H x v vl vu lo hi sl Q I rx hs pl pu h;obtain⟨a,xs,rfl,hx,hw,q⟩:=h;cases rx;obtain⟨its,r,ht,hz⟩:=I.tuple hx;have hlen:its.toArray.size=xs.length:=by rw[aP];exact r.length.symm
 refine⟨"tuple",_,PyProof.Rows.slot_tuple_getitem.lookup,ht.typeIs,?_⟩;refine HT.JZ ht hs pl pu (by rw[hlen];exact hw) ?_ (by rw[hlen];exact hz);rw[hlen];refine⟨.ref s.heap.objs.size,_,I.laid (t':=s.toks) (o:=.tup (IK xs lo hi)) (λb ob q=>af _ q) (au _) ?_,rfl,q _ (I.hok.fresh (au _))⟩;exact⟨aX (Li xs lo hi) hz,_,(r.drop (HT.DE xs.length 0 lo)).take (HT.DE xs.length xs.length hi-HT.DE xs.length 0 lo),M7.new _ _⟩
def Yd (K:PySem.W.Frag):R2:=λx y H Q=>∃a b xs ys,x=.ref a/\y=.ref b/\AW K H a xs/\AW K H b ys/\xs≠[]/\xs.length+ys.length<=sizeLine/\
 (ys=[]->Q (.ref a) H)/\(ys≠[]->∀p,H p=none->Q (.ref p) (upd H p (.tup (xs++ys))))
theorem A5.nil_iff {xs:List V}{us:List Value}(r:A5 xs us):us=[]↔xs=[]:=by
 cases r with
 |nil=>simp
 |cons _ _=>simp
theorem VN:IL X (binaryOp .Add) (Yd X.K):=by
 intro pins s σ H x y v u Q I rx ry h;obtain⟨a,b,xs,ys,rfl,rfl,ha,hb,hx,hz,q1,q2⟩:=h;cases rx;cases ry;obtain⟨its,r1,p1,_⟩:=I.tuple ha;obtain⟨its2,r2,p2,_⟩:=I.tuple hb;refine HT.VW p1 p2 (λz=>hx (r1.nil_iff.mp z)) (λz=>⟨.ref a,H,I,rfl,q1 (r2.nil_iff.mp z)⟩) (λz=>?_) (by rw[<-r1.length,<-r2.length];exact hz);refine⟨.ref s.heap.objs.size,_,I.laid (t':=s.toks) (o:=.tup (xs++ys)) (λb ob q=>af _ q) (au _) ?_,rfl,q2 (λw=>z (r2.nil_iff.mpr w)) _ (I.hok.fresh (au _))⟩;exact⟨by rw[ar];exact hz,_,r1.append r2,M7.new _ _⟩
end
def X5 (n:Nat)(i:Int):Option Nat:=if 0<=i then(if i<n then some i.toNat else none) else if -(n:Int)<=i then some (i+n).toNat else none
def KY {α:Type}(xs:List α)(i:Int):Option α:=(X5 xs.length i).bind λj=>xs[j]?
theorem Wx {n:Nat}{i:Int}{j:Nat}(h:X5 n i=some j):seqIndex? i n=some j/\j<n/\-(n:Int)<=i/\i<n:=by
 unfold X5 at h
 by_cases h0:0<=i
 ·rw[ak h0] at h
  by_cases h1:i<n
  ·rw[ak h1] at h;have e:i.toNat=j:=aI h;exact⟨by rw[seqIndex_of h0 h1,e],by omega,by omega,h1⟩
  ·rw[ai h1] at h;cases h
 ·rw[ai h0] at h
  by_cases h1:-(n:Int)<=i
  ·rw[ak h1] at h;have e:(i+n).toNat=j:=aI h;exact⟨by rw[seqIndex_neg (by omega) h1,e],by omega,h1,by omega⟩
  ·rw[ai h1] at h;cases h
theorem OU {α:Type}{xs:List α}{i:Int}{v:α}(h:KY xs i=some v):∃j,seqIndex? i xs.length=some j/\xs[j]?=some v/\j<xs.length/\-(xs.length:Int)<=i/\i<xs.length:=by
 unfold KY at h;cases e:X5 xs.length i with
 |none=>rw[e] at h;cases h
 |some j=>
  rw[e] at h;obtain⟨h1,h2,h3,h4⟩:=Wx e;exact⟨j,h1,h,h2,h3,h4⟩
theorem Ah {α:Type}{xs:List α}{j:Nat}{v:α}(h:xs[j]?=some v):KY xs (j:Int)=some v:=by
 have hj:j<xs.length:=(aA.mp h).1;have e:X5 xs.length (j:Int)=some j:=by
  unfold X5;rw[ak (by omega),ak (by omega)];simp
 unfold KY;rw[e];exact h
def VL (b:Expr):Prop:=∀o i,subscripted b false o i=operate [o,i] (getItem o i)
def X7 (X:Cx)(r:R2):Prop:=
 ∀(value slice:Expr) (pins:List (Addr×Obj)) (s:Shared) (σ:St) (H:Hp) (x y:V) (v u:Value) (Q:VK),Inv X pins σ H s->RelV x v->RelV y u->r x y H Q->
  subscripted slice false v u=operate [v,u] (getItem v u)->wpAny (model X.prog X.w) X.A (subscriptTail value slice v u) (EP X pins σ Q) X.xe s
def Vy (X:Cx)(id:String)(r:V->List V->Hp->VK->Prop):Prop:=
 ∀(pins:List (Addr×Obj)) (s:Shared) (σ:St) (H:Hp) (x:V) (xs:List V) (v:Value) (us:List Value) (Q:VK),Inv X pins σ H s->RelV x v->A5 xs us->r x xs H Q->
  wpAny (model X.prog X.w) X.A (call (.builtin id) (v::us)) (EP X pins σ Q) X.xe s
section
variable {X:Cx}{a b:Expr}{ta tb:TE}{pos:Pos}
theorem An {r:R2}(hr:X7 X r)(ha:PE X a ta)(hb:PE X b tb)(hs:VL b):PE X (.Subscript a b pos) (YY r ta tb):=by
 intro pins s σ H Q I h;exact Subscript_ (XS ha hb I h λv u s2 x y H2 I2 rx ry q=>hr a b pins s2 σ H2 x y v u Q I2 rx ry q (hs _ _))
def YJ (K:PySem.W.Frag):R2:=λx y H Q=>∃p xs i v,x=.ref p/\y=.int i/\AV K H p xs/\KY xs i=some v/\Q v H
def Yi (K:PySem.W.Frag):R2:=λx y H Q=>∃p xs i v,x=.ref p/\y=.int i/\AW K H p xs/\KY xs i=some v/\Q v H
def Zs:R2:=λx y H Q=>∃z i c,x=.str z/\y=.int i/\z.length<=sizeLine/\KY z.cps.toList i=some c/\Q (.str ⟨#[c]⟩) H
theorem AI:X7 X (YJ X.K):=by
 intro value slice pins s σ H x y v u Q I rx ry h hs;obtain⟨p,xs,i,z,rfl,rfl,hq,he,q⟩:=h;cases rx;obtain⟨t,rfl⟩:=ry;obtain⟨its,r,pl,hz⟩:=I.list hq;obtain⟨j,h1,h2,h3,h4,h5⟩:=OU he;obtain⟨w,ew,rw'⟩:=r.get h2;have hl:=r.length;have hn:=MJ;have fin:EP X pins σ Q w s:=⟨z,H,I,rw',q⟩
 by_cases h0:0<=i
 ·have hj:i.toNat=j:=by
   rw[seqIndex_of h0 h5] at h1;exact aI h1
  exact item_listR pl.isList h0 (by omega) (by rw[hj];simpa using ew) fin hs
 ·have hj:(i+(its.toArray.size:Int)).toNat=j:=by
   rw[seqIndex_neg (by omega) h4] at h1;rw[aP,<-hl];exact aI h1
  exact fS (x:=w) pl.isList.typeIs slot_list_getitem.lookup
   (wpAny_getItem_list_neg (Q:=λr s'=>r=w/\EP X pins σ Q r s') pl.isList (by omega) (by rw[aP]<;>omega) (by omega) (by rw[hj];simpa using ew) ⟨rfl,fin⟩) hs
theorem Ar:X7 X (Yi X.K):=by
 intro value slice pins s σ H x y v u Q I rx ry h hs;obtain⟨p,xs,i,z,rfl,rfl,hq,he,q⟩:=h;cases rx;obtain⟨t,rfl⟩:=ry;obtain⟨its,r,pl,hz⟩:=I.tuple hq;obtain⟨j,h1,h2,h3,h4,h5⟩:=OU he;obtain⟨w,ew,rw'⟩:=r.get h2;have hl:=r.length;have hn:=MJ;have fin:EP X pins σ Q w s:=⟨z,H,I,rw',q⟩
 exact fS (x:=w) pl.typeIs slot_tuple_getitem.lookup
  (getItem_tuple (j:=j) (Q:=λr s'=>r=w/\EP X pins σ Q r s') pl (by omega) (by omega) (by rw[aP,<-hl];exact h1) (by simpa using ew) ⟨rfl,fin⟩) hs
theorem OO:X7 X Zs:=by
 intro value slice pins s σ H x y v u Q I rx ry h hs;obtain⟨z,i,c,rfl,rfl,hz,he,q⟩:=h;obtain⟨t,rfl⟩:=rx;obtain⟨t',rfl⟩:=ry;obtain⟨j,h1,h2,h3,h4,h5⟩:=OU he;have hl:z.cps.toList.length=z.length:=by simp[Str.length]
 rw[hl] at h1 h4 h5;have hn:=MJ;exact tail_any (fV s z t) slot_str_getitem.lookup (getItem_str (c:=c) (by
  have e1:decide (i < -(2^63:Int))=false:=aq (by omega);have e2:decide (i≥2^63)=false:=aq (by omega);rw[e1,e2,Bool.or_false]) (by rw[h1];simpa using h2) ⟨.str ⟨#[c]⟩,H,I.tok _,⟨_,rfl⟩,q⟩) hs
theorem O4 (lo hi:Option Int)(n:Nat):(sliceBounds lo hi none n).1=((HT.DE n 0 lo:Nat):Int)/\(sliceBounds lo hi none n).2.1=((HT.DE n n hi:Nat):Int)/\(sliceBounds lo hi none n).2.2=1:=by
 refine⟨?_,?_,rfl⟩
 ·cases lo with
  |none=>simp[sliceBounds,HT.DE]
  |some i=>
   simp only[sliceBounds,HT.DE,Option.getD_none,show(1:Int)>0 by decide,if_true]
   by_cases h:i<0
   ·simp only[h,if_true]<;>omega
   ·simp only[h,if_false]<;>omega
 ·cases hi with
  |none=>simp[sliceBounds,HT.DE]
  |some i=>
   simp only[sliceBounds,HT.DE,Option.getD_none,show(1:Int)>0 by decide,if_true]
   by_cases h:i<0
   ·simp only[h,if_true]<;>omega
   ·simp only[h,if_false]<;>omega
theorem Nz (its:List Value)(lo hi:Option Int):slicePick its.toArray lo hi none=((its.drop (HT.DE its.length 0 lo)).take (HT.DE its.length its.length hi-HT.DE its.length 0 lo)).toArray:=by
 obtain⟨h1,h2,h3⟩:=O4 lo hi its.toArray.size;unfold slicePick;rw[h1,h2,h3];simp only[sliceRange_one,pick_run,List.size_toArray]<;>rfl
def Zm (K:PySem.W.Frag):V->Option Int->Option Int->Hp->VK->Prop:=λx lo hi H Q=>∃a xs,x=.ref a/\AV K H a xs/\∀p,H p=none->Q (.ref p) (upd H p (.lst (IK xs lo hi)))
theorem FF:Y3 X (Zm X.K):=by
 intro pins s σ H x v vl vu lo hi sl Q I rx hs pl pu h;obtain⟨a,xs,rfl,hx,q⟩:=h;cases rx;obtain⟨its,r,ht,hz⟩:=I.list hx;have hlen:=r.length;refine⟨"list",_,slot_list_getitem.lookup,ht.isList.typeIs,?_⟩;refine wpAny_getItem_list_slice ht.isList hs pl pu .none (by simp) ?_ (by rw[aP]<;>omega);rw[Nz,<-hlen];refine⟨.ref s.heap.objs.size,_,I.laid (t':=s.toks) (o:=.lst (IK xs lo hi)) (λb ob q=>af _ q) (au _) ?_,rfl,q _ (I.hok.fresh (au _))⟩;exact⟨aX (Li xs lo hi) hz,_,0,(r.drop (HT.DE xs.length 0 lo)).take (HT.DE xs.length xs.length hi-HT.DE xs.length 0 lo),aH _ rfl⟩
def Er:V->Bool
 | .non=>true
 | .bl _=>true
 | .int _=>true
 | .str _=>true
 |_=>false
def Ko:V->V->Bool
 | .non,.non=>true
 | .bl a,.bl b=>a == b
 | .bl a,.int b=>(if a then 1 else 0) == b
 | .int a,.bl b=>a == (if b then 1 else 0)
 | .int a,.int b=>a == b
 | .str a,.str b=>a == b
 |_,_=>false
theorem Jm {A:Around}{s:Shared}{y x:V}{u v:Value}(ry:RelV y u)(rx:RelV x v)(fy:Er y=true)(fx:Er x=true):SeqAt.EqAt A s u v (Ko y x):=by
 cases y with
 |non=>
  cases ry;cases x with
  |non=>cases rx;exact dq _
  |bl b=>cases rx;exact SeqAt.EqAt.none_bool b
  |int b=>obtain⟨t,rfl⟩:=rx;exact SeqAt.EqAt.none_int b t
  |str b=>obtain⟨t,rfl⟩:=rx;exact SeqAt.EqAt.none_str b t
  |_=>exact absurd (show false=true from fx) ay
 |bl a=>
  cases ry;cases x with
  |non=>cases rx;exact SeqAt.EqAt.bool_none a
  |bl b=>cases rx;exact SeqAt.EqAt.bool_bool a b
  |int b=>obtain⟨t,rfl⟩:=rx;exact SeqAt.EqAt.bool_int a b t
  |str b=>obtain⟨t,rfl⟩:=rx;exact SeqAt.EqAt.bool_str a b t
  |_=>exact absurd (show false=true from fx) ay
 |int a=>
  obtain⟨t',rfl⟩:=ry;cases x with
  |non=>cases rx;exact SeqAt.EqAt.int_none a t'
  |bl b=>cases rx;exact SeqAt.EqAt.int_bool a t' b
  |int b=>obtain⟨t,rfl⟩:=rx;exact SeqAt.EqAt.int_int a t' b t
  |str b=>obtain⟨t,rfl⟩:=rx;exact fY a t' b t
  |_=>exact absurd (show false=true from fx) ay
 |str a=>
  obtain⟨t',rfl⟩:=ry;cases x with
  |non=>cases rx;exact SeqAt.EqAt.str_none a t'
  |bl b=>cases rx;exact SeqAt.EqAt.str_bool a t' b
  |int b=>obtain⟨t,rfl⟩:=rx;exact fW a t' b t
  |str b=>obtain⟨t,rfl⟩:=rx;exact SeqAt.EqAt.str_str a t' b t
  |_=>exact absurd (show false=true from fx) ay
 |_=>exact absurd (show false=true from fy) ay
def VD (x:V)(u:Value):Bool:=match u with
 | .none=>Ko .non x
 | .bool b=>Ko (.bl b) x
 | .int i _=>Ko (.int i) x
 | .str z _=>Ko (.str z) x
 |_=>false
theorem Vm {x y:V}{u:Value}(r:RelV y u)(f:Er y=true):VD x u=Ko y x:=by
 cases y with
 |non=>cases r;rfl
 |bl b=>cases r;rfl
 |int i=>obtain⟨t,rfl⟩:=r;rfl
 |str z=>obtain⟨t,rfl⟩:=r;rfl
 |_=>exact absurd (show false=true from f) ay
theorem Ot {x:V}:∀{xs:List V} {us:List Value},A5 xs us->xs.all Er=true->us.any (VD x)=xs.any λy=>Ko y x
 |_,_,.nil,_=>rfl
 |y::xs,u::us,.cons r t,f=>by
  rw[dA,aQ] at f;rw[dW,dW,Vm r f.1,Ot t f.2]
theorem LJ {A:Around}{s:Shared}{x:V}{v:Value}(rx:RelV x v)(fx:Er x=true):∀{xs:List V} {us:List Value},A5 xs us->xs.all Er=true->∀u∈us,SeqAt.EqAt A s u v (VD x u)
 |_,_,.nil,_=>λu hu=>by cases hu
 |y::xs,u::us,.cons r t,f=>λu' hu=>by
  rw[dA,aQ] at f;rcases aM.mp hu with rfl|hu
  ·rw[Vm r f.1];exact Jm r rx f.1 fx
  ·exact LJ rx fx t f.2 u' hu
def ZH (x:V)(xs:List V):Bool:=xs.any λy=>Ko y x
def ZU (K:PySem.W.Frag)(neg:Bool):R2:=λx y H Q=>∃p xs,y=.ref p/\(AV K H p xs\/AW K H p xs)/\Er x=true/\xs.all Er=true/\Q (.bl (if neg then !ZH x xs else ZH x xs)) H
theorem SX:IL X (compareOp .In) (ZU X.K false):=by
 intro pins s σ H x y v u Q I rx ry h;obtain⟨p,xs,rfl,hq,fx,fs,q⟩:=h;cases ry;rcases hq with hq|hq
 ·obtain⟨its,r,pl,hz⟩:=I.list hq;refine SeqAt.in_listAt (VD x) pl.isList (λw hw=>LJ rx fx r fs w (by simpa using hw)) ⟨.bl _,H,I,rfl,?_⟩;rw[show its.toArray.any (VD x)=its.any (VD x) by simp,Ot r fs];exact q
 ·obtain⟨its,r,pl,hz⟩:=I.tuple hq;refine SeqAt.in_tupleAt (VD x) pl (λw hw=>LJ rx fx r fs w (by simpa using hw)) ⟨.bl _,H,I,rfl,?_⟩;rw[show its.toArray.any (VD x)=its.any (VD x) by simp,Ot r fs];exact q
theorem BQ:EV X (.builtin "len") (λxs H Q=>∃p ys,xs=[.ref p]/\(AV X.K H p ys\/AW X.K H p ys)/\Q (.int ys.length) H):=by
 intro pins s σ H xs us Q I r h;obtain⟨p,ys,rfl,hq,q⟩:=h;obtain⟨u,rfl,rx⟩:=vals1 r;cases rx;have hn:=MJ;rcases hq with hq|hq
 ·obtain⟨its,r',pl,hz⟩:=I.list hq;have hlen:=r'.length;exact Calls.call_len_list pl.isList (by simp only[List.size_toArray]<;>omega) ⟨.int ys.length,H,I.tok _,⟨s.toks+1,by rw[aP,hlen]⟩,q⟩
 ·obtain⟨its,r',pl,hz⟩:=I.tuple hq;have hlen:=r'.length;exact len_tuple pl (by simp only[List.size_toArray]<;>omega) ⟨.int ys.length,H,I.tok _,⟨s.toks+1,by rw[aP,hlen]⟩,q⟩
theorem DW:EV X (.builtin "len") (λxs H Q=>∃z,xs=[.str z]/\z.length<=sizeLine/\Q (.int z.length) H):=by
 intro pins s σ H xs us Q I r h;obtain⟨z,rfl,hz,q⟩:=h;obtain⟨u,rfl,t,rfl⟩:=vals1 r;have hn:=MJ;exact len_str (by omega) ⟨.int z.length,H,I.tok _,⟨_,rfl⟩,q⟩
theorem Nx:EV X (.type "tuple") (λxs H Q=>∃p ys,xs=[.ref p]/\((AV X.K H p ys/\∀l,H l=none->Q (.ref l) (upd H l (.tup ys)))\/(AW X.K H p ys/\Q (.ref p) H))):=by
 intro pins s σ H xs us Q I r h;obtain⟨p,ys,rfl,h⟩:=h;obtain⟨u,rfl,rx⟩:=vals1 r;cases rx;rcases h with⟨hq,q⟩|⟨hq,q⟩
 ·obtain⟨its,r',pl,hz⟩:=I.list hq;have hlen:=r'.length;refine call_tuple_list pl.isList (λh' kp=>?_) (by simp only[List.size_toArray]<;>omega);have I1:Inv X pins σ H { s with heap:=h' }:=I.kept (t':=s.toks) kp;have I2:Inv X pins σ (upd H h'.objs.size (.tup ys)) { s with heap:=h'.push { cls:=.type "tuple",data:=.seq its.toArray } }:=
   I1.laid (t':=s.toks) (λb o e=>af _ e) (au _) (show Be X.prog X.w _ _ _ (.tup ys) from⟨hz,its,r',M7.new _ _⟩)
  exact⟨.ref h'.objs.size,_,I2,rfl,q _ (I1.hok.fresh (au _))⟩
 ·obtain⟨its,r',pl,hz⟩:=I.tuple hq;exact call_tuple_same pl ⟨.ref p,H,I,rfl,q⟩
def ZM (K:PySem.W.Frag)(T:String)(x:V)(H:Hp):Prop:=match x with
 | .str _=>T="str"
 | .int _=>T="int"
 | .ref p=>(T="list"/\∃xs,AV K H p xs)\/(T="tuple"/\∃o,K.lookup p=some o/\o.cls=.type "tuple"/\o.dict=none)\/
   (T="dict"/\((∃kvs,H p=some (.dK kvs))\/∃kvs,H p=some (.dT kvs)))\/(T="set"/\∃S n,H p=some (.set S n))
 |_=>False
theorem Ua {pins:List (Addr×Obj)}{σ:St}{H:Hp}{s:Shared}{T:String}{x:V}{v:Value}(I:Inv X pins σ H s)(r:RelV x v)(ty:ZM X.K T x H) :
  s.TypeIs v T/\∀a,v=.ref a->∃ob,s.heap.get? a=some ob/\ob.dict=none:=by
 cases x with
 |str z=>
  obtain⟨t,rfl⟩:=r;cases(show T="str" from ty);exact⟨fV s z t,λ_ e=>nomatch e⟩
 |int i=>
  obtain⟨t,rfl⟩:=r;cases(show T="int" from ty);exact⟨typeIs_int s i t,λ_ e=>nomatch e⟩
 |ref p=>
  cases r;rcases ty with⟨rfl,xs,hq⟩|⟨rfl,o,hk,hc,hd⟩|⟨rfl,hk⟩|⟨rfl,S,n,hk⟩
  ·obtain⟨its,_,pl,_⟩:=I.list hq;refine⟨pl.isList.typeIs,λa e=>?_⟩;cases e;obtain⟨o,n,e,c,hd,_⟩:=pl;exact⟨o,e,hd⟩
  ·refine⟨⟨o,I.kIn p o hk,hc⟩,λa e=>?_⟩;cases e;exact⟨o,I.kIn _ o hk,hd⟩
  ·have z:∃o,s.heap.get? p=some o/\o.ExactDict:=by
    rcases hk with⟨kvs,hk⟩|⟨kvs,hk⟩
    ·obtain⟨_,_,_,_,o,_,_,e,ex,_⟩:=I.hok p _ hk;exact⟨o,e,ex⟩
    ·obtain⟨_,_,_,_,o,_,_,e,ex,_⟩:=I.hok p _ hk;exact⟨o,e,ex⟩
   obtain⟨o,e,ex⟩:=z;refine⟨⟨o,e,ex.1⟩,λa e2=>?_⟩;cases e2;exact⟨o,e,ex.2.1⟩
  ·obtain⟨o,_,_,_,e,ex,_⟩:=I.hok p _ hk;refine⟨⟨o,e,ex.1⟩,λa e2=>?_⟩;cases e2;exact⟨o,e,ex.2.1⟩
 |_=>exact False.elim ty
def ZL (K:PySem.W.Frag)(T:String)(r:V->List V->Hp->VK->Prop)(to:TE)(t:TA):TE:=λσ H Q=>to σ H λx H1=>ZM K T x H1/\t σ H1 λxs H2=>r x xs H2 Q
variable {o e:Expr}{es:List Expr}{to:TE}{t:TA}{name:Str}{apos cpos:Pos}{T id:String}{r:V->List V->Hp->VK->Prop}
theorem Dm (pa:PlainAttrs T) (slot:Slot T name id) (hty:typeOf (.builtin id)=pure (.type "method_descriptor")) (hm:Vy X id r) (ho:PE X o to) (ha:PA X (e::es) t)
  (hbase:attributeBase o name X.env (eval o X.env)=eval o X.env:=by rfl)
  (hfew:((backTo cpos (starEach (e::es) X.env)).all (λx=>!x.1)&&(backToKw cpos (keywordEach [] X.env)).all (λx=>x.1.isSome)
   && decide ((e::es).length+([]:List Keyword).length+(if([]:List Keyword).isEmpty then 0 else 1)<30))=true:=by rfl)
  (hline:(apos.endLine == cpos.line)=true:=by rfl) (hs:starEach (e::es) X.env=(false,eval e X.env)::starEach es X.env:=by rfl) (hplain:(backTo cpos (starEach es X.env)).any (·.1)=false:=by rfl) :
  PE X (.Call (.Attribute o name apos) (e::es) [] cpos) (ZL X.K T r to t):=by
 intro pins s σ H Q I h;refine wpAny_Call_method_late hbase hfew hline rfl (BN (ho pins s σ H _ I h) λv s1 z9=>?_);obtain⟨x,H1,I1,r1,ty,q1⟩:=z9;obtain⟨h1,h2⟩:=Ua I1 r1 ty;refine⟨T,id,pa,slot,hty,h1,h2,?_⟩;have hA:=ha cpos pins s1 σ H1 _ I1 q1;rw[hs] at hA ⊢;refine dD (by show(false||(backTo cpos (starEach es X.env)).any (·.1))=false;rw[hplain]<;>rfl) (fN ?_);exact BN hA λus s2 ⟨vs,H2,I2,r2,q2⟩=>hm pins s2 σ H2 x vs v us Q I2 r1 r2 q2
end
def ZN (X:Cx)(id:String)(r:V->List V->Hp->VK->Prop):Prop:=
 ∀(pins:List (Addr×Obj)) (s:Shared) (σ:St) (H:Hp) (x:V) (xs:List V) (v:Value) (us:List Value) (Q:VK),Inv X pins σ H s->RelV x v->A5 xs us->r x xs H Q->
  wpAny (model X.prog X.w) X.A (call (.builtin id) (v::us)) (EP X pins σ Q) X.xe s
theorem A5.one:∀{x:V} {us:List Value},A5 [x] us->∃u,us=[u]/\RelV x u
 |_,_,.cons r .nil=>⟨_,rfl,r⟩
section
variable {X:Cx}{pins:List (Addr×Obj)}{σ:St}{H:Hp}{s:Shared}{l b:Addr}{xs ys zs:List V}
theorem Inv.lset {its its':List Value} {n:Nat} {f:Array Value->Array Value} {t':Nat} (I:Inv X pins σ H s) (hH:H l=some (.lst xs))
  (e:s.heap.get? l=some { cls:=.type "list",data:=.seq its.toArray n }) (hf:f its.toArray=its'.toArray) (hv:A5 ys its') (hz:ys.length<=sizeLine) :
  Inv X pins σ (upd H l (.lst ys)) { s with heap:=s.heap.update l (Obj.mapSeq f),toks:=t' }:=by
 have q:=PySem.IsL.update e f;rw[hf] at q;refine I.write (x:=l) (e:=l) (by rw[hH];exact trivial) (.inl rfl) (λb' u hb hu=>(bM s.heap (Obj.mapSeq f) (Ne.symm hb)).trans hu) ⟨_,q⟩ ?_;exact⟨hz,its',_,hv,q⟩
theorem Inv.lnew {its:List Value}{t':Nat}(I:Inv X pins σ H s)(hv:A5 ys its)(hz:ys.length<=sizeLine) :
  Inv X pins σ (upd H s.heap.objs.size (.lst ys)) { s with heap:=s.heap.push { cls:=.type "list",data:=.seq its.toArray },toks:=t' }:=
 I.laid (λ_ _ q=>af _ q) (au _) ⟨hz,its,0,hv,aH _ rfl⟩
theorem Inv.fresh (I:Inv X pins σ H s):H s.heap.objs.size=none:=I.hok.fresh (au _)
theorem Inv.lstM (I:Inv X pins σ H s)(hH:H l=some (.lst xs)):xs.length<=sizeLine/\∃(its:List Value) (n:Nat),A5 xs its/\xs.length=its.length/\s.heap.get? l=some { cls:=.type "list",data:=.seq its.toArray n }:=by
 obtain⟨z,its,n,r,e⟩:=I.hok l _ hH;exact⟨z,its,n,r,r.length,e⟩
theorem U9 {n:Nat}(h:n<=sizeLine):Builtin.List.listTooLong n=false:=by
 unfold Builtin.List.listTooLong;exact aq (by omega)
end
section
variable {X:Cx}
def VI:V->List V->Hp->VK->Prop:=λx vs H Q=>∃l xs y,x=.ref l/\vs=[y]/\H l=some (.lst xs)/\xs.length<sizeLine/\Q .non (upd H l (.lst (xs++[y])))
theorem Cw:ZN X "list.append" VI:=by
 intro pins s σ H x vs v us Q I rx rv h;obtain⟨l,xs,y,rfl,rfl,hH,hz,q⟩:=h;cases rx;obtain⟨u,rfl,ru⟩:=rv.one;obtain⟨z,its,n,r,hl,e⟩:=I.lstM hH;refine dZ F.slot_list_append ⟨_,e,rfl⟩ F.entry_list_append (F.args_list_append_2 _ _) (PySem.list_append l its.toArray n u (by rw[aP];omega)) ⟨e,?_⟩;refine⟨.non,_,I.lset (its':=its++[u]) hH e (by simp) (r.append (.cons ru .nil)) ?_,rfl,q⟩;rw[ar,bc];omega
def V7:V->List V->Hp->VK->Prop:=λx vs H Q=>∃l b xs zs,x=.ref l/\vs=[.ref b]/\H l=some (.lst xs)/\H b=some (.lst zs)/\xs.length+zs.length<=sizeLine/\Q .non (upd H l (.lst (xs++zs)))
theorem N8:ZN X "list.extend" V7:=by
 intro pins s σ H x vs v us Q I rx rv h;obtain⟨l,b,xs,zs,rfl,rfl,hH,hB,hz,q⟩:=h;cases rx;obtain⟨u,rfl,ru⟩:=rv.one;cases ru;obtain⟨z,its,n,r,hl,e⟩:=I.lstM hH;obtain⟨z2,its2,n2,r2,hl2,e2⟩:=I.lstM hB;have hsz:its.toArray.size+its2.toArray.size<=sizeLine:=by rw[aP,aP];omega
 have hlong:¬(!its.toArray.isEmpty&&Builtin.List.listTooLong (its.toArray.size+its2.toArray.size))=true:=by
  rw[U9 hsz,Bool.and_false];exact ay
 refine dZ F.slot_list_extend ⟨_,e,rfl⟩ F.entry_list_extend (F.args_list_extend_2 _ _)
  (AutoSeq1.list_extend_list_list_0 l its.toArray n b its2.toArray n2 hlong (by rw[aP];omega) (by omega)) ⟨e,e2,?_⟩
 refine⟨.non,_,I.lset (its':=its++its2) hH e (by simp) (r.append r2) ?_,rfl,q⟩;rw[ar];omega
end
end L2
namespace Att
open PySem PySem.W PySem.Calls PyProof.Rows
theorem Lr {P:Params}{h:Heap}:∀(ns:List Int) (vs:List Value),WellAll P h vs (ns.map WData.int)->IntsAre vs ns:=by
 intro ns
 induction ns with
 |nil=>
  intro vs w;rw[cT] at w;cases w;exact .nil
 |cons n ns ih=>
  intro vs w;rw[aF] at w;cases w with
  |cons a b=>
   cases a;exact .cons _ _ (ih _ b)
theorem Th {l:OpenLaw} {n:Nat} (hn:l.most=some n) {P:Params} {h:Heap} {args:List WData} {vals:List Value}
  (hpre:l.row.toRowW.claim.pre args=true) (hwl:WellAll P h vals args) :
  ∃a vs ns,vals=[Value.ref a]/\args=[WData.list (ns.map WData.int)]/\h.get? a=some { cls:=.type "list",data:=.seq vs.toArray }/\IntsAre vs ns/\ns.length<=n:=by
 have hsh:WShape.hasAll [] args [.list .int]=true:=(pre_splitW hpre).1;have hc:l.pre.holds [] { args:=args }=true:=(pre_splitW hpre).2;obtain⟨d,r,rfl,h1,h2⟩:=hasAllW_cons hsh;obtain rfl:=hasAllW_nil h2;obtain⟨xs,rfl,h3⟩:=hasW_list h1;obtain⟨ns,rfl⟩:=items_int h3;have hlen:ns.length<=n:=by
  unfold OpenLaw.pre at hc;have h4:(WTm.not (.lt (.lit (.int (n:Int))) (.len (.arg 0)))).holds [] { args:=[.list (ns.map .int)] }=true:=by
   have h4:=(holds_andW hc).1;rw[hn] at h4;exact h4
  have h5:=condW_of h4 (w_not (w_lt w_lit (w_len_list (w_arg rfl))));rw[aa] at h5;refine Nat.le_of_not_lt λq=>?_
  have q':(n:Int)<((ns.length:Nat):Int):=by omega
  first
   |(rw[av q'] at h5;exact absurd h5 (by decide))
   |(simp at h5;omega)
 cases hwl with
 |cons w1 w2=>
  cases w2;cases w1 with
  |list ho hall=>exact⟨_,_,ns,rfl,rfl,ho,Lr ns _ hall,hlen⟩
theorem Tu (l:OpenLaw)(args:List WData):l.row.toRowW.claim.post args (.bool true) args=true:=
 postW_of (r:=l.row.toRowW) (X:=(true == true))
  (show WShape.has [] (.bool true) .bool=true by first|rfl|decide|simp[WShape.has,WShape.arms,WShape.armsAll])
  (show(WTm.eq .res (.lit (.bool true))).value [] { args:=args,res:=some (.bool true),after:=args }=some (.bool (true == true)) from w_eq_bool (w_res rfl) w_lit) rfl
theorem Qm {l:OpenLaw} {n:Nat} {q:Program} {loose:List Str} {XP:(Str->Option Value)->Heap->Prop} {YP:World->Heap->Prop} {d:DefRec}
  (hn:l.most=some n) (hdf:d.params.defaults=[])
  (call:∀(w:World) (s₀ s₁:Shared) (mg mb:Str->Option Value) (fa:Addr) (o:Obj) (pm cd doc:Value) (a:Addr) (vs:List Value) (ns:List Int),
   Ground q loose [] XP w s₀ mg mb s₁.heap->YP w s₁.heap->
   s₁.heap.get? fa=some o->o.data=.func (docDef d.name d.params d.body d.scope pm cd doc)->s₁.heap.CodeRec cd d.name->mg d.name=some (.ref fa)->
   s₁.heap.get? a=some { cls:=.type "list",data:=.seq vs.toArray }->IntsAre vs ns->ns.length<=n->s₁.gens = #[]->
   codeAny (model l.prog w) callerA (.call (.ref fa) ⟨[.ref a],[]⟩) (λr s'=>r=.ok (.ret (.bool true))/\OldK s₁.heap s'.heap/\s'.os=s₁.os/\AllBare s'.gens) s₁) :
  WalkO q loose XP YP l.row.toRowW d [] (λf vs=>PySem.call f vs):=by
 intro w s₀ s₁ mg mb G Y fa o pm cd doc dV kV ho hd hcd hD hmg hg args vals as hpre hlay hrd hwl hlo;obtain rfl:dV=.none:=Dflts.none hD hdf;obtain rfl:kV=.none:=Dflts.noKw hD;obtain⟨a,vs,ns,rfl,rfl,hobj,hints,hlen⟩:=Th hn hpre hwl;refine enter_call (c8 (call w s₀ s₁ mg mb fa o pm cd doc a vs ns G Y ho (fd_plain hd) hcd hmg hobj hints hlen hg) λr s' hq=>?_);obtain⟨rfl,h2,h3,h4⟩:=hq;exact⟨.inl ⟨.bool true,.bool true,[],rfl,λ_=>rfl,.bool true,Tu l _,λ_=>⟨List.Pairwise.nil,λ_ hm=>(nomatch hm)⟩⟩,h2,h3,h4⟩
end Att
namespace L2
open PySem PySem.Spec PyProof.Rows
theorem Kz:∀{vs:List Value} {ns:List Int},IntsAre vs ns->A5 (ns.map V.int) vs
 |_,_,.nil=>.nil
 |_,_,.cons n t h=>.cons ⟨t,rfl⟩ (Kz h)
def inClass (s:Stmt)(j:Nat):Stmt:=match s with
 | .ClassDef _ _ _ body _ _ _ _ _ _ _=>body.getD j (.Pass ⟨0,0,0,0⟩)
 |_=>.Pass ⟨0,0,0,0⟩
def JG (s:Stmt):Arguments:=match s with
 | .FunctionDef _ a _ _ _ _ _ _ _ _=>a
 |_=>{ posonlyargs:=[],args:=[],vararg:=none,kwonlyargs:=[],kw_defaults:=[],kwarg:=none,defaults:=[] }
def Fz (s:Stmt):List Stmt:=match s with
 | .FunctionDef _ _ b _ _ _ _ _ _ _=>b
 |_=>[]
def Ai (s:Stmt):Scope:=match s with
 | .FunctionDef _ _ _ _ _ _ sc _ _ _=>sc
 |_=>{ kind:=.function,names:=[],isGenerator:=false,isCoroutine:=false }
abbrev Ef:R1:=λ_ _ _ _ _ _=>False
abbrev E0:XK:=λ_ _ _=>False
theorem TR {X:Cx}:Fv Ef X E0:=λ_ _ _ _ _ _ _ h=>h.elim
structure Fun (K:PySem.W.Frag) (x qual:Str) (st:Stmt) (f:Addr) (fd:FuncData):Prop where
 ex:∃(oc:Value) (od:Option Addr) (kV doc pm:Value) (an:Option Addr) (cdv ct:Value) (osl:Array (Option Value)),
  fd=PySem.W.fnOf x qual (JG st) (Fz st) (Ai st) .none kV doc pm an cdv ct/\K.lookup f=some ⟨oc,od,.func fd,osl⟩/\PySem.W.codeIn K cdv qual=true
 kp:PySem.W.keepIn K (.ref f)=true
section
variable {P:Program}{w:World}{K:PySem.W.Frag}{mg:Str->Option Value}{base:Heap}
theorem Fun.ok {x qual:Str} {st:Stmt} {f:Addr} {fd:FuncData} {N ps:List Str} {k:Nat} {sp:Sp} (F:Fun K x qual st f fd) (S:FnScope N ps (Ai st)) (len:∀vs H Q E,sp vs H Q E->vs.length=ps.length)
  (hbody:∀(cdv:Value) (A:Around) (outer:List Env) (s:Shared) (H:Hp) (vs:List V) (Q:VK) (E:XK),Room k (A.deeper (envOfC qual (Ai st) s.heap.objs.size f cdv))->sp vs H Q E->
   ∃t,Qo (A4 Ef P w K mg base N qual (Ai st) f cdv A outer s H E).nox (Fz st) t/\t { nx:=λ_ H'=>Q .non H',rt:=Q } (start N vs) H):FnOk P w K mg base Ef (k+1) f fd ps sp:=by
 obtain⟨oc,od,kV,doc,pm,an,cdv,ct,osl,rfl,lk,hcd⟩:=F.ex;refine U6 lk hcd S len λA outer s H vs Q E hr hsp=>?_
 obtain⟨t,h,q⟩:=hbody cdv A outer s H vs Q E hr hsp;exact⟨t,h.nox,q⟩
theorem Fun.binds {x qual:Str} {st:Stmt} {f:Addr} {fd:FuncData} {ps:List Str} (F:Fun K x qual st f fd)
  (h:∀(kV doc pm:Value) (an:Option Addr) (cdv ct:Value) (us:List Value),us.length=ps.length->bindArgs (PySem.W.fnOf x qual (JG st) (Fz st) (Ai st) .none kV doc pm an cdv ct) ⟨us,[]⟩=pure (ps.zip us)):Binds K fd ps []:=by
 obtain⟨oc,od,kV,doc,pm,an,cdv,ct,osl,rfl,lk,hcd⟩:=F.ex;exact .all (h kV doc pm an cdv ct)
theorem Uy {x qual:Str} {st:Stmt} {f:Addr} {oc:Value} {od an:Option Addr} {osl:Array (Option Value)} {kV doc pm cdv ct:Value} (l:K.lookup f=some ⟨oc,od,.func (PySem.W.fnOf x qual (JG st) (Fz st) (Ai st) .none kV doc pm an cdv ct),osl⟩)
  (c:PySem.W.codeIn K cdv qual=true) (k:PySem.W.keepIn K (.ref f)=true):Fun K x qual st f (PySem.W.fnOf x qual (JG st) (Fz st) (Ai st) .none kV doc pm an cdv ct):=⟨⟨oc,od,kV,doc,pm,an,cdv,ct,osl,rfl,l,c⟩,k⟩
end
theorem C4 {A:Around}{k:Nat}(hr:Room k A):A.units+1<cLine:=Nat.lt_of_le_of_lt (Nat.add_le_add_left (by decide:1<=64) _) hr.units
section
variable {X:Cx}
theorem pv (i:Nat) {x:Str} {pos:Pos} (hN:X.N[i]?=some x:=by rfl) (hv:Zq X.env.scope x:=by first|exact Or.inl rfl|exact Or.inr (Or.inl rfl)|exact Or.inr (Or.inr rfl)) (hd:(x == ("__debug__":Str))=false:=by decide)
  (hcd:(x == ("__classdict__":Str))=false:=by decide):PE X (.Name x pos) (NB i):=Xi hN hv hd hcd
end
theorem DQ {c A B:Prop}[Decidable c](h1:c->A)(h2:¬c->B):if c then A else B:=by
 by_cases h:c
 ·rw[ak h];exact h1 h
 ·rw[ai h];exact h2 h
def Aw (H H':Hp):Prop:=∀b o,H b=some o->H' b=some o
theorem Aw.refl (H:Hp):Aw H H:=λ_ _ h=>h
theorem Aw.trans {H H1 H2:Hp}(a:Aw H H1)(b:Aw H1 H2):Aw H H2:=λc o h=>b c o (a c o h)
theorem Aw.free {H H':Hp}(e:Aw H H'){l:Addr}(h:H' l=Option.none):H l=Option.none:=by
 cases q:H l with
 |none=>rfl
 |some o=>
  rw[e l o q] at h;cases h
theorem Aw.seq {K:PySem.W.Frag}{H H':Hp}{a:Addr}{xs:List V}(e:Aw H H')(h:AV K H a xs):AV K H' a xs:=by
 rcases h with(h|⟨o,h⟩)|h
 ·exact .inl (.inl (e _ _ h))
 ·exact .inl (.inr ⟨o,e _ _ h⟩)
 ·exact .inr h
end L2
set_option maxHeartbeats 1000000
namespace L2
open PySem PySem.Spec PyProof.Rows
section
variable {prog:Program}{w:World}{A:Around}{env:Env}{elt target iter:Expr}{ifs:List Expr}{scope:Scope}{pos:Pos}{it acc:Value}
abbrev Wf (env:Env)(ifs:List Expr):Sem Bool:=forIn ifs true λc r=>(if r=true then(do let ok <-isTrue c env (eval c env);pure (ForInStep.yield ok)) else pure (ForInStep.yield r))
abbrev RR (prog:Program)(w:World)(A:Around)(env:Env)(elt target:Expr)(ifs:List Expr)(it acc:Value)(Ee:Value->Shared->Prop)(over on:Shared->Prop):Shared->Prop:=
 wpAny (model prog w) A (pyNext it) (fun|none,s1=>over s1|some v,s1=>wpAny (model prog w) A (letOwnedTupleGo target it v) (λ_ s2=>wpAny (model prog w) A (assign target env v) (λ_ s3=>wpAny (model prog w) A (Wf env ifs) (λok s4=>
  if ok=true then wpAny (model prog w) A (eval elt env) (λx s5=>wpAny (model prog w) A (call (.builtin "list.append") [acc,x]) (λ_=>on) (λ_ _=>False) s5) Ee s4 else on s4) Ee s3) Ee s2) (λ_ _=>False) s1) (λ_ _=>False)
theorem Py {R:Result->Shared->Prop} {Ee:Value->Shared->Prop} (I:Nat->Shared->Prop) (hE:∀x s,Ee x s->notedBy (model prog w) A env (λx s=>R (.error x) s) x s)
  (turn:∀n s,I n s->RR prog w A env elt target ifs it acc Ee (R (.ok .next)) (λs'=>∃m,m<n/\I m s') s) (n:Nat) {s:Shared} (h:I n s) :
  codeAny (model prog w) A (.compLoop (.ListComp elt [⟨target,iter,ifs,0⟩] scope pos) 0 it acc env) R s:=by
 have none':∀{Z:Value->Shared->Prop} (x:Value) (s:Shared),False->Z x s:=λ_ _ z=>z.elim
 refine codeAny_loop rfl I (λk s1 h1=>?_) n h
 change wpAny _ A ((compTurn (.ListComp elt [⟨target,iter,ifs,0⟩] scope pos) 0 it acc env).onRaise (λx=>do noteFrame x env;theTreesLotGoes x)) _ _ s1
 refine wpAny_noted ?_;rw[compTurn_list];refine ae (eV (ae (bg (turn k s1 h1) (λr s2 h2=>?_) none')))
 match r,h2 with
 |none,h2=>exact aB h2
 |some v,h2=>
  refine ae (bg h2 (λ_ s3 h3=>ae (bg h3 (λ_ s4 h4=>ae (bg h4 (λok s5 h5=>?_) hE)) hE)) none')
  match ok,h5 with
  |false,h5=>exact aB ⟨rfl,h5⟩
  |true,h5=>exact ae (ae (bg h5 (λx s6 h6=>ae (bg h6 (λ_ s7 h7=>aB (aB ⟨rfl,h7⟩)) none')) hE))
theorem Q5 {R:Result->Shared->Prop}(I:Nat->Shared->Prop)(turn:∀n s,I n s->RR prog w A env elt target ifs it acc (λ_ _=>False) (R (.ok .next)) (λs'=>∃m,m<n/\I m s') s)(n:Nat){s:Shared}(h:I n s) :
  codeAny (model prog w) A (.compLoop (.ListComp elt [⟨target,iter,ifs,0⟩] scope pos) 0 it acc env) R s:=Py I (λ_ _ z=>z.elim) turn n h
end
def QI (X:Cx)(ifs:List Expr)(t:TT):Prop:=
 ∀(pins:List (Addr×Obj)) (s:Shared) (σ:St) (H:Hp) (Q:Bool->Hp->Prop),Inv X pins σ H s->t σ H Q->
  wpAny (model X.prog X.w) X.A (forIn ifs true λc r=>if r=true then do let ok <-isTrue c X.env (eval c X.env);pure (ForInStep.yield ok) else pure (ForInStep.yield r)) (TP X pins σ Q) X.xe s
def VS:TT:=λ_ H Q=>Q true H
theorem CK {X:Cx}:QI X [] VS:=λ_ _ _ H _ I h=>wpAny_tests_nil ⟨H,I,h⟩
theorem JL {X:Cx}{c:Expr}{t:TT}(h:PT X c t):QI X [c] t:=λpins s σ H Q I q=>wpAny_tests_one (h pins s σ H Q I q)
def BP (X:Cx)(scope:Scope)(cl:List (Str×Addr))(N:List Str)(C:Addr)(s:Shared)(H:Hp)(fp:List Addr):Cx:=
 { prog:=X.prog,w:=X.w,K:=X.K,mg:=X.mg,base:=X.base,A:=X.A,N:=N,s₀:=s,H₀:=H,env:=compEnvC scope cl C X.env,outer:=X.stack,stack:=X.stack,ex:=fp,fn:=λ_=>false,calm:=X.calm,pn:=[],xe:=λ_ _=>False }
def stC (fr:List (Option Nat))(σ:St):St:=fr.map λo=>o.bind λi=>(σ[i]?).bind id
def Je (fr:List (Option Nat))(g:TG)(tt:TT)(te:TE)(σ:St)(Q:VK)(J:It)(H1:Hp):Prop:=∀l,H1 l=none->∃W:Nat->Nat->St->Hp->Prop,(∃m,W 0 m (stC fr σ) (upd H1 l (.lst [])))/\∀i m σ H,W i m σ H->
 (J.stop i H/\Q (.ref l) H)\/(J.go i H/\∀x H',J.yld i H x H'->g x σ H' λσ2 H2=>tt σ2 H2 λb H3=>if b=true then te σ2 H3 λv H4=>∃xs,H4 l=some (.lst xs)/\xs.length<sizeLine/\∃m',m'<m/\W (i+1) m' σ2 (upd H4 l (.lst (xs++[v])))
  else ∃m',m'<m/\W (i+1) m' σ2 H3)
def Oc (fr:List (Option Nat))(wi:TI)(g:TG)(tt:TT)(te:TE):TE:=λσ H Q=>wi σ H (Je fr g tt te σ Q)
def IB (XN:List Str)(xs sc:Scope)(N:List Str)(fr:List (Option Nat)):Bool:=
 decide (sc.kind=.function)&&decide (fr.length=N.length)&&(sc.names.all λy=>!decide (y.2=.cell))&&(sc.names.all λy=>!decide (y.2=.local)||decide (sc.names.lookup y.1=some .local)) &&
 (sc.names.all λy=>!decide (y.2=.free)||(decide (xs.names.lookup y.1=some .cell)||decide (xs.names.lookup y.1=some .free))) &&
 ((N.zip fr).all λp=>match p.2 with|none=>true|some i=>decide (XN[i]?=some p.1)&&decide (sc.names.lookup p.1=some .free))
def Rq (cells:List (Str×Addr)):List (Str×Addr)->Prop
 |[]=>True
 |p::r=>cells.lookup p.1=some p.2/\Rq cells r
theorem Rq.get {cells:List (Str×Addr)}:∀{cl:List (Str×Addr)},Rq cells cl->∀{x:Str} {c:Addr},cl.lookup x=some c->cells.lookup x=some c
 |[],_,_,_,h=>by cases h
 |(y,d)::r,k,x,c,h=>by
  rw[dz] at h;cases e:x == y with
  |true=>
   rw[e] at h;cases h;rw[eq_of_beq e];exact k.1
  |false=>
   rw[e] at h;exact Rq.get k.2 h
def JQ (cl:List (Str×Addr)):List (Str×NameKind)->Prop
 |[]=>True
 |p::r=>(p.2=.free->∃c,cl.lookup p.1=some c)/\JQ cl r
theorem JQ.get {cl:List (Str×Addr)}:∀{ns:List (Str×NameKind)},JQ cl ns->∀y∈ns,y.2=.free->∃c,cl.lookup y.1=some c
 |[],_,_,h=>by cases h
 |p::r,k,y,h=>by
  rcases aM.mp h with rfl|h
  ·exact k.1
  ·exact JQ.get k.2 y h
theorem GL {env:Env}:∀{names:List (Str×NameKind)} {x:Str} {k:NameKind},(names.map λ(n,k)=>if(k == NameKind.free&&env.scope.kind == .function&&env.kindOf n == some .cell) then(n,NameKind.cell) else(n,k)).lookup x=some k->
  names.lookup x=some k\/(k=.cell/\names.lookup x=some .free)
 |[],_,_,h=>by cases h
 |(n,k0)::r,x,k,h=>by
  have ih:=@GL env r x k
  by_cases hc:(k0 == NameKind.free&&env.scope.kind == .function&&env.kindOf n == some .cell)=true
  ·simp only[List.map_cons,if_pos hc,List.lookup_cons] at h;rw[dz];cases e:x == n with
   |true=>
    rw[e] at h;cases h;simp only[Bool.and_eq_true] at hc;have:k0=.free:=by simpa using hc.1.1
    exact .inr ⟨rfl,by rw[this]⟩
   |false=>rw[e] at h;exact ih h
  ·simp only[List.map_cons,if_neg hc,List.lookup_cons] at h;rw[dz];cases e:x == n with
   |true=>rw[e] at h;exact .inl h
   |false=>rw[e] at h;exact ih h
theorem JR {env:Env}:∀{names:List (Str×NameKind)} {x:Str},names.lookup x=some .free->
  (names.map λ(n,k)=>if(k == NameKind.free&&env.scope.kind == .function&&env.kindOf n == some .cell) then(n,NameKind.cell) else(n,k)).lookup x=some .cell\/
  (names.map λ(n,k)=>if(k == NameKind.free&&env.scope.kind == .function&&env.kindOf n == some .cell) then(n,NameKind.cell) else(n,k)).lookup x=some .free
 |[],_,h=>by cases h
 |(n,k0)::r,x,h=>by
  have ih:=@JR env r x;rw[dz] at h
  by_cases hc:(k0 == NameKind.free&&env.scope.kind == .function&&env.kindOf n == some .cell)=true
  ·simp only[List.map_cons,if_pos hc,List.lookup_cons];cases e:x == n with
   |true=>exact .inl rfl
   |false=>rw[e] at h;exact ih h
  ·simp only[List.map_cons,if_neg hc,List.lookup_cons];cases e:x == n with
   |true=>rw[e] at h;exact .inr h
   |false=>rw[e] at h;exact ih h
section
variable {X:Cx}
theorem Ob (N:List Str) (fr:List (Option Nat)) {elt tg iter:Expr} {ifs:List Expr} {scope:Scope} {pos fpos:Pos} {wi:TI} {g:TG} {tt:TT} {te:TE} {cl:List (Str×Addr)}
  (hc:X.calm=true) (hi:PI X tg iter wi) (hchk:IB X.N X.env.scope scope N fr=true) (hclos:closureFor scope X.env=pure cl) (hcl:Rq X.env.cells cl) (hall:JQ cl scope.names)
  (hb:∀(C:Addr) (s:Shared) (H:Hp) (fp:List Addr),PG (BP X scope cl N C s H fp) tg g/\QI (BP X scope cl N C s H fp) ifs tt/\PE (BP X scope cl N C s H fp) elt te)
  (hs:∀x,foldedSetIterable iter X.env x=pure x) {pins:List (Addr×Obj)} {s:Shared} {σ:St} {H:Hp} {Q:VK} {use:Option (Value->Sem Unit)} {Qc:Value->Shared->Prop} (I:Inv X pins σ H s) (h:Oc fr wi g tt te σ H Q)
  (hfin:∀(l:Addr) (H':Hp) (s':Shared) (C:Addr),Inv X pins σ H' s'->Ng X pins H' C->(∃m,s'.heap.Ns C m)->Q (.ref l) H'->compPost (model X.prog X.w) X.A X.xe use Qc (.ref l) C (.ok .next) s') :
  wpAny (model X.prog X.w) X.A (comprehension (.ListComp elt [⟨tg,iter,ifs,0⟩] scope pos) scope X.env fpos (newList []) (firstAsync [⟨tg,iter,ifs,0⟩]) (firstIter [⟨tg,iter,ifs,0⟩] X.env) use) Qc X.xe s:=by
 simp only[IB,Bool.and_eq_true,decide_eq_true_eq,List.all_eq_true,Bool.or_eq_true,Bool.not_eq_true',decide_eq_false_iff_not] at hchk;obtain⟨⟨⟨⟨⟨hkind,hlen⟩,hcell⟩,hnames⟩,hfree⟩,hfr⟩:=hchk;have hnames':∀x∈scope.names,x.2=.local->scope.names.lookup x.1=some .local:=λy hy e=>(hnames y hy).resolve_left λz=>z e
 have hcell':∀x∈scope.names,x.2≠.cell:=λy hy=>hcell y hy
 refine wpAny_comprehension_free (use:=use) rfl hs hclos hkind hnames' (BN (hi pins s σ H _ I h) λv s1 h1=>BN h1 λitv s2 h2=>?_);obtain⟨it,fp,tn,J,H2,e,I2,T,st2,f2,hQ⟩:=h2;subst e;refine cU (hd:=by size_fits) (wpAny_newFunctionEnv hcell' (by intro y hy;simp at hy) (λh₁ hns hsb=>?_) hkind);dsimp only at hns hsb ⊢;obtain⟨W,⟨m0,w0⟩,turn⟩:=hQ s2.heap.objs.size I2.fresh;have I3:Inv X pins σ (upd H2 s2.heap.objs.size (.lst [])) { s2 with heap:=s2.heap.push { cls:=.type "list",data:=.seq ([]:List Value).toArray },toks:=s2.toks }:=I2.lnew (its:=[]) .nil (a6 _);generalize hh3:s2.heap.push { cls:=.type "list",dict:=none,data:=.seq ([]:List Value).toArray }=h3 at hns hsb ⊢;rw[show s2.heap.push { cls:=.type "list",data:=.seq ([]:List Value).toArray }=h3 from hh3] at I3;generalize hH3:upd H2 s2.heap.objs.size (.lst [])=H3 at I3 w0;generalize hl:s2.heap.objs.size=l at turn hH3 ⊢;have hl3:l<h3.objs.size:=by rw[<-hh3,<-hl,cH];exact fP _
 generalize hs3:({ s2 with heap:=h3,toks:=s2.toks }:Shared)=s3 at I3;have es3:s3.heap=h3:=by rw[<-hs3]
 have eos:s3.os=s2.os:=by rw[<-hs3]
 have egens:s3.gens=s2.gens:=by rw[<-hs3]
 generalize hC:h3.objs.size=C at hns hsb ⊢;have old:∀b o,h3.get? b=some o->h₁.get? b=some o:=λb o e=>
  hsb.extBut b o (by rw[<-hC];exact a4 (aL e)) (af _ e)
 have f3:∀b∈fp,Ng X pins H3 b:=λb hb=>by
  obtain⟨g0,g1⟩:=f2 b hb;refine⟨?_,g1⟩;rw[<-hH3];have:b≠l:=by
   obtain⟨o,e,_⟩:=T.obj _ _ st2 b hb;rw[<-hl];exact a4 (aL e)
  rw[Ak this];exact g0
 have st3:tn 0 h₁:=T.keep _ _ _ st2 λb hb o e=>old b o (by rw[<-hh3];exact af _ e)
 have ok:(BP X scope cl N C s3 H3 fp).Ok:=by
  refine⟨I3.ok.mod,?_,I3.ok.glob,I3.ok.blt,?_,λx y c e1 e2=>I3.ok.inj x y c (hcl.get e1) (hcl.get e2),λx hx=>?_,λx c hx=>(by cases hx),I3.ok.hd,I3.ok.frames,.inl rfl,λb hb=>?_,λb o e=>?_,?_,λb o e hb=>?_,λb hb hb2=>?_,?_,λb hb=>?_⟩
  ·exact hkind
  ·show s3.heap.objs.size<=C;rw[es3,hC];exact au _
  ·have hx':(relabel scope X.env).names.lookup x=some .cell\/(relabel scope X.env).names.lookup x=some .free:=hx;have:scope.names.lookup x=some .free:=by
    rcases hx' with z|z
    ·rcases GL z with q|⟨_,q⟩
     ·exact absurd rfl (hcell' _ (bX q))
     ·exact q
    ·rcases GL z with q|⟨q,_⟩
     ·exact q
     ·cases q
   exact hall.get _ (bX this) rfl
  ·obtain⟨g0,g1,g2,g3,g4,g5⟩:=f3 b hb;obtain⟨o,e,_⟩:=T.obj _ _ st2 b hb;refine⟨?_,λx c e=>g4 x c (hcl.get e)⟩;show b≠C;rw[<-hC];exact a4 (aL (by rw[<-hh3];exact af _ e))
  ·have q:=I3.bs b o e;exact q
  ·show X.base.objs.size<=s3.heap.objs.size;exact aX I3.ok.bsz I3.sz
  ·obtain⟨g0,g1,g2,g3,g4,g5⟩:=f3 b hb;rcases g3 with z|z
   ·exact I3.ok.noex b o e z
   ·exact absurd (aW (aL e) (aX I3.ok.bsz z)) (cI _)
  ·obtain⟨g0,g1,g2,g3,g4,g5⟩:=f3 b hb;rcases aM.mp (I3.stkSub b hb2) with z|z
   ·exact g1 z
   ·exact g2 z
  ·show s3.heap.FunFrames X.base X.stack;exact I3.stack
  ·exact I3.stkFree b hb
 have I4:Inv (BP X scope cl N C s3 H3 fp) [] (stC fr σ) H3 { s2 with heap:=h₁,toks:=s2.toks+([]:List (Str×Value)).length }:=by
  have hk3:∀b o,s3.heap.get? b=some o->h₁.get? b=some o:=λb o e=>old b o (by rw[<-es3];exact e)
  refine⟨ok,eos.symm▸rfl,egens▸I3.bare,Un.kept hk3,⟨_,hns,λi x v e1 e2 e3=>?_⟩,λx c e=>?_,?_,λx c e=>I3.freeC x c (hcl.get e),λp hp=>(by cases hp),I3.hok.kept hk3,?_⟩
  ·
   have e1':N[i]?=some x:=e1;have e2':(fr[i]?).map (λo=>o.bind λi=>(σ[i]?).bind id)=some (some v):=by
    have:(stC fr σ)[i]?=some (some v):=e2;rw[stC,aD] at this;exact this
   cases q:fr[i]? with
   |none=>rw[q] at e2';cases e2'
   |some o=>
    rw[q] at e2';cases o with
    |none=>cases e2'
    |some j=>
     have e2'':(σ[j]?).bind id=some v:=aI e2';obtain⟨p1,p2⟩:X.N[j]?=some x/\scope.names.lookup x=some .free:=by
      have hz:(x,some j)∈N.zip fr:=by
       have:(N.zip fr)[i]?=some (x,some j):=by
        rw[List.getElem?_zip_eq_some];exact⟨e1',q⟩
       exact aN this
      have:=hfr _ hz;simpa using this
     have hv:X.env.scope.names.lookup x=some .cell\/X.env.scope.names.lookup x=some .free:=by
      rcases hfree _ (bX p2) with z|z
      ·exact absurd rfl z
      ·simpa using z
     have e3':σ[j]?=some (some v):=by
      cases q3:σ[j]? with
      |none=>rw[q3] at e2'';cases e2''
      |some w'=>rw[q3] at e2'';have:w'=some v:=e2'';rw[this]
     obtain⟨m,hn,hl'⟩:=I3.loc;obtain⟨u,ru,lk⟩:=hl' j x v p1 e3' (.inr hv);refine⟨u,ru,.inr ⟨JR p2,?_⟩⟩;rcases lk with⟨lk,_⟩|⟨_,c,ec,cc⟩
     ·have lk':X.env.scope.names.lookup x=some .local:=lk;rcases hv with z|z<;>(rw[z] at lk';cases lk')
     ·obtain⟨c',ec'⟩:=hall.get _ (bX p2) rfl;have:=hcl.get ec';rw[ec] at this;cases this;obtain⟨o,ho,hd⟩:=cc;exact⟨c,ec',o,hk3 _ _ ho,hd⟩
  ·obtain⟨v,o,ho,hd⟩:=I3.cell x c (hcl.get e);exact⟨v,o,hk3 _ _ ho,hd⟩
  ·show H3 C=none;exact I3.hok.fresh (by rw[es3,hC];exact au _)
  ·show(stC fr σ).length=N.length;rw[stC,aa];exact hlen
 obtain⟨hg,ht,he⟩:=hb C s3 H3 fp;have fpc:∀{H':Hp},(∀b∈fp,H' b=none)->∀b∈fp,Ng (BP X scope cl N C s3 H3 fp) [] H' b:=λhn b hb=>by
  obtain⟨q1,q2⟩:=ok.exf b hb;exact⟨hn b hb,q1,ok.exfs b hb,.inl hb,q2,λp hp=>by cases hp⟩
 have fin:∀(σ':St) (H':Hp) (s':Shared),Inv (BP X scope cl N C s3 H3 fp) [] σ' H' s'->Q (.ref l) H'->compPost (model X.prog X.w) X.A X.xe use Qc (.ref l) C (.ok .next) s':=λσ' H' s' I' q=>by
  obtain⟨m,hn,_⟩:=I'.loc;have nC:∀b o,s3.heap.get? b=some o->b≠C:=λb o e=>by
   rw[<-hC,<-es3];exact a4 (aL e)
  have fC:H' C=none:=I'.free;have u:=I'.base;refine hfin l H' s' C ?_ (I3.fpOk (by rw[es3,hC];exact au _) fC) ⟨m,hn⟩ q;refine I3.call' (s':=s') (ch:=fp) I'.os ⟨λb o e n hb hx=>u.keep b o e n hb hx,λb o e n hb hx=>u.slot b o e n hb hx,u.free,λb o e hx=>u.there b o e hx,u.tups,u.frzs,u.tbls⟩ (λb o e=>I'.hok b o e) I'.bare λb hb=>?_
  obtain⟨g0,g1,g2,g3,g4,g5⟩:=f3 b hb;exact⟨g3,g1,g4,g5⟩
 have loop:codeAny (model X.prog X.w) X.A (.compLoop (.ListComp elt [⟨tg,iter,ifs,0⟩] scope pos) 0 (.ref it) (.ref l) (compEnvC scope cl C X.env)) (compPost (model X.prog X.w) X.A X.xe use Qc (.ref l) C)
   { s2 with heap:=h₁,toks:=s2.toks+([]:List (Str×Value)).length }:=by
  refine Q5 (λn s'=>∃i σ' H',Inv (BP X scope cl N C s3 H3 fp) [] σ' H' s'/\tn i s'.heap/\(∀b∈fp,H' b=none)/\W i n σ' H') ?_ m0 ⟨0,_,H3,I4,st3,λb hb=>(f3 b hb).1,w0⟩
  rintro n s5 ⟨i,σ5,H5,I5,st5,fr5,w5⟩
  rcases turn i n σ5 H5 w5 with⟨stop,qn⟩|⟨go,step⟩
  ·refine BN (T.done (BP X scope cl N C s3 H3 fp) rfl rfl rfl hc i [] s5 σ5 H5 (λ_ _=>False) I5 (fpc fr5) st5 stop) λr s6 ⟨hr,I6⟩=>?_
   subst hr;exact fin σ5 H5 s6 I6 qn
  ·refine BN (T.item (BP X scope cl N C s3 H3 fp) rfl rfl rfl hc i [] s5 σ5 H5 (λ_ _=>False) I5 (fpc fr5) st5 go) λr s6 ⟨u,hr,h6⟩=>?_
   subst hr;refine BN h6 λ_ s7 z9=>?_
   obtain⟨x,H7,I7,r7,y7,st7,fr7⟩:=z9;have I7':=I7.pinned (fpc fr7) (T.obj _ _ st7);refine BN (hg _ s7 σ5 H7 x u _ I7' r7 (step x H7 y7)) λ_ s8 ⟨σ8,H8,I8,q8⟩=>?_
   have again:∀{σ9:St} {H9:Hp} {s9:Shared},Inv (BP X scope cl N C s3 H3 fp) ([]++LS fp s7.heap) σ9 H9 s9->(∃m',m'<n/\W (i+1) m' σ9 H9)->∃m,m<n/\∃i σ' H',Inv (BP X scope cl N C s3 H3 fp) [] σ' H' s9/\tn i s9.heap/\(∀b∈fp,H' b=none)/\W i m σ' H':=λ{σ9 H9 s9} I9 n9=>by
    obtain⟨m',hm,w9⟩:=n9;refine⟨m',hm,i+1,σ9,H9,I9.unpinned,T.keep _ _ _ st7 λb hb o e=>(I9.pin (b,o) (aG _ (aG _ (GU hb e)))).1,λb hb=>?_,w9⟩;obtain⟨o,e,d⟩:=T.obj _ _ st7 b hb;exact(I9.pin (b,o) (aG _ (aG _ (GU hb e)))).2.1
   refine BN (ht _ s8 σ8 H8 _ I8 q8) λok s9 ⟨H9,I9,q9⟩=>?_
   cases ok with
   |false=>
    rw[ai ay] at q9 ⊢;exact again I9 q9
   |true=>
    rw[ak rfl] at q9 ⊢;refine BN (he _ s9 σ8 H9 _ I9 q9) λy sa ⟨vy,Ha,Ia,ry,qa⟩=>?_
    obtain⟨xs,hla,hsz,n9⟩:=qa;refine BN (Cw _ sa σ8 Ha (.ref l) [vy] (.ref l) [y] (λ_ Hb=>∃m',m'<n/\W (i+1) m' σ8 Hb) Ia rfl (.cons ry .nil) ⟨l,xs,vy,rfl,rfl,hla,hsz,n9⟩) λ_ sb ⟨_,Hb,Ib,_,qb⟩=>?_
    exact again Ib qb
 show codeAny (model X.prog X.w) X.A (.compStart (.ListComp elt [⟨tg,iter,ifs,0⟩] scope pos) 0 (.ref it) (.ref l) (compEnvC scope cl C X.env)) (compPost (model X.prog X.w) X.A X.xe use Qc (.ref l) C) { s2 with heap:=h₁,toks:=s2.toks+([]:List (Str×Value)).length };exact codeAny_compStart_list loop (T.self _ 0 _ _ _ st3 loop)
theorem Gw (N:List Str) (fr:List (Option Nat)) {elt tg iter:Expr} {ifs:List Expr} {scope:Scope} {pos:Pos} {wi:TI} {g:TG} {tt:TT} {te:TE} {cl:List (Str×Addr)}
  (hc:X.calm=true) (hi:PI X tg iter wi) (hchk:IB X.N X.env.scope scope N fr=true) (hclos:closureFor scope X.env=pure cl) (hcl:Rq X.env.cells cl) (hall:JQ cl scope.names)
  (hb:∀(C:Addr) (s:Shared) (H:Hp) (fp:List Addr),PG (BP X scope cl N C s H fp) tg g/\QI (BP X scope cl N C s H fp) ifs tt/\PE (BP X scope cl N C s H fp) elt te)
  (hs:∀x,foldedSetIterable iter X.env x=pure x:=by intro _;rfl) :
  PE X (.ListComp elt [⟨tg,iter,ifs,0⟩] scope pos) (Oc fr wi g tt te):=by
 intro pins s σ H Q I h;rw[eval_ListComp];refine Ob N fr hc hi hchk hclos hcl hall hb hs I h λl H' s' C I' fC ⟨m,hn⟩ q=>?_
 refine⟨m,hn,λh'' hs''=>⟨.ref l,H',?_,rfl,q⟩⟩;obtain⟨f0,f1,f2,f3,f4,f5⟩:=fC;exact I'.turned (t':=s'.toks) (λb o hb e=>(hs''.2 b hb).trans e) f0 f1 f3 f4 f5
theorem Sf (N:List Str) (fr:List (Option Nat)) {i:Nat} {x:Str} {elt tg iter:Expr} {ifs:List Expr} {scope:Scope} {cpos pos pos':Pos} {wi:TI} {g:TG} {tt:TT} {te:TE} {cl:List (Str×Addr)}
  (hN:X.N.Nodup) (hi':X.N[i]?=some x) (hx:Loc X.env.scope x)
  (hc:X.calm=true) (hi:PI X tg iter wi) (hchk:IB X.N X.env.scope scope N fr=true) (hclos:closureFor scope X.env=pure cl) (hcl:Rq X.env.cells cl) (hall:JQ cl scope.names)
  (hb:∀(C:Addr) (s:Shared) (H:Hp) (fp:List Addr),PG (BP X scope cl N C s H fp) tg g/\QI (BP X scope cl N C s H fp) ifs tt/\PE (BP X scope cl N C s H fp) elt te)
  (hs:∀x,foldedSetIterable iter X.env x=pure x:=by intro _;rfl)
  (hsw:swapsWith (.ListComp elt [⟨tg,iter,ifs,0⟩] scope cpos) (some (.Name x pos')) pos.line X.env=pure true:=by rfl)
  (hf:X.fn x=true\/X.env.scope.names.lookup x=some .local:=by first|exact .inl rfl|exact .inr rfl|assumption) :
  PS X (.Assign [.Name x pos'] (.ListComp elt [⟨tg,iter,ifs,0⟩] scope cpos) pos) (Ui (Oc fr wi g tt te) (AU i)):=by
 intro pins s σ H D I h;rw[exec_Assign_arm];refine ae (eV ?_);rw[show swapsWithSole [.Name x pos'] (.ListComp elt [⟨tg,iter,ifs,0⟩] scope cpos) pos.line X.env=pure true from hsw];refine ae (aB ?_);rw[ak rfl,arm_evalThenUse_ListComp];refine ae (ae ?_);have h1:Oc fr wi g tt te σ H λv H1=>D.nx (σ.set i (some v)) H1:=h
 refine Ob (use:=some _) N fr hc hi hchk hclos hcl hall hb hs I h1 λl H' s' C I' fC ⟨m,hn⟩ q=>?_
 obtain⟨f0,f1,f2,f3,f4,f5⟩:=fC;obtain⟨o,es,ep,ho,hd,hk,hm⟩:=hn;have Ip:Inv X (pins++[(C,o)]) σ H' s':=I'.pins_of λp hp=>(aK.mp hp).elim (λz=>I'.pin p (aG _ z)) λz=>by
  rw[ah.mp z];exact⟨ho,f0,f1,f2,λv e=>by rw[hd] at e;cases e⟩
 show wpAny _ _ (assignAll (.ref l) [assign (.Name x pos') X.env]) _ _ _;rw[assignAll.eq_2];refine wpAny_assign_Name (JW Ip hN hi' hx (v:=.ref l) rfl (λs2 I2=>?_) hf);have ho2:=(I2.pin (C,o) (aG _ (aG _ (List.mem_singleton_self _)))).1;refine⟨m,⟨o,es,ep,ho2,hd,hk,hm⟩,λh' hs'=>aB (aB ⟨_,H',?_,q⟩)⟩;exact I2.unpinned.turned (t':=s2.toks) (λb o hb e=>(hs'.2 b hb).trans e) f0 f1 f3 f4 f5
def JS (sc:Scope):Bool:=
 decide (sc.kind=.function)&&(sc.names.all λy=>!decide (y.2=.cell))&&(sc.names.all λy=>!decide (y.2=.local)||decide (sc.names.lookup y.1=some .local))&&(sc.names.all λy=>!decide (y.2=.free))
theorem Ge (N:List Str) {elt tg iter:Expr} {ifs:List Expr} {scope:Scope} {pos:Pos} {wi:TI} {g:TG} {tt:TT} {te:TE}
  (hc:X.calm=true) (hi:PI X tg iter wi) (hchk:JS scope=true)
  (hb:∀(C:Addr) (s:Shared) (H:Hp) (fp:List Addr),PG (BP X scope [] N C s H fp) tg g/\QI (BP X scope [] N C s H fp) ifs tt/\PE (BP X scope [] N C s H fp) elt te)
  (hs:∀x,foldedSetIterable iter X.env x=pure x:=by intro _;rfl) :
  PE X (.ListComp elt [⟨tg,iter,ifs,0⟩] scope pos) (Oc (N.map λ_=>none) wi g tt te):=by
 simp only[JS,Bool.and_eq_true,decide_eq_true_eq,List.all_eq_true,Bool.or_eq_true,Bool.not_eq_true',decide_eq_false_iff_not] at hchk;obtain⟨⟨⟨hkind,hcell⟩,hnames⟩,hfree⟩:=hchk;refine Gw (cl:=[]) N (N.map λ_=>none) hc hi ?_ (closureFor_none λx hx=>hfree x hx) trivial ?_ hb hs
 ·simp only[IB,Bool.and_eq_true,decide_eq_true_eq,List.all_eq_true,Bool.or_eq_true,Bool.not_eq_true',decide_eq_false_iff_not];refine⟨⟨⟨⟨⟨hkind,by simp⟩,hcell⟩,hnames⟩,λy hy=>.inl (hfree y hy)⟩,λp hp=>?_⟩;have:p.2∈N.map λ_=>(none:Option Nat):=(dE hp).2
  obtain⟨_,_,e⟩:=aj.mp this;rw[<-e]
 ·have:∀ns:List (Str×NameKind),(∀y∈ns,y.2≠.free)->JQ [] ns:=by
   intro ns
   induction ns with
   |nil=>intro _;exact trivial
   |cons p r ih=>intro h;exact⟨λe=>absurd e (h p aw),ih λy hy=>h y (ao _ hy)⟩
  exact this _ λy hy=>hfree y hy
theorem Pq (N:List Str) {i:Nat} {x:Str} {elt tg iter:Expr} {ifs:List Expr} {scope:Scope} {cpos pos pos':Pos} {wi:TI} {g:TG} {tt:TT} {te:TE}
  (hN:X.N.Nodup) (hi':X.N[i]?=some x) (hx:Loc X.env.scope x)
  (hc:X.calm=true) (hi:PI X tg iter wi) (hchk:JS scope=true)
  (hb:∀(C:Addr) (s:Shared) (H:Hp) (fp:List Addr),PG (BP X scope [] N C s H fp) tg g/\QI (BP X scope [] N C s H fp) ifs tt/\PE (BP X scope [] N C s H fp) elt te)
  (hs:∀x,foldedSetIterable iter X.env x=pure x:=by intro _;rfl)
  (hsw:swapsWith (.ListComp elt [⟨tg,iter,ifs,0⟩] scope cpos) (some (.Name x pos')) pos.line X.env=pure true:=by rfl)
  (hf:X.fn x=true\/X.env.scope.names.lookup x=some .local:=by first|exact .inl rfl|exact .inr rfl|assumption) :
  PS X (.Assign [.Name x pos'] (.ListComp elt [⟨tg,iter,ifs,0⟩] scope cpos) pos) (Ui (Oc (N.map λ_=>none) wi g tt te) (AU i)):=by
 simp only[JS,Bool.and_eq_true,decide_eq_true_eq,List.all_eq_true,Bool.or_eq_true,Bool.not_eq_true',decide_eq_false_iff_not] at hchk;obtain⟨⟨⟨hkind,hcell⟩,hnames⟩,hfree⟩:=hchk;refine Sf (cl:=[]) N (N.map λ_=>none) hN hi' hx hc hi ?_ (closureFor_none λx hx=>hfree x hx) trivial ?_ hb hs hsw hf
 ·simp only[IB,Bool.and_eq_true,decide_eq_true_eq,List.all_eq_true,Bool.or_eq_true,Bool.not_eq_true',decide_eq_false_iff_not];refine⟨⟨⟨⟨⟨hkind,by simp⟩,hcell⟩,hnames⟩,λy hy=>.inl (hfree y hy)⟩,λp hp=>?_⟩;have:p.2∈N.map λ_=>(none:Option Nat):=(dE hp).2
  obtain⟨_,_,e⟩:=aj.mp this;rw[<-e]
 ·have:∀ns:List (Str×NameKind),(∀y∈ns,y.2≠.free)->JQ [] ns:=by
   intro ns
   induction ns with
   |nil=>intro _;exact trivial
   |cons p r ih=>intro h;exact⟨λe=>absurd e (h p aw),ih λy hy=>h y (ao _ hy)⟩
  exact this _ λy hy=>hfree y hy
end
def Def (P:Program)(w:World)(K:PySem.W.Frag)(mg:Str->Option Value)(base:Heap)(k:Nat)(x:Str)(ps:List Str)(sp:Sp):Prop:=
 ∃(f:Addr) (fd:FuncData),FnOk P w K mg base Ef k f fd ps sp/\mg x=some (.ref f)/\PySem.W.keepIn K (.ref f)=true/\Binds K fd ps []
section
variable {X:Cx}{k:Nat}{x:Str}{ps:List Str}{sp:Sp}{e:Expr}{es:List Expr}{t:TA}{p pos:Pos}
theorem AH (D:Def X.prog X.w X.K X.mg X.base k x ps sp) (hr:Room k X.A) (hg:Gl X x) (ha:PA X (e::es) t)
  (hdb:(x == ("__debug__":Str))=false:=by decide) (he:starEach (e::es) X.env=(false,eval e X.env)::starEach es X.env:=by rfl) (hpl:(backTo pos (starEach es X.env)).any (·.1)=false:=by rfl) :
  PE X (.Call (.Name x p) (e::es) [] pos) (Mu sp [] E0 t):=by
 obtain⟨f,fd,F,hm,hk,hb⟩:=D;exact RU F hr hg hm hk hb .nil TR ha hdb he hpl
end
section
variable {X:Cx}
theorem Cd {x:Str}{i:Int}{pos:Pos}(hg:Gl X x)(hm:∃t,X.mg x=some (.int i t))(hd:(x == ("__debug__":Str))=false:=by decide):PE X (.Name x pos) (tC (.int i)):=by
 obtain⟨t,hm⟩:=hm;exact OS hg hm ⟨_,rfl⟩ hd
theorem Gf {x:Str}{T:String}{pos:Pos}(hg:Gl X x)(hm:X.mg x=none)(hv:bootBuiltins x=some (.type T))(hn:x≠"__name__":=by decide)(hd:(x == ("__debug__":Str))=false:=by decide):PE X (.Name x pos) (tC (.ty T)):=V0 hg hm hv rfl hn hd
theorem Qd {x z:Str}{pos:Pos}(hg:Gl X x)(hm:∃t,X.mg x=some (.str z t))(hd:(x == ("__debug__":Str))=false:=by decide):PE X (.Name x pos) (tC (.str z)):=by
 obtain⟨t,hm⟩:=hm;exact OS hg hm ⟨_,rfl⟩ hd
end
theorem AF:bootBuiltins "isinstance"=some (.builtin "isinstance"):=by decide +kernel
theorem KD:bootBuiltins "all"=some (.builtin "all"):=by decide +kernel
theorem NO:bootBuiltins "sorted"=some (.builtin "sorted"):=by decide +kernel
theorem CO:bootBuiltins "len"=some (.builtin "len"):=by decide +kernel
theorem Ry:bootBuiltins "int"=some (.type "int"):=by decide +kernel
theorem UO:bootBuiltins "str"=some (.type "str"):=by decide +kernel
theorem Sm:bootBuiltins "list"=some (.type "list"):=by decide +kernel
theorem Uo:bootBuiltins "tuple"=some (.type "tuple"):=by decide +kernel
theorem CD:bootBuiltins "dict"=some (.type "dict"):=by decide +kernel
theorem MH {t c:String}{b:Bool}(h:(if(Value.type t == Value.type c)=true then some true else if PySem.W.kitMeta c=true then(fastBuiltinMro t).map (·.contains (.type c)) else none)=some b)(K:PySem.W.Frag) :
  PySem.W.kitOne K (.type t) (.type c)=some b:=h
theorem M3 (K:PySem.W.Frag):PySem.W.kitOne K (.type "list") (.type "list")=some true:=MH (by decide +kernel) K
section
variable {X:Cx}
def Yu (K:PySem.W.Frag):List V->Hp->VK->Prop:=λxs H Q=>∃x c t b,xs=[x,.ty c]/\TyOf K H x t/\PySem.W.kitOne K t (.type c)=some b/\Q (.bl b) H
theorem Bv:EV X (.builtin "isinstance") (Yu X.K):=by
 intro pins s σ H xs us Q I r h;obtain⟨x,c,t,b,rfl,ty,e,q⟩:=h;obtain⟨u,v,rfl,ru,rv⟩:=vals2 r;have ev:v=Value.type c:=rv;subst ev;exact Tc I ru ty e λtk=>⟨.bl b,H,I.tok _,rfl,q⟩
end
def ET:V->Bool
 | .non=>true
 | .int _=>true
 | .str _=>true
 |_=>false
theorem Iy {x:V}(h:ET x=true):Er x=true:=by
 cases x<;>first|rfl|exact h
theorem pure_eq {x y:V}(hx:ET x=true)(hy:ET y=true):Ko x y=decide (x=y):=by
 cases x<;>first|exact absurd (show false=true from hx) ay|skip
 all_goals (cases y<;>first|exact absurd (show false=true from hy) ay|skip)
 ·rfl
 ·rfl
 ·rfl
 ·rfl
 ·exact OV.symm
 ·rfl
 ·rfl
 ·rfl
 ·exact Gq.symm
theorem IV:∀(xs ys:List V),xs.length=ys.length->xs.all ET=true->ys.all ET=true->
  ((List.range xs.length).all λi=>Ko (xs.getD i .non) (ys.getD i .non))=decide (xs=ys):=by
 intro xs
 induction xs with
 |nil=>
  intro ys hl _ _;cases ys with
  |nil=>rfl
  |cons _ _=>simp at hl
 |cons x xs ih=>
  intro ys hl hx hy;cases ys with
  |nil=>simp at hl
  |cons y ys=>
   rw[dA,aQ] at hx hy;have q:=ih ys (by simpa using hl) hx.2 hy.2;rw[aS,g9,dA,cB];have e0:((λi=>Ko ((x::xs).getD i .non) ((y::ys).getD i .non))∘Nat.succ)=λi=>Ko (xs.getD i .non) (ys.getD i .non):=by
    funext i;simp
   rw[e0,q];show(Ko x y&&decide (xs=ys))=_;rw[pure_eq hx.1 hy.1]
   by_cases h1:x=y
   ·by_cases h2:xs=ys<;>simp[h1,h2]
   ·simp[h1]
theorem LB {xs:List V}{us:List Value}(r:A5 xs us){j:Nat}(hj:j<us.length):∃x,xs[j]?=some x/\RelV x us[j]:=by
 have hl:=r.length;obtain⟨u,e1,e2⟩:=r.get (i:=j) (x:=xs[j]'(by omega)) (by simp[show j<xs.length by omega]);refine⟨xs[j]'(by omega),by simp[show j<xs.length by omega],?_⟩;rw[aC hj] at e1;cases e1;exact e2
section
variable {X:Cx}
theorem T7 {A:Around} {s:Shared} {a b:Addr} {xs ys:List V} {its its2:List Value} (hu:A.units<cLine) (r1:A5 xs its) (r2:A5 ys its2) (h1:s.heap.IsList a its.toArray) (h2:s.heap.IsList b its2.toArray)
  (f1:xs.all ET=true) (f2:ys.all ET=true):SeqAt.RcAt A s (.ref a) (.ref b) (decide (xs=ys)):=by
 have l1:=r1.length;have l2:=r2.length
 by_cases hl:xs.length=ys.length
 ·have q:=SeqAt.RcAt.lists (A:=A) (s:=s) (e:=λi=>Ko (xs.getD i .non) (ys.getD i .non)) h1 h2 (by simp;omega) hu (λj g1 g2=>by
   have g1':j<its.length:=by simpa using g1
   have g2':j<its2.length:=by simpa using g2
   obtain⟨x,e1,rx⟩:=LB r1 g1';obtain⟨y,e2,ry⟩:=LB r2 g2';have p1:ET x=true:=a5.mp f1 x (aN e1);have p2:ET y=true:=a5.mp f2 y (aN e2);have:=Jm (A:=A.in1) (s:=s) rx ry (Iy p1) (Iy p2);simpa [List.getD,e1,e2] using this)
  have e:(its.toArray.size)=xs.length:=by simp;omega
  rw[e,IV xs ys hl f1 f2] at q;exact q
 ·have e:decide (xs=ys)=false:=aq λz=>hl (by rw[z])
  rw[e];exact SeqAt.RcAt.lists_lengths h1 h2 (by simp;omega) hu
def Yw (K:PySem.W.Frag)(neg:Bool):R2:=λx y H Q=>∃a b xs ys,x=.ref a/\y=.ref b/\AV K H a xs/\AV K H b ys/\xs.all ET=true/\ys.all ET=true/\Q (.bl (if neg then !decide (xs=ys) else decide (xs=ys))) H
theorem Uq (hu:X.A.units+1<cLine):IL X (compareOp .Eq) (Yw X.K false):=by
 intro pins s σ H x y v u Q I rx ry h;obtain⟨a,b,xs,ys,rfl,rfl,h1,h2,f1,f2,q⟩:=h;cases rx;cases ry;obtain⟨its,r1,p1,_⟩:=I.list h1;obtain⟨its2,r2,p2,_⟩:=I.list h2;exact T7 (by omega) r1 r2 p1.isList p2.isList f1 f2 _ _ _ _ ⟨.bl _,H,I,rfl,q⟩
theorem Rk {A:Around} {s:Shared} {a b:Addr} {xs ys:List V} {its its2:List Value} (hu:A.units<cLine) (r1:A5 xs its) (r2:A5 ys its2) (h1:s.heap.IsList a its.toArray) (h2:s.heap.IsList b its2.toArray)
  (f1:xs.all ET=true) (f2:ys.all ET=true):SeqAt.RcNeAt A s (.ref a) (.ref b) (!decide (xs=ys)):=by
 have l1:=r1.length;have l2:=r2.length
 by_cases hl:xs.length=ys.length
 ·have q:=SeqAt.RcNeAt.lists (A:=A) (s:=s) (e:=λi=>Ko (xs.getD i .non) (ys.getD i .non)) h1 h2 (by simp;omega) hu (λj g1 g2=>by
   have g1':j<its.length:=by simpa using g1
   have g2':j<its2.length:=by simpa using g2
   obtain⟨x,e1,rx⟩:=LB r1 g1';obtain⟨y,e2,ry⟩:=LB r2 g2';have p1:ET x=true:=a5.mp f1 x (aN e1);have p2:ET y=true:=a5.mp f2 y (aN e2);have:=Jm (A:=A.in1) (s:=s) rx ry (Iy p1) (Iy p2);simpa [List.getD,e1,e2] using this)
  have e:(its.toArray.size)=xs.length:=by simp;omega
  rw[e,IV xs ys hl f1 f2] at q;exact q
 ·have e:decide (xs=ys)=false:=aq λz=>hl (by rw[z])
  rw[e];exact SeqAt.RcNeAt.lists_lengths h1 h2 (by simp;omega) hu
theorem UJ (hu:X.A.units+1<cLine):IL X (compareOp .NotEq) (Yw X.K true):=by
 intro pins s σ H x y v u Q I rx ry h;obtain⟨a,b,xs,ys,rfl,rfl,h1,h2,f1,f2,q⟩:=h;cases rx;cases ry;obtain⟨its,r1,p1,_⟩:=I.list h1;obtain⟨its2,r2,p2,_⟩:=I.list h2;exact Rk (by omega) r1 r2 p1.isList p2.isList f1 f2 _ _ _ _ ⟨.bl _,H,I,rfl,q⟩
end
theorem La:∀{bs:List Bool} {us:List Value},A5 (bs.map V.bl) us->LSm.BoolsAre us bs
 |[],_,.nil=>.nil
 |b::bs,_,.cons r t=>by
  have e:_=Value.bool b:=r;subst e;exact .cons b (La t)
section
variable {prog:Program}{w:World}{A:Around}{E:Value->Shared->Prop}{s:Shared}{l:Addr}{vs:List Value}
theorem U5 {bs:List Bool} {Q:Value->Shared->Prop} (hh:A.handled=none) (hl:s.heap.IsList l vs.toArray) (hb:LSm.BoolsAre vs bs)
  (h:∀h' tk,(∀b o,s.heap.get? b=some o->h'.get? b=some o)->Q (.bool (bs.all id)) { s with heap:=h',toks:=tk }):wpAny (model prog w) A (call (.builtin "all") [.ref l]) Q E s:=by
 have below:l<s.heap.objs.size:=(λ⟨_,e,_⟩=>aL e:s.heap.IsList l vs.toArray->_) hl;have whole:((List.range vs.toArray.size).all λi=>(bs[i]?).getD true)=bs.all id:=by rw[aP,hb.length,LSm.range_all]
 exact call_all_walk (eQ hl ⟨s.heap.objs.size,[s.heap.objs.size,l],[s.heap.objs.size],vs.toArray.size,_,_,λi=>(bs[i]?).getD true,rfl,Walks.list (A:=A.in1) hh _ l (a4 below) vs.toArray,⟨⟨_,aH _ rfl,rfl,rfl⟩,hl.push _⟩,
  (λi v s' Q' E' hP hQ=>by
   obtain⟨b,hg,hv⟩:=hb.get i v (by simpa using hP);have hQ':Q' b s':=by simpa [hg] using hQ
   subst hv;exact cD hQ'),
  λh' tk hk=>whole▸h h' tk (LSm.kept_iter hk)⟩)
end
section
variable {X:Cx}
theorem Gg (hc:X.calm=true):EV X (.builtin "all") (λxs H Q=>∃(a:Addr) (bs:List Bool),xs=[.ref a]/\AV X.K H a (bs.map V.bl)/\Q (.bl (bs.all id)) H):=by
 intro pins s σ H xs us Q I r h;obtain⟨a,bs,rfl,h1,q⟩:=h;obtain⟨u,rfl,ru⟩:=vals1 r;cases ru;obtain⟨its,r1,p1,_⟩:=I.list h1;exact U5 (I.ok.hd hc) p1.isList (La r1) λh' tk hk=>⟨.bl _,H,I.kept hk,rfl,q⟩
def YA (K:PySem.W.Frag):R2:=λx y H Q=>∃l b xs zs,x=.ref l/\y=.ref b/\AV K H l xs/\AV K H b zs/\xs.length+zs.length<=sizeLine/\∀p,H p=none->Q (.ref p) (upd H p (.lst (xs++zs)))
theorem LH:IL X (binaryOp .Add) (YA X.K):=by
 intro pins s σ H x y v u Q I rx ry h;obtain⟨l,b,xs,zs,rfl,rfl,h1,h2,hz,q⟩:=h;cases rx;cases ry;obtain⟨its,r,p1,_⟩:=I.list h1;obtain⟨its2,r2,p2,_⟩:=I.list h2;have l1:=r.length;have l2:=r2.length;obtain⟨⟨cls,dd,data,sl⟩,ho,hc,n,hd⟩:=id p1.isList;obtain⟨⟨cls2,dd2,data2,sl2⟩,ho2,hc2,n2,hd2⟩:=id p2.isList;simp only at hc hd hc2 hd2;subst hc hd hc2 hd2;have e:its.toArray++its2.toArray=(its++its2).toArray:=by simp
 refine gr ⟨_,ho,rfl⟩ ⟨_,ho2,rfl⟩ noFill_list_add seq_list_add PySem.F.slot_list_add PySem.F.entry_list_add (PySem.F.args_list_add_2 _ _) (list_addW l b its.toArray its2.toArray n n2 dd dd2 sl sl2 (by rw[aP,aP];omega)) ⟨ho,ho2,?_⟩;rw[e];exact⟨.ref _,_,I.lnew (t':=s.toks) (r.append r2) (by rw[ar];omega),rfl,q _ I.fresh⟩
end
theorem Ae {H:Hp}{p:Addr}(h:H p=none)(o:HO):Aw H (upd H p o):=λb u q=>by rw[Ak (Cr q h)];exact q
theorem Cu {H H':Hp}{p:Addr}(s:Aw H H')(h:H p=none)(o:HO):Aw H (upd H' p o):=λb u q=>by rw[Ak (Cr q h)];exact s b u q
theorem Aw.get {H H':Hp}{a:Addr}{o:HO}(s:Aw H H')(h:H a=some o):H' a=some o:=s a o h
theorem Gr:1000000<=sizeLine:=by decide
theorem small {n:Nat}(h:n<=1000000):n<=sizeLine:=aX h Gr
theorem By {n:Nat}(h:n<1000000):n<sizeLine:=aW h Gr
theorem LW {ns:List Int}{i:Int}(h0:0<=i)(h1:i<ns.length):KY (ns.map V.int) i=some (.int (ns.getD i.toNat 0)):=by
 have hk:i.toNat<ns.length:=by omega
 have ek:i=((i.toNat:Nat):Int):=by omega
 have q:KY (ns.map V.int) ((i.toNat:Nat):Int)=some (.int (ns.getD i.toNat 0)):=Ah (by rw[aD,aC hk];simp[List.getD,List.getElem?_eq_getElem hk]);rw[<-ek] at q;exact q
theorem U1 {xs:List V}{i:Int}(h:0<=i):IK xs (some i) none=xs.drop i.toNat:=by
 unfold IK;rw[show i=((i.toNat:Nat):Int) by omega,HT.RF,HT.Qb,di]
 by_cases hl:i.toNat<=xs.length
 ·rw[Nat.min_eq_left hl,aY (by rw[bF];exact au _)]
 ·rw[Nat.min_eq_right (by omega),dh (au _),dh (by omega),List.take_nil]
theorem QM {xs:List V}{j:Int}(h:0<=j):IK xs none (some j)=xs.take j.toNat:=by
 unfold IK;rw[show j=((j.toNat:Nat):Int) by omega,HT.RF,HT.Qb,di,fk,eK]
 by_cases hl:j.toNat<=xs.length
 ·rw[Nat.min_eq_left hl]
 ·rw[Nat.min_eq_right (by omega),aY (au _),aY (by omega)]
theorem Uk (ns:List Int)(lo hi:Option Int):∃ms:List Int,IK (ns.map V.int) lo hi=ms.map V.int/\ms.length<=ns.length/\∀x∈ms,x∈ns:=by
 refine⟨(ns.drop (HT.DE (ns.map V.int).length 0 lo)).take (HT.DE (ns.map V.int).length (ns.map V.int).length hi-HT.DE (ns.map V.int).length 0 lo),?_,?_,λx hx=>cP (bA hx)⟩
 ·unfold IK;rw[cY,fB]
 ·rw[a8,bF];omega
theorem As {c:Bool}{A B:Prop}(h:c=false)(b:B):if c=true then A else B:=by
 subst h;rw[ai ay];exact b
theorem AG {c:Bool}{A B:Prop}(h:c=true)(b:A):if c=true then A else B:=by
 subst h;rw[ak rfl];exact b
theorem dec_true {c:Prop}[Decidable c](h:decide c=true):c:=aE h
theorem dec_false {c:Prop}[Decidable c](h:¬decide c=true):¬c:=λz=>h (av z)
def JP (J:It)(H:Hp)(xs:List V):Prop:=∀H',Aw H H'->∀i:Nat,(i<xs.length->J.go i H')/\(∀x H'',J.yld i H' x H''->H''=H'/\(i<xs.length->xs[i]?=some x))/\(xs.length<=i->J.stop i H')
theorem E9 {K:PySem.W.Frag}{a:Addr}{H:Hp}{xs:List V}(h:AV K H a xs):JP (X4 K a) H xs:=λH' s i=>
 ⟨λhi=>⟨xs,xs[i],s.seq h,by simp[hi]⟩,λx H'' y=>⟨y.1,λ_=>y.2 xs (s.seq h)⟩,λhi=>⟨xs,s.seq h,hi⟩⟩
theorem QA {lo:Int}{n:Nat}{H:Hp}:JP (Xe lo n) H ((List.range n).map λ(i:Nat)=>V.int (lo+(i:Int))):=λH' s i=>
 ⟨λhi=>(by simpa using hi:i<n),λx H'' y=>⟨y.1,λhi=>by
  have hi':i<n:=by simpa using hi
  rw[aD,List.getElem?_range hi',y.2];rfl⟩,λhi=>(by simpa using hi:n<=i)⟩
theorem comp_map {J:It} {xs:List V} {fr:List (Option Nat)} {k:Nat} {te:TE} {Q:VK} {σ:St} {H:Hp} (f:V->V) (hJ:JP J H xs) (hn:xs.length<=1000000)
  (helt:∀(x:V) (H':Hp) (R:VK),x∈xs->Aw H H'->(∀H'',Aw H' H''->R (f x) H'')->te ((stC fr σ).set k (some x)) H' R)
  (hQ:∀l H',H l=none->Aw H H'->H' l=some (.lst (xs.map f))->Q (.ref l) H') :
  Je fr (AU k) VS te σ Q J H:=by
 intro l hl;refine⟨λi m σ' H'=>m=xs.length-i/\i<=xs.length/\(∀y,σ'.set k y=(stC fr σ).set k y)/\Aw H H'/\H' l=some (.lst ((xs.take i).map f)),⟨xs.length,by simp,a6 _,λ_=>rfl,Ae hl _,by rw[Ac,fc,cT]⟩,?_⟩
 rintro i m σ' H' ⟨rfl,hi,hσ,hs,hl'⟩
 obtain⟨h1,h2,h3⟩:=hJ H' hs i
 by_cases hlt:i<xs.length
 ·refine .inr ⟨h1 hlt,λx H'' y=>?_⟩;obtain⟨rfl,hx⟩:=h2 x H'' y;have hx:=hx hlt;show te (σ'.set k (some x)) H'' _;rw[hσ];refine helt x H'' _ (aN hx) hs λH4 s4=>?_
  refine⟨_,s4.get hl',By (by rw[aa,a8];omega),xs.length-(i+1),by omega,rfl,hlt,λy=>by rw[fM],Cu (hs.trans s4) hl _,?_⟩;rw[Ac,bG,hx];simp
 ·have e:i=xs.length:=by omega
  subst e;exact .inl ⟨h3 (au _),hQ l H' hl hs (by rw[hl',aY (au _)])⟩
section
variable {X:Cx}{K:PySem.W.Frag}
theorem TZ (h:X.K=K):X7 X (YJ K):=by subst h;exact AI
theorem RN (h:X.K=K):X7 X (Yi K):=by subst h;exact Ar
theorem O8 (h:X.K=K):EV X (.builtin "isinstance") (Yu K):=by subst h;exact Bv
end
def Ok (H:Hp):V->Prop
 | .non=>True
 | .bl _=>True
 | .int _=>True
 | .str z=>z.length<=1000
 | .ref a=>(∃xs,H a=some (.lst xs))\/∃xs,H a=some (.tup xs)
 |_=>False
def LF (H:Hp):V->String
 | .non=>"NoneType"
 | .bl _=>"bool"
 | .int _=>"int"
 | .str _=>"str"
 | .ref a=>match H a with
  |some (.lst _)=>"list"
  |some (.tup _)=>"tuple"
  |_=>"?"
 |_=>"?"
theorem Ok.ty {H:Hp}{v:V}(h:Ok H v)(K:PySem.W.Frag):TyOf K H v (.type (LF H v)):=by
 cases v with
 |non=>exact .non
 |bl b=>exact .bl b
 |int i=>exact .int i
 |str z=>exact .str z
 |ref a=>
  rcases h with⟨xs,e⟩|⟨xs,e⟩
  ·have q:LF H (.ref a)="list":=by simp only[LF,e]
   rw[q];exact .lst e
  ·have q:LF H (.ref a)="tuple":=by simp only[LF,e]
   rw[q];exact .tup e
 |_=>exact h.elim
def isA (t c:String):Bool:=t == c||(t == "bool"&&c == "int")
theorem WG {t c:String}(K:PySem.W.Frag)(ht:t∈["NoneType","bool","int","str","list","tuple"])(hc:c∈["bool","int","str","list","tuple"]):PySem.W.kitOne K (.type t) (.type c)=some (isA t c):=by
 have all:∀t∈["NoneType","bool","int","str","list","tuple"],∀c∈["bool","int","str","list","tuple"],(if(Value.type t == Value.type c)=true then some true else if PySem.W.kitMeta c=true then(fastBuiltinMro t).map (·.contains (.type c)) else none)=some (isA t c):=by decide +kernel
 exact MH (all t ht c hc) K
theorem Ok.tyMem {H:Hp}{v:V}(h:Ok H v):LF H v∈["NoneType","bool","int","str","list","tuple"]:=by
 cases v with
 |ref a=>
  rcases h with⟨xs,e⟩|⟨xs,e⟩
  ·simp only[LF,e];decide
  ·simp only[LF,e];decide
 |byt _=>exact h.elim
 |flt _=>exact h.elim
 |ty _=>exact h.elim
 |_=>simp only[LF];decide
theorem Ok.kit {H:Hp}{v:V}(h:Ok H v)(K:PySem.W.Frag){c:String}(hc:c∈["bool","int","str","list","tuple"]:=by decide):PySem.W.kitOne K (.type (LF H v)) (.type c)=some (isA (LF H v) c):=WG K h.tyMem hc
theorem V4 {H:Hp}{a:Addr}{xs:List V}(e:H a=some (.lst xs)):LF H (.ref a)="list":=by simp only[LF,e]
theorem WC {H:Hp}{a:Addr}{xs:List V}(e:H a=some (.tup xs)):LF H (.ref a)="tuple":=by simp only[LF,e]
theorem Ok.elim {H:Hp} {v:V} (ok:Ok H v) {C:Prop} (c1:v=.non->LF H v="NoneType"->C) (c2:∀b,v=.bl b->LF H v="bool"->C) (c3:∀i,v=.int i->LF H v="int"->C) (c4:∀z,v=.str z->z.length<=1000->LF H v="str"->C)
  (c5:∀a xs,v=.ref a->H a=some (.lst xs)->LF H v="list"->C) (c6:∀a xs,v=.ref a->H a=some (.tup xs)->LF H v="tuple"->C):C:=by
 cases v with
 |non=>exact c1 rfl rfl
 |bl b=>exact c2 b rfl rfl
 |int i=>exact c3 i rfl rfl
 |str z=>exact c4 z rfl ok rfl
 |ref a=>
  rcases ok with⟨xs,e⟩|⟨xs,e⟩
  ·exact c5 a xs rfl e (V4 e)
  ·exact c6 a xs rfl e (WC e)
 |_=>exact(show False from ok).elim
theorem XR {H:Hp}{v:V}(ok:Ok H v)(h:isA (LF H v) "str"=true):∃z,v=.str z/\z.length<=1000:=by
 refine ok.elim (λ_ e=>?_) (λ_ _ e=>?_) (λ_ _ e=>?_) (λz e1 e2 _=>⟨z,e1,e2⟩) (λ_ _ _ _ e=>?_) (λ_ _ _ _ e=>?_)
 all_goals (rw[e] at h;exact absurd h (by decide))
def YX (x:Str):It:=⟨λi _=>i<x.cps.size,λi H v H'=>H'=H/\∃c,x.cps[i]?=some c/\v=.str ⟨#[c]⟩,λi _=>x.cps.size<=i⟩
theorem Rh {P:Program}{w:World}{K:PySem.W.Frag}{tg:Expr}(it:Addr)(x:Str)(t:Tok):Turn P w K tg (YX x) [it] it (λi h=>h.IsStrIter it "str_ascii_iterator" x t i) where
 mem:=by simp
 obj:=λi h st b hb=>by
  have e:b=it:=by simpa using hb
  subst e;obtain⟨o,e,c,d⟩:=st;exact⟨o,e,λv z=>by rw[d] at z;cases z⟩
 keep:=λi h h' st k=>by
  obtain⟨o,e,c,d⟩:=st;exact⟨o,k it (by simp) o e,c,d⟩
 item:=by
  intro X hP hw hK hc i pins s σ H E I hf st hg;subst hP hw hK;have hg':i<x.cps.size:=hg;obtain⟨f0,f1,f2,f3,f4,f5⟩:=hf it (by simp);refine wpAny_pyNext_ascii_item st (c:=x.cps[i]) (by simp[hg']) λh' st' sb=>?_
  have I1:Inv X pins σ H { s with heap:=h',toks:=s.toks+1 }:=I.turned (λb o hb e=>(sb.2 b hb).trans e) f0 f1 f3 f4 f5;obtain⟨o,e,c,d⟩:=id st';exact⟨_,rfl,Mh (s:={ s with heap:=h',toks:=s.toks+1 }) e c d (by decide) ⟨.str ⟨#[x.cps[i]]⟩,H,I1,⟨_,rfl⟩,⟨rfl,_,by simp[hg'],rfl⟩,st',λb hb=>(hf b hb).1⟩⟩
 done:=by
  intro X hP hw hK hc i pins s σ H E I hf st hg;subst hP hw hK;have hg':x.cps.size<=i:=hg;obtain⟨f0,f1,f2,f3,f4,f5⟩:=hf it (by simp);exact wpAny_pyNext_ascii_end (I.ok.hd hc) st (by simp[hg']) λh' eb=>⟨rfl,I.turned (t':=s.toks) (λb o hb e=>eb b o hb e) f0 f1 f3 f4 f5⟩
 self:=λ_ _ _ _ _ st h=>wpAny_pyIter_striter_ascii st h
theorem Ta {P:Program}{w:World}{K:PySem.W.Frag}{tg:Expr}(it:Addr)(x:Str)(t:Tok):Turn P w K tg (YX x) [it] it (λi h=>h.IsStrIter it "str_iterator" x t i) where
 mem:=by simp
 obj:=λi h st b hb=>by
  have e:b=it:=by simpa using hb
  subst e;obtain⟨o,e,c,d⟩:=st;exact⟨o,e,λv z=>by rw[d] at z;cases z⟩
 keep:=λi h h' st k=>by
  obtain⟨o,e,c,d⟩:=st;exact⟨o,k it (by simp) o e,c,d⟩
 item:=by
  intro X hP hw hK hc i pins s σ H E I hf st hg;subst hP hw hK;have hg':i<x.cps.size:=hg;obtain⟨f0,f1,f2,f3,f4,f5⟩:=hf it (by simp);refine wpAny_pyNext_wide_item st (c:=x.cps[i]) (by simp[hg']) λh' st' sb=>?_
  have I1:Inv X pins σ H { s with heap:=h',toks:=s.toks+1 }:=I.turned (λb o hb e=>(sb.2 b hb).trans e) f0 f1 f3 f4 f5;obtain⟨o,e,c,d⟩:=id st';exact⟨_,rfl,Mh (s:={ s with heap:=h',toks:=s.toks+1 }) e c d (by decide) ⟨.str ⟨#[x.cps[i]]⟩,H,I1,⟨_,rfl⟩,⟨rfl,_,by simp[hg'],rfl⟩,st',λb hb=>(hf b hb).1⟩⟩
 done:=by
  intro X hP hw hK hc i pins s σ H E I hf st hg;subst hP hw hK;have hg':x.cps.size<=i:=hg;obtain⟨f0,f1,f2,f3,f4,f5⟩:=hf it (by simp);exact wpAny_pyNext_wide_end (I.ok.hd hc) st (by simp[hg']) λh' eb=>⟨rfl,I.turned (t':=s.toks) (λb o hb e=>eb b o hb e) f0 f1 f3 f4 f5⟩
 self:=λ_ _ _ _ _ st h=>wpAny_pyIter_striter_wide st h
section
variable {X:Cx}{tg:Expr}
def Zt (tl:TE):TI:=λσ H R=>tl σ H λx H1=>∃z,x=.str z/\R (YX z) H1
theorem Q3 {l:Expr}{tl:TE}(hl:PE X l tl):PI X tg l (Zt tl):=by
 intro pins s σ H R I h;refine BN (hl pins s σ H _ I h) λv s1 ⟨x,H1,I1,r1,q1⟩=>?_
 obtain⟨z,e,q⟩:=q1;subst e;obtain⟨t,rfl⟩:=r1;have fp:∀b∈[s1.heap.objs.size],Ng X pins H1 b:=λb hb=>by
  have e:b=s1.heap.objs.size:=by simpa using hb
  subst e;exact I1.fpOk (au _) (I1.hok.fresh (au _))
 cases ha:z.cps.all (· < 128)
 ·exact wpAny_pyIter_wide ha ⟨s1.heap.objs.size,[s1.heap.objs.size],_,_,H1,rfl,I1.kept (t':=s1.toks) (λb o e=>af _ e),Ta _ z t,⟨_,aH _ rfl,rfl,rfl⟩,fp,q⟩
 ·exact wpAny_pyIter_ascii ha ⟨s1.heap.objs.size,[s1.heap.objs.size],_,_,H1,rfl,I1.kept (t':=s1.toks) (λb o e=>af _ e),Rh _ z t,⟨_,aH _ rfl,rfl,rfl⟩,fp,q⟩
end
theorem Mm {x:Str}{H:Hp}:JP (YX x) H (x.cps.toList.map λc=>V.str ⟨#[c]⟩):=λH' s i=>
 ⟨λhi=>(by simpa using hi:i<x.cps.size),λv H'' y=>⟨y.1,λhi=>by
  obtain⟨_,c,hc,e⟩:=y;rw[aD,fb,hc,e];rfl⟩,λhi=>(by simpa using hi:x.cps.size<=i)⟩
section
variable {X:Cx}
def ZG:V->Option Int->Option Int->Hp->VK->Prop:=λx lo hi H Q=>∃z:Str,x=.str z/\z.length<=sizeLine/\Q (.str (PySem.Txt.slice z lo hi)) H
theorem GZ:Y3 X ZG:=by
 intro pins s σ H x v vl vu lo hi sl Q I rx hs pl pu h;obtain⟨z,rfl,hz,q⟩:=h;obtain⟨t,rfl⟩:=rx;refine⟨"str",_,slot_str_getitem.lookup,fV _ _ _,?_⟩;cases pl with
 |none=>
  cases pu with
  |none=>exact dv (l:=none) (u:=none) (st:=none) hs rfl (fA ⟨aX (bu z _ _) hz,λt' k=>⟨.str _,H,I.tok k,⟨_,rfl⟩,q⟩⟩)
  |int j tj=>exact dv (l:=none) (u:=some (j,tj)) (st:=none) hs rfl (fA ⟨aX (bu z _ _) hz,λt' k=>⟨.str _,H,I.tok k,⟨_,rfl⟩,q⟩⟩)
 |int i ti=>
  cases pu with
  |none=>exact dv (l:=some (i,ti)) (u:=none) (st:=none) hs rfl (fA ⟨aX (bu z _ _) hz,λt' k=>⟨.str _,H,I.tok k,⟨_,rfl⟩,q⟩⟩)
  |int j tj=>exact dv (l:=some (i,ti)) (u:=some (j,tj)) (st:=none) hs rfl (fA ⟨aX (bu z _ _) hz,λt' k=>⟨.str _,H,I.tok k,⟨_,rfl⟩,q⟩⟩)
def Yb:R2:=λx y H Q=>∃(z:Str) (n:Int),x=.str z/\y=.int n/\n<=1000/\-1000<=n/\z.length<=1000/\Q (.str (PySem.Txt.mul z n)) H
theorem mulOk_of {z:Str}{n:Int}(h1:n<=1000)(h0:-1000<=n)(h2:z.length<=1000):MulOk z n:=by
 refine⟨?_,λh3 _=>?_,λh3 _=>?_⟩
 ·rw[aq (by omega),aq (by omega)];rfl
 ·have:(2^63-1:Int)/n≥(2^63-1:Int)/1000:=by
   have hn:0<n:=by omega
   have a:(2^63-1:Int)/1000*n<=2^63-1:=by
    have b:(2^63-1:Int)/1000*n<=(2^63-1:Int)/1000*1000:=Int.mul_le_mul_of_nonneg_left h1 (by decide);have c:(2^63-1:Int)/1000*1000<=2^63-1:=by decide
    omega
   exact(Int.le_ediv_iff_mul_le hn).mpr a
  have d:(1000:Int)<=(2^63-1:Int)/1000:=by decide
  omega
 ·have:z.length*n.toNat<=1000*1000:=Nat.mul_le_mul h2 (by omega);have e:Builtin.Str.tooLong (z.length*n.toNat)=decide (z.length*n.toNat>sizeLine):=rfl;rw[e];exact aq (by have:=Gr;omega)
theorem Rn:IL X (binaryOp .Mult) Yb:=by
 intro pins s σ H x y v u Q I rx ry h;obtain⟨z,n,rfl,rfl,h1,h0,h2,q⟩:=h;obtain⟨t,rfl⟩:=rx;obtain⟨t',rfl⟩:=ry;exact SB.mul (mulOk_of h1 h0 h2) λt' k=>⟨.str _,H,I.tok k,⟨_,rfl⟩,q⟩
theorem QN {ys:List Str}:∀{us:List Value},A5 (ys.map V.str) us->StrsAre us ys:=by
 induction ys with
 |nil=>intro us r;rw[cT] at r;cases r;exact .nil
 |cons n ns ih=>
  intro us r;rw[aF] at r;cases r with
  |cons r1 r2=>
   obtain⟨t,e⟩:=r1;subst e;exact .cons n t (ih r2)
def rJoin (K:PySem.W.Frag):V->List V->Hp->VK->Prop:=λx vs H Q=>∃(a:Addr) (z:Str) (ys:List Str),x=.str z/\vs=[.ref a]/\AV K H a (ys.map V.str)/\(ys.map (·.length)).sum+ys.length*z.length<=16777216/\Q (.str (PySem.Txt.join z ys)) H
theorem Os (_:X.calm=true):Vy X "str.join" (rJoin X.K):=by
 intro pins s σ H x vs v us Q I rx rv h;obtain⟨a,z,ys,rfl,rfl,hq,hz,q⟩:=h;obtain⟨tk,rfl⟩:=rx;obtain⟨y,rfl,ry⟩:=rv.one;cases ry;obtain⟨its,r1,p1,_⟩:=I.list hq;exact join_list p1.isList (QN (by simpa using r1)) hz λt' k=>⟨.str _,H,I.tok k,⟨_,rfl⟩,q⟩
end
end L2
namespace L2
open PySem PySem.Spec PyProof.Rows PySem.Builtin.Str
abbrev AQ (z:Str):List Nat:=z.cps.toList
theorem A3 (z:Str):(AQ z).length=z.length:=by simp[Str.length]
theorem FA {x y:Str}(h:AQ x=AQ y):x=y:=by
 obtain⟨a⟩:=x;obtain⟨b⟩:=y;have:a=b:=fQ.mp h;rw[this]
theorem BJ (a y:Str):AQ (a++y)=AQ a++AQ y:=by
 show(a.cps++y.cps).toList=_;simp
theorem WZ (z:Str){j:Int}(h0:0<=j):AQ (PySem.Txt.slice z none (some j))=(AQ z).take j.toNat:=by
 have hc:StrLaws.sliceText z none (some j)=StrLaws.sliceText z none (some (min j z.length)):=by
  have e:strSliceIndices none (some j) 1 z.length=strSliceIndices none (some (min j z.length)) 1 z.length:=by
   unfold strSliceIndices;have e1:(if j<0 then j+(z.length:Int) else j)=j:=ai (by omega);have e2:(if min j (z.length:Int)<0 then min j (z.length:Int)+(z.length:Int) else min j (z.length:Int))=min j z.length:=ai (by omega);simp only[e1,e2];have e3:max 0 (min j (z.length:Int))=max 0 (min (min j (z.length:Int)) z.length):=by omega
   rw[e3];simp only[if_pos (show(1:Int)>0 by decide)]
  unfold StrLaws.sliceText;rw[e]
 show AQ (StrLaws.sliceText z none (some j))=_;rw[hc,StrLaws.sliceText_to ⟨by omega,by rw[A3 z];omega⟩];show((AQ z).drop 0).take (min j (z.length:Int)-0).toNat=_;rw[fk]
 by_cases h:j<=z.length
 ·congr 1;omega
 ·have hl:=A3 z;rw[aY (by omega),aY (by omega)]
end L2
namespace L2
open PySem PySem.Spec PyProof.Rows
theorem TN {J:It} {xs:List V} {fr:List (Option Nat)} {k:Nat} {te:TE} {Q:VK} {σ:St} {H:Hp} (P:V->V->Hp->Prop) (hP:∀x y H1 H2,P x y H1->Aw H1 H2->P x y H2)
  (hU:∀x y H1 l us us',P x y H1->H1 l=some (.lst us)->y≠.ref l->P x y (upd H1 l (.lst us'))) (hJ:JP J H xs) (hn:xs.length<=1000000)
  (helt:∀(x:V) (H':Hp) (R:VK),x∈xs->Aw H H'->(∀y H'',Aw H' H''->(∀a,y=.ref a->H' a=none)->P x y H''->R y H'')->te ((stC fr σ).set k (some x)) H' R)
  (hQ:∀l H' (ys:List V),H l=none->Aw H H'->H' l=some (.lst ys)->ys.length=xs.length->(∀(i:Nat) x y,xs[i]?=some x->ys[i]?=some y->P x y H'/\y≠.ref l)->Q (.ref l) H') :
  Je fr (AU k) VS te σ Q J H:=by
 intro l hl;refine⟨λi m σ' H'=>m=xs.length-i/\i<=xs.length/\(∀y,σ'.set k y=(stC fr σ).set k y)/\Aw H H'/\∃ys:List V,H' l=some (.lst ys)/\ys.length=i/\(∀(i:Nat) x y,xs[i]?=some x->ys[i]?=some y->P x y H'/\y≠.ref l),
  ⟨xs.length,by simp,a6 _,λ_=>rfl,Ae hl _,[],Ac,rfl,λi x y _ h=>by simp at h⟩,?_⟩
 rintro i m σ' H' ⟨rfl,hi,hσ,hs,ys,hl',hlen,hp⟩
 obtain⟨h1,h2,h3⟩:=hJ H' hs i
 by_cases hlt:i<xs.length
 ·refine .inr ⟨h1 hlt,λx H'' y=>?_⟩;obtain⟨rfl,hx⟩:=h2 x H'' y;have hx:=hx hlt;show te (σ'.set k (some x)) H'' _;rw[hσ];refine helt x H'' _ (aN hx) hs λy H4 s4 fy py=>?_
  have yl:y≠.ref l:=λz=>by rw[fy l z] at hl';cases hl'
  refine⟨_,s4.get hl',By (by omega),xs.length-(i+1),by omega,rfl,hlt,λy=>by rw[fM],Cu (hs.trans s4) hl _,ys++[y],Ac,by rw[ar,hlen];rfl,λj x' y' hx' hy'=>?_⟩
  by_cases hj:j<ys.length
  ·rw[bW hj] at hy';obtain⟨q1,q2⟩:=hp j x' y' hx' hy';exact⟨hU _ _ _ _ _ _ (hP _ _ _ _ q1 s4) (s4.get hl') q2,q2⟩
  ·rw[bS (by omega)] at hy'
   by_cases hj2:j=ys.length
   ·subst hj2;rw[eL] at hy';cases(aI hy':y=y');rw[hlen] at hx';cases(aI (hx.symm.trans hx'):x=x');exact⟨hU _ _ _ _ _ _ py (s4.get hl') yl,yl⟩
   ·rw[cF (by simp;omega)] at hy';cases hy'
 ·have e:i=xs.length:=by omega
  subst e;exact .inl ⟨h3 (au _),hQ l H' ys hl hs hl' hlen hp⟩
theorem Wl {X:Cx}{K:PySem.W.Frag}{pos:Pos}{es:List Expr}{k:Nat}{t:WY}{n:Nat}(hK:X.K=K)(hc:X.calm=true)(h:Yo X es t)(hn:(assignEach es X.env).length=n:=by rfl)(hs:(assignEach es X.env).findIdx? (·.1)=none:=by rfl):PG X (.Tuple es k pos) (V2 K n t):=by
 subst hK;exact Jd hc h hn hs
theorem UT {xs:List V}:IK xs none (some (-1))=xs.dropLast:=by
 unfold IK HT.DE;rw[List.dropLast_eq_take];simp only[List.drop_zero,Nat.sub_zero];rw[ak (by decide)]
 congr 1
 omega
section
variable {κ:Type}[DecidableEq κ]
def F5 (kvs:List (κ×V))(k:κ):Option V:=(kvs.find? λkv=>decide (kv.1=k)).map (·.2)
def putK (kvs:List (κ×V))(k:κ)(v:V):List (κ×V):=
 if(kvs.any λkv=>decide (kv.1=k))=true then kvs.map (λkv=>if kv.1=k then(kv.1,v) else kv) else kvs++[(k,v)]
def Lf (kvs:List (κ×V))(k:κ):List (κ×V):=kvs.filter λkv=>decide (kv.1≠k)
theorem CL {p:κ×V}{r:List (κ×V)}{k:κ}(e:p.1=k):F5 (p::r) k=some p.2:=by simp[F5,List.find?_cons,e]
theorem CU {p:κ×V}{r:List (κ×V)}{k:κ}(e:¬p.1=k):F5 (p::r) k=F5 r k:=by simp[F5,List.find?_cons,e]
theorem Pt (k:κ):∀kvs:List (κ×V),(kvs.any λkv=>decide (kv.1=k))=(F5 kvs k).isSome
 |[]=>rfl
 |p::r=>by
  rw[dW]
  by_cases e:p.1=k
  ·simp only[CL e,decide_eq_true e,Bool.true_or,Option.isSome_some]
  ·rw[CU e,aq e,Bool.false_or];exact Pt k r
theorem Hy (kvs:List (κ×V))(k:κ)(v:V):(putK kvs k v).length<=kvs.length+1:=by
 unfold putK
 split
 ·rw[aa];omega
 ·rw[ar,aS,fZ];omega
theorem Gj.isSome_eq {o:Option V}{u:Option Value}(r:Gj o u):o.isSome=u.isSome:=by
 cases o with
 |none=>cases u with
  |none=>rfl
  |some _=>exact(show False from r).elim
 |some _=>cases u with
  |none=>exact(show False from r).elim
  |some _=>rfl
theorem Gj.getD {o:Option V}{u:Option Value}{d:V}{d':Value}(r:Gj o u)(rd:RelV d d'):RelV (o.getD d) (u.getD d'):=by
 cases o with
 |none=>cases u with
  |none=>exact rd
  |some _=>exact(show False from r).elim
 |some _=>cases u with
  |none=>exact(show False from r).elim
  |some _=>exact r
theorem KV.val {kvs:List (κ×V)}{vs:List (κ×Value)}(r:KV kvs vs)(k:κ):Gj (F5 kvs k) (valueAt vs k):=by
 unfold KV at r
 induction r with
 |nil=>exact True.intro
 |@cons p q ps qs h t ih=>
  obtain⟨h1,h2⟩:=h
  by_cases e:p.1=k
  ·have e':q.1=k:=h1.symm.trans e;have b:valueAt (q::qs) k=some q.2:=by simp[valueAt,List.find?_cons,e']
   rw[CL e,b];exact h2
  ·have e':¬q.1=k:=λz=>e (h1.trans z)
   have b:valueAt (q::qs) k=valueAt qs k:=by simp[valueAt,List.find?_cons,e']
   rw[CU e,b];exact ih
theorem KV.any {kvs:List (κ×V)}{vs:List (κ×Value)}(r:KV kvs vs)(k:κ):(kvs.any λkv=>decide (kv.1=k))=vs.any λkv=>decide (kv.1=k):=by
 unfold KV at r
 induction r with
 |nil=>rfl
 |cons h t ih=>rw[dW,dW,ih,h.1]
theorem KV.repl {kvs:List (κ×V)}{vs:List (κ×Value)}(r:KV kvs vs)(k:κ){y:V}{u:Value}(ry:RelV y u) :
  KV (kvs.map λkv=>if kv.1=k then(kv.1,y) else kv) (vs.map λkv=>if kv.1=k then(kv.1,u) else kv):=by
 unfold KV at r ⊢
 induction r with
 |nil=>exact .nil
 |@cons p q ps qs h t ih=>
  rw[aF,aF];refine .cons ?_ ih;obtain⟨h1,h2⟩:=h
  by_cases e:p.1=k
  ·rw[ak e,ak (h1.symm.trans e)];exact⟨h1,ry⟩
  ·rw[ai e,ai (λz=>e (h1.trans z))];exact⟨h1,h2⟩
theorem KV.put {kvs:List (κ×V)}{vs:List (κ×Value)}(r:KV kvs vs)(k:κ){y:V}{u:Value}(ry:RelV y u):KV (putK kvs k y) (stored vs k u):=by
 unfold putK stored;rw[r.any k]
 by_cases e:(vs.any λkv=>decide (kv.1=k))=true
 ·rw[ak e,ak e];exact r.repl k ry
 ·rw[ai e,ai e];exact Paired.snoc r ⟨rfl,ry⟩
theorem KV.drop {kvs:List (κ×V)}{vs:List (κ×Value)}(r:KV kvs vs)(k:κ):KV (Lf kvs k) (without vs k):=by
 unfold KV at r ⊢;unfold Lf without
 induction r with
 |nil=>exact .nil
 |@cons p q ps qs h t ih=>
  obtain⟨h1,h2⟩:=h;rw[bj,bj]
  by_cases e:p.1=k
  ·have a:¬decide (p.1≠k)=true:=by simp[e]
   have b:¬decide (q.1≠k)=true:=by simp[h1.symm.trans e]
   rw[ai a,ai b];exact ih
  ·have e':¬q.1=k:=λz=>e (h1.trans z)
   have a:decide (p.1≠k)=true:=by simp[e]
   have b:decide (q.1≠k)=true:=by simp[e']
   rw[ak a,ak b];exact .cons ⟨h1,h2⟩ ih
theorem KV.keys {kvs:List (κ×V)}{vs:List (κ×Value)}(r:KV kvs vs):kvs.map (·.1)=vs.map (·.1):=by
 unfold KV at r
 induction r with
 |nil=>rfl
 |cons h t ih=>rw[aF,aF,ih,h.1]
theorem KV.length {kvs:List (κ×V)}{vs:List (κ×Value)}(r:KV kvs vs):kvs.length=vs.length:=cw r
theorem PY (kvs:List (κ×V))(k:κ):(Lf kvs k).length<=kvs.length:=bp _ _
end
theorem HS {P:Program}{w:World}{k:Key}{u:Value}(r:RelV (kV k) u):(A6 P w).is k u=true:=by
 cases k with
 |inl i=>obtain⟨t,e⟩:=(show ∃t,u=Value.int i t from r);subst e;exact Pw P w i t
 |inr x=>obtain⟨t,e⟩:=(show ∃t,u=Value.str x t from r);subst e;exact PX P w x t
theorem NM {P:Program}{w:World}:∀{ks:List Key} {us:List Value},A5 (ks.map kV) us->ItemsAre (A6 P w) ks us
 |[],_,r=>by rw[cT] at r;cases r;exact .nil
 |k::ks,_,r=>by
  rw[aF] at r;cases r with
  |cons h t=>exact .cons (HS h) (NM t)
abbrev KT (H:Hp):List (List Key×V)->List (List Key×Addr×Value)->Prop:=Paired λp q=>p.1=q.1/\H q.2.1=some (.tup (p.1.map kV))/\RelV p.2 q.2.2
theorem KT.val {H:Hp}{kvs:List (List Key×V)}{xs:List (List Key×Addr×Value)}(r:KT H kvs xs)(k:List Key):Gj (F5 kvs k) ((atKey xs k).map (·.2)):=by
 induction r with
 |nil=>exact True.intro
 |@cons p q ps qs h t ih=>
  obtain⟨h1,_,h2⟩:=h
  by_cases e:p.1=k
  ·have e':q.1=k:=h1.symm.trans e;have b:atKey (q::qs) k=some q.2:=by simp[atKey,List.find?_cons,e']
   rw[CL e,b];exact h2
  ·have e':¬q.1=k:=λz=>e (h1.trans z)
   have b:atKey (q::qs) k=atKey qs k:=by simp[atKey,List.find?_cons,e']
   rw[CU e,b];exact ih
theorem KT.repl {H:Hp}{kvs:List (List Key×V)}{xs:List (List Key×Addr×Value)}(r:KT H kvs xs)(k:List Key){y:V}{u:Value}(ry:RelV y u) :
  KT H (kvs.map λkv=>if kv.1=k then(kv.1,y) else kv) (xs.map (putAt k u)):=by
 induction r with
 |nil=>exact .nil
 |@cons p q ps qs h t ih=>
  rw[aF,aF];refine .cons ?_ ih;obtain⟨h1,h2,h3⟩:=h;unfold putAt
  by_cases e:p.1=k
  ·rw[ak e,ak (h1.symm.trans e)];exact⟨h1,h2,ry⟩
  ·rw[ai e,ai (λz=>e (h1.trans z))];exact⟨h1,h2,h3⟩
theorem KT.put {H:Hp}{kvs:List (List Key×V)}{xs:List (List Key×Addr×Value)}(r:KT H kvs xs)(k:List Key){b:Addr}{y:V}{u:Value}(hb:H b=some (.tup (k.map kV)))(ry:RelV y u) :
  KT H (putK kvs k y) (storedH xs k b u):=by
 have e:(kvs.any λkv=>decide (kv.1=k))=(atKey xs k).isSome:=by
  rw[Pt,(r.val k).isSome_eq,fK]
 unfold putK storedH;rw[e]
 by_cases q:(atKey xs k).isSome=true
 ·rw[ak q,ak q];exact r.repl k ry
 ·rw[ai q,ai q];exact Paired.snoc r ⟨rfl,hb,ry⟩
theorem KT.keeps {H H':Hp}{kvs:List (List Key×V)}{xs:List (List Key×Addr×Value)}(r:KT H kvs xs)(ht:∀b ys,H b=some (.tup ys)->H' b=some (.tup ys)):KT H' kvs xs:=
 Paired.mapP r λ_ _ z=>⟨z.1,ht _ _ z.2.1,z.2.2⟩
section
variable {P:Program}{w:World}{H:Hp}{h:Heap}{a:Addr}
theorem WW {u:HO}(ok:IA P w H h)(e:Rd H a u):Be P w H h a u:=e.ok ok
theorem Lh {kvs:List (Key×V)}(ok:IA P w H h)(e:Rd H a (.dK kvs)):kvs.length<=sizeLine/\(a == sysModules)=false/\∃vs,KV kvs vs/\h.DictOf (A6 P w) a vs:=
 show Be P w H h a (.dK kvs) from WW ok e
theorem NI {kvs:List (Key×V)}(ok:IA P w H h)(e:H a=some (.dK kvs)):kvs.length<=sizeLine/\(a == sysModules)=false/\∃vs,KV kvs vs/\h.DictOf (A6 P w) a vs:=Lh ok (.inl e)
theorem KS {ks:List Key}(ok:IA P w H h)(e:H a=some (.tup (ks.map kV))):(tupleKind (A6 P w)).is h ks a:=by
 obtain⟨_,its,r,o,h1,h2,n,h3⟩:=(show Be P w H h a (.tup (ks.map kV)) from ok a _ e)
 exact⟨o,its.toArray,n,h1,h2,h3.1,by simpa using NM r⟩
theorem Mt {kvs:List (List Key×V)}(ok:IA P w H h)(e:Rd H a (.dT kvs)):kvs.length<=sizeLine/\(a == sysModules)=false/\
  ∃xs,KT H kvs xs/\h.DictOfH (tupleKind (A6 P w)) a xs:=by
 obtain⟨z,y,xs,r,o,es,ep,h1,h2,h3,h4,h5⟩:=(show Be P w H h a (.dT kvs) from WW ok e)
 refine⟨z,y,xs,r,o,es,ep,h1,h2,h3,h4,λx hx=>?_,h5⟩;have all:∀{l:List (List Key×V)} {m:List (List Key×Addr×Value)},KT H l m->∀x∈m,(tupleKind (A6 P w)).is h x.1 x.2.1:=by
  intro l m q
  induction q with
  |nil=>intro x hx;exact nomatch hx
  |@cons p q ps qs hq t ih=>
   intro x hx;rcases aM.mp hx with e|hx
   ·subst e;exact KS ok (by rw[<-hq.1];exact hq.2.1)
   ·exact ih x hx
 exact all r x hx
theorem YR {kvs:List (List Key×V)}(ok:IA P w H h)(e:H a=some (.dT kvs)):kvs.length<=sizeLine/\(a == sysModules)=false/\
  ∃xs,KT H kvs xs/\h.DictOfH (tupleKind (A6 P w)) a xs:=Mt ok (.inl e)
end
def EO (H:Hp)(a:Addr)(y:V)(r:Option V):Prop:=
 (∃kvs k,Rd H a (.dK kvs)/\y=kV k/\r=F5 kvs k)\/∃kvs k b,Rd H a (.dT kvs)/\y=.ref b/\H b=some (.tup (k.map kV))/\r=F5 kvs k
def J1 (H:Hp)(a:Addr)(y v:V)(H':Hp):Prop:=
 (∃kvs k,H a=some (.dK kvs)/\y=kV k/\kvs.length<sizeLine/\H'=upd H a (.dK (putK kvs k v)))\/
 ∃kvs k b,H a=some (.dT kvs)/\y=.ref b/\H b=some (.tup (k.map kV))/\kvs.length<sizeLine/\H'=upd H a (.dT (putK kvs k v))
theorem EO.k {H:Hp}{a:Addr}{kvs:List (Key×V)}{k:Key}(e:H a=some (.dK kvs)):EO H a (kV k) (F5 kvs k):=.inl ⟨kvs,k,.inl e,rfl,rfl⟩
theorem J1.k {H:Hp}{a:Addr}{kvs:List (Key×V)}{k:Key}{v:V}(e:H a=some (.dK kvs))(hl:kvs.length<sizeLine):J1 H a (kV k) v (upd H a (.dK (putK kvs k v))):=.inl ⟨kvs,k,e,rfl,hl,rfl⟩
section
variable {X:Cx}{pins:List (Addr×Obj)}{σ:St}{H:Hp}{s:Shared}{a:Addr}{y v:V}{u r:Value}{o:Option V}{A:Around}{E:Value->Shared->Prop}
theorem Inv.big (I:Inv X pins σ H s):sysModules<s.heap.objs.size:=by
 have h:mainGlobals<s.heap.objs.size:=(I.mod.glob.keeps I.bk).lt;exact Nat.lt_trans (by decide) h
theorem Sn {Q:Value->Shared->Prop}(hu:A.units+1<cLine)(I:Inv X pins σ H s)(g:EO H a y (some v))(ry:RelV y u)(h:∀w' s',Inv X pins σ H s'->RelV v w'->Q w' s') :
  wpAny (model X.prog X.w) A (getItem (.ref a) u) Q E s:=by
 rcases g with⟨kvs,k,e,ey,l⟩|⟨kvs,k,b,e,ey,eb,l⟩
 ·subst ey;obtain⟨z,hd,vs,rel,dd⟩:=Lh I.hok e;obtain⟨w',hw,rw'⟩:=Gj.some_of (v:=v) (o:=valueAt vs k) (by rw[l];exact rel.val k);exact wpAny_getItem_of (HS ry) dd.mapOf hw (h w' _ (I.tok _) rw')
 ·subst ey;cases(show u=Value.ref b from ry);obtain⟨z,hd,xs,rel,dd⟩:=Mt I.hok e;obtain⟨w',hw,rw'⟩:=Gj.some_of (v:=v) (o:=(atKey xs k).map (·.2)) (by rw[l];exact rel.val k);obtain⟨p,hp,hp2⟩:=aU.mp hw;refine wpAny_getItem_heap (du hu) (KS I.hok eb) dd hp ?_;rw[hp2];exact h w' _ (I.tok _) rw'
theorem Zl {Q:Value->Shared->Prop}(hu:A.units+1<cLine)(I:Inv X pins σ H s)(g:EO H a y o)(ry:RelV y u)(h:∀s',Inv X pins σ H s'->Q (.bool o.isSome) s') :
  wpAny (model X.prog X.w) A (compareOp .In u (.ref a)) Q E s:=by
 rcases g with⟨kvs,k,e,ey,l⟩|⟨kvs,k,b,e,ey,eb,l⟩
 ·subst ey;obtain⟨z,hd,vs,rel,dd⟩:=Lh I.hok e;refine wpAny_in_of (HS ry) hd dd.mapOf ?_;rw[<-(rel.val k).isSome_eq,<-l];exact h _ (I.tok _)
 ·subst ey;cases(show u=Value.ref b from ry);obtain⟨z,hd,xs,rel,dd⟩:=Mt I.hok e;refine wpAny_in_heap (du hu) (KS I.hok eb) hd dd ?_;have q:=(rel.val k).isSome_eq;rw[fK] at q;rw[<-q,<-l];exact h _ (I.tok _)
theorem Ww {Q:Value->Shared->Prop}(hu:A.units+1<cLine)(I:Inv X pins σ H s)(g:EO H a y o)(ry:RelV y u)(h:∀s',Inv X pins σ H s'->Q (.bool (!o.isSome)) s') :
  wpAny (model X.prog X.w) A (compareOp .NotIn u (.ref a)) Q E s:=by
 rcases g with⟨kvs,k,e,ey,l⟩|⟨kvs,k,b,e,ey,eb,l⟩
 ·subst ey;obtain⟨z,hd,vs,rel,dd⟩:=Lh I.hok e;refine wpAny_notIn_of (HS ry) hd dd.mapOf ?_;rw[<-(rel.val k).isSome_eq,<-l];exact h _ (I.tok _)
 ·subst ey;cases(show u=Value.ref b from ry);obtain⟨z,hd,xs,rel,dd⟩:=Mt I.hok e;refine wpAny_notIn_heap (du hu) (KS I.hok eb) hd dd ?_;have q:=(rel.val k).isSome_eq;rw[fK] at q;rw[<-q,<-l];exact h _ (I.tok _)
theorem JV {h':Heap}{t':Nat}{ob:HO}(I:Inv X pins σ H s)(mu:YI (H a))(hs:Heap.SameBut a s.heap h')(he:∃q,h'.get? a=some q)(new:Be X.prog X.w (upd H a ob) h' a ob) :
  Inv X pins σ (upd H a ob) { s with heap:=h',toks:=t' }:=
 I.write (x:=a) (e:=a) mu (.inl rfl) (λb q hb z=>(hs.2 b hb).trans z) he new
theorem Jl {P:Program}{w:World}{H':Hp}{h':Heap}{kvs:List (Key×V)}{vs:List (Key×Value)}(z:kvs.length<=sizeLine)(hd:(a == sysModules)=false)(rel:KV kvs vs)(dd:h'.DictOf (A6 P w) a vs) :
  Be P w H' h' a (.dK kvs):=⟨z,hd,vs,rel,dd⟩
theorem SO {H':Hp}{Q:Unit->Shared->Prop}(hu:A.units+1<cLine)(I:Inv X pins σ H s)(g:J1 H a y v H')(ry:RelV y u)(rv:RelV v r)(h:∀s',Inv X pins σ H' s'->Q () s') :
  wpAny (model X.prog X.w) A (setItem (.ref a) u r) Q E s:=by
 rcases g with⟨kvs,k,e,ey,l,eH⟩|⟨kvs,k,b,e,ey,eb,l,eH⟩
 ·subst ey eH;obtain⟨z,hd,vs,rel,dd⟩:=NI I.hok e;have hz:vs.length<=sizeLine:=by rw[<-rel.length];exact z
  have hl:(putK kvs k v).length<=sizeLine:=by have:=Hy kvs k v;omega
  refine wpAny_setItem_pairs (hsz:=hz) (HS ry) dd λh' dd' hs=>h _ ?_
  have he:∃q,h'.get? a=some q:=let⟨q,_,_,hq,_⟩:=dd';⟨q,hq⟩;exact JV I (by rw[e];exact True.intro) hs he (Jl hl hd (rel.put k rv) dd')
 ·subst ey eH;cases(show u=Value.ref b from ry);obtain⟨z,hd,xs,rel,dd⟩:=YR I.hok e;have hz:xs.length<=sizeLine:=by rw[<-cw rel];exact z
  have hl:(putK kvs k v).length<=sizeLine:=by have:=Hy kvs k v;omega
  refine wpAny_setItem_heap (hsz:=hz) (du hu) (KS I.hok eb) dd λh' dd' hs=>h _ ?_
  obtain⟨q,es,ep,hq,h2,h3,h4,_,h5⟩:=dd';refine JV I (by rw[e];exact True.intro) hs ⟨q,hq⟩ ⟨hl,hd,_,(rel.put k eb rv).keeps λc ys ec=>?_,q,es,ep,hq,h2,h3,h4,h5⟩;rw[Ak (BW ec e (λz=>nomatch z))];exact ec
end
section
variable {X:Cx}{pins:List (Addr×Obj)}{σ:St}{H:Hp}{s:Shared}{a:Addr}{kvs:List (Key×V)}{k:Key}{u:Value}{A:Around}{E:Value->Shared->Prop}
theorem X6 {Q:Unit->Shared->Prop}(I:Inv X pins σ H s)(e:H a=some (.dK kvs))(ry:RelV (kV k) u)(l:(F5 kvs k).isSome=true)(h:∀s',Inv X pins σ (upd H a (.dK (Lf kvs k))) s'->Q () s') :
  wpAny (model X.prog X.w) A (delItem (.ref a) u) Q E s:=by
 obtain⟨z,hd,vs,rel,dd⟩:=NI I.hok e;refine wpAny_delItem_slot dd.typeIs (by decide) gE
  (fm gE dd.typeIs PySem.F.entry_dict_delitem (PySem.F.args_dict_delitem_2 _ _) (meets_dict_delitem_pairs (A6 X.prog X.w) a (HS ry)) ⟨vs,dd,by rw[<-rel.length];exact z,by rw[<-(rel.val k).isSome_eq];exact l,λh' dd' hs=>h _ ?_⟩)
 have he:∃q,h'.get? a=some q:=let⟨q,_,_,hq,_⟩:=dd';⟨q,hq⟩;exact JV I (by rw[e];exact True.intro) hs he (Jl (aX (PY kvs k) z) hd (rel.drop k) dd')
theorem YF {v:V} {more:List Value} {Q:Value->Shared->Prop} (I:Inv X pins σ H s) (e:H a=some (.dK kvs)) (ry:RelV (kV k) u) (l:F5 kvs k=some v) (hm:more=[]\/∃x,more=[x])
  (h:∀w' s',Inv X pins σ (upd H a (.dK (Lf kvs k))) s'->RelV v w'->Q w' s'):wpAny (model X.prog X.w) A (call (.builtin "dict.pop") (.ref a::u::more)) Q E s:=by
 obtain⟨z,hd,vs,rel,dd⟩:=NI I.hok e;obtain⟨w',hw,rw'⟩:=Gj.some_of (v:=v) (o:=valueAt vs k) (by rw[<-l];exact rel.val k);have hp:(keyPart u).isSome=true:=by
  cases k with
  |inl i=>obtain⟨t,q⟩:=(show ∃t,u=Value.int i t from ry);subst q;rfl
  |inr x=>obtain⟨t,q⟩:=(show ∃t,u=Value.str x t from ry);subst q;rfl
 have ha:argsOk "dict.pop" ⟨.ref a::u::more,[]⟩:=by
  rcases hm with q|⟨x,q⟩
  ·subst q;exact PySem.F.args_dict_pop_2 _ _
  ·subst q;exact PySem.F.args_dict_pop_3 _ _ _
 refine fm hV dd.typeIs PySem.F.entry_dict_pop ha (meets_dict_pop_there (A6 X.prog X.w) a (HS ry) more hm hp)
  ⟨vs,w',dd,by rw[<-rel.length];exact z,hw,λh' dd' hs=>h w' _ ?_ rw'⟩
 have he:∃q,h'.get? a=some q:=let⟨q,_,_,hq,_⟩:=dd';⟨q,hq⟩;exact JV I (by rw[e];exact True.intro) hs he (Jl (aX (PY kvs k) z) hd (rel.drop k) dd')
theorem Yg {Q:Value->Shared->Prop}(I:Inv X pins σ H s)(e:Rd H a (.dK kvs))(h:∀t s',Inv X pins σ H s'->Q (.int kvs.length t) s'):wpAny (model X.prog X.w) A (call (.builtin "len") [.ref a]) Q E s:=by
 obtain⟨z,hd,vs,rel,dd⟩:=Lh I.hok e;refine call_len_dict hd dd (by rw[<-rel.length];rw[bh] at z;omega) ?_;rw[<-rel.length];exact h _ _ (I.tok _)
end
def YT (i:Expr):Prop:=∀ov iv,subscripted i false ov iv=operate [ov,iv] (getItem ov iv)
theorem Wq {prog:Program} {w:World} {A:Around} {E:Value->Shared->Prop} {s:Shared} {env:Env} {value slice:Expr} {pos:Pos} {T id:String} {Q:Value->Shared->Prop}
  (hl:typeLookup (.type T) "__getitem__"=pure (some (.builtin id))) (hs:YT slice)
  (h:wpAny (model prog w) A (eval value env) (λo s₁=>wpAny (model prog w) A (eval slice env) (λi s₂=>s₂.TypeIs o T/\wpAny (model prog w) A (getItem o i) Q E s₂) E s₁) E s) :
  wpAny (model prog w) A (eval (.Subscript value slice pos) env) Q E s:=by
 refine Subscript_ (bg h (λo s₁ h₁=>bg h₁ (λi s₂ h₂=>?_) λ_ _ x=>x) λ_ _ x=>x);obtain⟨hT,h₂⟩:=h₂;unfold subscriptTail;refine ae ?_;rw[getitemInPython_of_ne hT.not_modules];refine ae (wpAny_specialOf hT hl ?_);have fin:wpAny (model prog w) A (subscripted slice false o i) (λr s₃=>wpAny (model prog w) A (letTemporaryGo value o r >>= λ_=>pure r) Q E s₃) E s₂:=by
  rw[hs o i];exact wpAny_operating (bg h₂ (λr s₃ h₃=>ae (wpAny_letTemporaryGo (aB h₃))) λ_ _ x=>x)
 first
  |exact aB (ae fin)
  |exact ae (aB (ae fin))
  |exact ae fin
theorem PH {X:Cx}{pins:List (Addr×Obj)}{σ:St}{H:Hp}{s:Shared}{a:Addr}{y:V}{o:Option V}(I:Inv X pins σ H s)(g:EO H a y o):s.TypeIs (.ref a) "dict":=by
 rcases g with⟨kvs,k,e,_,_⟩|⟨kvs,k,b,e,_,_,_⟩
 ·obtain⟨_,_,vs,_,dd⟩:=Lh I.hok e;exact dd.typeIs
 ·obtain⟨_,_,xs,_,dd⟩:=Mt I.hok e;exact dd.typeIs
def Yy (td ty:TE):TE:=λσ H Q=>td σ H λx H1=>ty σ H1 λy H2=>∃a v,x=.ref a/\EO H2 a y (some v)/\Q v H2
def Y7 (ty td:TE):TE:=λσ H Q=>ty σ H λy H1=>td σ H1 λx H2=>∃a o,x=.ref a/\EO H2 a y o/\Q (.bl o.isSome) H2
def VO (ty td:TE):TE:=λσ H Q=>ty σ H λy H1=>td σ H1 λx H2=>∃a o,x=.ref a/\EO H2 a y o/\Q (.bl (!o.isSome)) H2
def Yz (td ty tv:TE):TS:=λD σ H=>tv σ H λv H1=>td σ H1 λx H2=>ty σ H2 λy H3=>∃a H4,x=.ref a/\J1 H3 a y v H4/\D.nx σ H4
section
variable {X:Cx}{o i e value:Expr}{pos pos' tpos:Pos}{td ty tv:TE}
theorem B4 (hu:X.A.units+1<cLine)(ho:PE X o td)(hi:PE X i ty)(hs:YT i):PE X (.Subscript o i pos) (Yy td ty):=by
 intro pins s σ H Q I h;refine Wq PySem.F.slot_dict_getitem.lookup hs (BN (ho pins s σ H _ I h) λu s1 ⟨x,H1,I1,rx,q1⟩=>BN (hi pins s1 σ H1 _ I1 q1) λiv s2 z9=>?_);obtain⟨y,H2,I2,ry,a,v,ex,g,q2⟩:=z9;subst ex;obtain rfl:u=Value.ref a:=rx;exact⟨PH I2 g,Sn hu I2 g ry λw' s3 I3 rw'=>⟨v,H2,I3,rw',q2⟩⟩
theorem UK (hu:X.A.units+1<cLine)(hi:PE X i ty)(ho:PE X o td):PC X .In i o (Y7 ty td):=by
 intro pins s σ H Q I h;refine BN (hi pins s σ H _ I h) λiv s1 ⟨y,H1,I1,ry,q1⟩=>BN (ho pins s1 σ H1 _ I1 q1) λu s2 z9=>?_
 obtain⟨x,H2,I2,rx,a,ov,ex,g,q2⟩:=z9;subst ex;obtain rfl:u=Value.ref a:=rx;exact Zl hu I2 g ry λs3 I3=>⟨.bl ov.isSome,H2,I3,rfl,q2⟩
theorem K4 (hu:X.A.units+1<cLine)(hi:PE X i ty)(ho:PE X o td):PC X .NotIn i o (VO ty td):=by
 intro pins s σ H Q I h;refine BN (hi pins s σ H _ I h) λiv s1 ⟨y,H1,I1,ry,q1⟩=>BN (ho pins s1 σ H1 _ I1 q1) λu s2 z9=>?_
 obtain⟨x,H2,I2,rx,a,ov,ex,g,q2⟩:=z9;subst ex;obtain rfl:u=Value.ref a:=rx;exact Ww hu I2 g ry λs3 I3=>⟨.bl (!ov.isSome),H2,I3,rfl,q2⟩
theorem Ek (hu:X.A.units+1<cLine)(ho:PE X o td)(hi:PE X i ty)(hv:PE X value tv)(hs:swapsWith value (some (.Subscript o i pos')) pos.line X.env=pure false) :
  PS X (.Assign [.Subscript o i pos'] value pos) (Yz td ty tv):=by
 intro pins s σ H D I h;refine wpAny_Assign_Subscript (BN (hv pins s σ H _ I h) λr s1 ⟨v,H1,I1,rv,q1⟩=>BN (ho pins s1 σ H1 _ I1 q1) λu s2 ⟨x,H2,I2,rx,q2⟩=>BN (hi pins s2 σ H2 _ I2 q2) λiv s3 z9=>?_) hs;obtain⟨y,H3,I3,ry,a,H4,ex,g,q3⟩:=z9;subst ex;obtain rfl:u=Value.ref a:=rx;exact SO hu I3 g ry rv λs4 I4=>⟨σ,H4,I4,q3⟩
end
theorem PR {P:Program}{w:World}{H:Hp}(h:Heap)(hb:sysModules<h.objs.size):Be P w H (h.push { cls:=.type "dict",data:=.dict #[] }) h.objs.size (.dK []):=
 ⟨a6 _,cm.mpr (Ne.symm (a4 hb)),[],.nil,Heap.DictOf.new h⟩
def W0:TE:=λ_ H Q=>∀p,H p=none->Q (.ref p) (upd H p (.dK []))
section
variable {X:Cx}{pos:Pos}
theorem Fw:PE X (.Dict [] [] pos) W0:=λpins s σ H Q I h=>
 wpAny_Dict_empty ⟨.ref s.heap.objs.size,_,I.laid (a:=s.heap.objs.size) (o:=.dK []) (t':=s.toks) (λ_ _ q=>af _ q) (au _) (PR s.heap I.big),rfl,h _ (I.hok.fresh (au _))⟩
end
def QF:List (TE×TE)->St->Hp->(List (V×V)->Hp->Prop)->Prop
 |[],_,H,Q=>Q [] H
 |(tk,tv)::r,σ,H,Q=>tk σ H λx H1=>tv σ H1 λy H2=>QF r σ H2 λps H3=>Q ((x,y)::ps) H3
abbrev VV:List (V×V)->List (Value×Value)->Prop:=Paired λp q=>RelV p.1 q.1/\RelV p.2 q.2
def YW (X:Cx)(pos:Pos)(keys:List (Option Expr))(values:List Expr)(trs:List (TE×TE)):Prop:=
 ∀(pins:List (Addr×Obj)) (s:Shared) (σ:St) (H:Hp) (Q:List (V×V)->Hp->Prop),Inv X pins σ H s->QF trs σ H Q->
  wpAny (model X.prog X.w) X.A (evalPairs (pairTrees keys values X.env pos)) (λvs s'=>∃ps H',Inv X pins σ H' s'/\VV ps vs/\Q ps H') X.xe s
theorem VE {X:Cx}{pos:Pos}:YW X pos [] [] []:=λpins s σ H Q I h=>pairTrees_nil_walk ⟨[],H,I,.nil,h⟩
theorem LY {X:Cx}{pos:Pos}{k v:Expr}{ks:List (Option Expr)}{vs:List Expr}{tk tv:TE}{trs:List (TE×TE)}(hk:PE X k tk)(hv:PE X v tv)(hr:YW X pos ks vs trs) :
  YW X pos (some k::ks) (v::vs) ((tk,tv)::trs):=λpins s σ H Q I h=>
 pairTrees_cons_walk (BN (hk pins s σ H _ I h) λu s1 ⟨x,H1,I1,rx,q1⟩=>BN (hv pins s1 σ H1 _ I1 q1) λw2 s2 ⟨y,H2,I2,ry,q2⟩=>
  BN (hr pins s2 σ H2 _ I2 q2) λws s3 ⟨ps,H3,I3,rel,q3⟩=>⟨(x,y)::ps,H3,I3,.cons ⟨rx,ry⟩ rel,q3⟩)
def ER (kvs more:List (Key×V)):List (Key×V):=more.foldl (λacc kv=>putK acc kv.1 kv.2) kvs
theorem KV.merge:∀{more:List (Key×V)} {rs:List (Key×Value)} {kvs:List (Key×V)} {vs:List (Key×Value)},KV more rs->KV kvs vs->KV (ER kvs more) (merged vs rs):=by
 intro more rs kvs vs r;unfold KV at r
 induction r generalizing kvs vs with
 |nil=>intro q;exact q
 |@cons p q ps qs h t ih=>
  intro r0;have e:KV (putK kvs p.1 p.2) (stored vs q.1 q.2):=by
   have:=r0.put p.1 h.2;rw[<-h.1];exact this
  exact ih e
theorem FX:∀(more kvs:List (Key×V)),(ER kvs more).length<=kvs.length+more.length
 |[],kvs=>by show kvs.length<=kvs.length+0;omega
 |p::r,kvs=>by
  have h1:=FX r (putK kvs p.1 p.2);have h2:=Hy kvs p.1 p.2;show(ER (putK kvs p.1 p.2) r).length<=_;rw[aS];omega
theorem My {P:Program}{w:World}:∀{kvs:List (Key×V)} {ws:List (Value×Value)},VV (kvs.map λkv=>(kV kv.1,kv.2)) ws->∃rs,Carries (A6 P w) ws rs/\KV kvs rs
 |[],_,r=>by rw[cT] at r;cases r;exact⟨[],True.intro,.nil⟩
 |p::kvs,_,r=>by
  rw[aF] at r;cases r with
  |@cons a b as bs h t=>
   obtain⟨rs,c,q⟩:=My (P:=P) (w:=w) t;obtain⟨b1,b2⟩:=b;exact⟨(p.1,b2)::rs,⟨HS h.1,rfl,c⟩,.cons ⟨rfl,h.2⟩ q⟩
def YQ (trs:List (TE×TE)):TE:=λσ H Q=>∀p,H p=none->QF trs σ (upd H p (.dK [])) λps H2=>H2 p=some (.dK [])/\∃kvs:List (Key×V),ps=kvs.map (λkv=>(kV kv.1,kv.2))/\kvs.length<=15/\Q (.ref p) (upd H2 p (.dK (ER [] kvs)))
theorem Wa {X:Cx} {pos:Pos} {keys:List (Option Expr)} {values:List Expr} {trs:List (TE×TE)} (h:YW X pos keys values trs) (hall:keys.all (·.isSome)=true) (hl:keys.length=values.length) (h0:keys≠[])
  (h15:keys.length<=15):PE X (.Dict keys values pos) (YQ trs):=by
 intro pins s σ H Q I q;have hn:=I.hok.fresh (au s.heap.objs.size);have I1:=I.laid (a:=s.heap.objs.size) (o:=.dK []) (h':=s.heap.push { cls:=.type "dict",data:=.dict #[] }) (t':=s.toks) (λ_ _ q=>af _ q) (au _) (PR s.heap I.big);refine wpAny_Dict_walk (knd:=A6 X.prog X.w) hall hl h0 h15 (BN (h pins _ σ _ _ I1 (q _ hn)) λws s2 z9=>?_);obtain⟨ps,H2,I2,rel,e,kvs,ep,lk,q2⟩:=z9;subst ep;obtain⟨rs,c,rk⟩:=My (P:=X.prog) (w:=X.w) rel;obtain⟨z,hd,vs0,r0,dd⟩:=NI I2.hok e;cases r0;refine⟨rs,c,dd,λh' dd' hs=>⟨.ref s.heap.objs.size,_,?_,rfl,q2⟩⟩;have hz:(ER [] kvs).length<=sizeLine:=by
  have h1:=FX kvs [];rw[fZ] at h1;rw[bh];omega
 have he:∃q,h'.get? s.heap.objs.size=some q:=let⟨q,_,_,hq,_⟩:=dd';⟨q,hq⟩;exact JV I2 (by rw[e];exact True.intro) hs he (Jl hz hd (rk.merge .nil) dd')
structure M1 (X:Cx) (o:Expr) (m:Str) (apos:Pos) (e:Expr) (cpos:Pos):Prop where
 base:attributeBase o m X.env (eval o X.env)=eval o X.env
 few:((backTo cpos (starEach [e] X.env)).all (λx=>!x.1)&&(backToKw cpos (keywordEach [] X.env)).all (λx=>x.1.isSome)
  && decide (([e]:List Expr).length+([]:List Keyword).length+(if([]:List Keyword).isEmpty then 0 else 1)<30))=true
 line:(apos.endLine == cpos.line)=true
 trees:backTo cpos (starEach [e] X.env)=[(false,eval e X.env)]
def Zv (H:Hp)(a:Addr):Prop:=(∃kvs,Rd H a (.dK kvs))\/∃kvs,Rd H a (.dT kvs)
theorem Vu {X:Cx}{pins:List (Addr×Obj)}{σ:St}{H:Hp}{s:Shared}{a:Addr}(I:Inv X pins σ H s)(d:Zv H a) :
  s.TypeIs (.ref a) "dict"/\(∀b,Value.ref a=.ref b->∃ob,s.heap.get? b=some ob/\ob.dict=none)/\(a == sysModules)=false:=by
 rcases d with⟨kvs,e⟩|⟨kvs,e⟩
 ·obtain⟨_,hd,vs,_,dd⟩:=Lh I.hok e;refine⟨dd.typeIs,λb q=>?_,hd⟩;cases q;obtain⟨ob,_,_,h1,h2,_⟩:=dd;exact⟨ob,h1,h2.2.1⟩
 ·obtain⟨_,hd,xs,_,dd⟩:=Mt I.hok e;refine⟨dd.typeIs,λb q=>?_,hd⟩;cases q;obtain⟨ob,_,_,h1,h2,_⟩:=dd;exact⟨ob,h1,h2.2.1⟩
section
variable {X:Cx}{pins:List (Addr×Obj)}{σ:St}{H:Hp}{s:Shared}{a:Addr}{y d:V}{u r:Value}{o:Option V}{A:Around}{E:Value->Shared->Prop}
theorem XE {Q:Value->Shared->Prop}(hu:A.units+1<cLine)(I:Inv X pins σ H s)(g:EO H a y o)(ry:RelV y u)(h:∀w' s',Inv X pins σ H s'->RelV (o.getD .non) w'->Q w' s') :
  wpAny (model X.prog X.w) A (call (.builtin "dict.get") [.ref a,u]) Q E s:=by
 rcases g with⟨kvs,k,e,ey,l⟩|⟨kvs,k,b,e,ey,eb,l⟩
 ·subst ey;obtain⟨z,hd,vs,rel,dd⟩:=Lh I.hok e;refine fm e8 dd.typeIs g8 (gS _ _) (meets_dict_get (A6 X.prog X.w) a (HS ry) hd) ⟨_,dd.mapOf,h _ _ (I.tok _) ?_⟩;rw[l];exact(rel.val k).getD rfl
 ·subst ey;cases(show u=Value.ref b from ry);obtain⟨z,hd,xs,rel,dd⟩:=Mt I.hok e;refine fm e8 dd.typeIs g8 (gS _ _) (meetsH_dict_get (tupleKind (A6 X.prog X.w)) a b hd) ⟨du hu,k,xs,KS I.hok eb,dd,h _ _ (I.tok _) ?_⟩;rw[l];exact(rel.val k).getD rfl
end
def Xr (td ty:TE):TE:=λσ H Q=>td σ H λx H1=>∃a,x=.ref a/\Zv H1 a/\ty σ H1 λy H2=>∃o,EO H2 a y o/\Q (o.getD .non) H2
def XB (td ty:TE):TE:=λσ H Q=>td σ H λx H1=>∃a,x=.ref a/\Zv H1 a/\ty σ H1 λy H2=>∃kvs k v,H2 a=some (.dK kvs)/\y=kV k/\F5 kvs k=some v/\Q v (upd H2 a (.dK (Lf kvs k)))
section
variable {X:Cx}{o e f:Expr}{apos cpos:Pos}{td ty tx:TE}
theorem Ud (hu:X.A.units+1<cLine)(ho:PE X o td)(he:PE X e ty)(m:M1 X o "get" apos e cpos):PE X (.Call (.Attribute o "get" apos) [e] [] cpos) (Xr td ty):=by
 intro pins s σ H Q I h;refine wpAny_Call_method m.base m.few m.line eh e8 PySem.F.type_dict_get (BN (ho pins s σ H _ I h) λu s1 z9=>?_);obtain⟨x,H1,I1,rx,a,ex,d,q1⟩:=z9;subst ex;obtain rfl:u=Value.ref a:=rx;obtain⟨t1,t2,_⟩:=Vu I1 d;refine⟨t1,t2,?_⟩;rw[m.trees];refine dD rfl (fN (gd (BN (he pins s1 σ H1 _ I1 q1) λiv s2 ⟨y,H2,I2,ry,ov,g,q2⟩=>gz ?_)));exact XE hu I2 g ry λw' s3 I3 rw'=>⟨_,H2,I3,rw',q2⟩
theorem UU (ho:PE X o td)(he:PE X e ty)(m:M1 X o "pop" apos e cpos):PE X (.Call (.Attribute o "pop" apos) [e] [] cpos) (XB td ty):=by
 intro pins s σ H Q I h;refine wpAny_Call_method m.base m.few m.line eh hV PySem.F.type_dict_pop (BN (ho pins s σ H _ I h) λu s1 z9=>?_);obtain⟨x,H1,I1,rx,a,ex,d,q1⟩:=z9;subst ex;obtain rfl:u=Value.ref a:=rx;obtain⟨t1,t2,_⟩:=Vu I1 d;refine⟨t1,t2,?_⟩;rw[m.trees];refine dD rfl (fN (gd (BN (he pins s1 σ H1 _ I1 q1) λiv s2 ⟨y,H2,I2,ry,kvs,k,v,ea,ey,l,q2⟩=>gz ?_)));subst ey;exact YF I2 ea ry l (.inl rfl) λw' s3 I3 rw'=>⟨v,_,I3,rw',q2⟩
end
section
variable {X:Cx}
def XO (K:PySem.W.Frag):R2:=λx y H Q=>∃a b xs ys,x=.ref a/\y=.ref b/\AW K H a xs/\AW K H b ys/\xs.length+ys.length<=sizeLine/\
 (xs=[]->Q (.ref b) H)/\(xs≠[]->ys=[]->Q (.ref a) H)/\(xs≠[]->ys≠[]->∀p,H p=none->Q (.ref p) (upd H p (.tup (xs++ys))))
theorem U4:IL X (binaryOp .Add) (XO X.K):=by
 intro pins s σ H x y v u Q I rx ry h;obtain⟨a,b,xs,ys,rfl,rfl,ha,hb,hz,q0,q1,q2⟩:=h
 by_cases hx:xs=[]
 ·subst hx;cases rx;cases ry;obtain⟨its,r1,p1,_⟩:=I.tuple ha;obtain⟨its2,r2,p2,_⟩:=I.tuple hb;cases r1;obtain⟨⟨cls,dd,data,sl⟩,ho,hc,n,hd⟩:=id p1;obtain⟨⟨cls2,dd2,data2,sl2⟩,ho2,hc2,n2,hd2⟩:=id p2;simp only at hc hd hc2 hd2;subst hc hd hc2 hd2;exact gr ⟨_,ho,rfl⟩ ⟨_,ho2,rfl⟩ gI iw eF eo (dS _ _) (tuple_addW0 a b _ _ n n2 dd dd2 sl sl2 rfl) ⟨ho,ho2,.ref b,H,I,rfl,q0 rfl⟩
 ·exact VN pins s σ H _ _ v u Q I rx ry ⟨a,b,xs,ys,rfl,rfl,ha,hb,hx,hz,q1 hx,q2 hx⟩
end
inductive Tr where
 |non
 |bl (b:Bool)
 |int (i:Int)
 |str (z:Str)
 |tup (ts:List Tr)
 |lst (ts:List Tr)
mutual
def Rep (F:Addr->Prop)(H:Hp):Tr->V->Prop
 | .non,v=>v=.non
 | .bl b,v=>v=.bl b
 | .int i,v=>v=.int i
 | .str z,v=>v=.str z
 | .tup ts,v=>∃a vs,v=.ref a/\H a=some (.tup vs)/\Ct F H ts vs
 | .lst ts,v=>∃a vs,v=.ref a/\F a/\H a=some (.lst vs)/\Ct F H ts vs
def Ct (F:Addr->Prop)(H:Hp):List Tr->List V->Prop
 |[],vs=>vs=[]
 |t::ts,vs=>∃v us,vs=v::us/\Rep F H t v/\Ct F H ts us
end
mutual
def Tr.dep:Tr->Nat
 | .tup ts=>1+Tr.deps ts
 | .lst ts=>1+Tr.deps ts
 |_=>1
def Tr.deps:List Tr->Nat
 |[]=>0
 |t::ts=>max (Tr.dep t) (Tr.deps ts)
end
mutual
theorem Rep.same {F:Addr->Prop}{H H':Hp}(s:Aw H H'):∀(t:Tr) (v:V),Rep F H t v->Rep F H' t v
 | .non,_,h=>h
 | .bl _,_,h=>h
 | .int _,_,h=>h
 | .str _,_,h=>h
 | .tup ts,_,⟨a,vs,e,ha,hr⟩=>⟨a,vs,e,s.get ha,Ct.same s ts vs hr⟩
 | .lst ts,_,⟨a,vs,e,fa,ha,hr⟩=>⟨a,vs,e,fa,s.get ha,Ct.same s ts vs hr⟩
theorem Ct.same {F:Addr->Prop}{H H':Hp}(s:Aw H H'):∀(ts:List Tr) (vs:List V),Ct F H ts vs->Ct F H' ts vs
 |[],_,h=>h
 |t::ts,_,⟨v,us,e,h1,h2⟩=>⟨v,us,e,Rep.same s t v h1,Ct.same s ts us h2⟩
end
theorem Ct.len {F:Addr->Prop}{H:Hp}:∀(ts:List Tr) (vs:List V),Ct F H ts vs->vs.length=ts.length
 |[],_,h=>by rw[show _=[] from h];rfl
 |t::ts,_,⟨v,us,e,_,h2⟩=>by rw[e,aS,aS,Ct.len ts us h2]
theorem Ct.get {F:Addr->Prop}{H:Hp}:∀{ts:List Tr} {vs:List V},Ct F H ts vs->∀{i:Nat} {v:V},vs[i]?=some v->∃t,ts[i]?=some t/\Rep F H t v
 |[],_,h,i,v,hv=>by rw[show _=[] from h] at hv;simp at hv
 |t::ts,_,⟨w,us,e,h1,h2⟩,0,v,hv=>by
  rw[e] at hv;cases(aI hv);exact⟨t,rfl,h1⟩
 |t::ts,_,⟨w,us,e,h1,h2⟩,i+1,v,hv=>by
  rw[e] at hv;obtain⟨t',e1,e2⟩:=Ct.get h2 (i:=i) (v:=v) (by simpa using hv);exact⟨t',by simpa using e1,e2⟩
theorem Tr.deps_get:∀{ts:List Tr} {i:Nat} {t:Tr},ts[i]?=some t->Tr.dep t<=Tr.deps ts
 |t::ts,0,t',e=>by cases(aI e);exact Nat.le_max_left _ _
 |t::ts,i+1,t',e=>aX (Tr.deps_get (ts:=ts) (i:=i) (by simpa using e)) (Nat.le_max_right _ _)
section
variable {X:Cx}{pins:List (Addr×Obj)}{σ:St}{H:Hp}{s:Shared}{F G:Addr->Prop}
mutual
theorem W6 (I:Inv X pins σ H s):∀(t:Tr) (A:Around) (v u:V) (vv uu:Value),A.units+t.dep<cLine->Rep F H t v->Rep G H t u->RelV v vv->RelV u uu->SeqAt.EqAt A s vv uu true
 | .non,A,v,u,vv,uu,_,h1,h2,r1,r2=>by
  rw[show v=V.non from h1] at r1;rw[show u=V.non from h2] at r2;cases r1;cases r2;exact dq _
 | .bl b,A,v,u,vv,uu,_,h1,h2,r1,r2=>by
  rw[show v=V.bl b from h1] at r1;rw[show u=V.bl b from h2] at r2;cases r1;cases r2;exact dq _
 | .int i,A,v,u,vv,uu,_,h1,h2,r1,r2=>by
  have:=Jm (A:=A) (s:=s) r1 r2 (by rw[show v=V.int i from h1];rfl) (by rw[show u=V.int i from h2];rfl);rw[show v=V.int i from h1,show u=V.int i from h2] at this;have e:Ko (V.int i) (V.int i)=true:=by rw[pure_eq rfl rfl];simp
  rw[e] at this;exact this
 | .str z,A,v,u,vv,uu,_,h1,h2,r1,r2=>by
  have:=Jm (A:=A) (s:=s) r1 r2 (by rw[show v=V.str z from h1];rfl) (by rw[show u=V.str z from h2];rfl);rw[show v=V.str z from h1,show u=V.str z from h2] at this;have e:Ko (V.str z) (V.str z)=true:=by rw[pure_eq rfl rfl];simp
  rw[e] at this;exact this
 | .tup ts,A,v,u,vv,uu,hA,⟨a,vs,e1,ha,hr1⟩,⟨b,us,e2,hb,hr2⟩,r1,r2=>by
  subst e1 e2;cases r1;cases r2
  by_cases hab:a=b
  ·subst hab;exact dq _
  have hA':A.units+(1+Tr.deps ts)<cLine:=hA;obtain⟨its,rv1,p1,_⟩:=I.tuple (AW.of (K:=X.K) ha);obtain⟨its2,rv2,p2,_⟩:=I.tuple (AW.of (K:=X.K) hb);have l1:=rv1.length.symm.trans (Ct.len ts vs hr1);have l2:=rv2.length.symm.trans (Ct.len ts us hr2);have q:=gu (A:=A) (s:=s) (e:=λ_=>true) p1 p2 (by omega) (λj g1 g2=>Kj I ts A.in1 vs us its its2 (by show A.units+1+Tr.deps ts<cLine;omega) hr1 hr2 rv1 rv2 j (by simpa using g1) (by simpa using g2));have e:((List.range (min its.toArray.size its2.toArray.size)).all (λ_=>true)&&its.toArray.size == its2.toArray.size)=true:=by
   simp[l1,l2]
  rw[e] at q;exact fX hab q
 | .lst ts,A,v,u,vv,uu,hA,⟨a,vs,e1,_,ha,hr1⟩,⟨b,us,e2,_,hb,hr2⟩,r1,r2=>by
  subst e1 e2;cases r1;cases r2
  by_cases hab:a=b
  ·subst hab;exact dq _
  have hA':A.units+(1+Tr.deps ts)<cLine:=hA;obtain⟨its,rv1,p1,_⟩:=I.list (AV.of (K:=X.K) ha);obtain⟨its2,rv2,p2,_⟩:=I.list (AV.of (K:=X.K) hb);have l1:=rv1.length.symm.trans (Ct.len ts vs hr1);have l2:=rv2.length.symm.trans (Ct.len ts us hr2);have q:=SeqAt.RcAt.lists (A:=A) (s:=s) (e:=λ_=>true) p1.isList p2.isList (by simp[l1,l2]) (by omega) (λj g1 g2=>Kj I ts A.in1 vs us its its2 (by show A.units+1+Tr.deps ts<cLine;omega) hr1 hr2 rv1 rv2 j (by simpa using g1) (by simpa using g2));have e:((List.range its.toArray.size).all (λ_=>true))=true:=by simp
  rw[e] at q;exact fX hab q
theorem Kj (I:Inv X pins σ H s):∀(ts:List Tr) (A:Around) (vs us:List V) (its its2:List Value),A.units+Tr.deps ts<cLine->Ct F H ts vs->Ct G H ts us->A5 vs its->A5 us its2->∀(j:Nat) (g1:j<its.length) (g2:j<its2.length),SeqAt.EqAt A s its[j] its2[j] true
 |[],A,vs,us,its,its2,_,h1,h2,r1,r2=>λj g1 g2=>by
  rw[show vs=[] from h1] at r1;cases r1;simp at g1
 |t::ts,A,vs,us,its,its2,hA,⟨v,vr,e1,a1,b1⟩,⟨u,ur,e2,a2,b2⟩,r1,r2=>by
  subst e1 e2;have hA':A.units+max (Tr.dep t) (Tr.deps ts)<cLine:=hA;cases r1 with
  |cons p1 q1=>
   cases r2 with
   |cons p2 q2=>
    intro j g1 g2;cases j with
    |zero=>exact W6 I t A v u _ _ (by omega) a1 a2 p1 p2
    |succ j=>exact Kj I ts A vr ur _ _ (by omega) b1 b2 q1 q2 j (by simpa using g1) (by simpa using g2)
end
end
section
variable {X:Cx}
def Za:R2:=λx y H Q=>∃t F G,t.dep<=100/\Rep F H t x/\Rep G H t y/\Q (.bl false) H
theorem W7 (hu:X.A.units+150<cLine):IL X (compareOp .NotEq) Za:=by
 intro pins s σ H x y v u Q I rx ry h;obtain⟨t,F,G,hd,h1,h2,q⟩:=h;have Rr:∀z:V,ET z=true\/(∃b,z=.bl b)->x=z->y=z->wpAny (model X.prog X.w) X.A (compareOp .NotEq v u) (EP X pins σ Q) X.xe s:=λz hz e1 e2=>by
  refine JO pins s σ H x y v u Q I rx ry ⟨?_,?_⟩
  ·subst e1 e2;rcases hz with hz|⟨b,rfl⟩
   ·cases y<;>first|rfl|exact absurd (show false=true from hz) ay
   ·rfl
  ·rw[e1,e2];simpa using q
 cases t with
 |non=>exact Rr _ (.inl rfl) h1 h2
 |bl b=>exact Rr _ (.inr ⟨b,rfl⟩) h1 h2
 |int i=>exact Rr (.int i) (.inl rfl) h1 h2
 |str z=>exact Rr (.str z) (.inl rfl) h1 h2
 |tup ts=>
  obtain⟨a,vs,rfl,ha,hr1⟩:=h1;obtain⟨b,us,rfl,hb,hr2⟩:=h2;cases rx;cases ry;have hd':1+Tr.deps ts<=100:=hd;obtain⟨its,rv1,p1,_⟩:=I.tuple (AW.of (K:=X.K) ha);obtain⟨its2,rv2,p2,_⟩:=I.tuple (AW.of (K:=X.K) hb);have l1:=rv1.length.symm.trans (Ct.len ts vs hr1);have l2:=rv2.length.symm.trans (Ct.len ts us hr2);have q2:=SeqAt.RcNeAt.tuples (A:=X.A) (s:=s) (e:=λ_=>true) p1 p2 (by omega) (λj g1 g2=>Kj I ts X.A.in1 vs us its its2 (by show X.A.units+1+Tr.deps ts<cLine;omega) hr1 hr2 rv1 rv2 j (by simpa using g1) (by simpa using g2));have e:(!((List.range (min its.toArray.size its2.toArray.size)).all (λ_=>true)&&its.toArray.size == its2.toArray.size))=false:=by
   simp[l1,l2]
  rw[e] at q2;exact q2 _ _ _ _ ⟨.bl _,H,I,rfl,q⟩
 |lst ts=>
  obtain⟨a,vs,rfl,_,ha,hr1⟩:=h1;obtain⟨b,us,rfl,_,hb,hr2⟩:=h2;cases rx;cases ry;have hd':1+Tr.deps ts<=100:=hd;obtain⟨its,rv1,p1,_⟩:=I.list (AV.of (K:=X.K) ha);obtain⟨its2,rv2,p2,_⟩:=I.list (AV.of (K:=X.K) hb);have l1:=rv1.length.symm.trans (Ct.len ts vs hr1);have l2:=rv2.length.symm.trans (Ct.len ts us hr2);have q2:=SeqAt.RcNeAt.lists (A:=X.A) (s:=s) (e:=λ_=>true) p1.isList p2.isList (by simp[l1,l2]) (by omega) (λj g1 g2=>Kj I ts X.A.in1 vs us its its2 (by show X.A.units+1+Tr.deps ts<cLine;omega) hr1 hr2 rv1 rv2 j (by simpa using g1) (by simpa using g2));have e:(!(List.range its.toArray.size).all (λ_=>true))=false:=by simp
  rw[e] at q2;exact q2 _ _ _ _ ⟨.bl _,H,I,rfl,q⟩
end
theorem UZ {K:PySem.W.Frag}{a:Addr}{H:Hp}{xs:List V}(h:H a=some (.tup xs)):JP (XZ K a) H xs:=λH' s i=>
 ⟨λhi=>⟨xs,xs[i],AW.of (s.get h),by simp[hi]⟩,λx H'' y=>⟨y.1,λ_=>y.2 xs (AW.of (s.get h))⟩,λhi=>⟨xs,AW.of (s.get h),hi⟩⟩
theorem Mc {A:Around}{k:Nat}(hr:Room k A):A.units+150<cLine:=by have:=hr.un;omega
def Xb (P:Program)(w:World)(K:PySem.W.Frag)(mg:Str->Option Value)(base:Heap)(k:Nat)(C:Addr)(x:Str)(ps:List Str)(sp:Sp):Prop:=
 ∃(f:Addr) (fd:FuncData),FnOk P w K mg base Ef k f fd ps sp/\Mk K C f/\mg x=some (.ref C)/\Binds K fd ps []
def Sv (d:Addr)(o:Obj)(kvs:List (Key×V)):It:=
 ⟨λi H=>H d=some (.frz o (.dK kvs))/\i<kvs.length,λi H x H'=>H'=H/\∃k v,kvs[i]?=some (k,v)/\x=kV k,λi H=>H d=some (.frz o (.dK kvs))/\kvs.length<=i⟩
theorem LX {P:Program}{w:World}{k:Key}{u:Value}(h:(A6 P w).is k u=true):RelV (kV k) u:=by
 rcases BY h with⟨i,t,rfl,rfl⟩|⟨x,t,rfl,rfl⟩
 ·exact⟨t,rfl⟩
 ·exact⟨t,rfl⟩
theorem KE {X:Cx}{pins:List (Addr×Obj)}{σ:St}{H:Hp}{s:Shared}{d:Addr}{o:Obj}{kvs:List (Key×V)}{es:Array DictEntry}{ep:Nat}(I:Inv X pins σ H s)(h:H d=some (.frz o (.dK kvs)))(he:o.data=.dict es ep) :
  (d == sysModules)=false/\∃vs,KV kvs vs/\s.heap.DictAt (A6 X.prog X.w) d vs ep:=by
 obtain⟨ho,_,hs,vs,r,o',es',ep',ho',h1,h2,h3⟩:=I.hok d _ h;rw[ho] at ho';cases ho';rw[he] at h2;injection h2 with e1 e2
 subst e1 e2;exact⟨hs,vs,r,o,es,ho,h1,he,h3⟩
theorem Tx {P:Program}{w:World}{K:PySem.W.Frag}{tg:Expr}(d it:Addr)(o:Obj)(kvs:List (Key×V))(es:Array DictEntry)(ep:Nat)(he:o.data=.dict es ep):Turn P w K tg (Sv d o kvs) [it] it (λi h=>h.IsKeyIter it d i kvs.length ep) where
 mem:=by simp
 obj:=λi h st b hb=>by
  have e:b=it:=by simpa using hb
  subst e;obtain⟨o,e,c,d⟩:=st;exact⟨o,e,λv z=>by rw[d] at z;cases z⟩
 keep:=λi h h' st k=>st.at λo e=>k it (by simp) o e
 item:=by
  intro X hP hw hK hc i pins s σ H E I hf st hg;subst hP hw hK;obtain⟨hq,hi⟩:=hg;obtain⟨_,vs,r,hat⟩:=KE I hq he;have hl:kvs.length=vs.length:=cw r;obtain⟨f0,f1,f2,f3,f4,f5⟩:=hf it (by simp);have ek:kvs[i]?=some kvs[i]:=aC hi;have ev:vs[i]?=some vs[i]:=aC (by omega);have rk:=r.keys;have e1:kvs[i].1=(vs[i]'(by omega)).1:=by
   have:=congrArg (λl=>l[i]?) rk;simp only[List.getElem?_map,ek,ev,Option.map_some] at this;exact aI this
  rw[hl] at st;refine wpAny_pyNext_dict_item (k:=(vs[i]'(by omega)).1) (v:=(vs[i]'(by omega)).2) st hat ev λkey h' hkey st' sb=>?_
  have I1:Inv X pins σ H { s with heap:=h' }:=I.turned (t':=s.toks) (λb o hb e=>(sb.2 b hb).trans e) f0 f1 f3 f4 f5;rw[<-hl] at st';obtain⟨o2,e,c,dd⟩:=id st';exact⟨key,rfl,Mh (s:={ s with heap:=h' }) e c dd (by decide) ⟨kV kvs[i].1,H,I1,LX (by rw[e1];exact hkey),⟨rfl,kvs[i].1,kvs[i].2,ek,rfl⟩,st',λb hb=>(hf b hb).1⟩⟩
 done:=by
  intro X hP hw hK hc i pins s σ H E I hf st hg;subst hP hw hK;obtain⟨hq,hi⟩:=hg;obtain⟨_,vs,r,hat⟩:=KE I hq he;have hl:kvs.length=vs.length:=cw r;obtain⟨f0,f1,f2,f3,f4,f5⟩:=hf it (by simp);rw[hl] at st;exact wpAny_pyNext_dict_end (I.ok.hd hc) st hat (cF (by omega)) λh' eb=>⟨rfl,I.turned (t':=s.toks) (λb o hb e=>eb b o hb e) f0 f1 f3 f4 f5⟩
 self:=λ_ _ _ _ _ st h=>wpAny_pyIter_keyiter st h
theorem Inv.freeze {X:Cx}{pins:List (Addr×Obj)}{σ:St}{H:Hp}{s:Shared}{d:Addr}{o:Obj}{kvs:List (Key×V)}(I:Inv X pins σ H s)(h:H d=some (.dK kvs))(ho:s.heap.get? d=some o):Inv X pins σ (upd H d (.frz o (.dK kvs))) s:=by
 have nd:∀b,H b=none->upd H d (.frz o (.dK kvs)) b=none:=λb hb=>by
  rw[Ak (λz=>by rw[z,h] at hb;cases hb)];exact hb
 refine⟨I.ok,I.os,I.bare,⟨I.base.keep,I.base.slot,λb ob e1 e2 e3=>nd b (I.base.free b ob e1 e2 e3),I.base.there,λb xs e=>?_,λb o2 u e=>?_,λb ps e=>?_⟩,I.loc,I.cell,nd _ I.free,λx c e=>nd c (I.freeC x c e),λp hp=>?_,λb u e=>?_,I.len⟩
 ·have:=I.base.tups b xs e;rw[Ak (BW this h (by intro z;cases z))];exact this
 ·have:=I.base.frzs b o2 u e;rw[Ak (BW this h (by intro z;cases z))];exact this
 ·obtain⟨more,q⟩:=I.base.tbls b ps e;exact⟨more,by rw[Ak (BW q h (by intro z;cases z))];exact q⟩
 ·obtain⟨p1,p2,p3⟩:=I.pin p hp;exact⟨p1,nd _ p2,p3⟩
 ·by_cases hb:b=d
  ·subst hb;rw[Ac] at e;cases e;exact⟨ho,(I.hok b _ h).stay (λc v _ r=>r) (λc r=>by rw[Ak (BW r h (by intro z;cases z))];exact r) λc xs r=>by rw[Ak (BW r h (by intro z;cases z))];exact r⟩
  ·rw[Ak hb] at e;exact(I.hok b u e).stay (λc v _ r=>r) (λc r=>by rw[Ak (BW r h (by intro z;cases z))];exact r) λc xs r=>by rw[Ak (BW r h (by intro z;cases z))];exact r
section
variable {X:Cx}{tg:Expr}
def YU (tl:TE):TI:=λσ H R=>tl σ H λx H1=>∃d kvs,x=.ref d/\H1 d=some (.dK kvs)/\∀o,R (Sv d o kvs) (upd H1 d (.frz o (.dK kvs)))
theorem LG {l:Expr}{tl:TE}(hl:PE X l tl):PI X tg l (YU tl):=by
 intro pins s σ H R I h;refine BN (hl pins s σ H _ I h) λv s1 ⟨x,H1,I1,r1,q1⟩=>?_
 obtain⟨d,kvs,e,hq,q⟩:=q1;subst e;cases r1;obtain⟨_,_,vs,r,o,es,ep,ho,_,he,_⟩:=I1.hok d _ hq;have I2:=I1.freeze hq ho;obtain⟨hs,vs,r,hat⟩:=KE I2 Ac he;have hl:kvs.length=vs.length:=cw r;refine wpAny_pyIter_dict hs hat ?_;refine⟨s1.heap.objs.size,[s1.heap.objs.size],_,_,_,rfl,I2.kept (t':=s1.toks) λb o e=>af _ e,Tx d _ o kvs es ep he,⟨_,aH _ rfl,rfl,by rw[hl];rfl⟩,λb hb=>?_,q o⟩;have e:b=s1.heap.objs.size:=by simpa using hb
 subst e;exact I2.fpOk (au _) (I2.hok.fresh (au _))
end
theorem Vv {d:Addr} {o:Obj} {kvs:List (Key×V)} {g:TG} {tb:TS} {D:Ends} {σ:St} {H:Hp} (Pv:Nat->St->Hp->Prop) (h0:Pv 0 σ H) (hl:∀(i:Nat) (σ:St) (H:Hp),i<=kvs.length->Pv i σ H->H d=some (.frz o (.dK kvs)))
  (turn:∀(i:Nat) (k:Key) (v:V) (σ:St) (H:Hp),kvs[i]?=some (k,v)->Pv i σ H->g (kV k) σ H λσ2 H2=>tb { nx:=Pv (i+1),rt:=D.rt,bk:=D.nx,ct:=Pv (i+1) } σ2 H2)
  (done:∀(σ:St) (H:Hp),Pv kvs.length σ H->D.nx σ H) :
  ∃W:Nat->Nat->St->Hp->Prop,(∃m,W 0 m σ H)/\∀i m σ H,W i m σ H->
   ((Sv d o kvs).stop i H/\D.nx σ H)\/((Sv d o kvs).go i H/\∃N:St->Hp->Prop,(∀σ' H',N σ' H'->∃m',m'<m/\W (i+1) m' σ' H')/\∀x H',(Sv d o kvs).yld i H x H'->g x σ H' λσ2 H2=>tb { D with nx:=N,ct:=N,bk:=D.nx } σ2 H2):=by
 refine⟨λi m σ H=>m=kvs.length-i/\i<=kvs.length/\Pv i σ H,⟨_,rfl,a6 _,h0⟩,?_⟩
 rintro i m σ H ⟨rfl,hi,hp⟩
 by_cases hlt:i<kvs.length
 ·refine .inr ⟨⟨hl i σ H hi hp,hlt⟩,Pv (i+1),λσ' H' hn=>⟨kvs.length-(i+1),by omega,rfl,hlt,hn⟩,?_⟩
  rintro x H' ⟨rfl,k,v,e,rfl⟩
  exact turn i k v σ _ e hp
 ·have e:i=kvs.length:=by omega
  subst e;exact .inl ⟨⟨hl _ σ H hi hp,au _⟩,done σ H hp⟩
theorem EO.kf {H:Hp}{a:Addr}{o:Obj}{kvs:List (Key×V)}{k:Key}(e:H a=some (.frz o (.dK kvs))):EO H a (kV k) (F5 kvs k):=.inl ⟨kvs,k,.inr ⟨o,e⟩,rfl,rfl⟩
theorem Inv.thaw {X:Cx}{pins:List (Addr×Obj)}{σ:St}{H:Hp}{s:Shared}{d:Addr}{o:Obj}{kvs:List (Key×V)}(I:Inv X pins σ H s)(h:H d=some (.frz o (.dK kvs)))(nf:∀o u,X.H₀ d≠some (.frz o u)):Inv X pins σ (upd H d (.dK kvs)) s:=by
 have nd:∀b,H b=none->upd H d (.dK kvs) b=none:=λb hb=>by
  rw[Ak (λz=>by rw[z,h] at hb;cases hb)];exact hb
 refine⟨I.ok,I.os,I.bare,⟨I.base.keep,I.base.slot,λb ob e1 e2 e3=>nd b (I.base.free b ob e1 e2 e3),I.base.there,λb xs e=>?_,λb o2 u e=>?_,λb ps e=>?_⟩,I.loc,I.cell,nd _ I.free,λx c e=>nd c (I.freeC x c e),λp hp=>?_,λb u e=>?_,I.len⟩
 ·have:=I.base.tups b xs e;rw[Ak (BW this h (by intro z;cases z))];exact this
 ·have:=I.base.frzs b o2 u e;rw[Ak (λz=>nf o2 u (by rw[<-z];exact e))];exact this
 ·obtain⟨more,q⟩:=I.base.tbls b ps e;exact⟨more,by rw[Ak (BW q h (by intro z;cases z))];exact q⟩
 ·obtain⟨p1,p2,p3⟩:=I.pin p hp;exact⟨p1,nd _ p2,p3⟩
 ·by_cases hb:b=d
  ·subst hb;rw[Ac] at e;cases e;obtain⟨_,q⟩:=I.hok b _ h;exact Be.stay (o:=.dK kvs) q (λc v _ r=>r) (λc r=>by rw[Ak (BW r h (by intro z;cases z))];exact r) λc xs r=>by rw[Ak (BW r h (by intro z;cases z))];exact r
  ·rw[Ak hb] at e;exact(I.hok b u e).stay (λc v _ r=>r) (λc r=>by rw[Ak (BW r h (by intro z;cases z))];exact r) λc xs r=>by rw[Ak (BW r h (by intro z;cases z))];exact r
section
variable {X:Cx}
def IM (X:Cx)(D:Ends):Ends where
 nx:=λσ H=>∃d o kvs,(∀o u,X.H₀ d≠some (.frz o u))/\H d=some (.frz o (.dK kvs))/\D.nx σ (upd H d (.dK kvs))
 rt:=λv H=>∃d o kvs,(∀o u,X.H₀ d≠some (.frz o u))/\H d=some (.frz o (.dK kvs))/\D.rt v (upd H d (.dK kvs))
def YK (X:Cx)(tl:TE)(g:TG)(tb:TS):TS:=λD σ H=>tl σ H λx H1=>∃d kvs,x=.ref d/\H1 d=some (.dK kvs)/\∀o,∃W:Nat->Nat->St->Hp->Prop,(∃m,W 0 m σ (upd H1 d (.frz o (.dK kvs))))/\∀i m σ H,W i m σ H->
 ((Sv d o kvs).stop i H/\(IM X D).nx σ H)\/((Sv d o kvs).go i H/\∃N:St->Hp->Prop,(∀σ' H',N σ' H'->∃m',m'<m/\W (i+1) m' σ' H')/\∀x H',(Sv d o kvs).yld i H x H'->g x σ H' λσ2 H2=>tb { IM X D with nx:=N,ct:=N,bk:=(IM X D).nx } σ2 H2)
theorem Pc {tg l:Expr} {body:List Stmt} {tl:TE} {g:TG} {tb:TS} {pos:Pos} (hp:PassesOwn (model X.prog X.w) X.A X.env X.xe) (hc:X.calm=true) (hl:PE X l tl) (hg:PG X tg g) (hb:Qo X body tb)
  (hs:∀x,foldedSetIterable l X.env x=pure x:=by intro _;rfl):PS X (.For tg l body [] pos) (YK X tl g tb):=by
 intro pins s σ H D I h;refine BN (CQ (pos:=pos) hp hc (LG hl) hg hb hs pins s σ H (IM X D) I h) λf s' q=>?_
 cases f with
 |next=>
  obtain⟨σ',H',I',d,o,kvs,nf,hd,q⟩:=q;exact⟨σ',_,I'.thaw hd nf,q⟩
 |brk=>obtain⟨σ',H',I',q⟩:=q;exact False.elim q
 |cont=>obtain⟨σ',H',I',q⟩:=q;exact False.elim q
 |ret v=>
  obtain⟨x,σ',H',I',r,d,o,kvs,nf,hd,q⟩:=q;exact⟨x,σ',_,I'.thaw hd nf,r,q⟩
theorem K1 {d:Addr} {o:Obj} {kvs:List (Key×V)} {g:TG} {tb:TS} {D:Ends} {σ:St} {H:Hp} (nf:∀o u,X.H₀ d≠some (.frz o u)) (Pv:Nat->St->Hp->Prop) (h0:Pv 0 σ H) (hl:∀(i:Nat) (σ:St) (H:Hp),i<=kvs.length->Pv i σ H->H d=some (.frz o (.dK kvs)))
  (turn:∀(i:Nat) (k:Key) (v:V) (σ:St) (H:Hp),kvs[i]?=some (k,v)->Pv i σ H->g (kV k) σ H λσ2 H2=>tb { nx:=Pv (i+1),rt:=(IM X D).rt,bk:=(IM X D).nx,ct:=Pv (i+1) } σ2 H2)
  (done:∀(σ:St) (H:Hp),Pv kvs.length σ H->D.nx σ (upd H d (.dK kvs))) :
  ∃W:Nat->Nat->St->Hp->Prop,(∃m,W 0 m σ H)/\∀i m σ H,W i m σ H->
   ((Sv d o kvs).stop i H/\(IM X D).nx σ H)\/((Sv d o kvs).go i H/\∃N:St->Hp->Prop,(∀σ' H',N σ' H'->∃m',m'<m/\W (i+1) m' σ' H')/\∀x H',(Sv d o kvs).yld i H x H'->g x σ H' λσ2 H2=>tb { IM X D with nx:=N,ct:=N,bk:=(IM X D).nx } σ2 H2):=
 Vv (D:=IM X D) Pv h0 hl turn λσ H p=>⟨d,o,kvs,nf,hl _ σ H (au _) p,done σ H p⟩
end
theorem Wg {t u:TS}{D:Ends}{σ:St}{H:Hp}(M:St->Hp->Prop)(h1:∀N:St->Hp->Prop,(∀σ' H',M σ' H'->N σ' H')->t { D with nx:=N } σ H)(h2:∀σ' H',M σ' H'->u D σ' H'):SH t u D σ H:=h1 (u D) h2
end L2
namespace L2
section
open PySem
open Sem (wp wp_bind' wp_mono)
def Qp (o:Obj):Prop:=∃vs,o.data=.fields vs/\vs[2]?=some .none
def DictAt (h:Heap)(e:Addr)(d:Option Addr):Prop:=∃o,h.objs[e]?=some o/\o.dict=d/\Qp o
def DK {α:Type}(t:Sem α):Prop:=∀(M:Model) (Γ:Ctx) (Q:α->Pos->Shared->Prop) (E:Value->Pos->Shared->Prop) (p:Pos) (s:Shared) (e:Addr) (d:Option Addr),wp M Γ t Q E p s->DictAt s.heap e d->
 wp M Γ t (λa p s'=>Q a p s'/\DictAt s'.heap e d) (λv p s'=>E v p s'/\DictAt s'.heap e d) p s
variable {α β:Type}
theorem BK (a:α):DK (pure a:Sem α):=λ_ _ _ _ _ _ _ _ h j=>⟨h,j⟩
theorem Dl (w:String):DK (PySem.unsupported w:Sem α):=λ_ _ _ _ _ _ _ _ h _=>False.elim h
theorem Bf {m:Sem α}{f:α->Sem β}(h1:DK m)(h2:∀a,DK (f a)):DK (m >>= f):=by
 intro M Γ Q E p s e d h j;rw[wp_bind'] at h ⊢;exact wp_mono M Γ m (λa p' s' q=>h2 a M Γ Q E p' s' e d q.1 q.2) (λ_ _ _ q=>q) p s (h1 M Γ _ E p s e d h j)
theorem OF (a:Addr):DK (load a):=λM Γ Q E p s e d ⟨o,q,h⟩ j=>⟨o,q,h,j⟩
theorem Ma:DK stack:=λM Γ Q E p s e d h j=>⟨h,j⟩
theorem PJ (o:Obj):DK (alloc o):=λM Γ Q E p s e d h ⟨o1,q,hd⟩=>⟨h,o1,by
 show(s.heap.objs.push o)[e]?=some o1;have hlt:e<s.heap.objs.size:=(gB.mp q).1;rw[Array.getElem?_push,ai (a4 hlt)];exact q,hd⟩
theorem NV (a:Addr){f:Obj->Obj}(hf:∀o,(f o).dict=o.dict/\(Qp o->Qp (f o))):DK (update a f):=λM Γ Q E p s e d ⟨q0,h⟩ ⟨o1,q,hd,h2⟩=>⟨q0,h,by
 by_cases ea:a=e
 ·subst ea;refine⟨f o1,?_,by rw[(hf o1).1];exact hd,(hf o1).2 h2⟩;show(s.heap.objs.modify a f)[a]?=some (f o1);rw[hW,ak rfl,q];rfl
 ·refine⟨o1,?_,hd,h2⟩;show(s.heap.objs.modify a f)[e]?=some o1;rw[hW,ai ea];exact q⟩
theorem HB {c:Prop}[Decidable c]{t u:Sem α}(h1:DK t)(h2:DK u):DK (if c then t else u):=by
 split
 ·exact h1
 ·exact h2
theorem MV {i:Nat}(hi:i≠2)(x:Value)(o:Obj):(Obj.mapFields (·.setIfInBounds i x) o).dict=o.dict/\(Qp o->Qp (Obj.mapFields (·.setIfInBounds i x) o)):=by
 constructor
 ·unfold Obj.mapFields
  split<;>rfl
 ·rintro⟨vs,h1,h2⟩
  obtain⟨c,d,dt,sl⟩:=o;dsimp only at h1;subst h1;exact⟨_,rfl,by rw[Array.getElem?_setIfInBounds_ne hi];exact h2⟩
theorem P3 (v:Value):DK (fieldsOf v):=by
 unfold fieldsOf
 split
 ·refine Bf (OF _) λo=>?_
  split
  ·exact BK _
  ·exact Dl _
 ·exact Dl _
theorem Kk (v:Value)(i:Nat):DK (field v i):=by
 unfold field;refine Bf (P3 v) λvs=>?_
 split
 ·exact BK _
 ·exact Dl _
theorem HZ (v:Value){i:Nat}(hi:i≠2)(x:Value):DK (setField v i x):=by
 unfold setField updateField
 split
 ·refine Bf (OF _) λo=>?_
  split
  ·exact HB (NV _ (MV hi x)) (Dl _)
  ·exact Dl _
 ·exact Dl _
theorem Pg (ty:String)(vs:List Value):DK (newFields ty vs):=by
 unfold newFields newObj newObjAsIs;dsimp only
 split
 ·exact Bf (Dl _) λ_=>Bf (PJ _) λ_=>BK _
 ·exact Bf (PJ _) λ_=>BK _
theorem P7 (a b c d e:Value)(l:List Value):DK (EntryCells.newEntry a b c d e l):=Pg _ _
theorem O9:DK frameEnvs:=Bf Ma λ_=>BK _
theorem Pn (env:Env)(outer:List Env):DK (behindIsImport env outer):=by
 unfold behindIsImport;refine HB (BK _) ?_;refine HB (BK _) ?_;exact Bf (Kk _ _) λ_=>BK _
theorem PQ (env:Env)(i:Bool)(outer:List Env):DK (keptBack env i outer):=by
 unfold keptBack
 split
 ·refine HB (BK _) ?_;refine Bf (Bf Ma λ_=>BK _) λ_=>BK _
 ·exact BK _
theorem PP:∀l:List Env,DK (readyFrames l)
 |[]=>BK _
 |env::outer=>by
  unfold readyFrames
  split
  ·refine Bf (OF _) λo=>?_
   refine HB (BK _) ?_;refine Bf (Pn _ _) λ_=>Bf (PQ _ _ _) λ_=>Bf (NV _ λ_=>⟨rfl,λh=>h⟩) λ_=>PP outer
  ·exact Dl _
theorem QD (env:Env):DK (frameOf env):=by
 unfold frameOf;refine Bf O9 λl=>?_
 refine Bf ?_ λr=>?_
 ·unfold frameObject
  split
  ·exact BK _
  ·exact Bf (PP _) λ_=>BK _
 ·split
  ·exact BK _
  ·exact Dl _
theorem Nb (f:Addr)(b:Bool):DK (entryPlaceOf f b):=by
 unfold entryPlaceOf;refine Bf Ma λl=>?_
 split<;>exact BK _
theorem G0 (e:Value)(f:Option Addr):DK (setFlight e f):=by
 unfold setFlight;exact Bf (Kk _ _) λ_=>HB (HZ _ (by decide) _) (BK _)
theorem Ke (e:Value)(env:Env):DK (noteFrame e env):=by
 unfold noteFrame
 split
 ·rename_i fa _
  refine Bf (Kk _ _) λhead=>?_
  have rest:DK (do setField e 1 (<-EntryCells.newEntry head (<-frameOf env) .none (rawInt fa) .none (<-entryPlaceOf fa (head != .none)))):=
   Bf (QD _) λ_=>Bf (Nb _ _) λ_=>Bf (P7 _ _ _ _ _ _) λ_=>HZ _ (by decide) _
  refine HB ?_ rest;refine Bf (Kk _ _) λ_=>?_
  refine HB (BK _) ?_;exact Bf (HZ _ (by decide) _) λ_=>rest
 ·exact Dl _
theorem Jh (env:Env)(e:Value):DK (leaving env e):=Bf (Ke _ _) λ_=>G0 _ _
theorem DK.also {t:Sem α}(k:DK t){M:Model}{A:Around}{Q:α->Shared->Prop}{E:Value->Shared->Prop}{s:Shared}{e:Addr}{d:Option Addr}(j:DictAt s.heap e d)(h:wpAny M A t (λa s'=>DictAt s'.heap e d->Q a s') E s):wpAny M A t Q E s:=λΓ p hΓ=>
 wp_mono M Γ t (λ_ _ _ q=>q.1 q.2) (λ_ _ _ q=>q.1) p s (k M Γ _ _ p s e d (h Γ p hΓ) j)
theorem R5 {h:Heap}{e:Addr}{o:Obj}(q:h.get? e=some o)(f:Qp o):DictAt h e o.dict:=by
 unfold Heap.get? at q
 split at q
 ·cases q
 ·exact⟨o,q,rfl,f⟩
theorem DictAt.get {h:Heap}{e:Addr}{d:Option Addr}{o:Obj}(j:DictAt h e d)(q:h.get? e=some o):o.dict=d/\Qp o:=by
 obtain⟨o1,e1,h1⟩:=j;unfold Heap.get? at q;rw[e1] at q
 split at q
 ·cases q
 ·cases q;exact h1
end
end L2
namespace L2
open PySem PySem.Spec PyProof.Rows
theorem Be.get {P:Program}{w:World}{H:Hp}{h:Heap}{a:Addr}{o:HO}(x:Be P w H h a o):∃ob,h.get? a=some ob:=by
 cases o with
 |lst xs=>obtain⟨_,_,_,_,e⟩:=x;exact⟨_,e⟩
 |tup xs=>obtain⟨_,_,_,ob,e,_⟩:=x;exact⟨_,e⟩
 |dK kvs=>obtain⟨_,_,_,_,o,_,_,e,_⟩:=x;exact⟨_,e⟩
 |dT kvs=>obtain⟨_,_,_,_,o,_,_,e,_⟩:=x;exact⟨_,e⟩
 |set S n=>obtain⟨o,_,_,_,e,_⟩:=x;exact⟨_,e⟩
 |ins C dx fs=>obtain⟨_,_,_,e,_⟩:=x;exact⟨_,e⟩
 |own y=>obtain⟨_,e⟩:=x;exact⟨_,e⟩
 |xd fs=>obtain⟨_,⟨_,_,_,e,_⟩,_⟩:=x;exact⟨_,e⟩
 |rng lo hi=>obtain⟨_,_,_,e⟩:=x;exact⟨_,e⟩
 |frz ob u=>obtain⟨e,_⟩:=x;exact⟨_,e⟩
 |tbl ps=>exact⟨_,x⟩
 |met f y=>exact⟨_,x⟩
 |ext φ=>obtain⟨_,e,_⟩:=x;exact e
structure Fly (P:Program) (w:World) (outer:List Env) (H:Hp) (s:Shared) (ea:Addr) (cls:Value) (H':Hp) (B:Heap) (a0:Value) (s':Shared):Prop where
 os:s'.os=s.os
 bare:AllBare s'.gens
 un:Un (G4 outer) [] H H' s.heap s'.heap
 hok:IA P w H' B
 fl:Heap.FlyingW B outer ea cls a0 s'.heap
 kp:∀b o,s.heap.get? b=some o->H b=none->b∉G4 outer->B.get? b=some o
 th:∀b o,s.heap.get? b=some o->b∉G4 outer->∃o',B.get? b=some o'
 dj:∃d,DictAt s'.heap ea d
section
variable {P:Program}{w:World}{outer:List Env}{H H':Hp}{s s':Shared}{ea:Addr}{cls a0:Value}{B h' base:Heap}
theorem Fly.stay (F:Fly P w outer H s ea cls H' B a0 s')(hl:s.heap.FunFrames base outer)(hn:∀b∈G4 outer,H b=none)(sB:B.StaysIn h')(up:s'.heap.UpToSlots h'):Un (G4 outer) [] H H' s.heap h':=by
 have sl:∀b o,s.heap.get? b=some o->b∈G4 outer->∃sl,h'.get? b=some { o with slots:=sl }:=λb o q hb=>by
  obtain⟨z,e⟩:=F.un.slot b o q (hn b hb) hb (by simp);obtain⟨_,o',ho',hd⟩:=hl.mem hb;rw[q] at ho';cases ho';exact up b { o with slots:=z } e hd
 refine⟨λb o q n hb _=>sB b o (F.kp b o q n hb),λb o q _ hb _=>sl b o q hb,F.un.free,λb o q _=>?_,F.un.tups,F.un.frzs,F.un.tbls⟩
 by_cases hb:b∈G4 outer
 ·obtain⟨z,e⟩:=sl b o q hb;exact⟨_,e⟩
 ·obtain⟨o',e⟩:=F.th b o q hb;exact⟨o',sB b o' e⟩
theorem Fly.free (F:Fly P w outer H s ea cls H' B a0 s'):H' ea=none:=by
 cases e:H' ea with
 |none=>rfl
 |some u=>
  obtain⟨ob,q⟩:=(F.hok ea u e).get;rw[F.fl.2.1] at q;cases q
end
section
variable {X:Cx}{pins:List (Addr×Obj)}{σ:St}{H H':Hp}{s s':Shared}{ea:Addr}{cls a0:Value}{B h':Heap}
theorem Inv.landed (I:Inv X pins σ H s)(F:Fly X.prog X.w X.stack H s ea cls H' B a0 s')(sB:B.StaysIn h')(up:s'.heap.UpToSlots h'):Inv X pins σ H' { s' with heap:=h' }:=
 I.call' (s':={ s' with heap:=h' }) (ch:=[]) F.os (F.stay I.stack I.stkFree sB up) (F.hok.kept sB) F.bare (λb z=>nomatch z)
theorem Inv.hid (I:Inv X pins σ H s):IA X.prog X.w H (PySem.W.hideAll s.heap (G4 X.stack)):=λb u e=>by
 refine(I.hok b u e).stay (λc v hc q=>cy _ q λz=>?_) (λ_ q=>q) λ_ _ q=>q
 have:=I.stkFree c z;rcases hc with rfl|hc
 ·rw[e] at this;cases this
 ·rw[hc] at this;cases this
theorem Inv.hidFrames (I:Inv X pins σ H s):s.heap.FunFrames (PySem.W.hideAll s.heap (G4 X.stack)) X.stack:=
 gV I.stack λenv he a ha=>dH.mpr ⟨env,he,ha⟩
theorem Inv.made1 {h1:Heap}{vs:List Value}{l:List Env}{t':Nat}(I:Inv X pins σ H s)(hx:Heap.MadeExcOf s.heap h1 ea cls vs)(fl:Heap.FlyingW (PySem.W.hideAll s.heap (G4 X.stack)) l ea cls a0 h')(up:h1.UpToSlots h') :
  Un (G4 X.stack) [] H H s.heap h':=by
 have sl:∀b o,s.heap.get? b=some o->b∈G4 X.stack->∃sl,h'.get? b=some { o with slots:=sl }:=λb o q hb=>by
  obtain⟨_,o',ho',hd⟩:=I.stack.mem hb;rw[q] at ho';cases ho';exact up b _ (hx.keeps b o q) hd
 refine⟨λb o q _ hb _=>fl.1 b o (cy _ q hb),λb o q _ hb _=>sl b o q hb,λb o _ n _=>n,λb o q _=>?_,λ_ _ e=>e,λ_ _ _ e=>e,λb ps e=>⟨#[],by rw[e];simp⟩⟩
 by_cases hb:b∈G4 X.stack
 ·obtain⟨z,e⟩:=sl b o q hb;exact⟨_,e⟩
 ·exact⟨o,fl.1 b o (cy _ q hb)⟩
end
def ZK (X:Cx)(E:XK):Prop:=∀(pins:List (Addr×Obj)) (σ:St) (H:Hp) (s:Shared) (cls:Value) (h1:Heap) (ea:Addr) (vs:List Value),Inv X pins σ H s->Heap.MadeExcOf s.heap h1 ea cls vs->E cls none H->X.xe (.ref ea) { s with heap:=h1 }
abbrev Qq:List Value:=[.type "ValueError",.type "Exception",.type "BaseException",.type "object"]
theorem V6 {K:PySem.W.Frag}{h:Heap}{C:Addr}(Kh:K.In h)(q:PySem.W.excIn K C Qq "ValueError.__new__"=true) :
  ∃bm N nm qn bs hd sn sub ab col dd k0 k1 k2 k3 k5 mN,h.get? C=some (excClassObj nm qn C N bs bm hd sn sub ab col dd k0 k1 k2 k3 k5 "ValueError.__new__")/\h.Ns N mN/\mN "__init__"=none/\OwnTail h Qq bm:=by
 unfold PySem.W.excIn at q
 split at q
 ·rename_i dx ck slots found
  split at q
  ·rename_i C0 tl p0 p1 p2 p3 made p5 em es
   rw[aQ,aQ,aQ,aQ,aQ] at q;obtain⟨⟨⟨⟨⟨z1,z2⟩,z3⟩,z4⟩,z5⟩,z6⟩:=q;have y1:C0=C:=bQ.mp z1;have y2:made="ValueError.__new__":=bQ.mp z2;have y3:ck.hasDel=false:=by simpa using z3
   subst y1 y2;obtain⟨nm,bs,mro,ns,qn,hd,sn,sub,ab,col,del⟩:=ck;simp only at em y3 z5 z6;subst em y3;have es':slots = #[p0,p1,p2,p3,some (.builtin "ValueError.__new__"),p5]:=by
    obtain⟨l⟩:=slots;simp only at es;rw[es]
   subst es';exact⟨tl,ns,nm,qn,bs,hd,sn,sub,ab,col,dx,p0,p1,p2,p3,p5,_,Kh _ _ found,.of_isNs (PySem.W.isNs_of_in Kh z5),PySem.W.nsMap_none_of_in Kh z5 (bQ.mp z6),PySem.W.tail_of_in Kh z4⟩
  ·cases q
 ·cases q
section
variable {X:Cx}{E:XK}{x:Str}{C:Addr}{np cpos pos:Pos}
theorem Gi (R:ZK X E)(hc:X.calm=true)(hm:X.mg x=some (.ref C))(hq:PySem.W.excIn X.K C Qq "ValueError.__new__"=true)(hg:Gl X x)(hd:(x == ("__debug__":Str))=false:=by decide) :
  PS X (.Raise (some (.Call (.Name x np) [] [] cpos)) none pos) (λ_ _ H=>E (.ref C) none H):=by
 intro pins s σ H D I h;obtain⟨tl,N,nm,q,bs,hdct,sn,sub,ab,col,dd,k0,k1,k2,k3,k5,mN,hC,hN,hni,T⟩:=V6 I.kIn hq;refine wpAny_Raise_call_subT (C:=C) (nm:=nm) (q:=q) (N:=N) (bs:=bs) (bm:=tl) (hdct:=hdct) (sn:=sn) (sub:=sub) (ab:=ab) (col:=col) (dd:=dd) (k0:=k0) (k1:=k1) (k2:=k2) (k3:=k3) (k5:=k5)
  gw (mN:=mN) (T.hasType PySem.F.excBase_ValueError.hasBase) (I.ok.hd hc) rfl hni (GF I hg hm ⟨rfl,?_⟩ hd)
 exact evalArgs_empty ⟨rfl,a6 _,hC,hN,T,λh' e hx=>R pins σ H s (.ref C) h' e [] I hx h⟩
end
def Cx.held (X:Cx)(e:Value):Cx:={ X with A:=X.A.mark (some e),calm:=false,xe:=λ_ _=>False }
section
variable {X:Cx}{pins:List (Addr×Obj)}{σ:St}{H:Hp}{s:Shared}{e:Value}
theorem Inv.held (I:Inv X pins σ H s)(e:Value):Inv (X.held e) pins σ H s:=
 ⟨⟨I.ok.mod,I.ok.kind,I.ok.glob,I.ok.blt,I.ok.above,I.ok.inj,I.ok.has,I.ok.cab,(λz=>nomatch z),I.ok.frames,I.ok.stk,I.ok.exf,I.ok.bs,I.ok.bsz,I.ok.noex,I.ok.exfs,I.ok.funs,I.ok.frf⟩,I.os,I.bare,I.base,I.loc,I.cell,I.free,I.freeC,I.pin,I.hok,I.len⟩
theorem Inv.unheld (J:Inv X pins σ H s){σ':St}{H':Hp}{s':Shared}(I:Inv (X.held e) pins σ' H' s'):Inv X pins σ' H' s':=
 ⟨J.ok,I.os,I.bare,I.base,I.loc,I.cell,I.free,I.freeC,I.pin,I.hok,I.len⟩
theorem SP.unheld (J:Inv X pins σ H s){D:Ends}{f:Flow}{s':Shared}(h:SP (X.held e) pins D f s'):SP X pins D f s':=by
 cases f with
 |next=>obtain⟨σ',H',I,q⟩:=h;exact⟨σ',H',J.unheld I,q⟩
 |brk=>obtain⟨σ',H',I,q⟩:=h;exact⟨σ',H',J.unheld I,q⟩
 |cont=>obtain⟨σ',H',I,q⟩:=h;exact⟨σ',H',J.unheld I,q⟩
 |ret u=>obtain⟨v,σ',H',I,r,q⟩:=h;exact⟨v,σ',H',J.unheld I,r,q⟩
end
theorem Ml {X:Cx} {K:PySem.W.Frag} {T:String} {name:Str} {id:String} {r:V->List V->Hp->VK->Prop} {o e:Expr} {es:List Expr} {to:TE} {t:TA} {apos cpos:Pos} (hK:X.K=K) (pa:PlainAttrs T) (slot:Slot T name id) (hty:typeOf (.builtin id)=pure (.type "method_descriptor")) (hm:Vy X id r) (ho:PE X o to) (ha:PA X (e::es) t)
  (hbase:attributeBase o name X.env (eval o X.env)=eval o X.env:=by rfl)
  (hfew:((backTo cpos (starEach (e::es) X.env)).all (λx=>!x.1)&&(backToKw cpos (keywordEach [] X.env)).all (λx=>x.1.isSome)
   && decide ((e::es).length+([]:List Keyword).length+(if([]:List Keyword).isEmpty then 0 else 1)<30))=true:=by rfl)
  (hline:(apos.endLine == cpos.line)=true:=by rfl) (hs:starEach (e::es) X.env=(false,eval e X.env)::starEach es X.env:=by rfl) (hplain:(backTo cpos (starEach es X.env)).any (·.1)=false:=by rfl) :
  PE X (.Call (.Attribute o name apos) (e::es) [] cpos) (ZL K T r to t):=by
 subst hK;exact Dm pa slot hty hm ho ha hbase hfew hline hs hplain
end L2
namespace L2
section
open PySem PySem.Calls PyProof.Rows PySem.W Builtin Builtin.ObjectAttr Builtin.Getset_descriptor
section
variable {prog:Program}{w:World}{A:Around}{E:Value->Shared->Prop}{K:Frag}{e D:Addr}
structure IsExc (h:Heap) (e D:Addr):Prop where
 ob:∃o,h.get? e=some o/\o.cls=.ref D/\∃vs,o.data=.fields vs
theorem IsExc.ty {h:Heap}(z:IsExc h e D){M:Model}:Looks M h (typeOf (.ref e)) (.ref D):=by
 obtain⟨o,q,c,_⟩:=z.ob;rw[<-c];exact(Looks.ld q).andThen .now
theorem Sz {tp:Value}{s:Shared}{R:Result->Shared->Prop}(k:K.In s.heap)(z:IsExc s.heap e D)(hm:mroIn K D (.type "object")=some true)(q:R (.ok (.ret (.ref D))) s) :
  codeAny (model prog w) A (.call (.builtin "getset_descriptor.__get__") ⟨[.builtin "object.__class__",.ref e,tp],[]⟩) R s:=by
 obtain⟨h1,g1,d1,t1,o1⟩:=s;have T0:=z.ty (M:=model prog w);have T1:=looks_mroIn (M:=model prog w) k hm;have slot:=KF.slot_gs;refine cX slot.plain KF.entry_gs (slot.check _ _ _ _ _ _ _ _ KF.type_class (KF.args_gs _ _ _) ?_);simp only[Builtin.«getset_descriptor.__get__»,descrGet,dga_obj];refine ae (aB ?_);dsimp only[descrGetter,descrCheckInstance,descrNameAndClass,isInstance];rw[show descrOwnerAndName "object.__class__"=("object","__class__") from KF.owner_class]
 repeat lk
 refine⟨gc (id:="object.__class__") _ (by decide +kernel),cN KF.entry_class ?_⟩;simp only[Builtin.«object.__class__»,shownTypeOf]
 repeat lk
 exact q
theorem UB {h:Heap} {M:Model} (k:K.In h) (ha:findIn K (.ref D) "__class__"=some (some (.builtin "object.__class__")))
  (hn:specialIn K (.builtin "object.__class__") "__get__"=some (some (.builtin "getset_descriptor.__get__"))) (ht:takesIn K (.builtin "object.__class__")=some true) :
  Looks M h (find (.ref e) (.ref D) "__class__") (.bind (.builtin "getset_descriptor.__get__") (.builtin "object.__class__")):=
 (dY k ha).andThen ((show Looks M h (getOf (some (.builtin "object.__class__"))) (some (.builtin "getset_descriptor.__get__")) from looks_specialIn k hn).andThen
  ((show Looks M h (dataDescriptor? (some (.builtin "object.__class__")) (some (.builtin "getset_descriptor.__get__"))) (some (.builtin "getset_descriptor.__get__",.builtin "object.__class__")) from(looks_takesIn k ht).andThen .now).andThen (Looks.tag .now)))
theorem NG {nv:Value}{s:Shared}{Q:Unit->Shared->Prop}{M:Model}(k:K.In s.heap)(z:IsExc s.heap e D)(hb:mroIn K D (.type "BaseException")=some true)(q:Q () s) :
  wpAny M A (checkBuiltinCall "BaseException.__getattribute__" ⟨[.ref e,nv],[]⟩) Q E s:=by
 obtain⟨h1,g1,d1,t1,o1⟩:=s;have b1:builtinKind "BaseException.__getattribute__"=some .slot:=by decide +kernel
 have b2:splitId "BaseException.__getattribute__"=some ("BaseException","__getattribute__"):=by decide +kernel
 have b3:=F.args_bexc_ga (.ref e) nv;have T:Looks M h1 (isInstance (.ref e) (.type "BaseException")) true:=z.ty.andThen (looks_mroIn k hb);simp only[checkBuiltinCall,b1,b2];refine ae (T.at ?_);rw[ai (by decide)]
 repeat wp_step
 exact q
theorem SZ {tk:Tok} {s:Shared} {Q:Fin->Shared->Prop} (k:K.In s.heap) (z:IsExc s.heap e D) (ha:findIn K (.ref D) "__class__"=some (some (.builtin "object.__class__")))
  (hn:specialIn K (.builtin "object.__class__") "__get__"=some (some (.builtin "getset_descriptor.__get__"))) (ht:takesIn K (.builtin "object.__class__")=some true) (hm:mroIn K D (.type "object")=some true) (q:Q (.done (.ret (.ref D))) s) :
  wpAny (model prog w) A (Builtin.«object.__getattribute__» ⟨[.ref e,.str "__class__" tk],[]⟩) Q E s:=by
 obtain⟨h1,g1,d1,t1,o1⟩:=s;have T0:=z.ty (M:=model prog w);have T1:=UB (e:=e) (M:=model prog w) k ha hn ht;have s0:slotArgs "__getattribute__" 1 ⟨[.ref e,.str "__class__" tk],[]⟩=pure (Value.ref e,[Value.str "__class__" tk]):=by kernel_rfl
 have s1:attrName (.str "__class__" tk)=pure "__class__":=by kernel_rfl
 simp only[Builtin.«object.__getattribute__»,s0];refine ae (aB ?_);dsimp only;rw[s1];refine ae (aB (ae (T0.at (ae (T1.at ?_)))));dsimp only;unfold bindTo;dsimp only;refine ae (cM (Sz (s:=⟨h1,g1,d1,t1,o1⟩) k z hm ?_));exact aB q
theorem Sw {s:Shared} {Q:Option Value->Shared->Prop} (k:K.In s.heap) (z:IsExc s.heap e D) (hga:findIn K (.ref D) "__getattribute__"=some (some (.builtin "BaseException.__getattribute__"))) (hgg:findIn K (.ref D) "__getattr__"=some none)
  (ha:findIn K (.ref D) "__class__"=some (some (.builtin "object.__class__"))) (hn:specialIn K (.builtin "object.__class__") "__get__"=some (some (.builtin "getset_descriptor.__get__"))) (ht:takesIn K (.builtin "object.__class__")=some true)
  (hm:mroIn K D (.type "object")=some true) (hb:mroIn K D (.type "BaseException")=some true) (q:Q (some (.ref D)) { s with toks:=s.toks+1 }) :
  wpAny (model prog w) A (getAttr? (.ref e) "__class__") Q E s:=by
 obtain⟨h1,g1,d1,t1,o1⟩:=s;have T0:=z.ty (M:=model prog w);have T1:=dY (M:=model prog w) k hga;have T2:=dY (M:=model prog w) k hgg;have B:=F.excAttr_ValueError.ga.bind (.ref e);simp only[getAttr?,getAttrBy?,getAttrBy];refine ae (wpAny_mkText (ae (fR (bN (ae (T0.at (ae (T1.at ?_))))))));have n0:(onTheHeap (Value.ref D)&&Value.builtin "BaseException.__getattribute__" == Value.builtin "object.__getattribute__")=false:=by
  have:(Value.builtin "BaseException.__getattribute__" == Value.builtin "object.__getattribute__")=false:=by decide +kernel
  rw[this];rfl
 dsimp only;rw[ai (by rw[n0];decide)];unfold getAttrByItsOwn hookBefore;rw[ak (by rfl)];refine ae (T2.at (ae (fR (bN ?_))));unfold callGetattribute boundAndCalled;rw[ai (by decide),B];refine ae (aB ?_);dsimp only;refine cM (cX F.excAttr_ValueError.ga.plain F.entry_bexc_ga ?_);refine NG (s:=⟨h1,g1,d1,t1+1,o1⟩) k ⟨z.ob⟩ hb (SZ (s:=⟨h1,g1,d1,t1+1,o1⟩) k ⟨z.ob⟩ ha hn ht hm ?_);dsimp only;exact handed_on rfl (aB q)
structure ExcCls (K:Frag) (D:Addr):Prop where
 ga:findIn K (.ref D) "__getattribute__"=some (some (.builtin "BaseException.__getattribute__"))
 gg:findIn K (.ref D) "__getattr__"=some none
 cl:findIn K (.ref D) "__class__"=some (some (.builtin "object.__class__"))
 sp:specialIn K (.builtin "object.__class__") "__get__"=some (some (.builtin "getset_descriptor.__get__"))
 tk:takesIn K (.builtin "object.__class__")=some true
 mo:mroIn K D (.type "object")=some true
 mb:mroIn K D (.type "BaseException")=some true
theorem ExcCls.there (c:ExcCls K D):∃o,K.lookup D=some o/\∃cd,o.data=.cls cd:=by
 obtain⟨cd,h,_⟩:=Option.bind_eq_some_iff.mp c.mo;unfold clsIn at h
 split at h
 ·rename_i o d' cd' sl' ho
  exact⟨_,ho,_,rfl⟩
 ·cases h
theorem ExcCls.kit (c:ExcCls K D):KitX K (.ref e) (.ref D) (λh=>IsExc h e D) where
 ty:=λ_ _ _ z=>z.ty
 it:=λM h k _=>by
  obtain⟨⟨oc,od,oda,os⟩,h1,cd,h2⟩:=c.there;dsimp only at h2;subst h2;intro A1 Q1 E1 s1 st q;unfold isType loadHead;exact ae (hZ (st _ _ (k _ _ h1)) (aB q))
 ne:=λh tp dd its n sl k ht=>by
  obtain⟨o,h1,cd,h2⟩:=c.there;cases q:(Value.ref D == Value.ref tp) with
  |false=>rfl
  |true=>
   cases Value.ref.inj (bQ.mp q);rw[k _ _ h1] at ht;cases ht;cases h2
 ca:=λk z q=>Sw k z c.ga c.gg c.cl c.sp c.tk c.mo c.mb q
end
end
open PySem PySem.Spec PyProof.Rows
theorem IsExc.stays {h1 h2:Heap}{e D:Addr}(z:IsExc h1 e D)(k:∀o,h1.get? e=some o->h2.get? e=some o):IsExc h2 e D:=by
 obtain⟨o,q,r⟩:=z.ob;exact⟨o,k o q,r⟩
section
variable {X:Cx}{pins:List (Addr×Obj)}{σ:St}{H:Hp}{s:Shared}
theorem Inv.know {e:Addr} {o:HO} (I:Inv X pins σ H s) (n0:e∉X.ex->X.s₀.heap.get? e=none) (nl:e≠X.env.locals) (nc:∀x c,X.env.cells.lookup x=some c->c≠e) (np:∀p∈X.pn++pins,p.1≠e) (hn:H e=none)
  (ho:Be X.prog X.w (upd H e o) s.heap e o):Inv X pins σ (upd H e o) s:=by
 have up:∀{b:Addr} {u:HO},H b=some u->upd H e o b=some u:=λ{b u} q=>by rw[Ak (Cr q hn)];exact q
 refine⟨I.ok,I.os,I.bare,⟨I.base.keep,I.base.slot,λb ob q n x=>?_,I.base.there,λb xs q=>up (I.base.tups b xs q),λb ob u q=>up (I.base.frzs b ob u q),λb ps q=>?_⟩,I.loc,I.cell,?_,λx c q=>?_,λp hp=>?_,λb u q=>?_,I.len⟩
 ·rw[Ak (λz=>by subst z;rw[n0 x] at q;cases q)];exact I.base.free b ob q n x
 ·obtain⟨more,z⟩:=I.base.tbls b ps q;exact⟨more,up z⟩
 ·rw[Ak nl.symm];exact I.free
 ·rw[Ak (nc x c q)];exact I.freeC x c q
 ·obtain⟨h1,h2,h3⟩:=I.pin p hp;exact⟨h1,by rw[Ak (np p hp)];exact h2,h3⟩
 ·by_cases hb:b=e
  ·subst hb;rw[Ac] at q;cases q;exact ho
  ·rw[Ak hb] at q;exact(I.hok b u q).stay (λc v _ z=>z) (λ_ z=>up z) λ_ _ z=>up z
theorem Lw {M:Model} {A:Around} {E:Value->Shared->Prop} {i:Nat} {x:Str} {pos:Pos} {Q:Unit->Shared->Prop} (I:Inv X pins σ H s) (hN:X.N.Nodup) (hi:X.N[i]?=some x) (hk:X.env.kindOf x=some .local)
  (h:∀s',Inv X pins (σ.set i none) H s'->Q () s'):wpAny M A (do bindName X.env x .none;unbindBehindTheSuite X.env x pos) Q E s:=by
 obtain⟨m,hn,hl⟩:=id I.loc;have hc:(X.env.scope.kind == .class||(X.env.scope.kind == .module&&X.env.locals != X.env.globals))=false:=by rw[I.ok.kind];rfl
 have hiσ:i<σ.length:=by rw[I.len];exact(aA.mp hi).1
 obtain⟨oL,_,_,hoL,_⟩:=id hn;refine wpAny_nameGoes_keeps hk hn hc λh' v hn' hs=>?_
 have apart:∀b o,X.s₀.heap.get? b=some o->b≠X.env.locals:=λb o q=>a4 (aW (aL q) I.ok.above)
 refine h _ ⟨I.ok,I.os,I.bare,⟨λb o q n hb hx=>(hs.2 b (apart b o q)).trans (I.base.keep b o q n hb hx),λb o q n hb hx=>?_,I.base.free,λb o q hx=>?_,I.base.tups,I.base.frzs,I.base.tbls⟩,
  ⟨_,hn',λj y v' e1 e2 e3=>?_⟩,λy c q=>?_,I.free,I.freeC,λp hp=>?_,λb u q=>?_,by simpa using I.len⟩
 ·obtain⟨sl,z⟩:=I.base.slot b o q n hb hx;exact⟨sl,(hs.2 b (apart b o q)).trans z⟩
 ·obtain⟨o',z⟩:=I.base.there b o q hx;exact⟨o',(hs.2 b (apart b o q)).trans z⟩
 ·by_cases hj:j=i
  ·subst hj;rw[eO hiσ] at e2;cases e2
  ·rw[fh (Ne.symm hj)] at e2;obtain⟨u',r',q⟩:=hl j y v' e1 e2 e3;refine⟨u',r',?_⟩;rcases q with⟨k,z⟩|⟨k,c,z,z2⟩
   ·have ny:y≠x:=λt=>hj (Me hN e1 (t▸hi))
    exact .inl ⟨k,by simp[ny,z]⟩
   ·exact .inr ⟨k,c,z,z2.sameBut hs (I.cne y c z)⟩
 ·obtain⟨w',z⟩:=I.cell y c q;exact⟨w',z.sameBut hs (I.cne y c q)⟩
 ·obtain⟨q,n,ne,nf,d⟩:=I.pin p hp;exact⟨(hs.2 p.1 ne).trans q,n,ne,nf,d⟩
 ·have nb:∀{c:Addr} {v':HO},H c=some v'->c≠X.env.locals:=λ{c v'} z=>Cr z I.free
  refine(I.hok b u q).stay (λc w' hc z=>(hs.2 c ?_).trans z) (λ_ z=>z) λ_ _ z=>z
  rcases hc with rfl|hc
  ·exact nb q
  ·exact nb hc
theorem Inv.flown {H':Hp}{s':Shared}{ea:Addr}{cls a0:Value}{B:Heap}(I:Inv X pins σ H s)(F:Fly X.prog X.w X.stack H s ea cls H' B a0 s'):s.heap.get? ea=none:=by
 cases q:s.heap.get? ea with
 |none=>rfl
 |some o=>
  by_cases hb:ea∈G4 X.stack
  ·obtain⟨z,e⟩:=F.un.slot ea o q (I.stkFree ea hb) hb (by simp);obtain⟨_,o',ho',hd⟩:=I.stack.mem hb;rw[q] at ho';cases ho';obtain⟨_,_,_,oe,vs,_,_,_,he,_,hv,_⟩:=F.fl;rw[he] at e;cases e;exact absurd hv (hd vs)
  ·obtain⟨o',e⟩:=F.th ea o q hb;rw[F.fl.2.1] at e;cases e
end
theorem GA {X:Cx}{x:Str}{C:Addr}{pos:Pos}(hg:Gl X x)(hm:X.mg x=some (.ref C))(hd:(x == ("__debug__":Str))=false:=by decide):PE X (.Name x pos) (tC (.ref C)):=OS (v:=.ref C) hg hm rfl hd
theorem M6:bootBuiltins "ValueError"=some (.type "ValueError"):=by decide +kernel
end L2
namespace L2
end L2
namespace L2
section
open PySem PySem.Calls PyProof.Rows PySem.W
structure IsExcD (h:Heap) (e D:Addr) (d:Option Addr):Prop where
 is:IsExc h e D
 dj:∃o,h.get? e=some o/\o.dict=d/\Qp o
theorem IsExcD.stays {h1 h2:Heap}{e D:Addr}{d:Option Addr}(z:IsExcD h1 e D d)(k:∀o,h1.get? e=some o->h2.get? e=some o):IsExcD h2 e D d:=by
 obtain⟨a,o,q,hd⟩:=z;exact⟨a.stays k,o,k o q,hd⟩
end
section
open PySem PySem.Spec PyProof.Rows
def J2 (e D:Addr)(d:Option Addr):HO:=.ext λh=>IsExcD h e D d
variable {X:Cx}{pins:List (Addr×Obj)}{σ:St}{H:Hp}{s:Shared}
theorem Inv.knowD {H':Hp}{s':Shared}{ea C:Addr}{a0:Value}{B h':Heap}{d:Option Addr}(I:Inv X pins σ H s)(F:Fly X.prog X.w X.stack H s ea (.ref C) H' B a0 s')(J:Inv X pins σ H' { s' with heap:=h' })(T:h'.TracedW B ea (.ref C) a0)(dj:DictAt h' ea d):Inv X pins σ (upd H' ea (J2 ea C d)) { s' with heap:=h' }:=by
 have n:=I.flown F;obtain⟨m,hn,_⟩:=id I.loc;obtain⟨oL,_,_,hoL,_⟩:=id hn;obtain⟨oe,vs,_,_,_,he,⟨hc,_⟩,hv,_⟩:=T;have ise:IsExcD h' ea C d:=⟨⟨oe,he,hc,vs,hv⟩,oe,he,dj.get he⟩
 refine J.know (λx=>?_) (λz=>?_) (λx c q z=>?_) (λp hp z=>?_) F.free ⟨ise,⟨oe,he⟩,λh1 h2 z k=>z.stays k⟩
 ·cases q:X.s₀.heap.get? ea with
  |none=>rfl
  |some o=>
   obtain⟨o',z⟩:=I.base.there ea o q x;rw[n] at z;cases z
 ·rw[<-z,n] at hoL;cases hoL
 ·obtain⟨w',oc,e,_⟩:=I.cell x c q;rw[z,n] at e;cases e
 ·have:=(I.pin p hp).1;rw[z,n] at this;cases this
def Yl (K:PySem.W.Frag):List V->Hp->VK->Prop:=λxs H Q=>∃(e D:Addr) (d:Option Addr) (c:V) (cv:Value) (b:Bool),xs=[.ref e,c]/\H e=some (J2 e D d)/\ExcCls K D/\(∀u,RelV c u->u=cv)/\PySem.W.kitOne K (.ref D) cv=some b/\Q (.bl b) H
theorem Cv {K:PySem.W.Frag}(hK:X.K=K):EV X (.builtin "isinstance") (Yl K):=by
 subst hK;intro pins s σ H xs us Q I r h;obtain⟨e,D,d,c,cv,b,rfl,he,hc,hv,hk,q⟩:=h;obtain⟨u,v,rfl,ru,rv⟩:=vals2 r;cases(show u=Value.ref e from ru);cases hv v rv;have z:Be X.prog X.w H s.heap e (J2 e D d):=I.hok e _ he;exact bU hc.kit I.kIn z.1.is hk (λz=>nomatch z) λtk=>⟨.bl b,H,I.tok _,rfl,q⟩
variable {x n:Str}{c:Value}{body orelse suite:List Stmt}{b₀:Stmt}{np hpos pos:Pos}{i:Nat}
end
end L2
namespace L2
open PySem PySem.Spec PyProof.Rows
end L2
namespace L2
section
open PySem PySem.Calls PyProof.Rows PySem.W Builtin Builtin.ObjectAttr
def RA:List Value->Bool
 | .ref _::r=>RA r
 |l=>l == Qq
theorem N0 (self:Value):∀{l:List Value},RA l=true->refuseLoop self "__setattr__" l=pure ()
 |[],e=>by cases e
 | .ref a::r,e=>by rw[refuseLoop_ref];exact N0 self (l:=r) e
 | .type n::r,e=>by
  have:(Value.type n::r)=Qq:=bQ.mp e;rw[this];exact PySem.F.store_ValueError.passes self
 | .none::_,e | .bool _::_,e | .int _ _::_,e | .float _ _::_,e | .str _ _::_,e | .builtin _::_,e | .notImplemented::_,e | .ellipsis::_,e=>by cases e
def Zk (K:Frag)(C:Addr):Bool:=(clsIn K C).any λcd=>RA cd.mro
section
variable {prog:Program}{w:World}{A:Around}{E:Value->Shared->Prop}{s:Shared}{K:Frag}{x C:Addr}{vs:Array Value}{name:Str}{v:Value}
structure ExiCls (K:Frag) (C:Addr):Prop extends ExcCls K C where
 sa:findIn K (.ref C) "__setattr__"=some (some (.builtin "object.__setattr__"))
 ve:Zk K C=true
 hd:hasDictIn K C=true
theorem Vq (hx:s.heap.get? x=some ⟨.ref C,none,.fields vs,#[]⟩):InstAt s.heap x ⟨.ref C,none,.fields vs,#[]⟩ C none:=⟨hx,rfl,rfl,trivial⟩
theorem Tg {Q:Unit->Shared->Prop} (X:K.In s.heap) (c:ExiCls K C) (hn:findIn K (.ref C) name=some none) (hx:s.heap.get? x=some ⟨.ref C,none,.fields vs,#[]⟩)
  (h:∀h',h'.get? x=some ⟨.ref C,some s.heap.objs.size,.fields vs,#[]⟩->h'.Ns1 s.heap.objs.size (λy=>if y=name then some v else none)->(∀b o,b≠x->s.heap.get? b=some o->h'.get? b=some o)->Q () { s with heap:=h',toks:=s.toks+2 }) :
  wpAny (model prog w) A (setAttr (.ref x) name v) Q E s:=by
 have I:=Vq hx;obtain⟨cd,hc,hm⟩:=any_some c.ve;obtain⟨cd2,hc2,hdd⟩:=any_some c.hd;rw[hc] at hc2;cases hc2;refine set_plain X I c.sa ?_;have inObj:Looks (model prog w) s.heap (isInstance (.ref x) (.type "object")) true:=I.type.andThen (looks_mroIn X c.mo);have G:=PySem.F.store_ValueError;refine cX G.slot.plain G.entry (@check_slot (model prog w) _ _ { s with toks:=s.toks+1 } "object.__setattr__" "object" "__setattr__" (.ref x) [.str name s.toks,v] [] _ G.kind G.split inObj (G.args (.ref x) (.str name s.toks) v) ?_);rw[osa_eq,refuse_eq];have own:Looks (model prog w) s.heap (mroOf (.ref C)) cd.mro:=(looks_clsIn X hc).andThen .now;refine ae (ae (fG (s:={ s with toks:=s.toks+1 }) I.type (ae (fG (s:={ s with toks:=s.toks+1 }) own ?_))));rw[N0 _ hm];refine aB (ae (fG (s:={ s with toks:=s.toks+1 }) I.type (ae (fG (s:={ s with toks:=s.toks+1 }) (dY X hn) (ae (aB ?_))))));dsimp only;refine ae (aB (ae (ae (hZ hx (ae (fG (s:={ s with toks:=s.toks+1 }) (looks_clsIn X hc) ?_))))));rw[hdd];refine ae (wpAny_alloc ?_);have n0:s.heap.get? s.heap.objs.size=none:=cz (au _);have nx:s.heap.objs.size≠x:=λz=>by rw[z,hx] at n0;cases n0
 have hx1:=af { cls:=.type "dict",data:=.dict #[] } hx;refine ae (wpAny_update hx1 ?_);have hx2:=Heap.get?_update_self (λo:Obj=>{ o with dict:=some s.heap.objs.size }) hx1 rfl;have hd2:((s.heap.push { cls:=.type "dict",data:=.dict #[] }).update x (λo:Obj=>{ o with dict:=some s.heap.objs.size })).get? s.heap.objs.size=some { cls:=.type "dict",data:=.dict #[] }:=by
  rw[bM _ _ (Ne.symm nx)];exact aH _ rfl
 have ns0:((s.heap.push { cls:=.type "dict",data:=.dict #[] }).update x (λo:Obj=>{ o with dict:=some s.heap.objs.size })).Ns1 s.heap.objs.size (λ_=>none):=⟨_,_,_,hd2,rfl,(λe he=>by simp at he),(by simp[UniqKeys]),λ_=>rfl⟩
 have keep:∀b o,b≠x->s.heap.get? b=some o->((s.heap.push { cls:=.type "dict",data:=.dict #[] }).update x (λo:Obj=>{ o with dict:=some s.heap.objs.size })).get? b=some o:=λb o nb q=>by
  rw[bM _ _ (Ne.symm nb)];exact af _ q
 generalize (s.heap.push { cls:=.type "dict",data:=.dict #[] }).update x (λo:Obj=>{ o with dict:=some s.heap.objs.size })=h1 at hx2 hd2 ns0 keep;refine aB (a:=some s.heap.objs.size) (ae (aB (ae ?_)));refine wpAny_nsSet1 (s:={ s with heap:=h1,toks:=s.toks+1 }) ns0 λh2 ns2 but=>?_
 obtain⟨oD,esD,epD,hoD,hdD,hcD⟩:=ns2.count (PySem.Within.cons (ns:=[]) name v λ_ z=>absurd rfl z);refine ae (wpAny_lookBehind hoD (by rw[hdD];exact pastItsLine_dict (aX hcD (by rw[bh];show 1<=_;decide))) ?_);refine aB (h h2 ((but.2 x (Ne.symm nx)).trans hx2) ns2 λb o nb q=>(but.2 b λz=>?_).trans (keep b o nb q));rw[z,n0] at q;cases q
end
def Qk (K:Frag)(C:Addr):Bool:=(K.lookup C).any λo=>match o with
 |⟨.type t,_,.cls cd,sl⟩=>t == "type" && !cd.hasDel&&(match cd.mro with | .ref D::tl=>D == C&&tailIn K Qq tl|_=>false)&&(match sl.toList with|[_,_,_,_,some (.builtin n),_]=>n == "ValueError.__new__"|_=>false)
 |_=>false
theorem R3 {h:Heap}{K:Frag}{C:Addr}(X:K.In h)(q:Qk K C=true) :
  ∃tl N nm qn bs hd sn sub ab col dd k0 k1 k2 k3 k5,h.get? C=some (excClassObj nm qn C N bs tl hd sn sub ab col dd k0 k1 k2 k3 k5 "ValueError.__new__")/\OwnTail h Qq tl:=by
 obtain⟨o,found,z⟩:=any_some q
 split at z
 ·rename_i t dx ck sl
  rw[aQ,aQ,aQ] at z;obtain⟨⟨⟨z1,z2⟩,z3⟩,z4⟩:=z;have y1:t="type":=bQ.mp z1;have y2:ck.hasDel=false:=by simpa using z2
  split at z3
  ·rename_i D tl em
   rw[aQ] at z3;have y3:D=C:=bQ.mp z3.1
   split at z4
   ·rename_i p0 p1 p2 p3 made p5 es
    have y4:made="ValueError.__new__":=bQ.mp z4;subst y1 y3 y4;obtain⟨nm,bs,mro,ns,qn,hd,sn,sub,ab,col,del⟩:=ck;simp only at em y2;subst em y2;obtain⟨l⟩:=sl;simp only at es;subst es;exact⟨tl,ns,nm,qn,bs,hd,sn,sub,ab,col,dx,p0,p1,p2,p3,p5,X _ _ found,tail_of_in X z3.2⟩
   ·cases z4
  ·cases z3
 ·cases z
section
variable {prog:Program}{w:World}{A:Around}{E:Value->Shared->Prop}{s:Shared}{K:Frag}{C f:Addr}{us:List Value}
def D7 (C t:Addr)(d:Option Addr):Obj:=⟨.ref C,d,.fields #[.ref t,.none,.none,.none,.bool false,.none],#[]⟩
theorem TV {Q:Value->Shared->Prop} (X:K.In s.heap) (hq:Qk K C=true) (hi:findIn K (.ref C) "__init__"=some (some (.ref f))) (hf:typeIn K (.ref f)=some (.type "function")) (hl:us.length<=sizeLine)
  (h:∀h1,(∀b o,s.heap.get? b=some o->h1.get? b=some o)->h1.get? (s.heap.objs.size+1)=some (D7 C s.heap.objs.size none)->h1.objs.size=s.heap.objs.size+2->
   wpAny (model prog w) (A.under (.builtin "type.__call__" ⟨.ref C::us,[]⟩)) (call (.ref f) (.ref (s.heap.objs.size+1)::us)) (λr s'=>r=.none/\Q (.ref (s.heap.objs.size+1)) s') E { s with heap:=h1 }) :
  wpAny (model prog w) A (call (.ref C) us) Q E s:=by
 obtain⟨tl,N,nm,qn,bs,hd,sn,sub,ab,col,dd,k0,k1,k2,k3,k5,oc,T⟩:=R3 X hq;obtain⟨hp,g,d,t,os⟩:=s;have G:=gw;have l1:=tc_lookup;have l2:=tc_bind (.ref C);have hT:(⟨hp,g,d,t,os⟩:Shared).TypeIs (.ref C) "type":=⟨_,oc,rfl⟩
 refine cM (codeAny_of_tree ?_);show wpAny _ _ (callAny (.ref C) _) _ _ _
 repeat (any_goals (first|assumption|(with_reducible refine eT oc ?_)|wp_step))
 refine⟨rfl,codeAny_call_builtin_at (gc _ (by decide +kernel)) entry_typeCall (wpAny_check_type_call_sub oc ?_)⟩
 change K.In hp at X
 change hp.get? C=_ at oc
 change OwnTail hp Qq tl at T
 dsimp only at h;generalize eA:A.under (Code.builtin "type.__call__" { pos:=[Value.ref C]++us })=A1;have h:∀h1,(∀b o,hp.get? b=some o->h1.get? b=some o)->h1.get? (hp.objs.size+1)=some (D7 C hp.objs.size none)->h1.objs.size=hp.objs.size+2->wpAny (model prog w) A1 (call (.ref f) (.ref (hp.objs.size+1)::us)) (λr s'=>r=.none/\Q (.ref (hp.objs.size+1)) s') E ⟨h1,g,d,t,os⟩:=by
  rw[<-eA];exact h
 show wpAny (model prog w) A1 (Builtin.«type.__call__» ⟨.ref C::us,[]⟩) _ _ ⟨hp,g,d,t,os⟩
 repeat (first|(with_reducible refine eT oc ?_)|(with_reducible refine wpAny_madeBy_exc oc ?_)|wp_step)
 refine codeAny_call_builtin_code (gc _ G.quiet) (wpAny_check_new_subT G T oc (codeAny_exc_new_subT G T oc ?_ hl));show wpAny _ _ _ _ _ _;have k1:∀b o,hp.get? b=some o->((hp.push { cls:=.type "tuple",data:=.seq us.toArray }).push (D7 C hp.objs.size none)).get? b=some o:=λb o q=>af _ (af _ q)
 have z1:((hp.push { cls:=.type "tuple",data:=.seq us.toArray }).push (D7 C hp.objs.size none)).objs.size=hp.objs.size+2:=by rw[cH,cH]
 have e1:((hp.push { cls:=.type "tuple",data:=.seq us.toArray }).push (D7 C hp.objs.size none)).get? (hp.objs.size+1)=some (D7 C hp.objs.size none):=by
  have:=aH (hp.push { cls:=.type "tuple",data:=.seq us.toArray }) (o:=D7 C hp.objs.size none) rfl;rw[cH] at this;exact this
 change wpAny (model prog w) A1 _ _ _ ⟨(hp.push { cls:=.type "tuple",data:=.seq us.toArray }).push (D7 C hp.objs.size none),g,d,t,os⟩
 generalize (hp.push { cls:=.type "tuple",data:=.seq us.toArray }).push (D7 C hp.objs.size none)=h1 at k1 z1 e1;have I:InstAt h1 (hp.objs.size+1) (D7 C hp.objs.size none) C none:=⟨e1,rfl,rfl,trivial⟩
 have X1:K.In h1:=λb o q=>k1 b o (X b o q)
 have cC:(Value.ref C::tl).contains (.ref C)=true:=by simp
 refine ae (ae (fG (s:=⟨h1,g,d,t,os⟩) I.type ?_));refine wpAny_isSubtype_exc (k1 _ _ oc) ?_;rw[cC];refine ae (bN (special_fn (s:=⟨h1,g,d,t,os⟩) X1 I hi hf (bg (h h1 k1 e1 z1) (λr s' q=>?_) λ_ _ q=>q)));obtain⟨rfl,q⟩:=q;exact aB q
end
end
section
open PySem PySem.Spec PyProof.Rows
def Hn (x C:Addr)(d:Option Addr):HO:=.ext λh=>∃t,h.get? x=some (D7 C t d)
theorem Si {P:Program}{w:World}{H:Hp}{h:Heap}{x C t:Addr}{d:Option Addr}(e:h.get? x=some (D7 C t d)):Be P w H h x (Hn x C d):=⟨⟨t,e⟩,⟨_,e⟩,λ_ _ ⟨t,z⟩ k=>⟨t,k _ z⟩⟩
variable {X:Cx}{pins:List (Addr×Obj)}{σ:St}{H:Hp}{s:Shared}
theorem PL {A:Around} {E:Value->Shared->Prop} {Q:Unit->Shared->Prop} {e C:Addr} {f:Str} {y:V} {u:Value} (I:Inv X pins σ H s) (he:H e=some (Hn e C none)) (c:ExiCls X.K C) (n:PySem.W.findIn X.K (.ref C) f=some none) (ry:RelV y u)
  (h:∀dx s',H dx=none->Inv X pins σ (upd (upd H e (Hn e C (some dx))) dx (.xd [(f,y)])) s'->Q () s'):wpAny (model X.prog X.w) A (setAttr (.ref e) f u) Q E s:=by
 obtain⟨⟨t,ob⟩,_,_⟩:Be X.prog X.w H s.heap e (Hn e C none):=I.hok e _ he;refine Tg I.kIn c n ob λh1 ob1 ns1 k1=>?_
 have hf:H s.heap.objs.size=none:=I.hok.fresh (au _);have n0:s.heap.get? s.heap.objs.size=none:=cz (au _);have ne:s.heap.objs.size≠e:=λz=>by rw[z,ob] at n0;cases n0
 have J:=I.write (x:=e) (e:=e) (o:=Hn e C (some s.heap.objs.size)) (h':=h1) (t':=s.toks+2) (by rw[he];trivial) (.inl rfl) (λb o nb q=>k1 b o nb q) ⟨_,ob1⟩ (Si ob1);obtain⟨m,hn,_⟩:=id I.loc;obtain⟨oL,_,_,hoL,_⟩:=id hn;refine h s.heap.objs.size _ hf (J.know (λx=>?_) (λz=>?_) (λx c q z=>?_) (λp hp z=>?_) (by rw[Ak ne];exact hf) ⟨_,ns1,λg=>?_⟩)
 ·cases q:X.s₀.heap.get? s.heap.objs.size with
  |none=>rfl
  |some o=>
   obtain⟨o',z⟩:=I.base.there _ o q x;rw[n0] at z;cases z
 ·rw[<-z,n0] at hoL;cases hoL
 ·obtain⟨w',oc,e1,_⟩:=I.cell x c q;rw[z,n0] at e1;cases e1
 ·have:=(I.pin p hp).1;rw[z,n0] at this;cases this
 ·by_cases eg:g=f
  ·subst eg;rw[ak rfl,dy];exact ry
  ·rw[ai eg,dz,show(g == f)=false from cm.mpr eg]
   trivial
def Yq (K:PySem.W.Frag)(ta tv:TE)(f:Str):TS:=λD σ H=>tv σ H λy H1=>ta σ H1 λx H2=>∃e C,x=.ref e/\H2 e=some (Hn e C none)/\ExiCls K C/\PySem.W.findIn K (.ref C) f=some none/\
 ∀dx,H2 dx=none->D.nx σ (upd (upd H2 e (Hn e C (some dx))) dx (.xd [(f,y)]))
theorem Ou {o value:Expr}{f:Str}{pos pos':Pos}{ta tv:TE}(ha:PE X o ta)(hv:PE X value tv)(hs:swapsWith value (some (.Attribute o f pos')) pos.line X.env=pure false):PS X (.Assign [.Attribute o f pos'] value pos) (Yq X.K ta tv f):=by
 intro pins s σ H D I h;refine gD (BN (hv pins s σ H _ I h) λu s1 ⟨y,H1,I1,ry,q⟩=>BN (ha pins s1 σ H1 _ I1 q) λov s2 z9=>?_) hs;obtain⟨x,H2,I2,rx,e,C,ex,he,c,n,q2⟩:=z9;subst ex;obtain rfl:ov=Value.ref e:=rx;exact PL I2 he c n ry λdx s3 hd I3=>⟨σ,_,I3,q2 dx hd⟩
structure MkX (K:PySem.W.Frag) (C f:Addr):Prop where
 ex:Qk K C=true
 init:PySem.W.findIn K (.ref C) "__init__"=some (some (.ref f))
 fn:PySem.W.isFn K (.ref f)=true
 kp:PySem.W.keepIn K (.ref C)=true
theorem WA {CX:R1} {k:Nat} {f C:Addr} {fd:FuncData} {ps:List Str} {sp:Sp} {Q:VK} {us:List Value} {vs:List V} (M:MkX X.K C f) (F:FnOk X.prog X.w X.K X.mg X.base CX k f fd ps sp) (hr:Room (k+1) X.A) (hb:Binds X.K fd ps []) (hx:Fv CX X E0) (hl:us.length<=sizeLine)
  (I:Inv X pins σ H s) (r:A5 vs us) (hq:sp (.ref (s.heap.objs.size+1)::vs) (upd H (s.heap.objs.size+1) (Hn (s.heap.objs.size+1) C none)) (λv H2=>v=.non/\Q (.ref (s.heap.objs.size+1)) H2) E0):wpAny (model X.prog X.w) X.A (call (.ref C) us) (EP X pins σ Q) X.xe s:=by
 refine TV I.kIn M.ex M.init (bQ.mp M.fn) hl λh1 k1 e1 z1=>?_
 have I2:=I.laid (a:=s.heap.objs.size+1) (o:=Hn (s.heap.objs.size+1) C none) (h':=h1) (t':=s.toks) k1 (fU _) (Si e1);have r2:A5 (V.ref (s.heap.objs.size+1)::vs) (Value.ref (s.heap.objs.size+1)::us):=.cons rfl r;have hn:(Value.ref (s.heap.objs.size+1)::us).length=ps.length:=r2.length.symm.trans (F.len _ _ _ _ hq);have hb':=hb { s with heap:=h1 } (Value.ref (s.heap.objs.size+1)::us) I2.kIn (by rw[aJ];exact hn);rw[aJ] at hb';refine cM (c8 (F.run _ X.stack _ _ ⟨Value.ref (s.heap.objs.size+1)::us,[]⟩ (Value.ref (s.heap.objs.size+1)::us) _ _ _ (hr.make C us []) (I2.env0.make C us []) hb' r2 hq) λr s' z=>?_)
 match r,z with
 | .error e,z=>exact hx pins σ _ _ e s' I2 z
 | .ok (.ret u),z=>
  obtain⟨v,H',I3,rv,ev,q3⟩:=I2.after z;subst ev;exact⟨rv,⟨V.ref (s.heap.objs.size+1),H',I3,rfl,q3⟩⟩
theorem Tp {M:Model} {A:Around} {E:Value->Shared->Prop} {K:PySem.W.Frag} {env:Env} {y:Sem Value} {Q:Flow->Shared->Prop} {s:Shared} (hh:A.handled=none)
  (h:wpAny M A y (λv s1=>∃e C t d,v=.ref e/\K.In s1.heap/\Qk K C=true/\s1.heap.get? e=some (D7 C t d)/\E (.ref e) s1) E s):wpAny M A (raiseStmt env (some y) none) Q E s:=by
 unfold raiseStmt;refine ae (bg h (λv s1 z=>?_) λ_ _ z=>z);obtain⟨e,C,t,d,rfl,k,hq,he,hE⟩:=z;obtain⟨tl,N,nm,qn,bs,hd,sn,sub,ab,col,dd,k0,k1,k2,k3,k5,oc,T⟩:=R3 k hq;obtain⟨hp,g,dr,tk,os⟩:=s1
 change hp.get? e=some ⟨.ref C,d,.fields #[.ref t,.none,.none,.none,.bool false,.none],#[]⟩ at he
 have inB:(Value.ref C::tl).contains (.type "BaseException")=true:=by rw[List.contains_cons,T.hasType PySem.F.excBase_ValueError.hasBase,Bool.or_true]
 repeat (first|(with_reducible refine eT he ?_)|(with_reducible refine eT oc ?_)|((with_reducible refine wpAny_isSubtype_exc oc ?_);rw[inB])|wp_step)
 exact wpAny_raiseNew_none hh hE
end
section
open PySem PySem.Spec PyProof.Rows
def del (H:Hp)(e:Addr):Hp:=λb=>if b=e then none else H b
theorem PK {H:Hp}{e:Addr}:del H e e=none:=by unfold del;rw[ak rfl]
theorem Re {H:Hp}{b e:Addr}(h:b≠e):del H e b=H b:=by unfold del;rw[ai h]
def E7 (P:Program)(w:World):R1:=λouter H s E e s'=>∃(ea:Addr) (cls:Value) (H':Hp) (B:Heap) (a0:Value) (d:Option Addr),e=.ref ea/\Fly P w outer H s ea cls H' B a0 s'/\DictAt s'.heap ea d/\E cls d H'
section
variable {P:Program}{w:World}{K:PySem.W.Frag}{mg:Str->Option Value}{base:Heap}{N:List Str}{qual:Str}{scope:Scope}{f:Addr}{cd:Value}{A:Around}{outer:List Env}{s:Shared}{H:Hp}{E:XK}
theorem Fc {CX:R1}{pins:List (Addr×Obj)}{σ:St}{H1:Hp}{s1:Shared}(I:Inv (A4 CX P w K mg base N qual scope f cd A outer s H E) pins σ H1 s1){b:Addr}{o:Obj}(q:s.heap.get? b=some o)(hb:b∉G4 outer) :
  b∉G4 (envOfC qual scope s.heap.objs.size f cd::outer):=λz=>by
 rcases aM.mp (I.stkSub b z) with e|e
 ·have h1:s.heap.objs.size<=b:=by rw[e];exact I.ok.above
  exact absurd (aW (aL q) h1) (cI _)
 ·exact hb e
theorem Au:Fv (E7 P w) (A4 (E7 P w) P w K mg base N qual scope f cd A outer s H E) E:=by
 intro pins σ H1 s1 e s2 I h;obtain⟨ea,cls,H',B,a0,d,rfl,F,dj,q⟩:=h;have hfr:=I.ok.frames;refine(Jh _ _).also dj (wpAny_leaves_onW (L:=s.heap.objs.size) hfr rfl F.fl λh' fl' up dj'=>?_);have un:=F.stay I.stack I.stkFree fl'.1 up;have J:=I.call' (s':={ s2 with heap:=h' }) (ch:=[]) F.os un (F.hok.kept fl'.1) F.bare (λb z=>nomatch z);refine⟨ea,cls,H',B,a0,d,rfl,⟨J.os,F.bare,J.base,F.hok,fl',λb o e n hb=>?_,λb o e hb=>?_,⟨_,dj'⟩⟩,dj',q⟩
 ·exact F.kp b o (I.base.keep b o e n hb (by intro z;cases z)) (I.base.free b o e n (by intro z;cases z)) (Fc I e hb)
 ·obtain⟨o1,e1⟩:=I.base.there b o e (by intro z;cases z);exact F.th b o1 e1 (Fc I e hb)
theorem Tv {pins:List (Addr×Obj)}{σ:St}{H1:Hp}{s1:Shared}{ea C:Addr}{d:Option Addr}(I:Inv (A4 (E7 P w) P w K mg base N qual scope f cd A outer s H E) pins σ H1 s1)(he:H1 ea=some (Hn ea C d))(hn:s.heap.objs.size<=ea)(q:E (.ref C) d (del H1 ea)) :
  (A4 (E7 P w) P w K mg base N qual scope f cd A outer s H E).xe (.ref ea) s1:=by
 have hfr:=I.ok.frames;obtain⟨⟨t,ob⟩,_,_⟩:Be P w H1 s1.heap ea (Hn ea C d):=I.hok ea _ he;have nf:ea∉G4 (envOfC qual scope s.heap.objs.size f cd::outer):=λz=>by
  have:=I.stkFree ea z;rw[he] at this;cases this
 have nofs:s.heap.get? ea=none:=cz hn;have hid:∀{b:Addr} {o:Obj},s1.heap.get? b=some o->b≠ea->b∉G4 (envOfC qual scope s.heap.objs.size f cd::outer)->(PySem.W.hideAll s1.heap (ea::G4 (envOfC qual scope s.heap.objs.size f cd::outer))).get? b=some o:=λe n1 n2=>cy _ e λz=>(aM.mp z).elim n1 n2
 have ff:s1.heap.FunFrames (PySem.W.hideAll s1.heap (ea::G4 (envOfC qual scope s.heap.objs.size f cd::outer))) (envOfC qual scope s.heap.objs.size f cd::outer):=gV I.stack λenv he a ha=>ao _ (dH.mpr ⟨env,he,ha⟩)
 have hen:(PySem.W.hideAll s1.heap (ea::G4 (envOfC qual scope s.heap.objs.size f cd::outer))).get? ea=none:=ic _ aw;refine(Jh _ _).also (R5 ob ⟨_,rfl,rfl⟩) (wpAny_leaving_firstW (base:=PySem.W.hideAll s1.heap (ea::G4 (envOfC qual scope s.heap.objs.size f cd::outer))) (a0:=.ref t) hfr ff rfl ob (λb o e=>fF _ e) hen rfl rfl rfl λh' hL dj=>?_);obtain⟨k1,⟨_,_,k2⟩,k3,k4⟩:=hL;generalize PySem.W.hideAll s1.heap (ea::G4 (envOfC qual scope s.heap.objs.size f cd::outer))=B at hid ff hen k1 k2 k3;have nt:∀{b:Addr} {u:HO},H1 b=some u->(∀φ,u≠.ext φ)->del H1 ea b=some u:=λ{b u} e n=>by
  rw[Re (λz=>by rw[z,he] at e;cases e;exact n _ rfl)];exact e
 have sl:∀b o,s1.heap.get? b=some o->b∈G4 (envOfC qual scope s.heap.objs.size f cd::outer)->∃z,h'.get? b=some { o with slots:=z }:=λb o e hb=>by
  obtain⟨_,o',ho',hd⟩:=I.stack.mem hb;rw[e] at ho';cases ho';exact k4 b o e hd
 have un:Un (G4 (envOfC qual scope s.heap.objs.size f cd::outer)) [] H1 (del H1 ea) s1.heap h':=by
  refine⟨λb o e n hb _=>k1 b o (hid e (λz=>by rw[z,he] at n;cases n) hb),λb o e _ hb _=>sl b o e hb,λb o _ n _=>?_,λb o e _=>?_,λb xs e=>nt e (by intro _ z;cases z),λb o u e=>nt e (by intro _ z;cases z),λb ps e=>⟨#[],by rw[nt e (by intro _ z;cases z)];simp⟩⟩
  ·unfold del;split
   ·rfl
   ·exact n
  ·by_cases z:b=ea
   ·rw[z];obtain⟨oe,_,_,_,_,e1,_⟩:=k3;exact⟨_,e1⟩
   ·by_cases hb:b∈G4 (envOfC qual scope s.heap.objs.size f cd::outer)
    ·obtain⟨z,e1⟩:=sl b o e hb;exact⟨_,e1⟩
    ·exact⟨o,k1 b o (hid e z hb)⟩
 have hok:IA P w (del H1 ea) B:=λb u e=>by
  have nb:b≠ea:=λz=>by rw[z,PK] at e;cases e
  rw[Re nb] at e;refine(I.hok b u e).stay (λc v hc z=>hid z (λy=>?_) λy=>?_) (λc z=>nt z (by intro _ z;cases z)) λc xs z=>nt z (by intro _ z;cases z)
  ·rcases hc with rfl|hc
   ·exact nb y
   ·rw[y,he] at hc;cases hc
  ·have:=I.stkFree c y;rcases hc with rfl|hc
   ·rw[e] at this;cases this
   ·rw[hc] at this;cases this
 have J:=I.call' (s':={ s1 with heap:=h' }) (ch:=[]) rfl un (hok.kept k1) I.bare (λb z=>nomatch z);refine⟨ea,_,del H1 ea,B,.ref t,d,rfl,⟨J.os,I.bare,J.base,hok,⟨k1,hen,k2,k3⟩,λb o e n hb=>?_,λb o e hb=>?_,⟨_,dj⟩⟩,dj,q⟩
 ·exact hid (I.base.keep b o e n hb (by intro z;cases z)) (λz=>by rw[z,nofs] at e;cases e) (Fc I e hb)
 ·obtain⟨o1,e1⟩:=I.base.there b o e (by intro z;cases z);exact⟨o1,hid e1 (λz=>by rw[z,nofs] at e;cases e) (Fc I e hb)⟩
end
end
section
open PySem PySem.Spec PyProof.Rows
def Yk (X:Cx)(E:XK):Prop:=∀(pins:List (Addr×Obj)) (σ:St) (H:Hp) (s:Shared) (ea C:Addr) (d:Option Addr),Inv X pins σ H s->H ea=some (Hn ea C d)->X.s₀.heap.objs.size<=ea->E (.ref C) d (del H ea)->X.xe (.ref ea) s
theorem BD {P:Program}{w:World}{K:PySem.W.Frag}{mg:Str->Option Value}{base:Heap}{N:List Str}{qual:Str}{scope:Scope}{f:Addr}{cd:Value}{A:Around}{outer:List Env}{s:Shared}{H:Hp}{E:XK}:Yk (A4 (E7 P w) P w K mg base N qual scope f cd A outer s H E) E:=
 λ_ _ _ _ _ _ _ I he hn q=>Tv I he hn q
theorem GE {P:Program}{w:World}{X:Cx}:Fv (E7 P w) X E0:=λ_ _ _ _ _ _ _ ⟨_,_,_,_,_,_,_,_,_,z⟩=>False.elim z
def MA (C:Addr)(f:Str):Sp:=λvs H Q _=>∃e y,vs=[.ref e,y]/\H e=some (Hn e C none)/\∀dx,H dx=none->Q .non (upd (upd H e (Hn e C (some dx))) dx (.xd [(f,y)]))
def Jn (P:Program)(w:World)(K:PySem.W.Frag)(mg:Str->Option Value)(base:Heap)(k:Nat)(x:Str)(C:Addr)(f:Str)(ps:List Str):Prop:=
 ∃(fI:Addr) (fd:FuncData),MkX K C fI/\FnOk P w K mg base Ef k fI fd ps (MA C f)/\mg x=some (.ref C)/\Binds K fd ps []
def VC (C:Addr)(f:Str)(E:XK)(t:TA):TS:=λ_ σ H=>t σ H λvs H1=>∃y,vs=[y]/\∀dx,H1 dx=none->E (.ref C) (some dx) (upd H1 dx (.xd [(f,y)]))
variable {X:Cx}{E:XK}{x:Str}{C:Addr}{f:Str}{ps:List Str}{k:Nat}{e:Expr}{t:TA}{np cpos pos:Pos}
theorem B0 (R:Yk X E)(hc:X.calm=true)(D:Jn X.prog X.w X.K X.mg X.base k x C f ps)(hr:Room (k+1) X.A)(hg:Gl X x)(ha:PA X [e] t)(hdb:(x == ("__debug__":Str))=false:=by decide)(he:starEach [e] X.env=[(false,eval e X.env)]:=by rfl) :
  PS X (.Raise (some (.Call (.Name x np) [e] [] cpos)) none pos) (VC C f E t):=by
 intro pins s σ H Dn I h;obtain⟨fI,fd,M,F,hm,hb⟩:=D;rw[arm_exec_Raise];refine ae (eV (Tp (K:=X.K) (I.ok.hd hc) (ae ?_)));refine cG (GF I hg hm ?_ hdb);refine dc (h₀:=X.base) I.ok.mod.kin M.kp (BN (ha cpos pins s σ H _ I h) λus s1 ⟨vs,H1,I1,r,y,ev,q⟩=>⟨I1.kIn,?_⟩) he rfl;subst ev;have hl2:us.length<=sizeLine:=by rw[<-r.length,bh];show 1<=_;decide
 have h1:=I1.hok.fresh (fU s1.heap.objs.size);refine BN (WA (Q:=λv H2=>v=.ref (s1.heap.objs.size+1)/\∃dx,H2 (s1.heap.objs.size+1)=some (Hn (s1.heap.objs.size+1) C (some dx))/\E (.ref C) (some dx) (del H2 (s1.heap.objs.size+1))) M F hr hb TR hl2 I1 r ⟨_,y,rfl,Ac,λdx hd=>⟨rfl,rfl,dx,?_,?_⟩⟩) λv s2 z=>?_
 ·have nd:s1.heap.objs.size+1≠dx:=λz=>by rw[<-z,Ac] at hd;cases hd
  rw[Ak nd,Ac]
 ·have nd:dx≠s1.heap.objs.size+1:=λz=>by rw[z,Ac] at hd;cases hd
  rw[Ak nd] at hd;have eq:del (upd (upd (upd H1 (s1.heap.objs.size+1) (Hn (s1.heap.objs.size+1) C none)) (s1.heap.objs.size+1) (Hn (s1.heap.objs.size+1) C (some dx))) dx (.xd [(f,y)])) (s1.heap.objs.size+1)=upd H1 dx (.xd [(f,y)]):=by
   funext b
   by_cases e1:b=s1.heap.objs.size+1
   ·rw[e1,PK,Ak (Ne.symm nd)];exact h1.symm
   ·rw[Re e1]
    by_cases e2:b=dx
    ·rw[e2,Ac,Ac]
    ·rw[Ak e2,Ak e1,Ak e1,Ak e2]
  rw[eq];exact q dx hd
 ·obtain⟨v',H2,I2,rv,ev,dx,h2,q2⟩:=z;subst ev;obtain rfl:v=.ref (s1.heap.objs.size+1):=rv;obtain⟨⟨t2,ob⟩,_,_⟩:Be X.prog X.w H2 s2.heap (s1.heap.objs.size+1) (Hn (s1.heap.objs.size+1) C (some dx)):=I2.hok _ _ h2;refine ae (eV (aB ⟨_,C,t2,some dx,rfl,I2.kIn,M.ex,ob,R pins σ H2 s2 _ C _ I2 h2 ?_ q2⟩));obtain⟨m,⟨oL,_,_,hoL,_⟩,_⟩:=id I1.loc;exact fL (Nat.lt_of_le_of_lt I1.ok.above (dO (aL hoL)))
def CY (P:Program)(w:World)(K:PySem.W.Frag)(mg:Str->Option Value)(base:Heap)(k:Nat)(x:Str)(ps:List Str)(sp:Sp):Prop:=
 ∃(f:Addr) (fd:FuncData),FnOk P w K mg base (E7 P w) k f fd ps sp/\mg x=some (.ref f)/\PySem.W.keepIn K (.ref f)=true/\Binds K fd ps []
theorem Fun.okE {P:Program} {w:World} {K:PySem.W.Frag} {mg:Str->Option Value} {base:Heap} {x qual:Str} {st:Stmt} {f:Addr} {fd:FuncData} {N ps:List Str} {k:Nat} {sp:Sp} (F:Fun K x qual st f fd) (S:FnScope N ps (Ai st)) (len:∀vs H Q E,sp vs H Q E->vs.length=ps.length)
  (hbody:∀(cdv:Value) (A:Around) (outer:List Env) (s:Shared) (H:Hp) (vs:List V) (Q:VK) (E:XK),Room k (A.deeper (envOfC qual (Ai st) s.heap.objs.size f cdv))->sp vs H Q E->
   ∃t,Qo (A4 (E7 P w) P w K mg base N qual (Ai st) f cdv A outer s H E) (Fz st) t/\t { nx:=λ_ H'=>Q .non H',rt:=Q } (start N vs) H):FnOk P w K mg base (E7 P w) (k+1) f fd ps sp:=by
 obtain⟨oc,od,kV,doc,pm,an,cdv,ct,osl,rfl,lk,hcd⟩:=F.ex;exact U6 lk hcd S len λA outer s H vs Q E hr hsp=>hbody cdv A outer s H vs Q E hr hsp
end
section
open PySem PySem.Spec PyProof.Rows
variable {X:Cx}{k:Nat}{x:Str}{ps:List Str}{sp:Sp}{E:XK}{e:Expr}{es:List Expr}{t:TA}{p pos:Pos}
theorem Bl (D:CY X.prog X.w X.K X.mg X.base k x ps sp) (hr:Room k X.A) (hg:Gl X x) (hx:Fv (E7 X.prog X.w) X E) (ha:PA X (e::es) t)
  (hdb:(x == ("__debug__":Str))=false:=by decide) (he:starEach (e::es) X.env=(false,eval e X.env)::starEach es X.env:=by rfl) (hpl:(backTo pos (starEach es X.env)).any (·.1)=false:=by rfl) :
  PE X (.Call (.Name x p) (e::es) [] pos) (Mu sp [] E t):=by
 obtain⟨f,fd,F,hm,hk,hb⟩:=D;exact RU F hr hg hm hk hb .nil hx ha hdb he hpl
abbrev Yr:=Value->Option Addr->St->Hp->Prop
abbrev X2:=Ends->Yr->St->Hp->Prop
def YE (X:Cx)(pins:List (Addr×Obj))(Ex:Yr)(e:Value)(s':Shared):Prop:=
 ∃(ea:Addr) (cls:Value) (σ':St) (H1 H':Hp) (s1:Shared) (B:Heap) (a0:Value) (d:Option Addr),e=.ref ea/\Inv X pins σ' H1 s1/\Fly X.prog X.w X.stack H1 s1 ea cls H' B a0 s'/\DictAt s'.heap ea d/\Ex cls d σ' H'
def ZO (X:Cx)(st:Stmt)(t:X2):Prop:=
 ∀(pins:List (Addr×Obj)) (s:Shared) (σ:St) (H:Hp) (D:Ends) (Ex:Yr),Inv X pins σ H s->t D Ex σ H->wpAny (model X.prog X.w) X.A (exec st X.env) (SP X pins D) (YE X pins Ex) s
def Yn (X:Cx)(st:List Stmt)(t:X2):Prop:=
 ∀(pins:List (Addr×Obj)) (s:Shared) (σ:St) (H:Hp) (D:Ends) (Ex:Yr),Inv X pins σ H s->t D Ex σ H->wpAny (model X.prog X.w) X.A (execs st X.env) (SP X pins D) (YE X pins Ex) s
def Xs (X:Cx)(e:Expr)(t:(Value->Option Addr->Hp->Prop)->TE):Prop:=
 ∀(pins:List (Addr×Obj)) (s:Shared) (σ:St) (H:Hp) (Q:VK) (Ex:Value->Option Addr->Hp->Prop),Inv X pins σ H s->t Ex σ H Q->wpAny (model X.prog X.w) X.A (eval e X.env) (EP X pins σ Q) (YE X pins λcls d σ' H'=>σ'=σ/\Ex cls d H') s
theorem Xa {pins:List (Addr×Obj)}{σ:St}{Ex:Yr}{v:Value}{s:Shared}(h:YE X pins (λcls d σ' H'=>σ'=σ/\Ex cls d σ H') v s):YE X pins Ex v s:=by
 obtain⟨ea,cls,σ',H1,H',s1,B,a0,d,h1,h2,h3,h4,h5,h6⟩:=h;subst h5;exact⟨ea,cls,_,H1,H',s1,B,a0,d,h1,h2,h3,h4,h6⟩
def XF (te:(Value->Option Addr->Hp->Prop)->TE):X2:=λD Ex σ H=>te (λcls d H'=>Ex cls d σ H') σ H λ_ H1=>D.nx σ H1
theorem Qi {te:(Value->Option Addr->Hp->Prop)->TE}(he:Xs X e te)(hs:swapsWith e none pos.line X.env=pure false:=by rfl):ZO X (.Expr e pos) (XF te):=by
 intro pins s σ H D Ex I h;exact wpAny_Expr_any (bg (he pins s σ H _ _ I h) (λv s1 ⟨x,H1,I1,r1,q1⟩=>⟨σ,H1,I1,q1⟩) λ_ _ z=>Xa z) I.quiet hs
theorem Px {st:Stmt}{u:X2}(h1:ZO X st u):Yn X [st] u:=by
 intro pins s σ H D Ex I h;refine gH (BN (h1 pins s σ H D Ex I h) λf s1 q=>?_);cases f with
 |next=>exact fz q
 |ret v=>exact q
 |brk=>exact q
 |cont=>exact q
theorem VH (D:CY X.prog X.w X.K X.mg X.base k x ps sp) (hr:Room k X.A) (hg:Gl X x) (ha:PA X.nox (e::es) t)
  (hdb:(x == ("__debug__":Str))=false:=by decide) (he:starEach (e::es) X.env=(false,eval e X.env)::starEach es X.env:=by rfl) (hpl:(backTo pos (starEach es X.env)).any (·.1)=false:=by rfl) :
  Xs X (.Call (.Name x p) (e::es) [] pos) (λEx=>Mu sp [] (λcls d H'=>Ex cls d H') t):=by
 obtain⟨f,fd,F,hm,hk,hb⟩:=D;intro pins s σ H Q Ex I h;refine cG (GF I hg hm ?_ hdb);refine dc (h₀:=X.base) I.ok.mod.kin hk (bg (ha pos pins s σ H _ (I.wish _) h) (λus s1 ⟨vs,H1,I1,r,q⟩=>⟨I1.kIn,?_⟩) λ_ _ z=>False.elim z) he hpl;have J:=I1.unwish;have q':sp vs H1 Q λcls d H'=>Ex cls d H':=by rw[<-aJ vs];exact q
 have hl:us.length=ps.length:=by rw[<-r.length];exact F.len _ _ _ _ q'
 have hb':=hb s1 us J.kIn (by rw[aJ];exact hl);rw[aJ] at hb';refine cM (c8 (F.run X.A X.stack s1 H1 ⟨us,[]⟩ us vs Q _ hr J.env0 hb' r q') λr s' z=>?_)
 match r,z with
 | .error e,⟨ea,cls,H',B,a0,d,he,Fl,dj,q⟩=>exact⟨ea,cls,σ,H1,H',s1,B,a0,d,he,J,Fl,dj,rfl,q⟩
 | .ok (.ret u),z=>exact J.after z
end
section
open PySem PySem.Spec PyProof.Rows
variable {X:Cx}{pins:List (Addr×Obj)}{σ:St}{H:Hp}{s:Shared}
variable {x n:Str}{c:Value}{body orelse suite:List Stmt}{b₀:Stmt}{np hpos pos:Pos}{i:Nat}
def Wv (K:PySem.W.Frag)(c:Value)(i:Nat)(tb:X2)(te:TS)(ts:Addr->TS):TS:=λD σ H=>tb { D with nx:=te D } (λcls d σ' H'=>PySem.W.exmOne K cls c=some true/\∃C:Addr,cls=.ref C/\∀ea,H' ea=none->
 ts ea { nx:=λσ H=>D.nx (σ.set i none) H,rt:=D.rt,bk:=λσ H=>D.bk (σ.set i none) H,ct:=λσ H=>D.ct (σ.set i none) H } (σ'.set i (some (.ref ea))) (upd H' ea (J2 ea C d))) σ H
theorem ND {tb:X2} {te:TS} {ts:Addr->TS} (hst:X.stack=X.env::X.outer/\X.env.frame=some X.env.locals) (hm:X.mg x=some c) (hg:Gl X x) (hN:X.N.Nodup) (hi:X.N[i]?=some n) (hk:X.env.scope.names.lookup n=some .local) (hb:Yn X body tb) (he:Qo X orelse te) (hs:∀ea:Addr,Qo (X.held (.ref ea)) (b₀::suite) (ts ea))
  (hd:(x == ("__debug__":Str))=false:=by decide):PS X (.Try body [.ExceptHandler (some (.Name x np)) (some n) (b₀::suite) hpos] orelse [] pos) (Wv X.K c i tb te ts):=by
 intro pins s σ H D I h;refine wpAny_Try_except (bg (hb pins s σ H _ _ I h) (λf s1 q=>?_) λe s1 q=>?_)
 ·cases f with
  |next=>
   obtain⟨σ',H',I',q⟩:=q;exact he pins s1 σ' H' D I' q
  |ret v=>exact q
  |brk=>exact q
  |cont=>exact q
 ·obtain⟨ea,cls,σ',H1,H',s2,B,a0,d,rfl,I2,F,dj,hx,C,hC,q⟩:=q;subst hC;have hfr:=I.ok.frames;have fl:=F.fl;rw[hst.1] at hfr fl;refine(Ke _ _).also dj (wpAny_looks_onW hfr hst.2 fl λh4 held4 up4 dj4=>?_);refine(G0 _ _).also dj4 (wpAny_landsW held4 λh5 fl5 up5 dj5=>?_);have J5:=I2.landed F fl5.1 (up4.trans up5);refine wpAny_handleBy_cons (codeAny_handlers_test (GF (J5.held (.ref ea)) hg hm ?_ hd)) (by intro z;cases z);obtain⟨ob,hob,hcls⟩:=fl5.there;have LT:PySem.W.Looks (model X.prog X.w) h5 (typeOf (.ref ea)) (.ref C):=by
   rw[<-hcls];exact(PySem.W.Looks.ld hob).andThen .now
  refine(PySem.W.exm_one J5.kIn LT hx).here ?_;refine codeAny_handlers_suite_as ((G0 _ _).also dj5 (lands_againW fl5 λh6 fl6 up6 dj6=>?_));have J6:=I2.landed F fl6.1 ((up4.trans up5).trans up6);have J7:=I2.knowD F J6 fl6.2.2.2 dj6;refine JW (v:=.ref ea) J7 hN hi (.inl hk) rfl (λs8 I8=>?_) (.inr hk);refine bg (hs ea pins s8 _ _ _ (I8.held (.ref ea)) (q ea F.free)) (λf s9 z=>?_) λ_ _ z=>False.elim z
  have z':=z.unheld J7;cases f with
  |next=>
   obtain⟨σ9,H9,I9,q9⟩:=z';exact Lw I9 hN hi hk λs10 I10=>⟨_,_,I10,q9⟩
  |brk=>
   obtain⟨σ9,H9,I9,q9⟩:=z';exact Lw I9 hN hi hk λs10 I10=>⟨_,_,I10,q9⟩
  |cont=>
   obtain⟨σ9,H9,I9,q9⟩:=z';exact Lw I9 hN hi hk λs10 I10=>⟨_,_,I10,q9⟩
  |ret u=>
   obtain⟨v,σ9,H9,I9,r9,q9⟩:=z';exact Lw I9 hN hi hk λs10 I10=>⟨v,_,_,I10,r9,q9⟩
end
section
open PySem PySem.Calls PyProof.Rows PySem.W Builtin Builtin.ObjectAttr Builtin.Getset_descriptor
variable {prog:Program}{w:World}{A:Around}{E:Value->Shared->Prop}{K:Frag}{e D:Addr}{oe od:Obj}{name:Str}{v:Value}{s:Shared}
theorem Sx {tk:Tok}{Q:Fin->Shared->Prop}(k:K.In s.heap)(I:InstAt s.heap e oe D (some od))(hf:findObj K D (some od) name=some (.value v))(q:Q (.done (.ret v)) s) :
  wpAny (model prog w) A (Builtin.«object.__getattribute__» ⟨[.ref e,.str name tk],[]⟩) Q E s:=by
 have T0:=I.type (M:=model prog w);have T1:=looks_find (M:=model prog w) k I hf;have s0:slotArgs "__getattribute__" 1 ⟨[.ref e,.str name tk],[]⟩=pure (Value.ref e,[Value.str name tk]):=by kernel_rfl
 have s1:attrName (.str name tk)=pure name:=by kernel_rfl
 simp only[Builtin.«object.__getattribute__»,s0];refine ae (aB ?_);dsimp only;rw[s1];refine ae (aB (ae (T0.here (ae (T1.here ?_)))));exact aB q
theorem Wo {expr:Bool}{Q:Value->Shared->Prop}(k:K.In s.heap)(I:InstAt s.heap e oe D (some od))(z:IsExc s.heap e D)(c:ExcCls K D)(hf:findObj K D (some od) name=some (.value v))(hh:handedIn v=true)(q:Q v { s with toks:=s.toks+1 }) :
  wpAny (model prog w) A (getAttr (.ref e) name expr) Q E s:=by
 obtain⟨h1,g1,d1,t1,o1⟩:=s;have T0:=I.type (M:=model prog w);have T1:=dY (M:=model prog w) k c.ga;have T2:=dY (M:=model prog w) k c.gg;have B:=F.excAttr_ValueError.ga.bind (.ref e);unfold getAttr getAttrBy;refine ae (wpAny_mkText (bN (ae (T0.at (ae (T1.at ?_))))));have n0:(onTheHeap (Value.ref D)&&Value.builtin "BaseException.__getattribute__" == Value.builtin "object.__getattribute__")=false:=by
  have:(Value.builtin "BaseException.__getattribute__" == Value.builtin "object.__getattribute__")=false:=by decide +kernel
  rw[this];rfl
 dsimp only;rw[ai (by rw[n0];decide)];unfold getAttrByItsOwn hookBefore;rw[ak (by rfl)];refine ae (T2.at (ae (fR (bN ?_))));unfold callGetattribute boundAndCalled;rw[ai (by cases expr<;>decide),B];refine ae (aB ?_);dsimp only;refine cM (cX F.excAttr_ValueError.ga.plain F.entry_bexc_ga ?_);refine NG (s:=⟨h1,g1,d1,t1+1,o1⟩) k z c.mb (Sx (s:=⟨h1,g1,d1,t1+1,o1⟩) k I hf ?_);dsimp only;exact handed_on hh q
end
section
open PySem PySem.Spec PyProof.Rows
variable {X:Cx}{pins:List (Addr×Obj)}{σ:St}{H:Hp}{s:Shared}
def X9 (K:PySem.W.Frag)(ta:TE)(f:Str):TE:=λσ H Q=>ta σ H λx H1=>∃e D dx fs v,x=.ref e/\H1 e=some (J2 e D (some dx))/\ExiCls K D/\PySem.W.findIn K (.ref D) f=some none/\H1 dx=some (.xd fs)/\fs.lookup f=some v/\Q v H1
theorem ON {K:PySem.W.Frag}(hK:X.K=K){o:Expr}{f:Str}{pos:Pos}{ta:TE}(he:PE X o ta)(hb:attributeBase o f X.env (eval o X.env)=eval o X.env):PE X (.Attribute o f pos) (X9 K ta f):=by
 subst hK;intro pins s σ H Q I h;refine RX hb (BN (he pins s σ H _ I h) λu s1 z9=>?_);obtain⟨x,H1,I1,rx,e,D,dx,fs,v,ex,ee,c,n,hd,l,q⟩:=z9;subst ex;obtain rfl:u=Value.ref e:=rx;obtain⟨⟨z,oe,q1,hde,_⟩,_,_⟩:Be X.prog X.w H1 s1.heap e (J2 e D (some dx)):=I1.hok e _ ee;obtain⟨mA,ns,r⟩:Be X.prog X.w H1 s1.heap dx (.xd fs):=I1.hok dx _ hd;obtain⟨od,ho,hl⟩:=Oe ns;obtain⟨u,hu,ru⟩:=Gj.some_of (v:=v) (o:=mA f) (by rw[<-l];exact r f);obtain⟨oe2,q2,hc,vs,hv⟩:=id z.ob;rw[q1] at q2;cases q2;have inst:PySem.W.InstAt s1.heap e oe D (some od):=⟨q1,hc,by unfold PySem.W.notCls;rw[hv],by rw[hde];exact ho⟩
 exact Wo I1.kIn inst z c.toExcCls (ij c.hd n rfl (by rw[hl,hu])) (NK ru) ⟨v,H1,I1.tok _,ru,q⟩
end
end L2
namespace L2
open PySem PySem.Calls PySem.Spec PyProof.Rows PySem.Builtin.Str
section
variable {prog:Program}{w:World}{A:Around}{E:Value->Shared->Prop}{s:Shared}{x y:Str}{t u:Tok}{Q:Value->Shared->Prop}
theorem SU (hz:x.length+2<=sizeLine):(PySem.Txt.split x y).length<=sizeLine:=by
 have:=StrLaws.occ_length_le x y 0 x.length (x.length+1);unfold PySem.Txt.split
 split
 ·show 1<=sizeLine;decide
 ·split
  ·show 1<=sizeLine;decide
  ·rw[length_partsBetween];omega
theorem Tq (hy:(y.length == 0)=false) (hz:x.length+2<=sizeLine)
  (h:∀(l:List (Str×Tok)) (k:Nat),l.map (·.1)=PySem.Txt.split x y->Q (.ref s.heap.objs.size) { s with heap:=s.heap.push { cls:=.type "list",data:=.seq (strValues l).toArray },toks:=k }) :
  wpAny (model prog w) A (call (.builtin "str.split") [.str x t,.str y u]) Q E s:=by
 have go:∀{S:PySem.Spec},Meets (Builtin.«str.split» ⟨[.str x t,.str y u],[]⟩) S->S A (wants Q E) s->wpAny (model prog w) A (call (.builtin "str.split") [.str x t,.str y u]) Q E s:=
  λg z=>dZ F.slot_str_split (fV _ _ _) F.entry_str_split (F.args_str_split_2 _ _) g z
 by_cases c1:(decide (x.length<y.length)||decide (strKind x<strKind y))=true
 ·exact go (meets_str_split_cannot_occur x y t u c1) (h [(x,t)] s.toks (by unfold PySem.Txt.split;rw[ak c1];rfl))
 have c1':=cj.mpr c1
 by_cases c2:(occurrences x y 0 x.length (x.length+1)).isEmpty=true
 ·exact go (meets_str_split_not_found x y t u c1' hy c2) (h [(x,t)] s.toks (by unfold PySem.Txt.split;rw[ai c1,ak c2];rfl))
 have few:(partsBetween x (occurrences x y 0 x.length (x.length+1)) y.length).length<=sizeLine:=by
  have:=StrLaws.occ_length_le x y 0 x.length (x.length+1);rw[length_partsBetween];omega
 refine go (meets_str_split_sep x y t u c1' hy (cj.mpr c2) (by omega) few) ?_;have z:=h (numbered s.toks (partsBetween x (occurrences x y 0 x.length (x.length+1)) y.length)) (s.toks+(partsBetween x (occurrences x y 0 x.length (x.length+1)) y.length).length) (by unfold PySem.Txt.split;rw[ai c1,ai c2];exact numbered_texts _ _);rw[<-strsFrom_eq] at z;exact z
end
section
variable {X:Cx}
def XG:V->List V->Hp->VK->Prop:=λx vs H Q=>∃z y,x=.str z/\vs=[.str y]/\(y.length == 0)=false/\z.length+2<=16777216/\∀p,H p=none->Q (.ref p) (upd H p (.lst ((PySem.Txt.split z y).map V.str)))
theorem NZ:∀(l:List (Str×Tok)),A5 ((l.map (·.1)).map V.str) (strValues l)
 |[]=>.nil
 |(z,t)::l=>.cons ⟨t,rfl⟩ (NZ l)
theorem Qn:Vy X "str.split" XG:=by
 intro pins s σ H x vs v us Q I rx rv h;obtain⟨z,y,rfl,rfl,hy,hz,q⟩:=h;obtain⟨tk,rfl⟩:=rx;obtain⟨y',rfl,ry⟩:=rv.one;obtain⟨tk2,rfl⟩:=ry;refine Tq hy (by rw[bh];exact hz) λl k e=>?_
 refine⟨.ref s.heap.objs.size,_,I.laid (λb o e=>af _ e) (au _) (show Be X.prog X.w _ _ _ (.lst ((PySem.Txt.split z y).map V.str)) from⟨?_,strValues l,0,?_,aH _ rfl⟩),rfl,q _ I.fresh⟩
 ·rw[aa];exact SU (by rw[bh];exact hz)
 ·rw[<-e];exact NZ l
def Wu:V->List V->Hp->VK->Prop:=λx vs H Q=>∃z y,x=.str z/\vs=[.str y]/\Q (.bl (PySem.Txt.startswith z y)) H
theorem IS:Vy X "str.startswith" Wu:=by
 intro pins s σ H x vs v us Q I rx rv h;obtain⟨z,y,rfl,rfl,q⟩:=h;obtain⟨tk,rfl⟩:=rx;obtain⟨y',rfl,ry⟩:=rv.one;obtain⟨tk2,rfl⟩:=ry;exact SC.startswith ⟨.bl _,H,I,rfl,q⟩
end
end L2
namespace L2
open PySem PySem.Spec PyProof.Rows
end L2
namespace L2
end L2
namespace L2
section
open PySem PySem.Calls PyProof.Rows
variable {prog:Program}{w:World}{A:Around}{E:Value->Shared->Prop}{s:Shared}
def Sk (Q:Value->Shared->Prop)(vs:List Value)(s1:Shared):Prop:=∃ss,StrsAre vs ss/\vs.length<64/\
 ∀h' p (out:List Value) ss' c,StrsAre out ss'->ss'.Perm ss->sortedS ss'=true->s1.heap.objs.size<=p->(∀b o,s1.heap.get? b=some o->h'.get? b=some o)->
  h'.get? p=some (seqObj "list" out.toArray c)->Q (.ref p) { s1 with heap:=h' }
theorem Nh {x:Value}{Q:Value->Shared->Prop}(hc:wpAny (model prog w) A.in1 (collect x) (Sk Q) E s):wpAny (model prog w) A (call (.builtin "sorted") [x]) Q E s:=by
 refine Calls.call_function_entry kind_sorted plain_sorted entry_sorted (args_sorted1 x) ?_;unfold Builtin.«sorted»;refine ae (m:=checkCount "sorted" 1 1 _) (aB (ae (bg hc (λvs s1 z=>?_) λ_ _ e=>e)));obtain⟨ss,hS,few,q⟩:=z;refine ae (iu ?_);have there:(s1.heap.push (seqObj "list" vs.toArray 0)).get? s1.heap.objs.size=some (seqObj "list" vs.toArray 0):=aH _ rfl;refine ae (bN (wpAny_call_entry slot_list_sort ⟨_,there,rfl⟩ entry_list_sort (list_sort_treeK strKind_oneLt there hS.keysOf (λv₁ v₂ rest e=>keyKind_strs (by rw[<-e];exact hS)) few λst' pm so=>⟨_,rfl,?_⟩) (args_list_sort _)));obtain⟨ss',y1,y2,y3⟩:=sorted_out_str hS pm so;obtain⟨c,hp⟩:=sortedHeap_at (out:=(arrOf st').map (·.2)) there;refine aB ⟨_,rfl,q _ _ ((arrOf st').map (·.2)).toList ss' c y1 y2 y3 (au _) (λb o e=>?_) (by rw[Array.toArray_toList];exact hp)⟩;have lt:=aL e;show Heap.get? _ b=some o;rw[sortedHeap_old (a4 lt) (by rw[cH];exact dO lt)];exact af _ e
def W5 (S:Addr)(Q:List Value->Shared->Prop)(r:Result)(s':Shared):Prop:=∃acc c,r=.ok (.ret (.ref S))/\s'.heap.get? S=some { cls:=.type "list",dict:=none,data:=.seq acc c,slots:=#[] }/\Q acc.toList s'
theorem P0 {x:Value} {Q:List Value->Shared->Prop} (h:wpAny (model prog w) A.in1 (Builtin.List.listExtendWith (.ref s.heap.objs.size) x (.ref s.heap.objs.size))
   (λfin s'=>match fin with | .done f=>W5 s.heap.objs.size Q (.ok f) s' | .again c'=>c'.quiet=true/\codeAny (model prog w) A c' (W5 s.heap.objs.size Q) s') (λe s'=>W5 s.heap.objs.size Q (.error e) s')
   { s with heap:=s.heap.push { cls:=.type "list",data:=.seq #[] } }):wpAny (model prog w) A (collect x) Q E s:=by
 unfold collect;refine ae (wpAny_runValue (cN PySem.F.entry_proto_collect ?_));rw[cL PySem.F.plain_proto_collect _];refine ae (cU (aB ⟨eW gR _,cN PySem.F.entry_list_iadd ?_⟩));rw[cL gR _];refine bg h (λfin s' z=>?_) (λe s' z=>?_)
 ·cases fin with
  |done f=>
   obtain⟨acc,c,e,hS,q⟩:=z;cases e;exact ae (ia hS (aB q))
  |again c'=>
   refine⟨z.1,c8 z.2 λr s2 z2=>?_⟩;obtain⟨acc,c,rfl,hS,q⟩:=z2;exact ae (ia hS (aB q))
 ·obtain⟨acc,c,e,_⟩:=z;cases e
theorem P4 {T:String} {r d:Addr} {n:Nat} {P:Nat->Value->Prop} {OK:Heap->Prop} {Q:List Value->Shared->Prop} (S:PySem.W.KdlSrc prog w T r d n P OK) (hh:A.handled=none) (ok:OK s.heap) (hn:n<=sizeLine)
  (q:∀h' tk (vs:List Value),(∀b o,s.heap.get? b=some o->h'.get? b=some o)->vs.length=n->(∀j v,vs[j]?=some v->P j v)->Q vs { s with heap:=h',toks:=tk }):wpAny (model prog w) A (collect (.ref r)) Q E s:=by
 obtain⟨lr,ld⟩:=S.there _ ok;refine P0 (PySem.W.kdl_extend S hh (S.keep _ _ ok λb _ o e=>af _ e) s.heap.objs.size (cS lr) (cS ld) (.ref s.heap.objs.size) 0 (aH _ rfl) (λh' tk acc c k hS it=>?_) hn);refine⟨acc,c,rfl,hS,q h' tk acc.toList (λb o e=>k b o (a4 (aL e)) (af _ e)) (by rw[dG];exact it.1) λj v e=>it.2 j v (by rw[<-fb];exact e)⟩
end
end L2
namespace L2
end L2
namespace L2
end L2
namespace L2
end L2
namespace L2
section
open PySem PySem.Calls PyProof.Rows
variable {X:Cx}{pins:List (Addr×Obj)}{σ:St}{H:Hp}{s:Shared}
theorem Inv.drew {d':Drawn}(I:Inv X pins σ H s):Inv X pins σ H { s with drawn:=d' }:=⟨I.ok,I.os,I.bare,I.base,I.loc,I.cell,I.free,I.freeC,I.pin,I.hok,I.len⟩
theorem J8:∀{ss:List Str} {its:List Value},StrsAre its ss->A5 (ss.map V.str) its
 |_,_,.nil=>.nil
 |_,_,.cons x t h=>.cons ⟨t,rfl⟩ (J8 h)
theorem RE:∀{us:List Value} {ss:List Str},us.length=ss.length->(∀(j:Nat) (v:Value),us[j]?=some v->∃k t,v=.str k t/\ss[j]?=some k)->StrsAre us ss
 |[],[],_,_=>.nil
 |[],_::_,h,_=>nomatch h
 |_::_,[],h,_=>nomatch h
 |u::us,k::ss,h,f=>by
  obtain⟨k',t,rfl,e⟩:=f 0 u rfl;cases e;exact .cons _ t (RE (Nat.succ.inj h) λj v e=>f (j+1) v e)
theorem O6:∀{kvs:List (Key×V)} {vs:List (Key×Value)},KV kvs vs->vs.map (·.1)=kvs.map (·.1)
 |_,_,.nil=>rfl
 |_,_,.cons h t=>by rw[aF,aF,O6 t,h.1]
def UW (H:Hp)(ks:List Str)(Q:VK):Prop:=∀ts p,ts.Perm ks->sortedS ts=true->H p=none->Q (.ref p) (upd H p (.lst (ts.map V.str)))
theorem UY {Q:VK}{ks:List Str}{d':Drawn}{tk:Nat}{h1:Heap}{vs:List Value}{ss:List Str}(I:Inv X pins σ H s)(k:∀b o,s.heap.get? b=some o->h1.get? b=some o)(hs:StrsAre vs ss)(pm:ss.Perm ks)(few:ks.length<64)(q:UW H ks Q) :
  Sk (EP X pins σ Q) vs { s with heap:=h1,drawn:=d',toks:=tk }:=by
 have I1:Inv X pins σ H { s with heap:=h1,drawn:=d',toks:=tk }:=(I.drew (d':=d')).kept (t':=tk) k;refine⟨ss,hs,by rw[hs.length,pm.length_eq];exact few,λh' p out ss' c ho pe so lp k' e=>⟨.ref p,_,I1.laid (t':=tk) k' lp (?_:Be X.prog X.w _ h' p (.lst (ss'.map V.str))),rfl,q ss' p (pe.trans pm) so (I1.hok.fresh lp)⟩⟩;refine⟨?_,out,c,J8 ho,e⟩;rw[aa,pe.length_eq,pm.length_eq,bh];omega
def XH:List V->Hp->VK->Prop:=λxs H Q=>∃(d:Addr) (kvs:List (Key×V)) (ss:List Str),xs=[.ref d]/\H d=some (.dK kvs)/\kvs.map (·.1)=ss.map .inr/\ss.length<64/\UW H ss Q
theorem QQ (hc:X.calm=true):EV X (.builtin "sorted") XH:=by
 intro pins s σ H xs us Q I r h;obtain⟨d,kvs,ss,rfl,h1,hk,few,q⟩:=h;obtain⟨u,rfl,ru⟩:=vals1 r;cases ru;obtain⟨_,lo,vs,rv,o,es,ep,ho,h2,h3,h4⟩:Be X.prog X.w H s.heap d (.dK kvs):=I.hok d _ h1;have D:s.heap.DictAt (A6 X.prog X.w) d vs ep:=⟨o,es,ho,h2,h3,h4⟩
 have ln:vs.length=ss.length:=by
  have:=congrArg List.length hk;rw[aa,aa] at this;rw[<-this];exact rv.length.symm
 refine Nh (P4 (PySem.W.kdl_dict (knd:=A6 X.prog X.w) (kvs:=vs) (ep:=ep) lo) (by simpa using I.ok.hd hc) D (by rw[ln,bh];omega) λh' tk us k lu it=>?_);have hs:StrsAre us ss:=by
  refine RE (by rw[lu,ln]) λj v e=>?_
  obtain⟨ky,x,e1,e2⟩:=it j v e;have e3:(kvs.map (·.1))[j]?=some ky:=by rw[<-O6 rv,aD,e1];rfl
  rw[hk,aD] at e3;cases z:ss[j]? with
  |none=>rw[z] at e3;cases e3
  |some y=>
   rw[z] at e3;injection e3 with e3
   subst e3;obtain⟨t,rfl⟩:=LX e2;exact⟨_,t,rfl,rfl⟩
 exact UY (d':=s.drawn) I k hs (List.Perm.refl _) few q
end
end L2
namespace L2
open PySem
end L2
namespace L2
open PySem PySem.Spec PyProof.Rows
end L2
namespace L2
end L2
namespace L2
end L2
namespace L2
section
open PySem PySem.Calls PyProof.Rows
variable {prog:Program}{w:World}{A:Around}{E:Value->Shared->Prop}{I S:Addr}{fp wr:List Addr}{n:Nat}{P:Nat->Value->Prop}{St:Nat->Heap->Prop}{bt:Nat->Nat->Bool}{d:Value}{R:Result->Shared->Prop}
theorem U7 {M:Model} {A:Around} {E:Value->Shared->Prop} {s:Shared} {pos:Pos} {id:String} {args:List (Bool×Sem Value)} {kws:List (Option Str×Sem Value)} {Q:Value->Shared->Prop} (hp:args.any (·.1)=false) (hk:kws.any (·.1.isNone)=false)
  (h:wpAny M A (evalArgs (.builtin id) true args kws) (λz sz=>wpAny M A (call (.builtin id) z.pos z.kw) Q E sz) E s):wpAny M A (callWith pos (.builtin id) [] args kws) Q E s:=by
 unfold callWith;refine ae (bN (bg h (λz sz hz=>ae (eV ?_)) λ_ _ y=>y));simp only[hp,hk,Bool.or_false];refine ae (aB (ae (bg hz (λv sv hv=>ae (bN (wpAny_point (aB hv)))) λ_ _ y=>y)))
end
end L2
namespace L2
section
open PySem PySem.Calls PyProof.Rows
variable {prog:Program}{w:World}{A:Around}{E:Value->Shared->Prop}{s:Shared}
theorem Kc:entryFor table "dict.update.loop"=some Builtin.«dict.update.loop»:=entryFor_of_tree (by kernel_rfl)
theorem Ez:plainId "dict.update.loop"=true:=by decide +kernel
theorem Tw:typeLookup (.type "list") "keys"=pure none:=by rw[typeLookup_type,builtinLookup_eq_fast];kernel_rfl
theorem JJ {a:Addr} {xs:Array Value} {k:Nat} {sl:Array (Option Value)} {Q:Option Value->Shared->Prop} (hx:s.heap.get? a=some { cls:=.type "list",dict:=none,data:=.seq xs k,slots:=sl }) (hA:A.handled=none)
  (h:∀h' tk,(∀b o,s.heap.get? b=some o->h'.get? b=some o)->Q none { s with heap:=h',toks:=tk }):wpAny (model prog w) A (getAttr? (.ref a) "keys") Q E s:=by
 obtain⟨hp,g,d,tk,os⟩:=s;have hT:∀tk',(⟨hp,g,d,tk',os⟩:Shared).TypeIs (.ref a) "list":=λ_=>⟨_,hx,rfl⟩
 have f1:=sub_AttributeError;have f3:=F.slot_list_getattribute.lookup;have f4:=F.slot_list_getattribute.bind (.ref a);have f5:=am_list_getattr_none;unfold getAttr? getAttrBy? getAttrBy
 repeat (any_goals (first|assumption|exact hT _|((with_reducible show wpAny _ _ (call (Value.builtin "list.__getattribute__") _ _) _ _ _);refine dZ F.slot_list_getattribute (hT _) am_entry_list_getattribute (F.args_list_getattribute_2 _ _) (meets_getattribute_miss_list a xs k sl "keys" _ Tw (by decide +kernel) (by decide +kernel)) ⟨hx,hA,λh' tk' e hx'=>?_⟩)|wp_step))
 obtain⟨t',u',he⟩:=hx'.there;show wpAny _ _ (getattributeRaised _ _ _ _ _ _ _) _ _ _;unfold getattributeRaised
 repeat (any_goals (first|assumption|wp_step))
 exact h _ _ λb o e=>hx'.keeps b o e
theorem pair_items {t:Addr}{k v:Value}{Q:List Value->Shared->Prop}(ht:IsTup s.heap t #[k,v])(h:Q [k,v] s):wpAny (model prog w) A (Builtin.Dict.pairItems (.ref t)) Q E s:=by
 obtain⟨o,ho,hc,n,hd⟩:=ht;have hT:s.TypeIs (.ref t) "tuple":=⟨o,ho,hc⟩
 unfold Builtin.Dict.pairItems;refine ae (gq hT ?_);rw[ak (by decide)];refine ae (m:=seqItems? (.ref t)) ?_;unfold seqItems?;refine ae (ia ho ?_);rw[hd];exact aB (aB h)
theorem SQ {R:Result->Shared->Prop} {I d:Addr} {fp:List Addr} {vs:List Value} {St:Nat->Heap->Prop} {D:Nat->Heap->Prop} {h0:Heap} (W:Walks prog w A.in1 I fp [I] vs.length (λi v=>vs[i]?=some v) St) (nd:d∉fp)
  (hI:h0.get? I=none) (hd0:h0.get? d=none) (keep:∀i h h',D i h->(∀o,h.get? d=some o->h'.get? d=some o)->D i h')
  (pr:∀i v,vs[i]?=some v->∃t x y,v=.ref t/\IsTup h0 t #[x,y]/\∀(s:Shared) (Q:Unit->Shared->Prop) (E:Value->Shared->Prop),(∀b o,h0.get? b=some o->s.heap.get? b=some o)->D i s.heap->(∀h' tk,D (i+1) h'->Heap.SameBut d s.heap h'->Q () { s with heap:=h',toks:=tk })->wpAny (model prog w) A.in1 (dictSet d x y) Q E s) :
  ∀(k i:Nat) (s:Shared),vs.length-i=k->i<=vs.length->(∀b o,h0.get? b=some o->s.heap.get? b=some o)->St i s.heap->D i s.heap->
   (∀h' tk,(∀b o,b∉[d,I]->s.heap.get? b=some o->h'.get? b=some o)->D vs.length h'->R (.ok (.ret .none)) { s with heap:=h',toks:=tk })->codeAny (model prog w) A (.builtin "dict.update.loop" ⟨[.ref d,.ref I,rawInt i,.none],[]⟩) R s:=by
 have nI:d∉[I]:=λz=>nd (W.sub _ z)
 intro k
 induction k with
 |zero=>
  intro i s hk hi old st T q;have e:i=vs.length:=by omega
  subst e;refine cN Kc ?_;rw[cL Ez _];refine ae (m:=pyNext (.ref I)) (W.done s _ _ st λh' tk k'=>?_);refine ae (m:=Builtin.Dict.addKeywords d []) (aB (aB ?_));exact q h' tk (λb o n e=>k' b o (λz=>n (ao _ z)) e) (keep _ _ _ T λo e=>k' d o nI e)
 |succ k ih=>
  intro i s hk hi old st T q;have lt:i<vs.length:=by omega
  refine cN Kc ?_;rw[cL Ez _];refine ae (m:=pyNext (.ref I)) (W.item i s _ _ lt st λv h' tk hv st' k'=>?_);obtain⟨t,x,y,rfl,ht,step⟩:=pr i v hv;have old':∀b o,h0.get? b=some o->h'.get? b=some o:=λb o e=>k' b o (λz=>by rw[ah.mp z,hI] at e;cases e) (old b o e)
  refine ae (bN (ae (wpAny_tryCatch (pair_items (s:={ s with heap:=h',toks:=tk }) (ht.keeps old') ?_))));refine bN (step _ _ _ old' (keep _ _ _ T λo e=>k' d o nI e) λh2 tk2 T2 sb=>?_);refine aB ⟨eW Ez _,ih (i+1) _ (by omega) lt (λb o e=>?_) (W.frame _ _ _ st' λb hb o e=>?_) T2 λh3 tk3 k3 T3=>?_⟩
  ·rw[sb.2 b (λz=>by rw[z,hd0] at e;cases e)];exact old' b o e
  ·rw[sb.2 b (λz=>nd (z▸hb))];exact e
  ·refine q h3 tk3 (λb o n e=>k3 b o n ?_) T3;rw[sb.2 b (λz=>n (by simp[z]))];exact k' b o (λz=>n (ao _ z)) e
theorem So {l:Addr} {vs:List Value} {D:Nat->Heap->Prop} {Q:Value->Shared->Prop} (hh:A.handled=none) (hl:∃n sl,s.heap.get? l=some { cls:=.type "list",dict:=none,data:=.seq vs.toArray n,slots:=sl })
  (keep:∀i h h',D i h->(∀o,h.get? s.heap.objs.size=some o->h'.get? s.heap.objs.size=some o)->D i h')
  (d0:∀h:Heap,h.get? s.heap.objs.size=some { cls:=.type "dict",data:=.dict #[] }->D 0 h)
  (pr:∀i v,vs[i]?=some v->∃t x y,v=.ref t/\IsTup s.heap t #[x,y]/\∀(s1:Shared) (Q:Unit->Shared->Prop) (E:Value->Shared->Prop),(∀b o,s.heap.get? b=some o->s1.heap.get? b=some o)->D i s1.heap->(∀h' tk,D (i+1) h'->Heap.SameBut s.heap.objs.size s1.heap h'->Q () { s1 with heap:=h',toks:=tk })->wpAny (model prog w) A.in1.in1 (dictSet s.heap.objs.size x y) Q E s1)
  (q:∀h' tk,(∀b o,s.heap.get? b=some o->h'.get? b=some o)->D vs.length h'->Q (.ref s.heap.objs.size) { s with heap:=h',toks:=tk }):wpAny (model prog w) A (call (.type "dict") [.ref l]) Q E s:=by
 obtain⟨n,sl,el⟩:=hl;have lt:l<s.heap.objs.size:=aL el;refine callType_codes (Q₁:=λobj s₁=>obj=.ref s.heap.objs.size/\s₁={ s with heap:=s.heap.push { cls:=.type "dict",data:=.dict #[] } }) PySem.F.kt_called_dict (PySem.F.kt_typeCall_dict_1 _) PySem.F.entry_dict_init (kt_code_dict_new _ ⟨rfl,rfl⟩) ?_
 rintro obj s₁ ⟨rfl,rfl⟩
 have hS:(s.heap.push { cls:=.type "dict",data:=.dict #[] }).get? s.heap.objs.size=some { cls:=.type "dict",data:=.dict #[] }:=aH _ rfl;have hT:Shared.TypeIs { s with heap:=s.heap.push { cls:=.type "dict",data:=.dict #[] } } (.ref s.heap.objs.size) "dict":=⟨_,hS,rfl⟩
 have el':=af ({ cls:=.type "dict",data:=.dict #[] }:Obj) el;refine⟨hT,PySem.F.args_dict_init_2 _ _,?_⟩;unfold Builtin.«dict.__init__»;refine ae ?_;unfold Builtin.Dict.selfAndRest;refine ae (wpAny_notOrdered_dict hT ?_);show wpAny _ _ (pure (s.heap.objs.size,[Value.ref l])) _ _ _;refine aB ?_;show wpAny _ _ (Builtin.Dict.updateFrom "dict.__init__" s.heap.objs.size (.ref l) [] .none) _ _ _;unfold Builtin.Dict.updateFrom;refine ae (gq (T:="list") ⟨_,el',rfl⟩ ?_);rw[ak (by decide)];refine ae (JJ (s:={ s with heap:=s.heap.push { cls:=.type "dict",data:=.dict #[] } }) el' (by simp[hh]) λh1 tk1 k1=>?_);rw[ak (show(none:Option Value).isNone=true from rfl)];refine ae (wpAny_rule ?_);have el1:=k1 _ _ el';have l1:h1.IsList l vs.toArray:=⟨_,el1,rfl,_,rfl⟩
 refine ae (eQ (s:={ s with heap:=h1,toks:=tk1 }) l1 ?_);have g1:s.heap.objs.size+1<=h1.objs.size:=aL (k1 _ _ hS);have nI:l≠h1.objs.size:=a4 (aW lt (Nat.le_of_succ_le g1));have W:=Walks.list (prog:=prog) (w:=w) (A:=A.in1.in1) (by simp[hh]) h1.objs.size l nI vs.toArray;have W2:Walks prog w A.in1.in1 h1.objs.size [h1.objs.size,l] [h1.objs.size] vs.length (λi v=>vs[i]?=some v) (λi h=>h.IsListIter h1.objs.size l i/\h.IsList l vs.toArray):=by
  simpa only [List.size_toArray,List.getElem?_toArray] using W
 have old1:∀b o,s.heap.get? b=some o->h1.get? b=some o:=λb o e=>k1 b o (af _ e)
 refine aB ⟨eW Ez _,SQ (h0:=s.heap) (D:=D) W2 ?_ (cz (by omega)) (cz (au _)) keep pr vs.length 0 _ (by omega) (a6 _) (λb o e=>af _ (old1 b o e)) ⟨⟨_,aH _ rfl,rfl,rfl⟩,l1.push _⟩ (d0 _ (af _ (k1 _ _ hS))) λh' tk k' T=>⟨rfl,q h' tk (λb o e=>k' b o (λz=>?_) (af _ (old1 b o e))) T⟩⟩
 ·simp only[List.mem_cons,List.not_mem_nil,or_false,not_or];exact⟨a4 (by omega),cS lt⟩
 ·have lb:=aL e;simp only[List.mem_cons,List.not_mem_nil,or_false] at z;rcases z with rfl|rfl
  ·exact absurd lb (cI _)
  ·exact absurd lb (Nat.not_lt.mpr (Nat.le_of_succ_le g1))
open PySem.Spec
theorem O1:∀{ps:List Addr} {its:List Value},A5 (ps.map V.ref) its->∀(i:Nat) v,its[i]?=some v->∃t,ps[i]?=some t/\v=.ref t
 |[],_,.nil,i,v,e=>by simp at e
 |t::ps,_,.cons r h,0,v,e=>⟨t,rfl,by cases r;simpa using e.symm⟩
 |t::ps,_,.cons r h,i+1,v,e=>by
  obtain⟨t',a,b⟩:=O1 h i v (by simpa using e);exact⟨t',by simpa using a,b⟩
theorem JE {α β:Type}{F:α->β->Prop}:∀{l:List α} {m:List β},Paired F l m->∀{y:β},y∈m->∃x,x∈l/\F x y
 |_,_,.nil,_,h=>nomatch h
 |_,_,.cons r t,y,h=>by
  rcases aM.mp h with rfl|h
  ·exact⟨_,aw,r⟩
  ·obtain⟨x,a,b⟩:=JE t h;exact⟨x,ao _ a,b⟩
end
end L2
namespace L2
section
open PySem PySem.W PyProof.Rows
variable {n:Nat}{lt:Nat->Nat->Bool}{cmp:Nat->Nat->(Bool->Shared->Prop)->Shared->Prop}{s:Shared}
structure Ordr (n:Nat) (lt:Nat->Nat->Bool) (cmp:Nat->Nat->(Bool->Shared->Prop)->Shared->Prop) (s:Shared):Prop where
 ask:∀(i j:Nat) (C:Bool->Shared->Prop),i<n->j<n->i≠j->C (lt i j) s->cmp i j C s
 tr:∀i j k,i<n->j<n->k<n->lt i j=true->lt j k=true->lt i k=true
 tot:∀i j,i<n->j<n->i≠j->lt i j=false->lt j i=true
def MS (n:Nat)(p:Array Nat):Prop:=p.size=n/\p.toList.Perm (List.range n)
theorem MS.lo {p:Array Nat}(h:MS n p){i:Nat}(hi:i<n):p.getD i 0<n:=by
 have hs:i<p.size:=by rw[h.1];exact hi
 have e:p.getD i 0=p[i]:=by simp[Array.getD,hs]
 rw[e];exact fg.mp (h.2.mem_iff.mp (by simp))
theorem MS.ne {p:Array Nat}(h:MS n p){i j:Nat}(hi:i<n)(hj:j<n)(hij:i≠j):p.getD i 0≠p.getD j 0:=by
 have hs:i<p.size:=by rw[h.1];exact hi
 have ht:j<p.size:=by rw[h.1];exact hj
 have nd:p.toList.Nodup:=h.2.nodup_iff.mpr List.nodup_range;have e1:p.getD i 0=p.toList[i]'(by simpa using hs):=by simp[Array.getD,hs]
 have e2:p.getD j 0=p.toList[j]'(by simpa using ht):=by simp[Array.getD,ht]
 rw[e1,e2];intro z;have pw:=cq.mp nd;rcases Nat.lt_or_gt_of_ne hij with g|g
 ·exact pw i j (by simpa using hs) (by simpa using ht) g z
 ·exact pw j i (by simpa using ht) (by simpa using hs) g z.symm
def Jz (lt:Nat->Nat->Bool)(p:Array Nat)(k:Nat):Prop:=∀i j,i<j->j<k->lt (p.getD i 0) (p.getD j 0)=true
def Xo (lt:Nat->Nat->Bool)(p:Array Nat)(k:Nat):Prop:=∀i j,i<j->j<k->lt (p.getD j 0) (p.getD i 0)=true
theorem QW (O:Ordr n lt cmp s){p:Array Nat}(hp:MS n p){G:Nat->Shared->Prop}:∀(f m:Nat),1<=m->m+f<=n->Jz lt p m->
  (∀m',m<=m'->m'<=m+f->Jz lt p m'->(m'=m+f\/lt (p.getD m' 0) (p.getD (m'-1) 0)=true)->G m' s)->(kas_asc p f m).kasWp cmp G s
 |0,m,_,_,up,h=>h m (au _) (au _) up (.inl rfl)
 |f+1,m,h1,h2,up,h=>by
  refine O.ask _ _ _ (hp.lo (by omega)) (hp.lo (by omega)) (hp.ne (by omega) (by omega) (by omega)) ?_;cases hl:lt (p.getD m 0) (p.getD (m-1) 0) with
  |true=>exact h m (au _) (by omega) up (.inr hl)
  |false=>
   have hl':=O.tot _ _ (hp.lo (by omega)) (hp.lo (by omega)) (hp.ne (by omega) (by omega) (by omega)) hl;show(kas_asc p f (m+1)).kasWp cmp G s;refine QW O hp f (m+1) (by omega) (by omega) (λi j hij hj=>?_) λm' a b c d=>h m' (by omega) (by omega) c (d.imp (by omega) id)
   by_cases e:j=m
   ·subst e
    by_cases e2:i=j-1
    ·rw[e2];exact hl'
    ·exact O.tr _ _ _ (hp.lo (by omega)) (hp.lo (by omega)) (hp.lo (by omega)) (up i (j-1) (by omega) (by omega)) hl'
   ·exact up i j hij (by omega)
theorem R0 (O:Ordr n lt cmp s){p:Array Nat}(hp:MS n p){G:Array Nat×Nat×Nat->Shared->Prop}:∀(f m:Nat),1<=m->m+f<=n->Xo lt p m->
  (∀m',m<=m'->m'<=m+f->Xo lt p m'->G (p,m',0) s)->(kas_desc f p m 0).kasWp cmp G s
 |0,m,_,_,dn,h=>h m (au _) (au _) dn
 |f+1,m,h1,h2,dn,h=>by
  refine O.ask _ _ _ (hp.lo (by omega)) (hp.lo (by omega)) (hp.ne (by omega) (by omega) (by omega)) ?_;cases hl:lt (p.getD m 0) (p.getD (m-1) 0) with
  |true=>
   show(kas_desc f p (m+1) 0).kasWp cmp G s;refine R0 O hp f (m+1) (by omega) (by omega) (λi j hij hj=>?_) λm' a b c=>h m' (by omega) (by omega) c
   by_cases e:j=m
   ·subst e
    by_cases e2:i=j-1
    ·rw[e2];exact hl
    ·exact O.tr _ _ _ (hp.lo (by omega)) (hp.lo (by omega)) (hp.lo (by omega)) hl (dn i (j-1) (by omega) (by omega))
   ·exact dn i j hij (by omega)
  |false=>
   have hl':=O.tot _ _ (hp.lo (by omega)) (hp.lo (by omega)) (hp.ne (by omega) (by omega) (by omega)) hl;refine O.ask _ _ _ (hp.lo (by omega)) (hp.lo (by omega)) (hp.ne (by omega) (by omega) (by omega)) ?_;rw[hl'];exact h m (au _) (by omega) dn
theorem Fs (p:Array Nat)(i:Nat):p.getD i 0=(p[i]?).getD 0:=by
 by_cases h:i<p.size
 ·simp[Array.getD,h]
 ·simp[Array.getD,h]
theorem UV {p:Array Nat}{m:Nat}(hm:m<=p.size)(k:Nat):(kas_rev p 0 m).getD k 0=if k<m then p.getD (m-1-k) 0 else p.getD k 0:=by
 rw[Fs];unfold kas_rev;rw[getElem?_mirror_all hm]
 by_cases h:k<m
 ·rw[ak ⟨a6 _,h⟩,ak h,Fs,eJ]
 ·rw[ai (λz=>h z.2),ai h,Fs]
theorem VB {p:Array Nat}(hp:MS n p)(m:Nat):MS n (kas_rev p 0 m):=⟨(mirror_size ..).trans hp.1,(gA.mp (mirror_perm ..)).trans hp.2⟩
theorem Ur (O:Ordr n lt cmp s) {p:Array Nat} (hp:MS n p) {m:Nat} (h1:1<=m) (hm:m<=n) (dn:Xo lt p m) {G:Nat×Array Nat->Shared->Prop}
  (h:∀m' p',MS n p'->Jz lt p' m'->1<=m'->m'<=n->G (m',p') s):(kas_tail3 m n p).kasWp cmp G s:=by
 unfold kas_tail3;rw[dX];have hr:=VB hp m;refine QW O hr (n-m) m h1 (by omega) (λi j hij hj=>?_) λm' a b c _=>h m' _ hr c (by omega) (by omega)
 rw[UV (by rw[hp.1];exact hm),UV (by rw[hp.1];exact hm),ak (by omega),ak hj];exact dn _ _ (by omega) (by omega)
theorem Vx (O:Ordr n lt cmp s) (hn:1<=n) {p:Array Nat} (hp:MS n p) {G:Nat×Array Nat->Shared->Prop}
  (h:∀m' p',MS n p'->Jz lt p' m'->1<=m'->m'<=n->G (m',p') s):(kas_count n p).kasWp cmp G s:=by
 unfold kas_count;rw[dX];refine QW O hp (n-1) 1 (au _) (by omega) (λi j hij hj=>by omega) λm a b up d=>?_
 by_cases e:m=n
 ·subst e;rw[ak (by simp)];exact h _ _ hp up a (au _)
 ·rw[ai (by simpa using e)]
  by_cases g:m>1
  ·rw[ak g];refine O.ask _ _ _ (hp.lo (by omega)) (hp.lo (by omega)) (hp.ne (by omega) (by omega) (by omega)) ?_;rw[up 0 (m-1) (by omega) (by omega)];exact h _ _ hp up a (by omega)
  ·rw[ai g];have e1:m=1:=by omega
   subst e1;have hl:=d.resolve_left (by omega);unfold kas_descPart;rw[dX];refine R0 O hp (n-(1+1)) (1+1) (by omega) (by omega) (λi j hij hj=>?_) λm' a' b' dn=>?_
   ·obtain⟨rfl,rfl⟩:i=0/\j=1:=by omega
    exact hl
   ·rw[ai (by simp)];exact Ur O hp (by omega) (by omega) dn h
theorem Mn (O:Ordr n lt cmp s) {p:Array Nat} (hp:MS n p) {k:Nat} (hk:k<n) (up:Jz lt p k) {G:Nat->Shared->Prop}
  (h:∀l,l<=k->(∀i,i<l->lt (p.getD i 0) (p.getD k 0)=true)->(∀i,l<=i->i<k->lt (p.getD k 0) (p.getD i 0)=true)->G l s) :
  ∀(f l r:Nat),l<=r->r<=k->r-l<=f->(∀i,i<l->lt (p.getD i 0) (p.getD k 0)=true)->(∀i,r<=i->i<k->lt (p.getD k 0) (p.getD i 0)=true)->(kas_place p k f l r).kasWp cmp G s
 |0,l,r,h1,h2,h3,a,b=>h l (by omega) a λi hi=>b i (by omega)
 |f+1,l,r,h1,h2,h3,a,b=>by
  unfold kas_place
  by_cases g:l≥r
  ·rw[ak g];exact h l (by omega) a λi hi=>b i (by omega)
  ·rw[ai g];refine O.ask _ _ _ (hp.lo hk) (hp.lo (by omega)) (hp.ne hk (by omega) (by omega)) ?_;cases hl:lt (p.getD k 0) (p.getD ((l+r)/2) 0) with
   |true=>
    show(kas_place p k f l ((l+r)/2)).kasWp cmp G s;refine Mn O hp hk up h f l ((l+r)/2) (by omega) (by omega) (by omega) a λi hi hik=>?_
    by_cases e:i=(l+r)/2
    ·rw[e];exact hl
    ·exact O.tr _ _ _ (hp.lo hk) (hp.lo (by omega)) (hp.lo (by omega)) hl (up _ _ (by omega) hik)
   |false=>
    have hl':=O.tot _ _ (hp.lo hk) (hp.lo (by omega)) (hp.ne hk (by omega) (by omega)) hl;show(kas_place p k f ((l+r)/2+1) r).kasWp cmp G s;refine Mn O hp hk up h f ((l+r)/2+1) r (by omega) (by omega) (by omega) (λi hi=>?_) b
    by_cases e:i=(l+r)/2
    ·rw[e];exact hl'
    ·exact O.tr _ _ _ (hp.lo (by omega)) (hp.lo (by omega)) (hp.lo hk) (up _ _ (by omega) (by omega)) hl'
theorem TY {p:Array Nat}{k l:Nat}(hk:k<p.size)(hl:l<=k)(i:Nat):(bubble p k (k-l)).getD i 0=if i=l then p.getD k 0 else if l<i/\i<=k then p.getD (i-1) 0 else p.getD i 0:=by
 rw[Fs,getElem?_bubble hk _ (by omega),show k-(k-l)=l by omega]
 by_cases h:i=l
 ·rw[ak h,ak h,Fs]
 ·rw[ai h,ai h]
  by_cases g:l<i/\i<=k
  ·rw[ak g,ak g,Fs]
  ·rw[ai g,ai g,Fs]
theorem UA (O:Ordr n lt cmp s){G:Array Nat->Shared->Prop}(h:∀p,MS n p->Jz lt p n->G p s):∀(f:Nat) (p:Array Nat) (k:Nat),k+f=n->MS n p->Jz lt p k->(kas_bin f p k).kasWp cmp G s
 |0,p,k,e,hp,up=>h p hp (by rw[<-e];exact up)
 |f+1,p,k,e,hp,up=>by
  unfold kas_bin;rw[dX];refine Mn O hp (by omega) up (λl hl a b=>?_) k 0 k (a6 _) (au _) (by omega) (λi hi=>by omega) (λi h1 h2=>by omega);have hs:k<p.size:=by rw[hp.1];omega
  refine UA O h f _ (k+1) (by omega) ⟨(bubble_size ..).trans hp.1,(gA.mp (bubble_perm ..)).trans hp.2⟩ λi j hij hj=>?_
  rw[TY hs hl,TY hs hl]
  by_cases i1:i=l
  ·rw[ak i1,ai (by omega),ak (by omega)];exact b _ (by omega) (by omega)
  ·rw[ai i1]
   by_cases j1:j=l
   ·rw[ai (by omega),ak j1];exact a _ (by omega)
   ·rw[ai j1]
    by_cases i2:l<i/\i<=k
    ·rw[ak i2,ak (by omega)];exact up _ _ (by omega) (by omega)
    ·rw[ai i2]
     by_cases j2:l<j/\j<=k
     ·rw[ak j2];exact up _ _ (by omega) (by omega)
     ·rw[ai j2];exact up _ _ (by omega) (by omega)
theorem Wr (O:Ordr n lt cmp s)(hn:1<=n){G:Array Nat->Shared->Prop}(h:∀p,MS n p->Jz lt p n->G p s):(kas_sort n).kasWp cmp G s:=by
 unfold kas_sort;rw[dX];refine Vx O hn ⟨by simp,by simp⟩ λm p hp up h1 h2=>?_
 by_cases e:m<n
 ·rw[ak e];exact UA O h _ _ _ (by omega) hp (by rw[show max m 1=m by omega];exact up)
 ·rw[ai e];obtain rfl:m=n:=by omega
  exact h p hp up
end
end L2
namespace L2
section
open PySem PySem.W PySem.Calls PyProof.Rows
variable {prog:Program}{w:World}{A:Around}{E:Value->Shared->Prop}{s:Shared}
def IR (vs:List Value)(p:Array Nat):List Value:=p.toList.map λi=>vs.getD i Value.none
theorem Qu (vs:List Value):IR vs (List.range vs.length).toArray=vs:=by
 unfold IR;refine List.ext_getElem? λi=>?_
 rw[aD]
 by_cases h:i<vs.length
 ·simp[h]
 ·simp[h]
end
end L2
namespace L2
end L2
namespace L2
end L2
namespace L2
end L2
namespace L2
end L2
namespace L2
end L2
namespace L2
end L2
namespace L2
end L2
namespace L2
section
open PySem PySem.Calls PySem.Spec PyProof.Rows PySem.Builtin.Str
variable {X:Cx}
def Ym:List V->Hp->VK->Prop:=λxs H Q=>∃n:Int,xs=[.int n]/\0<=n/\n<10^10/\Q (.str (PySem.Str.ofString (toString n))) H
theorem SV:EV X (.type "str") Ym:=by
 intro pins s σ H xs us Q I r h;obtain⟨n,rfl,h0,h1,q⟩:=h;obtain⟨u,rfl,ru⟩:=vals1 r;obtain⟨t,rfl⟩:=ru;refine PySem.P.str_of_int ?_ ⟨.str _,H,I.tok _,⟨_,rfl⟩,q⟩;have h2:n.natAbs<2^34:=by omega
 by_cases hz:n.natAbs=0
 ·rw[hz];decide
 ·exact Nat.lt_trans ((Nat.log2_lt hz).mpr h2) (by decide)
end
end L2
namespace L2
open PySem PySem.Spec PyProof.Rows
def Src:Bool->Heap->Addr->Array Value->Prop
 |true,h,a,its=>h.IsList a its
 |false,h,a,its=>h.IsTuple a its
end L2
namespace L2
end L2
namespace L2
section
open PySem PySem.Builtin.Str
def Cj (c:Nat):List Nat->List Nat
 |[]=>[]
 |x::l=>if x=c then 0::(Cj c l).map (· + 1) else(Cj c l).map (· + 1)
def Nr (c:Nat):List Str->Str->List Nat
 |[],t=>AQ t
 |w::ws,t=>AQ w++c::Nr c ws t
theorem F9 {c:Nat}:∀{l:List Nat},c∉l->Cj c l=[]
 |[],_=>rfl
 |x::l,h=>by
  have h1:x≠c:=λe=>h (by rw[e];exact aw)
  show(if x=c then _ else _)=_;rw[ai h1,F9 λz=>h (ao _ z)];rfl
theorem MR {c:Nat}{r:List Nat}:∀{l:List Nat},c∉l->Cj c (l++c::r)=l.length::(Cj c r).map (· + (l.length+1))
 |[],_=>by
  show(if c=c then _ else _)=_;rw[ak rfl];rfl
 |x::l,h=>by
  have h1:x≠c:=λe=>h (by rw[e];exact aw)
  show(if x=c then _ else(Cj c (l++c::r)).map (· + 1))=_;rw[ai h1,MR (l:=l) λz=>h (ao _ z),aF,az];show(l.length+1)::_=(l.length+1)::_;rfl
theorem HP (c:Nat):∀(l:List Nat) (a:Nat),(Cj c l).map (· + a)=(List.range' a l.length).filter λi=>decide (l[i-a]?=some c)
 |[],a=>rfl
 |x::l,a=>by
  have ih:=HP c l (a+1);have e:(List.range' (a+1) l.length).filter (λi=>decide ((x::l)[i-a]?=some c))=(List.range' (a+1) l.length).filter λi=>decide (l[i-(a+1)]?=some c):=by
   refine List.filter_congr λi hi=>?_
   have:=(List.mem_range'_1.mp hi).1;have e1:i-a=(i-(a+1))+1:=by omega
   rw[e1,List.getElem?_cons_succ]
  show _=(List.range' a (l.length+1)).filter _;rw[List.range'_succ,bj,e,<-ih];have e0:(decide ((x::l)[a-a]?=some c))=decide (x=c):=by
   rw[eL,List.getElem?_cons_zero]
   by_cases h:x=c
   ·rw[h];simp
   ·rw[aq h,aq λq=>h (aI q)]
  rw[e0];have e2:∀m:List Nat,(m.map (· + 1)).map (· + a)=m.map (· + (a+1)):=λm=>by
   rw[az];exact bf λk _=>by show k+1+a=k+(a+1);omega
  by_cases h:x=c
  ·rw[av h,ak rfl];show((if x=c then 0::(Cj c l).map (· + 1) else _).map (· + a))=_;rw[ak h,aF,e2,eJ]
  ·rw[aq h,ai ay];show((if x=c then _ else(Cj c l).map (· + 1)).map (· + a))=_;rw[ai h,e2]
theorem OZ {x:Str}{c i:Nat}:(i+(⟨#[c]⟩:Str).length<=x.length/\subAt x ⟨#[c]⟩ i=true)↔(AQ x)[i]?=some c:=StrLaws.subAt_one x c i
theorem LC (x:Str)(c limit:Nat):∀(l:List Nat) (st:Array Nat×Nat),l.Pairwise (· < ·)->(∀i∈l,st.snd<=i)->
  (forIn l st (StrLaws.occBody x ⟨#[c]⟩ x.length limit)).run.fst.toList=st.fst.toList++(l.filter λi=>decide ((AQ x)[i]?=some c)).take (limit-st.fst.size)
 |[],st,_,_=>by simp[Id.run,pure,forIn]
 |a::l,st,hp,hs=>by
  rw[List.forIn_cons];unfold StrLaws.occBody;obtain⟨h1,h2⟩:=b8.mp hp
  by_cases h:(AQ x)[a]?=some c
  ·have g:=OZ.mpr h
   by_cases hl:st.fst.size<limit
   ·rw[ak ⟨⟨⟨hl,hs a aw⟩,g.1⟩,g.2⟩];have ih:=LC x c limit l (st.fst.push a,a+(⟨#[c]⟩:Str).length) h2 (λi hi=>by have:=h1 i hi;show a+1<=i;omega);refine ih.trans ?_;rw[Array.toList_push,Array.size_push,bI,bj,ak (av h)];have e:limit-st.fst.size=(limit-(st.fst.size+1))+1:=by omega
    rw[e,fu];rfl
   ·rw[ai λq=>hl q.1.1.1];have ih:=LC x c limit l st h2 (λi hi=>hs i (ao _ hi));refine ih.trans ?_;have e:limit-st.fst.size=0:=by omega
    rw[e,fc,fc]
  ·rw[ai λq=>h (OZ.mp ⟨q.1.2,q.2⟩)];have ih:=LC x c limit l st h2 (λi hi=>hs i (ao _ hi));refine ih.trans ?_;rw[bj,ai (by rw[aq h];exact ay)]
theorem Sl (x:Str)(c limit:Nat):occurrences x ⟨#[c]⟩ 0 x.length limit=(Cj c (AQ x)).take limit:=by
 rw[StrLaws.occ_eq];have h:=LC x c limit (List.range' 0 (x.length+1-0)) (#[],0) List.pairwise_lt_range' (λi _=>a6 i);refine h.trans ?_;have e:=HP c (AQ x) 0;have e1:(Cj c (AQ x)).map (· + 0)=Cj c (AQ x):=by
  have:(λk:Nat=>k+0)=id:=rfl;rw[this,dg]
 rw[e1,A3] at e;rw[e];show[]++List.take (limit-0) _=_;rw[cx,eK,eK,List.range'_concat,cE];have e2:List.filter (λi=>decide ((AQ x)[i]?=some c)) [0+1*x.length]=[]:=by
  rw[bj,ai,List.filter_nil];rw[cF (by rw[A3];omega)];simp
 rw[e2,aJ];rfl
theorem OJ (c:Nat):∀(ws:List Str) (t:Str),ws.length<=(Nr c ws t).length
 |[],_=>a6 _
 |w::ws,t=>by
  have:=OJ c ws t;show ws.length+1<=(AQ w++c::Nr c ws t).length;rw[ar,aS];omega
theorem Pb {c:Nat}:∀{ws:List Str} {t:Str},(∀w∈ws,c∉AQ w)->∃r,Cj c (Nr c ws t)=r++(Cj c (AQ t)).map (· + ((Nr c ws t).length-(AQ t).length))/\r.length=ws.length
 |[],t,_=>⟨[],by
   show Cj c (AQ t)=[]++(Cj c (AQ t)).map (· + ((AQ t).length-(AQ t).length));rw[eL,cx];exact(dg _).symm,rfl⟩
 |w::ws,t,h=>by
  obtain⟨r,e,l⟩:=Pb (ws:=ws) (t:=t) λy hy=>h y (ao _ hy)
  refine⟨(AQ w).length::r.map (· + ((AQ w).length+1)),?_,by rw[aS,aa,l];rfl⟩;show Cj c (AQ w++c::Nr c ws t)=_;rw[MR (h w aw),e,aO,cK,az]
  congr 2
  refine bf λk _=>?_
  have g:∀(ws:List Str),(AQ t).length<=(Nr c ws t).length:=λws=>by
   induction ws with
   |nil=>exact au _
   |cons y ys ih=>
    show _<=(AQ y++c::Nr c ys t).length;rw[ar,aS];omega
  have:=g ws;show k+((Nr c ws t).length-(AQ t).length)+((AQ w).length+1)=k+((AQ w++c::Nr c ws t).length-(AQ t).length);rw[ar,aS];omega
theorem NW {c:Nat}{x:Str}{t:Str}:∀(ws:List Str) (pre:List Nat),AQ x=pre++Nr c ws t->(∀w∈ws,c∉AQ w)->
  StrLaws.partsFrom x 1 pre.length (((Cj c (Nr c ws t)).take ws.length).map (· + pre.length))=ws++[t]
 |[],pre,h,_=>by
  rw[fZ,fc];show[strSub x pre.length x.length]=[t]
  congr 1
  refine FA ?_;show(strSub x pre.length x.length).cps.toList=_;rw[fE];have hx:x.cps.toList=pre++AQ t:=h;have hl:x.length=pre.length+(AQ t).length:=by rw[<-A3,h,ar];rfl
  rw[hx,c7,aY (by rw[hl];omega)];rfl
 |w::ws,pre,h,hf=>by
  have hw:=hf w aw;have ih:=NW (x:=x) (t:=t) ws (pre++AQ w++[c]) (by rw[h];show pre++(AQ w++c::Nr c ws t)=_;simp) λy hy=>hf y (ao _ hy)
  show StrLaws.partsFrom x 1 pre.length (((Cj c (AQ w++c::Nr c ws t)).take (ws.length+1)).map (· + pre.length))=w::(ws++[t]);rw[MR hw,fu,aF,<-cY,az];show strSub x pre.length ((AQ w).length+pre.length)::StrLaws.partsFrom x 1 ((AQ w).length+pre.length+1) _=_
  congr 1
  ·refine FA ?_;show(strSub x pre.length _).cps.toList=_;rw[fE];have hx:x.cps.toList=pre++(AQ w++c::Nr c ws t):=h;rw[hx,c7,Nat.add_sub_cancel,cZ]
   ·rfl
   ·rfl
  ·rw[<-ih];have el:(pre++AQ w++[c]).length=(AQ w).length+pre.length+1:=by simp;omega
   rw[el]
   congr 1
   refine bf λk _=>?_
   show k+((AQ w).length+1)+pre.length=k+((AQ w).length+pre.length+1);omega
theorem TM (c:Nat):(⟨#[c]⟩:Str).length=1:=rfl
theorem Xm {c:Nat}{x t:Str}{ws:List Str}(h:AQ x=Nr c ws t)(hf:∀w∈ws,c∉AQ w){l:List Nat}(hl:l=(Cj c (AQ x)).take ws.length):partsBetween x l 1=ws++[t]:=by
 have:=NW (x:=x) (t:=t) ws [] h hf;rw[StrLaws.partsBetween_eq,hl,h];have e:∀l:List Nat,l.map (· + ([]:List Nat).length)=l:=λl=>dg l
 rw[e] at this;exact this
theorem Xv {x:Str}{c:Nat}(h:(decide (x.length<(⟨#[c]⟩:Str).length)||decide (strKind x<strKind ⟨#[c]⟩))=true):c∉AQ x:=by
 rw[Bool.or_eq_true,bZ,bZ] at h;rcases h with h|h
 ·intro hm;have:0<(AQ x).length:=hG hm;rw[A3] at this;rw[TM] at h;omega
 ·exact StrLaws.kind_free x c h
theorem U3 {c:Nat}{x t:Str}{ws:List Str}(h:AQ x=Nr c ws t)(hn:c∉AQ x):ws=[]/\x=t:=by
 cases ws with
 |nil=>exact⟨rfl,FA h⟩
 |cons w ws=>
  rw[h] at hn;exact absurd (show c∈AQ w++c::Nr c ws t by simp) hn
theorem SF {c:Nat}{x t:Str}{ws:List Str}(h:AQ x=Nr c ws t)(hf:∀w∈ws,c∉AQ w)(ht:c∉AQ t):PySem.Txt.split x ⟨#[c]⟩=ws++[t]:=by
 obtain⟨r,e,l⟩:=Pb (c:=c) (ws:=ws) (t:=t) hf;rw[F9 ht,cT,aJ] at e;have hw:=OJ c ws t;rw[<-h,A3] at hw;have ho:occurrences x ⟨#[c]⟩ 0 x.length (x.length+1)=(Cj c (AQ x)).take ws.length:=by
  rw[Sl,h,e,aY (by omega),aY (by omega)]
 unfold PySem.Txt.split
 split
 ·rename_i hc
  obtain⟨rfl,rfl⟩:=U3 h (Xv hc);rfl
 ·split
  ·rename_i he
   rw[ho,h,e,List.isEmpty_iff] at he;cases ws with
   |nil=>rw[show x=t from FA h];rfl
   |cons w ws=>
    cases r with
    |nil=>cases l
    |cons a r=>cases he
  ·rw[ho];exact Xm h hf rfl
end
end L2
namespace L2
end L2
namespace L2
section
open PySem PySem.W PySem.Calls PyProof.Rows
variable {prog:Program}{w:World}{A:Around}{E:Value->Shared->Prop}{s:Shared}{a kS:Addr}{vs ks:List Value}{P:PySem.Fin->Shared->Prop}
def Zf (a b:Addr)(h h':Heap):Prop:=∀c o,c≠a->c≠b->h.get? c=some o->h'.get? c=some o
theorem Qv {st:SortSt} {keys:Array Value} {e e1:Nat} {out:List Value} (hk:s.heap.get? kS=some (seqObj "list" keys e)) (ha:s.heap.get? a=some (seqObj "list" #[] e1)) (ne:kS≠a) (zk:keys.size<=sizeLine) (hout:(arrOf st).map (·.2)=out.toArray) (zo:out.length<=sizeLine) (hf:failedOf st=none)
  (h:∀h' c,Zf a kS s.heap h'->h'.get? a=some (seqObj "list" out.toArray c)->P (.done (.ret .none)) { s with heap:=h' }):wpAny (model prog w) A (ksk_tail a false e1 (.ref kS) st) P E s:=by
 have a1:(s.heap.update kS (Obj.mapSeq λ_=>(#[]:Array Value))).get? a=some (seqObj "list" #[] e1):=(bM _ _ ne).trans ha;unfold ksk_tail;dsimp only;refine ae (gU hk rfl ?_ zk (a6 _));refine ae (wpAny_letGo (ae (seqEpoch_at a1 rfl (ae (gU a1 rfl ?_ (a6 _) ?_)))))
 ·rw[hf];simp only[bne_self_eq_false,Bool.false_eq_true,if_false];refine aB ?_;rw[hout];refine h _ _ (λc o h1 h2 q=>?_) (get?_update_seq a1 λ_=>out.toArray);exact(bM _ _ (Ne.symm h1)).trans ((bM _ _ (Ne.symm h2)).trans q)
 ·rw[ai ay,hout,aP];exact Nat.le_succ_of_le zo
theorem Wj {lt:Nat->Nat->Bool} {e e1:Nat} (hk:s.heap.get? kS=some (seqObj "list" ks.toArray e)) (ha:s.heap.get? a=some (seqObj "list" #[] e1)) (ne:kS≠a) (hl:ks.length=vs.length) (few:vs.length<64)
  (kind:2<=vs.length->wpAny (model prog w) A (keyKind' ks.toArray) (λκ s'=>s'=s/\Ordr vs.length lt (kas_ask prog w A κ ks) s') (λ_ _=>False) s)
  (h:∀p h' c,MS vs.length p->Jz lt p vs.length->Zf a kS s.heap h'->h'.get? a=some (seqObj "list" (IR vs p).toArray c)->P (.done (.ret .none)) { s with heap:=h' }) :
  wpAny (model prog w) A (ksk_end a false vs.toArray e1 (.ref kS) ks.toArray) P E s:=by
 have zk:ks.toArray.size<=sizeLine:=by rw[aP,bh];omega
 unfold ksk_end;dsimp only;rw[ai ay,ai ay]
 by_cases h2:vs.toArray.size<2
 ·rw[ak h2,ak h2];refine ae (aB ?_);rw[StateT.run_pure];refine ae (aB ?_);dsimp only;rw[aP] at h2;refine Qv (out:=vs) hk ha ne zk ?_ (by rw[bh];omega) rfl λh' c k hc=>h (List.range vs.length).toArray h' c ⟨by simp,by simp⟩ (λi j hij hj=>by omega) k (by rw[Qu];exact hc)
  show(ks.toArray.zip vs.toArray).map (·.2)=vs.toArray;apply fQ.mp;simp;exact List.map_snd_zip (by omega)
 ·rw[ai h2,ai h2];rw[aP] at h2;refine ae (bg (kind (by omega)) (λκ s' hs'=>?_) λ_ _ z=>z.elim);obtain⟨rfl,O⟩:=hs';refine ae (bg (kat_run (E:=E) (Q:=λst' s2=>s2=s'/\∃p,MS vs.length p/\Jz lt p vs.length/\(arrOf st').map (·.2)=(IR vs p).toArray/\failedOf st'=none) (G:=λp s2=>s2=s'/\MS vs.length p/\Jz lt p vs.length) hl (by omega) few
   (λp st' s2 _ ea ef hg=>⟨hg.1,p,hg.2.1,hg.2.2,kat_snds hl ea,ef⟩) (Wr O (by omega) λp hp up=>⟨rfl,hp,up⟩)) (λr s2 hr=>?_) λ_ _ z=>z)
  obtain⟨⟨⟩,st'⟩:=r;obtain⟨rfl,p,hp,up,ea,ef⟩:=hr;dsimp only;refine Qv hk ha ne zk ea ?_ ef λh' c k hc=>h p h' c hp up k hc
  unfold IR;rw[aa,dG,hp.1,bh];omega
def RG (prog:Program)(w:World)(A:Around)(f:Value)(vs:List Value)(Ky:Nat->Value->Prop)(s:Shared)(a:Addr):Prop:=∀(i:Nat) (v:Value),vs[i]?=some v->∀(h:Heap) (tk:Nat),(∀b o,b≠a->s.heap.get? b=some o->h.get? b=some o)->
 wpAny (model prog w) A (call f [v]) (λk s'=>Ky i k/\∃h' tk',s'={ s with heap:=h',toks:=tk' }/\∀b o,h.get? b=some o->h'.get? b=some o) (λ_ _=>False) { s with heap:=h,toks:=tk }
theorem Vg {f:Value} {lt:Nat->Nat->Bool} {Ky:Nat->Value->Prop} {e1:Nat} (hk:s.heap.get? kS=some (seqObj "list" #[] 0)) (ha:s.heap.get? a=some (seqObj "list" #[] e1)) (ne:kS≠a) (few:vs.length<64)
  (turn:RG prog w A f vs Ky s kS)
  (kind:∀(ks:List Value) (h':Heap) (tk:Nat),ks.length=vs.length->(∀i k,ks[i]?=some k->Ky i k)->(∀b o,b≠kS->s.heap.get? b=some o->h'.get? b=some o)->2<=vs.length->
   wpAny (model prog w) A (keyKind' ks.toArray) (λκ s'=>s'={ s with heap:=h',toks:=tk }/\Ordr vs.length lt (kas_ask prog w A κ ks) s') (λ_ _=>False) { s with heap:=h',toks:=tk })
  (h:∀p h' tk c,MS vs.length p->Jz lt p vs.length->Zf a kS s.heap h'->h'.get? a=some (seqObj "list" (IR vs p).toArray c)->P (.done (.ret .none)) { s with heap:=h',toks:=tk }) :
  wpAny (model prog w) A (ksk_rest a f false vs.toArray e1 (.ref kS)) P E s:=by
 unfold ksk_rest;refine ae (wpAny_rule ?_);rw[List.forIn_toArray];refine ae (ksk_fold (λi s'=>∃h' tk ks e,s'={ s with heap:=h',toks:=tk }/\(∀b o,b≠kS->s.heap.get? b=some o->h'.get? b=some o)/\h'.get? kS=some (seqObj "list" (List.toArray ks) e)/\ks.length=i/\∀j k,ks[j]?=some k->Ky j k) vs 0 s ⟨s.heap,s.toks,[],0,rfl,λ_ _ _ q=>q,hk,rfl,λj k q=>by simp at q⟩ ?_ ?_)
 ·rintro j x s' hx ⟨h',tk,ks,e,rfl,k1,k2,hl,hK⟩
  rw[eJ] at hl ⊢;have hj:j<vs.length:=(aA.mp hx).1;refine ae (fR (bg (turn j x hx h' tk k1) (λv s2 hv=>?_) λ_ _ z=>z.elim));obtain⟨ky,h2,tk2,rfl,k3⟩:=hv;dsimp only;refine ae (gU (k3 _ _ k2) rfl ?_ (by rw[aP,bh];omega) (by rw[Array.size_push,aP,bh];omega));obtain⟨c9,e9⟩:∃c9,(h2.update kS (Obj.mapSeq (·.push v))).get? kS=some (seqObj "list" (ks.toArray.push v) c9):=⟨_,get?_update_seq (k3 _ _ k2) (·.push v)⟩
  refine aB ⟨rfl,_,tk2,ks++[v],c9,rfl,λb o nb q=>(bM _ _ (Ne.symm nb)).trans (k3 b o (k1 b o nb q)),?_,by rw[ar,hl];rfl,λi k q=>?_⟩
  ·rw[e9,List.push_toArray]
  ·by_cases hi:i<ks.length
   ·rw[bW hi] at q;exact hK i k q
   ·rw[bS (by omega)] at q;have hi2:i-ks.length=0:=by
     have:=(aA.mp q).1;simp at this;omega
    rw[hi2] at q;cases q;rw[show i=j by omega];exact ky
 ·rintro s' ⟨h',tk,ks,e,rfl,k1,k2,hl,hK⟩
  rw[eJ] at hl;refine ae (listItems_at k2 rfl ?_);refine Wj (s:={ s with heap:=h',toks:=tk }) k2 (k1 _ _ (Ne.symm ne) ha) ne hl few (kind ks h' tk hl hK k1) λp h3 c hp up k3 hc=>h p h3 tk c hp up (λb o n1 n2 q=>k3 b o n1 n2 (k1 b o n2 q)) hc
theorem Vt {f:Value} {lt:Nat->Nat->Bool} {Ky:Nat->Value->Prop} {n:Nat} (ho:s.heap.get? a=some (seqObj "list" vs.toArray n)) (few:vs.length<64)
  (turn:RG prog w A f vs Ky s a)
  (kind:∀(ks:List Value) (h':Heap) (tk:Nat),ks.length=vs.length->(∀i k,ks[i]?=some k->Ky i k)->(∀b o,b≠a->s.heap.get? b=some o->h'.get? b=some o)->2<=vs.length->
   wpAny (model prog w) A (keyKind' ks.toArray) (λκ s'=>s'={ s with heap:=h',toks:=tk }/\Ordr vs.length lt (kas_ask prog w A κ ks) s') (λ_ _=>False) { s with heap:=h',toks:=tk })
  (h:∀p h' tk c,MS vs.length p->Jz lt p vs.length->(∀b o,b≠a->s.heap.get? b=some o->h'.get? b=some o)->h'.get? a=some (seqObj "list" (IR vs p).toArray c)->P (.done (.ret .none)) { s with heap:=h',toks:=tk }) :
  wpAny (model prog w) A (ksk_tree a f false) P E s:=by
 have ha:a<s.heap.objs.size:=aL ho;unfold ksk_tree;refine ae (listItems_at ho rfl (ae (gU ho rfl ?_ (by rw[aP,bh];omega) (a6 _))));obtain⟨e1,h1⟩:∃e,(s.heap.update a (Obj.mapSeq λ_=>#[])).get? a=some (seqObj "list" #[] e):=⟨_,get?_update_seq ho (λ_=>#[])⟩
 refine ae (seqEpoch_at h1 rfl (ae (wpAny_newTuple (ae (iu (bN ?_) (a6 _))) (by show vs.length<=_;rw[bh];omega))));have old:∀b o,b≠a->s.heap.get? b=some o->(((s.heap.update a (Obj.mapSeq λ_=>#[])).push (seqObj "tuple" vs.toArray 0)).push (seqObj "list" #[] 0)).get? b=some o:=λb o nb e=>
  af _ (af _ ((bM _ _ (Ne.symm nb)).trans e))
 have sz:((s.heap.update a (Obj.mapSeq λ_=>#[])).push (seqObj "tuple" vs.toArray 0)).objs.size=s.heap.objs.size+1:=by rw[cH,Heap.size_update]
 have hk:(((s.heap.update a (Obj.mapSeq λ_=>#[])).push (seqObj "tuple" vs.toArray 0)).push (seqObj "list" #[] 0)).get? ((s.heap.update a (Obj.mapSeq λ_=>#[])).push (seqObj "tuple" vs.toArray 0)).objs.size=some (seqObj "list" #[] 0):=aH _ rfl;have h2:(((s.heap.update a (Obj.mapSeq λ_=>#[])).push (seqObj "tuple" vs.toArray 0)).push (seqObj "list" #[] 0)).get? a=some (seqObj "list" #[] e1):=af _ (af _ h1);rw[sz] at hk;show wpAny (model prog w) A (ksk_rest a f false vs.toArray e1 (.ref ((s.heap.update a (Obj.mapSeq λ_=>#[])).push (seqObj "tuple" vs.toArray 0)).objs.size)) P E { s with heap:=((s.heap.update a (Obj.mapSeq λ_=>#[])).push (seqObj "tuple" vs.toArray 0)).push (seqObj "list" #[] 0) };rw[sz];generalize ((s.heap.update a (Obj.mapSeq λ_=>#[])).push (seqObj "tuple" vs.toArray 0)).push (seqObj "list" #[] 0)=h0 at old hk h2;have nk:∀b o,s.heap.get? b=some o->b≠s.heap.objs.size+1:=λb o q=>a4 (dO (aL q))
 refine Vg (s:={ s with heap:=h0 }) (Ky:=Ky) (lt:=lt) hk h2 (cS (dO ha)) few (λi v hv h3 tk k3=>?_) (λks h3 tk hl hK k3 l2=>?_) λp h3 tk c hp up k3 hc=>?_
 ·exact turn i v hv h3 tk λb o nb q=>k3 b o (nk b o q) (old b o nb q)
 ·exact kind ks h3 tk hl hK (λb o nb q=>k3 b o (nk b o q) (old b o nb q)) l2
 ·exact h p h3 tk c hp up (λb o nb q=>k3 b o nb (nk b o q) (old b o nb q)) hc
theorem Ru {l f:Addr} {lt:Nat->Nat->Bool} {Ky:Nat->Value->Prop} {Q:Value->Shared->Prop} (hl:s.heap.IsList l vs.toArray) (few:vs.length<64)
  (turn:∀(i:Nat) (v:Value),vs[i]?=some v->∀(h:Heap) (tk:Nat),(∀b o,s.heap.get? b=some o->h.get? b=some o)->
   wpAny (model prog w) A.in1.in1 (call (.ref f) [v]) (λk s'=>Ky i k/\∃h' tk',s'={ s with heap:=h',toks:=tk' }/\∀b o,h.get? b=some o->h'.get? b=some o) (λ_ _=>False) { s with heap:=h,toks:=tk })
  (kind:∀(ks:List Value) (h':Heap) (tk:Nat),ks.length=vs.length->(∀i k,ks[i]?=some k->Ky i k)->(∀b o,s.heap.get? b=some o->h'.get? b=some o)->2<=vs.length->
   wpAny (model prog w) A.in1.in1 (keyKind' ks.toArray) (λκ s'=>s'={ s with heap:=h',toks:=tk }/\Ordr vs.length lt (kas_ask prog w A.in1.in1 κ ks) s') (λ_ _=>False) { s with heap:=h',toks:=tk })
  (q:∀h' tk p idx c,MS vs.length idx->Jz lt idx vs.length->s.heap.objs.size<=p->(∀b o,s.heap.get? b=some o->h'.get? b=some o)->h'.get? p=some (seqObj "list" (IR vs idx).toArray c)->Q (.ref p) { s with heap:=h',toks:=tk }) :
  wpAny (model prog w) A (call (.builtin "sorted") [.ref l] [(Str.ofString "key",.ref f)]) Q E s:=by
 refine call_function_entry_kw kind_sorted plain_sorted entry_sorted (ksk_s1 _ _) ?_;unfold Builtin.«sorted»;refine ae (m:=checkCount "sorted" 1 1 _) (aB (ae (collect_list hl ?_ (by rw[bh];omega))));refine ae (iu ?_ (by rw[bh];omega));have old:∀b o,s.heap.get? b=some o->((s.heap.push (seqObj "list" #[] 0)).update s.heap.objs.size (Obj.mapSeq λx=>x++vs.toArray)).get? b=some o:=λb o e=>(bM _ _ (cS (aL e))).trans (af _ e)
 have hsz:s.heap.objs.size<=((s.heap.push (seqObj "list" #[] 0)).update s.heap.objs.size (Obj.mapSeq λx=>x++vs.toArray)).objs.size:=by rw[Heap.size_update,cH];exact fU _
 generalize (s.heap.push (seqObj "list" #[] 0)).update s.heap.objs.size (Obj.mapSeq λx=>x++vs.toArray)=h1 at old hsz ⊢;have there:(h1.push (seqObj "list" vs.toArray 0)).get? h1.objs.size=some (seqObj "list" vs.toArray 0):=aH _ rfl;have old2:∀b o,s.heap.get? b=some o->b≠h1.objs.size/\(h1.push (seqObj "list" vs.toArray 0)).get? b=some o:=λb o e=>⟨a4 (aW (aL e) hsz),af _ (old b o e)⟩
 generalize h1.push (seqObj "list" vs.toArray 0)=h2 at there old2 ⊢;refine ae (bN (wpAny_call_entry_kw (s:={ s with heap:=h2 }) slot_list_sort ⟨_,there,rfl⟩ entry_list_sort ?_ (ksk_l1 _ _)));rw[ksk_t1];refine Vt (s:={ s with heap:=h2 }) (lt:=lt) (Ky:=Ky) there few (λi v hv h3 tk k3=>?_) (λks h3 tk hl hK k3 l2=>?_) λp h3 tk c hp up k3 hc=>?_
 ·exact turn i v hv h3 tk λb o e=>k3 b o (old2 b o e).1 (old2 b o e).2
 ·exact kind ks h3 tk hl hK (λb o e=>k3 b o (old2 b o e).1 (old2 b o e).2) l2
 ·refine⟨_,rfl,?_⟩;exact aB ⟨_,rfl,q h3 tk _ p c hp up hsz (λb o e=>k3 b o (old2 b o e).1 (old2 b o e).2) hc⟩
end
end L2
namespace L2
section
open PySem PySem.W PySem.Calls PyProof.Rows
variable {prog:Program}{w:World}{A:Around}{s:Shared}
abbrev QP (qual:Str)(params:Arguments)(body:Expr)(scope:Scope)(cl:List (Str×Addr))(pm cv ctv:Value):Obj:={ cls:=.type "function",data:=.func (kla_fn "<lambda>" qual params body scope cl pm cv ctv) }
theorem Vr {f a c':Addr} {qual x:Str} {params:Arguments} {scope:Scope} {pm ctv:Value} {j:Nat} {p1 p2 p3:Pos} {items:Array Value} {v:Value} (ho:s.heap.get? f=some (QP qual params (.Subscript (.Name x p1) (.Constant (.int j) 0 p2) p3) scope [] pm (.ref c') ctv)) (hcd:s.heap.CodeRec (.ref c') qual) (nl:s.heap.NoLimit) (room:A.depth<recursionLimit)
  (hb:∀u,bindArgs (kla_fn "<lambda>" qual params (.Subscript (.Name x p1) (.Constant (.int j) 0 p2) p3) scope [] pm (.ref c') ctv) ⟨[u],[]⟩=pure [(x,u)]) (hx:scope.names.lookup x=some .local) (hk:scope.kind=.function) (hco:scope.isCoroutine=false) (hge:scope.isGenerator=false) (hce:∀y∈scope.names,y.2≠.cell)
  (hd:(x == ("__debug__":Str))=false) (hj:j<1000) (ht:IsTup s.heap a items) (hi:items[j]?=some v) :
  wpAny (model prog w) A (call (.ref f) [.ref a]) (λk s'=>k=v/\∃h' tk',s'={ s with heap:=h',toks:=tk' }/\∀b o,s.heap.get? b=some o->h'.get? b=some o) (λ_ _=>False) s:=by
 refine cM (kla_callFunE room ho rfl hco hge rfl hcd ?_);rw[hb];refine aB (wpAny_newFunctionEnv hce (λy hy=>by rw[ah.mp hy];exact hx) (λh₁ hns hsb=>⟨nl.fresh _ hsb,?_⟩) hk);have k1:∀b o,s.heap.get? b=some o->h₁.get? b=some o:=λb o e=>hsb.extBut b o (a4 (aL e)) (af _ e)
 show codeAny _ _ (.expr _ (envX qual scope s.heap.objs.size f (.ref c') [])) _ _;have hv:[(x,Value.ref a)].reverse.lookup x=some (.ref a):=by simp
 have ht':=ht.keeps k1;have l1:j<items.size:=(gB.mp hi).1;refine kla_codeExpr (Subscript_ (ib (wpAny_loadName_local (v:=.ref a) (m:=λy=>[(x,Value.ref a)].reverse.lookup y) hk hx hns hv ?_) hd));refine wpAny_Constant_int ?_;exact fS (x:=v) ht'.typeIs slot_tuple_getitem.lookup (getItem_tuple (j:=j) ht' (by omega) (by omega) (by rw[seqIndex_of (by omega) (by omega)];simp) hi ⟨rfl,rfl,_,_,rfl,k1⟩)
end
end L2
namespace L2
section
open PySem PySem.Spec PyProof.Rows
variable {X:Cx}{pins:List (Addr×Obj)}{σ:St}{H:Hp}{s:Shared}
def RM (c:Addr)(qual:Str):HO:=.ext λh=>h.CodeRec (.ref c) qual
theorem Vp {P:Program}{w:World}{h:Heap}{c:Addr}{qual:Str}(e:h.CodeRec (.ref c) qual):Be P w H h c (RM c qual):=by
 obtain⟨c2,o,vs,t,e1,e2,e3⟩:=id e;cases e1;exact⟨e,⟨o,e2⟩,λh1 h2 ⟨c3,o3,vs3,t3,z1,z2,z3⟩ k=>by cases z1;exact⟨_,o3,vs3,t3,rfl,k o3 z2,z3⟩⟩
def CI (P:Addr)(qual:Str)(pos:Pos)(H:Hp):Prop:=H P=some (.tbl #[])\/∃c,H P=some (.tbl #[rawInt pos.line,rawInt pos.col,.ref c])/\H c=some (RM c qual)
def CJ (P:Addr)(H H':Hp):Prop:=∀b o,b≠P->H b=some o->H' b=some o
theorem CJ.refl (P:Addr)(H:Hp):CJ P H H:=λ_ _ _ h=>h
theorem CJ.trans {P:Addr}{H H1 H2:Hp}(a:CJ P H H1)(b:CJ P H1 H2):CJ P H H2:=λc o n h=>b c o n (a c o n h)
theorem Aw.t {H H':Hp}(a:Aw H H')(P:Addr):CJ P H H':=λb o _ h=>a b o h
theorem CI.some {P:Addr}{qual:Str}{pos:Pos}{H:Hp}(t:CI P qual pos H):∃ps,H P=some (.tbl ps):=by
 rcases t with h|⟨c,h,_⟩
 ·exact⟨_,h⟩
 ·exact⟨_,h⟩
theorem CI.same {P:Addr}{qual:Str}{pos:Pos}{H H':Hp}(t:CI P qual pos H)(e:Aw H H'):CI P qual pos H':=by
 rcases t with h|⟨c,h,h2⟩
 ·exact .inl (e _ _ h)
 ·exact .inr ⟨c,e _ _ h,e _ _ h2⟩
theorem CJ.free {P:Addr}{qual:Str}{pos:Pos}{H H':Hp}(e:CJ P H H')(t:CI P qual pos H'){l:Addr}(h:H' l=none):H l=none:=by
 cases q:H l with
 |none=>rfl
 |some o=>
  by_cases z:l=P
  ·obtain⟨ps,hp⟩:=t.some;rw[z,hp] at h;cases h
  ·rw[e l o z q] at h;cases h
theorem CJ.get {P:Addr}{qual:Str}{pos:Pos}{H H':Hp}(e:CJ P H H')(t:CI P qual pos H){b:Addr}{o:HO}(h:H b=some o)(n:∀ps,o≠.tbl ps):H' b=some o:=by
 refine e b o (λz=>?_) h;obtain⟨ps,hp⟩:=t.some;rw[z,hp] at h;exact n ps (aI h).symm
theorem CJ.sqT {P:Addr}{qual:Str}{pos:Pos}{K:PySem.W.Frag}{H H':Hp}{a:Addr}{xs:List V}(e:CJ P H H')(t:CI P qual pos H)(h:AW K H a xs):AW K H' a xs:=by
 rcases h with(h|⟨o,h⟩)|h
 ·exact .inl (.inl (e.get t h (by intro _ z;cases z)))
 ·exact .inl (.inr ⟨o,e.get t h (by intro _ z;cases z)⟩)
 ·exact .inr h
theorem CJ.sqL {P:Addr}{qual:Str}{pos:Pos}{K:PySem.W.Frag}{H H':Hp}{a:Addr}{xs:List V}(e:CJ P H H')(t:CI P qual pos H)(h:AV K H a xs):AV K H' a xs:=by
 rcases h with(h|⟨o,h⟩)|h
 ·exact .inl (.inl (e.get t h (by intro _ z;cases z)))
 ·exact .inl (.inr ⟨o,e.get t h (by intro _ z;cases z)⟩)
 ·exact .inr h
theorem Inv.tabled {P:Addr}{ps more:Array Value}{h':Heap}{t':Nat}(I:Inv X pins σ H s)(hP:H P=some (.tbl ps))(k:∀b o,b≠P->s.heap.get? b=some o->h'.get? b=some o)(hP':h'.get? P=some { cls:=.none,data:=.fields (ps++more) }) :
  Inv X pins σ (upd H P (.tbl (ps++more))) { s with heap:=h',toks:=t' }:=by
 have nP:∀b,H b=none->b≠P:=λb e z=>by rw[z,hP] at e;cases e
 have nt:∀{b:Addr} {u:HO},H b=some u->(∀ps,u≠.tbl ps)->upd H P (.tbl (ps++more)) b=some u:=λ{b u} e n=>by
  rw[Ak λz=>by rw[z,hP] at e;exact n _ (aI e).symm];exact e
 refine I.step (g':=s.gens) (d':=s.drawn) (ch:=[]) (λ_ z=>nomatch z) (λb o _ _ _ e n=>k b o (nP b n) e) (λb o _ _ _ e n=>⟨o.slots,k b o (nP b n) e⟩) (λb o _ _ n=>by rw[Ak (nP b n)];exact n) (λb o _ e=>?_)
  (λb xs e=>nt e (by intro _ z;cases z)) (λb o u e=>nt e (by intro _ z;cases z)) (λb qs e=>?_) (λm hm=>?_) (λb u e=>?_) I.bare
 ·by_cases z:b=P
  ·exact⟨_,by rw[z];exact hP'⟩
  ·exact⟨o,k b o z e⟩
 ·by_cases z:b=P
  ·rw[z,hP] at e;cases e;exact⟨more,by rw[z,Ac]⟩
  ·exact⟨#[],by rw[Ak z,e];simp⟩
 ·obtain⟨o,es,ep,ho,r⟩:=hm;exact⟨o,es,ep,k _ o (nP _ I.free) ho,r⟩
 ·by_cases z:b=P
  ·rw[z,Ac] at e;cases e;rw[z];exact hP'
  ·rw[Ak z] at e;refine(I.hok b u e).stay (λc v hc q=>k c v ?_ q) (λc q=>nt q (by intro _ z;cases z)) λc xs q=>nt q (by intro _ z;cases z)
   rcases hc with rfl|hc
   ·exact z
   ·intro y;rw[y,hP] at hc;cases hc
theorem NX {α:Type}:∀{ts:List (Addr×α)} {its:List Value},A5 (ts.map λt=>V.ref t.1) its->its=ts.map λt=>Value.ref t.1
 |[],_,.nil=>rfl
 |t::ts,_,.cons r h=>by
  cases r;rw[aF,NX h]
theorem Mv {α:Type}:∀(ts:List (Addr×α)),A5 (ts.map λt=>V.ref t.1) (ts.map λt=>Value.ref t.1)
 |[]=>.nil
 |t::ts=>.cons rfl (Mv ts)
theorem W4 {α:Type}(d:α)(ts:List (Addr×α)){idx:Array Nat}{lt:Nat->Nat->Bool}{R:α->α->Prop}(hp:MS ts.length idx)(up:Jz lt idx ts.length)(hR:∀i j,i<ts.length->j<ts.length->lt i j=true->R (ts.getD i (0,d)).2 (ts.getD j (0,d)).2) :
  ∃us:List (Addr×α),us.Perm ts/\IR (ts.map λt=>Value.ref t.1) idx=us.map (λt=>Value.ref t.1)/\us.Pairwise λx y=>R x.2 y.2:=by
 have lt':∀i∈idx.toList,i<ts.length:=λi hi=>fg.mp (hp.2.mem_iff.mp hi)
 refine⟨idx.toList.map λi=>ts.getD i (0,d),?_,?_,?_⟩
 ·have h3:=hp.2.map λi=>ts.getD i (0,d)
  have e3:(List.range ts.length).map (λi=>ts.getD i (0,d))=ts:=by
   refine List.ext_getElem? λi=>?_
   rw[aD]
   by_cases hi:i<ts.length
   ·simp[hi]
   ·simp[hi]
  rw[e3] at h3;exact h3
 ·unfold IR;rw[az];refine bf λi hi=>?_
  have hl:=lt' i hi;simp[hl]
 ·rw[cq];intro i j hi hj hij;have hi':i<idx.size:=by simpa using hi
  have hj':j<idx.size:=by simpa using hj
  have h4:=up i j hij (by rw[<-hp.1];exact hj');have e5:idx.getD i 0=idx[i]:=by simp[Array.getD,hi']
  have e6:idx.getD j 0=idx[j]:=by simp[Array.getD,hj']
  rw[e5,e6] at h4;simp only[List.getElem_map,Array.getElem_toList];exact hR _ _ (lt' _ (by simp)) (lt' _ (by simp)) h4
theorem Mw {α:Type}{d:α}{l:List α}(nd:l.Nodup){i j:Nat}(hi:i<l.length)(hj:j<l.length)(hij:i≠j):l.getD i d≠l.getD j d:=by
 have e1:l.getD i d=l[i]:=by simp[hi]
 have e2:l.getD j d=l[j]:=by simp[hj]
 rw[e1,e2];have pw:=cq.mp nd;intro z;rcases Nat.lt_or_gt_of_ne hij with q|q
 ·exact pw i j hi hj q z
 ·exact pw j i hj hi q z.symm
end
end L2
namespace L2
section
open PySem PySem.Spec PyProof.Rows PySem.Calls
variable {X:Cx}
structure LamAt (K:PySem.W.Frag) (mg:Str->Option Value) (base:Heap) (cdv:Value) (P:Addr):Prop where
 code:∃c,cdv=.ref c/\PySem.W.codeHdIn K c P=true
 bm:∃bm ob,mg "__builtins__"=some (.ref bm)/\bm≠builtinsNs/\bm≠mainGlobals/\base.get? bm=some ob/\ob.cls=.type "module"/\ob.dict=some builtinsNs/\ob.data=.plain
structure LamTx (x:Str) (params:Arguments) (scope:Scope):Prop where
 bind:∀(qual:Str) (body:Expr) (pm cv ctv u:Value),bindArgs (PySem.W.kla_fn "<lambda>" qual params body scope [] pm cv ctv) ⟨[u],[]⟩=pure [(x,u)]
 dflt:∀env,defaultsOf params env=([],[])
 clos:∀env,closureFor scope env=pure []
 loc:scope.names.lookup x=some .local
 kind:scope.kind=.function
 co:scope.isCoroutine=false
 ge:scope.isGenerator=false
 ce:∀y∈scope.names,y.2≠.cell
 db:(x == ("__debug__":Str))=false
theorem Uc {params:Arguments} {body:Expr} {scope:Scope} {cl:List (Str×Addr)} {lp:Pos} {P:Addr} {pins:List (Addr×Obj)} {σ:St} {H:Hp} {s:Shared} {Q:Value->Shared->Prop} {E:Value->Shared->Prop} (dfl:∀env,defaultsOf params env=([],[])) (hcl:closureFor scope X.env=pure cl) (at_:LamAt X.K X.mg X.base X.env.code P) (I:Inv X pins σ H s) (tb:CI P (X.env.qual++"<lambda>") lp H)
  (h:∀f c' pm ctv H2 s2,Inv X pins σ H2 s2->CJ P H H2->CI P (X.env.qual++"<lambda>") lp H2->s2.heap.get? f=some (QP (X.env.qual++"<lambda>") params body scope cl pm (.ref c') ctv)->s2.heap.CodeRec (.ref c') (X.env.qual++"<lambda>")->Q (.ref f) s2) :
  wpAny (model X.prog X.w) X.A (eval (.Lambda params body scope lp) X.env) Q E s:=by
 obtain⟨⟨c,hc,hcd⟩,bm,ob,b1,b2,b3,b4,b5,b6,b7⟩:=at_;have C:=ik I.kIn hcd;have hg:s.heap.Ns mainGlobals X.mg:=I.mod.glob.keeps I.bk;have atP:∀{ps:Array Value},H P=some (.tbl ps)->s.heap.get? P=some (PySem.W.tabObj ps):=λ{ps} e=>I.hok P _ e
 have hgP:∀{ps:Array Value},H P=some (.tbl ps)->mainGlobals≠P:=λ{ps} e q=>by
  obtain⟨o,es,ep,e1,hd,_⟩:=hg;rw[q,atP e] at e1;cases e1;cases hd
 have bb:∀{ps:Array Value},H P=some (.tbl ps)->s.heap.BuiltinsAt X.mg P:=λ{ps} e=>⟨bm,ob,b1,b2,b3,(λq=>by
  have e1:=I.bk _ _ b4;rw[q,atP e] at e1;cases e1;cases b5),I.bk _ _ b4,b5,b6,b7⟩
 refine PySem.W.kla_eval (dfl _) ?_;rcases tb with e|⟨c',e,e2⟩
 ·refine PySem.W.kla_makeFunction (ps:=#[]) (mg:=X.mg) hcl I.ok.glob hg hc C (atP e) trivial rfl (hgP e) (bb e) λc' ctv h' tk hx hge hlt hrec htb=>?_
  have k1:∀b o,b≠P->s.heap.get? b=some o->(h'.push (PySem.W.kla_obj "<lambda>" (X.env.qual++"<lambda>") params body scope cl ((X.mg "__name__").getD .none) c' ctv)).get? b=some o:=λb o nb q=>af _ (hx b o nb q)
  have I2:=I.tabled (t':=tk) (more:=#[rawInt lp.line,rawInt lp.col,.ref c']) e k1 (af _ htb);have hr2:(h'.push (PySem.W.kla_obj "<lambda>" (X.env.qual++"<lambda>") params body scope cl ((X.mg "__name__").getD .none) c' ctv)).CodeRec (.ref c') (X.env.qual++"<lambda>"):=by
   obtain⟨c2,o,vs,t,z1,z2,z3⟩:=hrec;exact⟨c2,o,vs,t,z1,af _ z2,z3⟩
  have n0:s.heap.get? c'=none:=cz hge;have nP:c'≠P:=λz=>by rw[z,atP e] at n0;cases n0
  have nH:H c'=none:=I.hok.fresh hge;have n2:upd H P (.tbl (#[] ++ #[rawInt lp.line,rawInt lp.col,.ref c'])) c'=none:=by rw[Ak nP];exact nH
  obtain⟨m,hn,_⟩:=id I.loc;obtain⟨oL,_,_,hoL,_⟩:=id hn;have I3:=I2.know (e:=c') (o:=RM c' (X.env.qual++"<lambda>")) (λxx=>by
   cases q:X.s₀.heap.get? c' with
   |none=>rfl
   |some o=>
    obtain⟨o',z⟩:=I.base.there c' o q xx;rw[n0] at z;cases z) (λz=>by rw[<-z,n0] at hoL;cases hoL) (λx c q z=>by
    obtain⟨w',oc,e1,_⟩:=I.cell x c q;rw[z,n0] at e1;cases e1) (λp hp z=>by
    have:=(I.pin p hp).1;rw[z,n0] at this;cases this) n2 (Vp hr2)
  refine h _ c' _ ctv _ _ I3 (λb o nb q=>?_) (.inr ⟨c',?_,Ac⟩) (aH _ rfl) hr2
  ·rw[Ak (λz=>by rw[z,nH] at q;cases q),Ak nb];exact q
  ·rw[Ak (Ne.symm nP),Ac];rfl
 ·obtain⟨hr,_,_⟩:Be X.prog X.w H s.heap c' (RM c' (X.env.qual++"<lambda>")):=I.hok c' _ e2;refine PySem.W.kla_makeFunctionHit (cv:=.ref c') (mg:=X.mg) hcl I.ok.glob hg hc C (atP e) ?_ ?_ (bb e) λctv h' tk k hsz=>?_
  ·exact(TriplesOk_snoc lp.line lp.col (.ref c') [] trivial:TriplesOk ([]++[rawInt lp.line,rawInt lp.col,.ref c']))
  ·exact(codeAmong_snoc (pos:=lp) (c:=.ref c') [] trivial rfl:codeAmong lp ([]++[rawInt lp.line,rawInt lp.col,.ref c'])=some (.ref c'))
  ·have k1:∀b o,s.heap.get? b=some o->(h'.push (QP (X.env.qual++"<lambda>") params body scope cl ((X.mg "__name__").getD .none) (.ref c') ctv)).get? b=some o:=λb o q=>af _ (k b o q)
   refine h _ c' _ ctv H _ (I.kept (t':=tk) k1) (.refl P H) (.inr ⟨c',e,e2⟩) (aH _ rfl) ?_;obtain⟨c2,o,vs,t,z1,z2,z3⟩:=hr;exact⟨c2,o,vs,t,z1,k1 _ _ z2,z3⟩
end
end L2
namespace L2
end L2
namespace L2
section
open PySem PySem.Spec PyProof.Rows
def Qz (mg:Str->Option Value)(base:Heap):Prop:=∃bm ob,mg "__builtins__"=some (.ref bm)/\bm≠builtinsNs/\bm≠mainGlobals/\base.get? bm=some ob/\ob.cls=.type "module"/\ob.dict=some builtinsNs/\ob.data=.plain
def Uv (Ts:List Addr)(H:Hp):Prop:=(∀P∈Ts,H P=some (.tbl #[]))/\∀b,H b=none\/(∃o xs,H b=some (.frz o (.lst xs)))\/(b∈Ts/\H b=some (.tbl #[]))
def DG (own:Hp)(Ts:List Addr):Hp:=λb=>if b∈Ts then some (.tbl #[]) else own b
theorem SA {P:Program} {w:World} {K:PySem.W.Frag} {mg mb:Str->Option Value} {CX:R1} {k:Nat} {fa a:Addr} {fd:FuncData} {x:Str} {sp:Sp} {s₁:Shared} {vs:List Value} {ns:List Int} {Ts:List Addr}
  (KX:K.In s₁.heap) (hns:s₁.heap.Ns mainGlobals mg) (hb:s₁.heap.Ns builtinsNs mb) (hbb:∀x:Str,x≠"__name__"->mb x=bootBuiltins x) (hlim:s₁.heap.NoLimit) (hbm:Qz mg s₁.heap) (hg:s₁.gens = #[])
  (tabs:∀T∈Ts,s₁.heap.get? T=some (PySem.W.tabObj #[])/\K.lookup T=none/\∃c,PySem.W.codeHdIn K c T=true)
  (ha:s₁.heap.get? a=some { cls:=.type "list",data:=.seq vs.toArray }) (hi:IntsAre vs ns) (hl:ns.length<=sizeLine) (hr:Room k callerA)
  (F:∀base:Heap,K.In base->base.Ns mainGlobals mg->Qz mg base->FnOk P w K mg base CX k fa fd [x] sp) (hbind:∀(s:Shared) (u:Value),BindsTo s fd ⟨[u],[]⟩ [(x,u)])
  (hsp:∀H:Hp,Uv Ts H->AV K H a (ns.map V.int)->sp [.ref a] H (λv _=>v=.bl true) λ_ _ _=>False)
  (hCX:∀H e s',CX [] H s₁ (λ_ _ _=>False) e s'->False) :
  codeAny (model P w) callerA (.call (.ref fa) ⟨[.ref a],[]⟩) (λr s'=>r=.ok (.ret (.bool true))/\OldK s₁.heap s'.heap/\s'.os=s₁.os/\AllBare s'.gens) s₁:=by
 have aT:a∉Ts:=λz=>by
  have:=(tabs a z).1;rw[ha] at this;cases this
 have core:∀own:Hp,(∀b,own b=none\/∃o xs,own b=some (.frz o (.lst xs)))->AV K own a (ns.map V.int)->IA P w own s₁.heap->(∀b,own b≠none->b=a)->(own a≠none->K.lookup a=none)->
   codeAny (model P w) callerA (.call (.ref fa) ⟨[.ref a],[]⟩) (λr s'=>r=.ok (.ret (.bool true))/\OldK s₁.heap s'.heap/\s'.os=s₁.os/\AllBare s'.gens) s₁:=by
  intro own hO hS hok hA hK;have inT:∀{b},b∈Ts->DG own Ts b=some (.tbl #[]):=λ{b} h=>ak h
  have notT:∀{b},b∉Ts->DG own Ts b=own b:=λ{b} h=>ai h
  have only:Uv Ts (DG own Ts):=⟨λT hT=>inT hT,λb=>by
   by_cases z:b∈Ts
   ·exact .inr (.inr ⟨z,inT z⟩)
   ·rw[notT z];exact(hO b).imp id .inl⟩
  have hok':IA P w (DG own Ts) s₁.heap:=λb u e=>by
   by_cases z:b∈Ts
   ·rw[inT z] at e;cases e;exact(tabs b z).1
   ·rw[notT z] at e;rcases hO b with q|⟨o,xs,q⟩
    ·rw[q] at e;cases e
    ·rw[q] at e;cases e;obtain⟨e1,e2⟩:=hok b _ q;exact⟨e1,e2⟩
  have free:∀{b:Addr} {o:Obj},s₁.heap.get? b=some o->o.cls≠.none->b≠a->DG own Ts b=none:=λ{b o} e hc na=>by
   have z:b∉Ts:=λz=>by
    have:=(tabs b z).1;rw[e] at this;cases this;exact hc rfl
   rw[notT z];cases q:own b with
   |none=>rfl
   |some u=>exact absurd (hA b (by rw[q];simp)) na
  have freeN:∀{b:Addr} {o:Obj} {es:Array DictEntry} {ep:Nat},s₁.heap.get? b=some o->o.data=.dict es ep->DG own Ts b=none:=λ{b o es ep} e d=>by
   have z:b∉Ts:=λz=>by
    have:=(tabs b z).1;rw[e] at this;cases this;cases d
   rw[notT z];cases q:own b with
   |none=>rfl
   |some u=>
    have:=hA b (by rw[q];simp);subst this;rw[ha] at e;cases e;cases d
  have nsK:∀{b:Addr} {m:Str->Option Value},s₁.heap.Ns b m->(OL s₁.heap (DG own Ts)).Ns b m:=λ{b m} ⟨o,es,ep,e,d,r⟩=>⟨o,es,ep,MM e (freeN e d),d,r⟩
  have hKb:K.In (OL s₁.heap (DG own Ts)):=λb o e=>MM (KX b o e) (by
   have z:b∉Ts:=λz=>by rw[(tabs b z).2.1] at e;cases e
   rw[notT z];cases q:own b with
   |none=>rfl
   |some u=>
    have e':b=a:=hA b (by rw[q];simp);subst e';rw[hK (by rw[q];simp)] at e;cases e)
  have hM:Mod K mg (OL s₁.heap (DG own Ts)):=⟨hKb,nsK hns,⟨mb,nsK hb,hbb⟩,let⟨mc,h1,h2⟩:=hlim;⟨mc,nsK h1,h2⟩⟩
  have hB:Qz mg (OL s₁.heap (DG own Ts)):=by
   obtain⟨bm,ob,b1,b2,b3,b4,b5,b6⟩:=hbm;refine⟨bm,ob,b1,b2,b3,MM b4 (free b4 (by rw[b5];intro z;cases z) λz=>?_),b5,b6⟩;rw[z,ha] at b4;cases b4;exact absurd b5 (by intro y;injection y with y;exact absurd y (by decide))
  have e0:Env0 P w K mg (OL s₁.heap (DG own Ts)) callerA [] s₁ (DG own Ts):=⟨rfl,hM,λb o e=>Wn e,eM (SR _ _),trivial,λb hb=>absurd (show b∈([]:List Addr) from hb) (by simp),hok',.of_eq hg⟩
  have hS':AV K (DG own Ts) a (ns.map V.int):=by
   rcases hS with(h|⟨o,h⟩)|h
   ·exact .inl (.inl (by rw[notT aT];exact h))
   ·exact .inl (.inr ⟨o,by rw[notT aT];exact h⟩)
   ·exact .inr h
  refine c8 ((F _ hKb (nsK hns) hB).run callerA [] s₁ (DG own Ts) ⟨[.ref a],[]⟩ [.ref a] [.ref a] _ _ hr e0 (hbind s₁ (.ref a)) (.cons rfl .nil) (hsp _ only hS')) λr s' h=>?_
  match r,h with
  | .error e,h=>exact(hCX _ e s' h).elim
  | .ok (.ret u),h=>
   obtain⟨v,H',os,bare,un,hok2,r',q⟩:=h;have q':v=.bl true:=q;subst q';obtain rfl:u=Value.bool true:=r';refine⟨rfl,⟨λb o e=>?_,λb o e=>?_⟩,os,bare⟩
   ·rcases only.2 b with z|⟨ob,xs,z⟩|⟨zT,z⟩
    ·exact .inl (un.keep b o e z (by intro y;exact absurd (show b∈([]:List Addr) from y) (by simp)) (by simp))
    ·obtain⟨e1,_⟩:=hok' b _ z;obtain⟨e2,_⟩:=hok2 b _ (un.frzs b ob _ z);rw[e] at e1;cases e1;exact .inl e2
    ·obtain⟨t1,_,c,t3⟩:=tabs b zT;obtain⟨more,m1⟩:=un.tbls b _ z;have m2:s'.heap.get? b=some { cls:=.none,data:=.fields (#[]++more) }:=hok2 b _ m1;rw[e] at t1;cases t1;exact .inr (.inl ⟨((ik KX t3).tab e).isCodeTable,rfl,#[],more,rfl,m2⟩)
   ·exact un.there b o e (by simp)
 cases hk:K.lookup a with
 |some o=>
  have e:=KX a o hk;rw[ha] at e;cases e;refine core (λ_=>none) (λ_=>.inl rfl) (.inr ⟨_,vs.toArray,_,hk,rfl,rfl,rfl,by rw[aP,hi.length];exact hl,by simpa using Kz hi⟩) (λb u z=>by cases(show(none:Option HO)=some u from z)) (λb z=>absurd rfl z) λz=>absurd rfl z
 |none=>
  refine core (λb=>if b=a then some (.frz { cls:=.type "list",data:=.seq vs.toArray } (.lst (ns.map V.int))) else none) (λb=>?_) (.inl (.inr ⟨{ cls:=.type "list",data:=.seq vs.toArray },ak rfl⟩)) (λb u z=>?_) (λb z=>?_) λ_=>hk
  ·by_cases hb:b=a
   ·exact .inr ⟨_,_,ak hb⟩
   ·exact .inl (ai hb)
  ·by_cases hb:b=a
   ·cases(ak hb).symm.trans z;subst hb;exact⟨ha,by rw[aa];exact hl,vs,_,Kz hi,ha⟩
   ·cases(ai hb).symm.trans z
  ·by_cases hb:b=a
   ·exact hb
   ·exact absurd (ai hb) z
theorem Um {l:PySem.W.OpenLaw} {n k:Nat} {q:Program} {loose:List Str} {XP:(Str->Option Value)->Heap->Prop} {YP:World->Heap->Prop} {d:DefRec} {K:Params->PySem.W.Frag} {CX:World->R1} {sp:World->Sp} {x:Str} {Ts:List Addr}
  (hn:l.most=some n) (hn2:n<=sizeLine) (hdf:d.params.defaults=[]) (hr:Room k callerA)
  (hY:∀(w:World) (h:Heap),YP w h->(K w.params).In h) (hT:∀(w:World) (h:Heap),YP w h->∀T∈Ts,h.get? T=some (PySem.W.tabObj #[]))
  (F:∀(w:World) (mg:Str->Option Value) (fa:Addr) (h:Heap),(K w.params).In h->h.Ns mainGlobals mg->mg d.name=some (.ref fa)->
   ∃fd:FuncData,(∀(s:Shared) (u:Value),BindsTo s fd ⟨[u],[]⟩ [(x,u)])/\(∀T∈Ts,(K w.params).lookup T=none/\∃c,PySem.W.codeHdIn (K w.params) c T=true)/\
    ∀base:Heap,(K w.params).In base->base.Ns mainGlobals mg->Qz mg base->FnOk l.prog w (K w.params) mg base (CX w) k fa fd [x] (sp w))
  (hsp:∀(w:World) (H:Hp) (a:Addr) (ns:List Int),ns.length<=n->Uv Ts H->AV (K w.params) H a (ns.map V.int)->sp w [.ref a] H (λv _=>v=.bl true) λ_ _ _=>False)
  (hCX:∀(w:World) (H:Hp) (s:Shared) (e:Value) (s':Shared),CX w [] H s (λ_ _ _=>False) e s'->False) :
  PySem.W.WalkO q loose XP YP l.row.toRowW d [] (λf vs=>PySem.call f vs):=by
 refine Att.Qm hn hdf λw s₀ s₁ mg mb fa o pm cd doc a vs ns G Y ho hd hcd hmg hobj hints hlen hg=>?_
 have KX:=hY w _ Y;obtain⟨fd,hb,ht,hF⟩:=F w mg fa _ KX G.T.g hmg;have bm:Qz mg s₁.heap:=by
  obtain⟨bm,ob,b1,b2,b3,b4,b5,b6⟩:=G.T.bmain;refine⟨bm,ob,b1,b2,λz=>?_,b3,b4,b5,b6⟩;obtain⟨o,es,ep,e,hd,_⟩:=G.T.g;rw[z,e] at b3;cases b3;rw[hd] at b6;cases b6
 exact SA KX G.T.g G.T.b G.T.builtins G.T.nolimit bm hg (λT h=>⟨hT w _ Y T h,ht T h⟩) hobj hints (aX hlen hn2) hr hF hb (λH hO hS=>hsp w H a ns hlen hO hS) λH e s'=>hCX w H s₁ e s'
theorem Fun.okC {P:Program} {w:World} {K:PySem.W.Frag} {mg:Str->Option Value} {base:Heap} {x qual:Str} {st:Stmt} {f:Addr} {fd:FuncData} {N ps:List Str} {k:Nat} {sp:Sp} (F:Fun K x qual st f fd) (S:FnScope N ps (Ai st)) (len:∀vs H Q E,sp vs H Q E->vs.length=ps.length)
  (hbody:∀(cdv:Value) (A:Around) (outer:List Env) (s:Shared) (H:Hp) (vs:List V) (Q:VK) (E:XK),fd.code=cdv->Room k (A.deeper (PyProof.Rows.envOfC qual (Ai st) s.heap.objs.size f cdv))->sp vs H Q E->
   ∃t,Qo (A4 Ef P w K mg base N qual (Ai st) f cdv A outer s H E).nox (Fz st) t/\t { nx:=λ_ H'=>Q .non H',rt:=Q } (start N vs) H):FnOk P w K mg base Ef (k+1) f fd ps sp:=by
 obtain⟨oc,od,kV,doc,pm,an,cdv,ct,osl,rfl,lk,hcd⟩:=F.ex;refine U6 lk hcd S len λA outer s H vs Q E hr hsp=>?_
 obtain⟨t,h,q⟩:=hbody cdv A outer s H vs Q E rfl hr hsp;exact⟨t,h.nox,q⟩
end
end L2
namespace L2
end L2
namespace L2
section
open PySem
variable {α:Type}
theorem IC {J:It} {ps:List α} {g:α->V} {fr:List (Option Nat)} {k:Nat} {tt:TT} {te:TE} {Q:VK} {σ:St} {H:Hp} (p:α->Bool) (P:α->V->Hp->Prop) (hP:∀x y H1 H2,P x y H1->Aw H1 H2->P x y H2)
  (hU:∀x y H1 l us us',P x y H1->H1 l=some (.lst us)->P x y (upd H1 l (.lst us'))) (hJ:JP J H (ps.map g)) (hn:ps.length<=1000000)
  (htest:∀x∈ps,∀(H':Hp) (R:Bool->Hp->Prop),Aw H H'->(∀H'',Aw H' H''->R (p x) H'')->tt ((stC fr σ).set k (some (g x))) H' R)
  (helt:∀x∈ps,p x=true->∀(H':Hp) (R:VK),Aw H H'->(∀y H'',Aw H' H''->P x y H''->R y H'')->te ((stC fr σ).set k (some (g x))) H' R)
  (hQ:∀l H' (ys:List (α×V)),H l=none->Aw H H'->H' l=some (.lst (ys.map (·.2)))->ys.map (·.1)=ps.filter p->(∀q∈ys,P q.1 q.2 H')->Q (.ref l) H'):Je fr (AU k) tt te σ Q J H:=by
 intro l hl;refine⟨λi m σ' H'=>m=ps.length-i/\i<=ps.length/\(∀y,σ'.set k y=(stC fr σ).set k y)/\Aw H H'/\∃ys:List (α×V),H' l=some (.lst (ys.map (·.2)))/\ys.map (·.1)=(ps.take i).filter p/\∀q∈ys,P q.1 q.2 H',
  ⟨ps.length,by simp,a6 _,λ_=>rfl,Ae hl _,[],by rw[Ac];rfl,rfl,λ_ h=>nomatch h⟩,?_⟩
 rintro i m σ' H' ⟨rfl,hi,hσ,hs,ys,hl',e1,hys⟩
 obtain⟨h1,h2,h3⟩:=hJ H' hs i;rw[aa] at h1 h2 h3
 by_cases hlt:i<ps.length
 ·refine .inr ⟨h1 hlt,λx H'' y=>?_⟩;obtain⟨rfl,hx⟩:=h2 x H'' y;have hx:=hx hlt;rw[aD,aC hlt] at hx;cases hx;have hm:ps[i]∈ps:=b9 hlt;have et:(ps.take (i+1)).filter p=(ps.take i).filter p++(if p ps[i]=true then[ps[i]] else[]):=by
   rw[bG,aC hlt,cE];cases q:p ps[i]<;>simp[q]
  have le:ys.length<=i:=by
   have a:=congrArg List.length e1;have b:=bp p (ps.take i);rw[aa] at a;rw[a8] at b;omega
  show tt (σ'.set k (some (g ps[i]))) H'' _;rw[hσ];refine htest _ hm H'' _ hs λH0 s0=>?_
  have hs0:=hs.trans s0;refine DQ (λc=>?_) (λc=>?_)
  ·refine helt _ hm c H0 _ hs0 λv H4 s4' hv=>?_
   have s4:=s0.trans s4';have hl4:=s4.get hl';refine⟨_,hl4,By (by rw[aa];omega),ps.length-(i+1),by omega,rfl,hlt,λy=>by rw[fM],Cu (hs.trans s4) hl _,ys++[(ps[i],v)],?_,?_,λq hq=>?_⟩
   ·rw[Ac,aO];rfl
   ·rw[et,ak c,aO,e1];rfl
   ·rcases aK.mp hq with h|h
    ·exact hU _ _ _ _ _ _ (hP _ _ _ _ (hys q h) s4) hl4
    ·rw[ah.mp h];exact hU _ _ _ _ _ _ hv hl4
  ·exact⟨ps.length-(i+1),by omega,rfl,hlt,λy=>by rw[fM],hs0,ys,s0.get hl',by rw[et,ai c,aJ];exact e1,λq hq=>hP _ _ _ _ (hys q hq) s0⟩
 ·have e:i=ps.length:=by omega
  subst e;exact .inl ⟨h3 (au _),hQ l H' ys hl hs hl' (by rw[e1,aY (au _)]) hys⟩
theorem VX {ys:List (α×V)}{f:α->V}(h:∀q∈ys,q.2=f q.1):ys.map (·.2)=(ys.map (·.1)).map f:=by
 rw[az];exact bf λq hq=>h q hq
theorem N6 {J:It} {ps:List α} {g:α->V} {fr:List (Option Nat)} {k:Nat} {tt:TT} {te:TE} {Q:VK} {σ:St} {H:Hp} (p:α->Bool) (f:α->V) (hJ:JP J H (ps.map g)) (hn:ps.length<=1000000)
  (htest:∀x∈ps,∀(H':Hp) (R:Bool->Hp->Prop),Aw H H'->(∀H'',Aw H' H''->R (p x) H'')->tt ((stC fr σ).set k (some (g x))) H' R)
  (helt:∀x∈ps,p x=true->∀(H':Hp) (R:VK),Aw H H'->(∀H'',Aw H' H''->R (f x) H'')->te ((stC fr σ).set k (some (g x))) H' R)
  (hQ:∀l H',H l=none->Aw H H'->H' l=some (.lst ((ps.filter p).map f))->Q (.ref l) H'):Je fr (AU k) tt te σ Q J H:=by
 refine IC p (λx y _=>y=f x) (λ_ _ _ _ h _=>h) (λ_ _ _ _ _ _ h _=>h) hJ hn htest (λx hx hp H' R s' hR=>helt x hx hp H' R s' λH'' s''=>hR _ H'' s'' rfl) λl H' ys nl s' h' e hq=>hQ l H' nl s' ?_
 rw[<-e,<-VX hq];exact h'
theorem Eh {J:It} {ps:List α} {g:α->V} {fr:List (Option Nat)} {k:Nat} {tt:TT} {te:TE} {Q:VK} {σ:St} {H:Hp} (p:α->Bool) (f:α->V) (hJ:JP J H (ps.map g)) (hn:ps.length<=1000000)
  (htest:∀x∈ps,∀(H':Hp) (R:Bool->Hp->Prop),Aw H H'->R (p x) H'->tt ((stC fr σ).set k (some (g x))) H' R)
  (helt:∀x∈ps,p x=true->∀(H':Hp) (R:VK),Aw H H'->(∀H'',Aw H' H''->R (f x) H'')->te ((stC fr σ).set k (some (g x))) H' R)
  (hQ:∀l H',H l=none->Aw H H'->H' l=some (.lst ((ps.filter p).map f))->Q (.ref l) H'):Je fr (AU k) tt te σ Q J H:=
 N6 p f hJ hn (λx hx H' R s' hR=>htest x hx H' R s' (hR H' (Aw.refl _))) helt hQ
end
end L2
namespace L2
end L2
namespace L2
end L2
namespace L2
end L2
namespace L2
end L2
namespace L2
section
open PySem PySem.W PySem.Calls PyProof.Rows
variable {s:Shared}
abbrev Qr (a b:Str):Prop:=a.cps.toList<b.cps.toList
theorem QG {a b:Str}(h:¬Qr a b)(ne:a≠b):Qr b a:=by
 rcases Classical.em (Qr b a) with z|z
 ·exact z
 ·exact absurd (show a=b by
   cases a;cases b;exact congrArg Str.mk (fQ.mp (List.le_antisymm (List.not_lt.mp z) (List.not_lt.mp h)))) ne
theorem Qh:∀{ks:List Value} {kz:List Str},ks.length=kz.length->(∀(i:Nat) k,ks[i]?=some k->∃t,k=.str (kz.getD i ⟨#[]⟩) t)->StrsAre ks kz
 |[],[],_,_=>.nil
 |[],_::_,h,_=>by cases h
 |_::_,[],h,_=>by cases h
 |k::ks,z::kz,h,hk=>by
  obtain⟨t,e⟩:=hk 0 k rfl;rw[show k=Value.str z t from e];exact .cons z t (Qh (by simpa using h) λi k' q=>by
   have:=hk (i+1) k' (by simpa using q);simpa using this)
theorem TB {ks:List Value}{kz:List Str}(h:StrsAre ks kz)(h2:2<=ks.length):keyKind' ks.toArray=pure oneType':=by
 match ks,h,h2 with
 |_::_::_,h,_=>exact keyKind_strs h
theorem Su {prog:Program}{w:World}{A:Around}{ks:List Value}{kz:List Str}(nd:kz.Nodup)(hl:ks.length=kz.length)(hk:∀(i:Nat) k,ks[i]?=some k->∃t,k=.str (kz.getD i ⟨#[]⟩) t) :
  Ordr ks.length (λi j=>decide (Qr (kz.getD i ⟨#[]⟩) (kz.getD j ⟨#[]⟩))) (PySem.W.kas_ask prog w A oneType' ks) s:=by
 refine⟨λi j C hi hj hij hC=>?_,λi j k _ _ _ h1 h2=>?_,λi j hi hj hij h1=>?_⟩
 ·obtain⟨t,e⟩:=hk i _ (aC hi);obtain⟨u,e'⟩:=hk j _ (aC hj);unfold PySem.W.kas_ask;rw[show ks.getD i Value.none=.str (kz.getD i ⟨#[]⟩) t by rw[<-e];simp[hi],show ks.getD j Value.none=.str (kz.getD j ⟨#[]⟩) u by rw[<-e'];simp[hj]];exact PySem.W.kas_lt_str hC
 ·rw[bZ] at *;exact dU h1 h2
 ·exact av (QG (fD h1) (Mw nd (by omega) (by omega) hij))
end
end L2
namespace L2
section
open PySem PySem.Spec PyProof.Rows PySem.Calls
variable {X:Cx}
def VJ (K:PySem.W.Frag)(P:Addr)(qual:Str)(lp:Pos)(j:Nat)(ta:TA):TE:=λσ H Q=>ta σ H λvs H1=>∃(a:Addr) (ts:List (Addr×Str)),vs=[.ref a]/\AV K H1 a (ts.map λt=>V.ref t.1)/\ts.length<64/\(∀t∈ts,∃xs,AW K H1 t.1 xs/\xs[j]?=some (.str t.2))/\(ts.map (·.2)).Nodup/\CI P qual lp H1/\
 ∀(us:List (Addr×Str)) p H2,us.Perm ts->us.Pairwise (λx y=>Qr x.2 y.2)->CJ P H1 H2->CI P qual lp H2->H2 p=none->Q (.ref p) (upd H2 p (.lst (us.map λt=>V.ref t.1)))
theorem NC {e:Expr} {ta:TA} {x:Str} {params:Arguments} {scope:Scope} {j:Nat} {P:Addr} {k:Nat} {p pos kp lp p1 p2 p3:Pos} {qual:Str} (hr:Room k X.A) (L:LamTx x params scope) (at_:LamAt X.K X.mg X.base X.env.code P) (hj:j<1000) (hq:X.env.qual++"<lambda>"=qual) (hg:Gl X "sorted") (hm:X.mg "sorted"=none) (ha:PA X [e] ta)
  (he:backTo pos (starEach [e] X.env)=(false,eval e X.env)::backTo pos (starEach [] X.env):=by rfl)
  (hpl:(backTo pos (starEach [e] X.env)).any (·.1)=false:=by rfl) :
  PE X (.Call (.Name "sorted" p) [e] [⟨some "key",.Lambda params (.Subscript (.Name x p1) (.Constant (.int j) 0 p2) p3) scope lp,kp⟩] pos) (VJ X.K P qual lp j ta):=by
 subst hq;intro pins s σ H Q I h;refine cG (MO I hg hm NO (U7 hpl rfl ?_));have hsp:=ha pos pins s σ H _ I h;rw[he] at hsp ⊢;refine evalArgs_kwB rfl (BN hsp λus s1 ⟨vs,H1,I1,r1,q1⟩=>?_);obtain⟨a,ts,rfl,hl,few,ht,nd,tb,q⟩:=q1;obtain⟨u,rfl,ru⟩:=vals1 r1;cases ru;refine kws_cons (Uc L.dflt (L.clos _) at_ I1 tb λf c' pm ctv H2 s2 I2 st tb2 hf hcr=>kws_nil ?_);obtain⟨its,rv,p1',hz⟩:=I2.list (st.sqL tb hl);have ei:=NX rv;have li:its.length=ts.length:=by rw[ei,aa]
 have gk:∀i,i<ts.length->(ts.map (·.2)).getD i ⟨#[]⟩=(ts.getD i (0,⟨#[]⟩)).2:=λi hi=>by simp[hi]
 refine Ru (vs:=its) (Ky:=λi k=>∃t,k=Value.str ((ts.map (·.2)).getD i ⟨#[]⟩) t) (lt:=λi j=>decide (Qr ((ts.map (·.2)).getD i ⟨#[]⟩) ((ts.map (·.2)).getD j ⟨#[]⟩))) p1'.isList (by rw[li];exact few) (λi v hv h' tk k=>?_) (λks h' tk hlk hK k l2=>?_) λh' tk pp idx c hp up lp' k hc=>?_
 ·have il:i<ts.length:=by rw[<-li];exact(aA.mp hv).1
  have ev:v=.ref (ts[i]).1:=by
   rw[ei,aD,aC il] at hv;exact(aI hv).symm
  subst ev;obtain⟨xs,hx,hxj⟩:=ht _ (b9 il);obtain⟨ys,r2,hy,_⟩:=I2.tuple (st.sqT tb hx);obtain⟨y,hyj,ry⟩:=r2.get hxj;obtain⟨t,rfl⟩:=ry;have cr:h'.CodeRec (.ref c') (X.env.qual++"<lambda>"):=by
   obtain⟨c2,o,vs,t,z1,z2,z3⟩:=hcr;exact⟨c2,o,vs,t,z1,k _ _ z2,z3⟩
  refine bg (Vr (s:={ s2 with heap:=h',toks:=tk }) (A:=X.A.in1.in1) (items:=ys.toArray) (j:=j) (v:=.str (ts[i]).2 t) (k _ _ hf) cr (I2.nolimit.keeps k) hr.depth (λu=>L.bind _ _ _ _ _ u) L.loc L.kind L.co L.ge L.ce L.db hj (hy.keeps k) (by simpa using hyj)) (λkv s' z=>?_) λ_ _ z=>z
  obtain⟨rfl,h3,tk3,rfl,k3⟩:=z;exact⟨⟨t,by rw[gk i il];simp[il]⟩,h3,tk3,rfl,k3⟩
 ·have hl2:ks.length=(ts.map (·.2)).length:=by rw[hlk,li,aa]
  rw[TB (Qh hl2 hK) (by omega)];refine aB ⟨rfl,?_⟩;have:=Su (prog:=X.prog) (w:=X.w) (A:=X.A.in1.in1) (s:={ s2 with heap:=h',toks:=tk }) nd hl2 hK;rw[hlk] at this;exact this
 ·rw[li] at hp up;obtain⟨us,u1,u2,u3⟩:=W4 (⟨#[]⟩:Str) ts (R:=Qr) hp up λi j hi hj hlt=>by
   rw[bZ,gk i hi,gk j hj] at hlt;exact hlt
  rw[ei,u2] at hc;refine⟨.ref pp,_,I2.laid (t':=tk) (o:=.lst (us.map λt=>V.ref t.1)) k lp' ?_,rfl,q us pp H2 u1 u3 st tb2 (I2.hok.fresh lp')⟩;refine⟨?_,_,c,Mv us,hc⟩;rw[aa,u1.length_eq,bh];omega
end
end L2
namespace L2
end L2
namespace L2
section
open PySem PySem.Calls PyProof.Rows PySem.Spec
def XQ (K:PySem.W.Frag):List V->Hp->VK->Prop:=λxs H Q=>∃(a:Addr) (ps:List Addr) (kvs:List (Key×V)),xs=[.ref a]/\AV K H a (ps.map V.ref)/\ps.length=kvs.length/\kvs.length<=100000/\(kvs.map (·.1)).Nodup/\
 (∀(i:Nat) t k v,ps[i]?=some t->kvs[i]?=some (k,v)->H t=some (.tup [kV k,v]))/\∀d,H d=none->Q (.ref d) (upd H d (.dK kvs))
abbrev ZC (p:Key×V)(q:Key×Value×Value):Prop:=p.1=q.1/\RelV (kV p.1) q.2.1/\RelV p.2 q.2.2
theorem KG {X:Cx}{pins:List (Addr×Obj)}{σ:St}{H:Hp}{s:Shared}(I:Inv X pins σ H s):∀(ps:List Addr) (kvs:List (Key×V)),ps.length=kvs.length->(∀(i:Nat) t k v,ps[i]?=some t->kvs[i]?=some (k,v)->H t=some (.tup [kV k,v]))->
  ∃xs:List (Key×Value×Value),Paired ZC kvs xs/\∀(i:Nat) t,ps[i]?=some t->∃q,xs[i]?=some q/\IsTup s.heap t #[q.2.1,q.2.2]
 |[],[],_,_=>⟨[],.nil,λi t h=>by simp at h⟩
 |[],_::_,h,_=>by cases h
 |_::_,[],h,_=>by cases h
 |t::ps,(k,v)::kvs,ln,hp=>by
  obtain⟨xs,r,a⟩:=KG I ps kvs (by simpa using ln) λi t k v e1 e2=>hp (i+1) t k v (by simpa using e1) (by simpa using e2)
  obtain⟨_,its,rv,it⟩:=(show Be X.prog X.w H s.heap t (.tup [kV k,v]) from I.hok t _ (hp 0 t k v rfl rfl))
  cases rv with
  |@cons _ wk _ _ ra rb=>
   cases rb with
   |@cons _ wv _ _ rb rc=>
    cases rc;refine⟨(k,wk,wv)::xs,.cons ⟨rfl,ra,rb⟩ r,λi t' e=>?_⟩;cases i with
    |zero=>simp only[List.getElem?_cons_zero,Option.some.injEq] at e;subst e;exact⟨_,rfl,it.is⟩
    |succ i=>exact a i t' (by simpa using e)
theorem WU {kvs:List (Key×V)}{xs:List (Key×Value×Value)}(h:Paired ZC kvs xs):KV kvs (xs.map λq=>(q.1,q.2.2)):=by
 induction h with
 |nil=>exact .nil
 |cons r _ ih=>exact .cons ⟨r.1,r.2.2⟩ ih
theorem VU {kvs:List (Key×V)}{xs:List (Key×Value×Value)}(h:Paired ZC kvs xs):xs.map (·.1)=kvs.map (·.1):=by
 induction h with
 |nil=>rfl
 |cons r _ ih=>rw[aF,aF,ih,r.1]
theorem RB {X:Cx}{K:PySem.W.Frag}(hK:X.K=K)(hc:X.calm=true):EV X (.type "dict") (XQ K):=by
 subst hK;intro pins s σ H xs us Q I r h;obtain⟨a,ps,kvs,rfl,h1,ln,hz,nd,hp,q⟩:=h;obtain⟨u,rfl,ru⟩:=vals1 r;cases ru;obtain⟨its,r1,⟨o1,n1,e1,c1,d1,s1⟩,_⟩:=I.list h1;obtain⟨xs,rx,tx⟩:=KG I ps kvs ln hp;have lx:xs.length=kvs.length:=(cw rx).symm;have ndx:(xs.map (·.1)).Nodup:=by rw[VU rx];exact nd
 have li:its.length=ps.length:=by have:=r1.length;rw[aa] at this;exact this.symm
 obtain⟨c,dd,da,sl⟩:=o1;simp only at c1 d1 s1;subst c1 d1 s1;refine So (A:=X.A) (I.ok.hd hc) ⟨n1,_,e1⟩ (D:=λi h=>h.DictOf (A6 X.prog X.w) s.heap.objs.size ((xs.take i).map λq:Key×Value×Value=>(q.1,q.2.2))) (λi h h' ⟨o,es,ep,z1,z2⟩ k=>⟨o,es,ep,k o z1,z2⟩) (λh e=>?_) (λi v e=>?_) λh' tk k' z=>?_
 ·obtain⟨o,es,ep,z1,z2⟩:=(Heap.DictOf.new (knd:=A6 X.prog X.w) s.heap)
  have e2:(s.heap.push { cls:=.type "dict",data:=.dict #[] }).get? s.heap.objs.size=some { cls:=.type "dict",data:=.dict #[] }:=aH _ rfl;rw[e2] at z1;cases z1;exact⟨_,es,ep,e,z2⟩
 ·obtain⟨t,et,rfl⟩:=O1 r1 i v e;obtain⟨⟨k,wk,wv⟩,eq,ht⟩:=tx i t et;refine⟨t,wk,wv,rfl,ht,λs2 Q2 E2 old hm hQ=>?_⟩;have rk:RelV (kV k) wk:=by
   obtain⟨p,_,e1,e2,_⟩:=JE rx (aN eq);rw[e1] at e2;exact e2
  have ts:xs.take (i+1)=xs.take i++[(k,wk,wv)]:=by rw[bG,eq];rfl
  have no:valueAt ((xs.take i).map λq:Key×Value×Value=>(q.1,q.2.2)) k=none:=by
   unfold valueAt;rw[eG,df];intro x hx z;have e:=aE z;obtain⟨y,hy,rfl⟩:=aj.mp hx;have:=ndx.sublist ((dP (i+1) xs).map _);rw[ts,aO,dQ] at this;exact this.2.2 _ (aj.mpr ⟨y,hy,rfl⟩) k (by simp) e
  refine wpAny_dictSet_pairs (hsz:=?_) (k:=k) (HS rk) hm λh' hm' sb=>hQ _ _ ?_ sb
  ·rw[stored_absent no] at hm';rw[ts,aO];exact hm'
  ·rw[aa,a8,bh];omega
 ·have hb:=I.big;rw[li,ln,<-lx,cu] at z;refine⟨.ref s.heap.objs.size,_,I.laid (o:=.dK kvs) k' (au _) (Jl (by rw[bh];omega) ?_ (WU rx) z),rfl,q _ I.fresh⟩;rw[cm];exact cS hb
end
end L2
namespace L2
end L2
namespace L2
open PySem
end L2
namespace L2
end L2
namespace L2
end L2
namespace L2
end L2
namespace L2
end L2
namespace L2
end L2
namespace L2
end L2
namespace L2
end L2
namespace L2
end L2
namespace L2
open PySem PySem.Spec PyProof.Rows
section
variable {P:Program}{w:World}{K:PySem.W.Frag}{mg:Str->Option Value}{base:Heap}{N:List Str}{qual:Str}{scope:Scope}{f:Addr}{cd:Value}{A:Around}{outer:List Env}{s:Shared}{H:Hp}{E:XK}
theorem Ga:ZK (A4 (E7 P w) P w K mg base N qual scope f cd A outer s H E) E:=by
 intro pins σ H1 s1 cls h1 ea vs I hx q;have hfr:=I.ok.frames;obtain⟨t0,ob,_⟩:=hx.there;refine(Jh _ _).also (s:={ s1 with heap:=h1 }) (R5 ob ⟨_,rfl,rfl⟩) (wpAny_leaves_madeW (base:=PySem.W.hideAll s1.heap (G4 (envOfC qual scope s.heap.objs.size f cd::outer))) (h:=s1.heap) (L:=s.heap.objs.size) hfr rfl (λb o e=>fF _ e) I.hidFrames hx λh' t fl' _ _ up dj'=>?_);have un:=I.made1 (t':=s1.toks) hx fl' up;have J:=I.call' (s':={ s1 with heap:=h' }) (ch:=[]) rfl un (I.hid.kept fl'.1) I.bare (λb z=>nomatch z);refine⟨ea,cls,H1,_,_,none,rfl,⟨J.os,I.bare,J.base,I.hid,fl',λb o e n hb=>?_,λb o e hb=>?_,⟨_,dj'⟩⟩,dj',q⟩
 ·exact cy _ (I.base.keep b o e n hb (by intro z;cases z)) (Fc I e hb)
 ·obtain⟨o1,e1⟩:=I.base.there b o e (by intro z;cases z);exact⟨o1,cy _ e1 (Fc I e hb)⟩
end
section
variable {X:Cx}
def HX (z y:Str):List Str:=match PySem.Builtin.Str.lastOccurrence z y 0 z.length with
 |some i=>[PySem.Builtin.Str.strSub z 0 i,y,PySem.Builtin.Str.strSub z (i+y.length) z.length]
 |none=>[PySem.Str.empty,PySem.Str.empty,z]
def Xp:V->List V->Hp->VK->Prop:=λx vs H Q=>∃z y,x=.str z/\vs=[.str y]/\(y.length == 0)=false/\z.length<=100000/\∀p,H p=none->Q (.ref p) (upd H p (.tup ((HX z y).map V.str)))
theorem Nu:Vy X "str.rpartition" Xp:=by
 intro pins s σ H x vs v us Q I rx rv h;obtain⟨z,y,rfl,rfl,hy,hz,q⟩:=h;obtain⟨tk,rfl⟩:=rx;obtain⟨y',rfl,ry⟩:=rv.one;obtain⟨tk2,rfl⟩:=ry;refine dZ F.slot_str_rpartition (fV _ _ _) F.entry_str_rpartition (F.args_str_rpartition_2 _ _) (meets_str_rpartition z y tk tk2 hy (small (by omega))) ?_;show EP X pins σ Q _ _;refine⟨.ref s.heap.objs.size,upd H s.heap.objs.size (.tup ((HX z y).map V.str)),?_,rfl,q _ I.fresh⟩;unfold HX;cases PySem.Builtin.Str.lastOccurrence z y 0 z.length with
 |none=>exact I.laid (λb o e=>af _ e) (au _) ⟨by show 3<=sizeLine;decide,_,.cons ⟨_,rfl⟩ (.cons ⟨_,rfl⟩ (.cons ⟨_,rfl⟩ .nil)),⟨_,aH _ rfl,rfl,_,rfl,λ_=>rfl⟩⟩
 |some i=>exact I.laid (λb o e=>af _ e) (au _) ⟨by show 3<=sizeLine;decide,_,.cons ⟨_,rfl⟩ (.cons ⟨_,rfl⟩ (.cons ⟨_,rfl⟩ .nil)),⟨_,aH _ rfl,rfl,_,rfl,λ_=>rfl⟩⟩
end
end L2
namespace L2
section
open PySem PySem.Spec PyProof.Rows
def BI (P:Program)(w:World)(K:PySem.W.Frag)(mg:Str->Option Value)(base:Heap)(k:Nat)(C:Addr)(m:Str)(ps:List Str)(sp:Sp):Prop:=
 ∃(f:Addr) (fd:FuncData),FnOk P w K mg base (E7 P w) k f fd ps sp/\Meth K C m f/\Binds K fd ps []
variable {X:Cx}{k:Nat}{x m:Str}{C:Addr}{ps:List Str}{sp:Sp}{E:XK}{e o:Expr}{es:List Expr}{t:TA}{ta:TE}{p pos apos:Pos}
theorem Ba {pl:Sem Bool} (ho:PE X o ta) (c:Cls X.K C) (D:BI X.prog X.w X.K X.mg X.base k C m ps sp) (hr:Room k X.A) (hx:Fv (E7 X.prog X.w) X E) (ha:PA X (e::es) t)
  (hst:starEach (e::es) X.env=(false,eval e X.env)::starEach es X.env:=by rfl) (hpl:(backTo pos (starEach es X.env)).any (·.1)=false:=by rfl)
  (ht:eval (.Call (.Attribute o m apos) (e::es) [] pos) X.env=(do
   let ov <-eval o X.env
   standAt apos.atName
   let(f,first) <-holding [ov] (getMethod ov m pl)
   callWith pos f first (backTo pos (starEach (e::es) X.env)) (backToKw pos (keywordEach [] X.env))):=by rfl) :
  PE X (.Call (.Attribute o m apos) (e::es) [] pos) (RZ C m sp [] E ta t):=by
 obtain⟨f,fd,F,hm,hb⟩:=D;exact V8 ho c hm F hr hb .nil hx ha hst hpl ht
theorem UN {pl:Sem Bool} (ho:PE X.nox o ta) (c:Cls X.K C) (D:BI X.prog X.w X.K X.mg X.base k C m ps sp) (hr:Room k X.A) (ha:PA X.nox (e::es) t)
  (hst:starEach (e::es) X.env=(false,eval e X.env)::starEach es X.env:=by rfl) (hpl:(backTo pos (starEach es X.env)).any (·.1)=false:=by rfl)
  (ht:eval (.Call (.Attribute o m apos) (e::es) [] pos) X.env=(do
   let ov <-eval o X.env
   standAt apos.atName
   let(f,first) <-holding [ov] (getMethod ov m pl)
   callWith pos f first (backTo pos (starEach (e::es) X.env)) (backToKw pos (keywordEach [] X.env))):=by rfl) :
  Xs X (.Call (.Attribute o m apos) (e::es) [] pos) (λEx=>RZ C m sp [] (λcls d H'=>Ex cls d H') ta t):=by
 obtain⟨f,fd,F,hm,hb⟩:=D;intro pins s σ H Q Ex I h;refine eX (pl:=pl) (bg (ho pins s σ H _ (I.wish _) h) (λu s1 z9=>?_) λ_ _ z=>False.elim z) ht;obtain⟨x,H1,I1,rx,a,dx,fs,ex,ea,l,q⟩:=z9;subst ex;obtain rfl:u=Value.ref a:=rx;refine Jx I1.unwish ea c hm l ?_;refine dc (first:=[.ref a]) (h₀:=X.base) I.ok.mod.kin hm.kp (bg (ha pos pins s1 σ H1 _ I1 q) (λus s2 ⟨vs,H2,I2,r,q2⟩=>⟨I2.kIn,?_⟩) λ_ _ z=>False.elim z) hst hpl;have J:=I2.unwish;have q':sp (.ref a::vs) H2 Q λcls d H'=>Ex cls d H':=by
  have:sp (.ref a::(vs++[])) H2 Q λcls d H'=>Ex cls d H':=q2
  rw[aJ] at this;exact this
 have r':A5 (V.ref a::vs) (Value.ref a::us):=.cons rfl r;have hl:(Value.ref a::us).length=ps.length:=by rw[<-r'.length];exact F.len _ _ _ _ q'
 have hb':=hb s2 (Value.ref a::us) J.kIn (by rw[aJ];exact hl);rw[aJ] at hb';refine cM (c8 (F.run X.A X.stack s2 H2 ⟨Value.ref a::us,[]⟩ (Value.ref a::us) (V.ref a::vs) Q _ hr J.env0 hb' r' q') λr s' z=>?_)
 match r,z with
 | .error e,⟨ea,cls,H',B,a0,d,he,Fl,dj,q⟩=>exact⟨ea,cls,σ,H2,H',s2,B,a0,d,he,J,Fl,dj,rfl,q⟩
 | .ok (.ret u),z=>exact J.after z
end
end L2
namespace L2
noncomputable instance trDec:DecidableEq Tr:=λa b=>Classical.propDecidable (a=b)
end L2
namespace L2
end L2
namespace L2
end L2
namespace L2
end L2
namespace L2
section
open PySem PySem.Spec PyProof.Rows
variable {X:Cx}
theorem K3:EV X (.builtin "len") (λxs H Q=>∃d kvs,xs=[V.ref d]/\H d=some (.dK kvs)/\Q (.int kvs.length) H):=by
 rintro pins s σ H xs us Q I r ⟨d,kvs,rfl,hd,q⟩
 obtain⟨_,rfl,ru⟩:=vals1 r;cases ru;exact Yg I (.inl hd) λt _ I'=>⟨.int kvs.length,H,I',⟨t,rfl⟩,q⟩
end
end L2
namespace L2
open PySem
mutual
def Qy:Tr->Tr->Bool
 | .int i,.int j=>i == j
 | .str y,.str z=>y == z
 | .tup ts,.tup us=>Gb ts us
 |_,_=>false
def Gb:List Tr->List Tr->Bool
 |[],[]=>true
 |t::ts,u::us=>Qy t u&&Gb ts us
 |_,_=>false
end
theorem Kf:∀(ts us:List Tr),((List.range (min ts.length us.length)).all (λj=>Qy (ts.getD j .non) (us.getD j .non))&&ts.length == us.length)=Gb ts us
 |[],[]=>rfl
 |[],_::_=>rfl
 |_::_,[]=>rfl
 |t::ts,u::us=>by
  rw[aS,aS,Nat.succ_min_succ,g9,dA,cB];have:=Kf ts us;show(Qy t u&&(List.range (min ts.length us.length)).all _&&(ts.length+1 == us.length+1))=(Qy t u&&Gb ts us);rw[<-this,Bool.and_assoc]
  congr 2
  rw[cn,bQ,bQ];omega
abbrev Xj (t:Tr):Prop:=Qy t t=true
theorem OT:∀{ts:List Tr} {i:Nat} {t:Tr},Gb ts ts=true->ts[i]?=some t->Xj t
 |t::ts,0,t',h,e=>by
  cases(aI e);exact(cQ.mp (show(Qy t t&&Gb ts ts)=true from h)).1
 |t::ts,i+1,t',h,e=>OT (ts:=ts) (i:=i) (cQ.mp (show(Qy t t&&Gb ts ts)=true from h)).2 (by simpa using e)
mutual
theorem RO {F:Addr->Prop}{H:Hp}:∀(t u:Tr) (v:V),Xj t->Xj u->Rep F H t v->Rep F H u v->Qy t u=true
 | .int i,.int j,v,_,_,h1,h2=>by
  have e:V.int i=V.int j:=(show v=_ from h1).symm.trans h2;cases e;exact beq_self_eq_true i
 | .str y,.str z,v,_,_,h1,h2=>by
  have e:V.str y=V.str z:=(show v=_ from h1).symm.trans h2;cases e;exact beq_self_eq_true y
 | .tup ts,.tup us,v,p,q,⟨a,vs,e1,ha,r1⟩,⟨b,ws,e2,hb,r2⟩=>by
  subst e1;cases e2;rw[ha] at hb;cases hb;exact P9 ts us vs p q r1 r2
 | .int i,.str z,v,_,_,h1,h2=>nomatch(show v=V.int i from h1).symm.trans h2
 | .str z,.int i,v,_,_,h1,h2=>nomatch(show v=V.str z from h1).symm.trans h2
 | .int i,.tup us,v,_,_,h1,⟨b,ws,e2,_⟩=>nomatch(show v=V.int i from h1).symm.trans e2
 | .str z,.tup us,v,_,_,h1,⟨b,ws,e2,_⟩=>nomatch(show v=V.str z from h1).symm.trans e2
 | .tup us,.int i,v,_,_,⟨b,ws,e2,_⟩,h1=>nomatch(show v=V.int i from h1).symm.trans e2
 | .tup us,.str z,v,_,_,⟨b,ws,e2,_⟩,h1=>nomatch(show v=V.str z from h1).symm.trans e2
 | .non,_,_,p,_,_,_ | .bl _,_,_,p,_,_,_ | .lst _,_,_,p,_,_,_=>nomatch p
 | .int _,.non,_,_,p,_,_ | .int _,.bl _,_,_,p,_,_ | .int _,.lst _,_,_,p,_,_ | .str _,.non,_,_,p,_,_ | .str _,.bl _,_,_,p,_,_ | .str _,.lst _,_,_,p,_,_ | .tup _,.non,_,_,p,_,_ | .tup _,.bl _,_,_,p,_,_ | .tup _,.lst _,_,_,p,_,_=>nomatch p
theorem P9 {F:Addr->Prop}{H:Hp}:∀(ts us:List Tr) (vs:List V),Gb ts ts=true->Gb us us=true->Ct F H ts vs->Ct F H us vs->Gb ts us=true
 |[],[],_,_,_,_,_=>rfl
 |[],u::us,vs,_,_,h,⟨_,_,e,_⟩=>nomatch(show vs=[] from h).symm.trans e
 |t::ts,[],vs,_,_,⟨_,_,e,_⟩,h=>nomatch(show vs=[] from h).symm.trans e
 |t::ts,u::us,vs,p,q,⟨v,vs',e1,a1,a2⟩,⟨w,ws',e2,b1,b2⟩=>by
  subst e1;cases e2;have p':=cQ.mp (show(Qy t t&&Gb ts ts)=true from p);have q':=cQ.mp (show(Qy u u&&Gb us us)=true from q);exact cQ.mpr ⟨RO t u v p'.1 q'.1 a1 b1,P9 ts us vs' p'.2 q'.2 a2 b2⟩
end
section
open PySem PyProof.Rows
variable {X:Cx}{pins:List (Addr×Obj)}{σ:St}{H:Hp}{s:Shared}{F:Addr->Prop}
theorem KQ (I:Inv X pins σ H s) {A:Around} {ts us:List Tr} {vs ws:List V} {its its2:List Value} {n:Nat}
  (rec:∀(t u:Tr) (v w:V) (vv ww:Value),t.dep<=n->Xj t->Xj u->Rep F H t v->Rep F H u w->RelV v vv->RelV w ww->SeqAt.EqAt A.in1 s vv ww (Qy t u))
  (d:Tr.deps ts<=n) (p:Gb ts ts=true) (q:Gb us us=true) (hr1:Ct F H ts vs) (hr2:Ct F H us ws) (rv1:A5 vs its) (rv2:A5 ws its2) (j:Nat) (g1:j<its.toArray.size) (g2:j<its2.toArray.size) :
  SeqAt.EqAt A.in1 s its.toArray[j] its2.toArray[j] (Qy (ts.getD j .non) (us.getD j .non)):=by
 have g1':j<its.length:=by simpa using g1
 have g2':j<its2.length:=by simpa using g2
 have lv1:=rv1.length;have lv2:=rv2.length;have hx1:vs[j]?=some (vs[j]'(by omega)):=aC _;have hx2:ws[j]?=some (ws[j]'(by omega)):=aC _;obtain⟨y1,hy1,ry1⟩:=rv1.get hx1;obtain⟨y2,hy2,ry2⟩:=rv2.get hx2;obtain⟨t1,e1,p1⟩:=Ct.get hr1 hx1;obtain⟨t2,e2,p2⟩:=Ct.get hr2 hx2;have:=rec t1 t2 _ _ y1 y2 (aX (Tr.deps_get e1) d) (OT p e1) (OT q e2) p1 p2 ry1 ry2;rw[aC g1'] at hy1;rw[aC g2'] at hy2;cases hy1;cases hy2;simp only[List.getD,e1,e2,Option.getD_some];simpa using this
theorem Rb (I:Inv X pins σ H s):∀(n:Nat) (A:Around) (t u:Tr) (v w:V) (vv ww:Value),A.units+n<cLine->t.dep<=n->Xj t->Xj u->Rep F H t v->Rep F H u w->RelV v vv->RelV w ww->SeqAt.EqAt A s vv ww (Qy t u)
 |n,A,t,u,v,w,vv,ww,hA,d,p,q,h1,h2,r1,r2=>by
  cases t with
  |int i=>
   cases(show v=V.int i from h1);obtain⟨t1,rfl⟩:=r1;cases u with
   |int j=>cases(show w=V.int j from h2);obtain⟨t2,rfl⟩:=r2;exact SeqAt.EqAt.int_int i t1 j t2
   |str z=>cases(show w=V.str z from h2);obtain⟨t2,rfl⟩:=r2;exact fY i t1 z t2
   |tup us=>obtain⟨b,ws,rfl,hb,_⟩:=h2;cases r2;obtain⟨_,_,p,_⟩:=I.tuple (AW.of (K:=X.K) hb);exact SeqAt.EqAt.int_tuple i t1 p (by omega)
   |_=>exact nomatch q
  |str y=>
   cases(show v=V.str y from h1);obtain⟨t1,rfl⟩:=r1;cases u with
   |int j=>cases(show w=V.int j from h2);obtain⟨t2,rfl⟩:=r2;exact fW y t1 j t2
   |str z=>cases(show w=V.str z from h2);obtain⟨t2,rfl⟩:=r2;exact SeqAt.EqAt.str_str y t1 z t2
   |tup us=>obtain⟨b,ws,rfl,hb,_⟩:=h2;cases r2;obtain⟨_,_,p,_⟩:=I.tuple (AW.of (K:=X.K) hb);exact SeqAt.EqAt.str_tuple y t1 p (by omega)
   |_=>exact nomatch q
  |tup ts=>
   obtain⟨a,vs,rfl,ha,hr1⟩:=h1;cases r1;obtain⟨its,rv1,p1,_⟩:=I.tuple (AW.of (K:=X.K) ha);cases u with
   |int j=>cases(show w=V.int j from h2);obtain⟨t2,rfl⟩:=r2;exact SeqAt.EqAt.tuple_int j t2 p1 (by omega)
   |str z=>cases(show w=V.str z from h2);obtain⟨t2,rfl⟩:=r2;exact SeqAt.EqAt.tuple_str z t2 p1 (by omega)
   |tup us=>
    obtain⟨b,ws,rfl,hb,hr2⟩:=h2;cases r2;obtain⟨its2,rv2,p2,_⟩:=I.tuple (AW.of (K:=X.K) hb)
    by_cases hab:a=b
    ·subst hab;rw[RO (.tup ts) (.tup us) (.ref a) p q ⟨a,vs,rfl,ha,hr1⟩ ⟨a,ws,rfl,hb,hr2⟩];exact dq _
    ·have l1:=rv1.length.symm.trans (Ct.len ts vs hr1);have l2:=rv2.length.symm.trans (Ct.len us ws hr2);have d':1+Tr.deps ts<=n:=d;have r:=gu (A:=A) (s:=s) (e:=λj=>Qy (ts.getD j .non) (us.getD j .non)) p1 p2 (by omega) (λj g1 g2=>KQ I (n:=n-1) (λt u v w vv ww d=>Rb I (n-1) A.in1 t u v w vv ww (by show A.units+1+(n-1)<cLine;omega) d) (by omega) p q hr1 hr2 rv1 rv2 j g1 g2);simp only[List.size_toArray,l1,l2,Kf] at r;exact fX hab r
   |_=>exact nomatch q
  |_=>exact nomatch p
termination_by n=>n
def Et (neg:Bool):R2:=λx y H Q=>∃ts us F,Tr.deps ts<=99/\Gb ts ts=true/\Gb us us=true/\Rep F H (.tup ts) x/\Rep F H (.tup us) y/\Q (.bl (if neg then !Gb ts us else Gb ts us)) H
theorem O3 (hu9:X.A.units+150<cLine):IL X (compareOp .Eq) (Et false):=by
 intro pins s σ H x y v u Q I rx ry h;obtain⟨ts,us,F,d,p,pq,⟨a,vs,rfl,ha,hr1⟩,⟨b,ws,rfl,hb,hr2⟩,q⟩:=h;cases rx;cases ry;obtain⟨its,rv1,p1,_⟩:=I.tuple (AW.of (K:=X.K) ha);obtain⟨its2,rv2,p2,_⟩:=I.tuple (AW.of (K:=X.K) hb);have l1:=rv1.length.symm.trans (Ct.len ts vs hr1);have l2:=rv2.length.symm.trans (Ct.len us ws hr2);have r:=gu (A:=X.A) (s:=s) (e:=λj=>Qy (ts.getD j .non) (us.getD j .non)) p1 p2 (by omega) (λj g1 g2=>KQ I (n:=99) (λt u v w vv ww d=>Rb I 99 X.A.in1 t u v w vv ww (by show X.A.units+1+99<cLine;omega) d) d p pq hr1 hr2 rv1 rv2 j g1 g2);simp only[List.size_toArray,l1,l2,Kf] at r;exact r _ _ _ _ ⟨.bl _,H,I,rfl,q⟩
theorem Kp (hu9:X.A.units+150<cLine):IL X (compareOp .NotEq) (Et true):=by
 intro pins s σ H x y v u Q I rx ry h;obtain⟨ts,us,F,d,p,pq,⟨a,vs,rfl,ha,hr1⟩,⟨b,ws,rfl,hb,hr2⟩,q⟩:=h;cases rx;cases ry;obtain⟨its,rv1,p1,_⟩:=I.tuple (AW.of (K:=X.K) ha);obtain⟨its2,rv2,p2,_⟩:=I.tuple (AW.of (K:=X.K) hb);have l1:=rv1.length.symm.trans (Ct.len ts vs hr1);have l2:=rv2.length.symm.trans (Ct.len us ws hr2);have r:=SeqAt.RcNeAt.tuples (A:=X.A) (s:=s) (e:=λj=>Qy (ts.getD j .non) (us.getD j .non)) p1 p2 (by omega) (λj g1 g2=>KQ I (n:=99) (λt u v w vv ww d=>Rb I 99 X.A.in1 t u v w vv ww (by show X.A.units+1+99<cLine;omega) d) d p pq hr1 hr2 rv1 rv2 j g1 g2);simp only[List.size_toArray,l1,l2,Kf] at r;exact r _ _ _ _ ⟨.bl _,H,I,rfl,q⟩
end
end L2
namespace L2
open PySem PySem.Spec PyProof.Rows
variable {X:Cx}
theorem P8:∀{vs:List V} {us:List Value},us.length=vs.length->(∀(j:Nat) v u,vs[j]?=some v->us[j]?=some u->RelV v u)->A5 vs us
 |[],[],_,_=>.nil
 |[],_::_,h,_=>nomatch h
 |_::_,[],h,_=>nomatch h
 |v::vs,u::us,h,k=>.cons (k 0 v u rfl rfl) (P8 (by simpa using h) λj v' u' e1 e2=>k (j+1) v' u' (by simpa using e1) (by simpa using e2))
def XA:List V->Hp->VK->Prop:=λxs H Q=>∃(d:Addr) (kvs:List (Key×V)),xs=[.ref d]/\H d=some (.dK kvs)/\kvs.length<=100000/\∀l,H l=none->Q (.ref l) (upd H l (.lst (kvs.map λp=>kV p.1)))
theorem Ro (hc:X.calm=true):EV X (.type "list") XA:=by
 intro pins s σ H xs us Q I r h;obtain⟨d,kvs,rfl,h1,few,q⟩:=h;obtain⟨u,rfl,ru⟩:=vals1 r;cases ru;obtain⟨_,lo,vs,rv,o,es,ep,ho,h2,h3,h4⟩:Be X.prog X.w H s.heap d (.dK kvs):=I.hok d _ h1;have D:s.heap.DictAt (A6 X.prog X.w) d vs ep:=⟨o,es,ho,h2,h3,h4⟩
 have ln:vs.length=kvs.length:=rv.length.symm;refine PySem.W.kdl_call (PySem.W.kdl_dict (knd:=A6 X.prog X.w) (kvs:=vs) (ep:=ep) lo) (I.ok.hd hc) D (by rw[ln,bh];omega) λh' tk acc c' hk e' hacc=>?_
 refine⟨.ref s.heap.objs.size,_,I.laid hk (au _) (show Be X.prog X.w _ h' _ (.lst (kvs.map λp=>kV p.1)) from⟨?_,acc.toList,c',P8 ?_ λj v u e1 e2=>?_,by simpa using e'⟩),rfl,q _ I.fresh⟩
 ·rw[aa,bh];omega
 ·rw[aa,dG,hacc.1,ln]
 ·obtain⟨ky,x,a1,a2⟩:=hacc.2 j u (by rw[<-fb];exact e2);have e3:(kvs.map (·.1))[j]?=some ky:=by rw[<-O6 rv,aD,a1];rfl
  rw[aD] at e1 e3;cases z:kvs[j]? with
  |none=>rw[z] at e3;cases e3
  |some y=>
   rw[z] at e1 e3;injection e3 with e3
   injection e1 with e1
   have e3:y.1=ky:=e3;rw[<-e1];show RelV (kV y.1) u;rw[e3];exact LX a2
variable {X:Cx}
def Ul (X:Cx)(t:TE):TE:=λσ H Q=>t σ H λx H'=>∃d o kvs,(∀o u,X.H₀ d≠some (.frz o u))/\H' d=some (.frz o (.dK kvs))/\Q x (upd H' d (.dK kvs))
theorem Ki {e:Expr}{t:TE}(h:PE X e t):PE X e (Ul X t):=by
 intro pins s σ H Q I q;refine BN (h pins s σ H _ I q) λv s' z9=>?_
 obtain⟨x,H',I',r,d,o,kvs,nf,hd,q⟩:=z9;exact⟨x,_,I'.thaw hd nf,r,q⟩
theorem SY {d:Addr}{o:Obj}{H:Hp}{kvs:List (Key×V)}(h:H d=some (.frz o (.dK kvs))):JP (Sv d o kvs) H (kvs.map λp=>kV p.1):=by
 intro H' s i;refine⟨λhi=>⟨s.get h,by rw[aa] at hi;exact hi⟩,?_,λhi=>⟨s.get h,by rw[aa] at hi;exact hi⟩⟩
 rintro x H'' ⟨rfl,k,v,e,rfl⟩
 exact⟨rfl,λ_=>by rw[aD,e];rfl⟩
end L2
namespace L2
section
open PySem PySem.Calls PyProof.Rows
variable {prog:Program}{w:World}{A:Around}{E:Value->Shared->Prop}{s:Shared}
theorem Ut {R:Result->Shared->Prop} {I d:Addr} {fp:List Addr} {vs:List Value} {St:Nat->Heap->Prop} {D:Nat->Heap->Prop} {h0:Heap} (W:Walks prog w A.in1 I fp [I] vs.length (λi v=>vs[i]?=some v) St) (nd:d∉fp)
  (hI:h0.get? I=none) (keep:∀i h h',D i h->(∀o,h.get? d=some o->h'.get? d=some o)->D i h')
  (pr:∀i v,vs[i]?=some v->∃t x y,v=.ref t/\t≠d/\IsTup h0 t #[x,y]/\∀(s:Shared) (Q:Unit->Shared->Prop) (E:Value->Shared->Prop),D i s.heap->(∀h' tk,D (i+1) h'->Heap.SameBut d s.heap h'->Q () { s with heap:=h',toks:=tk })->wpAny (model prog w) A.in1 (dictSet d x y) Q E s) :
  ∀(k i:Nat) (s:Shared),vs.length-i=k->i<=vs.length->(∀b o,b≠d->h0.get? b=some o->s.heap.get? b=some o)->St i s.heap->D i s.heap->
   (∀h' tk,(∀b o,b∉[d,I]->s.heap.get? b=some o->h'.get? b=some o)->D vs.length h'->R (.ok (.ret .none)) { s with heap:=h',toks:=tk })->codeAny (model prog w) A (.builtin "dict.update.loop" ⟨[.ref d,.ref I,rawInt i,.none],[]⟩) R s:=by
 have nI:d∉[I]:=λz=>nd (W.sub _ z)
 intro k
 induction k with
 |zero=>
  intro i s hk hi old st T q;have e:i=vs.length:=by omega
  subst e;refine cN Kc ?_;rw[cL Ez _];refine ae (m:=pyNext (.ref I)) (W.done s _ _ st λh' tk k'=>?_);refine ae (m:=Builtin.Dict.addKeywords d []) (aB (aB ?_));exact q h' tk (λb o n e=>k' b o (λz=>n (ao _ z)) e) (keep _ _ _ T λo e=>k' d o nI e)
 |succ k ih=>
  intro i s hk hi old st T q;have lt:i<vs.length:=by omega
  refine cN Kc ?_;rw[cL Ez _];refine ae (m:=pyNext (.ref I)) (W.item i s _ _ lt st λv h' tk hv st' k'=>?_);obtain⟨t,x,y,rfl,ntd,⟨ot,ht1,ht2⟩,step⟩:=pr i v hv;have old':∀b o,b≠d->h0.get? b=some o->h'.get? b=some o:=λb o n e=>k' b o (λz=>by rw[ah.mp z,hI] at e;cases e) (old b o n e)
  refine ae (bN (ae (wpAny_tryCatch (pair_items (s:={ s with heap:=h',toks:=tk }) ⟨ot,old' t ot ntd ht1,ht2⟩ ?_))));refine bN (step _ _ _ (keep _ _ _ T λo e=>k' d o nI e) λh2 tk2 T2 sb=>?_);refine aB ⟨eW Ez _,ih (i+1) _ (by omega) lt (λb o n e=>?_) (W.frame _ _ _ st' λb hb o e=>?_) T2 λh3 tk3 k3 T3=>?_⟩
  ·rw[sb.2 b n];exact old' b o n e
  ·rw[sb.2 b (λz=>nd (z▸hb))];exact e
  ·refine q h3 tk3 (λb o n e=>k3 b o n ?_) T3;rw[sb.2 b (λz=>n (by simp[z]))];exact k' b o (λz=>n (ao _ z)) e
theorem UH {l d:Addr} {od:Obj} {vs:List Value} {D:Nat->Heap->Prop} {Q:Value->Shared->Prop} (hh:A.handled=none) (hl:∃n sl,s.heap.get? l=some { cls:=.type "list",dict:=none,data:=.seq vs.toArray n,slots:=sl })
  (hd:s.heap.get? d=some od) (hc:od.cls=.type "dict") (keep:∀i h h',D i h->(∀o,h.get? d=some o->h'.get? d=some o)->D i h') (d0:D 0 s.heap)
  (pr:∀i v,vs[i]?=some v->∃t x y,v=.ref t/\t≠d/\IsTup s.heap t #[x,y]/\∀(s1:Shared) (Q:Unit->Shared->Prop) (E:Value->Shared->Prop),D i s1.heap->(∀h' tk,D (i+1) h'->Heap.SameBut d s1.heap h'->Q () { s1 with heap:=h',toks:=tk })->wpAny (model prog w) A.in1 (dictSet d x y) Q E s1)
  (q:∀h' tk,(∀b o,b≠d->s.heap.get? b=some o->h'.get? b=some o)->D vs.length h'->Q .none { s with heap:=h',toks:=tk }):wpAny (model prog w) A (call (.builtin "dict.update") [.ref d,.ref l]) Q E s:=by
 obtain⟨n,sl,el⟩:=hl;have hT:s.TypeIs (.ref d) "dict":=⟨_,hd,hc⟩
 have ndl:d≠l:=λz=>by
  rw[z,el] at hd;cases hd;exact absurd (Value.type.inj hc) (by decide)
 refine cM (cX PySem.F.slot_dict_update.plain PySem.F.entry_dict_update (PySem.F.slot_dict_update.check _ _ _ _ _ _ _ _ hT (PySem.F.args_dict_update_2 _ _) ?_));unfold Builtin.«dict.update»;refine ae ?_;unfold Builtin.Dict.selfAndRest;refine ae (wpAny_notOrdered_dict hT ?_);show wpAny _ _ (pure (d,[Value.ref l])) _ _ _;refine aB ?_;show wpAny _ _ (Builtin.Dict.updateFrom "dict.update" d (.ref l) [] .none) _ _ _;unfold Builtin.Dict.updateFrom;refine ae (gq (T:="list") ⟨_,el,rfl⟩ ?_);rw[ak (by decide)];refine ae (JJ el (by simp[hh]) λh1 tk1 k1=>?_);rw[ak (show(none:Option Value).isNone=true from rfl)];refine ae (wpAny_rule ?_);have el1:=k1 _ _ el;have l1:h1.IsList l vs.toArray:=⟨_,el1,rfl,_,rfl⟩
 refine ae (eQ (s:={ s with heap:=h1,toks:=tk1 }) l1 ?_);have nI:l≠h1.objs.size:=a4 (aL el1);have ndI:d≠h1.objs.size:=a4 (aL (k1 _ _ hd));have W:=Walks.list (prog:=prog) (w:=w) (A:=A.in1) (by simp[hh]) h1.objs.size l nI vs.toArray;have W2:Walks prog w A.in1 h1.objs.size [h1.objs.size,l] [h1.objs.size] vs.length (λi v=>vs[i]?=some v) (λi h=>h.IsListIter h1.objs.size l i/\h.IsList l vs.toArray):=by
  simpa only [List.size_toArray,List.getElem?_toArray] using W
 have nIs:s.heap.get? h1.objs.size=none:=by
  cases e:s.heap.get? h1.objs.size with
  |none=>rfl
  |some o=>exact absurd (aL (k1 _ _ e)) (cI _)
 refine aB ⟨eW Ez _,Ut (h0:=s.heap) (D:=D) W2 ?_ nIs keep pr vs.length 0 _ (by omega) (a6 _) (λb o n e=>af _ (k1 b o e)) ⟨⟨_,aH _ rfl,rfl,rfl⟩,l1.push _⟩ (keep _ _ _ d0 λo e=>af _ (k1 _ _ e)) λh' tk k' T=>q h' tk (λb o n e=>k' b o (λz=>?_) (af _ (k1 b o e))) T⟩
 ·simp only[List.mem_cons,List.not_mem_nil,or_false,not_or];exact⟨ndI,ndl⟩
 ·simp only[List.mem_cons,List.not_mem_nil,or_false] at z;rcases z with rfl|rfl
  ·exact n rfl
  ·rw[nIs] at e;cases e
end
section
open PySem PySem.Calls PySem.Spec PyProof.Rows
variable {X:Cx}
theorem Jj:EV X (.type "dict") (λxs H Q=>∃d kvs,xs=[V.ref d]/\H d=some (.dK kvs)/\kvs.length<=1000/\∀p,H p=none->Q (.ref p) (upd H p (.dK kvs))):=by
 rintro pins s σ H xs us Q I r ⟨d,kvs,rfl,hd,hl,q⟩
 obtain⟨_,rfl,ru⟩:=vals1 r;cases ru;obtain⟨z,hs,vs,rv,dd⟩:=NI I.hok hd;have hb:=I.big;refine kt_call_dict hs dd (by rw[<-rv.length];exact small (by omega)) λh' dn sb=>?_
 refine⟨.ref s.heap.objs.size,_,I.laid (t':=s.toks) (o:=.dK kvs) (λb o e=>?_) (au _) (Jl (small (by omega)) ?_ rv dn),rfl,q _ I.fresh⟩
 ·rw[sb.2 b (a4 (aL e))];exact af _ e
 ·rw[cm];exact cS hb
def Ye (K:PySem.W.Frag):V->List V->Hp->VK->Prop:=λx vs H Q=>∃(d a:Addr) (ps:List Addr) (kvs more:List (Key×V)),x=.ref d/\vs=[.ref a]/\H d=some (.dK kvs)/\AV K H a (ps.map V.ref)/\ps.length=more.length/\kvs.length+more.length<=1000/\
 (∀(i:Nat) t k v,ps[i]?=some t->more[i]?=some (k,v)->H t=some (.tup [kV k,v]))/\Q .non (upd H d (.dK (ER kvs more)))
theorem VF (hc:X.calm=true):Vy X "dict.update" (Ye X.K):=by
 intro pins s σ H x vs v us Q I rx rv h;obtain⟨d,a,ps,kvs,more,rfl,rfl,hd,h1,ln,hz,hp,q⟩:=h;cases rx;obtain⟨y',rfl,ry⟩:=rv.one;cases ry;obtain⟨_,hs,va,ra,dda⟩:=NI I.hok hd;obtain⟨its,r1,⟨o1,n1,e1,c1,d1,s1⟩,_⟩:=I.list h1;obtain⟨xs,rx,tx⟩:=KG I ps more ln hp;have lx:xs.length=more.length:=(cw rx).symm;have li:its.length=ps.length:=by have:=r1.length;rw[aa] at this;exact this.symm
 have lva:=ra.length;obtain⟨c,dd,da,sl⟩:=o1;simp only at c1 d1 s1;subst c1 d1 s1;obtain⟨od,esd,epd,hod,hcd,hdd⟩:=id dda;have sh:∀i,(merged va ((xs.take i).map λq:Key×Value×Value=>(q.1,q.2.2))).length<=va.length+xs.length:=λi=>by
  refine aX (merged_length_le _ _) ?_;rw[aa];have:=ip i xs;have:=(dP i xs).length_le;omega
 refine UH (A:=X.A) (I.ok.hd hc) ⟨n1,_,e1⟩ hod hcd.1 (D:=λi h=>h.DictOf (A6 X.prog X.w) d (merged va ((xs.take i).map λq:Key×Value×Value=>(q.1,q.2.2)))) (λi h h' ⟨o,es,ep,z1,z2⟩ k=>⟨o,es,ep,k o z1,z2⟩) (by simpa [merged] using dda) (λi v e=>?_) λh' tk k' z=>?_
 ·obtain⟨t,et,rfl⟩:=O1 r1 i v e;obtain⟨⟨k,wk,wv⟩,eq,ht⟩:=tx i t et;refine⟨t,wk,wv,rfl,λz=>?_,ht,λs2 Q2 E2 hm hQ=>?_⟩
  ·obtain⟨ot,g1,g2,_⟩:=ht;rw[z,hod] at g1;cases g1;rw[hcd.1] at g2;exact absurd (Value.type.inj g2) (by decide)
  have rk:RelV (kV k) wk:=by
   obtain⟨p,_,e1,e2,_⟩:=JE rx (aN eq);rw[e1] at e2;exact e2
  refine wpAny_dictSet_pairs (hsz:=?_) (k:=k) (HS rk) hm λh' hm' sb=>hQ _ _ ?_ sb
  ·have e3:merged va ((xs.take (i+1)).map λq:Key×Value×Value=>(q.1,q.2.2))=stored (merged va ((xs.take i).map λq:Key×Value×Value=>(q.1,q.2.2))) k wv:=by
    rw[cY,cY];exact merged_take_succ va (xs.map λq:Key×Value×Value=>(q.1,q.2.2)) i (k,wv) (by rw[aD,eq];rfl)
   show Heap.DictOf _ _ _ _;rw[e3];exact hm'
  ·have:=sh i;rw[bh];omega
 ·rw[li,ln,<-lx,cu] at z;refine⟨.non,upd H d (.dK (ER kvs more)),?_,rfl,q⟩;have z':h'.DictOf (A6 X.prog X.w) d (merged va (xs.map λq:Key×Value×Value=>(q.1,q.2.2))):=z;obtain⟨oz,ez,pz,hz1,_⟩:=id z';exact(I.write (x:=d) (e:=d) (o:=.dK (ER kvs more)) (h':=h') (t':=tk) (by rw[hd];trivial) (.inl rfl) (λb o nb q=>k' b o nb q) ⟨_,hz1⟩ (Jl (small (by have:=FX more kvs;omega)) hs (KV.merge (WU rx) ra) z'))
def YL:V->List V->Hp->VK->Prop:=λx vs H Q=>∃z y,x=.str z/\vs=[.str y]/\Q (.int (PySem.Txt.count z y)) H
theorem Oa:Vy X "str.count" YL:=by
 intro pins s σ H x vs v us Q I rx rv h;obtain⟨z,y,rfl,rfl,q⟩:=h;obtain⟨tk,rfl⟩:=rx;obtain⟨y',rfl,ry⟩:=rv.one;obtain⟨tk2,rfl⟩:=ry;exact SC.count ⟨.int _,H,I.tok (s.toks+1),⟨_,rfl⟩,q⟩
def X0:Value->V
 | .bool b=>.bl b
 | .int i _=>.int i
 | .str z _=>.str z
 |_=>.non
theorem QY {x:V}{v:Value}(r:RelV x v)(f:Er x=true):X0 v=x:=by
 cases x with
 |non=>cases r;rfl
 |bl b=>cases r;rfl
 |int i=>obtain⟨t,rfl⟩:=r;rfl
 |str z=>obtain⟨t,rfl⟩:=r;rfl
 |_=>exact absurd (show false=true from f) ay
theorem OW:∀{xs:List V} {its:List Value},A5 xs its->xs.all Er=true->its.map X0=xs
 |_,_,.nil,_=>rfl
 |_,_,.cons r h,f=>by
  rw[dA,aQ] at f;rw[aF,QY r f.1,OW h f.2]
theorem MD:∀{xs:List V} {its:List Value},A5 xs its->∀{u:Value},u∈its->∃x∈xs,RelV x u
 |_,_,.nil,_,h=>nomatch h
 |_,_,.cons r h,u,hu=>by
  rcases aM.mp hu with rfl|hu
  ·exact⟨_,aw,r⟩
  ·obtain⟨x,hx,rx⟩:=MD h hu;exact⟨x,ao _ hx,rx⟩
def Yx (K:PySem.W.Frag):V->List V->Hp->VK->Prop:=λx vs H Q=>∃(l:Addr) (xs:List V) (y:V),x=.ref l/\vs=[y]/\AV K H l xs/\xs.all Er=true/\Er y=true/\Q (.int (xs.countP λx=>Ko x y:Nat)) H
theorem Oh {K:PySem.W.Frag}(hK:X.K=K):Vy X "list.count" (Yx K):=by
 subst hK;intro pins s σ H x vs v us Q I rx rv h;obtain⟨l,xs,y,rfl,rfl,hl,fx,fy,q⟩:=h;cases rx;obtain⟨u,rfl,ru⟩:=rv.one;obtain⟨its,r,⟨o1,n1,e1,c1,d1,s1⟩,_⟩:=I.list hl;obtain⟨c,dd,da,sl⟩:=o1;simp only at c1 d1 s1;subst c1 d1 s1;refine dZ F.slot_list_count ⟨_,e1,rfl⟩ F.entry_list_count (F.args_list_count_2 _ _) (SeqAt.list_countAt l its.toArray n1 _ sl u λz=>Ko (X0 z) y) ⟨e1,λz hz=>?_,?_⟩
 ·obtain⟨a,ha,ra⟩:=MD r (by simpa using hz);have fa:=a5.mp fx a ha;rw[QY ra fa];exact Jm ra ru fa fy
 ·refine⟨.int _,H,I.tok _,⟨_,rfl⟩,?_⟩;have e:its.countP (λz=>Ko (X0 z) y)=xs.countP λx=>Ko x y:=by
   conv=>rhs;rw[<-OW r fx,List.countP_map]
   rfl
  rw[e];exact q
def Yt (K:PySem.W.Frag):V->List V->Hp->VK->Prop:=λx vs H Q=>∃(l:Addr) (xs:List V) (y:V) (j:Nat),x=.ref l/\vs=[y]/\AV K H l xs/\xs.all Er=true/\Er y=true/\xs.length<=1000/\(∃z,xs[j]?=some z/\Ko z y=true)/\(∀m z,m<j->xs[m]?=some z->Ko z y=false)/\Q (.int j) H
theorem SI {K:PySem.W.Frag}(hK:X.K=K):Vy X "list.index" (Yt K):=by
 subst hK;intro pins s σ H x vs v us Q I rx rv h;obtain⟨l,xs,y,j,rfl,rfl,hl,fx,fy,few,⟨z,hz,ez⟩,no,q⟩:=h;cases rx;obtain⟨u,rfl,ru⟩:=rv.one;obtain⟨its,r,⟨o1,n1,e1,c1,d1,s1⟩,_⟩:=I.list hl;obtain⟨c,dd,da,sl⟩:=o1;simp only at c1 d1 s1;subst c1 d1 s1;have mp:=OW r fx;have ln:=r.length;have jl:=(aA.mp hz).1;have at_:∀m (hm:m<its.toArray.size),xs[m]?=some (X0 its.toArray[m]):=λm hm=>by
  rw[<-mp,aD,aC (by simpa using hm)];simp
 refine dZ F.slot_list_index ⟨_,e1,rfl⟩ F.entry_list_index (F.args_list_index_2 _ _) (SeqAt.list_indexAt l its.toArray n1 _ sl u (λz=>Ko (X0 z) y) j (by rw[aP];omega) (by omega) ?_ ?_) ⟨e1,λz hz=>?_,?_⟩
 ·have:=at_ j (by rw[aP];omega);rw[hz] at this;rw[<-aI this];exact ez
 ·intro m hm hmj;exact no m _ hmj (at_ m hm)
 ·obtain⟨a,ha,ra⟩:=MD r (by simpa using hz);have fa:=a5.mp fx a ha;rw[QY ra fa];exact Jm ra ru fa fy
 ·exact⟨.int j,H,I.tok _,⟨_,rfl⟩,q⟩
end
section
open PySem PySem.Spec PyProof.Rows
def Y4 (d:Addr)(o:Obj)(kvs:List (Key×V)):It:=
 ⟨λi H=>H d=some (.frz o (.dK kvs))/\i<kvs.length,λi H x H'=>H'=H/\∃k v,kvs[i]?=some (k,v)/\x=v,λi H=>H d=some (.frz o (.dK kvs))/\kvs.length<=i⟩
theorem YS {kvs:List (Key×V)}{vs:List (Key×Value)}(r:KV kvs vs):∀{i:Nat} {p:Key×V} {q:Key×Value},kvs[i]?=some p->vs[i]?=some q->RelV p.2 q.2:=by
 induction r with
 |nil=>intro i p q h _;simp at h
 |cons h _ ih=>
  intro i p q h1 h2;cases i with
  |zero=>
   simp only[List.getElem?_cons_zero,Option.some.injEq] at h1 h2;subst h1 h2;exact h.2
  |succ i=>exact ih (by simpa using h1) (by simpa using h2)
theorem SW {P:Program}{w:World}{K:PySem.W.Frag}{tg:Expr}(d it:Addr)(o:Obj)(kvs:List (Key×V))(es:Array DictEntry)(ep:Nat)(he:o.data=.dict es ep):Turn P w K tg (Y4 d o kvs) [it] it (λi h=>h.IsValIter it d i kvs.length ep) where
 mem:=by simp
 obj:=λi h st b hb=>by
  have e:b=it:=by simpa using hb
  subst e;obtain⟨o,e,c,d⟩:=st;exact⟨o,e,λv z=>by rw[d] at z;cases z⟩
 keep:=λi h h' ⟨o,e,r⟩ k=>⟨o,k it (by simp) o e,r⟩
 item:=by
  intro X hP hw hK hc i pins s σ H E I hf st hg;subst hP hw hK;obtain⟨hq,hi⟩:=hg;obtain⟨_,vs,r,hat⟩:=KE I hq he;have hl:kvs.length=vs.length:=cw r;obtain⟨f0,f1,f2,f3,f4,f5⟩:=hf it (by simp);have ek:kvs[i]?=some kvs[i]:=aC hi;have ev:vs[i]?=some vs[i]:=aC (by omega);rw[hl] at st;refine wpAny_pyNext_values_item (k:=(vs[i]'(by omega)).1) (v:=(vs[i]'(by omega)).2) st hat ev λh' st' sb=>?_
  have I1:Inv X pins σ H { s with heap:=h' }:=I.turned (t':=s.toks) (λb o hb e=>(sb.2 b hb).trans e) f0 f1 f3 f4 f5;rw[<-hl] at st';obtain⟨o2,e,c,dd⟩:=id st';exact⟨_,rfl,Mh (s:={ s with heap:=h' }) e c dd (by decide) ⟨kvs[i].2,H,I1,YS r ek ev,⟨rfl,kvs[i].1,kvs[i].2,ek,rfl⟩,st',λb hb=>(hf b hb).1⟩⟩
 done:=by
  intro X hP hw hK hc i pins s σ H E I hf st hg;subst hP hw hK;obtain⟨hq,hi⟩:=hg;obtain⟨_,vs,r,hat⟩:=KE I hq he;have hl:kvs.length=vs.length:=cw r;obtain⟨f0,f1,f2,f3,f4,f5⟩:=hf it (by simp);rw[hl] at st;exact wpAny_pyNext_values_end (I.ok.hd hc) st hat (cF (by omega)) λh' eb=>⟨rfl,I.turned (t':=s.toks) (λb o hb e=>eb b o hb e) f0 f1 f3 f4 f5⟩
 self:=λ_ _ _ _ _ st h=>wpAny_pyIter_valiter st h
variable {X:Cx}{tg:Expr}
def Ys (tl:TE):TI:=λσ H R=>tl σ H λx H1=>∃d kvs,x=.ref d/\H1 d=some (.dK kvs)/\∀o,R (Y4 d o kvs) (upd H1 d (.frz o (.dK kvs)))
theorem Wc {l:Expr}{tl:TE}{apos cpos:Pos}(hl:PE X l tl)(hbase:attributeBase l "values" X.env (eval l X.env)=eval l X.env:=by rfl)(hline:(apos.endLine == cpos.line)=true:=by rfl):PI X tg (.Call (.Attribute l "values" apos) [] [] cpos) (Ys tl):=by
 intro pins s σ H R I h;refine wpAny_Call_method0_late hbase hline (BN (hl pins s σ H _ I h) λv s1 ⟨x,H1,I1,r1,q1⟩=>?_);obtain⟨d,kvs,e,hq,q⟩:=q1;subst e;obtain⟨t1,t2⟩:=Ua (T:="dict") I1 r1 (.inr (.inr (.inl ⟨rfl,.inl ⟨kvs,hq⟩⟩)));cases r1;obtain⟨_,_,vs,r,o,es,ep,ho,_,he,_⟩:=I1.hok d _ hq;have I2:=I1.freeze hq ho;obtain⟨hs,vs,r,hat⟩:=KE I2 Ac he;have hl:kvs.length=vs.length:=cw r;refine⟨"dict","dict.values",F.plainAttrs_dict,F.slot_dict_values,F.type_dict_values,t1,t2,dD rfl (PySem.evalArgs_none ?_)⟩;refine fm F.slot_dict_values t1 F.entry_dict_values (F.args_dict_values_1 _) (meets_dict_values (A6 X.prog X.w) d hs) ⟨⟨vs,hat.dictOf⟩,?_⟩;have kp:∀b ob,s1.heap.get? b=some ob->(s1.heap.push { cls:=.type "dict_values",data:=.fields #[.ref d] }).get? b=some ob:=λb ob e=>af _ e
 have I3:Inv X pins σ _ { s1 with heap:=s1.heap.push { cls:=.type "dict_values",data:=.fields #[.ref d] } }:=I2.kept (t':=s1.toks) kp;refine wpAny_pyIter_values (s:={ s1 with heap:=s1.heap.push { cls:=.type "dict_values",data:=.fields #[.ref d] } }) (v:=s1.heap.objs.size) (knd:=A6 X.prog X.w) (kvs:=vs) (ep:=ep) ⟨_,aH _ rfl,rfl,rfl⟩ (hat.push _) ?_;refine⟨_,[_],_,_,_,rfl,I3.kept (t':=s1.toks) λb o e=>af _ e,SW d _ o kvs es ep he,⟨_,aH _ rfl,rfl,by rw[hl];rfl⟩,λb hb=>?_,q o⟩;have e:=ah.mp hb;subst e;exact I3.fpOk (au _) (I3.hok.fresh (au _))
theorem To {d:Addr}{o:Obj}{H:Hp}{kvs:List (Key×V)}(h:H d=some (.frz o (.dK kvs))):JP (Y4 d o kvs) H (kvs.map λp=>p.2):=by
 intro H' s i;refine⟨λhi=>⟨s.get h,by rw[aa] at hi;exact hi⟩,?_,λhi=>⟨s.get h,by rw[aa] at hi;exact hi⟩⟩
 rintro x H'' ⟨rfl,k,v,e,rfl⟩
 exact⟨rfl,λ_=>by rw[aD,e];rfl⟩
end
end L2
namespace L2
open PySem
theorem Wh {X:Cx}{k:Nat}{C:Addr}{x:Str}{ps:List Str}{sp:Sp}{p pos:Pos}(D:Xb X.prog X.w X.K X.mg X.base k C x ps sp)(hr:Room (k+1) X.A)(hg:Gl X x)(hdb:(x == ("__debug__":Str))=false:=by decide):PE X (.Call (.Name x p) [] [] pos) (WL C sp [] E0 Q4):=by
 obtain⟨f,fd,F,M,hm,hb⟩:=D;exact Vn M F hr hg hm hb .nil TR hdb
end L2
namespace L2
end L2
namespace L2
end L2
namespace L2
open PySem PySem.Spec PyProof.Rows
section
variable {P:Program}{w:World}{K:PySem.W.Frag}{h:Heap}{mg:Str->Option Value}{base:Heap}{x q m p:Str}{st:Stmt}{f C:Addr}{d:FuncData}{ps:List Str}{k:Nat}{sp:Sp}
def Each:List Str->(List Value->Prop)->Prop
 |[],R=>R []
 |_::ps,R=>∀v,Each ps λus=>R (v::us)
theorem Each.all:∀{ps:List Str} {R:List Value->Prop},Each ps R->∀us:List Value,us.length=ps.length->R us
 |[],_,z,[],_=>z
 |[],_,_,_::_,e=>nomatch e
 |_::_,_,_,[],e=>nomatch e
 |_::_,_,z,v::us,e=>Each.all (z v) us (Nat.succ.inj e)
def ZR (e:Value×Value×Value×Option Addr×Value×Value)(x q:Str)(st:Stmt):FuncData:=PySem.W.fnOf x q (JG st) (Fz st) (Ai st) .none e.1 e.2.1 e.2.2.1 e.2.2.2.1 e.2.2.2.2.1 e.2.2.2.2.2
def MF (x q:Str)(st:Stmt)(ps:List Str):Prop:=∀e,Each ps λus=>bindArgs (ZR e x q st) ⟨us,[]⟩=pure (ps.zip us)
theorem Fun.bindE (F:Fun K x q st f d)(z:MF x q st ps):Binds K d ps []:=F.binds λkV doc pm an cdv ct=>(z ⟨kV,doc,pm,an,cdv,ct⟩).all
theorem Fun.bind1 {y:Str}(F:Fun K x q st f d)(z:MF x q st [y]):∀(s:Shared) (v:Value),BindsTo s d ⟨[v],[]⟩ [(y,v)]:=by
 obtain⟨oc,od,kV,doc,pm,an,cdv,ct,osl,rfl,lk,hcd⟩:=F.ex;exact λs v=>.of_eq (z ⟨kV,doc,pm,an,cdv,ct⟩ v)
abbrev R9 (K:PySem.W.Frag)(x:Str)(C:Addr):Prop:=PySem.W.nsIn K mainGlobals x=some (some (.ref C))
abbrev Tn (K:PySem.W.Frag)(x:Str):Prop:=PySem.W.nsIn K mainGlobals x=some none
def RV (K:PySem.W.Frag)(x:Str)(n:Int):Prop:=∃t,PySem.W.nsIn K mainGlobals x=some (some (.int n t))
def Y0 (K:PySem.W.Frag)(x:Str)(y:String):Prop:=∃t,PySem.W.nsIn K mainGlobals x=some (some (.str (PySem.Str.ofString y) t))
abbrev Sr (K:PySem.W.Frag)(C D:Addr)(b:Bool):Prop:=PySem.W.exmOne K (.ref C) (.ref D)=some b
abbrev D0 (K:PySem.W.Frag)(C D:Addr)(b:Bool):Prop:=PySem.W.kitOne K (.ref C) (.ref D)=some b
abbrev Y8 (K:PySem.W.Frag)(C:Addr):Prop:=PySem.W.excIn K C [.type "ValueError",.type "Exception",.type "BaseException",.type "object"] "ValueError.__new__"=true
structure Sees (P:Program) (w:World) (K:PySem.W.Frag) (mg:Str->Option Value) (base:Heap):Prop where
 v:∀{x:Str} {v:Value},PySem.W.nsIn K mainGlobals x=some (some v)->mg x=some v
 o:∀{x:Str},Tn K x->mg x=none
theorem Sees.of (X:K.In h)(G:h.Ns mainGlobals mg):Sees P w K mg base:=⟨PySem.W.mg_of X G,PySem.W.mg_none_of X G⟩
theorem Sees.i {n:Int}(N:Sees P w K mg base)(z:RV K x n):∃t,mg x=some (.int n t):=by
 obtain⟨t,e⟩:=z;exact⟨t,N.v e⟩
theorem Sees.s {y:String}(N:Sees P w K mg base)(z:Y0 K x y):∃t,mg x=some (.str (PySem.Str.ofString y) t):=by
 obtain⟨t,e⟩:=z;exact⟨t,N.v e⟩
structure NsF (K:PySem.W.Frag) (x:Str) (st:Stmt) (f:Addr) (d:FuncData):Prop where
 a:R9 K x f
 F:Fun K x x st f d
structure ClF (K:PySem.W.Frag) (C:Addr) (m q:Str) (st:Stmt) (f:Addr) (d:FuncData):Prop where
 a:PySem.W.findIn K (.ref C) m=some (some (.ref f))
 i:PySem.W.isFn K (.ref f)=true
 F:Fun K m q st f d
structure NsC (K:PySem.W.Frag) (x:Str) (C:Addr):Prop where
 a:R9 K x C
 c:Cls K C
 m:PySem.W.makesIn K C=true
 k:PySem.W.keepIn K (.ref C)=true
theorem NsF.dd (D:NsF K x st f d)(N:Sees P w K mg base)(o:FnOk P w K mg base Ef k f d ps sp)(z:MF x x st ps):Def P w K mg base k x ps sp:=⟨f,d,o,N.v D.a,D.F.kp,D.F.bindE z⟩
theorem NsF.de (D:NsF K x st f d)(N:Sees P w K mg base)(o:FnOk P w K mg base (E7 P w) k f d ps sp)(z:MF x x st ps):CY P w K mg base k x ps sp:=⟨f,d,o,N.v D.a,D.F.kp,D.F.bindE z⟩
theorem ClF.de (D:ClF K C m q st f d)(N:Sees P w K mg base)(o:FnOk P w K mg base (E7 P w) k f d ps sp)(z:MF m q st ps):BI P w K mg base k C m ps sp:=⟨f,d,o,⟨D.a,D.i,D.F.kp⟩,D.F.bindE z⟩
theorem ClF.c (D:ClF K C "__init__" q st f d)(N:Sees P w K mg base)(c:NsC K x C)(o:FnOk P w K mg base Ef k f d ps sp)(z:MF "__init__" q st ps):Xb P w K mg base k C x ps sp:=⟨f,d,o,⟨c.m,D.a,D.i,c.k⟩,N.v c.a,D.F.bindE z⟩
structure NsX (K:PySem.W.Frag) (C:Addr) (y:Str):Prop where
 c:ExiCls K C
 e:Qk K C=true
 k:PySem.W.keepIn K (.ref C)=true
 n:PySem.W.findIn K (.ref C) y=some none
theorem ClF.xi {y:Str}(D:ClF K C "__init__" q st f d)(N:Sees P w K mg base)(a:R9 K x C)(c:NsX K C y)(o:FnOk P w K mg base Ef k f d ps (MA C y))(z:MF "__init__" q st ps):Jn P w K mg base k x C y ps:=⟨f,d,⟨c.e,D.a,D.i,c.k⟩,o,N.v a,D.F.bindE z⟩
structure LmC (K:PySem.W.Frag) (d:FuncData) (T:Addr):Prop where
 c:∃c,d.code=.ref c/\PySem.W.codeHdIn K c T=true
 n:K.lookup T=none
theorem LmC.t {T:Addr}(z:LmC K d T):K.lookup T=none/\∃c,PySem.W.codeHdIn K c T=true:=by
 obtain⟨⟨c,_,e⟩,n⟩:=z;exact⟨n,c,e⟩
theorem all1 {S:Addr->Prop}{a:Addr}(z:S a):∀T∈[a],S T:=λT m=>by
 rcases ah.mp m with rfl
 exact z
theorem all2 {S:Addr->Prop}{a b:Addr}(z:S a)(y:S b):∀T∈[a,b],S T:=λT m=>by
 rcases aM.mp m with rfl|m
 ·exact z
 ·exact all1 y T m
end
end L2
set_option maxHeartbeats 4000000
namespace K70
local macro_rules | `(!$x) => do
  let (f, a) ← match x with | `($f:ident $a*) => pure (f, a) | `($f:ident) => pure (f, #[]) | _ => Lean.Macro.throwUnsupported
  let some (n, m, t) := ([([`Ab, `Ao, `CK, `B6, `GS], 1, 0, ""), ([`Fw, `VE], 2, 0, ""), ([`Bq, `Af, `Ig, `JL, `Ki, `BO, `Px], 3, 0, ""), ([`Cg, `CM, `G5, `Aq, `Q3, `Ag, `Vw, `Bk, `Aj, `Cb, `LG, `IF], 4, 0, ""), ([`AD, `Qi], 4, 2, "r"), ([`Qd, `Cd, `GA], 4, 3, "d"), ([`Gf], 4, 5, "dd"), ([`Ad, `Mj, `FZ, `RK, `Az, `UK, `K4], 5, 0, ""), ([`Ju], 5, 2, "f"), ([`Aa, `B7], 5, 3, "r"), ([`Wa], 5, 5, "d"), ([`DT, `RC, `B4, `Uj], 6, 0, ""), ([`Wc], 6, 3, "rr"), ([`Fb], 6, 4, "r"), ([`Jd], 6, 4, "rr"), ([`Ve], 6, 5, "rrr"), ([`D1, `Vj, `An, `RY, `Kr, `Ud, `UU], 7, 0, ""), ([`Gi], 7, 6, "fd"), ([`AJ, `CQ, `Ay, `Pc, `TU], 8, 0, ""), ([`Ou, `O5], 8, 3, "f"), ([`Ej, `Ax], 8, 4, "f"), ([`LY], 9, 0, ""), ([`Ek], 9, 5, "f"), ([`AA, `Cy], 9, 9, "ddrr"), ([`BA], 10, 0, ""), ([`AH, `VH], 10, 7, "drr"), ([`Bl], 11, 8, "drr"), ([`MU], 12, 0, ""), ([`B0], 12, 8, "dr"), ([`Dm], 12, 11, "rrrrr"), ([`UN], 14, 8, "rrr"), ([`Ba], 15, 9, "rrr")] : List (List Lean.Name × Nat × Nat × String)).findSome? (λ(l, n) => if l.contains f.getId then some n else none) | Lean.Macro.throwUnsupported
  let u ← `(_)
  let us := Array.replicate n u
  let mut p := #[]
  for c in t.toList.drop (t.length + a.size - m) do
    let v ← if c == 'r' then `(by rfl) else if c == 'd' then `(by decide) else if c == 'f' then `(rfl) else `(by trivial)
    p := p.push v
  `(@$f $us* $a* $p*)
set_option hygiene false
local macro_rules | `(tactic| exists $t) => `(tactic| refine F.ok $t (fun vs H Q E h => ?_) (fun cdv A outer s H vs Q E hr h => ?_))
set_option hygiene true
local macro_rules | `(∅) => `(by trivial)
local macro_rules | `(tactic| trivial) => `(tactic| first | exact .inl rfl | exact .inr rfl | assumption | exact ⟨rfl, rfl, rfl, by decide +kernel, rfl, by decide +kernel, by decide +kernel⟩ | exact L2.Room.mono (by assumption) (by decide))
open PySem L2
section
variable {P:Program}{w:World}{K:W.Frag}{mg:Str->Option Value}{base:Heap}{f C:Addr}{XC:Nat->Addr}{fd:FuncData}{PT PU:Addr}
theorem MT : 0 <= sizeLine := small (by decide)
theorem CH : 1 <= sizeLine := small (by decide)
theorem Bs : 2 <= sizeLine := small (by decide)
theorem MX : 3 <= sizeLine := small (by decide)
theorem Nv : 4 <= sizeLine := small (by decide)
theorem T9 : 5 <= sizeLine := small (by decide)
theorem YN : 6 <= sizeLine := small (by decide)
theorem Zy : 7 <= sizeLine := small (by decide)
def top (i:Nat):Stmt:=PySem.Challenge.pw_stemshelf_k70_plain_trees.main.body.getD i (.Pass ⟨0,0,0,0⟩)
abbrev K2:Stmt:=top 3
theorem QL:FnScope ["thing","least","most"] ["thing","least","most"] (Ai K2):=by trivial
abbrev F1:Stmt:=inClass (top 7) 0
theorem Mg:FnScope ["self","name"] ["self","name"] (Ai F1):=by trivial
abbrev Gm:Stmt:=inClass (top 8) 0
theorem Nw:FnScope ["self","name"] ["self","name"] (Ai Gm):=by trivial
abbrev FR:Stmt:=inClass (top 12) 0
theorem LO:FnScope ["self","path"] ["self","path"] (Ai FR):=by trivial
abbrev KO:Stmt:=top 20
theorem Rl:FnScope ["thing"] ["thing"] (Ai KO):=by trivial
abbrev GW:Stmt:=top 26
theorem IX:FnScope ["some","name","one"] ["some","name"] (Ai GW):=by trivial
abbrev EL:Stmt:=top 27
theorem Gd:FnScope ["head","name","keeper"] ["head","name"] (Ai EL):=by trivial
abbrev JA:Stmt:=top 28
theorem K6:FnScope ["head","name","named"] ["head","name"] (Ai JA):=by trivial
abbrev FT:Stmt:=top 29
theorem Im:FnScope ["head","name","stem"] ["head","name"] (Ai FT):=by trivial
abbrev Ea:Stmt:=top 30
theorem Ka:FnScope ["head","name"] ["head","name"] (Ai Ea):=by trivial
abbrev Gu:Stmt:=top 31
theorem Nf:FnScope ["head"] ["head"] (Ai Gu):=by trivial
abbrev D4:Stmt:=top 32
theorem J4:FnScope ["head","name","keeper"] ["head","name","keeper"] (Ai D4):=by trivial
abbrev HI:Stmt:=top 33
theorem Kl:FnScope ["some","one","others"] ["some","one"] (Ai HI):=by trivial
abbrev F2:Stmt:=top 34
theorem Hv:FnScope ["head","name","bound","keepers"] ["head","name","bound"] (Ai F2):=by trivial
abbrev GJ:Stmt:=top 35
theorem M0:FnScope ["head","named"] ["head","named"] (Ai GJ):=by trivial
abbrev HQ:Stmt:=top 36
theorem OX:FnScope ["head"] ["head"] (Ai HQ):=by trivial
abbrev Js:Stmt:=top 39
theorem K7:FnScope ["path","steps"] ["path"] (Ai Js):=by trivial
abbrev Gv:Stmt:=top 40
theorem MZ:FnScope ["path","other"] ["path","other"] (Ai Gv):=by trivial
abbrev Kt:Stmt:=top 41
theorem QH:FnScope ["folder","name"] ["folder","name"] (Ai Kt):=by trivial
abbrev Ic:Stmt:=top 42
theorem Pd:FnScope ["path"] ["path"] (Ai Ic):=by trivial
abbrev FU:Stmt:=top 46
theorem LM:FnScope ["head","name","bound"] ["head","name","bound"] (Ai FU):=by trivial
abbrev FI:Stmt:=top 47
theorem Iq:FnScope ["head","stem","name","named"] ["head","stem","name"] (Ai FI):=by trivial
abbrev DM:Stmt:=inClass (top 49) 0
theorem Jf:FnScope ["self"] ["self"] (Ai DM):=by trivial
abbrev Di:Stmt:=inClass (top 49) 1
theorem Ih:FnScope ["self","name","bound"] ["self","name","bound"] (Ai Di):=by trivial
abbrev DP:Stmt:=inClass (top 49) 2
theorem Jg:FnScope ["self","name","keeper"] ["self","name","keeper"] (Ai DP):=by trivial
abbrev CN:Stmt:=inClass (top 49) 3
theorem G8:FnScope ["self","name","keeper","tree"] ["self","name","keeper","tree"] (Ai CN):=by trivial
abbrev C8:Stmt:=inClass (top 49) 4
theorem EE:FnScope ["self","stem","path","tree"] ["self","stem","path"] (Ai C8):=by trivial
abbrev Ds:Stmt:=inClass (top 49) 5
theorem EU:FnScope ["self","stem","path","content","tree"] ["self","stem","path","content"] (Ai Ds):=by trivial
abbrev C5:Stmt:=inClass (top 49) 6
theorem EI:FnScope ["self","stem","path","at","many","text","content"] ["self","stem","path","at","many","text"] (Ai C5):=by trivial
abbrev Dg:Stmt:=inClass (top 49) 7
theorem Ew:FnScope ["self","stem","path","tree"] ["self","stem","path"] (Ai Dg):=by trivial
abbrev DN:Stmt:=inClass (top 49) 8
theorem Fn:FnScope ["self","stem","path","to","tree"] ["self","stem","path","to"] (Ai DN):=by trivial
abbrev DO:Stmt:=inClass (top 49) 9
theorem Dr:FnScope ["self","stem","to","name","path","tree","source"] ["self","stem","to","name","path"] (Ai DO):=by trivial
abbrev DI:Stmt:=inClass (top 49) 10
theorem JD:FnScope ["self","stem","name"] ["self","stem","name"] (Ai DI):=by trivial
abbrev DR:Stmt:=inClass (top 49) 15
theorem Jr:FnScope ["self","name","path"] ["self","name","path"] (Ai DR):=by trivial
abbrev Dv:Stmt:=inClass (top 49) 16
theorem EW:FnScope ["self","name","tree"] ["self","name"] (Ai Dv):=by trivial
abbrev CS:Stmt:=inClass (top 49) 17
theorem Hm:FnScope ["self","name"] ["self","name"] (Ai CS):=by trivial
abbrev B5:Stmt:=inClass (top 49) 18
theorem Fp:FnScope ["self","name"] ["self","name"] (Ai B5):=by trivial
abbrev C7:Stmt:=inClass (top 49) 19
theorem Iu:FnScope ["self","stem","tree"] ["self","stem","tree"] (Ai C7):=by trivial
abbrev CB:Stmt:=inClass (top 49) 20
theorem GO:FnScope ["self","stem","tree"] ["self","stem","tree"] (Ai CB):=by trivial
abbrev Hx:Stmt:=top 50
theorem OQ:FnScope ["tree","path"] ["tree","path"] (Ai Hx):=by trivial
abbrev Gn:Stmt:=top 51
theorem M8:FnScope ["tree","path"] ["tree","path"] (Ai Gn):=by trivial
abbrev Hz:Stmt:=top 52
theorem Ph:FnScope ["tree","path"] ["tree","path"] (Ai Hz):=by trivial
abbrev GD:Stmt:=top 53
theorem M4:FnScope ["tree","path"] ["tree","path"] (Ai GD):=by trivial
abbrev FO:Stmt:=top 54
theorem MB:FnScope ["tree","path"] ["tree","path"] (Ai FO):=by trivial
abbrev Gk:Stmt:=top 55
theorem IW:FnScope ["tree","more","other"] ["tree","more"] (Ai Gk):=by trivial
abbrev Fk:Stmt:=top 56
theorem Lq:FnScope ["tree","path"] ["tree","path"] (Ai Fk):=by trivial
abbrev KC:Stmt:=top 57
theorem GN:FnScope ["tree","path","to","found","other","steps"] ["tree","path","to"] (Ai KC):=by trivial
abbrev Fi:Stmt:=top 58
theorem G6:FnScope ["tree","folders"] ["tree"] (Ai Fi):=by trivial
abbrev Fu:Stmt:=top 60
theorem Ll:FnScope ["_law_script","_law_k"] ["_law_script","_law_k"] (Ai Fu):=by trivial
abbrev Jv:Stmt:=top 61
theorem EG:FnScope ["_law_cell","_law_many","_law_found","_law_k","_law_number"] ["_law_cell","_law_many"] (Ai Jv):=by trivial
abbrev G2:Stmt:=top 62
theorem BX:FnScope ["_law_row_here","_law_many","_law_signs","_law_word_here","_law_at_here","_law_found","_law_k","_law_one"] ["_law_row_here","_law_many"] (Ai G2):=by trivial
abbrev Ir:Stmt:=top 63
theorem DU:FnScope ["_law_row_here","_law_at_here","_law_names_here","_law_many","_law_some","_law_k","_law_number"] ["_law_row_here","_law_at_here","_law_names_here"] (Ai Ir):=by trivial
abbrev Iw:Stmt:=top 64
theorem Cp:FnScope ["_law_row_here","_law_at_here","_law_signs","_law_many","_law_found","_law_k","_law_number"] ["_law_row_here","_law_at_here"] (Ai Iw):=by trivial
abbrev Il:Stmt:=top 65
theorem B8:FnScope ["_law_cell","_law_names_here","_law_row_here","_law_stem","_law_path_here","_law_to","_law_way","_law_at_here","_law_many"] ["_law_cell","_law_names_here"] (Ai Il):=by trivial
abbrev HH:Stmt:=top 66
theorem Pa:FnScope ["_law_house","_law_deed_here"] ["_law_house","_law_deed_here"] (Ai HH):=by trivial
abbrev HV:Stmt:=top 67
theorem EZ:FnScope ["_law_house","_law_deed_here","e","_law_kinds"] ["_law_house","_law_deed_here"] (Ai HV):=by trivial
abbrev GH:Stmt:=top 68
theorem Eo:FnScope ["_law_path_here","_law_steps_here","_law_signs","_law_step"] ["_law_path_here"] (Ai GH):=by trivial
abbrev Ku:Stmt:=top 69
theorem Jb:FnScope ["_law_tree","_law_steps_here","_law_step"] ["_law_tree","_law_steps_here"] (Ai Ku):=by trivial
abbrev Eu:Stmt:=top 70
theorem GX:FnScope ["_law_tree","_law_steps_here","_law_node","_law_found"] ["_law_tree","_law_steps_here","_law_node"] (Ai Eu):=by trivial
abbrev Ft:Stmt:=top 71
theorem ED:FnScope ["_law_tree","_law_path_here","_law_found","_law_name","_law_to"] ["_law_tree","_law_path_here"] (Ai Ft):=by trivial
abbrev GR:Stmt:=top 72
theorem Em:FnScope ["_law_tree","_law_rows","_law_path_here","_law_node"] ["_law_tree"] (Ai GR):=by trivial
abbrev Ja:Stmt:=top 73
theorem Ld:FnScope ["_law_tree","_law_path_here","_law_steps_here"] ["_law_tree","_law_path_here"] (Ai Ja):=by trivial
abbrev GV:Stmt:=top 74
theorem IZ:FnScope ["_law_tree","_law_path_here","_law_steps_here"] ["_law_tree","_law_path_here"] (Ai GV):=by trivial
abbrev Ij:Stmt:=top 75
theorem Co:FnScope ["_law_tree","_law_deed_here","_law_content","_law_old","_law_word_here","_law_steps_here"] ["_law_tree","_law_deed_here"] (Ai Ij):=by trivial
abbrev JC:Stmt:=top 76
theorem HF:FnScope ["_law_tree","_law_path_here","_law_node","_law_word_here"] ["_law_tree","_law_path_here","_law_node"] (Ai JC):=by trivial
abbrev Jy:Stmt:=top 77
theorem EF:FnScope ["_law_trees","_law_deed_here","_law_tree","_law_word_here","_law_found"] ["_law_trees","_law_deed_here"] (Ai Jy):=by trivial
abbrev D9:Stmt:=top 78
theorem CF:FnScope ["_law_house","_law_name","_law_path_here","_law_found","e"] ["_law_house","_law_name","_law_path_here"] (Ai D9):=by trivial
abbrev GI:Stmt:=top 79
theorem Br:FnScope ["_law_house","_law_trees","_law_name","_law_rows","_law_due_here","_law_found","_law_path_here","_law_node","_law_bad"] ["_law_house","_law_trees"] (Ai GI):=by trivial
abbrev F3:Stmt:=top 80
theorem Cf:FnScope ["_law_house","_law_trees","_law_names_here","_law_way","_law_many","_law_deeds","_law_k","_law_name","_law_deed_here"] ["_law_house","_law_trees","_law_names_here","_law_way"] (Ai F3):=by trivial
abbrev FY:Stmt:=top 81
theorem CT:FnScope ["_law_house","_law_trees","_law_names_here","_law_way","_law_handed","_law_path_here","_law_node"] ["_law_house","_law_trees","_law_names_here","_law_way"] (Ai FY):=by trivial
abbrev Uz:Stmt:=top 82
theorem FH:FnScope ["_law_script","_law_cell","_law_names_here","_law_house","_law_trees","_law_one","_law_deed_here","_law_word_here","_law_found"] ["_law_script"] (Ai Uz):=by trivial
structure Txt (K:W.Frag) (mg:Str->Option Value) (C:Addr) (XC:Nat->Addr):Prop where
 cl:Cls K C
 n_own_head:Gy K C "own_head"
 x_NoName:mg "NoName"=some (.ref (XC 0))
 x_Twice:mg "Twice"=some (.ref (XC 1))
 x_Bare:mg "Bare"=some (.ref (XC 2))
 x_Grown:mg "Grown"=some (.ref (XC 3))
 x_TooMany:mg "TooMany"=some (.ref (XC 4))
 x_NoPath:mg "NoPath"=some (.ref (XC 5))
 x_StemError:mg "StemError"=some (.ref (XC 6))
 x_OverBound:mg "OverBound"=some (.ref (XC 7))
 q_TooMany:Y8 K (XC 4)
 m_NoName_StemError:Sr K (XC 0) (XC 6) true
 m_Twice_StemError:Sr K (XC 1) (XC 6) true
 m_TooMany_StemError:Sr K (XC 4) (XC 6) true
 m_NoPath_StemError:Sr K (XC 5) (XC 6) true
 m_NoPath_NoPath:Sr K (XC 5) (XC 5) true
 m_NoName_NoPath:Sr K (XC 0) (XC 5) false
 e_TooMany:ExcCls K (XC 4)
 i_NoName:ExiCls K (XC 0)
 f_NoName:W.findIn K (.ref (XC 0)) "name"=some none
 i_Twice:ExiCls K (XC 1)
 f_Twice:W.findIn K (.ref (XC 1)) "name"=some none
 i_NoPath:ExiCls K (XC 5)
 f_NoPath:W.findIn K (.ref (XC 5)) "path"=some none
 k_Twice_NoPath:D0 K (XC 1) (XC 5) false
 k_Twice_Twice:D0 K (XC 1) (XC 1) true
 k_Twice_TooMany:D0 K (XC 1) (XC 4) false
 k_Twice_NoName:D0 K (XC 1) (XC 0) false
 k_Twice_Bare:D0 K (XC 1) (XC 2) false
 k_Twice_Grown:D0 K (XC 1) (XC 3) false
 k_Twice_OverBound:D0 K (XC 1) (XC 7) false
 k_TooMany_NoPath:D0 K (XC 4) (XC 5) false
 k_TooMany_Twice:D0 K (XC 4) (XC 1) false
 k_TooMany_TooMany:D0 K (XC 4) (XC 4) true
 k_TooMany_NoName:D0 K (XC 4) (XC 0) false
 k_TooMany_Bare:D0 K (XC 4) (XC 2) false
 k_TooMany_Grown:D0 K (XC 4) (XC 3) false
 k_TooMany_OverBound:D0 K (XC 4) (XC 7) false
 k_NoPath_NoPath:D0 K (XC 5) (XC 5) true
 k_NoPath_Twice:D0 K (XC 5) (XC 1) false
 k_NoPath_TooMany:D0 K (XC 5) (XC 4) false
 k_NoPath_NoName:D0 K (XC 5) (XC 0) false
 k_NoPath_Bare:D0 K (XC 5) (XC 2) false
 k_NoPath_Grown:D0 K (XC 5) (XC 3) false
 k_NoPath_OverBound:D0 K (XC 5) (XC 7) false
 k_NoName_NoPath:D0 K (XC 0) (XC 5) false
 k_NoName_Twice:D0 K (XC 0) (XC 1) false
 k_NoName_TooMany:D0 K (XC 0) (XC 4) false
 k_NoName_NoName:D0 K (XC 0) (XC 0) true
 k_NoName_Bare:D0 K (XC 0) (XC 2) false
 k_NoName_Grown:D0 K (XC 0) (XC 3) false
 k_NoName_OverBound:D0 K (XC 0) (XC 7) false
 k_Twice_ValueError:W.kitOne K (.ref (XC 1)) (.type "ValueError")=some true
 k_TooMany_ValueError:W.kitOne K (.ref (XC 4)) (.type "ValueError")=some true
 k_NoPath_ValueError:W.kitOne K (.ref (XC 5)) (.type "ValueError")=some true
 k_NoName_ValueError:W.kitOne K (.ref (XC 0)) (.type "ValueError")=some true
 b_ValueError:mg "ValueError"=none
 b_all:mg "all"=none
 b_dict:mg "dict"=none
 b_int:mg "int"=none
 b_isinstance:mg "isinstance"=none
 b_len:mg "len"=none
 b_list:mg "list"=none
 b_range:mg "range"=none
 b_sorted:mg "sorted"=none
 b_str:mg "str"=none
 b_tuple:mg "tuple"=none
 c_SIGNS:∃t,mg "SIGNS"=some (.str (PySem.Str.ofString " !\"#$&'()*+,-./0123456789:;<=>?@ABCDEFGHIJKLMNOPQRSTUVWXYZ[\\]^_`abcdefghijklmnopqrstuvwxyz{|}~") t)
 c_MOST_SIGNS:∃t,mg "MOST_SIGNS"=some (.int 400 t)
 c_FILE_ENTRY:∃t,mg "FILE_ENTRY"=some (.int 1 t)
 c_FOLDER_ENTRY:∃t,mg "FOLDER_ENTRY"=some (.int 2 t)
 c_NAME_SIGNS:∃t,mg "NAME_SIGNS"=some (.str (PySem.Str.ofString "0123456789abcdefghijklmnopqrstuvwxyz") t)
 c_MOST_NAME_SIGNS:∃t,mg "MOST_NAME_SIGNS"=some (.int 8 t)
 c_MOST_ENTRIES:∃t,mg "MOST_ENTRIES"=some (.int 16 t)
 c_STEM:∃t,mg "STEM"=some (.int 1 t)
 c_SEAL:∃t,mg "SEAL"=some (.int 2 t)
 c_MOST_KEEPERS:∃t,mg "MOST_KEEPERS"=some (.int 8 t)
 c_MOST_NAMES:∃t,mg "MOST_NAMES"=some (.int 24 t)
 c_MOST_STEPS:∃t,mg "MOST_STEPS"=some (.int 8 t)
 c_MOST_TREE_ENTRIES:∃t,mg "MOST_TREE_ENTRIES"=some (.int 60 t)
 c_MOST_TREE_DEEP:∃t,mg "MOST_TREE_DEEP"=some (.int 8 t)
theorem HC {t:TS}{D:Ends}{σ:St}{H:Hp}(h:∀E,D=E->t E σ H):t D σ H:=h _ rfl
theorem Ap {t u:TS}{D:Ends}{σ:St}{H:Hp}(h:∀N,u D=N->t { D with nx:=N } σ H):SH t u D σ H:=h _ rfl
abbrev EM:Str:=PySem.Str.ofString ""
abbrev SG:Str:=PySem.Str.ofString " !\"#$&'()*+,-./0123456789:;<=>?@ABCDEFGHIJKLMNOPQRSTUVWXYZ[\\]^_`abcdefghijklmnopqrstuvwxyz{|}~"
def Cs (t:Str)(z:Str):Bool:=(AQ z).all λc=>decide (c∈AQ t)
def Lc (a b:Int):V->Bool
 | .str z=>decide (a<=(z.length:Int))&&decide ((z.length:Int)<=b)&&Cs SG z
 |_=>false
theorem UP {H:Hp}{v:V}{a b:Int}(h:isA (LF H v) "str"=false):Lc a b v=false:=by
 cases v with
 |str z=>exact absurd (show isA "str" "str"=false from h) (by decide)
 |_=>rfl
def Mo (K:W.Frag):Sp:=λvs H Q _=>∃v a b,vs=[v,.int a,.int b]/\Ok H v/\∀H',Aw H H'->Q (.bl (Lc a b v)) H'
theorem Oj (t z:Str):((AQ z).map λc=>V.str ⟨#[c]⟩).map (λv=>match v with|V.str y=>V.bl (!(Builtin.Str.occurrences t y 0 t.length 1).isEmpty)|_=>V.non)=((AQ z).map λc=>decide (c∈AQ t)).map V.bl:=by
 rw[az,az];refine bf λc _=>?_
 show V.bl (!(Builtin.Str.occurrences t ⟨#[c]⟩ 0 t.length 1).isEmpty)=V.bl (decide (c∈AQ t));rw[gM]
theorem Rt (T:Txt K mg C XC)(F:Fun K "is_text" "is_text" K2 f fd):FnOk P w K mg base Ef 1 f fd ["thing","least","most"] (Mo K):=by
 exists QL
 ·obtain⟨v,a,b,rfl,_⟩:=h;rfl
 obtain⟨v,a,b,rfl,ok,q⟩:=h;refine⟨_,(!Ad (!AJ (@PW.pt _ _ _ (!D1 (!Cg (!Bq (!AA Bv (by rfl) T.b_isinstance AF (!Aa (pv 0) (!Aa (!Gf rfl T.b_str UO) (!Ab)))) (by intro _;rfl))) (!CM (!Cg (!MU Ms Ms (pv 1) (!AA DW (by rfl) T.b_len CO (!Aa (pv 0) (!Ab))) (pv 2) (by with_unfolding_all rfl)))))) (!Af (!Aq (!G5))) (!Ao)) (!Af (!Aq (!AA (Gg rfl) (by rfl) T.b_all KD (!Aa (@Ge _ ["sign"] _ _ _ _ _ _ _ _ _ _ rfl (!Q3 (pv 0)) (by decide +kernel) (λC s H fp=>⟨(@AK _ _ (0) _ (show(["sign"]:List Str).Nodup by decide +kernel) rfl ∅ ∅),(!CK),(!Ej NP (pv 0) (!Qd rfl T.c_SIGNS))⟩) (by intro _;rfl)) (!Ab)))))),?_⟩;refine⟨_,rfl,_,_,_,_,rfl,ok.ty K,ok.kit K,_,rfl,?_⟩;cases hw:isA (LF H v) "str" with
 |false=>
  refine AG rfl ?_;have:=q H (Aw.refl _);rw[UP hw] at this;exact this
 |true=>
  refine As rfl ?_;obtain⟨z,rfl,hz⟩:=XR ok hw;have zl:=A3 z;refine⟨_,rfl,_,rfl,_,rfl,small (by omega),_,_,rfl,rfl,_,rfl,?_⟩;refine DQ (λc=>?_) (λc=>?_)
  ·refine⟨_,rfl,_,_,rfl,rfl,_,rfl,?_⟩;refine DQ (λd=>?_) (λd=>?_)
   ·have d':decide ((z.length:Int)<=b)=false:=by simpa using d
    have e:Lc a b (.str z)=false:=by show(decide (a<=(z.length:Int))&&decide ((z.length:Int)<=b)&&Cs SG z)=_;rw[d',Bool.and_false];rfl
    have:=q H (Aw.refl _);rw[e] at this;exact this
   ·have d':decide ((z.length:Int)<=b)=true:=by simpa using d
    refine⟨_,rfl,z,rfl,?_⟩;refine comp_map (λv=>match v with | .str y=>.bl (!(Builtin.Str.occurrences SG y 0 SG.length 1).isEmpty)|_=>.non) Mm (by rw[aa];exact aX (eM zl) (by omega)) (λx H' R hx s' hR=>?_) λl H7 n7 s7 h7=>?_
    ·obtain⟨u,_,rfl⟩:=aj.mp hx;exact⟨_,rfl,_,_,rfl,rfl,hR H' (Aw.refl _)⟩
    rw[Oj] at h7;refine⟨l,_,rfl,AV.of h7,?_⟩;have e:Lc a b (.str z)=((AQ z).map λc=>decide (c∈AQ SG)).all id:=by
     show(decide (a<=(z.length:Int))&&decide ((z.length:Int)<=b)&&Cs SG z)=_;unfold Cs;rw[c,d',cB];rfl
    have:=q H7 s7;rw[e] at this;exact this
  ·have c':decide (a<=(z.length:Int))=false:=cj.mpr c;have e:Lc a b (.str z)=false:=by show(decide (a<=(z.length:Int))&&decide ((z.length:Int)<=b)&&Cs SG z)=_;rw[c',Bool.false_and];rfl
   have:=q H (Aw.refl _);rw[e] at this;exact⟨_,rfl,this⟩
abbrev NS:Str:=PySem.Str.ofString "0123456789abcdefghijklmnopqrstuvwxyz"
abbrev LN:Str:=PySem.Str.ofString "abcdefghijklmnopqrstuvwxyz0123456789"
theorem Va:(∀c∈AQ NS,c∈AQ LN)/\∀c∈AQ LN,c∈AQ NS/\c∈AQ SG:=by decide +kernel
def Bh:V->Bool
 | .str z=>decide ((1:Int)<=z.length)&&decide ((z.length:Int)<=8)&&Cs LN z
 |_=>false
theorem Td (z:Str):(Cs SG z&&Cs NS z)=Cs LN z:=by
 unfold Cs;rw[cn,aQ,a5,a5,a5];simp only[decide_eq_true_eq];exact⟨λh c hc=>Va.1 c (h.2 c hc),λh=>⟨λc hc=>(Va.2 c (h c hc)).2,λc hc=>(Va.2 c (h c hc)).1⟩⟩
theorem Sq (v:V):Bh v=match v with | .str z=>Lc 1 8 v&&Cs NS z|_=>false:=by
 cases v with
 |str z=>
  show(decide ((1:Int)<=z.length)&&decide ((z.length:Int)<=8)&&Cs LN z)=((decide ((1:Int)<=(z.length:Int))&&decide ((z.length:Int)<=8)&&Cs SG z)&&Cs NS z);rw[<-Td z];simp only[Bool.and_assoc]
 |_=>rfl
def GP (K:W.Frag):Sp:=λvs H Q _=>∃v,vs=[v]/\Ok H v/\∀H',Aw H H'->Q (.bl (Bh v)) H'
theorem Rg (T:Txt K mg C XC)(F:Fun K "is_name" "is_name" KO f fd)(KB:Def P w K mg base 1 "is_text" ["thing","least","most"] (Mo K)):FnOk P w K mg base Ef 2 f fd ["thing"] (GP K):=by
 exists Rl
 ·obtain⟨v,rfl,_⟩:=h;rfl
 obtain⟨v,rfl,ok,q⟩:=h;refine⟨_,(!Af (!Aq (!Vj (!AH KB ∅ rfl (!Aa (pv 0) (!Aa (!Ag) (!Aa (!Cd rfl T.c_MOST_NAME_SIGNS) (!Ab))))) (!Mj (!AA (Gg rfl) (by rfl) T.b_all KD (!Aa (@Ge _ ["sign"] _ _ _ _ _ _ _ _ _ _ rfl (!Q3 (pv 0)) (by decide +kernel) (λC s H fp=>⟨(@AK _ _ (0) _ (show(["sign"]:List Str).Nodup by decide +kernel) rfl ∅ ∅),(!CK),(!Ej NP (pv 0) (!Qd rfl T.c_NAME_SIGNS))⟩) (by intro _;rfl)) (!Ab))))))),?_⟩;refine⟨_,rfl,v,1,8,rfl,ok,λH1 s1=>⟨_,rfl,?_⟩⟩;have en:=Sq v;refine DQ (λc=>?_) (λc=>?_)
 ·cases v with
  |str z=>
   have hz:z.length<=1000:=ok;have zl:=A3 z;refine⟨_,rfl,z,rfl,?_⟩;refine comp_map (λv=>match v with | .str y=>.bl (!(Builtin.Str.occurrences NS y 0 NS.length 1).isEmpty)|_=>.non) Mm (by rw[aa];exact aX (eM zl) (by omega)) (λx H' R hx s' hR=>?_) λl H7 n7 s7 h7=>?_
   ·obtain⟨u,_,rfl⟩:=aj.mp hx;exact⟨_,rfl,_,_,rfl,rfl,hR H' (Aw.refl _)⟩
   rw[Oj] at h7;refine⟨l,_,rfl,AV.of h7,?_⟩;have e:Bh (.str z)=((AQ z).map λc=>decide (c∈AQ NS)).all id:=by
    rw[en];show(Lc 1 8 (.str z)&&Cs NS z)=_;rw[c];unfold Cs;rw[cB];rfl
   have:=q H7 (s1.trans s7);rw[e] at this;exact this
  |_=>exact absurd (show false=true from c) ay
 ·have e:Bh v=false:=by
   rw[en];cases v with
   |str z=>show(Lc 1 8 (.str z)&&Cs NS z)=false;rw[cj.mpr c];rfl
   |_=>rfl
  have:=q H1 s1;rw[e] at this;exact this
section
open PySem.Builtin.Str
theorem NJ {c:Nat}{r:List Nat}:∀(l:List Nat),Cj c (l++r)=Cj c l++(Cj c r).map (· + l.length)
 |[]=>by
  show Cj c r=[]++(Cj c r).map (λk=>k+0);rw[cx];exact(dg _).symm
 |x::l=>by
  have e:Cj c (x::l++r)=if x=c then 0::(Cj c (l++r)).map (· + 1) else(Cj c (l++r)).map (· + 1):=rfl;have e':Cj c (x::l)=if x=c then 0::(Cj c l).map (· + 1) else(Cj c l).map (· + 1):=rfl;have em:(Cj c (l++r)).map (· + 1)=(Cj c l).map (· + 1)++(Cj c r).map (· + (x::l).length):=by
   rw[NJ l,aO,az]
   congr 1
  rw[e,e',em]
  split<;>rfl
theorem last_run (x:Str)(c:Nat)(n:Nat):∀(l:List Nat) (st:Option Nat),(forIn l st λi r=>(if i+(⟨#[c]⟩:Str).length<=x.length/\subAt x ⟨#[c]⟩ i=true then pure (ForInStep.yield (some i)) else pure (ForInStep.yield r):Id (ForInStep (Option Nat)))).run=((l.filter λi=>decide ((AQ x)[i]?=some c)).getLast?).or st
 |[],st=>by simp[Id.run,pure,forIn]
 |a::l,st=>by
  rw[List.forIn_cons]
  by_cases h:(AQ x)[a]?=some c
  ·rw[ak (OZ.mpr h)];refine(last_run x c n l (some a)).trans ?_;rw[bj,ak (av h),List.getLast?_cons];cases(l.filter λi=>decide ((AQ x)[i]?=some c)).getLast?<;>rfl
  ·rw[ai λq=>h (OZ.mp q)];refine(last_run x c n l st).trans ?_;rw[bj,ai (by rw[aq h];exact ay)]
theorem last_pos (x:Str)(c:Nat):lastOccurrence x ⟨#[c]⟩ 0 x.length=(Cj c (AQ x)).getLast?:=by
 have h:=last_run x c 0 (List.range' 0 (x.length+1-0)) none;have e:=HP c (AQ x) 0;have e1:(Cj c (AQ x)).map (· + 0)=Cj c (AQ x):=by
  have:(λk:Nat=>k+0)=id:=rfl;rw[this,dg]
 rw[e1,A3] at e;rw[e];have e2:List.filter (λi=>decide ((AQ x)[i]?=some c)) (List.range' 0 (x.length+1-0))=List.filter (λi=>decide ((AQ x)[i-0]?=some c)) (List.range' 0 x.length):=by
  rw[eK,List.range'_concat,cE,bj,ai,List.filter_nil,aJ]
  ·rfl
  ·rw[cF (by rw[A3];omega)];simp
 rw[e2,Option.or_none] at h;rw[<-h];unfold lastOccurrence;simp only[Std.Legacy.Range.forIn_eq_forIn_range',Std.Legacy.Range.size,Nat.sub_zero,Nat.add_sub_cancel,Nat.div_one,Bool.and_eq_true,decide_eq_true_eq];rfl
theorem U8 {c:Nat}{x w n:Str}(h:AQ x=AQ w++c::AQ n)(hn:c∉AQ n):∃a b,HX x ⟨#[c]⟩=[w,a,b]:=by
 have hl:lastOccurrence x ⟨#[c]⟩ 0 x.length=some (AQ w).length:=by
  rw[last_pos,h,NJ];have:Cj c (c::AQ n)=[0]:=by
   show(if c=c then 0::(Cj c (AQ n)).map (· + 1) else _)=_;rw[ak rfl,F9 hn];rfl
  rw[this,List.getLast?_append];show(some (0+(AQ w).length)).or _=_;rw[eJ];rfl
 unfold HX;rw[hl];refine⟨⟨#[c]⟩,strSub x ((AQ w).length+1) x.length,?_⟩;show[strSub x 0 (AQ w).length,⟨#[c]⟩,strSub x ((AQ w).length+1) x.length]=_
 congr 1
 refine FA ?_;show(strSub x 0 _).cps.toList=_;have hx:x.cps.toList=AQ w++c::AQ n:=h;rw[fE,fk,eK,hx,cZ];rfl
theorem TX {c:Nat}{x:Str}(hx:c∉AQ x):∃a b,HX x ⟨#[c]⟩=[PySem.Str.empty,a,b]:=by
 unfold HX;rw[last_pos,F9 hx];exact⟨_,_,rfl⟩
end
abbrev SL:Str:=PySem.Str.ofString "/"
theorem UX:SL=⟨#[47]⟩:=rfl
theorem Us:AQ SL=[47]:=rfl
theorem Rz (x y:Str):PySem.Txt.startswith x y=true↔∃r,AQ x=AQ y++r:=by
 unfold PySem.Txt.startswith;rw[StrLaws.subAt_eq,aQ,bZ,bQ,fk];have hy:=A3 y;have hx:=A3 x;constructor
 ·rintro⟨_,h⟩
  refine⟨(AQ x).drop y.length,?_⟩;have h':List.take y.length (AQ x)=AQ y:=h;rw[<-h'];exact(dw _ _).symm
 ·rintro⟨r,h⟩
  have h':x.cps.toList=AQ y++r:=h;refine⟨by rw[<-hx,<-hy,h,ar];omega,?_⟩;rw[h',<-hy,cZ];rfl
def jn (P:List Str):Str:=PySem.Txt.join SL P
def fl (P:List Str):List Nat:=P.flatMap λs=>AQ s++[47]
theorem O0:∀(P:List Str) (s:Str),Nr 47 P s=fl P++AQ s
 |[],_=>rfl
 |w::P,s=>by
  show AQ w++47::Nr 47 P s=_;rw[O0 P s];unfold fl;rw[br];simp
theorem BM (P:List Str)(s:Str):AQ (jn (P++[s]))=fl P++AQ s:=by
 show AQ (PySem.Builtin.Str.glued SL (P++[s]))=_;rw[StrLaws.glued_eq_join]
 induction P with
 |nil=>rfl
 |cons w P ih=>
  obtain⟨y,r,e⟩:∃y r,P++[s]=y::r:=by cases P<;>exact⟨_,_,rfl⟩
  rw[cK,e];show AQ (w++SL++PySem.Str.join SL (y::r))=_;rw[BJ,BJ,<-e,ih,Us];unfold fl;rw[br];simp
theorem BF {α:Type}{P:List α}(h:P≠[]):∃I s,P=I++[s]:=⟨P.dropLast,P.getLast h,(List.dropLast_concat_getLast h).symm⟩
def VP (P:List Str):Prop:=∀s∈P,Bh (.str s)=true
theorem BR {s:Str}(h:Bh (.str s)=true):47∉AQ s/\AQ s≠[]/\s.length<=8:=by
 have h':(decide ((1:Int)<=s.length)&&decide ((s.length:Int)<=8)&&Cs LN s)=true:=h;rw[aQ,aQ,bZ,bZ] at h';obtain⟨⟨h1,h2⟩,h3⟩:=h';unfold Cs at h3;rw[a5] at h3;refine⟨λz=>absurd (aE (h3 47 z)) (by decide +kernel),λz=>?_,by omega⟩;have:=A3 s;rw[z] at this;have:s.length=0:=this.symm;omega
structure CP (P:List Str):Prop where
 no:∀s∈P,47∉AQ s
 ne:P≠[EM]
theorem VP.cp {P:List Str}(v:VP P):CP P:=⟨λs hs=>(BR (v s hs)).1,λe=>(BR (v EM (by rw[e];exact ah.mpr rfl))).2.1 rfl⟩
theorem TK {s:Str}(h:AQ s=[]):s=EM:=FA (by rw[show AQ EM=[] from rfl];exact h)
theorem Lk {P:List Str}(h:P≠[])(v:CP P):jn P≠EM:=λe=>by
 obtain⟨I,s,rfl⟩:=BF h;have:=congrArg AQ e;rw[BM] at this;obtain⟨h1,h2⟩:=cg.mp this;cases I with
 |nil=>exact v.ne (by rw[TK h2];rfl)
 |cons w I=>
  unfold fl at h1;rw[br] at h1;simp at h1
theorem JU {P:List Str}(h:P≠[])(v:CP P):PySem.Txt.split (jn P) SL=P:=by
 obtain⟨I,s,rfl⟩:=BF h;rw[UX];exact SF (by rw[O0];exact BM I s) (λw hw=>v.no w (bB _ hw)) (v.no s (aG _ (ah.mpr rfl)))
theorem FM {P Q:List Str}(vP:CP P)(vQ:CP Q)(e:jn P=jn Q):P=Q:=by
 by_cases hP:P=[]
 ·subst hP
  by_cases hQ:Q=[]
  ·exact hQ.symm
  ·exact absurd e.symm (Lk hQ vQ)
 ·by_cases hQ:Q=[]
  ·subst hQ;exact absurd e (Lk hP vP)
  ·rw[<-JU hP vP,e,JU hQ vQ]
theorem Xk (z:Str):∃P,CP P/\jn P=z:=by
 have key:∀l:List Nat,∃I s,(∀w∈I,47∉AQ w)/\47∉AQ s/\fl I++AQ s=l:=λl=>by
  induction l with
  |nil=>exact⟨[],EM,(λ_ h=>nomatch h),(λh=>nomatch h),rfl⟩
  |cons c l ih=>
   obtain⟨I,s,h1,h2,e⟩:=ih
   by_cases hc:c=47
   ·refine⟨EM::I,s,λw hw=>?_,h2,?_⟩
    ·rcases aM.mp hw with rfl|hw
     ·exact λh=>nomatch h
     ·exact h1 w hw
    ·rw[hc,<-e];rfl
   ·cases I with
    |nil=>
     refine⟨[],⟨(c::AQ s).toArray⟩,(λ_ h=>nomatch h),λh=>?_,?_⟩
     ·rcases aM.mp (show 47∈c::AQ s from h) with z|z
      ·exact hc z.symm
      ·exact h2 z
     ·rw[<-e];rfl
    |cons w I=>
     refine⟨⟨(c::AQ w).toArray⟩::I,s,λx hx=>?_,h2,?_⟩
     ·rcases aM.mp hx with rfl|hx
      ·intro h;rcases aM.mp (show 47∈c::AQ w from h) with z|z
       ·exact hc z.symm
       ·exact h1 w aw z
      ·exact h1 x (ao _ hx)
     ·rw[<-e];unfold fl;rw[br,br];rfl
 obtain⟨I,s,h1,h2,e⟩:=key (AQ z)
 by_cases hz:z=EM
 ·exact⟨[],⟨(λ_ h=>nomatch h),λh=>nomatch h⟩,hz.symm⟩
 ·refine⟨I++[s],⟨λw hw=>?_,λe2=>hz ?_⟩,FA (by rw[<-e];exact BM I s)⟩
  ·rcases aK.mp hw with hw|hw
   ·exact h1 w hw
   ·rw[ah.mp hw];exact h2
  ·have:I=[]:=by
    cases I with
    |nil=>rfl
    |cons w I=>have:=congrArg List.length e2;simp at this
   subst this;have:s=EM:=bO e2;rw[this] at e;exact TK e.symm
def Gp (P:List Str):Prop:=VP P/\P.length<=8
theorem Ql {P:List Str}{s:Str}(h:s∈P):s.length<=(jn P).length:=by
 obtain⟨I,e,rfl⟩:=BF (λz:P=[]=>by rw[z] at h;exact nomatch h);rw[<-A3,<-A3,BM,ar];rcases aK.mp h with h|h
 ·have:∀{I:List Str},s∈I->(AQ s).length<=(fl I).length:=λ{I}=>by
   induction I with
   |nil=>intro h;exact nomatch h
   |cons w I ih=>
    intro h;unfold fl at ih ⊢;rw[br,ar,ar];rcases aM.mp h with rfl|h
    ·omega
    ·have:=ih h;omega
  have:=this h;omega
 ·rw[ah.mp h];omega
theorem Og (P:List Str):P.length<=(jn P).length+1:=by
 by_cases h:P=[]
 ·subst h;exact a6 _
 obtain⟨I,e,rfl⟩:=BF h;rw[<-A3,BM,ar,ar,bc];have:∀I:List Str,I.length<=(fl I).length:=λI=>by
  induction I with
  |nil=>exact au _
  |cons w I ih=>
   unfold fl at ih ⊢;rw[br,ar,ar,aS,bc];omega
 have:=this I;omega
theorem EY {x y:Str}(h:AQ x=AQ y):x=y:=FA h
theorem Wm {I:List Str}{s:Str}(v:VP (I++[s])):∃a b,HX (jn (I++[s])) SL=[jn I,a,b]:=by
 have hs:=(BR (v s (aG _ (ah.mpr rfl)))).1;rw[UX]
 by_cases h:I=[]
 ·subst h;refine TX ?_;rw[BM];exact hs
 ·obtain⟨J,t,rfl⟩:=BF h;refine U8 (n:=s) ?_ hs;rw[BM,BM];unfold fl;rw[bY];simp
theorem Pz {I:List Str}{s:Str}(v:VP (I++[s])):PySem.Txt.count (jn (I++[s])) SL=(I.length:Int):=by
 obtain⟨r,e,l⟩:=Pb (c:=47) (ws:=I) (t:=s) λw hw=>(BR (v w (bB _ hw))).1
 rw[F9 (BR (v s (aG _ (ah.mpr rfl)))).1,cT,aJ,O0,<-BM] at e;unfold PySem.Txt.count;rw[UX,Sl,e,aY,l];have h1:=OJ 47 I s;rw[O0,<-BM,A3] at h1;omega
theorem Uu:∀{O P:List Str} {s:Str} {r:List Nat},(∀s∈O,47∉AQ s)->(∀x∈P++[s],47∉AQ x)->fl P++AQ s=fl O++r->∃R,P=O++R
 |[],P,_,_,_,_,_=>⟨P,rfl⟩
 |o::O,[],s,r,vO,vP,e=>by
  have hs:=vP s (ah.mpr rfl);refine absurd ?_ hs;have e:AQ s=fl (o::O)++r:=e;rw[e];unfold fl;rw[br];simp
 |o::O,p::P,s,r,vO,vP,e=>by
  have ho:=vO o aw;have hp:=vP p aw;have e:AQ p++47::(fl P++AQ s)=AQ o++47::(fl O++r):=by
   have e2:=e;unfold fl at e2;rw[br,br] at e2;simpa [fl] using e2
  have key:∀{a b x y:List Nat},47∉a->47∉b->a++47::x=b++47::y->a=b/\x=y:=λ{a}=>by
   induction a with
   |nil=>
    intro b x y _ hb e;cases b with
    |nil=>exact⟨rfl,(cf e).2⟩
    |cons c b=>exact absurd (by rw[(cf e).1];exact aw) hb
   |cons c a ih=>
    intro b x y ha hb e;cases b with
    |nil=>exact absurd (by rw[<-(cf e).1];exact aw) ha
    |cons d b=>
     obtain⟨e1,e2⟩:=cf e;obtain⟨i1,i2⟩:=ih (λz=>ha (ao _ z)) (λz=>hb (ao _ z)) e2;exact⟨by rw[e1,i1],i2⟩
  obtain⟨k1,k2⟩:=key hp ho e;have:p=o:=EY k1;subst this;obtain⟨R,hR⟩:=Uu (λx hx=>vO x (ao _ hx)) (λx hx=>vP x (ao _ hx)) k2;exact⟨R,by rw[hR];rfl⟩
theorem NT {O:List Str}(h:O≠[]):AQ (jn O++SL)=fl O:=by
 obtain⟨I,s,rfl⟩:=BF h;rw[BJ,BM,Us];unfold fl;rw[bY];simp
def Dq (P O:List Str):Bool:=decide (P.length>O.length)&&decide (P.take O.length=O)
theorem NR {P O:List Str}(vP:CP P)(vO:CP O)(h:O≠[]):PySem.Txt.startswith (jn P) (jn O++SL)=Dq P O:=by
 rw[cn,Rz];unfold Dq;rw[aQ,bP,bP,NT h];constructor
 ·rintro⟨r,e⟩
  by_cases hP:P=[]
  ·subst hP;have:AQ (jn [])=[]:=rfl;rw[this] at e;obtain⟨I,s,rfl⟩:=BF h;have:=congrArg List.length e;unfold fl at this;rw[bY] at this;simp at this
  ·obtain⟨I,s,rfl⟩:=BF hP;rw[BM] at e;obtain⟨R,rfl⟩:=Uu vO.no vP.no e;refine⟨by simp,?_⟩;rw[bI,cZ];rfl
 ·rintro⟨l,e⟩
  have hd:P=O++P.drop O.length:=by
   have:=dw O.length P;rw[e] at this;exact this.symm
  have hne:P.drop O.length≠[]:=λz=>by
   have:=congrArg List.length z;rw[bF] at this;have:P.length-O.length=0:=this;omega
  obtain⟨I,s,e2⟩:=BF hne;rw[e2,<-bI] at hd;rw[hd,BM];refine⟨fl I++AQ s,?_⟩;unfold fl;rw[bY,bI]
theorem QB {A B:List Str}(hA:A≠[])(hB:B≠[]):(jn A++SL)++jn B=jn (A++B):=by
 obtain⟨I,s,rfl⟩:=BF hB;refine EY ?_;rw[BJ,NT hA,BM,show A++(I++[s])=(A++I)++[s] from(bI _ _ _).symm,BM];unfold fl;rw[bY,bI]
theorem D5:∀{P:List Str},VP P->(jn P).length<=9*P.length:=λ{P} v=>by
 by_cases h:P=[]
 ·subst h;exact au _
 ·obtain⟨I,s,rfl⟩:=BF h;rw[<-A3,BM,ar];have l1:∀(I:List Str),VP I->(fl I).length<=9*I.length:=λI=>by
   induction I with
   |nil=>intro _;exact au _
   |cons w I ih=>
    intro v;have h1:=ih λx hx=>v x (ao _ hx)
    have h2:=(BR (v w aw)).2.2;unfold fl at h1 ⊢;rw[br,ar,ar,A3];simp only[List.length_cons,List.length_nil];omega
  have h1:=l1 I λx hx=>v x (bB _ hx)
  have h2:=(BR (v s (aG _ (ah.mpr rfl)))).2.2;rw[A3,ar,bc];omega
abbrev AM:=List (List Str×Option Str)
def cV:Option Str->V
 |none=>.non
 |some c=>.str c
abbrev Y6 (p:List Str×Option Str):Key×V:=(.inr (jn p.1),cV p.2)
def Bx (t:AM):List (Key×V):=t.map Y6
inductive En where
 |st (nm kp og:Str) (t:AM)
 |sl (nm sm:Str) (tn:Int) (t:AM)
def En.nm:En->Str
 | .st nm _ _ _=>nm
 | .sl nm _ _ _=>nm
def En.tr:En->AM
 | .st _ _ _ t=>t
 | .sl _ _ _ t=>t
def En.isS:En->Bool
 | .st _ _ _ _=>true
 |_=>false
def En.items (ta:Addr):En->List V
 | .st nm kp og _=>[.str nm,.int 1,.str kp,.str og,.ref ta]
 | .sl nm sm tn _=>[.str nm,.int 2,.str sm,.int tn,.ref ta]
structure Pe where
 a:Addr
 t:Addr
 e:En
structure St (H H':Hp):Prop where
 keep:∀b o,(∀ps,o≠.tbl ps)->H b=some o->H' b=some o
 there:∀b,H' b=none->H b=none
theorem St.refl (H:Hp):St H H:=⟨λ_ _ _ h=>h,λ_ h=>h⟩
theorem St.trans {H H1 H2:Hp}(a:St H H1)(b:St H1 H2):St H H2:=⟨λc o n h=>b.keep c o n (a.keep c o n h),λc h=>a.there c (b.there c h)⟩
theorem AE {H H':Hp}(s:Aw H H'):St H H':=⟨λb o _ h=>s b o h,λ_ h=>s.free h⟩
theorem St.tup {H H':Hp}(s:St H H'){b:Addr}{xs:List V}(h:H b=some (.tup xs)):H' b=some (.tup xs):=s.keep b _ (by intro _ z;cases z) h
theorem St.dk {H H':Hp}(s:St H H'){b:Addr}{xs:List (Key×V)}(h:H b=some (.dK xs)):H' b=some (.dK xs):=s.keep b _ (by intro _ z;cases z) h
def Rp (H:Hp)(p:Pe):Prop:=H p.t=some (.dK (Bx p.e.tr))/\H p.a=some (.tup (p.e.items p.t))
def Sd (H H':Hp):Prop:=(∀b xs,H b=some (.tup xs)->H' b=some (.tup xs))/\∀b kvs,H b=some (.dK kvs)->H' b=some (.dK kvs)
theorem St.sd {H H':Hp}(s:St H H'):Sd H H':=⟨λ_ _ h=>s.tup h,λ_ _ h=>s.dk h⟩
theorem Rp.sd {H H':Hp}{p:Pe}(h:Rp H p)(k:Sd H H'):Rp H' p:=⟨k.2 _ _ h.1,k.1 _ _ h.2⟩
theorem Rp.fst {H:Hp}{p:Pe}(h:Rp H p):∃r,H p.a=some (.tup (.str p.e.nm::r)):=by
 obtain⟨a,t,e⟩:=p;cases e<;>exact⟨_,h.2⟩
abbrev Kq:=Addr×Str×Int
structure HeadAt (H:Hp) (h:Addr) (ag:Int) (k:Addr) (qs:List Kq) (n:Addr) (ps:List Pe):Prop where
 at_:H h=some (.tup [.int ag,.ref k,.ref n])
 kp:H k=some (.tup (qs.map λq=>V.ref q.1))
 ke:∀q∈qs,H q.1=some (.tup [.str q.2.1,.int q.2.2])
 nm:H n=some (.tup (ps.map λp=>V.ref p.a))
 en:∀p∈ps,Rp H p
theorem HeadAt.sd {H H':Hp}{h:Addr}{ag:Int}{k n:Addr}{qs:List Kq}{ps:List Pe}(x:HeadAt H h ag k qs n ps)(g:Sd H H'):HeadAt H' h ag k qs n ps:=
 ⟨g.1 _ _ x.at_,g.1 _ _ x.kp,λq hq=>g.1 _ _ (x.ke q hq),g.1 _ _ x.nm,λp hp=>(x.en p hp).sd g⟩
theorem HeadAt.st {H H':Hp}{h:Addr}{ag:Int}{k n:Addr}{qs:List Kq}{ps:List Pe}(x:HeadAt H h ag k qs n ps)(g:St H H'):HeadAt H' h ag k qs n ps:=x.sd g.sd
inductive Rf where
 |noName (z:Str)|twice (z:Str)|many|noPath (z:Str)
def Rf.no:Rf->Nat
 | .noName _=>0 | .twice _=>1 | .many=>4 | .noPath _=>5
def Ex (XC:Nat->Addr)(E:Value->Option Addr->Hp->Prop)(H:Hp):Rf->Prop
 | .noName z=>∀dx,H dx=none->E (.ref (XC 0)) (some dx) (upd H dx (.xd [("name",.str z)]))
 | .twice z=>∀dx,H dx=none->E (.ref (XC 1)) (some dx) (upd H dx (.xd [("name",.str z)]))
 | .many=>E (.ref (XC 4)) none H
 | .noPath z=>∀dx,H dx=none->E (.ref (XC 5)) (some dx) (upd H dx (.xd [("path",.str z)]))
theorem Gq (a b:Str):decide (V.str a=V.str b)=decide (a=b):=by
 by_cases z:a=b
 ·rw[av z,av (by rw[z])]
 ·rw[aq z,aq λy=>z (V.str.inj y)]
def SD (nm:Str)(ps:List Pe):Option Pe:=ps.find? λp=>decide (p.e.nm=nm)
theorem MC {nm:Str}{ps:List Pe}{p:Pe}(h:SD nm ps=some p):p∈ps/\p.e.nm=nm:=⟨cW h,aE (eU (p:=λp:Pe=>decide (p.e.nm=nm)) h)⟩
theorem Mb (T:Txt K mg C XC)(F:Fun K "__init__" "NoName.__init__" F1 f fd):FnOk P w K mg base Ef 1 f fd ["self","name"] (MA (XC 0) "name"):=by
 exists Mg
 ·obtain⟨e,y,rfl,_⟩:=h;rfl
 obtain⟨e,y,rfl,he,q⟩:=h;refine⟨_,(!Af (!Ou (pv 0) (pv 1))),?_⟩;exact⟨_,rfl,_,rfl,e,XC 0,rfl,he,T.i_NoName,T.f_NoName,q⟩
theorem Nl (T:Txt K mg C XC)(F:Fun K "__init__" "Twice.__init__" Gm f fd):FnOk P w K mg base Ef 1 f fd ["self","name"] (MA (XC 1) "name"):=by
 exists Nw
 ·obtain⟨e,y,rfl,_⟩:=h;rfl
 obtain⟨e,y,rfl,he,q⟩:=h;refine⟨_,(!Af (!Ou (pv 0) (pv 1))),?_⟩;exact⟨_,rfl,_,rfl,e,XC 1,rfl,he,T.i_Twice,T.f_Twice,q⟩
theorem Mr (T:Txt K mg C XC)(F:Fun K "__init__" "NoPath.__init__" FR f fd):FnOk P w K mg base Ef 1 f fd ["self","path"] (MA (XC 5) "path"):=by
 exists LO
 ·obtain⟨e,y,rfl,_⟩:=h;rfl
 obtain⟨e,y,rfl,he,q⟩:=h;refine⟨_,(!Af (!Ou (pv 0) (pv 1))),?_⟩;exact⟨_,rfl,_,rfl,e,XC 5,rfl,he,T.i_NoPath,T.f_NoPath,q⟩
def Ol (nm:Str)(rs:List (Addr×Str)):V:=match rs.find? λr=>decide (r.2=nm) with
 |some r=>.ref r.1
 |none=>.non
def El (K:W.Frag):Sp:=λvs H Q _=>∃(n:Addr) (rs:List (Addr×Str)) (nm:Str),vs=[.ref n,.str nm]/\H n=some (.tup (rs.map λp=>V.ref p.1))/\(∀p∈rs,∃r,H p.1=some (.tup (.str p.2::r)))/\Q (Ol nm rs) H
theorem NQ {α:Type}{p:α->Bool}{l:List α}{i:Nat}(no:∀j x,j<i->l[j]?=some x->p x=false):l.find? p=(l.drop i).find? p:=by
 induction i generalizing l with
 |zero=>rfl
 |succ i ih=>
  cases l with
  |nil=>rfl
  |cons x l=>
   rw[bK,no 0 x (Nat.succ_pos _) rfl,List.drop_succ_cons];exact ih λj y hj hy=>no (j+1) y (Nat.succ_lt_succ hj) hy
theorem Nc (T:Txt K mg C XC)(F:Fun K "one_called" "one_called" GW f fd):FnOk P w K mg base Ef 1 f fd ["some","name"] (El K):=by
 exists IX
 ·obtain⟨n,rs,nm,rfl,_⟩:=h;rfl
 obtain⟨n,rs,nm,rfl,hn,he,q⟩:=h;refine⟨_,(!Ad (!CQ bJ rfl (!Vw (pv 0)) (@AK _ _ (2) _ IX.nd rfl ∅ ∅) (!Af (!AJ (!Ax Ck (!An Ar (pv 2) (!Ag) (λ_ _=>rfl)) (pv 1) (AC _)) (!Af (!Aq (pv 2))) (!Ao))) (by intro _;rfl)) (!Af (!Aq (!Ig)))),?_⟩
 try dsimp only[A4,Cx.nox,Cx.wish]
 refine⟨_,rfl,n,rfl,⟨_,AW.of hn⟩,WB (K:=K) (a:=n) (xs:=rs.map λp=>V.ref p.1) (λi σ H2=>H2=H/\(∃v,σ=[some (.ref n),some (.str nm),v])/\∀j x,j<i->rs[j]?=some x->decide (x.2=nm)=false) ⟨rfl,⟨none,rfl⟩,λj q hj=>absurd hj (Nat.not_lt_zero _)⟩ (λi σ H2 _ ⟨e,_⟩=>by rw[e];exact AW.of hn) ?_ ?_⟩
 ·rintro i x σ H2 hi ⟨rfl,⟨v,rfl⟩,no⟩
  rw[aD] at hi;obtain⟨q',hq,rfl⟩:=aU.mp hi;have hm:=aN hq;obtain⟨r,hr1⟩:=he q' hm;refine⟨_,rfl,q'.1,_,_,_,rfl,rfl,AW.of hr1,Ah (j:=0) rfl,_,rfl,rfl,_,rfl,?_⟩;rw[Gq];refine DQ (λc=>?_) (λc=>?_)
  ·have e:Ol nm rs=.ref q'.1:=by
    unfold Ol;rw[NQ no,gG (aA.mp hq).1,(aA.mp hq).2,bK,c]
   rw[e] at q;exact⟨_,rfl,q⟩
  ·refine⟨rfl,⟨_,rfl⟩,λj q2 hj hq2=>?_⟩;rcases Nat.lt_succ_iff_lt_or_eq.mp hj with h|rfl
   ·exact no j q2 h hq2
   ·rw[hq] at hq2;cases hq2;exact cj.mpr c
 ·rintro σ H2 ⟨rfl,⟨v,rfl⟩,no⟩
  rw[aa] at no;have e:Ol nm rs=.non:=by
   unfold Ol;rw[NQ no,List.drop_length];rfl
  rw[e] at q;exact q
theorem Uw {nm:Str}(ps:List Pe):Ol nm (ps.map λp=>(p.a,p.e.nm))=match SD nm ps with|some p=>.ref p.a|none=>.non:=by
 unfold Ol SD;rw[List.find?_map];show(match Option.map _ (ps.find? λp=>decide (p.e.nm=nm)) with|some (r:Addr×Str)=>V.ref r.1|none=>V.non)=_;cases ps.find? λp=>decide (p.e.nm=nm)<;>rfl
theorem Yh {nm:Str}(qs:List Kq):Ol nm (qs.map λq=>(q.1,q.2.1))=match qs.find? λq=>decide (q.2.1=nm) with|some p=>.ref p.1|none=>.non:=by
 unfold Ol;rw[List.find?_map];show(match Option.map _ (qs.find? λp=>decide (p.2.1=nm)) with|some (r:Addr×Str)=>V.ref r.1|none=>V.non)=_;cases qs.find? λp=>decide (p.2.1=nm)<;>rfl
def Gc (K:W.Frag)(XC:Nat->Addr):Sp:=λvs H Q E=>∃(h:Addr) (nm:Str) (ag:Int) (k n:Addr) (qs:List Kq) (ps:List Pe),vs=[.ref h,.str nm]/\HeadAt H h ag k qs n ps/\(nm∈qs.map (·.2.1)->∀a,Q (.ref a) H)/\(nm∉qs.map (·.2.1)->Ex XC E H (.noName nm))
theorem Kw (T:Txt K mg C XC)(F:Fun K "keeper_called" "keeper_called" EL f fd)(BU:Def P w K mg base 1 "one_called" ["some","name"] (El K))(AY:Jn P w K mg base 1 "NoName" (XC 0) "name" ["self","name"]):FnOk P w K mg base (E7 P w) 3 f fd ["head","name"] (Gc K XC):=by
 refine F.okE Gd (λvs H Q E h=>?_) (λcdv A outer s H vs Q E hr h=>?_)
 ·obtain⟨h,nm,ag,k,n,qs,ps,rfl,_⟩:=h;rfl
 obtain⟨h,nm,ag,k,n,qs,ps,rfl,hd,q1,q2⟩:=h;refine⟨_,(!Ad (@Av _ _ (2) _ _ _ _ Gd.nd rfl ∅ (!AH BU ∅ rfl (!Aa (!An Ar (pv 0) (!Ag) (λ_ _=>rfl)) (!Aa (pv 1) (!Ab)))) (by rfl) ∅) (!Ad (!AJ (!DT (!FZ (pv 2)) (by first|exact Bt _ (by decide) (by decide)|rfl)) (!Af (!B0 BD rfl AY ∅ rfl (!Aa (pv 1) (!Ab)))) (!Ao)) (!Af (!Aq (pv 2))))),?_⟩
 try dsimp only[A4,Cx.nox,Cx.wish]
 refine⟨_,rfl,h,_,_,_,rfl,rfl,AW.of hd.at_,Ah (j:=1) rfl,_,rfl,k,qs.map λq=>(q.1,q.2.1),nm,rfl,by rw[az];exact hd.kp,λp hp=>?_,?_⟩
 ·obtain⟨q,hq,rfl⟩:=aj.mp hp;exact⟨_,hd.ke q hq⟩
 rw[Yh];cases e:qs.find? λq=>decide (q.2.1=nm) with
 |some p=>
  have m:nm∈qs.map (·.2.1):=aj.mpr ⟨p,cW e,aE (eU (p:=λq:Kq=>decide (q.2.1=nm)) e)⟩;exact⟨_,rfl,_,rfl,As (aq λe=>by cases e) ⟨_,rfl,q1 m p.1⟩⟩
 |none=>
  have m:nm∉qs.map (·.2.1):=λz=>by
   obtain⟨p,hp,ep⟩:=aj.mp z;exact df.mp e p hp (av ep)
  exact⟨_,rfl,_,rfl,AG rfl ⟨_,rfl,_,rfl,q2 m⟩⟩
def Ii (K:W.Frag)(XC:Nat->Addr):Sp:=λvs H Q E=>∃(h:Addr) (nm:Str) (ag:Int) (k n:Addr) (qs:List Kq) (ps:List Pe),vs=[.ref h,.str nm]/\HeadAt H h ag k qs n ps/\(∀p,SD nm ps=some p->Q (.ref p.a) H)/\(SD nm ps=none->Ex XC E H (.noName nm))
theorem PD (T:Txt K mg C XC)(F:Fun K "named_so" "named_so" JA f fd)(BU:Def P w K mg base 1 "one_called" ["some","name"] (El K))(AY:Jn P w K mg base 1 "NoName" (XC 0) "name" ["self","name"]):FnOk P w K mg base (E7 P w) 3 f fd ["head","name"] (Ii K XC):=by
 refine F.okE K6 (λvs H Q E h=>?_) (λcdv A outer s H vs Q E hr h=>?_)
 ·obtain⟨h,nm,ag,k,n,qs,ps,rfl,_⟩:=h;rfl
 obtain⟨h,nm,ag,k,n,qs,ps,rfl,hd,q1,q2⟩:=h;refine⟨_,(!Ad (@Av _ _ (2) _ _ _ _ K6.nd rfl ∅ (!AH BU ∅ rfl (!Aa (!An Ar (pv 0) (!Ag) (λ_ _=>rfl)) (!Aa (pv 1) (!Ab)))) (by rfl) ∅) (!Ad (!AJ (!DT (!FZ (pv 2)) (by first|exact Bt _ (by decide) (by decide)|rfl)) (!Af (!B0 BD rfl AY ∅ rfl (!Aa (pv 1) (!Ab)))) (!Ao)) (!Af (!Aq (pv 2))))),?_⟩
 try dsimp only[A4,Cx.nox,Cx.wish]
 refine⟨_,rfl,h,_,_,_,rfl,rfl,AW.of hd.at_,Ah (j:=2) rfl,_,rfl,n,ps.map λp=>(p.a,p.e.nm),nm,rfl,by rw[az];exact hd.nm,λp hp=>?_,?_⟩
 ·obtain⟨q,hq,rfl⟩:=aj.mp hp;exact(hd.en q hq).fst
 rw[Uw];cases e:SD nm ps with
 |some p=>exact⟨_,rfl,_,rfl,As (aq λe=>by cases e) ⟨_,rfl,q1 p e⟩⟩
 |none=>exact⟨_,rfl,_,rfl,AG rfl ⟨_,rfl,_,rfl,q2 e⟩⟩
def fst (nm:Str)(ps:List Pe):Option Pe:=(SD nm ps).filter λp=>p.e.isS
theorem US {nm:Str}{ps:List Pe}{p:Pe}(h:fst nm ps=some p):p∈ps/\∃kp og t,p.e=.st nm kp og t:=by
 obtain⟨h1,h2⟩:=dJ.mp h;obtain⟨h3,h4⟩:=MC h1;refine⟨h3,?_⟩;obtain⟨a,t,e⟩:=p;cases e with
 |st nm kp og t=>subst h4;exact⟨_,_,_,rfl⟩
 |sl _ _ _ _=>cases h2
def DJ (K:W.Frag)(XC:Nat->Addr):Sp:=λvs H Q E=>∃(h:Addr) (nm:Str) (ag:Int) (k n:Addr) (qs:List Kq) (ps:List Pe),vs=[.ref h,.str nm]/\HeadAt H h ag k qs n ps/\(∀p,fst nm ps=some p->Q (.ref p.a) H)/\(fst nm ps=none->Ex XC E H (.noName nm))
theorem LL (T:Txt K mg C XC)(F:Fun K "stem_called" "stem_called" FT f fd)(Ed:CY P w K mg base 3 "named_so" ["head","name"] (Ii K XC))(AY:Jn P w K mg base 1 "NoName" (XC 0) "name" ["self","name"]):FnOk P w K mg base (E7 P w) 4 f fd ["head","name"] (DJ K XC):=by
 refine F.okE Im (λvs H Q E h=>?_) (λcdv A outer s H vs Q E hr h=>?_)
 ·obtain⟨h,nm,ag,k,n,qs,ps,rfl,_⟩:=h;rfl
 obtain⟨h,nm,ag,k,n,qs,ps,rfl,hd,q1,q2⟩:=h;refine⟨_,(!Ad (@Av _ _ (2) _ _ _ _ Im.nd rfl ∅ (!Bl Ed ∅ rfl Au (!Aa (pv 0) (!Aa (pv 1) (!Ab)))) (by rfl) ∅) (!Ad (!AJ (!Ax JO (!An Ar (pv 2) (!Ag) (λ_ _=>rfl)) (!Cd rfl T.c_STEM) (AC _)) (!Af (!B0 BD rfl AY ∅ rfl (!Aa (pv 1) (!Ab)))) (!Ao)) (!Af (!Aq (pv 2))))),?_⟩
 try dsimp only[A4,Cx.nox,Cx.wish]
 refine⟨_,rfl,_,rfl,h,nm,ag,k,n,qs,ps,rfl,hd,λp hp=>?_,λno=>q2 (by unfold fst;rw[no];rfl)⟩;have ha:=(hd.en p (MC hp).1).2;cases ee:p.e with
 |st nm' kp og t=>
  rw[ee] at ha;exact⟨_,rfl,p.a,_,_,_,rfl,rfl,AW.of ha,Ah (j:=1) rfl,rfl,_,rfl,As rfl ⟨_,rfl,q1 p (by unfold fst;rw[hp];exact dJ.mpr ⟨rfl,by rw[ee];rfl⟩)⟩⟩
 |sl nm' sm tn t=>
  rw[ee] at ha;exact⟨_,rfl,p.a,_,_,_,rfl,rfl,AW.of ha,Ah (j:=1) rfl,rfl,_,rfl,AG rfl ⟨_,rfl,_,rfl,q2 (by unfold fst;rw[hp];show Option.filter _ (some p)=none;rw[Option.filter_some,ai (by rw[ee];exact ay)])⟩⟩
abbrev LQ:Str:=PySem.Str.ofString "_law_right"++PySem.Str.ofString ".<locals>."++PySem.Str.ofString "<lambda>"
abbrev LP:Pos:=⟨445,68,445,106⟩
abbrev MQ:Str:=PySem.Str.ofString "put_among"++PySem.Str.ofString ".<locals>."++PySem.Str.ofString "<lambda>"
abbrev MP:Pos:=⟨87,44,87,66⟩
theorem Tz {α β:Type}{f:α->β}{us vs:List β}(h:us.Perm vs):∀{qs:List α},vs=qs.map f->∃us':List α,us'.Perm qs/\us'.map f=us:=by
 induction h with
 |nil=>intro qs e;exact⟨[],by rw[cJ.mp e.symm],rfl⟩
 |cons x _ ih=>
  intro qs e;cases qs with
  |nil=>cases e
  |cons q qs=>
   rw[aF] at e;injection e with e1 e2
   obtain⟨us',h1,h2⟩:=ih e2;exact⟨q::us',h1.cons q,by rw[aF,h2,e1]⟩
 |swap x y l=>
  intro qs e;cases qs with
  |nil=>cases e
  |cons q qs=>
   cases qs with
   |nil=>cases e
   |cons q' qs=>
    rw[aF,aF] at e;injection e with e1 e2
    injection e2 with e2 e3
    exact⟨q'::q::qs,List.Perm.swap _ _ _,by rw[aF,aF,e1,e2,e3]⟩
 |trans _ _ ih1 ih2=>
  intro qs e;obtain⟨a,h1,h2⟩:=ih2 e;obtain⟨b,h3,h4⟩:=ih1 h2.symm;exact⟨b,h3.trans h1,h4⟩
theorem OA {α:Type}{key:α->Str}:∀{l1 l2:List α},l1.Perm l2->l1.Pairwise (λx y=>Qr (key x) (key y))->l2.Pairwise (λx y=>Qr (key x) (key y))->l1=l2
 |[],l2,h,_,_=>(List.nil_perm.mp h).symm
 |a::r1,[],h,_,_=>by have:=h.length_eq;cases this
 |a::r1,b::r2,h,p1,p2=>by
  rw[b8] at p1 p2;rcases Classical.em (a=b) with e|e
  ·subst e;rw[OA (List.Perm.cons_inv h) p1.2 p2.2]
  ·have ha:a∈b::r2:=h.mem_iff.mp aw;have hb:b∈a::r1:=h.mem_iff.mpr aw;have h1:=(aM.mp ha).resolve_left e;have h2:=(aM.mp hb).resolve_left λz=>e z.symm
   exact absurd (dU (p1.1 b h2) (p2.1 a h1)) (List.lt_irrefl _)
theorem Jw {a b:Str}(h:Qr a b):a≠b:=λe=>by subst e;exact List.lt_irrefl _ h
def putL {α:Type}(key:α->Str)(x:α):List α->List α
 |[]=>[x]
 |y::r=>if key y=key x then x::r else if Qr (key x) (key y) then x::y::r else y::putL key x r
abbrev Ri {α:Type}(key:α->Str)(l:List α):Prop:=l.Pairwise λx y=>Qr (key x) (key y)
theorem KL {α:Type}{key:α->Str}{x:α}:∀{l:List α},Ri key l->(putL key x l).Perm ((l.filter λy=>!decide (key y=key x))++[x])
 |[],_=>.refl _
 |y::r,h=>by
  rw[Ri,b8] at h;unfold putL
  by_cases c:key y=key x
  ·rw[ak c,bj,ai (by rw[av c];exact ay),dF.mpr λz hz=>by
    rw[aq λe=>Jw (h.1 z hz) (by rw[c,e])];rfl]
   exact(gy _ _).symm
  ·rw[ai c]
   by_cases d:Qr (key x) (key y)
   ·rw[ak d,dF.mpr λz hz=>?_]
    ·exact(gy _ _).symm
    ·rcases aM.mp hz with rfl|hz
     ·rw[aq c];rfl
     ·rw[aq λe=>Jw (dU d (h.1 z hz)) e.symm];rfl
   ·rw[ai d,bj,ak (by rw[aq c];rfl)];exact(KL h.2).cons _
theorem Fh {α:Type}{key:α->Str}{x y:α}{l:List α}(h:Ri key l):y∈putL key x l↔y=x\/y∈l/\key y≠key x:=by
 rw[(KL h).mem_iff,aK,aV,ah];constructor
 ·rintro(⟨h1,h2⟩|h)
  ·exact .inr ⟨h1,λe=>by rw[av e] at h2;cases h2⟩
  ·exact .inl h
 ·rintro(h|⟨h1,h2⟩)
  ·exact .inr h
  ·exact .inl ⟨h1,by rw[aq h2];rfl⟩
theorem Iz {α:Type}{key:α->Str}{x:α}:∀{l:List α},Ri key l->Ri key (putL key x l)
 |[],_=>List.pairwise_singleton _ _
 |y::r,h=>by
  have h0:=h;rw[Ri,b8] at h;unfold putL
  by_cases c:key y=key x
  ·rw[ak c,Ri,b8];exact⟨λz hz=>by rw[<-c];exact h.1 z hz,h.2⟩
  ·rw[ai c]
   by_cases d:Qr (key x) (key y)
   ·rw[ak d,Ri,b8];refine⟨λz hz=>?_,h0⟩;rcases aM.mp hz with rfl|hz
    ·exact d
    ·exact dU d (h.1 z hz)
   ·rw[ai d,Ri,b8];refine⟨λz hz=>?_,Iz h.2⟩;rcases(Fh h.2).mp hz with rfl|⟨hz,_⟩
    ·exact QG d λe=>c e.symm
    ·exact h.1 z hz
theorem Gh {α β:Type}{key:α->Str}{key':β->Str}{g:α->β}(e:∀a,key' (g a)=key a)(x:α):∀l:List α,(putL key x l).map g=putL key' (g x) (l.map g)
 |[]=>rfl
 |y::r=>by
  rw[aF];unfold putL;rw[e,e]
  by_cases c:key y=key x
  ·rw[ak c,ak c];rfl
  ·rw[ai c,ai c]
   by_cases d:Qr (key x) (key y)
   ·rw[ak d,ak d];rfl
   ·rw[ai d,ai d,aF,Gh e x r]
theorem Mz {α:Type}{key:α->Str}{x:α}:∀(l:List α),(putL key x l).length<=l.length+1
 |[]=>au _
 |y::r=>by
  unfold putL
  split
  ·simp
  ·split
   ·simp
   ·have:=Mz (key:=key) (x:=x) r;simp only[List.length_cons];omega
structure Tb (PT PU:Addr) (H:Hp):Prop where
 ne:PT≠PU
 a:CI PT LQ LP H
 b:CI PU MQ MP H
theorem Oi {P U:Addr}{q q':Str}{lp lp':Pos}{H H':Hp}(ne:P≠U)(t:CI P q lp H)(u:CI U q' lp' H)(s:CJ U H H'):CI P q lp H':=by
 rcases t with h|⟨c,h,h2⟩
 ·exact .inl (s _ _ ne h)
 ·exact .inr ⟨c,s _ _ ne h,s.get u h2 (by intro _ z;cases z)⟩
theorem Tb.same {H H':Hp}(t:Tb PT PU H)(s:Aw H H'):Tb PT PU H':=⟨t.ne,t.a.same s,t.b.same s⟩
theorem Tb.l {H H':Hp}(t:Tb PT PU H)(s:CJ PT H H')(x:CI PT LQ LP H'):Tb PT PU H':=⟨t.ne,x,Oi (Ne.symm t.ne) t.b t.a s⟩
theorem Tb.r {H H':Hp}(t:Tb PT PU H)(s:CJ PU H H')(x:CI PU MQ MP H'):Tb PT PU H':=⟨t.ne,Oi t.ne t.a t.b s,x⟩
theorem LU {U:Addr}{q:Str}{lp:Pos}{H H':Hp}(s:CJ U H H')(t:CI U q lp H)(t':CI U q lp H'):St H H':=by
 obtain⟨ps,hp⟩:=t.some;obtain⟨ps',hp'⟩:=t'.some;refine⟨λb o n h=>s b o (λz=>?_) h,λb h=>?_⟩
 ·rw[z,hp] at h;exact n ps (aI h).symm
 ·cases e:H b with
  |none=>rfl
  |some o=>
   by_cases z:b=U
   ·rw[z,hp'] at h;cases h
   ·rw[s b o z e] at h;cases h
def G1 (K:W.Frag)(PU:Addr):Sp:=λvs H Q _=>∃(n a:Addr) (nm:Str) (rs:List (Addr×Str)),vs=[.ref n,.ref a]/\H n=some (.tup (rs.map λp=>V.ref p.1))/\(∀p∈rs,∃r,H p.1=some (.tup (.str p.2::r)))/\(∃r,H a=some (.tup (.str nm::r)))/\Ri (λp=>p.2) rs/\rs.length<=60/\CI PU MQ MP H/\
 ∀n' H',CJ PU H H'->CI PU MQ MP H'->H n'=none->H' n'=some (.tup ((putL (λp=>p.2) (a,nm) rs).map λp=>V.ref p.1))->Q (.ref n') H'
theorem OI (T:Txt K mg C XC)(F:Fun K "put_among" "put_among" HI f fd)(LA:LamAt K mg base fd.code PU):FnOk P w K mg base Ef 1 f fd ["some","one"] (G1 K PU):=by
 refine F.okC Kl (λvs H Q E h=>?_) (λcdv A outer s H vs Q E hcd hr h=>?_)
 ·obtain⟨n,a,nm,rs,rfl,_⟩:=h;rfl
 subst hcd;obtain⟨n,a,nm,rs,rfl,hn,hen,⟨ra,hra⟩,ri,few,tb,q⟩:=h;refine⟨_,(!Ad (@Sf _ ["other","one"] [none,some 1] (2) _ _ _ _ _ _ _ _ _ _ _ _ _ _ Kl.nd rfl ∅ rfl (!Vw (pv 0)) (by rfl) rfl (by repeat (first|exact trivial|refine⟨rfl,?_⟩)) (by repeat (first|exact trivial|refine⟨λh=>(by first|exact⟨_,rfl⟩|cases h),?_⟩)) (λC s H fp=>⟨(@AK _ _ (0) _ (show(["other","one"]:List Str).Nodup by decide +kernel) rfl ∅ ∅),(!JL (!Ax JO (!An (RN (K:=K) (by rfl)) (pv 0) (!Ag) (λ_ _=>rfl)) (!An (RN (K:=K) (by rfl)) (pv 1) (!Ag) (λ_ _=>rfl)) (AC _))),(pv 0)⟩) (by intro _;rfl) (by rfl) ∅) (!Af (!Aq (!Cy Nx (by rfl) T.b_tuple Uo (!Aa (@NC _ _ _ _ _ _ (0) _ _ _ _ _ _ _ _ _ _ (hr.mono (au _)) ⟨λ_ _ _ _ _ _=>rfl,λ_=>rfl,λ_=>rfl,rfl,rfl,rfl,rfl,by decide,by decide⟩ LA (by decide) rfl rfl T.b_sorted (!Aa (!Ay LH (pv 2) (!Bk (!Aa (pv 1) (!Ab)))) (!Ab)) (by rfl) (by rfl)) (!Ab)))))),?_⟩
 try dsimp only[A4,Cx.nox,Cx.wish]
 refine⟨_,rfl,n,rfl,⟨_,AW.of hn⟩,?_⟩;refine Eh (ps:=rs) (g:=λp=>V.ref p.1) (λp=>!decide (p.2=nm)) (λp=>V.ref p.1) (UZ hn) (by omega) (λp hp H' R s' hR=>?_) (λp hp hs H' R s' hR=>⟨_,rfl,hR H' (Aw.refl _)⟩) λl H7 n7 s7 h7=>?_
 ·obtain⟨r,hr'⟩:=hen p hp;refine⟨_,rfl,p.1,_,_,_,rfl,rfl,AW.of (s'.get hr'),Ah (j:=0) rfl,_,rfl,a,_,_,_,rfl,rfl,AW.of (s'.get hra),Ah (j:=0) rfl,rfl,_,rfl,?_⟩;rw[Gq];exact hR
 have lf:=bp (λp:Addr×Str=>!decide (p.2=nm)) rs;have pm:=KL (x:=(a,nm)) ri;have pr:=Iz (x:=(a,nm)) ri;have enf:∀p∈(rs.filter λp=>!decide (p.2=nm))++[(a,nm)],∃r,H p.1=some (.tup (.str p.2::r)):=λp hp=>by
  rcases aK.mp hp with hp|hp
  ·exact hen p (aV.mp hp).1
  ·rw[ah.mp hp];exact⟨ra,hra⟩
 change (putL (λp=>p.2) (a,nm) rs).Perm ((rs.filter λp=>!decide (p.2=nm))++[(a,nm)]) at pm
 generalize (rs.filter λp=>!decide (p.2=nm))=zs at h7 lf pm enf;refine⟨_,rfl,_,rfl,CH,λp1 np1=>?_⟩;have s8:=Ae np1 (.lst [V.ref a]);have h8:(upd H7 p1 (.lst [V.ref a])) p1=some (.lst [V.ref a]):=Ac;generalize upd H7 p1 (.lst [V.ref a])=H8 at s8 h8;refine⟨l,p1,_,_,rfl,rfl,AV.of (s8.get h7),AV.of h8,small (by rw[aa];show _+1<=1000000;omega),λp2 np2=>?_⟩;have s9:=Ae np2 (.lst ((zs.map λp=>V.ref p.1)++[V.ref a]));have h9:(upd H8 p2 (.lst ((zs.map λp=>V.ref p.1)++[V.ref a]))) p2=some (.lst ((zs++[(a,nm)]).map λp=>V.ref p.1)):=by rw[Ac,aO];rfl
 generalize upd H8 p2 (.lst ((zs.map λp=>V.ref p.1)++[V.ref a]))=H9 at s9 h9;have s79:=(s7.trans s8).trans s9;refine⟨p2,zs++[(a,nm)],rfl,AV.of h9,by rw[ar];show _+1<64;omega,λt ht=>?_,?_,tb.same s79,λus p H2 up us2 st tb2 np=>?_⟩
 ·obtain⟨r,hr'⟩:=enf t ht;exact⟨_,AW.of (s79.get hr'),rfl⟩
 ·rw[<-(pm.map λp=>p.2).nodup_iff];exact List.Pairwise.imp (λh=>Jw h) (bH.mpr pr)
 ·have eq:us=putL (λp=>p.2) (a,nm) rs:=OA (key:=λp:Addr×Str=>p.2) (up.trans pm.symm) us2 pr;subst eq;have s10:=Ae np (.lst ((putL (λp=>p.2) (a,nm) rs).map λt=>V.ref t.1));have h10:(upd H2 p (.lst ((putL (λp=>p.2) (a,nm) rs).map λt=>V.ref t.1))) p=some (.lst ((putL (λp=>p.2) (a,nm) rs).map λt=>V.ref t.1)):=Ac;generalize upd H2 p (.lst ((putL (λp=>p.2) (a,nm) rs).map λt=>V.ref t.1))=H10 at s10 h10;refine⟨p,_,rfl,.inl ⟨AV.of h10,λnn nnn=>?_⟩⟩;have s11:=Ae nnn (.tup ((putL (λp=>p.2) (a,nm) rs).map λt=>V.ref t.1));have tb10:=tb2.same s10;have st10:CJ PU H H10:=((s79.t PU).trans st).trans (s10.t PU);exact q nn _ (st10.trans (s11.t PU)) (tb10.same s11) (st10.free tb10 nnn) Ac
abbrev F4 (p:Pe):Str:=p.e.nm
abbrev KW (q:Kq):Str:=q.2.1
def MW (nm:Str)(ns:List Str):Option Rf:=if Bh (.str nm)=true then(if nm∈ns then some (.twice nm) else none) else some (.noName nm)
def Sb (nm kp:Str)(ks ns:List Str):Option Rf:=match MW nm ns with
 |some r=>some r
 |none=>if kp∈ks then(if ns.length<24 then none else some .many) else some (.noName kp)
def Out (XC:Nat->Addr)(E:Value->Option Addr->Hp->Prop)(H:Hp)(r:Option Rf)(q:Prop):Prop:=match r with
 |none=>q
 |some r=>Ex XC E H r
theorem PZ {α:Type}{key:α->Str}{x:α}:∀{l:List α},Ri key l->(∃y∈l,key y=key x)->putL key x l=l.map λy=>if key y=key x then x else y
 |[],_,⟨_,h,_⟩=>nomatch h
 |y::r,h,⟨z,hz,e⟩=>by
  rw[Ri,b8] at h;unfold putL;rw[aF]
  by_cases c:key y=key x
  ·rw[ak c,ak c]
   congr 1
   conv=>lhs;rw[<-dg r]
   exact bf λu hu=>(ai λe=>Jw (h.1 u hu) (by rw[c,e])).symm
  ·have hz':z∈r:=(aM.mp hz).resolve_left λq=>c (by rw[<-q];exact e)
   rw[ai c,ai c,ai λd=>Jw (dU d (h.1 z hz')) e.symm,PZ h.2 ⟨z,hz',e⟩]
theorem Ri.nd {α:Type}{key:α->Str}{l:List α}(h:Ri key l):(l.map key).Nodup:=List.Pairwise.imp (λh=>Jw h) (bH.mpr h)
theorem OY {α β:Type}{key:α->Str}{key':β->Str}{g:α->β}(e:∀a,key' (g a)=key a){l:List α}:Ri key' (l.map g)↔Ri key l:=by
 unfold Ri;rw[bH];simp only[e]
theorem RJ {nm:Str}{ps:List Pe}:(SD nm ps).isSome=true↔nm∈ps.map F4:=by
 unfold SD;rw[dR];constructor
 ·rintro⟨p,hp,e⟩
  exact aj.mpr ⟨p,hp,aE e⟩
 ·intro h;obtain⟨p,hp,e⟩:=aj.mp h;exact⟨p,hp,av e⟩
theorem Ss (zs:List Str):(zs.map V.str).all Er=true:=by
 rw[cB];exact a5.mpr λ_ _=>rfl
def DY (K:W.Frag)(XC:Nat->Addr):Sp:=λvs H Q E=>∃(h:Addr) (nm:Str) (ag:Int) (k n:Addr) (qs:List Kq) (ps:List Pe),vs=[.ref h,.str nm]/\HeadAt H h ag k qs n ps/\nm.length<=1000/\∀H',Aw H H'->Out XC E H' (MW nm (ps.map F4)) (Q .non H')
theorem JT (T:Txt K mg C XC)(F:Fun K "check_new_name" "check_new_name" Ea f fd)(CV:Def P w K mg base 2 "is_name" ["thing"] (GP K))(AY:Jn P w K mg base 1 "NoName" (XC 0) "name" ["self","name"])(BU:Def P w K mg base 1 "one_called" ["some","name"] (El K))(CW:Jn P w K mg base 1 "Twice" (XC 1) "name" ["self","name"]):FnOk P w K mg base (E7 P w) 3 f fd ["head","name"] (DY K XC):=by
 refine F.okE Ka (λvs H Q E h=>?_) (λcdv A outer s H vs Q E hr h=>?_)
 ·obtain⟨h,nm,ag,k,n,qs,ps,rfl,_⟩:=h;rfl
 obtain⟨h,nm,ag,k,n,qs,ps,rfl,hd,ln,q⟩:=h;refine⟨_,(!Ad (!AJ (!Cg (!Bq (!AH CV ∅ rfl (!Aa (pv 1) (!Ab))) (by intro _;rfl))) (!Af (!B0 BD rfl AY ∅ rfl (!Aa (pv 1) (!Ab)))) (!Ao)) (!Af (!AJ (!DT (!RK (!AH BU ∅ rfl (!Aa (!An Ar (pv 0) (!Ag) (λ_ _=>rfl)) (!Aa (pv 1) (!Ab))))) (by first|exact Bt _ (by decide) (by decide)|rfl)) (!Af (!B0 BD rfl CW ∅ rfl (!Aa (pv 1) (!Ab)))) (!Ao)))),?_⟩
 try dsimp only[A4,Cx.nox,Cx.wish]
 refine⟨_,rfl,.str nm,rfl,ln,λH1 s1=>?_⟩;have q:=q H1 s1;have hd:=hd.st (AE s1);unfold MW at q;refine⟨_,rfl,?_⟩;cases nb:Bh (.str nm) with
 |false=>
  rw[nb,ai ay] at q;exact AG rfl ⟨_,rfl,_,rfl,q⟩
 |true=>
  rw[nb,ak rfl] at q;refine As rfl ?_;refine⟨_,rfl,h,_,_,_,rfl,rfl,AW.of hd.at_,Ah (j:=2) rfl,_,rfl,n,ps.map λp=>(p.a,p.e.nm),nm,rfl,by rw[az];exact hd.nm,λp hp=>?_,?_⟩
  ·obtain⟨q,hq,rfl⟩:=aj.mp hp;exact(hd.en q hq).fst
  rw[Uw];cases e:SD nm ps with
  |some p=>
   rw[ak (RJ.mp (by rw[e];rfl))] at q;exact⟨_,rfl,AG rfl ⟨_,rfl,_,rfl,q⟩⟩
  |none=>
   rw[ai λz=>by have:=RJ.mpr z;rw[e] at this;cases this] at q;exact⟨_,rfl,As rfl q⟩
def FP (K:W.Frag)(XC:Nat->Addr):Sp:=λvs H Q E=>∃(h:Addr) (ag:Int) (k n:Addr) (qs:List Kq) (ps:List Pe),vs=[.ref h]/\HeadAt H h ag k qs n ps/\(ps.length<24->Q .non H)/\(24<=ps.length->Ex XC E H .many)
theorem Np (T:Txt K mg C XC)(F:Fun K "check_room" "check_room" Gu f fd):FnOk P w K mg base (E7 P w) 1 f fd ["head"] (FP K XC):=by
 refine F.okE Nf (λvs H Q E h=>?_) (λcdv A outer s H vs Q E hr h=>?_)
 ·obtain⟨h,ag,k,n,qs,ps,rfl,_⟩:=h;rfl
 obtain⟨h,ag,k,n,qs,ps,rfl,hd,q1,q2⟩:=h;refine⟨_,(!Af (!AJ (!Ax Yf (!AA BQ (by rfl) T.b_len CO (!Aa (!An Ar (pv 0) (!Ag) (λ_ _=>rfl)) (!Ab))) (!Cd rfl T.c_MOST_NAMES) (AC _)) (!Af (!Gi Ga rfl T.x_TooMany T.q_TooMany)) (!Ao))),?_⟩
 try dsimp only[A4,Cx.nox,Cx.wish]
 refine⟨_,rfl,h,_,_,_,rfl,rfl,AW.of hd.at_,Ah (j:=2) rfl,n,_,rfl,.inr (AW.of hd.nm),_,_,rfl,rfl,_,rfl,DQ (λc=>?_) (λc=>?_)⟩
 ·have c':=aE c;rw[aa] at c';exact q2 (by omega)
 ·have c':=dec_false c;rw[aa] at c';exact q1 (by omega)
def FE (K:W.Frag)(XC:Nat->Addr):Sp:=λvs H Q E=>∃(h:Addr) (nm kp:Str) (ag:Int) (k n:Addr) (qs:List Kq) (ps:List Pe),vs=[.ref h,.str nm,.str kp]/\HeadAt H h ag k qs n ps/\nm.length<=1000/\∀H',Aw H H'->Out XC E H' (Sb nm kp (qs.map KW) (ps.map F4)) (Q .non H')
theorem JF (T:Txt K mg C XC)(F:Fun K "check_new_stem" "check_new_stem" D4 f fd)(B1:CY P w K mg base 3 "check_new_name" ["head","name"] (DY K XC))(EJ:CY P w K mg base 3 "keeper_called" ["head","name"] (Gc K XC))(CZ:CY P w K mg base 1 "check_room" ["head"] (FP K XC)):FnOk P w K mg base (E7 P w) 4 f fd ["head","name","keeper"] (FE K XC):=by
 refine F.okE J4 (λvs H Q E h=>?_) (λcdv A outer s H vs Q E hr h=>?_)
 ·obtain⟨h,nm,kp,ag,k,n,qs,ps,rfl,_⟩:=h;rfl
 obtain⟨h,nm,kp,ag,k,n,qs,ps,rfl,hd,ln,q⟩:=h;refine⟨_,(!Ad (!AD (!Bl B1 ∅ rfl Au (!Aa (pv 0) (!Aa (pv 1) (!Ab))))) (!Ad (!AD (!Bl EJ ∅ rfl Au (!Aa (pv 0) (!Aa (pv 2) (!Ab))))) (!Af (!AD (!Bl CZ ∅ rfl Au (!Aa (pv 0) (!Ab))))))),?_⟩
 try dsimp only[A4,Cx.nox,Cx.wish]
 refine⟨_,rfl,_,rfl,h,nm,ag,k,n,qs,ps,rfl,hd,ln,λH1 s1=>?_⟩;have q:=q H1 s1;have hd:=hd.st (AE s1);unfold Sb at q;cases e:MW nm (ps.map F4) with
 |some r=>rw[e] at q;exact q
 |none=>
  rw[e] at q;refine⟨_,rfl,_,rfl,h,kp,ag,k,n,qs,ps,rfl,hd,λm a=>?_,λm=>?_⟩
  ·rw[show(match(none:Option Rf) with|some r=>some r|none=>if kp∈qs.map KW then(if(ps.map F4).length<24 then none else some Rf.many) else some (.noName kp))=(if(ps.map F4).length<24 then none else some Rf.many) from ak m,aa] at q;refine⟨_,rfl,h,ag,k,n,qs,ps,rfl,hd,λlt=>?_,λle=>?_⟩
   ·rw[ak lt] at q;exact q
   ·rw[ai (by omega)] at q;exact q
  ·rw[show(match(none:Option Rf) with|some r=>some r|none=>if kp∈qs.map KW then(if(ps.map F4).length<24 then none else some Rf.many) else some (.noName kp))=some (.noName kp) from ai m] at q;exact q
def FW (K:W.Frag)(PT PU:Addr):Sp:=λvs H Q _=>∃(h:Addr) (p:Pe) (ag:Int) (k n:Addr) (qs:List Kq) (ps:List Pe),vs=[.ref h,.ref p.a]/\HeadAt H h ag k qs n ps/\Rp H p/\Ri F4 ps/\ps.length<=60/\Tb PT PU H/\
 ∀h' n' H',St H H'->Tb PT PU H'->H h'=none->HeadAt H' h' ag k qs n' (putL F4 p ps)->Q (.ref h') H'
theorem Nj (T:Txt K mg C XC)(F:Fun K "with_named" "with_named" GJ f fd)(DA:Def P w K mg base 1 "put_among" ["some","one"] (G1 K PU)):FnOk P w K mg base Ef 2 f fd ["head","named"] (FW K PT PU):=by
 exists M0
 ·obtain⟨h,p,ag,k,n,qs,ps,rfl,_⟩:=h;rfl
 obtain⟨h,p,ag,k,n,qs,ps,rfl,hd,ha,ri,few,tb,q⟩:=h;refine⟨_,(!Af (!Aq (!Az (!Aa (!An Ar (pv 0) (!Ag) (λ_ _=>rfl)) (!Aa (!An Ar (pv 0) (!Ag) (λ_ _=>rfl)) (!Aa (!AH DA ∅ rfl (!Aa (!An Ar (pv 0) (!Ag) (λ_ _=>rfl)) (!Aa (pv 1) (!Ab)))) (!Ab))))))),?_⟩
 try dsimp only[A4,Cx.nox,Cx.wish]
 refine⟨_,rfl,h,_,_,_,rfl,rfl,AW.of hd.at_,Ah (j:=0) rfl,_,rfl,h,_,_,_,rfl,rfl,AW.of hd.at_,Ah (j:=1) rfl,_,rfl,h,_,_,_,rfl,rfl,AW.of hd.at_,Ah (j:=2) rfl,_,rfl,n,p.a,p.e.nm,ps.map λp=>(p.a,p.e.nm),rfl,by rw[az];exact hd.nm,λr hr9=>?_,ha.fst,(OY λ_=>rfl).mpr ri,by rw[aa];exact few,tb.b,λn' H1 st1 tb1 nn' hn'=>?_⟩
 ·obtain⟨r,hr8,rfl⟩:=aj.mp hr9;exact(hd.en r hr8).fst
 have S1:=LU st1 tb.b tb1;have T1:=tb.r st1 tb1;refine⟨MX,λh' nh'=>?_⟩;have s2:=Ae nh' (.tup [V.int ag,V.ref k,V.ref n']);have S2:=S1.trans (AE s2);refine q h' n' _ S2 (T1.same s2) (S1.there _ nh') ⟨Ac,S2.tup hd.kp,λq hq=>S2.tup (hd.ke q hq),s2.get ?_,λr hr=>?_⟩
 ·rw[hn',<-Gh (key:=F4) (g:=λp=>(p.a,p.e.nm)) (λ_=>rfl) p ps,az];rfl
 ·rcases(Fh ri).mp hr with rfl|⟨hr,_⟩
  ·exact ha.sd S2.sd
  ·exact(hd.en r hr).sd S2.sd
def HD (K:W.Frag)(XC:Nat->Addr)(PT PU:Addr):Sp:=λvs H Q E=>∃(h:Addr) (nm:Str) (b:Int) (ag:Int) (k n:Addr) (qs:List Kq) (ps:List Pe),vs=[.ref h,.str nm,.int b]/\HeadAt H h ag k qs n ps/\Ri KW qs/\qs.length<=60/\Tb PT PU H/\
 ((putL id nm (qs.map KW)).length<=8->∀h' k' a H',St H H'->Tb PT PU H'->HeadAt H' h' ag k' (putL KW (a,nm,b) qs) n ps->Q (.ref h') H')/\(8<(putL id nm (qs.map KW)).length->∀H',St H H'->Tb PT PU H'->Ex XC E H' .many)
theorem MN (T:Txt K mg C XC)(F:Fun K "with_keeper" "with_keeper" F2 f fd)(DA:Def P w K mg base 1 "put_among" ["some","one"] (G1 K PU)):FnOk P w K mg base (E7 P w) 2 f fd ["head","name","bound"] (HD K XC PT PU):=by
 refine F.okE Hv (λvs H Q E h=>?_) (λcdv A outer s H vs Q E hr h=>?_)
 ·obtain⟨h,nm,b,ag,k,n,qs,ps,rfl,_⟩:=h;rfl
 obtain⟨h,nm,b,ag,k,n,qs,ps,rfl,hd,ri,few,tb,q1,q2⟩:=h;refine⟨_,(!Ad (@Av _ _ (3) _ _ _ _ Hv.nd rfl ∅ (!AH DA ∅ rfl (!Aa (!An Ar (pv 0) (!Ag) (λ_ _=>rfl)) (!Aa (!Az (!Aa (pv 1) (!Aa (pv 2) (!Ab)))) (!Ab)))) (by rfl) ∅) (!Ad (!AJ (!Ax IQ (!AA BQ (by rfl) T.b_len CO (!Aa (pv 3) (!Ab))) (!Cd rfl T.c_MOST_KEEPERS) (AC _)) (!Af (!Gi Ga rfl T.x_TooMany T.q_TooMany)) (!Ao)) (!Af (!Aq (!Az (!Aa (!An Ar (pv 0) (!Ag) (λ_ _=>rfl)) (!Aa (pv 3) (!Aa (!An Ar (pv 0) (!Ag) (λ_ _=>rfl)) (!Ab))))))))),?_⟩
 try dsimp only[A4,Cx.nox,Cx.wish]
 refine⟨_,rfl,h,_,_,_,rfl,rfl,AW.of hd.at_,Ah (j:=1) rfl,_,rfl,_,rfl,Bs,λa na=>?_⟩;have s0:=Ae na (.tup [V.str nm,V.int b]);have ha:(upd H a (.tup [V.str nm,V.int b])) a=some (.tup [V.str nm,V.int b]):=Ac;have tb0:=tb.same s0;have hd0:=hd.st (AE s0);generalize upd H a (.tup [V.str nm,V.int b])=H0 at s0 ha tb0 hd0;refine⟨k,a,nm,qs.map λp=>(p.1,p.2.1),rfl,by rw[az];exact hd0.kp,λr hr9=>?_,⟨_,ha⟩,(OY (key':=λp:Addr×Str=>p.2) (key:=KW) λ_=>rfl).mpr ri,by rw[aa];exact few,tb0.b,λn' H1 st1 tb1 nn' hn'=>?_⟩
 ·obtain⟨r,hr8,rfl⟩:=aj.mp hr9;exact⟨_,hd0.ke r hr8⟩
 have S1:=LU st1 tb0.b tb1;have T1:=tb0.r st1 tb1;have S01:=(AE s0).trans S1;have hd1:=hd0.st S1;have ha1:=S1.tup ha;rw[<-Gh (key:=KW) (g:=λp:Kq=>(p.1,p.2.1)) (λ_=>rfl) (a,nm,b) qs,az] at hn';have le:((putL KW (a,nm,b) qs).map ((λp:Addr×Str=>V.ref p.1)∘λp:Kq=>(p.1,p.2.1))).length=(putL id nm (qs.map KW)).length:=by
  rw[aa,<-Gh (key:=KW) (key':=id) (g:=KW) (λ_=>rfl) (a,nm,b) qs,aa]
 refine⟨_,rfl,n',_,rfl,.inr (AW.of hn'),_,_,rfl,rfl,_,rfl,DQ (λc=>?_) (λc=>?_)⟩
 ·have c':=aE c;rw[le] at c';exact q2 (by omega) H1 S01 T1
 ·have c':=dec_false c;rw[le] at c';refine⟨_,rfl,h,_,_,_,rfl,rfl,AW.of hd1.at_,Ah (j:=0) rfl,_,rfl,_,rfl,h,_,_,_,rfl,rfl,AW.of hd1.at_,Ah (j:=2) rfl,MX,λh' nh'=>?_⟩;have s2:=Ae nh' (.tup [V.int ag,V.ref n',V.ref n]);have S2:=S01.trans (AE s2);refine q1 (by omega) h' n' a _ S2 (T1.same s2) ⟨Ac,s2.get hn',λq hq=>?_,S2.tup hd.nm,λr hr=>(hd.en r hr).sd S2.sd⟩;rcases(Fh ri).mp hq with rfl|⟨hq,_⟩
  ·exact s2.get ha1
  ·exact S2.tup (hd.ke q hq)
def E5 (K:W.Frag):Sp:=λvs H Q _=>∃(h:Addr) (ag:Int) (k n:Addr) (qs:List Kq) (ps:List Pe),vs=[.ref h]/\HeadAt H h ag k qs n ps/\∀h' H',Aw H H'->HeadAt H' h' (ag+1) k qs n ps->Q (.ref h') H'
theorem OD (T:Txt K mg C XC)(F:Fun K "one_older" "one_older" HQ f fd):FnOk P w K mg base Ef 1 f fd ["head"] (E5 K):=by
 exists OX
 ·obtain⟨h,ag,k,n,qs,ps,rfl,_⟩:=h;rfl
 obtain⟨h,ag,k,n,qs,ps,rfl,hd,q⟩:=h;refine⟨_,(!Af (!Aq (!Az (!Aa (!Ay Ce (!An Ar (pv 0) (!Ag) (λ_ _=>rfl)) (!Ag)) (!Aa (!An Ar (pv 0) (!Ag) (λ_ _=>rfl)) (!Aa (!An Ar (pv 0) (!Ag) (λ_ _=>rfl)) (!Ab))))))),?_⟩
 try dsimp only[A4,Cx.nox,Cx.wish]
 refine⟨_,rfl,h,_,_,_,rfl,rfl,AW.of hd.at_,Ah (j:=0) rfl,_,_,rfl,rfl,_,rfl,h,_,_,_,rfl,rfl,AW.of hd.at_,Ah (j:=1) rfl,_,rfl,h,_,_,_,rfl,rfl,AW.of hd.at_,Ah (j:=2) rfl,MX,λh' nh'=>?_⟩;have s2:=Ae nh' (.tup [V.int (ag+1),V.ref k,V.ref n]);exact q h' _ s2 ⟨Ac,s2.get hd.kp,λq hq=>s2.get (hd.ke q hq),s2.get hd.nm,λr hr=>(hd.en r hr).sd (AE s2).sd⟩
theorem filter_tt {α:Type}(l:List α):l.filter (λ_=>true)=l:=dF.mpr λ_ _=>rfl
def keepR (nm:Str)(ks:List Str):Option Rf:=if Bh (.str nm)=true then(if(putL id nm ks).length<=8 then none else some .many) else some (.noName nm)
def RS (fs:Option Pe)(sm nm:Str)(ns:List Str):Option Rf:=match fs with
 |none=>some (.noName sm)
 |some _=>match MW nm ns with
  |some r=>some r
  |none=>if ns.length<24 then none else some .many
def Ho (K:W.Frag)(XC:Nat->Addr)(PT PU:Addr):Sp:=λvs H Q E=>∃(h:Addr) (nm:Str) (b:Int) (ag:Int) (k n:Addr) (qs:List Kq) (ps:List Pe),vs=[.ref h,.str nm,.int b]/\HeadAt H h ag k qs n ps/\Ri KW qs/\qs.length<=8/\nm.length<=1000/\Tb PT PU H/\
 (∀r,keepR nm (qs.map KW)=some r->∀H',St H H'->Tb PT PU H'->Ex XC E H' r)/\(keepR nm (qs.map KW)=none->∀h' k' a H',St H H'->Tb PT PU H'->HeadAt H' h' (ag+1) k' (putL KW (a,nm,b) qs) n ps->Q (.ref h') H')
theorem Mp (T:Txt K mg C XC)(F:Fun K "keeper_told" "keeper_told" FU f fd)(Ca:Def P w K mg base 1 "one_older" ["head"] (E5 K))(CV:Def P w K mg base 2 "is_name" ["thing"] (GP K))(AY:Jn P w K mg base 1 "NoName" (XC 0) "name" ["self","name"])(F0:CY P w K mg base 2 "with_keeper" ["head","name","bound"] (HD K XC PT PU)):FnOk P w K mg base (E7 P w) 3 f fd ["head","name","bound"] (Ho K XC PT PU):=by
 refine F.okE LM (λvs H Q E h=>?_) (λcdv A outer s H vs Q E hr h=>?_)
 ·obtain⟨h,nm,b,ag,k,n,qs,ps,rfl,_⟩:=h;rfl
 obtain⟨h,nm,b,ag,k,n,qs,ps,rfl,hd,ri,few,ln,tb,q1,q2⟩:=h;refine⟨_,(!Ad (!AJ (!Cg (!Bq (!AH CV ∅ rfl (!Aa (pv 1) (!Ab))) (by intro _;rfl))) (!Af (!B0 BD rfl AY ∅ rfl (!Aa (pv 1) (!Ab)))) (!Ao)) (!Af (!Aq (!AH Ca ∅ rfl (!Aa (!Bl F0 ∅ rfl Au (!Aa (pv 0) (!Aa (pv 1) (!Aa (pv 2) (!Ab))))) (!Ab)))))),?_⟩
 try dsimp only[A4,Cx.nox,Cx.wish]
 refine⟨_,rfl,.str nm,rfl,ln,λH1 s1=>⟨_,rfl,?_⟩⟩;have hd1:=hd.st (AE s1);have tb1:=tb.same s1;unfold keepR at q1 q2;cases nb:Bh (.str nm) with
 |false=>
  rw[nb,ai ay] at q1;exact AG rfl ⟨_,rfl,_,rfl,q1 _ rfl H1 (AE s1) tb1⟩
 |true=>
  rw[nb,ak rfl] at q1 q2;refine As rfl ⟨_,rfl,_,rfl,_,rfl,h,nm,b,ag,k,n,qs,ps,rfl,hd1,ri,by omega,tb1,λle h' k' a H2 S2 T2 hd2=>?_,λgt H2 S2 T2=>?_⟩
  ·exact⟨h',ag,k',n,_,ps,rfl,hd2,λh3 H3 s3 hd3=>q2 (ak le) h3 k' a H3 (((AE s1).trans S2).trans (AE s3)) (T2.same s3) hd3⟩
  ·exact q1 _ (ai (by omega)) H2 ((AE s1).trans S2) T2
def Io (K:W.Frag)(XC:Nat->Addr)(PT PU:Addr):Sp:=λvs H Q E=>∃(h:Addr) (sm nm:Str) (ag:Int) (k n:Addr) (qs:List Kq) (ps:List Pe),vs=[.ref h,.str sm,.str nm]/\HeadAt H h ag k qs n ps/\Ri F4 ps/\ps.length<=60/\nm.length<=1000/\Tb PT PU H/\
 (∀r,RS (fst sm ps) sm nm (ps.map F4)=some r->∀H',St H H'->Tb PT PU H'->Ex XC E H' r)/\
 (∀p,fst sm ps=some p->RS (fst sm ps) sm nm (ps.map F4)=none->∀h' n' a H',St H H'->Tb PT PU H'->HeadAt H' h' (ag+1) k qs n' (putL F4 ⟨a,p.t,.sl nm sm (ag+1) p.e.tr⟩ ps)->Q (.ref h') H')
theorem MI (T:Txt K mg C XC)(F:Fun K "stem_sealed" "stem_sealed" FI f fd)(BG:CY P w K mg base 4 "stem_called" ["head","name"] (DJ K XC))(B1:CY P w K mg base 3 "check_new_name" ["head","name"] (DY K XC))(CZ:CY P w K mg base 1 "check_room" ["head"] (FP K XC))(Ca:Def P w K mg base 1 "one_older" ["head"] (E5 K))(C3:Def P w K mg base 2 "with_named" ["head","named"] (FW K PT PU)):FnOk P w K mg base (E7 P w) 5 f fd ["head","stem","name"] (Io K XC PT PU):=by
 refine F.okE Iq (λvs H Q E h=>?_) (λcdv A outer s H vs Q E hr h=>?_)
 ·obtain⟨h,sm,nm,ag,k,n,qs,ps,rfl,_⟩:=h;rfl
 obtain⟨h,sm,nm,ag,k,n,qs,ps,rfl,hd,ri,few,ln,tb,q1,q2⟩:=h;refine⟨_,(!Ad (@Av _ _ (3) _ _ _ _ Iq.nd rfl ∅ (!Bl BG ∅ rfl Au (!Aa (pv 0) (!Aa (pv 1) (!Ab)))) (by rfl) ∅) (!Ad (!AD (!Bl B1 ∅ rfl Au (!Aa (pv 0) (!Aa (pv 2) (!Ab))))) (!Ad (!AD (!Bl CZ ∅ rfl Au (!Aa (pv 0) (!Ab)))) (!Af (!Aq (!AH Ca ∅ rfl (!Aa (!AH C3 ∅ rfl (!Aa (pv 0) (!Aa (!Az (!Aa (pv 2) (!Aa (!Cd rfl T.c_SEAL) (!Aa (pv 1) (!Aa (!Ay Ce (!An Ar (pv 0) (!Ag) (λ_ _=>rfl)) (!Ag)) (!Aa (!An Ar (pv 3) (!Ag) (λ_ _=>rfl)) (!Ab))))))) (!Ab)))) (!Ab)))))))),?_⟩
 try dsimp only[A4,Cx.nox,Cx.wish]
 refine⟨_,rfl,_,rfl,h,sm,ag,k,n,qs,ps,rfl,hd,λp hp=>?_,λno=>q1 _ (by rw[no];rfl) H (.refl _) tb⟩;rw[hp] at q1 q2;obtain⟨mp,kp,og,t,ep⟩:=US hp;refine⟨_,rfl,_,rfl,h,nm,ag,k,n,qs,ps,rfl,hd,ln,λH1 s1=>?_⟩;have hd1:=hd.st (AE s1);have tb1:=tb.same s1;cases e:MW nm (ps.map F4) with
 |some r=>exact q1 r (by show(match MW nm (ps.map F4) with|some r=>some r|none=>_)=_;rw[e]) H1 (AE s1) tb1
 |none=>
  have er:RS (some p) sm nm (ps.map F4)=if(ps.map F4).length<24 then none else some .many:=by
   show(match MW nm (ps.map F4) with|some r=>some r|none=>_)=_;rw[e]
  rw[er,aa] at q1 q2;refine⟨_,rfl,h,ag,k,n,qs,ps,rfl,hd1,λlt=>?_,λle=>q1 _ (ai (by omega)) H1 (AE s1) tb1⟩;have y:=hd1.en p mp;have y2:=y.2;rw[ep] at y2;refine⟨_,rfl,_,rfl,_,rfl,_,rfl,h,_,_,_,rfl,rfl,AW.of hd1.at_,Ah (j:=0) rfl,_,_,rfl,rfl,_,rfl,p.a,_,_,_,rfl,rfl,AW.of y2,Ah (j:=4) rfl,T9,λa na=>?_⟩;have s2:=Ae na (.tup ((En.sl nm sm (ag+1) p.e.tr).items p.t));have h2:(upd H1 a (.tup ((En.sl nm sm (ag+1) p.e.tr).items p.t))) a=some (.tup ((En.sl nm sm (ag+1) p.e.tr).items p.t)):=Ac;refine⟨h,⟨a,p.t,.sl nm sm (ag+1) p.e.tr⟩,ag,k,n,qs,ps,rfl,hd1.st (AE s2),⟨s2.get y.1,h2⟩,ri,few,tb1.same s2,λh3 n3 H3 S3 T3 nh3 hd3=>?_⟩;exact⟨h3,ag,k,n3,qs,_,rfl,hd3,λh4 H4 s4 hd4=>q2 p rfl (ak lt) h4 n3 a H4 ((((AE s1).trans (AE s2)).trans S3).trans (AE s4)) (T3.same s4) hd4⟩
structure TrV (t:AM):Prop where
 nd:(t.map (·.1)).Nodup
 vp:∀p∈t,VP p.1/\p.1≠[]
 deep:∀p∈t,p.1.length<=16
 few:t.length<=200
def lk (t:AM)(P:List Str):Option (Option Str):=(t.find? λp=>decide (p.1=P)).map (·.2)
theorem On (P:List Str):lk [] P=none:=rfl
theorem CG (p:List Str×Option Str)(t:AM)(P:List Str):lk (p::t) P=if p.1=P then some p.2 else lk t P:=by
 unfold lk;rw[bK]
 by_cases c:p.1=P
 ·rw[av c,ak c];rfl
 ·rw[aq c,ai c]
theorem Q0:∀{t:AM} (_:∀p∈t,VP p.1) {P:List Str} (_:CP P),F5 (Bx t) (.inr (jn P))=(lk t P).map cV
 |[],_,_,_=>rfl
 |p::t,h,P,vP=>by
  rw[CG]
  by_cases c:p.1=P
  ·rw[ak c];exact CL (by show(Sum.inr (jn p.1):Key)=_;rw[c])
  ·rw[ai c];refine(CU (show(Sum.inr (jn p.1):Key)≠.inr (jn P) from λe=>c (FM (h p aw).cp vP (bq e)))).trans ?_;exact Q0 (λq hq=>h q (ao _ hq)) vP
theorem Cq {t:AM}{P:List Str}{v:Option Str}(h:lk t P=some v):(P,v)∈t:=by
 unfold lk at h;obtain⟨p,hp,e⟩:=aU.mp h;have h2:=aE (eU (p:=λp:List Str×Option Str=>decide (p.1=P)) hp);have:p=(P,v):=Prod.ext h2 e;rw[<-this];exact cW hp
def Jq (t:AM)(P:List Str):Bool:=decide (P=[])||decide (lk t P=some none)
def Ei (t:AM)(p:List Str×Option Str):AM:=if(t.any λq=>decide (q.1=p.1))=true then t.map (λq=>if q.1=p.1 then(q.1,p.2) else q) else t++[p]
def Bz (t more:AM):AM:=more.foldl Ei t
def E3 (t:AM)(P:List Str):AM:=t.filter λp=>!decide (p.1=P) && !Dq p.1 P
def DD (t:AM)(P to:List Str):AM:=(to,(lk t P).getD none)::(t.filter λp=>Dq p.1 P).map λp=>(to++p.1.drop P.length,p.2)
theorem VQ {t:AM}{p:List Str×Option Str}(h:∀q∈t,VP q.1)(hp:VP p.1):putK (Bx t) (.inr (jn p.1)) (cV p.2)=Bx (Ei t p):=by
 have inj:∀q∈t,((Sum.inr (jn q.1):Key)=.inr (jn p.1))↔q.1=p.1:=λq hq=>⟨λe=>FM (h q hq).cp hp.cp (bq e),λe=>by rw[e]⟩
 unfold putK Ei;have ea:(Bx t).any (λkv=>decide (kv.1=Sum.inr (jn p.1)))=t.any λq=>decide (q.1=p.1):=by
  unfold Bx;rw[List.any_map,cn,bV,bV];constructor
  ·rintro⟨q,hq,e⟩
   exact⟨q,hq,av ((inj q hq).mp (aE e))⟩
  ·rintro⟨q,hq,e⟩
   exact⟨q,hq,av ((inj q hq).mpr (aE e))⟩
 rw[ea]
 by_cases c:(t.any λq=>decide (q.1=p.1))=true
 ·rw[ak c,ak c];unfold Bx;rw[az,az];refine bf λq hq=>?_
  show(if(Sum.inr (jn q.1):Key)=.inr (jn p.1) then((Sum.inr (jn q.1):Key),cV p.2) else(Sum.inr (jn q.1),cV q.2))=Y6 (if q.1=p.1 then(q.1,p.2) else q)
  by_cases d:q.1=p.1
  ·rw[ak ((inj q hq).mpr d),ak d]
  ·rw[ai (λe=>d ((inj q hq).mp e)),ai d]
 ·rw[ai c,ai c];unfold Bx;rw[aO];rfl
theorem Mx {t:AM}{p q:List Str×Option Str}(h:q∈Ei t p):q.1=p.1\/q∈t:=by
 unfold Ei at h
 split at h
 ·obtain⟨x,hx,e⟩:=aj.mp h
  by_cases c:x.1=p.1
  ·rw[ak c] at e;exact .inl (by rw[<-e];exact c)
  ·rw[ai c] at e;exact .inr (e▸hx)
 ·rcases aK.mp h with h|h
  ·exact .inr h
  ·exact .inl (by rw[ah.mp h])
theorem Of:∀{more t:AM},(∀q∈t,VP q.1)->(∀q∈more,VP q.1)->ER (Bx t) (Bx more)=Bx (Bz t more)
 |[],_,_,_=>rfl
 |p::more,t,h,hm=>by
  have h1:=hm p aw;have:ER (Bx t) (Bx (p::more))=ER (putK (Bx t) (.inr (jn p.1)) (cV p.2)) (Bx more):=rfl;rw[this,VQ h h1];refine Of (λq hq=>?_) λq hq=>hm q (ao _ hq)
  rcases Mx hq with e|hq
  ·rw[e];exact h1
  ·exact h q hq
theorem K5:∀{more t:AM} {q:List Str×Option Str},q∈Bz t more->(∃p∈more,q.1=p.1)\/q∈t
 |[],_,_,h=>.inr h
 |p::more,t,q,h=>by
  rcases K5 (more:=more) (t:=Ei t p) h with⟨x,hx,e⟩|h
  ·exact .inl ⟨x,ao _ hx,e⟩
  ·rcases Mx h with e|h
   ·exact .inl ⟨p,aw,e⟩
   ·exact .inr h
theorem Sy (t:AM)(p:List Str×Option Str):(Ei t p).map (·.1)=t.map (·.1)\/((Ei t p).map (·.1)=t.map (·.1)++[p.1]/\p.1∉t.map (·.1)):=by
 unfold Ei
 split
 ·refine .inl ?_;rw[az];refine bf λq _=>?_
  show(if q.1=p.1 then(q.1,p.2) else q).1=q.1
  split<;>rfl
 ·next c=>
  refine .inr ⟨by rw[aO];rfl,λz=>?_⟩;obtain⟨q,hq,e⟩:=aj.mp z;exact c (bV.mpr ⟨q,hq,av e⟩)
theorem RT {t:AM}{p:List Str×Option Str}(h:(t.map (·.1)).Nodup):((Ei t p).map (·.1)).Nodup:=by
 rcases Sy t p with e|⟨e,n⟩
 ·rw[e];exact h
 ·rw[e,dQ];exact⟨h,by simp,λa ha b hb z=>n (by rw[ah.mp hb] at z;rw[<-z];exact ha)⟩
theorem P5:∀{more t:AM},(t.map (·.1)).Nodup->((Bz t more).map (·.1)).Nodup
 |[],_,h=>h
 |p::more,t,h=>P5 (more:=more) (t:=Ei t p) (RT h)
theorem U0 (t:AM)(p:List Str×Option Str):(Ei t p).length<=t.length+1:=by
 unfold Ei
 split
 ·rw[aa];omega
 ·rw[ar];exact au _
theorem NL:∀(more t:AM),(Bz t more).length<=t.length+more.length
 |[],_=>au _
 |p::more,t=>by
  have h1:=NL more (Ei t p);have h2:=U0 t p;show(Bz (Ei t p) more).length<=t.length+(more.length+1);omega
def GB (K:W.Frag):Sp:=λvs H Q _=>∃(I:List Str) (s:Str),vs=[.str (jn (I++[s]))]/\VP (I++[s])/\I.length<=20/\∀H',Aw H H'->Q (.str (jn I)) H'
theorem Om (T:Txt K mg C XC)(F:Fun K "folder_of" "folder_of" Ic f fd):FnOk P w K mg base Ef 1 f fd ["path"] (GB K):=by
 exists Pd
 ·obtain⟨I,s,rfl,_⟩:=h;rfl
 obtain⟨I,st,rfl,vp,ln,q⟩:=h;refine⟨_,(!Af (!Aq (!An Ar (!Dm bz PySem.F.slot_str_rpartition PySem.F.type_str_rpartition Nu (pv 0) (!Aa (!Aj) (!Ab))) (!Ag) (λ_ _=>rfl)))),?_⟩
 try dsimp only[A4,Cx.nox,Cx.wish]
 obtain⟨a,b,e⟩:=Wm vp;have l1:=D5 vp;rw[ar,bc] at l1;refine⟨_,rfl,rfl,jn (I++[st]),SL,rfl,rfl,by decide +kernel,by omega,λp np=>?_⟩;rw[e];have s1:=Ae np (.tup ([jn I,a,b].map V.str));exact⟨p,_,_,_,rfl,rfl,AW.of Ac,Ah (j:=0) rfl,q _ s1⟩
def HL (K:W.Frag)(XC:Nat->Addr):Sp:=λvs H Q E=>∃P:List Str,vs=[.str (jn P)]/\CP P/\(jn P).length<=1000/\(Gp P->∀l H',Aw H H'->H' l=some (.lst (P.map V.str))->Q (.ref l) H')/\(¬Gp P->∀H',Aw H H'->Ex XC E H' (.noPath (jn P)))
theorem PM (T:Txt K mg C XC)(F:Fun K "steps_in" "steps_in" Js f fd)(AO:Jn P w K mg base 1 "NoPath" (XC 5) "path" ["self","path"])(CV:Def P w K mg base 2 "is_name" ["thing"] (GP K)):FnOk P w K mg base (E7 P w) 3 f fd ["path"] (HL K XC):=by
 refine F.okE K7 (λvs H Q E h=>?_) (λcdv A outer s H vs Q E hr h=>?_)
 ·obtain⟨P,rfl,_⟩:=h;rfl
 obtain⟨P,rfl,vp,l1,q,qn⟩:=h;have hu:=C4 hr;refine⟨_,(!Ad (!AJ (!Ax Ck (pv 0) (!Aj) (AC _)) (!Af (!Aq (!Bk (!Ab)))) (!Ao)) (!Ad (@Av _ _ (1) _ _ _ _ K7.nd rfl ∅ (!Dm bz gZ gX Qn (pv 0) (!Aa (!Aj) (!Ab))) (by rfl) ∅) (!Ad (!AJ (@PW.pt _ _ _ (!D1 (!Ax IQ (!AA BQ (by rfl) T.b_len CO (!Aa (pv 1) (!Ab))) (!Cd rfl T.c_MOST_STEPS) (AC _)) (!CM (!Cg (!Bq (!AA (Gg rfl) (by rfl) T.b_all KD (!Aa (@Ge _ ["step"] _ _ _ _ _ _ _ _ _ _ rfl (!Cb (pv 1)) (by decide +kernel) (λC s H fp=>⟨(@AK _ _ (0) _ (show(["step"]:List Str).Nodup by decide +kernel) rfl ∅ ∅),(!CK),(!AH CV ∅ rfl (!Aa (pv 0) (!Ab)))⟩) (by intro _;rfl)) (!Ab))) (by intro _;rfl)))))) (!Af (!B0 BD rfl AO ∅ rfl (!Aa (pv 0) (!Ab)))) (!Ao)) (!Af (!Aq (pv 1)))))),?_⟩
 try dsimp only[A4,Cx.nox,Cx.wish]
 by_cases e:P=[]
 ·subst e;refine⟨_,rfl,rfl,_,rfl,AG (av rfl) ⟨MT,λl hl=>q ⟨(λ_ h=>nomatch h),by decide⟩ l _ (Ae hl _) Ac⟩⟩
 refine⟨_,rfl,rfl,_,rfl,As (aq λz=>Lk e vp (V.str.inj z)) ?_⟩;have lp:=Og P;refine⟨_,rfl,rfl,jn P,SL,rfl,rfl,rfl,by omega,λp hp=>?_⟩;rw[JU e vp];have s1:=Ae hp (.lst (P.map V.str));have h1:(upd H p (.lst (P.map V.str))) p=some (.lst (P.map V.str)):=Ac;generalize upd H p (.lst (P.map V.str))=H1 at s1 h1;refine⟨_,rfl,p,_,rfl,.inl (AV.of h1),_,_,rfl,rfl,_,rfl,DQ (λc=>?_) (λc=>?_)⟩
 ·have c':=aE c;rw[aa] at c';exact AG rfl ⟨_,rfl,_,rfl,qn (λg=>by have:=g.2;omega) H1 s1⟩
 have l8:P.length<=8:=by
  have c':=fD (cj.mpr c);rw[aa] at c';omega
 refine⟨_,rfl,p,rfl,⟨_,AV.of h1⟩,?_⟩;refine Eh (ps:=P) (g:=V.str) (λ_=>true) (λz=>V.bl (Bh (.str z))) (E9 (AV.of h1)) (by omega) (λr hr H' R s' hR=>hR) (λz hz _ H' R s' hR=>?_) λl H7 n7 s7 h7=>?_
 ·exact⟨_,rfl,.str z,rfl,(by have:=Ql hz;show z.length<=1000;omega),λH8 s8=>hR H8 s8⟩
 rw[filter_tt] at h7;have h7':H7 l=some (.lst ((P.map λz=>Bh (.str z)).map V.bl)):=by rw[h7,az];rfl
 refine⟨l,_,rfl,AV.of h7',_,rfl,?_⟩;cases e1:(P.map λz=>Bh (.str z)).all id with
 |true=>
  have g:VP P:=λz hz=>by
   rw[cB,a5] at e1;exact e1 z hz
  exact As rfl ⟨_,rfl,q ⟨g,l8⟩ p H7 (s1.trans s7) (s7.get h1)⟩
 |false=>
  refine AG rfl ⟨_,rfl,_,rfl,qn (λg=>?_) H7 (s1.trans s7)⟩;have:(P.map λz=>Bh (.str z)).all id=true:=by rw[cB];exact a5.mpr λz hz=>g.1 z hz
  rw[this] at e1;cases e1
def Ep (K:W.Frag):Sp:=λvs H Q _=>∃(A B:List Str),vs=[.str (jn A),.str (jn B)]/\CP A/\VP B/\B.length<=30/\Q (.bl (Dq A B)) H
theorem M9 (T:Txt K mg C XC)(F:Fun K "is_beneath" "is_beneath" Gv f fd):FnOk P w K mg base Ef 1 f fd ["path","other"] (Ep K):=by
 exists MZ
 ·obtain⟨A,B,rfl,_⟩:=h;rfl
 obtain⟨A,B,rfl,vA,vB,lB,q⟩:=h;refine⟨_,(!Ad (!AJ (!Ax Ck (pv 1) (!Aj) (AC _)) (!Af (!Aq (!Ej JO (pv 0) (!Aj) (AC _)))) (!Ao)) (!Af (!Aq (!Dm bz gh gf IS (pv 0) (!Aa (!Ay AR (pv 1) (!Aj)) (!Ab)))))),?_⟩
 try dsimp only[A4,Cx.nox,Cx.wish]
 by_cases e:B=[]
 ·subst e;refine⟨_,rfl,rfl,_,rfl,AG (av rfl) ⟨_,rfl,rfl,?_⟩⟩;have:V.bl (!decide (V.str (jn A)=V.str EM))=V.bl (Dq A []):=by
   unfold Dq
   by_cases c:A=[]
   ·subst c;rfl
   ·rw[aq λz=>Lk c vA (V.str.inj z),av (show A.take ([]:List Str).length=[] from rfl),av (show A.length>([]:List Str).length from iq.mpr c)];rfl
  rw[<-this] at q;exact q
 ·refine⟨_,rfl,rfl,_,rfl,As (aq λz=>Lk e vB.cp (V.str.inj z)) ?_⟩;rw[<-NR vA vB.cp e] at q;have l1:=D5 vB;exact⟨_,rfl,rfl,_,rfl,_,_,rfl,rfl,small (by show(jn B).length+1<=1000000;omega),_,_,rfl,rfl,q⟩
def Mq (K:W.Frag):Sp:=λvs H Q _=>∃(A B:List Str),vs=[.str (jn A),.str (jn B)]/\VP A/\VP B/\A≠[]/\B≠[]/\A.length<=30/\B.length<=30/\Q (.str (jn (A++B))) H
theorem QT (T:Txt K mg C XC)(F:Fun K "path_to" "path_to" Kt f fd):FnOk P w K mg base Ef 1 f fd ["folder","name"] (Mq K):=by
 exists QH
 ·obtain⟨A,B,rfl,_⟩:=h;rfl
 obtain⟨A,B,rfl,vA,vB,nA,nB,lA,lB,q⟩:=h;refine⟨_,(!Ad (!AJ (!Ax Ck (pv 0) (!Aj) (AC _)) (!Af (!Aq (pv 1))) (!Ao)) (!Af (!Aq (!Ay AR (!Ay AR (pv 0) (!Aj)) (pv 1))))),?_⟩
 try dsimp only[A4,Cx.nox,Cx.wish]
 have l1:=D5 vA;have l2:=D5 vB;rw[<-QB nA nB] at q;have e:(jn A++SL).length=(jn A).length+1:=bR _ _;refine⟨_,rfl,rfl,_,rfl,As (aq λz=>Lk nA vA.cp (V.str.inj z)) ?_⟩;exact⟨_,rfl,_,_,rfl,rfl,small (by show(jn A).length+1<=1000000;omega),_,rfl,_,_,rfl,rfl,small (by rw[e];omega),q⟩
theorem KP {H:Hp}{d:Addr}{t:AM}(h:H d=some (.dK (Bx t)))(v:∀p∈t,VP p.1){P:List Str}(vP:CP P):EO H d (.str (jn P)) ((lk t P).map cV):=by
 have g:=EO.k (k:=Sum.inr (jn P)) h;rw[Q0 v vP] at g;exact g
theorem TrV.v {t:AM}(h:TrV t):∀p∈t,VP p.1:=λp hp=>(h.vp p hp).1
def GY (K:W.Frag):Sp:=λvs H Q _=>∃(d:Addr) (P:List Str) (t:AM),vs=[.ref d,.str (jn P)]/\H d=some (.dK (Bx t))/\(∀p∈t,VP p.1)/\VP P/\Q (.bl (Jq t P)) H
theorem Ow (T:Txt K mg C XC)(F:Fun K "is_folder" "is_folder" Hx f fd):FnOk P w K mg base Ef 1 f fd ["tree","path"] (GY K):=by
 exists OQ
 ·obtain⟨d,P,t,rfl,_⟩:=h;rfl
 obtain⟨d,P,t,rfl,hd,v,vP,q⟩:=h;have hu:=C4 hr;refine⟨_,(!Af (!Aq (!RY (!Ej Ck (pv 1) (!Aj) (AC _)) (!Mj (!Vj (!RC (!UK hu (pv 1) (pv 0)) (by first|exact Bt _ (by decide) (by decide)|rfl)) (!Mj (!RC (!FZ (!B4 hu (pv 0) (pv 1) (λ_ _=>rfl))) (by first|exact Bt _ (by decide) (by decide)|rfl)))))))),?_⟩
 try dsimp only[A4,Cx.nox,Cx.wish]
 by_cases e:P=[]
 ·subst e;exact⟨_,rfl,rfl,_,rfl,AG (av rfl) q⟩
 ·refine⟨_,rfl,rfl,_,rfl,As (aq λz=>Lk e vP.cp (V.str.inj z)) ?_⟩;have g:=KP hd v vP.cp;unfold Jq at q;rw[aq e,Bool.false_or] at q;cases el:lk t P with
  |none=>
   rw[el] at g q;exact⟨_,rfl,_,rfl,d,_,rfl,g,_,rfl,As rfl q⟩
  |some c=>
   rw[el] at g q;refine⟨_,rfl,_,rfl,d,_,rfl,g,_,rfl,AG rfl ⟨_,rfl,_,rfl,d,_,rfl,g,?_⟩⟩;cases c with
   |none=>exact q
   |some c=>exact q
def FJ (K:W.Frag)(XC:Nat->Addr):Sp:=λvs H Q E=>∃(d:Addr) (P:List Str) (t:AM),vs=[.ref d,.str (jn P)]/\H d=some (.dK (Bx t))/\(∀p∈t,VP p.1)/\CP P/\(∀c,lk t P=some (some c)->Q (.str c) H)/\((∀c,lk t P≠some (some c))->Ex XC E H (.noPath (jn P)))
theorem M5 (T:Txt K mg C XC)(F:Fun K "content_in" "content_in" Gn f fd)(AO:Jn P w K mg base 1 "NoPath" (XC 5) "path" ["self","path"]):FnOk P w K mg base (E7 P w) 3 f fd ["tree","path"] (FJ K XC):=by
 refine F.okE M8 (λvs H Q E h=>?_) (λcdv A outer s H vs Q E hr h=>?_)
 ·obtain⟨d,P,t,rfl,_⟩:=h;rfl
 obtain⟨d,P,t,rfl,hd,v,vP,q1,q2⟩:=h;have hu:=C4 hr;refine⟨_,(!Ad (!AJ (@PW.pt _ _ _ (!D1 (!DT (!K4 hu (pv 1) (pv 0)) (by first|exact Bt _ (by decide) (by decide)|rfl)) (!CM (!DT (!FZ (!B4 hu (pv 0) (pv 1) (λ_ _=>rfl))) (by first|exact Bt _ (by decide) (by decide)|rfl))))) (!Af (!B0 BD rfl AO ∅ rfl (!Aa (pv 1) (!Ab)))) (!Ao)) (!Af (!Aq (!B4 hu (pv 0) (pv 1) (λ_ _=>rfl))))),?_⟩
 try dsimp only[A4,Cx.nox,Cx.wish]
 have g:=KP hd v vP;cases el:lk t P with
 |none=>
  rw[el] at g;exact⟨_,rfl,_,rfl,d,_,rfl,g,_,rfl,AG rfl (AG rfl ⟨_,rfl,_,rfl,q2 λc z=>by rw[el] at z;cases z⟩)⟩
 |some c=>
  rw[el] at g;cases c with
  |none=>
   exact⟨_,rfl,_,rfl,d,_,rfl,g,_,rfl,As rfl ⟨_,rfl,_,rfl,d,_,rfl,g,_,rfl,AG rfl ⟨_,rfl,_,rfl,q2 λc z=>by rw[el] at z;cases z⟩⟩⟩
  |some c=>
   exact⟨_,rfl,_,rfl,d,_,rfl,g,_,rfl,As rfl ⟨_,rfl,_,rfl,d,_,rfl,g,_,rfl,As rfl ⟨_,rfl,_,rfl,d,_,rfl,g,q1 c el⟩⟩⟩
def D3 (t:AM)(P:List Str):Prop:=P≠[]/\Gp P/\Jq t P.dropLast=true
def GM (K:W.Frag)(XC:Nat->Addr):Sp:=λvs H Q E=>∃(d:Addr) (P:List Str) (t:AM),vs=[.ref d,.str (jn P)]/\H d=some (.dK (Bx t))/\(∀p∈t,VP p.1)/\CP P/\(jn P).length<=1000/\(D3 t P->∀H',Aw H H'->Q .non H')/\(¬D3 t P->∀H',Aw H H'->Ex XC E H' (.noPath (jn P)))
theorem Oo (T:Txt K mg C XC)(F:Fun K "check_put" "check_put" Hz f fd)(AO:Jn P w K mg base 1 "NoPath" (XC 5) "path" ["self","path"])(Dy:Def P w K mg base 1 "is_folder" ["tree","path"] (GY K))(Du:CY P w K mg base 3 "steps_in" ["path"] (HL K XC))(DB:Def P w K mg base 1 "folder_of" ["path"] (GB K)):FnOk P w K mg base (E7 P w) 4 f fd ["tree","path"] (GM K XC):=by
 refine F.okE Ph (λvs H Q E h=>?_) (λcdv A outer s H vs Q E hr h=>?_)
 ·obtain⟨d,P,t,rfl,_⟩:=h;rfl
 obtain⟨d,P,t,rfl,hd,v,vP,l8,q1,q2⟩:=h;refine⟨_,(!Af (!AJ (@PW.pt _ _ _ (!D1 (!Ax Ck (!AA BQ (by rfl) T.b_len CO (!Aa (!Bl Du ∅ rfl Au (!Aa (pv 1) (!Ab))) (!Ab))) (!Ag) (AC _)) (!CM (!Cg (!Bq (!AH Dy ∅ rfl (!Aa (pv 0) (!Aa (!AH DB ∅ rfl (!Aa (pv 1) (!Ab))) (!Ab)))) (by intro _;rfl)))))) (!Af (!B0 BD rfl AO ∅ rfl (!Aa (pv 1) (!Ab)))) (!Ao))),?_⟩
 try dsimp only[A4,Cx.nox,Cx.wish]
 refine⟨_,rfl,P,rfl,vP,l8,λgp l H1 s1 h1=>?_,λng H1 s1=>q2 (λz=>ng z.2.1) H1 s1⟩;obtain⟨vp,l8⟩:=gp;refine⟨l,_,rfl,.inl (AV.of h1),rfl,_,rfl,DQ (λc=>?_) (λc=>?_)⟩
 ·have e:P=[]:=by
   have:=V.int.inj (aE c);rw[aa] at this;exact eC.mp (by omega)
  exact⟨_,rfl,_,rfl,q2 (λz=>z.1 e) H1 s1⟩
 ·have e:P≠[]:=λe=>c (av (by rw[e];rfl))
  obtain⟨I,st,rfl⟩:=BF e;rw[ar,bc] at l8;refine⟨_,rfl,_,rfl,I,st,rfl,vp,by omega,λH2 s2=>⟨d,I,t,rfl,s2.get (s1.get hd),v,λx hx=>vp x (bB _ hx),_,rfl,?_⟩⟩;cases b:Jq t I with
  |true=>exact As rfl (q1 ⟨e,⟨vp,by rw[ar,bc];exact l8⟩,by rw[bT];exact b⟩ H2 (s1.trans s2))
  |false=>exact AG rfl ⟨_,rfl,_,rfl,q2 (λz=>by have:=z.2.2;rw[bT,b] at this;cases this) H2 (s1.trans s2)⟩
def Dk (K:W.Frag)(XC:Nat->Addr):Sp:=λvs H Q E=>∃(d:Addr) (P:List Str) (t:AM),vs=[.ref d,.str (jn P)]/\H d=some (.dK (Bx t))/\(∀p∈t,VP p.1)/\CP P/\(jn P).length<=1000/\(D3 t P->lk t P=none->∀H',Aw H H'->Q .non H')/\(D3 t P->lk t P≠none->∀H',Aw H H'->Ex XC E H' (.twice (jn P)))/\(¬D3 t P->∀H',Aw H H'->Ex XC E H' (.noPath (jn P)))
theorem Nt (T:Txt K mg C XC)(F:Fun K "check_free" "check_free" GD f fd)(Dz:CY P w K mg base 4 "check_put" ["tree","path"] (GM K XC))(CW:Jn P w K mg base 1 "Twice" (XC 1) "name" ["self","name"]):FnOk P w K mg base (E7 P w) 5 f fd ["tree","path"] (Dk K XC):=by
 refine F.okE M4 (λvs H Q E h=>?_) (λcdv A outer s H vs Q E hr h=>?_)
 ·obtain⟨d,P,t,rfl,_⟩:=h;rfl
 obtain⟨d,P,t,rfl,hd,v,vP,l8,q1,q2,q3⟩:=h;have hu:=C4 hr;refine⟨_,(!Ad (!AD (!Bl Dz ∅ rfl Au (!Aa (pv 0) (!Aa (pv 1) (!Ab))))) (!Af (!AJ (!DT (!UK hu (pv 1) (pv 0)) (by first|exact Bt _ (by decide) (by decide)|rfl)) (!Af (!B0 BD rfl CW ∅ rfl (!Aa (pv 1) (!Ab)))) (!Ao)))),?_⟩
 try dsimp only[A4,Cx.nox,Cx.wish]
 refine⟨_,rfl,_,rfl,d,P,t,rfl,hd,v,vP,l8,λpk H1 s1=>?_,q3⟩;have g:=KP (s1.get hd) v vP;cases el:lk t P with
 |none=>
  rw[el] at g;exact⟨_,rfl,_,rfl,d,_,rfl,g,_,rfl,As rfl (q1 pk el H1 s1)⟩
 |some c=>
  rw[el] at g;exact⟨_,rfl,_,rfl,d,_,rfl,g,_,rfl,AG rfl ⟨_,rfl,_,rfl,q2 pk (by rw[el];intro z;cases z) H1 s1⟩⟩
def DF (K:W.Frag)(XC:Nat->Addr):Sp:=λvs H Q E=>∃(d:Addr) (P:List Str) (t:AM),vs=[.ref d,.str (jn P)]/\H d=some (.dK (Bx t))/\(∀p∈t,VP p.1)/\CP P/\(lk t P≠none->Q .non H)/\(lk t P=none->Ex XC E H (.noPath (jn P)))
theorem LZ (T:Txt K mg C XC)(F:Fun K "check_there" "check_there" FO f fd)(AO:Jn P w K mg base 1 "NoPath" (XC 5) "path" ["self","path"]):FnOk P w K mg base (E7 P w) 3 f fd ["tree","path"] (DF K XC):=by
 refine F.okE MB (λvs H Q E h=>?_) (λcdv A outer s H vs Q E hr h=>?_)
 ·obtain⟨d,P,t,rfl,_⟩:=h;rfl
 obtain⟨d,P,t,rfl,hd,v,vP,q1,q2⟩:=h;have hu:=C4 hr;refine⟨_,(!Af (!AJ (!DT (!K4 hu (pv 1) (pv 0)) (by first|exact Bt _ (by decide) (by decide)|rfl)) (!Af (!B0 BD rfl AO ∅ rfl (!Aa (pv 1) (!Ab)))) (!Ao))),?_⟩
 try dsimp only[A4,Cx.nox,Cx.wish]
 have g:=KP hd v vP;cases el:lk t P with
 |none=>
  rw[el] at g;exact⟨_,rfl,_,rfl,d,_,rfl,g,_,rfl,AG rfl ⟨_,rfl,_,rfl,q2 el⟩⟩
 |some c=>
  rw[el] at g;exact⟨_,rfl,_,rfl,d,_,rfl,g,_,rfl,As rfl (q1 (by rw[el];intro z;cases z))⟩
def Vd (H:Hp)(ts:List Addr)(more:AM):Prop:=ts.length=more.length/\∀(i:Nat) a p,ts[i]?=some a->more[i]?=some p->H a=some (.tup [.str (jn p.1),cV p.2])
def Cz (K:W.Frag):Sp:=λvs H Q _=>∃(d l:Addr) (t more:AM) (ts:List Addr),vs=[.ref d,.ref l]/\H d=some (.dK (Bx t))/\H l=some (.lst (ts.map V.ref))/\Vd H ts more/\(∀p∈t,VP p.1)/\(∀p∈more,VP p.1)/\t.length<=200/\more.length<=200/\∀d' H',Aw H H'->H d'=none->H' d'=some (.dK (Bx (Bz t more)))->Q (.ref d') H'
theorem Nk (T:Txt K mg C XC)(F:Fun K "with_paths" "with_paths" Gk f fd):FnOk P w K mg base Ef 1 f fd ["tree","more"] (Cz K):=by
 exists IW
 ·obtain⟨d,l,t,more,ts,rfl,_⟩:=h;rfl
 obtain⟨d,l,t,more,ts,rfl,hd,hl,hp,v1,v2,l1,l2,q⟩:=h;refine⟨_,(!Ad (@Av _ _ (2) _ _ _ _ IW.nd rfl ∅ (!Cy Jj (by rfl) T.b_dict CD (!Aa (pv 0) (!Ab))) (by rfl) ∅) (!Ad (!AD (!Dm eh PySem.F.slot_dict_update PySem.F.type_dict_update (VF rfl) (pv 2) (!Aa (pv 1) (!Ab)))) (!Af (!Aq (pv 2))))),?_⟩
 try dsimp only[A4,Cx.nox,Cx.wish]
 have tl:(Bx t).length=t.length:=aa _;have ml:(Bx more).length=more.length:=aa _;refine⟨_,rfl,d,_,rfl,hd,by omega,λd' nd'=>?_⟩;have s1:=Ae nd' (.dK (Bx t));refine⟨_,rfl,.inr (.inr (.inl ⟨rfl,.inl ⟨_,Ac⟩⟩)),_,rfl,d',l,ts,_,Bx more,rfl,rfl,Ac,AV.of (s1.get hl),by rw[ml];exact hp.1,(by omega),(λi t' k v e1 e2=>?_),?_⟩
 ·unfold Bx at e2;rw[aD] at e2;obtain⟨p,e3,e4⟩:=aU.mp e2;cases e4;exact s1.get (hp.2 i t' p e1 e3)
 ·rw[Of v1 v2];exact⟨_,rfl,q d' _ (Cu s1 nd' _) nd' Ac⟩
theorem K8:∀{t:AM},(t.map (·.1)).Nodup->∀{p:List Str×Option Str},p∈t->lk t p.1=some p.2
 |[],_,_,h=>nomatch h
 |x::t,nd,p,h=>by
  rw[aF,bw] at nd;rw[CG];rcases aM.mp h with rfl|h
  ·exact ak rfl
  ·rw[ai λe=>nd.1 (aj.mpr ⟨p,h,Eq.symm e⟩)];exact K8 nd.2 h
theorem XI {t:AM}(nd:(t.map (·.1)).Nodup)(v:∀p∈t,VP p.1):((Bx t).map (·.1)).Nodup:=by
 unfold Bx;rw[az];have key:∀{t:AM},(∀p∈t,VP p.1)->(t.map (·.1)).Nodup->(t.map ((λkv:Key×V=>kv.1)∘Y6)).Nodup:=λ{t}=>by
  induction t with
  |nil=>intro _ _;exact cO
  |cons p t ih=>
   intro v nd;rw[aF,bw] at nd ⊢;refine⟨λz=>?_,ih (λq hq=>v q (ao _ hq)) nd.2⟩;obtain⟨q,hq,e⟩:=aj.mp z;have:=FM (v q (ao _ hq)).cp (v p aw).cp (bq e);exact nd.1 (aj.mpr ⟨q,hq,this⟩)
 exact key v nd
theorem IE {H H2:Hp}{d:Addr}{o:Obj}{kvs:List (Key×V)}(h:H d=some (.dK kvs))(s:Aw (upd H d (.frz o (.dK kvs))) H2):Aw H (upd H2 d (.dK kvs)):=λb ob e=>by
 by_cases w:b=d
 ·rw[w] at e ⊢;rw[Ac,<-h];exact e
 ·rw[Ak w];exact s b ob (by rw[Ak w];exact e)
theorem Lu {α:Type}{T:Addr->α->Prop}:∀(ys:List (α×V)),(∀q∈ys,∃b,q.2=V.ref b/\T b q.1)->∃bs:List (Addr×α),bs.map (·.2)=ys.map (·.1)/\bs.map (λb=>V.ref b.1)=ys.map (·.2)/\∀b∈bs,T b.1 b.2
 |[],_=>⟨[],rfl,rfl,λ_ h=>nomatch h⟩
 |y::ys,h=>by
  obtain⟨bs,e1,e2,e3⟩:=Lu ys λq hq=>h q (ao _ hq)
  obtain⟨b,e,t⟩:=h y aw;refine⟨(b,y.1)::bs,by rw[aF,aF,e1],by rw[aF,aF,e2,e],λc hc=>?_⟩;rcases aM.mp hc with rfl|hc
  ·exact t
  ·exact e3 c hc
theorem JB {A B:List Str}(vA:CP A)(vB:CP B):decide (V.str (jn A)=V.str (jn B))=decide (A=B):=by
 rw[Gq,cR];exact⟨FM vA vB,λe=>by rw[e]⟩
structure Kx (d:Addr) (H H':Hp):Prop where
 keep:∀b o,b≠d->H b=some o->H' b=some o
 there:∀b,H' b=none->H b=none
theorem DH {d:Addr}{H H':Hp}(s:Aw H H'):Kx d H H':=⟨λb o _ h=>s b o h,λ_ h=>s.free h⟩
theorem Kx.trans {d:Addr}{H H1 H2:Hp}(a:Kx d H H1)(b:Kx d H1 H2):Kx d H H2:=⟨λc o n h=>b.keep c o n (a.keep c o n h),λc h=>a.there c (b.there c h)⟩
theorem Kx.upd {d:Addr}{H H1:Hp}{o0:HO}(a:Kx d H H1)(h:H d=some o0)(o:HO):Kx d H (upd H1 d o):=by
 refine⟨λb o' n h=>by rw[Ak n];exact a.keep b o' n h,λb hb=>?_⟩
 by_cases z:b=d
 ·rw[z,Ac] at hb;cases hb
 ·rw[Ak z] at hb;exact a.there b hb
theorem T8 {d:Addr}{o:Obj}{H:Hp}{t:AM}(h:H d=some (.frz o (.dK (Bx t)))):JP (Sv d o (Bx t)) H (t.map λp=>V.str (jn p.1)):=by
 have it:=SY h;unfold Bx at it ⊢;rw[az] at it;exact it
theorem R8 {H:Hp}{d:Addr}{o:Obj}{t:AM}(h:H d=some (.frz o (.dK (Bx t))))(v:∀p∈t,VP p.1){P:List Str}(vP:CP P):EO H d (.str (jn P)) ((lk t P).map cV):=by
 have g:=EO.kf (k:=Sum.inr (jn P)) h;rw[Q0 v vP] at g;exact g
def EK (K:W.Frag):Sp:=λvs H Q _=>∃(d:Addr) (t:AM) (P:List Str),vs=[.ref d,.str (jn P)]/\H d=some (.dK (Bx t))/\TrV t/\VP P/\P.length<=30/\∀d' H',Aw H H'->H d'=none->H' d'=some (.dK (Bx (E3 t P)))->Q (.ref d') H'
theorem Ln (T:Txt K mg C XC)(F:Fun K "without_path" "without_path" Fk f fd)(BS:Def P w K mg base 1 "is_beneath" ["path","other"] (Ep K)):FnOk P w K mg base Ef 2 f fd ["tree","path"] (EK K):=by
 exists Lq
 ·obtain⟨d,t,P,rfl,_⟩:=h;rfl
 obtain⟨d,t,P,rfl,hd,tv,vP,lP,q⟩:=h;have hu:=C4 hr;refine⟨_,(!Af (!Aq (!Cy (RB (K:=K) (by rfl) rfl) (by rfl) T.b_dict CD (!Aa (!Ki (@Gw _ ["other","tree","path"] [none,some 0,some 1] _ _ _ _ _ _ _ _ _ _ _ rfl (!LG (pv 0)) (by rfl) rfl (by repeat (first|exact trivial|refine⟨rfl,?_⟩)) (by repeat (first|exact trivial|refine⟨λh=>(by first|exact⟨_,rfl⟩|cases h),?_⟩)) (λC s H fp=>⟨(@AK _ _ (0) _ (show(["other","tree","path"]:List Str).Nodup by decide +kernel) rfl ∅ ∅),(!JL (@PW.pt _ _ _ (!Kr (!Ax JO (pv 0) (pv 2) (AC _)) (!IF (!Cg (!Bq (!AH BS ∅ rfl (!Aa (pv 0) (!Aa (pv 2) (!Ab)))) (by intro _;rfl))))))),(!Az (!Aa (pv 0) (!Aa (!B4 hu (pv 1) (pv 0) (λ_ _=>rfl)) (!Ab))))⟩) (by intro _;rfl))) (!Ab))))),?_⟩
 try dsimp only[A4,Cx.nox,Cx.wish]
 have nf:∀o u,H d≠some (.frz o u):=λo u z=>by rw[hd] at z;cases z
 refine⟨_,rfl,d,_,rfl,hd,λo=>?_⟩;have hf:(upd H d (.frz o (.dK (Bx t)))) d=some (.frz o (.dK (Bx t))):=Ac;have th:∀H2,Aw (upd H d (.frz o (.dK (Bx t)))) H2->Aw H (upd H2 d (.dK (Bx t))):=λH2 s2=>IE hd s2
 have fre:∀l,(upd H d (.frz o (.dK (Bx t)))) l=none->l≠d:=λl nl w=>by rw[w,hf] at nl;cases nl
 generalize upd H d (.frz o (.dK (Bx t)))=Hf at hf th fre;refine IC (ps:=t) (λp=>!decide (p.1=P) && !Dq p.1 P) (λp y H'=>∃b,y=V.ref b/\H' b=some (.tup [.str (jn p.1),cV p.2])) ?_ ?_ (T8 hf) (by have:=tv.few;omega) (λp hp H' R s' hR=>?_) (λp hp _ H' R s' hR=>?_) λl H2 ys nl s2 hl ey hy=>?_
 ·rintro r y Ha Hb ⟨b,e,hb⟩ sab
  exact⟨b,e,sab.get hb⟩
 ·rintro r y Ha la us us' ⟨b,e,hb⟩ hla
  exact⟨b,e,by rw[Ak (BW hb hla (by intro z;cases z))];exact hb⟩
 ·have vp:=(tv.vp p hp).1;have hR:=hR H' (.refl _);refine⟨_,rfl,_,rfl,rfl,_,rfl,?_⟩;rw[JB vp.cp vP.cp];cases c:decide (p.1=P) with
  |true=>
   rw[c] at hR;exact As rfl hR
  |false=>
   rw[c] at hR;exact AG rfl ⟨_,rfl,_,rfl,p.1,P,rfl,vp.cp,vP,lP,_,rfl,hR⟩
 ·have vp:=(tv.vp p hp).1;have g:=R8 (s'.get hf) tv.v vp.cp;rw[K8 tv.nd hp] at g;exact⟨_,rfl,_,rfl,_,rfl,d,_,rfl,g,Bs,λb nb=>hR _ _ (Ae nb _) ⟨b,rfl,Ac⟩⟩
 obtain⟨bs,e1,e2,e3⟩:=Lu (T:=λb (p:List Str×Option Str)=>H2 b=some (.tup [.str (jn p.1),cV p.2])) ys hy;have ec:bs.map (·.2)=E3 t P:=by rw[e1,ey];rfl
 have nel:=fre l nl;have neb:∀b∈bs,b.1≠d:=λb hb w=>by have:=e3 b hb;rw[w,s2.get hf] at this;cases this
 have lc:(E3 t P).length<=200:=aX (bp _ _) tv.few;have lb:bs.length=(E3 t P).length:=by rw[<-ec,aa]
 have subt:∀p∈E3 t P,p∈t:=λp hp=>(aV.mp hp).1
 refine⟨d,o,_,nf,s2.get hf,l,bs.map (·.1),Bx (E3 t P),rfl,AV.of (by rw[Ak nel,az,hl,<-e2];rfl),?_,?_,XI (tv.nd.sublist (List.filter_sublist.map _)) λp hp=>tv.v p (subt p hp),λi a k v e4 e5=>?_,λd' nd'=>?_⟩
 ·unfold Bx;rw[aa,aa,lb]
 ·unfold Bx;rw[aa];omega
 ·rw[aD] at e4;obtain⟨b,e6,rfl⟩:=aU.mp e4;have e7:(E3 t P)[i]?=some b.2:=by rw[<-ec,aD,e6];rfl
  unfold Bx at e5;rw[aD,e7] at e5;cases e5;have hb:=aN e6;rw[Ak (neb b hb)];exact e3 b hb
 ·have S:=(th H2 s2).trans (Ae nd' (.dK (Bx (E3 t P))));refine q d' _ S ?_ Ac;exact(AE (th H2 s2)).there _ nd'
theorem Rm:∀{R:List Str},VP R->(R.map (·.length)).sum<=8*R.length
 |[],_=>au _
 |x::R,v=>by
  have h1:=Rm (R:=R) λy hy=>v y (ao _ hy)
  have h2:=(BR (v x aw)).2.2;rw[aF,List.sum_cons,aS];omega
def GG (K:W.Frag):Sp:=λvs H Q _=>∃(d:Addr) (t:AM) (P to:List Str),vs=[.ref d,.str (jn P),.str (jn to)]/\H d=some (.dK (Bx t))/\TrV t/\(∀p∈t,p.1.length<=8)/\VP P/\P.length<=8/\VP to/\to≠[]/\to.length<=8/\∀l (ts:List Addr) H',Aw H H'->H l=none->H' l=some (.lst (ts.map V.ref))->Vd H' ts (DD t P to)->Q (.ref l) H'
theorem Q7 (T:Txt K mg C XC)(F:Fun K "carried" "carried" KC f fd)(BS:Def P w K mg base 1 "is_beneath" ["path","other"] (Ep K))(Du:CY P w K mg base 3 "steps_in" ["path"] (HL K XC))(KI:Def P w K mg base 1 "path_to" ["folder","name"] (Mq K)):FnOk P w K mg base Ef 4 f fd ["tree","path","to"] (GG K):=by
 exists GN
 ·obtain⟨d,t,P,to,rfl,_⟩:=h;rfl
 obtain⟨d,t,P,to,rfl,hd,tv,t8,vP,lP,vto,nto,lto,q⟩:=h;have hu:=C4 hr;refine⟨_,(!Ad (@Av _ _ (3) _ _ _ _ GN.nd rfl ∅ (!Bk (!Aa (!Az (!Aa (pv 2) (!Aa (!Ud hu (pv 0) (pv 1) ⟨rfl,rfl,rfl,rfl⟩) (!Ab)))) (!Ab))) (by rfl) ∅) (!Ad (!Pc bJ rfl (pv 0) (@AK _ _ (4) _ GN.nd rfl ∅ ∅) (!Af (!AJ (!Bq (!AH BS ∅ rfl (!Aa (pv 4) (!Aa (pv 1) (!Ab)))) (by intro _;rfl)) (!Ad (@Av _ _ (5) _ _ _ _ GN.nd rfl ∅ (!BA FF (!Bl Du ∅ rfl GE (!Aa (pv 4) (!Ab))) (!BO (!AA BQ (by rfl) T.b_len CO (!Aa (!Bl Du ∅ rfl GE (!Aa (pv 1) (!Ab))) (!Ab)))) (!B6)) (by rfl) ∅) (!Af (!AD (!Dm a7 bD bC Cw (pv 3) (!Aa (!Az (!Aa (!AH KI ∅ rfl (!Aa (pv 2) (!Aa (!Dm bz eZ eY (Os rfl) (!Aj) (!Aa (pv 5) (!Ab))) (!Ab)))) (!Aa (!B4 hu (pv 0) (pv 4) (λ_ _=>rfl)) (!Ab)))) (!Ab)))))) (!Ao))) (by intro _;rfl)) (!Af (!Aq (pv 3))))),?_⟩
 try dsimp only[A4,Cx.nox,Cx.wish]
 have nf:∀o u,H d≠some (.frz o u):=λo u z=>by rw[hd] at z;cases z
 have g:=KP hd tv.v vP.cp;have eg:((lk t P).map cV).getD .non=cV ((lk t P).getD none):=by cases lk t P<;>rfl
 refine⟨_,rfl,_,rfl,d,rfl,.inl ⟨_,.inl hd⟩,_,rfl,_,g,Bs,λb0 nb0=>?_⟩;rw[eg];have s1:=Ae nb0 (.tup [V.str (jn to),cV ((lk t P).getD none)]);have h1:(upd H b0 (.tup [V.str (jn to),cV ((lk t P).getD none)])) b0=some (.tup [V.str (jn to),cV ((lk t P).getD none)]):=Ac;generalize upd H b0 (.tup [V.str (jn to),cV ((lk t P).getD none)])=H1 at s1 h1;refine⟨CH,λl nl=>?_⟩;have s2:=Ae nl (.lst [V.ref b0]);have h2:(upd H1 l (.lst [V.ref b0])) l=some (.lst ([b0].map V.ref)):=Ac;have hb2:=s2.get h1;generalize upd H1 l (.lst [V.ref b0])=H2 at s2 h2 hb2;have s12:=s1.trans s2;have nlH:H l=none:=(AE s1).there _ nl;dsimp only[AU];have hd2:=s12.get hd;refine⟨_,rfl,d,_,rfl,hd2,λo=>?_⟩;have hf:(upd H2 d (.frz o (.dK (Bx t)))) d=some (.frz o (.dK (Bx t))):=Ac;have kf:∀{b:Addr} {u:HO},H2 b=some u->b≠d->(upd H2 d (.frz o (.dK (Bx t)))) b=some u:=λ{b u} e n=>by rw[Ak n];exact e
 have nld:l≠d:=λz=>by rw[z,hd2] at h2;cases h2
 have hlf:=kf h2 nld;have hbf:=kf hb2 λz=>by rw[z,hd2] at hb2;cases hb2
 have th:∀H3,Kx l (upd H2 d (.frz o (.dK (Bx t)))) H3->Aw H (upd H3 d (.dK (Bx t))):=λH3 k b u e=>by
  by_cases z:b=d
  ·rw[z] at e ⊢;rw[Ac,<-hd];exact e
  ·rw[Ak z];exact k.keep b u (λy=>by rw[y,nlH] at e;cases e) (kf (s12.get e) z)
 generalize upd H2 d (.frz o (.dK (Bx t)))=Hf at hf hlf hbf th;refine K1 (d:=d) (o:=o) (kvs:=Bx t) nf (λi σ Hi=>∃(ts:List Addr) (v4 v5:Option V),σ=[some (.ref d),some (.str (jn P)),some (.str (jn to)),some (.ref l),v4,v5]/\Kx l Hf Hi/\Hi l=some (.lst (ts.map V.ref))/\Vd Hi ts ((to,(lk t P).getD none)::((t.take i).filter λp=>Dq p.1 P).map λp=>(to++p.1.drop P.length,p.2)))
  ⟨[b0],none,none,rfl,DH (.refl _),hlf,rfl,λi a p e1 e2=>?_⟩ (by rintro i σ Hi _ ⟨_,_,_,_,k,_⟩;exact k.keep _ _ (Ne.symm nld) hf) ?_ ?_
 ·cases i with
  |zero=>cases e1;cases e2;exact hbf
  |succ i=>cases e1
 ·rintro i k v σ Hi ei ⟨ts,v4,v5,rfl,kx,hl,pr⟩
  unfold Bx at ei;rw[aD] at ei;obtain⟨p,ep,ek⟩:=aU.mp ei;cases ek;have hp:=aN ep;have vp:=(tv.vp p hp).1;have p8:=t8 p hp;have tk:t.take (i+1)=t.take i++[p]:=by rw[bG,ep];rfl
  refine⟨_,rfl,_,rfl,p.1,P,rfl,vp.cp,vP,by omega,_,rfl,DQ (λc=>?_) (λc=>?_)⟩
  ·refine⟨_,rfl,p.1,rfl,vp.cp,(by have:=D5 vp;omega),λ_ l1 H5 s5 h5=>⟨_,rfl,P,rfl,vP.cp,(by have:=D5 vP;omega),λ_ l2 H6 s6 h6=>⟨l2,_,rfl,.inl (AV.of h6),_,rfl,l1,_,rfl,AV.of (s6.get h5),λl3 n3=>?_⟩,λng=>absurd ⟨vP,lP⟩ ng⟩,λng=>absurd ⟨vp,p8⟩ ng⟩;rw[U1 (by omega),aa,di,<-fB];have hbn:P.length<p.1.length:=by
    have c':=c;unfold Dq at c';rw[aQ,bZ] at c';exact c'.1
   obtain⟨R,eR⟩:∃R,R=p.1.drop P.length:=⟨_,rfl⟩
   have nR:R≠[]:=λz=>by
    have:=congrArg List.length eR;rw[z,bF] at this;have:0=p.1.length-P.length:=this;omega
   have vR:VP R:=λx hx=>vp x (cP (eR▸hx))
   have lR:R.length<=8:=by rw[eR,bF];omega
   rw[<-eR];have s7:=Ae n3 (.lst (R.map V.str));have h7:(upd H6 l3 (.lst (R.map V.str))) l3=some (.lst (R.map V.str)):=Ac;generalize upd H6 l3 (.lst (R.map V.str))=H7 at s7 h7;have s57:=(s5.trans s6).trans s7;have hl7:=s57.get hl;have sn:=Rm vR;have fd7:=s57.get (kx.keep _ _ (Ne.symm nld) hf);have g7:=R8 fd7 tv.v vp.cp;rw[K8 tv.nd hp] at g7;refine⟨_,rfl,.inl ⟨rfl,_,AV.of hl7⟩,_,rfl,rfl,_,rfl,l3,SL,R,rfl,rfl,AV.of h7,by show _+R.length*1<=_;omega,to,R,rfl,vto,vR,nto,nR,by omega,by omega,_,rfl,_,rfl,d,_,rfl,g7,Bs,λb nb=>?_⟩;have s8:=Ae nb (.tup [V.str (jn (to++R)),cV p.2]);have h8:(upd H7 b (.tup [V.str (jn (to++R)),cV p.2])) b=some (.tup [V.str (jn (to++R)),cV p.2]):=Ac;have hl8:=s8.get hl7;have lt:ts.length<=201:=by
    have h1:=pr.1;have h2:=tv.few;have h3:=bp (λp:List Str×Option Str=>Dq p.1 P) (t.take i);have h4:=ip i t;have h5:(t.take i).length<=t.length:=by rw[a8];omega
    rw[aS,aa] at h1;omega
   refine⟨l,_,_,rfl,rfl,hl8,By (by rw[aa];omega),?_⟩;refine⟨ts++[b],_,_,rfl,((kx.trans (DH (s57.trans s8))).upd hlf _),by rw[Ac,aO];rfl,?_⟩;rw[tk,cE,show List.filter (λp:List Str×Option Str=>Dq p.1 P) [p]=[p] by rw[bj];exact ak c,aO,<-cK];refine⟨by rw[ar,ar,pr.1];rfl,λj a x e1 e2=>?_⟩;have na:∀{a:Addr} {xs:List V} {H9:Hp} {u:HO},(upd H7 b (.tup [V.str (jn (to++R)),cV p.2])) a=some (.tup xs)->(upd (upd H7 b (.tup [V.str (jn (to++R)),cV p.2])) l u) a=some (.tup xs):=λ{a xs H9 u} e=>by
    rw[Ak λz=>by rw[z,hl8] at e;cases e];exact e
   rcases Nat.lt_trichotomy j ts.length with lj|ej|gj
   ·rw[bW lj] at e1;rw[bW (by rw[<-pr.1];exact lj)] at e2;exact na (H9:=H) ((s57.trans s8).get (pr.2 j a x e1 e2))
   ·subst ej;rw[bS (au _),eL] at e1;rw[bS (by rw[pr.1];exact au _),pr.1,eL] at e2;cases e1;cases e2;show _=some (HO.tup [V.str (jn (to++p.1.drop P.length)),cV p.2]);rw[<-eR];exact na (H9:=H) h8
   ·rw[cF (by rw[ar,bc];omega)] at e1;cases e1
  ·refine⟨ts,_,_,rfl,kx,hl,?_⟩;rw[tk,cE,show List.filter (λp:List Str×Option Str=>Dq p.1 P) [p]=[] by rw[bj];exact ai c,aJ];exact pr
 ·rintro σ Hi ⟨ts,v4,v5,rfl,kx,hl,pr⟩
  rw[show(Bx t).length=t.length from aa _,cu] at pr;refine⟨_,rfl,q l ts _ (th Hi kx) nlH (by rw[Ak nld];exact hl) ⟨pr.1,λi a p e1 e2=>?_⟩⟩;have:=pr.2 i a p e1 e2;rw[Ak λz=>by rw[z,kx.keep _ _ (Ne.symm nld) hf] at this;cases this];exact this
def Nn (t:AM)(I:List Str):Nat:=t.countP λp=>decide (p.1.dropLast=I)
structure BOk (t:AM):Prop where
 few:t.length<=60
 fld:∀p∈t,Nn t p.1.dropLast<=16
 deep:∀p∈t,p.1.length<=8
 ct:∀p∈t,∀c,p.2=some c->c.length<=400
theorem Fm {α:Type}(l:List α):l.filter (λ_=>true)=l:=dF.mpr λ_ _=>rfl
theorem KJ {α:Type}(l:List α)(p:α->Bool):(l.map p).all id=true↔∀x∈l,p x=true:=by
 rw[cB,a5];exact Iff.rfl
def G3 (K:W.Frag)(XC:Nat->Addr):Sp:=λvs H Q E=>∃(d:Addr) (t:AM),vs=[.ref d]/\H d=some (.dK (Bx t))/\TrV t/\(∀p∈t,∀c,p.2=some c->c.length<=1000000)/\(BOk t->∀H',Aw H H'->Q .non H')/\(¬BOk t->∀H',Aw H H'->Ex XC E H' .many)
theorem Lo (T:Txt K mg C XC)(F:Fun K "check_bounds" "check_bounds" Fi f fd)(DB:Def P w K mg base 1 "folder_of" ["path"] (GB K)):FnOk P w K mg base (E7 P w) 2 f fd ["tree"] (G3 K XC):=by
 refine F.okE G6 (λvs H Q E h=>?_) (λcdv A outer s H vs Q E hr h=>?_)
 ·obtain⟨d,t,rfl,_⟩:=h;rfl
 obtain⟨d,t,rfl,hd,tv,hc,q1,q2⟩:=h;have hu:=C4 hr;refine⟨_,(!Ad (@Av _ _ (1) _ _ _ _ G6.nd rfl ∅ (!Ki (@Ge _ ["path"] _ _ _ _ _ _ _ _ _ _ rfl (!LG (pv 0)) (by decide +kernel) (λC s H fp=>⟨(@AK _ _ (0) _ (show(["path"]:List Str).Nodup by decide +kernel) rfl ∅ ∅),(!CK),(!AH DB ∅ rfl (!Aa (pv 0) (!Ab)))⟩) (by intro _;rfl))) (by rfl) ∅) (!Ad (!AJ (@PW.pt _ _ _ (!D1 (!Ax IQ (!AA K3 (by rfl) T.b_len CO (!Aa (pv 0) (!Ab))) (!Cd rfl T.c_MOST_TREE_ENTRIES) (AC _)) (!CM (!Cg (!Bq (!AA (Gg rfl) (by rfl) T.b_all KD (!Aa (@Gw _ ["folder","folders"] [none,some 1] _ _ _ _ _ _ _ _ _ _ _ rfl (!Cb (pv 1)) (by rfl) rfl (by repeat (first|exact trivial|refine⟨rfl,?_⟩)) (by repeat (first|exact trivial|refine⟨λh=>(by first|exact⟨_,rfl⟩|cases h),?_⟩)) (λC s H fp=>⟨(@AK _ _ (0) _ (show(["folder","folders"]:List Str).Nodup by decide +kernel) rfl ∅ ∅),(!CK),(!Ej Ms (@Ml _ (K) _ _ _ _ _ _ _ _ _ _ _ rfl a7 gQ gO (Oh (K:=K) (by rfl)) (pv 1) (!Aa (pv 0) (!Ab)) (by rfl) (by rfl) (by rfl) (by rfl) (by rfl)) (!Cd rfl T.c_MOST_ENTRIES) (AC _))⟩) (by intro _;rfl)) (!Ab))) (by intro _;rfl)))))) (!Af (!Gi Ga rfl T.x_TooMany T.q_TooMany)) (!Ao)) (!Ad (!AJ (!Cg (!Bq (!AA (Gg rfl) (by rfl) T.b_all KD (!Aa (!Ki (@Ge _ ["path"] _ _ _ _ _ _ _ _ _ _ rfl (!LG (pv 0)) (by decide +kernel) (λC s H fp=>⟨(@AK _ _ (0) _ (show(["path"]:List Str).Nodup by decide +kernel) rfl ∅ ∅),(!CK),(!Ej Se (@Ml _ (K) _ _ _ _ _ _ _ _ _ _ _ rfl bz g6 gY Oa (pv 0) (!Aa (!Aj) (!Ab)) (by rfl) (by rfl) (by rfl) (by rfl) (by rfl)) (!Cd rfl T.c_MOST_TREE_DEEP) (AC _))⟩) (by intro _;rfl))) (!Ab))) (by intro _;rfl))) (!Af (!Gi Ga rfl T.x_TooMany T.q_TooMany)) (!Ao)) (!Af (!AJ (!Cg (!Bq (!AA (Gg rfl) (by rfl) T.b_all KD (!Aa (!Ki (@Ge _ ["content"] _ _ _ _ _ _ _ _ _ _ rfl (!Wc (pv 0)) (by decide +kernel) (λC s H fp=>⟨(@AK _ _ (0) _ (show(["content"]:List Str).Nodup by decide +kernel) rfl ∅ ∅),(!CK),(!RY (!RC (!FZ (pv 0)) (by first|exact Bt _ (by decide) (by decide)|rfl)) (!Mj (!Ej Ms (!AA DW (by rfl) T.b_len CO (!Aa (pv 0) (!Ab))) (!Cd rfl T.c_MOST_SIGNS) (AC _))))⟩) (by intro _;rfl))) (!Ab))) (by intro _;rfl))) (!Af (!Gi Ga rfl T.x_TooMany T.q_TooMany)) (!Ao)))))),?_⟩
 try dsimp only[A4,Cx.nox,Cx.wish]
 have nf:∀o u,H d≠some (.frz o u):=λo u z=>by rw[hd] at z;cases z
 have t2:=tv.few;have tl:(Bx t).length=t.length:=aa _;have fl:∀p∈t,jn p.1.dropLast≠jn p.1\/True:=λ_ _=>.inr trivial
 refine Wg (t:=Ui (Ul _ _) _) (λσ' H'=>∃l,σ'=[some (.ref d),some (.ref l)]/\Aw H H'/\H' l=some (.lst (t.map λp=>V.str (jn p.1.dropLast)))) (λN hN=>?_) ?_
 ·refine⟨_,rfl,d,_,rfl,hd,λo=>?_⟩;have hf:(upd H d (.frz o (.dK (Bx t)))) d=some (.frz o (.dK (Bx t))):=Ac;have th:∀H2,Aw (upd H d (.frz o (.dK (Bx t)))) H2->Aw H (upd H2 d (.dK (Bx t))):=λH2 s2=>IE hd s2
  have fre:∀l,(upd H d (.frz o (.dK (Bx t)))) l=none->l≠d:=λl nl w=>by rw[w,hf] at nl;cases nl
  generalize upd H d (.frz o (.dK (Bx t)))=Hf at hf th fre;refine Eh (ps:=t) (λ_=>true) (λp=>V.str (jn p.1.dropLast)) (T8 hf) (by omega) (λr hr H' R s' hR=>hR) (λp hp _ H' R s' hR=>?_) λl H2 nl s2 hl2=>?_
  ·obtain⟨I,st,e⟩:=BF (tv.vp p hp).2;have v:=(tv.vp p hp).1;have dp:=tv.deep p hp;rw[e] at v dp hR ⊢;rw[ar,bc] at dp;rw[bT] at hR;exact⟨_,rfl,I,st,rfl,v,by omega,λH3 s3=>hR H3 s3⟩
  ·rw[Fm] at hl2;refine⟨d,o,_,nf,s2.get hf,hN _ _ ⟨l,rfl,th H2 s2,?_⟩⟩;rw[Ak (fre l nl)];exact hl2
 rintro σ' H1 ⟨l,rfl,s1,hl1⟩
 have hd1:=s1.get hd;refine⟨_,rfl,d,_,rfl,hd1,_,_,rfl,rfl,_,rfl,DQ (λc=>?_) (λc=>?_)⟩
 ·have c':=aE c;rw[tl] at c';exact q2 (λb=>by have:=b.few;omega) H1 s1
 have c60:t.length<=60:=by
  have:=fD (cj.mpr c);rw[tl] at this;omega
 refine⟨_,rfl,l,rfl,⟨_,AV.of hl1⟩,?_⟩;refine Eh (ps:=t) (g:=λp=>V.str (jn p.1.dropLast)) (λ_=>true) (λp=>V.bl (decide (Nn t p.1.dropLast<=16))) (E9 (AV.of hl1)) (by omega) (λr hr H' R s' hR=>hR) (λp hp _ H' R s' hR=>?_) λl7 H7 n7 s7 h7=>?_
 ·refine⟨_,rfl,.inl ⟨rfl,_,AV.of (s'.get hl1)⟩,_,rfl,l,_,_,rfl,rfl,AV.of (s'.get hl1),?_,rfl,_,_,rfl,rfl,?_⟩
  ·rw[cB];exact a5.mpr λ_ _=>rfl
  ·have e:List.countP (λx=>Ko x (V.str (jn p.1.dropLast))) (t.map λp=>V.str (jn p.1.dropLast))=Nn t p.1.dropLast:=by
    rw[List.countP_map];unfold Nn;refine List.countP_congr λq hq=>?_
    show(jn q.1.dropLast == jn p.1.dropLast)=true↔decide (q.1.dropLast=p.1.dropLast)=true;rw[bQ,bP];exact⟨λz=>FM (VP.cp λx hx=>(tv.vp q hq).1 x (ie _ hx)) (VP.cp λx hx=>(tv.vp p hp).1 x (ie _ hx)) z,λz=>by rw[z]⟩
   have e2:V.bl (decide (((List.countP (λx=>Ko x (V.str (jn p.1.dropLast))) (t.map λp=>V.str (jn p.1.dropLast)):Nat):Int)<=16))=V.bl (decide (Nn t p.1.dropLast<=16)):=by
    rw[e]
    congr 1
    rw[cR];omega
   show R (V.bl (decide (((List.countP (λx=>Ko x (V.str (jn p.1.dropLast))) (t.map λp=>V.str (jn p.1.dropLast)):Nat):Int)<=16))) H';rw[e2];exact hR H' (.refl _)
 rw[Fm] at h7;have h7':H7 l7=some (.lst ((t.map λp=>decide (Nn t p.1.dropLast<=16)).map V.bl)):=by rw[h7,az];rfl
 have s17:=s1.trans s7;refine⟨l7,_,rfl,AV.of h7',_,rfl,?_⟩;cases a1:(t.map λp=>decide (Nn t p.1.dropLast<=16)).all id with
 |false=>
  refine AG rfl (q2 (λb=>?_) H7 s17);rw[(KJ t _).mpr λp hp=>av (b.fld p hp)] at a1;cases a1
 |true=>
  have f16:∀p∈t,Nn t p.1.dropLast<=16:=λp hp=>aE ((KJ t _).mp a1 p hp)
  refine As rfl ?_;have hd7:=s17.get hd;refine⟨_,rfl,d,_,rfl,hd7,λo=>?_⟩;have hf:(upd H7 d (.frz o (.dK (Bx t)))) d=some (.frz o (.dK (Bx t))):=Ac;have th:∀H2,Aw (upd H7 d (.frz o (.dK (Bx t)))) H2->Aw H7 (upd H2 d (.dK (Bx t))):=λH2 s2=>IE hd7 s2
  have fre:∀l,(upd H7 d (.frz o (.dK (Bx t)))) l=none->l≠d:=λl nl w=>by rw[w,hf] at nl;cases nl
  generalize upd H7 d (.frz o (.dK (Bx t)))=Hf at hf th fre;refine Eh (ps:=t) (λ_=>true) (λp=>V.bl (decide (p.1.length<=8))) (T8 hf) (by omega) (λr hr H' R s' hR=>hR) (λp hp _ H' R s' hR=>?_) λl8 H8 n8 s8 h8=>?_
  ·obtain⟨I,st,e⟩:=BF (tv.vp p hp).2;have v:=(tv.vp p hp).1;rw[e] at v hR ⊢;refine⟨_,rfl,rfl,jn (I++[st]),SL,rfl,rfl,?_⟩;rw[Pz v];refine⟨_,_,rfl,rfl,?_⟩;have e2:V.bl (decide ((I.length:Int)<8))=V.bl (decide ((I++[st]).length<=8)):=by
    congr 1
    rw[cR,ar,bc];omega
   show R (V.bl (decide ((I.length:Int)<8))) H';rw[e2];exact hR H' (.refl _)
  rw[Fm] at h8;have h8':H8 l8=some (.lst ((t.map λp=>decide (p.1.length<=8)).map V.bl)):=by rw[h8,az];rfl
  have s18:=s17.trans (th H8 s8);refine⟨d,o,_,nf,s8.get hf,l8,_,rfl,AV.of (by rw[Ak (fre l8 n8)];exact h8'),_,rfl,?_⟩;cases a2:(t.map λp=>decide (p.1.length<=8)).all id with
  |false=>
   refine AG rfl (q2 (λb=>?_) _ s18);rw[(KJ t _).mpr λp hp=>av (b.deep p hp)] at a2;cases a2
  |true=>
   have d8:∀p∈t,p.1.length<=8:=λp hp=>aE ((KJ t _).mp a2 p hp)
   refine As rfl ?_;have hd8:=s18.get hd;generalize upd H8 d (.dK (Bx t))=H8t at s18 hd8;refine⟨_,rfl,d,_,rfl,hd8,λo2=>?_⟩;have hf2:(upd H8t d (.frz o2 (.dK (Bx t)))) d=some (.frz o2 (.dK (Bx t))):=Ac;have th2:∀H2,Aw (upd H8t d (.frz o2 (.dK (Bx t)))) H2->Aw H8t (upd H2 d (.dK (Bx t))):=λH2 s2=>IE hd8 s2
   have fre2:∀l,(upd H8t d (.frz o2 (.dK (Bx t)))) l=none->l≠d:=λl nl w=>by rw[w,hf2] at nl;cases nl
   generalize upd H8t d (.frz o2 (.dK (Bx t)))=Hg at hf2 th2 fre2;have it:=To hf2;unfold Bx at it;rw[az] at it
   change JP (Y4 d o2 (Bx t)) Hg (t.map λp=>cV p.2) at it
   refine Eh (ps:=t) (λ_=>true) (λp=>V.bl (match p.2 with|none=>true|some c=>decide (c.length<=400))) it (by omega) (λr hr H' R s' hR=>hR) (λp hp _ H' R s' hR=>?_) λl9 H9 n9 s9 h9=>?_
   ·cases e:p.2 with
    |none=>
     rw[e] at hR;exact⟨_,rfl,_,rfl,AG rfl (hR H' (.refl _))⟩
    |some c=>
     have lc:=hc p hp c e;rw[e] at hR;refine⟨_,rfl,_,rfl,As rfl ⟨_,rfl,c,rfl,small (by omega),_,_,rfl,rfl,?_⟩⟩;have e2:V.bl (decide ((c.length:Int)<=400))=V.bl (decide (c.length<=400)):=by
      congr 1
      rw[cR];omega
     show R (V.bl (decide ((c.length:Int)<=400))) H';rw[e2];exact hR H' (.refl _)
   rw[Fm] at h9;have h9':H9 l9=some (.lst ((t.map λp=>(match p.2 with|none=>true|some c=>decide (c.length<=400):Bool)).map V.bl)):=by rw[h9,az];rfl
   have s19:=s18.trans (th2 H9 s9);refine⟨d,o2,_,nf,s9.get hf2,l9,_,rfl,AV.of (by rw[Ak (fre2 l9 n9)];exact h9'),_,rfl,?_⟩;cases a3:(t.map λp=>(match p.2 with|none=>true|some c=>decide (c.length<=400):Bool)).all id with
   |false=>
    refine AG rfl (q2 (λb=>?_) _ s19);rw[(KJ t _).mpr λp hp=>by
     cases e:p.2 with
     |none=>rfl
     |some c=>exact av (b.ct p hp c e)] at a3
    cases a3
   |true=>
    refine As rfl (q1 ⟨c60,f16,d8,λp hp c e=>?_⟩ _ s19);have:=(KJ t _).mp a3 p hp;rw[e] at this;exact aE this
structure TrOk (t:AM):Prop where
 v:TrV t
 b:BOk t
structure KH (x:Addr) (H H':Hp):Prop where
 at_:∃C dx fs,H x=some (.ins C dx fs)
 keep:∀b o,b≠x->(∀ps,o≠.tbl ps)->H b=some o->H' b=some o
 there:∀b,H' b=none->H b=none
theorem St.kh {x:Addr}{H H':Hp}(s:St H H')(at_:∃C dx fs,H x=some (.ins C dx fs)):KH x H H':=⟨at_,λb o _ n h=>s.keep b o n h,s.there⟩
theorem KH.trans {x:Addr}{H H1 H2:Hp}(a:KH x H H1)(b:KH x H1 H2):KH x H H2:=⟨a.at_,λc o e n h=>b.keep c o e n (a.keep c o e n h),λc h=>a.there c (b.there c h)⟩
theorem KH.upd {x:Addr}{H H1:Hp}(a:KH x H H1)(o:HO):KH x H (upd H1 x o):=by
 refine⟨a.at_,λc o' e n h=>by rw[Ak e];exact a.keep c o' e n h,λc h=>?_⟩
 by_cases z:c=x
 ·rw[z,Ac] at h;cases h
 ·rw[Ak z] at h;exact a.there c h
theorem KH.ne {x:Addr}{H H':Hp}(k:KH x H H'){b:Addr}{o:HO}(h:H b=some o)(n:∀C dx fs,o≠.ins C dx fs):b≠x:=λz=>by
 obtain⟨C,dx,fs,e⟩:=k.at_;rw[z,e] at h;exact n _ _ _ (aI h).symm
theorem KH.get {x:Addr}{H H':Hp}(k:KH x H H'){b:Addr}{o:HO}(h:H b=some o)(n:∀C dx fs,o≠.ins C dx fs)(n2:∀ps,o≠.tbl ps):H' b=some o:=k.keep b o (k.ne h n) n2 h
theorem KH.tup {x:Addr}{H H':Hp}(k:KH x H H'){b:Addr}{xs:List V}(h:H b=some (.tup xs)):H' b=some (.tup xs):=k.get h (λ_ _ _ z=>by cases z) λ_ z=>by cases z
theorem KH.lst {x:Addr}{H H':Hp}(k:KH x H H'){b:Addr}{xs:List V}(h:H b=some (.lst xs)):H' b=some (.lst xs):=k.get h (λ_ _ _ z=>by cases z) λ_ z=>by cases z
theorem KH.dk {x:Addr}{H H':Hp}(k:KH x H H'){b:Addr}{xs:List (Key×V)}(h:H b=some (.dK xs)):H' b=some (.dK xs):=k.get h (λ_ _ _ z=>by cases z) λ_ z=>by cases z
structure Hs (C:Addr) (H:Hp) (x:Addr) (ag:Int) (qs:List Kq) (ps:List Pe):Prop where
 at_:∃dx h k n,H x=some (.ins C dx [("own_head",.ref h)])/\HeadAt H h ag k qs n ps
theorem Hs.ins {C:Addr}{H:Hp}{x:Addr}{ag:Int}{qs:List Kq}{ps:List Pe}(h:Hs C H x ag qs ps):∃C dx fs,H x=some (.ins C dx fs):=by
 obtain⟨dx,h,k,n,e,_⟩:=h.at_;exact⟨_,_,_,e⟩
theorem Hs.st {C:Addr}{H H':Hp}{x:Addr}{ag:Int}{qs:List Kq}{ps:List Pe}(h:Hs C H x ag qs ps)(s:St H H'):Hs C H' x ag qs ps:=by
 obtain⟨dx,h,k,n,e,hd⟩:=h.at_;exact⟨dx,h,k,n,s.keep _ _ (λ_ z=>by cases z) e,hd.st s⟩
theorem Hs.set {C:Addr}{H:Hp}{x dx h k n:Addr}{ag:Int}{qs:List Kq}{ps:List Pe}{fs:List (Str×V)}(hx:H x=some (.ins C dx fs))(hd:HeadAt H h ag k qs n ps):Hs C (upd H x (.ins C dx [("own_head",.ref h)])) x ag qs ps:=
 ⟨dx,h,k,n,Ac,hd.sd ⟨λb xs e=>by rw[Ak (BW e hx (by intro z;cases z))];exact e,λb xs e=>by rw[Ak (BW e hx (by intro z;cases z))];exact e⟩⟩
theorem UF {PT PU x:Addr}{H:Hp}{C dx:Addr}{fs:List (Str×V)}(t:Tb PT PU H)(hx:H x=some (.ins C dx fs))(fs':List (Str×V)):Tb PT PU (upd H x (.ins C dx fs')):=by
 have go:∀{U:Addr} {q:Str} {lp:Pos},CI U q lp H->CI U q lp (upd H x (.ins C dx fs')):=λ{U q lp} t=>by
  rcases t with h|⟨c,h,h2⟩
  ·exact .inl (by rw[Ak (BW h hx (by intro z;cases z))];exact h)
  ·exact .inr ⟨c,by rw[Ak (BW h hx (by intro z;cases z))];exact h,by rw[Ak (BW h2 hx (by intro z;cases z))];exact h2⟩
 exact⟨t.ne,go t.a,go t.b⟩
def Ff (K:W.Frag)(C:Addr):Sp:=λvs H Q _=>∃(x dx:Addr),vs=[.ref x]/\H x=some (.ins C dx [])/\∀H',Kx x H H'->Hs C H' x 0 [] []->Q .non H'
theorem Jt (T:Txt K mg C XC)(F:Fun K "__init__" "PlainHouse.__init__" DM f fd):FnOk P w K mg base Ef 1 f fd ["self"] (Ff K C):=by
 exists Jf
 ·obtain⟨x,dx,rfl,_⟩:=h;rfl
 obtain⟨x,dx,rfl,hx,q⟩:=h;refine⟨_,(!Af (!O5 (pv 0) (!Az (!Aa (!Ag) (!Aa (!Az (!Ab)) (!Aa (!Az (!Ab)) (!Ab))))))),?_⟩
 try dsimp only[A4,Cx.nox,Cx.wish]
 refine⟨MT,λp1 n1=>⟨MT,λp2 n2=>⟨MX,λp3 n3=>?_⟩⟩⟩;have s1:=Ae n1 (.tup []);have h1:(upd H p1 (.tup [])) p1=some (.tup []):=Ac;generalize upd H p1 (.tup [])=H1 at s1 h1 n2 n3;have s2:=Ae n2 (.tup []);have h2:(upd H1 p2 (.tup [])) p2=some (.tup []):=Ac;generalize upd H1 p2 (.tup [])=H2 at s2 h2 n3;have s3:=Ae n3 (.tup [V.int 0,V.ref p1,V.ref p2]);have h3:(upd H2 p3 (.tup [V.int 0,V.ref p1,V.ref p2])) p3=some (.tup [V.int 0,V.ref p1,V.ref p2]):=Ac;generalize upd H2 p3 (.tup [V.int 0,V.ref p1,V.ref p2])=H3 at s3 h3;have S:=(s1.trans s2).trans s3;refine⟨_,rfl,x,C,dx,[],rfl,S.get hx,T.cl,T.n_own_head,(by show 0<1000;decide),?_⟩;refine q _ ((DH S:Kx x H H3).upd hx _) (Hs.set (h:=p3) (k:=p1) (n:=p2) (S.get hx) ⟨h3,s3.get (s2.get h1),(λ_ h=>nomatch h),s3.get h2,λ_ h=>nomatch h⟩)
def Cn (K:W.Frag)(C:Addr)(XC:Nat->Addr)(PT PU:Addr):Sp:=λvs H Q E=>∃(x sa t:Addr) (nm kp og:Str) (tr:AM) (ag:Int) (qs:List Kq) (ps:List Pe),vs=[.ref x,.ref sa,.ref t]/\Hs C H x ag qs ps/\H sa=some (.tup [.str nm,.int 1,.str kp,.str og])/\H t=some (.dK (Bx tr))/\TrV tr/\(∀p∈tr,∀c,p.2=some c->c.length<=1000000)/\Ri F4 ps/\ps.length<=60/\Tb PT PU H/\
 (BOk tr->∀a H',KH x H H'->Tb PT PU H'->Hs C H' x (ag+1) qs (putL F4 ⟨a,t,.st nm kp og tr⟩ ps)->Q .non H')/\(¬BOk tr->∀H',St H H'->Tb PT PU H'->Ex XC E H' .many)
theorem GK (T:Txt K mg C XC)(F:Fun K "put_tree" "PlainHouse.put_tree" CB f fd)(Fx:CY P w K mg base 2 "check_bounds" ["tree"] (G3 K XC))(Ca:Def P w K mg base 1 "one_older" ["head"] (E5 K))(C3:Def P w K mg base 2 "with_named" ["head","named"] (FW K PT PU)):FnOk P w K mg base (E7 P w) 3 f fd ["self","stem","tree"] (Cn K C XC PT PU):=by
 refine F.okE GO (λvs H Q E h=>?_) (λcdv A outer s H vs Q E hr h=>?_)
 ·obtain⟨x,sa,t,nm,kp,og,tr,ag,qs,ps,rfl,_⟩:=h;rfl
 obtain⟨x,sa,t,nm,kp,og,tr,ag,qs,ps,rfl,hs,hsa,ht,tv,hc,ri,few,tb,q,qm⟩:=h;refine⟨_,(!Ad (!AD (!Bl Fx ∅ rfl Au (!Aa (pv 2) (!Ab)))) (!Af (!O5 (pv 0) (!AH Ca ∅ rfl (!Aa (!AH C3 ∅ rfl (!Aa (!Ju (pv 0)) (!Aa (!Ay U4 (pv 1) (!Az (!Aa (pv 2) (!Ab)))) (!Ab)))) (!Ab)))))),?_⟩
 try dsimp only[A4,Cx.nox,Cx.wish]
 refine⟨_,rfl,t,tr,rfl,ht,tv,hc,λbo H1 s1=>?_,λbo H1 s1=>qm bo H1 (AE s1) (tb.same s1)⟩;have q:=q bo;obtain⟨dx,h,k,n,hx,hd⟩:=(hs.st (AE s1)).at_;dsimp only;refine⟨_,rfl,x,C,dx,_,_,rfl,hx,T.cl,T.n_own_head,rfl,_,rfl,_,rfl,CH,λp2 n2=>?_⟩;have s2:=Ae n2 (.tup [V.ref t]);have h2:(upd H1 p2 (.tup [V.ref t])) p2=some (.tup [V.ref t]):=Ac;generalize upd H1 p2 (.tup [V.ref t])=H2 at s2 h2;have s12:=s1.trans s2;refine⟨sa,p2,_,_,rfl,rfl,AW.of (s12.get hsa),AW.of h2,T9,(λz=>by cases z),(λ_ z=>by cases z),λ_ _ p3 n3=>?_⟩;have s3:=Ae n3 (.tup ([V.str nm,V.int 1,V.str kp,V.str og]++[V.ref t]));have h3:(upd H2 p3 (.tup ([V.str nm,V.int 1,V.str kp,V.str og]++[V.ref t]))) p3=some (.tup ((En.st nm kp og tr).items t)):=Ac;generalize upd H2 p3 (.tup ([V.str nm,V.int 1,V.str kp,V.str og]++[V.ref t]))=H3 at s3 h3;have s13:=s12.trans s3;refine⟨h,⟨p3,t,.st nm kp og tr⟩,ag,k,n,qs,ps,rfl,hd.st (AE (s2.trans s3)),⟨s13.get ht,h3⟩,ri,few,tb.same s13,λh4 n4 H4 S4 T4 nh4 hd4=>?_⟩;refine⟨h4,ag,k,n4,qs,_,rfl,hd4,λh5 H5 s5 hd5=>?_⟩;have S15:=(AE (s2.trans s3)).trans (S4.trans (AE s5));have T5:=T4.same s5;have hx5:=S15.keep _ _ (λ_ z=>by cases z) hx;refine⟨_,rfl,x,C,dx,_,rfl,hx5,T.cl,T.n_own_head,(by show 1<1000;decide),?_⟩;exact q p3 _ (((((AE s1).trans S15).kh hs.ins)).upd _) (UF T5 hx5 _) (Hs.set hx5 hd5)
theorem Pf:TrOk []:=⟨⟨cO,(λ_ h=>nomatch h),(λ_ h=>nomatch h),by decide⟩,⟨by decide,(λ_ h=>nomatch h),(λ_ h=>nomatch h),λ_ h=>nomatch h⟩⟩
abbrev Gs:=Str×Bool×AM
abbrev gP (p:Pe):Gs:=(p.e.nm,p.e.isS,p.e.tr)
abbrev gN (g:Gs):Str:=g.1
def setG (sm:Str)(t:AM)(gs:List Gs):List Gs:=gs.map λg=>if g.1=sm then(sm,true,t) else g
structure HW (C:Addr) (H:Hp) (x:Addr) (ks:List Str) (gs:List Gs):Prop where
 at_:∃ag qs ps,Hs C H x ag qs ps/\Ri KW qs/\qs.map KW=ks/\ps.map gP=gs
 ri:Ri gN gs
 few:gs.length<=20
 k1:ks.length<=4
 tr:∀g∈gs,TrOk g.2.2
theorem HW.st {C:Addr}{H H':Hp}{x:Addr}{ks:List Str}{gs:List Gs}(h:HW C H x ks gs)(s:St H H'):HW C H' x ks gs:=by
 obtain⟨ag,qs,ps,a,b⟩:=h.at_;exact⟨⟨ag,qs,ps,a.st s,b⟩,h.ri,h.few,h.k1,h.tr⟩
theorem HW.ins {C:Addr}{H:Hp}{x:Addr}{ks:List Str}{gs:List Gs}(h:HW C H x ks gs):∃C dx fs,H x=some (.ins C dx fs):=by
 obtain⟨ag,qs,ps,a,b⟩:=h.at_;exact a.ins
theorem HW.kh {C:Addr}{H H':Hp}{x:Addr}{ks:List Str}{gs:List Gs}(h:HW C H x ks gs)(s:St H H'):KH x H H':=s.kh h.ins
theorem Ug:∀{ps:List Pe},(ps.map F4).Nodup->∀{p:Pe},p∈ps->SD p.e.nm ps=some p
 |[],_,_,h=>nomatch h
 |q::ps,nd,p,h=>by
  rw[aF,bw] at nd;unfold SD;rw[bK];rcases aM.mp h with rfl|h
  ·rw[av rfl]
  ·rw[aq λe:q.e.nm=p.e.nm=>nd.1 (aj.mpr ⟨p,h,e.symm⟩)];exact Ug nd.2 h
theorem WR {ps:List Pe}(ri:Ri F4 ps){nm:Str}{b:Bool}{t:AM}(h:(nm,b,t)∈ps.map gP):∃p,p∈ps/\SD nm ps=some p/\p.e.tr=t/\p.e.isS=b:=by
 obtain⟨p,hp,e⟩:=aj.mp h;cases e;exact⟨p,hp,Ug ri.nd hp,rfl,rfl⟩
theorem XY {ps:List Pe}(ri:Ri F4 ps){nm:Str}{t:AM}(h:(nm,true,t)∈ps.map gP):∃p kp og,p∈ps/\fst nm ps=some p/\p.e=.st nm kp og t:=by
 obtain⟨p,hp,hf,et,es⟩:=WR ri h;have e1:=(MC hf).2;refine⟨p,?_⟩;obtain⟨a,ta,e⟩:=p;cases e with
 |st nm' kp og t'=>
  cases et;cases e1;exact⟨kp,og,hp,by unfold fst;rw[hf];exact dJ.mpr ⟨rfl,rfl⟩,rfl⟩
 |sl _ _ _ _=>cases es
theorem SJ {ps:List Pe}{gs:List Gs}(e:ps.map gP=gs)(ri:Ri gN gs):Ri F4 ps:=by
 rw[<-e] at ri;exact(OY (key:=F4) (key':=gN) (g:=gP) λ_=>rfl).mp ri
theorem V3 {ps:List Pe}(ri:Ri F4 ps){a d:Addr}{sm kp og:Str}{t:AM}(h:∃y∈ps,F4 y=sm):(putL F4 ⟨a,d,.st sm kp og t⟩ ps).map gP=setG sm t (ps.map gP):=by
 rw[PZ (key:=F4) (x:=⟨a,d,.st sm kp og t⟩) ri h];unfold setG;rw[az,az];refine bf λy _=>?_
 show gP (if y.e.nm=sm then _ else y)=if(gP y).1=sm then(sm,true,t) else gP y
 by_cases c:y.e.nm=sm
 ·rw[ak c,ak c];rfl
 ·rw[ai c,ai c]
theorem VM {sm:Str}{t:AM}{gs:List Gs}(h:Ri gN gs):Ri gN (setG sm t gs):=by
 unfold setG;refine(OY (key:=gN) (key':=gN) (g:=λg:Gs=>if g.1=sm then(sm,true,t) else g) λg=>?_).mpr h;show(if g.1=sm then((sm,true,t):Gs) else g).1=g.1
 by_cases c:g.1=sm
 ·rw[ak c];exact c.symm
 ·rw[ai c]
open Classical in
noncomputable def NN (t:AM) (P:List Str) (k:Rf ⊕ AM):Rf ⊕ AM:=if D3 t P then(if lk t P=none then k else .inl (.twice (jn P))) else .inl (.noPath (jn P))
noncomputable def OH (P:List Str):AM->AM->Rf ⊕ AM:=λt _=>NN t P (.inr (Bz t [(P,none)]))
open Classical in
noncomputable def EN (P:List Str) (c:Str):AM->AM->Rf ⊕ AM:=λt _=>if D3 t P then(if Jq t P=true then .inl (.noPath (jn P)) else .inr (Bz t [(P,some c)])) else .inl (.noPath (jn P))
def RD (c:Str)(at_ many:Int)(z:Str):Str:=(PySem.Txt.slice c none (some at_)++z)++PySem.Txt.slice c (some (at_+many)) none
noncomputable def Do (P:List Str) (at_ many:Int) (z:Str):AM->AM->Rf ⊕ AM:=λt ts=>match lk t P with
 |some (some c)=>EN P (RD c at_ many z) t ts
 |_=>.inl (.noPath (jn P))
def Kn (P:List Str):AM->AM->Rf ⊕ AM:=λt _=>if lk t P=none then .inl (.noPath (jn P)) else .inr (E3 t P)
open Classical in
noncomputable def Qe (P Q:List Str):AM->AM->Rf ⊕ AM:=λt _=>if lk t P=none then .inl (.noPath (jn P)) else if Q=P\/Dq Q P=true then .inl (.noPath (jn Q)) else NN t Q (.inr (Bz (E3 t P) (DD t P Q)))
open Classical in
noncomputable def LK (Q P:List Str):AM->AM->Rf ⊕ AM:=λt ts=>if P≠[]/\lk ts P=none then .inl (.noPath (jn P)) else NN t Q (.inr (Bz t (DD ts P Q)))
theorem TrV.with {t more:AM}(h:TrV t)(vm:∀p∈more,VP p.1/\p.1≠[])(dm:∀p∈more,p.1.length<=16)(l:t.length+more.length<=200):TrV (Bz t more):=by
 refine⟨P5 h.nd,λp hp=>?_,λp hp=>?_,aX (NL _ _) l⟩
 ·rcases K5 hp with⟨q,hq,e⟩|hp
  ·rw[e];exact vm q hq
  ·exact h.vp p hp
 ·rcases K5 hp with⟨q,hq,e⟩|hp
  ·rw[e];exact dm q hq
  ·exact h.deep p hp
theorem TrV.cut {t:AM}(h:TrV t)(P:List Str):TrV (E3 t P):=⟨h.nd.sublist (List.filter_sublist.map _),λp hp=>h.vp p (aV.mp hp).1,λp hp=>h.deep p (aV.mp hp).1,aX (bp _ _) h.few⟩
theorem Qa {t:AM}{p q:List Str×Option Str}(h:q∈Ei t p):q.2=p.2\/q∈t:=by
 unfold Ei at h
 split at h
 ·obtain⟨x,hx,e⟩:=aj.mp h
  by_cases c:x.1=p.1
  ·rw[ak c] at e;exact .inl (by rw[<-e])
  ·rw[ai c] at e;exact .inr (e▸hx)
 ·rcases aK.mp h with h|h
  ·exact .inr h
  ·exact .inl (by rw[ah.mp h])
theorem F6:∀{more t:AM} {q:List Str×Option Str},q∈Bz t more->(∃p∈more,q.2=p.2)\/q∈t
 |[],_,_,h=>.inr h
 |p::more,t,q,h=>by
  rcases F6 (more:=more) (t:=Ei t p) h with⟨x,hx,e⟩|h
  ·exact .inl ⟨x,ao _ hx,e⟩
  ·rcases Qa h with e|h
   ·exact .inl ⟨p,aw,e⟩
   ·exact .inr h
theorem Oy {t more:AM}(h:TrOk t)(hm:∀p∈more,∀c,p.2=some c->c.length<=1000000):∀p∈Bz t more,∀c,p.2=some c->c.length<=1000000:=λp hp c e=>by
 rcases F6 hp with⟨q,hq,e2⟩|hp
 ·exact hm q hq c (by rw[<-e2];exact e)
 ·have:=h.b.ct p hp c e;omega
theorem Vi {t:AM}(h:TrOk t)(P Q:List Str):∀p∈DD t P Q,∀c,p.2=some c->c.length<=1000000:=λp hp c e=>by
 rcases aM.mp hp with rfl|hp
 ·have e:(lk t P).getD none=some c:=e;cases el:lk t P with
  |none=>rw[el] at e;cases e
  |some v=>
   rw[el] at e;have:=h.b.ct _ (Cq el) c e;omega
 ·obtain⟨q,hq,rfl⟩:=aj.mp hp;have:=h.b.ct q (aV.mp hq).1 c e;omega
theorem JK {t:AM}(h:TrOk t){P Q:List Str}(vQ:VP Q)(nQ:Q≠[])(lQ:Q.length<=8):(∀p∈DD t P Q,VP p.1/\p.1≠[])/\(∀p∈DD t P Q,p.1.length<=16)/\(DD t P Q).length<=61:=by
 refine⟨λp hp=>?_,λp hp=>?_,?_⟩
 ·rcases aM.mp hp with rfl|hp
  ·exact⟨vQ,nQ⟩
  ·obtain⟨q,hq,rfl⟩:=aj.mp hp;refine⟨λx hx=>?_,λz=>nQ (cg.mp z).1⟩;rcases aK.mp hx with hx|hx
   ·exact vQ x hx
   ·exact(h.v.vp q (aV.mp hq).1).1 x (cP hx)
 ·rcases aM.mp hp with rfl|hp
  ·show Q.length<=16;omega
  ·obtain⟨q,hq,rfl⟩:=aj.mp hp;have:=h.b.deep q (aV.mp hq).1;show(Q++q.1.drop P.length).length<=16;rw[ar,bF];omega
 ·unfold DD;rw[aS,aa];have:=bp (λp:List Str×Option Str=>Dq p.1 P) t;have:=h.b.few;omega
theorem OM {t:AM}{P:List Str}{k:Rf ⊕ AM}{t':AM}(h:NN t P k=.inr t'):D3 t P/\lk t P=none/\k=.inr t':=by
 unfold NN at h
 by_cases c:D3 t P
 ·rw[ak c] at h
  by_cases d:lk t P=none
  ·rw[ak d] at h;exact⟨c,d,h⟩
  ·rw[ai d] at h;cases h
 ·rw[ai c] at h;cases h
theorem HW.set {C:Addr}{H:Hp}{x:Addr}{ks:List Str}{gs:List Gs}(h:HW C H x ks gs){H':Hp}{sm:Str}{t:AM}{ag:Int}{qs:List Kq}{ps:List Pe}{a d:Addr}{kp og:Str}(rq:Ri KW qs)(ek:qs.map KW=ks)(eg:ps.map gP=gs)(m:∃y∈ps,F4 y=sm)(tk:TrOk t)(h':Hs C H' x ag qs (putL F4 ⟨a,d,.st sm kp og t⟩ ps)):HW C H' x ks (setG sm t gs):=by
 refine⟨⟨ag,qs,_,h',rq,ek,by rw[V3 (SJ eg h.ri) m,eg]⟩,VM h.ri,?_,h.k1,λg hg=>?_⟩
 ·unfold setG;rw[aa];exact h.few
 ·obtain⟨g0,h0,rfl⟩:=aj.mp hg
  by_cases c:g0.1=sm
  ·rw[ak c];exact tk
  ·rw[ai c];exact h.tr g0 h0
theorem HW.add {C:Addr}{H:Hp}{x:Addr}{ks:List Str}{gs:List Gs}(h:HW C H x ks gs){H':Hp}{ag:Int}{qs:List Kq}{ps:List Pe}{p:Pe}(rq:Ri KW qs)(ek:qs.map KW=ks)(eg:ps.map gP=gs)(few:gs.length<=10)(tk:TrOk p.e.tr)(h':Hs C H' x ag qs (putL F4 p ps)):HW C H' x ks (putL gN (gP p) gs):=by
 refine⟨⟨ag,qs,_,h',rq,ek,by rw[<-eg];exact Gh (key:=F4) (key':=gN) (λ_=>rfl) p ps⟩,Iz h.ri,aX (Mz gs) (by omega),h.k1,λg hg=>?_⟩;rcases(Fh h.ri).mp hg with rfl|⟨hg,_⟩
 ·exact tk
 ·exact h.tr g hg
structure HA (C:Addr) (H:Hp) (x:Addr) (ks:List Str) (gs:List Gs) (a:Addr):Prop where
 at_:∃ag qs ps,Hs C H x ag qs ps/\Ri KW qs/\qs.map KW=ks/\ps.map gP=gs/\∀p∈ps,p.t≠a
 hw:HW C H x ks gs
theorem HW.apart {C:Addr}{H:Hp}{x:Addr}{ks:List Str}{gs:List Gs}(h:HW C H x ks gs){a:Addr}(na:∀kvs,H a≠some (.dK kvs)):HA C H x ks gs a:=by
 obtain⟨ag,qs,ps,hs,rq,ek,eg⟩:=h.at_;obtain⟨dx,hh,k,n,hx,hd⟩:=hs.at_;exact⟨⟨ag,qs,ps,hs,rq,ek,eg,λp hp z=>na _ (by rw[<-z];exact(hd.en p hp).1)⟩,h⟩
theorem HA.st {C:Addr}{H H':Hp}{x:Addr}{ks:List Str}{gs:List Gs}{a:Addr}(h:HA C H x ks gs a)(s:St H H'):HA C H' x ks gs a:=by
 obtain⟨ag,qs,ps,hs,b⟩:=h.at_;exact⟨⟨ag,qs,ps,hs.st s,b⟩,h.hw.st s⟩
theorem HA.kx {C:Addr}{H H':Hp}{x:Addr}{ks:List Str}{gs:List Gs}{a:Addr}(h:HA C H x ks gs a)(k:Kx a H H')(na:∀o,H a=some o->∃kvs,o=.dK kvs):HA C H' x ks gs a:=by
 obtain⟨ag,qs,ps,⟨dx,hh,kk,n,hx,hd⟩,rq,ek,eg,ap⟩:=h.at_;have tp:∀{b xs},H b=some (.tup xs)->H' b=some (.tup xs):=λ{b xs} e=>k.keep b _ (λz=>by rw[z] at e;obtain⟨kvs,e2⟩:=na _ e;cases e2) e
 have hs:Hs C H' x ag qs ps:=⟨dx,hh,kk,n,k.keep _ _ (λz=>by rw[z] at hx;obtain⟨kvs,e2⟩:=na _ hx;cases e2) hx,⟨tp hd.at_,tp hd.kp,λq hq=>tp (hd.ke q hq),tp hd.nm,λp hp=>⟨k.keep _ _ (ap p hp) (hd.en p hp).1,tp (hd.en p hp).2⟩⟩⟩
 exact⟨⟨ag,qs,ps,hs,rq,ek,eg,ap⟩,⟨ag,qs,ps,hs,rq,ek,eg⟩,h.hw.ri,h.hw.few,h.hw.k1,h.hw.tr⟩
def Bc (K:W.Frag)(C:Addr)(XC:Nat->Addr)(PT PU:Addr):Sp:=λvs H Q E=>∃(x d:Addr) (sm:Str) (t0 tr:AM) (ks:List Str) (gs:List Gs),vs=[.ref x,.str sm,.ref d]/\HW C H x ks gs/\(sm,true,t0)∈gs/\H d=some (.dK (Bx tr))/\TrV tr/\(∀p∈tr,∀c,p.2=some c->c.length<=1000000)/\Tb PT PU H/\
 (BOk tr->∀H',KH x H H'->Tb PT PU H'->HW C H' x ks (setG sm tr gs)->Q .non H')/\(¬BOk tr->∀H',St H H'->Tb PT PU H'->Ex XC E H' .many)
theorem HM (T:Txt K mg C XC)(F:Fun K "change" "PlainHouse.change" C7 f fd)(Bg:BI P w K mg base 3 C "put_tree" ["self","stem","tree"] (Cn K C XC PT PU))(BG:CY P w K mg base 4 "stem_called" ["head","name"] (DJ K XC)):FnOk P w K mg base (E7 P w) 5 f fd ["self","stem","tree"] (Bc K C XC PT PU):=by
 refine F.okE Iu (λvs H Q E h=>?_) (λcdv A outer s H vs Q E hr h=>?_)
 ·obtain⟨x,d,sm,t0,tr,ks,gs,rfl,_⟩:=h;rfl
 obtain⟨x,d,sm,t0,tr,ks,gs,rfl,hw,mg,ht,tv,hc,tb,q,qm⟩:=h;refine⟨_,(!Af (!AD (!Ba (pv 0) T.cl Bg ∅ Au (!Aa (!BA Xq (!Bl BG ∅ rfl Au (!Aa (!Ju (pv 0)) (!Aa (pv 1) (!Ab)))) (!B6) (!BO (!Ag))) (!Aa (pv 2) (!Ab)))))),?_⟩
 try dsimp only[A4,Cx.nox,Cx.wish]
 obtain⟨ag,qs,ps,hs,rq,ek,eg⟩:=hw.at_;have ri:=SJ eg hw.ri;have fw:ps.length<=20:=by have:=hw.few;rw[<-eg,aa] at this;exact this
 obtain⟨p,kp,og,mp,hf,ep⟩:=XY ri (by rw[eg];exact mg);obtain⟨dx,h,k,n,hx,hd⟩:=hs.at_;have y:=(hd.en p mp).2;rw[ep] at y;refine⟨_,rfl,x,dx,_,rfl,hx,rfl,_,rfl,x,C,dx,_,_,rfl,hx,T.cl,T.n_own_head,rfl,_,rfl,h,sm,ag,k,n,qs,ps,rfl,hd,λp' hp'=>?_,λz=>by rw[hf] at z;cases z⟩;rw[hf] at hp';cases hp';refine⟨_,rfl,p.a,_,rfl,AW.of y,(λz=>absurd z.2 (show ¬(HT.DE 5 5 (some 4)=5) by decide)),λp1 n1=>?_⟩;rw[QM (by decide)];have s1:=Ae n1 (.tup [V.str sm,V.int 1,V.str kp,V.str og]);have h1:(upd H p1 (.tup [V.str sm,V.int 1,V.str kp,V.str og])) p1=some (.tup [V.str sm,V.int 1,V.str kp,V.str og]):=Ac;refine⟨_,rfl,x,p1,d,sm,kp,og,tr,ag,qs,ps,rfl,hs.st (AE s1),h1,s1.get ht,tv,hc,ri,by omega,tb.same s1,λbo a H' k' t' h'=>?_,λbo H' S' T'=>qm bo H' ((AE s1).trans S') T'⟩;exact q bo H' ((hw.kh (AE s1)).trans k') t' (hw.set rq ek eg ⟨p,mp,by rw[F4,ep];rfl⟩ ⟨tv,bo⟩ h')
def B3 (K:W.Frag)(C:Addr)(XC:Nat->Addr):Sp:=λvs H Q _=>∃(x:Addr) (nm:Str) (b:Bool) (t:AM) (ks:List Str) (gs:List Gs),vs=[.ref x,.str nm]/\HW C H x ks gs/\(nm,b,t)∈gs/\∀d,H d=some (.dK (Bx t))->Q (.ref d) H
theorem Hl (T:Txt K mg C XC)(F:Fun K "tree_of" "PlainHouse.tree_of" CS f fd)(Ed:CY P w K mg base 3 "named_so" ["head","name"] (Ii K XC)):FnOk P w K mg base (E7 P w) 4 f fd ["self","name"] (B3 K C XC):=by
 refine F.okE Hm (λvs H Q E h=>?_) (λcdv A outer s H vs Q E hr h=>?_)
 ·obtain⟨x,nm,b,t,ks,gs,rfl,_⟩:=h;rfl
 obtain⟨x,nm,b,t,ks,gs,rfl,hw,mg,q1⟩:=h;refine⟨_,(!Af (!Aq (!An Ar (!Bl Ed ∅ rfl Au (!Aa (!Ju (pv 0)) (!Aa (pv 1) (!Ab)))) (!Ag) (λ_ _=>rfl)))),?_⟩
 try dsimp only[A4,Cx.nox,Cx.wish]
 obtain⟨ag,qs,ps,hs,rq,ek,eg⟩:=hw.at_;obtain⟨p0,hp0,hf,et,_⟩:=WR (SJ eg hw.ri) (by rw[eg];exact mg);obtain⟨dx,h,k,n,hx,hd⟩:=hs.at_;refine⟨_,rfl,x,C,dx,_,_,rfl,hx,T.cl,T.n_own_head,rfl,_,rfl,h,nm,ag,k,n,qs,ps,rfl,hd,λp hp=>?_,λz=>by rw[hf] at z;cases z⟩;rw[hf] at hp;cases hp;have y:=hd.en p0 hp0;have y1:=y.1;rw[et] at y1;have y2:=y.2;cases ee:p0.e with
 |st nm' kp og t=>
  rw[ee] at y2;exact⟨p0.a,_,_,_,rfl,rfl,AW.of y2,Ah (j:=4) rfl,q1 _ y1⟩
 |sl nm' kp og t=>
  rw[ee] at y2;exact⟨p0.a,_,_,_,rfl,rfl,AW.of y2,Ah (j:=4) rfl,q1 _ y1⟩
def AS (K:W.Frag)(C:Addr)(XC:Nat->Addr):Sp:=λvs H Q _=>∃(x:Addr) (nm:Str) (t:AM) (ks:List Str) (gs:List Gs),vs=[.ref x,.str nm]/\HW C H x ks gs/\(nm,true,t)∈gs/\∀d,H d=some (.dK (Bx t))->Q (.ref d) H
theorem Fy (T:Txt K mg C XC)(F:Fun K "tree_of_stem" "PlainHouse.tree_of_stem" B5 f fd)(BG:CY P w K mg base 4 "stem_called" ["head","name"] (DJ K XC)):FnOk P w K mg base (E7 P w) 5 f fd ["self","name"] (AS K C XC):=by
 refine F.okE Fp (λvs H Q E h=>?_) (λcdv A outer s H vs Q E hr h=>?_)
 ·obtain⟨x,nm,t,ks,gs,rfl,_⟩:=h;rfl
 obtain⟨x,nm,t,ks,gs,rfl,hw,mg,q1⟩:=h;refine⟨_,(!Af (!Aq (!An Ar (!Bl BG ∅ rfl Au (!Aa (!Ju (pv 0)) (!Aa (pv 1) (!Ab)))) (!Ag) (λ_ _=>rfl)))),?_⟩
 try dsimp only[A4,Cx.nox,Cx.wish]
 obtain⟨ag,qs,ps,hs,rq,ek,eg⟩:=hw.at_;obtain⟨p0,kp,og,hp0,hf,et⟩:=XY (SJ eg hw.ri) (by rw[eg];exact mg);obtain⟨dx,h,k,n,hx,hd⟩:=hs.at_;refine⟨_,rfl,x,C,dx,_,_,rfl,hx,T.cl,T.n_own_head,rfl,_,rfl,h,nm,ag,k,n,qs,ps,rfl,hd,λp hp=>?_,λz=>by rw[hf] at z;cases z⟩;rw[hf] at hp;cases hp;have y:=hd.en p0 hp0;have y1:=y.1;have y2:=y.2;rw[et] at y1 y2;exact⟨p0.a,_,_,_,rfl,rfl,AW.of y2,Ah (j:=4) rfl,q1 _ y1⟩
theorem UQ {nm:Str}{ns:List Str}(h1:Bh (.str nm)=true)(h2:nm∉ns):MW nm ns=none:=by
 unfold MW;rw[ak h1,ai h2]
def CC (K:W.Frag)(C:Addr)(XC:Nat->Addr)(PT PU:Addr):Sp:=λvs H Q _=>∃(x d a:Addr) (nm kp:Str) (tr:AM) (ks:List Str) (gs:List Gs),vs=[.ref x,.str nm,.str kp,.ref d]/\HA C H x ks gs a/\(∃o,H a=some o)/\Bh (.str nm)=true/\nm∉gs.map gN/\kp∈ks/\gs.length<=10/\H d=some (.dK (Bx tr))/\TrOk tr/\Tb PT PU H/\∀H',KH x H H'->Tb PT PU H'->HA C H' x ks (putL gN (nm,true,tr) gs) a->Q .non H'
theorem Hh (T:Txt K mg C XC)(F:Fun K "take_in" "PlainHouse.take_in" CN f fd)(Eb:CY P w K mg base 4 "check_new_stem" ["head","name","keeper"] (FE K XC))(Bg:BI P w K mg base 3 C "put_tree" ["self","stem","tree"] (Cn K C XC PT PU)):FnOk P w K mg base (E7 P w) 5 f fd ["self","name","keeper","tree"] (CC K C XC PT PU):=by
 refine F.okE G8 (λvs H Q E h=>?_) (λcdv A outer s H vs Q E hr h=>?_)
 ·obtain⟨x,d,a,nm,kp,tr,ks,gs,rfl,_⟩:=h;rfl
 obtain⟨x,d,a0,nm,kp,tr,ks,gs,rfl,ha,⟨oa,hoa⟩,nb,nn,mk,few,ht,tk,tb,q⟩:=h;have hw:=ha.hw;refine⟨_,(!Ad (!AD (!Bl Eb ∅ rfl Au (!Aa (!Ju (pv 0)) (!Aa (pv 1) (!Aa (pv 2) (!Ab)))))) (!Af (!AD (!Ba (pv 0) T.cl Bg ∅ Au (!Aa (!Az (!Aa (pv 1) (!Aa (!Cd rfl T.c_STEM) (!Aa (pv 2) (!Aa (!Aj) (!Ab)))))) (!Aa (!Cy Jj (by rfl) T.b_dict CD (!Aa (pv 3) (!Ab))) (!Ab))))))),?_⟩
 try dsimp only[A4,Cx.nox,Cx.wish]
 obtain⟨ag,qs,ps,hs,rq,ek,eg,ap⟩:=ha.at_;have ri:=SJ eg hw.ri;have fw:ps.length<=10:=by rw[<-eg,aa] at few;exact few
 have en:gs.map gN=ps.map F4:=by rw[<-eg,az];rfl
 obtain⟨dx,h,k,n,hx,hd⟩:=hs.at_;have er:Sb nm kp (qs.map KW) (ps.map F4)=none:=by
  unfold Sb;rw[UQ nb (by rw[<-en];exact nn),ak (by rw[ek];exact mk),ak (by rw[aa];omega)]
 refine⟨_,rfl,x,C,dx,_,_,rfl,hx,T.cl,T.n_own_head,rfl,_,rfl,_,rfl,h,nm,kp,ag,k,n,qs,ps,rfl,hd,(by have:=(BR nb).2.2;omega),λH1 s1=>?_⟩;rw[er];refine⟨_,rfl,x,dx,_,rfl,s1.get hx,rfl,_,rfl,_,rfl,Nv,λp1 n1=>?_⟩;have s2:=Ae n1 (.tup [V.str nm,V.int 1,V.str kp,V.str EM]);have h2:(upd H1 p1 (.tup [V.str nm,V.int 1,V.str kp,V.str EM])) p1=some (.tup [V.str nm,V.int 1,V.str kp,V.str EM]):=Ac;generalize upd H1 p1 (.tup [V.str nm,V.int 1,V.str kp,V.str EM])=H2 at s2 h2;have s12:=s1.trans s2;refine⟨_,rfl,d,_,rfl,s12.get ht,(by unfold Bx;rw[aa];have:=tk.b.few;omega),λp3 n3=>?_⟩;have s3:=Ae n3 (.dK (Bx tr));have h3:(upd H2 p3 (.dK (Bx tr))) p3=some (.dK (Bx tr)):=Ac;generalize upd H2 p3 (.dK (Bx tr))=H3 at s3 h3;have s13:=s12.trans s3;refine⟨x,p1,p3,nm,kp,EM,tr,ag,qs,ps,rfl,hs.st (AE s13),s3.get h2,h3,tk.v,(λp hp c e=>by have:=tk.b.ct p hp c e;omega),ri,by omega,tb.same s13,λ_ a H' k' t' h'=>?_,λbo=>absurd tk.b bo⟩;have hw':=hw.add (p:=⟨a,p3,.st nm kp EM tr⟩) rq ek eg few tk h';refine q H' ((hw.kh (AE s13)).trans k') t' ⟨⟨_,_,_,h',rq,ek,?_,λp hp=>?_⟩,hw'⟩
 ·rw[<-eg];exact Gh (key:=F4) (key':=gN) (λ_=>rfl) ⟨a,p3,.st nm kp EM tr⟩ ps
 ·rcases(Fh ri).mp hp with rfl|⟨hp,_⟩
  ·exact λz=>by have:=s12.get hoa;rw[<-z,n3] at this;cases this
  ·exact ap p hp
def Fj (K:W.Frag)(C:Addr)(XC:Nat->Addr)(PT PU:Addr):Sp:=λvs H Q _=>∃(x:Addr) (nm kp:Str) (ks:List Str) (gs:List Gs),vs=[.ref x,.str nm,.str kp]/\HW C H x ks gs/\Bh (.str nm)=true/\nm∉gs.map gN/\kp∈ks/\gs.length<=10/\Tb PT PU H/\∀H',KH x H H'->Tb PT PU H'->HW C H' x ks (putL gN (nm,true,[]) gs)->Q .non H'
theorem Jc (T:Txt K mg C XC)(F:Fun K "stem" "PlainHouse.stem" DP f fd)(Bo:BI P w K mg base 5 C "take_in" ["self","name","keeper","tree"] (CC K C XC PT PU)):FnOk P w K mg base (E7 P w) 6 f fd ["self","name","keeper"] (Fj K C XC PT PU):=by
 refine F.okE Jg (λvs H Q E h=>?_) (λcdv A outer s H vs Q E hr h=>?_)
 ·obtain⟨x,nm,kp,ks,gs,rfl,_⟩:=h;rfl
 obtain⟨x,nm,kp,ks,gs,rfl,hw,nb,nn,mk,few,tb,q⟩:=h;refine⟨_,(!Af (!AD (!Ba (pv 0) T.cl Bo ∅ Au (!Aa (pv 1) (!Aa (pv 2) (!Aa (!Fw) (!Ab))))))),?_⟩
 try dsimp only[A4,Cx.nox,Cx.wish]
 obtain⟨C',dx,fs,hx⟩:=hw.ins;obtain⟨ag,qs,ps,hs,rq,ek,eg⟩:=hw.at_;obtain⟨dx,h,k,n,hx,hd⟩:=hs.at_;refine⟨_,rfl,x,dx,_,rfl,hx,rfl,_,rfl,_,rfl,λt nt=>?_⟩;have s1:=Ae nt (.dK []);have h1:(upd H t (.dK [])) t=some (.dK []):=Ac;exact⟨x,t,x,nm,kp,[],ks,gs,rfl,(hw.st (AE s1)).apart (λkvs z=>by rw[s1.get hx] at z;cases z),⟨_,s1.get hx⟩,nb,nn,mk,few,h1,Pf,tb.same s1,λH' k' t' h'=>q H' ((hw.kh (AE s1)).trans k') t' h'.hw⟩
theorem PF {x dx h h' k' n':Addr}{H H':Hp}{ag:Int}{qs:List Kq}{ps:List Pe}(hx:H x=some (.ins C dx [("own_head",.ref h)]))(S:St H H')(tb:Tb PT PU H')(hd:HeadAt H' h' ag k' qs n' ps) :
  KH x H (upd H' x (.ins C dx [("own_head",.ref h')]))/\Hs C (upd H' x (.ins C dx [("own_head",.ref h')])) x ag qs ps/\Tb PT PU (upd H' x (.ins C dx [("own_head",.ref h')])):=by
 have hx':=S.keep _ _ (λ_ z=>by cases z) hx;exact⟨(S.kh ⟨_,_,_,hx⟩).upd _,Hs.set hx' hd,UF tb hx' _⟩
def Fq (K:W.Frag)(C:Addr)(XC:Nat->Addr)(PT PU:Addr):Sp:=λvs H Q _=>∃(x:Addr) (sm nm:Str) (t:AM) (ks:List Str) (gs:List Gs),vs=[.ref x,.str sm,.str nm]/\HW C H x ks gs/\Bh (.str nm)=true/\nm∉gs.map gN/\(sm,true,t)∈gs/\gs.length<=10/\Tb PT PU H/\∀H',KH x H H'->Tb PT PU H'->HW C H' x ks (putL gN (nm,false,t) gs)->Q .non H'
theorem Jo (T:Txt K mg C XC)(F:Fun K "seal" "PlainHouse.seal" DI f fd)(FN:CY P w K mg base 5 "stem_sealed" ["head","stem","name"] (Io K XC PT PU)):FnOk P w K mg base (E7 P w) 6 f fd ["self","stem","name"] (Fq K C XC PT PU):=by
 refine F.okE JD (λvs H Q E h=>?_) (λcdv A outer s H vs Q E hr h=>?_)
 ·obtain⟨x,sm,nm,t,ks,gs,rfl,_⟩:=h;rfl
 obtain⟨x,sm,nm,t,ks,gs,rfl,hw,nb,nn,mg,few,tb,q⟩:=h;refine⟨_,(!Af (!O5 (pv 0) (!Bl FN ∅ rfl Au (!Aa (!Ju (pv 0)) (!Aa (pv 1) (!Aa (pv 2) (!Ab))))))),?_⟩
 try dsimp only[A4,Cx.nox,Cx.wish]
 obtain⟨ag,qs,ps,hs,rq,ek,eg⟩:=hw.at_;have ri:=SJ eg hw.ri;have fw:ps.length<=10:=by rw[<-eg,aa] at few;exact few
 have en:gs.map gN=ps.map F4:=by rw[<-eg,az];rfl
 obtain⟨p0,kp,og,hp0,hf,et⟩:=XY ri (by rw[eg];exact mg);obtain⟨dx,h,k,n,hx,hd⟩:=hs.at_;have er:RS (fst sm ps) sm nm (ps.map F4)=none:=by
  rw[hf];show(match MW nm (ps.map F4) with|some r=>some r|none=>if(ps.map F4).length<24 then none else some Rf.many)=none;rw[UQ nb (by rw[<-en];exact nn)];exact ak (by rw[aa];omega)
 refine⟨_,rfl,x,C,dx,_,_,rfl,hx,T.cl,T.n_own_head,rfl,_,rfl,_,rfl,h,sm,nm,ag,k,n,qs,ps,rfl,hd,ri,by omega,(by have:=(BR nb).2.2;omega),tb,(λr z=>by rw[er] at z;cases z),λp hp _ h' n' a H' S' T' hd'=>?_⟩;rw[hf] at hp;cases hp;obtain⟨k2,hs2,tb2⟩:=PF hx S' T' hd';refine⟨_,rfl,x,C,dx,_,rfl,S'.keep _ _ (λ_ z=>by cases z) hx,T.cl,T.n_own_head,(by show 1<1000;decide),?_⟩;rw[et] at hs2;exact q _ k2 tb2 (hw.add (p:=⟨a,p0.t,.sl nm sm (ag+1) t⟩) rq ek eg few (hw.tr _ mg) hs2)
def Ey (K:W.Frag)(C:Addr)(XC:Nat->Addr)(PT PU:Addr):Sp:=λvs H Q _=>∃(x:Addr) (nm:Str) (b:Int),vs=[.ref x,.str nm,.int b]/\HW C H x [] []/\Bh (.str nm)=true/\Tb PT PU H/\∀H',KH x H H'->Tb PT PU H'->HW C H' x [nm] []->Q .non H'
theorem HR (T:Txt K mg C XC)(F:Fun K "keeper" "PlainHouse.keeper" Di f fd)(FL:CY P w K mg base 3 "keeper_told" ["head","name","bound"] (Ho K XC PT PU)):FnOk P w K mg base (E7 P w) 4 f fd ["self","name","bound"] (Ey K C XC PT PU):=by
 refine F.okE Ih (λvs H Q E h=>?_) (λcdv A outer s H vs Q E hr h=>?_)
 ·obtain⟨x,nm,b,rfl,_⟩:=h;rfl
 obtain⟨x,nm,b,rfl,hw,nb,tb,q⟩:=h;refine⟨_,(!Af (!O5 (pv 0) (!Bl FL ∅ rfl Au (!Aa (!Ju (pv 0)) (!Aa (pv 1) (!Aa (pv 2) (!Ab))))))),?_⟩
 try dsimp only[A4,Cx.nox,Cx.wish]
 obtain⟨ag,qs,ps,hs,rq,ek,eg⟩:=hw.at_;have ek:=cJ.mp ek;have eg:=cJ.mp eg;subst ek eg;obtain⟨dx,h,k,n,hx,hd⟩:=hs.at_;have er:keepR nm (([]:List Kq).map KW)=none:=by
  unfold keepR;rw[ak nb];rfl
 refine⟨_,rfl,x,C,dx,_,_,rfl,hx,T.cl,T.n_own_head,rfl,_,rfl,_,rfl,h,nm,b,ag,k,n,[],[],rfl,hd,rq,(by decide),(by have:=(BR nb).2.2;omega),tb,(λr z=>by rw[er] at z;cases z),λ_ h' k' a H' S' T' hd'=>?_⟩;obtain⟨k2,hs2,tb2⟩:=PF hx S' T' hd';refine⟨_,rfl,x,C,dx,_,rfl,S'.keep _ _ (λ_ z=>by cases z) hx,T.cl,T.n_own_head,(by show 1<1000;decide),?_⟩;exact q _ k2 tb2 ⟨⟨_,_,[],hs2,Iz rq,rfl,rfl⟩,List.Pairwise.nil,by decide,bE rfl,λ_ h=>nomatch h⟩
theorem Lz {P:List Str}{v:Option Str}(vP:VP P)(n:P≠[])(l:P.length<=8):(∀p∈[(P,v)],VP p.1/\p.1≠[])/\∀p∈[(P,v)],p.1.length<=16:=⟨λp hp=>by rw[ah.mp hp];exact⟨vP,n⟩,λp hp=>by rw[ah.mp hp];show P.length<=16;omega⟩
open Classical in
noncomputable def MY:Rf ⊕ AM->Rf ⊕ AM
 | .inl r=>.inl r
 | .inr t=>if BOk t then .inr t else .inl .many
def Lg (C PT PU:Addr)(XC:Nat->Addr)(x:Addr)(sm:Str)(r:Rf ⊕ AM)(ks:List Str)(gs:List Gs)(H:Hp)(Q:V->Hp->Prop)(E:Value->Option Addr->Hp->Prop):Prop:=
 (∀e,MY r=.inl e->∀H',St H H'->Tb PT PU H'->Ex XC E H' e)/\
 (∀t',MY r=.inr t'->∀H',KH x H H'->Tb PT PU H'->HW C H' x ks (setG sm t' gs)->Q .non H')
theorem HU {C PT PU x:Addr}{XC:Nat->Addr}{sm:Str}{r:Rf ⊕ AM}{t':AM}{ks:List Str}{gs:List Gs}{H H1:Hp}{Q:V->Hp->Prop}{E:Value->Option Addr->Hp->Prop}(hw:HW C H x ks gs)(q:Lg C PT PU XC x sm r ks gs H Q E)(e:r=.inr t')(S1:St H H1) :
  (BOk t'->∀H',KH x H1 H'->Tb PT PU H'->HW C H' x ks (setG sm t' gs)->Q .non H')/\(¬BOk t'->∀H',St H1 H'->Tb PT PU H'->Ex XC E H' .many):=by
 subst e;exact⟨λbo H' k' tb' h'=>q.2 t' (ak bo) H' ((hw.kh S1).trans k') tb' h',λbo H' S' T'=>q.1 _ (ai bo) H' (S1.trans S') T'⟩
theorem R4 {c z:Str}{a m:Int}(hc:c.length<=400)(hz:z.length<=500):(RD c a m z).length<=1300:=by
 unfold RD;have h1:=bu c none (some a);have h2:=bu c (some (a+m)) none;rw[bR,bR];omega
def Da (K:W.Frag)(C:Addr)(XC:Nat->Addr)(PT PU:Addr):Sp:=λvs H Q E=>∃(x:Addr) (sm c:Str) (P:List Str) (t:AM) (ks:List Str) (gs:List Gs),vs=[.ref x,.str sm,.str (jn P),.str c]/\CP P/\(jn P).length<=1000/\c.length<=100000/\HW C H x ks gs/\(sm,true,t)∈gs/\Tb PT PU H/\Lg C PT PU XC x sm (EN P c t []) ks gs H Q E
theorem IJ (T:Txt K mg C XC)(F:Fun K "write" "PlainHouse.write" Ds f fd)(Am:BI P w K mg base 5 C "tree_of_stem" ["self","name"] (AS K C XC))(Dz:CY P w K mg base 4 "check_put" ["tree","path"] (GM K XC))(Dy:Def P w K mg base 1 "is_folder" ["tree","path"] (GY K))(AB:BI P w K mg base 5 C "change" ["self","stem","tree"] (Bc K C XC PT PU))(AO:Jn P w K mg base 1 "NoPath" (XC 5) "path" ["self","path"])(Bj:Def P w K mg base 1 "with_paths" ["tree","more"] (Cz K)):FnOk P w K mg base (E7 P w) 6 f fd ["self","stem","path","content"] (Da K C XC PT PU):=by
 refine F.okE EU (λvs H Q E h=>?_) (λcdv A outer s H vs Q E hr h=>?_)
 ·obtain⟨x,sm,c,P,t,ks,gs,rfl,_⟩:=h;rfl
 obtain⟨x,sm,c,P,t,ks,gs,rfl,vP,lP,lc,hw,mg,tb,q⟩:=h;refine⟨_,(!Ad (@Av _ _ (4) _ _ _ _ EU.nd rfl ∅ (!Ba (pv 0) T.cl Am ∅ Au (!Aa (pv 1) (!Ab))) (by rfl) ∅) (!Ad (!AD (!Bl Dz ∅ rfl Au (!Aa (pv 4) (!Aa (pv 2) (!Ab))))) (!Ad (!AJ (!Bq (!AH Dy ∅ rfl (!Aa (pv 4) (!Aa (pv 2) (!Ab)))) (by intro _;rfl)) (!Af (!B0 BD rfl AO ∅ rfl (!Aa (pv 2) (!Ab)))) (!Ao)) (!Af (!AD (!Ba (pv 0) T.cl AB ∅ Au (!Aa (pv 1) (!Aa (!AH Bj ∅ rfl (!Aa (pv 4) (!Aa (!Bk (!Aa (!Az (!Aa (pv 2) (!Aa (pv 3) (!Ab)))) (!Ab))) (!Ab)))) (!Ab))))))))),?_⟩
 try dsimp only[A4,Cx.nox,Cx.wish]
 obtain⟨ag,qs,ps,⟨dx,h,k,n,hx,hd⟩,_⟩:=hw.at_;have tk:TrOk t:=hw.tr _ mg;refine⟨_,rfl,x,dx,_,rfl,hx,rfl,_,rfl,x,sm,t,ks,gs,rfl,hw,mg,λd hdt=>?_⟩;refine⟨_,rfl,_,rfl,d,P,t,rfl,hdt,tk.v.v,vP,lP,λpk H1 s1=>?_,λpk H1 s1=>q.1 _ (congrArg MY (ai pk)) H1 (AE s1) (tb.same s1)⟩;refine⟨_,rfl,_,rfl,d,P,t,rfl,s1.get hdt,tk.v.v,pk.2.1.1,_,rfl,?_⟩;cases fo:Jq t P with
 |true=>exact AG rfl ⟨_,rfl,_,rfl,q.1 _ (congrArg MY ((ak pk).trans (ak fo))) H1 (AE s1) (tb.same s1)⟩
 |false=>
  have ef:EN P c t []=.inr (Bz t [(P,some c)]):=(ak pk).trans (ai (by rw[fo];exact ay));refine As rfl ?_;refine⟨_,rfl,x,dx,_,rfl,s1.get hx,rfl,_,rfl,_,rfl,_,rfl,_,rfl,Bs,λp1 n1=>?_⟩;have s2:=Ae n1 (.tup [V.str (jn P),V.str c]);have h2:(upd H1 p1 (.tup [V.str (jn P),V.str c])) p1=some (.tup [V.str (jn P),V.str c]):=Ac;generalize upd H1 p1 (.tup [V.str (jn P),V.str c])=H2 at s2 h2;refine⟨CH,λp2 n2=>?_⟩;have s3:=Ae n2 (.lst [V.ref p1]);have h3:(upd H2 p2 (.lst [V.ref p1])) p2=some (.lst ([p1].map V.ref)):=Ac;generalize upd H2 p2 (.lst [V.ref p1])=H3 at s3 h3;have s13:=(s1.trans s2).trans s3;obtain⟨a,b⟩:=Lz (v:=some c) pk.2.1.1 pk.1 pk.2.1.2;refine⟨d,p2,t,[(P,some c)],[p1],rfl,s13.get hdt,h3,⟨rfl,λi y z e1 e2=>?_⟩,tk.v.v,λy hy=>(a y hy).1,tk.v.few,(by show 1<=200;decide),λd' H4 s4 nd' hd'=>?_⟩
  ·cases i with
   |zero=>cases e1;cases e2;exact s3.get h2
   |succ i=>cases e1
  have s14:=s13.trans s4;obtain⟨g1,g2⟩:=HU hw q ef (AE s14);exact⟨x,d',sm,t,Bz t [(P,some c)],ks,gs,rfl,hw.st (AE s14),mg,hd',tk.v.with a b (by have:=tk.b.few;show t.length+1<=200;omega),Oy tk (λy hy c' ec=>by rw[ah.mp hy] at ec;cases ec;omega),tb.same s14,g1,g2⟩
def Es (K:W.Frag)(C:Addr)(XC:Nat->Addr)(PT PU:Addr):Sp:=λvs H Q E=>∃(x:Addr) (sm:Str) (P:List Str) (t:AM) (ks:List Str) (gs:List Gs),vs=[.ref x,.str sm,.str (jn P)]/\CP P/\(jn P).length<=1000/\HW C H x ks gs/\(sm,true,t)∈gs/\Tb PT PU H/\Lg C PT PU XC x sm (OH P t []) ks gs H Q E
theorem Hr (T:Txt K mg C XC)(F:Fun K "folder" "PlainHouse.folder" C8 f fd)(Am:BI P w K mg base 5 C "tree_of_stem" ["self","name"] (AS K C XC))(BV:CY P w K mg base 5 "check_free" ["tree","path"] (Dk K XC))(AB:BI P w K mg base 5 C "change" ["self","stem","tree"] (Bc K C XC PT PU))(Bj:Def P w K mg base 1 "with_paths" ["tree","more"] (Cz K)):FnOk P w K mg base (E7 P w) 6 f fd ["self","stem","path"] (Es K C XC PT PU):=by
 refine F.okE EE (λvs H Q E h=>?_) (λcdv A outer s H vs Q E hr h=>?_)
 ·obtain⟨x,sm,P,t,ks,gs,rfl,_⟩:=h;rfl
 obtain⟨x,sm,P,t,ks,gs,rfl,vP,lP,hw,mg,tb,q⟩:=h;refine⟨_,(!Ad (@Av _ _ (3) _ _ _ _ EE.nd rfl ∅ (!Ba (pv 0) T.cl Am ∅ Au (!Aa (pv 1) (!Ab))) (by rfl) ∅) (!Ad (!AD (!Bl BV ∅ rfl Au (!Aa (pv 3) (!Aa (pv 2) (!Ab))))) (!Af (!AD (!Ba (pv 0) T.cl AB ∅ Au (!Aa (pv 1) (!Aa (!AH Bj ∅ rfl (!Aa (pv 3) (!Aa (!Bk (!Aa (!Az (!Aa (pv 2) (!Aa (!Ig) (!Ab)))) (!Ab))) (!Ab)))) (!Ab)))))))),?_⟩
 try dsimp only[A4,Cx.nox,Cx.wish]
 obtain⟨ag,qs,ps,⟨dx,h,k,n,hx,hd⟩,_⟩:=hw.at_;have tk:TrOk t:=hw.tr _ mg;refine⟨_,rfl,x,dx,_,rfl,hx,rfl,_,rfl,x,sm,t,ks,gs,rfl,hw,mg,λd hdt=>?_⟩;refine⟨_,rfl,_,rfl,d,P,t,rfl,hdt,tk.v.v,vP,lP,λpk nl H1 s1=>?_,λpk nl H1 s1=>q.1 _ (congrArg MY ((ak pk).trans (ai nl))) H1 (AE s1) (tb.same s1),λpk H1 s1=>q.1 _ (congrArg MY (ai pk)) H1 (AE s1) (tb.same s1)⟩;have ef:OH P t []=.inr (Bz t [(P,none)]):=(ak pk).trans (ak nl);refine⟨_,rfl,x,dx,_,rfl,s1.get hx,rfl,_,rfl,_,rfl,_,rfl,Bs,λp1 n1=>?_⟩;have s2:=Ae n1 (.tup [V.str (jn P),V.non]);have h2:(upd H1 p1 (.tup [V.str (jn P),V.non])) p1=some (.tup [V.str (jn P),V.non]):=Ac;generalize upd H1 p1 (.tup [V.str (jn P),V.non])=H2 at s2 h2;refine⟨CH,λp2 n2=>?_⟩;have s3:=Ae n2 (.lst [V.ref p1]);have h3:(upd H2 p2 (.lst [V.ref p1])) p2=some (.lst ([p1].map V.ref)):=Ac;generalize upd H2 p2 (.lst [V.ref p1])=H3 at s3 h3;have s13:=(s1.trans s2).trans s3;obtain⟨a,b⟩:=Lz (v:=none) pk.2.1.1 pk.1 pk.2.1.2;refine⟨d,p2,t,[(P,none)],[p1],rfl,s13.get hdt,h3,⟨rfl,λi y z e1 e2=>?_⟩,tk.v.v,λy hy=>(a y hy).1,tk.v.few,(by show 1<=200;decide),λd' H4 s4 nd' hd'=>?_⟩
 ·cases i with
  |zero=>cases e1;cases e2;exact s3.get h2
  |succ i=>cases e1
 have s14:=s13.trans s4;obtain⟨g1,g2⟩:=HU hw q ef (AE s14);exact⟨x,d',sm,t,Bz t [(P,none)],ks,gs,rfl,hw.st (AE s14),mg,hd',tk.v.with a b (by have:=tk.b.few;show t.length+1<=200;omega),Oy tk (λy hy c' ec=>by rw[ah.mp hy] at ec;cases ec),tb.same s14,g1,g2⟩
theorem WV {t:AM}(tv:TrV t){P:List Str}(h:lk t P≠none):VP P/\P≠[]:=by
 cases e:lk t P with
 |none=>exact absurd e h
 |some v=>exact tv.vp _ (Cq e)
def EA (K:W.Frag)(C:Addr)(XC:Nat->Addr)(PT PU:Addr):Sp:=λvs H Q E=>∃(x:Addr) (sm:Str) (P:List Str) (t:AM) (ks:List Str) (gs:List Gs),vs=[.ref x,.str sm,.str (jn P)]/\CP P/\HW C H x ks gs/\(sm,true,t)∈gs/\Tb PT PU H/\Lg C PT PU XC x sm (Kn P t []) ks gs H Q E
theorem Iv (T:Txt K mg C XC)(F:Fun K "remove" "PlainHouse.remove" Dg f fd)(Am:BI P w K mg base 5 C "tree_of_stem" ["self","name"] (AS K C XC))(BH:CY P w K mg base 3 "check_there" ["tree","path"] (DF K XC))(AB:BI P w K mg base 5 C "change" ["self","stem","tree"] (Bc K C XC PT PU))(Cc:Def P w K mg base 2 "without_path" ["tree","path"] (EK K)):FnOk P w K mg base (E7 P w) 6 f fd ["self","stem","path"] (EA K C XC PT PU):=by
 refine F.okE Ew (λvs H Q E h=>?_) (λcdv A outer s H vs Q E hr h=>?_)
 ·obtain⟨x,sm,P,t,ks,gs,rfl,_⟩:=h;rfl
 obtain⟨x,sm,P,t,ks,gs,rfl,vP,hw,mg,tb,q⟩:=h;refine⟨_,(!Ad (@Av _ _ (3) _ _ _ _ Ew.nd rfl ∅ (!Ba (pv 0) T.cl Am ∅ Au (!Aa (pv 1) (!Ab))) (by rfl) ∅) (!Ad (!AD (!Bl BH ∅ rfl Au (!Aa (pv 3) (!Aa (pv 2) (!Ab))))) (!Af (!AD (!Ba (pv 0) T.cl AB ∅ Au (!Aa (pv 1) (!Aa (!AH Cc ∅ rfl (!Aa (pv 3) (!Aa (pv 2) (!Ab)))) (!Ab)))))))),?_⟩
 try dsimp only[A4,Cx.nox,Cx.wish]
 obtain⟨ag,qs,ps,⟨dx,h,k,n,hx,hd⟩,_⟩:=hw.at_;have tk:TrOk t:=hw.tr _ mg;refine⟨_,rfl,x,dx,_,rfl,hx,rfl,_,rfl,x,sm,t,ks,gs,rfl,hw,mg,λd hdt=>?_⟩;refine⟨_,rfl,_,rfl,d,P,t,rfl,hdt,tk.v.v,vP,λnl=>?_,λnl=>q.1 _ (congrArg MY (ak nl)) H (.refl _) tb⟩;have ef:Kn P t []=.inr (E3 t P):=ai nl;obtain⟨v2,_⟩:=WV tk.v nl;have l8:P.length<=8:=by
  cases e:lk t P with
  |none=>exact absurd e nl
  |some v=>exact tk.b.deep _ (Cq e)
 refine⟨_,rfl,x,dx,_,rfl,hx,rfl,_,rfl,_,rfl,_,rfl,d,t,P,rfl,hdt,tk.v,v2,by omega,λd' H4 s4 nd' hd'=>?_⟩;obtain⟨g1,g2⟩:=HU hw q ef (AE s4);exact⟨x,d',sm,t,E3 t P,ks,gs,rfl,hw.st (AE s4),mg,hd',tk.v.cut P,(λy hy c' ec=>by have:=tk.b.ct y (aV.mp hy).1 c' ec;omega),tb.same s4,g1,g2⟩
def Fd (K:W.Frag)(C:Addr)(XC:Nat->Addr)(PT PU:Addr):Sp:=λvs H Q E=>∃(x:Addr) (sm:Str) (P R:List Str) (t:AM) (ks:List Str) (gs:List Gs),vs=[.ref x,.str sm,.str (jn P),.str (jn R)]/\CP P/\CP R/\(jn R).length<=1000/\HW C H x ks gs/\(sm,true,t)∈gs/\Tb PT PU H/\Lg C PT PU XC x sm (Qe P R t []) ks gs H Q E
theorem Jk (T:Txt K mg C XC)(F:Fun K "move" "PlainHouse.move" DN f fd)(Am:BI P w K mg base 5 C "tree_of_stem" ["self","name"] (AS K C XC))(BH:CY P w K mg base 3 "check_there" ["tree","path"] (DF K XC))(BV:CY P w K mg base 5 "check_free" ["tree","path"] (Dk K XC))(AB:BI P w K mg base 5 C "change" ["self","stem","tree"] (Bc K C XC PT PU))(BS:Def P w K mg base 1 "is_beneath" ["path","other"] (Ep K))(AO:Jn P w K mg base 1 "NoPath" (XC 5) "path" ["self","path"])(Bj:Def P w K mg base 1 "with_paths" ["tree","more"] (Cz K))(Cc:Def P w K mg base 2 "without_path" ["tree","path"] (EK K))(E8:Def P w K mg base 4 "carried" ["tree","path","to"] (GG K)):FnOk P w K mg base (E7 P w) 6 f fd ["self","stem","path","to"] (Fd K C XC PT PU):=by
 refine F.okE Fn (λvs H Q E h=>?_) (λcdv A outer s H vs Q E hr h=>?_)
 ·obtain⟨x,sm,P,R,t,ks,gs,rfl,_⟩:=h;rfl
 obtain⟨x,sm,P,R,t,ks,gs,rfl,vP,vR,lR,hw,mg,tb,q⟩:=h;refine⟨_,(!Ad (@Av _ _ (4) _ _ _ _ Fn.nd rfl ∅ (!Ba (pv 0) T.cl Am ∅ Au (!Aa (pv 1) (!Ab))) (by rfl) ∅) (!Ad (!AD (!Bl BH ∅ rfl Au (!Aa (pv 4) (!Aa (pv 2) (!Ab))))) (!Ad (!AJ (@PW.pt _ _ _ (!D1 (!Ax Ck (pv 3) (pv 2) (AC _)) (!CM (!Bq (!AH BS ∅ rfl (!Aa (pv 3) (!Aa (pv 2) (!Ab)))) (by intro _;rfl))))) (!Af (!B0 BD rfl AO ∅ rfl (!Aa (pv 3) (!Ab)))) (!Ao)) (!Ad (!AD (!Bl BV ∅ rfl Au (!Aa (pv 4) (!Aa (pv 3) (!Ab))))) (!Af (!AD (!Ba (pv 0) T.cl AB ∅ Au (!Aa (pv 1) (!Aa (!AH Bj ∅ rfl (!Aa (!AH Cc ∅ rfl (!Aa (pv 4) (!Aa (pv 2) (!Ab)))) (!Aa (!AH E8 ∅ rfl (!Aa (pv 4) (!Aa (pv 2) (!Aa (pv 3) (!Ab))))) (!Ab)))) (!Ab)))))))))),?_⟩
 try dsimp only[A4,Cx.nox,Cx.wish]
 obtain⟨ag,qs,ps,⟨dx,h,k,n,hx,hd⟩,_⟩:=hw.at_;have tk:TrOk t:=hw.tr _ mg;refine⟨_,rfl,x,dx,_,rfl,hx,rfl,_,rfl,x,sm,t,ks,gs,rfl,hw,mg,λd hdt=>?_⟩;refine⟨_,rfl,_,rfl,d,P,t,rfl,hdt,tk.v.v,vP,λnl=>?_,λnl=>q.1 _ (congrArg MY (ak nl)) H (.refl _) tb⟩;obtain⟨v2,_⟩:=WV tk.v nl;have l8:P.length<=8:=by
  cases e:lk t P with
  |none=>exact absurd e nl
  |some v=>exact tk.b.deep _ (Cq e)
 have bad:(R=P\/Dq R P=true)->Ex XC E H (.noPath (jn R)):=λz=>q.1 _ (congrArg MY ((ai nl).trans (ak z))) H (.refl _) tb
 refine⟨_,rfl,_,rfl,rfl,_,rfl,?_⟩;rw[JB vR vP];refine DQ (λc=>?_) (λc=>?_)
 ·exact AG rfl ⟨_,rfl,_,rfl,bad (.inl (aE c))⟩
 refine⟨_,rfl,_,rfl,R,P,rfl,vR,v2,by omega,_,rfl,?_⟩;cases cb:Dq R P with
 |true=>exact AG rfl ⟨_,rfl,_,rfl,bad (.inr cb)⟩
 |false=>
  have nb:¬(R=P\/Dq R P=true):=λz=>z.elim (λz=>c (av z)) λz=>by rw[cb] at z;cases z
  refine As rfl ?_;refine⟨_,rfl,_,rfl,d,R,t,rfl,hdt,tk.v.v,vR,lR,λpk no H1 s1=>?_,λpk no H1 s1=>q.1 _ (congrArg MY ((ai nl).trans ((ai nb).trans ((ak pk).trans (ai no))))) H1 (AE s1) (tb.same s1),λpk H1 s1=>q.1 _ (congrArg MY ((ai nl).trans ((ai nb).trans (ai pk)))) H1 (AE s1) (tb.same s1)⟩;have ef:Qe P R t []=.inr (Bz (E3 t P) (DD t P R)):=(ai nl).trans ((ai nb).trans ((ak pk).trans (ak no)));refine⟨_,rfl,x,dx,_,rfl,s1.get hx,rfl,_,rfl,_,rfl,_,rfl,d,t,P,rfl,s1.get hdt,tk.v,v2,by omega,λd1 H2 s2 nd1 hd1=>?_⟩;have s12:=s1.trans s2;refine⟨_,rfl,_,rfl,_,rfl,d,t,P,R,rfl,s12.get hdt,tk.v,tk.b.deep,v2,l8,pk.2.1.1,pk.1,pk.2.1.2,λl ts H3 s3 nl3 hl3 pr=>?_⟩;have s13:=s12.trans s3;obtain⟨a1,a2,a3⟩:=JK tk pk.2.1.1 pk.1 pk.2.1.2 (P:=P);have cl:(E3 t P).length<=60:=aX (bp _ _) tk.b.few;refine⟨d1,l,E3 t P,DD t P R,ts,rfl,s3.get hd1,hl3,pr,(tk.v.cut P).v,λy hy=>(a1 y hy).1,by omega,by omega,λd' H4 s4 nd' hd'=>?_⟩;have s14:=s13.trans s4;obtain⟨g1,g2⟩:=HU hw q ef (AE s14);refine⟨x,d',sm,t,_,ks,gs,rfl,hw.st (AE s14),mg,hd',(tk.v.cut P).with a1 a2 (by omega),(λy hy c' ec=>?_),tb.same s14,g1,g2⟩;rcases F6 hy with⟨z,hz,e2⟩|hy
  ·exact Vi tk P R z hz c' (by rw[<-e2];exact ec)
  ·have:=tk.b.ct y (aV.mp hy).1 c' ec;omega
def EH (K:W.Frag)(C:Addr)(XC:Nat->Addr)(PT PU:Addr):Sp:=λvs H Q E=>∃(x:Addr) (sm z:Str) (P:List Str) (a m:Int) (t:AM) (ks:List Str) (gs:List Gs),vs=[.ref x,.str sm,.str (jn P),.int a,.int m,.str z]/\CP P/\(jn P).length<=1000/\z.length<=500/\HW C H x ks gs/\(sm,true,t)∈gs/\Tb PT PU H/\Lg C PT PU XC x sm (Do P a m z t []) ks gs H Q E
theorem HN (T:Txt K mg C XC)(F:Fun K "splice" "PlainHouse.splice" C5 f fd)(C1:CY P w K mg base 3 "content_in" ["tree","path"] (FJ K XC))(BC:BI P w K mg base 6 C "write" ["self","stem","path","content"] (Da K C XC PT PU))(Am:BI P w K mg base 5 C "tree_of_stem" ["self","name"] (AS K C XC)):FnOk P w K mg base (E7 P w) 7 f fd ["self","stem","path","at","many","text"] (EH K C XC PT PU):=by
 refine F.okE EI (λvs H Q E h=>?_) (λcdv A outer s H vs Q E hr h=>?_)
 ·obtain⟨x,sm,z,P,a,m,t,ks,gs,rfl,_⟩:=h;rfl
 obtain⟨x,sm,z,P,a,m,t,ks,gs,rfl,vP,lP,lz,hw,mg,tb,q⟩:=h;refine⟨_,(!Ad (@Av _ _ (6) _ _ _ _ EI.nd rfl ∅ (!Bl C1 ∅ rfl Au (!Aa (!Ba (pv 0) T.cl Am ∅ Au (!Aa (pv 1) (!Ab))) (!Aa (pv 2) (!Ab)))) (by rfl) ∅) (!Af (!AD (!Ba (pv 0) T.cl BC ∅ Au (!Aa (pv 1) (!Aa (pv 2) (!Aa (!Ay AR (!Ay AR (!BA GZ (pv 6) (!B6) (!BO (pv 3))) (pv 5)) (!BA GZ (pv 6) (!BO (!Ay Ce (pv 3) (pv 4))) (!B6))) (!Ab)))))))),?_⟩
 try dsimp only[A4,Cx.nox,Cx.wish]
 obtain⟨ag,qs,ps,⟨dx,h,k,n,hx,hd⟩,_⟩:=hw.at_;have tk:TrOk t:=hw.tr _ mg;refine⟨_,rfl,x,dx,_,rfl,hx,rfl,_,rfl,x,sm,t,ks,gs,rfl,hw,mg,λd hdt=>?_⟩;have e0:(∀c,lk t P≠some (some c))->Do P a m z t []=.inl (.noPath (jn P)):=λno=>by
  unfold Do
  split
  ·next c e=>exact absurd e (no c)
  ·rfl
 refine⟨_,rfl,d,P,t,rfl,hdt,tk.v.v,vP,λc hl=>?_,λno=>q.1 _ (congrArg MY (e0 no)) H (.refl _) tb⟩;have hc:c.length<=400:=tk.b.ct _ (Cq hl) c rfl;refine⟨_,rfl,x,dx,_,rfl,hx,rfl,_,rfl,_,rfl,?_⟩;refine⟨_,rfl,_,rfl,_,rfl,c,rfl,small (by show _<=1000000;omega),_,rfl,_,_,rfl,rfl,small (by show _<=1000000;have:=bu c none (some a);omega),_,rfl,_,rfl,_,rfl,a,m,rfl,rfl,_,rfl,c,rfl,small (by show _<=1000000;omega),_,_,rfl,rfl,small (by show _<=1000000;have h1:=bu c none (some a);have h2:=bu c (some (a+m)) none;rw[bR];omega),x,sm,K70.RD c a m z,P,t,ks,gs,rfl,vP,lP,by have:=R4 (a:=a) (m:=m) hc lz;omega,hw,mg,tb,?_⟩;have e:Do P a m z t []=EN P (K70.RD c a m z) t []:=by unfold Do;rw[hl]
 rw[e] at q;exact q
def Fo (K:W.Frag)(C:Addr)(XC:Nat->Addr)(PT PU:Addr):Sp:=λvs H Q E=>∃(x:Addr) (sm nm:Str) (P R:List Str) (t t2:AM) (b:Bool) (ks:List Str) (gs:List Gs),vs=[.ref x,.str sm,.str (jn R),.str nm,.str (jn P)]/\CP P/\CP R/\(jn R).length<=1000/\HW C H x ks gs/\(sm,true,t)∈gs/\(nm,b,t2)∈gs/\Tb PT PU H/\Lg C PT PU XC x sm (LK R P t t2) ks gs H Q E
theorem Ji (T:Txt K mg C XC)(F:Fun K "copy" "PlainHouse.copy" DO f fd)(Am:BI P w K mg base 5 C "tree_of_stem" ["self","name"] (AS K C XC))(AX:BI P w K mg base 4 C "tree_of" ["self","name"] (B3 K C XC))(BV:CY P w K mg base 5 "check_free" ["tree","path"] (Dk K XC))(AB:BI P w K mg base 5 C "change" ["self","stem","tree"] (Bc K C XC PT PU))(BH:CY P w K mg base 3 "check_there" ["tree","path"] (DF K XC))(Bj:Def P w K mg base 1 "with_paths" ["tree","more"] (Cz K))(E8:Def P w K mg base 4 "carried" ["tree","path","to"] (GG K)):FnOk P w K mg base (E7 P w) 6 f fd ["self","stem","to","name","path"] (Fo K C XC PT PU):=by
 refine F.okE Dr (λvs H Q E h=>?_) (λcdv A outer s H vs Q E hr h=>?_)
 ·obtain⟨x,sm,nm,P,R,t,t2,b,ks,gs,rfl,_⟩:=h;rfl
 obtain⟨x,sm,nm,P,R,t,t2,b,ks,gs,rfl,vP,vR,lR,hw,mg,mg2,tb,q⟩:=h;refine⟨_,(!Ad (@Av _ _ (5) _ _ _ _ Dr.nd rfl ∅ (!Ba (pv 0) T.cl Am ∅ Au (!Aa (pv 1) (!Ab))) (by rfl) ∅) (!Ad (@Av _ _ (6) _ _ _ _ Dr.nd rfl ∅ (!Ba (pv 0) T.cl AX ∅ Au (!Aa (pv 3) (!Ab))) (by rfl) ∅) (!Ad (!AJ (!Ax JO (pv 4) (!Aj) (AC _)) (!Af (!AD (!Bl BH ∅ rfl Au (!Aa (pv 6) (!Aa (pv 4) (!Ab)))))) (!Ao)) (!Ad (!AD (!Bl BV ∅ rfl Au (!Aa (pv 5) (!Aa (pv 2) (!Ab))))) (!Af (!AD (!Ba (pv 0) T.cl AB ∅ Au (!Aa (pv 1) (!Aa (!AH Bj ∅ rfl (!Aa (pv 5) (!Aa (!AH E8 ∅ rfl (!Aa (pv 6) (!Aa (pv 4) (!Aa (pv 2) (!Ab))))) (!Ab)))) (!Ab)))))))))),?_⟩
 try dsimp only[A4,Cx.nox,Cx.wish]
 obtain⟨ag,qs,ps,⟨dx,h,k,n,hx,hd⟩,_⟩:=hw.at_;have tk:TrOk t:=hw.tr _ mg;have tk2:TrOk t2:=hw.tr _ mg2;refine⟨_,rfl,x,dx,_,rfl,hx,rfl,_,rfl,x,sm,t,ks,gs,rfl,hw,mg,λd hdt=>?_⟩;refine⟨_,rfl,x,dx,_,rfl,hx,rfl,_,rfl,x,nm,b,t2,ks,gs,rfl,hw,mg2,λd2 hdt2=>?_⟩;have rest:¬(P≠[]/\lk t2 P=none)->(SH (Vf (Mu (Dk K XC) [] E (IT (NB 5) (IT (NB 2) Q4)))) (Vf (RZ C (Str.ofString "change") (Bc K C XC PT PU) [] E (NB 0) (IT (NB 1) (IT (Mu (Cz K) [] E0 (IT (NB 5) (IT (Mu (GG K) [] E0 (IT (NB 6) (IT (NB 4) (IT (NB 2) Q4)))) Q4))) Q4))))) { nx:=λ_ H'=>Q .non H',rt:=Q } [some (.ref x),some (.str sm),some (.str (jn R)),some (.str nm),some (.str (jn P)),some (.ref d),some (.ref d2)] H:=λnb=>by
  have v2:VP P/\P.length<=8:=by
   by_cases c:P=[]
   ·rw[c];exact⟨(λ_ h=>nomatch h),a6 _⟩
   ·cases e:lk t2 P with
    |none=>exact absurd ⟨c,e⟩ nb
    |some v=>exact⟨(tk2.v.vp _ (Cq e)).1,tk2.b.deep _ (Cq e)⟩
  refine⟨_,rfl,_,rfl,d,R,t,rfl,hdt,tk.v.v,vR,lR,λpk no H1 s1=>?_,λpk no H1 s1=>q.1 _ (congrArg MY ((ai nb).trans ((ak pk).trans (ai no)))) H1 (AE s1) (tb.same s1),λpk H1 s1=>q.1 _ (congrArg MY ((ai nb).trans (ai pk))) H1 (AE s1) (tb.same s1)⟩;have ef:LK R P t t2=.inr (Bz t (DD t2 P R)):=(ai nb).trans ((ak pk).trans (ak no));refine⟨_,rfl,x,dx,_,rfl,s1.get hx,rfl,_,rfl,_,rfl,_,rfl,_,rfl,_,rfl,d2,t2,P,R,rfl,s1.get hdt2,tk2.v,tk2.b.deep,v2.1,v2.2,pk.2.1.1,pk.1,pk.2.1.2,λl ts H3 s3 nl3 hl3 pr=>?_⟩;have s13:=s1.trans s3;obtain⟨a1,a2,a3⟩:=JK tk2 pk.2.1.1 pk.1 pk.2.1.2 (P:=P);have cl:=tk.b.few;refine⟨d,l,t,DD t2 P R,ts,rfl,s13.get hdt,hl3,pr,tk.v.v,λy hy=>(a1 y hy).1,by omega,by omega,λd' H4 s4 nd' hd'=>?_⟩;have s14:=s13.trans s4;obtain⟨g1,g2⟩:=HU hw q ef (AE s14);exact⟨x,d',sm,t,_,ks,gs,rfl,hw.st (AE s14),mg,hd',tk.v.with a1 a2 (by omega),Oy tk λy hy=>Vi tk2 P R y hy,tb.same s14,g1,g2⟩
 have dn:decide (V.str (jn P)=V.str (Str.ofString ""))=decide (P=[]):=JB vP (B:=[]) ⟨(λ_ h=>nomatch h),λh=>nomatch h⟩;refine⟨_,rfl,rfl,_,rfl,?_⟩;rw[dn]
 by_cases c:P=[]
 ·rw[av c];exact As rfl (rest λz=>z.1 c)
 ·rw[aq c];refine AG rfl ⟨_,rfl,_,rfl,d2,P,t2,rfl,hdt2,tk2.v.v,vP,λnl=>rest λz=>nl z.2,λnl=>q.1 _ (congrArg MY (ak ⟨c,nl⟩)) H (.refl _) tb⟩
def XW (v:Option Str):Int:=match v with|none=>2|some _=>1
structure Told (ts:List Str) (t:AM):Prop where
 pm:ts.Perm (t.map λp=>jn p.1)
 so:PyProof.Rows.sortedS ts=true
def Dt (K:W.Frag)(C:Addr)(XC:Nat->Addr):Sp:=λvs H Q E=>∃(x:Addr) (nm:Str) (P:List Str) (t:AM) (b:Bool) (ks:List Str) (gs:List Gs),vs=[.ref x,.str nm,.str (jn P)]/\HW C H x ks gs/\CP P/\(nm,b,t)∈gs/\(∀c,lk t P=some (some c)->Q (.str c) H)/\((∀c,lk t P≠some (some c))->Ex XC E H (.noPath (jn P)))
theorem Jp (T:Txt K mg C XC)(F:Fun K "read" "PlainHouse.read" DR f fd)(C1:CY P w K mg base 3 "content_in" ["tree","path"] (FJ K XC))(AX:BI P w K mg base 4 C "tree_of" ["self","name"] (B3 K C XC)):FnOk P w K mg base (E7 P w) 5 f fd ["self","name","path"] (Dt K C XC):=by
 refine F.okE Jr (λvs H Q E h=>?_) (λcdv A outer s H vs Q E hr h=>?_)
 ·obtain⟨x,nm,P,t,b,ks,gs,rfl,_⟩:=h;rfl
 obtain⟨x,nm,P,t,b,ks,gs,rfl,hw,vP,mg,q⟩:=h;refine⟨_,(!Af (!Aq (!Bl C1 ∅ rfl Au (!Aa (!Ba (pv 0) T.cl AX ∅ Au (!Aa (pv 1) (!Ab))) (!Aa (pv 2) (!Ab)))))),?_⟩
 try dsimp only[A4,Cx.nox,Cx.wish]
 obtain⟨ag,qs,ps,⟨dx,h,k,n,hx,hd⟩,_⟩:=hw.at_;have tk:TrOk t:=hw.tr _ mg;exact⟨_,rfl,x,dx,_,rfl,hx,rfl,_,rfl,x,nm,b,t,ks,gs,rfl,hw,mg,λd ht=>⟨_,rfl,d,P,t,rfl,ht,tk.v.v,vP,q⟩⟩
def ES (K:W.Frag)(C:Addr)(XC:Nat->Addr):Sp:=λvs H Q _=>∃(x:Addr) (nm:Str) (t:AM) (b:Bool) (ks:List Str) (gs:List Gs),vs=[.ref x,.str nm]/\HW C H x ks gs/\(nm,b,t)∈gs/\
 (∀l (ys:List (Addr×List Str)) H',Aw H H'->H l=none->Told (ys.map λy=>jn y.2) t->(∀y∈ys,VP y.2/\lk t y.2≠none/\H' y.1=some (.tup [.str (jn y.2),.int (XW ((lk t y.2).getD none))]))->H' l=some (.lst (ys.map λy=>V.ref y.1))->Q (.ref l) H')
theorem IH (T:Txt K mg C XC)(F:Fun K "paths" "PlainHouse.paths" Dv f fd)(AX:BI P w K mg base 4 C "tree_of" ["self","name"] (B3 K C XC)):FnOk P w K mg base (E7 P w) 5 f fd ["self","name"] (ES K C XC):=by
 refine F.okE EW (λvs H Q E h=>?_) (λcdv A outer s H vs Q E hr h=>?_)
 ·obtain⟨x,nm,t,b,ks,gs,rfl,_⟩:=h;rfl
 obtain⟨x,nm,t,b,ks,gs,rfl,hw,mg,q2⟩:=h;have hu:=C4 hr;refine⟨_,(!Ad (@Av _ _ (2) _ _ _ _ EW.nd rfl ∅ (!Ba (pv 0) T.cl AX ∅ Au (!Aa (pv 1) (!Ab))) (by rfl) ∅) (!Af (!Aq (@Gw _ ["path","tree"] [none,some 2] _ _ _ _ _ _ _ _ _ _ _ rfl (!Cb (!AA (QQ rfl) (by rfl) T.b_sorted NO (!Aa (pv 2) (!Ab)))) (by rfl) rfl (by repeat (first|exact trivial|refine⟨rfl,?_⟩)) (by repeat (first|exact trivial|refine⟨λh=>(by first|exact⟨_,rfl⟩|cases h),?_⟩)) (λC s H fp=>⟨(@AK _ _ (0) _ (show(["path","tree"]:List Str).Nodup by decide +kernel) rfl ∅ ∅),(!CK),(!Az (!Aa (pv 0) (!Aa (!TU (!DT (!FZ (!B4 hu (pv 1) (pv 0) (λ_ _=>rfl))) (by first|exact Bt _ (by decide) (by decide)|rfl)) (!Cd rfl T.c_FOLDER_ENTRY) (!Cd rfl T.c_FILE_ENTRY)) (!Ab))))⟩) (by intro _;rfl))))),?_⟩
 try dsimp only[A4,Cx.nox,Cx.wish]
 obtain⟨ag,qs,ps,⟨dx,h,k,n,hx,hd⟩,_⟩:=hw.at_;have tk:TrOk t:=hw.tr _ mg;refine⟨_,rfl,x,dx,_,rfl,hx,rfl,_,rfl,x,nm,b,t,ks,gs,rfl,hw,mg,λd ht=>?_⟩;have fw:=tk.b.few;refine⟨_,rfl,d,_,t.map (λp=>jn p.1),rfl,ht,(by unfold Bx;rw[az,az];rfl),by rw[aa];omega,λts p9 tp so np9=>?_⟩;obtain⟨Ps,rfl,hP⟩:∃Ps:List (List Str),ts=Ps.map jn/\∀P∈Ps,VP P/\lk t P≠none:=by
  have key:∀ts:List Str,(∀z∈ts,∃P,z=jn P/\VP P/\lk t P≠none)->∃Ps:List (List Str),ts=Ps.map jn/\∀P∈Ps,VP P/\lk t P≠none:=λts=>by
   induction ts with
   |nil=>intro _;exact⟨[],rfl,λ_ h=>nomatch h⟩
   |cons z ts ih=>
    intro h;obtain⟨Ps,rfl,h2⟩:=ih λz hz=>h z (ao _ hz)
    obtain⟨P,rfl,h3⟩:=h z aw;refine⟨P::Ps,rfl,λR hR=>?_⟩;rcases aM.mp hR with rfl|hR
    ·exact h3
    ·exact h2 R hR
  refine key ts λz hz=>?_
  obtain⟨q,hq,rfl⟩:=aj.mp (tp.mem_iff.mp hz);exact⟨q.1,rfl,tk.v.v q hq,by rw[K8 tk.v.nd hq];exact λz=>by cases z⟩
 have lP:Ps.length=t.length:=by have:=tp.length_eq;rw[aa,aa] at this;exact this
 have s9:=Ae np9 (.lst ((Ps.map jn).map V.str));have h9:(upd H p9 (.lst ((Ps.map jn).map V.str))) p9=some (.lst ((Ps.map jn).map V.str)):=Ac;generalize upd H p9 (.lst ((Ps.map jn).map V.str))=H9 at s9 h9;rw[az] at h9;refine⟨p9,rfl,⟨_,AV.of h9⟩,?_⟩;refine IC (ps:=Ps) (g:=λP=>V.str (jn P)) (λ_=>true) (λR y H'=>∃b,y=V.ref b/\H' b=some (.tup [.str (jn R),.int (XW ((lk t R).getD none))])) ?_ ?_ (E9 (AV.of h9)) (by omega) (λr hr H' R s' hR=>hR H' (Aw.refl _)) (λr hr _ H' R s' hR=>?_) λl2 H2 ys nl2 s2 hl2 ey hy=>?_
 ·rintro r y Ha Hb ⟨b,e,hb⟩ sab
  exact⟨b,e,sab.get hb⟩
 ·rintro r y Ha la us us' ⟨b,e,hb⟩ hla
  exact⟨b,e,by rw[Ak (BW hb hla (by intro z;cases z))];exact hb⟩
 ·obtain⟨vr,hr2⟩:=hP r hr;have g:=KP (s'.get (s9.get ht)) tk.v.v vr.cp;have fin:∀n:Int,XW ((lk t r).getD none)=n->∀b,H' b=none->R (.ref b) (upd H' b (.tup [.str (jn r),.int n])):=λn e b nb=>hR _ _ (Ae nb _) ⟨b,rfl,by rw[e];exact Ac⟩
  cases el:lk t r with
  |none=>exact absurd el hr2
  |some v=>
   rw[el] at g fin;cases v with
   |none=>
    refine⟨_,rfl,_,rfl,_,rfl,d,_,rfl,g,_,rfl,AG rfl ?_⟩;exact⟨Bs,fin 2 rfl⟩
   |some c=>
    refine⟨_,rfl,_,rfl,_,rfl,d,_,rfl,g,_,rfl,As rfl ?_⟩;exact⟨Bs,fin 1 rfl⟩
 ·rw[Fm] at ey;obtain⟨bs,e1,e2,e3⟩:=Lu (T:=λb R=>H2 b=some (.tup [.str (jn R),.int (XW ((lk t R).getD none))])) ys hy;rw[ey] at e1;refine q2 l2 bs H2 (s9.trans s2) (s9.free nl2) ⟨?_,?_⟩ (λy hy=>?_) (by rw[hl2,<-e2])
  ·rw[show(bs.map λy=>jn y.2)=(bs.map (·.2)).map jn by rw[az];rfl,e1];exact tp
  ·rw[show(bs.map λy=>jn y.2)=(bs.map (·.2)).map jn by rw[az];rfl,e1];exact so
  ·obtain⟨v1,v2⟩:=hP y.2 (by rw[<-e1];exact aj.mpr ⟨y,hy,rfl⟩);exact⟨v1,v2,e3 y hy⟩
def G7 (K:W.Frag):Sp:=λvs H Q _=>∃(a:Addr) (ns:List Int) (k:Int),vs=[.ref a,.int k]/\0<=k/\AV K H a (ns.map V.int)/\∀z:Int,Q (.int z) H
theorem Lp (T:Txt K mg C XC)(F:Fun K "_law_cell_at" "_law_cell_at" Fu f fd):FnOk P w K mg base Ef 1 f fd ["_law_script","_law_k"] (G7 K):=by
 exists Ll
 ·obtain⟨a,ns,k,rfl,_⟩:=h;rfl
 obtain⟨a,ns,k,rfl,hk,hS,q⟩:=h;refine⟨_,(!Ad (!AJ (!Ax Se (pv 1) (!AA BQ (by rfl) T.b_len CO (!Aa (pv 0) (!Ab))) (AC _)) (!Af (!Aq (!An AI (pv 0) (pv 1) (λ_ _=>rfl)))) (!Ao)) (!Af (!Aq (!Ag)))),?_⟩;refine⟨_,rfl,_,rfl,a,_,rfl,.inl hS,_,_,rfl,rfl,_,rfl,DQ (λc=>?_) (λc=>q 0)⟩;have c':=dec_true c;rw[aa] at c';exact⟨_,rfl,_,rfl,a,_,_,_,rfl,rfl,hS,LW hk c',q _⟩
def Ik (K:W.Frag):Sp:=λvs H Q _=>∃(c m:Int),vs=[.int c,.int m]/\0<=m/\m<=1000/\
 ∀(r:Addr) (H':Hp) (ns:List Int),Aw H H'->H r=none->H' r=some (.lst (ns.map V.int))->ns.length=m.toNat->(∀x∈ns,0<=x/\x<60)->Q (.ref r) H'
theorem Pj (T:Txt K mg C XC)(F:Fun K "_law_row" "_law_row" Jv f fd):FnOk P w K mg base Ef 1 f fd ["_law_cell","_law_many"] (Ik K):=by
 exists EG
 ·obtain⟨c,m,rfl,_⟩:=h;rfl
 obtain⟨c,m,rfl,hm0,hm1,q⟩:=h;refine⟨_,(!Ad (@Av _ _ (2) _ _ _ _ EG.nd rfl ∅ (!Bk (!Ab)) (by rfl) ∅) (!Ad (!CQ bJ rfl (!Fb rfl T.b_range (!Aa (pv 1) (!Ab))) (@AK _ _ (3) _ EG.nd rfl ∅ ∅) (!Af (!AJ (!MU Ms Se (!Ag) (pv 0) (!Ay QX (!Ag) (!Ag)) (by with_unfolding_all rfl)) (!Ad (@Av _ _ (4) _ _ _ _ EG.nd rfl ∅ (!Ay Bw (!Ay Ce (!Ay Ce (!Ay K0 (!Ay Bw (pv 0) (!Ag)) (!Ag)) (!Ay K0 (!Ay K0 (pv 3) (pv 3)) (!Ag))) (!Ag)) (!Ag)) (by rfl) ∅) (!Af (!AD (!Dm a7 bD bC Cw (pv 2) (!Aa (!Ay Bw (!Ay GT (!Ay Bw (!Ay K0 (pv 4) (!Ay Ce (!Ay Bw (pv 4) (!Ag)) (!Ag))) (!Ag)) (!Ag)) (!Ag)) (!Ab)))))) (!Ad (!AD (!Dm a7 bD bC Cw (pv 2) (!Aa (!Ay Bw (pv 0) (!Ag)) (!Ab)))) (!Af (@Av _ _ (0) _ _ _ _ EG.nd rfl ∅ (!Ay GT (pv 0) (!Ag)) (by rfl) ∅))))) (by intro _;rfl)) (!Af (!Aq (pv 2))))),?_⟩
 try dsimp only[A4,Cx.nox,Cx.wish]
 refine⟨MT,λg hg=>?_⟩;refine⟨_,rfl,m,rfl,by omega,by omega,F8 (lo:=0) (n:=m.toNat) (λi σ H2=>∃(ns:List Int) (z:Int) (v u:Option V),σ=[some (.int z),some (.int m),some (.ref g),v,u]/\Aw H H2/\H2 g=some (.lst (ns.map V.int))/\ns.length=i/\∀x∈ns,0<=x/\x<60)
  ⟨[],c,none,none,rfl,Ae hg _,Ac,rfl,λ_ h=>nomatch h⟩ ?_ ?_⟩
 ·rintro i σ H2 hi ⟨ns,z,v,u,rfl,s2,hg2,hl,hb⟩
  have app:∀x:Int,0<=x->x<60->∀(z:Int) (v u:Option V),∃(ns':List Int) (z':Int) (v' u':Option V),[some (.int z),some (.int m),some (.ref g),v,u]=[some (.int z'),some (.int m),some (.ref g),v',u']/\Aw H (upd H2 g (.lst (ns.map V.int++[.int x])))/\(upd H2 g (.lst (ns.map V.int++[.int x]))) g=some (.lst (ns'.map V.int))/\ns'.length=i+1/\∀x∈ns',0<=x/\x<60:=λx h0 h1 z v u=>
   ⟨ns++[x],z,v,u,rfl,Cu s2 hg _,by rw[Ac,aO];rfl,by rw[ar,hl];rfl,λy hy=>by
    rcases aK.mp hy with hy|hy
    ·exact hb y hy
    ·rw[ah.mp hy];exact⟨h0,h1⟩⟩
  have few:(ns.map V.int).length<sizeLine:=By (by rw[aa];omega);refine⟨_,rfl,_,_,rfl,rfl,_,rfl,DQ (λc1=>?_) (λc1=>?_)⟩
  ·refine⟨_,_,rfl,rfl,⟨by decide,by decide,by decide⟩,_,_,rfl,rfl,_,rfl,DQ (λc2=>?_) (λc2=>?_)⟩
   ·refine⟨_,rfl,_,_,rfl,rfl,(by show(0:Int)<2147483629;decide),_,_,rfl,rfl,.inr ⟨by decide,by decide⟩,_,rfl,_,rfl,_,_,rfl,rfl,.inl ⟨by omega,by omega⟩,_,_,rfl,rfl,.inr ⟨by decide,by decide⟩,_,_,rfl,rfl,_,_,rfl,rfl,_,_,rfl,rfl,(by show(0:Int)<2147483647;decide),?_⟩;have b0:=aZ (z%2147483629*48271+(0+(i:Int))*(0+(i:Int))*69621+7) (show(2147483647:Int)≠0 by decide);have b1:=aR (z%2147483629*48271+(0+(i:Int))*(0+(i:Int))*69621+7) (show(0:Int)<2147483647 by decide);dsimp only;generalize (z%2147483629*48271+(0+(i:Int))*(0+(i:Int))*69621+7)%2147483647=y at b0 b1;refine⟨_,rfl,.inl ⟨rfl,_,AV.of hg2⟩,_,rfl,_,rfl,_,_,rfl,rfl,(by show(0:Int)<65521;decide),_,_,rfl,rfl,_,_,rfl,rfl,.inl ⟨by omega,by omega⟩,_,_,rfl,rfl,(by show(0:Int)<2147483629;decide),_,_,rfl,rfl,⟨by decide,by decide⟩,_,_,rfl,rfl,(by show(0:Int)<60;decide),g,_,_,rfl,rfl,hg2,few,?_⟩;exact app _ (aZ _ (by decide)) (aR _ (by decide)) _ _ _
   ·refine⟨_,rfl,.inl ⟨rfl,_,AV.of hg2⟩,_,rfl,_,_,rfl,rfl,(by show(0:Int)<60;decide),g,_,_,rfl,rfl,hg2,few,?_⟩;refine⟨_,rfl,_,_,rfl,rfl,⟨by decide,by decide⟩,?_⟩;exact app _ (aZ _ (by decide)) (aR _ (by decide)) _ _ _
  ·refine⟨_,rfl,As rfl ?_⟩;refine⟨_,rfl,.inl ⟨rfl,_,AV.of hg2⟩,_,rfl,_,_,rfl,rfl,(by show(0:Int)<60;decide),g,_,_,rfl,rfl,hg2,few,?_⟩;refine⟨_,rfl,_,_,rfl,rfl,⟨by decide,by decide⟩,?_⟩;exact app _ (aZ _ (by decide)) (aR _ (by decide)) _ _ _
 ·rintro σ H2 ⟨ns,z,v,u,rfl,s2,hg2,hl,hb⟩
  exact⟨_,rfl,q g _ ns s2 hg hg2 hl hb⟩
theorem len_app (a b:Str):(a++b).length=a.length+b.length:=bR a b
theorem LV:(AQ LN).length=36:=by decide +kernel
theorem YG:(AQ LN).Nodup:=by decide +kernel
def Xf (i:Int):Nat:=(AQ LN).getD (i%36).toNat 0
theorem VA {i j:Int}(h:Xf i=Xf j):i%36=j%36:=by
 have i0:=aZ i (show(36:Int)≠0 by decide);have i1:=aR i (show(0:Int)<36 by decide);have j0:=aZ j (show(36:Int)≠0 by decide);have j1:=aR j (show(0:Int)<36 by decide)
 by_cases e:(i%36).toNat=(j%36).toNat
 ·omega
 ·exact absurd h (Mw YG (by rw[LV];omega) (by rw[LV];omega) e)
theorem Yj (i:Int):KY LN.cps.toList (i%36)=some (Xf i)/\Xf i∈AQ LN:=by
 have i0:=aZ i (show(36:Int)≠0 by decide);have i1:=aR i (show(0:Int)<36 by decide);have hk:(i%36).toNat<(AQ LN).length:=by rw[LV];omega
 have e:Xf i=(AQ LN)[(i%36).toNat]:=by
  show(AQ LN).getD (i%36).toNat 0=_;rw[List.getD_eq_getElem?_getD,aC hk];rfl
 have:=Ah (xs:=AQ LN) (j:=(i%36).toNat) (aC hk);rw[show(((i%36).toNat:Nat):Int)=i%36 by omega] at this;exact⟨by rw[e];exact this,by rw[e];exact b9 hk⟩
theorem QS {z:Str}{i:Int}(h0:0<=i)(h1:i<(AQ z).length):∃c,KY z.cps.toList i=some c/\c∈AQ z:=by
 have hk:i.toNat<(AQ z).length:=by omega
 have ek:((i.toNat:Nat):Int)=i:=by omega
 refine⟨(AQ z)[i.toNat],?_,b9 hk⟩;have:=Ah (xs:=AQ z) (j:=i.toNat) (aC hk);rw[ek] at this;exact this
theorem Wz (z:Str){i:Int}(h0:0<=i):∃n,min i.toNat z.length<=n/\AQ (PySem.Txt.slice z (some i) none)=(AQ z).drop n:=by
 have hz:=A3 z
 by_cases h:i<=z.length
 ·refine⟨i.toNat,Nat.min_le_left _ _,?_⟩;show AQ (StrLaws.sliceText z (some i) none)=_;rw[dB ⟨h0,by rw[hz];exact h⟩];refine aY ?_;rw[bF];show(AQ z).length-i.toNat<=(((AQ z).length:Int)-i).toNat;omega
 ·refine⟨z.length,Nat.min_le_right _ _,?_⟩;have e:PySem.Builtin.Str.strSliceIndices (some i) none 1 z.length=PySem.Builtin.Str.strSliceIndices (some (z.length:Int)) none 1 z.length:=by
   unfold PySem.Builtin.Str.strSliceIndices;have e1:(if i<0 then i+(z.length:Int) else i)=i:=ai (by omega);have e2:(if(z.length:Int)<0 then(z.length:Int)+(z.length:Int) else(z.length:Int))=z.length:=ai (by omega);simp only[e1,e2];have e3:max 0 (min i (z.length:Int))=max 0 (min (z.length:Int) z.length):=by omega
   rw[e3];simp only[if_pos (show(1:Int)>0 by decide)]
  show AQ (StrLaws.sliceText z (some i) none)=_;have e':StrLaws.sliceText z (some i) none=StrLaws.sliceText z (some (z.length:Int)) none:=by
   unfold StrLaws.sliceText;rw[e]
  rw[e',dB ⟨by omega,by rw[hz];omega⟩];refine aY ?_;rw[bF];show(AQ z).length-z.length<=(((AQ z).length:Int)-(z.length:Int)).toNat;omega
theorem PB {M:List Nat}:∀(ys:List V),(∀y∈ys,∃c,y=.str ⟨#[c]⟩/\c∈M)->∃cs:List Nat,ys=(cs.map λc=>(⟨#[c]⟩:Str)).map V.str/\∀c∈cs,c∈M
 |[],_=>⟨[],rfl,λ_ h=>nomatch h⟩
 |y::ys,h=>by
  obtain⟨c,rfl,hc⟩:=h y aw;obtain⟨cs,rfl,hw⟩:=PB ys λy hy=>h y (ao _ hy)
  refine⟨c::cs,rfl,λx hx=>?_⟩;rcases aM.mp hx with rfl|hx
  ·exact hc
  ·exact hw x hx
theorem S7 (cs:List Nat):AQ (PySem.Txt.join EM (cs.map λc=>(⟨#[c]⟩:Str)))=cs:=by
 show AQ (PySem.Builtin.Str.glued EM _)=_;rw[StrLaws.glued_eq_join]
 induction cs with
 |nil=>rfl
 |cons c r ih=>
  cases r with
  |nil=>rfl
  |cons d r=>
   show AQ (⟨#[c]⟩++EM++PySem.Str.join EM (List.map _ (d::r)))=c::d::r;rw[BJ,BJ,ih];rfl
def Xc (z:Str):Prop:=AQ z≠[]/\z.length<=8/\∀c∈AQ z,c∈AQ LN
def IY (K:W.Frag):Sp:=λvs H Q _=>∃(a:Addr) (ns:List Int) (m:Int),vs=[.ref a,.int m]/\H a=some (.lst (ns.map V.int))/\ns.length=10/\(∀x∈ns,0<=x/\x<60)/\0<=m/\m<=30/\
 ∀l H' (zs:List Str),Aw H H'->H l=none->H' l=some (.lst (zs.map V.str))->zs.length=m.toNat->(∀z∈zs,Xc z)->zs.Nodup->Q (.ref l) H'
theorem Ny (T:Txt K mg C XC)(F:Fun K "_law_names" "_law_names" G2 f fd):FnOk P w K mg base Ef 1 f fd ["_law_row_here","_law_many"] (IY K):=by
 exists BX
 ·obtain⟨a,ns,m,rfl,_⟩:=h;rfl
 obtain⟨a,ns,m,rfl,ha,ln,nb,hm0,hm1,q⟩:=h;refine⟨_,(!Ad (@Av _ _ (2) _ _ _ _ BX.nd rfl ∅ (!Aj) (by rfl) ∅) (!Ad (@Av _ _ (3) _ _ _ _ BX.nd rfl ∅ (!Dm bz eZ eY (Os rfl) (!Aj) (!Aa (@Gw _ ["_law_k","_law_signs","_law_row_here"] [none,some 2,some 0] _ _ _ _ _ _ _ _ _ _ _ rfl (!Fb rfl T.b_range (!Aa (!Ag) (!Ab))) (by rfl) rfl (by repeat (first|exact trivial|refine⟨rfl,?_⟩)) (by repeat (first|exact trivial|refine⟨λh=>(by first|exact⟨_,rfl⟩|cases h),?_⟩)) (λC s H fp=>⟨(@AK _ _ (0) _ (show(["_law_k","_law_signs","_law_row_here"]:List Str).Nodup by decide +kernel) rfl ∅ ∅),(!CK),(!An OO (pv 1) (!Ay Bw (!An (TZ (K:=K) (by rfl)) (pv 2) (pv 0) (λ_ _=>rfl)) (!Ag)) (λ_ _=>rfl))⟩) (by intro _;rfl)) (!Ab))) (by rfl) ∅) (!Ad (@Av _ _ (4) _ _ _ _ BX.nd rfl ∅ (!Ay Bw (!An AI (pv 0) (!Ag) (λ_ _=>rfl)) (!Ag)) (by rfl) ∅) (!Ad (@Av _ _ (5) _ _ _ _ BX.nd rfl ∅ (!Bk (!Ab)) (by rfl) ∅) (!Ad (!CQ bJ rfl (!Fb rfl T.b_range (!Aa (pv 1) (!Ab))) (@AK _ _ (6) _ BX.nd rfl ∅ ∅) (!Ad (@Av _ _ (7) _ _ _ _ BX.nd rfl ∅ (!Ay AR (!BA GZ (pv 3) (!B6) (!BO (pv 4))) (!An OO (pv 2) (!Ay Bw (!Ay Ce (!An AI (pv 0) (!Ag) (λ_ _=>rfl)) (pv 6)) (!Ag)) (λ_ _=>rfl))) (by rfl) ∅) (!Ad (@Av _ _ (7) _ _ _ _ BX.nd rfl ∅ (!Ay AR (pv 7) (!BA GZ (pv 3) (!BO (!Ay Ce (pv 4) (!Ag))) (!B6))) (by rfl) ∅) (!Af (!AD (!Dm a7 bD bC Cw (pv 5) (!Aa (!An AI (!Bk (!Aa (pv 7) (!Aa (!BA GZ (pv 7) (!B6) (!BO (!Ay Ce (pv 4) (!Ag)))) (!Aa (!Ay AR (pv 7) (!An OO (pv 2) (pv 6) (λ_ _=>rfl))) (!Ab))))) (!Ay Bw (!Ay Ce (!An AI (pv 0) (!Ag) (λ_ _=>rfl)) (pv 6)) (!Ag)) (λ_ _=>rfl)) (!Ab))))))) (by intro _;rfl)) (!Af (!Aq (pv 5)))))))),?_⟩
 try dsimp only[A4,Cx.nox,Cx.wish]
 have nn:∀k:Nat,k<10->0<=ns.getD k 0:=λk hk=>by
  have hk':k<ns.length:=by omega
  simp only[List.getD,List.getElem?_eq_getElem hk',Option.getD_some];exact(nb _ (b9 hk')).1
 have A7:KY (ns.map V.int) 7=some (.int (ns.getD 7 0)):=LW (by decide) (by omega);have A8:KY (ns.map V.int) 8=some (.int (ns.getD 8 0)):=LW (by decide) (by omega);have A9:KY (ns.map V.int) 9=some (.int (ns.getD 9 0)):=LW (by decide) (by omega);refine⟨rfl,7,rfl,by decide,by decide,?_⟩;refine TN (xs:=(List.range (7:Int).toNat).map λ(i:Nat)=>V.int (0+(i:Int))) (λ_ y _=>∃c,y=.str ⟨#[c]⟩/\c∈AQ LN) (λ_ _ _ _ h _=>h) (λ_ _ _ _ _ _ h _ _=>h) QA (by rw[aa,List.length_range];decide) (λx H' R hx s' hR=>?_) λl H1 ys n1 s1 h1 l1 hy=>?_
 ·obtain⟨i,hi,rfl⟩:=aj.mp hx;have hi':i<7:=fg.mp hi;obtain⟨c,hc,mc⟩:=QS (z:=LN) (i:=ns.getD (0+(i:Int)).toNat 0%36) (aZ _ (by decide)) (by rw[LV];exact aR _ (by decide));refine⟨_,rfl,_,rfl,_,rfl,a,_,_,_,rfl,rfl,AV.of (s'.get ha),LW (by omega) (by omega),_,_,rfl,rfl,(by show(0:Int)<36;decide),LN,_,c,rfl,rfl,small (by decide +kernel),hc,?_⟩;exact hR (.str ⟨#[c]⟩) H' (Aw.refl _) (λ_ z=>by cases z) ⟨c,rfl,mc⟩
 obtain⟨cs,rfl,hcs⟩:=PB ys λy hm=>by
  obtain⟨i,hi⟩:=fj hm;have il:=(aA.mp hi).1;exact(hy i _ y (aC (by omega)) hi).1
 have lcs:cs.length=7:=by
  rw[aa,aa,aa,List.length_range] at l1;exact l1
 have wl:(AQ (PySem.Txt.join EM (cs.map λc=>(⟨#[c]⟩:Str))))=cs:=S7 cs;refine⟨l,EM,cs.map λc=>(⟨#[c]⟩:Str),rfl,rfl,AV.of h1,?_,?_⟩
 ·have e:((cs.map λc=>(⟨#[c]⟩:Str)).map (·.length)).sum=cs.length:=by
   rw[az];have:((λz:Str=>z.length)∘λc=>(⟨#[c]⟩:Str))=λ_:Nat=>1:=rfl
   rw[this]
   clear this hcs h1 hy l1 wl lcs
   induction cs with
   |nil=>rfl
   |cons c cs ih=>rw[aF,List.sum_cons,ih,aS];omega
  rw[e,aa,lcs]
  decide +kernel
 dsimp only;have hwl:(PySem.Txt.join EM (cs.map λc=>(⟨#[c]⟩:Str))).length=7:=by rw[<-A3,wl,lcs]
 have hwc:∀c∈AQ (PySem.Txt.join EM (cs.map λc=>(⟨#[c]⟩:Str))),c∈AQ LN:=by rw[wl];exact hcs
 generalize PySem.Txt.join EM (cs.map λc=>(⟨#[c]⟩:Str))=wd at hwl hwc;refine⟨_,rfl,a,_,_,_,rfl,rfl,AV.of (s1.get ha),A7,_,_,rfl,rfl,(by show(0:Int)<7;decide),?_⟩;have t0:=aZ (ns.getD 7 0) (show(7:Int)≠0 by decide);have t1:=aR (ns.getD 7 0) (show(0:Int)<7 by decide);dsimp only;generalize ns.getD 7 0%7=at_ at t0 t1;refine⟨MT,λg hg=>?_⟩;have hgH:H g=none:=s1.free hg;refine⟨_,rfl,m,rfl,by omega,by omega,F8 (lo:=0) (n:=m.toNat) (λi σ H2=>∃(zs:List Str) (v u:Option V),σ=[some (.ref a),some (.int m),some (.str LN),some (.str wd),some (.int at_),some (.ref g),v,u]/\Aw H H2/\H2 g=some (.lst (zs.map V.str))/\zs.length=i/\(∀z∈zs,Xc z)/\∀(j:Nat) z,zs[j]?=some z->(AQ z)[at_.toNat]?=some (Xf (ns.getD 8 0+(0+(j:Int)))))
  ⟨[],none,none,rfl,s1.trans (Ae hg _),Ac,rfl,(λ_ h=>nomatch h),(λj z h=>by simp at h)⟩ ?_ ?_⟩
 ·rintro i σ H2 hi ⟨zs,v,u,rfl,s2,hg2,hl,hb,hat⟩
  have ha2:=s2.get ha;obtain⟨hc,mc⟩:=Yj (ns.getD 8 0+(0+(i:Int)));generalize ec:Xf (ns.getD 8 0+(0+(i:Int)))=c at hc mc;obtain⟨d,hd,md⟩:=QS (z:=LN) (i:=0+(i:Int)) (by omega) (by rw[LV];omega);have e1:=WZ wd t0;obtain⟨k,kk,e2⟩:=Wz wd (i:=at_+1) (by omega);have lwd:=A3 wd;have l1:(PySem.Txt.slice wd none (some at_)).length<=at_.toNat:=by rw[<-A3,e1,a8];omega
  have l2:(PySem.Txt.slice wd (some (at_+1)) none).length<=6-at_.toNat:=by rw[<-A3,e2,bF];omega
  refine⟨_,rfl,_,rfl,_,rfl,wd,rfl,small (by omega),_,rfl,_,rfl,a,_,_,_,rfl,rfl,AV.of ha2,A8,_,rfl,_,_,rfl,rfl,_,_,rfl,rfl,(by show(0:Int)<36;decide),LN,_,c,rfl,rfl,small (by decide +kernel),hc,_,_,rfl,rfl,small (by show _+1<=1000000;omega),?_⟩;refine⟨_,rfl,_,rfl,_,rfl,_,_,rfl,rfl,_,rfl,wd,rfl,small (by omega),_,_,rfl,rfl,small (by rw[len_app];show _+1+_<=1000000;omega),?_⟩;have oc:AQ (PySem.Txt.slice wd none (some at_)++⟨#[c]⟩++PySem.Txt.slice wd (some (at_+1)) none)=(AQ wd).take at_.toNat++c::(AQ wd).drop k:=by
   rw[BJ,BJ,e1,e2,bI];rfl
  have ol:(PySem.Txt.slice wd none (some at_)++⟨#[c]⟩++PySem.Txt.slice wd (some (at_+1)) none).length<=7:=by
   rw[len_app,len_app];show _+1+_<=7;omega
  dsimp only;generalize PySem.Txt.slice wd none (some at_)++⟨#[c]⟩++PySem.Txt.slice wd (some (at_+1)) none=one at oc ol;have on:Xc one:=⟨by rw[oc];simp,by omega,λx hx=>by
   rw[oc] at hx;rcases aK.mp hx with hx|hx
   ·exact hwc x (bA hx)
   ·rcases aM.mp hx with rfl|hx
    ·exact mc
    ·exact hwc x (cP hx)⟩
  have e3:=WZ one (j:=at_+1) (by omega);have tn:Xc (PySem.Txt.slice one none (some (at_+1))):=⟨by
    rw[e3];have:=on.1;cases h:AQ one with
    |nil=>exact absurd h this
    |cons x l=>
     rw[show(at_+1).toNat=at_.toNat+1 by omega,fu];simp,by rw[<-A3,e3,a8,A3];omega,λx hx=>by rw[e3] at hx;exact on.2.2 x (bA hx)⟩
  have pn:Xc (one++⟨#[d]⟩):=⟨by rw[BJ];simp,by rw[len_app];show one.length+1<=8;omega,λx hx=>by
   rw[BJ] at hx;rcases aK.mp hx with hx|hx
   ·exact on.2.2 x hx
   ·rw[ah.mp hx];exact md⟩
  have oat:(AQ one)[at_.toNat]?=some c:=by
   rw[oc,bS (by rw[a8];omega),a8,show at_.toNat-min at_.toNat (AQ wd).length=0 by omega];rfl
  have tat:(AQ (PySem.Txt.slice one none (some (at_+1))))[at_.toNat]?=some c:=by
   rw[e3,fH,ak (by omega)];exact oat
  have pat:(AQ (one++⟨#[d]⟩))[at_.toNat]?=some c:=by
   rw[BJ,bW (aA.mp oat).1];exact oat
  refine⟨_,rfl,.inl ⟨rfl,_,AV.of hg2⟩,_,rfl,_,rfl,_,rfl,_,_,rfl,rfl,_,rfl,one,rfl,small (by omega),_,rfl,_,rfl,_,rfl,LN,_,d,rfl,rfl,small (by decide +kernel),hd,_,_,rfl,rfl,small (by show one.length+1<=1000000;omega),MX,λp hp=>?_⟩;have s3:=Ae hp (.lst [V.str one,V.str (PySem.Txt.slice one none (some (at_+1))),V.str (one++⟨#[d]⟩)]);obtain⟨z,hz,hzn,hza⟩:∃z,KY [V.str one,V.str (PySem.Txt.slice one none (some (at_+1))),V.str (one++⟨#[d]⟩)] ((ns.getD 9 0+(0+(i:Int)))%3)=some (.str z)/\Xc z/\(AQ z)[at_.toNat]?=some c:=by
   have r0:=aZ (ns.getD 9 0+(0+(i:Int))) (show(3:Int)≠0 by decide);have r1:=aR (ns.getD 9 0+(0+(i:Int))) (show(0:Int)<3 by decide);generalize (ns.getD 9 0+(0+(i:Int)))%3=r at r0 r1;have:r=0\/r=1\/r=2:=by omega
   rcases this with rfl|rfl|rfl
   ·exact⟨_,rfl,on,oat⟩
   ·exact⟨_,rfl,tn,tat⟩
   ·exact⟨_,rfl,pn,pat⟩
  refine⟨_,rfl,a,_,_,_,rfl,rfl,AV.of (s3.get ha2),A9,_,rfl,_,_,rfl,rfl,_,_,rfl,rfl,(by show(0:Int)<3;decide),p,_,_,_,rfl,rfl,AV.of Ac,hz,g,_,_,rfl,rfl,s3.get hg2,By (by rw[aa];omega),?_⟩;refine⟨zs++[z],_,_,rfl,Cu (s2.trans s3) hgH _,by rw[Ac,aO];rfl,by rw[ar,hl];rfl,λy hy=>?_,λj y hj=>?_⟩
  ·rcases aK.mp hy with hy|hy
   ·exact hb y hy
   ·rw[ah.mp hy];exact hzn
  ·by_cases hjl:j<zs.length
   ·rw[bW hjl] at hj;exact hat j y hj
   ·rw[bS (by omega)] at hj;have h0:j-zs.length=0:=by
     have:=(aA.mp hj).1;simp at this;omega
    rw[h0] at hj;cases hj;rw[show j=i by omega,ec];exact hza
 ·rintro σ H2 ⟨zs,v,u,rfl,s2,hg2,hl,hb,hat⟩
  refine⟨_,rfl,q g _ zs s2 hgH hg2 hl hb ?_⟩;refine cq.mpr λi j hi hj hij e=>?_
  have e1:=hat i _ (aC hi);have e2:=hat j _ (aC hj);rw[e,e2] at e1;have:=VA (aI e1);have l30:zs.length<=30:=by omega
  omega
theorem Xy {z:Str}(h:Xc z):Bh (.str z)=true:=by
 obtain⟨h1,h2,h3⟩:=h;have l:=A3 z;have h0:(AQ z).length≠0:=λe=>h1 (eC.mp e)
 show(decide ((1:Int)<=z.length)&&decide ((z.length:Int)<=8)&&Cs LN z)=true;rw[aQ,aQ,bZ,bZ];refine⟨⟨by omega,by omega⟩,?_⟩;unfold Cs;exact a5.mpr λc hc=>av (h3 c hc)
theorem pick (vs:List V)(Pr:V->Prop)(h:∀v∈vs,Pr v){i:Int}(h0:0<=i)(h1:i<vs.length):∃v,KY vs i=some v/\Pr v:=by
 obtain⟨j,rfl⟩:=eE h0;have hj:j<vs.length:=by omega
 exact⟨vs[j],Ah (aC hj),h _ (b9 hj)⟩
structure Rw6 (H:Hp) (r:Addr) (ns:List Int):Prop where
 at_:H r=some (.lst (ns.map V.int))
 len:ns.length=30
 bd:∀x∈ns,0<=x/\x<60
theorem Rw6.get {H:Hp}{r:Addr}{ns:List Int}(h:Rw6 H r ns){i:Int}(h0:0<=i)(h1:i<30):∃x,KY (ns.map V.int) i=some (.int x)/\0<=x/\x<60:=by
 obtain⟨j,rfl⟩:=eE h0;have hj:j<ns.length:=by rw[h.len];omega
 refine⟨ns[j],?_,h.bd _ (b9 hj)⟩;exact Ah (by rw[aD,aC hj];rfl)
theorem Rw6.same {H H':Hp}{r:Addr}{ns:List Int}(h:Rw6 H r ns)(s:Aw H H'):Rw6 H' r ns:=⟨s.get h.at_,h.len,h.bd⟩
structure Nms (zs:List Str):Prop where
 len:zs.length=18
 ok:∀z∈zs,Bh (.str z)=true
 nd:zs.Nodup
theorem Nms.get {zs:List Str}(h:Nms zs){i:Int}(h0:0<=i)(h1:i<18):∃z∈zs,KY (zs.map V.str) i=some (.str z):=by
 obtain⟨j,rfl⟩:=eE h0;have hj:j<zs.length:=by rw[h.len];omega
 exact⟨zs[j],b9 hj,Ah (by rw[aD,aC hj];rfl)⟩
theorem YD {z:Str}(l:z.length<=200):∃P,CP P/\(jn P).length<=200/\z=jn P:=by
 obtain⟨P,v,e⟩:=Xk z;exact⟨P,v,by rw[e];exact l,e.symm⟩
def J3 (K:W.Frag):Sp:=λvs H Q _=>∃(r nl:Addr) (i:Int) (ns:List Int) (zs:List Str),vs=[.ref r,.int i,.ref nl]/\Rw6 H r ns/\0<=i/\i<26/\H nl=some (.lst (zs.map V.str))/\Nms zs/\∀(P:List Str) H',Aw H H'->CP P->(jn P).length<=200->Q (.str (jn P)) H'
theorem Ov (T:Txt K mg C XC)(F:Fun K "_law_path" "_law_path" Ir f fd):FnOk P w K mg base Ef 1 f fd ["_law_row_here","_law_at_here","_law_names_here"] (J3 K):=by
 exists DU
 ·obtain⟨r,nl,i,ns,zs,rfl,_⟩:=h;rfl
 obtain⟨r,nl,i,ns,zs,rfl,hr6,i0,i1,hn,nz,q⟩:=h;refine⟨_,(!Ad (!AJ (!Ax Ck (!Ay Bw (!An AI (pv 0) (pv 1) (λ_ _=>rfl)) (!Ag)) (!Ag) (AC _)) (!Af (!Aq (!An AI (!Bk (!Aa (!Aj) (!Aa (!Aj) (!Aa (!Ay AR (!Aj) (!An AI (pv 2) (!Ag) (λ_ _=>rfl))) (!Aa (!Ay AR (!An AI (pv 2) (!Ag) (λ_ _=>rfl)) (!Aj)) (!Aa (!Aj) (!Aa (!Aj) (!Ab)))))))) (!Ay Bw (!An AI (pv 0) (!Ay Ce (pv 1) (!Ag)) (λ_ _=>rfl)) (!Ag)) (λ_ _=>rfl)))) (!Ao)) (!Ad (@Av _ _ (3) _ _ _ _ DU.nd rfl ∅ (!An AI (!Bk (!Aa (!Ag) (!Aa (!Ag) (!Aa (!Ag) (!Aa (!Ag) (!Aa (!Ag) (!Aa (!Ag) (!Aa (!Ag) (!Ab))))))))) (!Ay Bw (!An AI (pv 0) (pv 1) (λ_ _=>rfl)) (!Ag)) (λ_ _=>rfl)) (by rfl) ∅) (!Ad (@Av _ _ (4) _ _ _ _ DU.nd rfl ∅ (!Bk (!Ab)) (by rfl) ∅) (!Ad (!CQ bJ rfl (!Fb rfl T.b_range (!Aa (pv 3) (!Ab))) (@AK _ _ (5) _ DU.nd rfl ∅ ∅) (!Ad (@Av _ _ (6) _ _ _ _ DU.nd rfl ∅ (!Ay GT (!An AI (pv 0) (!Ay Ce (!Ay Ce (pv 1) (!Ag)) (!Ay Bw (pv 5) (!Ag))) (λ_ _=>rfl)) (!Ay Ce (!Ag) (!Ay GT (pv 5) (!Ag)))) (by rfl) ∅) (!Af (!AD (!Dm a7 bD bC Cw (pv 4) (!Aa (!An AI (pv 2) (!Ay Bw (pv 6) (!An AI (!Bk (!Aa (!Ag) (!Aa (!Ag) (!Ab)))) (!Ay Bw (!Ay GT (!An AI (pv 0) (pv 1) (λ_ _=>rfl)) (!Ag)) (!Ag)) (λ_ _=>rfl))) (λ_ _=>rfl)) (!Ab)))))) (by intro _;rfl)) (!Af (!Aq (!Dm bz eZ eY (Os rfl) (!Aj) (!Aa (pv 4) (!Ab))))))))),?_⟩
 try dsimp only[A4,Cx.nox,Cx.wish]
 obtain⟨a,ea,a0,a1⟩:=hr6.get i0 (by omega);obtain⟨a',ea',a0',a1'⟩:=hr6.get (i:=i+1) (by omega) (by omega);refine⟨_,rfl,_,rfl,r,_,_,_,rfl,rfl,AV.of hr6.at_,ea,_,_,rfl,rfl,(by show(0:Int)<13;decide),rfl,_,rfl,DQ (λc=>?_) (λc=>?_)⟩
 ·obtain⟨z0,mz,ez⟩:=nz.get (i:=0) (by decide) (by decide);have lz:=(BR (nz.ok z0 mz)).2.2;have m0:=aZ a' (show(6:Int)≠0 by decide);have m1:=aR a' (show(0:Int)<6 by decide);have l1:(SL++z0).length=1+z0.length:=by rw[bR];rfl
  have l2:(z0++SL).length=z0.length+1:=by rw[bR];rfl
  refine⟨_,rfl,nl,_,_,_,rfl,rfl,AV.of hn,ez,_,_,rfl,rfl,small (by show 1+z0.length<=1000000;omega),_,rfl,nl,_,_,_,rfl,rfl,AV.of hn,ez,_,_,rfl,rfl,small (by show z0.length+1<=1000000;omega),YN,λl nl'=>?_⟩;obtain⟨xs,ex⟩:∃xs:List V,xs=[V.str (PySem.Str.ofString "A"),V.str (PySem.Str.ofString "a//b"),V.str (SL++z0),V.str (z0++SL),V.str (PySem.Str.ofString "123456789"),V.str (PySem.Str.ofString " ")]:=⟨_,rfl⟩
  obtain⟨mv,em,m,rfl,lm⟩:=pick xs (λv=>∃z:Str,v=.str z/\z.length<=200) (λv hv=>by
   rw[ex] at hv;simp only[List.mem_cons,List.not_mem_nil,or_false] at hv;rcases hv with rfl|rfl|rfl|rfl|rfl|rfl
   ·exact⟨_,rfl,by decide +kernel⟩
   ·exact⟨_,rfl,by decide +kernel⟩
   ·exact⟨_,rfl,by omega⟩
   ·exact⟨_,rfl,by omega⟩
   ·exact⟨_,rfl,by decide +kernel⟩
   ·exact⟨_,rfl,by decide +kernel⟩) m0 (by rw[ex];exact m1)
  have s0:=Ae nl' (.lst xs);obtain⟨P,v,lP,rfl⟩:=YD lm;rw[<-ex];exact⟨_,rfl,_,rfl,_,_,rfl,rfl,r,_,_,_,rfl,rfl,AV.of (s0.get hr6.at_),ea',_,_,rfl,rfl,(by show(0:Int)<6;decide),l,_,_,_,rfl,rfl,AV.of Ac,em,q P _ s0 v lP⟩
 have m0:=aZ a (show(7:Int)≠0 by decide);have m1:=aR a (show(0:Int)<7 by decide);obtain⟨mv,em,m,rfl,hm0,hm1⟩:=pick [V.int 0,V.int 1,V.int 1,V.int 2,V.int 2,V.int 3,V.int 9] (λv=>∃m:Int,v=.int m/\0<=m/\m<=9) (λv hv=>by
  simp only[List.mem_cons,List.not_mem_nil,or_false] at hv;rcases hv with rfl|rfl|rfl|rfl|rfl|rfl|rfl<;>exact⟨_,rfl,by decide,by decide⟩) m0 (by show _<7;exact m1)
 refine⟨Zy,λl0 n0=>?_⟩;have s0:=Ae n0 (.lst [V.int 0,V.int 1,V.int 1,V.int 2,V.int 2,V.int 3,V.int 9]);have h0:(upd H l0 (.lst [V.int 0,V.int 1,V.int 1,V.int 2,V.int 2,V.int 3,V.int 9])) l0=some (.lst [V.int 0,V.int 1,V.int 1,V.int 2,V.int 2,V.int 3,V.int 9]):=Ac;generalize upd H l0 (.lst [V.int 0,V.int 1,V.int 1,V.int 2,V.int 2,V.int 3,V.int 9])=H1 at s0 h0;refine⟨_,rfl,_,rfl,r,_,_,_,rfl,rfl,AV.of (s0.get hr6.at_),ea,_,_,rfl,rfl,(by show(0:Int)<7;decide),l0,_,_,_,rfl,rfl,AV.of h0,em,?_⟩;refine⟨MT,λg ng=>?_⟩;have ngH:=s0.free ng;dsimp only[AU];refine⟨_,rfl,m,rfl,by omega,by omega,F8 (lo:=0) (n:=m.toNat) (λk σ H2=>∃(P:List Str) (v u:Option V),σ=[some (.ref r),some (.int i),some (.ref nl),some (.int m),some (.ref g),v,u]/\Aw H H2/\H2 g=some (.lst (P.map V.str))/\P.length=k/\VP P) ⟨[],none,none,rfl,s0.trans (Ae ng _),Ac,rfl,λ_ h=>nomatch h⟩ ?_ ?_⟩
 ·rintro k σ H2 hk ⟨P,v,u,rfl,s2,hg,lP,hP⟩
  have k2:=aZ (0+(k:Int)) (show(3:Int)≠0 by decide);have k3:=aR (0+(k:Int)) (show(0:Int)<3 by decide);have d0:(0:Int)<=(0+(k:Int))/3:=Int.ediv_nonneg (by omega) (by decide);have d1:(0+(k:Int))/3<=0+(k:Int):=Int.ediv_le_self _ (by omega);obtain⟨b,eb,b0,b1⟩:=hr6.get (i:=i+1+(0+(k:Int))%3) (by omega) (by omega);have w0:=aZ (a/13) (show(2:Int)≠0 by decide);have w1:=aR (a/13) (show(0:Int)<2 by decide);obtain⟨wv,ew,d,rfl,hd0,hd1⟩:=pick [V.int 4,V.int 18] (λv=>∃m:Int,v=.int m/\0<m/\m<=18) (λv hv=>by
   simp only[List.mem_cons,List.not_mem_nil,or_false] at hv;rcases hv with rfl|rfl<;>exact⟨_,rfl,by decide,by decide⟩) w0 (by show _<2;exact w1)
  have y0:=aZ (b/(1+(0+(k:Int))/3)) (show d≠0 by omega);have y1:=aR (b/(1+(0+(k:Int))/3)) hd0;obtain⟨z,hz,ez⟩:=nz.get (i:=b/(1+(0+(k:Int))/3)%d) y0 (by omega);refine⟨_,rfl,_,rfl,_,_,rfl,rfl,_,rfl,_,_,rfl,rfl,(by show(0:Int)<3;decide),_,_,rfl,rfl,r,_,_,_,rfl,rfl,AV.of (s2.get hr6.at_),eb,_,rfl,_,_,rfl,rfl,⟨by decide,by decide⟩,_,_,rfl,rfl,_,_,rfl,rfl,⟨by omega,by omega⟩,?_⟩;refine⟨_,rfl,.inl ⟨rfl,_,AV.of hg⟩,_,rfl,_,rfl,Bs,λl1 n1=>?_⟩;have s3:=Ae n1 (.lst [V.int 4,V.int 18]);have h3:(upd H2 l1 (.lst [V.int 4,V.int 18])) l1=some (.lst [V.int 4,V.int 18]):=Ac;generalize upd H2 l1 (.lst [V.int 4,V.int 18])=H3 at s3 h3;have s23:=s2.trans s3;refine⟨_,rfl,_,rfl,r,_,_,_,rfl,rfl,AV.of (s23.get hr6.at_),ea,_,_,rfl,rfl,⟨by decide,by decide⟩,_,_,rfl,rfl,(by show(0:Int)<2;decide),l1,_,_,_,rfl,rfl,AV.of h3,ew,_,_,rfl,rfl,hd0,nl,_,_,_,rfl,rfl,AV.of (s23.get hn),ez,g,_,_,rfl,rfl,s3.get hg,By (by rw[aa];omega),?_⟩;refine⟨P++[z],_,_,rfl,Cu s23 ngH _,by rw[Ac,aO];rfl,by rw[ar,lP];rfl,λx hx=>?_⟩;rcases aK.mp hx with hx|hx
  ·exact hP x hx
  ·rw[ah.mp hx];exact nz.ok z hz
 ·rintro σ H2 ⟨P,v,u,rfl,s2,hg,lP,hP⟩
  have sn:=Rm hP;have lj:=D5 hP;refine⟨rfl,_,rfl,g,SL,P,rfl,rfl,AV.of hg,by show _+P.length*1<=_;omega,?_⟩;exact q P H2 s2 hP.cp (by omega)
def Kg (K:W.Frag):Sp:=λvs H Q _=>∃(r:Addr) (i:Int) (ns:List Int),vs=[.ref r,.int i]/\Rw6 H r ns/\0<=i/\i<26/\∀(z:Str) H',Aw H H'->z.length<=419->Q (.str z) H'
theorem Oq (T:Txt K mg C XC)(F:Fun K "_law_text" "_law_text" Iw f fd):FnOk P w K mg base Ef 1 f fd ["_law_row_here","_law_at_here"] (Kg K):=by
 exists Cp
 ·obtain⟨r,i,ns,rfl,_⟩:=h;rfl
 obtain⟨r,i,ns,rfl,hr6,i0,i1,q⟩:=h;refine⟨_,(!Ad (@Av _ _ (2) _ _ _ _ Cp.nd rfl ∅ (!Aj) (by rfl) ∅) (!Ad (@Av _ _ (3) _ _ _ _ Cp.nd rfl ∅ (!An AI (!Bk (!Aa (!An AI (pv 0) (pv 1) (λ_ _=>rfl)) (!Aa (!Ay Bw (!An AI (pv 0) (pv 1) (λ_ _=>rfl)) (!Ag)) (!Aa (!Ay Ce (!Ag) (!An AI (pv 0) (pv 1) (λ_ _=>rfl))) (!Aa (!Ag) (!Ab)))))) (!Ay Bw (!An AI (pv 0) (!Ay Ce (pv 1) (!Ag)) (λ_ _=>rfl)) (!Ag)) (λ_ _=>rfl)) (by rfl) ∅) (!Ad (@Av _ _ (4) _ _ _ _ Cp.nd rfl ∅ (!Aj) (by rfl) ∅) (!Ad (!CQ bJ rfl (!Fb rfl T.b_range (!Aa (pv 3) (!Ab))) (@AK _ _ (5) _ Cp.nd rfl ∅ ∅) (!Ad (@Av _ _ (6) _ _ _ _ Cp.nd rfl ∅ (!Ay Ce (!An AI (pv 0) (!Ay Ce (pv 1) (!Ag)) (λ_ _=>rfl)) (!Ay K0 (pv 5) (!An AI (pv 0) (!Ay Ce (pv 1) (!Ag)) (λ_ _=>rfl)))) (by rfl) ∅) (!Af (@Av _ _ (4) _ _ _ _ Cp.nd rfl ∅ (!Ay AR (pv 4) (!An OO (pv 2) (!Ay Bw (pv 6) (!AA DW (by rfl) T.b_len CO (!Aa (pv 2) (!Ab)))) (λ_ _=>rfl))) (by rfl) ∅))) (by intro _;rfl)) (!Af (!Aq (pv 4))))))),?_⟩
 try dsimp only[A4,Cx.nox,Cx.wish]
 obtain⟨a,ea,a0,a1⟩:=hr6.get i0 (by omega);obtain⟨b,eb,b0,b1⟩:=hr6.get (i:=i+1) (by omega) (by omega);obtain⟨c,ec,c0,c1⟩:=hr6.get (i:=i+2) (by omega) (by omega);obtain⟨d,ed,d0,d1⟩:=hr6.get (i:=i+3) (by omega) (by omega);obtain⟨SG,eSG⟩:∃SG,SG=PySem.Str.ofString " abcdefghijklmnopqrstuvwxyz0123456789!#&*+,-./:;<=>?\x40[]^_{|}~":=⟨_,rfl⟩
 have lSG:SG.length=61:=by rw[eSG];decide +kernel
 rw[<-eSG];have r0:=aZ b (show(4:Int)≠0 by decide);have r1:=aR b (show(0:Int)<4 by decide);have t0:=aZ a (show(3:Int)≠0 by decide);have t1:=aR a (show(0:Int)<3 by decide);obtain⟨xs,ex⟩:∃xs,xs=[V.int a,V.int (a%3),V.int (360+a),V.int 400]:=⟨_,rfl⟩
 obtain⟨mv,em,m,rfl,hm0,hm1⟩:=pick xs (λv=>∃m:Int,v=.int m/\0<=m/\m<=419) (λv hv=>by
  rw[ex] at hv;simp only[List.mem_cons,List.not_mem_nil,or_false] at hv;rcases hv with rfl|rfl|rfl|rfl
  ·exact⟨_,rfl,a0,by omega⟩
  ·exact⟨_,rfl,by omega,by omega⟩
  ·exact⟨_,rfl,by omega,by omega⟩
  ·exact⟨_,rfl,by decide,by decide⟩) (i:=b%4) (by omega) (by rw[ex];show _<4;omega)
 refine⟨_,rfl,_,rfl,r,_,_,_,rfl,rfl,AV.of hr6.at_,ea,_,rfl,_,rfl,r,_,_,_,rfl,rfl,AV.of hr6.at_,ea,_,_,rfl,rfl,(by show(0:Int)<3;decide),_,rfl,_,rfl,r,_,_,_,rfl,rfl,AV.of hr6.at_,ea,_,_,rfl,rfl,Nv,λl nl=>?_⟩;rw[<-ex];have s1:=Ae nl (.lst xs);have h1:(upd H l (.lst xs)) l=some (.lst xs):=Ac;generalize upd H l (.lst xs)=H1 at s1 h1;have hr1:=s1.get hr6.at_;refine⟨_,rfl,_,rfl,_,_,rfl,rfl,r,_,_,_,rfl,rfl,AV.of hr1,eb,_,_,rfl,rfl,(by show(0:Int)<4;decide),l,_,_,_,rfl,rfl,AV.of h1,em,?_⟩;refine⟨_,rfl,m,rfl,by omega,by omega,F8 (lo:=0) (n:=m.toNat) (λk σ H2=>H2=H1/\∃(z:Str) (v u:Option V),σ=[some (.ref r),some (.int i),some (.str SG),some (.int m),some (.str z),v,u]/\z.length=k) ⟨rfl,EM,none,none,rfl,rfl⟩ ?_ ?_⟩
 ·rintro k σ H2 hk ⟨rfl,z,v,u,rfl,lz⟩
  obtain⟨ch,hc,mc⟩:=QS (z:=SG) (i:=(c+(0+(k:Int))*d)%61) (aZ _ (by decide)) (by rw[A3,lSG];exact aR _ (by decide));refine⟨_,rfl,_,rfl,_,_,rfl,rfl,r,_,_,_,rfl,rfl,AV.of hr1,ec,_,rfl,_,rfl,_,rfl,_,_,rfl,rfl,r,_,_,_,rfl,rfl,AV.of hr1,ed,_,_,rfl,rfl,.inr ⟨by omega,by omega⟩,_,_,rfl,rfl,?_⟩;refine⟨_,rfl,_,rfl,_,rfl,_,rfl,SG,rfl,small (by omega),_,_,rfl,rfl,(by rw[lSG];show(0:Int)<61;decide),SG,_,ch,rfl,rfl,small (by omega),by rw[lSG];exact hc,_,_,rfl,rfl,small (by show z.length+1<=1000000;omega),?_⟩;exact⟨rfl,_,_,_,rfl,by rw[bR,lz];rfl⟩
 ·rintro σ H2 ⟨rfl,z,v,u,rfl,lz⟩
  exact⟨_,rfl,q z H2 s1 (by omega)⟩
inductive Dd where
 |wr (s:Str) (P:List Str) (c:Str)|fo (s:Str) (P:List Str)|rm (s:Str) (P:List Str)|sp (s:Str) (P:List Str) (a m:Int) (z:Str)|mv (s:Str) (P R:List Str)|cp (s:Str) (R:List Str) (nm:Str) (P:List Str)
abbrev S0:Str:=PySem.Str.ofString "s0"
abbrev S1:Str:=PySem.Str.ofString "s1"
abbrev SE:Str:=PySem.Str.ofString "e"
def Dd.items:Dd->List V
 | .wr s P c=>[.str (PySem.Str.ofString "write"),.str s,.str (jn P),.str c]
 | .fo s P=>[.str (PySem.Str.ofString "folder"),.str s,.str (jn P)]
 | .rm s P=>[.str (PySem.Str.ofString "remove"),.str s,.str (jn P)]
 | .sp s P a m z=>[.str (PySem.Str.ofString "splice"),.str s,.str (jn P),.int a,.int m,.str z]
 | .mv s P R=>[.str (PySem.Str.ofString "move"),.str s,.str (jn P),.str (jn R)]
 | .cp s R nm P=>[.str (PySem.Str.ofString "copy"),.str s,.str (jn R),.str nm,.str (jn P)]
def Dd.sm:Dd->Str
 | .wr s _ _=>s
 | .fo s _=>s
 | .rm s _=>s
 | .sp s _ _ _ _=>s
 | .mv s _ _=>s
 | .cp s _ _ _=>s
def Pk (P:List Str):Prop:=CP P/\(jn P).length<=200
def Dd.Ok:Dd->Prop
 | .wr _ P c=>Pk P/\c.length<=500
 | .fo _ P=>Pk P
 | .rm _ P=>Pk P
 | .sp _ P a m z=>Pk P/\0<=a/\0<=m/\z.length<=500
 | .mv _ P R=>Pk P/\Pk R
 | .cp _ R nm P=>Pk P/\Pk R/\(nm=S0\/nm=S1\/nm=SE)
def Kd (K:W.Frag):Sp:=λvs H Q _=>∃(c:Int) (nl:Addr) (zs:List Str),vs=[.int c,.ref nl]/\H nl=some (.lst (zs.map V.str))/\Nms zs/\∀(d:Dd) r H',d.Ok->(d.sm=S0\/d.sm=S1)->Aw H H'->H r=none->H' r=some (.tup d.items)->Q (.ref r) H'
theorem OP (T:Txt K mg C XC)(F:Fun K "_law_deed" "_law_deed" Il f fd)(Eg:Def P w K mg base 1 "_law_row" ["_law_cell","_law_many"] (Ik K))(FB:Def P w K mg base 1 "_law_path" ["_law_row_here","_law_at_here","_law_names_here"] (J3 K))(FC:Def P w K mg base 1 "_law_text" ["_law_row_here","_law_at_here"] (Kg K)):FnOk P w K mg base Ef 2 f fd ["_law_cell","_law_names_here"] (Kd K):=by
 exists B8
 ·obtain⟨c,nl,zs,rfl,_⟩:=h;rfl
 obtain⟨c,nl,zs,rfl,hn,nz,q⟩:=h;refine⟨_,(!Ad (@Av _ _ (2) _ _ _ _ B8.nd rfl ∅ (!AH Eg ∅ rfl (!Aa (pv 0) (!Aa (!Ag) (!Ab)))) (by rfl) ∅) (!Ad (@Av _ _ (3) _ _ _ _ B8.nd rfl ∅ (!Ay AR (!Aj) (!Cy SV (by rfl) T.b_str UO (!Aa (!Ay Bw (!An AI (pv 2) (!Ag) (λ_ _=>rfl)) (!Ag)) (!Ab)))) (by rfl) ∅) (!Ad (@Av _ _ (4) _ _ _ _ B8.nd rfl ∅ (!AH FB ∅ rfl (!Aa (pv 2) (!Aa (!Ag) (!Aa (pv 1) (!Ab))))) (by rfl) ∅) (!Ad (@Av _ _ (5) _ _ _ _ B8.nd rfl ∅ (!AH FB ∅ rfl (!Aa (pv 2) (!Aa (!Ag) (!Aa (pv 1) (!Ab))))) (by rfl) ∅) (!Ad (@Av _ _ (6) _ _ _ _ B8.nd rfl ∅ (!Ay Bw (!An AI (pv 2) (!Ag) (λ_ _=>rfl)) (!Ag)) (by rfl) ∅) (!Ad (!AJ (!Ax Se (pv 6) (!Ag) (AC _)) (!Af (!Aq (!Az (!Aa (!Aj) (!Aa (pv 3) (!Aa (pv 4) (!Aa (!AH FC ∅ rfl (!Aa (pv 2) (!Aa (!Ag) (!Ab)))) (!Ab)))))))) (!Ao)) (!Ad (!AJ (!Ax Ck (pv 6) (!Ag) (AC _)) (!Af (!Aq (!Az (!Aa (!Aj) (!Aa (pv 3) (!Aa (pv 4) (!Ab))))))) (!Ao)) (!Ad (!AJ (!Ax Ck (pv 6) (!Ag) (AC _)) (!Af (!Aq (!Az (!Aa (!Aj) (!Aa (pv 3) (!Aa (pv 4) (!Ab))))))) (!Ao)) (!Ad (!AJ (!Ax Ck (pv 6) (!Ag) (AC _)) (!Ad (@Av _ _ (7) _ _ _ _ B8.nd rfl ∅ (!An AI (!Bk (!Aa (!Ay Bw (!An AI (pv 2) (!Ag) (λ_ _=>rfl)) (!Ag)) (!Aa (!An AI (pv 2) (!Ag) (λ_ _=>rfl)) (!Aa (!Ay QX (!Ag) (!Ag)) (!Ab))))) (!Ay Bw (!An AI (pv 2) (!Ag) (λ_ _=>rfl)) (!Ag)) (λ_ _=>rfl)) (by rfl) ∅) (!Ad (@Av _ _ (8) _ _ _ _ B8.nd rfl ∅ (!An AI (!Bk (!Aa (!Ag) (!Aa (!An AI (pv 2) (!Ag) (λ_ _=>rfl)) (!Aa (!Ay QX (!Ag) (!Ag)) (!Ab))))) (!Ay Bw (!An AI (pv 2) (!Ag) (λ_ _=>rfl)) (!Ag)) (λ_ _=>rfl)) (by rfl) ∅) (!Af (!Aq (!Az (!Aa (!Aj) (!Aa (pv 3) (!Aa (pv 4) (!Aa (pv 7) (!Aa (pv 8) (!Aa (!BA GZ (!AH FC ∅ rfl (!Aa (pv 2) (!Aa (!Ag) (!Ab)))) (!B6) (!BO (!Ay K0 (!An AI (pv 2) (!Ag) (λ_ _=>rfl)) (!Ag)))) (!Ab)))))))))))) (!Ao)) (!Ad (!AJ (!Ax Ck (pv 6) (!Ag) (AC _)) (!Af (!Aq (!Az (!Aa (!Aj) (!Aa (pv 3) (!Aa (pv 4) (!Aa (pv 5) (!Ab)))))))) (!Ao)) (!Af (!Aq (!Az (!Aa (!Aj) (!Aa (pv 3) (!Aa (pv 5) (!Aa (!An AI (!Bk (!Aa (!Aj) (!Aa (!Aj) (!Aa (!Aj) (!Ab))))) (!Ay Bw (!An AI (pv 2) (!Ag) (λ_ _=>rfl)) (!Ag)) (λ_ _=>rfl)) (!Aa (pv 4) (!Ab))))))))))))))))))),?_⟩
 try dsimp only[A4,Cx.nox,Cx.wish]
 refine Ap λN eN=>?_
 refine⟨_,rfl,c,30,rfl,by decide,by decide,λr H1 ns s1 nr hr1 ln hb=>?_⟩;have r6:Rw6 H1 r ns:=⟨hr1,ln,hb⟩
 have hn1:=s1.get hn;subst eN
 try dsimp only[AZ]
 obtain⟨a0,ea0,a00,a01⟩:=r6.get (i:=0) (by decide) (by decide);have m0:=aZ a0 (show(2:Int)≠0 by decide);have m1:=aR a0 (show(0:Int)<2 by decide);refine Ap λN eN=>?_
 refine⟨_,rfl,r,_,_,_,rfl,rfl,AV.of hr1,ea0,_,_,rfl,rfl,(by show(0:Int)<2;decide),_,rfl,m0,by omega,_,_,rfl,rfl,?_⟩;obtain⟨S,eS,lS⟩:∃S:Str,(PySem.Str.ofString "s"++PySem.Str.ofString (toString (a0%2)):Str)=S/\(S=S0\/S=S1):=by
  refine⟨_,rfl,?_⟩;have:a0%2=0\/a0%2=1:=by omega
  rcases this with e|e
  ·rw[e];exact .inl (by decide +kernel)
  ·rw[e];exact .inr (by decide +kernel)
 have l2:(PySem.Str.ofString "s").length+(PySem.Str.ofString (toString (a0%2))).length<=1000000:=by
  rw[<-bR,eS];rcases lS with rfl|rfl<;>decide +kernel
 refine⟨small l2,?_⟩;rw[eS];subst eN
 try dsimp only[AZ]
 refine Ap λN eN=>?_
 refine⟨_,rfl,_,rfl,r,nl,1,ns,zs,rfl,r6,by decide,by decide,hn1,nz,λP H2 s2 vP lP=>?_⟩;have r62:=r6.same s2;have hn2:=s2.get hn1;subst eN
 try dsimp only[AZ]
 refine Ap λN eN=>?_
 refine⟨_,rfl,_,rfl,r,nl,5,ns,zs,rfl,r62,by decide,by decide,hn2,nz,λR H3 s3 vR lR=>?_⟩;have r63:=r62.same s3;have s13:=(s1.trans s2).trans s3
 clear r6 r62
 subst eN
 try dsimp only[AZ]
 refine Ap λN eN=>?_
 obtain⟨a9,ea9,a90,a91⟩:=r63.get (i:=9) (by decide) (by decide);obtain⟨b,eb,b0,b1⟩:=r63.get (i:=10) (by decide) (by decide);obtain⟨b2,eb2,b20,b21⟩:=r63.get (i:=11) (by decide) (by decide);obtain⟨b3,eb3,b30,b31⟩:=r63.get (i:=12) (by decide) (by decide);obtain⟨b4,eb4,b40,b41⟩:=r63.get (i:=13) (by decide) (by decide);obtain⟨b5,eb5,b50,b51⟩:=r63.get (i:=18) (by decide) (by decide);have hr3:=AV.of (K:=K) r63.at_;have t0:=aZ b (show(3:Int)≠0 by decide);have t1:=aR b (show(0:Int)<3 by decide);have fin:∀(d:Dd) H4,d.Ok->d.sm=S->Aw H H4->∀p,H4 p=none->Q (.ref p) (upd H4 p (.tup d.items)):=λd H4 ok es s4 p np=>q d p _ ok (by rw[es];exact lS) (s4.trans (Ae np _)) (s4.free np) Ac
 refine⟨_,rfl,r,_,_,_,rfl,rfl,hr3,ea9,_,_,rfl,rfl,(by show(0:Int)<8;decide),?_⟩;subst eN
 try dsimp only[AZ]
 refine Ap λN eN=>?_
 refine⟨_,rfl,_,_,rfl,rfl,_,rfl,DQ (λc=>?_) (λc=>?_)⟩
 ·refine⟨_,rfl,_,rfl,_,rfl,r,10,ns,rfl,r63,by decide,by decide,λz H4 s4 lz=>⟨Nv,fin (.wr S P z) _ ⟨⟨vP,lP⟩,by omega⟩ rfl (s13.trans s4)⟩⟩
 subst eN
 try dsimp only[AZ]
 refine Ap λN eN=>?_
 refine⟨_,rfl,rfl,_,rfl,DQ (λc=>?_) (λc=>?_)⟩
 ·exact⟨_,rfl,_,rfl,MX,fin (.fo S P) _ ⟨vP,lP⟩ rfl s13⟩
 subst eN
 try dsimp only[AZ]
 refine Ap λN eN=>?_
 refine⟨_,rfl,rfl,_,rfl,DQ (λc=>?_) (λc=>?_)⟩
 ·exact⟨_,rfl,_,rfl,MX,fin (.rm S P) _ ⟨vP,lP⟩ rfl s13⟩
 subst eN
 try dsimp only[AZ]
 refine Ap λN eN=>?_
 refine⟨_,rfl,rfl,_,rfl,DQ (λc=>?_) (λc=>?_)⟩
 ·have u0:=aZ b2 (show(3:Int)≠0 by decide);have u1:=aR b2 (show(0:Int)<3 by decide);have w0:=aZ b4 (show(3:Int)≠0 by decide);have w1:=aR b4 (show(0:Int)<3 by decide);have y0:=aZ b (show(9:Int)≠0 by decide);obtain⟨xs,ex⟩:∃xs,xs=[V.int (b%9),V.int b,V.int ((10:Int)^(8:Int).toNat)]:=⟨_,rfl⟩
  obtain⟨ys,ey⟩:∃ys,ys=[V.int 0,V.int b3,V.int ((10:Int)^(8:Int).toNat)]:=⟨_,rfl⟩
  obtain⟨mv,em,m,rfl,hm0⟩:=pick xs (λv=>∃m:Int,v=.int m/\0<=m) (λv hv=>by
   rw[ex] at hv;simp only[List.mem_cons,List.not_mem_nil,or_false] at hv;rcases hv with rfl|rfl|rfl
   ·exact⟨_,rfl,y0⟩
   ·exact⟨_,rfl,b0⟩
   ·exact⟨_,rfl,by decide⟩) u0 (by rw[ex];exact u1)
  obtain⟨mv,em2,m2,rfl,hm2⟩:=pick ys (λv=>∃m:Int,v=.int m/\0<=m) (λv hv=>by
   rw[ey] at hv;simp only[List.mem_cons,List.not_mem_nil,or_false] at hv;rcases hv with rfl|rfl|rfl
   ·exact⟨_,rfl,by decide⟩
   ·exact⟨_,rfl,b30⟩
   ·exact⟨_,rfl,by decide⟩) w0 (by rw[ey];exact w1)
  refine⟨_,rfl,r,_,_,_,rfl,rfl,hr3,eb,_,_,rfl,rfl,(by show(0:Int)<9;decide),_,rfl,r,_,_,_,rfl,rfl,hr3,eb,_,_,rfl,rfl,⟨by decide,by decide,by decide⟩,MX,λl1 n1=>?_⟩;rw[<-ex];have s4:=Ae n1 (.lst xs);have h4:(upd H3 l1 (.lst xs)) l1=some (.lst xs):=Ac;generalize upd H3 l1 (.lst xs)=H4 at s4 h4;refine⟨_,rfl,r,_,_,_,rfl,rfl,AV.of (s4.get r63.at_),eb2,_,_,rfl,rfl,(by show(0:Int)<3;decide),l1,_,_,_,rfl,rfl,AV.of h4,em,?_⟩;refine⟨_,rfl,r,_,_,_,rfl,rfl,AV.of (s4.get r63.at_),eb3,_,_,rfl,rfl,⟨by decide,by decide,by decide⟩,MX,λl2 n2=>?_⟩;rw[<-ey];have s5:=Ae n2 (.lst ys);have h5:(upd H4 l2 (.lst ys)) l2=some (.lst ys):=Ac;generalize upd H4 l2 (.lst ys)=H5 at s5 h5;have s45:=s4.trans s5;refine⟨_,rfl,r,_,_,_,rfl,rfl,AV.of (s45.get r63.at_),eb4,_,_,rfl,rfl,(by show(0:Int)<3;decide),l2,_,_,_,rfl,rfl,AV.of h5,em2,?_⟩;refine⟨_,rfl,_,rfl,_,rfl,_,rfl,_,rfl,r,14,ns,rfl,r63.same s45,by decide,by decide,λz H6 s6 lz=>?_⟩;have s36:=s45.trans s6;refine⟨_,rfl,r,_,_,_,rfl,rfl,AV.of (s36.get r63.at_),eb5,_,_,rfl,rfl,.inr ⟨by decide,by decide⟩,_,rfl,z,rfl,small (by omega),YN,?_⟩;exact fin (.sp S P m m2 _) H6 ⟨⟨vP,lP⟩,hm0,hm2,by have:=bu z none (some (b5*3));omega⟩ rfl (s13.trans s36)
 subst eN
 try dsimp only[AZ]
 refine Ap λN eN=>?_
 refine⟨_,rfl,rfl,_,rfl,DQ (λc=>?_) (λc=>?_)⟩
 ·exact⟨_,rfl,_,rfl,_,rfl,Nv,fin (.mv S P R) _ ⟨⟨vP,lP⟩,vR,lR⟩ rfl s13⟩
 subst eN
 try dsimp only[AZ]
 obtain⟨mv,em,m,rfl,hm⟩:=pick [V.str S0,V.str S1,V.str SE] (λv=>∃m:Str,v=.str m/\(m=S0\/m=S1\/m=SE)) (λv hv=>by
  simp only[List.mem_cons,List.not_mem_nil,or_false] at hv;rcases hv with rfl|rfl|rfl
  ·exact⟨_,rfl,.inl rfl⟩
  ·exact⟨_,rfl,.inr (.inl rfl)⟩
  ·exact⟨_,rfl,.inr (.inr rfl)⟩) t0 (by exact t1)
 refine⟨_,rfl,_,rfl,MX,λl1 n1=>?_⟩;have s4:=Ae n1 (.lst [V.str S0,V.str S1,V.str SE]);have h4:(upd H3 l1 (.lst [V.str S0,V.str S1,V.str SE])) l1=some (.lst [V.str S0,V.str S1,V.str SE]):=Ac;generalize upd H3 l1 (.lst [V.str S0,V.str S1,V.str SE])=H4 at s4 h4;refine⟨_,rfl,r,_,_,_,rfl,rfl,AV.of (s4.get r63.at_),eb,_,_,rfl,rfl,(by show(0:Int)<3;decide),l1,_,_,_,rfl,rfl,AV.of h4,em,_,rfl,T9,?_⟩;exact fin (.cp S R m P) H4 ⟨⟨vP,lP⟩,⟨vR,lR⟩,hm⟩ rfl (s13.trans s4)
end
noncomputable def Dd.f:Dd->AM->AM->Rf ⊕ AM
 | .wr _ P c,t,_=>EN P c t []
 | .fo _ P,t,_=>OH P t []
 | .rm _ P,t,_=>Kn P t []
 | .sp _ P a m z,t,_=>Do P a m z t []
 | .mv _ P R,t,_=>Qe P R t []
 | .cp _ R _ P,t,t2=>LK R P t t2
section
variable {P:Program}{w:World}{K:W.Frag}{mg:Str->Option Value}{base:Heap}{f C:Addr}{XC:Nat->Addr}{fd:FuncData}{PT PU:Addr}
def Dd.Src (gs:List Gs)(t2:AM):Dd->Prop
 | .cp _ _ nm _=>∃b,(nm,b,t2)∈gs
 |_=>True
def Gx (K:W.Frag)(C:Addr)(XC:Nat->Addr)(PT PU:Addr):Sp:=λvs H Q E=>∃(x r:Addr) (d:Dd) (t t2:AM) (ks:List Str) (gs:List Gs),vs=[.ref x,.ref r]/\H r=some (.tup d.items)/\d.Ok/\HW C H x ks gs/\(d.sm,true,t)∈gs/\d.Src gs t2/\Tb PT PU H/\Lg C PT PU XC x d.sm (d.f t t2) ks gs H Q E
theorem OC (T:Txt K mg C XC)(F:Fun K "_law_done" "_law_done" HH f fd)(BC:BI P w K mg base 6 C "write" ["self","stem","path","content"] (Da K C XC PT PU))(Df:BI P w K mg base 6 C "folder" ["self","stem","path"] (Es K C XC PT PU))(Dh:BI P w K mg base 6 C "remove" ["self","stem","path"] (EA K C XC PT PU))(C6:BI P w K mg base 7 C "splice" ["self","stem","path","at","many","text"] (EH K C XC PT PU))(DZ:BI P w K mg base 6 C "move" ["self","stem","path","to"] (Fd K C XC PT PU))(DV:BI P w K mg base 6 C "copy" ["self","stem","to","name","path"] (Fo K C XC PT PU)):FnOk P w K mg base (E7 P w) 8 f fd ["_law_house","_law_deed_here"] (Gx K C XC PT PU):=by
 refine F.okE Pa (λvs H Q E h=>?_) (λcdv A outer s H vs Q E hr h=>?_)
 ·obtain⟨x,r,d,t,t2,ks,gs,rfl,_⟩:=h;rfl
 obtain⟨x,r,d,t,t2,ks,gs,rfl,hr9,ok,hw,mg9,src,tb,q⟩:=h;refine⟨_,(!Af (!AJ (!Ax Ck (!An Ar (pv 1) (!Ag) (λ_ _=>rfl)) (!Aj) (AC _)) (!Af (!AD (!Ba (pv 0) T.cl BC ∅ Au (!Aa (!An Ar (pv 1) (!Ag) (λ_ _=>rfl)) (!Aa (!An Ar (pv 1) (!Ag) (λ_ _=>rfl)) (!Aa (!An Ar (pv 1) (!Ag) (λ_ _=>rfl)) (!Ab))))))) (!Af (!AJ (!Ax Ck (!An Ar (pv 1) (!Ag) (λ_ _=>rfl)) (!Aj) (AC _)) (!Af (!AD (!Ba (pv 0) T.cl Df ∅ Au (!Aa (!An Ar (pv 1) (!Ag) (λ_ _=>rfl)) (!Aa (!An Ar (pv 1) (!Ag) (λ_ _=>rfl)) (!Ab)))))) (!Af (!AJ (!Ax Ck (!An Ar (pv 1) (!Ag) (λ_ _=>rfl)) (!Aj) (AC _)) (!Af (!AD (!Ba (pv 0) T.cl Dh ∅ Au (!Aa (!An Ar (pv 1) (!Ag) (λ_ _=>rfl)) (!Aa (!An Ar (pv 1) (!Ag) (λ_ _=>rfl)) (!Ab)))))) (!Af (!AJ (!Ax Ck (!An Ar (pv 1) (!Ag) (λ_ _=>rfl)) (!Aj) (AC _)) (!Af (!AD (!Ba (pv 0) T.cl C6 ∅ Au (!Aa (!An Ar (pv 1) (!Ag) (λ_ _=>rfl)) (!Aa (!An Ar (pv 1) (!Ag) (λ_ _=>rfl)) (!Aa (!An Ar (pv 1) (!Ag) (λ_ _=>rfl)) (!Aa (!An Ar (pv 1) (!Ag) (λ_ _=>rfl)) (!Aa (!An Ar (pv 1) (!Ag) (λ_ _=>rfl)) (!Ab))))))))) (!Af (!AJ (!Ax Ck (!An Ar (pv 1) (!Ag) (λ_ _=>rfl)) (!Aj) (AC _)) (!Af (!AD (!Ba (pv 0) T.cl DZ ∅ Au (!Aa (!An Ar (pv 1) (!Ag) (λ_ _=>rfl)) (!Aa (!An Ar (pv 1) (!Ag) (λ_ _=>rfl)) (!Aa (!An Ar (pv 1) (!Ag) (λ_ _=>rfl)) (!Ab))))))) (!Af (!AD (!Ba (pv 0) T.cl DV ∅ Au (!Aa (!An Ar (pv 1) (!Ag) (λ_ _=>rfl)) (!Aa (!An Ar (pv 1) (!Ag) (λ_ _=>rfl)) (!Aa (!An Ar (pv 1) (!Ag) (λ_ _=>rfl)) (!Aa (!An Ar (pv 1) (!Ag) (λ_ _=>rfl)) (!Ab)))))))))))))))))),?_⟩
 try dsimp only[A4,Cx.nox,Cx.wish]
 obtain⟨ag,qs,ps,⟨dx,h,k,n,hx,hd⟩,_⟩:=hw.at_;cases d with
 |wr sm P c=>
  refine⟨_,rfl,r,_,_,_,rfl,rfl,AW.of hr9,Ah (j:=0) rfl,rfl,_,rfl,AG rfl ?_⟩;exact⟨_,rfl,x,dx,_,rfl,hx,rfl,_,rfl,r,_,_,_,rfl,rfl,AW.of hr9,Ah (j:=1) rfl,_,rfl,r,_,_,_,rfl,rfl,AW.of hr9,Ah (j:=2) rfl,_,rfl,r,_,_,_,rfl,rfl,AW.of hr9,Ah (j:=3) rfl,x,sm,c,P,t,ks,gs,rfl,ok.1.1,(by have:=ok.1.2;omega),(by have:=ok.2;omega),hw,mg9,tb,q⟩
 |fo sm P=>
  refine⟨_,rfl,r,_,_,_,rfl,rfl,AW.of hr9,Ah (j:=0) rfl,rfl,_,rfl,As (by decide +kernel) ?_⟩;refine⟨_,rfl,r,_,_,_,rfl,rfl,AW.of hr9,Ah (j:=0) rfl,rfl,_,rfl,AG rfl ?_⟩;exact⟨_,rfl,x,dx,_,rfl,hx,rfl,_,rfl,r,_,_,_,rfl,rfl,AW.of hr9,Ah (j:=1) rfl,_,rfl,r,_,_,_,rfl,rfl,AW.of hr9,Ah (j:=2) rfl,x,sm,P,t,ks,gs,rfl,ok.1,(by have:=ok.2;omega),hw,mg9,tb,q⟩
 |rm sm P=>
  refine⟨_,rfl,r,_,_,_,rfl,rfl,AW.of hr9,Ah (j:=0) rfl,rfl,_,rfl,As (by decide +kernel) ?_⟩;refine⟨_,rfl,r,_,_,_,rfl,rfl,AW.of hr9,Ah (j:=0) rfl,rfl,_,rfl,As (by decide +kernel) ?_⟩;refine⟨_,rfl,r,_,_,_,rfl,rfl,AW.of hr9,Ah (j:=0) rfl,rfl,_,rfl,AG rfl ?_⟩;exact⟨_,rfl,x,dx,_,rfl,hx,rfl,_,rfl,r,_,_,_,rfl,rfl,AW.of hr9,Ah (j:=1) rfl,_,rfl,r,_,_,_,rfl,rfl,AW.of hr9,Ah (j:=2) rfl,x,sm,P,t,ks,gs,rfl,ok.1,hw,mg9,tb,q⟩
 |sp sm P a m z=>
  refine⟨_,rfl,r,_,_,_,rfl,rfl,AW.of hr9,Ah (j:=0) rfl,rfl,_,rfl,As (by decide +kernel) ?_⟩;refine⟨_,rfl,r,_,_,_,rfl,rfl,AW.of hr9,Ah (j:=0) rfl,rfl,_,rfl,As (by decide +kernel) ?_⟩;refine⟨_,rfl,r,_,_,_,rfl,rfl,AW.of hr9,Ah (j:=0) rfl,rfl,_,rfl,As (by decide +kernel) ?_⟩;refine⟨_,rfl,r,_,_,_,rfl,rfl,AW.of hr9,Ah (j:=0) rfl,rfl,_,rfl,AG rfl ?_⟩;exact⟨_,rfl,x,dx,_,rfl,hx,rfl,_,rfl,r,_,_,_,rfl,rfl,AW.of hr9,Ah (j:=1) rfl,_,rfl,r,_,_,_,rfl,rfl,AW.of hr9,Ah (j:=2) rfl,_,rfl,r,_,_,_,rfl,rfl,AW.of hr9,Ah (j:=3) rfl,_,rfl,r,_,_,_,rfl,rfl,AW.of hr9,Ah (j:=4) rfl,_,rfl,r,_,_,_,rfl,rfl,AW.of hr9,Ah (j:=5) rfl,x,sm,z,P,a,m,t,ks,gs,rfl,ok.1.1,(by have:=ok.1.2;omega),ok.2.2.2,hw,mg9,tb,q⟩
 |mv sm P R=>
  refine⟨_,rfl,r,_,_,_,rfl,rfl,AW.of hr9,Ah (j:=0) rfl,rfl,_,rfl,As (by decide +kernel) ?_⟩;refine⟨_,rfl,r,_,_,_,rfl,rfl,AW.of hr9,Ah (j:=0) rfl,rfl,_,rfl,As (by decide +kernel) ?_⟩;refine⟨_,rfl,r,_,_,_,rfl,rfl,AW.of hr9,Ah (j:=0) rfl,rfl,_,rfl,As (by decide +kernel) ?_⟩;refine⟨_,rfl,r,_,_,_,rfl,rfl,AW.of hr9,Ah (j:=0) rfl,rfl,_,rfl,As (by decide +kernel) ?_⟩;refine⟨_,rfl,r,_,_,_,rfl,rfl,AW.of hr9,Ah (j:=0) rfl,rfl,_,rfl,AG rfl ?_⟩;exact⟨_,rfl,x,dx,_,rfl,hx,rfl,_,rfl,r,_,_,_,rfl,rfl,AW.of hr9,Ah (j:=1) rfl,_,rfl,r,_,_,_,rfl,rfl,AW.of hr9,Ah (j:=2) rfl,_,rfl,r,_,_,_,rfl,rfl,AW.of hr9,Ah (j:=3) rfl,x,sm,P,R,t,ks,gs,rfl,ok.1.1,ok.2.1,(by have:=ok.2.2;omega),hw,mg9,tb,q⟩
 |cp sm R nm P=>
  obtain⟨b,mb⟩:=src;refine⟨_,rfl,r,_,_,_,rfl,rfl,AW.of hr9,Ah (j:=0) rfl,rfl,_,rfl,As (by decide +kernel) ?_⟩;refine⟨_,rfl,r,_,_,_,rfl,rfl,AW.of hr9,Ah (j:=0) rfl,rfl,_,rfl,As (by decide +kernel) ?_⟩;refine⟨_,rfl,r,_,_,_,rfl,rfl,AW.of hr9,Ah (j:=0) rfl,rfl,_,rfl,As (by decide +kernel) ?_⟩;refine⟨_,rfl,r,_,_,_,rfl,rfl,AW.of hr9,Ah (j:=0) rfl,rfl,_,rfl,As (by decide +kernel) ?_⟩;refine⟨_,rfl,r,_,_,_,rfl,rfl,AW.of hr9,Ah (j:=0) rfl,rfl,_,rfl,As (by decide +kernel) ?_⟩;exact⟨_,rfl,x,dx,_,rfl,hx,rfl,_,rfl,r,_,_,_,rfl,rfl,AW.of hr9,Ah (j:=1) rfl,_,rfl,r,_,_,_,rfl,rfl,AW.of hr9,Ah (j:=2) rfl,_,rfl,r,_,_,_,rfl,rfl,AW.of hr9,Ah (j:=3) rfl,_,rfl,r,_,_,_,rfl,rfl,AW.of hr9,Ah (j:=4) rfl,x,sm,nm,P,R,t,t2,b,ks,gs,rfl,ok.1.1,ok.2.1.1,(by have:=ok.2.1.2;omega),hw,mg9,mb,tb,q⟩
def Rf.tx:Rf->List Str
 | .noPath z=>[PySem.Str.ofString "no path",z]
 | .twice z=>[PySem.Str.ofString "twice",z]
 | .many=>[PySem.Str.ofString "too many"]
 | .noName _=>[PySem.Str.ofString "no name"]
abbrev OK:List Str:=[PySem.Str.ofString "ok"]
theorem kinds_of (T:Txt K mg C XC)(r:Rf):ExcCls K (XC r.no)/\W.kitOne K (.ref (XC r.no)) (.ref (XC 5))=some (decide (5=r.no))/\W.kitOne K (.ref (XC r.no)) (.ref (XC 1))=some (decide (1=r.no))/\W.kitOne K (.ref (XC r.no)) (.ref (XC 4))=some (decide (4=r.no))/\W.kitOne K (.ref (XC r.no)) (.ref (XC 0))=some (decide (0=r.no))/\W.kitOne K (.ref (XC r.no)) (.ref (XC 2))=some false/\W.kitOne K (.ref (XC r.no)) (.ref (XC 3))=some false/\W.kitOne K (.ref (XC r.no)) (.ref (XC 7))=some false/\W.kitOne K (.ref (XC r.no)) (.type "ValueError")=some true:=by
 cases r with
 |noName z=>exact⟨T.i_NoName.toExcCls,T.k_NoName_NoPath,T.k_NoName_Twice,T.k_NoName_TooMany,T.k_NoName_NoName,T.k_NoName_Bare,T.k_NoName_Grown,T.k_NoName_OverBound,T.k_NoName_ValueError⟩
 |twice z=>exact⟨T.i_Twice.toExcCls,T.k_Twice_NoPath,T.k_Twice_Twice,T.k_Twice_TooMany,T.k_Twice_NoName,T.k_Twice_Bare,T.k_Twice_Grown,T.k_Twice_OverBound,T.k_Twice_ValueError⟩
 |many=>exact⟨T.e_TooMany,T.k_TooMany_NoPath,T.k_TooMany_Twice,T.k_TooMany_TooMany,T.k_TooMany_NoName,T.k_TooMany_Bare,T.k_TooMany_Grown,T.k_TooMany_OverBound,T.k_TooMany_ValueError⟩
 |noPath z=>exact⟨T.i_NoPath.toExcCls,T.k_NoPath_NoPath,T.k_NoPath_Twice,T.k_NoPath_TooMany,T.k_NoPath_NoName,T.k_NoPath_Bare,T.k_NoPath_Grown,T.k_NoPath_OverBound,T.k_NoPath_ValueError⟩
theorem Xt (T:Txt K mg C XC)(r:Rf):W.exmOne K (.ref (XC r.no)) (.ref (XC 6))=some true:=by
 cases r with
 |noName z=>exact T.m_NoName_StemError
 |twice z=>exact T.m_Twice_StemError
 |many=>exact T.m_TooMany_StemError
 |noPath z=>exact T.m_NoPath_StemError
def YC (H:Hp)(d:Option Addr):Rf->Prop
 | .noPath z=>∃dx,d=some dx/\H dx=some (.xd [("path",.str z)])
 | .twice z=>∃dx,d=some dx/\H dx=some (.xd [("name",.str z)])
 |_=>True
theorem Wi {XC:Nat->Addr}{PT PU:Addr}{H0:Hp}{E:Value->Option Addr->Hp->Prop}{r:Rf}(hs:∀(dxo:Option Addr) (H2:Hp),St H0 H2->Tb PT PU H2->YC H2 dxo r->E (.ref (XC r.no)) dxo H2) :
  ∀H',St H0 H'->Tb PT PU H'->Ex XC E H' r:=by
 intro H1 S1 T1;cases r with
 |noName z=>exact λdx nd=>hs _ _ (S1.trans (AE (Ae nd _))) (T1.same (Ae nd _)) trivial
 |twice z=>exact λdx nd=>hs _ _ (S1.trans (AE (Ae nd _))) (T1.same (Ae nd _)) ⟨dx,rfl,Ac⟩
 |noPath z=>exact λdx nd=>hs _ _ (S1.trans (AE (Ae nd _))) (T1.same (Ae nd _)) ⟨dx,rfl,Ac⟩
 |many=>exact hs none _ S1 T1 trivial
def Km (K:W.Frag)(C:Addr)(PT PU:Addr):Sp:=λvs H Q _=>∃(x r:Addr) (d:Dd) (t t2:AM) (ks:List Str) (gs:List Gs),vs=[.ref x,.ref r]/\H r=some (.tup d.items)/\d.Ok/\HW C H x ks gs/\(d.sm,true,t)∈gs/\d.Src gs t2/\Tb PT PU H/\
 (∀e,MY (d.f t t2)=.inl e->∀p H',St H H'->Tb PT PU H'->H' p=some (.tup (e.tx.map V.str))->Q (.ref p) H')/\
 (∀t',MY (d.f t t2)=.inr t'->∀p H',KH x H H'->Tb PT PU H'->HW C H' x ks (setG d.sm t' gs)->H' p=some (.tup (OK.map V.str))->Q (.ref p) H')
theorem O2 (T:Txt K mg C XC)(F:Fun K "_law_word" "_law_word" HV f fd)(DC:CY P w K mg base 8 "_law_done" ["_law_house","_law_deed_here"] (Gx K C XC PT PU)):FnOk P w K mg base Ef 9 f fd ["_law_house","_law_deed_here"] (Km K C PT PU):=by
 exists EZ
 ·obtain⟨x,r,d,t,t2,ks,gs,rfl,_⟩:=h;rfl
 obtain⟨x,r,d,t,t2,ks,gs,rfl,hr9,ok,hw,mg9,src,tb,q1,q2⟩:=h;refine⟨_,(!Ad (@ND _ _ _ _ _ _ _ _ _ _ _ (2) _ _ _ ⟨rfl,rfl⟩ T.x_StemError rfl EZ.nd rfl rfl (!Px (!Qi (!VH DC ∅ rfl (!Aa (pv 0) (!Aa (pv 1) (!Ab)))))) (!Ao) (λea=>(!Ad (@Av _ _ (3) _ _ _ _ EZ.nd rfl ∅ (!Bk (!Aa (!AA (Cv (K:=K) (by rfl)) (by rfl) T.b_isinstance AF (!Aa (pv 2) (!Aa (!GA rfl T.x_NoPath) (!Ab)))) (!Aa (!AA (Cv (K:=K) (by rfl)) (by rfl) T.b_isinstance AF (!Aa (pv 2) (!Aa (!GA rfl T.x_Twice) (!Ab)))) (!Aa (!AA (Cv (K:=K) (by rfl)) (by rfl) T.b_isinstance AF (!Aa (pv 2) (!Aa (!GA rfl T.x_TooMany) (!Ab)))) (!Aa (!AA (Cv (K:=K) (by rfl)) (by rfl) T.b_isinstance AF (!Aa (pv 2) (!Aa (!GA rfl T.x_NoName) (!Ab)))) (!Ab)))))) (by rfl) ∅) (!Ad (@Av _ _ (3) _ _ _ _ EZ.nd rfl ∅ (!Ay LH (pv 3) (!Bk (!Aa (!RY (!AA (Cv (K:=K) (by rfl)) (by rfl) T.b_isinstance AF (!Aa (pv 2) (!Aa (!GA rfl T.x_Bare) (!Ab)))) (!RY (!AA (Cv (K:=K) (by rfl)) (by rfl) T.b_isinstance AF (!Aa (pv 2) (!Aa (!GA rfl T.x_Grown) (!Ab)))) (!Mj (!AA (Cv (K:=K) (by rfl)) (by rfl) T.b_isinstance AF (!Aa (pv 2) (!Aa (!GA rfl T.x_OverBound) (!Ab))))))) (!Ab)))) (by rfl) ∅) (!Ad (!AJ (@PW.pt _ _ _ (!D1 (!Ax JO (@Ml _ (K) _ _ _ _ _ _ _ _ _ _ _ rfl a7 gQ gO (Oh (K:=K) (by rfl)) (pv 3) (!Aa (!G5) (!Ab)) (by rfl) (by rfl) (by rfl) (by rfl) (by rfl)) (!Ag) (AC _)) (!CM (!Cg (!Bq (!AA (Cv (K:=K) (by rfl)) (by rfl) T.b_isinstance AF (!Aa (pv 2) (!Aa (!Gf rfl T.b_ValueError M6) (!Ab)))) (by intro _;rfl)))))) (!Af (!Aq (!Az (!Aa (!Aj) (!Ab))))) (!Ao)) (!Ad (!AJ (!Bq (!AA (Cv (K:=K) (by rfl)) (by rfl) T.b_isinstance AF (!Aa (pv 2) (!Aa (!GA rfl T.x_NoPath) (!Ab)))) (by intro _;rfl)) (!Af (!Aq (!Az (!Aa (!Aj) (!Aa (@ON _ (K) (by rfl) _ _ _ _ (pv 2) rfl) (!Ab)))))) (!Ao)) (!Ad (!AJ (!Bq (!AA (Cv (K:=K) (by rfl)) (by rfl) T.b_isinstance AF (!Aa (pv 2) (!Aa (!GA rfl T.x_Twice) (!Ab)))) (by intro _;rfl)) (!Af (!Aq (!Az (!Aa (!Aj) (!Aa (@ON _ (K) (by rfl) _ _ _ _ (pv 2) rfl) (!Ab)))))) (!Ao)) (!Af (!Aq (!Az (!Aa (!An AI (!Bk (!Aa (!Aj) (!Aa (!Aj) (!Aa (!Aj) (!Aa (!Aj) (!Aa (!Aj) (!Ab))))))) (@Ml _ (K) _ _ _ _ _ _ _ _ _ _ _ rfl a7 PySem.F.slot_list_index PySem.F.type_list_index (SI (K:=K) (by rfl)) (pv 3) (!Aa (!G5) (!Ab)) (by rfl) (by rfl) (by rfl) (by rfl) (by rfl)) (λ_ _=>rfl)) (!Ab))))))))))) (by decide)) (!Af (!Aq (!Az (!Aa (!Aj) (!Ab)))))),?_⟩
 try dsimp only[A4,Cx.nox,Cx.wish]
 refine⟨_,rfl,_,rfl,x,r,d,t,t2,ks,gs,rfl,hr9,ok,hw,mg9,src,tb,λe he=>Wi λdxo H2 S2 T2 fo=>?_,λt' ht H' k' T' h'=>?_⟩
 ·refine⟨Xt T e,_,rfl,λea ne=>?_⟩;obtain⟨ec,k5,k1,k4,k0,k2,k3,k7,kv⟩:=kinds_of T e;have q1:=q1 e he;obtain⟨D,eD⟩:∃D,D=XC e.no:=⟨_,rfl⟩
  rw[<-eD] at ec k5 k1 k4 k0 k2 k3 k7 kv ⊢;have s3:=Ae ne (J2 ea D dxo);have he3:(upd H2 ea (J2 ea D dxo)) ea=some (J2 ea D dxo):=Ac;generalize upd H2 ea (J2 ea D dxo)=H3 at s3 he3;refine Ap λN eN=>?_
  refine⟨_,rfl,ea,_,dxo,_,_,_,rfl,he3,ec,(λu h=>h),k5,_,rfl,ea,_,dxo,_,_,_,rfl,he3,ec,(λu h=>h),k1,_,rfl,ea,_,dxo,_,_,_,rfl,he3,ec,(λu h=>h),k4,_,rfl,ea,_,dxo,_,_,_,rfl,he3,ec,(λu h=>h),k0,Nv,λl0 n0=>?_⟩;obtain⟨xs,ex⟩:∃xs,xs=[V.bl (decide (5=e.no)),V.bl (decide (1=e.no)),V.bl (decide (4=e.no)),V.bl (decide (0=e.no))]:=⟨_,rfl⟩
  rw[<-ex];have s4:=Ae n0 (.lst xs);have h4:(upd H3 l0 (.lst xs)) l0=some (.lst xs):=Ac;have he4:=s4.get he3;generalize upd H3 l0 (.lst xs)=H4 at s4 h4 he4;subst eN
  try dsimp only[AU]
  refine Ap λN eN=>?_
  refine⟨_,rfl,_,rfl,ea,_,dxo,_,_,_,rfl,he4,ec,(λu h=>h),k2,_,rfl,As rfl ⟨_,rfl,ea,_,dxo,_,_,_,rfl,he4,ec,(λu h=>h),k3,_,rfl,As rfl ⟨_,rfl,ea,_,dxo,_,_,_,rfl,he4,ec,(λu h=>h),k7,CH,λl1 n1=>?_⟩⟩⟩;have s5:=Ae n1 (.lst [V.bl false]);have h5:(upd H4 l1 (.lst [V.bl false])) l1=some (.lst [V.bl false]):=Ac;generalize upd H4 l1 (.lst [V.bl false])=H5 at s5 h5;refine⟨l0,l1,_,_,rfl,rfl,AV.of (s5.get h4),AV.of h5,small (by rw[ex];show 5<=1000000;decide),λl2 n2=>?_⟩;obtain⟨ys,ey⟩:∃ys,ys=xs++[V.bl false]:=⟨_,rfl⟩
  rw[<-ey];rw[ex] at ey;have s6:=Ae n2 (.lst ys);have h6:(upd H5 l2 (.lst ys)) l2=some (.lst ys):=Ac;have he6:=s6.get (s5.get he4);generalize upd H5 l2 (.lst ys)=H6 at s6 h6 he6;have S26:=((s3.trans s4).trans s5).trans s6;subst eN
  try dsimp only[AU]
  refine Ap λN eN=>?_
  have cnt:ys.countP (λx=>Ko x (V.bl true))=1:=by rw[ey];cases e<;>rfl
  refine⟨_,rfl,.inl ⟨rfl,_,AV.of h6⟩,l2,ys,.bl true,rfl,rfl,AV.of h6,(by rw[ey];cases e<;>rfl),rfl,?_⟩;rw[cnt];refine⟨rfl,_,rfl,As rfl ⟨_,rfl,ea,_,dxo,_,_,_,rfl,he6,ec,(λu h=>h),kv,_,rfl,As rfl ?_⟩⟩;subst eN
  try dsimp only[AZ]
  subst eD;have fin:∀p H7,Aw H6 H7->H7 p=some (.tup (e.tx.map V.str))->Q (.ref p) H7:=λp H7 s7 h7=>q1 p H7 (S2.trans (AE (S26.trans s7))) (T2.same (S26.trans s7)) h7
  cases e with
  |noPath z=>
   obtain⟨dx,rfl,hdx⟩:=fo;refine⟨_,rfl,ea,_,some dx,_,_,_,rfl,he6,ec,(λu h=>h),k5,_,rfl,AG rfl ⟨_,rfl,ea,_,dx,_,.str z,rfl,he6,T.i_NoPath,T.f_NoPath,S26.get hdx,(by rw[dy]),Bs,λp np=>fin p _ (Ae np _) Ac⟩⟩
  |twice z=>
   obtain⟨dx,rfl,hdx⟩:=fo;refine⟨_,rfl,ea,_,some dx,_,_,_,rfl,he6,ec,(λu h=>h),k5,_,rfl,As rfl ⟨_,rfl,ea,_,some dx,_,_,_,rfl,he6,ec,(λu h=>h),k1,_,rfl,AG rfl ⟨_,rfl,ea,_,dx,_,.str z,rfl,he6,T.i_Twice,T.f_Twice,S26.get hdx,(by rw[dy]),Bs,λp np=>fin p _ (Ae np _) Ac⟩⟩⟩
  |many=>
   refine⟨_,rfl,ea,_,dxo,_,_,_,rfl,he6,ec,(λu h=>h),k5,_,rfl,As rfl ⟨_,rfl,ea,_,dxo,_,_,_,rfl,he6,ec,(λu h=>h),k1,_,rfl,As rfl ⟨T9,λl3 n3=>?_⟩⟩⟩;have s7:=Ae n3 (.lst [V.str (PySem.Str.ofString ""),V.str (PySem.Str.ofString ""),V.str (PySem.Str.ofString "too many"),V.str (PySem.Str.ofString "no name"),V.str (PySem.Str.ofString "other")]);refine⟨_,rfl,.inl ⟨rfl,_,AV.of (s7.get h6)⟩,l2,ys,.bl true,2,rfl,rfl,AV.of (s7.get h6),(by rw[ey];rfl),rfl,(by rw[ey];exact bE rfl),⟨.bl true,by rw[ey];rfl,rfl⟩,(λm z hm hz=>?_),l3,_,_,_,rfl,rfl,AV.of Ac,Ah (j:=2) rfl,CH,λp np=>fin p _ (s7.trans (Ae np _)) Ac⟩;rw[ey] at hz
   match m,hm,hz with
   |0,_,hz=>cases hz;rfl
   |1,_,hz=>cases hz;rfl
  |noName z=>
   refine⟨_,rfl,ea,_,dxo,_,_,_,rfl,he6,ec,(λu h=>h),k5,_,rfl,As rfl ⟨_,rfl,ea,_,dxo,_,_,_,rfl,he6,ec,(λu h=>h),k1,_,rfl,As rfl ⟨T9,λl3 n3=>?_⟩⟩⟩;have s7:=Ae n3 (.lst [V.str (PySem.Str.ofString ""),V.str (PySem.Str.ofString ""),V.str (PySem.Str.ofString "too many"),V.str (PySem.Str.ofString "no name"),V.str (PySem.Str.ofString "other")]);refine⟨_,rfl,.inl ⟨rfl,_,AV.of (s7.get h6)⟩,l2,ys,.bl true,3,rfl,rfl,AV.of (s7.get h6),(by rw[ey];rfl),rfl,(by rw[ey];exact bE rfl),⟨.bl true,by rw[ey];rfl,rfl⟩,(λm z hm hz=>?_),l3,_,_,_,rfl,rfl,AV.of Ac,Ah (j:=3) rfl,CH,λp np=>fin p _ (s7.trans (Ae np _)) Ac⟩;rw[ey] at hz
   match m,hm,hz with
   |0,_,hz=>cases hz;rfl
   |1,_,hz=>cases hz;rfl
   |2,_,hz=>cases hz;rfl
 ·exact⟨CH,λp np=>q2 t' ht p _ (k'.trans (h'.kh (AE (Ae np _)))) (T'.same (Ae np _)) (h'.st (AE (Ae np _))) Ac⟩
def FD (K:W.Frag)(C:Addr):Sp:=λvs H Q _=>∃(x:Addr) (nm:Str) (P:List Str) (t:AM) (b:Bool) (ks:List Str) (gs:List Gs),vs=[.ref x,.str nm,.str (jn P)]/\HW C H x ks gs/\CP P/\(nm,b,t)∈gs/\(∀c,lk t P≠some (some c))/\∀H',Aw H H'->Q (.bl true) H'
theorem Kb (T:Txt K mg C XC)(F:Fun K "_law_is_unread" "_law_is_unread" D9 f fd)(BL:BI P w K mg base 5 C "read" ["self","name","path"] (Dt K C XC)):FnOk P w K mg base Ef 6 f fd ["_law_house","_law_name","_law_path_here"] (FD K C):=by
 exists CF
 ·obtain⟨x,nm,P,t,b,ks,gs,rfl,_⟩:=h;rfl
 obtain⟨x,nm,P,t,b,ks,gs,rfl,hw,vP,mg9,no,q⟩:=h;have hu:=C4 hr;refine⟨_,(!Ad (@Av _ _ (3) _ _ _ _ CF.nd rfl ∅ (!Aj) (by rfl) ∅) (!Ad (@ND _ _ _ _ _ _ _ _ _ _ _ (4) _ _ _ ⟨rfl,rfl⟩ T.x_NoPath rfl CF.nd rfl rfl (!Px (!Qi (!UN (pv 0) T.cl BL ∅ (!Aa (pv 1) (!Aa (pv 2) (!Ab)))))) (!Ao) (λea=>(!Af (@Av _ _ (3) _ _ _ _ CF.nd rfl ∅ (!Bk (!Aa (!Aj) (!Aa (@ON _ (K) (by rfl) _ _ _ _ (pv 4) rfl) (!Ab)))) (by rfl) ∅))) (by decide)) (!Af (!Aq (!Ej (Uq hu) (pv 3) (!Bk (!Aa (!Aj) (!Aa (pv 2) (!Ab)))) (AC _)))))),?_⟩
 try dsimp only[A4,Cx.nox,Cx.wish]
 obtain⟨ag,qs,ps,⟨dx,h,k,n,hx,hd⟩,_⟩:=hw.at_;refine⟨_,rfl,x,dx,_,rfl,hx,rfl,_,rfl,_,rfl,x,nm,P,t,b,ks,gs,rfl,hw,vP,mg9,λc e=>absurd e (no c),λ_=>?_⟩;refine λdx nd=>⟨T.m_NoPath_NoPath,_,rfl,λea ne=>?_⟩
 have s1:=Ae nd (.xd [("path",.str (jn P))]);have h1:(upd H dx (.xd [("path",.str (jn P))])) dx=some (.xd [("path",.str (jn P))]):=Ac;generalize upd H dx (.xd [("path",.str (jn P))])=H1 at s1 h1 ne;have s2:=Ae ne (J2 ea (XC 5) (some dx));have h2:(upd H1 ea (J2 ea (XC 5) (some dx))) ea=some (J2 ea (XC 5) (some dx)):=Ac;generalize upd H1 ea (J2 ea (XC 5) (some dx))=H2 at s2 h2;refine⟨_,rfl,ea,_,dx,_,.str (jn P),rfl,h2,T.i_NoPath,T.f_NoPath,s2.get h1,(by rw[dy]),Bs,λl1 n1=>?_⟩;have s3:=Ae n1 (.lst [V.str (PySem.Str.ofString "no path"),V.str (jn P)]);have h3:(upd H2 l1 (.lst [V.str (PySem.Str.ofString "no path"),V.str (jn P)])) l1=some (.lst [V.str (PySem.Str.ofString "no path"),V.str (jn P)]):=Ac;generalize upd H2 l1 (.lst [V.str (PySem.Str.ofString "no path"),V.str (jn P)])=H3 at s3 h3;refine⟨_,rfl,_,rfl,Bs,λl2 n2=>?_⟩;have s4:=Ae n2 (.lst [V.str (PySem.Str.ofString "no path"),V.str (jn P)]);have h4:(upd H3 l2 (.lst [V.str (PySem.Str.ofString "no path"),V.str (jn P)])) l2=some (.lst [V.str (PySem.Str.ofString "no path"),V.str (jn P)]):=Ac;generalize upd H3 l2 (.lst [V.str (PySem.Str.ofString "no path"),V.str (jn P)])=H4 at s4 h4;refine⟨l1,l2,_,_,rfl,rfl,AV.of (s4.get h3),AV.of h4,rfl,rfl,?_⟩;show Q (.bl (decide ([V.str (PySem.Str.ofString "no path"),V.str (jn P)]=[V.str (PySem.Str.ofString "no path"),V.str (jn P)]))) H4;rw[av rfl];exact q H4 (((s1.trans s2).trans s3).trans s4)
abbrev G:=List Str->Option (Option Str)
def gF (ch:List (Str×V×G×(Addr->Prop))):G
 |[]=>some none
 |s::R=>match ch.find? λx=>decide (x.1=s) with
  |none=>none
  |some x=>x.2.2.1 R
def gC (c:Str):G:=λP=>if P=[] then some (some c) else none
inductive NAt (H:Hp):V->G->(Addr->Prop)->Prop where
 |file (c:Str):NAt H (.str c) (gC c) (λ_=>False)
 |fold (d:Addr) (ch:List (Str×V×G×(Addr->Prop))):H d=some (.dK (ch.map λx=>((.inr x.1:Key),x.2.1)))->(ch.map (·.1)).Nodup->(∀x∈ch,NAt H x.2.1 x.2.2.1 x.2.2.2)->(∀x∈ch,¬x.2.2.2 d)->(∀x∈ch,Bh (.str x.1)=true)->NAt H (.ref d) (gF ch) (λa=>a=d\/∃x∈ch,x.2.2.2 a)
theorem NAt.there {H:Hp}{v:V}{g:G}{S:Addr->Prop}(h:NAt H v g S):∀a,S a->∃kvs,H a=some (.dK kvs):=by
 induction h with
 |file c=>exact λ_ h=>h.elim
 |fold d ch hd _ _ _ _ ih=>
  rintro a (rfl|⟨x,hx,hs⟩)
  ·exact⟨_,hd⟩
  ·exact ih x hx a hs
theorem NAt.keep {H H':Hp}{v:V}{g:G}{S:Addr->Prop}(h:NAt H v g S)(k:∀a kvs,S a->H a=some (.dK kvs)->H' a=some (.dK kvs)):NAt H' v g S:=by
 induction h with
 |file c=>exact .file c
 |fold d ch hd nd _ no nb ih=>exact .fold d ch (k d _ (.inl rfl) hd) nd (λx hx=>ih x hx λa kvs hs=>k a kvs (.inr ⟨x,hx,hs⟩)) no nb
theorem NAt.same {H H':Hp}{v:V}{g:G}{S:Addr->Prop}(h:NAt H v g S)(s:Aw H H'):NAt H' v g S:=h.keep λa _ _ e=>s.get e
theorem NAt.gv {H:Hp}{v:V}{g:G}{S:Addr->Prop}(h:NAt H v g S):(∃c,v=.str c/\g=gC c)\/∃d ch,v=.ref d/\g=gF ch/\H d=some (.dK (ch.map λx=>((.inr x.1:Key),x.2.1))):=by
 cases h with
 |file c=>exact .inl ⟨c,rfl,rfl⟩
 |fold d ch hd _ _ _ _=>exact .inr ⟨d,ch,rfl,rfl,hd⟩
theorem Ox {ch:List (Str×V×G×(Addr->Prop))}{s:Str}:F5 (ch.map λx=>((.inr x.1:Key),x.2.1)) (.inr s)=(ch.find? λx=>decide (x.1=s)).map (·.2.1):=by
 induction ch with
 |nil=>rfl
 |cons x ch ih=>
  rw[aF,bK]
  by_cases c:x.1=s
  ·rw[av c];exact CL (by show(Sum.inr x.1:Key)=_;rw[c])
  ·rw[aq c];exact(CU (show(Sum.inr x.1:Key)≠.inr s from λe=>c (bq e))).trans ih
theorem GQ {ch:List (Str×V×G×(Addr->Prop))}{s:Str}{x:Str×V×G×(Addr->Prop)}(h:(ch.find? λx=>decide (x.1=s))=some x):x∈ch/\x.1=s:=⟨cW h,aE (eU (p:=λx:Str×V×G×(Addr->Prop)=>decide (x.1=s)) h)⟩
theorem Q9 (K:W.Frag):W.kitOne K (.type "dict") (.type "dict")=some true:=MH (by decide +kernel) K
theorem Rc (K:W.Frag):W.kitOne K (.type "str") (.type "dict")=some false:=MH (by decide +kernel) K
def VG:V->Bool
 | .ref _=>true
 |_=>false
theorem HJ {H:Hp}{v:V}{g:G}{S:Addr->Prop}(h:NAt H v g S)(K:W.Frag):∃t,TyOf K H v t/\W.kitOne K t (.type "dict")=some (VG v)/\VG v=decide (g []=some none):=by
 rcases h.gv with⟨c,rfl,rfl⟩|⟨d,ch,rfl,rfl,hd⟩
 ·exact⟨_,.str c,Rc K,rfl⟩
 ·exact⟨_,.dK hd,Q9 K,rfl⟩
def CA (K:W.Frag):Sp:=λvs H Q _=>∃P:List Str,vs=[.str (jn P)]/\CP P/\(jn P).length<=1000/\(Gp P->∀l H',Aw H H'->H' l=some (.lst (P.map V.str))->Q (.ref l) H')/\(¬Gp P->∀H',Aw H H'->Q .non H')
theorem Nq (T:Txt K mg C XC)(F:Fun K "_law_steps" "_law_steps" GH f fd):FnOk P w K mg base Ef 1 f fd ["_law_path_here"] (CA K):=by
 exists Eo
 ·obtain⟨P,rfl,_⟩:=h;rfl
 obtain⟨P,rfl,vp,l1,q,qn⟩:=h;have hu:=C4 hr;refine⟨_,(!Ad (!AJ (!Ax Ck (pv 0) (!Aj) (AC _)) (!Af (!Aq (!Bk (!Ab)))) (!Ao)) (!Ad (@Av _ _ (1) _ _ _ _ Eo.nd rfl ∅ (!Dm bz gZ gX Qn (pv 0) (!Aa (!Aj) (!Ab))) (by rfl) ∅) (!Ad (@Av _ _ (2) _ _ _ _ Eo.nd rfl ∅ (!Aj) (by rfl) ∅) (!Ad (!CQ bJ rfl (!Cb (pv 1)) (@AK _ _ (3) _ Eo.nd rfl ∅ ∅) (!Af (!AJ (@PW.pt _ _ _ (!D1 (!Cg (!MU Ms Ms (!Ag) (!AA DW (by rfl) T.b_len CO (!Aa (pv 3) (!Ab))) (!Ag) (by with_unfolding_all rfl))) (!CM (!Ax (UJ hu) (@Gw _ ["_law_sign","_law_signs"] [none,some 2] _ _ _ _ _ _ _ _ _ _ _ rfl (!Q3 (pv 3)) (by rfl) rfl (by repeat (first|exact trivial|refine⟨rfl,?_⟩)) (by repeat (first|exact trivial|refine⟨λh=>(by first|exact⟨_,rfl⟩|cases h),?_⟩)) (λC s H fp=>⟨(@AK _ _ (0) _ (show(["_law_sign","_law_signs"]:List Str).Nodup by decide +kernel) rfl ∅ ∅),(!JL (!Ax Oz (pv 0) (pv 1))),(pv 0)⟩) (by intro _;rfl)) (!Bk (!Ab)) (AC _))))) (!Af (!Aq (!Ig))) (!Ao))) (by intro _;rfl)) (!Af (!Aq (!An AI (!Bk (!Aa (pv 1) (!Aa (!Ig) (!Ab)))) (!Cy KU (by rfl) T.b_int Ry (!Aa (!Ej IQ (!AA BQ (by rfl) T.b_len CO (!Aa (pv 1) (!Ab))) (!Ag) (AC _)) (!Ab))) (λ_ _=>rfl)))))))),?_⟩
 try dsimp only[A4,Cx.nox,Cx.wish]
 by_cases e:P=[]
 ·subst e;refine⟨_,rfl,rfl,_,rfl,AG (av rfl) ⟨MT,λl hl=>q ⟨(λ_ h=>nomatch h),by decide⟩ l _ (Ae hl _) Ac⟩⟩
 refine⟨_,rfl,rfl,_,rfl,As (aq λz=>Lk e vp (V.str.inj z)) ?_⟩;have lp:=Og P;refine⟨_,rfl,rfl,jn P,SL,rfl,rfl,rfl,by omega,λp hp=>?_⟩;rw[JU e vp];have s1:=Ae hp (.lst (P.map V.str));have h1:(upd H p (.lst (P.map V.str))) p=some (.lst (P.map V.str)):=Ac;generalize upd H p (.lst (P.map V.str))=H1 at s1 h1;dsimp only[AU];refine⟨_,rfl,p,rfl,⟨_,AV.of h1⟩,Dj (K:=K) (a:=p) (xs:=P.map V.str) (λi σ H2=>Aw H1 H2/\(∃v,σ=[some (.str (jn P)),some (.ref p),some (.str LN),v])/\∀z∈P.take i,Bh (.str z)=true) ⟨.refl _,⟨none,rfl⟩,λ_ h=>nomatch h⟩ (λi σ H2 _ ⟨s2,_⟩=>AV.of (s2.get h1)) ?_ ?_⟩
 ·rintro i x σ H2 ex ⟨s2,⟨v,rfl⟩,ok⟩
  rw[aD] at ex;obtain⟨z,ez,rfl⟩:=aU.mp ex;have hz:=aN ez;have lz:=Ql hz;have zl:=A3 z;have hn:Bh (.str z)=(decide ((1:Int)<=z.length)&&decide ((z.length:Int)<=8)&&Cs LN z):=rfl;have bad:Bh (.str z)=false->∀H3,Aw H2 H3->Q .non H3:=λh H3 s3=>qn (λg=>by rw[g.1 z hz] at h;cases h) H3 ((s1.trans s2).trans s3)
  have good:Bh (.str z)=true->∀y∈P.take (i+1),Bh (.str y)=true:=λh y hy=>by
   rw[bG,ez] at hy;rcases aK.mp hy with hy|hy
   ·exact ok y hy
   ·rw[ah.mp hy];exact h
  refine⟨_,rfl,z,rfl,small (by omega),_,_,rfl,rfl,_,rfl,DQ (λc=>?_) (λc=>?_)⟩
  ·rw[c] at hn;refine⟨_,_,rfl,rfl,_,rfl,?_⟩;cases d:decide ((z.length:Int)<=8) with
   |true=>
    rw[d] at hn;refine As rfl ⟨_,rfl,z,rfl,?_⟩;refine Eh (ps:=AQ z) (λc=>!decide (c∈AQ LN)) (λc=>V.str ⟨#[c]⟩) Mm (aX (eM zl) (by omega)) (λx hx H' R s' hR=>?_) (λx hx _ H' R s' hR=>⟨_,rfl,hR H' (Aw.refl _)⟩) λl H7 n7 s7 h7=>?_
    ·refine⟨_,rfl,_,rfl,_,_,rfl,rfl,_,rfl,?_⟩;have e:=gM LN x;have hR':R (!(!(Builtin.Str.occurrences LN ⟨#[x]⟩ 0 LN.length 1).isEmpty)) H':=by rw[e];exact hR
     exact hR'
    ·refine⟨MT,λp np=>?_⟩;have s8:=Ae np (.lst []);refine⟨l,p,_,_,rfl,rfl,AV.of (s8.get h7),AV.of Ac,?_,rfl,_,rfl,?_⟩
     ·rw[cB];exact a5.mpr λ_ _=>rfl
     ·have e:(!decide (((AQ z).filter λc=>!decide (c∈AQ LN)).map (λc=>V.str ⟨#[c]⟩)=[])) = !Bh (.str z):=by
       rw[hn];unfold Cs;rw[cn,Bool.not_eq_true',Bool.not_eq_true',Bool.true_and,Bool.true_and,decide_eq_false_iff_not,<-Bool.not_eq_true,a5,cJ,cA];exact⟨λh g=>h λc hc=>by rw[g c hc];exact ay,λh g=>h λc hc=>by simpa using g c hc⟩
      show(if(!decide (((AQ z).filter λc=>!decide (c∈AQ LN)).map (λc=>V.str ⟨#[c]⟩)=[]))=true then _ else _);rw[e];cases b:Bh (.str z) with
      |true=>exact As rfl ⟨s2.trans (s7.trans s8),⟨_,rfl⟩,good b⟩
      |false=>exact AG rfl (bad b _ (s7.trans s8))
   |false=>
    rw[d] at hn;exact AG rfl (bad hn _ (.refl _))
  ·rw[cj.mpr c] at hn;exact⟨_,rfl,AG rfl (bad hn _ (.refl _))⟩
 ·rintro σ H2 ⟨s2,⟨v,rfl⟩,ok⟩
  rw[aa,cu] at ok;refine⟨_,rfl,Bs,λl3 n3=>?_⟩;have s3:=Ae n3 (.lst [V.ref p,V.non]);have hp3:=s3.get (s2.get h1);refine⟨_,rfl,p,_,rfl,.inl (AV.of hp3),_,_,rfl,rfl,.inr ⟨_,rfl,?_⟩⟩;rw[aa]
  by_cases c:(P.length:Int)>8
  ·rw[av c];exact⟨l3,_,_,_,rfl,rfl,AV.of Ac,Ah (j:=1) rfl,qn (λg=>by have:=g.2;omega) _ ((s1.trans s2).trans s3)⟩
  ·rw[aq c];exact⟨l3,_,_,_,rfl,rfl,AV.of Ac,Ah (j:=0) rfl,q ⟨ok,by omega⟩ p _ ((s1.trans s2).trans s3) hp3⟩
theorem V9 (c s:Str)(R:List Str):gC c (s::R)=none:=rfl
theorem IG {ch:List (Str×V×G×(Addr->Prop))}{s:Str}(h:(ch.find? λx=>decide (x.1=s))=none)(R:List Str):gF ch (s::R)=none:=by
 show(match ch.find? λx=>decide (x.1=s) with|none=>none|some x=>x.2.2.1 R)=none;rw[h]
theorem E4 {ch:List (Str×V×G×(Addr->Prop))}{s:Str}{x:Str×V×G×(Addr->Prop)}(h:(ch.find? λx=>decide (x.1=s))=some x)(R:List Str):gF ch (s::R)=x.2.2.1 R:=by
 show(match ch.find? λx=>decide (x.1=s) with|none=>none|some x=>x.2.2.1 R)=_;rw[h]
theorem NAt.ch {H:Hp}{d:Addr}{g:G}{S:Addr->Prop}(h:NAt H (.ref d) g S):∃ch,H d=some (.dK (ch.map λx=>((.inr x.1:Key),x.2.1)))/\g=gF ch/\(ch.map (·.1)).Nodup/\(∀x∈ch,NAt H x.2.1 x.2.2.1 x.2.2.2)/\(∀x∈ch,¬x.2.2.2 d)/\(∀x∈ch,Bh (.str x.1)=true)/\S=(λa=>a=d\/∃x∈ch,x.2.2.2 a):=by
 cases h with
 |fold d ch hd nd hc no nb=>exact⟨ch,hd,rfl,nd,hc,no,nb,rfl⟩
theorem Vo {H:Hp}{d:Addr}{ch:List (Str×V×G×(Addr->Prop))}(h:H d=some (.dK (ch.map λx=>((.inr x.1:Key),x.2.1))))(s:Str):EO H d (.str s) ((ch.find? λx=>decide (x.1=s)).map (·.2.1)):=by
 have g:=EO.k (k:=Sum.inr s) h;rw[Ox] at g;exact g
theorem NAt.eq {H:Hp}{v:V}{g g':G}{S:Addr->Prop}(h:NAt H v g S)(e:∀P,g P=g' P):NAt H v g' S:=by
 rw[<-(funext e:g=g')];exact h
def Ec (K:W.Frag):Sp:=λvs H Q _=>∃(v:V) (g:G) (S:Addr->Prop) (P:List Str) (l:Addr),vs=[v,.ref l]/\H l=some (.lst (P.map V.str))/\NAt H v g S/\(g P=none->Q .non H)/\(∀v' S',g P≠none->NAt H v' (λR=>g (P++R)) S'->(∀a,S' a->S a)->Q v' H)
theorem Q6 (T:Txt K mg C XC)(F:Fun K "_law_at" "_law_at" Ku f fd):FnOk P w K mg base Ef 1 f fd ["_law_tree","_law_steps_here"] (Ec K):=by
 exists Jb
 ·obtain⟨v,g,S,P,l,rfl,_⟩:=h;rfl
 obtain⟨v,g,S,P,l,rfl,hl,na,q1,q2⟩:=h;have hu:=C4 hr;refine⟨_,(!Ad (!CQ bJ rfl (!Cb (pv 1)) (@AK _ _ (2) _ Jb.nd rfl ∅ ∅) (!Ad (!AJ (@PW.pt _ _ _ (!D1 (!Cg (!Bq (!AA Bv (by rfl) T.b_isinstance AF (!Aa (pv 0) (!Aa (!Gf rfl T.b_dict CD) (!Ab)))) (by intro _;rfl))) (!CM (!DT (!K4 hu (pv 2) (pv 0)) (by first|exact Bt _ (by decide) (by decide)|rfl))))) (!Af (!Aq (!Ig))) (!Ao)) (!Af (@Av _ _ (0) _ _ _ _ Jb.nd rfl ∅ (!B4 hu (pv 0) (pv 2) (λ_ _=>rfl)) (by rfl) ∅))) (by intro _;rfl)) (!Af (!Aq (pv 0)))),?_⟩
 try dsimp only[A4,Cx.nox,Cx.wish]
 refine⟨_,rfl,l,rfl,⟨_,AV.of hl⟩,Dj (K:=K) (a:=l) (xs:=P.map V.str) (λi σ H2=>H2=H/\∃(u:V) (T:Addr->Prop) (o:Option V),σ=[some u,some (.ref l),o]/\NAt H u (λR=>g (P.take i++R)) T/\(∀a,T a->S a)) ⟨rfl,v,S,none,rfl,na,λ_ h=>h⟩ (λi σ H2 _ ⟨e,_⟩=>by rw[e];exact AV.of hl) ?_ ?_⟩
 ·rintro i x σ H2 ex ⟨rfl,u,Ts,o,rfl,nu,su⟩
  rw[aD] at ex;obtain⟨z,ez,rfl⟩:=aU.mp ex;have hi:=(aA.mp ez).1;have eP:P=P.take i++z::P.drop (i+1):=by
   rw[<-(aA.mp ez).2,List.getElem_cons_drop,dw]
  have bad:g (P.take i++z::P.drop (i+1))=none->Q .non H2:=λe=>q1 (by rw[eP];exact e)
  obtain⟨t,ty,kt,_⟩:=HJ nu K;rcases nu.gv with⟨c,rfl,eg⟩|⟨d,_,rfl,_,_⟩
  ·refine⟨_,rfl,_,_,_,_,rfl,ty,kt,_,rfl,AG rfl (bad ?_)⟩;exact(congrFun eg (z::P.drop (i+1))).trans (V9 c z _)
  ·obtain⟨ch,hd,eg,nd,hc,no,nb,eS⟩:=nu.ch;have gt:=Vo hd z;refine⟨_,rfl,_,_,_,_,rfl,ty,kt,_,rfl,As rfl ?_⟩;cases ef:ch.find? λx=>decide (x.1=z) with
   |none=>
    rw[ef] at gt;exact⟨_,rfl,_,rfl,d,_,rfl,gt,_,rfl,AG rfl (bad ((congrFun eg (z::P.drop (i+1))).trans (IG ef _)))⟩
   |some x=>
    rw[ef] at gt;obtain⟨mx,_⟩:=GQ ef;refine⟨_,rfl,_,rfl,d,_,rfl,gt,_,rfl,As rfl ⟨_,rfl,_,rfl,d,_,rfl,gt,?_⟩⟩;refine⟨rfl,x.2.1,x.2.2.2,_,rfl,(hc x mx).eq λR=>?_,λa ha=>su a (by rw[eS];exact .inr ⟨x,mx,ha⟩)⟩;rw[bG,ez];show x.2.2.1 R=g (P.take i++[z]++R);rw[bI];exact((congrFun eg (z::R)).trans (E4 ef R)).symm
 ·rintro σ H2 ⟨rfl,u,Ts,o,rfl,nu,su⟩
  rw[aa,cu] at nu;refine⟨_,rfl,q2 u Ts (λe=>?_) nu su⟩;rcases nu.gv with⟨c,rfl,eg⟩|⟨d,ch,rfl,eg,_⟩
  ·have:=congrFun eg [];rw[aJ,e] at this;cases this
  ·have:=congrFun eg [];rw[aJ,e] at this;cases this
abbrev Ch:=Str×V×G×(Addr->Prop)
abbrev G9 (ch:List Ch):List (Key×V):=ch.map λx=>((.inr x.1:Key),x.2.1)
def JM (ch:List Ch)(x:Ch):List Ch:=if(ch.any λy=>decide (y.1=x.1))=true then ch.map (λy=>if y.1=x.1 then x else y) else ch++[x]
def JX (ch:List Ch)(s:Str):List Ch:=ch.filter λy=>decide (y.1≠s)
theorem W3 (ch:List Ch)(x:Ch):putK (G9 ch) (.inr x.1) x.2.1=G9 (JM ch x):=by
 unfold putK JM;have ea:(G9 ch).any (λkv=>decide (kv.1=Sum.inr x.1))=ch.any λy=>decide (y.1=x.1):=by
  rw[List.any_map]
  congr 1
  funext y
  exact cR.mpr ⟨λe=>bq e,λe=>by show(Sum.inr y.1:Key)=_;rw[e]⟩
 rw[ea]
 by_cases c:(ch.any λy=>decide (y.1=x.1))=true
 ·rw[ak c,ak c];show List.map _ (List.map _ ch)=List.map (λx:Ch=>((.inr x.1:Key),x.2.1)) (List.map _ ch);rw[az,az];refine bf λy _=>?_
  show(if(Sum.inr y.1:Key)=Sum.inr x.1 then((Sum.inr y.1:Key),x.2.1) else(Sum.inr y.1,y.2.1))=_
  by_cases d:y.1=x.1
  ·rw[ak (by rw[d])];show _=((Sum.inr (if y.1=x.1 then x else y).1:Key),(if y.1=x.1 then x else y).2.1);rw[ak d,d]
  ·rw[ai λe=>d (bq e)];show _=((Sum.inr (if y.1=x.1 then x else y).1:Key),(if y.1=x.1 then x else y).2.1);rw[ai d]
 ·rw[ai c,ai c];show _=List.map (λx:Ch=>((.inr x.1:Key),x.2.1)) (ch++[x]);rw[aO];rfl
theorem WE (ch:List Ch)(s:Str):Lf (G9 ch) (.inr s)=G9 (JX ch s):=by
 unfold Lf JX;rw[List.filter_map]
 congr 1
 refine List.filter_congr λy _=>?_
 exact cR.mpr ⟨λh e=>h (by show(Sum.inr y.1:Key)=_;rw[e]),λh e=>h (bq e)⟩
theorem J0 {ch:List Ch}{x y:Ch}(h:y∈JM ch x):y=x\/y∈ch/\y.1≠x.1:=by
 unfold JM at h
 split at h
 ·obtain⟨z,hz,e⟩:=aj.mp h
  by_cases c:z.1=x.1
  ·rw[ak c] at e;exact .inl e.symm
  ·rw[ai c] at e;exact .inr (e▸⟨hz,c⟩)
 ·next c=>
  rcases aK.mp h with h|h
  ·exact .inr ⟨h,λe=>c (bV.mpr ⟨y,h,av e⟩)⟩
  ·exact .inl (ah.mp h)
theorem Wy {ch:List Ch}{x:Ch}(h:(ch.map (·.1)).Nodup):((JM ch x).map (·.1)).Nodup:=by
 unfold JM
 split
 ·rw[az,show ch.map ((λy:Ch=>y.1)∘λy=>if y.1=x.1 then x else y)=ch.map (·.1) from bf λy _=>by
   show(if y.1=x.1 then x else y).1=y.1
   by_cases c:y.1=x.1
   ·rw[ak c];exact c.symm
   ·rw[ai c]]
  exact h
 ·next c=>
  rw[aO,dQ];refine⟨h,by simp,λa ha b hb e=>c ?_⟩;obtain⟨y,hy,rfl⟩:=aj.mp ha;rw[List.map_singleton,ah] at hb;exact bV.mpr ⟨y,hy,av (e.trans hb)⟩
theorem UC {ch:List Ch}{x:Ch}{s:Str}:(JM ch x).find? (λy=>decide (y.1=s))=if s=x.1 then some x else ch.find? λy=>decide (y.1=s):=by
 have key:∀ch:List Ch,(ch.map λy=>if y.1=x.1 then x else y).find? (λy=>decide (y.1=s))=if s=x.1 then(ch.find? λy=>decide (y.1=s)).map λ_=>x else ch.find? λy=>decide (y.1=s):=λch=>by
  induction ch with
  |nil=>by_cases c:s=x.1<;>simp[c]
  |cons y ch ih=>
   rw[aF,bK,bK,ih]
   by_cases c:s=x.1
   ·rw[ak c,ak c]
    by_cases d:y.1=x.1
    ·rw[ak d,av c.symm,av (d.trans c.symm)];rfl
    ·rw[ai d,aq λe:y.1=s=>d (e.trans c)]
   ·rw[ai c,ai c]
    by_cases d:y.1=x.1
    ·rw[ak d,aq λe:x.1=s=>c e.symm,aq λe:y.1=s=>c (e.symm.trans d)]
    ·rw[ai d]
 unfold JM
 split
 ·next h=>
  rw[key]
  by_cases c:s=x.1
  ·rw[ak c,ak c];obtain⟨y,hy,e⟩:=bV.mp h;have:(ch.find? λy=>decide (y.1=s)).isSome=true:=dR.mpr ⟨y,hy,av ((aE e).trans c.symm)⟩;cases e:ch.find? λy=>decide (y.1=s) with
   |none=>rw[e] at this;cases this
   |some z=>rfl
  ·rw[ai c,ai c]
 ·next h=>
  rw[List.find?_append]
  by_cases c:s=x.1
  ·rw[ak c,df.mpr λy hy e=>h (bV.mpr ⟨y,hy,av ((aE e).trans c)⟩),bK,av c.symm];rfl
  ·rw[ai c,bK,aq λe:x.1=s=>c e.symm];cases ch.find? λy=>decide (y.1=s)<;>rfl
theorem Rv {ch:List Ch}{s z:Str}:(JX ch s).find? (λy=>decide (y.1=z))=if z=s then none else ch.find? λy=>decide (y.1=z):=by
 unfold JX
 induction ch with
 |nil=>by_cases c:z=s<;>simp[c]
 |cons y ch ih=>
  rw[bj]
  by_cases d:y.1=s
  ·rw[ai (by simp[d]),ih,bK]
   by_cases c:z=s
   ·rw[ak c,ak c]
   ·rw[ai c,ai c,aq λe:y.1=z=>c (e.symm.trans d)]
  ·rw[ak (by simp[d]),bK,bK,ih]
   by_cases c:z=s
   ·rw[ak c,aq λe:y.1=z=>d (e.trans c),ak c]
   ·rw[ai c,ai c]
def NA (n:Option G):G->List Str->G
 |_,[]=>(match n with|some n=>n|none=>λ_=>none)
 |g,s::P=>λQ=>match Q with
  |[]=>g []
  |z::R=>if z=s then NA n (λR=>g (s::R)) P R else g (z::R)
theorem XU (ch:List Ch)(x:Ch)(Q:List Str):gF (JM ch x) Q=match Q with|[]=>some none|z::R=>if z=x.1 then x.2.2.1 R else gF ch (z::R):=by
 cases Q with
 |nil=>rfl
 |cons z R=>
  show(match(JM ch x).find? λy=>decide (y.1=z) with|none=>none|some x=>x.2.2.1 R)=_;rw[UC]
  by_cases c:z=x.1
  ·rw[ak c];exact(ak c).symm
  ·rw[ai c];exact(ai c).symm
theorem WD (ch:List Ch)(s:Str)(Q:List Str):gF (JX ch s) Q=match Q with|[]=>some none|z::R=>if z=s then none else gF ch (z::R):=by
 cases Q with
 |nil=>rfl
 |cons z R=>
  show(match(JX ch s).find? λy=>decide (y.1=z) with|none=>none|some x=>x.2.2.1 R)=_;rw[Rv]
  by_cases c:z=s
  ·rw[ak c];exact(ak c).symm
  ·rw[ai c];exact(ai c).symm
def Bd (g:G):Prop:=∀L:List (List Str),L.Nodup->(∀P∈L,g P≠none)->L.length<=400
theorem Bd.ch {H:Hp}{ch:List Ch}(b:Bd (gF ch))(nd:(ch.map (·.1)).Nodup)(h:∀x∈ch,NAt H x.2.1 x.2.2.1 x.2.2.2):ch.length<=400:=by
 have:=b ((ch.map (·.1)).map λs=>[s]) (by
  rw[List.Nodup,bH];exact nd.imp λn e=>n (bO e)) λP hP=>?_
 ·rw[aa,aa] at this;exact this
 ·obtain⟨s,hs,rfl⟩:=aj.mp hP;obtain⟨x,hx,rfl⟩:=aj.mp hs;have hsome:(ch.find? λy=>decide (y.1=x.1)).isSome=true:=dR.mpr ⟨x,hx,av rfl⟩;cases e:ch.find? λy=>decide (y.1=x.1) with
  |none=>rw[e] at hsome;cases hsome
  |some y=>
   rw[E4 e];obtain⟨my,_⟩:=GQ e;rcases(h y my).gv with⟨c,_,eg⟩|⟨d,ch',_,eg,_⟩
   ·rw[eg];intro z;cases z
   ·rw[eg];intro z;cases z
theorem Bd.sub {g:G}(b:Bd g)(s:Str):Bd λR=>g (s::R):=λL nd h=>by
 have:=b (L.map (s :: ·)) (by
  rw[List.Nodup,bH];exact nd.imp λn e=>n (List.tail_eq_of_cons_eq e)) λP hP=>by
  obtain⟨R,hR,rfl⟩:=aj.mp hP;exact h R hR
 rw[aa] at this;exact this
def WT (H:Hp)(nd:V):Option (G×(Addr->Prop))->Prop
 |none=>nd=.non
 |some p=>NAt H nd p.1 p.2
theorem WT.same {H H':Hp}{nd:V}{n:Option (G×(Addr->Prop))}(h:WT H nd n)(s:Aw H H'):WT H' nd n:=by
 cases n with
 |none=>exact h
 |some p=>exact NAt.same h s
def WT.S:Option (G×(Addr->Prop))->Addr->Prop
 |none=>λ_=>False
 |some p=>p.2
theorem Wp {H:Hp}{d:Addr}{ch:List Ch}{x:Ch}(hd:H d=some (.dK (G9 (JM ch x))))(nd:(ch.map (·.1)).Nodup)(hc:∀y∈ch,NAt H y.2.1 y.2.2.1 y.2.2.2)(no:∀y∈ch,¬y.2.2.2 d)(nb:∀y∈ch,Bh (.str y.1)=true)(hx:NAt H x.2.1 x.2.2.1 x.2.2.2)(nx:¬x.2.2.2 d)(bx:Bh (.str x.1)=true) :
  NAt H (.ref d) (gF (JM ch x)) (λa=>a=d\/∃y∈JM ch x,y.2.2.2 a):=by
 refine .fold d _ hd (Wy nd) (λy hy=>?_) (λy hy=>?_) λy hy=>?_
 ·rcases J0 hy with rfl|⟨hy,_⟩
  ·exact hx
  ·exact hc y hy
 ·rcases J0 hy with rfl|⟨hy,_⟩
  ·exact nx
  ·exact no y hy
 ·rcases J0 hy with rfl|⟨hy,_⟩
  ·exact bx
  ·exact nb y hy
def R7 (k:Nat)(K:W.Frag):Sp:=λvs H Q _=>∃(d l:Addr) (g:G) (S:Addr->Prop) (P:List Str) (nd:V) (n:Option (G×(Addr->Prop))),vs=[.ref d,.ref l,nd]/\H l=some (.lst (P.map V.str))/\P≠[]/\P.length<=k/\VP P/\NAt H (.ref d) g S/\Bd g/\WT H nd n/\g P.dropLast=some none/\(n=none->g P≠none)/\
 ∀d' S' H',Aw H H'->H d'=none->NAt H' (.ref d') (NA (n.map (·.1)) g P) S'->(∀a,S' a->S a\/WT.S n a\/H a=none)->Q (.ref d') H'
def EX (K:W.Frag):Sp:=R7 12 K
theorem VY (T:Txt K mg C XC)(F:Fun K "_law_with" "_law_with" Eu f fd)(n:Nat)(Bu:Def P w K mg base (1+n) "_law_with" ["_law_tree","_law_steps_here","_law_node"] (R7 n K)):FnOk P w K mg base Ef (1+n+1) f fd ["_law_tree","_law_steps_here","_law_node"] (R7 (n+1) K):=by
 exists GX
 ·obtain⟨d,l,g,S,P,nd,n,rfl,_⟩:=h;rfl
 obtain⟨d,l,g,S,P,nd,nn,rfl,hl,nP,lP,vP,na,bd,hn,gp,gn,q⟩:=h;have hu:=C4 hr;refine⟨_,(!Ad (@Av _ _ (3) _ _ _ _ GX.nd rfl ∅ (!Cy Jj (by rfl) T.b_dict CD (!Aa (pv 0) (!Ab))) (by rfl) ∅) (!Ad (!AJ (!Ax IQ (!AA BQ (by rfl) T.b_len CO (!Aa (pv 1) (!Ab))) (!Ag) (AC _)) (!Af (!Ek hu (pv 3) (!An AI (pv 1) (!Ag) (λ_ _=>rfl)) (!AH Bu (hr.mono (by omega)) rfl (!Aa (!B4 hu (pv 0) (!An AI (pv 1) (!Ag) (λ_ _=>rfl)) (λ_ _=>rfl)) (!Aa (!BA FF (pv 1) (!BO (!Ag)) (!B6)) (!Aa (pv 2) (!Ab))))))) (!Af (!AJ (!DT (!FZ (pv 2)) (by first|exact Bt _ (by decide) (by decide)|rfl)) (!Af (!AD (!UU (pv 3) (!An AI (pv 1) (!Ag) (λ_ _=>rfl)) ⟨rfl,rfl,rfl,rfl⟩))) (!Af (!Ek hu (pv 3) (!An AI (pv 1) (!Ag) (λ_ _=>rfl)) (pv 2)))))) (!Af (!Aq (pv 3))))),?_⟩
 try dsimp only[A4,Cx.nox,Cx.wish]
 obtain⟨ch,hd,rfl,ndc,hc,no,nb,eS⟩:=na.ch;have lc:=bd.ch (H:=H) ndc hc;obtain⟨s0,R,rfl⟩:∃s R,P=s::R:=by cases P with|nil=>exact absurd rfl nP|cons s R=>exact⟨s,R,rfl⟩
 have lk0:(G9 ch).length=ch.length:=aa _;refine⟨_,rfl,d,_,rfl,hd,(by show(G9 ch).length<=1000;omega),λb nbH=>?_⟩;have s1:=Ae nbH (.dK (G9 ch));have h1:(upd H b (.dK (G9 ch))) b=some (.dK (G9 ch)):=Ac;generalize upd H b (.dK (G9 ch))=H1 at s1 h1;have hl1:=s1.get hl;have hd1:=s1.get hd;have nbS:∀x∈ch,¬x.2.2.2 b:=λx hx hs=>by
  obtain⟨kvs,e⟩:=(hc x hx).there b hs;rw[nbH] at e;cases e
 have nbN:¬WT.S nn b:=λhs=>by
  cases nn with
  |none=>exact hs
  |some p=>
   obtain⟨kvs,e⟩:=NAt.there hn b hs;rw[nbH] at e;cases e
 have up:∀{H9:Hp} {u:HO} {v:V} {g':G} {S':Addr->Prop},NAt H9 v g' S'->¬S' b->NAt (upd H9 b u) v g' S':=λ{H9 u v g' S'} h n=>h.keep λa kvs ha e=>by rw[Ak (show a≠b from λz=>n (by rw[<-z];exact ha))];exact e
 have k0:KY ((s0::R).map V.str) 0=some (.str s0):=Ah (j:=0) rfl;have put:∀(v2:V) (g2:G) (S2:Addr->Prop) (H9:Hp),Aw H1 H9->NAt H9 v2 g2 S2->¬S2 b->(∀a,S2 a->S a\/WT.S nn a\/H a=none)->(∀T,NA (nn.map (·.1)) (gF ch) (s0::R) (s0::T)=g2 T)->Q (.ref b) (upd H9 b (.dK (putK (G9 ch) (.inr s0) v2))):=λv2 g2 S2 H9 s9 n2 nb2 sub e=>by
  have ep:=W3 ch ⟨s0,v2,g2,S2⟩;rw[ep];have s19:=s1.trans s9;have nat:=Wp (H:=upd H9 b (.dK (G9 (JM ch ⟨s0,v2,g2,S2⟩)))) (x:=⟨s0,v2,g2,S2⟩) Ac ndc (λy hy=>up ((hc y hy).same s19) (nbS y hy)) nbS nb (up n2 nb2) nb2 (vP s0 aw);refine q b _ _ (Cu s19 nbH _) nbH (nat.eq λT=>?_) λa ha=>?_
  ·rw[XU];cases T with
   |nil=>rfl
   |cons z T=>
    show(if z=s0 then g2 T else gF ch (z::T))=_
    by_cases c:z=s0
    ·rw[ak c,c,e]
    ·rw[ai c];exact(ai c).symm
  ·rcases ha with rfl|⟨y,hy,ha⟩
   ·exact .inr (.inr nbH)
   ·rcases J0 hy with rfl|⟨hy,_⟩
    ·exact sub a ha
    ·exact .inl (by rw[eS];exact .inr ⟨y,hy,ha⟩)
 refine⟨_,rfl,l,_,rfl,.inl (AV.of hl1),_,_,rfl,rfl,_,rfl,?_⟩;rw[aa];cases R with
 |cons z T=>
  rw[av (show((s0::z::T).length:Int)>1 by show((T.length+1+1:Nat):Int)>1;omega)];refine AG rfl ?_;have gp':gF ch (s0::(z::T).dropLast)=some none:=gp;cases ef:ch.find? λx=>decide (x.1=s0) with
  |none=>rw[IG ef] at gp';cases gp'
  |some x=>
   obtain⟨mx,ex⟩:=GQ ef;rw[E4 ef] at gp';have nx:=hc x mx;obtain⟨dx,edx⟩:∃dx,x.2.1=.ref dx:=by
    rcases nx.gv with⟨c,ev,eg⟩|⟨dx,_,ev,_,_⟩
    ·rw[eg] at gp';unfold gC at gp'
     split at gp'<;>cases gp'
    ·exact⟨dx,ev⟩
   have gt:=Vo hd1 s0;rw[ef] at gt;have ex2:(λR=>gF ch (s0::R))=x.2.2.1:=funext λR=>E4 ef R
   rw[edx] at nx;refine⟨_,rfl,_,rfl,l,_,_,_,rfl,rfl,AV.of hl1,k0,d,_,rfl,gt,_,rfl,_,rfl,l,_,rfl,AV.of hl1,λp np=>?_⟩;rw[U1 (by decide),<-fB];have s2:=Ae np (.lst (((s0::z::T).drop (1:Int).toNat).map V.str));have h2:(upd H1 p (.lst (((s0::z::T).drop (1:Int).toNat).map V.str))) p=some (.lst ((z::T).map V.str)):=Ac;generalize upd H1 p (.lst (((s0::z::T).drop (1:Int).toNat).map V.str))=H2 at s2 h2;have s12:=s1.trans s2;have hb2:=s2.get h1;refine⟨_,rfl,dx,p,x.2.2.1,x.2.2.2,z::T,nd,nn,by show[x.2.1,V.ref p,nd]=_;rw[edx],h2,(by simp),(by have:(z::T).length+1<=n+1:=lP;omega),(λy hy=>vP y (ao _ hy)),nx.same s12,(by rw[<-ex2];exact bd.sub s0),hn.same s12,gp',(λe=>by have:=gn e;rw[E4 ef] at this;exact this),λd2 S2 H3 s3 nd2 na2 sub2=>?_⟩;have hb3:=s3.get hb2;have s23:=s2.trans s3;have nb2:¬S2 b:=λhs=>by
    rcases sub2 b hs with e|e|e
    ·exact nbS x mx e
    ·exact nbN e
    ·rw[hb2] at e;cases e
   refine⟨_,rfl,_,rfl,l,_,_,_,rfl,rfl,AV.of (s23.get hl1),k0,b,_,rfl,J1.k (k:=Sum.inr s0) hb3 (By (by omega)),_,rfl,?_⟩;refine put (.ref d2) _ S2 H3 s23 na2 nb2 (λa ha=>?_) λU=>?_
   ·rcases sub2 a ha with e|e|e
    ·exact .inl (by rw[eS];exact .inr ⟨x,mx,e⟩)
    ·exact .inr (.inl e)
    ·exact .inr (.inr (s12.free e))
   ·show(if s0=s0 then NA (nn.map (·.1)) (λR=>gF ch (s0::R)) (z::T) U else _)=_;rw[ak rfl,ex2]
 |nil=>
  refine As rfl ?_;cases nn with
  |none=>
   cases(show nd=.non from hn);cases ef:ch.find? λx=>decide (x.1=s0) with
   |none=>exact absurd (IG ef []) (gn rfl)
   |some x=>
    have ev:F5 (G9 ch) (.inr s0)=some x.2.1:=by rw[Ox,ef];rfl
    refine⟨_,rfl,_,rfl,AG rfl ⟨_,rfl,b,rfl,.inl ⟨_,.inl h1⟩,_,rfl,l,_,_,_,rfl,rfl,AV.of hl1,k0,_,Sum.inr s0,_,h1,rfl,ev,_,rfl,?_⟩⟩;rw[WE];have nat:NAt (upd H1 b (.dK (G9 (JX ch s0)))) (.ref b) (gF (JX ch s0)) _:=.fold b (JX ch s0) Ac (ndc.sublist (List.filter_sublist.map _)) (λy hy=>up ((hc y (aV.mp hy).1).same s1) (nbS y (aV.mp hy).1)) (λy hy=>nbS y (aV.mp hy).1) λy hy=>nb y (aV.mp hy).1
    refine q b _ _ (Cu s1 nbH _) nbH (nat.eq λU=>?_) λa ha=>?_
    ·rw[WD];cases U with
     |nil=>rfl
     |cons z U=>
      show(if z=s0 then none else gF ch (z::U))=if z=s0 then none else gF ch (z::U);rfl
    ·rcases ha with rfl|⟨y,hy,ha⟩
     ·exact .inr (.inr nbH)
     ·exact .inl (by rw[eS];exact .inr ⟨y,(aV.mp hy).1,ha⟩)
  |some p=>
   have nnn:decide (nd=.non)=false:=by
    rcases NAt.gv hn with⟨c,rfl,_⟩|⟨dx,_,rfl,_,_⟩<;>rfl
   refine⟨_,rfl,_,rfl,As nnn ⟨_,rfl,_,rfl,_,rfl,l,_,_,_,rfl,rfl,AV.of hl1,k0,b,_,rfl,J1.k (k:=Sum.inr s0) h1 (By (by omega)),_,rfl,?_⟩⟩;refine put nd p.1 p.2 H1 (.refl _) (NAt.same hn s1) nbN (λa ha=>.inr (.inl ha)) λU=>?_
   show(if s0=s0 then p.1 U else _)=_;rw[ak rfl]
theorem UE (T:Txt K mg C XC)(F:Fun K "_law_with" "_law_with" Eu f fd)(hm:mg "_law_with"=some (.ref f))(hk:W.keepIn K (.ref f)=true)(hb:Binds K fd ["_law_tree","_law_steps_here","_law_node"] []):∀n,FnOk P w K mg base Ef (1+n) f fd ["_law_tree","_law_steps_here","_law_node"] (R7 n K)
 |0=>by
  exists GX
  ·obtain⟨d,l,g,S,P,nd,n,rfl,_⟩:=h;rfl
  ·obtain⟨d,l,g,S,P,nd,n,rfl,_,np,lp,_⟩:=h;exact absurd (eC.mp (by omega)) np
 |n+1=>VY T F n ⟨f,fd,UE T F hm hk hb n,hm,hk,hb⟩
theorem OG (T:Txt K mg C XC)(F:Fun K "_law_with" "_law_with" Eu f fd)(hm:mg "_law_with"=some (.ref f))(hk:W.keepIn K (.ref f)=true)(hb:Binds K fd ["_law_tree","_law_steps_here","_law_node"] []):FnOk P w K mg base Ef 13 f fd ["_law_tree","_law_steps_here","_law_node"] (EX K):=
 UE T F hm hk hb 12
abbrev Lj:=Addr×List Str×V
structure RwOk (H:Hp) (A:List Str) (g:G) (S:Addr->Prop) (rows:List Lj):Prop where
 at_:∀r∈rows,H r.1=some (.tup [.str (jn (A++r.2.1)),r.2.2])
 val:∀r∈rows,r.2.1≠[]/\VP r.2.1/\g r.2.1≠none/\∃S',NAt H r.2.2 (λR=>g (r.2.1++R)) S'/\∀a,S' a->S a
 nd:(rows.map (·.2.1)).Nodup
structure RwAll (g:G) (rows:List Lj):Prop where
 all:∀P,P≠[]->g P≠none->P∈rows.map (·.2.1)
theorem Ks (s:Str):jn [s]=s:=EY (by have:=BM [] s;exact this)
theorem RwOk.len {H:Hp}{A:List Str}{g:G}{S:Addr->Prop}{rows:List Lj}(h:RwOk H A g S rows)(b:Bd g):rows.length<=400:=by
 have:=b _ h.nd λP hP=>by
  obtain⟨r,hr,rfl⟩:=aj.mp hP;exact(h.val r hr).2.2.1
 rw[aa] at this;exact this
theorem Kx.get {d:Addr}{H H':Hp}(k:Kx d H H'){b:Addr}{o o0:HO}(e:H b=some o)(hd:H d=some o0)(n:o≠o0):H' b=some o:=k.keep b o (λz=>by rw[z,hd] at e;exact n (aI e).symm) e
theorem XM {H:Hp}{d:Addr}{o:Obj}{ch:List Ch}(h:H d=some (.frz o (.dK (G9 ch))))(s:Str):EO H d (.str s) ((ch.find? λx=>decide (x.1=s)).map (·.2.1)):=by
 have g:=EO.kf (k:=Sum.inr s) h;rw[Ox] at g;exact g
theorem JY {ch:List Ch}(nd:(ch.map (·.1)).Nodup){x:Ch}(h:x∈ch):(ch.find? λy=>decide (y.1=x.1))=some x:=by
 induction ch with
 |nil=>exact nomatch h
 |cons y ch ih=>
  rw[aF,bw] at nd;rw[bK];rcases aM.mp h with rfl|h
  ·rw[av rfl]
  ·rw[aq λe:y.1=x.1=>nd.1 (aj.mpr ⟨x,h,e.symm⟩)];exact ih nd.2 h
structure RwSo (H:Hp) (A:List Str) (ch:List Ch) (i:Nat) (rows:List Lj):Prop where
 ok:RwOk H A (gF ch) (λa=>∃x∈ch,x.2.2.2 a) rows
 mem:∀r∈rows,∃x∈ch.take i,∃R,r.2.1=x.1::R
 all:∀x∈ch.take i,∀R,gF ch (x.1::R)≠none->x.1::R∈rows.map (·.2.1)
theorem Uh {Hi H2:Hp}{A:List Str}{ch:List Ch}{i:Nat}{rows rows2:List Lj}{x:Ch}{l b:Addr}{zs:List V}(so:RwSo Hi A ch i rows)(ex:ch[i]?=some x)(ndc:(ch.map (·.1)).Nodup)(bx:Bh (.str x.1)=true)(k:Kx l Hi H2)(hl:Hi l=some (.lst zs))(hb:H2 b=some (.tup [.str (jn (A++[x.1])),x.2.1]))(nx:NAt H2 x.2.1 x.2.2.1 x.2.2.2)(ok2:RwOk H2 (A++[x.1]) x.2.2.1 x.2.2.2 rows2)(all2:∀R,R≠[]->x.2.2.1 R≠none->R∈rows2.map (·.2.1)) :
  RwSo H2 A ch (i+1) (rows++(b,[x.1],x.2.1)::rows2.map λr=>(r.1,x.1::r.2.1,r.2.2)):=by
 have hx:=aN ex;have ge:∀R,gF ch (x.1::R)=x.2.2.1 R:=E4 (JY ndc hx);have tk:ch.take (i+1)=ch.take i++[x]:=by rw[bG,ex];rfl
 have nin:x∉ch.take i:=λh=>by
  obtain⟨j,hj⟩:=fj h;have lt:j<i:=by
   have:=(aA.mp hj).1;rw[a8] at this;omega
  rw[fH,ak lt] at hj;obtain⟨q1,e1⟩:=aA.mp (show(ch.map (·.1))[j]?=some x.1 by rw[aD,hj];rfl);obtain⟨q2,e2⟩:=aA.mp (show(ch.map (·.1))[i]?=some x.1 by rw[aD,ex];rfl);exact cq.mp ndc j i q1 q2 lt (e1.trans e2.symm)
 have mem:∀r∈rows++(b,[x.1],x.2.1)::rows2.map (λr:Lj=>((r.1,x.1::r.2.1,r.2.2):Lj)),r∈rows\/r=(b,[x.1],x.2.1)\/∃r2∈rows2,r=(r2.1,x.1::r2.2.1,r2.2.2):=λr hr=>by
  rcases aK.mp hr with hr|hr
  ·exact .inl hr
  ·rcases aM.mp hr with hr|hr
   ·exact .inr (.inl hr)
   ·obtain⟨r2,h2,rfl⟩:=aj.mp hr;exact .inr (.inr ⟨r2,h2,rfl⟩)
 refine⟨⟨λr hr=>?_,λr hr=>?_,?_⟩,λr hr=>?_,λy hy R hR=>?_⟩
 ·rcases mem r hr with hr|rfl|⟨r2,h2,rfl⟩
  ·exact k.get (so.ok.at_ r hr) hl (by intro z;cases z)
  ·exact hb
  ·have:=ok2.at_ r2 h2;rw[bI] at this;exact this
 ·rcases mem r hr with hr|rfl|⟨r2,h2,rfl⟩
  ·obtain⟨h1,h2,h3,S',h4,h5⟩:=so.ok.val r hr;exact⟨h1,h2,h3,S',h4.keep λa kvs _ e=>k.get e hl (by intro z;cases z),h5⟩
  ·refine⟨bL _ _,λy hy=>by rw[ah.mp hy];exact bx,?_,x.2.2.2,nx.eq λR=>(ge R).symm,λa ha=>⟨x,hx,ha⟩⟩;rw[ge];rcases nx.gv with⟨c,_,eg⟩|⟨_,ch',_,eg,_⟩<;>rw[eg]<;>exact λz=>by cases z
  ·obtain⟨h1,h2',h3,S',h4,h5⟩:=ok2.val r2 h2;refine⟨bL _ _,λy hy=>?_,by rw[ge];exact h3,S',h4.eq λR=>(ge (r2.2.1++R)).symm,λa ha=>⟨x,hx,h5 a ha⟩⟩;rcases aM.mp hy with rfl|hy
   ·exact bx
   ·exact h2' y hy
 ·rw[aO,dQ];refine⟨so.ok.nd,?_,λa ha b hb e=>?_⟩
  ·rw[aF,bw,az];refine⟨λz=>?_,?_⟩
   ·obtain⟨r2,h2,e⟩:=aj.mp z;exact(ok2.val r2 h2).1 (cf e).2
   ·have:=ok2.nd;rw[List.Nodup,bH] at this ⊢;exact this.imp λn e=>n (cf e).2
  ·obtain⟨r,hr,rfl⟩:=aj.mp ha;obtain⟨y,hy,R,ey⟩:=so.mem r hr;have:∃T,b=x.1::T:=by
    rcases aM.mp hb with rfl|hb
    ·exact⟨_,rfl⟩
    ·rw[az] at hb;obtain⟨r2,_,rfl⟩:=aj.mp hb;exact⟨_,rfl⟩
   obtain⟨T,rfl⟩:=this;rw[ey] at e;have e1:=(cf e).1;have e2:y=x:=by
    have h1:=JY ndc (bA hy);have h2:=JY ndc hx;rw[e1,h2] at h1;exact(aI h1).symm
   exact nin (e2▸hy)
 ·rcases mem r hr with hr|rfl|⟨r2,h2,rfl⟩
  ·obtain⟨y,hy,R,e⟩:=so.mem r hr;exact⟨y,by rw[tk];exact bB _ hy,R,e⟩
  ·exact⟨x,by rw[tk];exact aG _ (ah.mpr rfl),[],rfl⟩
  ·exact⟨x,by rw[tk];exact aG _ (ah.mpr rfl),_,rfl⟩
 ·rw[tk] at hy;rw[aO,aK];rcases aK.mp hy with hy|hy
  ·exact .inl (so.all y hy R hR)
  ·rw[ah.mp hy] at hR ⊢;rw[ge] at hR;refine .inr ?_;rw[aF,az]
   by_cases c:R=[]
   ·rw[c];exact aw
   ·obtain⟨r2,h2,rfl⟩:=aj.mp (all2 R c hR);exact ao _ (aj.mpr ⟨r2,h2,rfl⟩)
def RL (k:Nat)(K:W.Frag):Sp:=λvs H Q _=>∃(d:Addr) (A:List Str) (g:G) (S:Addr->Prop),vs=[.ref d,.str (jn A)]/\VP A/\A.length+k<=40/\NAt H (.ref d) g S/\Bd g/\(∀P,g P≠none->P.length<k)/\
 ∀l rows H',Aw H H'->H l=none->H' l=some (.lst (rows.map λr:Lj=>V.ref r.1))->RwOk H' A g S rows->RwAll g rows->Q (.ref l) H'
def FG (K:W.Frag):Sp:=RL 20 K
theorem Wd (T:Txt K mg C XC)(F:Fun K "_law_all" "_law_all" Ft f fd)(n:Nat)(B2:Def P w K mg base (1+n) "_law_all" ["_law_tree","_law_path_here"] (RL n K)):FnOk P w K mg base Ef (1+n+1) f fd ["_law_tree","_law_path_here"] (RL (n+1) K):=by
 exists ED
 ·obtain⟨d,A,g,S,rfl,_⟩:=h;rfl
 obtain⟨d,A0,g,S,rfl,vA,lA,na,bd,dp,q⟩:=h;have hu:=C4 hr;refine⟨_,(!Ad (@Av _ _ (2) _ _ _ _ ED.nd rfl ∅ (!Bk (!Ab)) (by rfl) ∅) (!Ad (!Pc bJ rfl (pv 0) (@AK _ _ (3) _ ED.nd rfl ∅ ∅) (!Ad (@Av _ _ (4) _ _ _ _ ED.nd rfl ∅ (!Ay AR (!Ay AR (pv 1) (!Ay Rn (!Aj) (!Cy KU (by rfl) T.b_int Ry (!Aa (!Ej JO (pv 1) (!Aj) (AC _)) (!Ab))))) (pv 3)) (by rfl) ∅) (!Ad (!AD (!Dm a7 bD bC Cw (pv 2) (!Aa (!Az (!Aa (pv 4) (!Aa (!B4 hu (pv 0) (pv 3) (λ_ _=>rfl)) (!Ab)))) (!Ab)))) (!Af (!AJ (!Bq (!AA Bv (by rfl) T.b_isinstance AF (!Aa (!B4 hu (pv 0) (pv 3) (λ_ _=>rfl)) (!Aa (!Gf rfl T.b_dict CD) (!Ab)))) (by intro _;rfl)) (!Af (!AD (!Dm a7 gK gJ N8 (pv 2) (!Aa (!AH B2 (hr.mono (by omega)) rfl (!Aa (!B4 hu (pv 0) (pv 3) (λ_ _=>rfl)) (!Aa (pv 4) (!Ab)))) (!Ab))))) (!Ao))))) (by intro _;rfl)) (!Af (!Aq (pv 2))))),?_⟩
 try dsimp only[A4,Cx.nox,Cx.wish]
 obtain⟨ch,hd,rfl,ndc,hc,no,nb,eS⟩:=na.ch;have nf:∀o u,H d≠some (.frz o u):=λo u z=>by rw[hd] at z;cases z
 have lch:=bd.ch (H:=H) ndc hc;refine⟨MT,λl nl=>?_⟩;have s1:=Ae nl (.lst []);have h1:(upd H l (.lst [])) l=some (.lst []):=Ac;generalize upd H l (.lst [])=H1 at s1 h1;have hd1:=s1.get hd;dsimp only[AU];refine⟨_,rfl,d,_,rfl,hd1,λo=>?_⟩;have hf:(upd H1 d (.frz o (.dK (G9 ch)))) d=some (.frz o (.dK (G9 ch))):=Ac;have nld:l≠d:=λz=>by rw[z,hd1] at h1;cases h1
 have hlf:(upd H1 d (.frz o (.dK (G9 ch)))) l=some (.lst []):=by rw[Ak nld];exact h1
 have th:∀H3,Kx l (upd H1 d (.frz o (.dK (G9 ch)))) H3->Aw H (upd H3 d (.dK (G9 ch))):=λH3 k b u e=>by
  by_cases z:b=d
  ·rw[z] at e ⊢;rw[Ac,<-hd];exact e
  ·rw[Ak z];exact k.keep b u (λy=>by rw[y,nl] at e;cases e) (by rw[Ak z];exact s1.get e)
 have hcf:∀x∈ch,NAt (upd H1 d (.frz o (.dK (G9 ch)))) x.2.1 x.2.2.1 x.2.2.2:=λx hx=>((hc x hx).same s1).keep λa kvs ha e=>by rw[Ak (show a≠d from λz=>no x hx (by rw[<-z];exact ha))];exact e
 have nlS:∀x∈ch,¬x.2.2.2 l:=λx hx hs=>by
  obtain⟨kvs,e⟩:=(hc x hx).there l hs;rw[nl] at e;cases e
 generalize upd H1 d (.frz o (.dK (G9 ch)))=Hf at hf hlf th hcf;have kk:∀{b:Addr} {xs:List V} {H9:Hp} {u:HO} {zs:List V},H9 l=some (.lst zs)->H9 b=some (.tup xs)->(upd H9 l u) b=some (.tup xs):=λ{b xs H9 u zs} e1 e2=>by
  rw[Ak λz=>by rw[z,e1] at e2;cases e2];exact e2
 refine K1 (d:=d) (o:=o) (kvs:=G9 ch) nf (λi σ Hi=>∃(rows:List Lj) (v3 v4:Option V),σ=[some (.ref d),some (.str (jn A0)),some (.ref l),v3,v4]/\Kx l Hf Hi/\Hi l=some (.lst (rows.map λr=>V.ref r.1))/\RwSo Hi A0 ch i rows)
  ⟨[],none,none,rfl,DH (.refl _),hlf,⟨⟨(λ_ h=>nomatch h),(λ_ h=>nomatch h),cO⟩,(λ_ h=>nomatch h),λ_ h=>nomatch h⟩⟩ (by rintro i σ Hi _ ⟨_,_,_,_,k,_⟩;exact k.keep _ _ (Ne.symm nld) hf) ?_ ?_
 ·rintro i k v σ Hi ei ⟨rows,v3,v4,rfl,kx,hl,so⟩
  rw[aD] at ei;obtain⟨x,ex,ek⟩:=aU.mp ei;cases ek;have hx:=aN ex;have vx:VP [x.1]:=λy hy=>by rw[ah.mp hy];exact nb x hx
  have l1:=D5 vA;have lx:=(BR (nb x hx)).2.2;have lr:=so.ok.len bd;have nx:=(hcf x hx).keep λa kvs ha e=>kx.keep a _ (λz=>nlS x hx (by rw[<-z];exact ha)) e
  have dfz:Hi d=some (.frz o (.dK (G9 ch))):=kx.keep _ _ (Ne.symm nld) hf;have gt:=λ(H9:Hp) (e:H9 d=some (.frz o (.dK (G9 ch))))=>XM e x.1
  rw[JY ndc hx] at gt;have ge:∀R,gF ch (x.1::R)=x.2.2.1 R:=E4 (JY ndc hx);obtain⟨nz,e1,e2⟩:∃nz:Int,(if(!decide (V.str (jn A0)=V.str (PySem.Str.ofString "")))=true then(1:Int) else 0)=nz/\((jn A0++PySem.Txt.mul SL nz)++x.1=jn (A0++[x.1])/\0<=nz/\nz<=1/\(PySem.Txt.mul SL nz).length<=1):=by
   have dn:decide (V.str (jn A0)=V.str (PySem.Str.ofString ""))=decide (A0=[]):=JB vA.cp (B:=[]) ⟨(λ_ h=>nomatch h),λh=>nomatch h⟩;rw[dn]
   by_cases c:A0=[]
   ·subst c;refine⟨0,rfl,?_,by decide,by decide,by decide +kernel⟩;rw[cx,Ks];refine EY ?_;rw[BJ,BJ];rfl
   ·rw[aq c];refine⟨1,rfl,?_,by decide,by decide,by decide +kernel⟩;rw[<-QB c (bL x.1 []),Ks];rfl
  obtain⟨ez,z0,z1,zl⟩:=e2;have lj:(jn A0++PySem.Txt.mul SL nz).length<=9*A0.length+1:=by rw[bR];omega
  dsimp only[AU];refine HC λEB eEB=>?_
  refine Ap λN eN=>?_
  refine⟨_,rfl,_,rfl,rfl,.inr ⟨_,rfl,?_⟩⟩;rw[e1];refine⟨_,_,rfl,rfl,by omega,by omega,(by decide +kernel),_,_,rfl,rfl,small (by show(jn A0).length+(PySem.Txt.mul SL nz).length<=1000000;omega),_,rfl,_,_,rfl,rfl,small (by show(jn A0++PySem.Txt.mul SL nz).length+x.1.length<=1000000;omega),?_⟩;rw[ez];subst eN
  try dsimp only[AU]
  refine Ap λN eN=>?_
  refine⟨_,rfl,.inl ⟨rfl,_,AV.of hl⟩,_,rfl,_,rfl,_,rfl,d,_,rfl,gt Hi dfz,Bs,λb nbb=>?_⟩;have s2:=Ae nbb (.tup [V.str (jn (A0++[x.1])),x.2.1]);have hb2:(upd Hi b (.tup [V.str (jn (A0++[x.1])),x.2.1])) b=some (.tup [V.str (jn (A0++[x.1])),x.2.1]):=Ac;generalize upd Hi b (.tup [V.str (jn (A0++[x.1])),x.2.1])=H2 at s2 hb2;have hl2:=s2.get hl;refine⟨l,_,_,rfl,rfl,hl2,By (by rw[aa];omega),?_⟩;have k3:Kx l Hi (upd H2 l (.lst ((rows.map λr=>V.ref r.1)++[V.ref b]))):=(DH s2).upd hl _;have hb3:(upd H2 l (.lst ((rows.map λr=>V.ref r.1)++[V.ref b]))) b=some (.tup [V.str (jn (A0++[x.1])),x.2.1]):=kk hl2 hb2;have hl3:(upd H2 l (.lst ((rows.map λr=>V.ref r.1)++[V.ref b]))) l=some (.lst ((rows.map λr=>V.ref r.1)++[V.ref b])):=Ac;generalize upd H2 l (.lst ((rows.map λr=>V.ref r.1)++[V.ref b]))=H3 at k3 hb3 hl3;have nx3:=nx.keep λa kvs _ e=>k3.get e hl (by intro z;cases z)
  have df3:=k3.get dfz hl (by intro z;cases z);obtain⟨t,ty,kt,_⟩:=HJ nx3 K;subst eN
  try dsimp only
  refine⟨_,rfl,_,rfl,d,_,rfl,gt H3 df3,_,_,_,_,rfl,ty,kt,_,rfl,?_⟩;rcases nx3.gv with⟨c,ev,eg⟩|⟨dx,_,ev,_,_⟩
  ·rw[ev];refine As rfl ?_;subst eEB;have add:=Uh (rows2:=[]) so ex ndc (nb x hx) k3 hl hb3 nx3 ⟨(λ_ h=>nomatch h),(λ_ h=>nomatch h),cO⟩ λR hR e=>absurd (show x.2.2.1 R=none by rw[eg];exact ai hR) e
   exact⟨_,_,_,rfl,kx.trans k3,by rw[hl3,aO];rfl,add⟩
  ·rw[ev];refine AG rfl ?_;have nxd:=nx3;rw[ev] at nxd;have l9:=D5 (P:=A0++[x.1]) λy hy=>(aK.mp hy).elim (vA y) (vx y)
   refine⟨_,rfl,.inl ⟨rfl,_,AV.of hl3⟩,_,rfl,_,rfl,d,_,rfl,gt H3 df3,_,rfl,dx,A0++[x.1],x.2.2.1,x.2.2.2,by show[x.2.1,_]=_;rw[ev],(λy hy=>(aK.mp hy).elim (vA y) (vx y)),by rw[ar,bc];omega,nxd,(by rw[show x.2.2.1=λR=>gF ch (x.1::R) from funext λR=>(ge R).symm];exact bd.sub x.1),(λR hR=>by have:=dp (x.1::R) (by rw[ge];exact hR);rw[aS] at this;omega),λl2 rows2 H4 s4 nl2 hl4 ok2 all2=>?_⟩;have lr2:=ok2.len (by rw[show x.2.2.1=λR=>gF ch (x.1::R) from funext λR=>(ge R).symm];exact bd.sub x.1);have hl5:=s4.get hl3;refine⟨l,l2,_,_,rfl,rfl,hl5,hl4,small (by rw[ar,aa,aa];show rows.length+1+rows2.length<=1000000;omega),?_⟩;have k5:Kx l H3 (upd H4 l (.lst (((rows.map λr=>V.ref r.1)++[V.ref b])++rows2.map λr=>V.ref r.1))):=(DH s4).upd hl3 _;have k45:Kx l H4 (upd H4 l (.lst (((rows.map λr=>V.ref r.1)++[V.ref b])++rows2.map λr=>V.ref r.1))):=(DH (.refl _)).upd hl5 _;have ok5:RwOk (upd H4 l (.lst (((rows.map λr=>V.ref r.1)++[V.ref b])++rows2.map λr=>V.ref r.1))) (A0++[x.1]) x.2.2.1 x.2.2.2 rows2:=⟨λr hr=>k45.get (ok2.at_ r hr) hl5 (by intro z;cases z),λr hr=>by
    obtain⟨h1,h2,h3,S',h4,h5⟩:=ok2.val r hr;exact⟨h1,h2,h3,S',h4.keep λa kvs _ e=>k45.get e hl5 (by intro z;cases z),h5⟩,ok2.nd⟩
   have hl6:(upd H4 l (.lst (((rows.map λr=>V.ref r.1)++[V.ref b])++rows2.map λr=>V.ref r.1))) l=some (.lst (((rows.map λr=>V.ref r.1)++[V.ref b])++rows2.map λr=>V.ref r.1)):=Ac;generalize upd H4 l (.lst (((rows.map λr=>V.ref r.1)++[V.ref b])++rows2.map λr=>V.ref r.1))=H6 at k5 ok5 hl6;have add:=Uh so ex ndc (nb x hx) (k3.trans k5) hl (k5.get hb3 hl3 (by intro z;cases z)) (nx3.keep λa kvs _ e=>k5.get e hl3 (by intro z;cases z)) ok5 all2.all;subst eEB;refine⟨_,_,_,rfl,kx.trans (k3.trans k5),?_,add⟩;rw[hl6,aO,aF,az,bI];rfl
 ·rintro σ Hi ⟨rows,v3,v4,rfl,kx,hl,so⟩
  rw[show(G9 ch).length=ch.length from aa _] at so;have so2:=so.all;rw[cu] at so2;have kd:∀{b:Addr} {u:HO},Hi b=some u->(∀w,u≠.frz o w)->(upd Hi d (.dK (G9 ch))) b=some u:=λ{b u} e n=>by
   rw[Ak λz=>by rw[z,kx.keep _ _ (Ne.symm nld) hf] at e;exact n _ (aI e).symm];exact e
  refine⟨_,rfl,q l rows _ (th Hi kx) nl (kd hl (by intro w z;cases z)) ⟨λr hr=>kd (so.ok.at_ r hr) (by intro w z;cases z),λr hr=>?_,so.ok.nd⟩ ⟨λP hP gP=>?_⟩⟩
  ·obtain⟨h1,h2,h3,S',h4,h5⟩:=so.ok.val r hr;exact⟨h1,h2,h3,S',h4.keep λa kvs _ e=>kd e (by intro w z;cases z),λa ha=>by rw[eS];exact .inr (h5 a ha)⟩
  ·cases P with
   |nil=>exact absurd rfl hP
   |cons z R=>
    cases ef:ch.find? λx=>decide (x.1=z) with
    |none=>exact absurd (IG ef R) gP
    |some x=>
     obtain⟨mx,rfl⟩:=GQ ef;exact so2 x mx R gP
theorem UR (T:Txt K mg C XC)(F:Fun K "_law_all" "_law_all" Ft f fd)(hm:mg "_law_all"=some (.ref f))(hk:W.keepIn K (.ref f)=true)(hb:Binds K fd ["_law_tree","_law_path_here"] []):∀n,FnOk P w K mg base Ef (1+n) f fd ["_law_tree","_law_path_here"] (RL n K)
 |0=>by
  exists ED
  ·obtain⟨d,A,g,S,rfl,_⟩:=h;rfl
  ·obtain⟨d,A,g,S,rfl,_,_,na,_,dp,_⟩:=h;obtain⟨ch,_,rfl,_⟩:=na.ch;have:=dp [] (λz=>by cases z);omega
 |n+1=>Wd T F n ⟨f,fd,UR T F hm hk hb n,hm,hk,hb⟩
theorem PV (T:Txt K mg C XC)(F:Fun K "_law_all" "_law_all" Ft f fd)(hm:mg "_law_all"=some (.ref f))(hk:W.keepIn K (.ref f)=true)(hb:Binds K fd ["_law_tree","_law_path_here"] []):FnOk P w K mg base Ef 21 f fd ["_law_tree","_law_path_here"] (FG K):=
 UR T F hm hk hb 20
def Vz (xs:List Str):List Tr:=xs.map Tr.str
theorem Yp {F:Addr->Prop}{H:Hp}{p:Addr}{xs:List Str}(h:H p=some (.tup (xs.map V.str))):Rep F H (.tup (Vz xs)) (.ref p):=by
 refine⟨p,_,rfl,h,?_⟩
 clear h
 induction xs with
 |nil=>rfl
 |cons x xs ih=>exact⟨_,_,rfl,rfl,ih⟩
theorem YZ:∀(xs ys:List Str),Gb (Vz xs) (Vz ys)=decide (xs=ys)
 |[],[]=>by rw[av rfl];rfl
 |[],_::_=>by rw[aq λe=>nomatch e];rfl
 |_::_,[]=>by rw[aq λe=>nomatch e];rfl
 |x::xs,y::ys=>by
  show((x == y)&&Gb (Vz xs) (Vz ys))=_;rw[YZ xs ys,cn,aQ,bQ,bP,bP];exact⟨λ⟨a,b⟩=>by rw[a,b],λe=>by cases e;exact⟨rfl,rfl⟩⟩
theorem Zh (xs:List Str):Tr.deps (Vz xs)<=99:=by
 have:∀xs:List Str,Tr.deps (Vz xs)<=1:=λxs=>by
  induction xs with
  |nil=>decide
  |cons x xs ih=>
   show max 1 (Tr.deps (Vz xs))<=1;omega
 have:=this xs;omega
theorem Yv {H:Hp}{p q:Addr}{xs ys:List Str}{Q:VK}(neg:Bool)(h1:H p=some (.tup (xs.map V.str)))(h2:H q=some (.tup (ys.map V.str)))(h:Q (.bl (if neg then !decide (xs=ys) else decide (xs=ys))) H):Et neg (.ref p) (.ref q) H Q:=by
 refine⟨Vz xs,Vz ys,λ_=>True,Zh xs,?_,?_,Yp h1,Yp h2,?_⟩
 ·rw[YZ,av rfl]
 ·rw[YZ,av rfl]
 ·rw[YZ];exact h
theorem Lm {H:Hp}{p q:Addr}{xs:List Str}{Q:VK}(neg:Bool)(h1:H p=some (.tup (xs.map V.str)))(h2:H q=some (.tup (xs.map V.str)))(h:Q (.bl (!neg)) H):Et neg (.ref p) (.ref q) H Q:=by
 refine Yv neg h1 h2 ?_;rw[av rfl];cases neg<;>exact h
theorem Md {H:Hp}{p q:Addr}{xs ys:List Str}{Q:VK}(neg:Bool)(h1:H p=some (.tup (xs.map V.str)))(h2:H q=some (.tup (ys.map V.str)))(ne:xs≠ys)(h:Q (.bl neg) H):Et neg (.ref p) (.ref q) H Q:=by
 refine Yv neg h1 h2 ?_;rw[aq ne];cases neg<;>exact h
abbrev Ls (P:List Str):List Str:=[PySem.Str.ofString "no path",jn P]
theorem Hu (P:List Str):Ls P≠OK:=λz=>by cases z
def gT (t:AM):G:=λP=>if P=[] then some none else lk t P
theorem BZ {t:AM}{P:List Str}(h:P≠[]):gT t P=lk t P:=ai h
theorem Qj {t:AM}{P:List Str}:Jq t P=decide (gT t P=some none):=by
 unfold Jq gT
 by_cases c:P=[]
 ·rw[ak c,av c];rfl
 ·rw[ai c,aq c];rfl
theorem Vl (K:W.Frag):W.kitOne K (.type "NoneType") (.type "dict")=some false:=MH (by decide +kernel) K
def HE (K:W.Frag):Sp:=λvs H Q _=>∃(d:Addr) (P:List Str) (t:AM) (S:Addr->Prop),vs=[.ref d,.str (jn P)]/\CP P/\(jn P).length<=1000/\NAt H (.ref d) (gT t) S/\(D3 t P->∀p H',Aw H H'->H' p=some (.tup (OK.map V.str))->Q (.ref p) H')/\(¬D3 t P->∀p H',Aw H H'->H' p=some (.tup ((Ls P).map V.str))->Q (.ref p) H')
theorem Pm (T:Txt K mg C XC)(F:Fun K "_law_new" "_law_new" Ja f fd)(AN:Def P w K mg base 1 "_law_steps" ["_law_path_here"] (CA K))(Bm:Def P w K mg base 1 "_law_at" ["_law_tree","_law_steps_here"] (Ec K)):FnOk P w K mg base Ef 2 f fd ["_law_tree","_law_path_here"] (HE K):=by
 exists Ld
 ·obtain⟨d,P,t,S,rfl,_⟩:=h;rfl
 obtain⟨d,P,t,S,rfl,vP,lP,na,q1,q2⟩:=h;have hu:=C4 hr;refine⟨_,(!Ad (@Av _ _ (2) _ _ _ _ Ld.nd rfl ∅ (!AH AN ∅ rfl (!Aa (pv 1) (!Ab))) (by rfl) ∅) (!Ad (!AJ (@PW.pt _ _ _ (!D1 (!DT (!FZ (pv 2)) (by first|exact Bt _ (by decide) (by decide)|rfl)) (!D1 (!Ax (Uq hu) (pv 2) (!Bk (!Ab)) (AC _)) (!CM (!Cg (!Bq (!AA Bv (by rfl) T.b_isinstance AF (!Aa (!AH Bm ∅ rfl (!Aa (pv 0) (!Aa (!BA FF (pv 2) (!B6) (!BO (!Uj Rj (!Ag)))) (!Ab)))) (!Aa (!Gf rfl T.b_dict CD) (!Ab)))) (by intro _;rfl))))))) (!Af (!Aq (!Az (!Aa (!Aj) (!Aa (pv 1) (!Ab)))))) (!Ao)) (!Af (!Aq (!Az (!Aa (!Aj) (!Ab))))))),?_⟩
 try dsimp only[A4,Cx.nox,Cx.wish]
 refine Ap λN eN=>?_
 have bad:∀{H1:Hp},¬D3 t P->Aw H H1->∀p,H1 p=none->Q (.ref p) (upd H1 p (.tup ((Ls P).map V.str))):=λ{H1} n s p np=>q2 n p _ (s.trans (Ae np _)) Ac
 refine⟨_,rfl,P,rfl,vP,lP,λgp l H1 s1 h1=>?_,λng H1 s1=>?_⟩
 ·subst eN
  try dsimp only[AU]
  refine⟨_,rfl,_,rfl,As rfl ?_⟩;refine⟨_,rfl,MT,λp np=>?_⟩;have s2:=Ae np (.lst []);refine⟨l,p,_,_,rfl,rfl,AV.of (s2.get h1),AV.of Ac,by rw[cB];exact a5.mpr λ_ _=>rfl,rfl,_,rfl,?_⟩;generalize upd H1 p (.lst [])=H2 at s2;have s12:=s1.trans s2;show(if decide (P.map V.str=[])=true then _ else _)
  by_cases e:P=[]
  ·subst e;exact AG rfl ⟨_,rfl,Bs,bad (λz=>z.1 rfl) s12⟩
  ·refine As (aq λz=>e (cJ.mp z)) ?_;refine⟨_,rfl,_,rfl,_,rfl,_,rfl,l,_,rfl,AV.of (s2.get h1),λp3 np3=>?_⟩;rw[UT,<-List.map_dropLast];have s3:=Ae np3 (.lst (P.dropLast.map V.str));have s13:=s12.trans s3;have na3:=na.same s13;generalize hH3:upd H2 p3 (.lst (P.dropLast.map V.str))=H3 at s3 s13 na3;have h3:H3 p3=some (.lst (P.dropLast.map V.str)):=by rw[<-hH3];exact Ac
   have ep:D3 t P↔gT t P.dropLast=some none:=by
    unfold D3;rw[Qj,bP];exact⟨λz=>z.2.2,λz=>⟨e,gp,z⟩⟩
   refine⟨_,gT t,S,P.dropLast,p3,rfl,h3,na3,λgn=>?_,λv' S' gs na' _=>?_⟩
   ·refine⟨_,_,_,_,rfl,.non,Vl K,_,rfl,AG rfl ⟨_,rfl,Bs,bad (λz=>by rw[ep.mp z] at gn;cases gn) s13⟩⟩
   ·obtain⟨t',ty,kt,ev⟩:=HJ na' K;rw[aJ] at ev;refine⟨_,_,_,_,rfl,ty,kt,_,rfl,?_⟩;rw[ev]
    by_cases c:gT t P.dropLast=some none
    ·rw[av c];exact As rfl ⟨CH,λp9 np9=>q1 (ep.mpr c) p9 _ (s13.trans (Ae np9 _)) Ac⟩
    ·rw[aq c];exact AG rfl ⟨_,rfl,Bs,bad (λz=>c (ep.mp z)) s13⟩
 ·subst eN
  try dsimp only[AU]
  exact⟨_,rfl,_,rfl,AG rfl ⟨_,rfl,Bs,bad (λz=>ng z.2.1) s1⟩⟩
def FK (K:W.Frag):Sp:=λvs H Q _=>∃(d:Addr) (P:List Str) (t:AM) (S:Addr->Prop),vs=[.ref d,.str (jn P)]/\CP P/\(jn P).length<=1000/\NAt H (.ref d) (gT t) S/\(∀p∈t,Gp p.1)/\(gT t P≠none->∀p H',Aw H H'->H' p=some (.tup (OK.map V.str))->Q (.ref p) H')/\(gT t P=none->∀p H',Aw H H'->H' p=some (.tup ((Ls P).map V.str))->Q (.ref p) H')
theorem Qt {t:AM}(h:∀p∈t,Gp p.1){P:List Str}(e:gT t P≠none):Gp P:=by
 by_cases c:P=[]
 ·rw[c];exact⟨(λ_ h=>nomatch h),by decide⟩
 ·rw[BZ c] at e;cases el:lk t P with
  |none=>exact absurd el e
  |some v=>exact h _ (Cq el)
theorem Na (T:Txt K mg C XC)(F:Fun K "_law_there" "_law_there" GV f fd)(AN:Def P w K mg base 1 "_law_steps" ["_law_path_here"] (CA K))(Bm:Def P w K mg base 1 "_law_at" ["_law_tree","_law_steps_here"] (Ec K)):FnOk P w K mg base Ef 2 f fd ["_law_tree","_law_path_here"] (FK K):=by
 exists IZ
 ·obtain⟨d,P,t,S,rfl,_⟩:=h;rfl
 obtain⟨d,P,t,S,rfl,vP,lP,na,tg,q1,q2⟩:=h;refine⟨_,(!Ad (@Av _ _ (2) _ _ _ _ IZ.nd rfl ∅ (!AH AN ∅ rfl (!Aa (pv 1) (!Ab))) (by rfl) ∅) (!Ad (!AJ (@PW.pt _ _ _ (!D1 (!DT (!FZ (pv 2)) (by first|exact Bt _ (by decide) (by decide)|rfl)) (!CM (!DT (!FZ (!AH Bm ∅ rfl (!Aa (pv 0) (!Aa (pv 2) (!Ab))))) (by first|exact Bt _ (by decide) (by decide)|rfl))))) (!Af (!Aq (!Az (!Aa (!Aj) (!Aa (pv 1) (!Ab)))))) (!Ao)) (!Af (!Aq (!Az (!Aa (!Aj) (!Ab))))))),?_⟩
 try dsimp only[A4,Cx.nox,Cx.wish]
 refine Ap λN eN=>?_
 have bad:∀{H1:Hp},gT t P=none->Aw H H1->∀p,H1 p=none->Q (.ref p) (upd H1 p (.tup ((Ls P).map V.str))):=λ{H1} n s p np=>q2 n p _ (s.trans (Ae np _)) Ac
 refine⟨_,rfl,P,rfl,vP,lP,λgp l H1 s1 h1=>?_,λng H1 s1=>?_⟩
 ·subst eN
  try dsimp only[AU]
  refine⟨_,rfl,_,rfl,As rfl ?_⟩;refine⟨_,rfl,_,rfl,_,gT t,S,P,l,rfl,h1,na.same s1,λgn=>?_,λv' S' gs na' _=>?_⟩
  ·exact⟨_,rfl,AG rfl ⟨_,rfl,Bs,bad gn s1⟩⟩
  ·have nnn:decide (v'=.non)=false:=by
    rcases na'.gv with⟨c,rfl,_⟩|⟨dx,_,rfl,_,_⟩<;>rfl
   exact⟨_,rfl,As nnn ⟨CH,λp9 np9=>q1 gs p9 _ (s1.trans (Ae np9 _)) Ac⟩⟩
 ·subst eN
  try dsimp only[AU]
  exact⟨_,rfl,_,rfl,AG rfl ⟨_,rfl,Bs,bad (dN λz=>ng (Qt tg z)) s1⟩⟩
def Po (H:Hp)(p:Addr)(ws:List Str)(d:Addr):Prop:=∃w,H p=some (.tup [.ref w,.ref d])/\H w=some (.tup (ws.map V.str))
abbrev YO (P:List Str):List Str:=[PySem.Str.ofString "twice",jn P]
def Lb (K:W.Frag):Sp:=λvs H Q _=>∃(d:Addr) (P:List Str) (t:AM) (S:Addr->Prop) (nd:V) (n:G×(Addr->Prop)),vs=[.ref d,.str (jn P),nd]/\CP P/\(jn P).length<=1000/\NAt H (.ref d) (gT t) S/\Bd (gT t)/\NAt H nd n.1 n.2/\
 (¬D3 t P->∀p H',Aw H H'->Po H' p (Ls P) d->Q (.ref p) H')/\(D3 t P->gT t P≠none->∀p H',Aw H H'->Po H' p (YO P) d->Q (.ref p) H')/\
 (D3 t P->gT t P=none->∀p d' S' H',Aw H H'->NAt H' (.ref d') (NA (some n.1) (gT t) P) S'->(∀a,S' a->S a\/n.2 a\/H a=none)->Po H' p OK d'->Q (.ref p) H')
theorem Pl (T:Txt K mg C XC)(F:Fun K "_law_put" "_law_put" JC f fd)(D8:Def P w K mg base 2 "_law_new" ["_law_tree","_law_path_here"] (HE K))(Bu:Def P w K mg base 13 "_law_with" ["_law_tree","_law_steps_here","_law_node"] (EX K))(Bm:Def P w K mg base 1 "_law_at" ["_law_tree","_law_steps_here"] (Ec K))(AN:Def P w K mg base 1 "_law_steps" ["_law_path_here"] (CA K)):FnOk P w K mg base Ef 14 f fd ["_law_tree","_law_path_here","_law_node"] (Lb K):=by
 exists HF
 ·obtain⟨d,P,t,S,nd,n,rfl,_⟩:=h;rfl
 obtain⟨d,P,t,S,nd,n,rfl,vP,lP,na,bd,nn,q1,q2,q3⟩:=h;have hu:=C4 hr;have hu9:=Mc hr;refine⟨_,(!Ad (@Av _ _ (3) _ _ _ _ HF.nd rfl ∅ (!AH D8 ∅ rfl (!Aa (pv 0) (!Aa (pv 1) (!Ab)))) (by rfl) ∅) (!Ad (!AJ (@PW.pt _ _ _ (!Kr (!Ax (O3 hu9) (pv 3) (!Az (!Aa (!Aj) (!Ab))) (AC _)) (!IF (!DT (!RK (!AH Bm ∅ rfl (!Aa (pv 0) (!Aa (!AH AN ∅ rfl (!Aa (pv 1) (!Ab))) (!Ab))))) (by first|exact Bt _ (by decide) (by decide)|rfl))))) (!Af (@Av _ _ (3) _ _ _ _ HF.nd rfl ∅ (!Az (!Aa (!Aj) (!Aa (pv 1) (!Ab)))) (by rfl) ∅)) (!Ao)) (!Ad (!AJ (!Ax (Kp hu9) (pv 3) (!Az (!Aa (!Aj) (!Ab))) (AC _)) (!Af (!Aq (!Az (!Aa (pv 3) (!Aa (pv 0) (!Ab)))))) (!Ao)) (!Af (!Aq (!Az (!Aa (pv 3) (!Aa (!AH Bu ∅ rfl (!Aa (pv 0) (!Aa (!AH AN ∅ rfl (!Aa (pv 1) (!Ab))) (!Aa (pv 2) (!Ab))))) (!Ab))))))))),?_⟩
 try dsimp only[A4,Cx.nox,Cx.wish]
 refine Ap λN eN=>?_
 have one:∀{H1:Hp} {p:Addr} {xs:List Str},H1 p=some (.tup (xs.map V.str))->∀q,H1 q=none->(upd H1 q (.tup [.ref p,.ref d])) q=some (.tup [.ref p,.ref d]):=λ_ _ _=>Ac
 refine⟨_,rfl,_,rfl,d,P,t,S,rfl,vP,lP,na,λpk p H1 s1 h1=>?_,λnpk p H1 s1 h1=>?_⟩
 ·subst eN
  try dsimp only[AU]
  refine⟨_,rfl,CH,λp2 np2=>?_⟩;have s2:=Ae np2 (.tup (OK.map V.str));have h2:(upd H1 p2 (.tup (OK.map V.str))) p2=some (.tup (OK.map V.str)):=Ac
  change Et false (.ref p) (.ref p2) (upd H1 p2 (.tup (OK.map V.str))) _
  generalize upd H1 p2 (.tup (OK.map V.str))=H2 at s2 h2 ⊢;have s12:=s1.trans s2;refine Lm false (s2.get h1) h2 ⟨_,rfl,?_⟩;refine AG rfl ?_;refine⟨_,rfl,_,rfl,P,rfl,vP,lP,λgp l H3 s3 h3=>?_,λng=>absurd pk.2.1 ng⟩;have s13:=s12.trans s3;have hp3:=(s2.trans s3).get h1;refine⟨_,gT t,S,P,l,rfl,h3,na.same s13,λgn=>?_,λv' S' gs na' _=>?_⟩
  ·refine⟨_,rfl,As rfl ?_⟩
   try dsimp only[AZ]
   refine⟨_,rfl,CH,λp4 np4=>?_⟩;have s4:=Ae np4 (.tup (OK.map V.str));have h4:(upd H3 p4 (.tup (OK.map V.str))) p4=some (.tup (OK.map V.str)):=Ac
   change Et true (.ref p) (.ref p4) (upd H3 p4 (.tup (OK.map V.str))) _
   generalize upd H3 p4 (.tup (OK.map V.str))=H4 at s4 h4 ⊢;have s14:=s13.trans s4;have hp4:=s4.get hp3;refine Lm true hp4 h4 ⟨_,rfl,?_⟩;refine As rfl ?_;refine⟨_,rfl,_,rfl,_,rfl,P,rfl,vP,lP,λ_ l5 H5 s5 h5=>?_,λng=>absurd pk.2.1 ng⟩;have s15:=s14.trans s5;refine⟨_,rfl,d,l5,gT t,S,P,nd,some n,rfl,h5,pk.1,(by have:=pk.2.1.2;omega),pk.2.1.1,na.same s15,bd,nn.same s15,(by have:=pk.2.2;rw[Qj,bP] at this;exact this),(λz=>by cases z),λd' S' H6 s6 nd' na6 sub=>?_⟩;refine⟨Bs,λp7 np7=>?_⟩;have s7:=Ae np7 (.tup [V.ref p,V.ref d']);exact q3 pk gn p7 d' S' _ ((s15.trans s6).trans s7) (na6.same s7) (λa ha=>(sub a ha).imp id λz=>z.imp id λz=>s15.free z) ⟨p,Ac,s7.get (s6.get (s5.get hp4))⟩
  ·have nnn:decide (v'=.non)=false:=by
    rcases na'.gv with⟨c,rfl,_⟩|⟨dx,_,rfl,_,_⟩<;>rfl
   refine⟨_,rfl,AG (by rw[nnn];rfl) ?_⟩;refine⟨_,rfl,Bs,λp4 np4=>?_⟩;have s4:=Ae np4 (.tup ((YO P).map V.str));have h4:(upd H3 p4 (.tup ((YO P).map V.str))) p4=some (.tup ((YO P).map V.str)):=Ac;generalize hH4:upd H3 p4 (.tup ((YO P).map V.str))=H4 at s4 h4
   change (upd H3 p4 (.tup [V.str (PySem.Str.ofString "twice"),V.str (jn P)]))=H4 at hH4
   try dsimp only[AZ,AU]
   rw[hH4];refine⟨_,rfl,CH,λp5 np5=>?_⟩;have s5:=Ae np5 (.tup (OK.map V.str));have h5:(upd H4 p5 (.tup (OK.map V.str))) p5=some (.tup (OK.map V.str)):=Ac
   change Et true (.ref p4) (.ref p5) (upd H4 p5 (.tup (OK.map V.str))) _
   generalize upd H4 p5 (.tup (OK.map V.str))=H5 at s5 h5 ⊢;refine Md true (s5.get h4) h5 (λz=>by cases z) ⟨_,rfl,?_⟩;refine AG rfl ⟨_,rfl,_,rfl,Bs,λp6 np6=>?_⟩;have s6:=Ae np6 (.tup [V.ref p4,V.ref d]);exact q2 pk gs p6 _ (((s13.trans s4).trans s5).trans s6) ⟨p4,Ac,s6.get (s5.get h4)⟩
 ·subst eN
  try dsimp only[AU]
  refine⟨_,rfl,CH,λp2 np2=>?_⟩;have s2:=Ae np2 (.tup (OK.map V.str));have h2:(upd H1 p2 (.tup (OK.map V.str))) p2=some (.tup (OK.map V.str)):=Ac
  change Et false (.ref p) (.ref p2) (upd H1 p2 (.tup (OK.map V.str))) _
  generalize upd H1 p2 (.tup (OK.map V.str))=H2 at s2 h2 ⊢;have s12:=s1.trans s2;refine Md false (s2.get h1) h2 (Hu P) ⟨_,rfl,?_⟩;refine As rfl ?_
  try dsimp only[AZ]
  refine⟨_,rfl,CH,λp5 np5=>?_⟩;have s5:=Ae np5 (.tup (OK.map V.str));have h5:(upd H2 p5 (.tup (OK.map V.str))) p5=some (.tup (OK.map V.str)):=Ac
  change Et true (.ref p) (.ref p5) (upd H2 p5 (.tup (OK.map V.str))) _
  generalize upd H2 p5 (.tup (OK.map V.str))=H5 at s5 h5 ⊢;have hp5:=s5.get (s2.get h1);refine Md true hp5 h5 (Hu P) ⟨_,rfl,?_⟩;refine AG rfl ⟨_,rfl,_,rfl,Bs,λp6 np6=>?_⟩;have s6:=Ae np6 (.tup [V.ref p,V.ref d]);exact q1 npk p6 _ ((s12.trans s5).trans s6) ⟨p,Ac,s6.get hp5⟩
theorem NAt.clo {H:Hp}{v:V}{g:G}{S:Addr->Prop}(h:NAt H v g S):∀{P R:List Str},g (P++R)≠none->R≠[]->g P=some none:=by
 induction h with
 |file c=>
  intro P R h n;refine absurd (ai λz=>n (cg.mp z).2) h
 |fold d ch hd nd hc no nb ih=>
  intro P R h n;cases P with
  |nil=>rfl
  |cons s P=>
   rw[cK] at h;cases ef:ch.find? λx=>decide (x.1=s) with
   |none=>rw[IG ef] at h;exact absurd rfl h
   |some x=>
    rw[E4 ef] at h ⊢;exact ih x (GQ ef).1 h n
def pre (P Q:List Str):Prop:=Q.take P.length=P
theorem BE {P Q:List Str}:pre P Q↔∃R,Q=P++R:=by
 unfold pre;constructor
 ·intro h;have e:=(dw P.length Q).symm;rw[h] at e;exact⟨Q.drop P.length,e⟩
 ·rintro⟨R,rfl⟩
  exact cZ rfl
open Classical in
theorem Lx (n:Option G):∀(g:G) (P Q:List Str),NA n g P Q=if pre P Q then(match n with|some n=>n (Q.drop P.length)|none=>none) else g Q
 |g,[],Q=>by
  rw[ak (BE.mpr ⟨Q,rfl⟩:pre [] Q)];cases n<;>rfl
 |g,s::P,[]=>by
  rw[ai λz=>by obtain⟨R,e⟩:=BE.mp z;cases e];rfl
 |g,s::P,z::R=>by
  show(if z=s then NA n (λR=>g (s::R)) P R else g (z::R))=_
  by_cases c:z=s
  ·subst c;rw[ak rfl,Lx n _ P R]
   by_cases d:pre P R
   ·rw[ak d,ak (by obtain⟨T,e⟩:=BE.mp d;exact BE.mpr ⟨T,by rw[e];rfl⟩)];rfl
   ·rw[ai d,ai λy=>d (by obtain⟨T,e⟩:=BE.mp y;exact BE.mpr ⟨T,(cf e).2⟩)]
  ·rw[ai c,ai λy=>c (by obtain⟨T,e⟩:=BE.mp y;exact(cf e).1)]
theorem FS (t:AM)(p:List Str×Option Str)(Q:List Str):lk (Ei t p) Q=if Q=p.1 then some p.2 else lk t Q:=by
 unfold Ei
 split
 ·next h=>
  have key:∀t:AM,lk (t.map λq=>if q.1=p.1 then(q.1,p.2) else q) Q=if Q=p.1 then(lk t Q).map λ_=>p.2 else lk t Q:=λt=>by
   induction t with
   |nil=>by_cases c:Q=p.1<;>simp[c,On]
   |cons y t ih=>
    rw[aF,CG,CG,ih]
    by_cases c:Q=p.1
    ·rw[ak c,ak c]
     by_cases d:y.1=p.1
     ·rw[ak d,ak (d.trans c.symm),ak (d.trans c.symm)];rfl
     ·rw[ai d,ai λe:y.1=Q=>d (e.trans c),ai λe:y.1=Q=>d (e.trans c)]
    ·rw[ai c,ai c]
     by_cases d:y.1=p.1
     ·rw[ak d,ai λe:y.1=Q=>c (e.symm.trans d),ai λe:y.1=Q=>c (e.symm.trans d)]
     ·rw[ai d]
  rw[key]
  by_cases c:Q=p.1
  ·rw[ak c,ak c];obtain⟨y,hy,e⟩:=bV.mp h;cases el:lk t Q with
   |none=>
    unfold lk at el;exact absurd (av ((aE e).trans c.symm)) (df.mp (eG.mp el) y hy)
   |some v=>rfl
  ·rw[ai c,ai c]
 ·next h=>
  have key:∀t:AM,lk (t++[p]) Q=match lk t Q with|some v=>some v|none=>if p.1=Q then some p.2 else none:=λt=>by
   induction t with
   |nil=>rw[cx,CG,On]
   |cons y t ih=>
    rw[cK,CG,CG,ih]
    by_cases d:y.1=Q
    ·rw[ak d,ak d]
    ·rw[ai d,ai d]
  rw[key]
  by_cases c:Q=p.1
  ·rw[ak c];have el:lk t Q=none:=by
    unfold lk;rw[eG,df];exact λy hy e=>h (bV.mpr ⟨y,hy,av ((aE e).trans c)⟩)
   rw[el];exact ak c.symm
  ·rw[ai c];cases lk t Q with
   |none=>exact ai λe=>c e.symm
   |some v=>rfl
theorem JN:∀{more t:AM},(more.map (·.1)).Nodup->∀Q,lk (Bz t more) Q=match lk more Q with|some v=>some v|none=>lk t Q
 |[],t,_,Q=>rfl
 |p::more,t,nd,Q=>by
  rw[aF,bw] at nd;show lk (Bz (Ei t p) more) Q=_;rw[JN nd.2,FS,CG]
  by_cases c:p.1=Q
  ·rw[ak c,ak c.symm];have:lk more Q=none:=by
    cases el:lk more Q with
    |none=>rfl
    |some v=>exact absurd (aj.mpr ⟨_,Cq el,c.symm⟩) nd.1
   rw[this]
  ·rw[ai c,ai λe=>c e.symm]
theorem LD {P O:List Str}:Dq P O=true↔∃R,R≠[]/\P=O++R:=by
 unfold Dq;rw[aQ,bP,bP];constructor
 ·rintro⟨h1,h2⟩
  obtain⟨R,rfl⟩:=BE.mp h2;refine⟨R,λz=>?_,rfl⟩;rw[z,aJ] at h1;omega
 ·rintro⟨R,n,rfl⟩
  have:=iq.mpr n;exact⟨by rw[ar];omega,cZ rfl⟩
theorem LI {P Q:List Str}:pre P Q↔Q=P\/Dq Q P=true:=by
 rw[BE,LD];constructor
 ·rintro⟨R,rfl⟩
  by_cases c:R=[]
  ·exact .inl (by rw[c,aJ])
  ·exact .inr ⟨R,c,rfl⟩
 ·rintro(rfl|⟨R,_,rfl⟩)
  ·exact⟨[],(aJ _).symm⟩
  ·exact⟨R,rfl⟩
open Classical in
theorem Ra (t:AM)(P Q:List Str):lk (E3 t P) Q=if pre P Q then none else lk t Q:=by
 unfold E3
 induction t with
 |nil=>by_cases c:pre P Q<;>simp[c,On]
 |cons y t ih=>
  rw[bj]
  by_cases d:pre P y.1
  ·have e:(!decide (y.1=P) && !Dq y.1 P)=false:=by
    rcases LI.mp d with h|h
    ·rw[av h];rfl
    ·rw[h];simp
   rw[ai (by rw[e];exact ay),ih,CG]
   by_cases c:pre P Q
   ·rw[ak c,ak c]
   ·rw[ai c,ai c,ai λe:y.1=Q=>c (e▸d)]
  ·have e:(!decide (y.1=P) && !Dq y.1 P)=true:=by
    rw[aq λz=>d (LI.mpr (.inl z)),cj.mpr λz=>d (LI.mpr (.inr z))];rfl
   rw[ak e,CG,CG,ih]
   by_cases c:pre P Q
   ·rw[ak c,ak c,ai λe:y.1=Q=>d (e▸c)]
   ·rw[ai c,ai c]
theorem Ly {A B C:List Str}(h:A++B=A++C):B=C:=List.append_cancel_left h
theorem Sj {P to R:List Str}(c:R≠[]):∀ts:AM,lk ((ts.filter λp=>Dq p.1 P).map λp=>(to++p.1.drop P.length,p.2)) (to++R)=lk ts (P++R)
 |[]=>rfl
 |y::ts=>by
  have ih:=Sj (P:=P) (to:=to) c ts;rw[bj,CG]
  by_cases b:Dq y.1 P=true
  ·rw[ak b,aF,CG];obtain⟨T,_,e⟩:=LD.mp b;have k:y.1.drop P.length=T:=by rw[e];exact c7 rfl
   by_cases d:T=R
   ·rw[ak (show to++y.1.drop P.length=to++R by rw[k,d]),ak (by rw[e,d])]
   ·rw[ai (show ¬to++y.1.drop P.length=to++R from λz=>d (by rw[<-k];exact Ly z)),ai λz=>d (Ly (e.symm.trans z))];exact ih
  ·rw[ai b,ai λz=>b (LD.mpr ⟨R,c,z⟩)];exact ih
theorem Xz {ts:AM}{P to:List Str}(e0:lk ts []=none)(h:gT ts P≠none)(R:List Str):lk (DD ts P to) (to++R)=gT ts (P++R):=by
 unfold DD;rw[CG]
 by_cases c:R=[]
 ·rw[ak (by rw[c,aJ]),c,aJ]
  by_cases d:P=[]
  ·rw[d,e0];rfl
  ·rw[BZ d] at h ⊢;cases el:lk ts P with
   |none=>exact absurd el h
   |some v=>rfl
 ·rw[ai λz=>c (dM.mp z.symm),BZ λz=>c (cg.mp z).2];exact Sj c ts
theorem NF {ts:AM}{P to Q:List Str}(h:¬pre to Q):lk (DD ts P to) Q=none:=by
 cases el:lk (DD ts P to) Q with
 |none=>rfl
 |some v=>
  refine absurd ?_ h;rcases aM.mp (Cq el) with z|z
  ·cases z;exact BE.mpr ⟨[],(aJ _).symm⟩
  ·obtain⟨y,_,e⟩:=aj.mp z;cases e;exact BE.mpr ⟨_,rfl⟩
theorem QK {ts:AM}(nd:(ts.map (·.1)).Nodup)(P to:List Str):((DD ts P to).map (·.1)).Nodup:=by
 unfold DD;rw[aF,bw,az];have hb:∀p∈ts.filter λp=>Dq p.1 P,∃R,R≠[]/\p.1=P++R/\p.1.drop P.length=R:=λp hp=>by
  obtain⟨R,n,e⟩:=LD.mp (aV.mp hp).2;exact⟨R,n,e,by rw[e];exact c7 rfl⟩
 refine⟨λz=>?_,?_⟩
 ·obtain⟨p,hp,e⟩:=aj.mp z;obtain⟨R,n,_,k⟩:=hb p hp;have e:to++p.1.drop P.length=to:=e;rw[k] at e;exact n (dM.mp e)
 ·have nd2:=nd.sublist ((List.filter_sublist (p:=λp:List Str×Option Str=>Dq p.1 P) (l:=ts)).map (λp=>p.1));rw[List.Nodup,bH] at nd2 ⊢;refine gL (λ{x y} hx hy n e=>n ?_) nd2;obtain⟨R,_,e1,k1⟩:=hb x hx;obtain⟨U,_,e2,k2⟩:=hb y hy;have e:to++x.1.drop P.length=to++y.1.drop P.length:=e;rw[k1,k2] at e;rw[e1,e2,Ly e]
def X3 (t:AM):Prop:=∀{P R:List Str},gT t (P++R)≠none->R≠[]->gT t P=some none
theorem Pu {t:AM}(tv:TrV t):lk t []=none:=by
 cases el:lk t [] with
 |none=>rfl
 |some v=>exact absurd rfl (tv.vp _ (Cq el)).2
theorem Ub {t:AM}(cl:X3 t){P:List Str}(nP:P≠[])(nf:gT t P≠some none)(v:Option Str)(g:G)(hg:∀R,g R=if R=[] then some v else none)(Q:List Str):NA (some g) (gT t) P Q=gT (Bz t [(P,v)]) Q:=by
 rw[Lx]
 by_cases c:Q=[]
 ·subst c;rw[ai λz=>nP (by obtain⟨R,e⟩:=BE.mp z;exact(cg.mp e.symm).1)];rfl
 ·rw[BZ (t:=Bz t [(P,v)]) c];show _=lk (Ei t (P,v)) Q;rw[FS]
  by_cases d:pre P Q
  ·rw[ak d];obtain⟨R,rfl⟩:=BE.mp d;show g ((P++R).drop P.length)=_;rw[c7 rfl,hg]
   by_cases e:R=[]
   ·rw[ak e,ak (by rw[e,aJ])]
   ·rw[ai e,ai λz=>e (dM.mp z),<-BZ c];exact(dN λz=>nf (cl z e)).symm
  ·rw[ai d,ai λz=>d (BE.mpr ⟨[],by rw[aJ];exact z⟩),BZ c]
theorem Sg {t ts:AM}(cl:X3 t)(tv:TrV ts){P to:List Str}(nto:to≠[])(fr:gT t to=none)(h:gT ts P≠none)(Q:List Str):NA (some λR=>gT ts (P++R)) (gT t) to Q=gT (Bz t (DD ts P to)) Q:=by
 rw[Lx]
 by_cases c:Q=[]
 ·subst c;rw[ai λz=>nto (by obtain⟨R,e⟩:=BE.mp z;exact(cg.mp e.symm).1)];rfl
 ·rw[BZ (t:=Bz t (DD ts P to)) c,JN (QK tv.nd P to)]
  by_cases d:pre to Q
  ·rw[ak d];obtain⟨R,rfl⟩:=BE.mp d;rw[Xz (Pu tv) h];show gT ts (P++(to++R).drop to.length)=_;rw[c7 rfl];cases e:gT ts (P++R) with
   |some v=>rfl
   |none=>
    show none=lk t (to++R);rw[<-BZ c]
    by_cases e2:R=[]
    ·rw[e2,aJ];exact fr.symm
    ·exact Eq.symm (dN λz=>by rw[cl z e2] at fr;cases fr)
  ·rw[ai d,NF d,BZ c]
theorem Vc {t:AM}{P:List Str}(nP:P≠[])(Q:List Str):NA none (gT t) P Q=gT (E3 t P) Q:=by
 rw[Lx]
 by_cases c:Q=[]
 ·subst c;rw[ai λz=>nP (by obtain⟨R,e⟩:=BE.mp z;exact(cg.mp e.symm).1)];rfl
 ·rw[BZ c,BZ c,Ra]
theorem VT {t:AM}(cl:X3 t)(tv:TrV t){P to:List Str}(fr:gT t to=none)(h:gT t P≠none)(nb:¬pre P to)(Q:List Str):gT (E3 (Bz t (DD t P to)) P) Q=gT (Bz (E3 t P) (DD t P to)) Q:=by
 have nd:=QK tv.nd P to;unfold gT
 by_cases c:Q=[]
 ·rw[ak c,ak c]
 ·rw[ai c,ai c,Ra,JN nd,JN nd,Ra]
  by_cases d:pre P Q
  ·rw[ak d,ak d];have:lk (DD t P to) Q=none:=by
    refine NF λz=>?_
    obtain⟨R,e1⟩:=BE.mp d;obtain⟨U,e2⟩:=BE.mp z;have e:=e1.symm.trans e2;rcases List.append_eq_append_iff.mp e with⟨T,hT,_⟩|⟨T,hT,_⟩
    ·exact nb (BE.mpr ⟨T,hT⟩)
    ·by_cases n:T=[]
     ·exact nb (BE.mpr ⟨[],by rw[hT,n,aJ,aJ]⟩)
     ·have:=cl (P:=to) (R:=T) (by rw[<-hT];exact h) n;rw[this] at fr;cases fr
   rw[this]
  ·rw[ai d,ai d]
theorem Mf {α:Type}[DecidableEq α]:∀{l m:List α},l.Nodup->(∀x∈l,x∈m)->l.length<=m.length
 |[],_,_,_=>a6 _
 |a::l,m,nd,h=>by
  rw[bw] at nd;have ha:=h a aw;have:=Mf (m:=m.erase a) nd.2 λx hx=>(List.mem_erase_of_ne (λz=>nd.1 (by rw[<-z];exact hx))).mpr (h x (ao _ hx))
  rw[List.length_erase_of_mem ha] at this;have:0<m.length:=hG ha;rw[aS];omega
theorem Bd.of {t:AM}(tv:TrV t):Bd (gT t):=λL nd h=>by
 have:=Mf (m:=[]::t.map (·.1)) nd λP hP=>by
  by_cases c:P=[]
  ·rw[c];exact aw
  ·have:=h P hP;rw[BZ c] at this;cases el:lk t P with
   |none=>exact absurd el this
   |some v=>exact ao _ (aj.mpr ⟨_,Cq el,rfl⟩)
 rw[aS,aa] at this;have:=tv.few;omega
theorem OB (z:Str){i:Int}(h0:0<=i):AQ (PySem.Txt.slice z (some i) none)=(AQ z).drop i.toNat:=by
 have hz:=A3 z
 by_cases h:i<=z.length
 ·show AQ (StrLaws.sliceText z (some i) none)=_;rw[dB ⟨h0,by rw[hz];exact h⟩];refine aY ?_;rw[bF];show(AQ z).length-i.toNat<=(((AQ z).length:Int)-i).toNat;omega
 ·have e:PySem.Builtin.Str.strSliceIndices (some i) none 1 z.length=PySem.Builtin.Str.strSliceIndices (some (z.length:Int)) none 1 z.length:=by
   unfold PySem.Builtin.Str.strSliceIndices;have e1:(if i<0 then i+(z.length:Int) else i)=i:=ai (by omega);have e2:(if(z.length:Int)<0 then(z.length:Int)+(z.length:Int) else(z.length:Int))=z.length:=ai (by omega);simp only[e1,e2];have e3:max 0 (min i (z.length:Int))=max 0 (min (z.length:Int) z.length):=by omega
   rw[e3];simp only[if_pos (show(1:Int)>0 by decide)]
  show AQ (StrLaws.sliceText z (some i) none)=_;have e':StrLaws.sliceText z (some i) none=StrLaws.sliceText z (some (z.length:Int)) none:=by
   unfold StrLaws.sliceText;rw[e]
  rw[e',dB ⟨by omega,by rw[hz];omega⟩,dh (by omega:(AQ z).length<=i.toNat)];show List.take _ ((AQ z).drop ((z.length:Int)).toNat)=[];rw[dh (by omega),List.take_nil]
theorem WS (z:Str){a m:Int}(h0:0<=a)(h1:0<=m):PySem.Txt.slice (PySem.Txt.slice z (some a) none) (some m) none=PySem.Txt.slice z (some (a+m)) none:=by
 refine EY ?_;rw[OB _ h1,OB _ h0,OB _ (by omega:0<=a+m),List.drop_drop]
 congr 1
 omega
def Dd.cl (t:AM):Dd->Nat
 | .wr _ _ c=>c.length
 | .sp _ P a m z=>(match lk t P with|some (some c)=>(K70.RD c a m z).length|_=>0)
 |_=>0
def Qx (r:Rf ⊕ AM)(cl:Nat)(d:Addr)(W:Addr->Prop)(H:Hp)(Q:V->Hp->Prop):Prop:=
 (∀e,r=.inl e->∀p H',Aw H H'->Po H' p e.tx d->Q (.ref p) H')/\
 (∀t',r=.inr t'->(cl<=400->∀p d' S' H',Aw H H'->NAt H' (.ref d') (gT t') S'->(∀a,S' a->W a)->Po H' p OK d'->Q (.ref p) H')/\(400<cl->∀p H',Aw H H'->Po H' p Rf.many.tx d->Q (.ref p) H'))
def JH (K:W.Frag):Sp:=λvs H Q _=>∃(d r:Addr) (t:AM) (S W:Addr->Prop) (dd:Dd),vs=[.ref d,.ref r]/\H r=some (.tup dd.items)/\dd.Ok/\(∀s P,dd≠.fo s P)/\(∀s P,dd≠.rm s P)/\(∀s P R,dd≠.mv s P R)/\(∀s R n P,dd≠.cp s R n P)/\NAt H (.ref d) (gT t) S/\(∀a,S a->W a)/\(∀a,H a=none->W a)/\TrOk t/\Qx (dd.f t []) (dd.cl t) d W H Q
theorem TrOk.gp {t:AM}(h:TrOk t):∀p∈t,Gp p.1:=λp hp=>⟨(h.v.vp p hp).1,h.b.deep p hp⟩
theorem O7 (T:Txt K mg C XC)(F:Fun K "_law_file" "_law_file" Ij f fd)(D8:Def P w K mg base 2 "_law_new" ["_law_tree","_law_path_here"] (HE K))(AN:Def P w K mg base 1 "_law_steps" ["_law_path_here"] (CA K))(Bm:Def P w K mg base 1 "_law_at" ["_law_tree","_law_steps_here"] (Ec K))(Bu:Def P w K mg base 13 "_law_with" ["_law_tree","_law_steps_here","_law_node"] (EX K))(Cm:Def P w K mg base 2 "_law_there" ["_law_tree","_law_path_here"] (FK K)):FnOk P w K mg base Ef 14 f fd ["_law_tree","_law_deed_here"] (JH K):=by
 exists Co
 ·obtain⟨d,r,t,S,W,dd,rfl,_⟩:=h;rfl
 obtain⟨d,r,t,S,W,dd,rfl,hr9,ok,n1,n2,n3,n4,na,w1,w2,tk,q⟩:=h;have hu:=C4 hr;have hu9:=Mc hr;refine⟨_,(!Ad (@Av _ _ (2) _ _ _ _ Co.nd rfl ∅ (!An Ar (pv 1) (!Uj Rj (!Ag)) (λ_ _=>rfl)) (by rfl) ∅) (!Ad (!AJ (!Ax Ck (!An Ar (pv 1) (!Ag) (λ_ _=>rfl)) (!Aj) (AC _)) (!Ad (!AJ (!Ax (Kp hu9) (!AH Cm ∅ rfl (!Aa (pv 0) (!Aa (!An Ar (pv 1) (!Ag) (λ_ _=>rfl)) (!Ab)))) (!Az (!Aa (!Aj) (!Ab))) (AC _)) (!Af (!Aq (!Az (!Aa (!Az (!Aa (!Aj) (!Aa (!An Ar (pv 1) (!Ag) (λ_ _=>rfl)) (!Ab)))) (!Aa (pv 0) (!Ab)))))) (!Ao)) (!Ad (@Av _ _ (3) _ _ _ _ Co.nd rfl ∅ (!AH Bm ∅ rfl (!Aa (pv 0) (!Aa (!AH AN ∅ rfl (!Aa (!An Ar (pv 1) (!Ag) (λ_ _=>rfl)) (!Ab))) (!Ab)))) (by rfl) ∅) (!Ad (!AJ (!Bq (!AA Bv (by rfl) T.b_isinstance AF (!Aa (pv 3) (!Aa (!Gf rfl T.b_dict CD) (!Ab)))) (by intro _;rfl)) (!Af (!Aq (!Az (!Aa (!Az (!Aa (!Aj) (!Aa (!An Ar (pv 1) (!Ag) (λ_ _=>rfl)) (!Ab)))) (!Aa (pv 0) (!Ab)))))) (!Ao)) (!Ad (@Av _ _ (2) _ _ _ _ Co.nd rfl ∅ (!Ay AR (!BA GZ (pv 3) (!B6) (!BO (!An Ar (pv 1) (!Ag) (λ_ _=>rfl)))) (!An Ar (pv 1) (!Ag) (λ_ _=>rfl))) (by rfl) ∅) (!Af (@Av _ _ (2) _ _ _ _ Co.nd rfl ∅ (!Ay AR (pv 2) (!BA GZ (!BA GZ (pv 3) (!BO (!An Ar (pv 1) (!Ag) (λ_ _=>rfl))) (!B6)) (!BO (!An Ar (pv 1) (!Ag) (λ_ _=>rfl))) (!B6))) (by rfl) ∅)))))) (!Ao)) (!Ad (@Av _ _ (4) _ _ _ _ Co.nd rfl ∅ (!AH D8 ∅ rfl (!Aa (pv 0) (!Aa (!An Ar (pv 1) (!Ag) (λ_ _=>rfl)) (!Ab)))) (by rfl) ∅) (!Ad (!AJ (!Ax (Kp hu9) (pv 4) (!Az (!Aa (!Aj) (!Ab))) (AC _)) (!Af (!Aq (!Az (!Aa (pv 4) (!Aa (pv 0) (!Ab)))))) (!Ao)) (!Ad (@Av _ _ (5) _ _ _ _ Co.nd rfl ∅ (!AH AN ∅ rfl (!Aa (!An Ar (pv 1) (!Ag) (λ_ _=>rfl)) (!Ab))) (by rfl) ∅) (!Ad (!AJ (!Bq (!AA Bv (by rfl) T.b_isinstance AF (!Aa (!AH Bm ∅ rfl (!Aa (pv 0) (!Aa (pv 5) (!Ab)))) (!Aa (!Gf rfl T.b_dict CD) (!Ab)))) (by intro _;rfl)) (!Af (!Aq (!Az (!Aa (!Az (!Aa (!Aj) (!Aa (!An Ar (pv 1) (!Ag) (λ_ _=>rfl)) (!Ab)))) (!Aa (pv 0) (!Ab)))))) (!Ao)) (!Ad (!AJ (!Ax IQ (!AA DW (by rfl) T.b_len CO (!Aa (pv 2) (!Ab))) (!Ag) (AC _)) (!Af (!Aq (!Az (!Aa (!Az (!Aa (!Aj) (!Ab))) (!Aa (pv 0) (!Ab)))))) (!Ao)) (!Af (!Aq (!Az (!Aa (pv 4) (!Aa (!AH Bu ∅ rfl (!Aa (pv 0) (!Aa (pv 5) (!Aa (pv 2) (!Ab))))) (!Ab))))))))))))),?_⟩
 try dsimp only[A4,Cx.nox,Cx.wish]
 have cl:X3 t:=λh n=>na.clo h n
 have bd:=Bd.of tk.v;refine Ap λN1 eN1=>?_
 obtain⟨P,lst,vP,lP,i2,il⟩:∃(P:List Str) (lst:Str),CP P/\(jn P).length<=200/\KY dd.items 2=some (.str (jn P))/\KY dd.items (-1)=some (.str lst):=by
  cases dd with
  |wr s P c=>exact⟨P,c,ok.1.1,ok.1.2,rfl,rfl⟩
  |sp s P a m z=>exact⟨P,z,ok.1.1,ok.1.2,rfl,rfl⟩
  |fo s P=>exact absurd rfl (n1 s P)
  |rm s P=>exact absurd rfl (n2 s P)
  |mv s P R=>exact absurd rfl (n3 s P R)
  |cp s R n P=>exact absurd rfl (n4 s R n P)
 refine⟨_,rfl,_,rfl,r,_,_,_,rfl,rfl,AW.of hr9,il,?_⟩;subst eN1
 try dsimp only[AU]
 refine Ap λN eN=>?_
 have tail:∀(c:Str) (o3:Option V) H1,Aw H H1->c.length<=100000->Qx (EN P c t []) c.length d W H1 Q->N [some (.ref d),some (.ref r),some (.str c),o3,none,none] H1:=λc o3 H1 s1 lc q=>by
  subst eN
  try dsimp only[AU]
  have hr1:=s1.get hr9;have na1:=na.same s1
  clear n1 n2 n3 n4 il
  refine Ap λN2 eN2=>?_
  refine⟨_,rfl,_,rfl,r,_,_,_,rfl,rfl,AW.of hr1,i2,d,P,t,S,rfl,vP,by omega,na1,λpk p H2 s2 h2=>?_,λnpk p H2 s2 h2=>?_⟩
  ·subst eN2
   try dsimp only[AU]
   refine⟨_,rfl,CH,λp3 np3=>?_⟩;have s3:=Ae np3 (.tup (OK.map V.str));have h3:(upd H2 p3 (.tup (OK.map V.str))) p3=some (.tup (OK.map V.str)):=Ac
   change Et true (.ref p) (.ref p3) (upd H2 p3 (.tup (OK.map V.str))) _
   generalize upd H2 p3 (.tup (OK.map V.str))=H3 at s3 h3 ⊢;have hp3:=s3.get h2;refine Lm true hp3 h3 ⟨_,rfl,As rfl ?_⟩
   try dsimp only[AZ]
   have s13:=s2.trans s3;refine Ap λN3 eN3=>?_
   refine⟨_,rfl,r,_,_,_,rfl,rfl,AW.of (s13.get hr1),i2,P,rfl,vP,by omega,λgp l H4 s4 h4=>?_,λng=>absurd pk.2.1 ng⟩;subst eN3
   try dsimp only[AU]
   have s14:=s13.trans s4;have hp4:=s4.get hp3;refine Ap λN4 eN4=>?_
   have rest:gT t P≠some none->N4 [some (.ref d),some (.ref r),some (.str c),o3,some (.ref p),some (.ref l)] H4:=λnf=>by
    have ef:EN P c t []=.inr (Bz t [(P,some c)]):=(ak pk).trans (ai (by rw[Qj,aq nf];exact ay));obtain⟨qa,qb⟩:=q.2 _ ef;subst eN4
    try dsimp only[AZ]
    refine⟨_,rfl,c,rfl,small (by omega),_,_,rfl,rfl,_,rfl,DQ (λh=>?_) (λh=>?_)⟩
    ·have h':=aE h;refine⟨CH,λp5 np5=>?_⟩;have s5:=Ae np5 (.tup (Rf.many.tx.map V.str));have h5:(upd H4 p5 (.tup (Rf.many.tx.map V.str))) p5=some (.tup (Rf.many.tx.map V.str)):=Ac;generalize hH:upd H4 p5 (.tup (Rf.many.tx.map V.str))=H5 at s5 h5
     change upd H4 p5 (.tup [V.str (PySem.Str.ofString "too many")])=H5 at hH
     rw[hH];refine⟨_,rfl,Bs,λp6 np6=>?_⟩;have s6:=Ae np6 (.tup [V.ref p5,V.ref d]);exact qb (by omega) p6 _ ((s14.trans s5).trans s6) ⟨p5,Ac,s6.get h5⟩
    ·have h':=dec_false h;refine⟨_,rfl,_,rfl,_,rfl,_,rfl,d,l,gT t,S,P,.str c,some (gC c,λ_=>False),rfl,h4,pk.1,(by have:=pk.2.1.2;omega),pk.2.1.1,na1.same s14,bd,.file c,(by have:=pk.2.2;rw[Qj,bP] at this;exact this),(λz=>by cases z),λd' S' H6 s6 nd' na6 sub=>?_⟩;refine⟨Bs,λp7 np7=>?_⟩;have s7:=Ae np7 (.tup [V.ref p,V.ref d']);exact qa (by omega) p7 d' S' _ ((s14.trans s6).trans s7) ((na6.eq (Ub cl pk.1 nf (some c) (gC c) λR=>rfl)).same s7) (λa ha=>(sub a ha).elim (w1 a) λz=>z.elim (λz=>z.elim) λz=>w2 a ((s1.trans s14).free z)) ⟨p,Ac,s7.get (s6.get hp4)⟩
   refine⟨_,rfl,_,rfl,_,gT t,S,P,l,rfl,h4,na1.same s14,λgn=>?_,λv' S' gs na' _=>?_⟩
   ·exact⟨_,_,_,_,rfl,.non,Vl K,_,rfl,As rfl (rest (by rw[gn];exact λz=>by cases z))⟩
   ·obtain⟨t',ty,kt,ev⟩:=HJ na' K;rw[aJ] at ev;refine⟨_,_,_,_,rfl,ty,kt,_,rfl,?_⟩;rw[ev]
    by_cases c2:gT t P=some none
    ·rw[av c2];refine AG rfl ⟨_,rfl,r,_,_,_,rfl,rfl,AW.of (s14.get hr1),i2,Bs,λp5 np5=>?_⟩;have s5:=Ae np5 (.tup ((Ls P).map V.str));have h5:(upd H4 p5 (.tup ((Ls P).map V.str))) p5=some (.tup ((Ls P).map V.str)):=Ac;generalize hH:upd H4 p5 (.tup ((Ls P).map V.str))=H5 at s5 h5
     change upd H4 p5 (.tup [V.str (PySem.Str.ofString "no path"),V.str (jn P)])=H5 at hH
     rw[hH];refine⟨_,rfl,Bs,λp6 np6=>?_⟩;have s6:=Ae np6 (.tup [V.ref p5,V.ref d]);exact q.1 (.noPath (jn P)) ((ak pk).trans (ak (by rw[Qj,av c2]))) p6 _ ((s14.trans s5).trans s6) ⟨p5,Ac,s6.get h5⟩
    ·rw[aq c2];exact As rfl (rest c2)
  ·subst eN2
   try dsimp only[AU]
   refine⟨_,rfl,CH,λp3 np3=>?_⟩;have s3:=Ae np3 (.tup (OK.map V.str));have h3:(upd H2 p3 (.tup (OK.map V.str))) p3=some (.tup (OK.map V.str)):=Ac
   change Et true (.ref p) (.ref p3) (upd H2 p3 (.tup (OK.map V.str))) _
   generalize upd H2 p3 (.tup (OK.map V.str))=H3 at s3 h3 ⊢;have hp3:=s3.get h2;refine Md true hp3 h3 (Hu P) ⟨_,rfl,AG rfl ?_⟩;refine⟨_,rfl,_,rfl,Bs,λp6 np6=>?_⟩;have s6:=Ae np6 (.tup [V.ref p,V.ref d]);exact q.1 (.noPath (jn P)) (ai npk) p6 _ ((s2.trans s3).trans s6) ⟨p,Ac,s6.get hp3⟩
 cases dd with
 |fo s P=>exact absurd rfl (n1 s P)
 |rm s P=>exact absurd rfl (n2 s P)
 |mv s P R=>exact absurd rfl (n3 s P R)
 |cp s R n P=>exact absurd rfl (n4 s R n P)
 |wr s P' c=>
  have e1:jn P'=jn P:=V.str.inj (aI i2);have e1:=FM ok.1.1 vP e1;subst e1;have e2:c=lst:=V.str.inj (aI il);subst e2;refine⟨_,rfl,r,_,_,_,rfl,rfl,AW.of hr9,Ah (j:=0) rfl,rfl,_,rfl,As (by decide +kernel) ?_⟩;exact tail c none H (.refl _) (by have:=ok.2;omega) q
 |sp s P' a m z=>
  have e1:jn P'=jn P:=V.str.inj (aI i2);have e1:=FM ok.1.1 vP e1;subst e1;obtain⟨_,a0,m0,lz⟩:=ok;have nopath:lk t P'=none\/gT t P'=some none->Do P' a m z t []=.inl (.noPath (jn P')):=λh=>by
   unfold Do
   split
   ·next c e=>
    rcases h with h|h
    ·rw[h] at e;cases e
    ·have:P'≠[]:=λy=>by rw[y,Pu tk.v] at e;cases e
     rw[BZ this,e] at h;cases h
   ·rfl
  refine⟨_,rfl,r,_,_,_,rfl,rfl,AW.of hr9,Ah (j:=0) rfl,rfl,_,rfl,AG rfl ?_⟩;have bad:(lk t P'=none\/gT t P'=some none)->∀H2,Aw H H2->∀p5,H2 p5=none->∀p6,(upd H2 p5 (.tup ((Ls P').map V.str))) p6=none->Q (.ref p6) (upd (upd H2 p5 (.tup ((Ls P').map V.str))) p6 (.tup [.ref p5,.ref d])):=λh H2 s2 p5 np5 p6 np6=>by
   have s5:=Ae np5 (.tup ((Ls P').map V.str));have s6:=Ae np6 (.tup [V.ref p5,V.ref d]);exact q.1 (.noPath (jn P')) (nopath h) p6 _ ((s2.trans s5).trans s6) ⟨p5,Ac,s6.get Ac⟩
  refine Ap λN2 eN2=>?_
  refine⟨_,rfl,_,rfl,r,_,_,_,rfl,rfl,AW.of hr9,i2,d,P',t,S,rfl,vP,by omega,na,tk.gp,λgn p H2 s2 h2=>?_,λgn p H2 s2 h2=>?_⟩
  ·refine⟨CH,λp3 np3=>?_⟩;have s3:=Ae np3 (.tup (OK.map V.str));have h3:(upd H2 p3 (.tup (OK.map V.str))) p3=some (.tup (OK.map V.str)):=Ac
   change Et true (.ref p) (.ref p3) (upd H2 p3 (.tup (OK.map V.str))) _
   generalize upd H2 p3 (.tup (OK.map V.str))=H3 at s3 h3 ⊢;refine Lm true (s3.get h2) h3 ⟨_,rfl,As rfl ?_⟩;have s13:=s2.trans s3;subst eN2
   try dsimp only[AZ]
   refine Ap λN3 eN3=>?_
   refine⟨_,rfl,_,rfl,r,_,_,_,rfl,rfl,AW.of (s13.get hr9),i2,P',rfl,vP,by omega,λgp l H4 s4 h4=>?_,λng=>absurd (Qt tk.gp gn) ng⟩;have s14:=s13.trans s4;refine⟨_,gT t,S,P',l,rfl,h4,na.same s14,λe=>absurd e gn,λv' S' gs na' _=>?_⟩;obtain⟨t',ty,kt,ev⟩:=HJ na' K;rw[aJ] at ev;subst eN3
   try dsimp only[AU]
   refine Ap λN4 eN4=>?_
   refine⟨_,rfl,_,_,_,_,rfl,ty,kt,_,rfl,?_⟩;rw[ev]
   by_cases c2:gT t P'=some none
   ·rw[av c2];refine AG rfl ⟨_,rfl,r,_,_,_,rfl,rfl,AW.of (s14.get hr9),i2,Bs,λp5 np5=>⟨_,rfl,Bs,λp6 np6=>?_⟩⟩;exact bad (.inr c2) H4 s14 p5 np5 p6 np6
   ·rw[aq c2];refine As rfl ?_;subst eN4
    try dsimp only[AZ]
    have nP:P'≠[]:=λy=>c2 (by rw[y];rfl)
    have lk1:lk t P'=gT t P':=(BZ nP).symm;rcases na'.gv with⟨c,rfl,eg⟩|⟨dx,ch,rfl,eg,_⟩
    ·have e2:lk t P'=some (some c):=by
      have:=congrFun eg [];rw[aJ] at this;rw[lk1,this];rfl
     have hc:c.length<=400:=tk.b.ct _ (Cq e2) c rfl;have ef:Do P' a m z t []=EN P' (K70.RD c a m z) t []:=by unfold Do;rw[e2]
     have el:Dd.cl t (.sp s P' a m z)=(K70.RD c a m z).length:=by show(match lk t P' with|some (some c)=>(K70.RD c a m z).length|_=>0)=_;rw[e2]
     have lw:=R4 (a:=a) (m:=m) hc lz;have q2:Qx (EN P' (K70.RD c a m z) t []) (K70.RD c a m z).length d W H4 Q:=by
      have q:=q;rw[el,show(Dd.sp s P' a m z).f t []=EN P' (K70.RD c a m z) t [] from ef] at q;exact⟨λe he p H' s'=>q.1 e he p H' (s14.trans s'),λt' ht=>⟨λhl p d' S' H' s'=>(q.2 t' ht).1 hl p d' S' H' (s14.trans s'),λhl p H' s'=>(q.2 t' ht).2 hl p H' (s14.trans s')⟩⟩
     have sa:=bu c none (some a);have sb:=bu c (some a) none;have sc:=bu c (some (a+m)) none;have i3:KY (Dd.sp s P' a m z).items 3=some (.int a):=rfl;have i4:KY (Dd.sp s P' a m z).items 4=some (.int m):=rfl;have i5:KY (Dd.sp s P' a m z).items 5=some (.str z):=rfl;have hr4:=AW.of (K:=K) (s14.get hr9);refine⟨_,rfl,_,rfl,r,_,_,_,rfl,rfl,hr4,i3,_,rfl,c,rfl,small (by omega),_,rfl,r,_,_,_,rfl,rfl,hr4,i5,_,_,rfl,rfl,small (by omega),?_⟩;refine⟨_,rfl,_,rfl,_,rfl,r,_,_,_,rfl,rfl,hr4,i3,_,rfl,c,rfl,small (by omega),_,rfl,r,_,_,_,rfl,rfl,hr4,i4,_,rfl,_,rfl,small (by omega),_,_,rfl,rfl,?_,?_⟩
     ·rw[WS c a0 m0,bR];exact small (by omega)
     ·rw[WS c a0 m0];exact tail (K70.RD c a m z) _ H4 s14 (by omega) q2
    ·refine absurd ?_ c2;have:=congrFun eg [];rw[aJ] at this;exact this
  ·refine⟨CH,λp3 np3=>?_⟩;have s3:=Ae np3 (.tup (OK.map V.str));have h3:(upd H2 p3 (.tup (OK.map V.str))) p3=some (.tup (OK.map V.str)):=Ac
   change Et true (.ref p) (.ref p3) (upd H2 p3 (.tup (OK.map V.str))) _
   generalize upd H2 p3 (.tup (OK.map V.str))=H3 at s3 h3 ⊢;refine Md true (s3.get h2) h3 (Hu P') ⟨_,rfl,AG rfl ?_⟩;have s13:=s2.trans s3;have nP:P'≠[]:=λy=>by rw[y] at gn;cases gn
   refine⟨_,rfl,r,_,_,_,rfl,rfl,AW.of (s13.get hr9),i2,Bs,λp5 np5=>⟨_,rfl,Bs,λp6 np6=>?_⟩⟩;exact bad (.inl (by rw[<-BZ nP];exact gn)) H3 s13 p5 np5 p6 np6
structure LwT (H:Hp) (td:Addr) (Tm:Str->AM) (D:Str->Addr):Prop where
 at_:H td=some (.dK [(.inr S0,.ref (D S0)),(.inr S1,.ref (D S1)),(.inr SE,.ref (D SE))])
 nat:∀n,n=S0\/n=S1\/n=SE->∃S,NAt H (.ref (D n)) (gT (Tm n)) S
theorem Pi:S0≠S1:=by decide +kernel
theorem TH:S0≠SE:=by decide +kernel
theorem TJ:S1≠SE:=by decide +kernel
theorem LwT.get {H:Hp}{td:Addr}{Tm:Str->AM}{D:Str->Addr}(h:LwT H td Tm D){n:Str}(hn:n=S0\/n=S1\/n=SE):EO H td (.str n) (some (.ref (D n))):=by
 have g:=EO.k (k:=Sum.inr n) h.at_;have e:F5 [((.inr S0:Key),V.ref (D S0)),(.inr S1,.ref (D S1)),(.inr SE,.ref (D SE))] (.inr n)=some (.ref (D n)):=by
  rcases hn with rfl|rfl|rfl
  ·exact CL rfl
  ·exact(CU λe=>Pi (bq e)).trans (CL rfl)
  ·exact(CU λe=>TH (bq e)).trans ((CU λe=>TJ (bq e)).trans (CL rfl))
 rw[e] at g;exact g
theorem NAt.node {H:Hp}{v:V}{g:G}{S:Addr->Prop}(h:NAt H v g S):∀{a},S a->∃g' S',NAt H (.ref a) g' S':=by
 induction h with
 |file c=>exact λh=>h.elim
 |fold d ch hd nd hc no nb ih=>
  rintro a (rfl|⟨x,hx,hs⟩)
  ·exact⟨_,_,.fold _ ch hd nd hc no nb⟩
  ·exact ih x hx hs
theorem NAt.det {H:Hp}{v:V}{g:G}{S:Addr->Prop}(h:NAt H v g S):∀{g':G} {S':Addr->Prop},NAt H v g' S'->∀{a},S a->S' a:=by
 induction h with
 |file c=>exact λ_ _ h=>h.elim
 |fold d ch hd nd hc no nb ih=>
  intro g' S' h' a ha;obtain⟨ch',hd',_,_,hc',_,_,rfl⟩:=h'.ch;rcases ha with rfl|⟨x,hx,ha⟩
  ·exact .inl rfl
  ·refine .inr ?_;rw[hd] at hd';have e:G9 ch=G9 ch':=by
    have:=aI hd';injection this
   have hm:((Sum.inr x.1:Key),x.2.1)∈G9 ch':=by rw[<-e];exact aj.mpr ⟨x,hx,rfl⟩
   obtain⟨y,hy,ey⟩:=aj.mp hm;have hy':=hc' y hy;rw[(fT ey).2] at hy';exact⟨y,hy,ih x hx hy' ha⟩
theorem LwT.no {H:Hp}{td:Addr}{Tm:Str->AM}{D:Str->Addr}(h:LwT H td Tm D){n:Str}(hn:n=S0\/n=S1\/n=SE){g:G}{S:Addr->Prop}(na:NAt H (.ref (D n)) g S):¬S td:=λhs=>by
 obtain⟨g',S',na'⟩:=na.node hs;obtain⟨ch,hd,_,_,hc,no,_⟩:=na'.ch;rw[h.at_] at hd;have e:[((.inr S0:Key),V.ref (D S0)),(.inr S1,.ref (D S1)),(.inr SE,.ref (D SE))]=G9 ch:=by
  have:=aI hd;injection this
 have hm:((Sum.inr n:Key),V.ref (D n))∈G9 ch:=by
  rw[<-e];rcases hn with rfl|rfl|rfl<;>simp
 obtain⟨y,hy,ey⟩:=aj.mp hm;have hy2:=hc y hy;rw[(fT ey).2] at hy2;exact no y hy (na.det hy2 hs)
theorem LwT.same {H H':Hp}{td:Addr}{Tm:Str->AM}{D:Str->Addr}(h:LwT H td Tm D)(s:Aw H H'):LwT H' td Tm D:=⟨s.get h.at_,λn hn=>by obtain⟨S,z⟩:=h.nat n hn;exact⟨S,z.same s⟩⟩
def Dd.src:Dd->Str
 | .cp _ _ nm _=>nm
 | .wr s _ _=>s
 | .fo s _=>s
 | .rm s _=>s
 | .sp s _ _ _ _=>s
 | .mv s _ _=>s
theorem WI (R:List Str):gF [] R=if R=[] then some none else none:=by cases R<;>rfl
theorem Qx.mono {r:Rf ⊕ AM}{cl:Nat}{d:Addr}{W:Addr->Prop}{H H1:Hp}{Q:V->Hp->Prop}(q:Qx r cl d W H Q)(s:Aw H H1):Qx r cl d W H1 Q:=
 ⟨λe he p H' s'=>q.1 e he p H' (s.trans s'),λt' ht=>⟨λhl p d' S' H' s'=>(q.2 t' ht).1 hl p d' S' H' (s.trans s'),λhl p H' s'=>(q.2 t' ht).2 hl p H' (s.trans s')⟩⟩
def HK (K:W.Frag):Sp:=λvs H Q _=>∃(td r:Addr) (dd:Dd) (Tm:Str->AM) (D:Str->Addr),vs=[.ref td,.ref r]/\H r=some (.tup dd.items)/\dd.Ok/\(dd.sm=S0\/dd.sm=S1)/\LwT H td Tm D/\(∀n,TrOk (Tm n))/\Qx (dd.f (Tm dd.sm) (Tm dd.src)) (dd.cl (Tm dd.sm)) (D dd.sm) (λa=>a≠td) H Q
theorem Qg (T:Txt K mg C XC)(F:Fun K "_law_due" "_law_due" Jy f fd)(Fe:Def P w K mg base 14 "_law_put" ["_law_tree","_law_path_here","_law_node"] (Lb K))(HG:Def P w K mg base 14 "_law_file" ["_law_tree","_law_deed_here"] (JH K))(Bm:Def P w K mg base 1 "_law_at" ["_law_tree","_law_steps_here"] (Ec K))(Bu:Def P w K mg base 13 "_law_with" ["_law_tree","_law_steps_here","_law_node"] (EX K))(Cm:Def P w K mg base 2 "_law_there" ["_law_tree","_law_path_here"] (FK K))(AN:Def P w K mg base 1 "_law_steps" ["_law_path_here"] (CA K)):FnOk P w K mg base Ef 15 f fd ["_law_trees","_law_deed_here"] (HK K):=by
 exists EF
 ·obtain⟨td,r,dd,Tm,D,rfl,_⟩:=h;rfl
 obtain⟨td,r,dd,Tm,D,rfl,hr9,ok,sm,lt,tk,q⟩:=h;have hu:=C4 hr;have hu9:=Mc hr;refine⟨_,(!Ad (@Av _ _ (2) _ _ _ _ EF.nd rfl ∅ (!B4 hu (pv 0) (!An Ar (pv 1) (!Ag) (λ_ _=>rfl)) (λ_ _=>rfl)) (by rfl) ∅) (!Ad (!AJ (!Ax SX (!An Ar (pv 1) (!Ag) (λ_ _=>rfl)) (!Az (!Aa (!Aj) (!Aa (!Aj) (!Ab))))) (!Af (!Aq (!AH HG ∅ rfl (!Aa (pv 2) (!Aa (pv 1) (!Ab)))))) (!Ao)) (!Ad (!AJ (!Ax Ck (!An Ar (pv 1) (!Ag) (λ_ _=>rfl)) (!Aj) (AC _)) (!Af (!Aq (!AH Fe ∅ rfl (!Aa (pv 2) (!Aa (!An Ar (pv 1) (!Ag) (λ_ _=>rfl)) (!Aa (!Fw) (!Ab))))))) (!Ao)) (!Ad (!AJ (!Ax Ck (!An Ar (pv 1) (!Ag) (λ_ _=>rfl)) (!Aj) (AC _)) (!Ad (!AJ (!Ax (Kp hu9) (!AH Cm ∅ rfl (!Aa (!B4 hu (pv 0) (!An Ar (pv 1) (!Ag) (λ_ _=>rfl)) (λ_ _=>rfl)) (!Aa (!An Ar (pv 1) (!Ag) (λ_ _=>rfl)) (!Ab)))) (!Az (!Aa (!Aj) (!Ab))) (AC _)) (!Af (!Aq (!Az (!Aa (!Az (!Aa (!Aj) (!Aa (!An Ar (pv 1) (!Ag) (λ_ _=>rfl)) (!Ab)))) (!Aa (pv 2) (!Ab)))))) (!Ao)) (!Af (!Aq (!AH Fe ∅ rfl (!Aa (pv 2) (!Aa (!An Ar (pv 1) (!Ag) (λ_ _=>rfl)) (!Aa (!AH Bm ∅ rfl (!Aa (!B4 hu (pv 0) (!An Ar (pv 1) (!Ag) (λ_ _=>rfl)) (λ_ _=>rfl)) (!Aa (!AH AN ∅ rfl (!Aa (!An Ar (pv 1) (!Ag) (λ_ _=>rfl)) (!Ab))) (!Ab)))) (!Ab)))))))) (!Ao)) (!Ad (!AJ (@PW.pt _ _ _ (!D1 (!Ax Ck (!An Ar (pv 1) (!Ag) (λ_ _=>rfl)) (!Aj) (AC _)) (!CM (!Ax (Kp hu9) (!AH Cm ∅ rfl (!Aa (pv 2) (!Aa (!An Ar (pv 1) (!Ag) (λ_ _=>rfl)) (!Ab)))) (!Az (!Aa (!Aj) (!Ab))) (AC _))))) (!Af (!Aq (!Az (!Aa (!Az (!Aa (!Aj) (!Aa (!An Ar (pv 1) (!Ag) (λ_ _=>rfl)) (!Ab)))) (!Aa (pv 2) (!Ab)))))) (!Ao)) (!Ad (!AJ (!Ax Ck (!An Ar (pv 1) (!Ag) (λ_ _=>rfl)) (!Aj) (AC _)) (!Af (!Aq (!Az (!Aa (!Az (!Aa (!Aj) (!Ab))) (!Aa (!AH Bu ∅ rfl (!Aa (pv 2) (!Aa (!AH AN ∅ rfl (!Aa (!An Ar (pv 1) (!Ag) (λ_ _=>rfl)) (!Ab))) (!Aa (!Ig) (!Ab))))) (!Ab)))))) (!Ao)) (!Ad (!AJ (@PW.pt _ _ _ (!D1 (!Ax Ck (!An Ar (pv 1) (!Ag) (λ_ _=>rfl)) (!An Ar (pv 1) (!Ag) (λ_ _=>rfl)) (AC _)) (!CM (!Bq (!Dm bz gh gf IS (!An Ar (pv 1) (!Ag) (λ_ _=>rfl)) (!Aa (!Ay AR (!An Ar (pv 1) (!Ag) (λ_ _=>rfl)) (!Aj)) (!Ab))) (by intro _;rfl))))) (!Af (!Aq (!Az (!Aa (!Az (!Aa (!Aj) (!Aa (!An Ar (pv 1) (!Ag) (λ_ _=>rfl)) (!Ab)))) (!Aa (pv 2) (!Ab)))))) (!Ao)) (!Ad (!Ve (!AH Fe ∅ rfl (!Aa (pv 2) (!Aa (!An Ar (pv 1) (!Ag) (λ_ _=>rfl)) (!Aa (!AH Bm ∅ rfl (!Aa (pv 2) (!Aa (!AH AN ∅ rfl (!Aa (!An Ar (pv 1) (!Ag) (λ_ _=>rfl)) (!Ab))) (!Ab)))) (!Ab))))) (!Jd rfl (!B7 (@AK _ _ (3) _ EF.nd rfl ∅ ∅) (!B7 (@AK _ _ (4) _ EF.nd rfl ∅ ∅) (!GS))))) (!Ad (!AJ (!Ax (O3 hu9) (pv 3) (!Az (!Aa (!Aj) (!Ab))) (AC _)) (!Af (@Av _ _ (4) _ _ _ _ EF.nd rfl ∅ (!AH Bu ∅ rfl (!Aa (pv 4) (!Aa (!AH AN ∅ rfl (!Aa (!An Ar (pv 1) (!Ag) (λ_ _=>rfl)) (!Ab))) (!Aa (!Ig) (!Ab))))) (by rfl) ∅)) (!Ao)) (!Af (!Aq (!Az (!Aa (pv 3) (!Aa (pv 4) (!Ab))))))))))))))),?_⟩
 try dsimp only[A4,Cx.nox,Cx.wish]
 have sm3:dd.sm=S0\/dd.sm=S1\/dd.sm=SE:=sm.elim .inl λh=>.inr (.inl h)
 obtain⟨S,na⟩:=lt.nat dd.sm sm3;have i1:KY dd.items 1=some (.str dd.sm):=by cases dd<;>rfl
 have gt:=lt.get sm3;refine Ap λN eN=>?_
 refine⟨_,rfl,_,rfl,r,_,_,_,rfl,rfl,AW.of hr9,i1,td,_,rfl,gt,?_⟩;subst eN
 try dsimp only[AU]
 have w1:∀a,S a->a≠td:=λa ha z=>lt.no sm3 na (z▸ha)
 have wn:∀{H2:Hp},Aw H H2->∀a,H2 a=none->a≠td:=λs a e z=>by rw[z,s.get lt.at_] at e;cases e
 generalize hd:D dd.sm=d at na q;have tkt:=tk dd.sm;generalize ht:Tm dd.sm=t at na q tkt;have cl:X3 t:=λh n=>na.clo h n
 have bd:=Bd.of tkt.v;refine Ap λN eN=>?_
 have two:(([PySem.Str.ofString "write",PySem.Str.ofString "splice"]:List Str).map V.str).all Er=true:=Ss _;cases dd with
 |wr s P c=>
  refine⟨_,rfl,r,_,_,_,rfl,rfl,AW.of hr9,Ah (j:=0) rfl,Bs,λp np=>?_⟩;have s1:=Ae np (.tup [V.str (PySem.Str.ofString "write"),V.str (PySem.Str.ofString "splice")]);refine⟨p,_,rfl,.inr (AW.of Ac),rfl,rfl,_,rfl,AG (by decide +kernel) ?_⟩;exact⟨_,rfl,_,rfl,d,r,t,S,λa=>a≠td,_,rfl,s1.get hr9,ok,(λ_ _ e=>by cases e),(λ_ _ e=>by cases e),(λ_ _ _ e=>by cases e),(λ_ _ _ _ e=>by cases e),na.same s1,w1,wn s1,tkt,q.mono s1⟩
 |sp s P a m z=>
  refine⟨_,rfl,r,_,_,_,rfl,rfl,AW.of hr9,Ah (j:=0) rfl,Bs,λp np=>?_⟩;have s1:=Ae np (.tup [V.str (PySem.Str.ofString "write"),V.str (PySem.Str.ofString "splice")]);refine⟨p,_,rfl,.inr (AW.of Ac),rfl,rfl,_,rfl,AG (by decide +kernel) ?_⟩;exact⟨_,rfl,_,rfl,d,r,t,S,λa=>a≠td,_,rfl,s1.get hr9,ok,(λ_ _ e=>by cases e),(λ_ _ e=>by cases e),(λ_ _ _ e=>by cases e),(λ_ _ _ _ e=>by cases e),na.same s1,w1,wn s1,tkt,q.mono s1⟩
 |fo s P=>
  refine⟨_,rfl,r,_,_,_,rfl,rfl,AW.of hr9,Ah (j:=0) rfl,Bs,λp0 np0=>?_⟩;have s1:=Ae np0 (.tup [V.str (PySem.Str.ofString "write"),V.str (PySem.Str.ofString "splice")]);refine⟨p0,_,rfl,.inr (AW.of Ac),rfl,rfl,_,rfl,As (by decide +kernel) ?_⟩;generalize upd H p0 (.tup [V.str (PySem.Str.ofString "write"),V.str (PySem.Str.ofString "splice")])=H1 at s1;have hr1:=s1.get hr9;have na1:=na.same s1;have q1:=q.mono s1;subst eN
  try dsimp only[AZ]
  refine Ap λN eN=>?_
  refine⟨_,rfl,r,_,_,_,rfl,rfl,AW.of hr1,Ah (j:=0) rfl,rfl,_,rfl,AG rfl ?_⟩;refine⟨_,rfl,_,rfl,r,_,_,_,rfl,rfl,AW.of hr1,Ah (j:=2) rfl,λe0 ne0=>?_⟩;have s2:=Ae ne0 (.dK []);have n2:NAt (upd H1 e0 (.dK [])) (.ref e0) (gF []) _:=.fold e0 [] Ac cO (λ_ h=>nomatch h) (λ_ h=>nomatch h) λ_ h=>nomatch h
  refine⟨d,P,t,S,.ref e0,(gF [],_),rfl,ok.1,(by have:=ok.2;omega),na1.same s2,bd,n2,λnpk p H' s' rp=>?_,λpk gn p H' s' rp=>?_,λpk gn p d' S' H' s' na' sub rp=>?_⟩
  ·exact q1.1 (.noPath (jn P)) (ai npk) p H' (s2.trans s') rp
  ·exact q1.1 (.twice (jn P)) ((ak pk).trans (ai (by rw[<-BZ pk.1];exact gn))) p H' (s2.trans s') rp
  ·have ef:(Dd.fo s P).f t (Tm s)=.inr (Bz t [(P,none)]):=(ak pk).trans (ak (by rw[<-BZ pk.1];exact gn));exact(q1.2 _ ef).1 (a6 _) p d' S' H' (s2.trans s') (na'.eq (Ub cl pk.1 (by rw[gn];exact λz=>by cases z) none (gF []) WI)) (λa ha=>by
    rcases sub a ha with z|z|z
    ·exact w1 a z
    ·rcases z with rfl|⟨_,h,_⟩
     ·exact wn s1 _ ne0
     ·exact nomatch h
    ·exact wn (s1.trans s2) a z) rp
 |cp s R nm P=>
  refine⟨_,rfl,r,_,_,_,rfl,rfl,AW.of hr9,Ah (j:=0) rfl,Bs,λp0 np0=>?_⟩;have s1:=Ae np0 (.tup [V.str (PySem.Str.ofString "write"),V.str (PySem.Str.ofString "splice")]);refine⟨p0,_,rfl,.inr (AW.of Ac),rfl,rfl,_,rfl,As (by decide +kernel) ?_⟩;generalize upd H p0 (.tup [V.str (PySem.Str.ofString "write"),V.str (PySem.Str.ofString "splice")])=H1 at s1;have hr1:=s1.get hr9;have na1:=na.same s1;have q1:=q.mono s1;subst eN
  try dsimp only[AZ]
  refine Ap λN eN=>?_
  refine⟨_,rfl,r,_,_,_,rfl,rfl,AW.of hr1,Ah (j:=0) rfl,rfl,_,rfl,As (by decide +kernel) ?_⟩;subst eN
  try dsimp only[AZ]
  refine Ap λN eN=>?_
  refine⟨_,rfl,r,_,_,_,rfl,rfl,AW.of hr1,Ah (j:=0) rfl,rfl,_,rfl,AG rfl ?_⟩;have hnm:nm=S0\/nm=S1\/nm=SE:=ok.2.2;obtain⟨S2,na2⟩:=lt.nat nm hnm;have lt1:LwT H1 td Tm D:=lt.same s1;have na21:=na2.same s1;have tk2:=tk nm
  change Qx (LK R P t (Tm nm)) 0 d (λa=>a≠td) H1 Q at q1
  have bad:gT (Tm nm) P=none->∀H2,Aw H1 H2->∀p5,H2 p5=none->∀p6,(upd H2 p5 (.tup ((Ls P).map V.str))) p6=none->Q (.ref p6) (upd (upd H2 p5 (.tup ((Ls P).map V.str))) p6 (.tup [.ref p5,.ref d])):=λh H2 s2 p5 np5 p6 np6=>by
   have s5:=Ae np5 (.tup ((Ls P).map V.str));have s6:=Ae np6 (.tup [V.ref p5,V.ref d]);have nP:P≠[]:=λy=>by rw[y] at h;cases h
   exact q1.1 (.noPath (jn P)) (ak ⟨nP,by rw[<-BZ nP];exact h⟩) p6 _ ((s2.trans s5).trans s6) ⟨p5,Ac,s6.get Ac⟩
  refine Ap λN2 eN2=>?_
  refine⟨_,rfl,_,rfl,r,_,_,_,rfl,rfl,AW.of hr1,Ah (j:=3) rfl,td,_,rfl,lt1.get hnm,_,rfl,r,_,_,_,rfl,rfl,AW.of hr1,Ah (j:=4) rfl,D nm,P,Tm nm,S2,rfl,ok.1.1,(by have:=ok.1.2;omega),na21,tk2.gp,λgn p H2 s2 h2=>?_,λgn p H2 s2 h2=>?_⟩
  ·refine⟨CH,λp3 np3=>?_⟩;have s3:=Ae np3 (.tup (OK.map V.str));have h3:(upd H2 p3 (.tup (OK.map V.str))) p3=some (.tup (OK.map V.str)):=Ac
   change Et true (.ref p) (.ref p3) (upd H2 p3 (.tup (OK.map V.str))) _
   generalize upd H2 p3 (.tup (OK.map V.str))=H3 at s3 h3 ⊢;have s13:=s2.trans s3;refine Lm true (s3.get h2) h3 ⟨_,rfl,As rfl ?_⟩;subst eN2
   try dsimp only[AZ]
   have lt3:=lt1.same s13;refine⟨_,rfl,_,rfl,r,_,_,_,rfl,rfl,AW.of (s13.get hr1),Ah (j:=2) rfl,_,rfl,_,rfl,r,_,_,_,rfl,rfl,AW.of (s13.get hr1),Ah (j:=3) rfl,td,_,rfl,lt3.get hnm,_,rfl,r,_,_,_,rfl,rfl,AW.of (s13.get hr1),Ah (j:=4) rfl,P,rfl,ok.1.1,(by have:=ok.1.2;omega),λgp l H4 s4 h4=>?_,λng=>absurd (Qt tk2.gp gn) ng⟩;have s14:=s13.trans s4;refine⟨_,gT (Tm nm),S2,P,l,rfl,h4,na21.same s14,λe=>absurd e gn,λv' S' gs na' su2=>?_⟩;have nb:¬(P≠[]/\lk (Tm nm) P=none):=λ⟨a,b⟩=>gn (by rw[BZ a];exact b)
   refine⟨d,R,t,S,v',(λX=>gT (Tm nm) (P++X),S'),rfl,ok.2.1.1,(by have:=ok.2.1.2;omega),na1.same s14,bd,na',λnpk p H' s' rp=>?_,λpk gn2 p H' s' rp=>?_,λpk gn2 p d' S' H' s' na' sub rp=>?_⟩
   ·exact q1.1 (.noPath (jn R)) ((ai nb).trans (ai npk)) p H' (s14.trans s') rp
   ·exact q1.1 (.twice (jn R)) ((ai nb).trans ((ak pk).trans (ai (by rw[<-BZ pk.1];exact gn2)))) p H' (s14.trans s') rp
   ·have ef:LK R P t (Tm nm)=.inr (Bz t (DD (Tm nm) P R)):=(ai nb).trans ((ak pk).trans (ak (by rw[<-BZ pk.1];exact gn2)));exact(q1.2 _ ef).1 (a6 _) p d' S' H' (s14.trans s') (na'.eq (Sg cl tk2.v pk.1 gn2 gn)) (λa ha=>by
     rcases sub a ha with z|z|z
     ·exact w1 a z
     ·exact λy=>lt.no hnm na2 (y▸su2 a z)
     ·exact wn (s1.trans s14) a z) rp
  ·refine⟨CH,λp3 np3=>?_⟩;have s3:=Ae np3 (.tup (OK.map V.str));have h3:(upd H2 p3 (.tup (OK.map V.str))) p3=some (.tup (OK.map V.str)):=Ac
   change Et true (.ref p) (.ref p3) (upd H2 p3 (.tup (OK.map V.str))) _
   generalize upd H2 p3 (.tup (OK.map V.str))=H3 at s3 h3 ⊢;have s13:=s2.trans s3;refine Md true (s3.get h2) h3 (Hu P) ⟨_,rfl,AG rfl ?_⟩;refine⟨_,rfl,r,_,_,_,rfl,rfl,AW.of (s13.get hr1),Ah (j:=4) rfl,Bs,λp5 np5=>⟨_,rfl,Bs,λp6 np6=>?_⟩⟩;exact bad gn H3 s13 p5 np5 p6 np6
 |rm s P=>
  refine⟨_,rfl,r,_,_,_,rfl,rfl,AW.of hr9,Ah (j:=0) rfl,Bs,λp0 np0=>?_⟩;have s1:=Ae np0 (.tup [V.str (PySem.Str.ofString "write"),V.str (PySem.Str.ofString "splice")]);refine⟨p0,_,rfl,.inr (AW.of Ac),rfl,rfl,_,rfl,As (by decide +kernel) ?_⟩;generalize upd H p0 (.tup [V.str (PySem.Str.ofString "write"),V.str (PySem.Str.ofString "splice")])=H1 at s1;have hr1:=s1.get hr9;have na1:=na.same s1;have q1:=q.mono s1;subst eN
  try dsimp only[AZ]
  refine Ap λN eN=>?_
  refine⟨_,rfl,r,_,_,_,rfl,rfl,AW.of hr1,Ah (j:=0) rfl,rfl,_,rfl,As (by decide +kernel) ?_⟩;subst eN
  try dsimp only[AZ]
  refine Ap λN eN=>?_
  refine⟨_,rfl,r,_,_,_,rfl,rfl,AW.of hr1,Ah (j:=0) rfl,rfl,_,rfl,As (by decide +kernel) ?_⟩;subst eN
  try dsimp only[AZ]
  refine Ap λN eN=>?_
  have bad:gT t P=none\/P=[]->∀H2,Aw H1 H2->∀p5,H2 p5=none->∀p6,(upd H2 p5 (.tup ((Ls P).map V.str))) p6=none->Q (.ref p6) (upd (upd H2 p5 (.tup ((Ls P).map V.str))) p6 (.tup [.ref p5,.ref d])):=λh H2 s2 p5 np5 p6 np6=>by
   have s5:=Ae np5 (.tup ((Ls P).map V.str));have s6:=Ae np6 (.tup [V.ref p5,V.ref d]);have lp:lk t P=none:=by
    rcases h with h|h
    ·have nP:P≠[]:=λy=>by rw[y] at h;cases h
     rw[<-BZ nP];exact h
    ·rw[h];exact Pu tkt.v
   exact q1.1 (.noPath (jn P)) (ak lp) p6 _ ((s2.trans s5).trans s6) ⟨p5,Ac,s6.get Ac⟩
  refine⟨_,rfl,r,_,_,_,rfl,rfl,AW.of hr1,Ah (j:=2) rfl,rfl,_,rfl,?_⟩;rw[show decide (V.str (jn P)=V.str (PySem.Str.ofString ""))=decide (P=[]) from JB ok.1 (B:=[]) ⟨(λ_ h=>nomatch h),λh=>nomatch h⟩]
  by_cases eP:P=[]
  ·rw[av eP];refine AG rfl ?_;refine⟨_,rfl,r,_,_,_,rfl,rfl,AW.of hr1,Ah (j:=2) rfl,Bs,λp5 np5=>⟨_,rfl,Bs,λp6 np6=>?_⟩⟩;exact bad (.inr eP) H1 (.refl _) p5 np5 p6 np6
  rw[aq eP];refine As rfl ?_;refine⟨_,rfl,_,rfl,r,_,_,_,rfl,rfl,AW.of hr1,Ah (j:=2) rfl,d,P,t,S,rfl,ok.1,(by have:=ok.2;omega),na1,tkt.gp,λgn p H2 s2 h2=>?_,λgn p H2 s2 h2=>?_⟩
  case' refine_2=>
   refine⟨CH,λp3 np3=>?_⟩;have s3:=Ae np3 (.tup (OK.map V.str));have h3:(upd H2 p3 (.tup (OK.map V.str))) p3=some (.tup (OK.map V.str)):=Ac
   change Et true (.ref p) (.ref p3) (upd H2 p3 (.tup (OK.map V.str))) _
   generalize upd H2 p3 (.tup (OK.map V.str))=H3 at s3 h3 ⊢;have s13:=s2.trans s3;refine Md true (s3.get h2) h3 (Hu P) ⟨_,rfl,AG rfl ?_⟩;refine⟨_,rfl,r,_,_,_,rfl,rfl,AW.of (s13.get hr1),Ah (j:=2) rfl,Bs,λp5 np5=>⟨_,rfl,Bs,λp6 np6=>?_⟩⟩;exact bad (.inl gn) H3 s13 p5 np5 p6 np6
  ·refine⟨CH,λp3 np3=>?_⟩;have s3:=Ae np3 (.tup (OK.map V.str));have h3:(upd H2 p3 (.tup (OK.map V.str))) p3=some (.tup (OK.map V.str)):=Ac
   change Et true (.ref p) (.ref p3) (upd H2 p3 (.tup (OK.map V.str))) _
   generalize upd H2 p3 (.tup (OK.map V.str))=H3 at s3 h3 ⊢;have s13:=s2.trans s3;refine Lm true (s3.get h2) h3 ⟨_,rfl,As rfl ?_⟩;subst eN
   try dsimp only[AZ]
   have vp2:=Qt tkt.gp gn;have gdr:gT t P.dropLast=some none:=by
    obtain⟨I,z,rfl⟩:=BF eP;rw[bT];exact cl gn (bL z [])
   refine Ap λN eN=>?_
   refine⟨_,rfl,r,_,_,_,rfl,rfl,AW.of (s13.get hr1),Ah (j:=0) rfl,rfl,_,rfl,AG rfl ?_⟩;refine⟨CH,λp5 np5=>?_⟩;have s5:=Ae np5 (.tup (OK.map V.str));have h5:(upd H3 p5 (.tup (OK.map V.str))) p5=some (.tup (OK.map V.str)):=Ac;generalize hH:upd H3 p5 (.tup (OK.map V.str))=H5 at s5 h5
   change upd H3 p5 (.tup [V.str (PySem.Str.ofString "ok")])=H5 at hH
   rw[hH];have s15:=s13.trans s5;refine⟨_,rfl,_,rfl,r,_,_,_,rfl,rfl,AW.of (s15.get hr1),Ah (j:=2) rfl,P,rfl,ok.1,(by have:=ok.2;omega),λgp l H6 s6 h6=>?_,λng=>absurd vp2 ng⟩;have s16:=s15.trans s6;refine⟨d,l,gT t,S,P,.non,none,rfl,h6,eP,(by have:=vp2.2;omega),vp2.1,na1.same s16,bd,rfl,gdr,(λ_=>gn),λd' S' H7 s7 nd7 na7 sub=>?_⟩;refine⟨Bs,λp8 np8=>?_⟩;have s8:=Ae np8 (.tup [V.ref p5,V.ref d']);have ef:(Dd.rm s P).f t (Tm s)=.inr (E3 t P):=ai (by rw[<-BZ eP];exact gn);exact(q1.2 _ ef).1 (a6 _) p8 d' S' _ ((s16.trans s7).trans s8) ((na7.eq (Vc eP)).same s8) (λa ha=>by
    rcases sub a ha with z|z|z
    ·exact w1 a z
    ·exact z.elim
    ·exact wn (s1.trans s16) a z) ⟨p5,Ac,s8.get (s7.get (s6.get h5))⟩
 |mv s P R=>
  refine⟨_,rfl,r,_,_,_,rfl,rfl,AW.of hr9,Ah (j:=0) rfl,Bs,λp0 np0=>?_⟩;have s1:=Ae np0 (.tup [V.str (PySem.Str.ofString "write"),V.str (PySem.Str.ofString "splice")]);refine⟨p0,_,rfl,.inr (AW.of Ac),rfl,rfl,_,rfl,As (by decide +kernel) ?_⟩;generalize upd H p0 (.tup [V.str (PySem.Str.ofString "write"),V.str (PySem.Str.ofString "splice")])=H1 at s1;have hr1:=s1.get hr9;have na1:=na.same s1;have q1:=q.mono s1;subst eN
  try dsimp only[AZ]
  refine Ap λN eN=>?_
  refine⟨_,rfl,r,_,_,_,rfl,rfl,AW.of hr1,Ah (j:=0) rfl,rfl,_,rfl,As (by decide +kernel) ?_⟩;subst eN
  try dsimp only[AZ]
  refine Ap λN eN=>?_
  refine⟨_,rfl,r,_,_,_,rfl,rfl,AW.of hr1,Ah (j:=0) rfl,rfl,_,rfl,As (by decide +kernel) ?_⟩;subst eN
  try dsimp only[AZ]
  refine Ap λN eN=>?_
  have bad:gT t P=none\/P=[]->∀H2,Aw H1 H2->∀p5,H2 p5=none->∀p6,(upd H2 p5 (.tup ((Ls P).map V.str))) p6=none->Q (.ref p6) (upd (upd H2 p5 (.tup ((Ls P).map V.str))) p6 (.tup [.ref p5,.ref d])):=λh H2 s2 p5 np5 p6 np6=>by
   have s5:=Ae np5 (.tup ((Ls P).map V.str));have s6:=Ae np6 (.tup [V.ref p5,V.ref d]);have lp:lk t P=none:=by
    rcases h with h|h
    ·have nP:P≠[]:=λy=>by rw[y] at h;cases h
     rw[<-BZ nP];exact h
    ·rw[h];exact Pu tkt.v
   exact q1.1 (.noPath (jn P)) (ak lp) p6 _ ((s2.trans s5).trans s6) ⟨p5,Ac,s6.get Ac⟩
  refine⟨_,rfl,r,_,_,_,rfl,rfl,AW.of hr1,Ah (j:=2) rfl,rfl,_,rfl,?_⟩;rw[show decide (V.str (jn P)=V.str (PySem.Str.ofString ""))=decide (P=[]) from JB ok.1.1 (B:=[]) ⟨(λ_ h=>nomatch h),λh=>nomatch h⟩]
  by_cases eP:P=[]
  ·rw[av eP];refine AG rfl ?_;refine⟨_,rfl,r,_,_,_,rfl,rfl,AW.of hr1,Ah (j:=2) rfl,Bs,λp5 np5=>⟨_,rfl,Bs,λp6 np6=>?_⟩⟩;exact bad (.inr eP) H1 (.refl _) p5 np5 p6 np6
  rw[aq eP];refine As rfl ?_;refine⟨_,rfl,_,rfl,r,_,_,_,rfl,rfl,AW.of hr1,Ah (j:=2) rfl,d,P,t,S,rfl,ok.1.1,(by have:=ok.1.2;omega),na1,tkt.gp,λgn p H2 s2 h2=>?_,λgn p H2 s2 h2=>?_⟩
  case' refine_2=>
   refine⟨CH,λp3 np3=>?_⟩;have s3:=Ae np3 (.tup (OK.map V.str));have h3:(upd H2 p3 (.tup (OK.map V.str))) p3=some (.tup (OK.map V.str)):=Ac
   change Et true (.ref p) (.ref p3) (upd H2 p3 (.tup (OK.map V.str))) _
   generalize upd H2 p3 (.tup (OK.map V.str))=H3 at s3 h3 ⊢;have s13:=s2.trans s3;refine Md true (s3.get h2) h3 (Hu P) ⟨_,rfl,AG rfl ?_⟩;refine⟨_,rfl,r,_,_,_,rfl,rfl,AW.of (s13.get hr1),Ah (j:=2) rfl,Bs,λp5 np5=>⟨_,rfl,Bs,λp6 np6=>?_⟩⟩;exact bad (.inl gn) H3 s13 p5 np5 p6 np6
  ·refine⟨CH,λp3 np3=>?_⟩;have s3:=Ae np3 (.tup (OK.map V.str));have h3:(upd H2 p3 (.tup (OK.map V.str))) p3=some (.tup (OK.map V.str)):=Ac
   change Et true (.ref p) (.ref p3) (upd H2 p3 (.tup (OK.map V.str))) _
   generalize upd H2 p3 (.tup (OK.map V.str))=H3 at s3 h3 ⊢;have s13:=s2.trans s3;refine Lm true (s3.get h2) h3 ⟨_,rfl,As rfl ?_⟩;subst eN
   try dsimp only[AZ]
   have vp2:=Qt tkt.gp gn;have gdr:gT t P.dropLast=some none:=by
    obtain⟨I,z,rfl⟩:=BF eP;rw[bT];exact cl gn (bL z [])
   refine Ap λN eN=>?_
   refine⟨_,rfl,r,_,_,_,rfl,rfl,AW.of (s13.get hr1),Ah (j:=0) rfl,rfl,_,rfl,As (by decide +kernel) ?_⟩;subst eN
   try dsimp only[AZ]
   refine Ap λN eN=>?_
   have lR:=ok.2.2;have badR:(R=P\/Dq R P=true)->∀p5,H3 p5=none->∀p6,(upd H3 p5 (.tup ((Ls R).map V.str))) p6=none->Q (.ref p6) (upd (upd H3 p5 (.tup ((Ls R).map V.str))) p6 (.tup [.ref p5,.ref d])):=λh p5 np5 p6 np6=>by
    have s5:=Ae np5 (.tup ((Ls R).map V.str));have s6:=Ae np6 (.tup [V.ref p5,V.ref d]);exact q1.1 (.noPath (jn R)) ((ai (by rw[<-BZ eP];exact gn)).trans (ak h)) p6 _ ((s13.trans s5).trans s6) ⟨p5,Ac,s6.get Ac⟩
   refine⟨_,rfl,r,_,_,_,rfl,rfl,AW.of (s13.get hr1),Ah (j:=3) rfl,_,rfl,r,_,_,_,rfl,rfl,AW.of (s13.get hr1),Ah (j:=2) rfl,rfl,_,rfl,?_⟩;rw[JB ok.2.1 ok.1.1]
   by_cases eR:R=P
   ·rw[av eR];refine AG rfl ?_;refine⟨_,rfl,r,_,_,_,rfl,rfl,AW.of (s13.get hr1),Ah (j:=3) rfl,Bs,λp5 np5=>⟨_,rfl,Bs,λp6 np6=>?_⟩⟩;exact badR (.inl eR) p5 np5 p6 np6
   rw[aq eR];refine As rfl ?_;refine⟨_,rfl,r,_,_,_,rfl,rfl,AW.of (s13.get hr1),Ah (j:=3) rfl,rfl,_,rfl,r,_,_,_,rfl,rfl,AW.of (s13.get hr1),Ah (j:=2) rfl,_,_,rfl,rfl,small (by show(jn P).length+1<=1000000;have:=ok.1.2;omega),_,_,rfl,rfl,_,rfl,?_⟩;rw[show PySem.Txt.startswith (jn R) (jn P++PySem.Str.ofString "/")=Dq R P from NR ok.2.1 ok.1.1 eP];cases eB:Dq R P with
   |true=>
    refine AG rfl ?_;refine⟨_,rfl,r,_,_,_,rfl,rfl,AW.of (s13.get hr1),Ah (j:=3) rfl,Bs,λp5 np5=>⟨_,rfl,Bs,λp6 np6=>?_⟩⟩;exact badR (.inr eB) p5 np5 p6 np6
   |false=>
   refine As rfl ?_;subst eN
   try dsimp only[AZ]
   refine Ap λN eN=>?_
   have nb:¬(R=P\/Dq R P=true):=λz=>z.elim eR λz=>by rw[eB] at z;cases z
   have nl:¬lk t P=none:=by rw[<-BZ eP];exact gn
   refine⟨_,rfl,_,rfl,r,_,_,_,rfl,rfl,AW.of (s13.get hr1),Ah (j:=3) rfl,_,rfl,_,rfl,r,_,_,_,rfl,rfl,AW.of (s13.get hr1),Ah (j:=2) rfl,P,rfl,ok.1.1,(by have:=ok.1.2;omega),λgp l H4 s4 h4=>?_,λng=>absurd vp2 ng⟩;have s14:=s13.trans s4;refine⟨_,gT t,S,P,l,rfl,h4,na1.same s14,λe=>absurd e gn,λv' S' gs na' su2=>?_⟩;have fin:∀(p9 d9:Addr) (ws:List Str) (H9:Hp),Aw H1 H9->ws≠OK->Po H9 p9 ws d9->(∀p' H',Aw H9 H'->Po H' p' ws d9->Q (.ref p') H')->(V2 K 2 (Qf (AU 3) (Qf (AU 4) Xw))) (.ref p9) [some (.ref td),some (.ref r),some (.ref d),none,none] H9 N:=λp9 d9 ws H9 s9 nw ⟨w9,h91,h92⟩ k=>by
    refine⟨p9,_,rfl,AW.of h91,rfl,_,_,rfl,_,_,rfl,rfl,?_⟩;subst eN
    try dsimp only[AU]
    refine⟨_,rfl,CH,λp3 np3=>?_⟩;have s3:=Ae np3 (.tup (OK.map V.str));have h3:(upd H9 p3 (.tup (OK.map V.str))) p3=some (.tup (OK.map V.str)):=Ac
    change Et false (.ref w9) (.ref p3) (upd H9 p3 (.tup (OK.map V.str))) _
    generalize upd H9 p3 (.tup (OK.map V.str))=H10 at s3 h3 ⊢;refine Md false (s3.get h92) h3 nw ⟨_,rfl,As rfl ?_⟩
    try dsimp only[AZ]
    refine⟨_,rfl,_,rfl,Bs,λp6 np6=>?_⟩;have s6:=Ae np6 (.tup [V.ref w9,V.ref d9]);exact k p6 _ (s3.trans s6) ⟨w9,Ac,s6.get (s3.get h92)⟩
   refine⟨d,R,t,S,v',(λX=>gT t (P++X),S'),rfl,ok.2.1,by omega,na1.same s14,bd,na',λnpk p H' s' rp=>?_,λpk gn2 p H' s' rp=>?_,λpk gn2 p d' S1 H' s' na' sub1 rp=>?_⟩
   ·exact fin p d _ H' (s14.trans s') (Hu R) rp λp' H9 s9 rp=>q1.1 (.noPath (jn R)) ((ai nl).trans ((ai nb).trans (ai npk))) p' H9 ((s14.trans s').trans s9) rp
   ·exact fin p d _ H' (s14.trans s') (λz=>by cases z) rp λp' H9 s9 rp=>q1.1 (.twice (jn R)) ((ai nl).trans ((ai nb).trans ((ak pk).trans (ai (by rw[<-BZ pk.1];exact gn2))))) p' H9 ((s14.trans s').trans s9) rp
   ·have ef:(Dd.mv s P R).f t (Tm s)=.inr (Bz (E3 t P) (DD t P R)):=(ai nl).trans ((ai nb).trans ((ak pk).trans (ak (by rw[<-BZ pk.1];exact gn2))));have na1':=na'.eq (Sg cl tkt.v pk.1 gn2 gn);obtain⟨a1,a2,a3⟩:=JK tkt pk.2.1.1 pk.1 pk.2.1.2 (P:=P);have tv1:TrV (Bz t (DD t P R)):=tkt.v.with a1 a2 (by have:=tkt.b.few;omega)
    have gn1:gT (Bz t (DD t P R)) P≠none:=by
     rw[BZ eP,JN (QK tkt.v.nd P R)];cases lk (DD t P R) P with
     |none=>exact nl
     |some v=>exact λz=>by cases z
    have s1':=s14.trans s';obtain⟨w9,h91,h92⟩:=rp;refine⟨p,_,rfl,AW.of h91,rfl,_,_,rfl,_,_,rfl,rfl,?_⟩;subst eN
    try dsimp only[AU]
    refine⟨_,rfl,CH,λp3 np3=>?_⟩;have s3:=Ae np3 (.tup (OK.map V.str));have h3:(upd H' p3 (.tup (OK.map V.str))) p3=some (.tup (OK.map V.str)):=Ac
    change Et false (.ref w9) (.ref p3) (upd H' p3 (.tup (OK.map V.str))) _
    generalize upd H' p3 (.tup (OK.map V.str))=H10 at s3 h3 ⊢;have hw3:=s3.get h92;have s110:=s1'.trans s3;refine Lm false hw3 h3 ⟨_,rfl,AG rfl ?_⟩;refine⟨_,rfl,_,rfl,r,_,_,_,rfl,rfl,AW.of (s110.get hr1),Ah (j:=2) rfl,P,rfl,ok.1.1,(by have:=ok.1.2;omega),λgp l H6 s6 h6=>?_,λng=>absurd vp2 ng⟩;refine⟨d',l,gT (Bz t (DD t P R)),S1,P,.non,none,rfl,h6,eP,(by have:=vp2.2;omega),vp2.1,na1'.same (s3.trans s6),Bd.of tv1,rfl,?_,(λ_=>gn1),λd2 S2 H7 s7 nd7 na7 sub=>?_⟩
    ·obtain⟨I,z,rfl⟩:=BF eP;rw[bT];exact na1'.clo gn1 (bL z [])
    try dsimp only[AZ,AU]
    refine⟨_,rfl,_,rfl,Bs,λp8 np8=>?_⟩;have s8:=Ae np8 (.tup [V.ref w9,V.ref d2]);have na9:=na7.eq λQ=>(Vc eP Q).trans (VT cl tkt.v gn2 gn (λz=>nb (LI.mp z)) Q)
    exact(q1.2 _ ef).1 (a6 _) p8 d2 S2 _ (((s110.trans s6).trans s7).trans s8) (na9.same s8) (λa ha=>by
     rcases sub a ha with z|z|z
     ·rcases sub1 a z with z|z|z
      ·exact w1 a z
      ·exact w1 a (su2 a z)
      ·exact wn (s1.trans s14) a z
     ·exact z.elim
     ·exact wn (s1.trans (s110.trans s6)) a z) ⟨w9,Ac,s8.get (s7.get (s6.get hw3))⟩
theorem Od:∀{p:Str} {l:List Str},PyProof.Rows.risingS p l=true->∀x∈l,¬x.cps.toList<p.cps.toList
 |p,y::r,h,x,hx=>by
  have h':=h;rw[PyProof.Rows.risingS,aQ,PyProof.Rows.ltCps_eq] at h';have h1:¬y.cps.toList<p.cps.toList:=by simpa using h'.1
  rcases aM.mp hx with rfl|hx
  ·exact h1
  ·exact List.le_trans h1 (Od h'.2 x hx)
theorem RI:∀{l:List Str},PyProof.Rows.sortedS l=true->l.Nodup->l.Pairwise Qr
 |[],_,_=>List.Pairwise.nil
 |x::l,h,nd=>by
  rw[bw] at nd;refine b8.mpr ⟨λy hy=>QG (Od (p:=x) h y hy) λe=>nd.1 (e▸hy),RI ?_ nd.2⟩;cases l with
  |nil=>rfl
  |cons y r=>
   have h':=h;rw[PyProof.Rows.sortedS,PyProof.Rows.risingS,aQ] at h';exact h'.2
structure SmT (t:AM):Prop where
 few:t.length<=60
 fld:∀p∈t,Nn t p.1.dropLast<=16
 deep:∀p∈t,p.1.length<=8
theorem IU {t:AM}(nd:(t.map (·.1)).Nodup){P:List Str}(h:P≠[]):gT t P≠none↔P∈t.map (·.1):=by
 rw[BZ h];constructor
 ·intro e;cases el:lk t P with
  |none=>exact absurd el e
  |some v=>exact aj.mpr ⟨_,Cq el,rfl⟩
 ·intro e;obtain⟨p,hp,rfl⟩:=aj.mp e;rw[K8 nd hp];exact λz=>by cases z
theorem KA {H:Hp}{A:List Str}{t:AM}{S:Addr->Prop}{rows:List Lj}(tv:TrV t)(ok:RwOk H A (gT t) S rows)(al:RwAll (gT t) rows):(rows.map (·.2.1)).Perm (t.map (·.1)):=by
 refine(gx ok.nd tv.nd).mpr λP=>?_
 constructor
 ·intro h;obtain⟨r,hr,rfl⟩:=aj.mp h;obtain⟨h1,_,h3,_⟩:=ok.val r hr;exact(IU tv.nd h1).mp h3
 ·intro h;obtain⟨p,hp,rfl⟩:=aj.mp h;have n:=(tv.vp p hp).2;exact al.all _ n ((IU tv.nd n).mpr (aj.mpr ⟨p,hp,rfl⟩))
theorem NU {H:Hp}{ch:List Ch}(hc:∀x∈ch,NAt H x.2.1 x.2.2.1 x.2.2.2)(s:Str):s∈ch.map (·.1)↔gF ch [s]≠none:=by
 constructor
 ·intro h;obtain⟨x,hx,rfl⟩:=aj.mp h;have hsome:(ch.find? λy=>decide (y.1=x.1)).isSome=true:=dR.mpr ⟨x,hx,av rfl⟩;cases e:ch.find? λy=>decide (y.1=x.1) with
  |none=>rw[e] at hsome;cases hsome
  |some y=>
   rw[E4 e];rcases(hc y (GQ e).1).gv with⟨c,_,eg⟩|⟨d,ch',_,eg,_⟩<;>rw[eg]<;>exact λz=>by cases z
 ·intro h;cases e:ch.find? λy=>decide (y.1=s) with
  |none=>exact absurd (IG e []) h
  |some y=>
   obtain⟨my,rfl⟩:=GQ e;exact aj.mpr ⟨y,my,rfl⟩
theorem TQ {H:Hp}{d:Addr}{t:AM}{P:List Str}{S:Addr->Prop}(tv:TrV t)(na:NAt H (.ref d) (λR=>gT t (P++R)) S):∃ch:List Ch,H d=some (.dK (G9 ch))/\ch.length=Nn t P:=by
 obtain⟨ch,hd,eg,nd,hc,_⟩:=na.ch;refine⟨ch,hd,?_⟩;have pm:((ch.map (·.1)).map λs=>P++[s]).Perm ((t.filter λp=>decide (p.1.dropLast=P)).map (·.1)):=by
  refine(gx ?_ (tv.nd.sublist (List.filter_sublist.map _))).mpr λX=>?_
  ·rw[List.Nodup,bH];exact nd.imp λn e=>n (bO (Ly e))
  constructor
  ·intro h;obtain⟨s,hs,rfl⟩:=aj.mp h;have:=(NU hc s).mp hs;rw[<-eg] at this;obtain⟨p,hp,e⟩:=aj.mp ((IU tv.nd (by simp)).mp this);exact aj.mpr ⟨p,aV.mpr ⟨hp,av (by rw[e,bT])⟩,e⟩
  ·intro h;obtain⟨p,hp,rfl⟩:=aj.mp h;obtain⟨hp,e⟩:=aV.mp hp;obtain⟨I,s,e2⟩:=BF (tv.vp p hp).2;have e:=aE e;rw[e2,bT] at e;refine aj.mpr ⟨s,(NU hc s).mpr ?_,by rw[e2,e]⟩;rw[<-eg];show gT t (P++[s])≠none;rw[<-e,<-e2];exact(IU tv.nd (tv.vp p hp).2).mpr (aj.mpr ⟨p,hp,rfl⟩)
 have:=pm.length_eq;rw[aa,aa,aa] at this;rw[this];unfold Nn;rw[gb]
def IP (K:W.Frag):Sp:=λvs H Q _=>∃(d:Addr) (t:AM) (S:Addr->Prop),vs=[.ref d]/\NAt H (.ref d) (gT t) S/\TrV t/\(SmT t->∀H',Aw H H'->Q (.bl true) H')/\(¬SmT t->∀H',Aw H H'->Q (.bl false) H')
theorem Nd (T:Txt K mg C XC)(F:Fun K "_law_small" "_law_small" GR f fd)(B2:Def P w K mg base 21 "_law_all" ["_law_tree","_law_path_here"] (FG K)):FnOk P w K mg base Ef 22 f fd ["_law_tree"] (IP K):=by
 exists Em
 ·obtain⟨d,t,S,rfl,_⟩:=h;rfl
 obtain⟨d,t,S,rfl,na,tv,q1,q2⟩:=h;refine⟨_,(!Ad (@Av _ _ (1) _ _ _ _ Em.nd rfl ∅ (!AH B2 ∅ rfl (!Aa (pv 0) (!Aa (!Aj) (!Ab)))) (by rfl) ∅) (!Ad (!AJ (@PW.pt _ _ _ (!D1 (!Ax IQ (!AA BQ (by rfl) T.b_len CO (!Aa (pv 1) (!Ab))) (!Ag) (AC _)) (!CM (!Ax IQ (!AA K3 (by rfl) T.b_len CO (!Aa (pv 0) (!Ab))) (!Ag) (AC _))))) (!Af (!Aq (!G5))) (!Ao)) (!Ad (!CQ bJ rfl (!Cb (pv 1)) (!Jd rfl (!B7 (@AK _ _ (2) _ Em.nd rfl ∅ ∅) (!B7 (@AK _ _ (3) _ Em.nd rfl ∅ ∅) (!GS)))) (!Af (!AJ (@PW.pt _ _ _ (!D1 (!Ax IQ (@Ml _ (K) _ _ _ _ _ _ _ _ _ _ _ rfl bz g6 gY Oa (pv 2) (!Aa (!Aj) (!Ab)) (by rfl) (by rfl) (by rfl) (by rfl) (by rfl)) (!Ag) (AC _)) (!CM (@PW.pt _ _ _ (!Kr (!Bq (!AA Bv (by rfl) T.b_isinstance AF (!Aa (pv 3) (!Aa (!Gf rfl T.b_dict CD) (!Ab)))) (by intro _;rfl)) (!IF (!Ax IQ (!AA K3 (by rfl) T.b_len CO (!Aa (pv 3) (!Ab))) (!Ag) (AC _)))))))) (!Af (!Aq (!G5))) (!Ao))) (by intro _;rfl)) (!Af (!Aq (!G5)))))),?_⟩
 try dsimp only[A4,Cx.nox,Cx.wish]
 refine Ap λN eN=>?_
 refine⟨_,rfl,d,[],gT t,S,rfl,(λ_ h=>nomatch h),(by decide),na,Bd.of tv,λP hP=>?_,λl rows H1 s1 nl hl ok al=>?_⟩
 ·by_cases c:P=[]
  ·rw[c];decide
  ·obtain⟨p,hp,rfl⟩:=aj.mp ((IU tv.nd c).mp hP);have:=tv.deep p hp;omega
 subst eN
 try dsimp only[AU]
 have pm:=KA tv ok al;have lr:rows.length=t.length:=by have:=pm.length_eq;rw[aa,aa] at this;exact this
 have na1:=na.same s1;obtain⟨ch,hd,lc⟩:=TQ (P:=[]) tv na1;have lk0:(G9 ch).length=ch.length:=aa _;have t2:=tv.few;have cl:X3 t:=λh n=>na.clo h n
 refine Ap λN eN=>?_
 refine⟨_,rfl,l,_,rfl,.inl (AV.of hl),_,_,rfl,rfl,_,rfl,DQ (λc=>?_) (λc=>?_)⟩
 ·have c':=aE c;rw[aa,lr] at c';exact AG rfl (q2 (λb=>by have:=b.few;omega) H1 s1)
 have c1:=dec_false c;rw[aa,lr] at c1;refine⟨_,rfl,d,_,rfl,hd,_,_,rfl,rfl,_,rfl,DQ (λc=>?_) (λc=>?_)⟩
 ·have c':=aE c;rw[lk0,lc] at c';refine q2 (λb=>?_) H1 s1;have:∃p∈t,p.1.dropLast=[]:=by
   have:0<Nn t []:=by omega
   unfold Nn at this;obtain⟨p,hp,e⟩:=ir.mp this;exact⟨p,hp,aE e⟩
  obtain⟨p,hp,e⟩:=this;have:=b.fld p hp;rw[e] at this;omega
 have c2:=dec_false c;rw[lk0,lc] at c2;subst eN
 try dsimp only[AZ]
 refine⟨_,rfl,l,rfl,⟨_,AV.of hl⟩,Dj (K:=K) (a:=l) (xs:=rows.map λr=>V.ref r.1) (λi σ H2=>H2=H1/\(∃v2 v3,σ=[some (.ref d),some (.ref l),v2,v3])/\∀r∈rows.take i,r.2.1.length<=8/\(gT t r.2.1=some none->Nn t r.2.1<=16)) ⟨rfl,⟨none,none,rfl⟩,λ_ h=>nomatch h⟩ (λi σ H2 _ ⟨e,_⟩=>by rw[e];exact AV.of hl) ?_ ?_⟩
 ·rintro i x σ H2 ex ⟨rfl,⟨v2,v3,rfl⟩,hi⟩
  rw[aD] at ex;obtain⟨r,er,rfl⟩:=aU.mp ex;have hr8:=aN er;have ht:=ok.at_ r hr8;obtain⟨n1,vp,g1,S',nr,_⟩:=ok.val r hr8;rw[cx] at ht;obtain⟨p,hp,ep⟩:=aj.mp ((IU tv.nd n1).mp g1);obtain⟨I,z,eI⟩:=BF n1;have nxt:r.2.1.length<=8->(gT t r.2.1=some none->Nn t r.2.1<=16)->∀r'∈rows.take (i+1),r'.2.1.length<=8/\(gT t r'.2.1=some none->Nn t r'.2.1<=16):=λh1 h2 r' hr'=>by
   rw[bG,er] at hr';rcases aK.mp hr' with hr'|hr'
   ·exact hi r' hr'
   ·rw[ah.mp hr'];exact⟨h1,h2⟩
  refine⟨r.1,_,rfl,AW.of ht,rfl,_,_,rfl,_,_,rfl,rfl,?_⟩;dsimp only[AU];refine⟨_,rfl,rfl,jn r.2.1,SL,rfl,rfl,?_⟩;rw[eI,Pz (by rw[<-eI];exact vp)];have le:r.2.1.length=I.length+1:=by rw[eI,ar];rfl
  refine⟨_,_,rfl,rfl,_,rfl,DQ (λc=>?_) (λc=>?_)⟩
  ·have c':=aE c;exact AG rfl (q2 (λb=>by have:=b.deep p hp;rw[ep] at this;omega) H2 s1)
  have c3:=dec_false c;obtain⟨t',ty,kt,ev⟩:=HJ nr K;rw[aJ] at ev;refine⟨_,rfl,_,_,_,_,rfl,ty,kt,_,rfl,?_⟩;rw[ev]
  by_cases c4:gT t r.2.1=some none
  ·rw[av c4];rcases nr.gv with⟨c,_,eg⟩|⟨dx,_,ev2,_,_⟩
   ·have:=congrFun eg [];rw[aJ,c4] at this;cases this
   ·rw[ev2] at nr;obtain⟨ch2,hd2,lc2⟩:=TQ tv nr;have lk2:(G9 ch2).length=ch2.length:=aa _;refine AG rfl ⟨_,rfl,dx,_,by rw[ev2],hd2,_,_,rfl,rfl,_,rfl,DQ (λc=>?_) (λc=>?_)⟩
    ·have c':=aE c;rw[lk2,lc2] at c';refine q2 (λb=>?_) H2 s1;have:0<Nn t r.2.1:=by omega
     unfold Nn at this;obtain⟨y,hy,e⟩:=ir.mp this;have:=b.fld y hy;rw[aE e] at this;omega
    ·have c5:=dec_false c;rw[lk2,lc2] at c5;exact⟨rfl,⟨_,_,rfl⟩,nxt (by omega) λ_=>by omega⟩
  ·rw[aq c4];exact As rfl ⟨rfl,⟨_,_,rfl⟩,nxt (by omega) λz=>absurd z c4⟩
 ·rintro σ H2 ⟨rfl,⟨v2,v3,rfl⟩,hi⟩
  rw[aa,cu] at hi;have key:∀p∈t,∃r∈rows,r.2.1=p.1:=λp hp=>by
   obtain⟨r,hr8,e⟩:=aj.mp (pm.mem_iff.mpr (aj.mpr ⟨p,hp,rfl⟩));exact⟨r,hr8,e⟩
  refine q1 ⟨by omega,λp hp=>?_,λp hp=>?_⟩ H2 s1
  ·by_cases c:p.1.dropLast=[]
   ·rw[c];omega
   ·have g1:gT t p.1≠none:=(IU tv.nd (tv.vp p hp).2).mpr (aj.mpr ⟨p,hp,rfl⟩);obtain⟨I,z,e⟩:=BF (tv.vp p hp).2;rw[e] at g1 c ⊢;rw[bT] at c ⊢;have g2:=cl g1 (bL z []);obtain⟨y,hy,ey⟩:=aj.mp ((IU tv.nd c).mp (by rw[g2];exact λz=>by cases z));obtain⟨r,hr8,er⟩:=key y hy;have:=(hi r hr8).2 (by rw[er,ey];exact g2);rw[er,ey] at this;exact this
  ·obtain⟨r,hr8,er⟩:=key p hp;rw[<-er];exact(hi r hr8).1
theorem Sh {α:Type}(f:α->V)(ps:List α)(lo hi:Option Int):∃zs:List α,IK (ps.map f) lo hi=zs.map f/\zs.length<=ps.length/\∀z∈zs,z∈ps:=by
 refine⟨(ps.drop (HT.DE (ps.map f).length 0 lo)).take (HT.DE (ps.map f).length (ps.map f).length hi-HT.DE (ps.map f).length 0 lo),?_,?_,λx hx=>cP (bA hx)⟩
 ·unfold IK;rw[cY,fB]
 ·rw[a8,bF];omega
theorem Rx {α:Type} {K:W.Frag} {J:It} {ps:List α} {g:α->Addr} {A B:α->V} {fr:List (Option Nat)} {rest:L2.St} {te:TE} {Q:VK} {σ:L2.St} {H:Hp} (Pp:α->V->Hp->Prop) (hst:stC fr σ=none::none::rest) (hP:∀x y H1 H2,Pp x y H1->Aw H1 H2->Pp x y H2) (hU:∀x y H1 l us us',Pp x y H1->H1 l=some (.lst us)->Pp x y (upd H1 l (.lst us'))) (hJ:JP J H (ps.map λx=>V.ref (g x))) (hpr:∀x∈ps,H (g x)=some (.tup [A x,B x])) (hn:ps.length<=1000000)
  (helt:∀x∈ps,∀(H':Hp) (R:VK),Aw H H'->(∀y H'',Aw H' H''->Pp x y H''->R y H'')->te (some (A x)::some (B x)::rest) H' R)
  (hQ:∀l H' (ys:List (α×V)),H l=none->Aw H H'->H' l=some (.lst (ys.map (·.2)))->ys.map (·.1)=ps->(∀q∈ys,Pp q.1 q.2 H')->Q (.ref l) H'):Je fr (V2 K 2 (Qf (AU 0) (Qf (AU 1) Xw))) VS te σ Q J H:=by
 intro l hl;refine⟨λi m σ' H'=>m=ps.length-i/\i<=ps.length/\(∃y0 y1,σ'=y0::y1::rest)/\Aw H H'/\∃ys:List (α×V),H' l=some (.lst (ys.map (·.2)))/\ys.map (·.1)=ps.take i/\∀q∈ys,Pp q.1 q.2 H',⟨ps.length,by simp,a6 _,⟨_,_,hst⟩,Ae hl _,[],by rw[Ac];rfl,rfl,λ_ h=>nomatch h⟩,?_⟩
 rintro i m σ' H' ⟨rfl,hi,⟨y0,y1,rfl⟩,hs,ys,hl',e1,hys⟩
 obtain⟨h1,h2,h3⟩:=hJ H' hs i;rw[aa] at h1 h2 h3
 by_cases hlt:i<ps.length
 ·refine .inr ⟨h1 hlt,λx H'' y=>?_⟩;obtain⟨rfl,hx⟩:=h2 x H'' y;have hx:=hx hlt;rw[aD,aC hlt] at hx;cases hx;have hm:ps[i]∈ps:=b9 hlt;have le:ys.length<=i:=by
   have a:=congrArg List.length e1;rw[aa,a8] at a;omega
  refine⟨g ps[i],_,rfl,AW.of (hs.get (hpr _ hm)),rfl,_,_,rfl,_,_,rfl,rfl,?_⟩;show te (some (A ps[i])::some (B ps[i])::rest) H'' _;refine helt _ hm H'' _ hs λv H4 s4 hv=>?_
  have hl4:=s4.get hl';refine⟨_,hl4,By (by rw[aa];omega),ps.length-(i+1),by omega,rfl,hlt,⟨_,_,rfl⟩,Cu (hs.trans s4) hl _,ys++[(ps[i],v)],?_,?_,λq hq=>?_⟩
  ·rw[Ac,aO];rfl
  ·rw[bG,aC hlt,aO,e1];rfl
  ·rcases aK.mp hq with h|h
   ·exact hU _ _ _ _ _ _ (hP _ _ _ _ (hys q h) s4) hl4
   ·rw[ah.mp h];exact hU _ _ _ _ _ _ hv hl4
 ·have e:i=ps.length:=by omega
  subst e;exact .inl ⟨h3 (au _),hQ l H' ys hl hs hl' (by rw[e1,aY (au _)]) hys⟩
def Wt (z:Str):Prop:=∃P,CP P/\z=jn P/\¬Gp P/\(jn P).length<=1000
theorem LR:Bh (.str EM)=false:=by decide +kernel
theorem Q8 {P R:List Str}(v:∀s∈P,47∉AQ s)(h:∀s∈R,47∉AQ s)(ne:P++R≠[EM]):CP (P++R):=⟨λs hs=>(aK.mp hs).elim (v s) (h s),ne⟩
theorem Xx {P:List Str}(vP:VP P)(nP:P≠[])(l8:P.length<=8):∀z∈[SL++jn P,jn P++SL,jn P++PySem.Str.ofString "//a",jn P++PySem.Str.ofString " "],Wt z:=by
 obtain⟨I,s,rfl⟩:=BF nP;have c1:∀x∈I++[s],47∉AQ x:=vP.cp.no;have ce:∀x∈[EM],47∉AQ x:=λx hx=>by rw[ah.mp hx];exact λh=>nomatch h
 have lj:=D5 vP;have hs:=vP s (aG _ (ah.mpr rfl));intro z hz;simp only[List.mem_cons,List.not_mem_nil,or_false] at hz;have ln:∀{z:Str} {R:List Str},jn R=z->z.length<=1000->(jn R).length<=1000:=λe h=>by rw[e];exact h
 rcases hz with rfl|rfl|rfl|rfl
 ·have e:jn (EM::(I++[s]))=SL++jn (I++[s]):=EY (by
   have:=BM (EM::I) s;rw[cK] at this;rw[this,BJ,BM];rfl)
  refine⟨_,⟨λx hx=>(aM.mp hx).elim (λh=>by rw[h];exact λh=>nomatch h) (c1 x),λz=>by simp at z⟩,e.symm,λg=>?_,by rw[e,len_app];show 1+_<=1000;omega⟩;have:=g.1 EM aw;rw[LR] at this;cases this
 ·have e:jn ((I++[s])++[EM])=jn (I++[s])++SL:=EY (by
   rw[BM,BJ,BM];unfold fl;rw[bY];simp;rfl)
  refine⟨_,Q8 c1 ce (λz=>by have:=congrArg List.length z;simp at this),e.symm,λg=>?_,by rw[e,len_app];show _+1<=1000;omega⟩;have:=g.1 EM (aG _ (ah.mpr rfl));rw[LR] at this;cases this
 ·have e:jn (((I++[s])++[EM])++[PySem.Str.ofString "a"])=jn (I++[s])++PySem.Str.ofString "//a":=EY (by
   rw[BM,BJ,BM];unfold fl;rw[bY,bY];simp
   decide +kernel)
  refine⟨_,Q8 (λx hx=>(aK.mp hx).elim (c1 x) (ce x)) (λx hx=>by rw[ah.mp hx];decide +kernel) (λz=>by have:=congrArg List.length z;simp at this),e.symm,λg=>?_,by rw[e,len_app];show _+3<=1000;omega⟩;have:=g.1 EM (bB _ (aG _ (ah.mpr rfl)));rw[LR] at this;cases this
 ·have e:jn (I++[s++PySem.Str.ofString " "])=jn (I++[s])++PySem.Str.ofString " ":=EY (by
   rw[BM,BJ,BJ,BM,bI])
  have h32:32∈AQ (s++PySem.Str.ofString " "):=by rw[BJ];exact aG _ (by decide +kernel)
  have nb:Bh (.str (s++PySem.Str.ofString " "))≠true:=λh=>by
   have h':(decide ((1:Int)<=(s++PySem.Str.ofString " ").length)&&decide (((s++PySem.Str.ofString " ").length:Int)<=8)&&Cs LN (s++PySem.Str.ofString " "))=true:=h;rw[aQ] at h';have h3:=h'.2;unfold Cs at h3;rw[a5] at h3;exact absurd (aE (h3 32 h32)) (by decide +kernel)
  have c47:47∉AQ (s++PySem.Str.ofString " "):=by
   rw[BJ];intro h;rcases aK.mp h with h|h
   ·exact(BR hs).1 h
   ·exact absurd h (by decide +kernel)
  refine⟨_,Q8 (λx hx=>c1 x (bB _ hx)) (λx hx=>by rw[ah.mp hx];exact c47) (λz=>?_),e.symm,λg=>nb (g.1 _ (aG _ (ah.mpr rfl))),by rw[e,len_app];show _+1<=1000;omega⟩;have hI:I=[]:=by cases I with|nil=>rfl|cons a I=>simp at z
  subst hI;rw[bO z] at h32;exact nomatch h32
theorem Zb:∀z∈[PySem.Str.ofString "/",PySem.Str.ofString "A",PySem.Str.ofString "a//b",PySem.Str.ofString "a/a/a/a/a/a/a/a/a"],Wt z:=by
 intro z hz;simp only[List.mem_cons,List.not_mem_nil,or_false] at hz;have nm:∀{P:List Str} {x:Str},x∈P->Bh (.str x)=false->¬Gp P:=λhx e g=>by rw[g.1 _ hx] at e;cases e
 have cp:∀P:List Str,(P.all λs=>decide (47∉AQ s))=true->P≠[EM]->CP P:=λP h n=>⟨λs hs=>aE (a5.mp h s hs),n⟩
 rcases hz with rfl|rfl|rfl|rfl
 ·exact⟨[EM,EM],cp _ (by decide +kernel) (by simp),by decide +kernel,nm aw LR,by decide +kernel⟩
 ·exact⟨[PySem.Str.ofString "A"],cp _ (by decide +kernel) (by decide +kernel),by decide +kernel,nm aw (by decide +kernel),by decide +kernel⟩
 ·exact⟨[PySem.Str.ofString "a",EM,PySem.Str.ofString "b"],cp _ (by decide +kernel) (by simp),by decide +kernel,nm (x:=EM) (by simp) LR,by decide +kernel⟩
 ·exact⟨List.replicate 9 (PySem.Str.ofString "a"),cp _ (by decide +kernel) (λz=>by cases z),by decide +kernel,λg=>absurd g.2 (by decide),by decide +kernel⟩
theorem Ue {H:Hp}{v:V}{t:AM}{P:List Str}{S:Addr->Prop}(nP:P≠[])(na:NAt H v (λR=>gT t (P++R)) S):(∃d,v=.ref d/\lk t P=some none)\/∃c,v=.str c/\lk t P=some (some c):=by
 rcases na.gv with⟨c,rfl,eg⟩|⟨d,ch,rfl,eg,_⟩
 ·have:=congrFun eg [];rw[aJ,BZ nP] at this;exact .inr ⟨c,rfl,this⟩
 ·have:=congrFun eg [];rw[aJ,BZ nP] at this;exact .inl ⟨d,rfl,this⟩
def Y2 (H:Hp)(t:AM)(r:Lj):Prop:=H r.1=some (.tup [.str (jn r.2.1),r.2.2])/\CP r.2.1/\((∃d kvs,r.2.2=.ref d/\H d=some (.dK kvs)/\∀c,lk t r.2.1≠some (some c))\/∃c,r.2.2=.str c/\lk t r.2.1=some (some c))
theorem Y2.same {H H':Hp}{t:AM}{r:Lj}(h:Y2 H t r)(s:Aw H H'):Y2 H' t r:=⟨s.get h.1,h.2.1,h.2.2.imp (λ⟨d,kvs,a,b,c⟩=>⟨d,kvs,a,s.get b,c⟩) id⟩
theorem HW.kept {C:Addr}{H H':Hp}{x:Addr}{ks:List Str}{gs:List Gs}{KV:List (Key×V)}(h:HW C H x ks gs)(nk:∀t,Bx t≠KV)(k:∀b u,u≠.dK KV->H b=some u->H' b=some u):HW C H' x ks gs:=by
 obtain⟨ag,qs,ps,⟨dx,h1,k1,n1,hx,hd⟩,rq,ek,eg⟩:=h.at_;have tp:∀{b xs},H b=some (.tup xs)->H' b=some (.tup xs):=λe=>k _ _ (λz=>by cases z) e
 refine⟨⟨ag,qs,ps,⟨dx,h1,k1,n1,k _ _ (λz=>by cases z) hx,⟨tp hd.at_,tp hd.kp,λq hq=>tp (hd.ke q hq),tp hd.nm,λp hp=>⟨k _ _ (λz=>nk _ (by injection z)) (hd.en p hp).1,tp (hd.en p hp).2⟩⟩⟩,rq,ek,eg⟩,h.ri,h.few,h.k1,h.tr⟩
theorem KN {α:Type}{F:Addr->Prop}{H:Hp}(f:α->Tr):∀(bs:List (V×α)),(∀b∈bs,Rep F H (f b.2) b.1)->Ct F H (bs.map λb=>f b.2) (bs.map (·.1))
 |[],_=>rfl
 |b::bs,h=>⟨_,_,rfl,h b aw,KN f bs λc hc=>h c (ao _ hc)⟩
def Nm (t:AM)(P:List Str):Tr:=.tup [.str (jn P),.int (XW ((lk t P).getD none))]
theorem Qw {F:Addr->Prop}{H:Hp}{t:AM}{P:List Str}{b:Addr}(h:H b=some (.tup [.str (jn P),.int (XW ((lk t P).getD none))])):Rep F H (Nm t P) (.ref b):=⟨b,_,rfl,h,_,_,rfl,rfl,_,_,rfl,rfl,rfl⟩
theorem UL (t:AM)(Ps:List (List Str)):(Tr.lst (Ps.map (Nm t))).dep<=100:=by
 have:∀Ps:List (List Str),Tr.deps (Ps.map (Nm t))<=2:=λPs=>by
  induction Ps with
  |nil=>exact a6 _
  |cons P Ps ih=>
   show max (Nm t P).dep (Tr.deps (Ps.map (Nm t)))<=2;have:(Nm t P).dep=2:=rfl;omega
 show 1+Tr.deps (Ps.map (Nm t))<=100;have:=this Ps;omega
structure Both (C:Addr) (H:Hp) (x td:Addr) (Tm:Str->AM) (D:Str->Addr) (ks:List Str) (gs:List Gs):Prop where
 hw:HW C H x ks gs
 g0:(S0,true,Tm S0)∈gs
 g1:(S1,true,Tm S1)∈gs
 ge:(SE,false,Tm SE)∈gs
 lt:LwT H td Tm D
 tk:∀n,TrOk (Tm n)
theorem Both.g {H:Hp}{x td:Addr}{Tm:Str->AM}{D:Str->Addr}{ks:List Str}{gs:List Gs}(h:Both C H x td Tm D ks gs){n:Str}(hn:n=S0\/n=S1\/n=SE):∃b,(n,b,Tm n)∈gs:=by
 rcases hn with rfl|rfl|rfl
 ·exact⟨_,h.g0⟩
 ·exact⟨_,h.g1⟩
 ·exact⟨_,h.ge⟩
def I0 (K:W.Frag)(C:Addr)(PT PU:Addr):Sp:=λvs H Q _=>∃(x td:Addr) (Tm:Str->AM) (D:Str->Addr) (ks:List Str) (gs:List Gs),vs=[.ref x,.ref td]/\Both C H x td Tm D ks gs/\Tb PT PU H/\∀H',St H H'->Tb PT PU H'->Q (.bl true) H'
theorem Ni (T:Txt K mg C XC)(F:Fun K "_law_right" "_law_right" GI f fd)(LA:LamAt K mg base fd.code PT)(Dp:BI P w K mg base 5 C "paths" ["self","name"] (ES K C XC))(B2:Def P w K mg base 21 "_law_all" ["_law_tree","_law_path_here"] (FG K))(C2:Def P w K mg base 6 "_law_is_unread" ["_law_house","_law_name","_law_path_here"] (FD K C))(BL:BI P w K mg base 5 C "read" ["self","name","path"] (Dt K C XC)):FnOk P w K mg base Ef 22 f fd ["_law_house","_law_trees"] (I0 K C PT PU):=by
 refine F.okC Br (λvs H Q E h=>?_) (λcdv A outer s H vs Q E hcd hr h=>?_)
 ·obtain⟨x,td,Tm,D,ks,gs,rfl,_⟩:=h;rfl
 subst hcd;obtain⟨x,td,Tm,D,ks,gs,rfl,bo,tb,q⟩:=h;have hu:=C4 hr;have hu9:=Mc hr;refine⟨_,(!Ad (!Pc bJ rfl (pv 1) (@AK _ _ (2) _ Br.nd rfl ∅ ∅) (!Ad (@Av _ _ (3) _ _ _ _ Br.nd rfl ∅ (@NC _ _ _ _ _ _ (0) _ _ _ _ _ _ _ _ _ _ (hr.mono (au _)) ⟨λ_ _ _ _ _ _=>rfl,λ_=>rfl,λ_=>rfl,rfl,rfl,rfl,rfl,by decide,by decide⟩ LA (by decide) rfl rfl T.b_sorted (!Aa (!AH B2 ∅ rfl (!Aa (!B4 hu (pv 1) (pv 2) (λ_ _=>rfl)) (!Aa (!Aj) (!Ab)))) (!Ab)) (by rfl) (by rfl)) (by rfl) ∅) (!Ad (@Pq _ ["_law_path_here","_law_node"] (4) _ _ _ _ _ _ _ _ _ _ _ _ _ Br.nd rfl ∅ rfl (!Cb (pv 3)) (by decide +kernel) (λC s H fp=>⟨(@Wl _ (K) _ _ _ _ (2) (by rfl) rfl (!B7 (@AK _ _ (0) _ (show(["_law_path_here","_law_node"]:List Str).Nodup by decide +kernel) rfl ∅ ∅) (!B7 (@AK _ _ (1) _ (show(["_law_path_here","_law_node"]:List Str).Nodup by decide +kernel) rfl ∅ ∅) (!GS))) (by rfl) (by rfl)),(!CK),(!Az (!Aa (pv 0) (!Aa (!Ay Ce (!Ag) (!Cy KU (by rfl) T.b_int Ry (!Aa (!AA (O8 (K:=K) (by rfl)) (by rfl) T.b_isinstance AF (!Aa (pv 1) (!Aa (!Gf rfl T.b_dict CD) (!Ab)))) (!Ab)))) (!Ab))))⟩) (by intro _;rfl) (by rfl) ∅) (!Ad (@Av _ _ (5) _ _ _ _ Br.nd rfl ∅ (!Ba (pv 0) T.cl Dp ∅ GE (!Aa (pv 2) (!Ab))) (by rfl) ∅) (!Ad (!AJ (@PW.pt _ _ _ (!D1 (!Cg (!Bq (!AA Bv (by rfl) T.b_isinstance AF (!Aa (pv 5) (!Aa (!Gf rfl T.b_list Sm) (!Ab)))) (by intro _;rfl))) (!CM (!Ax (W7 hu9) (pv 5) (pv 4) (AC _))))) (!Af (!Aq (!G5))) (!Ao)) (!Ad (!AD (!Dm a7 bD bC Cw (pv 5) (!Aa (!Aj) (!Ab)))) (!Ad (!CQ bJ rfl (!Cb (!Ay LH (pv 3) (!Bk (!Aa (!Az (!Aa (!Aj) (!Aa (!Fw) (!Ab)))) (!Ab))))) (!Jd rfl (!B7 (@AK _ _ (6) _ Br.nd rfl ∅ ∅) (!B7 (@AK _ _ (7) _ Br.nd rfl ∅ ∅) (!GS)))) (!Ad (!AJ (@PW.pt _ _ _ (!Kr (!Bq (!AA Bv (by rfl) T.b_isinstance AF (!Aa (pv 7) (!Aa (!Gf rfl T.b_dict CD) (!Ab)))) (by intro _;rfl)) (!IF (!Cg (!Bq (!AH C2 ∅ rfl (!Aa (pv 0) (!Aa (pv 2) (!Aa (pv 6) (!Ab))))) (by intro _;rfl)))))) (!Af (!Aq (!G5))) (!Ao)) (!Af (!AJ (@PW.pt _ _ _ (!Kr (!Cg (!Bq (!AA Bv (by rfl) T.b_isinstance AF (!Aa (pv 7) (!Aa (!Gf rfl T.b_dict CD) (!Ab)))) (by intro _;rfl))) (!IF (!Ax JO (!Ba (pv 0) T.cl BL ∅ GE (!Aa (pv 2) (!Aa (pv 6) (!Ab)))) (pv 7) (AC _))))) (!Af (!Aq (!G5))) (!Ao)))) (by intro _;rfl)) (!Ad (@Av _ _ (8) _ _ _ _ Br.nd rfl ∅ (!Bk (!Aa (!Aj) (!Aa (!Aj) (!Aa (!Aj) (!Aa (!Aj) (!Ab)))))) (by rfl) ∅) (!Ad (!CQ bJ rfl (!Cb (!Ay LH (!BA FF (pv 3) (!B6) (!BO (!Ag))) (!BA FF (pv 3) (!BO (!Uj Rj (!Ag))) (!B6)))) (!Jd rfl (!B7 (@AK _ _ (6) _ Br.nd rfl ∅ ∅) (!B7 (@AK _ _ (7) _ Br.nd rfl ∅ ∅) (!GS)))) (!Af (!AD (!Dm a7 gK gJ N8 (pv 8) (!Aa (!Bk (!Aa (!Ay AR (!Aj) (pv 6)) (!Aa (!Ay AR (pv 6) (!Aj)) (!Aa (!Ay AR (pv 6) (!Aj)) (!Aa (!Ay AR (pv 6) (!Aj)) (!Ab)))))) (!Ab))))) (by intro _;rfl)) (!Af (!AJ (!Ax (UJ hu) (@Gw _ ["_law_path_here","_law_house","_law_name"] [none,some 0,some 2] _ _ _ _ _ _ _ _ _ _ _ rfl (!Cb (pv 8)) (by rfl) rfl (by repeat (first|exact trivial|refine⟨rfl,?_⟩)) (by repeat (first|exact trivial|refine⟨λh=>(by first|exact⟨_,rfl⟩|cases h),?_⟩)) (λC s H fp=>⟨(@AK _ _ (0) _ (show(["_law_path_here","_law_house","_law_name"]:List Str).Nodup by decide +kernel) rfl ∅ ∅),(!JL (!Cg (!Bq (!AH C2 ∅ rfl (!Aa (pv 1) (!Aa (pv 2) (!Aa (pv 0) (!Ab))))) (by intro _;rfl)))),(pv 0)⟩) (by intro _;rfl)) (!Bk (!Ab)) (AC _)) (!Af (!Aq (!G5))) (!Ao))))))))))) (by intro _;rfl)) (!Af (!Aq (!G5)))),?_⟩
 try dsimp only[A4,Cx.nox,Cx.wish]
 obtain⟨KV,eKV⟩:∃KV:List (Key×V),KV=[(.inr S0,.ref (D S0)),(.inr S1,.ref (D S1)),(.inr SE,.ref (D SE))]:=⟨_,rfl⟩
 have htd:H td=some (.dK KV):=by rw[eKV];exact bo.lt.at_
 have nf:∀o u,H td≠some (.frz o u):=λo u z=>by rw[htd] at z;cases z
 refine⟨_,rfl,td,_,rfl,htd,λo=>?_⟩;have hf:(upd H td (.frz o (.dK KV))) td=some (.frz o (.dK KV)):=Ac;have kf:∀b u,b≠td->H b=some u->(upd H td (.frz o (.dK KV))) b=some u:=λb u n e=>by rw[Ak n];exact e
 have th:∀H3,St (upd H td (.frz o (.dK KV))) H3->St H (upd H3 td (.dK KV)):=λH3 k=>⟨λb u n e=>by
  by_cases z:b=td
  ·rw[z] at e ⊢;rw[Ac,<-htd];exact e
  ·rw[Ak z];exact k.keep b u n (kf b u z e),λb e=>by
  by_cases z:b=td
  ·rw[z,Ac] at e;cases e
  ·rw[Ak z] at e;have:=k.there b e;rw[Ak z] at this;exact this⟩
 have tbf:Tb PT PU (upd H td (.frz o (.dK KV))):=by
  have go:∀{U:Addr} {q:Str} {lp:Pos},CI U q lp H->CI U q lp (upd H td (.frz o (.dK KV))):=λ{U q lp} t=>by
   rcases t with h|⟨c,h,h2⟩
   ·exact .inl (kf _ _ (BW h htd (by intro z;cases z)) h)
   ·exact .inr ⟨c,kf _ _ (BW h htd (by intro z;cases z)) h,kf _ _ (BW h2 htd (by intro z;cases z)) h2⟩
  exact⟨tb.ne,go tb.a,go tb.b⟩
 have nkv:∀t,Bx t≠KV:=λt z=>by
  rw[eKV] at z;cases t with
  |nil=>cases z
  |cons p t=>
   have e:=(fT (cf z).1).2;have e:cV p.2=V.ref (D S0):=e;cases h:p.2<;>rw[h] at e<;>cases e
 have hwf:HW C (upd H td (.frz o (.dK KV))) x ks gs:=bo.hw.kept nkv λb u n e=>kf b u (λz=>by rw[z,htd] at e;exact n (aI e).symm) e
 have gtf:∀H9,H9 td=some (.frz o (.dK KV))->∀n,(n=S0\/n=S1\/n=SE)->EO H9 td (.str n) (some (.ref (D n))):=λH9 e n hn=>by
  have g:=EO.kf (k:=Sum.inr n) e;have ev:F5 KV (.inr n)=some (.ref (D n)):=by
   rw[eKV];rcases hn with rfl|rfl|rfl
   ·exact CL rfl
   ·exact(CU λe=>Pi (bq e)).trans (CL rfl)
   ·exact(CU λe=>TH (bq e)).trans ((CU λe=>TJ (bq e)).trans (CL rfl))
  rw[ev] at g;exact g
 have natf:∀n,(n=S0\/n=S1\/n=SE)->∃S,NAt (upd H td (.frz o (.dK KV))) (.ref (D n)) (gT (Tm n)) S:=λn hn=>by
  obtain⟨S,na⟩:=bo.lt.nat n hn;exact⟨S,na.keep λa kvs ha e=>kf a _ (λz=>bo.lt.no hn na (z▸ha)) e⟩
 generalize upd H td (.frz o (.dK KV))=Hf at hf th tbf hwf natf;refine K1 (d:=td) (o:=o) (kvs:=KV) nf (λi σ Hi=>(∃o2 o3 o4 o5 o6 o7 o8,σ=[some (.ref x),some (.ref td),o2,o3,o4,o5,o6,o7,o8])/\St Hf Hi/\Tb PT PU Hi) ⟨⟨none,none,none,none,none,none,none,rfl⟩,.refl _,tbf⟩ (λi σ Hi _ ⟨_,k,_⟩=>k.keep _ _ (λ_ z=>by cases z) hf) ?_ ?_
 ·rintro i k v σ Hi ei ⟨⟨o2,o3,o4,o5,o6,o7,o8,rfl⟩,S0i,tbi⟩
  obtain⟨n,rfl,hn⟩:∃n,k=.inr n/\(n=S0\/n=S1\/n=SE):=by
   have hm:=aN ei;rw[eKV] at hm;simp only[List.mem_cons,List.not_mem_nil,or_false,Prod.mk.injEq] at hm;rcases hm with⟨rfl,_⟩|⟨rfl,_⟩|⟨rfl,_⟩
   ·exact⟨_,rfl,.inl rfl⟩
   ·exact⟨_,rfl,.inr (.inl rfl)⟩
   ·exact⟨_,rfl,.inr (.inr rfl)⟩
  obtain⟨bn,mg⟩:=bo.g hn;have tk:=bo.tk n;obtain⟨S,na⟩:=natf n hn;have nai:=na.keep λa kvs _ e=>S0i.dk e
  have hwi:=hwf.st S0i;have tdi:=S0i.keep _ _ (λ_ z=>by cases z) hf;have gti:=gtf Hi tdi n hn;generalize D n=d at nai gti;generalize Tm n=t at mg tk nai
  clear na natf gtf
  dsimp only[AU];refine HC λEB eEB=>?_
  refine Ap λN eN=>?_
  refine⟨_,rfl,_,rfl,td,_,rfl,gti,d,[],gT t,S,rfl,(λ_ h=>nomatch h),(by decide),nai,Bd.of tk.v,λP hP=>?_,λl rows H1 s1 nl hl ok al=>?_⟩
  ·by_cases c:P=[]
   ·rw[c];decide
   ·obtain⟨p,hp,rfl⟩:=aj.mp ((IU tk.v.nd c).mp hP);have:=tk.v.deep p hp;omega
  have pm:=KA tk.v ok al;have lr:rows.length=t.length:=by have:=pm.length_eq;rw[aa,aa] at this;exact this
  have fw:=tk.b.few;have vp:∀r∈rows,VP r.2.1:=λr hr=>(ok.val r hr).2.1
  refine⟨l,rows.map λr=>(r.1,jn r.2.1),rfl,by rw[az];exact AV.of hl,by rw[aa];omega,λy hy=>?_,?_,tbi.a.same s1,λus p2 H2 up us2 st2 ta2 np2=>?_⟩
  ·obtain⟨r,hr,rfl⟩:=aj.mp hy;have:=ok.at_ r hr;rw[cx] at this;exact⟨_,AW.of this,rfl⟩
  ·rw[az];have nd:=ok.nd;rw[List.Nodup,bH] at nd ⊢;exact gL (λ{a b} ha hb ne e=>ne (FM (vp a ha).cp (vp b hb).cp e)) nd
  obtain⟨rs,pr,rfl⟩:=Tz up rfl;have S2:St H1 H2:=LU st2 (tbi.a.same s1) ta2;have tb2:Tb PT PU H2:=(tbi.same s1).l st2 ta2;have s3:=Ae np2 (.lst ((rs.map λr:Lj=>(r.1,jn r.2.1)).map λt=>V.ref t.1));have h3:(upd H2 p2 (.lst ((rs.map λr:Lj=>(r.1,jn r.2.1)).map λt=>V.ref t.1))) p2=some (.lst (rs.map λr=>V.ref r.1)):=by rw[Ac,az];rfl
  generalize upd H2 p2 (.lst ((rs.map λr:Lj=>(r.1,jn r.2.1)).map λt=>V.ref t.1))=H3 at s3 h3;have S13:=S2.trans (AE s3);have Si3:=(AE s1).trans S13;have tb3:=tb2.same s3;have hw3:=hwi.st Si3;have rok:∀r∈rs,H3 r.1=some (.tup [.str (jn r.2.1),r.2.2])/\r.2.1≠[]/\VP r.2.1/\∃S',NAt H3 r.2.2 (λR=>gT t (r.2.1++R)) S':=λr hr=>by
   have hr:=pr.mem_iff.mp hr;obtain⟨h1,h2,h4,S',h5,_⟩:=ok.val r hr;have:=ok.at_ r hr;rw[cx] at this;exact⟨S13.tup this,h1,h2,S',h5.keep λa kvs _ e=>S13.dk e⟩
  have rso:rs.Pairwise λa b=>Qr (jn a.2.1) (jn b.2.1):=by rw[bH] at us2;exact us2
  have rpm:(rs.map (·.2.1)).Perm (t.map (·.1)):=(pr.map _).trans pm;have rlen:rs.length=t.length:=by rw[pr.length_eq,lr]
  clear us2 up ok al pm pr vp nl hl nai
  subst eN
  try dsimp only[AU]
  obtain⟨ag,qs,ps,⟨dx,hh,hk,hn9,hx,_⟩,_⟩:=hw3.at_;refine Ap λN eN=>?_
  refine⟨_,rfl,p2,rfl,⟨_,AV.of h3⟩,?_⟩;refine Rx (ps:=rs) (g:=λr=>r.1) (A:=λr=>V.str (jn r.2.1)) (B:=λr=>r.2.2) (λr y H'=>∃b,y=V.ref b/\H' b=some (.tup [.str (jn r.2.1),.int (XW ((lk t r.2.1).getD none))])) rfl ?_ ?_ (E9 (AV.of h3)) (λr hr=>(rok r hr).1) (by omega) (λr hr H' R s' hR=>?_) λl4 H4 ys nl4 s4 hl4 ey hy=>?_
  ·rintro r y Ha Hb ⟨b,e,hb⟩ sab
   exact⟨b,e,sab.get hb⟩
  ·rintro r y Ha la us us' ⟨b,e,hb⟩ hla
   exact⟨b,e,by rw[Ak (BW hb hla (by intro z;cases z))];exact hb⟩
  ·obtain⟨_,n1,_,S',nr⟩:=rok r hr;have nr:=nr.same s';obtain⟨t',ty,kt,_⟩:=HJ nr K;refine⟨_,rfl,_,rfl,_,_,_,_,rfl,ty,kt,.inr ⟨_,rfl,_,_,rfl,rfl,Bs,λb nb=>hR _ _ (Ae nb _) ⟨b,rfl,?_⟩⟩⟩;rw[Ac];rcases Ue n1 nr with⟨d2,e1,e2⟩|⟨c,e1,e2⟩
   ·rw[e1,e2];rfl
   ·rw[e1,e2];rfl
  have S34:=Si3.trans (AE s4);subst eN
  try dsimp only[AU]
  refine Ap λN eN=>?_
  refine⟨_,rfl,x,dx,_,rfl,s4.get hx,rfl,_,rfl,x,n,t,bn,ks,gs,rfl,hw3.st (AE s4),mg,λl5 zs H5 s5 nl5 told hzs hl5=>?_⟩;have ezs:zs.map (·.2)=rs.map (·.2.1):=by
   have p1:(zs.map λy=>jn y.2).Perm (rs.map λr=>jn r.2.1):=by
    refine told.pm.trans ?_;have:=(rpm.map jn).symm;rw[az,az] at this;exact this
   have nd:(rs.map λr:Lj=>jn r.2.1).Nodup:=by
    rw[List.Nodup,bH];exact rso.imp λh=>Jw h
   have e:=OA (key:=λz:Str=>z) p1 (RI told.so (p1.nodup_iff.mpr nd)) (by rw[bH];exact rso);have inj:∀(a b:List (List Str)),(∀P∈a,CP P)->(∀P∈b,CP P)->a.map jn=b.map jn->a=b:=λa=>by
    induction a with
    |nil=>intro b _ _ e;cases b with|nil=>rfl|cons _ _=>cases e
    |cons P a ih=>
     intro b ha hb e;cases b with
     |nil=>cases e
     |cons R b=>
      obtain⟨e1,e2⟩:=cf e;rw[FM (ha P aw) (hb R aw) e1,ih b (λX hX=>ha X (ao _ hX)) (λX hX=>hb X (ao _ hX)) e2]
   refine inj _ _ (λP hP=>?_) (λP hP=>?_) (by rw[az,az];exact e)
   ·obtain⟨y,hy,rfl⟩:=aj.mp hP;exact(hzs y hy).1.cp
   ·obtain⟨y,hy,rfl⟩:=aj.mp hP;exact(rok y hy).2.2.1.cp
  subst eN
  try dsimp only[AU]
  refine Ap λN eN=>?_
  refine⟨_,rfl,_,_,_,_,rfl,.lst hl5,M3 K,_,rfl,As rfl ?_⟩;have lz:zs.length=rs.length:=by have:=congrArg List.length ezs;rw[aa,aa] at this;exact this
  refine⟨_,rfl,_,rfl,.lst ((rs.map (·.2.1)).map (Nm t)),λ_=>True,λ_=>True,UL t _,?_,?_,_,rfl,As rfl ?_⟩
  ·refine⟨l5,_,rfl,trivial,hl5,?_⟩;have:=KN (F:=λ_=>True) (H:=H5) (Nm t) (zs.map λy=>(V.ref y.1,y.2)) λb hb=>by
    obtain⟨y,hy,rfl⟩:=aj.mp hb;exact Qw (hzs y hy).2.2
   rw[az,az] at this;rw[<-ezs,az];exact this
  ·refine⟨l4,_,rfl,trivial,s5.get hl4,?_⟩;have:=KN (F:=λ_=>True) (H:=H5) (λr:Lj=>Nm t r.2.1) (ys.map λy=>(y.2,y.1)) λb hb=>by
    obtain⟨y,hy9,rfl⟩:=aj.mp hb;obtain⟨b,e,hb⟩:=hy y hy9;show Rep _ _ _ y.2;rw[e];exact Qw (s5.get hb)
   rw[az,az] at this;rw[<-ey,az,az];exact this
  subst eN
  try dsimp only[AZ]
  refine Ap λN eN=>?_
  refine⟨_,rfl,.inl ⟨rfl,_,AV.of hl5⟩,l5,_,_,rfl,rfl,hl5,By (by rw[aa];omega),?_⟩;have s46:Aw H4 (upd H5 l5 (.lst ((zs.map λy=>V.ref y.1)++[V.str (PySem.Str.ofString "more")]))):=Cu s5 nl5 _;generalize upd H5 l5 (.lst ((zs.map λy=>V.ref y.1)++[V.str (PySem.Str.ofString "more")]))=H6 at s46;have s36:=s4.trans s46
  clear ezs hzs hl5 told lz s5 hy ey hl4 nl4 s4 nl5
  subst eN
  try dsimp only
  refine Ap λN eN=>?_
  refine⟨_,rfl,λe0 ne0=>⟨Bs,λp0 np0=>⟨CH,λl6 n6=>?_⟩⟩⟩;have s7:=Ae ne0 (.dK []);have h7:(upd H6 e0 (.dK [])) e0=some (.dK []):=Ac;generalize upd H6 e0 (.dK [])=H7 at s7 h7 np0 n6 ⊢;have s8:=Ae np0 (.tup [V.str (PySem.Str.ofString ""),V.ref e0]);have h8:(upd H7 p0 (.tup [V.str (PySem.Str.ofString ""),V.ref e0])) p0=some (.tup [V.str (jn []),V.ref e0]):=Ac;generalize upd H7 p0 (.tup [V.str (PySem.Str.ofString ""),V.ref e0])=H8 at s8 h8 n6 ⊢;have s9:=Ae n6 (.lst [V.ref p0]);have h9:(upd H8 l6 (.lst [V.ref p0])) l6=some (.lst [V.ref p0]):=Ac;generalize upd H8 l6 (.lst [V.ref p0])=H9 at s9 h9 ⊢;have s69:=(s7.trans s8).trans s9;have s39:=s36.trans s69;refine⟨p2,l6,_,_,rfl,rfl,AV.of (s39.get h3),AV.of h9,small (by rw[aa];show rs.length+1<=1000000;omega),λl7 n7=>?_⟩;obtain⟨its,eits⟩:∃its:List Lj,its=rs++[(p0,[],V.ref e0)]:=⟨_,rfl⟩
  have exs:(rs.map λr=>V.ref r.1)++[V.ref p0]=its.map λr=>V.ref r.1:=by rw[eits,aO];rfl
  rw[exs];have s10:=Ae n7 (.lst (its.map λr=>V.ref r.1));have h10:(upd H9 l7 (.lst (its.map λr=>V.ref r.1))) l7=some (.lst (its.map λr=>V.ref r.1)):=Ac;generalize upd H9 l7 (.lst (its.map λr=>V.ref r.1))=H10 at s10 h10;have s310:=s39.trans s10;have iok:∀r∈its,Y2 H10 t r:=λr hr=>by
   rw[eits] at hr;rcases aK.mp hr with hr|hr
   ·obtain⟨h1,n1,v1,S',nr⟩:=rok r hr;refine⟨s310.get h1,v1.cp,?_⟩;rcases Ue n1 nr with⟨d2,e1,e2⟩|⟨c,e1,e2⟩
    ·rw[e1] at nr;obtain⟨ch,hd2,_⟩:=nr.ch;exact .inl ⟨d2,_,e1,s310.get hd2,λc z=>by rw[e2] at z;cases z⟩
    ·exact .inr ⟨c,e1,e2⟩
   ·rw[ah.mp hr];exact⟨s10.get (s9.get h8),⟨(λ_ h=>nomatch h),λh=>nomatch h⟩,.inl ⟨e0,_,rfl,s10.get (s9.get (s8.get h7)),λc z=>by rw[show lk t []=none from Pu tk.v] at z;cases z⟩⟩
  have hw10:=hw3.st (AE s310);have hx10:=s310.get hx;refine⟨l7,rfl,⟨_,AV.of h10⟩,Dj (K:=K) (a:=l7) (xs:=its.map λr=>V.ref r.1) (λi σ Hj=>Aw H10 Hj/\∃u6 u7 u8,σ=[some (.ref x),some (.ref td),some (.str n),some (.ref p2),some (.ref l4),some (.ref l5),u6,u7,u8]) ⟨.refl _,_,_,_,rfl⟩ (λi σ Hj _ ⟨sj,_⟩=>AV.of (sj.get h10)) ?_ ?_⟩
  ·rintro i v σ Hj ei ⟨sj,u6,u7,u8,rfl⟩
   rw[aD] at ei;obtain⟨r,er,rfl⟩:=aU.mp ei;obtain⟨h1,vr,kd⟩:=(iok r (aN er)).same sj;refine⟨r.1,_,rfl,AW.of h1,rfl,_,_,rfl,_,_,rfl,rfl,?_⟩;dsimp only[AU];have hwj:=hw10.st (AE sj);have hxj:=sj.get hx10;refine HC λEC eEC=>?_
   rcases kd with⟨d2,kvs,ev,hd2,no⟩|⟨c,ev,lkc⟩
   ·rw[ev];refine⟨_,rfl,_,_,_,_,rfl,.dK hd2,Q9 K,_,rfl,AG rfl ⟨_,rfl,_,rfl,_,rfl,x,n,r.2.1,t,bn,ks,gs,rfl,hwj,vr,mg,no,λHk sk=>⟨_,rfl,As rfl ?_⟩⟩⟩
    try dsimp only[AZ]
    refine⟨_,rfl,_,_,_,_,rfl,.dK (sk.get hd2),Q9 K,_,rfl,As rfl ?_⟩;subst eEC;exact⟨sj.trans sk,_,_,_,rfl⟩
   ·rw[ev];refine⟨_,rfl,_,_,_,_,rfl,.str c,Rc K,_,rfl,As rfl ?_⟩
    try dsimp only[AZ]
    refine⟨_,rfl,_,_,_,_,rfl,.str c,Rc K,_,rfl,AG rfl ?_⟩;refine⟨_,rfl,x,dx,_,rfl,hxj,rfl,_,rfl,_,rfl,x,n,r.2.1,t,bn,ks,gs,rfl,hwj,vr,mg,λc' e=>?_,λno=>absurd lkc (no c)⟩;rw[lkc] at e;cases e;refine⟨_,rfl,rfl,_,rfl,As (by rw[av rfl];rfl) ?_⟩;subst eEC;exact⟨sj,_,_,_,rfl⟩
  ·rintro σ Hj ⟨sj,u6,u7,u8,rfl⟩
   subst eN
   try dsimp only
   have hwj:=hw10.st (AE sj);have h3j:=(s310.trans sj).get h3;refine Ap λN eN=>?_
   refine⟨Nv,λl8 n8=>?_⟩;obtain⟨bs,ebs⟩:∃bs,bs=[PySem.Str.ofString "/",PySem.Str.ofString "A",PySem.Str.ofString "a//b",PySem.Str.ofString "a/a/a/a/a/a/a/a/a"]:=⟨_,rfl⟩
   have eb:[V.str (PySem.Str.ofString "/"),V.str (PySem.Str.ofString "A"),V.str (PySem.Str.ofString "a//b"),V.str (PySem.Str.ofString "a/a/a/a/a/a/a/a/a")]=bs.map V.str:=by rw[ebs];rfl
   rw[eb];have bb:∀z∈bs,Wt z:=by rw[ebs];exact Zb
   have bl:bs.length=4:=by rw[ebs];rfl
   clear eb ebs
   have s11:=Ae n8 (.lst (bs.map V.str));have h11:(upd Hj l8 (.lst (bs.map V.str))) l8=some (.lst (bs.map V.str)):=Ac;generalize upd Hj l8 (.lst (bs.map V.str))=H11 at s11 h11;subst eN
   try dsimp only[AU]
   refine Ap λN eN=>?_
   obtain⟨z1,c1,k1,m1⟩:=Sh (λr:Lj=>V.ref r.1) rs none (some 1);obtain⟨z2,c2,k2,m2⟩:=Sh (λr:Lj=>V.ref r.1) rs (some (-1)) none;have s311:=(s310.trans sj).trans s11;have h3k:=s11.get h3j;refine⟨_,rfl,_,rfl,p2,_,rfl,AV.of h3k,λla nla=>?_⟩;rw[c1];have s12:=Ae nla (.lst (z1.map λr=>V.ref r.1));have h12:(upd H11 la (.lst (z1.map λr=>V.ref r.1))) la=some (.lst (z1.map λr=>V.ref r.1)):=Ac;generalize upd H11 la (.lst (z1.map λr=>V.ref r.1))=H12 at s12 h12;refine⟨_,rfl,_,rfl,_,rfl,p2,_,rfl,AV.of (s12.get h3k),λlb nlb=>?_⟩;rw[c2];have s13:=Ae nlb (.lst (z2.map λr=>V.ref r.1));have h13:(upd H12 lb (.lst (z2.map λr=>V.ref r.1))) lb=some (.lst (z2.map λr=>V.ref r.1)):=Ac;generalize upd H12 lb (.lst (z2.map λr=>V.ref r.1))=H13 at s13 h13;refine⟨la,lb,_,_,rfl,rfl,AV.of (s13.get h12),AV.of h13,small (by rw[aa,aa];omega),λlc nlc=>?_⟩;rw[<-aO];have s14:=Ae nlc (.lst ((z1++z2).map λr=>V.ref r.1));have h14:(upd H13 lc (.lst ((z1++z2).map λr=>V.ref r.1))) lc=some (.lst ((z1++z2).map λr=>V.ref r.1)):=Ac;generalize upd H13 lc (.lst ((z1++z2).map λr=>V.ref r.1))=H14 at s14 h14;have mz:∀r∈z1++z2,r∈rs:=λr hr=>(aK.mp hr).elim (m1 r) (m2 r)
   have lz:(z1++z2).length<=120:=by rw[ar];omega
   generalize z1++z2=zz at h14 mz lz;have s1114:=(s12.trans s13).trans s14;have s314:=s311.trans s1114;have h814:=s1114.get h11;refine⟨lc,rfl,⟨_,AV.of h14⟩,Dj (K:=K) (a:=lc) (xs:=zz.map λr=>V.ref r.1) (λi σ Hq=>∃(b2:List Str) (u6 u7:Option V),σ=[some (.ref x),some (.ref td),some (.str n),some (.ref p2),some (.ref l4),some (.ref l5),u6,u7,some (.ref l8)]/\Kx l8 H14 Hq/\Hq l8=some (.lst (b2.map V.str))/\(∀z∈b2,Wt z)/\b2.length=4+4*i) ⟨bs,_,_,rfl,DH (.refl _),h814,bb,by omega⟩ (by rintro i σ Hq _ ⟨_,_,_,_,kq,_⟩;exact AV.of (kq.keep _ _ (λz=>by rw[z] at h14;rw[h814] at h14;have:=aI h14;injection this with this;cases zz with|nil=>have:=congrArg List.length this;rw[aa] at this;change bs.length=0 at this;omega|cons a r=>cases bs with|nil=>cases bl|cons c cs=>cases this) h14)) ?_ ?_⟩
   ·rintro i v σ Hq ei ⟨b2,u6,u7,rfl,kq,hq8,bb2,lb2⟩
    rw[aD] at ei;obtain⟨r,er,rfl⟩:=aU.mp ei;have hi:=(aA.mp er).1;have hr:=mz r (aN er);obtain⟨h1,n1,v1,_⟩:=rok r hr;have l8r:r.2.1.length<=8:=by
     obtain⟨y,hy,ey⟩:=aj.mp (rpm.mem_iff.mp (aj.mpr ⟨r,hr,rfl⟩));have:=tk.b.deep y hy;rw[ey] at this;exact this
    have lj:=D5 v1;have ba:=Xx v1 n1 l8r;have h1q:=kq.keep _ _ (λz=>by rw[z] at h1;have:=s314.get h1;rw[h814] at this;cases this) (s314.get h1);refine⟨r.1,_,rfl,AW.of h1q,rfl,_,_,rfl,_,_,rfl,rfl,?_⟩;dsimp only[AU];refine HC λEC eEC=>?_
    refine⟨_,rfl,.inl ⟨rfl,_,AV.of hq8⟩,_,rfl,_,_,rfl,rfl,small (by show 1+(jn r.2.1).length<=1000000;omega),_,rfl,_,_,rfl,rfl,small (by show(jn r.2.1).length+1<=1000000;omega),_,rfl,_,_,rfl,rfl,small (by show(jn r.2.1).length+3<=1000000;omega),_,rfl,_,_,rfl,rfl,small (by show(jn r.2.1).length+1<=1000000;omega),Nv,λlq nlq=>?_⟩;obtain⟨b4,e4⟩:∃b4,b4=[SL++jn r.2.1,jn r.2.1++SL,jn r.2.1++PySem.Str.ofString "//a",jn r.2.1++PySem.Str.ofString " "]:=⟨_,rfl⟩
    have e5:[V.str (PySem.Str.ofString "/"++jn r.2.1),V.str (jn r.2.1++PySem.Str.ofString "/"),V.str (jn r.2.1++PySem.Str.ofString "//a"),V.str (jn r.2.1++PySem.Str.ofString " ")]=b4.map V.str:=by rw[e4];rfl
    rw[e5];rw[<-e4] at ba;have b4l:b4.length=4:=by rw[e4];rfl
    have sq:=Ae nlq (.lst (b4.map V.str));refine⟨l8,lq,_,_,rfl,rfl,sq.get hq8,Ac,small (by rw[aa,aa];omega),?_⟩;subst eEC;refine⟨b2++b4,_,_,rfl,(kq.trans (DH sq)).upd h814 _,by rw[Ac,aO],λz hz=>(aK.mp hz).elim (bb2 z) (ba z),by rw[ar];omega⟩
   ·rintro σ Hq ⟨b2,u6,u7,rfl,kq,hq8,bb2,lb2⟩
    rw[aa] at lb2;subst eN
    try dsimp only
    have ksm:Aw Hj Hq:=λb u e=>by
     have e2:=(s11.trans s1114).get e;exact kq.keep b u (λz=>by rw[z,n8] at e;cases e) e2
    have hwq:=hwj.st (AE ksm);refine⟨_,rfl,l8,rfl,⟨_,AV.of hq8⟩,?_⟩;refine N6 (ps:=b2) (g:=V.str) (λ_=>false) V.str (E9 (AV.of hq8)) (by omega) (λz hz H' R s' hR=>?_) (λz hz h _ _ _ _=>by cases h) λlr nlr H20 s20 h20=>?_
    ·obtain⟨P,vP,rfl,ng,lP⟩:=bb2 z hz;have no:∀c,lk t P≠some (some c):=λc e=>ng (tk.gp _ (Cq e))
     exact⟨_,rfl,_,rfl,_,rfl,x,n,P,t,bn,ks,gs,rfl,hwq.st (AE s'),vP,mg,no,λH'' s''=>⟨_,rfl,hR H'' s''⟩⟩
    rw[show(b2.filter λ_=>false)=[] from cA.mpr λ_ _=>ay] at h20;refine⟨MT,λle nle=>?_⟩;have s21:=Ae nle (.lst []);refine⟨lr,le,_,_,rfl,rfl,AV.of (s21.get h20),AV.of Ac,rfl,rfl,_,rfl,As rfl ?_⟩
    try dsimp only[AZ]
    subst eEB;have S9:=S13.trans (AE ((((s310.trans sj).trans ksm).trans s20).trans s21));exact⟨⟨_,_,_,_,_,_,_,rfl⟩,S0i.trans ((AE s1).trans S9),tb3.same ((((s310.trans sj).trans ksm).trans s20).trans s21)⟩
 ·rintro σ Hi ⟨⟨o2,o3,o4,o5,o6,o7,o8,rfl⟩,S0i,tbi⟩
  have tdi:=S0i.keep _ _ (λ_ z=>by cases z) hf;refine q _ (th Hi S0i) ?_;have go:∀{U:Addr} {q:Str} {lp:Pos},CI U q lp Hi->CI U q lp (upd Hi td (.dK KV)):=λ{U q lp} t=>by
   rcases t with h|⟨c,h,h2⟩
   ·exact .inl (by rw[Ak (BW h tdi (by intro z;cases z))];exact h)
   ·exact .inr ⟨c,by rw[Ak (BW h tdi (by intro z;cases z))];exact h,by rw[Ak (BW h2 tdi (by intro z;cases z))];exact h2⟩
  exact⟨tbi.ne,go tbi.a,go tbi.b⟩
def Dd.WF (d:Dd):Prop:=(∃P c,d=.wr S0 P c)\/∃P,d=.fo S0 P
def Runs:AM->List Dd->Prop
 |_,[]=>True
 |t,d::ds=>∃t1,d.f t t=.inr t1/\BOk t1/\d.cl t<=400/\d.Ok/\d.WF/\Runs t1 ds
structure Al (AL:List (List Str)):Prop where
 len:AL.length<=60
 fld:∀I,(AL.filter λP=>decide (P.dropLast=I)).length<=16
 ok:∀P∈AL,VP P/\P≠[]/\P.length<=2
structure J (AL:List (List Str)) (t:AM):Prop where
 nd:(t.map (·.1)).Nodup
 sub:∀p∈t,p.1∈AL
 ct:∀p∈t,∀c,p.2=some c->c.length<=400
theorem J.bok {AL:List (List Str)}{t:AM}(al:Al AL)(j:J AL t):BOk t:=by
 have k:∀(q:List Str×Option Str->Bool) (q':List Str->Bool),(∀p,q p=q' p.1)->(t.filter q).length<=(AL.filter q').length:=λq q' e=>by
  have:=Mf (l:=(t.filter q).map (·.1)) (m:=AL.filter q') (j.nd.sublist (List.filter_sublist.map _)) λP hP=>by
   obtain⟨p,hp,rfl⟩:=aj.mp hP;obtain⟨h1,h2⟩:=aV.mp hp;exact aV.mpr ⟨j.sub p h1,by rw[<-e];exact h2⟩
  rw[aa] at this;exact this
 refine⟨?_,λp _=>?_,λp hp=>?_,j.ct⟩
 ·have:=k (λ_=>true) (λ_=>true) λ_=>rfl
  rw[filter_tt,filter_tt] at this;have:=al.len;omega
 ·have:=k (λq=>decide (q.1.dropLast=p.1.dropLast)) (λP=>decide (P.dropLast=p.1.dropLast)) λ_=>rfl
  have:=al.fld p.1.dropLast;unfold Nn;rw[gb];omega
 ·have:=(al.ok p.1 (j.sub p hp)).2.2;omega
theorem J.put {AL:List (List Str)}{t:AM}(j:J AL t){P:List Str}{v:Option Str}(h:P∈AL)(hv:∀c,v=some c->c.length<=400):J AL (Ei t (P,v)):=by
 refine⟨RT j.nd,λp hp=>?_,λp hp c e=>?_⟩
 ·rcases Mx hp with e|hp
  ·rw[e];exact h
  ·exact j.sub p hp
 ·rcases Qa hp with e2|hp
  ·exact hv c (by rw[<-e];exact e2.symm)
  ·exact j.ct p hp c e
theorem Ux {AL:List (List Str)}(al:Al AL){t:AM}(j:J AL t){P:List Str}{c:Str}{ds:List Dd}(h:P∈AL)(lc:c.length<=400)(fo:Jq t P.dropLast=true)(nf:lk t P≠some none)(r:Runs (Ei t (P,some c)) ds):Runs t (.wr S0 P c::ds):=by
 obtain⟨vP,nP,l2⟩:=al.ok P h;have lj:=D5 vP;have nf2:¬Jq t P=true:=by
  unfold Jq;rw[aq nP,aq nf];exact ay
 exact⟨Ei t (P,some c),(ak ⟨nP,⟨vP,by omega⟩,fo⟩).trans (ai nf2),(j.put h λc' e=>by cases e;exact lc).bok al,lc,⟨⟨vP.cp,by omega⟩,by omega⟩,.inl ⟨_,_,rfl⟩,r⟩
theorem XX {AL:List (List Str)}(al:Al AL){t:AM}(j:J AL t){P:List Str}{ds:List Dd}(h:P∈AL)(fo:Jq t P.dropLast=true)(nl:lk t P=none)(r:Runs (Ei t (P,none)) ds):Runs t (.fo S0 P::ds):=by
 obtain⟨vP,nP,l2⟩:=al.ok P h;have lj:=D5 vP;exact⟨Ei t (P,none),(ak ⟨nP,⟨vP,by omega⟩,fo⟩).trans (ak nl),(j.put h λc' e=>by cases e).bok al,a6 _,⟨vP.cp,by omega⟩,.inr ⟨_,rfl⟩,r⟩
theorem WQ {AL:List (List Str)}(al:Al AL)(g:Str->Str):∀(zs:List Str) {t:AM},J AL t->(∀P,lk t P≠some none)->(∀z∈zs,[z]∈AL/\(g z).length<=400)->Runs t (zs.map λz=>.wr S0 [z] (g z))
 |[],_,_,_,_=>trivial
 |z::zs,t,j,k,h=>by
  obtain⟨h1,h2⟩:=h z aw;refine Ux al j h1 h2 rfl (k _) (WQ al g zs (j.put h1 λc e=>by cases e;exact h2) (λP=>?_) λy hy=>h y (ao _ hy));rw[FS]
  by_cases c:P=[z]
  ·rw[ak c];exact λy=>by cases y
  ·rw[ai c];exact k P
structure I3 (t:AM) (F:List Str):Prop where
 fo:∀z∈F,lk t [z]=some none
 no:∀z,z∉F->lk t [z]=none
 fi:∀z y,lk t [z,y]≠some none
def Wk (ys:List Str)(z:Str):List Dd:=.fo S0 [z]::ys.map λy=>.wr S0 [z,y] y
theorem WO {AL:List (List Str)}(al:Al AL){F:List Str}{z:Str}(hz:z∈F){rest:List Dd}(k:∀t,J AL t->I3 t F->Runs t rest):∀(ys:List Str) {t:AM},J AL t->I3 t F->(∀y∈ys,[z,y]∈AL/\y.length<=400)->Runs t ((ys.map λy=>.wr S0 [z,y] y)++rest)
 |[],t,j,i,_=>k t j i
 |y::ys,t,j,i,h=>by
  obtain⟨h1,h2⟩:=h y aw;refine Ux al j h1 h2 ?_ (i.fi z y) (WO al hz k ys (j.put h1 λc e=>by cases e;exact h2) ⟨λx hx=>?_,λx hx=>?_,λa b=>?_⟩ λx hx=>h x (ao _ hx))
  ·show Jq t [z]=true;unfold Jq;rw[i.fo z hz];rfl
  ·rw[FS,ai λe=>by cases e];exact i.fo x hx
  ·rw[FS,ai λe=>by cases e];exact i.no x hx
  ·rw[FS]
   by_cases c:[a,b]=[z,y]
   ·rw[ak c];exact λy=>by cases y
   ·rw[ai c];exact i.fi a b
theorem WJ {AL:List (List Str)}(al:Al AL)(ys:List Str):∀(zs:List Str) {t:AM} {F:List Str},J AL t->I3 t F->zs.Nodup->(∀z∈zs,z∉F)->(∀z∈zs,[z]∈AL/\∀y∈ys,[z,y]∈AL/\y.length<=400)->Runs t (zs.flatMap (Wk ys))
 |[],_,_,_,_,_,_,_=>trivial
 |z::zs,t,F,j,i,nd,nf,h=>by
  rw[bw] at nd;obtain⟨h1,h2⟩:=h z aw;have hz:=nf z aw;rw[br];unfold Wk;rw[cK];refine XX al j h1 rfl (i.no z hz) (WO al (F:=F++[z]) (aG _ (ah.mpr rfl)) (λt' j' i'=>?_) ys (j.put h1 λc e=>by cases e) ⟨λx hx=>?_,λx hx=>?_,λa b=>?_⟩ h2)
  ·refine WJ al ys zs j' i' nd.2 (λx hx hF=>?_) λx hx=>h x (ao _ hx)
   rcases aK.mp hF with hF|hF
   ·exact nf x (ao _ hx) hF
   ·rw[ah.mp hF] at hx;exact nd.1 hx
  ·rw[FS];rcases aK.mp hx with hx|hx
   ·rw[ai λe:[x]=[z]=>hz (by rw[<-bO e];exact hx)];exact i.fo x hx
   ·rw[ah.mp hx,ak rfl]
  ·rw[FS,ai λe:[x]=[z]=>hx (by rw[bO e];exact aG _ (ah.mpr rfl))];exact i.no x λy=>hx (bB _ y)
  ·rw[FS,ai λe=>by cases e];exact i.fi a b
theorem J.nil (AL:List (List Str)):J AL []:=⟨cO,(λ_ h=>nomatch h),λ_ h=>nomatch h⟩
theorem ZY {zs:List Str}(ok:∀z∈zs,Bh (.str z)=true)(l:zs.length<=16):Al (zs.map λz=>[z]):=by
 refine⟨by rw[aa];omega,λI=>?_,λP hP=>?_⟩
 ·have:=bp (λP:List Str=>decide (P.dropLast=I)) (zs.map λz=>[z]);rw[aa] at this;omega
 ·obtain⟨z,hz,rfl⟩:=aj.mp hP;exact⟨λx hx=>by rw[ah.mp hx];exact ok z hz,bL _ _,bE rfl⟩
def VR (zs ys:List Str):List (List Str):=(zs.map λz=>[z])++zs.flatMap λz=>ys.map λy=>[z,y]
theorem PN {α β:Type}(f:α->List β){n:Nat}:∀l:List α,(∀x∈l,(f x).length=n)->(l.flatMap f).length=n*l.length
 |[],_=>by simp
 |x::l,h=>by
  rw[br,ar,h x aw,PN f l λy hy=>h y (ao _ hy),aS,Nat.mul_succ];omega
theorem ZP {zs ys:List Str}(oz:∀z∈zs,Bh (.str z)=true)(oy:∀z∈ys,Bh (.str z)=true)(nd:zs.Nodup)(lz:zs.length=4)(ly:ys.length=14):Al (VR zs ys):=by
 have fl:=PN (λz=>ys.map λy=>[z,y]) (n:=14) zs λz _=>by rw[aa,ly]
 refine⟨?_,λI=>?_,λP hP=>?_⟩
 ·unfold VR;rw[ar,aa,fl,lz]
  decide
 ·unfold VR;rw[cE,ar]
  by_cases c:I=[]
  ·have h1:=bp (λP:List Str=>decide (P.dropLast=I)) (zs.map λz=>[z]);rw[aa,lz] at h1;have h2:((zs.flatMap λz=>ys.map λy=>[z,y]).filter λP=>decide (P.dropLast=I))=[]:=by
    rw[cA];intro P hP e;obtain⟨z,_,hP⟩:=eu.mp hP;obtain⟨y,_,rfl⟩:=aj.mp hP;rw[c] at e;cases aE e
   rw[h2];show _+0<=16;omega
  ·have h1:((zs.map λz=>[z]).filter λP=>decide (P.dropLast=I))=[]:=by
    rw[cA];intro P hP e;obtain⟨z,_,rfl⟩:=aj.mp hP;exact c (aE e).symm
   rw[h1];show 0+_<=16;have key:∀zs:List Str,zs.Nodup->((zs.flatMap λz=>ys.map λy=>[z,y]).filter λP=>decide (P.dropLast=I)).length<=14:=λzs=>by
    induction zs with
    |nil=>intro _;exact a6 _
    |cons z zs ih=>
     intro nd;rw[bw] at nd;have ih:=ih nd.2;rw[br,cE,ar]
     by_cases d:[z]=I
     ·have h3:=bp (λP:List Str=>decide (P.dropLast=I)) (ys.map λy=>[z,y]);rw[aa,ly] at h3;have h2:((zs.flatMap λz=>ys.map λy=>[z,y]).filter λP=>decide (P.dropLast=I))=[]:=by
       rw[cA];intro P hP e;obtain⟨x,hx,hP⟩:=eu.mp hP;obtain⟨y,_,rfl⟩:=aj.mp hP;have e:[x]=I:=aE e;rw[<-d] at e;exact nd.1 (by rw[<-bO e];exact hx)
      rw[h2];show _+0<=14;omega
     ·have h2:((ys.map λy=>[z,y]).filter λP=>decide (P.dropLast=I))=[]:=by
       rw[cA];intro P hP e;obtain⟨y,_,rfl⟩:=aj.mp hP;exact d (aE e)
      rw[h2];show 0+_<=14;omega
   have:=key zs nd;omega
 ·unfold VR at hP;rcases aK.mp hP with hP|hP
  ·obtain⟨z,hz,rfl⟩:=aj.mp hP;exact⟨λx hx=>by rw[ah.mp hx];exact oz z hz,bL _ _,bE rfl⟩
  ·obtain⟨z,hz,hP⟩:=eu.mp hP;obtain⟨y,hy,rfl⟩:=aj.mp hP;refine⟨λx hx=>?_,bL _ _,bE rfl⟩;simp only[List.mem_cons,List.not_mem_nil,or_false] at hx;rcases hx with rfl|rfl
   ·exact oz _ hz
   ·exact oy _ hy
def Ci {α:Type}(f:Str->α)(n:Str)(v:α):Str->α:=λm=>if m=n then v else f m
theorem A2 {α:Type}{f:Str->α}{n:Str}{v:α}:Ci f n v n=v:=ak rfl
theorem Bb {α:Type}{f:Str->α}{n m:Str}{v:α}(h:m≠n):Ci f n v m=f m:=ai h
structure KZ (x td:Addr) (H H':Hp):Prop where
 ax:∃C dx fs,H x=some (.ins C dx fs)
 at_:∃kvs,H td=some (.dK kvs)
 keep:∀b o,b≠x->b≠td->(∀ps,o≠.tbl ps)->H b=some o->H' b=some o
 there:∀b,H' b=none->H b=none
theorem KZ.of {x td:Addr}{H H':Hp}(k:KH x H H')(h:∃kvs,H td=some (.dK kvs)):KZ x td H H':=⟨k.at_,h,λb o n _ n2 e=>k.keep b o n n2 e,k.there⟩
theorem KZ.trans {x td:Addr}{H H1 H2:Hp}(a:KZ x td H H1)(b:KZ x td H1 H2):KZ x td H H2:=⟨a.ax,a.at_,λc o n n1 n2 e=>b.keep c o n n1 n2 (a.keep c o n n1 n2 e),λc e=>a.there c (b.there c e)⟩
theorem KZ.upd {x td:Addr}{H H1:Hp}(a:KZ x td H H1)(o:HO):KZ x td H (upd H1 td o):=by
 refine⟨a.ax,a.at_,λc o' n n1 n2 e=>by rw[Ak n1];exact a.keep c o' n n1 n2 e,λc e=>?_⟩
 by_cases z:c=td
 ·rw[z,Ac] at e;cases e
 ·rw[Ak z] at e;exact a.there c e
theorem KZ.tup {x td:Addr}{H H':Hp}(k:KZ x td H H'){b:Addr}{xs:List V}(h:H b=some (.tup xs)):H' b=some (.tup xs):=by
 obtain⟨C,dx,fs,e1⟩:=k.ax;obtain⟨kvs,e2⟩:=k.at_;exact k.keep b _ (λz=>by rw[z,e1] at h;cases h) (λz=>by rw[z,e2] at h;cases h) (λ_ z=>by cases z) h
theorem KZ.lst {x td:Addr}{H H':Hp}(k:KZ x td H H'){b:Addr}{xs:List V}(h:H b=some (.lst xs)):H' b=some (.lst xs):=by
 obtain⟨C,dx,fs,e1⟩:=k.ax;obtain⟨kvs,e2⟩:=k.at_;exact k.keep b _ (λz=>by rw[z,e1] at h;cases h) (λz=>by rw[z,e2] at h;cases h) (λ_ z=>by cases z) h
theorem LwT.keep {H H':Hp}{td:Addr}{Tm:Str->AM}{D:Str->Addr}(h:LwT H td Tm D)(k:∀b kvs,H b=some (.dK kvs)->H' b=some (.dK kvs)):LwT H' td Tm D:=⟨k _ _ h.at_,λn hn=>by obtain⟨S,z⟩:=h.nat n hn;exact⟨S,z.keep λa kvs _ e=>k a kvs e⟩⟩
abbrev J9 (D:Str->Addr):List (Key×V):=[(.inr S0,.ref (D S0)),(.inr S1,.ref (D S1)),(.inr SE,.ref (D SE))]
theorem put3 (D:Str->Addr){n:Str}(hn:n=S0\/n=S1\/n=SE)(d':Addr):putK (J9 D) (.inr n) (.ref d')=J9 (Ci D n d'):=by
 have k01:((Sum.inr S0:Key)=.inr S1)=False:=fJ λe=>Pi (bq e)
 have k10:((Sum.inr S1:Key)=.inr S0)=False:=fJ λe=>Pi (bq e).symm
 have k0e:((Sum.inr S0:Key)=.inr SE)=False:=fJ λe=>TH (bq e)
 have ke0:((Sum.inr SE:Key)=.inr S0)=False:=fJ λe=>TH (bq e).symm
 have k1e:((Sum.inr S1:Key)=.inr SE)=False:=fJ λe=>TJ (bq e)
 have ke1:((Sum.inr SE:Key)=.inr S1)=False:=fJ λe=>TJ (bq e).symm
 unfold putK;rcases hn with rfl|rfl|rfl
 ·rw[ak (by simp)];simp only[J9,List.map_cons,List.map_nil,k10,ke0,if_false,if_true,A2];rw[Bb Pi.symm,Bb TH.symm]
 ·rw[ak (by simp)];simp only[J9,List.map_cons,List.map_nil,k01,ke1,if_false,if_true,A2];rw[Bb Pi,Bb TJ.symm]
 ·rw[ak (by simp)];simp only[J9,List.map_cons,List.map_nil,k0e,k1e,if_false,if_true,A2];rw[Bb TH,Bb TJ]
theorem LwT.put {H:Hp}{td:Addr}{Tm:Str->AM}{D:Str->Addr}(h:LwT H td Tm D){n:Str}(hn:n=S0\/n=S1\/n=SE){d':Addr}{t':AM}{S':Addr->Prop}(na:NAt H (.ref d') (gT t') S')(ns:∀a,S' a->a≠td):LwT (upd H td (.dK (putK (J9 D) (.inr n) (.ref d')))) td (Ci Tm n t') (Ci D n d'):=by
 refine⟨by rw[put3 D hn,Ac],λm hm=>?_⟩
 by_cases c:m=n
 ·subst c;rw[A2,A2];exact⟨S',na.keep λa kvs ha e=>by rw[Ak (ns a ha)];exact e⟩
 ·rw[Bb c,Bb c];obtain⟨S,z⟩:=h.nat m hm;exact⟨S,z.keep λa kvs ha e=>by rw[Ak (show a≠td from λy=>h.no hm z (by rw[<-y];exact ha))];exact e⟩
theorem R6 {PT PU td:Addr}{H:Hp}{kvs:List (Key×V)}(t:Tb PT PU H)(h:H td=some (.dK kvs))(kvs':List (Key×V)):Tb PT PU (upd H td (.dK kvs')):=by
 have go:∀{U:Addr} {q:Str} {lp:Pos},CI U q lp H->CI U q lp (upd H td (.dK kvs')):=λ{U q lp} t=>by
  rcases t with h1|⟨c,h1,h2⟩
  ·exact .inl (by rw[Ak (BW h1 h (by intro z;cases z))];exact h1)
  ·exact .inr ⟨c,by rw[Ak (BW h1 h (by intro z;cases z))];exact h1,by rw[Ak (BW h2 h (by intro z;cases z))];exact h2⟩
 exact⟨t.ne,go t.a,go t.b⟩
theorem UI (D:Str->Addr):∀t,Bx t≠J9 D:=λt z=>by
 cases t with
 |nil=>cases z
 |cons p t=>
  have e:cV p.2=V.ref (D S0):=(fT (cf z).1).2;cases h:p.2<;>rw[h] at e<;>cases e
theorem HW.dk {C x td:Addr}{H:Hp}{ks:List Str}{gs:List Gs}{Tm:Str->AM}{D:Str->Addr}(h:HW C H x ks gs)(lt:LwT H td Tm D)(o:HO):HW C (upd H td o) x ks gs:=
 h.kept (UI D) λb u n e=>by rw[Ak λz=>by rw[z,lt.at_] at e;exact n (aI e).symm];exact e
theorem U2 (s:Str)(b:Bool)(t t':AM):setG s t' [(s,true,t)]=[(s,true,t')]:=by
 unfold setG;rw[aF,cT,ak rfl]
theorem XJ {d:Dd}(w:d.WF)(gs:List Gs)(t:AM):d.sm=S0/\d.src=S0/\d.Src gs t:=by
 rcases w with⟨P,c,rfl⟩|⟨P,rfl⟩
 ·exact⟨rfl,rfl,trivial⟩
 ·exact⟨rfl,rfl,trivial⟩
def Ht (K:W.Frag)(C:Addr)(XC:Nat->Addr)(PT PU:Addr):Sp:=λvs H Q _=>∃(x td nl:Addr) (wy:Int) (zs:List Str) (ks:List Str) (D:Str->Addr),vs=[.ref x,.ref td,.ref nl,.int wy]/\H nl=some (.lst (zs.map V.str))/\Nms zs/\HW C H x ks [(S0,true,[])]/\LwT H td (λ_=>[]) D/\Tb PT PU H/\
 ∀t D' H',KZ x td H H'->Tb PT PU H'->HW C H' x ks [(S0,true,t)]->LwT H' td (Ci (λ_=>[]) S0 t) D'->Q .non H'
theorem MG (T:Txt K mg C XC)(F:Fun K "_law_filled" "_law_filled" F3 f fd)(DC:CY P w K mg base 8 "_law_done" ["_law_house","_law_deed_here"] (Gx K C XC PT PU))(D6:Def P w K mg base 15 "_law_due" ["_law_trees","_law_deed_here"] (HK K)):FnOk P w K mg base (E7 P w) 16 f fd ["_law_house","_law_trees","_law_names_here","_law_way"] (Ht K C XC PT PU):=by
 refine F.okE Cf (λvs H Q E h=>?_) (λcdv A outer s H vs Q E hr h=>?_)
 ·obtain⟨x,td,nl,wy,zs,ks,D,rfl,_⟩:=h;rfl
 obtain⟨x,td,nl,wy,zs,ks,D,rfl,hn,nz,hw,lt,tb,q⟩:=h;have hu:=C4 hr;refine⟨_,(!Ad (@Av _ _ (4) _ _ _ _ Cf.nd rfl ∅ (!An AI (!Bk (!Aa (!Ag) (!Aa (!Ag) (!Aa (!Ag) (!Aa (!Ag) (!Ab)))))) (!Ay Bw (pv 3) (!Ag)) (λ_ _=>rfl)) (by rfl) ∅) (!Ad (@Pq _ ["_law_name"] (5) _ _ _ _ _ _ _ _ _ _ _ _ _ Cf.nd rfl ∅ rfl (!Cb (!BA FF (pv 2) (!B6) (!BO (pv 4)))) (by decide +kernel) (λC s H fp=>⟨(@AK _ _ (0) _ (show(["_law_name"]:List Str).Nodup by decide +kernel) rfl ∅ ∅),(!CK),(!Az (!Aa (!Aj) (!Aa (!Aj) (!Aa (pv 0) (!Aa (!Ay AR (!Aj) (pv 0)) (!Ab))))))⟩) (by intro _;rfl) (by rfl) ∅) (!Ad (!AJ (!Ax Ck (!Ay Bw (pv 3) (!Ag)) (!Ag) (AC _)) (!Af (!CQ dC rfl (!Fb rfl T.b_range (!Aa (!Ag) (!Ab))) (@AK _ _ (6) _ Cf.nd rfl ∅ ∅) (!Ad (!AD (!Dm a7 bD bC Cw (pv 5) (!Aa (!Az (!Aa (!Aj) (!Aa (!Aj) (!Aa (!An AI (pv 2) (pv 6) (λ_ _=>rfl)) (!Ab))))) (!Ab)))) (!Af (!CQ dC rfl (!Cb (!BA FF (pv 2) (!B6) (!BO (!Ag)))) (@AK _ _ (7) _ Cf.nd rfl ∅ ∅) (!Af (!AD (!Dm a7 bD bC Cw (pv 5) (!Aa (!Az (!Aa (!Aj) (!Aa (!Aj) (!Aa (!Ay AR (!Ay AR (!An AI (pv 2) (pv 6) (λ_ _=>rfl)) (!Aj)) (pv 7)) (!Aa (pv 7) (!Ab)))))) (!Ab))))) (by intro _;rfl)))) (by intro _;rfl))) (!Ao)) (!Af (!CQ dC rfl (!Cb (pv 5)) (@AK _ _ (8) _ Cf.nd rfl ∅ ∅) (!Ad (!AD (!Bl DC ∅ rfl Au (!Aa (pv 0) (!Aa (pv 8) (!Ab))))) (!Af (!Ek hu (pv 1) (!Aj) (!An Ar (!AH D6 ∅ rfl (!Aa (pv 1) (!Aa (pv 8) (!Ab)))) (!Ag) (λ_ _=>rfl))))) (by intro _;rfl)))))),?_⟩
 try dsimp only[A4,Cx.nox,Cx.wish]
 have m0:=aZ wy (show(4:Int)≠0 by decide);have m1:=aR wy (show(0:Int)<4 by decide);refine Ap λN eN=>?_
 obtain⟨mv,em,m,rfl,hm⟩:=pick [V.int 0,V.int 3,V.int 16,V.int 0] (λv=>∃m:Nat,v=.int (m:Int)/\m<=16) (λv hv=>by
  simp only[List.mem_cons,List.not_mem_nil,or_false] at hv;rcases hv with rfl|rfl|rfl|rfl
  ·exact⟨0,rfl,by decide⟩
  ·exact⟨3,rfl,by decide⟩
  ·exact⟨16,rfl,by decide⟩
  ·exact⟨0,rfl,by decide⟩) m0 (by show _<4;exact m1)
 have em3:wy%4=3->m=0:=λe=>by
  rw[e] at em;have:V.int 0=V.int (m:Int):=aI em;have:=V.int.inj this;omega
 refine⟨Nv,λl0 n0=>?_⟩;have s0:=Ae n0 (.lst [V.int 0,V.int 3,V.int 16,V.int 0]);have h0:(upd H l0 (.lst [V.int 0,V.int 3,V.int 16,V.int 0])) l0=some (.lst [V.int 0,V.int 3,V.int 16,V.int 0]):=Ac;generalize upd H l0 (.lst [V.int 0,V.int 3,V.int 16,V.int 0])=H1 at s0 h0;refine⟨_,rfl,_,_,rfl,rfl,(by show(0:Int)<4;decide),l0,_,_,_,rfl,rfl,AV.of h0,em,?_⟩;subst eN
 try dsimp only[AU]
 refine Ap λN eN=>?_
 refine⟨_,rfl,_,rfl,_,rfl,nl,_,rfl,AV.of (s0.get hn),λl1 n1=>?_⟩;rw[QM (by omega),di,<-cY];have s1:=Ae n1 (.lst ((zs.take m).map V.str));have h1:(upd H1 l1 (.lst ((zs.take m).map V.str))) l1=some (.lst ((zs.take m).map V.str)):=Ac;generalize upd H1 l1 (.lst ((zs.take m).map V.str))=H2 at s1 h1;have s01':=s0.trans s1;have tkl:(zs.take m).length<=16:=by rw[a8];omega
 refine⟨l1,rfl,⟨_,AV.of h1⟩,?_⟩;refine IC (ps:=zs.take m) (g:=V.str) (λ_=>true) (λz y H'=>∃b,y=V.ref b/\H' b=some (.tup (Dd.wr S0 [z] (PySem.Str.ofString "ab"++z)).items)) ?_ ?_ (E9 (AV.of h1)) (by omega) (λr hr H' R s' hR=>hR H' (.refl _)) (λr hr _ H' R s' hR=>?_) λl5 H5 ys nl5 s5 hl5 ey hy=>?_
 ·rintro r y Ha Hb ⟨b,e,hb⟩ sab
  exact⟨b,e,sab.get hb⟩
 ·rintro r y Ha la us us' ⟨b,e,hb⟩ hla
  exact⟨b,e,by rw[Ak (BW hb hla (by intro z;cases z))];exact hb⟩
 ·have lz:=(BR (nz.ok r (bA hr))).2.2;refine⟨_,rfl,_,rfl,_,_,rfl,rfl,small (by show 2+r.length<=1000000;omega),Nv,λb nb=>hR _ _ (Ae nb _) ⟨b,rfl,?_⟩⟩;rw[Ac];show _=some (HO.tup [V.str (PySem.Str.ofString "write"),V.str S0,V.str (jn [r]),V.str (PySem.Str.ofString "ab"++r)]);rw[Ks]
 rw[filter_tt] at ey;obtain⟨bs,e1,e2,e3⟩:=Lu (T:=λb z=>H5 b=some (.tup (Dd.wr S0 [z] (PySem.Str.ofString "ab"++z)).items)) ys hy;rw[ey] at e1;obtain⟨ds0,ed0⟩:∃ds0:List (Addr×Dd),ds0=bs.map λb=>(b.1,Dd.wr S0 [b.2] (PySem.Str.ofString "ab"++b.2)):=⟨_,rfl⟩
 have hl5':H5 l5=some (.lst (ds0.map λd=>V.ref d.1)):=by rw[hl5,<-e2,ed0,az];rfl
 have hd0:∀d∈ds0,H5 d.1=some (.tup d.2.items):=λd hd=>by
  rw[ed0] at hd;obtain⟨b,hb,rfl⟩:=aj.mp hd;exact e3 b hb
 have ds0e:ds0.map (·.2)=(zs.take m).map λz=>Dd.wr S0 [z] (PySem.Str.ofString "ab"++z):=by rw[ed0,az,<-e1,az];rfl
 have S05:=s01'.trans s5
 clear ed0 e2 e3 hy hl5 e1 ey
 subst eN
 try dsimp only[AU]
 refine Ap λN eN=>?_
 have fin:∀(ds:List (Addr×Dd)) (o6 o7:Option V) (H6:Hp),Aw H H6->H6 l5=some (.lst (ds.map λd=>V.ref d.1))->(∀d∈ds,H6 d.1=some (.tup d.2.items))->Runs [] (ds.map (·.2))->N [some (.ref x),some (.ref td),some (.ref nl),some (.int wy),some (.int m),some (.ref l5),o6,o7,none] H6:=λds o6 o7 H6 s6 h6 hd6 rn=>by
  subst eN
  try dsimp only[AZ]
  have lt6:=lt.same s6;have k06:KZ x td H H6:=.of (hw.kh (AE s6)) ⟨_,lt.at_⟩;refine⟨_,rfl,l5,rfl,⟨_,AV.of h6⟩,Dj (K:=K) (a:=l5) (xs:=ds.map λd=>V.ref d.1) (λi σ Hi=>(∃o8,σ=[some (.ref x),some (.ref td),some (.ref nl),some (.int wy),some (.int m),some (.ref l5),o6,o7,o8])/\KZ x td H6 Hi/\Tb PT PU Hi/\∃t D',HW C Hi x ks [(S0,true,t)]/\LwT Hi td (Ci (λ_=>[]) S0 t) D'/\Runs t ((ds.drop i).map (·.2))) ⟨⟨none,rfl⟩,.of ((hw.st (AE s6)).kh (St.refl _)) ⟨_,lt6.at_⟩,tb.same s6,[],D,hw.st (AE s6),by
   have:Ci (λ_=>([]:AM)) S0 []=λ_=>[]:=funext λn=>by unfold Ci;split<;>rfl
   rw[this];exact lt6,rn⟩ (λi σ Hi _ ⟨_,k,_⟩=>AV.of (k.lst h6)) ?_ ?_⟩
  ·rintro i v σ Hi ei ⟨⟨o8,rfl⟩,k,tbi,t,D',hwi,lti,rni⟩
   rw[aD] at ei;obtain⟨d,ed,rfl⟩:=aU.mp ei;have hdi:=k.tup (hd6 d (aN ed));rw[gG (aA.mp ed).1,(aA.mp ed).2] at rni;obtain⟨t1,ef,bo,lc,ok,wf,rn1⟩:=rni;obtain⟨es,er,esr⟩:=XJ wf [(S0,true,t)] t;have lc:d.2.cl t<=400:=lc;have ef:d.2.f t t=.inr t1:=ef;have tk:TrOk t:=hwi.tr _ (ah.mpr rfl);dsimp only[AU];refine HC λEB eEB=>?_
   refine⟨_,rfl,_,rfl,x,d.1,d.2,t,t,ks,[(S0,true,t)],rfl,hdi,ok,hwi,(by rw[es];exact ah.mpr rfl),esr,tbi,λe he=>?_,λt' ht H7 k7 tb7 hw7=>?_⟩
   ·rw[ef] at he;have:MY (.inr t1)=.inr t1:=ak bo;rw[this] at he;cases he
   ·rw[ef,show MY (.inr t1)=.inr t1 from ak bo] at ht;cases ht;rw[es,U2 S0 true] at hw7;have lt7:=lti.keep λb kvs e=>k7.dk e
    have hd7:=k7.tup hdi;have tkn:∀n,TrOk (Ci (λ_=>([]:AM)) S0 t n):=λn=>by
     unfold Ci
     split
     ·exact tk
     ·exact Pf
    have gi:Ci (λ_=>([]:AM)) S0 t S0=t:=A2;refine⟨_,rfl,_,rfl,td,d.1,d.2,_,D',rfl,hd7,ok,.inl es,lt7,tkn,λe he=>?_,λt' ht=>⟨λ_ p d' S' H8 s8 na8 w8 ⟨w9,hp,_⟩=>?_,λh=>?_⟩⟩
    ·rw[es,er,gi,ef] at he;cases he
    ·rw[es,er,gi,ef] at ht;cases ht;have lt8:=lt7.same s8;refine⟨p,_,_,_,rfl,rfl,AW.of hp,Ah (j:=1) rfl,_,rfl,td,_,rfl,J1.k (k:=Sum.inr S0) lt8.at_ (By (by show 3<1000000;decide)),?_⟩;have lt9:=lt8.put (.inl rfl) na8 w8;have hw9:=(hw7.st (AE s8)).dk lt8 (.dK (putK (J9 D') (.inr S0) (.ref d')));have tb9:=R6 (tb7.same s8) lt8.at_ (putK (J9 D') (.inr S0) (.ref d'));have k9:KZ x td H6 (upd H8 td (.dK (putK (J9 D') (.inr S0) (.ref d')))):=(k.trans (.of (k7.trans (hw7.kh (AE s8))) ⟨_,lti.at_⟩)).upd _;subst eEB;refine⟨⟨_,rfl⟩,k9,tb9,t1,Ci D' S0 d',hw9,?_,rn1⟩;have:Ci (Ci (λ_=>([]:AM)) S0 t) S0 t1=Ci (λ_=>[]) S0 t1:=funext λn=>by unfold Ci;split<;>rfl
     rw[this] at lt9;exact lt9
    ·rw[es,gi] at h;omega
  ·rintro σ Hi ⟨⟨o8,rfl⟩,k,tbi,t,D',hwi,lti,_⟩
   exact q t D' Hi (k06.trans k) tbi hwi lti
 refine⟨_,rfl,_,_,rfl,rfl,(by show(0:Int)<4;decide),rfl,_,rfl,?_⟩;have nl5H:H l5=none:=s01'.free nl5;refine DQ (λc=>?_) (λc=>?_)
 ·have e3:wy%4=3:=V.int.inj (aE c);have em0:=em3 e3;have ds00:ds0=[]:=by
   rw[em0] at ds0e;exact cJ.mp ds0e
  subst ds00;have h4:(zs.take 4).length=4:=by rw[a8,nz.len];rfl
  have h14:(zs.take 14).length=14:=by rw[a8,nz.len];rfl
  refine⟨4,rfl,by decide,by decide,F8 (lo:=0) (n:=4) (λk σ Hi=>∃(ds:List (Addr×Dd)) (o6 o7:Option V),σ=[some (.ref x),some (.ref td),some (.ref nl),some (.int wy),some (.int m),some (.ref l5),o6,o7,none]/\Kx l5 H5 Hi/\Hi l5=some (.lst (ds.map λd=>V.ref d.1))/\(∀d∈ds,Hi d.1=some (.tup d.2.items))/\ds.map (·.2)=((zs.take 4).take k).flatMap (Wk (zs.take 14))/\ds.length=15*k) ⟨[],none,none,rfl,DH (.refl _),hl5',(λ_ h=>nomatch h),rfl,rfl⟩ ?_ ?_⟩
  ·rintro k σ Hi hk ⟨ds,o6,o7,rfl,kx,hl,hd,ed,ln⟩
   have hnz:Hi nl=some (.lst (zs.map V.str)):=kx.keep _ _ (λz=>by rw[z,nl5H] at hn;cases hn) (S05.get hn);have hk4:k<(zs.take 4).length:=by rw[h4];exact hk
   have hk18:k<zs.length:=by rw[nz.len];omega
   obtain⟨z,ez0⟩:∃z,z=(zs.take 4)[k]:=⟨_,rfl⟩
   have ezk:zs[k]=z:=by rw[ez0,List.getElem_take]
   have ez:KY (zs.map V.str) (0+(k:Int))=some (.str z):=by
    rw[Int.zero_add];exact Ah (by rw[aD,aC hk18,ezk];rfl)
   have mz:z∈zs:=by rw[<-ezk];exact b9 hk18
   have lz:=(BR (nz.ok z mz)).2.2;dsimp only[AU];refine HC λEB eEB=>?_
   refine⟨_,rfl,.inl ⟨rfl,_,AV.of hl⟩,_,rfl,_,rfl,nl,_,_,_,rfl,rfl,AV.of hnz,ez,MX,λb nb=>?_⟩;have s6:=Ae nb (.tup [V.str (PySem.Str.ofString "folder"),V.str (PySem.Str.ofString "s0"),V.str z]);have h6:(upd Hi b (.tup [V.str (PySem.Str.ofString "folder"),V.str (PySem.Str.ofString "s0"),V.str z])) b=some (.tup (Dd.fo S0 [z]).items):=by
    rw[Ac];show _=some (HO.tup [V.str (PySem.Str.ofString "folder"),V.str S0,V.str (jn [z])]);rw[Ks]
   generalize upd Hi b (.tup [V.str (PySem.Str.ofString "folder"),V.str (PySem.Str.ofString "s0"),V.str z])=H6 at s6 h6;have hl6:=s6.get hl;refine⟨l5,_,_,rfl,rfl,hl6,By (by rw[aa];omega),?_⟩;have kk:∀{H9:Hp} {zs9 us:List V} {c:Addr} {xs:List V},H9 l5=some (.lst zs9)->H9 c=some (.tup xs)->(upd H9 l5 (.lst us)) c=some (.tup xs):=λ{H9 zs9 us c xs} e1 e2=>by
    rw[Ak λz=>by rw[z,e1] at e2;cases e2];exact e2
   have kx7:=(kx.trans (DH s6)).upd hl5' (.lst ((ds.map λd=>V.ref d.1)++[V.ref b]));have h7:(upd H6 l5 (.lst ((ds.map λd=>V.ref d.1)++[V.ref b]))) l5=some (.lst ((ds++[(b,Dd.fo S0 [z])]).map λd=>V.ref d.1)):=by rw[Ac,aO];rfl
   have hd7:∀d∈ds++[(b,Dd.fo S0 [z])],(upd H6 l5 (.lst ((ds.map λd=>V.ref d.1)++[V.ref b]))) d.1=some (.tup d.2.items):=λd hd9=>by
    rcases aK.mp hd9 with hd9|hd9
    ·exact kk hl6 (s6.get (hd d hd9))
    ·rw[ah.mp hd9];exact kk hl6 h6
   generalize upd H6 l5 (.lst ((ds.map λd=>V.ref d.1)++[V.ref b]))=H7 at kx7 h7 hd7;have hn7:H7 nl=some (.lst (zs.map V.str)):=kx7.keep _ _ (λz=>by rw[z,nl5H] at hn;cases hn) (S05.get hn);refine⟨_,rfl,_,rfl,nl,_,rfl,AV.of hn7,λlq nlq=>?_⟩;rw[QM (by decide),<-cY];have s8:=Ae nlq (.lst ((zs.take (14:Int).toNat).map V.str));have h8:(upd H7 lq (.lst ((zs.take (14:Int).toNat).map V.str))) lq=some (.lst ((zs.take 14).map V.str)):=Ac;generalize upd H7 lq (.lst ((zs.take (14:Int).toNat).map V.str))=H8 at s8 h8;have nlq5:lq≠l5:=λy=>by rw[y,h7] at nlq;cases nlq
   have kx8:=kx7.trans (DH s8);refine⟨lq,rfl,⟨_,AV.of h8⟩,Dj (K:=K) (a:=lq) (xs:=(zs.take 14).map V.str) (λj σ Hj=>∃(d2:List (Addr×Dd)) (o7:Option V),σ=[some (.ref x),some (.ref td),some (.ref nl),some (.int wy),some (.int m),some (.ref l5),some (.int (0+(k:Int))),o7,none]/\Kx l5 H8 Hj/\Hj l5=some (.lst (d2.map λd=>V.ref d.1))/\(∀d∈d2,Hj d.1=some (.tup d.2.items))/\d2.map (·.2)=ds.map (·.2)++(Dd.fo S0 [z]::((zs.take 14).take j).map λy=>Dd.wr S0 [z,y] y)/\d2.length=15*k+1+j) ⟨_,_,rfl,DH (.refl _),s8.get h7,λd hd9=>s8.get (hd7 d hd9),by rw[aO];rfl,by rw[ar,ln];rfl⟩ (λj σ Hj _ ⟨_,_,_,kj,_⟩=>AV.of (kj.keep _ _ nlq5 h8)) ?_ ?_⟩
   ·rintro j v σ Hj ej ⟨d2,o7,rfl,kj,hlj,hdj,edj,lnj⟩
    rw[aD] at ej;obtain⟨y,ey,rfl⟩:=aU.mp ej;have hj:=(aA.mp ey).1;have my:y∈zs:=bA (aN ey);have ly:=(BR (nz.ok y my)).2.2;have hnj:Hj nl=some (.lst (zs.map V.str)):=kj.keep _ _ (λz=>by rw[z,nl5H] at hn;cases hn) (s8.get hn7);dsimp only[AU];refine HC λEC eEC=>?_
    have l1:(z++SL).length=z.length+1:=by rw[len_app];rfl
    refine⟨_,rfl,.inl ⟨rfl,_,AV.of hlj⟩,_,rfl,_,rfl,nl,_,_,_,rfl,rfl,AV.of hnj,ez,_,_,rfl,rfl,small (by show z.length+1<=1000000;omega),_,rfl,_,_,rfl,rfl,small (by show(z++SL).length+y.length<=1000000;omega),_,rfl,Nv,λb2 nb2=>?_⟩;have ej:(z++SL)++y=jn [z,y]:=by
     have:=QB (bL z []) (bL y []);rw[Ks,Ks] at this;exact this
    have s9:=Ae nb2 (.tup [V.str (PySem.Str.ofString "write"),V.str (PySem.Str.ofString "s0"),V.str ((z++SL)++y),V.str y]);have h9:(upd Hj b2 (.tup [V.str (PySem.Str.ofString "write"),V.str (PySem.Str.ofString "s0"),V.str ((z++SL)++y),V.str y])) b2=some (.tup (Dd.wr S0 [z,y] y).items):=by
     rw[Ac,ej];rfl
    refine⟨l5,_,_,rfl,rfl,s9.get hlj,By (by rw[aa];omega),?_⟩;subst eEC;refine⟨d2++[(b2,Dd.wr S0 [z,y] y)],_,rfl,(kj.trans (DH s9)).upd (s8.get h7) _,by rw[Ac,aO];rfl,λd hd9=>?_,?_,by rw[ar,lnj];rfl⟩
    ·rcases aK.mp hd9 with hd9|hd9
     ·exact kk (s9.get hlj) (s9.get (hdj d hd9))
     ·rw[ah.mp hd9];exact kk (s9.get hlj) h9
    ·rw[aO,edj,bG (l:=List.take 14 zs) (i:=j),ey,aO,bI];rfl
   ·rintro σ Hj ⟨d2,o7,rfl,kj,hlj,hdj,edj,lnj⟩
    rw[aa,cu] at edj;rw[aa,h14] at lnj;subst eEB;refine⟨d2,_,_,rfl,kx8.trans kj,hlj,hdj,?_,by omega⟩;rw[edj,ed,bG (l:=List.take 4 zs) (i:=k),aC hk4,bY,<-ez0];show _=_++(Wk (zs.take 14) z++[]);rw[aJ];rfl
  ·rintro σ Hi ⟨ds,o6,o7,rfl,kx,hl,hd,ed,ln⟩
   rw[aY (l:=List.take 4 zs) (by rw[h4];exact au 4)] at ed
   try dsimp only[AZ]
   refine fin ds o6 o7 Hi (λb u e=>kx.keep b u (λy=>by rw[y,nl5H] at e;cases e) (S05.get e)) hl hd ?_;rw[ed];have o4:∀z∈zs.take 4,Bh (.str z)=true:=λz hz=>nz.ok z (bA hz)
   have o14:∀z∈zs.take 14,Bh (.str z)=true:=λz hz=>nz.ok z (bA hz)
   have nd4:(zs.take 4).Nodup:=nz.nd.sublist (dP 4 zs);refine WJ (ZP o4 o14 nd4 h4 h14) _ _ (J.nil _) (F:=[]) ⟨(λ_ h=>nomatch h),λ_ _=>rfl,λ_ _ z=>by cases z⟩ nd4 (λ_ _ h=>nomatch h) λz hz=>⟨bB _ (aj.mpr ⟨z,hz,rfl⟩),λy hy=>⟨aG _ (eu.mpr ⟨z,hz,aj.mpr ⟨y,hy,rfl⟩⟩),?_⟩⟩
   have:=(BR (o14 y hy)).2.2;omega
 ·try dsimp only[AZ]
  refine fin ds0 none none H5 S05 hl5' hd0 ?_;rw[ds0e];have om:∀z∈zs.take m,Bh (.str z)=true:=λz hz=>nz.ok z (bA hz)
  refine WQ (ZY om tkl) (λz=>PySem.Str.ofString "ab"++z) _ (J.nil _) (λ_ z=>by cases z) λz hz=>⟨aj.mpr ⟨z,hz,rfl⟩,?_⟩
  have:=(BR (om z hz)).2.2;rw[len_app];show 2+z.length<=400;omega
structure LwA (H:Hp) (td:Addr) (Tm:Str->AM) (D:Str->Addr) (a:Addr):Prop where
 lt:LwT H td Tm D
 ne:td≠a
 nat:∀n,n=S0\/n=S1\/n=SE->∃S,NAt H (.ref (D n)) (gT (Tm n)) S/\¬S a
theorem LwT.apart {H:Hp}{td:Addr}{Tm:Str->AM}{D:Str->Addr}(h:LwT H td Tm D){a:Addr}(na:H a=none):LwA H td Tm D a:=
 ⟨h,(λz=>by rw[<-z,h.at_] at na;cases na),λn hn=>by
  obtain⟨S,z⟩:=h.nat n hn;exact⟨S,z,λhs=>by obtain⟨kvs,e⟩:=z.there a hs;rw[na] at e;cases e⟩⟩
theorem LwA.kx {H H':Hp}{td:Addr}{Tm:Str->AM}{D:Str->Addr}{a:Addr}(h:LwA H td Tm D a)(k:∀b kvs,b≠a->H b=some (.dK kvs)->H' b=some (.dK kvs)):LwA H' td Tm D a:=by
 have nat:∀n,n=S0\/n=S1\/n=SE->∃S,NAt H' (.ref (D n)) (gT (Tm n)) S/\¬S a:=λn hn=>by
  obtain⟨S,z,ns⟩:=h.nat n hn;exact⟨S,z.keep λb kvs hb e=>k b kvs (λy=>ns (by rw[<-y];exact hb)) e,ns⟩
 exact⟨⟨k _ _ h.ne h.lt.at_,λn hn=>by obtain⟨S,z,_⟩:=nat n hn;exact⟨S,z⟩⟩,h.ne,nat⟩
def F7 (t:AM)(rows:List Lj):AM:=rows.map λr=>(r.2.1,(lk t r.2.1).getD none)
theorem QO {t:AM}{rows:List Lj}(nd:(t.map (·.1)).Nodup)(pm:(rows.map (·.2.1)).Perm (t.map (·.1))):(F7 t rows).Perm t:=by
 have h:=pm.map λP=>(P,(lk t P).getD none)
 rw[az,az] at h;have e:t.map ((λP=>((P,(lk t P).getD none):List Str×Option Str))∘λx=>x.1)=t:=by
  conv=>rhs;rw[<-dg t]
  refine bf λp hp=>?_
  show(p.1,(lk t p.1).getD none)=p;rw[K8 nd hp];rfl
 rw[e] at h;exact h
theorem Wb {t t1:AM}(pm:t1.Perm t)(nd:(t.map (·.1)).Nodup)(P:List Str):lk t1 P=lk t P:=by
 have nd1:(t1.map (·.1)).Nodup:=(pm.map _).nodup_iff.mpr nd;cases e1:lk t1 P with
 |some v=>exact(K8 nd (pm.mem_iff.mp (Cq e1))).symm
 |none=>
  cases e2:lk t P with
  |none=>rfl
  |some v=>have:=K8 nd1 (pm.mem_iff.mpr (Cq e2));rw[e1] at this;cases this
theorem Tf {t t1:AM}(pm:t1.Perm t)(h:TrOk t):TrOk t1:=by
 have fe:∀I,Nn t1 I=Nn t I:=λI=>pm.countP_eq _
 exact⟨⟨(pm.map _).nodup_iff.mpr h.v.nd,λp hp=>h.v.vp p (pm.mem_iff.mp hp),λp hp=>h.v.deep p (pm.mem_iff.mp hp),by rw[pm.length_eq];exact h.v.few⟩,⟨by rw[pm.length_eq];exact h.b.few,λp hp=>by rw[fe];exact h.b.fld p (pm.mem_iff.mp hp),λp hp=>h.b.deep p (pm.mem_iff.mp hp),λp hp=>h.b.ct p (pm.mem_iff.mp hp)⟩⟩
theorem JI {l:List (Key×V)}{k:Key}(h:k∉l.map (·.1))(v:V):putK l k v=l++[(k,v)]:=by
 unfold putK;rw[ai];intro z;obtain⟨y,hy,e⟩:=bV.mp z;exact h (aj.mpr ⟨y,hy,aE e⟩)
theorem S8 {l:List (Key×V)}{k:Key}(h:k∉l.map (·.1))(v v':V):putK (l++[(k,v)]) k v'=l++[(k,v')]:=by
 unfold putK;rw[ak (bV.mpr ⟨(k,v),aG _ (ah.mpr rfl),av rfl⟩),aO]
 congr 1
 ·conv=>rhs;rw[<-dg l]
  refine bf λy hy=>?_
  exact ai λe=>h (aj.mpr ⟨y,hy,e⟩)
 ·show[if k=k then(k,v') else(k,v)]=_;rw[ak rfl]
theorem Qs (l:List (Key×V))(k:Key)(v:V):(putK l k v).length<=l.length+1:=by
 unfold putK
 split
 ·rw[aa];omega
 ·rw[ar];exact au _
theorem WK {x td hd:Addr}{H H1 H2:Hp}(a:KZ x td H H1)(n:H hd=none)(b:Kx hd H1 H2):KZ x td H H2:=⟨a.ax,a.at_,λc o n1 n2 nt e=>b.keep c o (λz=>by rw[z,n] at e;cases e) (a.keep c o n1 n2 nt e),λc e=>a.there c (b.there c e)⟩
theorem WH {PT PU a:Addr}{H H':Hp}{kvs:List (Key×V)}(t:Tb PT PU H)(h:H a=some (.dK kvs))(k:Kx a H H'):Tb PT PU H':=by
 have go:∀{U:Addr} {q:Str} {lp:Pos},CI U q lp H->CI U q lp H':=λ{U q lp} t=>by
  rcases t with h1|⟨c,h1,h2⟩
  ·exact .inl (k.keep _ _ (λz=>by rw[z,h] at h1;cases h1) h1)
  ·exact .inr ⟨c,k.keep _ _ (λz=>by rw[z,h] at h1;cases h1) h1,k.keep _ _ (λz=>by rw[z,h] at h2;cases h2) h2⟩
 exact⟨t.ne,go t.a,go t.b⟩
theorem HA.kept {C:Addr}{H H':Hp}{x a:Addr}{ks:List Str}{gs:List Gs}{KV:List (Key×V)}(h:HA C H x ks gs a)(nk:∀t,Bx t≠KV)(k:∀b u,u≠.dK KV->H b=some u->H' b=some u):HA C H' x ks gs a:=by
 obtain⟨ag,qs,ps,⟨dx,h1,k1,n1,hx,hd⟩,rq,ek,eg,na⟩:=h.at_;have tp:∀{b xs},H b=some (.tup xs)->H' b=some (.tup xs):=λe=>k _ _ (λz=>by cases z) e
 exact⟨⟨ag,qs,ps,⟨dx,h1,k1,n1,k _ _ (λz=>by cases z) hx,⟨tp hd.at_,tp hd.kp,λq hq=>tp (hd.ke q hq),tp hd.nm,λp hp=>⟨k _ _ (λz=>nk _ (by injection z)) (hd.en p hp).1,tp (hd.en p hp).2⟩⟩⟩,rq,ek,eg,na⟩,h.hw.kept nk k⟩
theorem SN (t:AM)(rows:List Lj)(i:Nat){r:Lj}(e:rows[i]?=some r):F7 t (rows.take (i+1))=F7 t (rows.take i)++[(r.2.1,(lk t r.2.1).getD none)]:=by
 unfold F7;rw[bG,e,aO];rfl
theorem RH (a b:AM):Bx (a++b)=Bx a++Bx b:=aO
theorem V5 {t:AM}{rows:List Lj}(nd:(rows.map (·.2.1)).Nodup)(vp:∀r∈rows,VP r.2.1){i:Nat}{r:Lj}(e:rows[i]?=some r):(Sum.inr (jn r.2.1):Key)∉(Bx (F7 t (rows.take i))).map (·.1):=λz=>by
 obtain⟨y,hy,ey⟩:=aj.mp z;obtain⟨p,hp,rfl⟩:=aj.mp hy;obtain⟨q,hq,rfl⟩:=aj.mp hp;have e1:q.2.1=r.2.1:=FM (vp q (bA hq)).cp (vp r (aN e)).cp (bq ey);obtain⟨j,hj⟩:=fj hq;have lt:j<i:=by
  have:=(aA.mp hj).1;rw[a8] at this;omega
 rw[fH,ak lt] at hj;obtain⟨q1,f1⟩:=aA.mp (show(rows.map (·.2.1))[j]?=some q.2.1 by rw[aD,hj];rfl);obtain⟨q2,f2⟩:=aA.mp (show(rows.map (·.2.1))[i]?=some r.2.1 by rw[aD,e];rfl);exact cq.mp nd j i q1 q2 lt (f1.trans (e1.trans f2.symm))
abbrev SK:Str:=PySem.Str.ofString "k"
theorem X8:Bh (.str S1)=true:=by decide +kernel
def Ie (K:W.Frag)(C:Addr)(XC:Nat->Addr)(PT PU:Addr):Sp:=λvs H Q _=>∃(x td nl:Addr) (wy:Int) (zs:List Str) (ks:List Str) (t:AM) (D:Str->Addr),vs=[.ref x,.ref td,.ref nl,.int wy]/\H nl=some (.lst (zs.map V.str))/\Nms zs/\HW C H x ks [(S0,true,t)]/\SK∈ks/\LwT H td (Ci (λ_=>[]) S0 t) D/\Tb PT PU H/\
 ∀t1 D' H',KZ x td H H'->Tb PT PU H'->HW C H' x ks (putL gN (S1,true,t1) [(S0,true,t)])->LwT H' td (Ci (Ci (λ_=>[]) S0 t) S1 t1) D'->Q .non H'
theorem Mi (T:Txt K mg C XC)(F:Fun K "_law_second" "_law_second" FY f fd)(Bo:BI P w K mg base 5 C "take_in" ["self","name","keeper","tree"] (CC K C XC PT PU))(B2:Def P w K mg base 21 "_law_all" ["_law_tree","_law_path_here"] (FG K)):FnOk P w K mg base (E7 P w) 22 f fd ["_law_house","_law_trees","_law_names_here","_law_way"] (Ie K C XC PT PU):=by
 refine F.okE CT (λvs H Q E h=>?_) (λcdv A outer s H vs Q E hr h=>?_)
 ·obtain⟨x,td,nl,wy,zs,ks,t,D,rfl,_⟩:=h;rfl
 obtain⟨x,td,nl,wy,zs,ks,t,D,rfl,hn,nz,hw,mk,lt,tb,q⟩:=h;have hu:=C4 hr;refine⟨_,(!Ad (@Av _ _ (4) _ _ _ _ CT.nd rfl ∅ (!Fw) (by rfl) ∅) (!Ad (!AJ (!Ax Ck (pv 3) (!Ag) (AC _)) (!Ad (!Ek hu (pv 1) (!Aj) (!B4 hu (pv 1) (!Aj) (λ_ _=>rfl))) (!Af (!CQ dC rfl (!Cb (!AH B2 ∅ rfl (!Aa (!B4 hu (pv 1) (!Aj) (λ_ _=>rfl)) (!Aa (!Aj) (!Ab))))) (!Jd rfl (!B7 (@AK _ _ (5) _ CT.nd rfl ∅ ∅) (!B7 (@AK _ _ (6) _ CT.nd rfl ∅ ∅) (!GS)))) (!Ad (!Ek hu (pv 4) (pv 5) (pv 6)) (!Af (!AJ (!Bq (!AA Bv (by rfl) T.b_isinstance AF (!Aa (pv 6) (!Aa (!Gf rfl T.b_dict CD) (!Ab)))) (by intro _;rfl)) (!Af (!Ek hu (pv 4) (pv 5) (!Ig))) (!Ao)))) (by intro _;rfl)))) (!Ao)) (!Ad (!AD (!Ba (pv 0) T.cl Bo ∅ Au (!Aa (!Aj) (!Aa (!Aj) (!Aa (pv 4) (!Ab)))))) (!Ad (!Ek hu (pv 4) (!An AI (pv 2) (!Ag) (λ_ _=>rfl)) (!Aj)) (!Af (!CQ dC rfl (!Cb (!Cy (Ro rfl) (by rfl) T.b_list Sm (!Aa (pv 4) (!Ab)))) (@AK _ _ (5) _ CT.nd rfl ∅ ∅) (!Af (!Ek hu (pv 4) (pv 5) (!Aj))) (by intro _;rfl))))))),?_⟩
 try dsimp only[A4,Cx.nox,Cx.wish]
 have tk:TrOk t:=hw.tr _ (ah.mpr rfl);have g0:Ci (λ_=>([]:AM)) S0 t S0=t:=A2;have g1:Ci (λ_=>([]:AM)) S0 t S1=[]:=Bb Pi.symm;refine λhd nhd=>?_
 have s1:=Ae nhd (.dK []);have h1:(upd H hd (.dK [])) hd=some (.dK (Bx [])):=Ac;generalize upd H hd (.dK [])=H1 at s1 h1;have ha1:HA C H1 x ks [(S0,true,t)] hd:=(hw.apart λkvs z=>by rw[nhd] at z;cases z).st (AE s1);have la1:LwA H1 td (Ci (λ_=>[]) S0 t) D hd:=(lt.apart nhd).kx λb kvs _ e=>s1.get e
 have kz1:KZ x td H H1:=.of (hw.kh (AE s1)) ⟨_,lt.at_⟩;have tb1:=tb.same s1;dsimp only[AU];refine Ap λN eN=>?_
 have rest:∀(t1:AM) (D':Str->Addr) (o5 o6:Option V) (H2:Hp),TrOk t1->KZ x td H H2->Tb PT PU H2->HA C H2 x ks [(S0,true,t)] hd->LwA H2 td (Ci (Ci (λ_=>[]) S0 t) S1 t1) D' hd->H2 hd=some (.dK (Bx t1))->N [some (.ref x),some (.ref td),some (.ref nl),some (.int wy),some (.ref hd),o5,o6] H2:=λt1 D' o5 o6 H2 tk1 kz2 tb2 ha2 la2 hd2=>by
  subst eN
  try dsimp only[AZ]
  obtain⟨ag,qs,ps,⟨dx,hh,hk,n9,hx,_⟩,_⟩:=ha2.at_;refine⟨_,rfl,x,dx,_,rfl,hx,rfl,_,rfl,x,hd,hd,S1,SK,t1,ks,[(S0,true,t)],rfl,ha2,⟨_,hd2⟩,X8,(λz=>Pi (ah.mp z).symm),mk,bE rfl,hd2,tk1,tb2,λH3 k3 tb3 ha3=>?_⟩;have la3:=la2.kx λb kvs _ e=>k3.dk e
  have hd3:=k3.dk hd2;have kz3:=kz2.trans (.of k3 ⟨_,la2.lt.at_⟩);have hn3:=kz3.lst hn;obtain⟨z17,mz,ez⟩:=nz.get (i:=17) (by decide) (by decide);have lt1:(Bx t1).length<=60:=by unfold Bx;rw[aa];exact tk1.b.few
  refine⟨_,rfl,_,rfl,nl,_,_,_,rfl,rfl,AV.of hn3,ez,hd,_,rfl,J1.k (k:=Sum.inr z17) hd3 (By (by omega)),?_⟩;have l4:=Qs (Bx t1) (Sum.inr z17) (V.str (PySem.Str.ofString "more"));have h4:(upd H3 hd (.dK (putK (Bx t1) (Sum.inr z17) (V.str (PySem.Str.ofString "more"))))) hd=some (.dK (putK (Bx t1) (Sum.inr z17) (V.str (PySem.Str.ofString "more")))):=Ac;have k4:Kx hd H3 (upd H3 hd (.dK (putK (Bx t1) (Sum.inr z17) (V.str (PySem.Str.ofString "more"))))):=(DH (.refl _)).upd hd3 _;have str:∀p∈putK (Bx t1) (Sum.inr z17) (V.str (PySem.Str.ofString "more")),∃z:Str,kV p.1=V.str z:=λp hp=>by
   have key:p.1=Sum.inr z17\/∃y∈Bx t1,p.1=y.1:=by
    unfold putK at hp
    split at hp
    ·obtain⟨y,hy,rfl⟩:=aj.mp hp;refine .inr ⟨y,hy,?_⟩
     split<;>rfl
    ·rcases aK.mp hp with hp|hp
     ·exact .inr ⟨p,hp,rfl⟩
     ·exact .inl (by rw[ah.mp hp])
   rcases key with e|⟨y,hy,e⟩
   ·exact⟨z17,by rw[e];rfl⟩
   ·obtain⟨u,_,rfl⟩:=aj.mp hy;exact⟨jn u.1,by rw[e];rfl⟩
  generalize putK (Bx t1) (Sum.inr z17) (V.str (PySem.Str.ofString "more"))=kv4 at l4 h4 k4 str;generalize upd H3 hd (.dK kv4)=H4 at h4 k4;refine⟨_,rfl,hd,_,rfl,h4,by omega,λl5 nl5=>?_⟩;have s5:=Ae nl5 (.lst (kv4.map λp=>kV p.1));have h5:(upd H4 l5 (.lst (kv4.map λp=>kV p.1))) l5=some (.lst (kv4.map λp=>kV p.1)):=Ac;generalize upd H4 l5 (.lst (kv4.map λp=>kV p.1))=H5 at s5 h5;have n5:l5≠hd:=λz=>by rw[z,h4] at nl5;cases nl5
  refine⟨l5,rfl,⟨_,AV.of h5⟩,Dj (K:=K) (a:=l5) (xs:=kv4.map λp=>kV p.1) (λi σ Hi=>∃(o5:Option V) (kvs:List (Key×V)),σ=[some (.ref x),some (.ref td),some (.ref nl),some (.int wy),some (.ref hd),o5,o6]/\Kx hd H5 Hi/\Hi hd=some (.dK kvs)/\kvs.length<=100+i) ⟨_,kv4,rfl,DH (.refl _),s5.get h4,by omega⟩ (λi σ Hi _ ⟨_,_,_,k,_⟩=>AV.of (k.keep _ _ n5 h5)) ?_ ?_⟩
  ·rintro i v σ Hi ei ⟨o5,kvs,rfl,k,hi,li⟩
   rw[aD] at ei;obtain⟨p,ep,rfl⟩:=aU.mp ei;have hi2:=(aA.mp ep).1;obtain⟨z,ez⟩:=str p (aN ep);dsimp only[AU];rw[ez];refine⟨_,rfl,_,rfl,hd,_,rfl,J1.k (k:=Sum.inr z) hi (By (by omega)),?_⟩;exact⟨_,_,rfl,k.upd (s5.get h4) _,Ac,by have:=Qs kvs (Sum.inr z) (V.str (PySem.Str.ofString "other"));omega⟩
  ·rintro σ Hi ⟨o5,kvs,rfl,k,hi,li⟩
   have k35:Kx hd H3 Hi:=(k4.trans (DH s5)).trans k;have dk3:∀o,H3 hd=some o->∃kvs,o=.dK kvs:=λo e=>by rw[hd3] at e;exact⟨_,(aI e).symm⟩
   exact q t1 D' Hi (WK kz3 nhd k35) (WH tb3 hd3 k35) (ha3.kx k35 dk3).hw (la3.kx λb kvs n e=>k35.keep b _ n e).lt
 refine⟨_,rfl,rfl,_,rfl,DQ (λc=>?_) (λc=>?_)⟩
 ·refine⟨_,rfl,td,_,rfl,la1.lt.get (.inl rfl),_,rfl,td,_,rfl,J1.k (k:=Sum.inr S1) la1.lt.at_ (By (by show 3<1000000;decide)),?_⟩;obtain⟨SS,na0,ns0⟩:=la1.nat S0 (.inl rfl);rw[g0] at na0;have lt2:=la1.lt.put (.inr (.inl rfl)) na0 λa ha z=>la1.lt.no (.inl rfl) na0 (z▸ha)
  have kz2:=kz1.upd (.dK (putK (J9 D) (.inr S1) (.ref (D S0))));have tb2:=R6 tb1 la1.lt.at_ (putK (J9 D) (.inr S1) (.ref (D S0)));have keep2:∀b u,b≠td->H1 b=some u->(upd H1 td (.dK (putK (J9 D) (.inr S1) (.ref (D S0))))) b=some u:=λb u n e=>by rw[Ak n];exact e
  have ha2:=ha1.kept (H':=upd H1 td (.dK (putK (J9 D) (.inr S1) (.ref (D S0))))) (UI D) λb u n e=>keep2 b u (λz=>by rw[z,la1.lt.at_] at e;exact n (aI e).symm) e
  have hd2:=keep2 hd _ la1.ne.symm h1;have la2:LwA (upd H1 td (.dK (putK (J9 D) (.inr S1) (.ref (D S0))))) td (Ci (Ci (λ_=>[]) S0 t) S1 t) (Ci D S1 (D S0)) hd:=⟨lt2,la1.ne,λn hn=>by
   by_cases c:n=S1
   ·rw[c,A2,A2];exact⟨SS,na0.keep λa kvs ha e=>keep2 a _ (λz=>la1.lt.no (.inl rfl) na0 (z▸ha)) e,ns0⟩
   ·rw[Bb c,Bb c];obtain⟨S,z,ns⟩:=la1.nat n hn;exact⟨S,z.keep λa kvs ha e=>keep2 a _ (λy=>la1.lt.no hn z (y▸ha)) e,ns⟩⟩
  generalize upd H1 td (.dK (putK (J9 D) (.inr S1) (.ref (D S0))))=H2 at lt2 kz2 tb2 keep2 ha2 hd2 la2 ⊢;generalize Ci D S1 (D S0)=D2 at la2 lt2;obtain⟨S,na,ns⟩:=la2.nat S0 (.inl rfl);rw[Bb Pi,g0] at na;have nhd2:∀c,H2 c=none->c≠hd:=λc e z=>by rw[z,hd2] at e;cases e
  refine⟨_,rfl,td,_,rfl,la2.lt.get (.inl rfl),D2 S0,[],gT t,S,rfl,(λ_ h=>nomatch h),(by decide),na,Bd.of tk.v,λP hP=>?_,λl rows H3 s3 nl3 hl ok al=>?_⟩
  ·by_cases c:P=[]
   ·rw[c];decide
   ·obtain⟨p,hp,rfl⟩:=aj.mp ((IU tk.v.nd c).mp hP);have:=tk.v.deep p hp;omega
  have nlhd:=nhd2 l nl3;have hd3:=s3.get hd2;have pm:=KA tk.v ok al;have lr:rows.length=t.length:=by have:=pm.length_eq;rw[aa,aa] at this;exact this
  have fw:=tk.b.few;have vp:∀r∈rows,VP r.2.1:=λr hr=>(ok.val r hr).2.1
  refine⟨l,rfl,⟨_,AV.of hl⟩,Dj (K:=K) (a:=l) (xs:=rows.map λr=>V.ref r.1) (λi σ Hi=>(∃o5 o6,σ=[some (.ref x),some (.ref td),some (.ref nl),some (.int wy),some (.ref hd),o5,o6])/\Kx hd H3 Hi/\Hi hd=some (.dK (Bx (F7 t (rows.take i))))) ⟨⟨none,none,rfl⟩,DH (.refl _),hd3⟩ (λi σ Hi _ ⟨_,k,_⟩=>AV.of (k.keep _ _ nlhd hl)) ?_ ?_⟩
  ·rintro i v σ Hi ei ⟨⟨o5,o6,rfl⟩,k,hi⟩
   rw[aD] at ei;obtain⟨r,er,rfl⟩:=aU.mp ei;have hr:=aN er;have hi2:=(aA.mp er).1;have at1:=ok.at_ r hr;rw[cx] at at1;have at2:=k.keep _ _ (λz=>by rw[z,hd3] at at1;cases at1) at1;obtain⟨n1,v1,_,S',nr,sub⟩:=ok.val r hr;have nw:=V5 (t:=t) ok.nd vp er;have ll:(Bx (F7 t (rows.take i))).length<=60:=by unfold Bx F7;rw[aa,aa,a8];omega
   have ea:=SN t rows i er;obtain⟨t',ty,kt,ev⟩:=HJ (nr.keep λa kvs ha e=>(k.upd hd3 (.dK (Bx (F7 t (rows.take i))++[((Sum.inr (jn r.2.1):Key),r.2.2)]))).keep a _ (λz=>ns (sub a ha |> λy=>z▸y)) e) K;dsimp only[AU];refine⟨r.1,_,rfl,AW.of at2,rfl,_,_,rfl,_,_,rfl,rfl,?_⟩;dsimp only[AU];refine Ap λN eN=>?_
   refine⟨_,rfl,_,rfl,_,rfl,hd,_,rfl,J1.k (k:=Sum.inr (jn r.2.1)) hi (By (by omega)),?_⟩;rw[JI nw];subst eN;have l1:(Bx (F7 t (rows.take i))++[(Sum.inr (jn r.2.1),r.2.2)]).length<=61:=by rw[ar,bc];omega
   rcases Ue n1 nr with⟨d2,e1,e2⟩|⟨c,e1,e2⟩
   ·have evv:VG r.2.2=true:=by rw[e1];rfl
    refine⟨_,rfl,_,_,_,_,rfl,ty,kt,_,rfl,?_⟩;rw[evv];refine AG rfl ⟨_,rfl,_,rfl,hd,_,rfl,J1.k (k:=Sum.inr (jn r.2.1)) Ac (By (by omega)),?_⟩;rw[S8 nw];refine⟨⟨_,_,rfl⟩,(k.upd hd3 _).upd hd3 _,?_⟩;rw[Ac,ea,RH,e2];rfl
   ·have evv:VG r.2.2=false:=by rw[e1];rfl
    refine⟨_,rfl,_,_,_,_,rfl,ty,kt,_,rfl,?_⟩;rw[evv];refine As rfl ⟨⟨_,_,rfl⟩,k.upd hd3 _,?_⟩;rw[Ac,ea,RH,e2,e1];rfl
  ·rintro σ Hi ⟨⟨o5,o6,rfl⟩,k,hi⟩
   rw[aa,cu] at hi;have rp:=QO tk.v.nd pm;have k23:Kx hd H2 Hi:=(DH s3).trans k;have dk2:∀o,H2 hd=some o->∃kvs,o=.dK kvs:=λo e=>by rw[hd2] at e;exact⟨_,(aI e).symm⟩
   refine rest (F7 t rows) D2 o5 o6 Hi (Tf rp tk) (WK kz2 nhd k23) (WH tb2 hd2 k23) (ha2.kx k23 dk2) ?_ hi;have la3:=la2.kx λb kvs n e=>k23.keep b _ n e
   have e9:∀P,gT t P=gT (F7 t rows) P:=λP=>by unfold gT;rw[Wb rp tk.v.nd]
   have nat:∀n,n=S0\/n=S1\/n=SE->∃S,NAt Hi (.ref (D2 n)) (gT (Ci (Ci (λ_=>[]) S0 t) S1 (F7 t rows) n)) S/\¬S hd:=λn hn=>by
    obtain⟨S,z,ns⟩:=la3.nat n hn;refine⟨S,?_,ns⟩
    by_cases c:n=S1
    ·rw[c,A2] at z ⊢;exact z.eq e9
    ·rw[Bb c] at z ⊢;exact z
   exact⟨⟨la3.lt.at_,λn hn=>by obtain⟨S,z,_⟩:=nat n hn;exact⟨S,z⟩⟩,la3.ne,nat⟩
 ·try dsimp only[AZ]
  refine rest [] D none none H1 Pf kz1 tb1 ha1 ?_ h1;have:Ci (Ci (λ_=>([]:AM)) S0 t) S1 []=Ci (λ_=>[]) S0 t:=funext λn=>by
   by_cases c:n=S1
   ·rw[c,A2,g1]
   ·rw[Bb c]
  rw[this];exact la1
theorem ME {t more:AM}(h:TrOk t)(hm:∀p∈more,∀c,p.2=some c->c.length<=400):∀p∈Bz t more,∀c,p.2=some c->c.length<=400:=λp hp c e=>by
 rcases F6 hp with⟨q,hq,e2⟩|hp
 ·exact hm q hq c (by rw[<-e2];exact e)
 ·exact h.b.ct p hp c e
theorem RW {t:AM}(h:TrOk t)(P Q:List Str):∀p∈DD t P Q,∀c,p.2=some c->c.length<=400:=λp hp c e=>by
 rcases aM.mp hp with rfl|hp
 ·have e:(lk t P).getD none=some c:=e;cases el:lk t P with
  |none=>rw[el] at e;cases e
  |some v=>
   rw[el] at e;exact h.b.ct _ (Cq el) c e
 ·obtain⟨q,hq,rfl⟩:=aj.mp hp;exact h.b.ct q (aV.mp hq).1 c e
structure Fit (cl:Nat) (t':AM):Prop where
 v:TrV t'
 ct:cl<=400->∀p∈t',∀c,p.2=some c->c.length<=400
 no:400<cl->¬BOk t'
theorem Vs {t t':AM}(h:TrOk t){P:List Str}{c:Str}(e:EN P c t []=.inr t'):Fit c.length t':=by
 unfold EN at e
 by_cases pk:D3 t P
 ·rw[ak pk] at e
  by_cases fo:Jq t P=true
  ·rw[ak fo] at e;cases e
  ·rw[ai fo] at e;cases e;have one:=Lz (v:=some c) pk.2.1.1 pk.1 pk.2.1.2;refine⟨h.v.with one.1 one.2 (by have:=h.b.few;rw[bc];omega),λl=>ME h λp hp c' e=>?_,λl b=>?_⟩
   ·rw[ah.mp hp] at e;cases e;exact l
   ·have el:lk (Bz t [(P,some c)]) P=some (some c):=(FS t (P,some c) P).trans (ak rfl);have:=b.ct _ (Cq el) c rfl;omega
 ·rw[ai pk] at e;cases e
theorem Up {dd:Dd}{t ts t':AM}(h:TrOk t)(hs:TrOk ts)(e:dd.f t ts=.inr t'):Fit (dd.cl t) t':=by
 have z0:∀{t':AM},TrV t'->(∀p∈t',∀c,p.2=some c->c.length<=400)->Fit 0 t':=λv c=>⟨v,λ_=>c,λl=>absurd l (Nat.not_lt_zero _)⟩
 have few:=h.b.few;cases dd with
 |wr s P c=>exact Vs h e
 |sp s P a m z=>
  have e:Do P a m z t []=.inr t':=e;show Fit (match lk t P with|some (some c)=>(K70.RD c a m z).length|_=>0) t';unfold Do at e
  split at e
  ·next c el=>
   try rw[el]
   exact Vs h e
  ·cases e
 |fo s P=>
  have e:NN t P (.inr (Bz t [(P,none)]))=.inr t':=e;obtain⟨pk,_,e⟩:=OM e;cases e;have one:=Lz (v:=none) pk.2.1.1 pk.1 pk.2.1.2;exact z0 (h.v.with one.1 one.2 (by rw[bc];omega)) (ME h λp hp c' e=>by rw[ah.mp hp] at e;cases e)
 |rm s P=>
  have e:Kn P t []=.inr t':=e;unfold Kn at e
  split at e
  ·cases e
  ·cases e;exact z0 (h.v.cut P) λp hp c e=>h.b.ct p (aV.mp hp).1 c e
 |mv s P R=>
  have e:Qe P R t []=.inr t':=e;unfold Qe at e
  split at e
  ·cases e
  ·split at e
   ·cases e
   ·obtain⟨pk,_,e⟩:=OM e;cases e;obtain⟨c1,c2,c3⟩:=JK h (P:=P) pk.2.1.1 pk.1 pk.2.1.2;have lc:(E3 t P).length<=t.length:=bp _ _;refine z0 ((h.v.cut P).with c1 c2 (by omega)) λp hp c e=>?_
    rcases F6 hp with⟨q,hq,e2⟩|hp
    ·exact RW h P R q hq c (by rw[<-e2];exact e)
    ·exact h.b.ct p (aV.mp hp).1 c e
 |cp s R nm P=>
  have e:LK R P t ts=.inr t':=e;unfold LK at e
  split at e
  ·cases e
  ·obtain⟨pk,_,e⟩:=OM e;cases e;obtain⟨c1,c2,c3⟩:=JK hs (P:=P) pk.2.1.1 pk.1 pk.2.1.2;exact z0 (h.v.with c1 c2 (by omega)) (ME h (RW hs P R))
theorem Xl {t:AM}(h:SmT t)(c:∀p∈t,∀c,p.2=some c->c.length<=400):BOk t:=⟨h.few,h.fld,h.deep,c⟩
theorem Xh {t:AM}(h:BOk t):SmT t:=⟨h.few,h.fld,h.deep⟩
theorem RQ {sm:Str}{b:Bool}{t t':AM}{gs:List Gs}(h:(sm,b,t)∈gs):(sm,true,t')∈setG sm t' gs:=aj.mpr ⟨_,h,ak rfl⟩
theorem OE {sm n:Str}{b:Bool}{t t':AM}{gs:List Gs}(h:(n,b,t)∈gs)(ne:n≠sm):(n,b,t)∈setG sm t' gs:=aj.mpr ⟨_,h,ai ne⟩
theorem Both.set {C:Addr}{H:Hp}{x td:Addr}{Tm:Str->AM}{D':Str->Addr}{ks:List Str}{gs:List Gs}(g0:(S0,true,Tm S0)∈gs)(g1:(S1,true,Tm S1)∈gs)(ge:(SE,false,Tm SE)∈gs)(tks:∀n,TrOk (Tm n)){sm:Str}{t':AM}(hs:sm=S0\/sm=S1)(tk:TrOk t')(hw:HW C H x ks (setG sm t' gs))(lt:LwT H td (Ci Tm sm t') D'):Both C H x td (Ci Tm sm t') D' ks (setG sm t' gs):=by
 have ne:SE≠sm:=by
  rcases hs with rfl|rfl
  ·exact TH.symm
  ·exact TJ.symm
 refine⟨hw,?_,?_,?_,lt,λn=>?_⟩
 ·rcases hs with rfl|rfl
  ·rw[A2];exact RQ g0
  ·rw[Bb Pi];exact OE g0 Pi
 ·rcases hs with rfl|rfl
  ·rw[Bb Pi.symm];exact OE g1 Pi.symm
  ·rw[A2];exact RQ g1
 ·rw[Bb ne];exact OE ge ne
 ·by_cases c:n=sm
  ·rw[c,A2];exact tk
  ·rw[Bb c];exact tks n
theorem Both.st {C:Addr}{H H':Hp}{x td:Addr}{Tm:Str->AM}{D:Str->Addr}{ks:List Str}{gs:List Gs}(h:Both C H x td Tm D ks gs)(s:St H H'):Both C H' x td Tm D ks gs:=⟨h.hw.st s,h.g0,h.g1,h.ge,h.lt.keep λb kvs e=>s.dk e,h.tk⟩
theorem WM (r:Rf):r.tx≠OK:=by
 cases r<;>(intro z;first|exact absurd (bO z) (by decide +kernel)|cases z)
theorem Tj {A B R:TS}{D:Ends}{σ:L2.St}{H:Hp}(h:∀N3,R D=N3->∀N2,B { D with nx:=N3 }=N2->A { D with nx:=N2 } σ H):SH A (SH B R) D σ H:=h _ rfl _ rfl
def OR (K:W.Frag)(PT PU:Addr):Sp:=λvs H Q _=>∃(a:Addr) (ns:List Int),vs=[.ref a]/\AV K H a (ns.map V.int)/\ns.length<=63/\CI PT LQ LP H/\CI PU MQ MP H/\PT≠PU/\∀H',Q (.bl true) H'
theorem KH.seq {x a:Addr}{H H':Hp}{xs:List V}(k:KH x H H')(h:AV K H a xs):AV K H' a xs:=by
 rcases h with h|h
 ·left;rcases h with h|⟨o,h⟩
  ·exact .inl (k.lst h)
  ·exact .inr ⟨o,k.get h (λ_ _ _ z=>by cases z) λ_ z=>by cases z⟩
 ·exact .inr h
theorem KZ.seq {x td a:Addr}{H H':Hp}{xs:List V}(k:KZ x td H H')(h:AV K H a xs):AV K H' a xs:=by
 obtain⟨C,dx,fs,e1⟩:=k.ax;obtain⟨kvs,e2⟩:=k.at_;rcases h with h|h
 ·left;rcases h with h|⟨o,h⟩
  ·exact .inl (k.lst h)
  ·exact .inr ⟨o,k.keep a _ (λz=>by rw[z,e1] at h;cases h) (λz=>by rw[z,e2] at h;cases h) (λ_ z=>by cases z) h⟩
 ·exact .inr h
theorem Xn (T:Txt K mg C XC)(F:Fun K "law" "law" Uz f fd)(Fg:Def P w K mg base 1 "_law_cell_at" ["_law_script","_law_k"] (G7 K))(Gz:Def P w K mg base 1 "_law_names" ["_law_row_here","_law_many"] (IY K))(DS:Xb P w K mg base 1 C "PlainHouse" ["self"] (Ff K C))(C9:BI P w K mg base 4 C "keeper" ["self","name","bound"] (Ey K C XC PT PU))(DX:BI P w K mg base 6 C "stem" ["self","name","keeper"] (Fj K C XC PT PU))(FV:CY P w K mg base 16 "_law_filled" ["_law_house","_law_trees","_law_names_here","_law_way"] (Ht K C XC PT PU))(FQ:CY P w K mg base 22 "_law_second" ["_law_house","_law_trees","_law_names_here","_law_way"] (Ie K C XC PT PU))(DL:BI P w K mg base 6 C "seal" ["self","stem","name"] (Fq K C XC PT PU))(E6:Def P w K mg base 22 "_law_right" ["_law_house","_law_trees"] (I0 K C PT PU))(Eg:Def P w K mg base 1 "_law_row" ["_law_cell","_law_many"] (Ik K))(Hw:Def P w K mg base 2 "_law_deed" ["_law_cell","_law_names_here"] (Kd K))(D6:Def P w K mg base 15 "_law_due" ["_law_trees","_law_deed_here"] (HK K))(GC:Def P w K mg base 22 "_law_small" ["_law_tree"] (IP K))(HY:Def P w K mg base 9 "_law_word" ["_law_house","_law_deed_here"] (Km K C PT PU)):FnOk P w K mg base Ef 23 f fd ["_law_script"] (OR K PT PU):=by
 exists FH
 ·obtain⟨a,ns,rfl,_⟩:=h;rfl
 obtain⟨a,ns,rfl,hS,few,tbT,tbU,ne,q⟩:=h;have hu:=C4 hr;have hu9:=Mc hr;refine⟨_,(!Ad (@Av _ _ (1) _ _ _ _ FH.nd rfl ∅ (!AH Fg ∅ rfl (!Aa (pv 0) (!Aa (!Ag) (!Ab)))) (by rfl) ∅) (!Ad (@Av _ _ (2) _ _ _ _ FH.nd rfl ∅ (!AH Gz ∅ rfl (!Aa (!AH Eg ∅ rfl (!Aa (pv 1) (!Aa (!Ag) (!Ab)))) (!Aa (!Ag) (!Ab)))) (by rfl) ∅) (!Ad (@Av _ _ (3) _ _ _ _ FH.nd rfl ∅ (Wh DS ∅ rfl) (by rfl) ∅) (!Ad (!AD (!Ba (pv 3) T.cl C9 ∅ GE (!Aa (!Aj) (!Aa (!Ag) (!Ab))))) (!Ad (!AD (!Ba (pv 3) T.cl DX ∅ GE (!Aa (!Aj) (!Aa (!Aj) (!Ab))))) (!Ad (@Av _ _ (4) _ _ _ _ FH.nd rfl ∅ (!Wa (!LY (!Aj) (!Fw) (!LY (!Aj) (!Fw) (!LY (!Aj) (!Fw) (!VE)))) rfl rfl (by intro z;cases z)) (by rfl) ∅) (!Ad (!AD (!Bl FV ∅ rfl GE (!Aa (pv 3) (!Aa (pv 4) (!Aa (pv 2) (!Aa (!Ay GT (pv 1) (!Ag)) (!Ab))))))) (!Ad (!AD (!Bl FQ ∅ rfl GE (!Aa (pv 3) (!Aa (pv 4) (!Aa (pv 2) (!Aa (!Ay Bw (!Ay GT (pv 1) (!Ag)) (!Ag)) (!Ab))))))) (!Ad (!AD (!Ba (pv 3) T.cl DL ∅ GE (!Aa (!Aj) (!Aa (!Aj) (!Ab))))) (!Ad (!Ek hu (pv 4) (!Aj) (!B4 hu (pv 4) (!Aj) (λ_ _=>rfl))) (!Ad (!CQ bJ rfl (!Cb (!BA FF (pv 0) (!BO (!Ag)) (!BO (!Ag)))) (@AK _ _ (5) _ FH.nd rfl ∅ ∅) (!Ad (@Av _ _ (6) _ _ _ _ FH.nd rfl ∅ (!AH Hw ∅ rfl (!Aa (pv 5) (!Aa (pv 2) (!Ab)))) (by rfl) ∅) (!Ad (!Ve (!AH D6 ∅ rfl (!Aa (pv 4) (!Aa (pv 6) (!Ab)))) (!Jd rfl (!B7 (@AK _ _ (7) _ FH.nd rfl ∅ ∅) (!B7 (@AK _ _ (8) _ FH.nd rfl ∅ ∅) (!GS))))) (!Ad (!AJ (@PW.pt _ _ _ (!Kr (!Ax (O3 hu9) (pv 7) (!Az (!Aa (!Aj) (!Ab))) (AC _)) (!IF (!Cg (!Bq (!AH GC ∅ rfl (!Aa (pv 8) (!Ab))) (by intro _;rfl)))))) (!Af (@Av _ _ (7) _ _ _ _ FH.nd rfl ∅ (!Az (!Aa (!Aj) (!Ab))) (by rfl) ∅)) (!Ao)) (!Ad (!AJ (!Ax (O3 hu9) (pv 7) (!Az (!Aa (!Aj) (!Ab))) (AC _)) (!Af (!Ek hu (pv 4) (!An Ar (pv 6) (!Ag) (λ_ _=>rfl)) (pv 8))) (!Ao)) (!Af (!AJ (@PW.pt _ _ _ (!D1 (!Ax (Kp hu9) (!AH HY ∅ rfl (!Aa (pv 3) (!Aa (pv 6) (!Ab)))) (pv 7) (AC _)) (!CM (!Cg (!Bq (!AH E6 ∅ rfl (!Aa (pv 3) (!Aa (pv 4) (!Ab)))) (by intro _;rfl)))))) (!Af (!Aq (!G5))) (!Ao))))))) (by intro _;rfl)) (!Af (!Aq (!AH E6 ∅ rfl (!Aa (pv 3) (!Aa (pv 4) (!Ab))))))))))))))))),?_⟩
 try dsimp only[A4,Cx.nox,Cx.wish]
 refine⟨_,rfl,a,ns,0,rfl,by decide,hS,λc1=>?_⟩;dsimp only[AU];refine⟨_,rfl,c1,10,rfl,by decide,by decide,λr H1 rs s1 n1 h1 l1 b1=>⟨r,rs,18,rfl,h1,by rw[l1];rfl,b1,by decide,by decide,λnl H2 zs s2 n2 h2 lz nz ndz=>?_⟩⟩;have s12:=s1.trans s2;have nms:Nms zs:=⟨by rw[lz];rfl,λz hz=>Xy (nz z hz),ndz⟩
 dsimp only[AU];refine λx dx nx ndx nxd=>⟨x,dx,rfl,Ac,λH3 k3 hs3=>⟨rfl,?_⟩⟩
 have s3:Aw H2 H3:=λb o e=>by
  have n1:b≠x:=λz=>by rw[z,nx] at e;cases e
  have n2:b≠dx:=λz=>by rw[z,ndx] at e;cases e
  exact k3.keep b o n1 (by rw[Ak n1,Ak n2];exact e)
 have s13:=s12.trans s3;have tb3:Tb PT PU H3:=(⟨ne,tbT,tbU⟩:Tb PT PU H).same s13;have hn3:=s3.get h2;have hS3:=s13.seq hS;have hw3:HW C H3 x [] []:=⟨⟨0,[],[],hs3,List.Pairwise.nil,rfl,rfl⟩,List.Pairwise.nil,by decide,by decide,λ_ h=>nomatch h⟩
 clear k3 s3
 dsimp only[AU];obtain⟨dx3,hh3,_,_,hx3,_⟩:=hs3.at_;refine⟨_,rfl,x,dx3,_,rfl,hx3,rfl,x,SK,5,rfl,hw3,by decide +kernel,tb3,λH4 k4 tb4 hw4=>?_⟩
 try dsimp only[AZ]
 obtain⟨_,_,_,⟨dx4,hh4,_,_,hx4,_⟩,_⟩:=hw4.at_;refine⟨_,rfl,x,dx4,_,rfl,hx4,rfl,x,S0,SK,[SK],[],rfl,hw4,by decide +kernel,(λh=>nomatch h),ah.mpr rfl,bE rfl,tb4,λH5 k5 tb5 hw5=>?_⟩;have k35:=k4.trans k5;have hn5:=k35.lst hn3;have hS5:=k35.seq hS3;have hw5:HW C H5 x [SK] [(S0,true,[])]:=hw5
 clear hx4 hx3
 try dsimp only[AZ]
 refine Ap λN eN=>?_
 refine λtd ntd=>?_
 have s6:=Ae ntd (.dK []);have t6:(upd H5 td (.dK [])) td=some (.dK []):=Ac;generalize upd H5 td (.dK [])=H6 at s6 t6;refine λd0 nd0=>?_
 have s7:=Ae nd0 (.dK []);have d07:(upd H6 d0 (.dK [])) d0=some (.dK []):=Ac;generalize upd H6 d0 (.dK [])=H7 at s7 d07;refine λd1 nd1=>?_
 have s8:=Ae nd1 (.dK []);have d18:(upd H7 d1 (.dK [])) d1=some (.dK []):=Ac;generalize upd H7 d1 (.dK [])=H8 at s8 d18;refine λde nde=>?_
 have s9:=Ae nde (.dK []);have de9:(upd H8 de (.dK [])) de=some (.dK []):=Ac;generalize upd H8 de (.dK [])=H9 at s9 de9;have t9:=((s7.trans s8).trans s9).get t6;refine⟨t9,[((.inr S0:Key),V.ref d0),(.inr S1,.ref d1),(.inr SE,.ref de)],rfl,bE rfl,?_⟩;obtain⟨D,e0,e1,ee⟩:∃D:Str->Addr,D S0=d0/\D S1=d1/\D SE=de:=⟨Ci (Ci (λ_=>de) S0 d0) S1 d1,(Bb Pi).trans A2,A2,(Bb TJ.symm).trans (Bb TH.symm)⟩
 have em:ER [] [((Sum.inr S0:Key),V.ref d0),(.inr S1,.ref d1),(.inr SE,.ref de)]=J9 D:=by
  show putK (putK (putK [] (Sum.inr S0:Key) (V.ref d0)) (Sum.inr S1:Key) (V.ref d1)) (Sum.inr SE:Key) (V.ref de)=_;have a1:putK [] (Sum.inr S0:Key) (V.ref d0)=[(Sum.inr S0,V.ref d0)]:=JI List.not_mem_nil _;have a2:putK [((Sum.inr S0:Key),V.ref d0)] (Sum.inr S1) (V.ref d1)=[(Sum.inr S0,V.ref d0),(Sum.inr S1,V.ref d1)]:=JI (λh=>Pi (bq (ah.mp h)).symm) _;have a3:putK [((Sum.inr S0:Key),V.ref d0),(Sum.inr S1,V.ref d1)] (Sum.inr SE) (V.ref de)=[(Sum.inr S0,V.ref d0),(Sum.inr S1,V.ref d1),(Sum.inr SE,V.ref de)]:=JI (λh=>by
   rcases aM.mp h with h|h
   ·exact TH (bq h).symm
   ·exact TJ (bq (ah.mp h)).symm) _
  rw[a1,a2,a3,<-e0,<-e1,<-ee]
 rw[em];have nm:∀{H':Hp} {d:Addr},H' d=some (.dK [])->NAt H' (.ref d) (gT []) (λa=>a=d\/∃x∈([]:List Ch),x.2.2.2 a):=λ{H' d} h=>(NAt.fold d [] h cO (λ_ h=>nomatch h) (λ_ h=>nomatch h) (λ_ h=>nomatch h)).eq λP=>by
  rw[WI];unfold gT;rw[On]
 have out:∀{d:Addr},H9 d=some (.dK [])->d≠td->(upd H9 td (.dK (J9 D))) d=some (.dK []):=λh n=>by rw[Ak n];exact h
 have n0:d0≠td:=λz=>by rw[z,t6] at nd0;cases nd0
 have n1:d1≠td:=λz=>by rw[z,s7.get t6] at nd1;cases nd1
 have n2:de≠td:=λz=>by rw[z,(s7.trans s8).get t6] at nde;cases nde
 have lt0:LwT (upd H9 td (.dK (J9 D))) td (λ_=>[]) D:=by
  refine⟨Ac,λn hn=>⟨_,nm ?_⟩⟩;rcases hn with rfl|rfl|rfl
  ·rw[e0];exact out ((s8.trans s9).get d07) n0
  ·rw[e1];exact out (s9.get d18) n1
  ·rw[ee];exact out de9 n2
 have s59:Aw H5 (upd H9 td (.dK (J9 D))):=Cu (((s6.trans s7).trans s8).trans s9) ntd _;generalize upd H9 td (.dK (J9 D))=Ha at lt0 s59
 clear s6 s7 s8 s9 t6 t9 d07 d18 de9 em nm out
 have hna:=s59.get hn5;have hSa:=s59.seq hS5;have tba:=tb5.same s59;have hwa:=hw5.st (AE s59);subst eN;dsimp only[AU];refine⟨_,rfl,_,rfl,_,rfl,_,rfl,_,_,rfl,rfl,⟨by decide,by decide⟩,x,td,nl,_,zs,[SK],D,rfl,hna,nms,hwa,lt0,tba,λt Db Hb kb tbb hwb ltb=>?_⟩
 try dsimp only[AZ]
 refine⟨_,rfl,_,rfl,_,rfl,_,rfl,_,_,rfl,rfl,⟨by decide,by decide⟩,_,_,rfl,rfl,(by show(0:Int)<2;decide),x,td,nl,_,zs,[SK],t,Db,rfl,kb.lst hna,nms,hwb,ah.mpr rfl,ltb,tbb,λt1 Dc Hc kc tbc hwc ltc=>?_⟩
 try dsimp only[AZ]
 obtain⟨_,_,_,⟨dxc,hhc,_,_,hxc,_⟩,_⟩:=hwc.at_;have mc:∀g,g∈putL gN (S1,true,t1) [(S0,true,t)]↔g=(S1,true,t1)\/g∈[((S0,true,t):Gs)]/\gN g≠gN (S1,true,t1):=λg=>Fh hwb.ri
 have gc0:=(mc (S0,true,t)).mpr (.inr ⟨ah.mpr rfl,Pi⟩);have gc1:=(mc (S1,true,t1)).mpr (.inl rfl);have tkt:TrOk t:=hwc.tr _ gc0;have tk1:TrOk t1:=hwc.tr _ gc1;have noe:SE∉(putL gN (S1,true,t1) [(S0,true,t)]).map gN:=λh=>by
  obtain⟨g,hg,e⟩:=aj.mp h;rcases(mc g).mp hg with rfl|⟨hg,_⟩
  ·exact TJ e
  ·rw[ah.mp hg] at e;exact TH e
 have lc:(putL gN (S1,true,t1) [(S0,true,t)]).length<=10:=aX (Mz _) (bE rfl)
 clear mc
 generalize putL gN (S1,true,t1) [(S0,true,t)]=gsc at hwc gc0 gc1 noe lc;refine⟨_,rfl,x,dxc,_,rfl,hxc,rfl,x,S0,SE,t,[SK],gsc,rfl,hwc,by decide +kernel,noe,gc0,lc,tbc,λHd kd tbd hwd=>?_⟩
 try dsimp only[AZ]
 have ltd:=ltc.keep λb kvs e=>kd.dk e
 have md:∀g,g∈putL gN (SE,false,t) gsc↔g=(SE,false,t)\/g∈gsc/\gN g≠gN (SE,false,t):=λg=>Fh hwc.ri
 have gd0:=(md (S0,true,t)).mpr (.inr ⟨gc0,TH⟩);have gd1:=(md (S1,true,t1)).mpr (.inr ⟨gc1,TJ⟩);have gde:=(md (SE,false,t)).mpr (.inl rfl);have kad:KZ x td Ha Hd:=(kb.trans kc).trans (.of kd ⟨_,ltc.at_⟩)
 clear md
 generalize putL gN (SE,false,t) gsc=gsd at hwd gd0 gd1 gde;obtain⟨S,na⟩:=ltd.nat S0 (.inl rfl);rw[Bb Pi,A2] at na;refine⟨_,rfl,td,_,rfl,ltd.get (.inl rfl),_,rfl,td,_,rfl,J1.k (k:=Sum.inr SE) ltd.at_ (By (by show 3<1000000;decide)),?_⟩;have lte:=ltd.put (.inr (.inr rfl)) na λa ha z=>ltd.no (.inl rfl) na (z▸ha)
 have hwe:=hwd.dk ltd (.dK (putK (J9 Dc) (.inr SE) (.ref (Dc S0))));have tbe:=R6 tbd ltd.at_ (putK (J9 Dc) (.inr SE) (.ref (Dc S0)));have kae:=kad.upd (.dK (putK (J9 Dc) (.inr SE) (.ref (Dc S0))));generalize upd Hd td (.dK (putK (J9 Dc) (.inr SE) (.ref (Dc S0))))=He at lte hwe tbe kae ⊢;obtain⟨Tm,De,boe⟩:∃Tm De,Both C He x td Tm De [SK] gsd:=⟨_,_,hwe,by rw[Bb TH,Bb Pi,A2];exact gd0,by rw[Bb TJ,A2];exact gd1,by rw[A2];exact gde,lte,λn=>by
  by_cases c1:n=SE
  ·rw[c1,A2];exact tkt
  ·rw[Bb c1]
   by_cases c2:n=S1
   ·rw[c2,A2];exact tk1
   ·rw[Bb c2]
    by_cases c3:n=S0
    ·rw[c3,A2];exact tkt
    ·rw[Bb c3];exact Pf⟩
 have hne:=kae.lst hna;have hSe:=kae.seq hSa
 clear hxc hwb ltb tbb hwc ltc tbc hwd ltd tbd na lte hwe kb kc kd kad hwa lt0 tba s59 hna hSa hn5 hS5 hw5 tb5 k35 k5 hw4 tb4 k4
 try dsimp only[AZ]
 refine Ap λN eN=>?_
 obtain⟨ms,em,lm,_⟩:=Uk ns (some 1) (some 21);refine⟨_,rfl,1,rfl,21,rfl,a,_,rfl,hSe,λpd npd=>?_⟩;rw[em];have sf:=Ae npd (.lst (ms.map V.int));have hpf:(upd He pd (.lst (ms.map V.int))) pd=some (.lst (ms.map V.int)):=Ac;generalize upd He pd (.lst (ms.map V.int))=Hf at sf hpf;have bof:=boe.st (AE sf);have tbf:=tbe.same sf;have hnf:=sf.get hne;refine⟨pd,rfl,⟨_,AV.of hpf⟩,Dj (K:=K) (a:=pd) (xs:=ms.map V.int) (λi σ Hi=>(∃o5 o6 o7 o8,σ=[some (.ref a),some (.int c1),some (.ref nl),some (.ref x),some (.ref td),o5,o6,o7,o8])/\KZ x td Hf Hi/\Tb PT PU Hi/\∃Tm D gs,Both C Hi x td Tm D [SK] gs) ⟨⟨none,none,none,none,rfl⟩,.of (bof.hw.kh (St.refl _)) ⟨_,bof.lt.at_⟩,tbf,Tm,De,gsd,bof⟩ (λi σ Hi _ ⟨_,k,_⟩=>AV.of (k.lst hpf)) ?_ ?_⟩
 ·clear bof boe gd0 gd1 gde
  clear Tm De gsd
  rintro i v σ Hi ei ⟨⟨o5,o6,o7,o8,rfl⟩,kz,tb,Tm,D,gs,bo⟩
  rw[aD] at ei;obtain⟨c,ec,rfl⟩:=aU.mp ei;dsimp only[AU];refine HC λEB eEB=>?_
  refine⟨_,rfl,_,rfl,c,nl,zs,rfl,kz.lst hnf,nms,λdd r H1 ok sm s1 nr hr1=>?_⟩;dsimp only[AU];have bo1:=bo.st (AE s1);have tb1:=tb.same s1;have sm3:dd.sm=S0\/dd.sm=S1\/dd.sm=SE:=sm.imp id .inl;have gsm:(dd.sm,true,Tm dd.sm)∈gs:=by
   rcases sm with e|e
   ·rw[e];exact bo.g0
   ·rw[e];exact bo.g1
  have src:dd.Src gs (Tm dd.src):=by
   cases dd with
   |cp s R nm P=>exact bo.g ok.2.2
   |_=>trivial
  have i1:KY dd.items 1=some (.str dd.sm):=by cases dd<;>rfl
  have kz1:KZ x td Hf H1:=kz.trans (.of (bo.hw.kh (AE s1)) ⟨_,bo.lt.at_⟩);refine Tj λN3 eN3 N2 eN2=>?_
  have no:∀(e:Rf) (p:Addr) (f8:V) (H2:Hp),MY (dd.f (Tm dd.sm) (Tm dd.src))=.inl e->Aw H1 H2->H2 p=some (.tup (e.tx.map V.str))->N3 [some (.ref a),some (.int c1),some (.ref nl),some (.ref x),some (.ref td),some (.int c),some (.ref r),some (.ref p),some f8] H2:=λe p f8 H2 he s2 hp=>by
   subst eN3
   try dsimp only
   refine⟨_,rfl,CH,λp3 np3=>?_⟩;have s3:=Ae np3 (.tup (OK.map V.str));have h3:(upd H2 p3 (.tup (OK.map V.str))) p3=some (.tup (OK.map V.str)):=Ac
   change Et false (.ref p) (.ref p3) (upd H2 p3 (.tup (OK.map V.str))) _
   generalize upd H2 p3 (.tup (OK.map V.str))=H3 at s3 h3 ⊢;have hp3:=s3.get hp;have s13:=s2.trans s3;refine Md false hp3 h3 (WM e) ⟨_,rfl,As rfl ?_⟩
   try dsimp only[AZ]
   have bo3:=bo1.st (AE s13);have tb3:=tb1.same s13;refine⟨_,rfl,_,rfl,x,r,dd,_,_,[SK],gs,rfl,s13.get hr1,ok,bo3.hw,gsm,src,tb3,λe' he' p4 H4 S4 T4 h4=>?_,λt' ht'=>?_⟩
   ·rw[he] at he';cases he';refine⟨_,rfl,Lm true h4 (S4.tup hp3) ⟨_,rfl,As rfl ?_⟩⟩;refine⟨_,rfl,_,rfl,x,td,Tm,D,[SK],gs,rfl,bo3.st S4,T4,λH5 S5 T5=>⟨_,rfl,As rfl ?_⟩⟩;subst eEB;have S35:=S4.trans S5;exact⟨⟨_,_,_,_,rfl⟩,kz1.trans (.of (bo1.hw.kh ((AE s13).trans S35)) ⟨_,bo1.lt.at_⟩),T5,Tm,D,gs,bo3.st S35⟩
   ·rw[he] at ht';cases ht'
  have yes:∀(t':AM) (p d':Addr) (S':Addr->Prop) (H2:Hp),dd.f (Tm dd.sm) (Tm dd.src)=.inr t'->BOk t'->TrV t'->Aw H1 H2->H2 p=some (.tup (OK.map V.str))->NAt H2 (.ref d') (gT t') S'->(∀a,S' a->a≠td)->N3 [some (.ref a),some (.int c1),some (.ref nl),some (.ref x),some (.ref td),some (.int c),some (.ref r),some (.ref p),some (.ref d')] H2:=λt' p d' S' H2 ef bk tv s2 hp na w1=>by
   subst eN3
   try dsimp only
   refine⟨_,rfl,CH,λp3 np3=>?_⟩;have s3:=Ae np3 (.tup (OK.map V.str));have h3:(upd H2 p3 (.tup (OK.map V.str))) p3=some (.tup (OK.map V.str)):=Ac
   change Et false (.ref p) (.ref p3) (upd H2 p3 (.tup (OK.map V.str))) _
   generalize upd H2 p3 (.tup (OK.map V.str))=H3 at s3 h3 ⊢;have hp3:=s3.get hp;have s13:=s2.trans s3;have bo3:=bo1.st (AE s13);have tb3:=tb1.same s13;have hr3:=s13.get hr1;refine Lm false hp3 h3 ⟨_,rfl,AG rfl ?_⟩;refine⟨_,rfl,_,rfl,_,rfl,r,_,_,_,rfl,rfl,AW.of hr3,i1,td,_,rfl,J1.k (k:=Sum.inr dd.sm) bo3.lt.at_ (By (by show 3<1000000;decide)),?_⟩;have lt4:=bo3.lt.put sm3 (na.same s3) w1;have hw4:=bo3.hw.dk bo3.lt (.dK (putK (J9 D) (.inr dd.sm) (.ref d')));have tb4:=R6 tb3 bo3.lt.at_ (putK (J9 D) (.inr dd.sm) (.ref d'));have k34:=(KZ.of (bo3.hw.kh (St.refl _)) ⟨_,bo3.lt.at_⟩:KZ x td H3 H3).upd (.dK (putK (J9 D) (.inr dd.sm) (.ref d')));have hr4:=k34.tup hr3;have hp4:=k34.tup hp3;generalize upd H3 td (.dK (putK (J9 D) (.inr dd.sm) (.ref d')))=H4 at lt4 hw4 tb4 k34 hr4 hp4 ⊢;have eb:MY (dd.f (Tm dd.sm) (Tm dd.src))=.inr t':=by rw[ef];exact ak bk
   try dsimp only[AZ]
   refine⟨_,rfl,_,rfl,x,r,dd,_,_,[SK],gs,rfl,hr4,ok,hw4,gsm,src,tb4,λe' he'=>?_,λt2 ht2 p5 H5 k5 T5 hw5 h5=>?_⟩
   ·rw[eb] at he';cases he'
   ·rw[eb] at ht2;cases ht2;have bo5:Both C H5 x td (Ci Tm dd.sm t') (Ci D dd.sm d') [SK] (setG dd.sm t' gs):=Both.set bo.g0 bo.g1 bo.ge bo.tk sm ⟨tv,bk⟩ hw5 (lt4.keep λb kvs e=>k5.dk e);refine⟨_,rfl,Lm true h5 (k5.tup hp4) ⟨_,rfl,As rfl ?_⟩⟩;refine⟨_,rfl,_,rfl,x,td,_,_,[SK],_,rfl,bo5,T5,λH6 S6 T6=>⟨_,rfl,As rfl ?_⟩⟩;subst eEB;have kz13:=kz1.trans (.of (bo1.hw.kh (AE s13)) ⟨_,bo1.lt.at_⟩);exact⟨⟨_,_,_,_,rfl⟩,((kz13.trans k34).trans (.of k5 ⟨_,lt4.at_⟩)).trans (.of (bo5.hw.kh S6) ⟨_,bo5.lt.at_⟩),T6,_,_,_,bo5.st S6⟩
  have ref:∀(e:Rf) (p:Addr) (f8:V) (H2:Hp),MY (dd.f (Tm dd.sm) (Tm dd.src))=.inl e->Aw H1 H2->H2 p=some (.tup (e.tx.map V.str))->N2 [some (.ref a),some (.int c1),some (.ref nl),some (.ref x),some (.ref td),some (.int c),some (.ref r),some (.ref p),some f8] H2:=λe p f8 H2 he s2 hp=>by
   subst eN2
   try dsimp only
   refine⟨_,rfl,CH,λp3 np3=>?_⟩;have s3:=Ae np3 (.tup (OK.map V.str));have h3:(upd H2 p3 (.tup (OK.map V.str))) p3=some (.tup (OK.map V.str)):=Ac
   change Et false (.ref p) (.ref p3) (upd H2 p3 (.tup (OK.map V.str))) _
   generalize upd H2 p3 (.tup (OK.map V.str))=H3 at s3 h3 ⊢;refine Md false (s3.get hp) h3 (WM e) ⟨_,rfl,As rfl (As rfl ?_)⟩
   try dsimp only[AZ]
   exact no e p f8 H3 he (s2.trans s3) (s3.get hp)
  refine⟨_,rfl,_,rfl,td,r,dd,Tm,D,rfl,hr1,ok,sm,bo1.lt,bo1.tk,λe he p H2 s2 ⟨w,hp,hw⟩=>?_,λt' ht'=>⟨λhl p d' S' H2 s2 na w1 ⟨w,hp,hw⟩=>?_,λhl p H2 s2 ⟨w,hp,hw⟩=>?_⟩⟩
  ·refine⟨p,_,rfl,AW.of hp,rfl,_,_,rfl,_,_,rfl,rfl,?_⟩;exact ref e w _ H2 (by rw[he];rfl) s2 hw
  ·have ft:=Up (bo.tk dd.sm) (bo.tk dd.src) ht';refine⟨p,_,rfl,AW.of hp,rfl,_,_,rfl,_,_,rfl,rfl,?_⟩;subst eN2
   try dsimp only[AU]
   refine⟨_,rfl,CH,λp3 np3=>?_⟩;have s3:=Ae np3 (.tup (OK.map V.str));have h3:(upd H2 p3 (.tup (OK.map V.str))) p3=some (.tup (OK.map V.str)):=Ac
   change Et false (.ref w) (.ref p3) (upd H2 p3 (.tup (OK.map V.str))) _
   generalize upd H2 p3 (.tup (OK.map V.str))=H3 at s3 h3 ⊢;have s13:=s2.trans s3;have na3:=na.same s3;refine Lm false (s3.get hw) h3 ⟨_,rfl,AG rfl ?_⟩;refine⟨_,rfl,d',t',S',rfl,na3,ft.v,λsma H4 s4=>⟨_,rfl,As rfl ?_⟩,λnsm H4 s4=>⟨_,rfl,AG rfl ?_⟩⟩
   ·try dsimp only[AZ]
    exact yes t' w d' S' H4 ht' (Xl sma (ft.ct hl)) ft.v (s13.trans s4) (s4.get (s3.get hw)) (na3.same s4) w1
   ·refine⟨CH,λp5 np5=>?_⟩;have s5:=Ae np5 (.tup (Rf.many.tx.map V.str));exact no .many p5 _ _ (by rw[ht'];exact ai λb=>nsm (Xh b)) ((s13.trans s4).trans s5) Ac
  ·have ft:=Up (bo.tk dd.sm) (bo.tk dd.src) ht';refine⟨p,_,rfl,AW.of hp,rfl,_,_,rfl,_,_,rfl,rfl,?_⟩;exact ref .many w _ H2 (by rw[ht'];exact ai (ft.no hl)) s2 hw
 ·rintro σ Hi ⟨⟨o5,o6,o7,o8,rfl⟩,kz,tb,Tm,D,gs,bo⟩
  subst eN
  try dsimp only[AZ]
  exact⟨_,rfl,_,rfl,x,td,Tm,D,[SK],gs,rfl,bo,tb,λH' _ _=>q H'⟩
theorem all_mk {l:W.OpenLaw} {w:World} {K:W.Frag} {h:Heap} {mg:Str->Option Value} {fa:Addr} (X:K.In h) (G:h.Ns mainGlobals mg) (hfa:mg "law"=some (.ref fa))
  {PT PU C BB B9 KM ID Bp Bn Dx Dw f0 f1 f2 f3 f4 f5 f6 f7 f8 f9 f10 f11 f12 f13 f14 f15 f16 f17 f18 f19 f20 f21 f22 f23 f24 f25 f26 f27 f28 f29 f30 f31 f32 f33 f34 f35 f36 f37 f38 f39 f40 f41 f42 f43 f44 f45 f46 f47 f48 f49 f50 f51 f52 f53 f54 f55 f56 f57 f58 f59 f60 f61 f62 f63 f64 f65 f66 f67 f68 f69 f70:Addr}
  {d0 d1 d2 d3 d4 d5 d6 d7 d8 d9 d10 d11 d12 d13 d14 d15 d16 d17 d18 d19 d20 d21 d22 d23 d24 d25 d26 d27 d28 d29 d30 d31 d32 d33 d34 d35 d36 d37 d38 d39 d40 d41 d42 d43 d44 d45 d46 d47 d48 d49 d50 d51 d52 d53 d54 d55 d56 d57 d58 d59 d60 d61 d62 d63 d64 d65 d66 d67 d68 d69 d70:FuncData}
  (J:NsC K "PlainHouse" C)
  (n_own_head:Gy K C "own_head")
  (x_NoName:R9 K "NoName" BB)
  (x_Twice:R9 K "Twice" B9)
  (x_Bare:R9 K "Bare" KM)
  (x_Grown:R9 K "Grown" ID)
  (x_TooMany:R9 K "TooMany" Bp)
  (x_NoPath:R9 K "NoPath" Bn)
  (x_StemError:R9 K "StemError" Dx)
  (x_OverBound:R9 K "OverBound" Dw)
  (L0:NsF K "is_text" K2 f0 d0)
  (L1:ClF K BB "__init__" "NoName.__init__" F1 f1 d1)
  (L2:ClF K B9 "__init__" "Twice.__init__" Gm f2 d2)
  (L3:ClF K Bn "__init__" "NoPath.__init__" FR f3 d3)
  (L4:NsF K "is_name" KO f4 d4)
  (L5:NsF K "one_called" GW f5 d5)
  (L6:NsF K "keeper_called" EL f6 d6)
  (L7:NsF K "named_so" JA f7 d7)
  (L8:NsF K "stem_called" FT f8 d8)
  (L9:NsF K "check_new_name" Ea f9 d9)
  (L10:NsF K "check_room" Gu f10 d10)
  (L11:NsF K "check_new_stem" D4 f11 d11)
  (L12:NsF K "put_among" HI f12 d12)
  (M12:LmC K d12 PU)
  (L13:NsF K "with_keeper" F2 f13 d13)
  (L14:NsF K "with_named" GJ f14 d14)
  (L15:NsF K "one_older" HQ f15 d15)
  (L16:NsF K "steps_in" Js f16 d16)
  (L17:NsF K "is_beneath" Gv f17 d17)
  (L18:NsF K "path_to" Kt f18 d18)
  (L19:NsF K "folder_of" Ic f19 d19)
  (L20:NsF K "keeper_told" FU f20 d20)
  (L21:NsF K "stem_sealed" FI f21 d21)
  (L22:ClF K C "__init__" "PlainHouse.__init__" DM f22 d22)
  (L23:ClF K C "keeper" "PlainHouse.keeper" Di f23 d23)
  (L24:ClF K C "stem" "PlainHouse.stem" DP f24 d24)
  (L25:ClF K C "take_in" "PlainHouse.take_in" CN f25 d25)
  (L26:ClF K C "folder" "PlainHouse.folder" C8 f26 d26)
  (L27:ClF K C "write" "PlainHouse.write" Ds f27 d27)
  (L28:ClF K C "splice" "PlainHouse.splice" C5 f28 d28)
  (L29:ClF K C "remove" "PlainHouse.remove" Dg f29 d29)
  (L30:ClF K C "move" "PlainHouse.move" DN f30 d30)
  (L31:ClF K C "copy" "PlainHouse.copy" DO f31 d31)
  (L32:ClF K C "seal" "PlainHouse.seal" DI f32 d32)
  (L33:ClF K C "read" "PlainHouse.read" DR f33 d33)
  (L34:ClF K C "paths" "PlainHouse.paths" Dv f34 d34)
  (L35:ClF K C "tree_of" "PlainHouse.tree_of" CS f35 d35)
  (L36:ClF K C "tree_of_stem" "PlainHouse.tree_of_stem" B5 f36 d36)
  (L37:ClF K C "change" "PlainHouse.change" C7 f37 d37)
  (L38:ClF K C "put_tree" "PlainHouse.put_tree" CB f38 d38)
  (L39:NsF K "is_folder" Hx f39 d39)
  (L40:NsF K "content_in" Gn f40 d40)
  (L41:NsF K "check_put" Hz f41 d41)
  (L42:NsF K "check_free" GD f42 d42)
  (L43:NsF K "check_there" FO f43 d43)
  (L44:NsF K "with_paths" Gk f44 d44)
  (L45:NsF K "without_path" Fk f45 d45)
  (L46:NsF K "carried" KC f46 d46)
  (L47:NsF K "check_bounds" Fi f47 d47)
  (L48:NsF K "_law_cell_at" Fu f48 d48)
  (L49:NsF K "_law_row" Jv f49 d49)
  (L50:NsF K "_law_names" G2 f50 d50)
  (L51:NsF K "_law_path" Ir f51 d51)
  (L52:NsF K "_law_text" Iw f52 d52)
  (L53:NsF K "_law_deed" Il f53 d53)
  (L54:NsF K "_law_done" HH f54 d54)
  (L55:NsF K "_law_word" HV f55 d55)
  (L56:NsF K "_law_steps" GH f56 d56)
  (L57:NsF K "_law_at" Ku f57 d57)
  (L58:NsF K "_law_with" Eu f58 d58)
  (L59:NsF K "_law_all" Ft f59 d59)
  (L60:NsF K "_law_small" GR f60 d60)
  (L61:NsF K "_law_new" Ja f61 d61)
  (L62:NsF K "_law_there" GV f62 d62)
  (L63:NsF K "_law_file" Ij f63 d63)
  (L64:NsF K "_law_put" JC f64 d64)
  (L65:NsF K "_law_due" Jy f65 d65)
  (L66:NsF K "_law_is_unread" D9 f66 d66)
  (L67:NsF K "_law_right" GI f67 d67)
  (M67:LmC K d67 PT)
  (L68:NsF K "_law_filled" F3 f68 d68)
  (L69:NsF K "_law_second" FY f69 d69)
  (L70:NsF K "law" Uz f70 d70)
  (q_TooMany:Y8 K Bp)
  (m_NoName_StemError:Sr K BB Dx true)
  (m_Twice_StemError:Sr K B9 Dx true)
  (m_TooMany_StemError:Sr K Bp Dx true)
  (m_NoPath_StemError:Sr K Bn Dx true)
  (m_NoPath_NoPath:Sr K Bn Bn true)
  (m_NoName_NoPath:Sr K BB Bn false)
  (e_TooMany:ExcCls K Bp)
  (y_NoName:NsX K BB "name")
  (y_Twice:NsX K B9 "name")
  (y_NoPath:NsX K Bn "path")
  (k_Twice_NoPath:D0 K B9 Bn false)
  (k_Twice_Twice:D0 K B9 B9 true)
  (k_Twice_TooMany:D0 K B9 Bp false)
  (k_Twice_NoName:D0 K B9 BB false)
  (k_Twice_Bare:D0 K B9 KM false)
  (k_Twice_Grown:D0 K B9 ID false)
  (k_Twice_OverBound:D0 K B9 Dw false)
  (k_TooMany_NoPath:D0 K Bp Bn false)
  (k_TooMany_Twice:D0 K Bp B9 false)
  (k_TooMany_TooMany:D0 K Bp Bp true)
  (k_TooMany_NoName:D0 K Bp BB false)
  (k_TooMany_Bare:D0 K Bp KM false)
  (k_TooMany_Grown:D0 K Bp ID false)
  (k_TooMany_OverBound:D0 K Bp Dw false)
  (k_NoPath_NoPath:D0 K Bn Bn true)
  (k_NoPath_Twice:D0 K Bn B9 false)
  (k_NoPath_TooMany:D0 K Bn Bp false)
  (k_NoPath_NoName:D0 K Bn BB false)
  (k_NoPath_Bare:D0 K Bn KM false)
  (k_NoPath_Grown:D0 K Bn ID false)
  (k_NoPath_OverBound:D0 K Bn Dw false)
  (k_NoName_NoPath:D0 K BB Bn false)
  (k_NoName_Twice:D0 K BB B9 false)
  (k_NoName_TooMany:D0 K BB Bp false)
  (k_NoName_NoName:D0 K BB BB true)
  (k_NoName_Bare:D0 K BB KM false)
  (k_NoName_Grown:D0 K BB ID false)
  (k_NoName_OverBound:D0 K BB Dw false)
  (k_Twice_ValueError:W.kitOne K (.ref B9) (.type "ValueError")=some true)
  (k_TooMany_ValueError:W.kitOne K (.ref Bp) (.type "ValueError")=some true)
  (k_NoPath_ValueError:W.kitOne K (.ref Bn) (.type "ValueError")=some true)
  (k_NoName_ValueError:W.kitOne K (.ref BB) (.type "ValueError")=some true)
  (z_ValueError:Tn K "ValueError")
  (z_all:Tn K "all")
  (z_dict:Tn K "dict")
  (z_int:Tn K "int")
  (z_isinstance:Tn K "isinstance")
  (z_len:Tn K "len")
  (z_list:Tn K "list")
  (z_range:Tn K "range")
  (z_sorted:Tn K "sorted")
  (z_str:Tn K "str")
  (z_tuple:Tn K "tuple")
  (w_SIGNS:Y0 K "SIGNS" " !\"#$&'()*+,-./0123456789:;<=>?@ABCDEFGHIJKLMNOPQRSTUVWXYZ[\\]^_`abcdefghijklmnopqrstuvwxyz{|}~")
  (w_MOST_SIGNS:RV K "MOST_SIGNS" 400)
  (w_FILE_ENTRY:RV K "FILE_ENTRY" 1)
  (w_FOLDER_ENTRY:RV K "FOLDER_ENTRY" 2)
  (w_NAME_SIGNS:Y0 K "NAME_SIGNS" "0123456789abcdefghijklmnopqrstuvwxyz")
  (w_MOST_NAME_SIGNS:RV K "MOST_NAME_SIGNS" 8)
  (w_MOST_ENTRIES:RV K "MOST_ENTRIES" 16)
  (w_STEM:RV K "STEM" 1)
  (w_SEAL:RV K "SEAL" 2)
  (w_MOST_KEEPERS:RV K "MOST_KEEPERS" 8)
  (w_MOST_NAMES:RV K "MOST_NAMES" 24)
  (w_MOST_STEPS:RV K "MOST_STEPS" 8)
  (w_MOST_TREE_ENTRIES:RV K "MOST_TREE_ENTRIES" 60)
  (w_MOST_TREE_DEEP:RV K "MOST_TREE_DEEP" 8) :
  ∃fd:FuncData,(∀(s:Shared) (v:Value),BindsTo s fd ⟨[v],[]⟩ [("_law_script",v)])/\(∀T∈[PT,PU],K.lookup T=none/\∃c,W.codeHdIn K c T=true)/\∀base:Heap,K.In base->base.Ns mainGlobals mg->Qz mg base->FnOk l.prog w K mg base Ef 23 fa fd ["_law_script"] (OR K PT PU):=by
 cases hfa.symm.trans (W.mg_of X G L70.a);refine⟨d70,L70.F.bind1 λ_ _=>rfl,all2 M67.t M12.t,λbase _ _ hBm=>?_⟩;have N:Sees l.prog w K mg base:=.of X G;have T:Txt K mg C (λn=>match n with|0=>BB|1=>B9|2=>KM|3=>ID|4=>Bp|5=>Bn|6=>Dx|7=>Dw|_=>0):=⟨J.c,n_own_head,N.v x_NoName,N.v x_Twice,N.v x_Bare,N.v x_Grown,N.v x_TooMany,N.v x_NoPath,N.v x_StemError,N.v x_OverBound,q_TooMany,m_NoName_StemError,m_Twice_StemError,m_TooMany_StemError,m_NoPath_StemError,m_NoPath_NoPath,m_NoName_NoPath,e_TooMany,y_NoName.c,y_NoName.n,y_Twice.c,y_Twice.n,y_NoPath.c,y_NoPath.n,k_Twice_NoPath,k_Twice_Twice,k_Twice_TooMany,k_Twice_NoName,k_Twice_Bare,k_Twice_Grown,k_Twice_OverBound,k_TooMany_NoPath,k_TooMany_Twice,k_TooMany_TooMany,k_TooMany_NoName,k_TooMany_Bare,k_TooMany_Grown,k_TooMany_OverBound,k_NoPath_NoPath,k_NoPath_Twice,k_NoPath_TooMany,k_NoPath_NoName,k_NoPath_Bare,k_NoPath_Grown,k_NoPath_OverBound,k_NoName_NoPath,k_NoName_Twice,k_NoName_TooMany,k_NoName_NoName,k_NoName_Bare,k_NoName_Grown,k_NoName_OverBound,k_Twice_ValueError,k_TooMany_ValueError,k_NoPath_ValueError,k_NoName_ValueError,N.o z_ValueError,N.o z_all,N.o z_dict,N.o z_int,N.o z_isinstance,N.o z_len,N.o z_list,N.o z_range,N.o z_sorted,N.o z_str,N.o z_tuple,N.s w_SIGNS,N.i w_MOST_SIGNS,N.i w_FILE_ENTRY,N.i w_FOLDER_ENTRY,N.s w_NAME_SIGNS,N.i w_MOST_NAME_SIGNS,N.i w_MOST_ENTRIES,N.i w_STEM,N.i w_SEAL,N.i w_MOST_KEEPERS,N.i w_MOST_NAMES,N.i w_MOST_STEPS,N.i w_MOST_TREE_ENTRIES,N.i w_MOST_TREE_DEEP⟩
 have KB:=L0.dd N (Rt T L0.F) (λ_ _ _ _=>rfl);have AY:=L1.xi N x_NoName y_NoName (Mb T L1.F) (λ_ _ _=>rfl);have CW:=L2.xi N x_Twice y_Twice (Nl T L2.F) (λ_ _ _=>rfl);have AO:=L3.xi N x_NoPath y_NoPath (Mr T L3.F) (λ_ _ _=>rfl);have BU:=L5.dd N (Nc T L5.F) (λ_ _ _=>rfl);have CZ:=L10.de N (Np T L10.F) (λ_ _=>rfl);have DA:=L12.dd N (OI T L12.F ⟨M12.c,hBm⟩) (λ_ _ _=>rfl);have Ca:=L15.dd N (OD T L15.F) (λ_ _=>rfl);have BS:=L17.dd N (M9 T L17.F) (λ_ _ _=>rfl);have KI:=L18.dd N (QT T L18.F) (λ_ _ _=>rfl);have DB:=L19.dd N (Om T L19.F) (λ_ _=>rfl);have DS:=L22.c N J (Jt T L22.F) (λ_ _=>rfl);have Dy:=L39.dd N (Ow T L39.F) (λ_ _ _=>rfl);have Bj:=L44.dd N (Nk T L44.F) (λ_ _ _=>rfl);have Fg:=L48.dd N (Lp T L48.F) (λ_ _ _=>rfl);have Eg:=L49.dd N (Pj T L49.F) (λ_ _ _=>rfl);have Gz:=L50.dd N (Ny T L50.F) (λ_ _ _=>rfl);have FB:=L51.dd N (Ov T L51.F) (λ_ _ _ _=>rfl);have FC:=L52.dd N (Oq T L52.F) (λ_ _ _=>rfl);have AN:=L56.dd N (Nq T L56.F) (λ_ _=>rfl);have Bm:=L57.dd N (Q6 T L57.F) (λ_ _ _=>rfl);have CV:=L4.dd N (Rg T L4.F KB) (λ_ _=>rfl);have F0:=L13.de N (MN (PT:=PT) T L13.F DA) (λ_ _ _ _=>rfl);have C3:=L14.dd N (Nj (PT:=PT) T L14.F DA) (λ_ _ _=>rfl);have Cc:=L45.dd N (Ln T L45.F BS) (λ_ _ _=>rfl);have Fx:=L47.de N (Lo T L47.F DB) (λ_ _=>rfl);have Hw:=L53.dd N (OP T L53.F Eg FB FC) (λ_ _ _=>rfl);have D8:=L61.dd N (Pm T L61.F AN Bm) (λ_ _ _=>rfl);have Cm:=L62.dd N (Na T L62.F AN Bm) (λ_ _ _=>rfl);have EJ:=L6.de N (Kw T L6.F BU AY) (λ_ _ _=>rfl);have Ed:=L7.de N (PD T L7.F BU AY) (λ_ _ _=>rfl);have B1:=L9.de N (JT T L9.F CV AY BU CW) (λ_ _ _=>rfl);have Du:=L16.de N (PM T L16.F AO CV) (λ_ _=>rfl);have FL:=L20.de N (Mp T L20.F Ca CV AY F0) (λ_ _ _ _=>rfl);have Bg:=L38.de N (GK T L38.F Fx Ca C3) (λ_ _ _ _=>rfl);have C1:=L40.de N (M5 T L40.F AO) (λ_ _ _=>rfl);have BH:=L43.de N (LZ T L43.F AO) (λ_ _ _=>rfl);have BG:=L8.de N (LL T L8.F Ed AY) (λ_ _ _=>rfl);have Eb:=L11.de N (JF T L11.F B1 EJ CZ) (λ_ _ _ _=>rfl);have C9:=L23.de N (HR T L23.F FL) (λ_ _ _ _=>rfl);have AX:=L35.de N (Hl T L35.F Ed) (λ_ _ _=>rfl);have Dz:=L41.de N (Oo T L41.F AO Dy Du DB) (λ_ _ _=>rfl);have E8:=L46.dd N (Q7 T L46.F BS Du KI) (λ_ _ _ _=>rfl);have FN:=L21.de N (MI T L21.F BG B1 CZ Ca C3) (λ_ _ _ _=>rfl);have Bo:=L25.de N (Hh T L25.F Eb Bg) (λ_ _ _ _ _=>rfl);have BL:=L33.de N (Jp T L33.F C1 AX) (λ_ _ _ _=>rfl);have Dp:=L34.de N (IH T L34.F AX) (λ_ _ _=>rfl);have Am:=L36.de N (Fy T L36.F BG) (λ_ _ _=>rfl);have AB:=L37.de N (HM T L37.F Bg BG) (λ_ _ _ _=>rfl);have BV:=L42.de N (Nt T L42.F Dz CW) (λ_ _ _=>rfl);have DX:=L24.de N (Jc T L24.F Bo) (λ_ _ _ _=>rfl);have Df:=L26.de N (Hr T L26.F Am BV AB Bj) (λ_ _ _ _=>rfl);have BC:=L27.de N (IJ T L27.F Am Dz Dy AB AO Bj) (λ_ _ _ _ _=>rfl);have Dh:=L29.de N (Iv T L29.F Am BH AB Cc) (λ_ _ _ _=>rfl);have DZ:=L30.de N (Jk T L30.F Am BH BV AB BS AO Bj Cc E8) (λ_ _ _ _ _=>rfl);have DV:=L31.de N (Ji T L31.F Am AX BV AB BH Bj E8) (λ_ _ _ _ _ _=>rfl);have DL:=L32.de N (Jo T L32.F FN) (λ_ _ _ _=>rfl);have C2:=L66.dd N (Kb T L66.F BL) (λ_ _ _ _=>rfl);have C6:=L28.de N (HN T L28.F C1 BC Am) (λ_ _ _ _ _ _ _=>rfl);have DC:=L54.de N (OC T L54.F BC Df Dh C6 DZ DV) (λ_ _ _=>rfl);have HY:=L55.dd N (O2 T L55.F DC) (λ_ _ _=>rfl);have Bu:=L58.dd N (OG T L58.F (N.v L58.a) L58.F.kp (L58.F.bindE (λ_ _ _ _=>rfl))) (λ_ _ _ _=>rfl);have HG:=L63.dd N (O7 T L63.F D8 AN Bm Bu Cm) (λ_ _ _=>rfl);have Fe:=L64.dd N (Pl T L64.F D8 Bu Bm AN) (λ_ _ _ _=>rfl);have D6:=L65.dd N (Qg T L65.F Fe HG Bm Bu Cm AN) (λ_ _ _=>rfl);have FV:=L68.de N (MG T L68.F DC D6) (λ_ _ _ _ _=>rfl);have B2:=L59.dd N (PV T L59.F (N.v L59.a) L59.F.kp (L59.F.bindE (λ_ _ _=>rfl))) (λ_ _ _=>rfl);have GC:=L60.dd N (Nd T L60.F B2) (λ_ _=>rfl);have E6:=L67.dd N (Ni (PU:=PU) T L67.F ⟨M67.c,hBm⟩ Dp B2 C2 BL) (λ_ _ _=>rfl);have FQ:=L69.de N (Mi T L69.F Bo B2) (λ_ _ _ _ _=>rfl);exact Xn T L70.F Fg Gz DS C9 DX FV FQ DL E6 Eg Hw D6 GC HY
theorem walk {l:W.OpenLaw} {q:Program} {loose:List Str} {XP:(Str->Option Value)->Heap->Prop} {YP:World->Heap->Prop} {d:DefRec} {K:Params->W.Frag} {PT:Addr} {PU:Addr} (hn:l.most=some 63) (hdf:d.params.defaults=[]) (ne:PT≠PU)
  (hY:∀(w:World) (h:Heap),YP w h->(K w.params).In h) (hT:∀(w:World) (h:Heap),YP w h->∀T∈[PT,PU],h.get? T=some (W.tabObj #[]))
  (F:∀(w:World) (mg:Str->Option Value) (fa:Addr) (h:Heap),(K w.params).In h->h.Ns mainGlobals mg->mg d.name=some (.ref fa)->
   ∃fd:FuncData,(∀(s:Shared) (u:Value),BindsTo s fd ⟨[u],[]⟩ [("_law_script",u)])/\(∀T∈[PT,PU],(K w.params).lookup T=none/\∃c,W.codeHdIn (K w.params) c T=true)/\∀base:Heap,(K w.params).In base->base.Ns mainGlobals mg->Qz mg base->FnOk l.prog w (K w.params) mg base Ef 23 fa fd ["_law_script"] (OR (K w.params) PT PU)) :
  W.WalkO q loose XP YP l.row.toRowW d [] (λf vs=>PySem.call f vs):=
 L2.Um (n:=63) (k:=23) (x:="_law_script") (CX:=λ_=>Ef) (sp:=λw=>OR (K w.params) PT PU) hn (by decide) hdf ⟨rfl,by decide,by decide⟩ hY hT F (λ_ _ a ns hl hO hS=>⟨a,ns,rfl,hS,hl,.inl (hO.1 _ (by simp)),.inl (hO.1 _ (by simp)),ne,λ_=>rfl⟩) λ_ _ _ _ _ z=>z
end
end K70
def PySem.W.Fast.tw15641715125113993005:Type:=PySem.Expr
theorem PySem.W.Fast.te15641715125113993005:PySem.Expr = PySem.W.Fast.tw15641715125113993005:=rfl
def PySem.W.Fast.tw90343872475197607:Type:=PySem.Params
theorem PySem.W.Fast.te90343872475197607:PySem.Params = PySem.W.Fast.tw90343872475197607:=rfl
open PySem PySem.W PyProof.Rows
set_option maxRecDepth 100000 in
set_option maxHeartbeats 0 in
theorem PySem.Challenge.cw_stemshelf_k70_plain_trees_holds : PySem.Challenge.rw_stemshelf_k70_plain_trees.Holds := by
 w_on;o_law;k_head;(case hw=>w_witness2)
 k_fill
 refine K70.walk (l:=PySem.Challenge.rw_stemshelf_k70_plain_trees) rfl rfl (by decide) (λw h Y=>W.km_in_of Y) (λw h Y=>W.km_tabs_of Y) ?F
 case F=>
  intro w mg fa h KX G hmg;apply K70.all_mk KX G hmg
  all_goals first
   |exact L2.NsF.mk (by delta L2.R9;k_is) (L2.Uy (by k_is) (by k_is) (by k_is))
   |exact L2.ClF.mk (by k_is) (by k_is) (L2.Uy (by k_is) (by k_is) (by k_is))
   |exact L2.NsC.mk (by delta L2.R9;k_is) ⟨by k_is,by k_is,by k_is,by k_is⟩ (by k_is) (by k_is)
   |exact L2.LmC.mk ⟨_,rfl,by kernel_rfl⟩ (by kernel_rfl)
   |exact L2.NsX.mk ⟨⟨by k_is,by k_is,by k_is,by k_is,by k_is,by k_is,by k_is⟩,by k_is,by kernel_rfl,by k_is⟩ (by kernel_rfl) (by k_is) (by k_is)
   |exact L2.ExcCls.mk (by k_is) (by k_is) (by k_is) (by k_is) (by k_is) (by k_is) (by k_is)
   |(delta L2.RV;exact⟨_,by k_is⟩)
   |(delta L2.Y0;exact⟨_,by k_is⟩)
   |(delta L2.Y8;k_exc)
   |(delta L2.Sr;kts_exm)
   |(delta L2.D0;kit_is)
   |kit_is
   |(delta L2.Gy;k_is)
   |(delta L2.R9;k_is)
   |(delta L2.Tn;k_is)
