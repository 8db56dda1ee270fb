import PyProof.Rows.All
import Wide.All
import OpenK.AllK
import Wide.FinOn
import Lean
import PyProof.EqAt
import PyProof.EqKinds
import PyProof.TupleCall
import PySem.Challenge.RW_stemshelf_k64_accounts_read
set_option Elab.async false
set_option linter.all false
set_option maxRecDepth 100000
def aa:=@List.length_map
def ae:=@PySem.wpAny_bind
def af:=@PySem.Heap.get?_push_of_some
def ah:=@List.getElem?_eq_getElem
def ai:=@List.mem_singleton
def aj:=@List.map_map
def ak:=@Nat.le_refl
def ao:=@PySem.wpAny_pure
def aq:=@List.map_append
def ar:=@List.getElem?_eq_some_iff
def au:=@List.length_append
def av:=@List.map_cons
def aw:=@List.getElem?_map
def ax:=@List.mem_map
def ay:=@List.mem_cons_self
def az:=@List.mem_cons_of_mem
def aA:=@Bool.false_ne_true
def aB:=@List.mem_append
def aD:=@List.mem_cons
def aE:=@List.mem_of_getElem?
def aF:=@List.mem_map_of_mem
def aG:=@PySem.Heap.lt_size
def aH:=@if_neg
def aI:=@if_pos
def aJ:=@PySem.Heap.get?_push_size
def aK:=@List.mem_append_right
def aL:=@PySem.F.plainAttrs_list
def aM:=@List.length_cons
def aN:=@List.size_toArray
def aO:=@decide_eq_false
def aP:=@Option.some.inj
def aQ:=@List.length_take
def aR:=@decide_eq_true
def aS:=@Nat.ne_of_lt
def aT:=@PySem.PassesOwn.never
def aU:=@Int.emod_lt_of_pos
def aV:=@Option.map_eq_some_iff
def aW:=@Nat.lt_of_lt_of_le
def aX:=@List.take_add_one
def aY:=@PySem.F.type_list_append
def aZ:=@PySem.F.slot_list_append
def ba:=@Nat.le_trans
def bb:=@List.take_of_length_le
def bc:=@Int.emod_nonneg
def bf:=@List.mem_append_left
def bg:=@Nat.zero_le
def bh:=@of_decide_eq_true
def bj:=@List.pairwise_iff_getElem
def bo:=@PySem.wpAny_mono
def bq:=@Bool.and_eq_true
def br:=@List.append_nil
def bu:=@PySem.wpAny_holding
def bw:=@List.getD_eq_getElem?_getD
def bz:=@List.getElem_mem
def bA:=@List.getElem?_append_left
def bB:=@PySem.sizeLine_eq
def bC:=@PySem.Heap.get?_update_other
def bD:=@List.append_assoc
def bE:=@List.getElem?_of_mem
def bF:=@List.getElem?_append_right
def bG:=@PySem.W.kia_one
def bH:=@PySem.mem_of_lookup
def bI:=@List.length_pos_iff
def bJ:=@List.pairwise_map
def bK:=@List.length_range
def bL:=@PySem.Heap.size_push
def bM:=@Bool.and_eq_true_iff
def bN:=@PySem.F.plainAttrs_str
def bO:=@beq_eq_false_iff_ne
def bP:=@List.map_congr_left
def bQ:=@List.nodup_cons
def bR:=@PySem.wpAny_newObj_type
def bS:=@List.length_singleton
def bT:=@List.length_filter_le
def bU:=@List.take_length
def bV:=@List.find?_eq_none
def bW:=@List.filter_eq_self
def bX:=@PySem.F.plain_max_loop
def bY:=@List.map_nil
def bZ:=@PySem.wpAny_truthy_bool
def cb:=@List.getElem_map
def cf:=@List.all_eq_true
def cg:=@beq_iff_eq
def cj:=@Array.getElem?_toList
def cm:=@PySem.wpAny_Call_Name_kw
def cn:=@Nat.lt_succ_of_lt
def cp:=@Nat.lt_irrefl
def cq:=@PyProof.Rows.slot_tuple_getitem
def cu:=@List.length_drop
def cw:=@PySem.Heap.get?_none_of_le
def cx:=@PySem.Around.under_plainId
def cy:=@List.getElem?_eq_none
def cz:=@decide_eq_true_eq
def cA:=@List.take_sublist
def cB:=@List.ext_getElem?
def cD:=@Bool.eq_false_iff
def cE:=@PySem.wpAny_passesOwn
def cF:=@PySem.codeAny_builtin
def cG:=@List.mem_range
def cH:=@Nat.lt_succ_self
def cI:=@List.mem_of_find?_eq_some
def cJ:=@Array.length_toList
def cK:=@PySem.codeAny_call_builtin
def cL:=@PySem.F.type_list_extend
def cM:=@PySem.F.slot_list_extend
def cN:=@Bool.eq_iff_iff
def cO:=@PySem.W.callWith_K
def cP:=@List.getElem?_take
def cQ:=@Sum.inl.inj
def cR:=@PySem.wpAny_standAt
def cS:=@PySem.plainId_quiet
def cT:=@PySem.Paired.length
def cU:=@Nat.succ.inj
def cV:=@Nat.ne_of_gt
def cW:=@List.take_zero
def cX:=@List.nodup_append
def cY:=@PySem.SeqAt.EqAt.same
def cZ:=@PySem.wpAny_call
def dc:=@PySem.wpAny_getItem_str_slice
def dg:=@PySem.F.type_str_join
def di:=@PySem.F.slot_str_join
def dk:=@List.lookup_cons
def dq:=@List.filter_cons
def du:=@PySem.wpAny_pyIter_list
def dw:=@PySem.codeAny_mono
def dy:=@List.mem_of_mem_take
def dz:=@List.mem_filter
def dA:=@List.length_reverse
def dB:=@List.getElem_of_mem
def dC:=@List.getElem?_range
def dD:=@PySem.Txt.slice_le
def dE:=@Nat.lt_or_gt_of_ne
def dF:=@List.filter_append
def dG:=@Array.getElem?_eq_some_iff
def dH:=@PySem.wpAny_execs_nil
def dI:=@List.drop_eq_getElem_cons
def dJ:=@PySem.F.args_tuple_add_2
def dM:=@List.sum_cons
def dN:=@List.any_cons
def dO:=@PySem.W.KasT.kasWp_bind
def dP:=@PySem.tupleKind_room_in1
def dQ:=@PySem.W.looks_findIn
def dR:=@PySem.F.entry_tuple_add
def dS:=@List.mem_flatMap
def dU:=@Array.toList_inj
def dW:=@PySem.codeAny_handlers_suite_as
def dX:=@PySem.F.slot_tuple_add
def dY:=@Nat.le_of_lt
def dZ:=@Nat.le_of_eq
def d5:=@List.set_set
def d6:=@List.getElem?_set_self
def d7:=@PySem.wpAny_loadPart_at
def d8:=@PySem.wpAny_field
def d9:=@PySem.SeqAt.RcAt.tuples
def ej:=@List.of_mem_zip
def eB:=@List.length_nil
def eC:=@List.find?_some
def eE:=@List.take_append_drop
def eF:=@PySem.wpAny_call_entry
def eI:=@Nat.le_succ
def eJ:=@List.nodup_nil
def eK:=@List.getElem?_set_ne
def eL:=@PySem.W.plainGet_of
def eM:=@PySem.W.hideAll_get
def eN:=@List.take_succ_cons
def eO:=@List.map_eq_nil_iff
def eP:=@List.filterMap_cons
def eQ:=@PySem.post_val_or_str
def eR:=@PySem.codeAny_handlers_test
def eS:=@PySem.W.Looks.here
def eT:=@List.pairwise_cons
def eU:=@List.mem_filterMap
def eV:=@PySem.Heap.get?_update_self
def eW:=@PySem.wpAny_tryCatch
def eX:=@Option.isSome_map
def eY:=@List.find?_append
def eZ:=@List.all_map
def e9:=@PySem.wpAny_handleBy_cons
def fc:=@List.cons_append
def fe:=@PySem.call_meets
def fg:=@PySem.SeqAt.EqAt.str_int
def fh:=@PySem.SeqAt.EqAt.of_refs
def fi:=@PySem.SeqAt.EqAt.int_str
def fj:=@PySem.W.exm_one
def fk:=@List.filter_map
def fq:=@PySem.Code.quiet_builtin
def ft:=@PyProof.Rows.callWith_type1
def fu:=@PySem.wpAny_typeOf
def fz:=@PySem.concat_meets
def fA:=@Nat.max_le
def fB:=@Bool.false_and
def fD:=@Bool.and_false
def fE:=@Array.perm_iff_toList_perm
def fF:=@PyProof.Rows.slicePart_none
def fG:=@PySem.plainObj_wpAny_Assign_Attribute
def fH:=@PySem.wpAny_execs_cons
def fJ:=@PySem.noFill_tuple_add
def fK:=@PySem.SeqAt.RcAt.lists
def fL:=@List.all_cons
def fM:=@PySem.Heap.size_update
def fN:=@PySem.wpAny_letGo
def fO:=@PySem.F.type_list_count
def fP:=@PySem.F.slot_list_count
def fQ:=@PySem.F.plain_list_iadd
def fR:=@List.length_eq_zero_iff
def fS:=@List.flatMap_eq_nil_iff
def fT:=@PySem.W.cellsFrom_some
def fU:=@PySem.F.type_str_index
def fV:=@PySem.F.slot_str_index
def fW:=@PySem.F.entry_max_loop
def fX:=@Nat.zero_add
def fY:=@Nat.sub_self
def fZ:=@Nat.mul_zero
def gb:=@List.map_set
def gc:=@List.length_pos_of_mem
def gd:=@PyProof.Rows.assignInOrder_cons
def gf:=@PySem.W.methodCall_KW
def gh:=@PyProof.Rows.ltCps_eq
def gi:=@List.eq_nil_or_concat
def gj:=@List.concat_eq_append
def gk:=@Array.getElem?_modify
def gp:=@PySem.wpAny_loadPart
def gq:=@PySem.wpAny_load
def gr:=@PySem.typeIs_str
def gu:=@PySem.Walks.list
def gv:=@Sum.inr.inj
def gw:=@PySem.W.hideAll_none
def gx:=@Nat.pow_le_pow_right
def gy:=@Nat.mul_le_mul_right
def gz:=@List.map_id
def gA:=@List.dropLast_concat
def gB:=@PySem.Calls.Name_function_global
def gC:=@PySem.W.findObj_own
def gD:=@List.length_flatMap
def gE:=@List.flatMap_append
def gF:=@PySem.Calls.call_function_entry
def gG:=@Array.toList_append
def gH:=@PySem.wpAny_newList
def gI:=@PySem.wpAny_attempt
def gJ:=@PySem.seq_tuple_add
def gK:=@PySem.evalPart_none
def gL:=@PySem.wpAny_callSpecial?_slot
namespace L2
open PySem PySem.Spec PyProof.Rows
abbrev Key:=Sum Int Str
def KL:Key->Value->Bool
 | .inl k,v=>Value.isInt k v
 | .inr x,v=>Value.isStrOf x v
def Wa (w:World):Key->Int
 | .inl k=>hashInt k
 | .inr x=>hashStr w x
theorem BB:∀{k:Key} {v:Value},KL k v=true->(∃i t,k=Sum.inl i/\v=Value.int i t)\/(∃x t,k=Sum.inr x/\v=Value.str x t)
 | .inl i,v,h=>by
  obtain⟨t,e⟩:=Value.isInt_shape (k:=i) (v:=v) h;exact .inl ⟨i,t,rfl,e⟩
 | .inr x,v,h=>by
  obtain⟨t,e⟩:=Value.isStrOf_shape (x:=x) (v:=v) h;exact .inr ⟨x,t,rfl,e⟩
theorem OU (i:Int)(t:Tok):KL (.inl i) (.int i t)=true:=by simp[KL,Value.isInt]
theorem ON (x:Str)(t:Tok):KL (.inr x) (.str x t)=true:=by simp[KL,Value.isStrOf]
theorem Ub (a b:Int):decide ((Sum.inl a:Key)=Sum.inl b)=(a == b):=by
 by_cases e:a=b
 ·subst e;simp
 ·have h:¬(Sum.inl a:Key)=Sum.inl b:=λq=>e (cQ q)
  rw[aO h];exact(bO.mpr e).symm
theorem Ts (a b:Str):decide ((Sum.inr a:Key)=Sum.inr b)=decide (a=b):=by
 by_cases e:a=b
 ·subst e;simp
 ·have h:¬(Sum.inr a:Key)=Sum.inr b:=λq=>e (gv q)
  rw[aO h,aO e]
theorem Tt (a:Int)(b:Str):decide ((Sum.inl a:Key)=Sum.inr b)=false:=aO (λq=>nomatch q)
theorem TN (a:Str)(b:Int):decide ((Sum.inr a:Key)=Sum.inl b)=false:=aO (λq=>nomatch q)
def Bo (prog:Program)(w:World):PySem.KeyKind prog w Key where
 is:=KL
 hash:=Wa w
 inj:=λv a b ha hb=>by
  rcases BB ha with⟨i,t,rfl,rfl⟩|⟨x,t,rfl,rfl⟩
  ·rcases BB hb with⟨j,u,rfl,e⟩|⟨y,u,rfl,e⟩
   ·injection e with e1 _;rw[e1]
   ·exact nomatch e
  ·rcases BB hb with⟨j,u,rfl,e⟩|⟨y,u,rfl,e⟩
   ·exact nomatch e
   ·injection e with e1 _;rw[e1]
 byValue:=λk v h=>by
  rcases BB h with⟨i,t,rfl,rfl⟩|⟨x,t,rfl,rfl⟩<;>rfl
 pyHash:=λhv h=>by
  rcases BB hv with⟨i,t,rfl,rfl⟩|⟨x,t,rfl,rfl⟩
  ·exact wpAny_pyHash_int h
  ·exact wpAny_pyHash_str h
 eqBool:=λhu hv h=>by
  rcases BB hu with⟨i,t,rfl,rfl⟩|⟨x,t,rfl,rfl⟩
  ·rcases BB hv with⟨j,u,rfl,rfl⟩|⟨y,u,rfl,rfl⟩
   ·rw[Ub] at h;exact wpAny_eqBool_int h
   ·rw[Tt] at h;exact fi i t y u _ _ _ _ h
  ·rcases BB hv with⟨j,u,rfl,rfl⟩|⟨y,u,rfl,rfl⟩
   ·rw[TN] at h;exact fg x t j u _ _ _ _ h
   ·rw[Ts] at h;exact wpAny_eqBool_str h
 «strs»:=λk x t v h=>by
  rcases BB h with⟨i,u,rfl,e⟩|⟨y,u,rfl,e⟩
  ·exact nomatch e
  ·injection e with e1 _
   subst e1;cases v<;>rfl
theorem Mn (prog:Program)(w:World)(i:Int)(t:Tok):(Bo prog w).is (.inl i) (.int i t)=true:=OU i t
theorem L3 (prog:Program)(w:World)(x:Str)(t:Tok):(Bo prog w).is (.inr x) (.str x t)=true:=ON x t
inductive V where
 |non|bl (b:Bool)|int (i:Int)|str (x:Str)|byt (b:Array UInt8)|flt (b:UInt64)|ref (a:Addr)|ty (n:String)
 deriving DecidableEq
def RelV:V->Value->Prop
 | .non,u=>u=Value.none
 | .bl b,u=>u=Value.bool b
 | .int i,u=>∃t,u=Value.int i t
 | .str x,u=>∃t,u=Value.str x t
 | .byt b,u=>∃t,u=Value.bytes b t
 | .flt b,u=>∃t,u=Value.float b t
 | .ref a,u=>u=Value.ref a
 | .ty n,u=>u=Value.type n
abbrev AJ:List V->List Value->Prop:=Paired RelV
theorem AJ.length {xs:List V}{us:List Value}(r:AJ xs us):xs.length=us.length:=cT r
theorem AJ.get:∀{xs:List V} {us:List Value} {i:Nat} {x:V},AJ xs us->xs[i]?=some x->∃u,us[i]?=some u/\RelV x u
 |_,_,_,_,.nil,e=>by simp at e
 |_,_,0,_,.cons r _,e=>by simp at e;subst e;exact⟨_,rfl,r⟩
 |_,_,i+1,x,.cons _ t,e=>by
  obtain⟨u,h1,h2⟩:=AJ.get (i:=i) (x:=x) t (by simpa using e);exact⟨u,by simpa using h1,h2⟩
theorem AJ.set {x:V}{u:Value}(r:RelV x u):∀{xs:List V} {us:List Value} (i:Nat),AJ xs us->AJ (xs.set i x) (us.set i u)
 |_,_,_,.nil=>.nil
 |_,_,0,.cons _ t=>.cons r t
 |_,_,i+1,.cons q t=>.cons q (AJ.set r i t)
theorem AJ.append:∀{xs ys:List V} {us ws:List Value},AJ xs us->AJ ys ws->AJ (xs++ys) (us++ws)
 |_,_,_,_,.nil,s=>s
 |_,_,_,_,.cons r t,s=>.cons r (AJ.append t s)
theorem AJ.take:∀{xs:List V} {us:List Value} (n:Nat),AJ xs us->AJ (xs.take n) (us.take n)
 |_,_,0,_=>.nil
 |_,_,_+1,.nil=>.nil
 |_,_,n+1,.cons r t=>.cons r (AJ.take n t)
theorem AJ.drop:∀{xs:List V} {us:List Value} (n:Nat),AJ xs us->AJ (xs.drop n) (us.drop n)
 |_,_,0,r=>r
 |_,_,_+1,.nil=>.nil
 |_,_,n+1,.cons _ t=>AJ.drop n t
def Fs:Option V->Option Value->Prop
 |some v,some u=>RelV v u
 |none,none=>True
 |_,_=>False
def KV {κ:Type}:List (κ×V)->List (κ×Value)->Prop:=Paired λ(p:κ×V) (q:κ×Value)=>p.1=q.1/\RelV p.2 q.2
def kV:Key->V
 | .inl i=>.int i
 | .inr x=>.str x
inductive HO where
 |lst (xs:List V)
 |tup (xs:List V)
 |dK (kvs:List (Key×V))|dT (kvs:List (List Key×V))
 |set (S:Int->Bool) (n:Nat)
 |ins (C dx:Addr) (fs:List (Str×V))
 |own (x:Addr)
 |xd (fs:List (Str×V))
 |met (f x:Addr)
 |rng (lo hi:Int)
 |frz (o:Obj) (u:HO)
 |tbl (ps:Array Value)
 |ext (φ:Heap->Prop)
abbrev Hp:=Addr->Option HO
def upd (H:Hp)(a:Addr)(o:HO):Hp:=λb=>if b=a then some o else H b
theorem Ad {H:Hp}{a:Addr}{o:HO}:upd H a o a=some o:=by unfold upd;rw[aI rfl]
theorem An {H:Hp}{a b:Addr}{o:HO}(h:b≠a):upd H a o b=H b:=by unfold upd;rw[aH h]
theorem Et {H:Hp}{a b:Addr}{o u:HO}(h:H a=some o)(h':H b=some u)(d:o≠u):a≠b:=by
 intro e;subst e;rw[h] at h';exact d (aP h')
theorem Bm {H:Hp}{a b:Addr}{o:HO}(h:H a=some o)(h':H b=none):a≠b:=by
 intro e;subst e;rw[h] at h';cases h'
def V8:List V->Bool
 |[.int _,_]=>true
 |_=>false
def JO (b:Bool)(h:Heap)(a:Addr)(items:Array Value):Prop:=∃o,h.get? a=some o/\o.cls=.type "tuple"/\∃n,o.data=.seq items n/\(b=false->o.dict=none)
theorem JO.is {b:Bool}{h:Heap}{a:Addr}{items:Array Value}(x:JO b h a items):IsTup h a items:=let⟨o,e,c,n,d,_⟩:=x;⟨o,e,c,n,d⟩
theorem JO.lt {b:Bool}{h:Heap}{a:Addr}{items:Array Value}(x:JO b h a items):a<h.objs.size:=x.is.lt
theorem JO.new {b:Bool}(h:Heap)(items:Array Value):JO b (h.push { cls:=.type "tuple",data:=.seq items }) h.objs.size items:=⟨_,aJ _ rfl,rfl,_,rfl,λ_=>rfl⟩
section
variable (P:Program)(w:World)
def A5 (H:Hp)(h:Heap)(a:Addr):HO->Prop
 | .lst xs=>xs.length<=sizeLine/\∃(its:List Value) (n:Nat),AJ xs its/\h.get? a=some { cls:=.type "list",data:=.seq its.toArray n }
 | .tup xs=>xs.length<=sizeLine/\∃its:List Value,AJ xs its/\JO (V8 xs) h a its.toArray
 | .dK kvs=>kvs.length<=sizeLine/\(a == sysModules)=false/\∃vs,KV kvs vs/\h.DictOf (Bo P w) a vs
 | .dT kvs=>kvs.length<=sizeLine/\(a == sysModules)=false/\∃xs:List (List Key×Addr×Value),
   Paired (λ(p:List Key×V) (q:List Key×Addr×Value)=>p.1=q.1/\H q.2.1=some (.tup (p.1.map kV))/\RelV p.2 q.2.2) kvs xs/\
   ∃o es ep,h.get? a=some o/\o.ExactDict/\o.data=.dict es ep/\es.toList=xs.map (entryOfKey (tupleKind (Bo P w)))/\(xs.map (·.1)).Nodup
 | .set S n=>h.SetOf (intKind P w) a S n
 | .ins C dx fs=>H dx=some (.own a)/\fs.length<=1000/\dx≠a/\h.get? a=some (PySem.W.instObj C dx)/\
   ∃mA,h.Ns1 dx mA/\(∀f,Fs (fs.lookup f) (mA f))/\PySem.Within mA (fs.map (·.1))
 | .own _=>∃o,h.get? a=some o
 | .xd fs=>∃mA,h.Ns1 a mA/\∀f,Fs (fs.lookup f) (mA f)
 | .rng lo hi=>∃t u v,h.get? a=some { cls:=.type "range",data:=.fields #[.int lo t,.int hi u,.int 1 v] }
 | .frz o u=>h.get? a=some o/\A5 H h a u
 | .tbl ps=>h.get? a=some { cls:=.none,data:=.fields ps }
 | .met f x=>h.get? a=some (PySem.W.methodObj (.ref f) (.ref x))
 | .ext φ=>φ h/\(∃o,h.get? a=some o)/\∀h1 h2:Heap,φ h1->(∀o,h1.get? a=some o->h2.get? a=some o)->φ h2
def Gx (H:Hp)(h:Heap):Prop:=∀a o,H a=some o->A5 P w H h a o
end
section
variable {P:Program}{w:World}{H H':Hp}{h h':Heap}{a:Addr}{o:HO}
theorem A5.lt (x:A5 P w H h a o):a<h.objs.size:=by
 cases o with
 |lst xs=>obtain⟨_,_,_,_,e⟩:=x;exact aG e
 |tup xs=>obtain⟨_,_,_,p⟩:=x;exact p.lt
 |dK kvs=>obtain⟨_,_,_,_,o,_,_,e,_⟩:=x;exact aG e
 |dT kvs=>obtain⟨_,_,_,_,o,_,_,e,_⟩:=x;exact aG e
 |set S n=>obtain⟨o,_,_,_,e,_⟩:=x;exact aG e
 |ins C dx fs=>obtain⟨_,_,_,e,_⟩:=x;exact aG e
 |own y=>obtain⟨_,e⟩:=x;exact aG e
 |xd fs=>obtain⟨_,⟨_,_,_,e,_⟩,_⟩:=x;exact aG e
 |rng lo hi=>obtain⟨_,_,_,e⟩:=x;exact aG e
 |frz ob u=>obtain⟨e,_⟩:=x;exact aG e
 |tbl ps=>exact aG (show h.get? a=some _ from x)
 |met f y=>exact aG (show h.get? a=some _ from x)
 |ext φ=>obtain⟨_,⟨_,e⟩,_⟩:=x;exact aG e
theorem Paired.mapP {α β:Type}{F G:α->β->Prop}:∀{l₁:List α} {l₂:List β},Paired F l₁ l₂->(∀a b,F a b->G a b)->Paired G l₁ l₂
 |_,_,.nil,_=>.nil
 |_,_,.cons r t,f=>.cons (f _ _ r) (Paired.mapP t f)
theorem A5.stay (x:A5 P w H h a o) (k:∀b u,(b=a\/H b=some (.own a))->h.get? b=some u->h'.get? b=some u)
  (ho:∀b,H b=some (.own a)->H' b=some (.own a)) (ht:∀b xs,H b=some (.tup xs)->H' b=some (.tup xs)):A5 P w H' h' a o:=by
 induction o with
 |lst xs=>obtain⟨z,its,n,r,e⟩:=x;exact⟨z,its,n,r,k _ _ (.inl rfl) e⟩
 |tup xs=>obtain⟨z,its,r,ob,e,c⟩:=x;exact⟨z,its,r,ob,k _ _ (.inl rfl) e,c⟩
 |dK kvs=>obtain⟨z,y,vs,r,ob,es,ep,e,c⟩:=x;exact⟨z,y,vs,r,ob,es,ep,k _ _ (.inl rfl) e,c⟩
 |dT kvs=>
  obtain⟨z,y,xs,r,ob,es,ep,e,c⟩:=x;exact⟨z,y,xs,Paired.mapP r λp q z=>⟨z.1,ht _ _ z.2.1,z.2.2⟩,ob,es,ep,k _ _ (.inl rfl) e,c⟩
 |set S n=>obtain⟨ob,es,ep,t,e,c⟩:=x;exact⟨ob,es,ep,t,k _ _ (.inl rfl) e,c⟩
 |ins C dx fs=>
  obtain⟨d,z,ne,e,mA,⟨od,es,ep,e2,c⟩,r⟩:=x;exact⟨ho _ d,z,ne,k _ _ (.inl rfl) e,mA,⟨od,es,ep,k _ _ (.inr d) e2,c⟩,r⟩
 |own y=>obtain⟨ob,e⟩:=x;exact⟨ob,k _ _ (.inl rfl) e⟩
 |xd fs=>obtain⟨mA,⟨od,es,ep,e,c⟩,r⟩:=x;exact⟨mA,⟨od,es,ep,k _ _ (.inl rfl) e,c⟩,r⟩
 |rng lo hi=>obtain⟨t,u,v,e⟩:=x;exact⟨t,u,v,k _ _ (.inl rfl) e⟩
 |frz ob u ih=>obtain⟨e,q⟩:=x;exact⟨k _ _ (.inl rfl) e,ih q⟩
 |tbl ps=>
  have e:h.get? a=some { cls:=.none,data:=.fields ps }:=x;show h'.get? a=some { cls:=.none,data:=.fields ps };exact k a _ (.inl rfl) e
 |met f y=>
  have e:h.get? a=some (PySem.W.methodObj (.ref f) (.ref y)):=x;show h'.get? a=some (PySem.W.methodObj (.ref f) (.ref y));exact k a _ (.inl rfl) e
 |ext φ=>obtain⟨p,⟨o,e⟩,st⟩:=x;exact⟨st _ _ p λo q=>k _ _ (.inl rfl) q,⟨o,k _ _ (.inl rfl) e⟩,st⟩
theorem Gx.lt (x:Gx P w H h)(e:H a=some o):a<h.objs.size:=(x a o e).lt
theorem Gx.fresh (x:Gx P w H h)(e:h.objs.size<=a):H a=none:=by
 cases q:H a with
 |none=>rfl
 |some u=>exact absurd (aW (x.lt q) e) (cp _)
theorem Gx.kept (x:Gx P w H h)(k:∀b u,h.get? b=some u->h'.get? b=some u):Gx P w H h':=λa o e=>
 (x a o e).stay (λb u _ q=>k b u q) (λ_ q=>q) λ_ _ q=>q
theorem Gx.laid (x:Gx P w H h)(k:∀b u,h.get? b=some u->h'.get? b=some u)(hp:h.objs.size<=a)(new:A5 P w (upd H a o) h' a o):Gx P w (upd H a o) h':=λb u e=>by
 have hn:=x.fresh hp
 by_cases hb:b=a
 ·subst hb;rw[Ad] at e;cases e;exact new
 ·rw[An hb] at e;exact(x b u e).stay (λc v _ q=>k c v q) (λc q=>by rw[An (Bm q hn)];exact q) λc xs q=>by rw[An (Bm q hn)];exact q
end
def Rd (H:Hp)(a:Addr)(u:HO):Prop:=H a=some u\/∃o,H a=some (.frz o u)
theorem Rd.ok {P:Program}{w:World}{H:Hp}{h:Heap}{a:Addr}{u:HO}(r:Rd H a u)(x:Gx P w H h):A5 P w H h a u:=by
 rcases r with r|⟨o,r⟩
 ·exact x a u r
 ·obtain⟨_,q⟩:=x a _ r;exact q
def Vx:Option HO->Prop
 |some (.lst _)=>True
 |some (.dK _)=>True
 |some (.dT _)=>True
 |some (.set _ _)=>True
 |some (.ins _ _ _)=>True
 |some (.ext _)=>True
 |_=>False
section
variable {P:Program}{w:World}{H:Hp}{h h':Heap}{x e:Addr}{o':HO}
theorem Gx.write (ok:Gx P w H h) (mu:Vx (H x)) (he:e=x\/H e=some (.own x)) (k:∀b u,b≠e->h.get? b=some u->h'.get? b=some u) (heo:∃u,h'.get? e=some u)
  (new:A5 P w (upd H x o') h' x o'):Gx P w (upd H x o') h':=λb u q=>by
 have nown:∀c y,H c=some (.own y)->c≠x:=λc y r z=>by subst z;rw[r] at mu;exact mu
 have ntup:∀c xs,H c=some (.tup xs)->c≠x:=λc xs r z=>by subst z;rw[r] at mu;exact mu
 by_cases hb:b=x
 ·subst hb;rw[Ad] at q;cases q;exact new
 ·rw[An hb] at q
  by_cases hbe:b=e
  ·have q':H b=some (.own x):=by
    rcases he with z|z
    ·exact absurd (hbe.trans z) hb
    ·rw[hbe];exact z
   rw[q] at q';cases q';obtain⟨v,hv⟩:=heo;exact⟨v,by rw[hbe];exact hv⟩
  ·refine(ok b u q).stay (λc v hc r=>k c v ?_ r) (λc r=>by rw[An (nown c b r)];exact r) λc xs r=>by rw[An (ntup c xs r)];exact r
   rcases hc with rfl|hc
   ·exact hbe
   ·rintro rfl
    rcases he with z|z
    ·exact nown c b hc z
    ·rw[hc] at z;cases z;exact hb rfl
end
structure Un (fs ex:List Addr) (H H':Hp) (h h':Heap):Prop where
 keep:∀b o,h.get? b=some o->H b=none->b∉fs->b∉ex->h'.get? b=some o
 slot:∀b o,h.get? b=some o->H b=none->b∈fs->b∉ex->∃sl,h'.get? b=some { o with slots:=sl }
 free:∀b o,h.get? b=some o->H b=none->b∉ex->H' b=none
 there:∀b o,h.get? b=some o->b∉ex->∃o',h'.get? b=some o'
 tups:∀b xs,H b=some (.tup xs)->H' b=some (.tup xs)
 frzs:∀b o u,H b=some (.frz o u)->H' b=some (.frz o u)
 tbls:∀b ps,H b=some (.tbl ps)->∃more,H' b=some (.tbl (ps++more))
section
variable {fs fs' ex ex':List Addr}{H H1 H2:Hp}{h h1 h2 h':Heap}{a x e:Addr}{o:HO}
theorem Un.any (u:Un fs ex H H1 h h1){b:Addr}{ob:Obj}(q:h.get? b=some ob)(n:H b=none)(hx:b∉ex):∃sl,h1.get? b=some { ob with slots:=sl }:=by
 by_cases hb:b∈fs
 ·exact u.slot b ob q n hb hx
 ·exact⟨ob.slots,u.keep b ob q n hb hx⟩
theorem Un.kept (k:∀b u,h.get? b=some u->h'.get? b=some u):Un fs ex H H h h':=
 ⟨λb ob q _ _ _=>k b ob q,λb ob q _ _ _=>⟨ob.slots,k b ob q⟩,λ_ _ _ n _=>n,λb ob q _=>⟨ob,k b ob q⟩,λ_ _ q=>q,λ_ _ _ q=>q,λ_ ps q=>⟨#[],by rw[q];simp⟩⟩
theorem Un.refl:Un fs ex H H h h:=Un.kept λ_ _ q=>q
theorem Un.laid (k:∀b u,h.get? b=some u->h'.get? b=some u)(hp:h.objs.size<=a)(hn:H a=none):Un fs ex H (upd H a o) h h' where
 keep:=λb u q _ _ _=>k b u q
 slot:=λb u q _ _ _=>⟨u.slots,k b u q⟩
 free:=λb u q n _=>by rw[An (aS (aW (aG q) hp))];exact n
 there:=λb u q _=>⟨u,k b u q⟩
 tups:=λb xs q=>by rw[An (Bm q hn)];exact q
 frzs:=λb u xs q=>by rw[An (Bm q hn)];exact q
 tbls:=λb ps q=>⟨#[],by rw[An (Bm q hn),q];simp⟩
theorem Un.write (mu:Vx (H x))(he:e=x\/H e=some (.own x))(k:∀b u,b≠e->h.get? b=some u->h'.get? b=some u)(heo:∃u,h'.get? e=some u):Un fs ex H (upd H x o) h h':=by
 have hx:∀b,H b=none->b≠x:=λb n z=>by subst z;rw[n] at mu;exact mu
 have hb:∀b,H b=none->b≠e:=λb n z=>by
  subst z;rcases he with r|r
  ·exact hx b n r
  ·rw[n] at r;cases r
 have hm:∀b u,H b=some u->¬Vx (some u)->b≠x:=λb u q nm z=>by subst z;rw[q] at mu;exact nm mu
 refine⟨λb u q n _ _=>k b u (hb b n) q,λb u q n _ _=>⟨u.slots,k b u (hb b n) q⟩,λb u q n _=>by rw[An (hx b n)];exact n,λb u q _=>?_,
  λb xs q=>by rw[An (hm b _ q λz=>z)];exact q,λb u xs q=>by rw[An (hm b _ q λz=>z)];exact q,λb ps q=>⟨#[],by rw[An (hm b _ q λz=>z),q];simp⟩⟩
 by_cases hbe:b=e
 ·subst hbe;exact heo
 ·exact⟨u,k b u hbe q⟩
end
def VT (h:Heap)(H:Hp):List Addr:=(List.range h.objs.size).filter λa=>(H a).isSome
def K7 (h:Heap)(H:Hp):Heap:=PySem.W.hideAll h (VT h H)
theorem OF (h:Heap)(H:Hp):(K7 h H).objs.size=h.objs.size:=PySem.W.hideAll_size _ _
theorem QN {h:Heap}{H:Hp}{b:Addr}{o:Obj}(e:h.get? b=some o)(n:H b=none):(K7 h H).get? b=some o:=
 eM _ e λhm=>by
  have q:(H b).isSome=true:=(dz.mp hm).2;rw[n] at q;simp at q
theorem R5 {h:Heap}{H:Hp}{b:Addr}{o:Obj}(e:(K7 h H).get? b=some o):h.get? b=some o/\H b=none:=by
 have e':h.get? b=some o:=PySem.W.of_hideAll (VT h H) e;refine⟨e',?_⟩;cases q:H b with
 |none=>rfl
 |some x=>
  have hm:b∈VT h H:=dz.mpr ⟨cG.mpr (aG e'),by simp[q]⟩;have z:(K7 h H).get? b=none:=gw (VT h H) hm;rw[z] at e;cases e
def Sx (g h:Heap)(L:Addr):List (Addr×Obj):=(List.range h.objs.size).filterMap λa=>if a=L\/(g.get? a).isSome=true then none else(h.get? a).map λo=>(a,o)
def rest (g h:Heap)(L d:Addr):List (Addr×Obj):=(Sx g h L).filter λp=>decide (p.1≠d)
structure Mod (K:PySem.W.Frag) (mg:Str->Option Value) (base:Heap):Prop where
 kin:K.In base
 glob:base.Ns mainGlobals mg
 blt:∃mb,base.Ns builtinsNs mb/\∀x:Str,x≠"__name__"->mb x=bootBuiltins x
 nolimit:base.NoLimit
structure Cx where
 prog:Program
 w:World
 K:PySem.W.Frag
 mg:Str->Option Value
 base:Heap
 A:Around
 N:List Str
 s₀:Shared
 H₀:Hp
 env:Env
 outer:List Env
 stack:List Env
 ex:List Addr
 fn:Str->Bool
 calm:Bool
 pn:List (Addr×Obj)
 xe:Value->Shared->Prop
def Gw (l:List Env):List Addr:=l.filterMap (·.frame)
abbrev Cx.fs (X:Cx):List Addr:=Gw X.outer
def Wx (sc:Scope)(x:Str):Prop:=sc.names.lookup x=some .local\/sc.names.lookup x=some .cell\/sc.names.lookup x=some .free
def Loc (sc:Scope)(x:Str):Prop:=sc.names.lookup x=some .local\/sc.names.lookup x=some .cell
def Look (env:Env)(h:Heap)(m:Str->Option Value)(x:Str)(u:Value):Prop:=
 (env.kindOf x=some .local/\m x=some u)\/((env.kindOf x=some .cell\/env.kindOf x=some .free)/\∃c,env.cells.lookup x=some c/\h.IsCell c (some u))
structure Cx.Ok (X:Cx):Prop where
 mod:Mod X.K X.mg X.base
 kind:X.env.scope.kind=.function
 glob:X.env.globals=mainGlobals
 blt:X.env.builtins=builtinsNs
 above:X.s₀.heap.objs.size<=X.env.locals
 inj:∀x y c,X.env.cells.lookup x=some c->X.env.cells.lookup y=some c->x=y
 has:∀x,(X.env.kindOf x=some .cell\/X.env.kindOf x=some .free)->∃c,X.env.cells.lookup x=some c
 cab:∀x c,X.fn x=true->X.env.cells.lookup x=some c->X.s₀.heap.objs.size<=c
 hd:X.calm=true->X.A.handled=none
 frames:X.A.frames=some X.stack
 stk:X.stack=X.outer\/(X.stack=X.env::X.outer/\X.env.frame=some X.env.locals)
 exf:∀b∈X.ex,b≠X.env.locals/\∀x c,X.env.cells.lookup x=some c->c≠b
 bs:∀b o,X.base.get? b=some o->X.s₀.heap.get? b=some o/\X.H₀ b=none
 bsz:X.base.objs.size<=X.s₀.heap.objs.size
 noex:∀b o,X.base.get? b=some o->b∉X.ex
 exfs:∀b∈X.ex,b∉X.fs
 funs:X.s₀.heap.FunFrames X.base X.outer
 frf:∀b∈X.fs,X.H₀ b=none
structure Inv (X:Cx) (pins:List (Addr×Obj)) (σ:List (Option V)) (H:Hp) (s:Shared):Prop where
 ok:X.Ok
 os:s.os=X.s₀.os
 bare:AllBare s.gens
 base:Un X.fs X.ex X.H₀ H X.s₀.heap s.heap
 loc:∃m,s.heap.Ns X.env.locals m/\∀(i:Nat) (x:Str) (v:V),X.N[i]?=some x->σ[i]?=some (some v)->Wx X.env.scope x->∃u,RelV v u/\Look X.env s.heap m x u
 cell:∀x c,X.env.cells.lookup x=some c->∃v,s.heap.IsCell c v
 free:H X.env.locals=none
 freeC:∀x c,X.env.cells.lookup x=some c->H c=none
 pin:∀p∈X.pn++pins,s.heap.get? p.1=some p.2/\H p.1=none/\p.1≠X.env.locals/\p.1∉X.fs/\∀v,p.2.data≠.cell v
 hok:Gx X.prog X.w H s.heap
 len:σ.length=X.N.length
section
variable {X:Cx}{pins:List (Addr×Obj)}{σ:List (Option V)}{H H':Hp}{s:Shared}{h':Heap}
theorem Cx.Ok.nofr (ok:X.Ok){b:Addr}{o:Obj}(e:X.base.get? b=some o):b∉X.fs:=λhb=>by
 have:=(ok.funs.mem hb).1;rw[e] at this;cases this
theorem Inv.bs (I:Inv X pins σ H s):∀b o,X.base.get? b=some o->s.heap.get? b=some o/\H b=none:=λb o e=>
 ⟨I.base.keep b o (I.ok.bs b o e).1 (I.ok.bs b o e).2 (I.ok.nofr e) (I.ok.noex b o e),I.base.free b o (I.ok.bs b o e).1 (I.ok.bs b o e).2 (I.ok.noex b o e)⟩
theorem Inv.bk (I:Inv X pins σ H s):∀b o,X.base.get? b=some o->s.heap.get? b=some o:=λb o e=>(I.bs b o e).1
theorem Inv.mod (I:Inv X pins σ H s):Mod X.K X.mg X.base:=I.ok.mod
theorem Inv.kIn (I:Inv X pins σ H s):X.K.In s.heap:=I.ok.mod.kin.keeps I.bk
theorem Inv.nolimit (I:Inv X pins σ H s):s.heap.NoLimit:=I.ok.mod.nolimit.keeps I.bk
theorem Inv.lt (I:Inv X pins σ H s):X.env.locals<s.heap.objs.size:=let⟨_,hn,_⟩:=I.loc;hn.lt
theorem Inv.sz (I:Inv X pins σ H s):X.s₀.heap.objs.size<=s.heap.objs.size:=ba I.ok.above (dY I.lt)
theorem Inv.nofs (I:Inv X pins σ H s){a:Addr}(h:s.heap.objs.size<=a):a∉X.fs:=λhb=>by
 obtain⟨_,o,ho,_⟩:=I.ok.funs.mem hb;exact absurd (aW (aG ho) (ba I.sz h)) (cp _)
theorem Inv.cne (I:Inv X pins σ H s):∀x c,X.env.cells.lookup x=some c->c≠X.env.locals:=λx c e z=>by
 obtain⟨v,o,ho,hd⟩:=I.cell x c e;obtain⟨m,⟨o',es,ep,ho',hd',_⟩,_⟩:=I.loc;rw[z,ho'] at ho;cases ho;rw[hd'] at hd;cases hd
theorem Inv.funs (I:Inv X pins σ H s):s.heap.FunFrames X.base X.outer:=by
 have all:∀(l:List Env),(∀b∈Gw l,b∈X.fs)->X.s₀.heap.FunFrames X.base l->s.heap.FunFrames X.base l:=by
  intro l
  induction l with
  |nil=>intro _ _;trivial
  |cons env r ih=>
   intro hs hl;obtain⟨hk,⟨L,o,hf,hn,ho,hd⟩,hr⟩:=hl;have hL:L∈X.fs:=hs L (by unfold Gw;rw[eP,hf];exact ay);obtain⟨sl,e⟩:=I.base.slot L o ho (I.ok.frf L hL) hL λz=>I.ok.exfs L z hL
   exact⟨hk,⟨L,_,hf,hn,e,hd⟩,ih (λb hb=>hs b (by unfold Gw;rw[eP,hf];exact az _ hb)) hr⟩
 exact all X.outer (λ_ hb=>hb) I.ok.funs
theorem Inv.stack (I:Inv X pins σ H s):s.heap.FunFrames X.base X.stack:=by
 rcases I.ok.stk with e|⟨e,hf⟩
 ·rw[e];exact I.funs
 ·rw[e];obtain⟨m,hn,_⟩:=I.loc;refine .cons (by rw[I.ok.kind];decide) hf hn ?_ I.funs;exact cw (ba I.ok.bsz I.ok.above)
theorem Inv.stkSub (I:Inv X pins σ H s):∀b∈Gw X.stack,b∈X.env.locals::X.fs:=λb hb=>by
 rcases I.ok.stk with e|⟨e,hf⟩
 ·rw[e] at hb;exact az _ hb
 ·rw[e] at hb;unfold Gw at hb;rw[eP,hf] at hb;exact hb
theorem Inv.stkFree (I:Inv X pins σ H s):∀b∈Gw X.stack,H b=none:=λb hb=>by
 rcases aD.mp (I.stkSub b hb) with e|hb
 ·rw[e];exact I.free
 ·obtain⟨_,o,ho,_⟩:=I.ok.funs.mem hb;exact I.base.free b o ho (I.ok.frf b hb) λz=>I.ok.exfs b z hb
theorem Inv.step {g':Array GenState} {t':Nat} {d':Drawn} {ch:List Addr} (I:Inv X pins σ H s)
  (hch:∀b∈ch,(b∈X.ex\/X.s₀.heap.objs.size<=b)/\b≠X.env.locals/\(∀x c,X.env.cells.lookup x=some c->c≠b)/\∀p∈X.pn++pins,p.1≠b)
  (keep:∀b o,b≠X.env.locals->b∉X.fs->b∉ch->s.heap.get? b=some o->H b=none->h'.get? b=some o)
  (slot:∀b o,b≠X.env.locals->b∈X.fs->b∉ch->s.heap.get? b=some o->H b=none->∃sl,h'.get? b=some { o with slots:=sl }) (free:∀b o,b∉ch->s.heap.get? b=some o->H b=none->H' b=none)
  (there:∀b o,b∉ch->s.heap.get? b=some o->∃o',h'.get? b=some o')
  (tups:∀b xs,H b=some (.tup xs)->H' b=some (.tup xs)) (frzs:∀b o u,H b=some (.frz o u)->H' b=some (.frz o u)) (tbls:∀b ps,H b=some (.tbl ps)->∃more,H' b=some (.tbl (ps++more)))
  (ns:∀m,s.heap.Ns X.env.locals m->h'.Ns X.env.locals m) (hok:Gx X.prog X.w H' h') (hg:AllBare g') :
  Inv X pins σ H' { s with heap:=h',gens:=g',drawn:=d',toks:=t' }:=by
 have neL:∀b o,X.s₀.heap.get? b=some o->b≠X.env.locals:=λb o e=>aS (aW (aG e) I.ok.above)
 have neC:∀b o,X.s₀.heap.get? b=some o->b∉X.ex->b∉ch:=λb o e hx hb=>by
  rcases(hch b hb).1 with z|z
  ·exact hx z
  ·exact absurd (aW (aG e) z) (cp _)
 have cellK:∀x c,X.env.cells.lookup x=some c->∀v,s.heap.IsCell c v->h'.IsCell c v:=λx c e v ⟨o,ho,hd⟩=>by
  have nch:c∉ch:=λz=>(hch c z).2.2.1 x c e rfl
  by_cases hc:c∈X.fs
  ·obtain⟨sl,q⟩:=slot c o (I.cne x c e) hc nch ho (I.freeC x c e);exact⟨_,q,hd⟩
  ·exact⟨o,keep c o (I.cne x c e) hc nch ho (I.freeC x c e),hd⟩
 refine⟨I.ok,I.os,hg,⟨λb o e n hb hx=>?_,λb o e n hb hx=>?_,λb o e n hx=>?_,λb o e hx=>?_,λb xs e=>tups b xs (I.base.tups b xs e),λb o xs e=>frzs b o xs (I.base.frzs b o xs e),λb ps e=>?_⟩,?_,λx c e=>?_,?_,λx c e=>?_,λp hp=>?_,hok,I.len⟩
 ·exact keep b o (neL b o e) hb (neC b o e hx) (I.base.keep b o e n hb hx) (I.base.free b o e n hx)
 ·obtain⟨sl,e1⟩:=I.base.slot b o e n hb hx;obtain⟨sl',e2⟩:=slot b _ (neL b o e) hb (neC b o e hx) e1 (I.base.free b o e n hx);exact⟨sl',e2⟩
 ·obtain⟨o',e1⟩:=I.base.there b o e hx;exact free b o' (neC b o e hx) e1 (I.base.free b o e n hx)
 ·obtain⟨o',e1⟩:=I.base.there b o e hx;exact there b o' (neC b o e hx) e1
 ·obtain⟨m1,e1⟩:=I.base.tbls b ps e;obtain⟨m2,e2⟩:=tbls b _ e1;exact⟨m1++m2,by rw[e2,Array.append_assoc]⟩
 ·obtain⟨m,hn,hl⟩:=I.loc;refine⟨m,ns m hn,λi x v e1 e2 e3=>?_⟩;obtain⟨u,r,l⟩:=hl i x v e1 e2 e3;refine⟨u,r,?_⟩;rcases l with l|⟨k,c,e,z⟩
  ·exact .inl l
  ·exact .inr ⟨k,c,e,cellK x c e _ z⟩
 ·obtain⟨v,z⟩:=I.cell x c e;exact⟨v,cellK x c e v z⟩
 ·obtain⟨m,⟨o,_,_,ho,_⟩,_⟩:=I.loc;exact free _ o (λz=>(hch _ z).2.1 rfl) ho I.free
 ·obtain⟨v,o,ho,hd⟩:=I.cell x c e;exact free c o (λz=>(hch c z).2.2.1 x c e rfl) ho (I.freeC x c e)
 ·obtain⟨e,n,ne,nf,d⟩:=I.pin p hp;have nch:p.1∉ch:=λz=>(hch p.1 z).2.2.2 p hp rfl
  exact⟨keep p.1 p.2 ne nf nch e n,free p.1 p.2 nch e n,ne,nf,d⟩
theorem Inv.un {t':Nat}(I:Inv X pins σ H s)(u:Un X.fs [] H H' s.heap h')(hok:Gx X.prog X.w H' h'):Inv X pins σ H' { s with heap:=h',toks:=t' }:=by
 obtain⟨m,⟨o,es,ep,ho,r⟩,_⟩:=id I.loc;obtain⟨sl,hL⟩:=u.any ho I.free (by simp);exact I.step (g':=s.gens) (d':=s.drawn) (ch:=[]) (λ_ z=>nomatch z) (λb o _ hb _ e n=>u.keep b o e n hb (by simp)) (λb o _ hb _ e n=>u.slot b o e n hb (by simp)) (λb o _ e n=>u.free b o e n (by simp)) (λb o _ e=>u.there b o e (by simp)) u.tups u.frzs u.tbls (λm' hm=>by
  obtain⟨o',es',ep',ho',r'⟩:=hm;rw[ho] at ho';cases ho';exact⟨_,es',ep',hL,r'⟩) hok I.bare
theorem Inv.call {g':Array GenState} {t':Nat} {d':Drawn} {ch:List Addr} (I:Inv X pins σ H s) (u:Un (Gw X.stack) ch H H' s.heap h') (hok:Gx X.prog X.w H' h') (hg:AllBare g')
  (hch:∀b∈ch,(b∈X.ex\/X.s₀.heap.objs.size<=b)/\b≠X.env.locals/\(∀x c,X.env.cells.lookup x=some c->c≠b)/\∀p∈X.pn++pins,p.1≠b) :
  Inv X pins σ H' { s with heap:=h',gens:=g',drawn:=d',toks:=t' }:=by
 obtain⟨m,⟨o,es,ep,ho,r⟩,_⟩:=id I.loc;obtain⟨sl,hL⟩:=u.any ho I.free λz=>(hch _ z).2.1 rfl
 exact I.step (ch:=ch) hch (λb o hL hb hc e n=>u.keep b o e n (λz=>(aD.mp (I.stkSub b z)).elim hL hb) hc) (λb o _ _ hc e n=>u.any e n hc) (λb o hc e n=>u.free b o e n hc) (λb o hc e=>u.there b o e hc) u.tups u.frzs u.tbls (λm' hm=>by
  obtain⟨o',es',ep',ho',r'⟩:=hm;rw[ho] at ho';cases ho';exact⟨_,es',ep',hL,r'⟩) hok hg
theorem Inv.turned {t':Nat} {it:Addr} (I:Inv X pins σ H s) (k:∀b o,b≠it->s.heap.get? b=some o->h'.get? b=some o) (hn:H it=none) (hL:it≠X.env.locals)
  (h1:it∈X.ex\/X.s₀.heap.objs.size<=it) (h2:∀x c,X.env.cells.lookup x=some c->c≠it) (h3:∀p∈X.pn++pins,p.1≠it):Inv X pins σ H { s with heap:=h',toks:=t' }:=by
 have nit:∀b u,H b=some u->b≠it:=λb u e z=>by rw[z,hn] at e;cases e
 refine I.step (g':=s.gens) (d':=s.drawn) (ch:=[it]) (λb hb=>?_) (λb o _ _ hc e _=>k b o (λz=>hc (by simp[z])) e) (λb o _ _ hc e _=>⟨o.slots,k b o (λz=>hc (by simp[z])) e⟩) (λ_ _ _ _ n=>n)
  (λb o hc e=>⟨o,k b o (λz=>hc (by simp[z])) e⟩) (λ_ _ e=>e) (λ_ _ _ e=>e) (λb ps e=>⟨#[],by rw[e];simp⟩) (λm hm=>?_) (λb u e=>?_) I.bare
 ·have e:b=it:=by simpa using hb
  subst e;exact⟨h1,hL,h2,h3⟩
 ·obtain⟨o,es,ep,ho,r⟩:=hm;exact⟨o,es,ep,k _ o (Ne.symm hL) ho,r⟩
 ·refine(I.hok b u e).stay (λc v hc q=>k c v ?_ q) (λ_ q=>q) λ_ _ q=>q
  rcases hc with z|z
  ·rw[z];exact nit b u e
  ·exact nit c _ z
theorem Inv.tok (I:Inv X pins σ H s)(t:Nat):Inv X pins σ H { s with toks:=t }:=I.un (h':=s.heap) (t':=t) Un.refl I.hok
theorem Inv.kept {t':Nat}(I:Inv X pins σ H s)(k:∀b u,s.heap.get? b=some u->h'.get? b=some u):Inv X pins σ H { s with heap:=h',toks:=t' }:=I.un (Un.kept k) (I.hok.kept k)
theorem Inv.laid {a:Addr}{o:HO}{t':Nat}(I:Inv X pins σ H s)(k:∀b u,s.heap.get? b=some u->h'.get? b=some u)(hp:s.heap.objs.size<=a)(new:A5 X.prog X.w (upd H a o) h' a o) :
  Inv X pins σ (upd H a o) { s with heap:=h',toks:=t' }:=I.un (Un.laid k hp (I.hok.fresh hp)) (I.hok.laid k hp new)
theorem Inv.write {x e:Addr} {o:HO} {t':Nat} (I:Inv X pins σ H s) (mu:Vx (H x)) (he:e=x\/H e=some (.own x)) (k:∀b u,b≠e->s.heap.get? b=some u->h'.get? b=some u) (heo:∃u,h'.get? e=some u)
  (new:A5 X.prog X.w (upd H x o) h' x o):Inv X pins σ (upd H x o) { s with heap:=h',toks:=t' }:=I.un (Un.write mu he k heo) (I.hok.write mu he k heo new)
theorem Inv.pins_of {pins':List (Addr×Obj)}(I:Inv X pins σ H s)(h:∀p∈pins',s.heap.get? p.1=some p.2/\H p.1=none/\p.1≠X.env.locals/\p.1∉X.fs/\∀v,p.2.data≠.cell v):Inv X pins' σ H s:=
 ⟨I.ok,I.os,I.bare,I.base,I.loc,I.cell,I.free,I.freeC,λp hp=>(aB.mp hp).elim (λz=>I.pin p (bf _ z)) (h p),I.hok,I.len⟩
theorem JR {N:List Str}(hN:N.Nodup){i j:Nat}{x:Str}(a:N[i]?=some x)(b:N[j]?=some x):i=j:=by
 obtain⟨h1,e1⟩:=ar.mp a;obtain⟨h2,e2⟩:=ar.mp b;exact(List.getElem_inj hN).mp (e1.trans e2.symm)
theorem O6 {M:Model} {A:Around} {E:Value->Shared->Prop} {i:Nat} {x:Str} {v:V} {u:Value} {Q:Unit->Shared->Prop} (I:Inv X pins σ H s) (hN:X.N.Nodup) (hi:X.N[i]?=some x) (hx:Loc X.env.scope x) (r:RelV v u)
  (h:∀s',Inv X pins (σ.set i (some v)) H s'->(∃a,Heap.SameBut a s.heap s'.heap/\(a=X.env.locals\/X.env.cells.lookup x=some a))->Q () s') (hf:X.fn x=true\/X.env.scope.names.lookup x=some .local:=by first|exact .inl rfl|exact .inr rfl|assumption):wpAny M A (storeName X.env x u) Q E s:=by
 obtain⟨m,hn,hl⟩:=id I.loc;have hcls:(X.env.scope.kind == .class||(X.env.scope.kind == .module&&X.env.locals != X.env.globals))=false:=by rw[I.ok.kind];rfl
 have hiσ:i<σ.length:=by rw[I.len];exact(ar.mp hi).1
 have cne:=I.cne;have tracked:∀{a:Addr} {h':Heap},(∃o,s.heap.get? a=some o/\H a=none)->Heap.SameBut a s.heap h'->Gx X.prog X.w H h':=λ{a h'} ha hs b ob e=>by
  obtain⟨_,_,hfree⟩:=ha;refine(I.hok b ob e).stay (λc w' hc q=>(hs.2 c ?_).trans q) (λ_ q=>q) λ_ _ q=>q
  rintro rfl
  rcases hc with rfl|hc
  ·rw[hfree] at e;cases e
  ·rw[hfree] at hc;cases hc
 rcases hx with hk|hk
 ·refine wpAny_storeName_local hk hn (λh' hn' hs=>?_) hcls;obtain⟨oL,_,_,hoL,_⟩:=id hn;refine h _ ⟨I.ok,I.os,I.bare,⟨λb o e n hb hx=>?_,λb o e n hb hx=>?_,I.base.free,λb o e hx=>?_,I.base.tups,I.base.frzs,I.base.tbls⟩,⟨_,hn',λj y v' e1 e2 e3=>?_⟩,λy c e=>?_,I.free,I.freeC,λp hp=>?_,tracked ⟨oL,hoL,I.free⟩ hs,by simpa using I.len⟩ ⟨_,hs,.inl rfl⟩
  ·exact(hs.2 b (aS (aW (aG e) I.ok.above))).trans (I.base.keep b o e n hb hx)
  ·obtain⟨sl,e1⟩:=I.base.slot b o e n hb hx;exact⟨sl,(hs.2 b (aS (aW (aG e) I.ok.above))).trans e1⟩
  ·obtain⟨o',e1⟩:=I.base.there b o e hx;exact⟨o',(hs.2 b (aS (aW (aG e) I.ok.above))).trans e1⟩
  ·by_cases hj:j=i
   ·subst hj;rw[hi] at e1;cases e1;rw[d6 hiσ] at e2;cases e2;exact⟨u,r,.inl ⟨hk,by simp⟩⟩
   ·rw[eK (Ne.symm hj)] at e2;obtain⟨u',r',q⟩:=hl j y v' e1 e2 e3;refine⟨u',r',?_⟩;rcases q with⟨k,e⟩|⟨k,c,e,z⟩
    ·refine .inl ⟨k,?_⟩;have:y≠x:=λe=>hj (JR hN e1 (e▸hi))
     simp[this,e]
    ·exact .inr ⟨k,c,e,z.sameBut hs (cne y c e)⟩
  ·obtain⟨w',z⟩:=I.cell y c e;exact⟨w',z.sameBut hs (cne y c e)⟩
  ·obtain⟨e,n,ne,nf,d⟩:=I.pin p hp;exact⟨(hs.2 p.1 ne).trans e,n,ne,nf,d⟩
 ·have hfn:X.fn x=true:=by
   rcases hf with z|z
   ·exact z
   ·rw[z] at hk;cases hk
  obtain⟨c,hc⟩:=I.ok.has x (.inl hk);obtain⟨w',z⟩:=I.cell x c hc;refine wpAny_storeName_cell I.ok.kind hk hc z (λh' hc' hs=>?_);obtain⟨oc,hoc,hocd⟩:=id z;refine h { s with heap:=h' } ⟨I.ok,I.os,I.bare,⟨λb o e n hb hx=>?_,λb o e n hb hx=>?_,I.base.free,λb o e hx=>?_,I.base.tups,I.base.frzs,I.base.tbls⟩,⟨m,hn.sameBut hs (Ne.symm (cne x c hc)),λj y v' e1 e2 e3=>?_⟩,λy c' e=>?_,I.free,I.freeC,λp hp=>?_,tracked ⟨oc,hoc,I.freeC x c hc⟩ hs,by simpa using I.len⟩ ⟨c,hs,.inr hc⟩
  ·exact(hs.2 b (aS (aW (aG e) (I.ok.cab x c hfn hc)))).trans (I.base.keep b o e n hb hx)
  ·obtain⟨sl,e1⟩:=I.base.slot b o e n hb hx;exact⟨sl,(hs.2 b (aS (aW (aG e) (I.ok.cab x c hfn hc)))).trans e1⟩
  ·obtain⟨o',e1⟩:=I.base.there b o e hx;exact⟨o',(hs.2 b (aS (aW (aG e) (I.ok.cab x c hfn hc)))).trans e1⟩
  ·by_cases hj:j=i
   ·subst hj;rw[hi] at e1;cases e1;rw[d6 hiσ] at e2;cases e2;exact⟨u,r,.inr ⟨.inl hk,c,hc,hc'⟩⟩
   ·rw[eK (Ne.symm hj)] at e2;obtain⟨u',r',q⟩:=hl j y v' e1 e2 e3;refine⟨u',r',?_⟩;rcases q with q|⟨k,c',e,z'⟩
    ·exact .inl q
    ·refine .inr ⟨k,c',e,z'.sameBut hs ?_⟩
     rintro rfl
     exact hj (JR hN e1 (I.ok.inj _ _ _ e hc▸hi))
  ·by_cases hcc:c'=c
   ·subst hcc;exact⟨_,hc'⟩
   ·obtain⟨w2,z2⟩:=I.cell y c' e;exact⟨w2,z2.sameBut hs hcc⟩
  ·obtain⟨e,n,ne,nf,d⟩:=I.pin p hp;refine⟨(hs.2 p.1 ?_).trans e,n,ne,nf,d⟩;intro q;rw[q,hoc] at e;have q':oc=p.2:=aP e;exact d w' (by rw[<-q'];exact hocd)
theorem DE {M:Model} {A:Around} {E:Value->Shared->Prop} {i:Nat} {x:Str} {v:V} {u:Value} {Q:Unit->Shared->Prop} (I:Inv X pins σ H s) (hN:X.N.Nodup) (hi:X.N[i]?=some x) (hx:Loc X.env.scope x) (r:RelV v u)
  (h:∀s',Inv X pins (σ.set i (some v)) H s'->Q () s') (hf:X.fn x=true\/X.env.scope.names.lookup x=some .local:=by first|exact .inl rfl|exact .inr rfl|assumption):wpAny M A (storeName X.env x u) Q E s:=
 O6 I hN hi hx r (λs' I' _=>h s' I') hf
theorem Inv.call' {s':Shared} {ch:List Addr} (I:Inv X pins σ H s) (ho:s'.os=s.os) (u:Un (Gw X.stack) ch H H' s.heap s'.heap) (hok:Gx X.prog X.w H' s'.heap) (hg:AllBare s'.gens)
  (hch:∀b∈ch,(b∈X.ex\/X.s₀.heap.objs.size<=b)/\b≠X.env.locals/\(∀x c,X.env.cells.lookup x=some c->c≠b)/\∀p∈X.pn++pins,p.1≠b):Inv X pins σ H' s':=by
 obtain⟨h',g',d',t',o'⟩:=s';have e:o'=s.os:=ho;subst e;exact I.call (g':=g') (t':=t') (d':=d') u hok hg hch
end
abbrev XK:=Value->Option Addr->Hp->Prop
abbrev St:=List (Option V)
abbrev VK:=V->Hp->Prop
abbrev TE:=St->Hp->VK->Prop
abbrev TT:=St->Hp->(Bool->Hp->Prop)->Prop
abbrev TA:=St->Hp->(List V->Hp->Prop)->Prop
structure Ends where
 nx:St->Hp->Prop
 rt:VK
 bk:St->Hp->Prop:=λ_ _=>False
 ct:St->Hp->Prop:=λ_ _=>False
abbrev TS:=Ends->St->Hp->Prop
def EP (X:Cx)(pins:List (Addr×Obj))(σ:St)(Q:VK)(u:Value)(s':Shared):Prop:=∃v H',Inv X pins σ H' s'/\RelV v u/\Q v H'
def TP (X:Cx)(pins:List (Addr×Obj))(σ:St)(Q:Bool->Hp->Prop)(b:Bool)(s':Shared):Prop:=∃H',Inv X pins σ H' s'/\Q b H'
def AP (X:Cx)(pins:List (Addr×Obj))(σ:St)(Q:List V->Hp->Prop)(us:List Value)(s':Shared):Prop:=∃vs H',Inv X pins σ H' s'/\AJ vs us/\Q vs H'
def SP (X:Cx)(pins:List (Addr×Obj))(D:Ends)(f:Flow)(s':Shared):Prop:=
 match f with
 | .next=>∃σ' H',Inv X pins σ' H' s'/\D.nx σ' H'
 | .brk=>∃σ' H',Inv X pins σ' H' s'/\D.bk σ' H'
 | .cont=>∃σ' H',Inv X pins σ' H' s'/\D.ct σ' H'
 | .ret u=>∃v σ' H',Inv X pins σ' H' s'/\RelV v u/\D.rt v H'
def PE (X:Cx)(e:Expr)(t:TE):Prop:=
 ∀(pins:List (Addr×Obj)) (s:Shared) (σ:St) (H:Hp) (Q:VK),Inv X pins σ H s->t σ H Q->wpAny (model X.prog X.w) X.A (eval e X.env) (EP X pins σ Q) X.xe s
def PT (X:Cx)(e:Expr)(t:TT):Prop:=
 ∀(pins:List (Addr×Obj)) (s:Shared) (σ:St) (H:Hp) (Q:Bool->Hp->Prop),Inv X pins σ H s->t σ H Q->wpAny (model X.prog X.w) X.A (isTrue e X.env (eval e X.env)) (TP X pins σ Q) X.xe s
def PW (X:Cx)(e:Expr)(t:TT):Prop:=
 ∀(whole:Sem Value) (pins:List (Addr×Obj)) (s:Shared) (σ:St) (H:Hp) (Q:Bool->Hp->Prop),Inv X pins σ H s->t σ H Q->wpAny (model X.prog X.w) X.A (isTrue e X.env whole) (TP X pins σ Q) X.xe s
theorem PW.pt {X:Cx}{e:Expr}{t:TT}(h:PW X e t):PT X e t:=h _
def PA (X:Cx)(es:List Expr)(t:TA):Prop:=
 ∀(pos:Pos) (pins:List (Addr×Obj)) (s:Shared) (σ:St) (H:Hp) (Q:List V->Hp->Prop),Inv X pins σ H s->t σ H Q->wpAny (model X.prog X.w) X.A (spliced (backTo pos (starEach es X.env))) (AP X pins σ Q) X.xe s
def PS (X:Cx)(st:Stmt)(t:TS):Prop:=
 ∀(pins:List (Addr×Obj)) (s:Shared) (σ:St) (H:Hp) (D:Ends),Inv X pins σ H s->t D σ H->wpAny (model X.prog X.w) X.A (exec st X.env) (SP X pins D) X.xe s
def KU (X:Cx)(st:List Stmt)(t:TS):Prop:=
 ∀(pins:List (Addr×Obj)) (s:Shared) (σ:St) (H:Hp) (D:Ends),Inv X pins σ H s->t D σ H->wpAny (model X.prog X.w) X.A (execs st X.env) (SP X pins D) X.xe s
theorem Bz {α:Type}{t:Sem α}{Q Q':α->Shared->Prop}{M:Model}{A:Around}{E:Value->Shared->Prop}{s:Shared}(h:wpAny M A t Q E s)(hQ:∀a s,Q a s->Q' a s):wpAny M A t Q' E s:=bo h hQ λ_ _ x=>x
section
variable {X:Cx}
theorem bin {a b:Expr} {ta tb:TE} (ha:PE X a ta) (hb:PE X b tb) {pins:List (Addr×Obj)} {s:Shared} {σ:St} {H:Hp} {R:V->V->Hp->Prop} (I:Inv X pins σ H s) (h:ta σ H λx H1=>tb σ H1 λy H2=>R x y H2)
  {α:Type} {Q:α->Shared->Prop} {f:Value->Value->Sem α}
  (hf:∀v u s2 x y H2,Inv X pins σ H2 s2->RelV x v->RelV y u->R x y H2->wpAny (model X.prog X.w) X.A (f v u) Q X.xe s2) :
  wpAny (model X.prog X.w) X.A (eval a X.env) (λv s₁=>wpAny (model X.prog X.w) X.A (eval b X.env) (λu s₂=>wpAny (model X.prog X.w) X.A (f v u) Q X.xe s₂) X.xe s₁) X.xe s:=by
 refine Bz (ha pins s σ H _ I h) λv s1 ⟨x,H1,I1,r1,q1⟩=>?_
 refine Bz (hb pins s1 σ H1 _ I1 q1) λu s2 ⟨y,H2,I2,r2,q2⟩=>?_
 exact hf v u s2 x y H2 I2 r1 r2 q2
def O9 (i:Nat):TE:=λσ H Q=>∃v,σ[i]?=some (some v)/\Q v H
def tC (v:V):TE:=λ_ H Q=>Q v H
theorem Uk {i:Nat}{x:Str}{pos:Pos}(hN:X.N[i]?=some x)(hv:Wx X.env.scope x)(hd:(x == ("__debug__":Str))=false:=by decide)(hcd:(x == ("__classdict__":Str))=false:=by decide):PE X (.Name x pos) (O9 i):=by
 intro pins s σ H Q I h;obtain⟨v,e,h⟩:=h;obtain⟨m,hn,hl⟩:=I.loc;obtain⟨u,r,l⟩:=hl i x v hN e hv;have fin:EP X pins σ Q u s:=⟨v,H,I,r,h⟩
 rcases l with⟨hk,hm⟩|⟨hk,c,hc,hcell⟩
 ·exact wpAny_Name (wpAny_loadName_local I.ok.kind hk hn hm fin) hd
 ·rcases hk with hk|hk
  ·exact wpAny_Name (wpAny_loadName_cell I.ok.kind hk hc hcell fin) hd
  ·exact wpAny_Name (wpAny_loadName_free I.ok.kind hk hc hcell fin hcd) hd
theorem Ab {i j pos}:PE X (.Constant (.int i) j pos) (tC (.int i)):=λ_ _ _ H _ I h=>wpAny_Constant_int ⟨.int i,H,I.tok _,⟨_,rfl⟩,h⟩
theorem Dj {b j pos}:PE X (.Constant (.bool b) j pos) (tC (.bl b)):=λ_ _ _ H _ I h=>Constant_bool ⟨.bl b,H,I,rfl,h⟩
theorem LH {j pos}:PE X (.Constant .none j pos) (tC .non):=λ_ _ _ H _ I h=>Constant_none ⟨.non,H,I,rfl,h⟩
theorem A3 {x j pos}:PE X (.Constant (.str x) j pos) (tC (.str x)):=λ_ _ _ H _ I h=>Calls.Constant_str ⟨.str x,H,I.tok _,⟨_,rfl⟩,h⟩
def Gl (X:Cx)(x:Str):Prop:=X.env.kindOf x=some .globalImplicit
theorem Ez {E:Value->Shared->Prop} {pins:List (Addr×Obj)} {s:Shared} {σ:St} {H:Hp} {x:Str} {u:Value} {pos:Pos} {Q:Value->Shared->Prop} (I:Inv X pins σ H s) (hg:Gl X x) (hm:X.mg x=some u) (h:Q u s)
  (hd:(x == ("__debug__":Str))=false:=by decide):wpAny (model X.prog X.w) X.A (eval (.Name x pos) X.env) Q E s:=
 gB I.ok.kind hg (Calls.loadGlobal_global (by rw[I.ok.glob];exact I.mod.glob.keeps I.bk) hm h) hd
theorem JZ {E:Value->Shared->Prop} {pins:List (Addr×Obj)} {s:Shared} {σ:St} {H:Hp} {x:Str} {u:Value} {pos:Pos} {Q:Value->Shared->Prop} (I:Inv X pins σ H s) (hg:Gl X x) (hm:X.mg x=none) (hv:bootBuiltins x=some u) (h:Q u s)
  (hn:x≠"__name__":=by decide) (hd:(x == ("__debug__":Str))=false:=by decide):wpAny (model X.prog X.w) X.A (eval (.Name x pos) X.env) Q E s:=by
 obtain⟨mb,h1,h2⟩:=I.mod.blt;exact gB I.ok.kind hg (Calls.loadGlobal_builtin (by rw[I.ok.glob];exact I.mod.glob.keeps I.bk) hm (by rw[I.ok.blt];exact h1.keeps I.bk) ((h2 x hn).trans hv) h) hd
theorem K6 {x:Str}{v:V}{u:Value}{pos:Pos}(hg:Gl X x)(hm:X.mg x=some u)(r:RelV v u)(hd:(x == ("__debug__":Str))=false:=by decide):PE X (.Name x pos) (tC v):=
 λ_ _ _ H _ I h=>Ez I hg hm ⟨v,H,I,r,h⟩ hd
theorem RW {x:Str}{v:V}{u:Value}{pos:Pos}(hg:Gl X x)(hm:X.mg x=none)(hv:bootBuiltins x=some u)(r:RelV v u)(hn:x≠"__name__":=by decide)(hd:(x == ("__debug__":Str))=false:=by decide):PE X (.Name x pos) (tC v):=
 λ_ _ _ H _ I h=>JZ I hg hm hv ⟨v,H,I,r,h⟩ hn hd
variable {a b:Expr}{ta tb:TE}{pos:Pos}
def PC (X:Cx)(op:CmpOp)(a b:Expr)(t:TE):Prop:=
 ∀(pins:List (Addr×Obj)) (s:Shared) (σ:St) (H:Hp) (Q:VK),Inv X pins σ H s->t σ H Q->
  wpAny (model X.prog X.w) X.A (eval a X.env) (λv s₁=>wpAny (model X.prog X.w) X.A (eval b X.env) (λu s₂=>wpAny (model X.prog X.w) X.A (compareOp op v u) (EP X pins σ Q) X.xe s₂) X.xe s₁) X.xe s
theorem Ef (b:Expr){op:CmpOp}(h:op≠.In)(h2:op≠.NotIn):behindInMarks op b=false:=by
 have e1:(op == CmpOp.In)=false:=by cases op<;>first|rfl|exact absurd rfl h
 have e2:(op == CmpOp.NotIn)=false:=by cases op<;>first|rfl|exact absurd rfl h2
 cases b<;>simp[behindInMarks,e1,e2]
def Wp (ta:TE):TE:=λσ H Q=>ta σ H λx H1=>Q (.bl (decide (x=.non))) H1
def Vm (ta:TE):TE:=λσ H Q=>ta σ H λx H1=>Q (.bl (!decide (x=.non))) H1
theorem RelV.none_iff {x:V}{v:Value}(r:RelV x v):(v == Value.none)=decide (x=.non):=by
 cases x with
 |non=>cases r;rfl
 |bl _=>cases r;rfl
 |int _=>obtain⟨t,rfl⟩:=r;rfl
 |str _=>obtain⟨t,rfl⟩:=r;rfl
 |byt _=>obtain⟨t,rfl⟩:=r;rfl
 |flt _=>obtain⟨t,rfl⟩:=r;rfl
 |ref _=>cases r;rfl
 |ty _=>cases r;rfl
theorem Q9 {j pos'}(ha:PE X a ta):PC X .Is a (.Constant .none j pos') (Wp ta):=by
 intro pins s σ H Q I h;refine Bz (ha pins s σ H _ I h) λv s1 ⟨x,H1,I1,r1,q1⟩=>?_
 exact Constant_none (is_none_gen ⟨.bl _,H1,I1,by rw[r1.none_iff];rfl,q1⟩)
theorem Om {j pos'}(ha:PE X a ta):PC X .IsNot a (.Constant .none j pos') (Vm ta):=by
 intro pins s σ H Q I h;refine Bz (ha pins s σ H _ I h) λv s1 ⟨x,H1,I1,r1,q1⟩=>?_
 exact Constant_none (isnot_none_gen ⟨.bl _,H1,I1,by rw[r1.none_iff];rfl,q1⟩)
def tB (t:TE):TT:=λσ H Q=>t σ H λx H1=>∃c,x=.bl c/\Q c H1
theorem Hz {op:CmpOp}{t:TE}(h:PC X op a b t)(h1:behindInMarks op b=false:=by first|exact Ef _ (by decide) (by decide)|rfl):PT X (.Compare a [op] [b] pos) (tB t):=by
 intro pins s σ H Q I hw;refine wpAny_isTrue_Compare1 (Bz (h pins s σ H _ I hw) λv s1 h1=>Bz h1 λu s2 h2=>Bz h2 λc s3 ⟨x,H1,I1,r1,q1⟩=>?_) h1;obtain⟨d,rfl,q⟩:=q1;cases r1;exact bZ ⟨H1,I1,q⟩
theorem Gh {e:Expr}{t:TE}(h:PE X e t)(he:∀whole,isTrue e X.env whole=(do let v <-whole;standAt e.pos;holding [v] (truthy v)):=by intro _;rfl):PT X e (tB t):=by
 intro pins s σ H Q I hw;refine isTrue_plain (Bz (h pins s σ H _ I hw) λv s1 ⟨x,H1,I1,r1,q1⟩=>?_) (he _);obtain⟨d,rfl,q⟩:=q1;cases r1;exact bZ ⟨H1,I1,q⟩
variable {tA tB':TT}{rest:List Expr}
def Vr (t u:TT):TT:=λσ H Q=>t σ H λc H1=>if c=true then u σ H1 Q else Q false H1
def Wc (t u:TT):TT:=λσ H Q=>t σ H λc H1=>if c=true then Q true H1 else u σ H1 Q
def WA (t:TT):TT:=λσ H Q=>t σ H λc H1=>Q (!c) H1
theorem Hg (ha:PT X a tA):PW X (.BoolOp .And [a] pos) tA:=by
 intro wh pins s σ H Q I h;refine isTrue_and (Bz (ha pins s σ H Q I h) λc s1 e=>?_);cases c with
 |true=>exact isTrue_and_nil e
 |false=>exact e
theorem FS (ha:PT X a tA):PW X (.BoolOp .Or [a] pos) tA:=by
 intro wh pins s σ H Q I h;refine isTrue_or (Bz (ha pins s σ H Q I h) λc s1 e=>?_);cases c with
 |false=>exact isTrue_or_nil e
 |true=>exact e
theorem Im (ha:PT X a tA)(hb:PW X (.BoolOp .And (b::rest) pos) tB'):PW X (.BoolOp .And (a::b::rest) pos) (Vr tA tB'):=by
 intro wh pins s σ H Q I h;refine isTrue_and (Bz (ha pins s σ H _ I h) λc s1 ⟨H1,I1,q1⟩=>?_);cases c with
 |true=>exact hb wh pins s1 σ H1 Q I1 q1
 |false=>exact⟨H1,I1,q1⟩
theorem Hh (ha:PT X a tA)(hb:PW X (.BoolOp .Or (b::rest) pos) tB'):PW X (.BoolOp .Or (a::b::rest) pos) (Wc tA tB'):=by
 intro wh pins s σ H Q I h;refine isTrue_or (Bz (ha pins s σ H _ I h) λc s1 ⟨H1,I1,q1⟩=>?_);cases c with
 |true=>exact⟨H1,I1,q1⟩
 |false=>exact hb wh pins s1 σ H1 Q I1 q1
theorem GH (ha:PT X a tA):PT X (.UnaryOp .Not a pos) (WA tA):=by
 intro pins s σ H Q I h;exact isTrue_not (ha pins s σ H (λc H1=>Q (!c) H1) I h)
def UR (ta tb:TE):TE:=λσ H Q=>ta σ H λx H1=>∃c,x=.bl c/\if c=true then tb σ H1 Q else Q (.bl false) H1
theorem QL {op}{t:TE}(h:PE X a t):PE X (.BoolOp op [a] pos) t:=λpins s σ H Q I hw=>BoolOp_one (h pins s σ H Q I hw)
theorem PL (ha:PE X a ta)(hb:PE X (.BoolOp .And (b::rest) pos) tb):PE X (.BoolOp .And (a::b::rest) pos) (UR ta tb):=by
 intro pins s σ H Q I h;refine BoolOp_and (Bz (ha pins s σ H _ I h) λv s1 ⟨x,H1,I1,r1,q1⟩=>?_);obtain⟨c,rfl,q1⟩:=q1;cases r1;refine bZ ?_;cases c with
 |true=>exact hb pins s1 σ H1 Q I1 q1
 |false=>exact⟨.bl false,H1,I1,rfl,q1⟩
end
def AB (K:PySem.W.Frag)(H:Hp)(a:Addr)(xs:List V):Prop:=
 Rd H a (.lst xs)\/
  ∃(o:Obj) (its:Array Value) (n:Nat),K.lookup a=some o/\o.cls=.type "list"/\o.dict=none/\o.data=.seq its n/\its.size<=sizeLine/\AJ xs its.toList
def AD (K:PySem.W.Frag)(H:Hp)(a:Addr)(xs:List V):Prop:=
 Rd H a (.tup xs)\/
  ∃(o:Obj) (its:Array Value) (n:Nat),K.lookup a=some o/\o.cls=.type "tuple"/\o.data=.seq its n/\its.size<=sizeLine/\AJ xs its.toList
def Wr:Value->Option V
 | .none=>some .non
 | .bool b=>some (.bl b)
 | .int i _=>some (.int i)
 | .str x _=>some (.str x)
 | .bytes b _=>some (.byt b)
 | .float b _=>some (.flt b)
 | .ref a=>some (.ref a)
 | .type n=>some (.ty n)
 |_=>none
theorem RelV.abs {x:V}{u:Value}(r:RelV x u):Wr u=some x:=by
 cases x with
 |non=>cases r;rfl
 |bl _=>cases r;rfl
 |int _=>obtain⟨t,rfl⟩:=r;rfl
 |str _=>obtain⟨t,rfl⟩:=r;rfl
 |byt _=>obtain⟨t,rfl⟩:=r;rfl
 |flt _=>obtain⟨t,rfl⟩:=r;rfl
 |ref _=>cases r;rfl
 |ty _=>cases r;rfl
theorem RelV.inj {x y:V}{u:Value}(r:RelV x u)(q:RelV y u):x=y:=aP (r.abs.symm.trans q.abs)
theorem AJ.inj:∀{xs ys:List V} {us:List Value},AJ xs us->AJ ys us->xs=ys
 |_,_,_,.nil,.nil=>rfl
 |_,_,_,.cons r t,.cons r' t'=>by rw[r.inj r',AJ.inj t t']
section
variable {X:Cx}{pins:List (Addr×Obj)}{σ:St}{H:Hp}{s:Shared}{a:Addr}{xs ys:List V}
theorem AB.of {K:PySem.W.Frag}(h:H a=some (.lst xs)):AB K H a xs:=.inl (.inl h)
theorem AD.of {K:PySem.W.Frag}(h:H a=some (.tup xs)):AD K H a xs:=.inl (.inl h)
theorem Inv.list (I:Inv X pins σ H s)(h:AB X.K H a xs):∃its:List Value,AJ xs its/\PlainL s.heap a its.toArray/\xs.length<=sizeLine:=by
 rcases h with h|⟨o,its,n,hk,hc,hd,hs,hz,r⟩
 ·obtain⟨z,its,n,r,e⟩:=h.ok I.hok;exact⟨its,r,⟨_,n,e,rfl,rfl,rfl⟩,z⟩
 ·refine⟨its.toList,r,⟨o,n,I.kIn a o hk,hc,hd,by simpa using hs⟩,?_⟩;have e:=r.length;simp only[Array.length_toList] at e;omega
theorem Inv.tuple (I:Inv X pins σ H s)(h:AD X.K H a xs):∃its:List Value,AJ xs its/\IsTup s.heap a its.toArray/\xs.length<=sizeLine:=by
 rcases h with h|⟨o,its,n,hk,hc,hs,hz,r⟩
 ·obtain⟨z,its,r,p⟩:=h.ok I.hok;exact⟨its,r,p.is,z⟩
 ·refine⟨its.toList,r,⟨o,I.kIn a o hk,hc,n,by simpa using hs⟩,?_⟩;have e:=r.length;simp only[Array.length_toList] at e;omega
theorem Inv.list_inj (I:Inv X pins σ H s)(h:AB X.K H a xs)(h':AB X.K H a ys):xs=ys:=by
 obtain⟨its,r,⟨o,n,e,_,_,d⟩,_⟩:=I.list h;obtain⟨its',r',⟨o',n',e',_,_,d'⟩,_⟩:=I.list h';rw[e] at e';cases e';rw[d] at d';injection d' with d1 _
 have:its=its':=by simpa using congrArg Array.toList d1
 subst this;exact r.inj r'
theorem Inv.tuple_inj (I:Inv X pins σ H s)(h:AD X.K H a xs)(h':AD X.K H a ys):xs=ys:=by
 obtain⟨its,r,⟨o,e,_,n,d⟩,_⟩:=I.tuple h;obtain⟨its',r',⟨o',e',_,n',d'⟩,_⟩:=I.tuple h';rw[e] at e';cases e';rw[d] at d';injection d' with d1 _
 have:its=its':=by simpa using congrArg Array.toList d1
 subst this;exact r.inj r'
end
abbrev Cx.wish (X:Cx)(E:Value->Shared->Prop):Cx:={ X with xe:=E }
abbrev Cx.nox (X:Cx):Cx:=X.wish λ_ _=>False
theorem Cx.Ok.wish {X:Cx}(ok:X.Ok)(E:Value->Shared->Prop):(X.wish E).Ok:=
 ⟨ok.mod,ok.kind,ok.glob,ok.blt,ok.above,ok.inj,ok.has,ok.cab,ok.hd,ok.frames,ok.stk,ok.exf,ok.bs,ok.bsz,ok.noex,ok.exfs,ok.funs,ok.frf⟩
theorem Cx.Ok.unwish {X:Cx}{E:Value->Shared->Prop}(ok:(X.wish E).Ok):X.Ok:=
 ⟨ok.mod,ok.kind,ok.glob,ok.blt,ok.above,ok.inj,ok.has,ok.cab,ok.hd,ok.frames,ok.stk,ok.exf,ok.bs,ok.bsz,ok.noex,ok.exfs,ok.funs,ok.frf⟩
section
variable {X:Cx}{pins:List (Addr×Obj)}{σ:St}{H:Hp}{s:Shared}{E:Value->Shared->Prop}
theorem Inv.wish (I:Inv X pins σ H s)(E:Value->Shared->Prop):Inv (X.wish E) pins σ H s:=⟨I.ok.wish E,I.os,I.bare,I.base,I.loc,I.cell,I.free,I.freeC,I.pin,I.hok,I.len⟩
theorem Inv.unwish (I:Inv (X.wish E) pins σ H s):Inv X pins σ H s:=⟨I.ok.unwish,I.os,I.bare,I.base,I.loc,I.cell,I.free,I.freeC,I.pin,I.hok,I.len⟩
theorem SP.unwish {D:Ends}{f:Flow}{s':Shared}(h:SP (X.wish E) pins D f s'):SP X pins D f s':=by
 cases f with
 |next=>obtain⟨σ',H',I,q⟩:=h;exact⟨σ',H',I.unwish,q⟩
 |brk=>obtain⟨σ',H',I,q⟩:=h;exact⟨σ',H',I.unwish,q⟩
 |cont=>obtain⟨σ',H',I,q⟩:=h;exact⟨σ',H',I.unwish,q⟩
 |ret u=>obtain⟨v,σ',H',I,r,q⟩:=h;exact⟨v,σ',H',I.unwish,r,q⟩
theorem KU.nox {st:List Stmt}{t:TS}(h:KU X.nox st t):KU X st t:=λpins s σ H D I hw=>
 bo (h pins s σ H D (I.wish _) hw) (λ_ _ q=>q.unwish) λ_ _ z=>False.elim z
end
section
variable {X:Cx}{st:Stmt}{rest:List Stmt}{t u:TS}{e:Expr}{te:TE}{pos:Pos}
def IG:TS:=λD σ H=>D.nx σ H
def Pq (t u:TS):TS:=λD σ H=>t { D with nx:=u D } σ H
theorem AO:KU X [] IG:=λ_ _ σ H _ I h=>dH ⟨σ,H,I,h⟩
theorem Ae (h1:PS X st t)(h2:KU X rest u):KU X (st::rest) (Pq t u):=by
 intro pins s σ H D I h;refine fH (Bz (h1 pins s σ H { D with nx:=u D } I h) λf s1 q=>?_);cases f with
 |next=>
  obtain⟨σ',H',I',q⟩:=q;exact h2 pins s1 σ' H' D I' q
 |ret v=>exact q
 |brk=>exact q
 |cont=>exact q
theorem Ah (h1:PS X st t):KU X [st] t:=by
 intro pins s σ H D I h;refine fH (Bz (h1 pins s σ H D I h) λf s1 q=>?_);cases f with
 |next=>exact dH q
 |ret v=>exact q
 |brk=>exact q
 |cont=>exact q
theorem Inv.quiet {pins:List (Addr×Obj)}{σ:St}{H:Hp}{s:Shared}(I:Inv X pins σ H s):interactive X.env=false:=by simp[interactive,I.ok.kind]
def SV (te:TE):TS:=λD σ H=>te σ H λ_ H1=>D.nx σ H1
theorem BK (he:PE X e te)(hs:swapsWith e none pos.line X.env=pure false:=by rfl):PS X (.Expr e pos) (SV te):=by
 intro pins s σ H D I h;exact wpAny_Expr_any (Bz (he pins s σ H _ I h) λv s1 ⟨x,H1,I1,r1,q1⟩=>⟨σ,H1,I1,q1⟩) I.quiet hs
def Pl (te:TE):TS:=λD σ H=>te σ H D.rt
theorem As (he:PE X e te):PS X (.Return (some e) pos) (Pl te):=by
 intro pins s σ H D I h;exact wpAny_Return_some (Bz (he pins s σ H _ I h) λv s1 ⟨x,H1,I1,r1,q1⟩=>⟨x,σ,H1,I1,r1,q1⟩)
def Pm (c:TT)(t u:TS):TS:=λD σ H=>c σ H λb H1=>if b=true then t D σ H1 else u D σ H1
theorem Bu {c:Expr}{a b:List Stmt}{tc:TT}(hc:PT X c tc)(ha:KU X a t)(hb:KU X b u):PS X (.If c a b pos) (Pm tc t u):=by
 intro pins s σ H D I h;refine wpAny_If (Bz (hc pins s σ H _ I h) λd s1 ⟨H1,I1,q1⟩=>?_);cases d with
 |true=>exact ha pins s1 σ H1 D I1 q1
 |false=>exact hb pins s1 σ H1 D I1 q1
end
abbrev TG:=V->St->Hp->(St->Hp->Prop)->Prop
abbrev SQ:=List V->St->Hp->(St->Hp->Prop)->Prop
def PG (X:Cx)(target:Expr)(t:TG):Prop:=
 ∀(pins:List (Addr×Obj)) (s:Shared) (σ:St) (H:Hp) (v:V) (u:Value) (Q:St->Hp->Prop),Inv X pins σ H s->RelV v u->t v σ H Q->
  wpAny (model X.prog X.w) X.A (assign target X.env u) (λ_ s'=>∃σ' H',Inv X pins σ' H' s'/\Q σ' H') X.xe s
def Vw (X:Cx)(ts:List Expr)(t:SQ):Prop:=
 ∀(pins:List (Addr×Obj)) (s:Shared) (σ:St) (H:Hp) (vs:List V) (us:List Value) (Q:St->Hp->Prop),Inv X pins σ H s->AJ vs us->t vs σ H Q->
  wpAny (model X.prog X.w) X.A (assignInOrder ((assignEach ts X.env).map (·.2)) us) (λ_ s'=>∃σ' H',Inv X pins σ' H' s'/\Q σ' H') X.xe s
abbrev TM:=V->V->V->Hp->(Hp->Prop)->Prop
def U4 (X:Cx)(t:TM):Prop:=
 ∀(pins:List (Addr×Obj)) (s:Shared) (σ:St) (H:Hp) (o i v:V) (ov iv u:Value) (Q:Hp->Prop),Inv X pins σ H s->RelV o ov->RelV i iv->RelV v u->t o i v H Q->
  wpAny (model X.prog X.w) X.A (setItem ov iv u) (λ_ s'=>∃H',Inv X pins σ H' s'/\Q H') X.xe s
section
variable {X:Cx}{pos:Pos}
def Aq (i:Nat):TG:=λv σ H Q=>Q (σ.set i (some v)) H
theorem Ak {i:Nat}{x:Str}(hN:X.N.Nodup)(hi:X.N[i]?=some x)(hx:Loc X.env.scope x)(hf:X.fn x=true\/X.env.scope.names.lookup x=some .local:=by first|exact .inl rfl|exact .inr rfl|assumption):PG X (.Name x pos) (Aq i):=by
 intro pins s σ H v u Q I r h;exact wpAny_assign_Name (DE I hN hi hx r (λs' I'=>⟨_,H,I',h⟩) hf)
def QF:SQ:=λvs σ H Q=>vs=[]/\Q σ H
def FK (t:TG)(u:SQ):SQ:=λvs σ H Q=>∃v r,vs=v::r/\t v σ H λσ' H'=>u r σ' H' Q
theorem BU:Vw X [] QF:=by
 intro pins s σ H vs us Q I r h;obtain⟨e,h⟩:=h;subst e;cases r;exact assignInOrder_nil ⟨σ,H,I,h⟩
theorem Av {e:Expr} {es:List Expr} {t:TG} {u:SQ} (h1:PG X e t) (h2:Vw X es u)
  (hs:(assignEach (e::es) X.env).map (·.2)=assign e X.env::(assignEach es X.env).map (·.2):=by rfl):Vw X (e::es) (FK t u):=by
 intro pins s σ H vs us Q I r h;obtain⟨v,vr,e1,h⟩:=h;subst e1;cases r with
 |cons r rr=>
  rw[hs];refine gd (Bz (h1 pins s σ H _ _ _ I r h) λ_ s1 ⟨σ1,H1,I1,q1⟩=>?_);exact h2 pins s1 σ1 H1 _ _ Q I1 rr q1
def Pi (K:PySem.W.Frag)(n:Nat)(t:SQ):TG:=λv σ H Q=>∃a xs,v=.ref a/\AD K H a xs/\xs.length=n/\t xs σ H Q
theorem D5 {es:List Expr} {k:Nat} {t:SQ} {n:Nat} (hc:X.calm=true) (h:Vw X es t)
  (hn:(assignEach es X.env).length=n:=by rfl) (hst:(assignEach es X.env).findIdx? (·.1)=none:=by rfl):PG X (.Tuple es k pos) (Pi X.K n t):=by
 intro pins s σ H v u Q I r hw;obtain⟨a,xs,e1,hq,hl,hw⟩:=hw;subst e1;cases r;obtain⟨its,rv,ht,hz⟩:=I.tuple hq;refine assign_Tuple_tuple (I.ok.hd hc) ht (by simp[hn,<-hl,rv.length]) hst λh' hx=>?_
 have I1:Inv X pins σ H { s with heap:=h' }:=I.kept (t':=s.toks) λb o e=>hx b o (aS (aG e)) e
 exact h pins _ σ H xs _ Q I1 (by simpa using rv) hw
def WC (to ti:TE)(t:TM):TG:=λv σ H Q=>to σ H λo H1=>ti σ H1 λi H2=>t o i v H2 λH3=>Q σ H3
theorem T9 {o i:Expr} {to ti:TE} {t:TM} (ho:PE X o to) (hi:PE X i ti) (hs:U4 X t)
  (ha:∀v,assign (.Subscript o i pos) X.env v=(do
   let ov <-holding [v] (eval o X.env)
   let iv <-holding [v,ov] (eval i X.env)
   standAt pos
   holding [v,ov,iv] (setItem ov iv v)
   release [v,ov,iv] []):=by intro _;rfl):PG X (.Subscript o i pos) (WC to ti t):=by
 intro pins s σ H v u Q I r h;rw[ha];refine ae (bu (Bz (ho pins s σ H _ I h) λov s1 ⟨x,H1,I1,r1,q1⟩=>?_));refine ae (bu (Bz (hi pins s1 σ H1 _ I1 q1) λiv s2 ⟨y,H2,I2,r2,q2⟩=>?_));refine ae (cR (ae (bu (Bz (hs pins s2 σ H2 x y v ov iv u _ I2 r1 r2 r q2) λ_ s3 ⟨H3,I3,q3⟩=>?_))));exact wpAny_release ⟨σ,H3,I3,q3⟩
def QV (te:TE)(g:TG):TS:=λD σ H=>te σ H λx H1=>g x σ H1 D.nx
theorem Lr {tg e:Expr} {te:TE} {g:TG} (he:PE X e te) (hg:PG X tg g) (hs:swapsWithSole [tg] e pos.line X.env=pure false:=by rfl) (hw:swappedStores [tg] e X.env=pure none:=by rfl)
  (h1:(assignEach [tg] X.env).map (·.2)=[assign tg X.env]:=by rfl):PS X (.Assign [tg] e pos) (QV te g):=by
 intro pins s σ H D I h;refine wpAny_Assign_stores (Bz (he pins s σ H _ I h) λv s1 ⟨x,H1,I1,r1,q1⟩=>?_) hs hw;rw[h1];exact Bz (hg pins s1 σ H1 x v _ I1 r1 q1) λ_ s2 q=>q
theorem Ap {i:Nat}{x:Str}{e:Expr}{te:TE}{pos':Pos}(hN:X.N.Nodup)(hi:X.N[i]?=some x)(hx:Loc X.env.scope x)(he:PE X e te)(hs:swapsWith e (some (.Name x pos')) pos.line X.env=pure false:=by rfl)(hf:X.fn x=true\/X.env.scope.names.lookup x=some .local:=by first|exact .inl rfl|exact .inr rfl|assumption) :
  PS X (.Assign [.Name x pos'] e pos) (QV te (Aq i)):=by
 intro pins s σ H D I h;refine wpAny_Assign_Name (Bz (he pins s σ H _ I h) λv s1 ⟨y,H1,I1,r1,q1⟩=>?_) hs;exact DE I1 hN hi hx r1 (λs2 I2=>⟨_,H1,I2,q1⟩) hf
def Wo (i j:Nat)(ta:TA):TS:=λD σ H=>ta σ H λvs H1=>∃v w,vs=[v,w]/\D.nx ((σ.set i (some v)).set j (some w)) H1
theorem Ui {i j:Nat} {x y:Str} {a b:Expr} {ta:TA} {px py pt:Pos} {kt k2 pt2} (hc:X.calm=true) (hN:X.N.Nodup) (hi:X.N[i]?=some x) (hj:X.N[j]?=some y) (hij:i≠j)
  (hx:X.env.scope.names.lookup x=some .local) (hy:X.env.scope.names.lookup y=some .local) (ha:PA X [a,b] ta)
  (hw:swappedStores [.Tuple [.Name x px,.Name y py] kt pt] (.Tuple [a,b] k2 pt2) X.env=pure (some [x,y]))
  (hs:swapsWithSole [.Tuple [.Name x px,.Name y py] kt pt] (.Tuple [a,b] k2 pt2) pos.line X.env=pure false:=by rfl) :
  PS X (.Assign [.Tuple [.Name x px,.Name y py] kt pt] (.Tuple [a,b] k2 pt2) pos) (Wo i j ta):=by
 intro pins s σ H D I h;rw[exec_Assign_arm];refine ae (cR ?_);rw[hs];refine ae (ao ?_);rw[aH (by decide)];refine ae (Tuple_ (Bz (ha _ pins s σ H _ I h) λus s1 ⟨vs,H1,I1,r1,q1⟩=>?_));obtain⟨v,w,e1,q1⟩:=q1;subst e1;obtain⟨u1,u2,rfl,rv,rw'⟩:∃u1 u2,us=[u1,u2]/\RelV v u1/\RelV w u2:=by
  cases r1 with
  |cons p q=>
   cases q with
   |cons p' q'=>
    cases q';exact⟨_,_,rfl,p,p'⟩
 refine bR ?_ (by show 2<=sizeLine;decide);have I2:Inv X pins σ H1 { s1 with heap:=s1.heap.push { cls:=.type "tuple",data:=.seq [u1,u2].toArray } }:=I1.kept (t':=s1.toks) λb o e=>af _ e
 rw[hw];refine ae (ao ?_);show wpAny (model X.prog X.w) X.A (do rule "assign.swapped-stores";let items <-unpackItems (.ref s1.heap.objs.size) 2 none;assignInOrder [λv=>bindName X.env y v,λv=>bindName X.env x v] items.reverse;pure Flow.next) _ _ _;refine ae (wpAny_rule (ae (unpackItems_tuple (items:=#[u1,u2]) (I.ok.hd hc) (IsTup.new s1.heap _) λh' hx'=>?_)));have I3:=I2.kept (h':=h') (t':=s1.toks) λb o e=>hx' b o (aS (aG e)) e
 show wpAny _ _ (assignInOrder [λv=>bindName X.env y v,λv=>bindName X.env x v] [u2,u1] >>= λ_=>pure Flow.next) _ _ _;refine ae (gd (wpAny_bindName (DE I3 hN hj (.inl hy) rw' (λs2 I4=>?_) (.inr hy))));refine gd (wpAny_bindName (DE I4 hN hi (.inl hx) rv (λs3 I5=>assignInOrder_nil (ao ?_)) (.inr hx)));rw[List.set_comm _ _ (Ne.symm hij)] at I5;exact⟨_,H1,I5,q1⟩
end
section
variable {X:Cx}{pos:Pos}
def LL (c:TT)(tb:TS):TS:=λD σ H=>∃W:Nat->St->Hp->Prop,(∃m,W m σ H)/\∀m σ H,W m σ H->
 c σ H λb H1=>if b=true then ∃N:St->Hp->Prop,(∀σ' H',N σ' H'->∃m',m'<m/\W m' σ' H')/\tb { D with nx:=N,ct:=N,bk:=D.nx } σ H1 else D.nx σ H1
theorem JT {c:Expr}{body:List Stmt}{tc:TT}{tb:TS}(hp:PassesOwn (model X.prog X.w) X.A X.env X.xe)(hc:PT X c tc)(hb:KU X body tb):PS X (.While c body [] pos) (LL tc tb):=by
 intro pins s σ H D I h;obtain⟨W,⟨m0,w0⟩,turn⟩:=h;refine wpAny_While (codeAny_whileLoop (λn s'=>∃σ' H',Inv X pins σ' H' s'/\W n σ' H') ?_ m0 ⟨σ,H,I,w0⟩)
 rintro n s1 ⟨σ1,H1,I1,w1⟩
 refine cE hp (Bz (hc pins s1 σ1 H1 _ I1 (turn n σ1 H1 w1)) λb s2 ⟨H2,I2,q2⟩=>?_);cases b with
 |true=>
  obtain⟨N,hN,q2⟩:=q2;rw[aI rfl];refine cE hp (Bz (hb pins s2 σ1 H2 _ I2 q2) λf s3 q3=>?_);cases f with
  |next=>
   obtain⟨σ3,H3,I3,n3⟩:=q3;obtain⟨m',hm,w3⟩:=hN σ3 H3 n3;exact⟨m',hm,σ3,H3,I3,w3⟩
  |cont=>
   obtain⟨σ3,H3,I3,n3⟩:=q3;obtain⟨m',hm,w3⟩:=hN σ3 H3 n3;exact⟨m',hm,σ3,H3,I3,w3⟩
  |brk=>exact q3
  |ret v=>exact q3
 |false=>
  rw[aH aA];exact dH ⟨σ1,H2,I2,q2⟩
end
structure It where
 go:Nat->Hp->Prop
 yld:Nat->Hp->V->Hp->Prop
 stop:Nat->Hp->Prop
def Kd (X:Cx)(pins:List (Addr×Obj))(H:Hp)(b:Addr):Prop:=
 H b=none/\b≠X.env.locals/\b∉X.fs/\(b∈X.ex\/X.s₀.heap.objs.size<=b)/\(∀x c,X.env.cells.lookup x=some c->c≠b)/\∀p∈X.pn++pins,p.1≠b
theorem Inv.fpOk {X:Cx}{pins:List (Addr×Obj)}{σ:St}{H H':Hp}{s:Shared}{b:Addr}(I:Inv X pins σ H s)(hb:s.heap.objs.size<=b)(hn:H' b=none):Kd X pins H' b:=by
 refine⟨hn,cV (aW I.lt hb),I.nofs hb,.inr (ba I.sz hb),λx c e z=>?_,λp hp z=>?_⟩
 ·obtain⟨v,q⟩:=I.cell x c e;exact absurd (aW q.lt (by rw[z];exact hb)) (cp _)
 ·exact absurd (aW (aG (I.pin p hp).1) (by rw[z];exact hb)) (cp _)
structure Turn (P:Program) (w:World) (K:PySem.W.Frag) (tg:Expr) (J:It) (fp:List Addr) (it:Addr) (tn:Nat->Heap->Prop):Prop where
 mem:it∈fp
 obj:∀i h,tn i h->∀b∈fp,∃o,h.get? b=some o/\∀v,o.data≠.cell v
 keep:∀i h h',tn i h->(∀b∈fp,∀o,h.get? b=some o->h'.get? b=some o)->tn i h'
 item:∀(X:Cx),X.prog=P->X.w=w->X.K=K->X.calm=true->∀(i:Nat) (pins:List (Addr×Obj)) (s:Shared) (σ:St) (H:Hp) (E:Value->Shared->Prop),Inv X pins σ H s->(∀b∈fp,Kd X pins H b)->tn i s.heap->J.go i H->
  wpAny (model P w) X.A (pyNext (.ref it)) (λr s1=>∃u,r=some u/\
   wpAny (model P w) X.A (letOwnedTupleGo tg (.ref it) u) (λ_ s2=>∃x H',Inv X pins σ H' s2/\RelV x u/\J.yld i H x H'/\tn (i+1) s2.heap/\∀b∈fp,H' b=none) E s1) E s
 done:∀(X:Cx),X.prog=P->X.w=w->X.K=K->X.calm=true->∀(i:Nat) (pins:List (Addr×Obj)) (s:Shared) (σ:St) (H:Hp) (E:Value->Shared->Prop),Inv X pins σ H s->(∀b∈fp,Kd X pins H b)->tn i s.heap->J.stop i H->
  wpAny (model P w) X.A (pyNext (.ref it)) (λr s1=>r=none/\Inv X pins σ H s1) E s
 self:∀(A:Around) (i:Nat) (s:Shared) (Q:Value->Shared->Prop) (E:Value->Shared->Prop),tn i s.heap->Q (.ref it) s->wpAny (model P w) A (pyIter (.ref it)) Q E s
abbrev TI:=St->Hp->(It->Hp->Prop)->Prop
def WH (X:Cx)(pins:List (Addr×Obj))(σ:St)(tg:Expr)(R:It->Hp->Prop)(itv:Value)(s2:Shared):Prop:=
 ∃(it:Addr) (fp:List Addr) (tn:Nat->Heap->Prop) (J:It) (H':Hp),itv=.ref it/\Inv X pins σ H' s2/\Turn X.prog X.w X.K tg J fp it tn/\tn 0 s2.heap/\(∀b∈fp,Kd X pins H' b)/\R J H'
def PI (X:Cx)(tg iter:Expr)(wi:TI):Prop:=
 ∀(pins:List (Addr×Obj)) (s:Shared) (σ:St) (H:Hp) (R:It->Hp->Prop),Inv X pins σ H s->wi σ H R->
  wpAny (model X.prog X.w) X.A (eval iter X.env) (λv s1=>wpAny (model X.prog X.w) X.A (pyIter v) (WH X pins σ tg R) X.xe s1) X.xe s
theorem KD {M:Model} {A:Around} {E:Value->Shared->Prop} {s:Shared} {tg:Expr} {it:Addr} {u:Value} {o:Obj} {n:String} {vs:Array Value} {Q:Unit->Shared->Prop} (ho:s.heap.get? it=some o) (hc:o.cls=.type n) (hd:o.data=.fields vs)
  (hn:["enumerate","zip","dict_itemiterator","dict_reverseitemiterator","odict_iterator","itertools.zip_longest","itertools.pairwise"].contains n=false) (hQ:Q () s):wpAny M A (letOwnedTupleGo tg (.ref it) u) Q E s:=by
 unfold letOwnedTupleGo;cases tg<;>first
  |exact ao hQ
  |(cases u<;>first
    |exact ao hQ
    |(refine ae (gq ho ?_)
      rw[hc,hd];show wpAny M A (if(["enumerate","zip","dict_itemiterator","dict_reverseitemiterator","odict_iterator","itertools.zip_longest","itertools.pairwise"].contains n&&vs[0]? == some (rawInt _))=true then _ else _) Q E s;rw[aH (by intro h;rw[hn,fB] at h;cases h)];exact ao hQ))
def UF (K:PySem.W.Frag)(a:Addr):It:=
 ⟨λi H=>∃xs x,AB K H a xs/\xs[i]?=some x,λi H x H'=>H'=H/\∀xs,AB K H a xs->xs[i]?=some x,λi H=>∃xs,AB K H a xs/\xs.length<=i⟩
def UO (K:PySem.W.Frag)(a:Addr):It:=
 ⟨λi H=>∃xs x,AD K H a xs/\xs[i]?=some x,λi H x H'=>H'=H/\∀xs,AD K H a xs->xs[i]?=some x,λi H=>∃xs,AD K H a xs/\xs.length<=i⟩
def Rr (lo:Int)(n:Nat):It:=⟨λi _=>i<n,λi H x H'=>H'=H/\x=.int (lo+i),λi _=>n<=i⟩
theorem OO {P:Program}{w:World}{K:PySem.W.Frag}{tg:Expr}(a it:Addr):Turn P w K tg (UF K a) [it] it (λi h=>h.IsListIter it a i) where
 mem:=by simp
 obj:=λi h st b hb=>by
  have e:b=it:=by simpa using hb
  subst e;obtain⟨o,e,c,d⟩:=st;exact⟨o,e,λv z=>by rw[d] at z;cases z⟩
 keep:=λi h h' st k=>st.at λo e=>k it (by simp) o e
 item:=by
  intro X hP hw hK hc i pins s σ H E I hf st hg;subst hP hw hK;obtain⟨xs,x,hq,hx⟩:=hg;obtain⟨its,rv,p,hz⟩:=I.list hq;obtain⟨u,hu,ru⟩:=rv.get hx;obtain⟨f0,f1,f2,f3,f4,f5⟩:=hf it (by simp);refine wpAny_pyNext_list_item st p.isList (x:=u) (by simpa using hu) λh' st' sb=>?_
  have I1:Inv X pins σ H { s with heap:=h' }:=I.turned (t':=s.toks) (λb o hb e=>(sb.2 b hb).trans e) f0 f1 f3 f4 f5;obtain⟨o,e,c,d⟩:=id st';exact⟨u,rfl,KD (s:={ s with heap:=h' }) e c d (by decide) ⟨x,H,I1,ru,⟨rfl,λys hy=>by rw[I.list_inj hy hq];exact hx⟩,st',λb hb=>(hf b hb).1⟩⟩
 done:=by
  intro X hP hw hK hc i pins s σ H E I hf st hg;subst hP hw hK;obtain⟨xs,hq,hx⟩:=hg;obtain⟨its,rv,p,hz⟩:=I.list hq;obtain⟨f0,f1,f2,f3,f4,f5⟩:=hf it (by simp);have hl:=rv.length;exact wpAny_pyNext_list_end (I.ok.hd hc) st p.isList (by simp;omega) λh' eb=>⟨rfl,I.turned (t':=s.toks) (λb o hb e=>eb b o hb e) f0 f1 f3 f4 f5⟩
 self:=λ_ _ _ _ _ st h=>wpAny_pyIter_listiter st h
theorem MU {P:Program}{w:World}{K:PySem.W.Frag}{tg:Expr}(a it:Addr):Turn P w K tg (UO K a) [it] it (λi h=>h.IsTupleIter it a i) where
 mem:=by simp
 obj:=λi h st b hb=>by
  have e:b=it:=by simpa using hb
  subst e;obtain⟨o,e,c,d⟩:=st;exact⟨o,e,λv z=>by rw[d] at z;cases z⟩
 keep:=λi h h' st k=>st.at λo e=>k it (by simp) o e
 item:=by
  intro X hP hw hK hc i pins s σ H E I hf st hg;subst hP hw hK;obtain⟨xs,x,hq,hx⟩:=hg;obtain⟨its,rv,p,hz⟩:=I.tuple hq;obtain⟨u,hu,ru⟩:=rv.get hx;obtain⟨f0,f1,f2,f3,f4,f5⟩:=hf it (by simp);refine wpAny_pyNext_tuple_item st (show s.heap.IsTuple a its.toArray from p) (x:=u) (by simpa using hu) λh' st' sb=>?_
  have I1:Inv X pins σ H { s with heap:=h' }:=I.turned (t':=s.toks) (λb o hb e=>(sb.2 b hb).trans e) f0 f1 f3 f4 f5;obtain⟨o,e,c,d⟩:=id st';exact⟨u,rfl,KD (s:={ s with heap:=h' }) e c d (by decide) ⟨x,H,I1,ru,⟨rfl,λys hy=>by rw[I.tuple_inj hy hq];exact hx⟩,st',λb hb=>(hf b hb).1⟩⟩
 done:=by
  intro X hP hw hK hc i pins s σ H E I hf st hg;subst hP hw hK;obtain⟨xs,hq,hx⟩:=hg;obtain⟨its,rv,p,hz⟩:=I.tuple hq;obtain⟨f0,f1,f2,f3,f4,f5⟩:=hf it (by simp);have hl:=rv.length;exact wpAny_pyNext_tuple_end (I.ok.hd hc) st (show s.heap.IsTuple a its.toArray from p) (by simp;omega) λh' eb=>⟨rfl,I.turned (t':=s.toks) (λb o hb e=>eb b o hb e) f0 f1 f3 f4 f5⟩
 self:=λ_ _ _ _ _ st h=>wpAny_pyIter_tupleiter st h
theorem M0 {P:Program}{w:World}{K:PySem.W.Frag}{tg:Expr}(it:Addr)(lo:Int)(n:Nat):Turn P w K tg (Rr lo n) [it] it (λi h=>IsRangeIter h it (lo+(i:Nat)*1) ((n:Int)-(i:Nat)) 1) where
 mem:=by simp
 obj:=λi h st b hb=>by
  have e:b=it:=by simpa using hb
  subst e;exact⟨_,st,λv z=>by
   have z':Data.fields _=Data.cell v:=z;cases z'⟩
 keep:=λi h h' st k=>k it (by simp) _ st
 item:=by
  intro X hP hw hK hc i pins s σ H E I hf st hg;subst hP hw hK;obtain⟨f0,f1,f2,f3,f4,f5⟩:=hf it (by simp);have W:=Walks.range (prog:=X.prog) (w:=X.w) (I.ok.hd hc) it lo 1 n;refine W.item i s _ _ hg st λv h' tk hv st' kk=>?_
  obtain⟨t,rfl⟩:=hv;have I1:Inv X pins σ H { s with heap:=h',toks:=tk }:=I.turned (λb o hb e=>kk b o (by simpa using hb) e) f0 f1 f3 f4 f5;refine⟨_,rfl,KD (s:={ s with heap:=h',toks:=tk }) (n:="range_iterator") st' rfl rfl (by decide) ⟨.int (lo+i),H,I1,⟨t,?_⟩,⟨rfl,rfl⟩,st',λb hb=>(hf b hb).1⟩⟩;rw[Int.mul_one]
 done:=by
  intro X hP hw hK hc i pins s σ H E I hf st hg;subst hP hw hK;obtain⟨f0,f1,f2,f3,f4,f5⟩:=hf it (by simp);exact wpAny_pyNext_range_end (I.ok.hd hc) st (by have:n<=i:=hg;omega) λh' eb=>⟨rfl,I.turned (t':=s.toks) (λb o hb e=>eb b o hb e) f0 f1 f3 f4 f5⟩
 self:=λ_ _ _ _ _ st h=>wpAny_pyIter_rangeiter st h
section
variable {X:Cx}{tg:Expr}
def Vj (K:PySem.W.Frag)(tl:TE):TI:=λσ H R=>tl σ H λx H1=>∃a,x=.ref a/\(∃xs,AB K H1 a xs)/\R (UF K a) H1
def Wy (K:PySem.W.Frag)(tl:TE):TI:=λσ H R=>tl σ H λx H1=>∃a,x=.ref a/\(∃xs,AD K H1 a xs)/\R (UO K a) H1
theorem BA {l:Expr}{tl:TE}(hl:PE X l tl):PI X tg l (Vj X.K tl):=by
 intro pins s σ H R I h;refine Bz (hl pins s σ H _ I h) λv s1 ⟨x,H1,I1,r1,q1⟩=>?_
 obtain⟨a,e,⟨xs,hq⟩,q⟩:=q1;subst e;cases r1;obtain⟨its,rv,p,hz⟩:=I1.list hq;refine du p.isList ?_;refine⟨s1.heap.objs.size,[s1.heap.objs.size],_,_,H1,rfl,I1.kept (t':=s1.toks) λb o e=>af _ e,OO a _,⟨_,aJ _ rfl,rfl,rfl⟩,λb hb=>?_,q⟩;have e:b=s1.heap.objs.size:=by simpa using hb
 subst e;exact I1.fpOk (ak _) (I1.hok.fresh (ak _))
theorem B9 {l:Expr}{tl:TE}(hl:PE X l tl):PI X tg l (Wy X.K tl):=by
 intro pins s σ H R I h;refine Bz (hl pins s σ H _ I h) λv s1 ⟨x,H1,I1,r1,q1⟩=>?_
 obtain⟨a,e,⟨xs,hq⟩,q⟩:=q1;subst e;cases r1;obtain⟨its,rv,p,hz⟩:=I1.tuple hq;refine wpAny_pyIter_tuple (show s1.heap.IsTuple a its.toArray from p) ?_;refine⟨s1.heap.objs.size,[s1.heap.objs.size],_,_,H1,rfl,I1.kept (t':=s1.toks) λb o e=>af _ e,MU a _,⟨_,aJ _ rfl,rfl,rfl⟩,λb hb=>?_,q⟩;have e:b=s1.heap.objs.size:=by simpa using hb
 subst e;exact I1.fpOk (ak _) (I1.hok.fresh (ak _))
theorem Rm {pins:List (Addr×Obj)} {σ:St} {H:Hp} {s:Shared} {R:It->Hp->Prop} {E:Value->Shared->Prop} {lo hi:Int} {t u v:Tok} {tk:Nat} (I:Inv X pins σ H s) (h1:-(2^62)<=lo) (h2:lo<2^62) (h3:-(2^62)<=hi) (h4:hi<2^62)
  (q:R (Rr lo (hi-lo).toNat) H):wpAny (model X.prog X.w) X.A (pyIter (.ref s.heap.objs.size)) (WH X pins σ tg R) E { s with heap:=s.heap.push { cls:=.type "range",data:=.fields #[.int lo t,.int hi u,.int 1 v] },toks:=tk }:=by
 refine wpAny_pyIter_range (IsRange.new ..) (small_one h1 h2 h3 h4) ?_;have I1:Inv X pins σ H { s with heap:=s.heap.push { cls:=.type "range",data:=.fields #[.int lo t,.int hi u,.int 1 v] },toks:=tk }:=I.kept λb o e=>af _ e
 refine⟨(s.heap.push { cls:=.type "range",data:=.fields #[.int lo t,.int hi u,.int 1 v] }).objs.size,[(s.heap.push { cls:=.type "range",data:=.fields #[.int lo t,.int hi u,.int 1 v] }).objs.size],_,_,H,rfl,
  I1.kept (t':=tk) λb o e=>af _ e,M0 _ lo (hi-lo).toNat,?_,λb hb=>?_,q⟩
 ·have e1:lo+((0:Nat):Int)*1=lo:=by simp
  have e2:(((hi-lo).toNat:Nat):Int)-((0:Nat):Int)=Builtin.Range.rangeSize lo hi 1:=by rw[rangeSize_one];split<;>omega
  show IsRangeIter _ _ (lo+((0:Nat):Int)*1) ((((hi-lo).toNat:Nat):Int)-((0:Nat):Int)) 1;rw[e1,e2];exact aJ _ rfl
 ·have e:b=(s.heap.push { cls:=.type "range",data:=.fields #[.int lo t,.int hi u,.int 1 v] }).objs.size:=by simpa using hb
  subst e;exact I1.fpOk (ak _) (I1.hok.fresh (ak _))
def VA (ta:TA):TI:=λσ H R=>ta σ H λvs H1=>∃j:Int,vs=[.int j]/\-(2^62)<=j/\j<2^62/\R (Rr 0 j.toNat) H1
theorem BE {a:Expr}{ta:TA}{p pos:Pos}(hg:Gl X "range")(hm:X.mg "range"=none)(ha:PA X [a] ta)(hs:starEach [a] X.env=[(false,eval a X.env)]:=by rfl):PI X tg (.Call (.Name "range" p) [a] [] pos) (VA ta):=by
 intro pins s σ H R I h;refine Call_ (JZ I hg hm boot_range (ft (Bz (ha pos pins s σ H _ I h) λus s1 ⟨vs,H1,I1,r1,q1⟩=>?_) hs rfl));obtain⟨j,e,q1,q2,q⟩:=q1;subst e;cases r1 with
 |cons r rr=>
  cases rr;obtain⟨t,rfl⟩:=r;exact call_range_1 (Rm I1 (by omega) (by omega) q1 q2 (by simpa using q))
def GR (wi:TI)(g:TG)(tb:TS):TS:=λD σ H=>wi σ H λJ H1=>∃W:Nat->Nat->St->Hp->Prop,(∃m,W 0 m σ H1)/\∀i m σ H,W i m σ H->
 (J.stop i H/\D.nx σ H)\/(J.go i H/\∃N:St->Hp->Prop,(∀σ' H',N σ' H'->∃m',m'<m/\W (i+1) m' σ' H')/\∀x H',J.yld i H x H'->g x σ H' λσ2 H2=>tb { D with nx:=N,ct:=N,bk:=D.nx } σ2 H2)
def JI (fp:List Addr)(h:Heap):List (Addr×Obj):=fp.filterMap λb=>(h.get? b).map λo=>(b,o)
theorem Fc {fp:List Addr}{h:Heap}{b:Addr}{o:Obj}(hb:b∈fp)(e:h.get? b=some o):(b,o)∈JI fp h:=eU.mpr ⟨b,hb,by rw[e];rfl⟩
theorem O8 {fp:List Addr}{h:Heap}{p:Addr×Obj}(hp:p∈JI fp h):p.1∈fp/\h.get? p.1=some p.2:=by
 obtain⟨b,hb,e⟩:=eU.mp hp;cases q:h.get? b with
 |none=>rw[q] at e;cases e
 |some o=>
  rw[q] at e;have e':(b,o)=p:=aP e;subst e';exact⟨hb,q⟩
theorem Inv.pinned {pins:List (Addr×Obj)}{σ:St}{H:Hp}{s:Shared}{fp:List Addr}(I:Inv X pins σ H s)(hf:∀b∈fp,Kd X pins H b)(ho:∀b∈fp,∃o,s.heap.get? b=some o/\∀v,o.data≠.cell v):Inv X (pins++JI fp s.heap) σ H s:=
 I.pins_of λp hp=>(aB.mp hp).elim (λz=>I.pin p (aK _ z)) λz=>by
  obtain⟨hb,e⟩:=O8 z;obtain⟨f0,f1,f2,_⟩:=hf p.1 hb;obtain⟨o,e',d⟩:=ho p.1 hb;rw[e] at e';cases e';exact⟨e,f0,f1,f2,d⟩
theorem Inv.unpinned {pins pl:List (Addr×Obj)}{σ:St}{H:Hp}{s:Shared}(I:Inv X (pins++pl) σ H s):Inv X pins σ H s:=I.pins_of λp hp=>I.pin p (aK _ (bf _ hp))
theorem BF {iter:Expr} {body:List Stmt} {wi:TI} {g:TG} {tb:TS} {pos:Pos} (hp:PassesOwn (model X.prog X.w) X.A X.env X.xe) (hc:X.calm=true) (hi:PI X tg iter wi) (hg:PG X tg g) (hb:KU X body tb)
  (hs:∀x,foldedSetIterable iter X.env x=pure x:=by intro _;rfl):PS X (.For tg iter body [] pos) (GR wi g tb):=by
 intro pins s σ H D I h;refine wpAny_For (Bz (hi pins s σ H _ I h) λv s1 h1=>Bz h1 λitv s2 h2=>?_) hs;obtain⟨it,fp,tn,J,H2,e,I2,T,st2,f2,W,⟨m0,w0⟩,turn⟩:=h2;subst e;have stat:∀{H':Hp},(∀b∈fp,H' b=none)->∀b∈fp,Kd X pins H' b:=λhn b hb=>⟨hn b hb,(f2 b hb).2⟩
 refine codeAny_forLoop_any (λn s'=>∃i σ' H',Inv X pins σ' H' s'/\tn i s'.heap/\(∀b∈fp,H' b=none)/\W i n σ' H') ?_ m0 ⟨0,σ,H2,I2,st2,λb hb=>(f2 b hb).1,w0⟩
 rintro n s3 ⟨i,σ3,H3,I3,st3,fr3,w3⟩
 rcases turn i n σ3 H3 w3 with⟨stop,qn⟩|⟨go,N,hN,step⟩
 ·refine cE hp (Bz (T.done X rfl rfl rfl hc i pins s3 σ3 H3 X.xe I3 (stat fr3) st3 stop) λr s4 ⟨hr,I4⟩=>?_);subst hr;exact dH ⟨σ3,H3,I4,qn⟩
 ·refine cE hp (Bz (T.item X rfl rfl rfl hc i pins s3 σ3 H3 X.xe I3 (stat fr3) st3 go) λr s4 ⟨u,hr,h4⟩=>?_);subst hr;refine cE hp (Bz h4 λ_ s5 z9=>?_);obtain⟨x,H5,I5,r5,y5,st5,fr5⟩:=z9;have I5':=I5.pinned (stat fr5) (T.obj _ _ st5);refine cE hp (Bz (hg _ s5 σ3 H5 x u _ I5' r5 (step x H5 y5)) λ_ s6 ⟨σ6,H6,I6,q6⟩=>?_);refine cE hp (Bz (hb _ s6 σ6 H6 _ I6 q6) λf s7 q7=>?_);have again:∀{σ7:St} {H7:Hp},Inv X (pins++JI fp s5.heap) σ7 H7 s7->N σ7 H7->∃m,m<n/\∃i σ' H',Inv X pins σ' H' s7/\tn i s7.heap/\(∀b∈fp,H' b=none)/\W i m σ' H':=λ{σ7 H7} I7 n7=>by
   obtain⟨m',hm,w7⟩:=hN σ7 H7 n7;refine⟨m',hm,i+1,σ7,H7,I7.unpinned,T.keep _ _ _ st5 λb hb o e=>(I7.pin (b,o) (aK _ (aK _ (Fc hb e)))).1,λb hb=>?_,w7⟩;obtain⟨o,e,d⟩:=T.obj _ _ st5 b hb;exact(I7.pin (b,o) (aK _ (aK _ (Fc hb e)))).2.1
  cases f with
  |next=>obtain⟨σ7,H7,I7,n7⟩:=q7;exact again I7 n7
  |cont=>obtain⟨σ7,H7,I7,n7⟩:=q7;exact again I7 n7
  |brk=>obtain⟨σ7,H7,I7,q7⟩:=q7;exact⟨σ7,H7,I7.unpinned,q7⟩
  |ret v=>obtain⟨x7,σ7,H7,I7,r7,q7⟩:=q7;exact⟨x7,σ7,H7,I7.unpinned,r7,q7⟩
end
theorem Eh {K:PySem.W.Frag} {a:Addr} {xs:List V} {g:TG} {tb:TS} {D:Ends} {σ:St} {H:Hp} (Pv:Nat->St->Hp->Prop) (h0:Pv 0 σ H) (hl:∀i σ H,i<=xs.length->Pv i σ H->AB K H a xs)
  (hs:∀i x σ H,xs[i]?=some x->Pv i σ H->g x σ H λσ2 H2=>tb { D with nx:=Pv (i+1),ct:=Pv (i+1),bk:=D.nx } σ2 H2) (hd:∀σ H,Pv xs.length σ H->D.nx σ H) :
  ∃W:Nat->Nat->St->Hp->Prop,(∃m,W 0 m σ H)/\∀i m σ H,W i m σ H->
   ((UF K a).stop i H/\D.nx σ H)\/((UF K a).go i H/\∃N:St->Hp->Prop,(∀σ' H',N σ' H'->∃m',m'<m/\W (i+1) m' σ' H')/\∀x H',(UF K a).yld i H x H'->g x σ H' λσ2 H2=>tb { D with nx:=N,ct:=N,bk:=D.nx } σ2 H2):=by
 refine⟨λi m σ H=>m=xs.length-i/\i<=xs.length/\Pv i σ H,⟨xs.length,by simp,bg _,h0⟩,?_⟩
 rintro i m σ H ⟨rfl,hi,p⟩
 have q:=hl i σ H hi p
 by_cases hlt:i<xs.length
 ·refine .inr ⟨⟨xs,xs[i],q,by simp[hlt]⟩,Pv (i+1),λσ' H' p'=>⟨xs.length-(i+1),by omega,rfl,hlt,p'⟩,λx H' y=>?_⟩;obtain⟨e,y⟩:=y;subst e;exact hs i x σ _ (y xs q) p
 ·have e:i=xs.length:=by omega
  subst e;exact .inl ⟨⟨xs,q,ak _⟩,hd σ H p⟩
theorem Gr {K:PySem.W.Frag} {a:Addr} {xs:List V} {g:TG} {tb:TS} {D:Ends} {σ:St} {H:Hp} (Pv:Nat->St->Hp->Prop) (h0:Pv 0 σ H) (hl:∀i σ H,i<=xs.length->Pv i σ H->AD K H a xs)
  (hs:∀i x σ H,xs[i]?=some x->Pv i σ H->g x σ H λσ2 H2=>tb { D with nx:=Pv (i+1),ct:=Pv (i+1),bk:=D.nx } σ2 H2) (hd:∀σ H,Pv xs.length σ H->D.nx σ H) :
  ∃W:Nat->Nat->St->Hp->Prop,(∃m,W 0 m σ H)/\∀i m σ H,W i m σ H->
   ((UO K a).stop i H/\D.nx σ H)\/((UO K a).go i H/\∃N:St->Hp->Prop,(∀σ' H',N σ' H'->∃m',m'<m/\W (i+1) m' σ' H')/\∀x H',(UO K a).yld i H x H'->g x σ H' λσ2 H2=>tb { D with nx:=N,ct:=N,bk:=D.nx } σ2 H2):=by
 refine⟨λi m σ H=>m=xs.length-i/\i<=xs.length/\Pv i σ H,⟨xs.length,by simp,bg _,h0⟩,?_⟩
 rintro i m σ H ⟨rfl,hi,p⟩
 have q:=hl i σ H hi p
 by_cases hlt:i<xs.length
 ·refine .inr ⟨⟨xs,xs[i],q,by simp[hlt]⟩,Pv (i+1),λσ' H' p'=>⟨xs.length-(i+1),by omega,rfl,hlt,p'⟩,λx H' y=>?_⟩;obtain⟨e,y⟩:=y;subst e;exact hs i x σ _ (y xs q) p
 ·have e:i=xs.length:=by omega
  subst e;exact .inl ⟨⟨xs,q,ak _⟩,hd σ H p⟩
theorem CD {lo:Int} {n:Nat} {g:TG} {tb:TS} {D:Ends} {σ:St} {H:Hp} (Pv:Nat->St->Hp->Prop) (h0:Pv 0 σ H)
  (hs:∀i σ H,i<n->Pv i σ H->g (.int (lo+i)) σ H λσ2 H2=>tb { D with nx:=Pv (i+1),ct:=Pv (i+1),bk:=D.nx } σ2 H2) (hd:∀σ H,Pv n σ H->D.nx σ H) :
  ∃W:Nat->Nat->St->Hp->Prop,(∃m,W 0 m σ H)/\∀i m σ H,W i m σ H->
   ((Rr lo n).stop i H/\D.nx σ H)\/((Rr lo n).go i H/\∃N:St->Hp->Prop,(∀σ' H',N σ' H'->∃m',m'<m/\W (i+1) m' σ' H')/\∀x H',(Rr lo n).yld i H x H'->g x σ H' λσ2 H2=>tb { D with nx:=N,ct:=N,bk:=D.nx } σ2 H2):=by
 refine⟨λi m σ H=>m=n-i/\i<=n/\Pv i σ H,⟨n,by simp,bg _,h0⟩,?_⟩
 rintro i m σ H ⟨rfl,hi,p⟩
 by_cases hlt:i<n
 ·refine .inr ⟨hlt,Pv (i+1),λσ' H' p'=>⟨n-(i+1),by omega,rfl,hlt,p'⟩,λx H' y=>?_⟩;obtain⟨e,y⟩:=y;subst e y;exact hs i σ _ hlt p
 ·have e:i=n:=by omega
  subst e;exact .inl ⟨ak _,hd σ H p⟩
theorem Qr {c:TT} {tb:TS} {D:Ends} {σ:St} {H:Hp} (Pv:St->Hp->Prop) (μ:St->Hp->Nat) (h0:Pv σ H)
  (hs:∀σ H,Pv σ H->c σ H λb H1=>if b=true then tb { D with nx:=λσ' H'=>Pv σ' H'/\μ σ' H'<μ σ H,ct:=λσ' H'=>Pv σ' H'/\μ σ' H'<μ σ H,bk:=D.nx } σ H1 else D.nx σ H1)
  (mono:∀σ H Q Q',(∀b H1,Q b H1->Q' b H1)->c σ H Q->c σ H Q'):LL c tb D σ H:=by
 refine⟨λm σ H=>m=μ σ H/\Pv σ H,⟨_,rfl,h0⟩,?_⟩
 rintro m σ H ⟨rfl,p⟩
 refine mono σ H _ _ (λb H1 q=>?_) (hs σ H p);cases b with
 |true=>exact⟨_,λσ' H' ⟨p',l⟩=>⟨_,l,rfl,p'⟩,q⟩
 |false=>exact q
abbrev R2:=V->V->Hp->VK->Prop
def Gq (X:Cx)(f:Value->Value->Sem Value)(r:R2):Prop:=
 ∀(pins:List (Addr×Obj)) (s:Shared) (σ:St) (H:Hp) (x y:V) (v u:Value) (Q:VK),Inv X pins σ H s->RelV x v->RelV y u->r x y H Q->
  wpAny (model X.prog X.w) X.A (f v u) (EP X pins σ Q) X.xe s
def Wn (X:Cx)(f:Value->Sem Value)(r:V->Hp->VK->Prop):Prop:=
 ∀(pins:List (Addr×Obj)) (s:Shared) (σ:St) (H:Hp) (x:V) (v:Value) (Q:VK),Inv X pins σ H s->RelV x v->r x H Q->
  wpAny (model X.prog X.w) X.A (f v) (EP X pins σ Q) X.xe s
def C7 (X:Cx)(f:Value)(r:List V->Hp->VK->Prop):Prop:=
 ∀(pins:List (Addr×Obj)) (s:Shared) (σ:St) (H:Hp) (xs:List V) (us:List Value) (Q:VK),Inv X pins σ H s->AJ xs us->r xs H Q->
  wpAny (model X.prog X.w) X.A (call f us) (EP X pins σ Q) X.xe s
def VP (r:R2)(ta tb:TE):TE:=λσ H Q=>ta σ H λx H1=>tb σ H1 λy H2=>r x y H2 Q
def WM (r:V->Hp->VK->Prop)(ta:TE):TE:=λσ H Q=>ta σ H λx H1=>r x H1 Q
def rI (C:Int->Int->Prop)(g:Int->Int->V):R2:=λx y H Q=>∃i j,x=.int i/\y=.int j/\C i j/\Q (g i j) H
def Td (g:Int->Int->V):R2:=λx y H Q=>∃i j,x=.int i/\y=.int j/\Q (g i j) H
def rU (g:Int->V):V->Hp->VK->Prop:=λx H Q=>∃i,x=.int i/\Q (g i) H
section
variable {X:Cx}{a b c:Expr}{ta tb tc:TE}{pos:Pos}
theorem TR (ha:PE X a ta) (hb:PE X b tb) {pins:List (Addr×Obj)} {s:Shared} {σ:St} {H:Hp} {R:V->V->Hp->Prop} (I:Inv X pins σ H s)
  (h:ta σ H λx H1=>tb σ H1 λy H2=>R x y H2) {Q:Value->Shared->Prop} {f:Value->Value->Sem Value}
  (hf:∀v u s2 x y H2,Inv X pins σ H2 s2->RelV x v->RelV y u->R x y H2->wpAny (model X.prog X.w) X.A (f v u) Q X.xe s2) :
  wpAny (model X.prog X.w) X.A (eval a X.env) (λv s₁=>wpAny (model X.prog X.w) X.A (eval b X.env) (λu s₂=>wpAny (model X.prog X.w) X.A (f v u) Q X.xe s₂) X.xe s₁) X.xe s:=by
 refine Bz (ha pins s σ H _ I h) λv s1 ⟨x,H1,I1,r1,q1⟩=>?_
 refine Bz (hb pins s1 σ H1 _ I1 q1) λu s2 ⟨y,H2,I2,r2,q2⟩=>?_
 exact hf v u s2 x y H2 I2 r1 r2 q2
theorem Am {op:Operator}{r:R2}(ho:Gq X (binaryOp op) r)(ha:PE X a ta)(hb:PE X b tb):PE X (.BinOp a op b pos) (VP r ta tb):=by
 intro pins s σ H Q I h;exact wpAny_BinOp (TR ha hb I h λv u s2 x y H2 I2 rx ry q=>ho pins s2 σ H2 x y v u Q I2 rx ry q)
theorem SX {op:UnaryOp}{r:V->Hp->VK->Prop}(ho:Wn X (unaryOp op) r)(ha:PE X a ta):PE X (.UnaryOp op a pos) (WM r ta):=by
 intro pins s σ H Q I h;exact UnaryOp_ (Bz (ha pins s σ H _ I h) λv s1 ⟨x,H1,I1,r1,q1⟩=>ho pins s1 σ H1 x v Q I1 r1 q1)
theorem VR {f:Value->Value->Sem Value} {C:Int->Int->Prop} {g:Int->Int->Int}
  (rule:∀(i j:Int) (t u:Tok) (s:Shared) (Q:Value->Shared->Prop) (E:Value->Shared->Prop),C i j->Q (.int (g i j) s.toks) { s with toks:=s.toks+1 }->wpAny (model X.prog X.w) X.A (f (.int i t) (.int j u)) Q E s) :
  Gq X f (rI C λi j=>.int (g i j)):=by
 intro pins s σ H x y v u Q I rx ry h;obtain⟨i,j,rfl,rfl,hc,q⟩:=h;obtain⟨t,rfl⟩:=rx;obtain⟨t',rfl⟩:=ry;exact rule i j t t' s _ _ hc ⟨.int (g i j),H,I.tok _,⟨_,rfl⟩,q⟩
theorem U9 {f:Value->Value->Sem Value} {g:Int->Int->Int}
  (rule:∀(i j:Int) (t u:Tok) (s:Shared) (Q:Value->Shared->Prop) (E:Value->Shared->Prop),Q (.int (g i j) s.toks) { s with toks:=s.toks+1 }->wpAny (model X.prog X.w) X.A (f (.int i t) (.int j u)) Q E s) :
  Gq X f (Td λi j=>.int (g i j)):=by
 intro pins s σ H x y v u Q I rx ry h;obtain⟨i,j,rfl,rfl,q⟩:=h;obtain⟨t,rfl⟩:=rx;obtain⟨t',rfl⟩:=ry;exact rule i j t t' s _ _ ⟨.int (g i j),H,I.tok _,⟨_,rfl⟩,q⟩
theorem SC {f:Value->Value->Sem Value} {g:Int->Int->Bool}
  (rule:∀(i j:Int) (t u:Tok) (s:Shared) (Q:Value->Shared->Prop) (E:Value->Shared->Prop),Q (.bool (g i j)) s->wpAny (model X.prog X.w) X.A (f (.int i t) (.int j u)) Q E s) :
  Gq X f (Td λi j=>.bl (g i j)):=by
 intro pins s σ H x y v u Q I rx ry h;obtain⟨i,j,rfl,rfl,q⟩:=h;obtain⟨t,rfl⟩:=rx;obtain⟨t',rfl⟩:=ry;exact rule i j t t' s _ _ ⟨.bl (g i j),H,I,rfl,q⟩
def Wl (i j:Int):Prop:=0<j/\j<1073741824
def Ww (i j:Int):Prop:=0<=j/\j<=1000000/\i.natAbs<2^64
def Tn (i j:Int):Prop:=(-(2^64)<i/\i<2^64)\/(-(2^64)<j/\j<2^64)
theorem Tn.ok {i j:Int}(h:Tn i j):IntMulOk i j:=by
 rcases h with⟨h1,h2⟩|⟨h1,h2⟩
 ·exact .of_left (intBits_le_64 h1 h2)
 ·exact .of_right (intBits_le_64 h1 h2)
theorem AE:Gq X (binaryOp .Add) (Td λi j=>.int (i+j)):=U9 λ_ _ _ _ _ _ _ q=>add_int q
theorem Uz:Gq X (binaryOp .Sub) (Td λi j=>.int (i-j)):=U9 λ_ _ _ _ _ _ _ q=>sub_int q
theorem BG:Gq X (binaryOp .Mult) (rI Tn λi j=>.int (i*j)):=VR λ_ _ _ _ _ _ _ hc q=>mul_int q hc.ok
theorem Ep:Gq X (binaryOp .FloorDiv) (rI Wl λi j=>.int (i/j)):=VR λi j _ _ _ _ _ hc q=>by
 have h1:(0:Int)<j:=hc.1;have h2:j<1073741824:=hc.2;exact floordiv_int (by omega) (by rw[Int.fdiv_eq_ediv_of_nonneg i (by omega)];exact q) (.inl (PyProof.noPylong_small (by omega)))
theorem AQ:Gq X (binaryOp .Mod) (rI (λ_ j=>0<j) λi j=>.int (i%j)):=VR λi j _ _ _ _ _ hc q=>by
 have h1:(0:Int)<j:=hc;exact mod_int' (by omega) (by rw[Int.fmod_eq_emod_of_nonneg i (by omega)];exact q)
theorem MQ:Gq X (binaryOp .Pow) (rI Ww λi j=>.int (i^j.toNat)):=VR λ_ _ _ _ _ _ _ hc q=>pow_int_small hc.1 hc.2.1 hc.2.2 q
theorem WQ {f:Value->Sem Value} {g:Int->Int}
  (rule:∀(i:Int) (t:Tok) (s:Shared) (Q:Value->Shared->Prop) (E:Value->Shared->Prop),Q (.int (g i) s.toks) { s with toks:=s.toks+1 }->wpAny (model X.prog X.w) X.A (f (.int i t)) Q E s) :
  Wn X f (rU λi=>.int (g i)):=by
 intro pins s σ H x v Q I rx h;obtain⟨i,rfl,q⟩:=h;obtain⟨t,rfl⟩:=rx;exact rule i t s _ _ ⟨.int (g i),H,I.tok _,⟨_,rfl⟩,q⟩
theorem PF:Wn X (unaryOp .USub) (rU λi=>.int (-i)):=WQ λ_ _ _ _ _ q=>neg_int q
end
def MO:V->V->Bool
 | .non,.non=>true | .non,.int _=>true | .int _,.non=>true | .non,.bl _=>true | .bl _,.non=>true | .non,.str _=>true | .str _,.non=>true
 | .int _,.int _=>true | .bl _,.bl _=>true | .str _,.str _=>true | .byt _,.byt _=>true
 | .int _,.str _=>true | .str _,.int _=>true | .bl _,.str _=>true | .str _,.bl _=>true
 |_,_=>false
def WN:R2:=λx y H Q=>MO x y=true/\Q (.bl (decide (x=y))) H
def WS:R2:=λx y H Q=>MO x y=true/\Q (.bl (!decide (x=y))) H
theorem Lh {i j:Int}:decide (V.int i=V.int j)=(i == j):=by
 rw[cN];simp
theorem Pz {i j:Bool}:decide (V.bl i=V.bl j)=(i == j):=by
 rw[cN];simp
theorem LI {i j:Str}:decide (V.str i=V.str j)=(i == j):=by
 rw[cN];simp
theorem N3 {i j:Array UInt8}:decide (V.byt i=V.byt j)=(i.toList == j.toList):=by
 rw[cN];cases i;cases j;simp
section
variable {X:Cx}{a b c:Expr}{ta tb tc:TE}{pos:Pos}
theorem Bd {pins:List (Addr×Obj)}{σ:St}{H:Hp}{s:Shared}{Q:VK}{k k':Bool}(I:Inv X pins σ H s)(q:Q (.bl k) H)(e:k=k'):EP X pins σ Q (.bool k') s:=by
 subst e;exact⟨.bl k,H,I,rfl,q⟩
theorem CJ:Gq X (compareOp .Eq) WN:=by
 intro pins s σ H x y v u Q I rx ry h;obtain⟨hs,q⟩:=h;cases x with
 |non=>
  cases rx;cases y with
  |non=>cases ry;exact PySem.EqNone.eq_none_none (Bd I q (by simp))
  |bl j=>cases ry;exact PySem.EqNone.eq_none_bool (Bd I q (by simp))
  |int j=>obtain⟨t',rfl⟩:=ry;exact PySem.EqNone.eq_none_int (Bd I q (by simp))
  |str j=>obtain⟨t',rfl⟩:=ry;exact PySem.EqNone.eq_none_str (Bd I q (by simp))
  |_=>exact absurd (show false=true from hs) aA
 |bl i=>
  cases rx;cases y with
  |non=>cases ry;exact PySem.EqNone.eq_bool_none (Bd I q (by simp))
  |bl j=>cases ry;exact eq_bool (Bd I q Pz)
  |str j=>obtain⟨t',rfl⟩:=ry;exact PySem.EqMixed.eq_bool_str (Bd I q (by simp))
  |_=>exact absurd (show false=true from hs) aA
 |int i=>
  obtain⟨t,rfl⟩:=rx;cases y with
  |non=>cases ry;exact PySem.EqNone.eq_int_none (Bd I q (by simp))
  |int j=>obtain⟨t',rfl⟩:=ry;exact eq_int (Bd I q Lh)
  |str j=>obtain⟨t',rfl⟩:=ry;exact PySem.EqMixed.eq_int_str (Bd I q (by simp))
  |_=>exact absurd (show false=true from hs) aA
 |str i=>
  obtain⟨t,rfl⟩:=rx;cases y with
  |non=>cases ry;exact PySem.EqNone.eq_str_none (Bd I q (by simp))
  |bl j=>cases ry;exact PySem.EqMixed.eq_str_bool (Bd I q (by simp))
  |int j=>obtain⟨t',rfl⟩:=ry;exact PySem.EqMixed.eq_str_int (Bd I q (by simp))
  |str j=>obtain⟨t',rfl⟩:=ry;exact eq_str (Bd I q LI)
  |_=>exact absurd (show false=true from hs) aA
 |byt i=>
  obtain⟨t,rfl⟩:=rx;cases y with
  |byt j=>obtain⟨t',rfl⟩:=ry;exact PySem.W.eq_bytes (Bd I q N3)
  |_=>exact absurd (show false=true from hs) aA
 |_=>cases y<;>exact absurd (show false=true from hs) aA
theorem Iu:Gq X (compareOp .NotEq) WS:=by
 intro pins s σ H x y v u Q I rx ry h;obtain⟨hs,q⟩:=h;cases x with
 |non=>
  cases rx;cases y with
  |non=>cases ry;exact PySem.EqNone.ne_none_none (Bd I q (by simp))
  |bl j=>cases ry;exact PySem.EqNone.ne_none_bool (Bd I q (by simp))
  |int j=>obtain⟨t',rfl⟩:=ry;exact PySem.EqNone.ne_none_int (Bd I q (by simp))
  |str j=>obtain⟨t',rfl⟩:=ry;exact PySem.EqNone.ne_none_str (Bd I q (by simp))
  |_=>exact absurd (show false=true from hs) aA
 |bl i=>
  cases rx;cases y with
  |non=>cases ry;exact PySem.EqNone.ne_bool_none (Bd I q (by simp))
  |bl j=>cases ry;exact ne_bool (Bd I q (congrArg not Pz))
  |str j=>obtain⟨t',rfl⟩:=ry;exact PySem.EqMixed.ne_bool_str (Bd I q (by simp))
  |_=>exact absurd (show false=true from hs) aA
 |int i=>
  obtain⟨t,rfl⟩:=rx;cases y with
  |non=>cases ry;exact PySem.EqNone.ne_int_none (Bd I q (by simp))
  |int j=>obtain⟨t',rfl⟩:=ry;exact ne_int (Bd I q (congrArg not Lh))
  |str j=>obtain⟨t',rfl⟩:=ry;exact PySem.EqMixed.ne_int_str (Bd I q (by simp))
  |_=>exact absurd (show false=true from hs) aA
 |str i=>
  obtain⟨t,rfl⟩:=rx;cases y with
  |non=>cases ry;exact PySem.EqNone.ne_str_none (Bd I q (by simp))
  |bl j=>cases ry;exact PySem.EqMixed.ne_str_bool (Bd I q (by simp))
  |int j=>obtain⟨t',rfl⟩:=ry;exact PySem.EqMixed.ne_str_int (Bd I q (by simp))
  |str j=>obtain⟨t',rfl⟩:=ry;exact ne_str (Bd I q (congrArg not LI))
  |_=>exact absurd (show false=true from hs) aA
 |byt i=>
  obtain⟨t,rfl⟩:=rx;cases y with
  |byt j=>obtain⟨t',rfl⟩:=ry;exact PySem.W.ne_bytes (Bd I q (congrArg not N3))
  |_=>exact absurd (show false=true from hs) aA
 |_=>cases y<;>exact absurd (show false=true from hs) aA
theorem QU:Gq X (compareOp .Lt) (Td λi j=>.bl (decide (i<j))):=SC λ_ _ _ _ _ _ _ q=>lt_int q
theorem N9:Gq X (compareOp .LtE) (Td λi j=>.bl (decide (i<=j))):=SC λ_ _ _ _ _ _ _ q=>le_int q
theorem Q7:Gq X (compareOp .Gt) (Td λi j=>.bl (decide (j<i))):=SC λ_ _ _ _ _ _ _ q=>gt_int q
theorem U7:Gq X (compareOp .GtE) (Td λi j=>.bl (decide (j<=i))):=SC λ_ _ _ _ _ _ _ q=>ge_int q
theorem Kq:Gq X (compareOp .In) (λx y H Q=>∃i j,x=.str i/\y=.str j/\Q (.bl (!(Builtin.Str.occurrences j i 0 j.length 1).isEmpty)) H):=by
 intro pins s σ H x y v u Q I rx ry h;obtain⟨i,j,rfl,rfl,q⟩:=h;obtain⟨t,rfl⟩:=rx;obtain⟨t',rfl⟩:=ry;exact in_str (Bd I q rfl)
theorem AG (b:Expr){op:CmpOp}(h:op≠.In:=by decide)(h2:op≠.NotIn:=by decide):behindInMarks op b=false:=by
 have e1:(op == CmpOp.In)=false:=by cases op<;>first|rfl|exact absurd rfl h
 have e2:(op == CmpOp.NotIn)=false:=by cases op<;>first|rfl|exact absurd rfl h2
 cases b<;>simp[behindInMarks,e1,e2]
theorem Fp {op:CmpOp}{r:R2}(ho:Gq X (compareOp op) r)(ha:PE X a ta)(hb:PE X b tb)(hm:behindInMarks op b=false):PE X (.Compare a [op] [b] pos) (VP r ta tb):=by
 intro pins s σ H Q I h;exact wpAny_Compare1 (TR ha hb I h λv u s2 x y H2 I2 rx ry q=>ho pins s2 σ H2 x y v u Q I2 rx ry q) hm
def S9 (t:TE):TT:=λσ H Q=>t σ H λx H'=>∃k,x=.bl k/\Q k H'
theorem AA {op:CmpOp}{r:R2}(ho:Gq X (compareOp op) r)(ha:PE X a ta)(hb:PE X b tb)(hm:behindInMarks op b=false):PT X (.Compare a [op] [b] pos) (S9 (VP r ta tb)):=by
 intro pins s σ H Q I h;refine wpAny_isTrue_Compare1 (Bz (ha pins s σ H _ I h) λv s1 ⟨x,H1,I1,r1,q1⟩=>Bz (hb pins s1 σ H1 _ I1 q1) λu s2 ⟨y,H2,I2,r2,q2⟩=>
  Bz (ho pins s2 σ H2 x y v u _ I2 r1 r2 q2) λc s3 ⟨z,H3,I3,r3,k,e,q3⟩=>?_) hm
 subst e;cases r3;exact bZ ⟨H3,I3,q3⟩
def UG (r r':R2)(ta tb tc:TE):TE:=λσ H Q=>ta σ H λx H1=>tb σ H1 λy H2=>r x y H2 λz H3=>∃k,z=.bl k/\
 (if k=true then tc σ H3 λw' H4=>r' y w' H4 Q else Q (.bl false) H3)
theorem Mq {op op':CmpOp} {r r':R2} (ho:Gq X (compareOp op) r) (ho':Gq X (compareOp op') r') (ha:PE X a ta) (hb:PE X b tb) (hc:PE X c tc)
  (hm:lastMarks [op,op'] [b,c]=false:=by with_unfolding_all rfl):PT X (.Compare a [op,op'] [b,c] pos) (S9 (UG r r' ta tb tc)):=by
 intro pins s σ H Q I h;refine isTrue_chain (Bz (ha pins s σ H _ I h) λv s1 ⟨x,H1,I1,r1,q1⟩=>test_link (Bz (hb pins s1 σ H1 _ I1 q1) λu s2 ⟨y,H2,I2,r2,q2⟩=>
  Bz (ho pins s2 σ H2 x y v u _ I2 r1 r2 q2) λd s3 ⟨z,H3,I3,r3,k,e,q3⟩=>?_)) hm
 subst e;cases r3;refine bZ ?_;cases k with
 |false=>
  obtain⟨k',e',q'⟩:=q3;cases e';exact ite_ff ⟨H3,I3,q'⟩
 |true=>
  refine ite_tt (test_last (Bz (hc pins s3 σ H3 _ I3 q3) λw' s4 ⟨z',H4,I4,r4,q4⟩=>Bz (ho' pins s4 σ H4 y z' u w' _ I4 r2 r4 q4) λd' s5 z9=>?_));obtain⟨z2,H5,I5,r5,k2,e2,q5⟩:=z9;subst e2;cases r5;exact bZ ⟨H5,I5,q5⟩
theorem HL:(sizeLine:Nat)<2^63:=by rw[bB];decide
theorem BP:Gq X (binaryOp .Add) (λx y H Q=>∃i j,x=.str i/\y=.str j/\i.length+j.length<=sizeLine/\Q (.str (i++j)) H):=by
 intro pins s σ H x y v u Q I rx ry h;obtain⟨i,j,rfl,rfl,hz,q⟩:=h;obtain⟨t,rfl⟩:=rx;obtain⟨t',rfl⟩:=ry;exact add_str (λt' tk=>⟨.str (i++j),H,I.tok _,⟨_,rfl⟩,q⟩) hz
theorem vals1 {x:V}{us:List Value}(r:AJ [x] us):∃u,us=[u]/\RelV x u:=by
 cases r with
 |cons r1 r2=>cases r2;exact⟨_,rfl,r1⟩
theorem vals2 {x y:V}{us:List Value}(r:AJ [x,y] us):∃u w',us=[u,w']/\RelV x u/\RelV y w':=by
 cases r with
 |cons r1 r2=>
  cases r2 with
  |cons r3 r4=>cases r4;exact⟨_,_,rfl,r1,r3⟩
theorem HC:C7 X (.type "int") (λxs H Q=>(∃i,xs=[.int i]/\Q (.int i) H)\/∃k,xs=[.bl k]/\Q (.int (if k then 1 else 0)) H):=by
 intro pins s σ H xs us Q I r h;rcases h with⟨i,rfl,q⟩|⟨k,rfl,q⟩
 ·obtain⟨u,rfl,t,rfl⟩:=vals1 r;exact call_int_int ⟨.int i,H,I,⟨_,rfl⟩,q⟩
 ·obtain⟨u,rfl,r1⟩:=vals1 r;cases r1;exact call_int_bool ⟨.int (if k then 1 else 0),H,I.tok _,⟨_,rfl⟩,q⟩
end
structure ObjM (h:Heap) (x dx C:Addr) (mA:Str->Option Value):Prop where
 obj:h.get? x=some (PySem.W.instObj C dx)
 ns:h.Ns1 dx mA
 ne:dx≠x
theorem Ky {h:Heap}{dx:Addr}{mA:Str->Option Value}(n:h.Ns1 dx mA):∃od,h.get? dx=some od/\∀name,PySem.W.lookIn name od=some (mA name):=by
 obtain⟨o,es,ep,ho,hd,hk,_,hm⟩:=n;refine⟨o,ho,λname=>?_⟩;have e:=hm name;unfold nsFind findBy at e;rw[<-Array.find?_toList] at e;unfold PySem.W.lookIn;rw[hd];dsimp only
 split
 ·rename_i y q
  rw[q] at e;exact congrArg some e
 ·rename_i q
  rw[q] at e;have a:es.toList.any (·.refKey)=false:=by
   rw[List.any_eq_false];intro y hy;obtain⟨z,t,hkey⟩:=hk y (Array.mem_toList_iff.mp hy);simp[DictEntry.refKey,hkey]
  have a':¬es.toList.any (·.refKey)=true:=by rw[a];exact aA
  rw[aH a'];exact congrArg some e
theorem ObjM.look {h:Heap}{x dx C:Addr}{mA:Str->Option Value}(I:ObjM h x dx C mA):∃od,PySem.W.InstAt h x (PySem.W.instObj C dx) C (some od)/\∀name,PySem.W.lookIn name od=some (mA name):=
 let⟨od,ho,hl⟩:=Ky I.ns
 ⟨od,⟨I.obj,rfl,rfl,ho⟩,hl⟩
section
variable {prog:Program}{w:World}{A:Around}{E:Value->Shared->Prop}{s:Shared}{K:PySem.W.Frag}{x dx C f:Addr}{mA:Str->Option Value}{name:Str}{v:Value}
theorem get_map {expr:Bool} {Q:Value->Shared->Prop} (X:K.In s.heap) (I:ObjM s.heap x dx C mA) (hg:PySem.W.plainGet K C name=true) (hh:PySem.W.hasDictIn K C=true)
  (ha:PySem.W.findIn K (.ref C) name=some none) (hv:mA name=some v) (hv':PySem.W.handedIn v=true) (h:Q v { s with toks:=s.toks+1 }) :
  wpAny (model prog w) A (getAttr (.ref x) name expr) Q E s:=by
 obtain⟨od,J,hl⟩:=I.look;exact PySem.W.get_value X J (eL hg).1 (gC hh ha rfl (by rw[hl,hv])) hv' h
theorem Rh {pl:Sem Bool} {Q:Value×List Value->Shared->Prop} (X:K.In s.heap) (I:ObjM s.heap x dx C mA) (hg:PySem.W.plainGet K C name=true)
  (hf:PySem.W.findIn K (.ref C) name=some (some (.ref f))) (ht:PySem.W.isFn K (.ref f)=true) (hv:mA name=none) (h:Q (.ref f,[.ref x]) s) :
  wpAny (model prog w) A (getMethod (.ref x) name pl) Q E s:=by
 obtain⟨od,J,hl⟩:=I.look;exact PySem.W.method_fn X J (eL hg).1 (eL hg).2 hf (cg.mp ht) (by show(PySem.W.lookIn name od).map (·.isSome)=some false;rw[hl,hv];rfl) h
theorem R6 {ns:List Str} {Q:Unit->Shared->Prop} (X:K.In s.heap) (I:ObjM s.heap x dx C mA)
  (hs:PySem.W.findIn K (.ref C) "__setattr__"=some (some (.builtin "object.__setattr__"))) (hp:PySem.W.plainOver K C=true) (ht:PySem.W.takerIn K C name=some none) (hh:PySem.W.hasDictIn K C=true)
  (hw:PySem.Within mA ns) (hsz:ns.length<=sizeLine)
  (h:∀h',ObjM h' x dx C (λy=>if y=name then some v else mA y)->Heap.SameBut dx s.heap h'->Q () { s with heap:=h',toks:=s.toks+2 }) :
  wpAny (model prog w) A (setAttr (.ref x) name v) Q E s:=by
 obtain⟨od,J,hl⟩:=I.look;refine PySem.W.set_plain X J hs (PySem.W.osa_open (s:={ s with toks:=s.toks+1 }) (r:=none) X J hp ht λb=>?_);obtain⟨cd,hc,hd'⟩:=PySem.W.any_some hh;have hx:s.heap.get? x=some ⟨.ref C,some dx,.plain,#[]⟩:=I.obj;refine ae (ao (ae (ae (gp hx (ae (PySem.W.Looks.here (s:={ s with toks:=s.toks+1 }) (PySem.W.looks_clsIn X hc) ?_))))));rw[hd'];refine ao (a:=some dx) (ae (ao (ae ?_)));refine wpAny_nsSet1 (s:={ s with toks:=s.toks+1 }) I.ns λh' hn2 hs2=>?_
 obtain⟨oD,esD,epD,hoD,hdD,hcD⟩:=hn2.count (PySem.Within.cons name v hw);refine ae (wpAny_lookBehind hoD (by rw[hdD];exact pastItsLine_dict (ba hcD (by rw[aM];omega))) ?_);exact ao (h _ ⟨(hs2.2 _ (Ne.symm I.ne)).trans I.obj,hn2,I.ne⟩ hs2)
theorem Rc {R:Result->Shared->Prop} {vs:List Value} {kw:List (Str×Value)} (X:K.In s.heap) (hm:PySem.W.makesIn K C=true)
  (hi:PySem.W.findIn K (.ref C) "__init__"=some (some (.ref f))) (hf:PySem.W.typeIn K (.ref f)=some (.type "function"))
  (h:codeAny (model prog w) (A.under (.builtin "type.__call__" ⟨.ref C::vs,kw⟩)) (.call (.ref f) ⟨.ref (s.heap.objs.size+1)::vs,kw⟩) (PySem.W.InitBack (s.heap.objs.size+1) R)
   { s with heap:=(s.heap.push PySem.W.emptyDict).push (PySem.W.instObj C s.heap.objs.size) }) :
  codeAny (model prog w) A (.call (.ref C) ⟨vs,kw⟩) R s:=by
 obtain⟨hh,g,d,t,os⟩:=s;exact PySem.W.make_core (PySem.W.makes_of X hm) (PySem.W.looks_findIn X hi) (λself=>PySem.W.bind_fn X self hf) (.inl rfl) h
end
def Gg (f:Str)(v:V):List (Str×V)->List (Str×V)
 |[]=>[(f,v)]
 |(g,x)::r=>if g=f then(g,v)::r else(g,x)::Gg f v r
theorem Iy (f g:Str)(v:V):∀fs:List (Str×V),(Gg f v fs).lookup g=if g=f then some v else fs.lookup g
 |[]=>by
  show List.lookup g [(f,v)]=_
  by_cases h:g=f
  ·have hb:(g == f)=true:=cg.mpr h;simp only[List.lookup,hb,if_pos h]
  ·have hb:(g == f)=false:=bO.mpr h;simp only[List.lookup,hb,if_neg h]
 |(k,x)::r=>by
  have ih:=Iy f g v r;rw[show Gg f v ((k,x)::r)=(if k=f then(k,v)::r else(k,x)::Gg f v r) from rfl]
  by_cases hk:k=f
  ·rw[aI hk]
   by_cases h:g=k
   ·have hb:(g == k)=true:=cg.mpr h;simp only[List.lookup,hb,if_pos (h.trans hk)]
   ·have hb:(g == k)=false:=bO.mpr h;simp only[List.lookup,hb,if_neg (λe:g=f=>h (e.trans hk.symm))]
  ·rw[aH hk]
   by_cases h:g=k
   ·have hb:(g == k)=true:=cg.mpr h;simp only[List.lookup,hb,if_neg (λe:g=f=>hk (h.symm.trans e))]
   ·have hb:(g == k)=false:=bO.mpr h;simp only[List.lookup,hb];exact ih
theorem Ie (f:Str)(v:V):∀fs:List (Str×V),f∈(Gg f v fs).map (·.1)/\∀g,g∈fs.map (·.1)->g∈(Gg f v fs).map (·.1)
 |[]=>⟨by simp[Gg],λg h=>by simp at h⟩
 |(k,x)::r=>by
  obtain⟨i1,i2⟩:=Ie f v r;rw[show Gg f v ((k,x)::r)=(if k=f then(k,v)::r else(k,x)::Gg f v r) from rfl]
  by_cases hk:k=f
  ·rw[aI hk];subst hk;exact⟨by simp,λg h=>by simpa using h⟩
  ·rw[aH hk];refine⟨?_,λg h=>?_⟩
   ·rw[av];exact az _ i1
   ·rw[av] at h ⊢;rcases aD.mp h with e|e
    ·exact aD.mpr (.inl e)
    ·exact az _ (i2 g e)
theorem Io (f:Str)(v:V):∀fs:List (Str×V),(Gg f v fs).length<=fs.length+1
 |[]=>by simp[Gg]
 |(k,x)::r=>by
  have ih:=Io f v r;rw[show Gg f v ((k,x)::r)=(if k=f then(k,v)::r else(k,x)::Gg f v r) from rfl]
  by_cases hk:k=f
  ·rw[aI hk,aM,aM];omega
  ·rw[aH hk,aM,aM];omega
theorem Fs.some_of {v:V}{o:Option Value}(r:Fs (some v) o):∃u,o=some u/\RelV v u:=by
 cases o with
 |none=>exact(show False from r).elim
 |some u=>exact⟨u,rfl,r⟩
theorem Fs.none_of {o:Option Value}(r:Fs none o):o=none:=by
 cases o with
 |none=>rfl
 |some u=>exact(show False from r).elim
theorem KJ {v:V}{u:Value}(r:RelV v u):PySem.W.handedIn u=true:=by
 cases v with
 |non=>cases(show u=Value.none from r);rfl
 |bl b=>cases(show u=Value.bool b from r);rfl
 |int i=>obtain⟨t,e⟩:=(show ∃t,u=Value.int i t from r);cases e;rfl
 |str x=>obtain⟨t,e⟩:=(show ∃t,u=Value.str x t from r);cases e;rfl
 |byt b=>obtain⟨t,e⟩:=(show ∃t,u=Value.bytes b t from r);cases e;rfl
 |flt b=>obtain⟨t,e⟩:=(show ∃t,u=Value.float b t from r);cases e;rfl
 |ref a=>cases(show u=Value.ref a from r);rfl
 |ty n=>cases(show u=Value.type n from r);rfl
section
variable {P:Program}{w:World}{H H':Hp}{h h':Heap}{a C dx:Addr}{fs fs':List (Str×V)}
theorem I0 (hok:Gx P w H h)(e:H a=some (.ins C dx fs)):∃mA,ObjM h a dx C mA/\(∀f,Fs (fs.lookup f) (mA f))/\PySem.Within mA (fs.map (·.1))/\fs.length<=1000/\H dx=some (.own a):=by
 obtain⟨d,z,ne,ob,mA,n,r,q⟩:=(show A5 P w H h a (.ins C dx fs) from hok a _ e)
 exact⟨mA,⟨ob,n,ne⟩,r,q,z,d⟩
end
structure LZ (K:PySem.W.Frag) (C:Addr):Prop where
 pg:PySem.W.plainGet K C Str.empty=true
 hd:PySem.W.hasDictIn K C=true
 po:PySem.W.plainOver K C=true
 sa:PySem.W.findIn K (.ref C) "__setattr__"=some (some (.builtin "object.__setattr__"))
theorem LZ.get {K:PySem.W.Frag}{C:Addr}(c:LZ K C)(f:Str):PySem.W.plainGet K C f=true:=c.pg
def GL (K:PySem.W.Frag)(C:Addr)(f:Str):Prop:=PySem.W.findIn K (.ref C) f=some none
theorem GL.taker {K:PySem.W.Frag}{C:Addr}{f:Str}(n:GL K C f):PySem.W.takerIn K C f=some none:=by
 unfold PySem.W.takerIn;rw[show PySem.W.findIn K (.ref C) f=some none from n];rfl
structure Meth (K:PySem.W.Frag) (C:Addr) (m:Str) (f:Addr):Prop where
 at_:PySem.W.findIn K (.ref C) m=some (some (.ref f))
 fn:PySem.W.isFn K (.ref f)=true
 kp:PySem.W.keepIn K (.ref f)=true
section
variable {X:Cx}{pins:List (Addr×Obj)}{σ:St}{H:Hp}{s:Shared}{a C dx:Addr}{fs:List (Str×V)}{f:Str}{v:V}{A:Around}{E:Value->Shared->Prop}
theorem ND {b:Bool} {Q:Value->Shared->Prop} (I:Inv X pins σ H s) (e:H a=some (.ins C dx fs)) (c:LZ X.K C) (n:GL X.K C f) (l:fs.lookup f=some v)
  (h:∀u s',Inv X pins σ H s'->RelV v u->Q u s'):wpAny (model X.prog X.w) A (getAttr (.ref a) f b) Q E s:=by
 obtain⟨mA,O,r,_,_,_⟩:=I0 I.hok e;obtain⟨u,hu,ru⟩:=Fs.some_of (v:=v) (o:=mA f) (by rw[<-l];exact r f);exact get_map I.kIn O (c.get f) c.hd n hu (KJ ru) (h u _ (I.tok _) ru)
theorem JY {m:Str} {g:Addr} {pl:Sem Bool} {Q:Value×List Value->Shared->Prop} (I:Inv X pins σ H s) (e:H a=some (.ins C dx fs)) (c:LZ X.K C) (k:Meth X.K C m g) (l:fs.lookup m=none)
  (h:Q (.ref g,[.ref a]) s):wpAny (model X.prog X.w) A (getMethod (.ref a) m pl) Q E s:=by
 obtain⟨mA,O,r,_,_,_⟩:=I0 I.hok e;have hn:mA m=none:=Fs.none_of (by rw[<-l];exact r m);exact Rh I.kIn O (c.get m) k.at_ k.fn hn h
theorem Nq {y:V} {u:Value} {Q:Unit->Shared->Prop} (I:Inv X pins σ H s) (e:H a=some (.ins C dx fs)) (c:LZ X.K C) (n:GL X.K C f) (hl:fs.length<1000) (ry:RelV y u)
  (h:∀s',Inv X pins σ (upd H a (.ins C dx (Gg f y fs))) s'->Q () s'):wpAny (model X.prog X.w) A (setAttr (.ref a) f u) Q E s:=by
 obtain⟨mA,O,r,wi,_,ho⟩:=I0 I.hok e;have hz:(fs.map (·.1)).length<=sizeLine:=by rw[aa,bB];omega
 refine R6 I.kIn O c.sa c.po n.taker c.hd wi hz λh' O' sb=>h _ ?_
 have hd:∃o,h'.get? dx=some o:=let⟨o,_,_,e',_⟩:=O'.ns;⟨o,e'⟩;refine I.write (x:=a) (e:=dx) (by rw[e];exact True.intro) (.inr ho) (λb q hb z=>(sb.2 b hb).trans z) hd ?_;refine⟨by rw[An O.ne];exact ho,?_,O.ne,O'.obj,_,O'.ns,λg=>?_,λg hg=>?_⟩
 ·have:=Io f y fs;omega
 ·show Fs ((Gg f y fs).lookup g) (if g=f then some u else mA g);rw[Iy]
  by_cases q:g=f
  ·rw[aI q,aI q];exact ry
  ·rw[aH q,aH q];exact r g
 ·by_cases q:g=f
  ·rw[q];exact(Ie f y fs).1
  ·refine(Ie f y fs).2 g (wi g λz=>hg ?_);show(if g=f then some u else mA g)=none;rw[aH q];exact z
theorem Inv.made (I:Inv X pins σ H s):Inv X pins σ (upd (upd H s.heap.objs.size (.own (s.heap.objs.size+1))) (s.heap.objs.size+1) (.ins C s.heap.objs.size []))
  { s with heap:=(s.heap.push PySem.W.emptyDict).push (PySem.W.instObj C s.heap.objs.size) }:=by
 have e1:(s.heap.push PySem.W.emptyDict).get? s.heap.objs.size=some PySem.W.emptyDict:=aJ s.heap rfl;have e2:((s.heap.push PySem.W.emptyDict).push (PySem.W.instObj C s.heap.objs.size)).get? (s.heap.objs.size+1)=some (PySem.W.instObj C s.heap.objs.size):=by
  have:=aJ (s.heap.push PySem.W.emptyDict) (o:=PySem.W.instObj C s.heap.objs.size) rfl
  rwa [bL] at this
 have e3:(s.heap.push PySem.W.emptyDict).Ns s.heap.objs.size (λ_=>none):=⟨PySem.W.emptyDict,#[],_,e1,rfl,(λe he=>absurd he (by simp)),λ_=>rfl⟩
 have I1:=I.laid (a:=s.heap.objs.size) (o:=.own (s.heap.objs.size+1)) (h':=s.heap.push PySem.W.emptyDict) (t':=s.toks) (λb u q=>af _ q) (ak _) ⟨_,e1⟩;refine I1.laid (a:=s.heap.objs.size+1) (o:=.ins C s.heap.objs.size []) (t':=s.toks) (λb u q=>af _ q) (dZ (bL _ _)) ?_;have ne:s.heap.objs.size≠s.heap.objs.size+1:=aS (cH _);refine⟨by rw[An ne,Ad],bg _,ne,e2,λ_=>none,(Heap.Ns1.of_empty e3).at λo q=>af _ q,λ_=>True.intro,λy hy=>absurd rfl hy⟩
theorem N8 {prog:Program} {w:World} {env:Env} {e:Expr} {f:Str} {pos:Pos} {s:Shared} {Q:Value->Shared->Prop} (hb:attributeBase e f env (eval e env)=eval e env)
  (h:wpAny (model prog w) A (eval e env) (λo s₁=>wpAny (model prog w) A (getAttr o f true) Q E s₁) E s):wpAny (model prog w) A (eval (.Attribute e f pos) env) Q E s:=
 Attribute_any_ h (by rw[arm_eval_Attribute,hb])
end
def Wg (K:PySem.W.Frag)(ta:TE)(f:Str):TE:=λσ H Q=>ta σ H λx H1=>∃a C dx fs v,x=.ref a/\H1 a=some (.ins C dx fs)/\LZ K C/\GL K C f/\fs.lookup f=some v/\Q v H1
def VU (K:PySem.W.Frag)(ta tv:TE)(f:Str):TS:=λD σ H=>tv σ H λy H1=>ta σ H1 λx H2=>∃a C dx fs,x=.ref a/\H2 a=some (.ins C dx fs)/\LZ K C/\GL K C f/\fs.length<1000/\
 D.nx σ (upd H2 a (.ins C dx (Gg f y fs)))
section
variable {X:Cx}{o e value:Expr}{f:Str}{pos pos' tpos:Pos}{ta tv:TE}
theorem Uq (he:PE X e ta)(hb:attributeBase e f X.env (eval e X.env)=eval e X.env):PE X (.Attribute e f pos) (Wg X.K ta f):=by
 intro pins s σ H Q I h;refine N8 hb (Bz (he pins s σ H _ I h) λu s1 z9=>?_);obtain⟨x,H1,I1,rx,a,C,dx,fs,v,ex,ea,c,n,l,q⟩:=z9;subst ex;obtain rfl:u=Value.ref a:=rx;exact ND I1 ea c n l λu' s2 I2 ru=>⟨v,H1,I2,ru,q⟩
theorem T8 (ha:PE X o ta)(hv:PE X value tv)(hs:swapsWith value (some (.Attribute o f pos')) pos.line X.env=pure false):PS X (.Assign [.Attribute o f pos'] value pos) (VU X.K ta tv f):=by
 intro pins s σ H D I h;refine fG (Bz (hv pins s σ H _ I h) λu s1 ⟨y,H1,I1,ry,q⟩=>Bz (ha pins s1 σ H1 _ I1 q) λov s2 z9=>?_) hs;obtain⟨x,H2,I2,rx,a,C,dx,fs,ex,ea,c,n,l,q2⟩:=z9;subst ex;obtain rfl:ov=Value.ref a:=rx;exact Nq I2 ea c n l ry λs3 I3=>⟨σ,_,I3,q2⟩
theorem SZ {pl:Sem Bool} {m:Str} {apos:Pos} {args:List Expr} {pins:List (Addr×Obj)} {s:Shared} {σ:St} {H:Hp} {Q:Value->Shared->Prop} {te:TE} (he:PE X e te) (I:Inv X pins σ H s)
  (h:te σ H λx H1=>∃a C dx fs g,x=.ref a/\H1 a=some (.ins C dx fs)/\LZ X.K C/\Meth X.K C m g/\fs.lookup m=none/\
   ∀s1,Inv X pins σ H1 s1->wpAny (model X.prog X.w) X.A (callWith pos (.ref g) [.ref a] (backTo pos (starEach args X.env)) (backToKw pos (keywordEach [] X.env))) Q X.xe s1)
  (ht:eval (.Call (.Attribute e m apos) args [] pos) X.env=(do
   let ov <-eval e X.env
   standAt apos.atName
   let(f,first) <-holding [ov] (getMethod ov m pl)
   callWith pos f first (backTo pos (starEach args X.env)) (backToKw pos (keywordEach [] X.env)))) :
  wpAny (model X.prog X.w) X.A (eval (.Call (.Attribute e m apos) args [] pos) X.env) Q X.xe s:=by
 refine gf (pl:=pl) (Bz (he pins s σ H _ I h) λu s1 z9=>?_) ht;obtain⟨x,H1,I1,rx,a,C,dx,fs,g,ex,ea,c,k,l,q⟩:=z9;subst ex;obtain rfl:u=Value.ref a:=rx;exact JY I1 ea c k l (q s1 I1)
end
section
variable {X:Cx}{pins:List (Addr×Obj)}{σ:St}{H:Hp}{s:Shared}{A:Around}{E:Value->Shared->Prop}{Q:Value->Shared->Prop}{c:Value}{b:Bool}
inductive TyOf (K:PySem.W.Frag) (H:Hp):V->Value->Prop where
 |non:TyOf K H .non (.type "NoneType")
 |bl (x:Bool):TyOf K H (.bl x) (.type "bool")
 |int (i:Int):TyOf K H (.int i) (.type "int")
 |str (x:Str):TyOf K H (.str x) (.type "str")
 |flt (x:UInt64):TyOf K H (.flt x) (.type "float")
 |lst {a:Addr} {xs:List V} (e:H a=some (.lst xs)):TyOf K H (.ref a) (.type "list")
 |frz {a:Addr} {o:Obj} {xs:List V} (e:H a=some (.frz o (.lst xs))):TyOf K H (.ref a) (.type "list")
 |tup {a:Addr} {xs:List V} (e:H a=some (.tup xs)):TyOf K H (.ref a) (.type "tuple")
 |dK {a:Addr} {kvs:List (Key×V)} (e:H a=some (.dK kvs)):TyOf K H (.ref a) (.type "dict")
 |dT {a:Addr} {kvs:List (List Key×V)} (e:H a=some (.dT kvs)):TyOf K H (.ref a) (.type "dict")
 |ins {a C dx:Addr} {fs:List (Str×V)} (e:H a=some (.ins C dx fs)) (cl:LZ K C) (ha:PySem.W.findIn K (.ref C) "__class__"=some (some (.builtin "object.__class__")))
   (hn:PySem.W.specialIn K (.builtin "object.__class__") "__get__"=some (some (.builtin "getset_descriptor.__get__"))) (htk:PySem.W.takesIn K (.builtin "object.__class__")=some true)
   (hm:PySem.W.mroIn K C (.type "object")=some true):TyOf K H (.ref a) (.ref C)
theorem OJ {x:V}{u t:Value}(I:Inv X pins σ H s)(rx:RelV x u)(ty:TyOf X.K H x t)(e:PySem.W.kitOne X.K t c=some b)(h:∀tk,Q (.bool b) { s with toks:=tk }) :
  wpAny (model X.prog X.w) A (call (.builtin "isinstance") [u,c]) Q E s:=by
 cases ty with
 |non=>cases(show u=Value.none from rx);exact bG PySem.W.kitx_none I.kIn True.intro e (λz=>nomatch z) h
 |bl y=>cases(show u=Value.bool y from rx);exact bG PySem.W.kitx_bool I.kIn True.intro e (λz=>nomatch z) h
 |int i=>obtain⟨t,q⟩:=(show ∃t,u=Value.int i t from rx);cases q;exact bG PySem.W.kitx_int I.kIn True.intro e (λz=>nomatch z) h
 |str y=>obtain⟨t,q⟩:=(show ∃t,u=Value.str y t from rx);cases q;exact bG PySem.W.kitx_str I.kIn True.intro e (λz=>nomatch z) h
 |flt y=>obtain⟨t,q⟩:=(show ∃t,u=Value.float y t from rx);cases q;exact bG PySem.W.kitx_float I.kIn True.intro e (λz=>nomatch z) h
 |@lst a xs ea=>
  cases(show u=Value.ref a from rx);obtain⟨_,_,n,_,h1⟩:=(show A5 X.prog X.w H s.heap a (.lst xs) from I.hok a _ ea)
  exact bG PySem.W.kitx_list I.kIn ⟨_,h1,rfl⟩ e (λz=>nomatch z) h
 |@frz a ob xs ea=>
  cases(show u=Value.ref a from rx);obtain⟨_,_,_,n,_,h1⟩:=(show A5 X.prog X.w H s.heap a (.frz ob (.lst xs)) from I.hok a _ ea)
  exact bG PySem.W.kitx_list I.kIn ⟨_,h1,rfl⟩ e (λz=>nomatch z) h
 |@tup a xs ea=>
  cases(show u=Value.ref a from rx);obtain⟨_,_,_,p⟩:=(show A5 X.prog X.w H s.heap a (.tup xs) from I.hok a _ ea)
  obtain⟨o,h1,h2,_⟩:=p;exact bG PySem.W.kitx_tuple I.kIn ⟨o,h1,h2⟩ e (λz=>nomatch z) h
 |@dK a kvs ea=>
  cases(show u=Value.ref a from rx);obtain⟨_,_,vs,_,p⟩:=(show A5 X.prog X.w H s.heap a (.dK kvs) from I.hok a _ ea)
  obtain⟨o,es,ep,h1,h2,_⟩:=p;exact bG PySem.W.kitx_dict I.kIn ⟨o,h1,h2.1⟩ e (λz=>nomatch z) h
 |@dT a kvs ea=>
  cases(show u=Value.ref a from rx);obtain⟨_,_,xs,_,o,es,ep,h1,h2,_⟩:=(show A5 X.prog X.w H s.heap a (.dT kvs) from I.hok a _ ea)
  exact bG PySem.W.kitx_dict I.kIn ⟨o,h1,h2.1⟩ e (λz=>nomatch z) h
 |@ins a C dx fs ea cl ha hn htk hm=>
  cases(show u=Value.ref a from rx);obtain⟨mA,O,_⟩:=I0 I.hok ea;obtain⟨od,J,_⟩:=O.look;exact bG (PySem.W.kitx_own (cl.get _) cl.hd ha hn htk hm) I.kIn J e (λz=>nomatch z) h
end
structure Room (k:Nat) (A:Around):Prop where
 hd:A.handled=none
 dp:A.depth+3*k+5<recursionLimit
 un:A.units+16*k+200<cLine
theorem Room.mono {j k:Nat}{A:Around}(r:Room k A)(h:j<=k):Room j A:=⟨r.hd,by have:=r.dp;omega,by have:=r.un;omega⟩
theorem Room.deeper {k:Nat}{A:Around}(r:Room (k+1) A)(env:Env):Room k (A.deeper env):=
 ⟨r.hd,by have:=r.dp;show A.depth+1+3*k+5<_;omega,by have:=r.un;show A.units+3+16*k+200<_;omega⟩
theorem Room.in1 {k:Nat}{A:Around}(r:Room (k+1) A):Room k A.in1:=
 ⟨r.hd,by have:=r.dp;show A.depth+3*k+5<_;omega,by have:=r.un;show A.units+1+16*k+200<_;omega⟩
theorem M1 {A:Around}{C:Addr}{us:List Value}{kw:List (Str×Value)}:(A.under (.builtin "type.__call__" ⟨.ref C::us,kw⟩)).depth=A.depth+1:=by
 first|rfl|simp[Around.under,Code.weight,Code.isCreation,Code.isGuard,Code.isCaller,Code.frames,Code.isFrame,guardIds]
theorem MV {A:Around}{C:Addr}{us:List Value}{kw:List (Str×Value)}:(A.under (.builtin "type.__call__" ⟨.ref C::us,kw⟩)).units=A.units+1:=by
 first|rfl|simp[Around.under,Code.cUnits,Code.frames,Code.isFrame]
theorem Room.make {k:Nat}{A:Around}(r:Room (k+1) A)(C:Addr)(us:List Value)(kw:List (Str×Value)):Room k (A.under (.builtin "type.__call__" ⟨.ref C::us,kw⟩)):=
 ⟨r.hd,by have:=r.dp;rw[M1];omega,by have:=r.un;rw[MV];omega⟩
theorem Room.depth {k:Nat}{A:Around}(r:Room k A):A.depth<recursionLimit:=by have:=r.dp;omega
theorem Room.units {k:Nat}{A:Around}(r:Room k A):A.units+64<cLine:=by have:=r.un;omega
def Re:TA:=λ_ H Q=>Q [] H
def Ma (ta:TE)(tr:TA):TA:=λσ H Q=>ta σ H λx H1=>tr σ H1 λxs H2=>Q (x::xs) H2
section
variable {X:Cx}{e:Expr}{es:List Expr}{te:TE}{t:TA}{pos:Pos}
theorem Ac:PA X [] Re:=λ_ _ _ _ H Q I h=>Calls.spliced_nil ⟨[],H,I,.nil,h⟩
theorem Aa (ha:PE X e te)(hr:PA X es t)(hs:starEach (e::es) X.env=(false,eval e X.env)::starEach es X.env:=by rfl):PA X (e::es) (Ma te t):=by
 intro pos pins s σ H Q I h;rw[hs];show wpAny _ _ (spliced ((false,eval e X.env)::backTo pos (starEach es X.env))) _ _ s;refine Calls.spliced_cons (Bz (ha pins s σ H _ I h) λu s1 ⟨x,H1,I1,r1,q1⟩=>?_);exact Bz (hr pos pins s1 σ H1 _ I1 q1) λus s2 ⟨xs,H2,I2,r2,q2⟩=>⟨x::xs,H2,I2,.cons r1 r2,q2⟩
def VE (t:TA):TE:=λσ H Q=>t σ H λxs H1=>xs.length<=sizeLine/\∀p,H1 p=none->Q (.ref p) (upd H1 p (.tup xs))
def Wk (t:TA):TE:=λσ H Q=>t σ H λxs H1=>xs.length<=sizeLine/\∀p,H1 p=none->Q (.ref p) (upd H1 p (.lst xs))
theorem AY {x1}(h:PA X es t):PE X (.Tuple es x1 pos) (VE t):=by
 intro pins s σ H Q I hq;refine wpAny_Tuple_spliced (Bz (h pos pins s σ H _ I hq) λus s1 ⟨xs,H1,I1,r,z,q⟩=>⟨by rw[<-r.length];exact z,?_⟩);have hf:H1 s1.heap.objs.size=none:=I1.hok.fresh (ak _);refine⟨.ref s1.heap.objs.size,upd H1 s1.heap.objs.size (.tup xs),I1.laid (t':=s1.toks) (λb u e=>af _ e) (ak _) ?_,rfl,q _ hf⟩;exact⟨z,us,r,⟨_,aJ _ rfl,rfl,_,rfl,λ_=>rfl⟩⟩
theorem Bc (h:PA X es t):PE X (.List es pos) (Wk t):=by
 intro pins s σ H Q I hq;refine wpAny_List_spliced (Bz (h pos pins s σ H _ I hq) λus s1 ⟨xs,H1,I1,r,z,q⟩=>⟨by rw[<-r.length];exact z,?_⟩);have hf:H1 s1.heap.objs.size=none:=I1.hok.fresh (ak _);refine⟨.ref s1.heap.objs.size,upd H1 s1.heap.objs.size (.lst xs),I1.laid (t':=s1.toks) (λb u e=>af _ e) (ak _) ?_,rfl,q _ hf⟩;exact⟨z,us,0,r,aJ _ rfl⟩
end
abbrev Sp:=List V->Hp->VK->XK->Prop
abbrev Nb:=List Env->Hp->Shared->XK->Value->Shared->Prop
structure Env0 (P:Program) (w:World) (K:PySem.W.Frag) (mg:Str->Option Value) (base:Heap) (A:Around) (outer:List Env) (s:Shared) (H:Hp):Prop where
 frames:A.frames=some outer
 mod:Mod K mg base
 bs:∀b o,base.get? b=some o->s.heap.get? b=some o/\H b=none
 bsz:base.objs.size<=s.heap.objs.size
 funs:s.heap.FunFrames base outer
 frf:∀b∈Gw outer,H b=none
 hok:Gx P w H s.heap
 bare:AllBare s.gens
def CE (outer:List Env)(P:Program)(w:World)(H:Hp)(s:Shared)(Q:VK)(u:Value)(s':Shared):Prop:=
 ∃v H',s'.os=s.os/\AllBare s'.gens/\Un (Gw outer) [] H H' s.heap s'.heap/\Gx P w H' s'.heap/\RelV v u/\Q v H'
def CR (CX:Nb)(outer:List Env)(P:Program)(w:World)(H:Hp)(s:Shared)(Q:VK)(E:XK)(r:Result)(s':Shared):Prop:=
 match r with
 | .ok (.ret u)=>CE outer P w H s Q u s'
 | .ok _=>False
 | .error e=>CX outer H s E e s'
structure FnOk (P:Program) (w:World) (K:PySem.W.Frag) (mg:Str->Option Value) (base:Heap) (CX:Nb) (k:Nat) (f:Addr) (fd:FuncData) (ps:List Str) (sp:Sp):Prop where
 len:∀vs H Q E,sp vs H Q E->vs.length=ps.length
 run:∀(A:Around) (outer:List Env) (s:Shared) (H:Hp) (args:Args) (us:List Value) (vs:List V) (Q:VK) (E:XK),Room k A->Env0 P w K mg base A outer s H->BindsTo s fd args (ps.zip us)->AJ vs us->sp vs H Q E->
  codeAny (model P w) A (.call (.ref f) args) (CR CX outer P w H s Q E) s
theorem FnOk.imp {P:Program} {w:World} {K:PySem.W.Frag} {mg:Str->Option Value} {base:Heap} {CX:Nb} {k:Nat} {f:Addr} {fd:FuncData} {ps:List Str} {sp sp':Sp} (F:FnOk P w K mg base CX k f fd ps sp)
  (h:∀vs H Q E,sp' vs H Q E->sp vs H Q E):FnOk P w K mg base CX k f fd ps sp':=
 ⟨λvs H Q E q=>F.len vs H Q E (h _ _ _ _ q),λA outer s H args us vs Q E hr he hb hv hs=>F.run A outer s H args us vs Q E hr he hb hv (h _ _ _ _ hs)⟩
theorem Env0.make {P:Program}{w:World}{K:PySem.W.Frag}{mg:Str->Option Value}{base:Heap}{A:Around}{outer:List Env}{s:Shared}{H:Hp}(e:Env0 P w K mg base A outer s H)(C:Addr)(us:List Value)(kw:List (Str×Value)) :
  Env0 P w K mg base (A.under (.builtin "type.__call__" ⟨.ref C::us,kw⟩)) outer s H:=⟨by first|exact e.frames|(simpa [Around.under,Code.envs,Code.isFrame,pushEnvs] using e.frames),e.mod,e.bs,e.bsz,e.funs,e.frf,e.hok,e.bare⟩
theorem Env0.in1 {P:Program}{w:World}{K:PySem.W.Frag}{mg:Str->Option Value}{base:Heap}{A:Around}{outer:List Env}{s:Shared}{H:Hp}(e:Env0 P w K mg base A outer s H) :
  Env0 P w K mg base A.in1 outer s H:=⟨e.frames,e.mod,e.bs,e.bsz,e.funs,e.frf,e.hok,e.bare⟩
section
variable {X:Cx}{pins:List (Addr×Obj)}{σ:St}{H:Hp}{s s':Shared}
theorem Inv.env0 (I:Inv X pins σ H s):Env0 X.prog X.w X.K X.mg X.base X.A X.stack s H:=
 ⟨I.ok.frames,I.ok.mod,I.bs,ba I.ok.bsz I.sz,I.stack,I.stkFree,I.hok,I.bare⟩
theorem Inv.after {Q:VK}{u:Value}(I:Inv X pins σ H s)(h:CE X.stack X.prog X.w H s Q u s'):EP X pins σ Q u s':=by
 obtain⟨v,H',os,bare,un,hok,r,q⟩:=h;obtain⟨hh,g,d,t,os'⟩:=s';obtain rfl:os'=s.os:=os;exact⟨v,H',I.call (h':=hh) (g':=g) (d':=d) (t':=t) (ch:=[]) un hok bare (λb z=>absurd z (by simp)),r,q⟩
end
def Oi (sp:Sp)(dvs:List V)(E:XK)(t:TA):TE:=λσ H Q=>t σ H λvs H1=>sp (vs++dvs) H1 Q E
def Ta (C:Addr)(m:Str)(sp:Sp)(dvs:List V)(E:XK)(ta:TE)(t:TA):TE:=λσ H Q=>ta σ H λx H1=>∃a dx fs,x=.ref a/\H1 a=some (.ins C dx fs)/\fs.lookup m=none/\
 t σ H1 λvs H2=>sp (x::(vs++dvs)) H2 Q E
def S0 (C:Addr)(sp:Sp)(dvs:List V)(E:XK)(t:TA):TE:=λσ H Q=>t σ H λvs H1=>∀x dx,H1 x=none->H1 dx=none->dx≠x->
 sp (.ref x::(vs++dvs)) (upd (upd H1 dx (.own x)) x (.ins C dx [])) (λv H2=>v=.non/\Q (.ref x) H2) E
def Binds (K:PySem.W.Frag)(fd:FuncData)(ps:List Str)(ds:List Value):Prop:=
 ∀(s:Shared) (us:List Value),K.In s.heap->(us++ds).length=ps.length->BindsTo s fd ⟨us,[]⟩ (ps.zip (us++ds))
theorem Binds.all {K:PySem.W.Frag}{fd:FuncData}{ps:List Str}(h:∀us:List Value,us.length=ps.length->bindArgs fd ⟨us,[]⟩=pure (ps.zip us)):Binds K fd ps []:=λs us _ hl=>by
 rw[br] at hl ⊢;exact .of_eq (h us hl)
def EJ (CX:Nb)(X:Cx)(E:XK):Prop:=∀(pins:List (Addr×Obj)) (σ:St) (H:Hp) (s:Shared) (e:Value) (s':Shared),Inv X pins σ H s->CX X.stack H s E e s'->X.xe e s'
section
variable {X:Cx}{CX:Nb}{k:Nat}{f C:Addr}{fd:FuncData}{ps:List Str}{sp:Sp}{dvs:List V}{ds:List Value}{E:XK}{x m:Str}{p pos apos:Pos}{e o:Expr}{es:List Expr}{ta:TE}{t:TA}
theorem PB {pins:List (Addr×Obj)} {σ:St} {H:Hp} {s:Shared} {Q:VK} {us:List Value} {vs:List V} (F:FnOk X.prog X.w X.K X.mg X.base CX k f fd ps sp) (hr:Room k X.A) (hb:Binds X.K fd ps ds) (hd:AJ dvs ds) (hx:EJ CX X E)
  (I:Inv X pins σ H s) (r:AJ vs us) (h:sp (vs++dvs) H Q E):wpAny (model X.prog X.w) X.A (call (.ref f) us) (EP X pins σ Q) X.xe s:=by
 have r2:AJ (vs++dvs) (us++ds):=r.append hd;have hl:(us++ds).length=ps.length:=by rw[<-r2.length];exact F.len _ _ _ _ h
 refine cZ (dw (F.run X.A X.stack s H ⟨us,[]⟩ (us++ds) (vs++dvs) Q E hr I.env0 (hb s us I.kIn hl) r2 h) λr s' hq=>?_);cases r with
 |error e=>exact hx pins σ H s e s' I hq
 |ok fl=>
  cases fl with
  |ret u=>exact I.after hq
  |next=>exact False.elim hq
  |brk=>exact False.elim hq
  |cont=>exact False.elim hq
theorem Ot (F:FnOk X.prog X.w X.K X.mg X.base CX k f fd ps sp) (hr:Room k X.A) (hg:Gl X x) (hm:X.mg x=some (.ref f)) (hk:PySem.W.keepIn X.K (.ref f)=true) (hb:Binds X.K fd ps ds) (hd:AJ dvs ds) (hx:EJ CX X E)
  (ha:PA X (e::es) t) (hdb:(x == ("__debug__":Str))=false:=by decide) (he:starEach (e::es) X.env=(false,eval e X.env)::starEach es X.env:=by rfl) (hpl:(backTo pos (starEach es X.env)).any (·.1)=false:=by rfl) :
  PE X (.Call (.Name x p) (e::es) [] pos) (Oi sp dvs E t):=by
 intro pins s σ H Q I h;refine cm (Ez I hg hm ?_ hdb);refine cO (h₀:=X.base) I.ok.mod.kin hk (Bz (ha pos pins s σ H _ I h) λus s1 ⟨vs,H1,I1,r,q⟩=>⟨I1.kIn,?_⟩) he hpl;exact PB F hr hb hd hx I1 r q
theorem R4 {pl:Sem Bool} (he:PE X o ta) (c:LZ X.K C) (hm:Meth X.K C m f) (F:FnOk X.prog X.w X.K X.mg X.base CX k f fd ps sp) (hr:Room k X.A) (hb:Binds X.K fd ps ds) (hd:AJ dvs ds) (hx:EJ CX X E) (ha:PA X (e::es) t)
  (hst:starEach (e::es) X.env=(false,eval e X.env)::starEach es X.env:=by rfl) (hpl:(backTo pos (starEach es X.env)).any (·.1)=false:=by rfl)
  (ht:eval (.Call (.Attribute o m apos) (e::es) [] pos) X.env=(do
   let ov <-eval o X.env
   standAt apos.atName
   let(f,first) <-holding [ov] (getMethod ov m pl)
   callWith pos f first (backTo pos (starEach (e::es) X.env)) (backToKw pos (keywordEach [] X.env))):=by rfl) :
  PE X (.Call (.Attribute o m apos) (e::es) [] pos) (Ta C m sp dvs E ta t):=by
 intro pins s σ H Q I h;refine gf (pl:=pl) (Bz (he pins s σ H _ I h) λu s1 z9=>?_) ht;obtain⟨x,H1,I1,rx,a,dx,fs,ex,ea,l,q⟩:=z9;subst ex;obtain rfl:u=Value.ref a:=rx;refine JY I1 ea c hm l ?_;refine cO (first:=[.ref a]) (h₀:=X.base) I.ok.mod.kin hm.kp (Bz (ha pos pins s1 σ H1 _ I1 q) λus s2 ⟨vs,H2,I2,r,q2⟩=>⟨I2.kIn,?_⟩) hst hpl;exact PB (us:=.ref a::us) (vs:=.ref a::vs) F hr hb hd hx I2 (.cons rfl r) q2
structure Mk (K:PySem.W.Frag) (C f:Addr):Prop where
 makes:PySem.W.makesIn K C=true
 init:PySem.W.findIn K (.ref C) "__init__"=some (some (.ref f))
 fn:PySem.W.isFn K (.ref f)=true
 kp:PySem.W.keepIn K (.ref C)=true
theorem Qq {pins:List (Addr×Obj)} {σ:St} {H:Hp} {s:Shared} {Q:VK} {us:List Value} {vs:List V} (M:Mk X.K C f) (F:FnOk X.prog X.w X.K X.mg X.base CX k f fd ps sp) (hr:Room (k+1) X.A) (hb:Binds X.K fd ps ds) (hd:AJ dvs ds)
  (hx:EJ CX X E) (I:Inv X pins σ H s) (r:AJ vs us)
  (h:∀x dx,H x=none->H dx=none->dx≠x->sp (.ref x::(vs++dvs)) (upd (upd H dx (.own x)) x (.ins C dx [])) (λv H2=>v=.non/\Q (.ref x) H2) E) :
  wpAny (model X.prog X.w) X.A (call (.ref C) us) (EP X pins σ Q) X.xe s:=by
 have hq:=h (s.heap.objs.size+1) s.heap.objs.size (I.hok.fresh (eI _)) (I.hok.fresh (ak _)) (aS (cH _));have I2:=Inv.made (C:=C) I;have r2:AJ (V.ref (s.heap.objs.size+1)::(vs++dvs)) (Value.ref (s.heap.objs.size+1)::(us++ds)):=.cons rfl (r.append hd);have hl:(Value.ref (s.heap.objs.size+1)::us++ds).length=ps.length:=by
  have e:=r2.length;rw[F.len _ _ _ _ hq] at e;exact e.symm
 refine cZ (Rc (f:=f) I.kIn M.makes M.init (cg.mp M.fn) (dw (F.run _ X.stack _ _ ⟨Value.ref (s.heap.objs.size+1)::us,[]⟩ (Value.ref (s.heap.objs.size+1)::(us++ds)) _ _ E (hr.make C us [])
  (I2.env0.make C us []) (hb _ (Value.ref (s.heap.objs.size+1)::us) I2.kIn hl) r2 hq) λr s' hq'=>?_))
 cases r with
 |error e=>exact hx pins σ _ _ e s' I2 hq'
 |ok fl=>
  cases fl with
  |ret u=>
   obtain⟨v,H',I3,rv,ev,q3⟩:=I2.after hq';subst ev;exact⟨rv,⟨V.ref (s.heap.objs.size+1),H',I3,rfl,q3⟩⟩
  |next=>exact False.elim hq'
  |brk=>exact False.elim hq'
  |cont=>exact False.elim hq'
theorem RT (M:Mk X.K C f) (F:FnOk X.prog X.w X.K X.mg X.base CX k f fd ps sp) (hr:Room (k+1) X.A) (hg:Gl X x) (hm:X.mg x=some (.ref C)) (hb:Binds X.K fd ps ds) (hd:AJ dvs ds) (hx:EJ CX X E)
  (ha:PA X (e::es) t) (hdb:(x == ("__debug__":Str))=false:=by decide) (he:starEach (e::es) X.env=(false,eval e X.env)::starEach es X.env:=by rfl) (hpl:(backTo pos (starEach es X.env)).any (·.1)=false:=by rfl) :
  PE X (.Call (.Name x p) (e::es) [] pos) (S0 C sp dvs E t):=by
 intro pins s σ H Q I h;refine cm (Ez I hg hm ?_ hdb);refine cO (h₀:=X.base) I.ok.mod.kin M.kp (Bz (ha pos pins s σ H _ I h) λus s1 ⟨vs,H1,I1,r,q⟩=>⟨I1.kIn,?_⟩) he hpl;exact Qq M F hr hb hd hx I1 r q
end
structure FnScope (N P:List Str) (sc:Scope):Prop where
 kind:sc.kind=.function
 co:sc.isCoroutine=false
 gen:sc.isGenerator=false
 nd:N.Nodup
 pre:N.take P.length=P
 par:∀x∈P,sc.names.lookup x=some .local\/sc.names.lookup x=some .cell
 nofree:∀y∈sc.names,y.2≠.free
theorem K1 {kindOf:Str->Option NameKind}{x:Str}:∀{binds:List (Str×Value)} {m:Str->Option Value},(∀v,(x,v)∉binds)->bindL kindOf binds m x=m x
 |[],_,_=>rfl
 |(n,v)::r,m,h=>by
  unfold bindL;rw[K1 λw hw=>h w (az _ hw)]
  split
  ·have:x≠n:=by rintro rfl;exact h v ay
   simp[this]
  ·rfl
theorem KP {kindOf:Str->Option NameKind}{x:Str}:∀{binds:List (Str×Value)} {m:Str->Option Value},(∀v,(x,v)∉binds)->bindC kindOf binds m x=m x
 |[],_,_=>rfl
 |(n,v)::r,m,h=>by
  unfold bindC;rw[KP λw hw=>h w (az _ hw)]
  split
  ·rfl
  ·have:x≠n:=by rintro rfl;exact h v ay
   simp[this]
theorem KY {kindOf:Str->Option NameKind}{x:Str}{v:Value}:∀{P:List Str} {vs:List Value} {i:Nat} {m:Str->Option Value},P.Nodup->P[i]?=some x->vs[i]?=some v->kindOf x=some .local->
  bindL kindOf (P.zip vs) m x=some v
 |[],_,_,_,_,h,_,_=>by simp at h
 |_::_,[],_,_,_,_,h,_=>by simp at h
 |p::P,w::vs,0,m,nd,h1,h2,hk=>by
  simp at h1 h2;subst h1;subst h2;show bindL kindOf ((p,w)::P.zip vs) m p=_;unfold bindL;rw[K1 λv hv=>(bQ.mp nd).1 (ej hv).1,aI hk];simp
 |p::P,w::vs,i+1,m,nd,h1,h2,hk=>by
  show bindL kindOf ((p,w)::P.zip vs) m x=_;unfold bindL;exact KY (i:=i) (bQ.mp nd).2 (by simpa using h1) (by simpa using h2) hk
theorem KN {kindOf:Str->Option NameKind}{x:Str}{v:Value}:∀{P:List Str} {vs:List Value} {i:Nat} {m:Str->Option Value},P.Nodup->P[i]?=some x->vs[i]?=some v->kindOf x≠some .local->
  bindC kindOf (P.zip vs) m x=some v
 |[],_,_,_,_,h,_,_=>by simp at h
 |_::_,[],_,_,_,_,h,_=>by simp at h
 |p::P,w::vs,0,m,nd,h1,h2,hk=>by
  simp at h1 h2;subst h1;subst h2;show bindC kindOf ((p,w)::P.zip vs) m p=_;unfold bindC;rw[KP λv hv=>(bQ.mp nd).1 (ej hv).1,aH hk];simp
 |p::P,w::vs,i+1,m,nd,h1,h2,hk=>by
  show bindC kindOf ((p,w)::P.zip vs) m x=_;unfold bindC;exact KN (i:=i) (bQ.mp nd).2 (by simpa using h1) (by simpa using h2) hk
def start (N:List Str)(vs:List V):St:=vs.map some++List.replicate (N.length-vs.length) none
def Bw (CX:Nb)(P:Program)(w:World)(K:PySem.W.Frag)(mg:Str->Option Value)(base:Heap)(N:List Str)(qual:Str)(scope:Scope)(f:Addr)(cd:Value)(A:Around)(outer:List Env)(s:Shared)(H:Hp)(E:XK):Cx where
 prog:=P
 w:=w
 K:=K
 mg:=mg
 base:=base
 A:=A.deeper (envOfC qual scope s.heap.objs.size f cd)
 N:=N
 s₀:=s
 H₀:=H
 env:=envOfC qual scope s.heap.objs.size f cd
 outer:=outer
 stack:=envOfC qual scope s.heap.objs.size f cd::outer
 ex:=[]
 calm:=true
 fn:=λ_=>true
 pn:=[]
 xe:=λe s'=>wpAny (model P w) (A.deeper (envOfC qual scope s.heap.objs.size f cd)) (leaving (envOfC qual scope s.heap.objs.size f cd) e) (λ_ s''=>CX outer H s E e s'') (λe' s''=>CX outer H s E e' s'') s'
theorem LY {sc:Scope}{n:Nat}{x:Str}(h:sc.names.lookup x=some .cell):∃c,(cellsFrom n sc.names []).lookup x=some c:=by
 have q:=fT sc.names n [] (.inl h);exact Option.isSome_iff_exists.mp q
theorem Pd {CX:Nb} {P:Program} {w:World} {K:PySem.W.Frag} {mg:Str->Option Value} {base:Heap} {N ps:List Str} {qual:Str} {scope:Scope} {f:Addr} {cd:Value} {A:Around} {outer:List Env} {s s1:Shared} {H:Hp} {E:XK} {us:List Value} {vs:List V}
  (S:FnScope N ps scope) (hd:A.handled=none) (e0:Env0 P w K mg base A outer s H) (hl:vs.length=ps.length) (r:AJ vs us)
  (x:InCallC s s.heap.objs.size (bindL (envOfC qual scope s.heap.objs.size f cd).kindOf (ps.zip us) λ_=>none) (cellsFrom (s.heap.objs.size+1) scope.names []) (bindC (envOfC qual scope s.heap.objs.size f cd).kindOf (ps.zip us) λ_=>none) s1) :
  Inv (Bw CX P w K mg base N qual scope f cd A outer s H E) [] (start N vs) H s1:=by
 have hpl:ps.length<=N.length:=by have:=congrArg List.length S.pre;rw[aQ] at this;omega
 obtain⟨h1,tk,rfl,hk⟩:=x.done;have noA:∀b:Addr,b∉(Bw CX P w K mg base N qual scope f cd A outer s H E).ex:=λb z=>absurd (show b∈([]:List Addr) from z) (by simp)
 refine⟨⟨e0.mod,S.kind,rfl,rfl,ak _,λy z c h1 h2=>?_,λy hy=>?_,λy c _ h=>?_,λ_=>hd,Around.frames_deeper e0.frames,.inr ⟨rfl,rfl⟩,λb z=>absurd z (noA b),e0.bs,e0.bsz,λb _ _=>noA b,λb z=>absurd z (noA b),e0.funs,e0.frf⟩,
  rfl,e0.bare,Un.kept hk,⟨_,x.toInCall.ns,λi y v h1 h2 h3=>?_⟩,λy c h=>⟨_,x.cell y c h⟩,e0.hok.fresh (ak _),λy c h=>?_,λp hp=>absurd (show p∈([]:List (Addr×Obj)) from hp) (by simp),e0.hok.kept hk,?_⟩
 ·exact name_of_addr x.apart (bH h1) (bH h2)
 ·have hy:scope.names.lookup y=some .cell\/scope.names.lookup y=some .free:=hy;rcases hy with hy|hy
  ·exact LY hy
  ·exact absurd rfl (S.nofree _ (bH hy))
 ·exact dY (x.above y c (bH h))
 ·have hi:i<vs.length:=by
   unfold start at h2
   by_cases hi:i<vs.length
   ·exact hi
   ·rw[bF (by simpa using hi)] at h2;rw[List.getElem?_replicate] at h2
    split at h2<;>cases h2
  have ha:vs[i]?=some v:=by
   unfold start at h2;rw[bA (by simpa using hi),aw] at h2;cases e:vs[i]? with
   |none=>rw[e] at h2;cases h2
   |some a=>rw[e] at h2;cases h2;rfl
  obtain⟨u,hu,rv⟩:=r.get ha;have hp:ps[i]?=some y:=by
   rw[<-S.pre,List.getElem?_take_of_lt (by omega)];exact h1
  have ndP:ps.Nodup:=by rw[<-S.pre];exact S.nd.sublist (cA _ _)
  refine⟨u,rv,?_⟩;rcases S.par y (aE hp) with k|k
  ·exact .inl ⟨k,KY ndP hp hu k⟩
  ·obtain⟨c,e⟩:=LY (n:=s.heap.objs.size+1) k;refine .inr ⟨.inl k,c,e,?_⟩;have q:=x.cell y c e;rw[KN ndP hp hu (by show scope.names.lookup y≠_;rw[k];decide)] at q;exact q
 ·exact e0.hok.fresh (dY (x.above y c (bH h)))
 ·unfold start;show _=N.length;rw[au,aa,List.length_replicate];omega
theorem Tc {CX:Nb} {P:Program} {w:World} {K:PySem.W.Frag} {mg:Str->Option Value} {base:Heap} {k:Nat} {f:Addr} {name qual:Str} {params:Arguments} {body:List Stmt} {scope:Scope} {dV kV doc pm cdv ct oc:Value} {an od:Option Addr}
  {osl:Array (Option Value)} {N ps:List Str} {sp:Sp} (lk:K.lookup f=some ⟨oc,od,.func (PySem.W.fnOf name qual params body scope dV kV doc pm an cdv ct),osl⟩) (hcd:PySem.W.codeIn K cdv qual=true) (S:FnScope N ps scope)
  (len:∀vs H Q E,sp vs H Q E->vs.length=ps.length)
  (hbody:∀(A:Around) (outer:List Env) (s:Shared) (H:Hp) (vs:List V) (Q:VK) (E:XK),Room k (A.deeper (envOfC qual scope s.heap.objs.size f cdv))->sp vs H Q E->
   ∃t,KU (Bw CX P w K mg base N qual scope f cdv A outer s H E) body t/\t { nx:=λ_ H'=>Q .non H',rt:=Q } (start N vs) H) :
  FnOk P w K mg base CX (k+1) f (PySem.W.fnOf name qual params body scope dV kV doc pm an cdv ct) ps sp:=by
 refine⟨len,λA outer s H args us vs Q E hr e0 hb r hsp=>?_⟩;have hl:=len _ _ _ _ hsp;have KX:K.In s.heap:=e0.mod.kin.keeps λb o e=>(e0.bs b o e).1
 have lim:s.heap.NoLimit:=e0.mod.nolimit.keeps λb o e=>(e0.bs b o e).1
 have hkind:∀y∈ps.zip us,scope.names.lookup y.1=some .local\/(scope.names.lookup y.1=some .cell/\((cellsFrom (s.heap.objs.size+1) scope.names []).lookup y.1).isSome=true):=λ⟨n,v⟩ hy=>by
  rcases S.par n (ej hy).1 with q|q
  ·exact .inl q
  ·exact .inr ⟨q,fT _ _ _ (.inl q)⟩
 refine codeAny_call_function hr.depth (KX _ _ lk) rfl S.co S.gen rfl (PySem.W.codeRec_of KX hcd) (hb _ _ _ _ ?_);refine wpAny_newFunctionEnv_cells S.kind hkind λenv he s1 x=>?_
 subst he;refine⟨lim.keeps x.toInCall.keep,codeAny_func ?_⟩;obtain⟨t,ht,hq⟩:=hbody A outer s H vs Q E (hr.deeper _) hsp;have I:Inv (Bw CX P w K mg base N qual scope f cdv A outer s H E) [] (start N vs) H s1:=Pd S hr.hd e0 hl r x;refine bo (ht [] s1 (start N vs) H _ I hq) (λfl s' hs=>?_) λe s' hs=>hs
 have fin:∀{σ':St} {H':Hp} {v:V} {u:Value},Inv (Bw CX P w K mg base N qual scope f cdv A outer s H E) [] σ' H' s'->RelV v u->Q v H'->CE outer P w H s Q u s':=
  λ{σ' H' v u} J rv q=>⟨v,H',J.os,J.bare,J.base,J.hok,rv,q⟩
 cases fl with
 |ret u=>
  obtain⟨v,σ',H',J,rv,q⟩:=hs;exact fin J rv q
 |next=>
  obtain⟨σ',H',J,q⟩:=hs;exact fin (v:=V.non) (u:=Value.none) J rfl q
 |brk=>
  obtain⟨_,_,_,q⟩:=hs;exact False.elim q
 |cont=>
  obtain⟨_,_,_,q⟩:=hs;exact False.elim q
section
variable {X:Cx}{x:Str}{p pos:Pos}{e:Expr}{es:List Expr}{t:TA}{id T:String}{r:List V->Hp->VK->Prop}
def WG (r:List V->Hp->VK->Prop)(t:TA):TE:=λσ H Q=>t σ H λvs H1=>r vs H1 Q
theorem Aw (hc:C7 X (.builtin id) r) (hg:Gl X x) (hm:X.mg x=none) (hv:bootBuiltins x=some (.builtin id)) (ha:PA X (e::es) t) (hn:x≠"__name__":=by decide) (hdb:(x == ("__debug__":Str))=false:=by decide)
  (he:starEach (e::es) X.env=(false,eval e X.env)::starEach es X.env:=by rfl) (hpl:(backTo pos (starEach es X.env)).any (·.1)=false:=by rfl):PE X (.Call (.Name x p) (e::es) [] pos) (WG r t):=by
 intro pins s σ H Q I h;refine cm (JZ I hg hm hv ?_ hn hdb);exact PyProof.Rows.callWith_builtin1 (Bz (ha pos pins s σ H _ I h) λus s1 ⟨vs,H1,I1,r1,q1⟩=>hc pins s1 σ H1 vs us Q I1 r1 q1) he hpl
theorem Bf (hc:C7 X (.type T) r) (hg:Gl X x) (hm:X.mg x=none) (hv:bootBuiltins x=some (.type T)) (ha:PA X (e::es) t) (hn:x≠"__name__":=by decide) (hdb:(x == ("__debug__":Str))=false:=by decide)
  (he:starEach (e::es) X.env=(false,eval e X.env)::starEach es X.env:=by rfl) (hpl:(backTo pos (starEach es X.env)).any (·.1)=false:=by rfl):PE X (.Call (.Name x p) (e::es) [] pos) (WG r t):=by
 intro pins s σ H Q I h;refine cm (JZ I hg hm hv ?_ hn hdb);exact ft (Bz (ha pos pins s σ H _ I h) λus s1 ⟨vs,H1,I1,r1,q1⟩=>hc pins s1 σ H1 vs us Q I1 r1 q1) he hpl
end
end L2
namespace HT
open PySem PyProof.Rows
section
variable {prog:Program}{w:World}{A:Around}{E:Value->Shared->Prop}{s:Shared}
theorem Sn {t b:Addr} {vs ws:List Value} {Q:Value->Shared->Prop} (ht:IsTup s.heap t vs.toArray) (hb:IsTup s.heap b ws.toArray) (hv:vs≠[])
  (h1:ws=[]->Q (.ref t) s) (h2:ws≠[]->Q (.ref s.heap.objs.size) { s with heap:=s.heap.push { cls:=.type "tuple",data:=.seq (vs++ws).toArray } })
  (hsz:vs.length+ws.length<=sizeLine):wpAny (model prog w) A (binaryOp .Add (.ref t) (.ref b)) Q E s:=by
 obtain⟨⟨cls,dd,data,sl⟩,ho,hc,n,hd⟩:=id ht;obtain⟨⟨cls2,dd2,data2,sl2⟩,ho2,hc2,n2,hd2⟩:=id hb;simp only at hc hd hc2 hd2;subst hc hd hc2 hd2;have e:vs.toArray++ws.toArray=(vs++ws).toArray:=by simp
 by_cases hw:ws=[]
 ·exact fz ⟨_,ho,rfl⟩ ⟨_,ho2,rfl⟩ fJ gJ dX dR (dJ _ _)
   (tuple_addW1 t b vs.toArray ws.toArray n n2 dd dd2 sl sl2 (by simpa using hv) (by simp[hw])) ⟨ho,ho2,h1 hw⟩
 ·refine fz ⟨_,ho,rfl⟩ ⟨_,ho2,rfl⟩ fJ gJ dX dR (dJ _ _)
   (tuple_addW2 t b vs.toArray ws.toArray n n2 dd dd2 sl sl2 (by simpa using hv) (by simpa using hw) (by rw[aN,aN];exact hsz)) ⟨ho,ho2,?_⟩
  rw[e];exact h2 hw
def Dk (n d:Nat):Option Int->Nat
 |none=>d
 |some v=>if v<0 then(v+(n:Int)).toNat else min v.toNat n
theorem Ud (n d:Nat)(hd:d<=n)(o:Option Int):Dk n d o<=n:=by
 cases o with
 |none=>exact hd
 |some v=>
  show(if v<0 then(v+(n:Int)).toNat else min v.toNat n)<=n
  by_cases hv:v<0
  ·rw[aI hv];omega
  ·rw[aH hv];exact Nat.min_le_right _ _
theorem NN (v:Int)(n d:Nat):(if v<0 then max (v+(n:Int)) 0 else min v (n:Int))=((Dk n d (some v):Nat):Int):=by
 show(if v<0 then max (v+(n:Int)) 0 else min v (n:Int))=(((if v<0 then(v+(n:Int)).toNat else min v.toNat n):Nat):Int)
 by_cases hv:v<0
 ·simp only[if_pos hv];omega
 ·simp only[if_neg hv];omega
theorem Nc (lo hi:Option Int)(n:Nat):Builtin.Slice.sliceAdjust lo hi 1 (n:Int)=(((Dk n 0 lo:Nat):Int),((Dk n n hi:Nat):Int)):=by
 have h1:¬((1:Int)<0):=by omega
 unfold Builtin.Slice.sliceAdjust;simp only[h1,if_false];refine Prod.ext ?_ ?_
 ·cases lo with
  |none=>rfl
  |some v=>exact NN v n 0
 ·cases hi with
  |none=>rfl
  |some v=>exact NN v n n
theorem Nw (i j:Nat):Builtin.Slice.slicePlaces (i:Int) (j:Int) 1=j-i:=by
 unfold Builtin.Slice.slicePlaces;have h1:(1:Int)>0:=by omega
 simp only[h1,if_true,Int.ediv_one]
 split<;>omega
theorem Ju {v:Value}{o:Option Int}{Q:Option Int->Shared->Prop}(p:IsPart v o)(h:Q o s):wpAny (model prog w) A (Builtin.Slice.slicePartIndex v) Q E s:=by
 cases p with
 |none=>exact fF h
 |int i t=>exact slicePart_int h
theorem Ht {sl:Addr} {vl vu:Value} {lo hi:Option Int} {n:Nat} {Q:Int×Int×Nat->Shared->Prop} (hs:s.heap.IsSliceOf sl vl vu .none) (pl:IsPart vl lo) (pu:IsPart vu hi)
  (h:Q (((Dk n 0 lo:Nat):Int),1,Dk n n hi-Dk n 0 lo) s):wpAny (model prog w) A (Builtin.Slice.sliceApplied (.ref sl) (pure (n:Int))) Q E s:=by
 obtain⟨os,hos,hcs,hds⟩:=id hs;unfold Builtin.Slice.sliceApplied Builtin.Slice.sliceFields;refine ae (ae (d8 hos hds (x:=vl) rfl (ae (d8 hos hds (x:=vu) rfl (ae (d8 hos hds (x:=.none) rfl (ao ?_)))))));refine ae (fF ?_);show wpAny _ _ (if((1:Int) == 0)=true then _ else _) _ _ s;rw[aH (by decide)];refine ae (Ju pl (ae (Ju pu (ae (ao ?_)))));show wpAny _ _ (match Builtin.Slice.sliceAdjust lo hi 1 (n:Int) with|(lo,hi)=>pure (lo,(1:Int),Builtin.Slice.slicePlaces lo hi 1)) _ _ s;rw[Nc lo hi n];show wpAny _ _ (pure (((Dk n 0 lo:Nat):Int),(1:Int),Builtin.Slice.slicePlaces ((Dk n 0 lo:Nat):Int) ((Dk n n hi:Nat):Int) 1)) _ _ s;rw[Nw];exact ao h
theorem Qp (xs:Array Value)(i k:Nat):((List.range k).filterMap λ(m:Nat)=>xs[((i:Int)+(m:Int)*1).toNat]?).toArray=((xs.toList.drop i).take k).toArray:=by
 have e:(λ(m:Nat)=>xs[((i:Int)+(m:Int)*1).toNat]?)=λm=>xs[i+m]?:=by
  funext m
  have:((i:Int)+(m:Int)*1).toNat=i+m:=by omega
  rw[this]
 rw[e];have:=pick_run xs i k;rw[List.filterMap_map] at this;have e2:((λx=>xs[x]?)∘λx=>i+x)=λm=>xs[i+m]?:=rfl
 rw[e2] at this;rw[this]
theorem Hc {t sl:Addr} {items:Array Value} {vl vu:Value} {lo hi:Option Int} {Q:Value->Shared->Prop} (ht:IsTup s.heap t items) (hs:s.heap.IsSliceOf sl vl vu .none) (pl:IsPart vl lo) (pu:IsPart vu hi)
  (hw:¬(Dk items.size 0 lo=0/\Dk items.size items.size hi=items.size))
  (h:Q (.ref s.heap.objs.size) { s with heap:=s.heap.push { cls:=.type "tuple",data:=.seq ((items.toList.drop (Dk items.size 0 lo)).take (Dk items.size items.size hi-Dk items.size 0 lo)).toArray } })
  (hsz:items.size<=sizeLine):wpAny (model prog w) A (getItem (.ref t) (.ref sl)) Q E s:=by
 have htake:sizeOk (.seq ((items.toList.drop (Dk items.size 0 lo)).take (Dk items.size items.size hi-Dk items.size 0 lo)).toArray):=by
  show((items.toList.drop (Dk items.size 0 lo)).take (Dk items.size items.size hi-Dk items.size 0 lo)).toArray.size<=sizeLine;rw[aN,aQ,cu,cJ];omega
 have hj:Dk items.size items.size hi<=items.size:=Ud _ _ (ak _) hi;obtain⟨os,hos,hcs,hds⟩:=id hs;have hTs:s.TypeIs (.ref sl) "slice":=⟨os,hos,hcs⟩
 unfold getItem
 try with_reducible refine bu ?_
 first|refine ae (ao ?_)|skip
 refine ae (wpAny_sequenceKey ht.typeIs (by decide) ?_);refine ae (gL (name:=Str.ofString "__getitem__") ht.typeIs cq
  (eF cq ht.typeIs entry_tuple_getitem ?_ (args_tuple_getitem _ _)))
 show wpAny _ _ (Builtin.Tuple.tupleItemsOf (.ref t) >>= _) _ _ s;refine ae (tupleItemsOf_ ht ?_);refine ae (fu hTs ?_);rw[aI (by decide)];refine ae (Ht hs pl pu ?_);have hno:¬((((Dk items.size 0 lo:Nat):Int) == 0&&(1:Int) == 1&&(Dk items.size items.size hi-Dk items.size 0 lo) == items.size)=true):=by
  intro q;rw[bq,bq] at q;have q1:((Dk items.size 0 lo:Nat):Int)=0:=eq_of_beq q.1.1;have q2:Dk items.size items.size hi-Dk items.size 0 lo=items.size:=eq_of_beq q.2;exact hw ⟨by omega,by omega⟩
 show wpAny _ _ (if(((Dk items.size 0 lo:Nat):Int) == 0&&(1:Int) == 1&&(Dk items.size items.size hi-Dk items.size 0 lo) == items.size)=true then _ else _) _ _ s;rw[aH hno,Qp]
 first
  |exact ae (m:=Builtin.Tuple.tupleExact _) (bR (ao ⟨_,rfl,ao h⟩) htake)
  |exact ae (m:=Builtin.Tuple.tupleExact _) (bR (ae (ao (ao ⟨_,rfl,ao h⟩))) htake)
  |exact ae (ae (m:=Builtin.Tuple.tupleExact _) (bR (ao (ao ⟨_,rfl,ao h⟩)) htake))
  |exact ae (ae (m:=Builtin.Tuple.tupleExact _) (bR (ao ⟨_,rfl,ao h⟩) htake))
end
end HT
namespace L2
open PySem PySem.Spec PyProof.Rows
abbrev TO:=St->Hp->(Option Int->Hp->Prop)->Prop
def PO (X:Cx)(e:Option Expr)(t:TO):Prop:=
 ∀(pins:List (Addr×Obj)) (s:Shared) (σ:St) (H:Hp) (Q:Option Int->Hp->Prop),Inv X pins σ H s->t σ H Q->
  wpAny (model X.prog X.w) X.A (evalPart e X.env) (λu s'=>∃o H',Inv X pins σ H' s'/\IsPart u o/\Q o H') X.xe s
def RJ:TO:=λ_ H Q=>Q none H
def UX (t:TE):TO:=λσ H Q=>t σ H λx H1=>∃i,x=.int i/\Q (some i) H1
theorem intsAre_of {ns:List Int}:∀{us:List Value},AJ (ns.map V.int) us->IntsAre us ns:=by
 induction ns with
 |nil=>intro us r;rw[bY] at r;cases r;exact .nil
 |cons n ns ih=>
  intro us r;rw[av] at r;cases r with
  |cons r1 r2=>
   obtain⟨t,e⟩:=r1;subst e;exact .cons n t (ih r2)
section
variable {X:Cx}{e:Expr}{te:TE}{lo hi:Option Expr}{tl th:TO}{pos p2:Pos}
theorem Gs:PO X none RJ:=by
 intro pins s σ H Q I h;rw[gK];exact ao ⟨none,H,I,.none,h⟩
theorem E8 (h:PE X e te):PO X (some e) (UX te):=by
 intro pins s σ H Q I hw;rw[evalPart_some];refine Bz (h pins s σ H _ I hw) λu s1 ⟨x,H1,I1,r1,q1⟩=>?_
 obtain⟨i,rfl,q⟩:=q1;obtain⟨t,rfl⟩:=r1;exact⟨some i,H1,I1,.int i t,q⟩
def VQ (X:Cx)(r:V->Option Int->Option Int->Hp->VK->Prop):Prop:=
 ∀(pins:List (Addr×Obj)) (s:Shared) (σ:St) (H:Hp) (x:V) (v vl vu:Value) (lo hi:Option Int) (sl:Addr) (Q:VK),Inv X pins σ H s->RelV x v->s.heap.IsSliceOf sl vl vu .none->IsPart vl lo->IsPart vu hi->r x lo hi H Q->
  ∃T id,typeLookup (.type T) "__getitem__"=pure (some (.builtin id))/\s.TypeIs v T/\wpAny (model X.prog X.w) X.A (getItem v (.ref sl)) (EP X pins σ Q) X.xe s
def WO (r:V->Option Int->Option Int->Hp->VK->Prop)(te:TE)(tl th:TO):TE:=λσ H Q=>te σ H λx H1=>tl σ H1 λl H2=>th σ H2 λu H3=>r x l u H3 Q
theorem E5 {r:V->Option Int->Option Int->Hp->VK->Prop}(hr:VQ X r)(he:PE X e te)(hl:PO X lo tl)(hu:PO X hi th):PE X (.Subscript e (.Slice lo hi none p2) pos) (WO r te tl th):=by
 intro pins s σ H Q I h;refine Subscript_ (Bz (he pins s σ H _ I h) λv s1 ⟨x,H1,I1,r1,q1⟩=>?_);refine wpAny_Slice (Bz (hl pins s1 σ H1 _ I1 q1) λvl s2 ⟨l,H2,I2,pl,q2⟩=>Bz (hu pins s2 σ H2 _ I2 q2) λvu s3 ⟨u,H3,I3,pu,q3⟩=>?_);rw[gK];refine ao ?_;have I4:Inv X pins σ H3 { s3 with heap:=s3.heap.push { cls:=.type "slice",data:=.fields #[vl,vu,.none] } }:=I3.kept (t':=s3.toks) λb ob q=>af _ q
 obtain⟨T,id,hT,ht,hg⟩:=hr pins { s3 with heap:=s3.heap.push { cls:=.type "slice",data:=.fields #[vl,vu,.none] } } σ H3 x v vl vu l u s3.heap.objs.size Q I4 r1 (Heap.IsSliceOf.new ..) pl pu q3;show wpAny (model X.prog X.w) X.A (subscriptTail e (.Slice lo hi none p2) v (.ref s3.heap.objs.size)) (EP X pins σ Q) X.xe { s3 with heap:=s3.heap.push { cls:=.type "slice",data:=.fields #[vl,vu,.none] } };exact tail_any (ops:=[.ref s3.heap.objs.size,v]) ht hT hg (by with_unfolding_all rfl)
def K3 (xs:List V)(lo hi:Option Int):List V:=(xs.drop (HT.Dk xs.length 0 lo)).take (HT.Dk xs.length xs.length hi-HT.Dk xs.length 0 lo)
theorem IB (xs:List V)(lo hi:Option Int):(K3 xs lo hi).length<=xs.length:=by
 unfold K3;rw[aQ,cu];omega
def Wu (K:PySem.W.Frag):V->Option Int->Option Int->Hp->VK->Prop:=λx lo hi H Q=>∃a xs,x=.ref a/\AD K H a xs/\
 ¬(HT.Dk xs.length 0 lo=0/\HT.Dk xs.length xs.length hi=xs.length)/\∀p,H p=none->Q (.ref p) (upd H p (.tup (K3 xs lo hi)))
theorem Ri:VQ X (Wu X.K):=by
 intro pins s σ H x v vl vu lo hi sl Q I rx hs pl pu h;obtain⟨a,xs,rfl,hx,hw,q⟩:=h;cases rx;obtain⟨its,r,ht,hz⟩:=I.tuple hx;have hlen:its.toArray.size=xs.length:=by rw[aN];exact r.length.symm
 refine⟨"tuple",_,PyProof.Rows.slot_tuple_getitem.lookup,ht.typeIs,?_⟩;refine HT.Hc ht hs pl pu (by rw[hlen];exact hw) ?_ (by rw[hlen];exact hz);rw[hlen];refine⟨.ref s.heap.objs.size,_,I.laid (t':=s.toks) (o:=.tup (K3 xs lo hi)) (λb ob q=>af _ q) (ak _) ?_,rfl,q _ (I.hok.fresh (ak _))⟩;exact⟨ba (IB xs lo hi) hz,_,(r.drop (HT.Dk xs.length 0 lo)).take (HT.Dk xs.length xs.length hi-HT.Dk xs.length 0 lo),JO.new _ _⟩
def Vo (K:PySem.W.Frag):R2:=λx y H Q=>∃a b xs ys,x=.ref a/\y=.ref b/\AD K H a xs/\AD K H b ys/\xs≠[]/\xs.length+ys.length<=sizeLine/\
 (ys=[]->Q (.ref a) H)/\(ys≠[]->∀p,H p=none->Q (.ref p) (upd H p (.tup (xs++ys))))
theorem AJ.nil_iff {xs:List V}{us:List Value}(r:AJ xs us):us=[]↔xs=[]:=by
 cases r with
 |nil=>simp
 |cons _ _=>simp
theorem Rx:Gq X (binaryOp .Add) (Vo X.K):=by
 intro pins s σ H x y v u Q I rx ry h;obtain⟨a,b,xs,ys,rfl,rfl,ha,hb,hx,hz,q1,q2⟩:=h;cases rx;cases ry;obtain⟨its,r1,p1,_⟩:=I.tuple ha;obtain⟨its2,r2,p2,_⟩:=I.tuple hb;refine HT.Sn p1 p2 (λz=>hx (r1.nil_iff.mp z)) (λz=>⟨.ref a,H,I,rfl,q1 (r2.nil_iff.mp z)⟩) (λz=>?_) (by rw[<-r1.length,<-r2.length];exact hz);refine⟨.ref s.heap.objs.size,_,I.laid (t':=s.toks) (o:=.tup (xs++ys)) (λb ob q=>af _ q) (ak _) ?_,rfl,q2 (λw=>z (r2.nil_iff.mpr w)) _ (I.hok.fresh (ak _))⟩;exact⟨by rw[au];exact hz,_,r1.append r2,JO.new _ _⟩
end
def SH (n:Nat)(i:Int):Option Nat:=if 0<=i then(if i<n then some i.toNat else none) else if -(n:Int)<=i then some (i+n).toNat else none
def Iw {α:Type}(xs:List α)(i:Int):Option α:=(SH xs.length i).bind λj=>xs[j]?
theorem NV {n:Nat}{i:Int}{j:Nat}(h:SH n i=some j):seqIndex? i n=some j/\j<n/\-(n:Int)<=i/\i<n:=by
 unfold SH at h
 by_cases h0:0<=i
 ·rw[aI h0] at h
  by_cases h1:i<n
  ·rw[aI h1] at h;have e:i.toNat=j:=aP h;exact⟨by rw[seqIndex_of h0 h1,e],by omega,by omega,h1⟩
  ·rw[aH h1] at h;cases h
 ·rw[aH h0] at h
  by_cases h1:-(n:Int)<=i
  ·rw[aI h1] at h;have e:(i+n).toNat=j:=aP h;exact⟨by rw[seqIndex_neg (by omega) h1,e],by omega,h1,by omega⟩
  ·rw[aH h1] at h;cases h
theorem LG {α:Type}{xs:List α}{i:Int}{v:α}(h:Iw xs i=some v):∃j,seqIndex? i xs.length=some j/\xs[j]?=some v/\j<xs.length/\-(xs.length:Int)<=i/\i<xs.length:=by
 unfold Iw at h;cases e:SH xs.length i with
 |none=>rw[e] at h;cases h
 |some j=>
  rw[e] at h;obtain⟨h1,h2,h3,h4⟩:=NV e;exact⟨j,h1,h,h2,h3,h4⟩
theorem Aj {α:Type}{xs:List α}{j:Nat}{v:α}(h:xs[j]?=some v):Iw xs (j:Int)=some v:=by
 have hj:j<xs.length:=(ar.mp h).1;have e:SH xs.length (j:Int)=some j:=by
  unfold SH;rw[aI (by omega),aI (by omega)];simp
 unfold Iw;rw[e];exact h
def Sm (b:Expr):Prop:=∀o i,subscripted b false o i=operate [o,i] (getItem o i)
def UN (X:Cx)(r:R2):Prop:=
 ∀(value slice:Expr) (pins:List (Addr×Obj)) (s:Shared) (σ:St) (H:Hp) (x y:V) (v u:Value) (Q:VK),Inv X pins σ H s->RelV x v->RelV y u->r x y H Q->
  subscripted slice false v u=operate [v,u] (getItem v u)->wpAny (model X.prog X.w) X.A (subscriptTail value slice v u) (EP X pins σ Q) X.xe s
def Tw (X:Cx)(id:String)(r:V->List V->Hp->VK->Prop):Prop:=
 ∀(pins:List (Addr×Obj)) (s:Shared) (σ:St) (H:Hp) (x:V) (xs:List V) (v:Value) (us:List Value) (Q:VK),Inv X pins σ H s->RelV x v->AJ xs us->r x xs H Q->
  wpAny (model X.prog X.w) X.A (call (.builtin id) (v::us)) (EP X pins σ Q) X.xe s
section
variable {X:Cx}{a b:Expr}{ta tb:TE}{pos:Pos}
theorem Ai {r:R2}(hr:UN X r)(ha:PE X a ta)(hb:PE X b tb)(hs:Sm b):PE X (.Subscript a b pos) (VP r ta tb):=by
 intro pins s σ H Q I h;exact Subscript_ (TR ha hb I h λv u s2 x y H2 I2 rx ry q=>hr a b pins s2 σ H2 x y v u Q I2 rx ry q (hs _ _))
def Vf (K:PySem.W.Frag):R2:=λx y H Q=>∃p xs i v,x=.ref p/\y=.int i/\AB K H p xs/\Iw xs i=some v/\Q v H
def Vc (K:PySem.W.Frag):R2:=λx y H Q=>∃p xs i v,x=.ref p/\y=.int i/\AD K H p xs/\Iw xs i=some v/\Q v H
def Wq:R2:=λx y H Q=>∃z i c,x=.str z/\y=.int i/\z.length<=sizeLine/\Iw z.cps.toList i=some c/\Q (.str ⟨#[c]⟩) H
theorem Ax:UN X (Vf X.K):=by
 intro value slice pins s σ H x y v u Q I rx ry h hs;obtain⟨p,xs,i,z,rfl,rfl,hq,he,q⟩:=h;cases rx;obtain⟨t,rfl⟩:=ry;obtain⟨its,r,pl,hz⟩:=I.list hq;obtain⟨j,h1,h2,h3,h4,h5⟩:=LG he;obtain⟨w,ew,rw'⟩:=r.get h2;have hl:=r.length;have hn:=HL;have fin:EP X pins σ Q w s:=⟨z,H,I,rw',q⟩
 by_cases h0:0<=i
 ·have hj:i.toNat=j:=by
   rw[seqIndex_of h0 h5] at h1;exact aP h1
  exact item_listR pl.isList h0 (by omega) (by rw[hj];simpa using ew) fin hs
 ·have hj:(i+(its.toArray.size:Int)).toNat=j:=by
   rw[seqIndex_neg (by omega) h4] at h1;rw[aN,<-hl];exact aP h1
  exact subscriptTail_builtinR (x:=w) pl.isList.typeIs slot_list_getitem.lookup
   (wpAny_getItem_list_neg (Q:=λr s'=>r=w/\EP X pins σ Q r s') pl.isList (by omega) (by rw[aN]<;>omega) (by omega) (by rw[hj];simpa using ew) ⟨rfl,fin⟩) hs
theorem Ar:UN X (Vc X.K):=by
 intro value slice pins s σ H x y v u Q I rx ry h hs;obtain⟨p,xs,i,z,rfl,rfl,hq,he,q⟩:=h;cases rx;obtain⟨t,rfl⟩:=ry;obtain⟨its,r,pl,hz⟩:=I.tuple hq;obtain⟨j,h1,h2,h3,h4,h5⟩:=LG he;obtain⟨w,ew,rw'⟩:=r.get h2;have hl:=r.length;have hn:=HL;have fin:EP X pins σ Q w s:=⟨z,H,I,rw',q⟩
 exact subscriptTail_builtinR (x:=w) pl.typeIs slot_tuple_getitem.lookup
  (getItem_tuple (j:=j) (Q:=λr s'=>r=w/\EP X pins σ Q r s') pl (by omega) (by omega) (by rw[aN,<-hl];exact h1) (by simpa using ew) ⟨rfl,fin⟩) hs
theorem K5:UN X Wq:=by
 intro value slice pins s σ H x y v u Q I rx ry h hs;obtain⟨z,i,c,rfl,rfl,hz,he,q⟩:=h;obtain⟨t,rfl⟩:=rx;obtain⟨t',rfl⟩:=ry;obtain⟨j,h1,h2,h3,h4,h5⟩:=LG he;have hl:z.cps.toList.length=z.length:=by simp[Str.length]
 rw[hl] at h1 h4 h5;have hn:=HL;exact tail_any (gr s z t) slot_str_getitem.lookup (getItem_str (c:=c) (by
  have e1:decide (i < -(2^63:Int))=false:=aO (by omega);have e2:decide (i≥2^63)=false:=aO (by omega);rw[e1,e2,Bool.or_false]) (by rw[h1];simpa using h2) ⟨.str ⟨#[c]⟩,H,I.tok _,⟨_,rfl⟩,q⟩) hs
theorem MS (its:List Value)(n j:Nat)(u:Value):Obj.mapSeq (·.setIfInBounds j u) { cls:=.type "list",data:=.seq its.toArray n }={ cls:=.type "list",data:=.seq (its.set j u).toArray n }:=by
 simp[Obj.mapSeq]
theorem Inv.lst {pins:List (Addr×Obj)}{σ:St}{H:Hp}{s:Shared}{p:Addr}{xs:List V}(I:Inv X pins σ H s)(h:H p=some (.lst xs)) :
  ∃(its:List Value) (n:Nat),AJ xs its/\s.heap.get? p=some { cls:=.type "list",data:=.seq its.toArray n }/\xs.length<=sizeLine:=by
 obtain⟨z,its,n,r,e⟩:=I.hok p _ h;exact⟨its,n,r,e,z⟩
theorem Inv.lstUpd {pins:List (Addr×Obj)} {σ:St} {H:Hp} {s:Shared} {p:Addr} {xs ys:List V} {its its':List Value} {n n':Nat} {f:Obj->Obj} (I:Inv X pins σ H s) (h:H p=some (.lst xs))
  (ho:s.heap.get? p=some { cls:=.type "list",data:=.seq its.toArray n }) (hf:f { cls:=.type "list",data:=.seq its.toArray n }={ cls:=.type "list",data:=.seq its'.toArray n' }) (r:AJ ys its') (hz:ys.length<=sizeLine) (t:Nat) :
  Inv X pins σ (upd H p (.lst ys)) { s with heap:=s.heap.update p f,toks:=t }:=by
 have e:(s.heap.update p f).get? p=some { cls:=.type "list",data:=.seq its'.toArray n' }:=by
  rw[eV f ho (by rw[hf]<;>rfl),hf]
 refine I.write (x:=p) (e:=p) (by rw[h];trivial) (.inl rfl) (λb u hb q=>(bC _ _ (Ne.symm hb)).trans q) ⟨_,e⟩ ?_;exact⟨hz,its',n',r,e⟩
def Vl:V->V->V->Hp->(Hp->Prop)->Prop:=λo i v H Q=>∃p xs k j,o=.ref p/\i=.int k/\H p=some (.lst xs)/\SH xs.length k=some j/\Q (upd H p (.lst (xs.set j v)))
theorem set_list:U4 X Vl:=by
 intro pins s σ H o i v ov iv u Q I ro ri rv h;obtain⟨p,xs,k,j,rfl,rfl,hp,hj,q⟩:=h;cases ro;obtain⟨t,rfl⟩:=ri;obtain⟨its,n,r,ho,hz⟩:=I.lst hp;obtain⟨h1,h2,h3,h4⟩:=NV hj;have hl:=r.length;have hn:=HL;have I':Inv X pins σ (upd H p (.lst (xs.set j v))) { s with heap:=s.heap.update p (Obj.mapSeq (·.setIfInBounds j u)) }:=
  I.lstUpd hp ho (MS its n j u) (r.set rv j) (by rw[List.length_set];exact hz) s.toks
 by_cases h0:0<=k
 ·have hk:k.toNat=j:=by
   rw[seqIndex_of h0 h4] at h1;exact aP h1
  exact PySem.W.ki_setAt ho h0 (by omega) (by rw[aN,<-hl];exact h4) (by rw[hk];exact⟨_,I',q⟩)
 ·have hk:(k+(its.toArray.size:Int)).toNat=j:=by
   rw[seqIndex_neg (by omega) h3] at h1;rw[aN,<-hl];exact aP h1
  exact PySem.W.ki_setBack ho (by omega) (by rw[aN,<-hl];exact h3) (by omega) (by rw[hk];exact⟨_,I',q⟩)
theorem Le (lo hi:Option Int)(n:Nat):(sliceBounds lo hi none n).1=((HT.Dk n 0 lo:Nat):Int)/\(sliceBounds lo hi none n).2.1=((HT.Dk n n hi:Nat):Int)/\(sliceBounds lo hi none n).2.2=1:=by
 refine⟨?_,?_,rfl⟩
 ·cases lo with
  |none=>simp[sliceBounds,HT.Dk]
  |some i=>
   simp only[sliceBounds,HT.Dk,Option.getD_none,show(1:Int)>0 by decide,if_true]
   by_cases h:i<0
   ·simp only[h,if_true]<;>omega
   ·simp only[h,if_false]<;>omega
 ·cases hi with
  |none=>simp[sliceBounds,HT.Dk]
  |some i=>
   simp only[sliceBounds,HT.Dk,Option.getD_none,show(1:Int)>0 by decide,if_true]
   by_cases h:i<0
   ·simp only[h,if_true]<;>omega
   ·simp only[h,if_false]<;>omega
theorem J4 (its:List Value)(lo hi:Option Int):slicePick its.toArray lo hi none=((its.drop (HT.Dk its.length 0 lo)).take (HT.Dk its.length its.length hi-HT.Dk its.length 0 lo)).toArray:=by
 obtain⟨h1,h2,h3⟩:=Le lo hi its.toArray.size;unfold slicePick;rw[h1,h2,h3];simp only[sliceRange_one,pick_run,List.size_toArray]<;>rfl
def WB (K:PySem.W.Frag):V->Option Int->Option Int->Hp->VK->Prop:=λx lo hi H Q=>∃a xs,x=.ref a/\AB K H a xs/\∀p,H p=none->Q (.ref p) (upd H p (.lst (K3 xs lo hi)))
theorem RV:VQ X (WB X.K):=by
 intro pins s σ H x v vl vu lo hi sl Q I rx hs pl pu h;obtain⟨a,xs,rfl,hx,q⟩:=h;cases rx;obtain⟨its,r,ht,hz⟩:=I.list hx;have hlen:=r.length;refine⟨"list",_,slot_list_getitem.lookup,ht.isList.typeIs,?_⟩;refine wpAny_getItem_list_slice ht.isList hs pl pu .none (by simp) ?_ (by rw[aN]<;>omega);rw[J4,<-hlen];refine⟨.ref s.heap.objs.size,_,I.laid (t':=s.toks) (o:=.lst (K3 xs lo hi)) (λb ob q=>af _ q) (ak _) ?_,rfl,q _ (I.hok.fresh (ak _))⟩;exact⟨ba (IB xs lo hi) hz,_,0,(r.drop (HT.Dk xs.length 0 lo)).take (HT.Dk xs.length xs.length hi-HT.Dk xs.length 0 lo),aJ _ rfl⟩
def GE:V->Bool
 | .non=>true
 | .bl _=>true
 | .int _=>true
 | .str _=>true
 |_=>false
def Ra:V->V->Bool
 | .non,.non=>true
 | .bl a,.bl b=>a == b
 | .bl a,.int b=>(if a then 1 else 0) == b
 | .int a,.bl b=>a == (if b then 1 else 0)
 | .int a,.int b=>a == b
 | .str a,.str b=>a == b
 |_,_=>false
theorem MP {A:Around}{s:Shared}{y x:V}{u v:Value}(ry:RelV y u)(rx:RelV x v)(fy:GE y=true)(fx:GE x=true):SeqAt.EqAt A s u v (Ra y x):=by
 cases y with
 |non=>
  cases ry;cases x with
  |non=>cases rx;exact cY _
  |bl b=>cases rx;exact SeqAt.EqAt.none_bool b
  |int b=>obtain⟨t,rfl⟩:=rx;exact SeqAt.EqAt.none_int b t
  |str b=>obtain⟨t,rfl⟩:=rx;exact SeqAt.EqAt.none_str b t
  |_=>exact absurd (show false=true from fx) aA
 |bl a=>
  cases ry;cases x with
  |non=>cases rx;exact SeqAt.EqAt.bool_none a
  |bl b=>cases rx;exact SeqAt.EqAt.bool_bool a b
  |int b=>obtain⟨t,rfl⟩:=rx;exact SeqAt.EqAt.bool_int a b t
  |str b=>obtain⟨t,rfl⟩:=rx;exact SeqAt.EqAt.bool_str a b t
  |_=>exact absurd (show false=true from fx) aA
 |int a=>
  obtain⟨t',rfl⟩:=ry;cases x with
  |non=>cases rx;exact SeqAt.EqAt.int_none a t'
  |bl b=>cases rx;exact SeqAt.EqAt.int_bool a t' b
  |int b=>obtain⟨t,rfl⟩:=rx;exact SeqAt.EqAt.int_int a t' b t
  |str b=>obtain⟨t,rfl⟩:=rx;exact fi a t' b t
  |_=>exact absurd (show false=true from fx) aA
 |str a=>
  obtain⟨t',rfl⟩:=ry;cases x with
  |non=>cases rx;exact SeqAt.EqAt.str_none a t'
  |bl b=>cases rx;exact SeqAt.EqAt.str_bool a t' b
  |int b=>obtain⟨t,rfl⟩:=rx;exact fg a t' b t
  |str b=>obtain⟨t,rfl⟩:=rx;exact SeqAt.EqAt.str_str a t' b t
  |_=>exact absurd (show false=true from fx) aA
 |_=>exact absurd (show false=true from fy) aA
def Sj (x:V)(u:Value):Bool:=match u with
 | .none=>Ra .non x
 | .bool b=>Ra (.bl b) x
 | .int i _=>Ra (.int i) x
 | .str z _=>Ra (.str z) x
 |_=>false
theorem Q8 {x y:V}{u:Value}(r:RelV y u)(f:GE y=true):Sj x u=Ra y x:=by
 cases y with
 |non=>cases r;rfl
 |bl b=>cases r;rfl
 |int i=>obtain⟨t,rfl⟩:=r;rfl
 |str z=>obtain⟨t,rfl⟩:=r;rfl
 |_=>exact absurd (show false=true from f) aA
theorem La {x:V}:∀{xs:List V} {us:List Value},AJ xs us->xs.all GE=true->us.any (Sj x)=xs.any λy=>Ra y x
 |_,_,.nil,_=>rfl
 |y::xs,u::us,.cons r t,f=>by
  rw[fL,bq] at f;rw[dN,dN,Q8 r f.1,La t f.2]
theorem Jh {A:Around}{s:Shared}{x:V}{v:Value}(rx:RelV x v)(fx:GE x=true):∀{xs:List V} {us:List Value},AJ xs us->xs.all GE=true->∀u∈us,SeqAt.EqAt A s u v (Sj x u)
 |_,_,.nil,_=>λu hu=>by cases hu
 |y::xs,u::us,.cons r t,f=>λu' hu=>by
  rw[fL,bq] at f;rcases aD.mp hu with rfl|hu
  ·rw[Q8 r f.1];exact MP r rx f.1 fx
  ·exact Jh rx fx t f.2 u' hu
def SW (x:V)(xs:List V):Bool:=xs.any λy=>Ra y x
def WD (K:PySem.W.Frag)(neg:Bool):R2:=λx y H Q=>∃p xs,y=.ref p/\(AB K H p xs\/AD K H p xs)/\GE x=true/\xs.all GE=true/\Q (.bl (if neg then !SW x xs else SW x xs)) H
theorem OL:Gq X (compareOp .In) (WD X.K false):=by
 intro pins s σ H x y v u Q I rx ry h;obtain⟨p,xs,rfl,hq,fx,fs,q⟩:=h;cases ry;rcases hq with hq|hq
 ·obtain⟨its,r,pl,hz⟩:=I.list hq;refine SeqAt.in_listAt (Sj x) pl.isList (λw hw=>Jh rx fx r fs w (by simpa using hw)) ⟨.bl _,H,I,rfl,?_⟩;rw[show its.toArray.any (Sj x)=its.any (Sj x) by simp,La r fs];exact q
 ·obtain⟨its,r,pl,hz⟩:=I.tuple hq;refine SeqAt.in_tupleAt (Sj x) pl (λw hw=>Jh rx fx r fs w (by simpa using hw)) ⟨.bl _,H,I,rfl,?_⟩;rw[show its.toArray.any (Sj x)=its.any (Sj x) by simp,La r fs];exact q
theorem A0:C7 X (.builtin "len") (λxs H Q=>∃p ys,xs=[.ref p]/\(AB X.K H p ys\/AD X.K H p ys)/\Q (.int ys.length) H):=by
 intro pins s σ H xs us Q I r h;obtain⟨p,ys,rfl,hq,q⟩:=h;obtain⟨u,rfl,rx⟩:=vals1 r;cases rx;have hn:=HL;rcases hq with hq|hq
 ·obtain⟨its,r',pl,hz⟩:=I.list hq;have hlen:=r'.length;exact Calls.call_len_list pl.isList (by simp only[List.size_toArray]<;>omega) ⟨.int ys.length,H,I.tok _,⟨s.toks+1,by rw[aN,hlen]⟩,q⟩
 ·obtain⟨its,r',pl,hz⟩:=I.tuple hq;have hlen:=r'.length;exact len_tuple pl (by simp only[List.size_toArray]<;>omega) ⟨.int ys.length,H,I.tok _,⟨s.toks+1,by rw[aN,hlen]⟩,q⟩
theorem Fg:C7 X (.builtin "len") (λxs H Q=>∃z,xs=[.str z]/\z.length<=sizeLine/\Q (.int z.length) H):=by
 intro pins s σ H xs us Q I r h;obtain⟨z,rfl,hz,q⟩:=h;obtain⟨u,rfl,t,rfl⟩:=vals1 r;have hn:=HL;exact len_str (by omega) ⟨.int z.length,H,I.tok _,⟨_,rfl⟩,q⟩
theorem C4:C7 X (.type "list") (λxs H Q=>∃p ys,xs=[.ref p]/\(AB X.K H p ys\/AD X.K H p ys)/\∀l,H l=none->Q (.ref l) (upd H l (.lst ys))):=by
 intro pins s σ H xs us Q I r h;obtain⟨p,ys,rfl,hq,q⟩:=h;obtain⟨u,rfl,rx⟩:=vals1 r;cases rx;have fin:∀(its:List Value),AJ ys its->ys.length<=sizeLine->∀(h':Heap) (c':Nat),(∀b o',s.heap.get? b=some o'->h'.get? b=some o')->
   h'.get? s.heap.objs.size=some { cls:=.type "list",dict:=none,data:=.seq its.toArray c',slots:=#[] }->EP X pins σ Q (.ref s.heap.objs.size) { s with heap:=h' }:=λits r' hz h' c' kp e=>
  ⟨.ref s.heap.objs.size,_,I.laid (t':=s.toks) kp (ak _) (show A5 X.prog X.w _ h' _ (.lst ys) from⟨hz,its,c',r',e⟩),rfl,q _ (I.hok.fresh (ak _))⟩
 rcases hq with hq|hq
 ·obtain⟨its,r',pl,hz⟩:=I.list hq;have hlen:=r'.length;obtain⟨o,ho,hc,n,hd⟩:=pl.isList;exact call_list_seq p (.inl rfl) ho hc hd (λh' c' kp e=>fin its r' hz h' c' kp e) (by simp only[List.size_toArray]<;>omega)
 ·obtain⟨its,r',pl,hz⟩:=I.tuple hq;have hlen:=r'.length;obtain⟨o,ho,hc,n,hd⟩:=pl;exact call_list_seq p (.inr rfl) ho hc hd (λh' c' kp e=>fin its r' hz h' c' kp e) (by simp only[List.size_toArray]<;>omega)
theorem BQ:C7 X (.type "tuple") (λxs H Q=>∃p ys,xs=[.ref p]/\((AB X.K H p ys/\∀l,H l=none->Q (.ref l) (upd H l (.tup ys)))\/(AD X.K H p ys/\Q (.ref p) H))):=by
 intro pins s σ H xs us Q I r h;obtain⟨p,ys,rfl,h⟩:=h;obtain⟨u,rfl,rx⟩:=vals1 r;cases rx;rcases h with⟨hq,q⟩|⟨hq,q⟩
 ·obtain⟨its,r',pl,hz⟩:=I.list hq;have hlen:=r'.length;refine call_tuple_list pl.isList (λh' kp=>?_) (by simp only[List.size_toArray]<;>omega);have I1:Inv X pins σ H { s with heap:=h' }:=I.kept (t':=s.toks) kp;have I2:Inv X pins σ (upd H h'.objs.size (.tup ys)) { s with heap:=h'.push { cls:=.type "tuple",data:=.seq its.toArray } }:=
   I1.laid (t':=s.toks) (λb o e=>af _ e) (ak _) (show A5 X.prog X.w _ _ _ (.tup ys) from⟨hz,its,r',JO.new _ _⟩)
  exact⟨.ref h'.objs.size,_,I2,rfl,q _ (I1.hok.fresh (ak _))⟩
 ·obtain⟨its,r',pl,hz⟩:=I.tuple hq;exact call_tuple_same pl ⟨.ref p,H,I,rfl,q⟩
def V3 (K:PySem.W.Frag)(T:String)(x:V)(H:Hp):Prop:=match x with
 | .str _=>T="str"
 | .int _=>T="int"
 | .ref p=>(T="list"/\∃xs,AB K H p xs)\/(T="tuple"/\∃o,K.lookup p=some o/\o.cls=.type "tuple"/\o.dict=none)\/
   (T="dict"/\((∃kvs,H p=some (.dK kvs))\/∃kvs,H p=some (.dT kvs)))\/(T="set"/\∃S n,H p=some (.set S n))
 |_=>False
theorem Rl {pins:List (Addr×Obj)}{σ:St}{H:Hp}{s:Shared}{T:String}{x:V}{v:Value}(I:Inv X pins σ H s)(r:RelV x v)(ty:V3 X.K T x H) :
  s.TypeIs v T/\∀a,v=.ref a->∃ob,s.heap.get? a=some ob/\ob.dict=none:=by
 cases x with
 |str z=>
  obtain⟨t,rfl⟩:=r;cases(show T="str" from ty);exact⟨gr s z t,λ_ e=>nomatch e⟩
 |int i=>
  obtain⟨t,rfl⟩:=r;cases(show T="int" from ty);exact⟨typeIs_int s i t,λ_ e=>nomatch e⟩
 |ref p=>
  cases r;rcases ty with⟨rfl,xs,hq⟩|⟨rfl,o,hk,hc,hd⟩|⟨rfl,hk⟩|⟨rfl,S,n,hk⟩
  ·obtain⟨its,_,pl,_⟩:=I.list hq;refine⟨pl.isList.typeIs,λa e=>?_⟩;cases e;obtain⟨o,n,e,c,hd,_⟩:=pl;exact⟨o,e,hd⟩
  ·refine⟨⟨o,I.kIn p o hk,hc⟩,λa e=>?_⟩;cases e;exact⟨o,I.kIn _ o hk,hd⟩
  ·have z:∃o,s.heap.get? p=some o/\o.ExactDict:=by
    rcases hk with⟨kvs,hk⟩|⟨kvs,hk⟩
    ·obtain⟨_,_,_,_,o,_,_,e,ex,_⟩:=I.hok p _ hk;exact⟨o,e,ex⟩
    ·obtain⟨_,_,_,_,o,_,_,e,ex,_⟩:=I.hok p _ hk;exact⟨o,e,ex⟩
   obtain⟨o,e,ex⟩:=z;refine⟨⟨o,e,ex.1⟩,λa e2=>?_⟩;cases e2;exact⟨o,e,ex.2.1⟩
  ·obtain⟨o,_,_,_,e,ex,_⟩:=I.hok p _ hk;refine⟨⟨o,e,ex.1⟩,λa e2=>?_⟩;cases e2;exact⟨o,e,ex.2.1⟩
 |_=>exact False.elim ty
def VY (K:PySem.W.Frag)(T:String)(r:V->List V->Hp->VK->Prop)(to:TE):TE:=λσ H Q=>to σ H λx H1=>V3 K T x H1/\r x [] H1 Q
def VZ (K:PySem.W.Frag)(T:String)(r:V->List V->Hp->VK->Prop)(to:TE)(t:TA):TE:=λσ H Q=>to σ H λx H1=>V3 K T x H1/\t σ H1 λxs H2=>r x xs H2 Q
variable {o e:Expr}{es:List Expr}{to:TE}{t:TA}{name:Str}{apos cpos:Pos}{T id:String}{r:V->List V->Hp->VK->Prop}
theorem UJ (pa:PlainAttrs T) (slot:Slot T name id) (hty:typeOf (.builtin id)=pure (.type "method_descriptor")) (hm:Tw X id r) (ho:PE X o to)
  (hbase:attributeBase o name X.env (eval o X.env)=eval o X.env:=by rfl) (hline:(apos.endLine == cpos.line)=true:=by rfl):PE X (.Call (.Attribute o name apos) [] [] cpos) (VY X.K T r to):=by
 intro pins s σ H Q I h;refine wpAny_Call_method0_late hbase hline (Bz (ho pins s σ H _ I h) λv s1 z9=>?_);obtain⟨x,H1,I1,r1,ty,q1⟩:=z9;obtain⟨h1,h2⟩:=Rl I1 r1 ty;exact⟨T,id,pa,slot,hty,h1,h2,Calls.callWith_builtin rfl (PySem.evalArgs_none (hm pins s1 σ H1 x [] v [] Q I1 r1 .nil q1))⟩
theorem Cf (pa:PlainAttrs T) (slot:Slot T name id) (hty:typeOf (.builtin id)=pure (.type "method_descriptor")) (hm:Tw X id r) (ho:PE X o to) (ha:PA X (e::es) t)
  (hbase:attributeBase o name X.env (eval o X.env)=eval o X.env:=by rfl)
  (hfew:((backTo cpos (starEach (e::es) X.env)).all (λx=>!x.1)&&(backToKw cpos (keywordEach [] X.env)).all (λx=>x.1.isSome)
   && decide ((e::es).length+([]:List Keyword).length+(if([]:List Keyword).isEmpty then 0 else 1)<30))=true:=by rfl)
  (hline:(apos.endLine == cpos.line)=true:=by rfl) (hs:starEach (e::es) X.env=(false,eval e X.env)::starEach es X.env:=by rfl) (hplain:(backTo cpos (starEach es X.env)).any (·.1)=false:=by rfl) :
  PE X (.Call (.Attribute o name apos) (e::es) [] cpos) (VZ X.K T r to t):=by
 intro pins s σ H Q I h;refine wpAny_Call_method_late hbase hfew hline rfl (Bz (ho pins s σ H _ I h) λv s1 z9=>?_);obtain⟨x,H1,I1,r1,ty,q1⟩:=z9;obtain⟨h1,h2⟩:=Rl I1 r1 ty;refine⟨T,id,pa,slot,hty,h1,h2,?_⟩;have hA:=ha cpos pins s1 σ H1 _ I1 q1;rw[hs] at hA ⊢;refine Calls.callWith_builtin (by show(false||(backTo cpos (starEach es X.env)).any (·.1))=false;rw[hplain]<;>rfl) (Calls.evalArgs_plain ?_);exact Bz hA λus s2 ⟨vs,H2,I2,r2,q2⟩=>hm pins s2 σ H2 x vs v us Q I2 r1 r2 q2
end
def We (X:Cx)(id:String)(r:V->List V->Hp->VK->Prop):Prop:=
 ∀(pins:List (Addr×Obj)) (s:Shared) (σ:St) (H:Hp) (x:V) (xs:List V) (v:Value) (us:List Value) (Q:VK),Inv X pins σ H s->RelV x v->AJ xs us->r x xs H Q->
  wpAny (model X.prog X.w) X.A (call (.builtin id) (v::us)) (EP X pins σ Q) X.xe s
theorem AJ.one:∀{x:V} {us:List Value},AJ [x] us->∃u,us=[u]/\RelV x u
 |_,_,.cons r .nil=>⟨_,rfl,r⟩
theorem AJ.zero:∀{us:List Value},AJ [] us->us=[]
 |_,.nil=>rfl
theorem AJ.dropLast {xs:List V}{us:List Value}(h:AJ xs us):AJ xs.dropLast us.dropLast:=by
 induction h with
 |nil=>exact .nil
 |cons r t ih=>
  cases t with
  |nil=>exact .nil
  |cons q t'=>exact .cons r ih
theorem AJ.eraseIdx:∀{xs:List V} {us:List Value} (i:Nat),AJ xs us->AJ (xs.eraseIdx i) (us.eraseIdx i)
 |_,_,_,.nil=>.nil
 |_,_,0,.cons _ t=>t
 |_,_,i+1,.cons r t=>.cons r (AJ.eraseIdx i t)
theorem AJ.reverse {xs:List V}{us:List Value}(h:AJ xs us):AJ xs.reverse us.reverse:=by
 induction h with
 |nil=>exact .nil
 |cons r t ih=>rw[List.reverse_cons,List.reverse_cons];exact AJ.append ih (.cons r .nil)
theorem M4 {α:Type}(l:List α):l.eraseIdx (l.length-1)=l.dropLast:=by
 induction l with
 |nil=>rfl
 |cons a r ih=>
  cases r with
  |nil=>rfl
  |cons b r=>
   have e:(a::b::r).length-1=((b::r).length-1)+1:=by
    have h1:(a::b::r).length=r.length+2:=rfl;have h2:(b::r).length=r.length+1:=rfl;omega
   rw[e,List.eraseIdx_cons_succ,ih]
   all_goals rfl
section
variable {X:Cx}{pins:List (Addr×Obj)}{σ:St}{H:Hp}{s:Shared}{l b:Addr}{xs ys zs:List V}
theorem Inv.lset {its its':List Value} {n:Nat} {f:Array Value->Array Value} {t':Nat} (I:Inv X pins σ H s) (hH:H l=some (.lst xs))
  (e:s.heap.get? l=some { cls:=.type "list",data:=.seq its.toArray n }) (hf:f its.toArray=its'.toArray) (hv:AJ ys its') (hz:ys.length<=sizeLine) :
  Inv X pins σ (upd H l (.lst ys)) { s with heap:=s.heap.update l (Obj.mapSeq f),toks:=t' }:=by
 have q:=PySem.IsL.update e f;rw[hf] at q;refine I.write (x:=l) (e:=l) (by rw[hH];exact trivial) (.inl rfl) (λb' u hb hu=>(bC s.heap (Obj.mapSeq f) (Ne.symm hb)).trans hu) ⟨_,q⟩ ?_;exact⟨hz,its',_,hv,q⟩
theorem Inv.lnew {its:List Value}{t':Nat}(I:Inv X pins σ H s)(hv:AJ ys its)(hz:ys.length<=sizeLine) :
  Inv X pins σ (upd H s.heap.objs.size (.lst ys)) { s with heap:=s.heap.push { cls:=.type "list",data:=.seq its.toArray },toks:=t' }:=
 I.laid (λ_ _ q=>af _ q) (ak _) ⟨hz,its,0,hv,aJ _ rfl⟩
theorem Inv.fresh (I:Inv X pins σ H s):H s.heap.objs.size=none:=I.hok.fresh (ak _)
theorem Inv.lstM (I:Inv X pins σ H s)(hH:H l=some (.lst xs)):xs.length<=sizeLine/\∃(its:List Value) (n:Nat),AJ xs its/\xs.length=its.length/\s.heap.get? l=some { cls:=.type "list",data:=.seq its.toArray n }:=by
 obtain⟨z,its,n,r,e⟩:=I.hok l _ hH;exact⟨z,its,n,r,r.length,e⟩
theorem Qa {n:Nat}(h:n<=sizeLine):Builtin.List.listTooLong n=false:=by
 unfold Builtin.List.listTooLong;exact aO (by omega)
end
section
variable {X:Cx}
def RQ:V->List V->Hp->VK->Prop:=λx vs H Q=>∃l xs y,x=.ref l/\vs=[y]/\H l=some (.lst xs)/\xs.length<sizeLine/\Q .non (upd H l (.lst (xs++[y])))
theorem Br:We X "list.append" RQ:=by
 intro pins s σ H x vs v us Q I rx rv h;obtain⟨l,xs,y,rfl,rfl,hH,hz,q⟩:=h;cases rx;obtain⟨u,rfl,ru⟩:=rv.one;obtain⟨z,its,n,r,hl,e⟩:=I.lstM hH;refine fe F.slot_list_append ⟨_,e,rfl⟩ F.entry_list_append (F.args_list_append_2 _ _) (PySem.list_append l its.toArray n u (by rw[aN];omega)) ⟨e,?_⟩;refine⟨.non,_,I.lset (its':=its++[u]) hH e (by simp) (r.append (.cons ru .nil)) ?_,rfl,q⟩;rw[au,bS];omega
def Sw:V->List V->Hp->VK->Prop:=λx vs H Q=>∃l b xs zs,x=.ref l/\vs=[.ref b]/\H l=some (.lst xs)/\H b=some (.lst zs)/\xs.length+zs.length<=sizeLine/\Q .non (upd H l (.lst (xs++zs)))
theorem Gj:We X "list.extend" Sw:=by
 intro pins s σ H x vs v us Q I rx rv h;obtain⟨l,b,xs,zs,rfl,rfl,hH,hB,hz,q⟩:=h;cases rx;obtain⟨u,rfl,ru⟩:=rv.one;cases ru;obtain⟨z,its,n,r,hl,e⟩:=I.lstM hH;obtain⟨z2,its2,n2,r2,hl2,e2⟩:=I.lstM hB;have hsz:its.toArray.size+its2.toArray.size<=sizeLine:=by rw[aN,aN];omega
 have hlong:¬(!its.toArray.isEmpty&&Builtin.List.listTooLong (its.toArray.size+its2.toArray.size))=true:=by
  rw[Qa hsz,fD];exact aA
 refine fe F.slot_list_extend ⟨_,e,rfl⟩ F.entry_list_extend (F.args_list_extend_2 _ _)
  (AutoSeq1.list_extend_list_list_0 l its.toArray n b its2.toArray n2 hlong (by rw[aN];omega) (by omega)) ⟨e,e2,?_⟩
 refine⟨.non,_,I.lset (its':=its++its2) hH e (by simp) (r.append r2) ?_,rfl,q⟩;rw[au];omega
def Wh:V->List V->Hp->VK->Prop:=λx vs H Q=>∃l xs y,x=.ref l/\vs=[]/\H l=some (.lst xs)/\xs[xs.length-1]?=some y/\Q y (upd H l (.lst xs.dropLast))
theorem T7:We X "list.pop" Wh:=by
 intro pins s σ H x vs v us Q I rx rv h;obtain⟨l,xs,y,rfl,rfl,hH,hy,q⟩:=h;cases rx;have hus:=rv.zero;subst hus;obtain⟨z,its,n,r,hl,e⟩:=I.lstM hH;obtain⟨u,hu,ru⟩:=r.get hy;have hy':its.toArray[its.toArray.size-1]?=some u:=by
  show its.toArray[its.length-1]?=some u;rw[<-cj,<-hl];exact hu
 refine fe F.slot_list_pop ⟨_,e,rfl⟩ F.entry_list_pop (F.args_list_pop_1 _) (MeetsSeq.list_pop_last l its.toArray n u hy' (by rw[aN];omega)) ⟨e,?_⟩;refine⟨y,_,I.lset (its':=its.dropLast) hH e ?_ r.dropLast ?_,ru,q⟩
 ·show its.toArray.eraseIdxIfInBounds (its.toArray.size-1)=its.dropLast.toArray;rw[aN,List.eraseIdxIfInBounds_toArray,M4]
 ·rw[List.length_dropLast];omega
end
end L2
namespace Att
open PySem PySem.W PySem.Calls PyProof.Rows
theorem IS {P:Params}{h:Heap}:∀(ns:List Int) (vs:List Value),WellAll P h vs (ns.map WData.int)->IntsAre vs ns:=by
 intro ns
 induction ns with
 |nil=>
  intro vs w;rw[bY] at w;cases w;exact .nil
 |cons n ns ih=>
  intro vs w;rw[av] at w;cases w with
  |cons a b=>
   cases a;exact .cons _ _ (ih _ b)
theorem OI {l:OpenLaw} {n:Nat} (hn:l.most=some n) {P:Params} {h:Heap} {args:List WData} {vals:List Value}
  (hpre:l.row.toRowW.claim.pre args=true) (hwl:WellAll P h vals args) :
  ∃a vs ns,vals=[Value.ref a]/\args=[WData.list (ns.map WData.int)]/\h.get? a=some { cls:=.type "list",data:=.seq vs.toArray }/\IntsAre vs ns/\ns.length<=n:=by
 have hsh:WShape.hasAll [] args [.list .int]=true:=(pre_splitW hpre).1;have hc:l.pre.holds [] { args:=args }=true:=(pre_splitW hpre).2;obtain⟨d,r,rfl,h1,h2⟩:=hasAllW_cons hsh;obtain rfl:=hasAllW_nil h2;obtain⟨xs,rfl,h3⟩:=hasW_list h1;obtain⟨ns,rfl⟩:=items_int h3;have hlen:ns.length<=n:=by
  unfold OpenLaw.pre at hc;have h4:(WTm.not (.lt (.lit (.int (n:Int))) (.len (.arg 0)))).holds [] { args:=[.list (ns.map .int)] }=true:=by
   have h4:=(holds_andW hc).1;rw[hn] at h4;exact h4
  have h5:=condW_of h4 (w_not (w_lt w_lit (w_len_list (w_arg rfl))));rw[aa] at h5;refine Nat.le_of_not_lt λq=>?_
  have q':(n:Int)<((ns.length:Nat):Int):=by omega
  first
   |(rw[aR q'] at h5;exact absurd h5 (by decide))
   |(simp at h5;omega)
 cases hwl with
 |cons w1 w2=>
  cases w2;cases w1 with
  |list ho hall=>exact⟨_,_,ns,rfl,rfl,ho,IS ns _ hall,hlen⟩
theorem OZ (l:OpenLaw)(args:List WData):l.row.toRowW.claim.post args (.bool true) args=true:=
 postW_of (r:=l.row.toRowW) (X:=(true == true))
  (show WShape.has [] (.bool true) .bool=true by first|rfl|decide|simp[WShape.has,WShape.arms,WShape.armsAll])
  (show(WTm.eq .res (.lit (.bool true))).value [] { args:=args,res:=some (.bool true),after:=args }=some (.bool (true == true)) from w_eq_bool (w_res rfl) w_lit) rfl
theorem Mi {l:OpenLaw} {n:Nat} {q:Program} {loose:List Str} {XP:(Str->Option Value)->Heap->Prop} {YP:World->Heap->Prop} {d:DefRec}
  (hn:l.most=some n) (hdf:d.params.defaults=[])
  (call:∀(w:World) (s₀ s₁:Shared) (mg mb:Str->Option Value) (fa:Addr) (o:Obj) (pm cd doc:Value) (a:Addr) (vs:List Value) (ns:List Int),
   Ground q loose [] XP w s₀ mg mb s₁.heap->YP w s₁.heap->
   s₁.heap.get? fa=some o->o.data=.func (docDef d.name d.params d.body d.scope pm cd doc)->s₁.heap.CodeRec cd d.name->mg d.name=some (.ref fa)->
   s₁.heap.get? a=some { cls:=.type "list",data:=.seq vs.toArray }->IntsAre vs ns->ns.length<=n->s₁.gens = #[]->
   codeAny (model l.prog w) callerA (.call (.ref fa) ⟨[.ref a],[]⟩) (λr s'=>r=.ok (.ret (.bool true))/\OldK s₁.heap s'.heap/\s'.os=s₁.os/\AllBare s'.gens) s₁) :
  WalkO q loose XP YP l.row.toRowW d [] (λf vs=>PySem.call f vs):=by
 intro w s₀ s₁ mg mb G Y fa o pm cd doc dV kV ho hd hcd hD hmg hg args vals as hpre hlay hrd hwl hlo;obtain rfl:dV=.none:=Dflts.none hD hdf;obtain rfl:kV=.none:=Dflts.noKw hD;obtain⟨a,vs,ns,rfl,rfl,hobj,hints,hlen⟩:=OI hn hpre hwl;refine enter_call (dw (call w s₀ s₁ mg mb fa o pm cd doc a vs ns G Y ho (fd_plain hd) hcd hmg hobj hints hlen hg) λr s' hq=>?_);obtain⟨rfl,h2,h3,h4⟩:=hq;exact⟨.inl ⟨.bool true,.bool true,[],rfl,λ_=>rfl,.bool true,OZ l _,λ_=>⟨List.Pairwise.nil,λ_ hm=>(nomatch hm)⟩⟩,h2,h3,h4⟩
end Att
namespace L2
open PySem PySem.Spec PyProof.Rows
theorem Kv:∀{vs:List Value} {ns:List Int},IntsAre vs ns->AJ (ns.map V.int) vs
 |_,_,.nil=>.nil
 |_,_,.cons n t h=>.cons ⟨t,rfl⟩ (Kv h)
def T4 (H:Hp):Prop:=∀b,H b=none\/∃o xs,H b=some (.frz o (.lst xs))
theorem Qw {P:Program} {w:World} {K:PySem.W.Frag} {mg mb:Str->Option Value} {CX:Nb} {k:Nat} {fa a:Addr} {fd:FuncData} {x:Str} {sp:Sp} {s₁:Shared} {vs:List Value} {ns:List Int}
  (KX:K.In s₁.heap) (hns:s₁.heap.Ns mainGlobals mg) (hb:s₁.heap.Ns builtinsNs mb) (hbb:∀x:Str,x≠"__name__"->mb x=bootBuiltins x) (hlim:s₁.heap.NoLimit) (hg:s₁.gens = #[])
  (ha:s₁.heap.get? a=some { cls:=.type "list",data:=.seq vs.toArray }) (hi:IntsAre vs ns) (hl:ns.length<=sizeLine) (hr:Room k callerA)
  (F:∀base:Heap,K.In base->base.Ns mainGlobals mg->FnOk P w K mg base CX k fa fd [x] sp) (hbind:∀(s:Shared) (u:Value),BindsTo s fd ⟨[u],[]⟩ [(x,u)])
  (hsp:∀H:Hp,T4 H->AB K H a (ns.map V.int)->sp [.ref a] H (λv _=>v=.bl true) λ_ _ _=>False)
  (hCX:∀H e s',CX [] H s₁ (λ_ _ _=>False) e s'->False) :
  codeAny (model P w) callerA (.call (.ref fa) ⟨[.ref a],[]⟩) (λr s'=>r=.ok (.ret (.bool true))/\OldK s₁.heap s'.heap/\s'.os=s₁.os/\AllBare s'.gens) s₁:=by
 have rv:=Kv hi;have lenV:=hi.length;have core:∀H:Hp,T4 H->AB K H a (ns.map V.int)->Gx P w H s₁.heap->(∀b,H b≠none->b=a)->(H a≠none->K.lookup a=none)->
   codeAny (model P w) callerA (.call (.ref fa) ⟨[.ref a],[]⟩) (λr s'=>r=.ok (.ret (.bool true))/\OldK s₁.heap s'.heap/\s'.os=s₁.os/\AllBare s'.gens) s₁:=by
  intro H hO hS hok hA hK;have base_of:∀{b:Addr} {o:Obj},s₁.heap.get? b=some o->H b=none->(K7 s₁.heap H).get? b=some o:=λe n=>QN e n
  have noA:∀{b:Addr} {o:Obj} {es:Array DictEntry} {ep:Nat},s₁.heap.get? b=some o->o.data=.dict es ep->H b=none:=λ{b o es ep} e d=>by
   cases q:H b with
   |none=>rfl
   |some u=>
    have e':b=a:=hA b (by rw[q];simp);subst e';rw[ha] at e;cases e;have d':Data.seq vs.toArray _=Data.dict es ep:=d;cases d'
  have nsK:∀{b:Addr} {m:Str->Option Value},s₁.heap.Ns b m->(K7 s₁.heap H).Ns b m:=λ{b m} ⟨o,es,ep,e,d,r⟩=>⟨o,es,ep,base_of e (noA e d),d,r⟩
  have hKb:K.In (K7 s₁.heap H):=λb o e=>base_of (KX b o e) (by
   cases q:H b with
   |none=>rfl
   |some u=>
    have e':b=a:=hA b (by rw[q];simp);subst e';rw[hK (by rw[q];simp)] at e;cases e)
  have hM:Mod K mg (K7 s₁.heap H):=⟨hKb,nsK hns,⟨mb,nsK hb,hbb⟩,let⟨mc,h1,h2⟩:=hlim;⟨mc,nsK h1,h2⟩⟩
  have e0:Env0 P w K mg (K7 s₁.heap H) callerA [] s₁ H:=⟨rfl,hM,λb o e=>R5 e,dZ (OF _ _),trivial,λb hb=>absurd (show b∈([]:List Addr) from hb) (by simp),hok,.of_eq hg⟩
  refine dw ((F _ hKb (nsK hns)).run callerA [] s₁ H ⟨[.ref a],[]⟩ [.ref a] [.ref a] _ _ hr e0 (hbind s₁ (.ref a)) (.cons rfl .nil) (hsp H hO hS)) λr s' h=>?_
  cases r with
  |error e=>exact(hCX H e s' h).elim
  |ok fl=>
   cases fl with
   |next=>exact False.elim h
   |brk=>exact False.elim h
   |cont=>exact False.elim h
   |ret u=>
    obtain⟨v,H',os,bare,un,hok',r',q⟩:=h;have q':v=.bl true:=q;subst q';obtain rfl:u=Value.bool true:=r';refine⟨rfl,OldK.of_keep λb o e=>?_,os,bare⟩;cases q:H b with
    |none=>exact un.keep b o e q (by intro z;exact absurd (show b∈([]:List Addr) from z) (by simp)) (by simp)
    |some u=>
     rcases hO b with z|⟨ob,xs,z⟩
     ·rw[q] at z;cases z
     ·have z2:=un.frzs b ob _ z;obtain⟨e1,_⟩:=hok b _ z;obtain⟨e2,_⟩:=hok' b _ z2;rw[e] at e1;cases e1;exact e2
 cases hk:K.lookup a with
 |some o=>
  have e:=KX a o hk;rw[ha] at e;cases e;refine core (λ_=>none) (λ_=>.inl rfl) (.inr ⟨_,vs.toArray,_,hk,rfl,rfl,rfl,by rw[aN,lenV];exact hl,by simpa using rv⟩) (λb u z=>by have z':(none:Option HO)=some u:=z;cases z') (λb z=>absurd rfl z) λz=>absurd rfl z
 |none=>
  refine core (λb=>if b=a then some (.frz { cls:=.type "list",data:=.seq vs.toArray } (.lst (ns.map V.int))) else none) (λb=>?_) (.inl (.inr ⟨{ cls:=.type "list",data:=.seq vs.toArray },aI rfl⟩)) (λb u z=>?_) (λb z=>?_) λ_=>hk
  ·by_cases hb:b=a
   ·exact .inr ⟨_,_,aI hb⟩
   ·exact .inl (aH hb)
  ·by_cases hb:b=a
   ·have z':=(aI hb).symm.trans z;cases z';subst hb;exact⟨ha,by rw[aa];exact hl,vs,_,rv,ha⟩
   ·have z':=(aH hb).symm.trans z;cases z'
  ·by_cases hb:b=a
   ·exact hb
   ·exact absurd (aH hb) z
theorem Sr {l:PySem.W.OpenLaw} {n k:Nat} {q:Program} {loose:List Str} {XP:(Str->Option Value)->Heap->Prop} {YP:World->Heap->Prop} {d:DefRec} {K:Params->PySem.W.Frag} {CX:World->Nb} {sp:World->Sp} {x:Str}
  (hn:l.most=some n) (hn2:n<=sizeLine) (hdf:d.params.defaults=[]) (hr:Room k callerA)
  (hY:∀(w:World) (h:Heap),YP w h->(K w.params).In h)
  (F:∀(w:World) (mg:Str->Option Value) (fa:Addr) (h:Heap),(K w.params).In h->h.Ns mainGlobals mg->mg d.name=some (.ref fa)->
   ∃fd:FuncData,(∀(s:Shared) (u:Value),BindsTo s fd ⟨[u],[]⟩ [(x,u)])/\
    ∀base:Heap,(K w.params).In base->base.Ns mainGlobals mg->FnOk l.prog w (K w.params) mg base (CX w) k fa fd [x] (sp w))
  (hsp:∀(w:World) (H:Hp) (a:Addr) (ns:List Int),ns.length<=n->T4 H->AB (K w.params) H a (ns.map V.int)->sp w [.ref a] H (λv _=>v=.bl true) λ_ _ _=>False)
  (hCX:∀(w:World) (H:Hp) (s:Shared) (e:Value) (s':Shared),CX w [] H s (λ_ _ _=>False) e s'->False) :
  PySem.W.WalkO q loose XP YP l.row.toRowW d [] (λf vs=>PySem.call f vs):=by
 refine Att.Mi hn hdf λw s₀ s₁ mg mb fa o pm cd doc a vs ns G Y ho hd hcd hmg hobj hints hlen hg=>?_
 have KX:=hY w _ Y;obtain⟨fd,hb,hF⟩:=F w mg fa _ KX G.T.g hmg;exact Qw KX G.T.g G.T.b G.T.builtins G.T.nolimit hg hobj hints (ba hlen hn2) hr hF hb (λH hO hS=>hsp w H a ns hlen hO hS) λH e s'=>hCX w H s₁ e s'
def inClass (s:Stmt)(j:Nat):Stmt:=match s with
 | .ClassDef _ _ _ body _ _ _ _ _ _ _=>body.getD j (.Pass ⟨0,0,0,0⟩)
 |_=>.Pass ⟨0,0,0,0⟩
def Ay (s:Stmt):Arguments:=match s with
 | .FunctionDef _ a _ _ _ _ _ _ _ _=>a
 |_=>{ posonlyargs:=[],args:=[],vararg:=none,kwonlyargs:=[],kw_defaults:=[],kwarg:=none,defaults:=[] }
def Au (s:Stmt):List Stmt:=match s with
 | .FunctionDef _ _ b _ _ _ _ _ _ _=>b
 |_=>[]
def Ag (s:Stmt):Scope:=match s with
 | .FunctionDef _ _ _ _ _ _ sc _ _ _=>sc
 |_=>{ kind:=.function,names:=[],isGenerator:=false,isCoroutine:=false }
abbrev CU:Nb:=λ_ _ _ _ _ _=>False
abbrev E0:XK:=λ_ _ _=>False
theorem Oj {X:Cx}:EJ CU X E0:=λ_ _ _ _ _ _ _ h=>h.elim
structure Fun (K:PySem.W.Frag) (x qual:Str) (st:Stmt) (f:Addr) (fd:FuncData):Prop where
 ex:∃(oc:Value) (od:Option Addr) (kV doc pm:Value) (an:Option Addr) (cdv ct:Value) (osl:Array (Option Value)),
  fd=PySem.W.fnOf x qual (Ay st) (Au st) (Ag st) .none kV doc pm an cdv ct/\K.lookup f=some ⟨oc,od,.func fd,osl⟩/\PySem.W.codeIn K cdv qual=true
 kp:PySem.W.keepIn K (.ref f)=true
section
variable {P:Program}{w:World}{K:PySem.W.Frag}{mg:Str->Option Value}{base:Heap}
theorem Fun.ok {x qual:Str} {st:Stmt} {f:Addr} {fd:FuncData} {N ps:List Str} {k:Nat} {sp:Sp} (F:Fun K x qual st f fd) (S:FnScope N ps (Ag st)) (len:∀vs H Q E,sp vs H Q E->vs.length=ps.length)
  (hbody:∀(cdv:Value) (A:Around) (outer:List Env) (s:Shared) (H:Hp) (vs:List V) (Q:VK) (E:XK),Room k (A.deeper (envOfC qual (Ag st) s.heap.objs.size f cdv))->sp vs H Q E->
   ∃t,KU (Bw CU P w K mg base N qual (Ag st) f cdv A outer s H E).nox (Au st) t/\t { nx:=λ_ H'=>Q .non H',rt:=Q } (start N vs) H):FnOk P w K mg base CU (k+1) f fd ps sp:=by
 obtain⟨oc,od,kV,doc,pm,an,cdv,ct,osl,rfl,lk,hcd⟩:=F.ex;refine Tc lk hcd S len λA outer s H vs Q E hr hsp=>?_
 obtain⟨t,h,q⟩:=hbody cdv A outer s H vs Q E hr hsp;exact⟨t,h.nox,q⟩
theorem Fun.binds {x qual:Str} {st:Stmt} {f:Addr} {fd:FuncData} {ps:List Str} (F:Fun K x qual st f fd)
  (h:∀(kV doc pm:Value) (an:Option Addr) (cdv ct:Value) (us:List Value),us.length=ps.length->bindArgs (PySem.W.fnOf x qual (Ay st) (Au st) (Ag st) .none kV doc pm an cdv ct) ⟨us,[]⟩=pure (ps.zip us)):Binds K fd ps []:=by
 obtain⟨oc,od,kV,doc,pm,an,cdv,ct,osl,rfl,lk,hcd⟩:=F.ex;exact .all (h kV doc pm an cdv ct)
theorem AK {x qual:Str} {st:Stmt} {f:Addr} {oc:Value} {od an:Option Addr} {osl:Array (Option Value)} {kV doc pm cdv ct:Value} (l:K.lookup f=some ⟨oc,od,.func (PySem.W.fnOf x qual (Ay st) (Au st) (Ag st) .none kV doc pm an cdv ct),osl⟩)
  (c:PySem.W.codeIn K cdv qual=true) (k:PySem.W.keepIn K (.ref f)=true):Fun K x qual st f (PySem.W.fnOf x qual (Ay st) (Au st) (Ag st) .none kV doc pm an cdv ct):=⟨⟨oc,od,kV,doc,pm,an,cdv,ct,osl,rfl,l,c⟩,k⟩
end
theorem Cp {A:Around}{k:Nat}(hr:Room k A):A.units+1<cLine:=Nat.lt_of_le_of_lt (Nat.add_le_add_left (by decide:1<=64) _) hr.units
section
variable {X:Cx}
theorem pv (i:Nat) {x:Str} {pos:Pos} (hN:X.N[i]?=some x:=by rfl) (hv:Wx X.env.scope x:=by first|exact Or.inl rfl|exact Or.inr (Or.inl rfl)|exact Or.inr (Or.inr rfl)) (hd:(x == ("__debug__":Str))=false:=by decide)
  (hcd:(x == ("__classdict__":Str))=false:=by decide):PE X (.Name x pos) (O9 i):=Uk hN hv hd hcd
end
theorem DN {c A B:Prop}[Decidable c](h1:c->A)(h2:¬c->B):if c then A else B:=by
 by_cases h:c
 ·rw[aI h];exact h1 h
 ·rw[aH h];exact h2 h
def Al (H H':Hp):Prop:=∀b o,H b=some o->H' b=some o
theorem Al.refl (H:Hp):Al H H:=λ_ _ h=>h
theorem Al.trans {H H1 H2:Hp}(a:Al H H1)(b:Al H1 H2):Al H H2:=λc o h=>b c o (a c o h)
theorem Al.free {H H':Hp}(e:Al H H'){l:Addr}(h:H' l=Option.none):H l=Option.none:=by
 cases q:H l with
 |none=>rfl
 |some o=>
  rw[e l o q] at h;cases h
theorem Al.seq {K:PySem.W.Frag}{H H':Hp}{a:Addr}{xs:List V}(e:Al H H')(h:AB K H a xs):AB K H' a xs:=by
 rcases h with(h|⟨o,h⟩)|h
 ·exact .inl (.inl (e _ _ h))
 ·exact .inl (.inr ⟨o,e _ _ h⟩)
 ·exact .inr h
end L2
set_option maxHeartbeats 1000000
namespace L2
open PySem PySem.Spec PyProof.Rows
section
variable {prog:Program}{w:World}{A:Around}{env:Env}{elt target iter:Expr}{ifs:List Expr}{scope:Scope}{pos:Pos}{it acc:Value}
abbrev Sv (env:Env)(ifs:List Expr):Sem Bool:=forIn ifs true λc r=>(if r=true then(do let ok <-isTrue c env (eval c env);pure (ForInStep.yield ok)) else pure (ForInStep.yield r))
abbrev Os (prog:Program)(w:World)(A:Around)(env:Env)(elt target:Expr)(ifs:List Expr)(it acc:Value)(Ee:Value->Shared->Prop)(over on:Shared->Prop):Shared->Prop:=
 wpAny (model prog w) A (pyNext it) (fun|none,s1=>over s1|some v,s1=>wpAny (model prog w) A (letOwnedTupleGo target it v) (λ_ s2=>wpAny (model prog w) A (assign target env v) (λ_ s3=>wpAny (model prog w) A (Sv env ifs) (λok s4=>
  if ok=true then wpAny (model prog w) A (eval elt env) (λx s5=>wpAny (model prog w) A (call (.builtin "list.append") [acc,x]) (λ_=>on) (λ_ _=>False) s5) Ee s4 else on s4) Ee s3) Ee s2) (λ_ _=>False) s1) (λ_ _=>False)
theorem L1 {R:Result->Shared->Prop} {Ee:Value->Shared->Prop} (I:Nat->Shared->Prop) (hE:∀x s,Ee x s->notedBy (model prog w) A env (λx s=>R (.error x) s) x s)
  (turn:∀n s,I n s->Os prog w A env elt target ifs it acc Ee (R (.ok .next)) (λs'=>∃m,m<n/\I m s') s) (n:Nat) {s:Shared} (h:I n s) :
  codeAny (model prog w) A (.compLoop (.ListComp elt [⟨target,iter,ifs,0⟩] scope pos) 0 it acc env) R s:=by
 have none':∀{Z:Value->Shared->Prop} (x:Value) (s:Shared),False->Z x s:=λ_ _ z=>z.elim
 refine codeAny_loop rfl I (λk s1 h1=>?_) n h
 change wpAny _ A ((compTurn (.ListComp elt [⟨target,iter,ifs,0⟩] scope pos) 0 it acc env).onRaise (λx=>do noteFrame x env;theTreesLotGoes x)) _ _ s1
 refine wpAny_noted ?_;rw[compTurn_list];refine ae (cR (ae (bo (turn k s1 h1) (λr s2 h2=>?_) none')))
 match r,h2 with
 |none,h2=>exact ao h2
 |some v,h2=>
  refine ae (bo h2 (λ_ s3 h3=>ae (bo h3 (λ_ s4 h4=>ae (bo h4 (λok s5 h5=>?_) hE)) hE)) none')
  match ok,h5 with
  |false,h5=>exact ao ⟨rfl,h5⟩
  |true,h5=>exact ae (ae (bo h5 (λx s6 h6=>ae (bo h6 (λ_ s7 h7=>ao (ao ⟨rfl,h7⟩)) none')) hE))
theorem Nr {R:Result->Shared->Prop}(I:Nat->Shared->Prop)(turn:∀n s,I n s->Os prog w A env elt target ifs it acc (λ_ _=>False) (R (.ok .next)) (λs'=>∃m,m<n/\I m s') s)(n:Nat){s:Shared}(h:I n s) :
  codeAny (model prog w) A (.compLoop (.ListComp elt [⟨target,iter,ifs,0⟩] scope pos) 0 it acc env) R s:=L1 I (λ_ _ z=>z.elim) turn n h
end
def OW (X:Cx)(ifs:List Expr)(t:TT):Prop:=
 ∀(pins:List (Addr×Obj)) (s:Shared) (σ:St) (H:Hp) (Q:Bool->Hp->Prop),Inv X pins σ H s->t σ H Q->
  wpAny (model X.prog X.w) X.A (forIn ifs true λc r=>if r=true then do let ok <-isTrue c X.env (eval c X.env);pure (ForInStep.yield ok) else pure (ForInStep.yield r)) (TP X pins σ Q) X.xe s
def L8:TT:=λ_ H Q=>Q true H
theorem AW {X:Cx}:OW X [] L8:=λ_ _ _ H _ I h=>wpAny_tests_nil ⟨H,I,h⟩
theorem Dc {X:Cx}{c:Expr}{t:TT}(h:PT X c t):OW X [c] t:=λpins s σ H Q I q=>wpAny_tests_one (h pins s σ H Q I q)
def BR (X:Cx)(scope:Scope)(cl:List (Str×Addr))(N:List Str)(C:Addr)(s:Shared)(H:Hp)(fp:List Addr):Cx:=
 { prog:=X.prog,w:=X.w,K:=X.K,mg:=X.mg,base:=X.base,A:=X.A,N:=N,s₀:=s,H₀:=H,env:=compEnvC scope cl C X.env,outer:=X.stack,stack:=X.stack,ex:=fp,fn:=λ_=>false,calm:=X.calm,pn:=[],xe:=λ_ _=>False }
def stC (fr:List (Option Nat))(σ:St):St:=fr.map λo=>o.bind λi=>(σ[i]?).bind id
def Df (fr:List (Option Nat))(g:TG)(tt:TT)(te:TE)(σ:St)(Q:VK)(J:It)(H1:Hp):Prop:=∀l,H1 l=none->∃W:Nat->Nat->St->Hp->Prop,(∃m,W 0 m (stC fr σ) (upd H1 l (.lst [])))/\∀i m σ H,W i m σ H->
 (J.stop i H/\Q (.ref l) H)\/(J.go i H/\∀x H',J.yld i H x H'->g x σ H' λσ2 H2=>tt σ2 H2 λb H3=>if b=true then te σ2 H3 λv H4=>∃xs,H4 l=some (.lst xs)/\xs.length<sizeLine/\∃m',m'<m/\W (i+1) m' σ2 (upd H4 l (.lst (xs++[v])))
  else ∃m',m'<m/\W (i+1) m' σ2 H3)
def MD (fr:List (Option Nat))(wi:TI)(g:TG)(tt:TT)(te:TE):TE:=λσ H Q=>wi σ H (Df fr g tt te σ Q)
def He (XN:List Str)(xs sc:Scope)(N:List Str)(fr:List (Option Nat)):Bool:=
 decide (sc.kind=.function)&&decide (fr.length=N.length)&&(sc.names.all λy=>!decide (y.2=.cell))&&(sc.names.all λy=>!decide (y.2=.local)||decide (sc.names.lookup y.1=some .local)) &&
 (sc.names.all λy=>!decide (y.2=.free)||(decide (xs.names.lookup y.1=some .cell)||decide (xs.names.lookup y.1=some .free))) &&
 ((N.zip fr).all λp=>match p.2 with|none=>true|some i=>decide (XN[i]?=some p.1)&&decide (sc.names.lookup p.1=some .free))
def NH (cells:List (Str×Addr)):List (Str×Addr)->Prop
 |[]=>True
 |p::r=>cells.lookup p.1=some p.2/\NH cells r
theorem NH.get {cells:List (Str×Addr)}:∀{cl:List (Str×Addr)},NH cells cl->∀{x:Str} {c:Addr},cl.lookup x=some c->cells.lookup x=some c
 |[],_,_,_,h=>by cases h
 |(y,d)::r,k,x,c,h=>by
  rw[dk] at h;cases e:x == y with
  |true=>
   rw[e] at h;cases h;rw[eq_of_beq e];exact k.1
  |false=>
   rw[e] at h;exact NH.get k.2 h
def IE (cl:List (Str×Addr)):List (Str×NameKind)->Prop
 |[]=>True
 |p::r=>(p.2=.free->∃c,cl.lookup p.1=some c)/\IE cl r
theorem IE.get {cl:List (Str×Addr)}:∀{ns:List (Str×NameKind)},IE cl ns->∀y∈ns,y.2=.free->∃c,cl.lookup y.1=some c
 |[],_,_,h=>by cases h
 |p::r,k,y,h=>by
  rcases aD.mp h with rfl|h
  ·exact k.1
  ·exact IE.get k.2 y h
theorem FJ {env:Env}:∀{names:List (Str×NameKind)} {x:Str} {k:NameKind},(names.map λ(n,k)=>if(k == NameKind.free&&env.scope.kind == .function&&env.kindOf n == some .cell) then(n,NameKind.cell) else(n,k)).lookup x=some k->
  names.lookup x=some k\/(k=.cell/\names.lookup x=some .free)
 |[],_,_,h=>by cases h
 |(n,k0)::r,x,k,h=>by
  have ih:=@FJ env r x k
  by_cases hc:(k0 == NameKind.free&&env.scope.kind == .function&&env.kindOf n == some .cell)=true
  ·simp only[List.map_cons,if_pos hc,List.lookup_cons] at h;rw[dk];cases e:x == n with
   |true=>
    rw[e] at h;cases h;simp only[Bool.and_eq_true] at hc;have:k0=.free:=by simpa using hc.1.1
    exact .inr ⟨rfl,by rw[this]⟩
   |false=>rw[e] at h;exact ih h
  ·simp only[List.map_cons,if_neg hc,List.lookup_cons] at h;rw[dk];cases e:x == n with
   |true=>rw[e] at h;exact .inl h
   |false=>rw[e] at h;exact ih h
theorem G0 {env:Env}:∀{names:List (Str×NameKind)} {x:Str},names.lookup x=some .free->
  (names.map λ(n,k)=>if(k == NameKind.free&&env.scope.kind == .function&&env.kindOf n == some .cell) then(n,NameKind.cell) else(n,k)).lookup x=some .cell\/
  (names.map λ(n,k)=>if(k == NameKind.free&&env.scope.kind == .function&&env.kindOf n == some .cell) then(n,NameKind.cell) else(n,k)).lookup x=some .free
 |[],_,h=>by cases h
 |(n,k0)::r,x,h=>by
  have ih:=@G0 env r x;rw[dk] at h
  by_cases hc:(k0 == NameKind.free&&env.scope.kind == .function&&env.kindOf n == some .cell)=true
  ·simp only[List.map_cons,if_pos hc,List.lookup_cons];cases e:x == n with
   |true=>exact .inl rfl
   |false=>rw[e] at h;exact ih h
  ·simp only[List.map_cons,if_neg hc,List.lookup_cons];cases e:x == n with
   |true=>rw[e] at h;exact .inr h
   |false=>rw[e] at h;exact ih h
section
variable {X:Cx}
theorem Kx (N:List Str) (fr:List (Option Nat)) {elt tg iter:Expr} {ifs:List Expr} {scope:Scope} {pos fpos:Pos} {wi:TI} {g:TG} {tt:TT} {te:TE} {cl:List (Str×Addr)}
  (hc:X.calm=true) (hi:PI X tg iter wi) (hchk:He X.N X.env.scope scope N fr=true) (hclos:closureFor scope X.env=pure cl) (hcl:NH X.env.cells cl) (hall:IE cl scope.names)
  (hb:∀(C:Addr) (s:Shared) (H:Hp) (fp:List Addr),PG (BR X scope cl N C s H fp) tg g/\OW (BR X scope cl N C s H fp) ifs tt/\PE (BR X scope cl N C s H fp) elt te)
  (hs:∀x,foldedSetIterable iter X.env x=pure x) {pins:List (Addr×Obj)} {s:Shared} {σ:St} {H:Hp} {Q:VK} {use:Option (Value->Sem Unit)} {Qc:Value->Shared->Prop} (I:Inv X pins σ H s) (h:MD fr wi g tt te σ H Q)
  (hfin:∀(l:Addr) (H':Hp) (s':Shared) (C:Addr),Inv X pins σ H' s'->Kd X pins H' C->(∃m,s'.heap.Ns C m)->Q (.ref l) H'->compPost (model X.prog X.w) X.A X.xe use Qc (.ref l) C (.ok .next) s') :
  wpAny (model X.prog X.w) X.A (comprehension (.ListComp elt [⟨tg,iter,ifs,0⟩] scope pos) scope X.env fpos (newList []) (firstAsync [⟨tg,iter,ifs,0⟩]) (firstIter [⟨tg,iter,ifs,0⟩] X.env) use) Qc X.xe s:=by
 simp only[He,Bool.and_eq_true,decide_eq_true_eq,List.all_eq_true,Bool.or_eq_true,Bool.not_eq_true',decide_eq_false_iff_not] at hchk;obtain⟨⟨⟨⟨⟨hkind,hlen⟩,hcell⟩,hnames⟩,hfree⟩,hfr⟩:=hchk;have hnames':∀x∈scope.names,x.2=.local->scope.names.lookup x.1=some .local:=λy hy e=>(hnames y hy).resolve_left λz=>z e
 have hcell':∀x∈scope.names,x.2≠.cell:=λy hy=>hcell y hy
 refine wpAny_comprehension_free (use:=use) rfl hs hclos hkind hnames' (Bz (hi pins s σ H _ I h) λv s1 h1=>Bz h1 λitv s2 h2=>?_);obtain⟨it,fp,tn,J,H2,e,I2,T,st2,f2,hQ⟩:=h2;subst e;refine bR (hd:=by size_fits) (wpAny_newFunctionEnv hcell' (by intro y hy;simp at hy) (λh₁ hns hsb=>?_) hkind);dsimp only at hns hsb ⊢;obtain⟨W,⟨m0,w0⟩,turn⟩:=hQ s2.heap.objs.size I2.fresh;have I3:Inv X pins σ (upd H2 s2.heap.objs.size (.lst [])) { s2 with heap:=s2.heap.push { cls:=.type "list",data:=.seq ([]:List Value).toArray },toks:=s2.toks }:=I2.lnew (its:=[]) .nil (bg _);generalize hh3:s2.heap.push { cls:=.type "list",dict:=none,data:=.seq ([]:List Value).toArray }=h3 at hns hsb ⊢;rw[show s2.heap.push { cls:=.type "list",data:=.seq ([]:List Value).toArray }=h3 from hh3] at I3;generalize hH3:upd H2 s2.heap.objs.size (.lst [])=H3 at I3 w0;generalize hl:s2.heap.objs.size=l at turn hH3 ⊢;have hl3:l<h3.objs.size:=by rw[<-hh3,<-hl,bL];exact cH _
 generalize hs3:({ s2 with heap:=h3,toks:=s2.toks }:Shared)=s3 at I3;have es3:s3.heap=h3:=by rw[<-hs3]
 have eos:s3.os=s2.os:=by rw[<-hs3]
 have egens:s3.gens=s2.gens:=by rw[<-hs3]
 generalize hC:h3.objs.size=C at hns hsb ⊢;have old:∀b o,h3.get? b=some o->h₁.get? b=some o:=λb o e=>
  hsb.extBut b o (by rw[<-hC];exact aS (aG e)) (af _ e)
 have f3:∀b∈fp,Kd X pins H3 b:=λb hb=>by
  obtain⟨g0,g1⟩:=f2 b hb;refine⟨?_,g1⟩;rw[<-hH3];have:b≠l:=by
   obtain⟨o,e,_⟩:=T.obj _ _ st2 b hb;rw[<-hl];exact aS (aG e)
  rw[An this];exact g0
 have st3:tn 0 h₁:=T.keep _ _ _ st2 λb hb o e=>old b o (by rw[<-hh3];exact af _ e)
 have ok:(BR X scope cl N C s3 H3 fp).Ok:=by
  refine⟨I3.ok.mod,?_,I3.ok.glob,I3.ok.blt,?_,λx y c e1 e2=>I3.ok.inj x y c (hcl.get e1) (hcl.get e2),λx hx=>?_,λx c hx=>(by cases hx),I3.ok.hd,I3.ok.frames,.inl rfl,λb hb=>?_,λb o e=>?_,?_,λb o e hb=>?_,λb hb hb2=>?_,?_,λb hb=>?_⟩
  ·exact hkind
  ·show s3.heap.objs.size<=C;rw[es3,hC];exact ak _
  ·have hx':(relabel scope X.env).names.lookup x=some .cell\/(relabel scope X.env).names.lookup x=some .free:=hx;have:scope.names.lookup x=some .free:=by
    rcases hx' with z|z
    ·rcases FJ z with q|⟨_,q⟩
     ·exact absurd rfl (hcell' _ (bH q))
     ·exact q
    ·rcases FJ z with q|⟨q,_⟩
     ·exact q
     ·cases q
   exact hall.get _ (bH this) rfl
  ·obtain⟨g0,g1,g2,g3,g4,g5⟩:=f3 b hb;obtain⟨o,e,_⟩:=T.obj _ _ st2 b hb;refine⟨?_,λx c e=>g4 x c (hcl.get e)⟩;show b≠C;rw[<-hC];exact aS (aG (by rw[<-hh3];exact af _ e))
  ·have q:=I3.bs b o e;exact q
  ·show X.base.objs.size<=s3.heap.objs.size;exact ba I3.ok.bsz I3.sz
  ·obtain⟨g0,g1,g2,g3,g4,g5⟩:=f3 b hb;rcases g3 with z|z
   ·exact I3.ok.noex b o e z
   ·exact absurd (aW (aG e) (ba I3.ok.bsz z)) (cp _)
  ·obtain⟨g0,g1,g2,g3,g4,g5⟩:=f3 b hb;rcases aD.mp (I3.stkSub b hb2) with z|z
   ·exact g1 z
   ·exact g2 z
  ·show s3.heap.FunFrames X.base X.stack;exact I3.stack
  ·exact I3.stkFree b hb
 have I4:Inv (BR X scope cl N C s3 H3 fp) [] (stC fr σ) H3 { s2 with heap:=h₁,toks:=s2.toks+([]:List (Str×Value)).length }:=by
  have hk3:∀b o,s3.heap.get? b=some o->h₁.get? b=some o:=λb o e=>old b o (by rw[<-es3];exact e)
  refine⟨ok,eos.symm▸rfl,egens▸I3.bare,Un.kept hk3,⟨_,hns,λi x v e1 e2 e3=>?_⟩,λx c e=>?_,?_,λx c e=>I3.freeC x c (hcl.get e),λp hp=>(by cases hp),I3.hok.kept hk3,?_⟩
  ·
   have e1':N[i]?=some x:=e1;have e2':(fr[i]?).map (λo=>o.bind λi=>(σ[i]?).bind id)=some (some v):=by
    have:(stC fr σ)[i]?=some (some v):=e2;rw[stC,aw] at this;exact this
   cases q:fr[i]? with
   |none=>rw[q] at e2';cases e2'
   |some o=>
    rw[q] at e2';cases o with
    |none=>cases e2'
    |some j=>
     have e2'':(σ[j]?).bind id=some v:=aP e2';obtain⟨p1,p2⟩:X.N[j]?=some x/\scope.names.lookup x=some .free:=by
      have hz:(x,some j)∈N.zip fr:=by
       have:(N.zip fr)[i]?=some (x,some j):=by
        rw[List.getElem?_zip_eq_some];exact⟨e1',q⟩
       exact aE this
      have:=hfr _ hz;simpa using this
     have hv:X.env.scope.names.lookup x=some .cell\/X.env.scope.names.lookup x=some .free:=by
      rcases hfree _ (bH p2) with z|z
      ·exact absurd rfl z
      ·simpa using z
     have e3':σ[j]?=some (some v):=by
      cases q3:σ[j]? with
      |none=>rw[q3] at e2'';cases e2''
      |some w'=>rw[q3] at e2'';have:w'=some v:=e2'';rw[this]
     obtain⟨m,hn,hl'⟩:=I3.loc;obtain⟨u,ru,lk⟩:=hl' j x v p1 e3' (.inr hv);refine⟨u,ru,.inr ⟨G0 p2,?_⟩⟩;rcases lk with⟨lk,_⟩|⟨_,c,ec,cc⟩
     ·have lk':X.env.scope.names.lookup x=some .local:=lk;rcases hv with z|z<;>(rw[z] at lk';cases lk')
     ·obtain⟨c',ec'⟩:=hall.get _ (bH p2) rfl;have:=hcl.get ec';rw[ec] at this;cases this;obtain⟨o,ho,hd⟩:=cc;exact⟨c,ec',o,hk3 _ _ ho,hd⟩
  ·obtain⟨v,o,ho,hd⟩:=I3.cell x c (hcl.get e);exact⟨v,o,hk3 _ _ ho,hd⟩
  ·show H3 C=none;exact I3.hok.fresh (by rw[es3,hC];exact ak _)
  ·show(stC fr σ).length=N.length;rw[stC,aa];exact hlen
 obtain⟨hg,ht,he⟩:=hb C s3 H3 fp;have fpc:∀{H':Hp},(∀b∈fp,H' b=none)->∀b∈fp,Kd (BR X scope cl N C s3 H3 fp) [] H' b:=λhn b hb=>by
  obtain⟨q1,q2⟩:=ok.exf b hb;exact⟨hn b hb,q1,ok.exfs b hb,.inl hb,q2,λp hp=>by cases hp⟩
 have fin:∀(σ':St) (H':Hp) (s':Shared),Inv (BR X scope cl N C s3 H3 fp) [] σ' H' s'->Q (.ref l) H'->compPost (model X.prog X.w) X.A X.xe use Qc (.ref l) C (.ok .next) s':=λσ' H' s' I' q=>by
  obtain⟨m,hn,_⟩:=I'.loc;have nC:∀b o,s3.heap.get? b=some o->b≠C:=λb o e=>by
   rw[<-hC,<-es3];exact aS (aG e)
  have fC:H' C=none:=I'.free;have u:=I'.base;refine hfin l H' s' C ?_ (I3.fpOk (by rw[es3,hC];exact ak _) fC) ⟨m,hn⟩ q;refine I3.call' (s':=s') (ch:=fp) I'.os ⟨λb o e n hb hx=>u.keep b o e n hb hx,λb o e n hb hx=>u.slot b o e n hb hx,u.free,λb o e hx=>u.there b o e hx,u.tups,u.frzs,u.tbls⟩ (λb o e=>I'.hok b o e) I'.bare λb hb=>?_
  obtain⟨g0,g1,g2,g3,g4,g5⟩:=f3 b hb;exact⟨g3,g1,g4,g5⟩
 have loop:codeAny (model X.prog X.w) X.A (.compLoop (.ListComp elt [⟨tg,iter,ifs,0⟩] scope pos) 0 (.ref it) (.ref l) (compEnvC scope cl C X.env)) (compPost (model X.prog X.w) X.A X.xe use Qc (.ref l) C)
   { s2 with heap:=h₁,toks:=s2.toks+([]:List (Str×Value)).length }:=by
  refine Nr (λn s'=>∃i σ' H',Inv (BR X scope cl N C s3 H3 fp) [] σ' H' s'/\tn i s'.heap/\(∀b∈fp,H' b=none)/\W i n σ' H') ?_ m0 ⟨0,_,H3,I4,st3,λb hb=>(f3 b hb).1,w0⟩
  rintro n s5 ⟨i,σ5,H5,I5,st5,fr5,w5⟩
  rcases turn i n σ5 H5 w5 with⟨stop,qn⟩|⟨go,step⟩
  ·refine Bz (T.done (BR X scope cl N C s3 H3 fp) rfl rfl rfl hc i [] s5 σ5 H5 (λ_ _=>False) I5 (fpc fr5) st5 stop) λr s6 ⟨hr,I6⟩=>?_
   subst hr;exact fin σ5 H5 s6 I6 qn
  ·refine Bz (T.item (BR X scope cl N C s3 H3 fp) rfl rfl rfl hc i [] s5 σ5 H5 (λ_ _=>False) I5 (fpc fr5) st5 go) λr s6 ⟨u,hr,h6⟩=>?_
   subst hr;refine Bz h6 λ_ s7 z9=>?_
   obtain⟨x,H7,I7,r7,y7,st7,fr7⟩:=z9;have I7':=I7.pinned (fpc fr7) (T.obj _ _ st7);refine Bz (hg _ s7 σ5 H7 x u _ I7' r7 (step x H7 y7)) λ_ s8 ⟨σ8,H8,I8,q8⟩=>?_
   have again:∀{σ9:St} {H9:Hp} {s9:Shared},Inv (BR X scope cl N C s3 H3 fp) ([]++JI fp s7.heap) σ9 H9 s9->(∃m',m'<n/\W (i+1) m' σ9 H9)->∃m,m<n/\∃i σ' H',Inv (BR X scope cl N C s3 H3 fp) [] σ' H' s9/\tn i s9.heap/\(∀b∈fp,H' b=none)/\W i m σ' H':=λ{σ9 H9 s9} I9 n9=>by
    obtain⟨m',hm,w9⟩:=n9;refine⟨m',hm,i+1,σ9,H9,I9.unpinned,T.keep _ _ _ st7 λb hb o e=>(I9.pin (b,o) (aK _ (aK _ (Fc hb e)))).1,λb hb=>?_,w9⟩;obtain⟨o,e,d⟩:=T.obj _ _ st7 b hb;exact(I9.pin (b,o) (aK _ (aK _ (Fc hb e)))).2.1
   refine Bz (ht _ s8 σ8 H8 _ I8 q8) λok s9 ⟨H9,I9,q9⟩=>?_
   cases ok with
   |false=>
    rw[aH aA] at q9 ⊢;exact again I9 q9
   |true=>
    rw[aI rfl] at q9 ⊢;refine Bz (he _ s9 σ8 H9 _ I9 q9) λy sa ⟨vy,Ha,Ia,ry,qa⟩=>?_
    obtain⟨xs,hla,hsz,n9⟩:=qa;refine Bz (Br _ sa σ8 Ha (.ref l) [vy] (.ref l) [y] (λ_ Hb=>∃m',m'<n/\W (i+1) m' σ8 Hb) Ia rfl (.cons ry .nil) ⟨l,xs,vy,rfl,rfl,hla,hsz,n9⟩) λ_ sb ⟨_,Hb,Ib,_,qb⟩=>?_
    exact again Ib qb
 show codeAny (model X.prog X.w) X.A (.compStart (.ListComp elt [⟨tg,iter,ifs,0⟩] scope pos) 0 (.ref it) (.ref l) (compEnvC scope cl C X.env)) (compPost (model X.prog X.w) X.A X.xe use Qc (.ref l) C) { s2 with heap:=h₁,toks:=s2.toks+([]:List (Str×Value)).length };exact codeAny_compStart_list loop (T.self _ 0 _ _ _ st3 loop)
theorem Cb (N:List Str) (fr:List (Option Nat)) {elt tg iter:Expr} {ifs:List Expr} {scope:Scope} {pos:Pos} {wi:TI} {g:TG} {tt:TT} {te:TE} {cl:List (Str×Addr)}
  (hc:X.calm=true) (hi:PI X tg iter wi) (hchk:He X.N X.env.scope scope N fr=true) (hclos:closureFor scope X.env=pure cl) (hcl:NH X.env.cells cl) (hall:IE cl scope.names)
  (hb:∀(C:Addr) (s:Shared) (H:Hp) (fp:List Addr),PG (BR X scope cl N C s H fp) tg g/\OW (BR X scope cl N C s H fp) ifs tt/\PE (BR X scope cl N C s H fp) elt te)
  (hs:∀x,foldedSetIterable iter X.env x=pure x:=by intro _;rfl) :
  PE X (.ListComp elt [⟨tg,iter,ifs,0⟩] scope pos) (MD fr wi g tt te):=by
 intro pins s σ H Q I h;rw[eval_ListComp];refine Kx N fr hc hi hchk hclos hcl hall hb hs I h λl H' s' C I' fC ⟨m,hn⟩ q=>?_
 refine⟨m,hn,λh'' hs''=>⟨.ref l,H',?_,rfl,q⟩⟩;obtain⟨f0,f1,f2,f3,f4,f5⟩:=fC;exact I'.turned (t':=s'.toks) (λb o hb e=>(hs''.2 b hb).trans e) f0 f1 f3 f4 f5
theorem GX (N:List Str) (fr:List (Option Nat)) {i:Nat} {x:Str} {elt tg iter:Expr} {ifs:List Expr} {scope:Scope} {cpos pos pos':Pos} {wi:TI} {g:TG} {tt:TT} {te:TE} {cl:List (Str×Addr)}
  (hN:X.N.Nodup) (hi':X.N[i]?=some x) (hx:Loc X.env.scope x)
  (hc:X.calm=true) (hi:PI X tg iter wi) (hchk:He X.N X.env.scope scope N fr=true) (hclos:closureFor scope X.env=pure cl) (hcl:NH X.env.cells cl) (hall:IE cl scope.names)
  (hb:∀(C:Addr) (s:Shared) (H:Hp) (fp:List Addr),PG (BR X scope cl N C s H fp) tg g/\OW (BR X scope cl N C s H fp) ifs tt/\PE (BR X scope cl N C s H fp) elt te)
  (hs:∀x,foldedSetIterable iter X.env x=pure x:=by intro _;rfl)
  (hsw:swapsWith (.ListComp elt [⟨tg,iter,ifs,0⟩] scope cpos) (some (.Name x pos')) pos.line X.env=pure true:=by rfl)
  (hf:X.fn x=true\/X.env.scope.names.lookup x=some .local:=by first|exact .inl rfl|exact .inr rfl|assumption) :
  PS X (.Assign [.Name x pos'] (.ListComp elt [⟨tg,iter,ifs,0⟩] scope cpos) pos) (QV (MD fr wi g tt te) (Aq i)):=by
 intro pins s σ H D I h;rw[exec_Assign_arm];refine ae (cR ?_);rw[show swapsWithSole [.Name x pos'] (.ListComp elt [⟨tg,iter,ifs,0⟩] scope cpos) pos.line X.env=pure true from hsw];refine ae (ao ?_);rw[aI rfl,arm_evalThenUse_ListComp];refine ae (ae ?_);have h1:MD fr wi g tt te σ H λv H1=>D.nx (σ.set i (some v)) H1:=h
 refine Kx (use:=some _) N fr hc hi hchk hclos hcl hall hb hs I h1 λl H' s' C I' fC ⟨m,hn⟩ q=>?_
 obtain⟨f0,f1,f2,f3,f4,f5⟩:=fC;obtain⟨o,es,ep,ho,hd,hk,hm⟩:=hn;have Ip:Inv X (pins++[(C,o)]) σ H' s':=I'.pins_of λp hp=>(aB.mp hp).elim (λz=>I'.pin p (aK _ z)) λz=>by
  rw[ai.mp z];exact⟨ho,f0,f1,f2,λv e=>by rw[hd] at e;cases e⟩
 show wpAny _ _ (assignAll (.ref l) [assign (.Name x pos') X.env]) _ _ _;rw[assignAll.eq_2];refine wpAny_assign_Name (DE Ip hN hi' hx (v:=.ref l) rfl (λs2 I2=>?_) hf);have ho2:=(I2.pin (C,o) (aK _ (aK _ (List.mem_singleton_self _)))).1;refine⟨m,⟨o,es,ep,ho2,hd,hk,hm⟩,λh' hs'=>ao (ao ⟨_,H',?_,q⟩)⟩;exact I2.unpinned.turned (t':=s2.toks) (λb o hb e=>(hs'.2 b hb).trans e) f0 f1 f3 f4 f5
def LP (sc:Scope):Bool:=
 decide (sc.kind=.function)&&(sc.names.all λy=>!decide (y.2=.cell))&&(sc.names.all λy=>!decide (y.2=.local)||decide (sc.names.lookup y.1=some .local))&&(sc.names.all λy=>!decide (y.2=.free))
theorem BO (N:List Str) {elt tg iter:Expr} {ifs:List Expr} {scope:Scope} {pos:Pos} {wi:TI} {g:TG} {tt:TT} {te:TE}
  (hc:X.calm=true) (hi:PI X tg iter wi) (hchk:LP scope=true)
  (hb:∀(C:Addr) (s:Shared) (H:Hp) (fp:List Addr),PG (BR X scope [] N C s H fp) tg g/\OW (BR X scope [] N C s H fp) ifs tt/\PE (BR X scope [] N C s H fp) elt te)
  (hs:∀x,foldedSetIterable iter X.env x=pure x:=by intro _;rfl) :
  PE X (.ListComp elt [⟨tg,iter,ifs,0⟩] scope pos) (MD (N.map λ_=>none) wi g tt te):=by
 simp only[LP,Bool.and_eq_true,decide_eq_true_eq,List.all_eq_true,Bool.or_eq_true,Bool.not_eq_true',decide_eq_false_iff_not] at hchk;obtain⟨⟨⟨hkind,hcell⟩,hnames⟩,hfree⟩:=hchk;refine Cb (cl:=[]) N (N.map λ_=>none) hc hi ?_ (closureFor_none λx hx=>hfree x hx) trivial ?_ hb hs
 ·simp only[He,Bool.and_eq_true,decide_eq_true_eq,List.all_eq_true,Bool.or_eq_true,Bool.not_eq_true',decide_eq_false_iff_not];refine⟨⟨⟨⟨⟨hkind,by simp⟩,hcell⟩,hnames⟩,λy hy=>.inl (hfree y hy)⟩,λp hp=>?_⟩;have:p.2∈N.map λ_=>(none:Option Nat):=(ej hp).2
  obtain⟨_,_,e⟩:=ax.mp this;rw[<-e]
 ·have:∀ns:List (Str×NameKind),(∀y∈ns,y.2≠.free)->IE [] ns:=by
   intro ns
   induction ns with
   |nil=>intro _;exact trivial
   |cons p r ih=>intro h;exact⟨λe=>absurd e (h p ay),ih λy hy=>h y (az _ hy)⟩
  exact this _ λy hy=>hfree y hy
end
def Def (P:Program)(w:World)(K:PySem.W.Frag)(mg:Str->Option Value)(base:Heap)(k:Nat)(x:Str)(ps:List Str)(sp:Sp):Prop:=
 ∃(f:Addr) (fd:FuncData),FnOk P w K mg base CU k f fd ps sp/\mg x=some (.ref f)/\PySem.W.keepIn K (.ref f)=true/\Binds K fd ps []
section
variable {X:Cx}{k:Nat}{x:Str}{ps:List Str}{sp:Sp}{e:Expr}{es:List Expr}{t:TA}{p pos:Pos}
theorem AM (D:Def X.prog X.w X.K X.mg X.base k x ps sp) (hr:Room k X.A) (hg:Gl X x) (ha:PA X (e::es) t)
  (hdb:(x == ("__debug__":Str))=false:=by decide) (he:starEach (e::es) X.env=(false,eval e X.env)::starEach es X.env:=by rfl) (hpl:(backTo pos (starEach es X.env)).any (·.1)=false:=by rfl) :
  PE X (.Call (.Name x p) (e::es) [] pos) (Oi sp [] E0 t):=by
 obtain⟨f,fd,F,hm,hk,hb⟩:=D;exact Ot F hr hg hm hk hb .nil Oj ha hdb he hpl
end
section
variable {X:Cx}
theorem C8 {x:Str}{i:Int}{pos:Pos}(hg:Gl X x)(hm:∃t,X.mg x=some (.int i t))(hd:(x == ("__debug__":Str))=false:=by decide):PE X (.Name x pos) (tC (.int i)):=by
 obtain⟨t,hm⟩:=hm;exact K6 hg hm ⟨_,rfl⟩ hd
theorem Ji {x:Str}{T:String}{pos:Pos}(hg:Gl X x)(hm:X.mg x=none)(hv:bootBuiltins x=some (.type T))(hn:x≠"__name__":=by decide)(hd:(x == ("__debug__":Str))=false:=by decide):PE X (.Name x pos) (tC (.ty T)):=RW hg hm hv rfl hn hd
theorem MH {x z:Str}{pos:Pos}(hg:Gl X x)(hm:∃t,X.mg x=some (.str z t))(hd:(x == ("__debug__":Str))=false:=by decide):PE X (.Name x pos) (tC (.str z)):=by
 obtain⟨t,hm⟩:=hm;exact K6 hg hm ⟨_,rfl⟩ hd
end
theorem AZ:bootBuiltins "isinstance"=some (.builtin "isinstance"):=by decide +kernel
theorem M9:bootBuiltins "all"=some (.builtin "all"):=by decide +kernel
theorem MZ:bootBuiltins "sum"=some (.builtin "sum"):=by decide +kernel
theorem DT:bootBuiltins "sorted"=some (.builtin "sorted"):=by decide +kernel
theorem Cs:bootBuiltins "len"=some (.builtin "len"):=by decide +kernel
theorem Tz:bootBuiltins "max"=some (.builtin "max"):=by decide +kernel
theorem TJ:bootBuiltins "min"=some (.builtin "min"):=by decide +kernel
theorem Lc:bootBuiltins "int"=some (.type "int"):=by decide +kernel
theorem PY:bootBuiltins "str"=some (.type "str"):=by decide +kernel
theorem FI:bootBuiltins "list"=some (.type "list"):=by decide +kernel
theorem Ei:bootBuiltins "tuple"=some (.type "tuple"):=by decide +kernel
theorem SM:bootBuiltins "dict"=some (.type "dict"):=by decide +kernel
theorem Uy {t c:String}{b:Bool}(h:(if(Value.type t == Value.type c)=true then some true else if PySem.W.kitMeta c=true then(fastBuiltinMro t).map (·.contains (.type c)) else none)=some b)(K:PySem.W.Frag) :
  PySem.W.kitOne K (.type t) (.type c)=some b:=h
section
variable {X:Cx}
def Wb (K:PySem.W.Frag):List V->Hp->VK->Prop:=λxs H Q=>∃x c t b,xs=[x,.ty c]/\TyOf K H x t/\PySem.W.kitOne K t (.type c)=some b/\Q (.bl b) H
theorem Eo:C7 X (.builtin "isinstance") (Wb X.K):=by
 intro pins s σ H xs us Q I r h;obtain⟨x,c,t,b,rfl,ty,e,q⟩:=h;obtain⟨u,v,rfl,ru,rv⟩:=vals2 r;have ev:v=Value.type c:=rv;subst ev;exact OJ I ru ty e λtk=>⟨.bl b,H,I.tok _,rfl,q⟩
end
def P8:V->Bool
 | .non=>true
 | .int _=>true
 | .str _=>true
 |_=>false
theorem pure_eq {x y:V}(hx:P8 x=true)(hy:P8 y=true):Ra x y=decide (x=y):=by
 cases x<;>first|exact absurd (show false=true from hx) aA|skip
 all_goals (cases y<;>first|exact absurd (show false=true from hy) aA|skip)
 ·rfl
 ·rfl
 ·rfl
 ·rfl
 ·exact Lh.symm
 ·rfl
 ·rfl
 ·rfl
 ·exact LI.symm
theorem Iz:∀{bs:List Bool} {us:List Value},AJ (bs.map V.bl) us->LSm.BoolsAre us bs
 |[],_,.nil=>.nil
 |b::bs,_,.cons r t=>by
  have e:_=Value.bool b:=r;subst e;exact .cons b (Iz t)
section
variable {prog:Program}{w:World}{A:Around}{E:Value->Shared->Prop}{s:Shared}{l:Addr}{vs:List Value}
theorem Qt {bs:List Bool} {Q:Value->Shared->Prop} (hh:A.handled=none) (hl:s.heap.IsList l vs.toArray) (hb:LSm.BoolsAre vs bs)
  (h:∀h' tk,(∀b o,s.heap.get? b=some o->h'.get? b=some o)->Q (.bool (bs.all id)) { s with heap:=h',toks:=tk }):wpAny (model prog w) A (call (.builtin "all") [.ref l]) Q E s:=by
 have below:l<s.heap.objs.size:=(λ⟨_,e,_⟩=>aG e:s.heap.IsList l vs.toArray->_) hl;have whole:((List.range vs.toArray.size).all λi=>(bs[i]?).getD true)=bs.all id:=by rw[aN,hb.length,LSm.range_all]
 exact call_all_walk (du hl ⟨s.heap.objs.size,[s.heap.objs.size,l],[s.heap.objs.size],vs.toArray.size,_,_,λi=>(bs[i]?).getD true,rfl,gu (A:=A.in1) hh _ l (aS below) vs.toArray,⟨⟨_,aJ _ rfl,rfl,rfl⟩,hl.push _⟩,
  (λi v s' Q' E' hP hQ=>by
   obtain⟨b,hg,hv⟩:=hb.get i v (by simpa using hP);have hQ':Q' b s':=by simpa [hg] using hQ
   subst hv;exact bZ hQ'),
  λh' tk hk=>whole▸h h' tk (LSm.kept_iter hk)⟩)
end
section
variable {X:Cx}
theorem Js (hc:X.calm=true):C7 X (.builtin "all") (λxs H Q=>∃(a:Addr) (bs:List Bool),xs=[.ref a]/\AB X.K H a (bs.map V.bl)/\Q (.bl (bs.all id)) H):=by
 intro pins s σ H xs us Q I r h;obtain⟨a,bs,rfl,h1,q⟩:=h;obtain⟨u,rfl,ru⟩:=vals1 r;cases ru;obtain⟨its,r1,p1,_⟩:=I.list h1;exact Qt (I.ok.hd hc) p1.isList (Iz r1) λh' tk hk=>⟨.bl _,H,I.kept hk,rfl,q⟩
theorem JN (hc:X.calm=true):C7 X (.builtin "sum") (λxs H Q=>∃(a:Addr) (ns:List Int),xs=[.ref a]/\AB X.K H a (ns.map V.int)/\Q (.int ns.sum) H):=by
 intro pins s σ H xs us Q I r h;obtain⟨a,ns,rfl,h1,q⟩:=h;obtain⟨u,rfl,ru⟩:=vals1 r;cases ru;obtain⟨its,r1,p1,_⟩:=I.list h1;have hi:=intsAre_of r1;obtain⟨zs,hz⟩:=hi.allInts.items;have due:preSum (numAt zs) zs.size=ns.sum:=by
  have:zs.toList.map (·.1)=ns:=by rw[<-nums_intItems,<-hz];exact hi.numsOf
  rw[<-this,preSum_eq,bb (by simp)]
 exact sum_intListG (I.ok.hd hc) (hz▸p1.isList) λh' tk t' hk=>⟨.int ns.sum,H,I.kept hk,⟨_,by rw[due]⟩,q⟩
def Vd (K:PySem.W.Frag):R2:=λx y H Q=>∃l b xs zs,x=.ref l/\y=.ref b/\AB K H l xs/\AB K H b zs/\xs.length+zs.length<=sizeLine/\∀p,H p=none->Q (.ref p) (upd H p (.lst (xs++zs)))
theorem Gp:Gq X (binaryOp .Add) (Vd X.K):=by
 intro pins s σ H x y v u Q I rx ry h;obtain⟨l,b,xs,zs,rfl,rfl,h1,h2,hz,q⟩:=h;cases rx;cases ry;obtain⟨its,r,p1,_⟩:=I.list h1;obtain⟨its2,r2,p2,_⟩:=I.list h2;have l1:=r.length;have l2:=r2.length;obtain⟨⟨cls,dd,data,sl⟩,ho,hc,n,hd⟩:=id p1.isList;obtain⟨⟨cls2,dd2,data2,sl2⟩,ho2,hc2,n2,hd2⟩:=id p2.isList;simp only at hc hd hc2 hd2;subst hc hd hc2 hd2;have e:its.toArray++its2.toArray=(its++its2).toArray:=by simp
 refine fz ⟨_,ho,rfl⟩ ⟨_,ho2,rfl⟩ noFill_list_add seq_list_add PySem.F.slot_list_add PySem.F.entry_list_add (PySem.F.args_list_add_2 _ _) (list_addW l b its.toArray its2.toArray n n2 dd dd2 sl sl2 (by rw[aN,aN];omega)) ⟨ho,ho2,?_⟩;rw[e];exact⟨.ref _,_,I.lnew (t':=s.toks) (r.append r2) (by rw[au];omega),rfl,q _ I.fresh⟩
end
theorem Af {H:Hp}{p:Addr}(h:H p=none)(o:HO):Al H (upd H p o):=λb u q=>by rw[An (Bm q h)];exact q
theorem AI {H H':Hp}{p:Addr}(s:Al H H')(h:H p=none)(o:HO):Al H (upd H' p o):=λb u q=>by rw[An (Bm q h)];exact s b u q
theorem Al.get {H H':Hp}{a:Addr}{o:HO}(s:Al H H')(h:H a=some o):H' a=some o:=s a o h
theorem FE:1000000<=sizeLine:=by decide
theorem small {n:Nat}(h:n<=1000000):n<=sizeLine:=ba h FE
theorem Bh {n:Nat}(h:n<1000000):n<sizeLine:=aW h FE
theorem C5 {ns:List Int}{i:Int}(h0:0<=i)(h1:i<ns.length):Iw (ns.map V.int) i=some (.int (ns.getD i.toNat 0)):=by
 have hk:i.toNat<ns.length:=by omega
 have ek:i=((i.toNat:Nat):Int):=by omega
 have q:Iw (ns.map V.int) ((i.toNat:Nat):Int)=some (.int (ns.getD i.toNat 0)):=Aj (by rw[aw,ah hk];simp[List.getD,List.getElem?_eq_getElem hk]);rw[<-ek] at q;exact q
theorem By {c:Bool}{A B:Prop}(h:c=false)(b:B):if c=true then A else B:=by
 subst h;rw[aH aA];exact b
theorem DR {c:Bool}{A B:Prop}(h:c=true)(b:A):if c=true then A else B:=by
 subst h;rw[aI rfl];exact b
theorem dec_true {c:Prop}[Decidable c](h:decide c=true):c:=bh h
theorem dec_false {c:Prop}[Decidable c](h:¬decide c=true):¬c:=λz=>h (aR z)
theorem Vu {t u:TT}{σ:St}{H:Hp}{Q:Bool->Hp->Prop}(c d:Bool)(ht:∀R:Bool->Hp->Prop,R c H->t σ H R)(hu:c=false->∀R:Bool->Hp->Prop,R d H->u σ H R)(q:Q (c||d) H):Wc t u σ H Q:=by
 refine ht _ ?_;cases c with
 |true=>rw[aI rfl];exact q
 |false=>rw[aH aA];exact hu rfl _ q
theorem JP {t u:TT}{σ:St}{H:Hp}{Q:Bool->Hp->Prop}(c d:Bool)(ht:∀R:Bool->Hp->Prop,R c H->t σ H R)(hu:c=true->∀R:Bool->Hp->Prop,R d H->u σ H R)(q:Q (c&&d) H):Vr t u σ H Q:=by
 refine ht _ ?_;cases c with
 |false=>rw[aH aA];exact q
 |true=>rw[aI rfl];exact hu rfl _ q
def Hi (J:It)(H:Hp)(xs:List V):Prop:=∀H',Al H H'->∀i:Nat,(i<xs.length->J.go i H')/\(∀x H'',J.yld i H' x H''->H''=H'/\(i<xs.length->xs[i]?=some x))/\(xs.length<=i->J.stop i H')
theorem B5 {K:PySem.W.Frag}{a:Addr}{H:Hp}{xs:List V}(h:AB K H a xs):Hi (UF K a) H xs:=λH' s i=>
 ⟨λhi=>⟨xs,xs[i],s.seq h,by simp[hi]⟩,λx H'' y=>⟨y.1,λ_=>y.2 xs (s.seq h)⟩,λhi=>⟨xs,s.seq h,hi⟩⟩
theorem GK {lo:Int}{n:Nat}{H:Hp}:Hi (Rr lo n) H ((List.range n).map λ(i:Nat)=>V.int (lo+(i:Int))):=λH' s i=>
 ⟨λhi=>(by simpa using hi:i<n),λx H'' y=>⟨y.1,λhi=>by
  have hi':i<n:=by simpa using hi
  rw[aw,dC hi',y.2];rfl⟩,λhi=>(by simpa using hi:n<=i)⟩
theorem comp_map {J:It} {xs:List V} {fr:List (Option Nat)} {k:Nat} {te:TE} {Q:VK} {σ:St} {H:Hp} (f:V->V) (hJ:Hi J H xs) (hn:xs.length<=1000000)
  (helt:∀(x:V) (H':Hp) (R:VK),x∈xs->Al H H'->(∀H'',Al H' H''->R (f x) H'')->te ((stC fr σ).set k (some x)) H' R)
  (hQ:∀l H',H l=none->Al H H'->H' l=some (.lst (xs.map f))->Q (.ref l) H') :
  Df fr (Aq k) L8 te σ Q J H:=by
 intro l hl;refine⟨λi m σ' H'=>m=xs.length-i/\i<=xs.length/\(∀y,σ'.set k y=(stC fr σ).set k y)/\Al H H'/\H' l=some (.lst ((xs.take i).map f)),⟨xs.length,by simp,bg _,λ_=>rfl,Af hl _,by rw[Ad,cW,bY]⟩,?_⟩
 rintro i m σ' H' ⟨rfl,hi,hσ,hs,hl'⟩
 obtain⟨h1,h2,h3⟩:=hJ H' hs i
 by_cases hlt:i<xs.length
 ·refine .inr ⟨h1 hlt,λx H'' y=>?_⟩;obtain⟨rfl,hx⟩:=h2 x H'' y;have hx:=hx hlt;show te (σ'.set k (some x)) H'' _;rw[hσ];refine helt x H'' _ (aE hx) hs λH4 s4=>?_
  refine⟨_,s4.get hl',Bh (by rw[aa,aQ];omega),xs.length-(i+1),by omega,rfl,hlt,λy=>by rw[d5],AI (hs.trans s4) hl _,?_⟩;rw[Ad,aX,hx];simp
 ·have e:i=xs.length:=by omega
  subst e;exact .inl ⟨h3 (ak _),hQ l H' hl hs (by rw[hl',bb (ak _)])⟩
section
variable {X:Cx}{K:PySem.W.Frag}
theorem EY (h:X.K=K):UN X (Vf K):=by subst h;exact Ax
theorem AS (h:X.K=K):UN X (Vc K):=by subst h;exact Ar
theorem Kc (h:X.K=K):C7 X (.builtin "len") (λxs H Q=>∃p ys,xs=[.ref p]/\(AB K H p ys\/AD K H p ys)/\Q (.int ys.length) H):=by subst h;exact A0
end
def Ok (H:Hp):V->Prop
 | .non=>True
 | .bl _=>True
 | .int _=>True
 | .str z=>z.length<=1000
 | .ref a=>(∃xs,H a=some (.lst xs))\/∃xs,H a=some (.tup xs)
 |_=>False
def IC (H:Hp):V->String
 | .non=>"NoneType"
 | .bl _=>"bool"
 | .int _=>"int"
 | .str _=>"str"
 | .ref a=>match H a with
  |some (.lst _)=>"list"
  |some (.tup _)=>"tuple"
  |_=>"?"
 |_=>"?"
theorem Ok.ty {H:Hp}{v:V}(h:Ok H v)(K:PySem.W.Frag):TyOf K H v (.type (IC H v)):=by
 cases v with
 |non=>exact .non
 |bl b=>exact .bl b
 |int i=>exact .int i
 |str z=>exact .str z
 |ref a=>
  rcases h with⟨xs,e⟩|⟨xs,e⟩
  ·have q:IC H (.ref a)="list":=by simp only[IC,e]
   rw[q];exact .lst e
  ·have q:IC H (.ref a)="tuple":=by simp only[IC,e]
   rw[q];exact .tup e
 |_=>exact h.elim
def isA (t c:String):Bool:=t == c||(t == "bool"&&c == "int")
theorem RH {t c:String}(K:PySem.W.Frag)(ht:t∈["NoneType","bool","int","str","list","tuple"])(hc:c∈["bool","int","str","list","tuple"]):PySem.W.kitOne K (.type t) (.type c)=some (isA t c):=by
 have all:∀t∈["NoneType","bool","int","str","list","tuple"],∀c∈["bool","int","str","list","tuple"],(if(Value.type t == Value.type c)=true then some true else if PySem.W.kitMeta c=true then(fastBuiltinMro t).map (·.contains (.type c)) else none)=some (isA t c):=by decide +kernel
 exact Uy (all t ht c hc) K
theorem Ok.tyMem {H:Hp}{v:V}(h:Ok H v):IC H v∈["NoneType","bool","int","str","list","tuple"]:=by
 cases v with
 |ref a=>
  rcases h with⟨xs,e⟩|⟨xs,e⟩
  ·simp only[IC,e];decide
  ·simp only[IC,e];decide
 |byt _=>exact h.elim
 |flt _=>exact h.elim
 |ty _=>exact h.elim
 |_=>simp only[IC];decide
theorem Ok.kit {H:Hp}{v:V}(h:Ok H v)(K:PySem.W.Frag){c:String}(hc:c∈["bool","int","str","list","tuple"]:=by decide):PySem.W.kitOne K (.type (IC H v)) (.type c)=some (isA (IC H v) c):=RH K h.tyMem hc
theorem RD {H:Hp}{a:Addr}{xs:List V}(e:H a=some (.lst xs)):IC H (.ref a)="list":=by simp only[IC,e]
theorem Sg {H:Hp}{a:Addr}{xs:List V}(e:H a=some (.tup xs)):IC H (.ref a)="tuple":=by simp only[IC,e]
theorem Ok.elim {H:Hp} {v:V} (ok:Ok H v) {C:Prop} (c1:v=.non->IC H v="NoneType"->C) (c2:∀b,v=.bl b->IC H v="bool"->C) (c3:∀i,v=.int i->IC H v="int"->C) (c4:∀z,v=.str z->z.length<=1000->IC H v="str"->C)
  (c5:∀a xs,v=.ref a->H a=some (.lst xs)->IC H v="list"->C) (c6:∀a xs,v=.ref a->H a=some (.tup xs)->IC H v="tuple"->C):C:=by
 cases v with
 |non=>exact c1 rfl rfl
 |bl b=>exact c2 b rfl rfl
 |int i=>exact c3 i rfl rfl
 |str z=>exact c4 z rfl ok rfl
 |ref a=>
  rcases ok with⟨xs,e⟩|⟨xs,e⟩
  ·exact c5 a xs rfl e (RD e)
  ·exact c6 a xs rfl e (Sg e)
 |_=>exact(show False from ok).elim
theorem Te {H:Hp}{v:V}(ok:Ok H v)(h:isA (IC H v) "str"=true):∃z,v=.str z/\z.length<=1000:=by
 refine ok.elim (λ_ e=>?_) (λ_ _ e=>?_) (λ_ _ e=>?_) (λz e1 e2 _=>⟨z,e1,e2⟩) (λ_ _ _ _ e=>?_) (λ_ _ _ _ e=>?_)
 all_goals (rw[e] at h;exact absurd h (by decide))
def VL (x:Str):It:=⟨λi _=>i<x.cps.size,λi H v H'=>H'=H/\∃c,x.cps[i]?=some c/\v=.str ⟨#[c]⟩,λi _=>x.cps.size<=i⟩
theorem Nz {P:Program}{w:World}{K:PySem.W.Frag}{tg:Expr}(it:Addr)(x:Str)(t:Tok):Turn P w K tg (VL x) [it] it (λi h=>h.IsStrIter it "str_ascii_iterator" x t i) where
 mem:=by simp
 obj:=λi h st b hb=>by
  have e:b=it:=by simpa using hb
  subst e;obtain⟨o,e,c,d⟩:=st;exact⟨o,e,λv z=>by rw[d] at z;cases z⟩
 keep:=λi h h' st k=>by
  obtain⟨o,e,c,d⟩:=st;exact⟨o,k it (by simp) o e,c,d⟩
 item:=by
  intro X hP hw hK hc i pins s σ H E I hf st hg;subst hP hw hK;have hg':i<x.cps.size:=hg;obtain⟨f0,f1,f2,f3,f4,f5⟩:=hf it (by simp);refine wpAny_pyNext_ascii_item st (c:=x.cps[i]) (by simp[hg']) λh' st' sb=>?_
  have I1:Inv X pins σ H { s with heap:=h',toks:=s.toks+1 }:=I.turned (λb o hb e=>(sb.2 b hb).trans e) f0 f1 f3 f4 f5;obtain⟨o,e,c,d⟩:=id st';exact⟨_,rfl,KD (s:={ s with heap:=h',toks:=s.toks+1 }) e c d (by decide) ⟨.str ⟨#[x.cps[i]]⟩,H,I1,⟨_,rfl⟩,⟨rfl,_,by simp[hg'],rfl⟩,st',λb hb=>(hf b hb).1⟩⟩
 done:=by
  intro X hP hw hK hc i pins s σ H E I hf st hg;subst hP hw hK;have hg':x.cps.size<=i:=hg;obtain⟨f0,f1,f2,f3,f4,f5⟩:=hf it (by simp);exact wpAny_pyNext_ascii_end (I.ok.hd hc) st (by simp[hg']) λh' eb=>⟨rfl,I.turned (t':=s.toks) (λb o hb e=>eb b o hb e) f0 f1 f3 f4 f5⟩
 self:=λ_ _ _ _ _ st h=>wpAny_pyIter_striter_ascii st h
theorem OB {P:Program}{w:World}{K:PySem.W.Frag}{tg:Expr}(it:Addr)(x:Str)(t:Tok):Turn P w K tg (VL x) [it] it (λi h=>h.IsStrIter it "str_iterator" x t i) where
 mem:=by simp
 obj:=λi h st b hb=>by
  have e:b=it:=by simpa using hb
  subst e;obtain⟨o,e,c,d⟩:=st;exact⟨o,e,λv z=>by rw[d] at z;cases z⟩
 keep:=λi h h' st k=>by
  obtain⟨o,e,c,d⟩:=st;exact⟨o,k it (by simp) o e,c,d⟩
 item:=by
  intro X hP hw hK hc i pins s σ H E I hf st hg;subst hP hw hK;have hg':i<x.cps.size:=hg;obtain⟨f0,f1,f2,f3,f4,f5⟩:=hf it (by simp);refine wpAny_pyNext_wide_item st (c:=x.cps[i]) (by simp[hg']) λh' st' sb=>?_
  have I1:Inv X pins σ H { s with heap:=h',toks:=s.toks+1 }:=I.turned (λb o hb e=>(sb.2 b hb).trans e) f0 f1 f3 f4 f5;obtain⟨o,e,c,d⟩:=id st';exact⟨_,rfl,KD (s:={ s with heap:=h',toks:=s.toks+1 }) e c d (by decide) ⟨.str ⟨#[x.cps[i]]⟩,H,I1,⟨_,rfl⟩,⟨rfl,_,by simp[hg'],rfl⟩,st',λb hb=>(hf b hb).1⟩⟩
 done:=by
  intro X hP hw hK hc i pins s σ H E I hf st hg;subst hP hw hK;have hg':x.cps.size<=i:=hg;obtain⟨f0,f1,f2,f3,f4,f5⟩:=hf it (by simp);exact wpAny_pyNext_wide_end (I.ok.hd hc) st (by simp[hg']) λh' eb=>⟨rfl,I.turned (t':=s.toks) (λb o hb e=>eb b o hb e) f0 f1 f3 f4 f5⟩
 self:=λ_ _ _ _ _ st h=>wpAny_pyIter_striter_wide st h
section
variable {X:Cx}{tg:Expr}
def V7 (tl:TE):TI:=λσ H R=>tl σ H λx H1=>∃z,x=.str z/\R (VL z) H1
theorem Lx {l:Expr}{tl:TE}(hl:PE X l tl):PI X tg l (V7 tl):=by
 intro pins s σ H R I h;refine Bz (hl pins s σ H _ I h) λv s1 ⟨x,H1,I1,r1,q1⟩=>?_
 obtain⟨z,e,q⟩:=q1;subst e;obtain⟨t,rfl⟩:=r1;have fp:∀b∈[s1.heap.objs.size],Kd X pins H1 b:=λb hb=>by
  have e:b=s1.heap.objs.size:=by simpa using hb
  subst e;exact I1.fpOk (ak _) (I1.hok.fresh (ak _))
 cases ha:z.cps.all (· < 128)
 ·exact wpAny_pyIter_wide ha ⟨s1.heap.objs.size,[s1.heap.objs.size],_,_,H1,rfl,I1.kept (t':=s1.toks) (λb o e=>af _ e),OB _ z t,⟨_,aJ _ rfl,rfl,rfl⟩,fp,q⟩
 ·exact wpAny_pyIter_ascii ha ⟨s1.heap.objs.size,[s1.heap.objs.size],_,_,H1,rfl,I1.kept (t':=s1.toks) (λb o e=>af _ e),Nz _ z t,⟨_,aJ _ rfl,rfl,rfl⟩,fp,q⟩
end
theorem JQ {x:Str}{H:Hp}:Hi (VL x) H (x.cps.toList.map λc=>V.str ⟨#[c]⟩):=λH' s i=>
 ⟨λhi=>(by simpa using hi:i<x.cps.size),λv H'' y=>⟨y.1,λhi=>by
  obtain⟨_,c,hc,e⟩:=y;rw[aw,cj,hc,e];rfl⟩,λhi=>(by simpa using hi:x.cps.size<=i)⟩
section
variable {X:Cx}
def P5:V->List V->Hp->VK->Prop:=λx vs H Q=>∃t u,x=.str t/\vs=[.str u]/\0<=Txt.find t u/\Q (.int (Txt.find t u)) H
theorem Mv (hc:X.calm=true):Tw X "str.index" P5:=by
 intro pins s σ H x vs v us Q I rx rv h;obtain⟨t,u,rfl,rfl,h0,q⟩:=h;obtain⟨tk,rfl⟩:=rx;obtain⟨y,rfl,ry⟩:=rv.one;obtain⟨tk2,rfl⟩:=ry;refine index_or (I.ok.hd hc) (λe=>absurd e (by omega)) λ_ _=>⟨.int (Txt.find t u),H,I.tok _,⟨_,rfl⟩,q⟩
end
section
variable {X:Cx}
def V0:V->Option Int->Option Int->Hp->VK->Prop:=λx lo hi H Q=>∃z:Str,x=.str z/\z.length<=sizeLine/\Q (.str (PySem.Txt.slice z lo hi)) H
theorem NM:VQ X V0:=by
 intro pins s σ H x v vl vu lo hi sl Q I rx hs pl pu h;obtain⟨z,rfl,hz,q⟩:=h;obtain⟨t,rfl⟩:=rx;refine⟨"str",_,slot_str_getitem.lookup,gr _ _ _,?_⟩;cases pl with
 |none=>
  cases pu with
  |none=>exact dc (l:=none) (u:=none) (st:=none) hs rfl (eQ ⟨ba (dD z _ _) hz,λt' k=>⟨.str _,H,I.tok k,⟨_,rfl⟩,q⟩⟩)
  |int j tj=>exact dc (l:=none) (u:=some (j,tj)) (st:=none) hs rfl (eQ ⟨ba (dD z _ _) hz,λt' k=>⟨.str _,H,I.tok k,⟨_,rfl⟩,q⟩⟩)
 |int i ti=>
  cases pu with
  |none=>exact dc (l:=some (i,ti)) (u:=none) (st:=none) hs rfl (eQ ⟨ba (dD z _ _) hz,λt' k=>⟨.str _,H,I.tok k,⟨_,rfl⟩,q⟩⟩)
  |int j tj=>exact dc (l:=some (i,ti)) (u:=some (j,tj)) (st:=none) hs rfl (eQ ⟨ba (dD z _ _) hz,λt' k=>⟨.str _,H,I.tok k,⟨_,rfl⟩,q⟩⟩)
def VG:R2:=λx y H Q=>∃(z:Str) (n:Int),x=.str z/\y=.int n/\n<=1000/\-1000<=n/\z.length<=1000/\Q (.str (PySem.Txt.mul z n)) H
theorem mulOk_of {z:Str}{n:Int}(h1:n<=1000)(h0:-1000<=n)(h2:z.length<=1000):MulOk z n:=by
 refine⟨?_,λh3 _=>?_,λh3 _=>?_⟩
 ·rw[aO (by omega),aO (by omega)];rfl
 ·have:(2^63-1:Int)/n≥(2^63-1:Int)/1000:=by
   have hn:0<n:=by omega
   have a:(2^63-1:Int)/1000*n<=2^63-1:=by
    have b:(2^63-1:Int)/1000*n<=(2^63-1:Int)/1000*1000:=Int.mul_le_mul_of_nonneg_left h1 (by decide);have c:(2^63-1:Int)/1000*1000<=2^63-1:=by decide
    omega
   exact(Int.le_ediv_iff_mul_le hn).mpr a
  have d:(1000:Int)<=(2^63-1:Int)/1000:=by decide
  omega
 ·have:z.length*n.toNat<=1000*1000:=Nat.mul_le_mul h2 (by omega);have e:Builtin.Str.tooLong (z.length*n.toNat)=decide (z.length*n.toNat>sizeLine):=rfl;rw[e];exact aO (by have:=FE;omega)
theorem NI:Gq X (binaryOp .Mult) VG:=by
 intro pins s σ H x y v u Q I rx ry h;obtain⟨z,n,rfl,rfl,h1,h0,h2,q⟩:=h;obtain⟨t,rfl⟩:=rx;obtain⟨t',rfl⟩:=ry;exact SB.mul (mulOk_of h1 h0 h2) λt' k=>⟨.str _,H,I.tok k,⟨_,rfl⟩,q⟩
theorem Nv {ys:List Str}:∀{us:List Value},AJ (ys.map V.str) us->StrsAre us ys:=by
 induction ys with
 |nil=>intro us r;rw[bY] at r;cases r;exact .nil
 |cons n ns ih=>
  intro us r;rw[av] at r;cases r with
  |cons r1 r2=>
   obtain⟨t,e⟩:=r1;subst e;exact .cons n t (ih r2)
def rJoin (K:PySem.W.Frag):V->List V->Hp->VK->Prop:=λx vs H Q=>∃(a:Addr) (z:Str) (ys:List Str),x=.str z/\vs=[.ref a]/\AB K H a (ys.map V.str)/\(ys.map (·.length)).sum+ys.length*z.length<=16777216/\Q (.str (PySem.Txt.join z ys)) H
theorem Jc (_:X.calm=true):Tw X "str.join" (rJoin X.K):=by
 intro pins s σ H x vs v us Q I rx rv h;obtain⟨a,z,ys,rfl,rfl,hq,hz,q⟩:=h;obtain⟨tk,rfl⟩:=rx;obtain⟨y,rfl,ry⟩:=rv.one;cases ry;obtain⟨its,r1,p1,_⟩:=I.list hq;exact join_list p1.isList (Nv (by simpa using r1)) hz λt' k=>⟨.str _,H,I.tok k,⟨_,rfl⟩,q⟩
end
end L2
namespace L2
open PySem PySem.Spec PyProof.Rows PySem.Builtin.Str
abbrev AR (z:Str):List Nat:=z.cps.toList
theorem Bg (z:Str):(AR z).length=z.length:=by simp[Str.length]
theorem G3 {x y:Str}(h:AR x=AR y):x=y:=by
 obtain⟨a⟩:=x;obtain⟨b⟩:=y;have:a=b:=dU.mp h;rw[this]
theorem Dh (a y:Str):AR (a++y)=AR a++AR y:=by
 show(a.cps++y.cps).toList=_;simp
theorem SN (z:Str){j:Int}(h0:0<=j):AR (PySem.Txt.slice z none (some j))=(AR z).take j.toNat:=by
 have hc:StrLaws.sliceText z none (some j)=StrLaws.sliceText z none (some (min j z.length)):=by
  have e:strSliceIndices none (some j) 1 z.length=strSliceIndices none (some (min j z.length)) 1 z.length:=by
   unfold strSliceIndices;have e1:(if j<0 then j+(z.length:Int) else j)=j:=aH (by omega);have e2:(if min j (z.length:Int)<0 then min j (z.length:Int)+(z.length:Int) else min j (z.length:Int))=min j z.length:=aH (by omega);simp only[e1,e2];have e3:max 0 (min j (z.length:Int))=max 0 (min (min j (z.length:Int)) z.length):=by omega
   rw[e3];simp only[if_pos (show(1:Int)>0 by decide)]
  unfold StrLaws.sliceText;rw[e]
 show AR (StrLaws.sliceText z none (some j))=_;rw[hc,StrLaws.sliceText_to ⟨by omega,by rw[Bg z];omega⟩];show((AR z).drop 0).take (min j (z.length:Int)-0).toNat=_;rw[List.drop_zero]
 by_cases h:j<=z.length
 ·congr 1;omega
 ·have hl:=Bg z;rw[bb (by omega),bb (by omega)]
end L2
namespace L2
open PySem PySem.Spec PyProof.Rows
theorem Qs {J:It} {xs:List V} {fr:List (Option Nat)} {k:Nat} {te:TE} {Q:VK} {σ:St} {H:Hp} (P:V->V->Hp->Prop) (hP:∀x y H1 H2,P x y H1->Al H1 H2->P x y H2)
  (hU:∀x y H1 l us us',P x y H1->H1 l=some (.lst us)->y≠.ref l->P x y (upd H1 l (.lst us'))) (hJ:Hi J H xs) (hn:xs.length<=1000000)
  (helt:∀(x:V) (H':Hp) (R:VK),x∈xs->Al H H'->(∀y H'',Al H' H''->(∀a,y=.ref a->H' a=none)->P x y H''->R y H'')->te ((stC fr σ).set k (some x)) H' R)
  (hQ:∀l H' (ys:List V),H l=none->Al H H'->H' l=some (.lst ys)->ys.length=xs.length->(∀(i:Nat) x y,xs[i]?=some x->ys[i]?=some y->P x y H'/\y≠.ref l)->Q (.ref l) H') :
  Df fr (Aq k) L8 te σ Q J H:=by
 intro l hl;refine⟨λi m σ' H'=>m=xs.length-i/\i<=xs.length/\(∀y,σ'.set k y=(stC fr σ).set k y)/\Al H H'/\∃ys:List V,H' l=some (.lst ys)/\ys.length=i/\(∀(i:Nat) x y,xs[i]?=some x->ys[i]?=some y->P x y H'/\y≠.ref l),
  ⟨xs.length,by simp,bg _,λ_=>rfl,Af hl _,[],Ad,rfl,λi x y _ h=>by simp at h⟩,?_⟩
 rintro i m σ' H' ⟨rfl,hi,hσ,hs,ys,hl',hlen,hp⟩
 obtain⟨h1,h2,h3⟩:=hJ H' hs i
 by_cases hlt:i<xs.length
 ·refine .inr ⟨h1 hlt,λx H'' y=>?_⟩;obtain⟨rfl,hx⟩:=h2 x H'' y;have hx:=hx hlt;show te (σ'.set k (some x)) H'' _;rw[hσ];refine helt x H'' _ (aE hx) hs λy H4 s4 fy py=>?_
  have yl:y≠.ref l:=λz=>by rw[fy l z] at hl';cases hl'
  refine⟨_,s4.get hl',Bh (by omega),xs.length-(i+1),by omega,rfl,hlt,λy=>by rw[d5],AI (hs.trans s4) hl _,ys++[y],Ad,by rw[au,hlen];rfl,λj x' y' hx' hy'=>?_⟩
  by_cases hj:j<ys.length
  ·rw[bA hj] at hy';obtain⟨q1,q2⟩:=hp j x' y' hx' hy';exact⟨hU _ _ _ _ _ _ (hP _ _ _ _ q1 s4) (s4.get hl') q2,q2⟩
  ·rw[bF (by omega)] at hy'
   by_cases hj2:j=ys.length
   ·subst hj2;rw[fY] at hy';cases(aP hy':y=y');rw[hlen] at hx';cases(aP (hx.symm.trans hx'):x=x');exact⟨hU _ _ _ _ _ _ py (s4.get hl') yl,yl⟩
   ·rw[cy (by simp;omega)] at hy';cases hy'
 ·have e:i=xs.length:=by omega
  subst e;exact .inl ⟨h3 (ak _),hQ l H' ys hl hs hl' hlen hp⟩
theorem Gu {X:Cx}{K:PySem.W.Frag}{pos:Pos}{es:List Expr}{k:Nat}{t:SQ}{n:Nat}(hK:X.K=K)(hc:X.calm=true)(h:Vw X es t)(hn:(assignEach es X.env).length=n:=by rfl)(hs:(assignEach es X.env).findIdx? (·.1)=none:=by rfl):PG X (.Tuple es k pos) (Pi K n t):=by
 subst hK;exact D5 hc h hn hs
section
variable {κ:Type}[DecidableEq κ]
def EU (kvs:List (κ×V))(k:κ):Option V:=(kvs.find? λkv=>decide (kv.1=k)).map (·.2)
def putK (kvs:List (κ×V))(k:κ)(v:V):List (κ×V):=
 if(kvs.any λkv=>decide (kv.1=k))=true then kvs.map (λkv=>if kv.1=k then(kv.1,v) else kv) else kvs++[(k,v)]
theorem E4 {p:κ×V}{r:List (κ×V)}{k:κ}(e:p.1=k):EU (p::r) k=some p.2:=by simp[EU,List.find?_cons,e]
theorem D7 {p:κ×V}{r:List (κ×V)}{k:κ}(e:¬p.1=k):EU (p::r) k=EU r k:=by simp[EU,List.find?_cons,e]
theorem G7 (k:κ):∀kvs:List (κ×V),(kvs.any λkv=>decide (kv.1=k))=(EU kvs k).isSome
 |[]=>rfl
 |p::r=>by
  rw[dN]
  by_cases e:p.1=k
  ·simp only[E4 e,decide_eq_true e,Bool.true_or,Option.isSome_some]
  ·rw[D7 e,aO e,Bool.false_or];exact G7 k r
theorem IF (kvs:List (κ×V))(k:κ)(v:V):(putK kvs k v).length<=kvs.length+1:=by
 unfold putK
 split
 ·rw[aa];omega
 ·rw[au,aM,eB];omega
theorem Jx {kvs:List (κ×V)}{k:κ}(v:V)(h:EU kvs k=none):putK kvs k v=kvs++[(k,v)]:=by
 unfold putK;rw[G7,h];exact aH (by decide)
theorem Fs.isSome_eq {o:Option V}{u:Option Value}(r:Fs o u):o.isSome=u.isSome:=by
 cases o with
 |none=>cases u with
  |none=>rfl
  |some _=>exact(show False from r).elim
 |some _=>cases u with
  |none=>exact(show False from r).elim
  |some _=>rfl
theorem Fs.getD {o:Option V}{u:Option Value}{d:V}{d':Value}(r:Fs o u)(rd:RelV d d'):RelV (o.getD d) (u.getD d'):=by
 cases o with
 |none=>cases u with
  |none=>exact rd
  |some _=>exact(show False from r).elim
 |some _=>cases u with
  |none=>exact(show False from r).elim
  |some _=>exact r
theorem KV.val {kvs:List (κ×V)}{vs:List (κ×Value)}(r:KV kvs vs)(k:κ):Fs (EU kvs k) (valueAt vs k):=by
 unfold KV at r
 induction r with
 |nil=>exact True.intro
 |@cons p q ps qs h t ih=>
  obtain⟨h1,h2⟩:=h
  by_cases e:p.1=k
  ·have e':q.1=k:=h1.symm.trans e;have b:valueAt (q::qs) k=some q.2:=by simp[valueAt,List.find?_cons,e']
   rw[E4 e,b];exact h2
  ·have e':¬q.1=k:=λz=>e (h1.trans z)
   have b:valueAt (q::qs) k=valueAt qs k:=by simp[valueAt,List.find?_cons,e']
   rw[D7 e,b];exact ih
theorem KV.any {kvs:List (κ×V)}{vs:List (κ×Value)}(r:KV kvs vs)(k:κ):(kvs.any λkv=>decide (kv.1=k))=vs.any λkv=>decide (kv.1=k):=by
 unfold KV at r
 induction r with
 |nil=>rfl
 |cons h t ih=>rw[dN,dN,ih,h.1]
theorem KV.repl {kvs:List (κ×V)}{vs:List (κ×Value)}(r:KV kvs vs)(k:κ){y:V}{u:Value}(ry:RelV y u) :
  KV (kvs.map λkv=>if kv.1=k then(kv.1,y) else kv) (vs.map λkv=>if kv.1=k then(kv.1,u) else kv):=by
 unfold KV at r ⊢
 induction r with
 |nil=>exact .nil
 |@cons p q ps qs h t ih=>
  rw[av,av];refine .cons ?_ ih;obtain⟨h1,h2⟩:=h
  by_cases e:p.1=k
  ·rw[aI e,aI (h1.symm.trans e)];exact⟨h1,ry⟩
  ·rw[aH e,aH (λz=>e (h1.trans z))];exact⟨h1,h2⟩
theorem KV.put {kvs:List (κ×V)}{vs:List (κ×Value)}(r:KV kvs vs)(k:κ){y:V}{u:Value}(ry:RelV y u):KV (putK kvs k y) (stored vs k u):=by
 unfold putK stored;rw[r.any k]
 by_cases e:(vs.any λkv=>decide (kv.1=k))=true
 ·rw[aI e,aI e];exact r.repl k ry
 ·rw[aH e,aH e];exact Paired.snoc r ⟨rfl,ry⟩
theorem KV.keys {kvs:List (κ×V)}{vs:List (κ×Value)}(r:KV kvs vs):kvs.map (·.1)=vs.map (·.1):=by
 unfold KV at r
 induction r with
 |nil=>rfl
 |cons h t ih=>rw[av,av,ih,h.1]
theorem KV.length {kvs:List (κ×V)}{vs:List (κ×Value)}(r:KV kvs vs):kvs.length=vs.length:=cT r
end
theorem Km {P:Program}{w:World}{k:Key}{u:Value}(r:RelV (kV k) u):(Bo P w).is k u=true:=by
 cases k with
 |inl i=>obtain⟨t,e⟩:=(show ∃t,u=Value.int i t from r);subst e;exact Mn P w i t
 |inr x=>obtain⟨t,e⟩:=(show ∃t,u=Value.str x t from r);subst e;exact L3 P w x t
theorem Kk {P:Program}{w:World}:∀{ks:List Key} {us:List Value},AJ (ks.map kV) us->ItemsAre (Bo P w) ks us
 |[],_,r=>by rw[bY] at r;cases r;exact .nil
 |k::ks,_,r=>by
  rw[av] at r;cases r with
  |cons h t=>exact .cons (Km h) (Kk t)
abbrev KT (H:Hp):List (List Key×V)->List (List Key×Addr×Value)->Prop:=Paired λp q=>p.1=q.1/\H q.2.1=some (.tup (p.1.map kV))/\RelV p.2 q.2.2
theorem KT.val {H:Hp}{kvs:List (List Key×V)}{xs:List (List Key×Addr×Value)}(r:KT H kvs xs)(k:List Key):Fs (EU kvs k) ((atKey xs k).map (·.2)):=by
 induction r with
 |nil=>exact True.intro
 |@cons p q ps qs h t ih=>
  obtain⟨h1,_,h2⟩:=h
  by_cases e:p.1=k
  ·have e':q.1=k:=h1.symm.trans e;have b:atKey (q::qs) k=some q.2:=by simp[atKey,List.find?_cons,e']
   rw[E4 e,b];exact h2
  ·have e':¬q.1=k:=λz=>e (h1.trans z)
   have b:atKey (q::qs) k=atKey qs k:=by simp[atKey,List.find?_cons,e']
   rw[D7 e,b];exact ih
theorem KT.repl {H:Hp}{kvs:List (List Key×V)}{xs:List (List Key×Addr×Value)}(r:KT H kvs xs)(k:List Key){y:V}{u:Value}(ry:RelV y u) :
  KT H (kvs.map λkv=>if kv.1=k then(kv.1,y) else kv) (xs.map (putAt k u)):=by
 induction r with
 |nil=>exact .nil
 |@cons p q ps qs h t ih=>
  rw[av,av];refine .cons ?_ ih;obtain⟨h1,h2,h3⟩:=h;unfold putAt
  by_cases e:p.1=k
  ·rw[aI e,aI (h1.symm.trans e)];exact⟨h1,h2,ry⟩
  ·rw[aH e,aH (λz=>e (h1.trans z))];exact⟨h1,h2,h3⟩
theorem KT.put {H:Hp}{kvs:List (List Key×V)}{xs:List (List Key×Addr×Value)}(r:KT H kvs xs)(k:List Key){b:Addr}{y:V}{u:Value}(hb:H b=some (.tup (k.map kV)))(ry:RelV y u) :
  KT H (putK kvs k y) (storedH xs k b u):=by
 have e:(kvs.any λkv=>decide (kv.1=k))=(atKey xs k).isSome:=by
  rw[G7,(r.val k).isSome_eq,eX]
 unfold putK storedH;rw[e]
 by_cases q:(atKey xs k).isSome=true
 ·rw[aI q,aI q];exact r.repl k ry
 ·rw[aH q,aH q];exact Paired.snoc r ⟨rfl,hb,ry⟩
theorem KT.keeps {H H':Hp}{kvs:List (List Key×V)}{xs:List (List Key×Addr×Value)}(r:KT H kvs xs)(ht:∀b ys,H b=some (.tup ys)->H' b=some (.tup ys)):KT H' kvs xs:=
 Paired.mapP r λ_ _ z=>⟨z.1,ht _ _ z.2.1,z.2.2⟩
section
variable {P:Program}{w:World}{H:Hp}{h:Heap}{a:Addr}
theorem S5 {u:HO}(ok:Gx P w H h)(e:Rd H a u):A5 P w H h a u:=e.ok ok
theorem KC {kvs:List (Key×V)}(ok:Gx P w H h)(e:Rd H a (.dK kvs)):kvs.length<=sizeLine/\(a == sysModules)=false/\∃vs,KV kvs vs/\h.DictOf (Bo P w) a vs:=
 show A5 P w H h a (.dK kvs) from S5 ok e
theorem Vg {kvs:List (Key×V)}(ok:Gx P w H h)(e:H a=some (.dK kvs)):kvs.length<=sizeLine/\(a == sysModules)=false/\∃vs,KV kvs vs/\h.DictOf (Bo P w) a vs:=KC ok (.inl e)
theorem JJ {ks:List Key}(ok:Gx P w H h)(e:H a=some (.tup (ks.map kV))):(tupleKind (Bo P w)).is h ks a:=by
 obtain⟨_,its,r,o,h1,h2,n,h3⟩:=(show A5 P w H h a (.tup (ks.map kV)) from ok a _ e)
 exact⟨o,its.toArray,n,h1,h2,h3.1,by simpa using Kk r⟩
theorem Mp {kvs:List (List Key×V)}(ok:Gx P w H h)(e:Rd H a (.dT kvs)):kvs.length<=sizeLine/\(a == sysModules)=false/\
  ∃xs,KT H kvs xs/\h.DictOfH (tupleKind (Bo P w)) a xs:=by
 obtain⟨z,y,xs,r,o,es,ep,h1,h2,h3,h4,h5⟩:=(show A5 P w H h a (.dT kvs) from S5 ok e)
 refine⟨z,y,xs,r,o,es,ep,h1,h2,h3,h4,λx hx=>?_,h5⟩;have all:∀{l:List (List Key×V)} {m:List (List Key×Addr×Value)},KT H l m->∀x∈m,(tupleKind (Bo P w)).is h x.1 x.2.1:=by
  intro l m q
  induction q with
  |nil=>intro x hx;exact nomatch hx
  |@cons p q ps qs hq t ih=>
   intro x hx;rcases aD.mp hx with e|hx
   ·subst e;exact JJ ok (by rw[<-hq.1];exact hq.2.1)
   ·exact ih x hx
 exact all r x hx
theorem VI {kvs:List (List Key×V)}(ok:Gx P w H h)(e:H a=some (.dT kvs)):kvs.length<=sizeLine/\(a == sysModules)=false/\
  ∃xs,KT H kvs xs/\h.DictOfH (tupleKind (Bo P w)) a xs:=Mp ok (.inl e)
end
def FO (H:Hp)(a:Addr)(y:V)(r:Option V):Prop:=
 (∃kvs k,Rd H a (.dK kvs)/\y=kV k/\r=EU kvs k)\/∃kvs k b,Rd H a (.dT kvs)/\y=.ref b/\H b=some (.tup (k.map kV))/\r=EU kvs k
def L7 (H:Hp)(a:Addr)(y v:V)(H':Hp):Prop:=
 (∃kvs k,H a=some (.dK kvs)/\y=kV k/\kvs.length<sizeLine/\H'=upd H a (.dK (putK kvs k v)))\/
 ∃kvs k b,H a=some (.dT kvs)/\y=.ref b/\H b=some (.tup (k.map kV))/\kvs.length<sizeLine/\H'=upd H a (.dT (putK kvs k v))
theorem FO.k {H:Hp}{a:Addr}{kvs:List (Key×V)}{k:Key}(e:H a=some (.dK kvs)):FO H a (kV k) (EU kvs k):=.inl ⟨kvs,k,.inl e,rfl,rfl⟩
theorem L7.k {H:Hp}{a:Addr}{kvs:List (Key×V)}{k:Key}{v:V}(e:H a=some (.dK kvs))(hl:kvs.length<sizeLine):L7 H a (kV k) v (upd H a (.dK (putK kvs k v))):=.inl ⟨kvs,k,e,rfl,hl,rfl⟩
section
variable {X:Cx}{pins:List (Addr×Obj)}{σ:St}{H:Hp}{s:Shared}{a:Addr}{y v:V}{u r:Value}{o:Option V}{A:Around}{E:Value->Shared->Prop}
theorem Inv.big (I:Inv X pins σ H s):sysModules<s.heap.objs.size:=by
 have h:mainGlobals<s.heap.objs.size:=(I.mod.glob.keeps I.bk).lt;exact Nat.lt_trans (by decide) h
theorem Ph {Q:Value->Shared->Prop}(hu:A.units+1<cLine)(I:Inv X pins σ H s)(g:FO H a y (some v))(ry:RelV y u)(h:∀w' s',Inv X pins σ H s'->RelV v w'->Q w' s') :
  wpAny (model X.prog X.w) A (getItem (.ref a) u) Q E s:=by
 rcases g with⟨kvs,k,e,ey,l⟩|⟨kvs,k,b,e,ey,eb,l⟩
 ·subst ey;obtain⟨z,hd,vs,rel,dd⟩:=KC I.hok e;obtain⟨w',hw,rw'⟩:=Fs.some_of (v:=v) (o:=valueAt vs k) (by rw[l];exact rel.val k);exact wpAny_getItem_of (Km ry) dd.mapOf hw (h w' _ (I.tok _) rw')
 ·subst ey;cases(show u=Value.ref b from ry);obtain⟨z,hd,xs,rel,dd⟩:=Mp I.hok e;obtain⟨w',hw,rw'⟩:=Fs.some_of (v:=v) (o:=(atKey xs k).map (·.2)) (by rw[l];exact rel.val k);obtain⟨p,hp,hp2⟩:=aV.mp hw;refine wpAny_getItem_heap (dP hu) (JJ I.hok eb) dd hp ?_;rw[hp2];exact h w' _ (I.tok _) rw'
theorem Wm {Q:Value->Shared->Prop}(hu:A.units+1<cLine)(I:Inv X pins σ H s)(g:FO H a y o)(ry:RelV y u)(h:∀s',Inv X pins σ H s'->Q (.bool o.isSome) s') :
  wpAny (model X.prog X.w) A (compareOp .In u (.ref a)) Q E s:=by
 rcases g with⟨kvs,k,e,ey,l⟩|⟨kvs,k,b,e,ey,eb,l⟩
 ·subst ey;obtain⟨z,hd,vs,rel,dd⟩:=KC I.hok e;refine wpAny_in_of (Km ry) hd dd.mapOf ?_;rw[<-(rel.val k).isSome_eq,<-l];exact h _ (I.tok _)
 ·subst ey;cases(show u=Value.ref b from ry);obtain⟨z,hd,xs,rel,dd⟩:=Mp I.hok e;refine wpAny_in_heap (dP hu) (JJ I.hok eb) hd dd ?_;have q:=(rel.val k).isSome_eq;rw[eX] at q;rw[<-q,<-l];exact h _ (I.tok _)
theorem RY {Q:Value->Shared->Prop}(hu:A.units+1<cLine)(I:Inv X pins σ H s)(g:FO H a y o)(ry:RelV y u)(h:∀s',Inv X pins σ H s'->Q (.bool (!o.isSome)) s') :
  wpAny (model X.prog X.w) A (compareOp .NotIn u (.ref a)) Q E s:=by
 rcases g with⟨kvs,k,e,ey,l⟩|⟨kvs,k,b,e,ey,eb,l⟩
 ·subst ey;obtain⟨z,hd,vs,rel,dd⟩:=KC I.hok e;refine wpAny_notIn_of (Km ry) hd dd.mapOf ?_;rw[<-(rel.val k).isSome_eq,<-l];exact h _ (I.tok _)
 ·subst ey;cases(show u=Value.ref b from ry);obtain⟨z,hd,xs,rel,dd⟩:=Mp I.hok e;refine wpAny_notIn_heap (dP hu) (JJ I.hok eb) hd dd ?_;have q:=(rel.val k).isSome_eq;rw[eX] at q;rw[<-q,<-l];exact h _ (I.tok _)
theorem Of {h':Heap}{t':Nat}{ob:HO}(I:Inv X pins σ H s)(mu:Vx (H a))(hs:Heap.SameBut a s.heap h')(he:∃q,h'.get? a=some q)(new:A5 X.prog X.w (upd H a ob) h' a ob) :
  Inv X pins σ (upd H a ob) { s with heap:=h',toks:=t' }:=
 I.write (x:=a) (e:=a) mu (.inl rfl) (λb q hb z=>(hs.2 b hb).trans z) he new
theorem Qh {P:Program}{w:World}{H':Hp}{h':Heap}{kvs:List (Key×V)}{vs:List (Key×Value)}(z:kvs.length<=sizeLine)(hd:(a == sysModules)=false)(rel:KV kvs vs)(dd:h'.DictOf (Bo P w) a vs) :
  A5 P w H' h' a (.dK kvs):=⟨z,hd,vs,rel,dd⟩
theorem OX {H':Hp}{Q:Unit->Shared->Prop}(hu:A.units+1<cLine)(I:Inv X pins σ H s)(g:L7 H a y v H')(ry:RelV y u)(rv:RelV v r)(h:∀s',Inv X pins σ H' s'->Q () s') :
  wpAny (model X.prog X.w) A (setItem (.ref a) u r) Q E s:=by
 rcases g with⟨kvs,k,e,ey,l,eH⟩|⟨kvs,k,b,e,ey,eb,l,eH⟩
 ·subst ey eH;obtain⟨z,hd,vs,rel,dd⟩:=Vg I.hok e;have hz:vs.length<=sizeLine:=by rw[<-rel.length];exact z
  have hl:(putK kvs k v).length<=sizeLine:=by have:=IF kvs k v;omega
  refine wpAny_setItem_pairs (hsz:=hz) (Km ry) dd λh' dd' hs=>h _ ?_
  have he:∃q,h'.get? a=some q:=let⟨q,_,_,hq,_⟩:=dd';⟨q,hq⟩;exact Of I (by rw[e];exact True.intro) hs he (Qh hl hd (rel.put k rv) dd')
 ·subst ey eH;cases(show u=Value.ref b from ry);obtain⟨z,hd,xs,rel,dd⟩:=VI I.hok e;have hz:xs.length<=sizeLine:=by rw[<-cT rel];exact z
  have hl:(putK kvs k v).length<=sizeLine:=by have:=IF kvs k v;omega
  refine wpAny_setItem_heap (hsz:=hz) (dP hu) (JJ I.hok eb) dd λh' dd' hs=>h _ ?_
  obtain⟨q,es,ep,hq,h2,h3,h4,_,h5⟩:=dd';refine Of I (by rw[e];exact True.intro) hs ⟨q,hq⟩ ⟨hl,hd,_,(rel.put k eb rv).keeps λc ys ec=>?_,q,es,ep,hq,h2,h3,h4,h5⟩;rw[An (Et ec e (λz=>nomatch z))];exact ec
end
section
variable {X:Cx}{pins:List (Addr×Obj)}{σ:St}{H:Hp}{s:Shared}{a:Addr}{kvs:List (Key×V)}{k:Key}{u:Value}{A:Around}{E:Value->Shared->Prop}
theorem Vb {Q:Value->Shared->Prop}(I:Inv X pins σ H s)(e:Rd H a (.dK kvs))(h:∀t s',Inv X pins σ H s'->Q (.int kvs.length t) s'):wpAny (model X.prog X.w) A (call (.builtin "len") [.ref a]) Q E s:=by
 obtain⟨z,hd,vs,rel,dd⟩:=KC I.hok e;refine call_len_dict hd dd (by rw[<-rel.length];rw[bB] at z;omega) ?_;rw[<-rel.length];exact h _ _ (I.tok _)
end
def UQ (i:Expr):Prop:=∀ov iv,subscripted i false ov iv=operate [ov,iv] (getItem ov iv)
theorem R0 {prog:Program} {w:World} {A:Around} {E:Value->Shared->Prop} {s:Shared} {env:Env} {value slice:Expr} {pos:Pos} {T id:String} {Q:Value->Shared->Prop}
  (hl:typeLookup (.type T) "__getitem__"=pure (some (.builtin id))) (hs:UQ slice)
  (h:wpAny (model prog w) A (eval value env) (λo s₁=>wpAny (model prog w) A (eval slice env) (λi s₂=>s₂.TypeIs o T/\wpAny (model prog w) A (getItem o i) Q E s₂) E s₁) E s) :
  wpAny (model prog w) A (eval (.Subscript value slice pos) env) Q E s:=by
 refine Subscript_ (bo h (λo s₁ h₁=>bo h₁ (λi s₂ h₂=>?_) λ_ _ x=>x) λ_ _ x=>x);obtain⟨hT,h₂⟩:=h₂;unfold subscriptTail;refine ae ?_;rw[getitemInPython_of_ne hT.not_modules];refine ae (wpAny_specialOf hT hl ?_);have fin:wpAny (model prog w) A (subscripted slice false o i) (λr s₃=>wpAny (model prog w) A (letTemporaryGo value o r >>= λ_=>pure r) Q E s₃) E s₂:=by
  rw[hs o i];exact wpAny_operating (bo h₂ (λr s₃ h₃=>ae (wpAny_letTemporaryGo (ao h₃))) λ_ _ x=>x)
 first
  |exact ao (ae fin)
  |exact ae (ao (ae fin))
  |exact ae fin
theorem L5 {X:Cx}{pins:List (Addr×Obj)}{σ:St}{H:Hp}{s:Shared}{a:Addr}{y:V}{o:Option V}(I:Inv X pins σ H s)(g:FO H a y o):s.TypeIs (.ref a) "dict":=by
 rcases g with⟨kvs,k,e,_,_⟩|⟨kvs,k,b,e,_,_,_⟩
 ·obtain⟨_,_,vs,_,dd⟩:=KC I.hok e;exact dd.typeIs
 ·obtain⟨_,_,xs,_,dd⟩:=Mp I.hok e;exact dd.typeIs
def Vs (td ty:TE):TE:=λσ H Q=>td σ H λx H1=>ty σ H1 λy H2=>∃a v,x=.ref a/\FO H2 a y (some v)/\Q v H2
def V9 (ty td:TE):TE:=λσ H Q=>ty σ H λy H1=>td σ H1 λx H2=>∃a o,x=.ref a/\FO H2 a y o/\Q (.bl o.isSome) H2
def SI (ty td:TE):TE:=λσ H Q=>ty σ H λy H1=>td σ H1 λx H2=>∃a o,x=.ref a/\FO H2 a y o/\Q (.bl (!o.isSome)) H2
def VF (td ty tv:TE):TS:=λD σ H=>tv σ H λv H1=>td σ H1 λx H2=>ty σ H2 λy H3=>∃a H4,x=.ref a/\L7 H3 a y v H4/\D.nx σ H4
section
variable {X:Cx}{o i e value:Expr}{pos pos' tpos:Pos}{td ty tv:TE}
theorem CT (hu:X.A.units+1<cLine)(ho:PE X o td)(hi:PE X i ty)(hs:UQ i):PE X (.Subscript o i pos) (Vs td ty):=by
 intro pins s σ H Q I h;refine R0 PySem.F.slot_dict_getitem.lookup hs (Bz (ho pins s σ H _ I h) λu s1 ⟨x,H1,I1,rx,q1⟩=>Bz (hi pins s1 σ H1 _ I1 q1) λiv s2 z9=>?_);obtain⟨y,H2,I2,ry,a,v,ex,g,q2⟩:=z9;subst ex;obtain rfl:u=Value.ref a:=rx;exact⟨L5 I2 g,Ph hu I2 g ry λw' s3 I3 rw'=>⟨v,H2,I3,rw',q2⟩⟩
theorem Tf (hu:X.A.units+1<cLine)(hi:PE X i ty)(ho:PE X o td):PC X .In i o (V9 ty td):=by
 intro pins s σ H Q I h;refine Bz (hi pins s σ H _ I h) λiv s1 ⟨y,H1,I1,ry,q1⟩=>Bz (ho pins s1 σ H1 _ I1 q1) λu s2 z9=>?_
 obtain⟨x,H2,I2,rx,a,ov,ex,g,q2⟩:=z9;subst ex;obtain rfl:u=Value.ref a:=rx;exact Wm hu I2 g ry λs3 I3=>⟨.bl ov.isSome,H2,I3,rfl,q2⟩
theorem OP (hu:X.A.units+1<cLine)(hi:PE X i ty)(ho:PE X o td):PC X .NotIn i o (SI ty td):=by
 intro pins s σ H Q I h;refine Bz (hi pins s σ H _ I h) λiv s1 ⟨y,H1,I1,ry,q1⟩=>Bz (ho pins s1 σ H1 _ I1 q1) λu s2 z9=>?_
 obtain⟨x,H2,I2,rx,a,ov,ex,g,q2⟩:=z9;subst ex;obtain rfl:u=Value.ref a:=rx;exact RY hu I2 g ry λs3 I3=>⟨.bl (!ov.isSome),H2,I3,rfl,q2⟩
theorem IZ (hu:X.A.units+1<cLine)(ho:PE X o td)(hi:PE X i ty)(hv:PE X value tv)(hs:swapsWith value (some (.Subscript o i pos')) pos.line X.env=pure false) :
  PS X (.Assign [.Subscript o i pos'] value pos) (VF td ty tv):=by
 intro pins s σ H D I h;refine wpAny_Assign_Subscript (Bz (hv pins s σ H _ I h) λr s1 ⟨v,H1,I1,rv,q1⟩=>Bz (ho pins s1 σ H1 _ I1 q1) λu s2 ⟨x,H2,I2,rx,q2⟩=>Bz (hi pins s2 σ H2 _ I2 q2) λiv s3 z9=>?_) hs;obtain⟨y,H3,I3,ry,a,H4,ex,g,q3⟩:=z9;subst ex;obtain rfl:u=Value.ref a:=rx;exact OX hu I3 g ry rv λs4 I4=>⟨σ,H4,I4,q3⟩
end
theorem QS {P:Program}{w:World}{H:Hp}(h:Heap)(hb:sysModules<h.objs.size):A5 P w H (h.push { cls:=.type "dict",data:=.dict #[] }) h.objs.size (.dK []):=
 ⟨bg _,bO.mpr (Ne.symm (aS hb)),[],.nil,Heap.DictOf.new h⟩
def Uh:TE:=λ_ H Q=>∀p,H p=none->Q (.ref p) (upd H p (.dK []))
section
variable {X:Cx}{pos:Pos}
theorem Gc:PE X (.Dict [] [] pos) Uh:=λpins s σ H Q I h=>
 wpAny_Dict_empty ⟨.ref s.heap.objs.size,_,I.laid (a:=s.heap.objs.size) (o:=.dK []) (t':=s.toks) (λ_ _ q=>af _ q) (ak _) (QS s.heap I.big),rfl,h _ (I.hok.fresh (ak _))⟩
end
section
variable {X:Cx}
def TU (K:PySem.W.Frag):R2:=λx y H Q=>∃a b xs ys,x=.ref a/\y=.ref b/\AD K H a xs/\AD K H b ys/\xs.length+ys.length<=sizeLine/\
 (xs=[]->Q (.ref b) H)/\(xs≠[]->ys=[]->Q (.ref a) H)/\(xs≠[]->ys≠[]->∀p,H p=none->Q (.ref p) (upd H p (.tup (xs++ys))))
theorem Q5:Gq X (binaryOp .Add) (TU X.K):=by
 intro pins s σ H x y v u Q I rx ry h;obtain⟨a,b,xs,ys,rfl,rfl,ha,hb,hz,q0,q1,q2⟩:=h
 by_cases hx:xs=[]
 ·subst hx;cases rx;cases ry;obtain⟨its,r1,p1,_⟩:=I.tuple ha;obtain⟨its2,r2,p2,_⟩:=I.tuple hb;cases r1;obtain⟨⟨cls,dd,data,sl⟩,ho,hc,n,hd⟩:=id p1;obtain⟨⟨cls2,dd2,data2,sl2⟩,ho2,hc2,n2,hd2⟩:=id p2;simp only at hc hd hc2 hd2;subst hc hd hc2 hd2;exact fz ⟨_,ho,rfl⟩ ⟨_,ho2,rfl⟩ fJ gJ dX dR (dJ _ _) (tuple_addW0 a b _ _ n n2 dd dd2 sl sl2 rfl) ⟨ho,ho2,.ref b,H,I,rfl,q0 rfl⟩
 ·exact Rx pins s σ H _ _ v u Q I rx ry ⟨a,b,xs,ys,rfl,rfl,ha,hb,hx,hz,q1 hx,q2 hx⟩
def UZ (K:PySem.W.Frag)(neg:Bool):R2:=λx y H Q=>∃a b xs,x=.ref a/\y=.ref b/\AB K H a xs/\AB K H b []/\Q (.bl (if neg then !decide (xs=[]) else decide (xs=[]))) H
theorem UI (hu:X.A.units+1<cLine):Gq X (compareOp .Eq) (UZ X.K false):=by
 intro pins s σ H x y v u Q I rx ry h;obtain⟨a,b,xs,rfl,rfl,h1,h2,q⟩:=h;cases rx;cases ry;obtain⟨its,r1,p1,_⟩:=I.list h1;obtain⟨its2,r2,p2,_⟩:=I.list h2;cases r2;cases r1 with
 |nil=>
  exact fK (A:=X.A) (s:=s) (e:=λ_=>true) p1.isList p2.isList rfl (by omega) (λj g1 g2=>absurd g1 (by simp)) _ _ _ _ ⟨.bl _,H,I,rfl,q⟩
 |cons r rr=>
  exact SeqAt.RcAt.lists_lengths p1.isList p2.isList (by simp) (by omega) _ _ _ _ ⟨.bl _,H,I,rfl,q⟩
end
inductive Tr where
 |non
 |bl (b:Bool)
 |int (i:Int)
 |str (z:Str)
 |tup (ts:List Tr)
 |lst (ts:List Tr)
mutual
def Rep (F:Addr->Prop)(H:Hp):Tr->V->Prop
 | .non,v=>v=.non
 | .bl b,v=>v=.bl b
 | .int i,v=>v=.int i
 | .str z,v=>v=.str z
 | .tup ts,v=>∃a vs,v=.ref a/\H a=some (.tup vs)/\AX F H ts vs
 | .lst ts,v=>∃a vs,v=.ref a/\F a/\H a=some (.lst vs)/\AX F H ts vs
def AX (F:Addr->Prop)(H:Hp):List Tr->List V->Prop
 |[],vs=>vs=[]
 |t::ts,vs=>∃v us,vs=v::us/\Rep F H t v/\AX F H ts us
end
mutual
def Tr.dep:Tr->Nat
 | .tup ts=>1+Tr.deps ts
 | .lst ts=>1+Tr.deps ts
 |_=>1
def Tr.deps:List Tr->Nat
 |[]=>0
 |t::ts=>max (Tr.dep t) (Tr.deps ts)
end
mutual
theorem Rep.same {F:Addr->Prop}{H H':Hp}(s:Al H H'):∀(t:Tr) (v:V),Rep F H t v->Rep F H' t v
 | .non,_,h=>h
 | .bl _,_,h=>h
 | .int _,_,h=>h
 | .str _,_,h=>h
 | .tup ts,_,⟨a,vs,e,ha,hr⟩=>⟨a,vs,e,s.get ha,AX.same s ts vs hr⟩
 | .lst ts,_,⟨a,vs,e,fa,ha,hr⟩=>⟨a,vs,e,fa,s.get ha,AX.same s ts vs hr⟩
theorem AX.same {F:Addr->Prop}{H H':Hp}(s:Al H H'):∀(ts:List Tr) (vs:List V),AX F H ts vs->AX F H' ts vs
 |[],_,h=>h
 |t::ts,_,⟨v,us,e,h1,h2⟩=>⟨v,us,e,Rep.same s t v h1,AX.same s ts us h2⟩
end
theorem AX.len {F:Addr->Prop}{H:Hp}:∀(ts:List Tr) (vs:List V),AX F H ts vs->vs.length=ts.length
 |[],_,h=>by rw[show _=[] from h];rfl
 |t::ts,_,⟨v,us,e,_,h2⟩=>by rw[e,aM,aM,AX.len ts us h2]
theorem AX.get {F:Addr->Prop}{H:Hp}:∀{ts:List Tr} {vs:List V},AX F H ts vs->∀{i:Nat} {v:V},vs[i]?=some v->∃t,ts[i]?=some t/\Rep F H t v
 |[],_,h,i,v,hv=>by rw[show _=[] from h] at hv;simp at hv
 |t::ts,_,⟨w,us,e,h1,h2⟩,0,v,hv=>by
  rw[e] at hv;cases(aP hv);exact⟨t,rfl,h1⟩
 |t::ts,_,⟨w,us,e,h1,h2⟩,i+1,v,hv=>by
  rw[e] at hv;obtain⟨t',e1,e2⟩:=AX.get h2 (i:=i) (v:=v) (by simpa using hv);exact⟨t',by simpa using e1,e2⟩
theorem Tr.deps_get:∀{ts:List Tr} {i:Nat} {t:Tr},ts[i]?=some t->Tr.dep t<=Tr.deps ts
 |t::ts,0,t',e=>by cases(aP e);exact Nat.le_max_left _ _
 |t::ts,i+1,t',e=>ba (Tr.deps_get (ts:=ts) (i:=i) (by simpa using e)) (Nat.le_max_right _ _)
section
variable {X:Cx}{pins:List (Addr×Obj)}{σ:St}{H:Hp}{s:Shared}{F G:Addr->Prop}
mutual
theorem T6 (I:Inv X pins σ H s):∀(t:Tr) (A:Around) (v u:V) (vv uu:Value),A.units+t.dep<cLine->Rep F H t v->Rep G H t u->RelV v vv->RelV u uu->SeqAt.EqAt A s vv uu true
 | .non,A,v,u,vv,uu,_,h1,h2,r1,r2=>by
  rw[show v=V.non from h1] at r1;rw[show u=V.non from h2] at r2;cases r1;cases r2;exact cY _
 | .bl b,A,v,u,vv,uu,_,h1,h2,r1,r2=>by
  rw[show v=V.bl b from h1] at r1;rw[show u=V.bl b from h2] at r2;cases r1;cases r2;exact cY _
 | .int i,A,v,u,vv,uu,_,h1,h2,r1,r2=>by
  have:=MP (A:=A) (s:=s) r1 r2 (by rw[show v=V.int i from h1];rfl) (by rw[show u=V.int i from h2];rfl);rw[show v=V.int i from h1,show u=V.int i from h2] at this;have e:Ra (V.int i) (V.int i)=true:=by rw[pure_eq rfl rfl];simp
  rw[e] at this;exact this
 | .str z,A,v,u,vv,uu,_,h1,h2,r1,r2=>by
  have:=MP (A:=A) (s:=s) r1 r2 (by rw[show v=V.str z from h1];rfl) (by rw[show u=V.str z from h2];rfl);rw[show v=V.str z from h1,show u=V.str z from h2] at this;have e:Ra (V.str z) (V.str z)=true:=by rw[pure_eq rfl rfl];simp
  rw[e] at this;exact this
 | .tup ts,A,v,u,vv,uu,hA,⟨a,vs,e1,ha,hr1⟩,⟨b,us,e2,hb,hr2⟩,r1,r2=>by
  subst e1 e2;cases r1;cases r2
  by_cases hab:a=b
  ·subst hab;exact cY _
  have hA':A.units+(1+Tr.deps ts)<cLine:=hA;obtain⟨its,rv1,p1,_⟩:=I.tuple (AD.of (K:=X.K) ha);obtain⟨its2,rv2,p2,_⟩:=I.tuple (AD.of (K:=X.K) hb);have l1:=rv1.length.symm.trans (AX.len ts vs hr1);have l2:=rv2.length.symm.trans (AX.len ts us hr2);have q:=d9 (A:=A) (s:=s) (e:=λ_=>true) p1 p2 (by omega) (λj g1 g2=>FC I ts A.in1 vs us its its2 (by show A.units+1+Tr.deps ts<cLine;omega) hr1 hr2 rv1 rv2 j (by simpa using g1) (by simpa using g2));have e:((List.range (min its.toArray.size its2.toArray.size)).all (λ_=>true)&&its.toArray.size == its2.toArray.size)=true:=by
   simp[l1,l2]
  rw[e] at q;exact fh hab q
 | .lst ts,A,v,u,vv,uu,hA,⟨a,vs,e1,_,ha,hr1⟩,⟨b,us,e2,_,hb,hr2⟩,r1,r2=>by
  subst e1 e2;cases r1;cases r2
  by_cases hab:a=b
  ·subst hab;exact cY _
  have hA':A.units+(1+Tr.deps ts)<cLine:=hA;obtain⟨its,rv1,p1,_⟩:=I.list (AB.of (K:=X.K) ha);obtain⟨its2,rv2,p2,_⟩:=I.list (AB.of (K:=X.K) hb);have l1:=rv1.length.symm.trans (AX.len ts vs hr1);have l2:=rv2.length.symm.trans (AX.len ts us hr2);have q:=fK (A:=A) (s:=s) (e:=λ_=>true) p1.isList p2.isList (by simp[l1,l2]) (by omega) (λj g1 g2=>FC I ts A.in1 vs us its its2 (by show A.units+1+Tr.deps ts<cLine;omega) hr1 hr2 rv1 rv2 j (by simpa using g1) (by simpa using g2));have e:((List.range its.toArray.size).all (λ_=>true))=true:=by simp
  rw[e] at q;exact fh hab q
theorem FC (I:Inv X pins σ H s):∀(ts:List Tr) (A:Around) (vs us:List V) (its its2:List Value),A.units+Tr.deps ts<cLine->AX F H ts vs->AX G H ts us->AJ vs its->AJ us its2->∀(j:Nat) (g1:j<its.length) (g2:j<its2.length),SeqAt.EqAt A s its[j] its2[j] true
 |[],A,vs,us,its,its2,_,h1,h2,r1,r2=>λj g1 g2=>by
  rw[show vs=[] from h1] at r1;cases r1;simp at g1
 |t::ts,A,vs,us,its,its2,hA,⟨v,vr,e1,a1,b1⟩,⟨u,ur,e2,a2,b2⟩,r1,r2=>by
  subst e1 e2;have hA':A.units+max (Tr.dep t) (Tr.deps ts)<cLine:=hA;cases r1 with
  |cons p1 q1=>
   cases r2 with
   |cons p2 q2=>
    intro j g1 g2;cases j with
    |zero=>exact T6 I t A v u _ _ (by omega) a1 a2 p1 p2
    |succ j=>exact FC I ts A vr ur _ _ (by omega) b1 b2 q1 q2 j (by simpa using g1) (by simpa using g2)
end
end
section
variable {X:Cx}
def VW:R2:=λx y H Q=>∃t F G,t.dep<=100/\Rep F H t x/\Rep G H t y/\Q (.bl false) H
theorem JF (hu:X.A.units+150<cLine):Gq X (compareOp .NotEq) VW:=by
 intro pins s σ H x y v u Q I rx ry h;obtain⟨t,F,G,hd,h1,h2,q⟩:=h;have MO:∀z:V,P8 z=true\/(∃b,z=.bl b)->x=z->y=z->wpAny (model X.prog X.w) X.A (compareOp .NotEq v u) (EP X pins σ Q) X.xe s:=λz hz e1 e2=>by
  refine Iu pins s σ H x y v u Q I rx ry ⟨?_,?_⟩
  ·subst e1 e2;rcases hz with hz|⟨b,rfl⟩
   ·cases y<;>first|rfl|exact absurd (show false=true from hz) aA
   ·rfl
  ·rw[e1,e2];simpa using q
 cases t with
 |non=>exact MO _ (.inl rfl) h1 h2
 |bl b=>exact MO _ (.inr ⟨b,rfl⟩) h1 h2
 |int i=>exact MO (.int i) (.inl rfl) h1 h2
 |str z=>exact MO (.str z) (.inl rfl) h1 h2
 |tup ts=>
  obtain⟨a,vs,rfl,ha,hr1⟩:=h1;obtain⟨b,us,rfl,hb,hr2⟩:=h2;cases rx;cases ry;have hd':1+Tr.deps ts<=100:=hd;obtain⟨its,rv1,p1,_⟩:=I.tuple (AD.of (K:=X.K) ha);obtain⟨its2,rv2,p2,_⟩:=I.tuple (AD.of (K:=X.K) hb);have l1:=rv1.length.symm.trans (AX.len ts vs hr1);have l2:=rv2.length.symm.trans (AX.len ts us hr2);have q2:=SeqAt.RcNeAt.tuples (A:=X.A) (s:=s) (e:=λ_=>true) p1 p2 (by omega) (λj g1 g2=>FC I ts X.A.in1 vs us its its2 (by show X.A.units+1+Tr.deps ts<cLine;omega) hr1 hr2 rv1 rv2 j (by simpa using g1) (by simpa using g2));have e:(!((List.range (min its.toArray.size its2.toArray.size)).all (λ_=>true)&&its.toArray.size == its2.toArray.size))=false:=by
   simp[l1,l2]
  rw[e] at q2;exact q2 _ _ _ _ ⟨.bl _,H,I,rfl,q⟩
 |lst ts=>
  obtain⟨a,vs,rfl,_,ha,hr1⟩:=h1;obtain⟨b,us,rfl,_,hb,hr2⟩:=h2;cases rx;cases ry;have hd':1+Tr.deps ts<=100:=hd;obtain⟨its,rv1,p1,_⟩:=I.list (AB.of (K:=X.K) ha);obtain⟨its2,rv2,p2,_⟩:=I.list (AB.of (K:=X.K) hb);have l1:=rv1.length.symm.trans (AX.len ts vs hr1);have l2:=rv2.length.symm.trans (AX.len ts us hr2);have q2:=SeqAt.RcNeAt.lists (A:=X.A) (s:=s) (e:=λ_=>true) p1.isList p2.isList (by simp[l1,l2]) (by omega) (λj g1 g2=>FC I ts X.A.in1 vs us its its2 (by show X.A.units+1+Tr.deps ts<cLine;omega) hr1 hr2 rv1 rv2 j (by simpa using g1) (by simpa using g2));have e:(!(List.range its.toArray.size).all (λ_=>true))=false:=by simp
  rw[e] at q2;exact q2 _ _ _ _ ⟨.bl _,H,I,rfl,q⟩
end
mutual
theorem Rep.mono {F G:Addr->Prop}{H:Hp}(h:∀a,F a->G a):∀(t:Tr) (v:V),Rep F H t v->Rep G H t v
 | .non,_,q=>q
 | .bl _,_,q=>q
 | .int _,_,q=>q
 | .str _,_,q=>q
 | .tup ts,_,⟨a,vs,e,ha,hr⟩=>⟨a,vs,e,ha,AX.mono h ts vs hr⟩
 | .lst ts,_,⟨a,vs,e,fa,ha,hr⟩=>⟨a,vs,e,h a fa,ha,AX.mono h ts vs hr⟩
theorem AX.mono {F G:Addr->Prop}{H:Hp}(h:∀a,F a->G a):∀(ts:List Tr) (vs:List V),AX F H ts vs->AX G H ts vs
 |[],_,q=>q
 |t::ts,_,⟨v,us,e,h1,h2⟩=>⟨v,us,e,Rep.mono h t v h1,AX.mono h ts us h2⟩
end
theorem B2 {K:PySem.W.Frag}{a:Addr}{H:Hp}{xs:List V}(h:H a=some (.tup xs)):Hi (UO K a) H xs:=λH' s i=>
 ⟨λhi=>⟨xs,xs[i],AD.of (s.get h),by simp[hi]⟩,λx H'' y=>⟨y.1,λ_=>y.2 xs (AD.of (s.get h))⟩,λhi=>⟨xs,AD.of (s.get h),hi⟩⟩
theorem B8 {A:Around}{k:Nat}(hr:Room k A):A.units+150<cLine:=by have:=hr.un;omega
def M3 (P:Program)(w:World)(K:PySem.W.Frag)(mg:Str->Option Value)(base:Heap)(k:Nat)(C:Addr)(m:Str)(ps:List Str)(sp:Sp):Prop:=
 ∃(f:Addr) (fd:FuncData),FnOk P w K mg base CU k f fd ps sp/\Meth K C m f/\Binds K fd ps []
def PR (P:Program)(w:World)(K:PySem.W.Frag)(mg:Str->Option Value)(base:Heap)(k:Nat)(C:Addr)(x:Str)(ps:List Str)(sp:Sp):Prop:=
 ∃(f:Addr) (fd:FuncData),FnOk P w K mg base CU k f fd ps sp/\Mk K C f/\mg x=some (.ref C)/\Binds K fd ps []
section
variable {X:Cx}{k:Nat}{x m:Str}{C:Addr}{ps:List Str}{sp:Sp}{e o:Expr}{es:List Expr}{t:TA}{ta:TE}{p apos pos:Pos}
theorem MW (D:PR X.prog X.w X.K X.mg X.base k C x ps sp) (hr:Room (k+1) X.A) (hg:Gl X x) (ha:PA X (e::es) t)
  (hdb:(x == ("__debug__":Str))=false:=by decide) (he:starEach (e::es) X.env=(false,eval e X.env)::starEach es X.env:=by rfl) (hpl:(backTo pos (starEach es X.env)).any (·.1)=false:=by rfl) :
  PE X (.Call (.Name x p) (e::es) [] pos) (S0 C sp [] E0 t):=by
 obtain⟨f,fd,F,M,hm,hb⟩:=D;exact RT M F hr hg hm hb .nil Oj ha hdb he hpl
theorem NC {pl:Sem Bool} (ho:PE X o ta) (c:LZ X.K C) (D:M3 X.prog X.w X.K X.mg X.base k C m ps sp) (hr:Room k X.A) (ha:PA X (e::es) t)
  (hst:starEach (e::es) X.env=(false,eval e X.env)::starEach es X.env:=by rfl) (hpl:(backTo pos (starEach es X.env)).any (·.1)=false:=by rfl)
  (ht:eval (.Call (.Attribute o m apos) (e::es) [] pos) X.env=(do
   let ov <-eval o X.env
   standAt apos.atName
   let(f,first) <-holding [ov] (getMethod ov m pl)
   callWith pos f first (backTo pos (starEach (e::es) X.env)) (backToKw pos (keywordEach [] X.env))):=by rfl) :
  PE X (.Call (.Attribute o m apos) (e::es) [] pos) (Ta C m sp [] E0 ta t):=by
 obtain⟨f,fd,F,M,hb⟩:=D;exact R4 ho c M F hr hb .nil Oj ha hst hpl ht
end
def Qu (d:Addr)(o:Obj)(kvs:List (Key×V)):It:=
 ⟨λi H=>H d=some (.frz o (.dK kvs))/\i<kvs.length,λi H x H'=>H'=H/\∃k v,kvs[i]?=some (k,v)/\x=kV k,λi H=>H d=some (.frz o (.dK kvs))/\kvs.length<=i⟩
theorem JA {P:Program}{w:World}{k:Key}{u:Value}(h:(Bo P w).is k u=true):RelV (kV k) u:=by
 rcases BB h with⟨i,t,rfl,rfl⟩|⟨x,t,rfl,rfl⟩
 ·exact⟨t,rfl⟩
 ·exact⟨t,rfl⟩
theorem Nl {X:Cx}{pins:List (Addr×Obj)}{σ:St}{H:Hp}{s:Shared}{d:Addr}{o:Obj}{kvs:List (Key×V)}{es:Array DictEntry}{ep:Nat}(I:Inv X pins σ H s)(h:H d=some (.frz o (.dK kvs)))(he:o.data=.dict es ep) :
  (d == sysModules)=false/\∃vs,KV kvs vs/\s.heap.DictAt (Bo X.prog X.w) d vs ep:=by
 obtain⟨ho,_,hs,vs,r,o',es',ep',ho',h1,h2,h3⟩:=I.hok d _ h;rw[ho] at ho';cases ho';rw[he] at h2;injection h2 with e1 e2
 subst e1 e2;exact⟨hs,vs,r,o,es,ho,h1,he,h3⟩
theorem OD {P:Program}{w:World}{K:PySem.W.Frag}{tg:Expr}(d it:Addr)(o:Obj)(kvs:List (Key×V))(es:Array DictEntry)(ep:Nat)(he:o.data=.dict es ep):Turn P w K tg (Qu d o kvs) [it] it (λi h=>h.IsKeyIter it d i kvs.length ep) where
 mem:=by simp
 obj:=λi h st b hb=>by
  have e:b=it:=by simpa using hb
  subst e;obtain⟨o,e,c,d⟩:=st;exact⟨o,e,λv z=>by rw[d] at z;cases z⟩
 keep:=λi h h' st k=>st.at λo e=>k it (by simp) o e
 item:=by
  intro X hP hw hK hc i pins s σ H E I hf st hg;subst hP hw hK;obtain⟨hq,hi⟩:=hg;obtain⟨_,vs,r,hat⟩:=Nl I hq he;have hl:kvs.length=vs.length:=cT r;obtain⟨f0,f1,f2,f3,f4,f5⟩:=hf it (by simp);have ek:kvs[i]?=some kvs[i]:=ah hi;have ev:vs[i]?=some vs[i]:=ah (by omega);have rk:=r.keys;have e1:kvs[i].1=(vs[i]'(by omega)).1:=by
   have:=congrArg (λl=>l[i]?) rk;simp only[List.getElem?_map,ek,ev,Option.map_some] at this;exact aP this
  rw[hl] at st;refine wpAny_pyNext_dict_item (k:=(vs[i]'(by omega)).1) (v:=(vs[i]'(by omega)).2) st hat ev λkey h' hkey st' sb=>?_
  have I1:Inv X pins σ H { s with heap:=h' }:=I.turned (t':=s.toks) (λb o hb e=>(sb.2 b hb).trans e) f0 f1 f3 f4 f5;rw[<-hl] at st';obtain⟨o2,e,c,dd⟩:=id st';exact⟨key,rfl,KD (s:={ s with heap:=h' }) e c dd (by decide) ⟨kV kvs[i].1,H,I1,JA (by rw[e1];exact hkey),⟨rfl,kvs[i].1,kvs[i].2,ek,rfl⟩,st',λb hb=>(hf b hb).1⟩⟩
 done:=by
  intro X hP hw hK hc i pins s σ H E I hf st hg;subst hP hw hK;obtain⟨hq,hi⟩:=hg;obtain⟨_,vs,r,hat⟩:=Nl I hq he;have hl:kvs.length=vs.length:=cT r;obtain⟨f0,f1,f2,f3,f4,f5⟩:=hf it (by simp);rw[hl] at st;exact wpAny_pyNext_dict_end (I.ok.hd hc) st hat (cy (by omega)) λh' eb=>⟨rfl,I.turned (t':=s.toks) (λb o hb e=>eb b o hb e) f0 f1 f3 f4 f5⟩
 self:=λ_ _ _ _ _ st h=>wpAny_pyIter_keyiter st h
theorem Inv.freeze {X:Cx}{pins:List (Addr×Obj)}{σ:St}{H:Hp}{s:Shared}{d:Addr}{o:Obj}{kvs:List (Key×V)}(I:Inv X pins σ H s)(h:H d=some (.dK kvs))(ho:s.heap.get? d=some o):Inv X pins σ (upd H d (.frz o (.dK kvs))) s:=by
 have nd:∀b,H b=none->upd H d (.frz o (.dK kvs)) b=none:=λb hb=>by
  rw[An (λz=>by rw[z,h] at hb;cases hb)];exact hb
 refine⟨I.ok,I.os,I.bare,⟨I.base.keep,I.base.slot,λb ob e1 e2 e3=>nd b (I.base.free b ob e1 e2 e3),I.base.there,λb xs e=>?_,λb o2 u e=>?_,λb ps e=>?_⟩,I.loc,I.cell,nd _ I.free,λx c e=>nd c (I.freeC x c e),λp hp=>?_,λb u e=>?_,I.len⟩
 ·have:=I.base.tups b xs e;rw[An (Et this h (by intro z;cases z))];exact this
 ·have:=I.base.frzs b o2 u e;rw[An (Et this h (by intro z;cases z))];exact this
 ·obtain⟨more,q⟩:=I.base.tbls b ps e;exact⟨more,by rw[An (Et q h (by intro z;cases z))];exact q⟩
 ·obtain⟨p1,p2,p3⟩:=I.pin p hp;exact⟨p1,nd _ p2,p3⟩
 ·by_cases hb:b=d
  ·subst hb;rw[Ad] at e;cases e;exact⟨ho,(I.hok b _ h).stay (λc v _ r=>r) (λc r=>by rw[An (Et r h (by intro z;cases z))];exact r) λc xs r=>by rw[An (Et r h (by intro z;cases z))];exact r⟩
  ·rw[An hb] at e;exact(I.hok b u e).stay (λc v _ r=>r) (λc r=>by rw[An (Et r h (by intro z;cases z))];exact r) λc xs r=>by rw[An (Et r h (by intro z;cases z))];exact r
section
variable {X:Cx}{tg:Expr}
def UW (tl:TE):TI:=λσ H R=>tl σ H λx H1=>∃d kvs,x=.ref d/\H1 d=some (.dK kvs)/\∀o,R (Qu d o kvs) (upd H1 d (.frz o (.dK kvs)))
theorem RM {l:Expr}{tl:TE}(hl:PE X l tl):PI X tg l (UW tl):=by
 intro pins s σ H R I h;refine Bz (hl pins s σ H _ I h) λv s1 ⟨x,H1,I1,r1,q1⟩=>?_
 obtain⟨d,kvs,e,hq,q⟩:=q1;subst e;cases r1;obtain⟨_,_,vs,r,o,es,ep,ho,_,he,_⟩:=I1.hok d _ hq;have I2:=I1.freeze hq ho;obtain⟨hs,vs,r,hat⟩:=Nl I2 Ad he;have hl:kvs.length=vs.length:=cT r;refine wpAny_pyIter_dict hs hat ?_;refine⟨s1.heap.objs.size,[s1.heap.objs.size],_,_,_,rfl,I2.kept (t':=s1.toks) λb o e=>af _ e,OD d _ o kvs es ep he,⟨_,aJ _ rfl,rfl,by rw[hl];rfl⟩,λb hb=>?_,q o⟩;have e:b=s1.heap.objs.size:=by simpa using hb
 subst e;exact I2.fpOk (ak _) (I2.hok.fresh (ak _))
end
theorem QT {d:Addr} {o:Obj} {kvs:List (Key×V)} {g:TG} {tb:TS} {D:Ends} {σ:St} {H:Hp} (Pv:Nat->St->Hp->Prop) (h0:Pv 0 σ H) (hl:∀(i:Nat) (σ:St) (H:Hp),i<=kvs.length->Pv i σ H->H d=some (.frz o (.dK kvs)))
  (turn:∀(i:Nat) (k:Key) (v:V) (σ:St) (H:Hp),kvs[i]?=some (k,v)->Pv i σ H->g (kV k) σ H λσ2 H2=>tb { nx:=Pv (i+1),rt:=D.rt,bk:=D.nx,ct:=Pv (i+1) } σ2 H2)
  (done:∀(σ:St) (H:Hp),Pv kvs.length σ H->D.nx σ H) :
  ∃W:Nat->Nat->St->Hp->Prop,(∃m,W 0 m σ H)/\∀i m σ H,W i m σ H->
   ((Qu d o kvs).stop i H/\D.nx σ H)\/((Qu d o kvs).go i H/\∃N:St->Hp->Prop,(∀σ' H',N σ' H'->∃m',m'<m/\W (i+1) m' σ' H')/\∀x H',(Qu d o kvs).yld i H x H'->g x σ H' λσ2 H2=>tb { D with nx:=N,ct:=N,bk:=D.nx } σ2 H2):=by
 refine⟨λi m σ H=>m=kvs.length-i/\i<=kvs.length/\Pv i σ H,⟨_,rfl,bg _,h0⟩,?_⟩
 rintro i m σ H ⟨rfl,hi,hp⟩
 by_cases hlt:i<kvs.length
 ·refine .inr ⟨⟨hl i σ H hi hp,hlt⟩,Pv (i+1),λσ' H' hn=>⟨kvs.length-(i+1),by omega,rfl,hlt,hn⟩,?_⟩
  rintro x H' ⟨rfl,k,v,e,rfl⟩
  exact turn i k v σ _ e hp
 ·have e:i=kvs.length:=by omega
  subst e;exact .inl ⟨⟨hl _ σ H hi hp,ak _⟩,done σ H hp⟩
theorem Inv.thaw {X:Cx}{pins:List (Addr×Obj)}{σ:St}{H:Hp}{s:Shared}{d:Addr}{o:Obj}{kvs:List (Key×V)}(I:Inv X pins σ H s)(h:H d=some (.frz o (.dK kvs)))(nf:∀o u,X.H₀ d≠some (.frz o u)):Inv X pins σ (upd H d (.dK kvs)) s:=by
 have nd:∀b,H b=none->upd H d (.dK kvs) b=none:=λb hb=>by
  rw[An (λz=>by rw[z,h] at hb;cases hb)];exact hb
 refine⟨I.ok,I.os,I.bare,⟨I.base.keep,I.base.slot,λb ob e1 e2 e3=>nd b (I.base.free b ob e1 e2 e3),I.base.there,λb xs e=>?_,λb o2 u e=>?_,λb ps e=>?_⟩,I.loc,I.cell,nd _ I.free,λx c e=>nd c (I.freeC x c e),λp hp=>?_,λb u e=>?_,I.len⟩
 ·have:=I.base.tups b xs e;rw[An (Et this h (by intro z;cases z))];exact this
 ·have:=I.base.frzs b o2 u e;rw[An (λz=>nf o2 u (by rw[<-z];exact e))];exact this
 ·obtain⟨more,q⟩:=I.base.tbls b ps e;exact⟨more,by rw[An (Et q h (by intro z;cases z))];exact q⟩
 ·obtain⟨p1,p2,p3⟩:=I.pin p hp;exact⟨p1,nd _ p2,p3⟩
 ·by_cases hb:b=d
  ·subst hb;rw[Ad] at e;cases e;obtain⟨_,q⟩:=I.hok b _ h;exact A5.stay (o:=.dK kvs) q (λc v _ r=>r) (λc r=>by rw[An (Et r h (by intro z;cases z))];exact r) λc xs r=>by rw[An (Et r h (by intro z;cases z))];exact r
  ·rw[An hb] at e;exact(I.hok b u e).stay (λc v _ r=>r) (λc r=>by rw[An (Et r h (by intro z;cases z))];exact r) λc xs r=>by rw[An (Et r h (by intro z;cases z))];exact r
section
variable {X:Cx}
def GA (X:Cx)(D:Ends):Ends where
 nx:=λσ H=>∃d o kvs,(∀o u,X.H₀ d≠some (.frz o u))/\H d=some (.frz o (.dK kvs))/\D.nx σ (upd H d (.dK kvs))
 rt:=λv H=>∃d o kvs,(∀o u,X.H₀ d≠some (.frz o u))/\H d=some (.frz o (.dK kvs))/\D.rt v (upd H d (.dK kvs))
def Qg (X:Cx)(tl:TE)(g:TG)(tb:TS):TS:=λD σ H=>tl σ H λx H1=>∃d kvs,x=.ref d/\H1 d=some (.dK kvs)/\∀o,∃W:Nat->Nat->St->Hp->Prop,(∃m,W 0 m σ (upd H1 d (.frz o (.dK kvs))))/\∀i m σ H,W i m σ H->
 ((Qu d o kvs).stop i H/\(GA X D).nx σ H)\/((Qu d o kvs).go i H/\∃N:St->Hp->Prop,(∀σ' H',N σ' H'->∃m',m'<m/\W (i+1) m' σ' H')/\∀x H',(Qu d o kvs).yld i H x H'->g x σ H' λσ2 H2=>tb { GA X D with nx:=N,ct:=N,bk:=(GA X D).nx } σ2 H2)
theorem NW {tg l:Expr} {body:List Stmt} {tl:TE} {g:TG} {tb:TS} {pos:Pos} (hp:PassesOwn (model X.prog X.w) X.A X.env X.xe) (hc:X.calm=true) (hl:PE X l tl) (hg:PG X tg g) (hb:KU X body tb)
  (hs:∀x,foldedSetIterable l X.env x=pure x:=by intro _;rfl):PS X (.For tg l body [] pos) (Qg X tl g tb):=by
 intro pins s σ H D I h;refine Bz (BF (pos:=pos) hp hc (RM hl) hg hb hs pins s σ H (GA X D) I h) λf s' q=>?_
 cases f with
 |next=>
  obtain⟨σ',H',I',d,o,kvs,nf,hd,q⟩:=q;exact⟨σ',_,I'.thaw hd nf,q⟩
 |brk=>obtain⟨σ',H',I',q⟩:=q;exact False.elim q
 |cont=>obtain⟨σ',H',I',q⟩:=q;exact False.elim q
 |ret v=>
  obtain⟨x,σ',H',I',r,d,o,kvs,nf,hd,q⟩:=q;exact⟨x,σ',_,I'.thaw hd nf,r,q⟩
theorem KM {d:Addr} {o:Obj} {kvs:List (Key×V)} {g:TG} {tb:TS} {D:Ends} {σ:St} {H:Hp} (nf:∀o u,X.H₀ d≠some (.frz o u)) (Pv:Nat->St->Hp->Prop) (h0:Pv 0 σ H) (hl:∀(i:Nat) (σ:St) (H:Hp),i<=kvs.length->Pv i σ H->H d=some (.frz o (.dK kvs)))
  (turn:∀(i:Nat) (k:Key) (v:V) (σ:St) (H:Hp),kvs[i]?=some (k,v)->Pv i σ H->g (kV k) σ H λσ2 H2=>tb { nx:=Pv (i+1),rt:=(GA X D).rt,bk:=(GA X D).nx,ct:=Pv (i+1) } σ2 H2)
  (done:∀(σ:St) (H:Hp),Pv kvs.length σ H->D.nx σ (upd H d (.dK kvs))) :
  ∃W:Nat->Nat->St->Hp->Prop,(∃m,W 0 m σ H)/\∀i m σ H,W i m σ H->
   ((Qu d o kvs).stop i H/\(GA X D).nx σ H)\/((Qu d o kvs).go i H/\∃N:St->Hp->Prop,(∀σ' H',N σ' H'->∃m',m'<m/\W (i+1) m' σ' H')/\∀x H',(Qu d o kvs).yld i H x H'->g x σ H' λσ2 H2=>tb { GA X D with nx:=N,ct:=N,bk:=(GA X D).nx } σ2 H2):=
 QT (D:=GA X D) Pv h0 hl turn λσ H p=>⟨d,o,kvs,nf,hl _ σ H (ak _) p,done σ H p⟩
end
theorem Bs {t u:TS}{D:Ends}{σ:St}{H:Hp}(M:St->Hp->Prop)(h1:∀N:St->Hp->Prop,(∀σ' H',M σ' H'->N σ' H')->t { D with nx:=N } σ H)(h2:∀σ' H',M σ' H'->u D σ' H'):Pq t u D σ H:=h1 (u D) h2
theorem R3 {J:It} {xs:List V} {fr:List (Option Nat)} {k:Nat} {te:TE} {Q:VK} {σ:St} {H:Hp} (I:Nat->List V->Addr->Hp->Prop) (hn:xs.length<=1000000)
  (hJ:∀i ys l H',I i ys l H'->(i<xs.length->J.go i H')/\(∀x H'',J.yld i H' x H''->H''=H'/\(i<xs.length->xs[i]?=some x))/\(xs.length<=i->J.stop i H'))
  (h0:∀l,H l=none->I 0 [] l (upd H l (.lst [])))
  (step:∀(i:Nat) (x:V) (ys:List V) (l:Addr) (H':Hp) (R:VK),xs[i]?=some x->H l=none->H' l=some (.lst ys)->ys.length=i->I i ys l H'->(∀y H'',H'' l=some (.lst ys)->I (i+1) (ys++[y]) l (upd H'' l (.lst (ys++[y])))->R y H'')->te ((stC fr σ).set k (some x)) H' R)
  (hQ:∀l H' (ys:List V),H l=none->H' l=some (.lst ys)->ys.length=xs.length->I xs.length ys l H'->Q (.ref l) H'):Df fr (Aq k) L8 te σ Q J H:=by
 intro l hl;refine⟨λi m σ' H'=>m=xs.length-i/\i<=xs.length/\(∀y,σ'.set k y=(stC fr σ).set k y)/\∃ys:List V,H' l=some (.lst ys)/\ys.length=i/\I i ys l H',⟨xs.length,by simp,bg _,λ_=>rfl,[],Ad,rfl,h0 l hl⟩,?_⟩
 rintro i m σ' H' ⟨rfl,hi,hσ,ys,hl',hlen,hI⟩
 obtain⟨h1,h2,h3⟩:=hJ i ys l H' hI
 by_cases hlt:i<xs.length
 ·refine .inr ⟨h1 hlt,λx H'' y=>?_⟩;obtain⟨rfl,hx⟩:=h2 x H'' y;have hx:=hx hlt;show te (σ'.set k (some x)) H'' _;rw[hσ];refine step i x ys l H'' _ hx hl hl' hlen hI λy H4 hl4 hI4=>?_
  exact⟨ys,hl4,Bh (by omega),xs.length-(i+1),by omega,rfl,hlt,λy=>by rw[d5],ys++[y],Ad,by rw[au,hlen];rfl,hI4⟩
 ·have e:i=xs.length:=by omega
  subst e;exact .inl ⟨h3 (ak _),hQ l H' ys hl hl' hlen hI⟩
theorem TH {lo:Int}{n i:Nat}{H:Hp}:(i<((List.range n).map λ(i:Nat)=>V.int (lo+(i:Int))).length->(Rr lo n).go i H)/\(∀x H'',(Rr lo n).yld i H x H''->H''=H/\(i<((List.range n).map λ(i:Nat)=>V.int (lo+(i:Int))).length->((List.range n).map λ(i:Nat)=>V.int (lo+(i:Int)))[i]?=some x))/\(((List.range n).map λ(i:Nat)=>V.int (lo+(i:Int))).length<=i->(Rr lo n).stop i H):=by
 rw[aa,bK];refine⟨λh=>h,λx H'' y=>⟨y.1,λh=>?_⟩,λh=>h⟩;rw[aw,dC h,y.2];rfl
end L2
namespace L2
section
open PySem
open Sem (wp wp_bind' wp_mono)
def Jy (o:Obj):Prop:=∃vs,o.data=.fields vs/\vs[2]?=some .none
def DictAt (h:Heap)(e:Addr)(d:Option Addr):Prop:=∃o,h.objs[e]?=some o/\o.dict=d/\Jy o
def DK {α:Type}(t:Sem α):Prop:=∀(M:Model) (Γ:Ctx) (Q:α->Pos->Shared->Prop) (E:Value->Pos->Shared->Prop) (p:Pos) (s:Shared) (e:Addr) (d:Option Addr),wp M Γ t Q E p s->DictAt s.heap e d->
 wp M Γ t (λa p s'=>Q a p s'/\DictAt s'.heap e d) (λv p s'=>E v p s'/\DictAt s'.heap e d) p s
variable {α β:Type}
theorem Bt (a:α):DK (pure a:Sem α):=λ_ _ _ _ _ _ _ _ h j=>⟨h,j⟩
theorem CM (w:String):DK (PySem.unsupported w:Sem α):=λ_ _ _ _ _ _ _ _ h _=>False.elim h
theorem Ba {m:Sem α}{f:α->Sem β}(h1:DK m)(h2:∀a,DK (f a)):DK (m >>= f):=by
 intro M Γ Q E p s e d h j;rw[wp_bind'] at h ⊢;exact wp_mono M Γ m (λa p' s' q=>h2 a M Γ Q E p' s' e d q.1 q.2) (λ_ _ _ q=>q) p s (h1 M Γ _ E p s e d h j)
theorem Ll (a:Addr):DK (load a):=λM Γ Q E p s e d ⟨o,q,h⟩ j=>⟨o,q,h,j⟩
theorem JM:DK stack:=λM Γ Q E p s e d h j=>⟨h,j⟩
theorem Mg (o:Obj):DK (alloc o):=λM Γ Q E p s e d h ⟨o1,q,hd⟩=>⟨h,o1,by
 show(s.heap.objs.push o)[e]?=some o1;have hlt:e<s.heap.objs.size:=(dG.mp q).1;rw[Array.getElem?_push,aH (aS hlt)];exact q,hd⟩
theorem K0 (a:Addr){f:Obj->Obj}(hf:∀o,(f o).dict=o.dict/\(Jy o->Jy (f o))):DK (update a f):=λM Γ Q E p s e d ⟨q0,h⟩ ⟨o1,q,hd,h2⟩=>⟨q0,h,by
 by_cases ea:a=e
 ·subst ea;refine⟨f o1,?_,by rw[(hf o1).1];exact hd,(hf o1).2 h2⟩;show(s.heap.objs.modify a f)[a]?=some (f o1);rw[gk,aI rfl,q];rfl
 ·refine⟨o1,?_,hd,h2⟩;show(s.heap.objs.modify a f)[e]?=some o1;rw[gk,aH ea];exact q⟩
theorem Gd {c:Prop}[Decidable c]{t u:Sem α}(h1:DK t)(h2:DK u):DK (if c then t else u):=by
 split
 ·exact h1
 ·exact h2
theorem Jp {i:Nat}(hi:i≠2)(x:Value)(o:Obj):(Obj.mapFields (·.setIfInBounds i x) o).dict=o.dict/\(Jy o->Jy (Obj.mapFields (·.setIfInBounds i x) o)):=by
 constructor
 ·unfold Obj.mapFields
  split<;>rfl
 ·rintro⟨vs,h1,h2⟩
  obtain⟨c,d,dt,sl⟩:=o;dsimp only at h1;subst h1;exact⟨_,rfl,by rw[Array.getElem?_setIfInBounds_ne hi];exact h2⟩
theorem My (v:Value):DK (fieldsOf v):=by
 unfold fieldsOf
 split
 ·refine Ba (Ll _) λo=>?_
  split
  ·exact Bt _
  ·exact CM _
 ·exact CM _
theorem G6 (v:Value)(i:Nat):DK (field v i):=by
 unfold field;refine Ba (My v) λvs=>?_
 split
 ·exact Bt _
 ·exact CM _
theorem Ge (v:Value){i:Nat}(hi:i≠2)(x:Value):DK (setField v i x):=by
 unfold setField updateField
 split
 ·refine Ba (Ll _) λo=>?_
  split
  ·exact Gd (K0 _ (Jp hi x)) (CM _)
  ·exact CM _
 ·exact CM _
theorem K4 (ty:String)(vs:List Value):DK (newFields ty vs):=by
 unfold newFields newObj newObjAsIs;dsimp only
 split
 ·exact Ba (CM _) λ_=>Ba (Mg _) λ_=>Bt _
 ·exact Ba (Mg _) λ_=>Bt _
theorem Ml (a b c d e:Value)(l:List Value):DK (EntryCells.newEntry a b c d e l):=K4 _ _
theorem Ln:DK frameEnvs:=Ba JM λ_=>Bt _
theorem Mf (env:Env)(outer:List Env):DK (behindIsImport env outer):=by
 unfold behindIsImport;refine Gd (Bt _) ?_;refine Gd (Bt _) ?_;exact Ba (G6 _ _) λ_=>Bt _
theorem Ms (env:Env)(i:Bool)(outer:List Env):DK (keptBack env i outer):=by
 unfold keptBack
 split
 ·refine Gd (Bt _) ?_;refine Ba (Ba JM λ_=>Bt _) λ_=>Bt _
 ·exact Bt _
theorem Mx:∀l:List Env,DK (readyFrames l)
 |[]=>Bt _
 |env::outer=>by
  unfold readyFrames
  split
  ·refine Ba (Ll _) λo=>?_
   refine Gd (Bt _) ?_;refine Ba (Mf _ _) λ_=>Ba (Ms _ _ _) λ_=>Ba (K0 _ λ_=>⟨rfl,λh=>h⟩) λ_=>Mx outer
  ·exact CM _
theorem NK (env:Env):DK (frameOf env):=by
 unfold frameOf;refine Ba Ln λl=>?_
 refine Ba ?_ λr=>?_
 ·unfold frameObject
  split
  ·exact Bt _
  ·exact Ba (Mx _) λ_=>Bt _
 ·split
  ·exact Bt _
  ·exact CM _
theorem J3 (f:Addr)(b:Bool):DK (entryPlaceOf f b):=by
 unfold entryPlaceOf;refine Ba JM λl=>?_
 split<;>exact Bt _
theorem CH (e:Value)(f:Option Addr):DK (setFlight e f):=by
 unfold setFlight;exact Ba (G6 _ _) λ_=>Gd (Ge _ (by decide) _) (Bt _)
theorem Ff (e:Value)(env:Env):DK (noteFrame e env):=by
 unfold noteFrame
 split
 ·rename_i fa _
  refine Ba (G6 _ _) λhead=>?_
  have rest:DK (do setField e 1 (<-EntryCells.newEntry head (<-frameOf env) .none (rawInt fa) .none (<-entryPlaceOf fa (head != .none)))):=
   Ba (NK _) λ_=>Ba (J3 _ _) λ_=>Ba (Ml _ _ _ _ _ _) λ_=>Ge _ (by decide) _
  refine Gd ?_ rest;refine Ba (G6 _ _) λ_=>?_
  refine Gd (Bt _) ?_;exact Ba (Ge _ (by decide) _) λ_=>rest
 ·exact CM _
theorem JW (env:Env)(e:Value):DK (leaving env e):=Ba (Ff _ _) λ_=>CH _ _
theorem DK.also {t:Sem α}(k:DK t){M:Model}{A:Around}{Q:α->Shared->Prop}{E:Value->Shared->Prop}{s:Shared}{e:Addr}{d:Option Addr}(j:DictAt s.heap e d)(h:wpAny M A t (λa s'=>DictAt s'.heap e d->Q a s') E s):wpAny M A t Q E s:=λΓ p hΓ=>
 wp_mono M Γ t (λ_ _ _ q=>q.1 q.2) (λ_ _ _ q=>q.1) p s (k M Γ _ _ p s e d (h Γ p hΓ) j)
theorem RF {h:Heap}{e:Addr}{o:Obj}(q:h.get? e=some o)(f:Jy o):DictAt h e o.dict:=by
 unfold Heap.get? at q
 split at q
 ·cases q
 ·exact⟨o,q,rfl,f⟩
theorem DictAt.get {h:Heap}{e:Addr}{d:Option Addr}{o:Obj}(j:DictAt h e d)(q:h.get? e=some o):o.dict=d/\Jy o:=by
 obtain⟨o1,e1,h1⟩:=j;unfold Heap.get? at q;rw[e1] at q
 split at q
 ·cases q
 ·cases q;exact h1
end
end L2
namespace L2
open PySem PySem.Spec PyProof.Rows
theorem A5.get {P:Program}{w:World}{H:Hp}{h:Heap}{a:Addr}{o:HO}(x:A5 P w H h a o):∃ob,h.get? a=some ob:=by
 cases o with
 |lst xs=>obtain⟨_,_,_,_,e⟩:=x;exact⟨_,e⟩
 |tup xs=>obtain⟨_,_,_,ob,e,_⟩:=x;exact⟨_,e⟩
 |dK kvs=>obtain⟨_,_,_,_,o,_,_,e,_⟩:=x;exact⟨_,e⟩
 |dT kvs=>obtain⟨_,_,_,_,o,_,_,e,_⟩:=x;exact⟨_,e⟩
 |set S n=>obtain⟨o,_,_,_,e,_⟩:=x;exact⟨_,e⟩
 |ins C dx fs=>obtain⟨_,_,_,e,_⟩:=x;exact⟨_,e⟩
 |own y=>obtain⟨_,e⟩:=x;exact⟨_,e⟩
 |xd fs=>obtain⟨_,⟨_,_,_,e,_⟩,_⟩:=x;exact⟨_,e⟩
 |rng lo hi=>obtain⟨_,_,_,e⟩:=x;exact⟨_,e⟩
 |frz ob u=>obtain⟨e,_⟩:=x;exact⟨_,e⟩
 |tbl ps=>exact⟨_,x⟩
 |met f y=>exact⟨_,x⟩
 |ext φ=>obtain⟨_,e,_⟩:=x;exact e
structure Fly (P:Program) (w:World) (outer:List Env) (H:Hp) (s:Shared) (ea:Addr) (cls:Value) (H':Hp) (B:Heap) (a0:Value) (s':Shared):Prop where
 os:s'.os=s.os
 bare:AllBare s'.gens
 un:Un (Gw outer) [] H H' s.heap s'.heap
 hok:Gx P w H' B
 fl:Heap.FlyingW B outer ea cls a0 s'.heap
 kp:∀b o,s.heap.get? b=some o->H b=none->b∉Gw outer->B.get? b=some o
 th:∀b o,s.heap.get? b=some o->b∉Gw outer->∃o',B.get? b=some o'
 dj:∃d,DictAt s'.heap ea d
section
variable {P:Program}{w:World}{outer:List Env}{H H':Hp}{s s':Shared}{ea:Addr}{cls a0:Value}{B h' base:Heap}
theorem Fly.stay (F:Fly P w outer H s ea cls H' B a0 s')(hl:s.heap.FunFrames base outer)(hn:∀b∈Gw outer,H b=none)(sB:B.StaysIn h')(up:s'.heap.UpToSlots h'):Un (Gw outer) [] H H' s.heap h':=by
 have sl:∀b o,s.heap.get? b=some o->b∈Gw outer->∃sl,h'.get? b=some { o with slots:=sl }:=λb o q hb=>by
  obtain⟨z,e⟩:=F.un.slot b o q (hn b hb) hb (by simp);obtain⟨_,o',ho',hd⟩:=hl.mem hb;rw[q] at ho';cases ho';exact up b { o with slots:=z } e hd
 refine⟨λb o q n hb _=>sB b o (F.kp b o q n hb),λb o q _ hb _=>sl b o q hb,F.un.free,λb o q _=>?_,F.un.tups,F.un.frzs,F.un.tbls⟩
 by_cases hb:b∈Gw outer
 ·obtain⟨z,e⟩:=sl b o q hb;exact⟨_,e⟩
 ·obtain⟨o',e⟩:=F.th b o q hb;exact⟨o',sB b o' e⟩
theorem Fly.free (F:Fly P w outer H s ea cls H' B a0 s'):H' ea=none:=by
 cases e:H' ea with
 |none=>rfl
 |some u=>
  obtain⟨ob,q⟩:=(F.hok ea u e).get;rw[F.fl.2.1] at q;cases q
end
section
variable {X:Cx}{pins:List (Addr×Obj)}{σ:St}{H H':Hp}{s s':Shared}{ea:Addr}{cls a0:Value}{B h':Heap}
theorem Inv.landed (I:Inv X pins σ H s)(F:Fly X.prog X.w X.stack H s ea cls H' B a0 s')(sB:B.StaysIn h')(up:s'.heap.UpToSlots h'):Inv X pins σ H' { s' with heap:=h' }:=
 I.call' (s':={ s' with heap:=h' }) (ch:=[]) F.os (F.stay I.stack I.stkFree sB up) (F.hok.kept sB) F.bare (λb z=>nomatch z)
theorem Inv.hid (I:Inv X pins σ H s):Gx X.prog X.w H (PySem.W.hideAll s.heap (Gw X.stack)):=λb u e=>by
 refine(I.hok b u e).stay (λc v hc q=>eM _ q λz=>?_) (λ_ q=>q) λ_ _ q=>q
 have:=I.stkFree c z;rcases hc with rfl|hc
 ·rw[e] at this;cases this
 ·rw[hc] at this;cases this
end
abbrev Rb:List Value:=[.type "ValueError",.type "Exception",.type "BaseException",.type "object"]
def Cx.held (X:Cx)(e:Value):Cx:={ X with A:=X.A.mark (some e),calm:=false,xe:=λ_ _=>False }
section
variable {X:Cx}{pins:List (Addr×Obj)}{σ:St}{H:Hp}{s:Shared}{e:Value}
theorem Inv.held (I:Inv X pins σ H s)(e:Value):Inv (X.held e) pins σ H s:=
 ⟨⟨I.ok.mod,I.ok.kind,I.ok.glob,I.ok.blt,I.ok.above,I.ok.inj,I.ok.has,I.ok.cab,(λz=>nomatch z),I.ok.frames,I.ok.stk,I.ok.exf,I.ok.bs,I.ok.bsz,I.ok.noex,I.ok.exfs,I.ok.funs,I.ok.frf⟩,I.os,I.bare,I.base,I.loc,I.cell,I.free,I.freeC,I.pin,I.hok,I.len⟩
theorem Inv.unheld (J:Inv X pins σ H s){σ':St}{H':Hp}{s':Shared}(I:Inv (X.held e) pins σ' H' s'):Inv X pins σ' H' s':=
 ⟨J.ok,I.os,I.bare,I.base,I.loc,I.cell,I.free,I.freeC,I.pin,I.hok,I.len⟩
theorem SP.unheld (J:Inv X pins σ H s){D:Ends}{f:Flow}{s':Shared}(h:SP (X.held e) pins D f s'):SP X pins D f s':=by
 cases f with
 |next=>obtain⟨σ',H',I,q⟩:=h;exact⟨σ',H',J.unheld I,q⟩
 |brk=>obtain⟨σ',H',I,q⟩:=h;exact⟨σ',H',J.unheld I,q⟩
 |cont=>obtain⟨σ',H',I,q⟩:=h;exact⟨σ',H',J.unheld I,q⟩
 |ret u=>obtain⟨v,σ',H',I,r,q⟩:=h;exact⟨v,σ',H',J.unheld I,r,q⟩
end
section
variable {X:Cx}
def V5:R2:=λx y H Q=>∃ts F G,Tr.deps ts<=99/\Rep F H (.lst ts) x/\Rep G H (.lst ts) y/\Q (.bl true) H
theorem Uu (hu:X.A.units+150<cLine):Gq X (compareOp .Eq) V5:=by
 intro pins s σ H x y v u Q I rx ry h;obtain⟨ts,F,G,hd,⟨a,vs,rfl,_,ha,hr1⟩,⟨b,us,rfl,_,hb,hr2⟩,q⟩:=h;cases rx;cases ry;obtain⟨its,rv1,p1,_⟩:=I.list (AB.of (K:=X.K) ha);obtain⟨its2,rv2,p2,_⟩:=I.list (AB.of (K:=X.K) hb);have l1:=rv1.length.symm.trans (AX.len ts vs hr1);have l2:=rv2.length.symm.trans (AX.len ts us hr2);have q2:=fK (A:=X.A) (s:=s) (e:=λ_=>true) p1.isList p2.isList (by simp[l1,l2]) (by omega) (λj g1 g2=>FC I ts X.A.in1 vs us its its2 (by show X.A.units+1+Tr.deps ts<cLine;omega) hr1 hr2 rv1 rv2 j (by simpa using g1) (by simpa using g2));have e:((List.range its.toArray.size).all (λ_=>true))=true:=by simp
 rw[e] at q2;exact q2 _ _ _ _ ⟨.bl _,H,I,rfl,q⟩
end
theorem P4 {X:Cx} {K:PySem.W.Frag} {T:String} {name:Str} {id:String} {r:V->List V->Hp->VK->Prop} {o e:Expr} {es:List Expr} {to:TE} {t:TA} {apos cpos:Pos} (hK:X.K=K) (pa:PlainAttrs T) (slot:Slot T name id) (hty:typeOf (.builtin id)=pure (.type "method_descriptor")) (hm:Tw X id r) (ho:PE X o to) (ha:PA X (e::es) t)
  (hbase:attributeBase o name X.env (eval o X.env)=eval o X.env:=by rfl)
  (hfew:((backTo cpos (starEach (e::es) X.env)).all (λx=>!x.1)&&(backToKw cpos (keywordEach [] X.env)).all (λx=>x.1.isSome)
   && decide ((e::es).length+([]:List Keyword).length+(if([]:List Keyword).isEmpty then 0 else 1)<30))=true:=by rfl)
  (hline:(apos.endLine == cpos.line)=true:=by rfl) (hs:starEach (e::es) X.env=(false,eval e X.env)::starEach es X.env:=by rfl) (hplain:(backTo cpos (starEach es X.env)).any (·.1)=false:=by rfl) :
  PE X (.Call (.Attribute o name apos) (e::es) [] cpos) (VZ K T r to t):=by
 subst hK;exact Cf pa slot hty hm ho ha hbase hfew hline hs hplain
end L2
namespace L2
section
open PySem PySem.Calls PyProof.Rows PySem.W Builtin Builtin.ObjectAttr Builtin.Getset_descriptor
section
variable {prog:Program}{w:World}{A:Around}{E:Value->Shared->Prop}{K:Frag}{e D:Addr}
structure IsExc (h:Heap) (e D:Addr):Prop where
 ob:∃o,h.get? e=some o/\o.cls=.ref D/\∃vs,o.data=.fields vs
theorem IsExc.ty {h:Heap}(z:IsExc h e D){M:Model}:Looks M h (typeOf (.ref e)) (.ref D):=by
 obtain⟨o,q,c,_⟩:=z.ob;rw[<-c];exact(Looks.ld q).andThen .now
theorem OY {tp:Value}{s:Shared}{R:Result->Shared->Prop}(k:K.In s.heap)(z:IsExc s.heap e D)(hm:mroIn K D (.type "object")=some true)(q:R (.ok (.ret (.ref D))) s) :
  codeAny (model prog w) A (.call (.builtin "getset_descriptor.__get__") ⟨[.builtin "object.__class__",.ref e,tp],[]⟩) R s:=by
 obtain⟨h1,g1,d1,t1,o1⟩:=s;have T0:=z.ty (M:=model prog w);have T1:=looks_mroIn (M:=model prog w) k hm;have slot:=KF.slot_gs;refine cK slot.plain KF.entry_gs (slot.check _ _ _ _ _ _ _ _ KF.type_class (KF.args_gs _ _ _) ?_);simp only[Builtin.«getset_descriptor.__get__»,descrGet,dga_obj];refine ae (ao ?_);dsimp only[descrGetter,descrCheckInstance,descrNameAndClass,isInstance];rw[show descrOwnerAndName "object.__class__"=("object","__class__") from KF.owner_class]
 repeat lk
 refine⟨fq (id:="object.__class__") _ (by decide +kernel),cF KF.entry_class ?_⟩;simp only[Builtin.«object.__class__»,shownTypeOf]
 repeat lk
 exact q
theorem PX {h:Heap} {M:Model} (k:K.In h) (ha:findIn K (.ref D) "__class__"=some (some (.builtin "object.__class__")))
  (hn:specialIn K (.builtin "object.__class__") "__get__"=some (some (.builtin "getset_descriptor.__get__"))) (ht:takesIn K (.builtin "object.__class__")=some true) :
  Looks M h (find (.ref e) (.ref D) "__class__") (.bind (.builtin "getset_descriptor.__get__") (.builtin "object.__class__")):=
 (dQ k ha).andThen ((show Looks M h (getOf (some (.builtin "object.__class__"))) (some (.builtin "getset_descriptor.__get__")) from looks_specialIn k hn).andThen
  ((show Looks M h (dataDescriptor? (some (.builtin "object.__class__")) (some (.builtin "getset_descriptor.__get__"))) (some (.builtin "getset_descriptor.__get__",.builtin "object.__class__")) from(looks_takesIn k ht).andThen .now).andThen (Looks.tag .now)))
theorem KB {nv:Value}{s:Shared}{Q:Unit->Shared->Prop}{M:Model}(k:K.In s.heap)(z:IsExc s.heap e D)(hb:mroIn K D (.type "BaseException")=some true)(q:Q () s) :
  wpAny M A (checkBuiltinCall "BaseException.__getattribute__" ⟨[.ref e,nv],[]⟩) Q E s:=by
 obtain⟨h1,g1,d1,t1,o1⟩:=s;have b1:builtinKind "BaseException.__getattribute__"=some .slot:=by decide +kernel
 have b2:splitId "BaseException.__getattribute__"=some ("BaseException","__getattribute__"):=by decide +kernel
 have b3:=F.args_bexc_ga (.ref e) nv;have T:Looks M h1 (isInstance (.ref e) (.type "BaseException")) true:=z.ty.andThen (looks_mroIn k hb);simp only[checkBuiltinCall,b1,b2];refine ae (T.at ?_);rw[aH (by decide)]
 repeat wp_step
 exact q
theorem O7 {tk:Tok} {s:Shared} {Q:Fin->Shared->Prop} (k:K.In s.heap) (z:IsExc s.heap e D) (ha:findIn K (.ref D) "__class__"=some (some (.builtin "object.__class__")))
  (hn:specialIn K (.builtin "object.__class__") "__get__"=some (some (.builtin "getset_descriptor.__get__"))) (ht:takesIn K (.builtin "object.__class__")=some true) (hm:mroIn K D (.type "object")=some true) (q:Q (.done (.ret (.ref D))) s) :
  wpAny (model prog w) A (Builtin.«object.__getattribute__» ⟨[.ref e,.str "__class__" tk],[]⟩) Q E s:=by
 obtain⟨h1,g1,d1,t1,o1⟩:=s;have T0:=z.ty (M:=model prog w);have T1:=PX (e:=e) (M:=model prog w) k ha hn ht;have s0:slotArgs "__getattribute__" 1 ⟨[.ref e,.str "__class__" tk],[]⟩=pure (Value.ref e,[Value.str "__class__" tk]):=by kernel_rfl
 have s1:attrName (.str "__class__" tk)=pure "__class__":=by kernel_rfl
 simp only[Builtin.«object.__getattribute__»,s0];refine ae (ao ?_);dsimp only;rw[s1];refine ae (ao (ae (T0.at (ae (T1.at ?_)))));dsimp only;unfold bindTo;dsimp only;refine ae (cZ (OY (s:=⟨h1,g1,d1,t1,o1⟩) k z hm ?_));exact ao q
theorem Pa {s:Shared} {Q:Option Value->Shared->Prop} (k:K.In s.heap) (z:IsExc s.heap e D) (hga:findIn K (.ref D) "__getattribute__"=some (some (.builtin "BaseException.__getattribute__"))) (hgg:findIn K (.ref D) "__getattr__"=some none)
  (ha:findIn K (.ref D) "__class__"=some (some (.builtin "object.__class__"))) (hn:specialIn K (.builtin "object.__class__") "__get__"=some (some (.builtin "getset_descriptor.__get__"))) (ht:takesIn K (.builtin "object.__class__")=some true)
  (hm:mroIn K D (.type "object")=some true) (hb:mroIn K D (.type "BaseException")=some true) (q:Q (some (.ref D)) { s with toks:=s.toks+1 }) :
  wpAny (model prog w) A (getAttr? (.ref e) "__class__") Q E s:=by
 obtain⟨h1,g1,d1,t1,o1⟩:=s;have T0:=z.ty (M:=model prog w);have T1:=dQ (M:=model prog w) k hga;have T2:=dQ (M:=model prog w) k hgg;have B:=F.excAttr_ValueError.ga.bind (.ref e);simp only[getAttr?,getAttrBy?,getAttrBy];refine ae (wpAny_mkText (ae (gI (bu (ae (T0.at (ae (T1.at ?_))))))));have n0:(onTheHeap (Value.ref D)&&Value.builtin "BaseException.__getattribute__" == Value.builtin "object.__getattribute__")=false:=by
  have:(Value.builtin "BaseException.__getattribute__" == Value.builtin "object.__getattribute__")=false:=by decide +kernel
  rw[this];rfl
 dsimp only;rw[aH (by rw[n0];decide)];unfold getAttrByItsOwn hookBefore;rw[aI (by rfl)];refine ae (T2.at (ae (gI (bu ?_))));unfold callGetattribute boundAndCalled;rw[aH (by decide),B];refine ae (ao ?_);dsimp only;refine cZ (cK F.excAttr_ValueError.ga.plain F.entry_bexc_ga ?_);refine KB (s:=⟨h1,g1,d1,t1+1,o1⟩) k ⟨z.ob⟩ hb (O7 (s:=⟨h1,g1,d1,t1+1,o1⟩) k ⟨z.ob⟩ ha hn ht hm ?_);dsimp only;exact handed_on rfl (ao q)
structure ExcCls (K:Frag) (D:Addr):Prop where
 ga:findIn K (.ref D) "__getattribute__"=some (some (.builtin "BaseException.__getattribute__"))
 gg:findIn K (.ref D) "__getattr__"=some none
 cl:findIn K (.ref D) "__class__"=some (some (.builtin "object.__class__"))
 sp:specialIn K (.builtin "object.__class__") "__get__"=some (some (.builtin "getset_descriptor.__get__"))
 tk:takesIn K (.builtin "object.__class__")=some true
 mo:mroIn K D (.type "object")=some true
 mb:mroIn K D (.type "BaseException")=some true
theorem ExcCls.there (c:ExcCls K D):∃o,K.lookup D=some o/\∃cd,o.data=.cls cd:=by
 obtain⟨cd,h,_⟩:=Option.bind_eq_some_iff.mp c.mo;unfold clsIn at h
 split at h
 ·rename_i o d' cd' sl' ho
  exact⟨_,ho,_,rfl⟩
 ·cases h
theorem ExcCls.kit (c:ExcCls K D):KitX K (.ref e) (.ref D) (λh=>IsExc h e D) where
 ty:=λ_ _ _ z=>z.ty
 it:=λM h k _=>by
  obtain⟨⟨oc,od,oda,os⟩,h1,cd,h2⟩:=c.there;dsimp only at h2;subst h2;intro A1 Q1 E1 s1 st q;unfold isType loadHead;exact ae (gp (st _ _ (k _ _ h1)) (ao q))
 ne:=λh tp dd its n sl k ht=>by
  obtain⟨o,h1,cd,h2⟩:=c.there;cases q:(Value.ref D == Value.ref tp) with
  |false=>rfl
  |true=>
   cases Value.ref.inj (cg.mp q);rw[k _ _ h1] at ht;cases ht;cases h2
 ca:=λk z q=>Pa k z c.ga c.gg c.cl c.sp c.tk c.mo c.mb q
end
end
open PySem PySem.Spec PyProof.Rows
theorem IsExc.stays {h1 h2:Heap}{e D:Addr}(z:IsExc h1 e D)(k:∀o,h1.get? e=some o->h2.get? e=some o):IsExc h2 e D:=by
 obtain⟨o,q,r⟩:=z.ob;exact⟨o,k o q,r⟩
section
variable {X:Cx}{pins:List (Addr×Obj)}{σ:St}{H:Hp}{s:Shared}
theorem Inv.know {e:Addr} {o:HO} (I:Inv X pins σ H s) (n0:e∉X.ex->X.s₀.heap.get? e=none) (nl:e≠X.env.locals) (nc:∀x c,X.env.cells.lookup x=some c->c≠e) (np:∀p∈X.pn++pins,p.1≠e) (hn:H e=none)
  (ho:A5 X.prog X.w (upd H e o) s.heap e o):Inv X pins σ (upd H e o) s:=by
 have up:∀{b:Addr} {u:HO},H b=some u->upd H e o b=some u:=λ{b u} q=>by rw[An (Bm q hn)];exact q
 refine⟨I.ok,I.os,I.bare,⟨I.base.keep,I.base.slot,λb ob q n x=>?_,I.base.there,λb xs q=>up (I.base.tups b xs q),λb ob u q=>up (I.base.frzs b ob u q),λb ps q=>?_⟩,I.loc,I.cell,?_,λx c q=>?_,λp hp=>?_,λb u q=>?_,I.len⟩
 ·rw[An (λz=>by subst z;rw[n0 x] at q;cases q)];exact I.base.free b ob q n x
 ·obtain⟨more,z⟩:=I.base.tbls b ps q;exact⟨more,up z⟩
 ·rw[An nl.symm];exact I.free
 ·rw[An (nc x c q)];exact I.freeC x c q
 ·obtain⟨h1,h2,h3⟩:=I.pin p hp;exact⟨h1,by rw[An (np p hp)];exact h2,h3⟩
 ·by_cases hb:b=e
  ·subst hb;rw[Ad] at q;cases q;exact ho
  ·rw[An hb] at q;exact(I.hok b u q).stay (λc v _ z=>z) (λ_ z=>up z) λ_ _ z=>up z
theorem Em {M:Model} {A:Around} {E:Value->Shared->Prop} {i:Nat} {x:Str} {pos:Pos} {Q:Unit->Shared->Prop} (I:Inv X pins σ H s) (hN:X.N.Nodup) (hi:X.N[i]?=some x) (hk:X.env.kindOf x=some .local)
  (h:∀s',Inv X pins (σ.set i none) H s'->Q () s'):wpAny M A (do bindName X.env x .none;unbindBehindTheSuite X.env x pos) Q E s:=by
 obtain⟨m,hn,hl⟩:=id I.loc;have hc:(X.env.scope.kind == .class||(X.env.scope.kind == .module&&X.env.locals != X.env.globals))=false:=by rw[I.ok.kind];rfl
 have hiσ:i<σ.length:=by rw[I.len];exact(ar.mp hi).1
 obtain⟨oL,_,_,hoL,_⟩:=id hn;refine wpAny_nameGoes_keeps hk hn hc λh' v hn' hs=>?_
 have apart:∀b o,X.s₀.heap.get? b=some o->b≠X.env.locals:=λb o q=>aS (aW (aG q) I.ok.above)
 refine h _ ⟨I.ok,I.os,I.bare,⟨λb o q n hb hx=>(hs.2 b (apart b o q)).trans (I.base.keep b o q n hb hx),λb o q n hb hx=>?_,I.base.free,λb o q hx=>?_,I.base.tups,I.base.frzs,I.base.tbls⟩,
  ⟨_,hn',λj y v' e1 e2 e3=>?_⟩,λy c q=>?_,I.free,I.freeC,λp hp=>?_,λb u q=>?_,by simpa using I.len⟩
 ·obtain⟨sl,z⟩:=I.base.slot b o q n hb hx;exact⟨sl,(hs.2 b (apart b o q)).trans z⟩
 ·obtain⟨o',z⟩:=I.base.there b o q hx;exact⟨o',(hs.2 b (apart b o q)).trans z⟩
 ·by_cases hj:j=i
  ·subst hj;rw[d6 hiσ] at e2;cases e2
  ·rw[eK (Ne.symm hj)] at e2;obtain⟨u',r',q⟩:=hl j y v' e1 e2 e3;refine⟨u',r',?_⟩;rcases q with⟨k,z⟩|⟨k,c,z,z2⟩
   ·have ny:y≠x:=λt=>hj (JR hN e1 (t▸hi))
    exact .inl ⟨k,by simp[ny,z]⟩
   ·exact .inr ⟨k,c,z,z2.sameBut hs (I.cne y c z)⟩
 ·obtain⟨w',z⟩:=I.cell y c q;exact⟨w',z.sameBut hs (I.cne y c q)⟩
 ·obtain⟨q,n,ne,nf,d⟩:=I.pin p hp;exact⟨(hs.2 p.1 ne).trans q,n,ne,nf,d⟩
 ·have nb:∀{c:Addr} {v':HO},H c=some v'->c≠X.env.locals:=λ{c v'} z=>Bm z I.free
  refine(I.hok b u q).stay (λc w' hc z=>(hs.2 c ?_).trans z) (λ_ z=>z) λ_ _ z=>z
  rcases hc with rfl|hc
  ·exact nb q
  ·exact nb hc
theorem Inv.flown {H':Hp}{s':Shared}{ea:Addr}{cls a0:Value}{B:Heap}(I:Inv X pins σ H s)(F:Fly X.prog X.w X.stack H s ea cls H' B a0 s'):s.heap.get? ea=none:=by
 cases q:s.heap.get? ea with
 |none=>rfl
 |some o=>
  by_cases hb:ea∈Gw X.stack
  ·obtain⟨z,e⟩:=F.un.slot ea o q (I.stkFree ea hb) hb (by simp);obtain⟨_,o',ho',hd⟩:=I.stack.mem hb;rw[q] at ho';cases ho';obtain⟨_,_,_,oe,vs,_,_,_,he,_,hv,_⟩:=F.fl;rw[he] at e;cases e;exact absurd hv (hd vs)
  ·obtain⟨o',e⟩:=F.th ea o q hb;rw[F.fl.2.1] at e;cases e
end
theorem JX {X:Cx}{x:Str}{C:Addr}{pos:Pos}(hg:Gl X x)(hm:X.mg x=some (.ref C))(hd:(x == ("__debug__":Str))=false:=by decide):PE X (.Name x pos) (tC (.ref C)):=K6 (v:=.ref C) hg hm rfl hd
theorem EO:bootBuiltins "ValueError"=some (.type "ValueError"):=by decide +kernel
end L2
namespace L2
end L2
namespace L2
section
open PySem PySem.Calls PyProof.Rows PySem.W
structure IsExcD (h:Heap) (e D:Addr) (d:Option Addr):Prop where
 is:IsExc h e D
 dj:∃o,h.get? e=some o/\o.dict=d/\Jy o
theorem IsExcD.stays {h1 h2:Heap}{e D:Addr}{d:Option Addr}(z:IsExcD h1 e D d)(k:∀o,h1.get? e=some o->h2.get? e=some o):IsExcD h2 e D d:=by
 obtain⟨a,o,q,hd⟩:=z;exact⟨a.stays k,o,k o q,hd⟩
end
section
open PySem PySem.Spec PyProof.Rows
def Ek (e D:Addr)(d:Option Addr):HO:=.ext λh=>IsExcD h e D d
variable {X:Cx}{pins:List (Addr×Obj)}{σ:St}{H:Hp}{s:Shared}
theorem Inv.knowD {H':Hp}{s':Shared}{ea C:Addr}{a0:Value}{B h':Heap}{d:Option Addr}(I:Inv X pins σ H s)(F:Fly X.prog X.w X.stack H s ea (.ref C) H' B a0 s')(J:Inv X pins σ H' { s' with heap:=h' })(T:h'.TracedW B ea (.ref C) a0)(dj:DictAt h' ea d):Inv X pins σ (upd H' ea (Ek ea C d)) { s' with heap:=h' }:=by
 have n:=I.flown F;obtain⟨m,hn,_⟩:=id I.loc;obtain⟨oL,_,_,hoL,_⟩:=id hn;obtain⟨oe,vs,_,_,_,he,⟨hc,_⟩,hv,_⟩:=T;have ise:IsExcD h' ea C d:=⟨⟨oe,he,hc,vs,hv⟩,oe,he,dj.get he⟩
 refine J.know (λx=>?_) (λz=>?_) (λx c q z=>?_) (λp hp z=>?_) F.free ⟨ise,⟨oe,he⟩,λh1 h2 z k=>z.stays k⟩
 ·cases q:X.s₀.heap.get? ea with
  |none=>rfl
  |some o=>
   obtain⟨o',z⟩:=I.base.there ea o q x;rw[n] at z;cases z
 ·rw[<-z,n] at hoL;cases hoL
 ·obtain⟨w',oc,e,_⟩:=I.cell x c q;rw[z,n] at e;cases e
 ·have:=(I.pin p hp).1;rw[z,n] at this;cases this
def U8 (K:PySem.W.Frag):List V->Hp->VK->Prop:=λxs H Q=>∃(e D:Addr) (d:Option Addr) (c:V) (cv:Value) (b:Bool),xs=[.ref e,c]/\H e=some (Ek e D d)/\ExcCls K D/\(∀u,RelV c u->u=cv)/\PySem.W.kitOne K (.ref D) cv=some b/\Q (.bl b) H
theorem C1 {K:PySem.W.Frag}(hK:X.K=K):C7 X (.builtin "isinstance") (U8 K):=by
 subst hK;intro pins s σ H xs us Q I r h;obtain⟨e,D,d,c,cv,b,rfl,he,hc,hv,hk,q⟩:=h;obtain⟨u,v,rfl,ru,rv⟩:=vals2 r;cases(show u=Value.ref e from ru);cases hv v rv;have z:A5 X.prog X.w H s.heap e (Ek e D d):=I.hok e _ he;exact bG hc.kit I.kIn z.1.is hk (λz=>nomatch z) λtk=>⟨.bl b,H,I.tok _,rfl,q⟩
variable {x n:Str}{c:Value}{body orelse suite:List Stmt}{b₀:Stmt}{np hpos pos:Pos}{i:Nat}
end
end L2
namespace L2
open PySem PySem.Spec PyProof.Rows
end L2
namespace L2
section
open PySem PySem.Calls PyProof.Rows PySem.W Builtin Builtin.ObjectAttr
def Nu:List Value->Bool
 | .ref _::r=>Nu r
 |l=>l == Rb
theorem KE (self:Value):∀{l:List Value},Nu l=true->refuseLoop self "__setattr__" l=pure ()
 |[],e=>by cases e
 | .ref a::r,e=>by rw[refuseLoop_ref];exact KE self (l:=r) e
 | .type n::r,e=>by
  have:(Value.type n::r)=Rb:=cg.mp e;rw[this];exact PySem.F.store_ValueError.passes self
 | .none::_,e | .bool _::_,e | .int _ _::_,e | .float _ _::_,e | .str _ _::_,e | .builtin _::_,e | .notImplemented::_,e | .ellipsis::_,e=>by cases e
def TF (K:Frag)(C:Addr):Bool:=(clsIn K C).any λcd=>Nu cd.mro
section
variable {prog:Program}{w:World}{A:Around}{E:Value->Shared->Prop}{s:Shared}{K:Frag}{x C:Addr}{vs:Array Value}{name:Str}{v:Value}
structure ExiCls (K:Frag) (C:Addr):Prop extends ExcCls K C where
 sa:findIn K (.ref C) "__setattr__"=some (some (.builtin "object.__setattr__"))
 ve:TF K C=true
 hd:hasDictIn K C=true
theorem PK (hx:s.heap.get? x=some ⟨.ref C,none,.fields vs,#[]⟩):InstAt s.heap x ⟨.ref C,none,.fields vs,#[]⟩ C none:=⟨hx,rfl,rfl,trivial⟩
theorem OM {Q:Unit->Shared->Prop} (X:K.In s.heap) (c:ExiCls K C) (hn:findIn K (.ref C) name=some none) (hx:s.heap.get? x=some ⟨.ref C,none,.fields vs,#[]⟩)
  (h:∀h',h'.get? x=some ⟨.ref C,some s.heap.objs.size,.fields vs,#[]⟩->h'.Ns1 s.heap.objs.size (λy=>if y=name then some v else none)->(∀b o,b≠x->s.heap.get? b=some o->h'.get? b=some o)->Q () { s with heap:=h',toks:=s.toks+2 }) :
  wpAny (model prog w) A (setAttr (.ref x) name v) Q E s:=by
 have I:=PK hx;obtain⟨cd,hc,hm⟩:=any_some c.ve;obtain⟨cd2,hc2,hdd⟩:=any_some c.hd;rw[hc] at hc2;cases hc2;refine set_plain X I c.sa ?_;have inObj:Looks (model prog w) s.heap (isInstance (.ref x) (.type "object")) true:=I.type.andThen (looks_mroIn X c.mo);have G:=PySem.F.store_ValueError;refine cK G.slot.plain G.entry (@check_slot (model prog w) _ _ { s with toks:=s.toks+1 } "object.__setattr__" "object" "__setattr__" (.ref x) [.str name s.toks,v] [] _ G.kind G.split inObj (G.args (.ref x) (.str name s.toks) v) ?_);rw[osa_eq,refuse_eq];have own:Looks (model prog w) s.heap (mroOf (.ref C)) cd.mro:=(looks_clsIn X hc).andThen .now;refine ae (ae (eS (s:={ s with toks:=s.toks+1 }) I.type (ae (eS (s:={ s with toks:=s.toks+1 }) own ?_))));rw[KE _ hm];refine ao (ae (eS (s:={ s with toks:=s.toks+1 }) I.type (ae (eS (s:={ s with toks:=s.toks+1 }) (dQ X hn) (ae (ao ?_))))));dsimp only;refine ae (ao (ae (ae (gp hx (ae (eS (s:={ s with toks:=s.toks+1 }) (looks_clsIn X hc) ?_))))));rw[hdd];refine ae (wpAny_alloc ?_);have n0:s.heap.get? s.heap.objs.size=none:=cw (ak _);have nx:s.heap.objs.size≠x:=λz=>by rw[z,hx] at n0;cases n0
 have hx1:=af { cls:=.type "dict",data:=.dict #[] } hx;refine ae (wpAny_update hx1 ?_);have hx2:=eV (λo:Obj=>{ o with dict:=some s.heap.objs.size }) hx1 rfl;have hd2:((s.heap.push { cls:=.type "dict",data:=.dict #[] }).update x (λo:Obj=>{ o with dict:=some s.heap.objs.size })).get? s.heap.objs.size=some { cls:=.type "dict",data:=.dict #[] }:=by
  rw[bC _ _ (Ne.symm nx)];exact aJ _ rfl
 have ns0:((s.heap.push { cls:=.type "dict",data:=.dict #[] }).update x (λo:Obj=>{ o with dict:=some s.heap.objs.size })).Ns1 s.heap.objs.size (λ_=>none):=⟨_,_,_,hd2,rfl,(λe he=>by simp at he),(by simp[UniqKeys]),λ_=>rfl⟩
 have keep:∀b o,b≠x->s.heap.get? b=some o->((s.heap.push { cls:=.type "dict",data:=.dict #[] }).update x (λo:Obj=>{ o with dict:=some s.heap.objs.size })).get? b=some o:=λb o nb q=>by
  rw[bC _ _ (Ne.symm nb)];exact af _ q
 generalize (s.heap.push { cls:=.type "dict",data:=.dict #[] }).update x (λo:Obj=>{ o with dict:=some s.heap.objs.size })=h1 at hx2 hd2 ns0 keep;refine ao (a:=some s.heap.objs.size) (ae (ao (ae ?_)));refine wpAny_nsSet1 (s:={ s with heap:=h1,toks:=s.toks+1 }) ns0 λh2 ns2 but=>?_
 obtain⟨oD,esD,epD,hoD,hdD,hcD⟩:=ns2.count (PySem.Within.cons (ns:=[]) name v λ_ z=>absurd rfl z);refine ae (wpAny_lookBehind hoD (by rw[hdD];exact pastItsLine_dict (ba hcD (by rw[bB];show 1<=_;decide))) ?_);refine ao (h h2 ((but.2 x (Ne.symm nx)).trans hx2) ns2 λb o nb q=>(but.2 b λz=>?_).trans (keep b o nb q));rw[z,n0] at q;cases q
end
def KG (K:Frag)(C:Addr):Bool:=(K.lookup C).any λo=>match o with
 |⟨.type t,_,.cls cd,sl⟩=>t == "type" && !cd.hasDel&&(match cd.mro with | .ref D::tl=>D == C&&tailIn K Rb tl|_=>false)&&(match sl.toList with|[_,_,_,_,some (.builtin n),_]=>n == "ValueError.__new__"|_=>false)
 |_=>false
theorem NX {h:Heap}{K:Frag}{C:Addr}(X:K.In h)(q:KG K C=true) :
  ∃tl N nm qn bs hd sn sub ab col dd k0 k1 k2 k3 k5,h.get? C=some (excClassObj nm qn C N bs tl hd sn sub ab col dd k0 k1 k2 k3 k5 "ValueError.__new__")/\OwnTail h Rb tl:=by
 obtain⟨o,found,z⟩:=any_some q
 split at z
 ·rename_i t dx ck sl
  rw[bq,bq,bq] at z;obtain⟨⟨⟨z1,z2⟩,z3⟩,z4⟩:=z;have y1:t="type":=cg.mp z1;have y2:ck.hasDel=false:=by simpa using z2
  split at z3
  ·rename_i D tl em
   rw[bq] at z3;have y3:D=C:=cg.mp z3.1
   split at z4
   ·rename_i p0 p1 p2 p3 made p5 es
    have y4:made="ValueError.__new__":=cg.mp z4;subst y1 y3 y4;obtain⟨nm,bs,mro,ns,qn,hd,sn,sub,ab,col,del⟩:=ck;simp only at em y2;subst em y2;obtain⟨l⟩:=sl;simp only at es;subst es;exact⟨tl,ns,nm,qn,bs,hd,sn,sub,ab,col,dx,p0,p1,p2,p3,p5,X _ _ found,tail_of_in X z3.2⟩
   ·cases z4
  ·cases z3
 ·cases z
section
variable {prog:Program}{w:World}{A:Around}{E:Value->Shared->Prop}{s:Shared}{K:Frag}{C f:Addr}{us:List Value}
def Dq (C t:Addr)(d:Option Addr):Obj:=⟨.ref C,d,.fields #[.ref t,.none,.none,.none,.bool false,.none],#[]⟩
theorem Qz {Q:Value->Shared->Prop} (X:K.In s.heap) (hq:KG K C=true) (hi:findIn K (.ref C) "__init__"=some (some (.ref f))) (hf:typeIn K (.ref f)=some (.type "function")) (hl:us.length<=sizeLine)
  (h:∀h1,(∀b o,s.heap.get? b=some o->h1.get? b=some o)->h1.get? (s.heap.objs.size+1)=some (Dq C s.heap.objs.size none)->h1.objs.size=s.heap.objs.size+2->
   wpAny (model prog w) (A.under (.builtin "type.__call__" ⟨.ref C::us,[]⟩)) (call (.ref f) (.ref (s.heap.objs.size+1)::us)) (λr s'=>r=.none/\Q (.ref (s.heap.objs.size+1)) s') E { s with heap:=h1 }) :
  wpAny (model prog w) A (call (.ref C) us) Q E s:=by
 obtain⟨tl,N,nm,qn,bs,hd,sn,sub,ab,col,dd,k0,k1,k2,k3,k5,oc,T⟩:=NX X hq;obtain⟨hp,g,d,t,os⟩:=s;have G:=PySem.F.excBase_ValueError;have l1:=tc_lookup;have l2:=tc_bind (.ref C);have hT:(⟨hp,g,d,t,os⟩:Shared).TypeIs (.ref C) "type":=⟨_,oc,rfl⟩
 refine cZ (codeAny_of_tree ?_);show wpAny _ _ (callAny (.ref C) _) _ _ _
 repeat (any_goals (first|assumption|(with_reducible refine d7 oc ?_)|wp_step))
 refine⟨rfl,codeAny_call_builtin_at (fq _ (by decide +kernel)) entry_typeCall (wpAny_check_type_call_sub oc ?_)⟩
 change K.In hp at X
 change hp.get? C=_ at oc
 change OwnTail hp Rb tl at T
 dsimp only at h;generalize eA:A.under (Code.builtin "type.__call__" { pos:=[Value.ref C]++us })=A1;have h:∀h1,(∀b o,hp.get? b=some o->h1.get? b=some o)->h1.get? (hp.objs.size+1)=some (Dq C hp.objs.size none)->h1.objs.size=hp.objs.size+2->wpAny (model prog w) A1 (call (.ref f) (.ref (hp.objs.size+1)::us)) (λr s'=>r=.none/\Q (.ref (hp.objs.size+1)) s') E ⟨h1,g,d,t,os⟩:=by
  rw[<-eA];exact h
 show wpAny (model prog w) A1 (Builtin.«type.__call__» ⟨.ref C::us,[]⟩) _ _ ⟨hp,g,d,t,os⟩
 repeat (first|(with_reducible refine d7 oc ?_)|(with_reducible refine wpAny_madeBy_exc oc ?_)|wp_step)
 refine codeAny_call_builtin_code (fq _ G.quiet) (wpAny_check_new_subT G T oc (codeAny_exc_new_subT G T oc ?_ hl));show wpAny _ _ _ _ _ _;have k1:∀b o,hp.get? b=some o->((hp.push { cls:=.type "tuple",data:=.seq us.toArray }).push (Dq C hp.objs.size none)).get? b=some o:=λb o q=>af _ (af _ q)
 have z1:((hp.push { cls:=.type "tuple",data:=.seq us.toArray }).push (Dq C hp.objs.size none)).objs.size=hp.objs.size+2:=by rw[bL,bL]
 have e1:((hp.push { cls:=.type "tuple",data:=.seq us.toArray }).push (Dq C hp.objs.size none)).get? (hp.objs.size+1)=some (Dq C hp.objs.size none):=by
  have:=aJ (hp.push { cls:=.type "tuple",data:=.seq us.toArray }) (o:=Dq C hp.objs.size none) rfl;rw[bL] at this;exact this
 change wpAny (model prog w) A1 _ _ _ ⟨(hp.push { cls:=.type "tuple",data:=.seq us.toArray }).push (Dq C hp.objs.size none),g,d,t,os⟩
 generalize (hp.push { cls:=.type "tuple",data:=.seq us.toArray }).push (Dq C hp.objs.size none)=h1 at k1 z1 e1;have I:InstAt h1 (hp.objs.size+1) (Dq C hp.objs.size none) C none:=⟨e1,rfl,rfl,trivial⟩
 have X1:K.In h1:=λb o q=>k1 b o (X b o q)
 have cC:(Value.ref C::tl).contains (.ref C)=true:=by simp
 refine ae (ae (eS (s:=⟨h1,g,d,t,os⟩) I.type ?_));refine wpAny_isSubtype_exc (k1 _ _ oc) ?_;rw[cC];refine ae (bu (special_fn (s:=⟨h1,g,d,t,os⟩) X1 I hi hf (bo (h h1 k1 e1 z1) (λr s' q=>?_) λ_ _ q=>q)));obtain⟨rfl,q⟩:=q;exact ao q
end
end
section
open PySem PySem.Spec PyProof.Rows
def FM (x C:Addr)(d:Option Addr):HO:=.ext λh=>∃t,h.get? x=some (Dq C t d)
theorem Ol {P:Program}{w:World}{H:Hp}{h:Heap}{x C t:Addr}{d:Option Addr}(e:h.get? x=some (Dq C t d)):A5 P w H h x (FM x C d):=⟨⟨t,e⟩,⟨_,e⟩,λ_ _ ⟨t,z⟩ k=>⟨t,k _ z⟩⟩
variable {X:Cx}{pins:List (Addr×Obj)}{σ:St}{H:Hp}{s:Shared}
theorem Mu {A:Around} {E:Value->Shared->Prop} {Q:Unit->Shared->Prop} {e C:Addr} {f:Str} {y:V} {u:Value} (I:Inv X pins σ H s) (he:H e=some (FM e C none)) (c:ExiCls X.K C) (n:PySem.W.findIn X.K (.ref C) f=some none) (ry:RelV y u)
  (h:∀dx s',H dx=none->Inv X pins σ (upd (upd H e (FM e C (some dx))) dx (.xd [(f,y)])) s'->Q () s'):wpAny (model X.prog X.w) A (setAttr (.ref e) f u) Q E s:=by
 obtain⟨⟨t,ob⟩,_,_⟩:A5 X.prog X.w H s.heap e (FM e C none):=I.hok e _ he;refine OM I.kIn c n ob λh1 ob1 ns1 k1=>?_
 have hf:H s.heap.objs.size=none:=I.hok.fresh (ak _);have n0:s.heap.get? s.heap.objs.size=none:=cw (ak _);have ne:s.heap.objs.size≠e:=λz=>by rw[z,ob] at n0;cases n0
 have J:=I.write (x:=e) (e:=e) (o:=FM e C (some s.heap.objs.size)) (h':=h1) (t':=s.toks+2) (by rw[he];trivial) (.inl rfl) (λb o nb q=>k1 b o nb q) ⟨_,ob1⟩ (Ol ob1);obtain⟨m,hn,_⟩:=id I.loc;obtain⟨oL,_,_,hoL,_⟩:=id hn;refine h s.heap.objs.size _ hf (J.know (λx=>?_) (λz=>?_) (λx c q z=>?_) (λp hp z=>?_) (by rw[An ne];exact hf) ⟨_,ns1,λg=>?_⟩)
 ·cases q:X.s₀.heap.get? s.heap.objs.size with
  |none=>rfl
  |some o=>
   obtain⟨o',z⟩:=I.base.there _ o q x;rw[n0] at z;cases z
 ·rw[<-z,n0] at hoL;cases hoL
 ·obtain⟨w',oc,e1,_⟩:=I.cell x c q;rw[z,n0] at e1;cases e1
 ·have:=(I.pin p hp).1;rw[z,n0] at this;cases this
 ·by_cases eg:g=f
  ·subst eg;rw[aI rfl,List.lookup_cons_self];exact ry
  ·rw[aH eg,dk,show(g == f)=false from bO.mpr eg]
   trivial
def Vk (K:PySem.W.Frag)(ta tv:TE)(f:Str):TS:=λD σ H=>tv σ H λy H1=>ta σ H1 λx H2=>∃e C,x=.ref e/\H2 e=some (FM e C none)/\ExiCls K C/\PySem.W.findIn K (.ref C) f=some none/\
 ∀dx,H2 dx=none->D.nx σ (upd (upd H2 e (FM e C (some dx))) dx (.xd [(f,y)]))
theorem Od {o value:Expr}{f:Str}{pos pos':Pos}{ta tv:TE}(ha:PE X o ta)(hv:PE X value tv)(hs:swapsWith value (some (.Attribute o f pos')) pos.line X.env=pure false):PS X (.Assign [.Attribute o f pos'] value pos) (Vk X.K ta tv f):=by
 intro pins s σ H D I h;refine fG (Bz (hv pins s σ H _ I h) λu s1 ⟨y,H1,I1,ry,q⟩=>Bz (ha pins s1 σ H1 _ I1 q) λov s2 z9=>?_) hs;obtain⟨x,H2,I2,rx,e,C,ex,he,c,n,q2⟩:=z9;subst ex;obtain rfl:ov=Value.ref e:=rx;exact Mu I2 he c n ry λdx s3 hd I3=>⟨σ,_,I3,q2 dx hd⟩
structure MkX (K:PySem.W.Frag) (C f:Addr):Prop where
 ex:KG K C=true
 init:PySem.W.findIn K (.ref C) "__init__"=some (some (.ref f))
 fn:PySem.W.isFn K (.ref f)=true
 kp:PySem.W.keepIn K (.ref C)=true
theorem SE {CX:Nb} {k:Nat} {f C:Addr} {fd:FuncData} {ps:List Str} {sp:Sp} {Q:VK} {us:List Value} {vs:List V} (M:MkX X.K C f) (F:FnOk X.prog X.w X.K X.mg X.base CX k f fd ps sp) (hr:Room (k+1) X.A) (hb:Binds X.K fd ps []) (hx:EJ CX X E0) (hl:us.length<=sizeLine)
  (I:Inv X pins σ H s) (r:AJ vs us) (hq:sp (.ref (s.heap.objs.size+1)::vs) (upd H (s.heap.objs.size+1) (FM (s.heap.objs.size+1) C none)) (λv H2=>v=.non/\Q (.ref (s.heap.objs.size+1)) H2) E0):wpAny (model X.prog X.w) X.A (call (.ref C) us) (EP X pins σ Q) X.xe s:=by
 refine Qz I.kIn M.ex M.init (cg.mp M.fn) hl λh1 k1 e1 z1=>?_
 have I2:=I.laid (a:=s.heap.objs.size+1) (o:=FM (s.heap.objs.size+1) C none) (h':=h1) (t':=s.toks) k1 (eI _) (Ol e1);have r2:AJ (V.ref (s.heap.objs.size+1)::vs) (Value.ref (s.heap.objs.size+1)::us):=.cons rfl r;have hn:(Value.ref (s.heap.objs.size+1)::us).length=ps.length:=r2.length.symm.trans (F.len _ _ _ _ hq);have hb':=hb { s with heap:=h1 } (Value.ref (s.heap.objs.size+1)::us) I2.kIn (by rw[br];exact hn);rw[br] at hb';refine cZ (dw (F.run _ X.stack _ _ ⟨Value.ref (s.heap.objs.size+1)::us,[]⟩ (Value.ref (s.heap.objs.size+1)::us) _ _ _ (hr.make C us []) (I2.env0.make C us []) hb' r2 hq) λr s' z=>?_)
 match r,z with
 | .error e,z=>exact hx pins σ _ _ e s' I2 z
 | .ok (.ret u),z=>
  obtain⟨v,H',I3,rv,ev,q3⟩:=I2.after z;subst ev;exact⟨rv,⟨V.ref (s.heap.objs.size+1),H',I3,rfl,q3⟩⟩
theorem OR {M:Model} {A:Around} {E:Value->Shared->Prop} {K:PySem.W.Frag} {env:Env} {y:Sem Value} {Q:Flow->Shared->Prop} {s:Shared} (hh:A.handled=none)
  (h:wpAny M A y (λv s1=>∃e C t d,v=.ref e/\K.In s1.heap/\KG K C=true/\s1.heap.get? e=some (Dq C t d)/\E (.ref e) s1) E s):wpAny M A (raiseStmt env (some y) none) Q E s:=by
 unfold raiseStmt;refine ae (bo h (λv s1 z=>?_) λ_ _ z=>z);obtain⟨e,C,t,d,rfl,k,hq,he,hE⟩:=z;obtain⟨tl,N,nm,qn,bs,hd,sn,sub,ab,col,dd,k0,k1,k2,k3,k5,oc,T⟩:=NX k hq;obtain⟨hp,g,dr,tk,os⟩:=s1
 change hp.get? e=some ⟨.ref C,d,.fields #[.ref t,.none,.none,.none,.bool false,.none],#[]⟩ at he
 have inB:(Value.ref C::tl).contains (.type "BaseException")=true:=by rw[List.contains_cons,T.hasType PySem.F.excBase_ValueError.hasBase,Bool.or_true]
 repeat (first|(with_reducible refine d7 he ?_)|(with_reducible refine d7 oc ?_)|((with_reducible refine wpAny_isSubtype_exc oc ?_);rw[inB])|wp_step)
 exact wpAny_raiseNew_none hh hE
end
section
open PySem PySem.Spec PyProof.Rows
def del (H:Hp)(e:Addr):Hp:=λb=>if b=e then none else H b
theorem MF {H:Hp}{e:Addr}:del H e e=none:=by unfold del;rw[aI rfl]
theorem M6 {H:Hp}{b e:Addr}(h:b≠e):del H e b=H b:=by unfold del;rw[aH h]
def MJ (P:Program)(w:World):Nb:=λouter H s E e s'=>∃(ea:Addr) (cls:Value) (H':Hp) (B:Heap) (a0:Value) (d:Option Addr),e=.ref ea/\Fly P w outer H s ea cls H' B a0 s'/\DictAt s'.heap ea d/\E cls d H'
section
variable {P:Program}{w:World}{K:PySem.W.Frag}{mg:Str->Option Value}{base:Heap}{N:List Str}{qual:Str}{scope:Scope}{f:Addr}{cd:Value}{A:Around}{outer:List Env}{s:Shared}{H:Hp}{E:XK}
theorem Gv {CX:Nb}{pins:List (Addr×Obj)}{σ:St}{H1:Hp}{s1:Shared}(I:Inv (Bw CX P w K mg base N qual scope f cd A outer s H E) pins σ H1 s1){b:Addr}{o:Obj}(q:s.heap.get? b=some o)(hb:b∉Gw outer) :
  b∉Gw (envOfC qual scope s.heap.objs.size f cd::outer):=λz=>by
 rcases aD.mp (I.stkSub b z) with e|e
 ·have h1:s.heap.objs.size<=b:=by rw[e];exact I.ok.above
  exact absurd (aW (aG q) h1) (cp _)
 ·exact hb e
theorem Gf:EJ (MJ P w) (Bw (MJ P w) P w K mg base N qual scope f cd A outer s H E) E:=by
 intro pins σ H1 s1 e s2 I h;obtain⟨ea,cls,H',B,a0,d,rfl,F,dj,q⟩:=h;have hfr:=I.ok.frames;refine(JW _ _).also dj (wpAny_leaves_onW (L:=s.heap.objs.size) hfr rfl F.fl λh' fl' up dj'=>?_);have un:=F.stay I.stack I.stkFree fl'.1 up;have J:=I.call' (s':={ s2 with heap:=h' }) (ch:=[]) F.os un (F.hok.kept fl'.1) F.bare (λb z=>nomatch z);refine⟨ea,cls,H',B,a0,d,rfl,⟨J.os,F.bare,J.base,F.hok,fl',λb o e n hb=>?_,λb o e hb=>?_,⟨_,dj'⟩⟩,dj',q⟩
 ·exact F.kp b o (I.base.keep b o e n hb (by intro z;cases z)) (I.base.free b o e n (by intro z;cases z)) (Gv I e hb)
 ·obtain⟨o1,e1⟩:=I.base.there b o e (by intro z;cases z);exact F.th b o1 e1 (Gv I e hb)
theorem O2 {pins:List (Addr×Obj)}{σ:St}{H1:Hp}{s1:Shared}{ea C:Addr}{d:Option Addr}(I:Inv (Bw (MJ P w) P w K mg base N qual scope f cd A outer s H E) pins σ H1 s1)(he:H1 ea=some (FM ea C d))(hn:s.heap.objs.size<=ea)(q:E (.ref C) d (del H1 ea)) :
  (Bw (MJ P w) P w K mg base N qual scope f cd A outer s H E).xe (.ref ea) s1:=by
 have hfr:=I.ok.frames;obtain⟨⟨t,ob⟩,_,_⟩:A5 P w H1 s1.heap ea (FM ea C d):=I.hok ea _ he;have nf:ea∉Gw (envOfC qual scope s.heap.objs.size f cd::outer):=λz=>by
  have:=I.stkFree ea z;rw[he] at this;cases this
 have nofs:s.heap.get? ea=none:=cw hn;have hid:∀{b:Addr} {o:Obj},s1.heap.get? b=some o->b≠ea->b∉Gw (envOfC qual scope s.heap.objs.size f cd::outer)->(PySem.W.hideAll s1.heap (ea::Gw (envOfC qual scope s.heap.objs.size f cd::outer))).get? b=some o:=λe n1 n2=>eM _ e λz=>(aD.mp z).elim n1 n2
 have ff:s1.heap.FunFrames (PySem.W.hideAll s1.heap (ea::Gw (envOfC qual scope s.heap.objs.size f cd::outer))) (envOfC qual scope s.heap.objs.size f cd::outer):=PySem.W.funFrames_hide I.stack λenv he a ha=>az _ (eU.mpr ⟨env,he,ha⟩)
 have hen:(PySem.W.hideAll s1.heap (ea::Gw (envOfC qual scope s.heap.objs.size f cd::outer))).get? ea=none:=gw _ ay;refine(JW _ _).also (RF ob ⟨_,rfl,rfl⟩) (wpAny_leaving_firstW (base:=PySem.W.hideAll s1.heap (ea::Gw (envOfC qual scope s.heap.objs.size f cd::outer))) (a0:=.ref t) hfr ff rfl ob (λb o e=>PySem.W.of_hideAll _ e) hen rfl rfl rfl λh' hL dj=>?_);obtain⟨k1,⟨_,_,k2⟩,k3,k4⟩:=hL;generalize PySem.W.hideAll s1.heap (ea::Gw (envOfC qual scope s.heap.objs.size f cd::outer))=B at hid ff hen k1 k2 k3;have nt:∀{b:Addr} {u:HO},H1 b=some u->(∀φ,u≠.ext φ)->del H1 ea b=some u:=λ{b u} e n=>by
  rw[M6 (λz=>by rw[z,he] at e;cases e;exact n _ rfl)];exact e
 have sl:∀b o,s1.heap.get? b=some o->b∈Gw (envOfC qual scope s.heap.objs.size f cd::outer)->∃z,h'.get? b=some { o with slots:=z }:=λb o e hb=>by
  obtain⟨_,o',ho',hd⟩:=I.stack.mem hb;rw[e] at ho';cases ho';exact k4 b o e hd
 have un:Un (Gw (envOfC qual scope s.heap.objs.size f cd::outer)) [] H1 (del H1 ea) s1.heap h':=by
  refine⟨λb o e n hb _=>k1 b o (hid e (λz=>by rw[z,he] at n;cases n) hb),λb o e _ hb _=>sl b o e hb,λb o _ n _=>?_,λb o e _=>?_,λb xs e=>nt e (by intro _ z;cases z),λb o u e=>nt e (by intro _ z;cases z),λb ps e=>⟨#[],by rw[nt e (by intro _ z;cases z)];simp⟩⟩
  ·unfold del;split
   ·rfl
   ·exact n
  ·by_cases z:b=ea
   ·rw[z];obtain⟨oe,_,_,_,_,e1,_⟩:=k3;exact⟨_,e1⟩
   ·by_cases hb:b∈Gw (envOfC qual scope s.heap.objs.size f cd::outer)
    ·obtain⟨z,e1⟩:=sl b o e hb;exact⟨_,e1⟩
    ·exact⟨o,k1 b o (hid e z hb)⟩
 have hok:Gx P w (del H1 ea) B:=λb u e=>by
  have nb:b≠ea:=λz=>by rw[z,MF] at e;cases e
  rw[M6 nb] at e;refine(I.hok b u e).stay (λc v hc z=>hid z (λy=>?_) λy=>?_) (λc z=>nt z (by intro _ z;cases z)) λc xs z=>nt z (by intro _ z;cases z)
  ·rcases hc with rfl|hc
   ·exact nb y
   ·rw[y,he] at hc;cases hc
  ·have:=I.stkFree c y;rcases hc with rfl|hc
   ·rw[e] at this;cases this
   ·rw[hc] at this;cases this
 have J:=I.call' (s':={ s1 with heap:=h' }) (ch:=[]) rfl un (hok.kept k1) I.bare (λb z=>nomatch z);refine⟨ea,_,del H1 ea,B,.ref t,d,rfl,⟨J.os,I.bare,J.base,hok,⟨k1,hen,k2,k3⟩,λb o e n hb=>?_,λb o e hb=>?_,⟨_,dj⟩⟩,dj,q⟩
 ·exact hid (I.base.keep b o e n hb (by intro z;cases z)) (λz=>by rw[z,nofs] at e;cases e) (Gv I e hb)
 ·obtain⟨o1,e1⟩:=I.base.there b o e (by intro z;cases z);exact⟨o1,hid e1 (λz=>by rw[z,nofs] at e;cases e) (Gv I e hb)⟩
end
end
section
open PySem PySem.Spec PyProof.Rows
def VD (X:Cx)(E:XK):Prop:=∀(pins:List (Addr×Obj)) (σ:St) (H:Hp) (s:Shared) (ea C:Addr) (d:Option Addr),Inv X pins σ H s->H ea=some (FM ea C d)->X.s₀.heap.objs.size<=ea->E (.ref C) d (del H ea)->X.xe (.ref ea) s
theorem JV {P:Program}{w:World}{K:PySem.W.Frag}{mg:Str->Option Value}{base:Heap}{N:List Str}{qual:Str}{scope:Scope}{f:Addr}{cd:Value}{A:Around}{outer:List Env}{s:Shared}{H:Hp}{E:XK}:VD (Bw (MJ P w) P w K mg base N qual scope f cd A outer s H E) E:=
 λ_ _ _ _ _ _ _ I he hn q=>O2 I he hn q
theorem HV {P:Program}{w:World}{X:Cx}:EJ (MJ P w) X E0:=λ_ _ _ _ _ _ _ ⟨_,_,_,_,_,_,_,_,_,z⟩=>False.elim z
def NB (C:Addr)(f:Str):Sp:=λvs H Q _=>∃e y,vs=[.ref e,y]/\H e=some (FM e C none)/\∀dx,H dx=none->Q .non (upd (upd H e (FM e C (some dx))) dx (.xd [(f,y)]))
def QP (P:Program)(w:World)(K:PySem.W.Frag)(mg:Str->Option Value)(base:Heap)(k:Nat)(x:Str)(C:Addr)(f:Str)(ps:List Str):Prop:=
 ∃(fI:Addr) (fd:FuncData),MkX K C fI/\FnOk P w K mg base CU k fI fd ps (NB C f)/\mg x=some (.ref C)/\Binds K fd ps []
def RZ (C:Addr)(f:Str)(E:XK)(t:TA):TS:=λ_ σ H=>t σ H λvs H1=>∃y,vs=[y]/\∀dx,H1 dx=none->E (.ref C) (some dx) (upd H1 dx (.xd [(f,y)]))
variable {X:Cx}{E:XK}{x:Str}{C:Addr}{f:Str}{ps:List Str}{k:Nat}{e:Expr}{t:TA}{np cpos pos:Pos}
theorem KS (R:VD X E)(hc:X.calm=true)(D:QP X.prog X.w X.K X.mg X.base k x C f ps)(hr:Room (k+1) X.A)(hg:Gl X x)(ha:PA X [e] t)(hdb:(x == ("__debug__":Str))=false:=by decide)(he:starEach [e] X.env=[(false,eval e X.env)]:=by rfl) :
  PS X (.Raise (some (.Call (.Name x np) [e] [] cpos)) none pos) (RZ C f E t):=by
 intro pins s σ H Dn I h;obtain⟨fI,fd,M,F,hm,hb⟩:=D;rw[arm_exec_Raise];refine ae (cR (OR (K:=X.K) (I.ok.hd hc) (ae ?_)));refine cm (Ez I hg hm ?_ hdb);refine cO (h₀:=X.base) I.ok.mod.kin M.kp (Bz (ha cpos pins s σ H _ I h) λus s1 ⟨vs,H1,I1,r,y,ev,q⟩=>⟨I1.kIn,?_⟩) he rfl;subst ev;have hl2:us.length<=sizeLine:=by rw[<-r.length,bB];show 1<=_;decide
 have h1:=I1.hok.fresh (eI s1.heap.objs.size);refine Bz (SE (Q:=λv H2=>v=.ref (s1.heap.objs.size+1)/\∃dx,H2 (s1.heap.objs.size+1)=some (FM (s1.heap.objs.size+1) C (some dx))/\E (.ref C) (some dx) (del H2 (s1.heap.objs.size+1))) M F hr hb Oj hl2 I1 r ⟨_,y,rfl,Ad,λdx hd=>⟨rfl,rfl,dx,?_,?_⟩⟩) λv s2 z=>?_
 ·have nd:s1.heap.objs.size+1≠dx:=λz=>by rw[<-z,Ad] at hd;cases hd
  rw[An nd,Ad]
 ·have nd:dx≠s1.heap.objs.size+1:=λz=>by rw[z,Ad] at hd;cases hd
  rw[An nd] at hd;have eq:del (upd (upd (upd H1 (s1.heap.objs.size+1) (FM (s1.heap.objs.size+1) C none)) (s1.heap.objs.size+1) (FM (s1.heap.objs.size+1) C (some dx))) dx (.xd [(f,y)])) (s1.heap.objs.size+1)=upd H1 dx (.xd [(f,y)]):=by
   funext b
   by_cases e1:b=s1.heap.objs.size+1
   ·rw[e1,MF,An (Ne.symm nd)];exact h1.symm
   ·rw[M6 e1]
    by_cases e2:b=dx
    ·rw[e2,Ad,Ad]
    ·rw[An e2,An e1,An e1,An e2]
  rw[eq];exact q dx hd
 ·obtain⟨v',H2,I2,rv,ev,dx,h2,q2⟩:=z;subst ev;obtain rfl:v=.ref (s1.heap.objs.size+1):=rv;obtain⟨⟨t2,ob⟩,_,_⟩:A5 X.prog X.w H2 s2.heap (s1.heap.objs.size+1) (FM (s1.heap.objs.size+1) C (some dx)):=I2.hok _ _ h2;refine ae (cR (ao ⟨_,C,t2,some dx,rfl,I2.kIn,M.ex,ob,R pins σ H2 s2 _ C _ I2 h2 ?_ q2⟩));obtain⟨m,⟨oL,_,_,hoL,_⟩,_⟩:=id I1.loc;exact dY (Nat.lt_of_le_of_lt I1.ok.above (cn (aG hoL)))
def FZ (P:Program)(w:World)(K:PySem.W.Frag)(mg:Str->Option Value)(base:Heap)(k:Nat)(x:Str)(ps:List Str)(sp:Sp):Prop:=
 ∃(f:Addr) (fd:FuncData),FnOk P w K mg base (MJ P w) k f fd ps sp/\mg x=some (.ref f)/\PySem.W.keepIn K (.ref f)=true/\Binds K fd ps []
theorem Fun.okE {P:Program} {w:World} {K:PySem.W.Frag} {mg:Str->Option Value} {base:Heap} {x qual:Str} {st:Stmt} {f:Addr} {fd:FuncData} {N ps:List Str} {k:Nat} {sp:Sp} (F:Fun K x qual st f fd) (S:FnScope N ps (Ag st)) (len:∀vs H Q E,sp vs H Q E->vs.length=ps.length)
  (hbody:∀(cdv:Value) (A:Around) (outer:List Env) (s:Shared) (H:Hp) (vs:List V) (Q:VK) (E:XK),Room k (A.deeper (envOfC qual (Ag st) s.heap.objs.size f cdv))->sp vs H Q E->
   ∃t,KU (Bw (MJ P w) P w K mg base N qual (Ag st) f cdv A outer s H E) (Au st) t/\t { nx:=λ_ H'=>Q .non H',rt:=Q } (start N vs) H):FnOk P w K mg base (MJ P w) (k+1) f fd ps sp:=by
 obtain⟨oc,od,kV,doc,pm,an,cdv,ct,osl,rfl,lk,hcd⟩:=F.ex;exact Tc lk hcd S len λA outer s H vs Q E hr hsp=>hbody cdv A outer s H vs Q E hr hsp
end
section
open PySem PySem.Spec PyProof.Rows
variable {X:Cx}{k:Nat}{x:Str}{ps:List Str}{sp:Sp}{E:XK}{e:Expr}{es:List Expr}{t:TA}{p pos:Pos}
theorem D9 (D:FZ X.prog X.w X.K X.mg X.base k x ps sp) (hr:Room k X.A) (hg:Gl X x) (hx:EJ (MJ X.prog X.w) X E) (ha:PA X (e::es) t)
  (hdb:(x == ("__debug__":Str))=false:=by decide) (he:starEach (e::es) X.env=(false,eval e X.env)::starEach es X.env:=by rfl) (hpl:(backTo pos (starEach es X.env)).any (·.1)=false:=by rfl) :
  PE X (.Call (.Name x p) (e::es) [] pos) (Oi sp [] E t):=by
 obtain⟨f,fd,F,hm,hk,hb⟩:=D;exact Ot F hr hg hm hk hb .nil hx ha hdb he hpl
abbrev VH:=Value->Option Addr->St->Hp->Prop
abbrev S7:=Ends->VH->St->Hp->Prop
def U6 (X:Cx)(pins:List (Addr×Obj))(Ex:VH)(e:Value)(s':Shared):Prop:=
 ∃(ea:Addr) (cls:Value) (σ':St) (H1 H':Hp) (s1:Shared) (B:Heap) (a0:Value) (d:Option Addr),e=.ref ea/\Inv X pins σ' H1 s1/\Fly X.prog X.w X.stack H1 s1 ea cls H' B a0 s'/\DictAt s'.heap ea d/\Ex cls d σ' H'
def WI (X:Cx)(st:Stmt)(t:S7):Prop:=
 ∀(pins:List (Addr×Obj)) (s:Shared) (σ:St) (H:Hp) (D:Ends) (Ex:VH),Inv X pins σ H s->t D Ex σ H->wpAny (model X.prog X.w) X.A (exec st X.env) (SP X pins D) (U6 X pins Ex) s
def UC (X:Cx)(st:List Stmt)(t:S7):Prop:=
 ∀(pins:List (Addr×Obj)) (s:Shared) (σ:St) (H:Hp) (D:Ends) (Ex:VH),Inv X pins σ H s->t D Ex σ H->wpAny (model X.prog X.w) X.A (execs st X.env) (SP X pins D) (U6 X pins Ex) s
def Vh (X:Cx)(e:Expr)(t:(Value->Option Addr->Hp->Prop)->TE):Prop:=
 ∀(pins:List (Addr×Obj)) (s:Shared) (σ:St) (H:Hp) (Q:VK) (Ex:Value->Option Addr->Hp->Prop),Inv X pins σ H s->t Ex σ H Q->wpAny (model X.prog X.w) X.A (eval e X.env) (EP X pins σ Q) (U6 X pins λcls d σ' H'=>σ'=σ/\Ex cls d H') s
theorem Uv {pins:List (Addr×Obj)}{σ:St}{Ex:VH}{v:Value}{s:Shared}(h:U6 X pins (λcls d σ' H'=>σ'=σ/\Ex cls d σ H') v s):U6 X pins Ex v s:=by
 obtain⟨ea,cls,σ',H1,H',s1,B,a0,d,h1,h2,h3,h4,h5,h6⟩:=h;subst h5;exact⟨ea,cls,_,H1,H',s1,B,a0,d,h1,h2,h3,h4,h6⟩
def UE (te:(Value->Option Addr->Hp->Prop)->TE):S7:=λD Ex σ H=>te (λcls d H'=>Ex cls d σ H') σ H λ_ H1=>D.nx σ H1
theorem ME {te:(Value->Option Addr->Hp->Prop)->TE}(he:Vh X e te)(hs:swapsWith e none pos.line X.env=pure false:=by rfl):WI X (.Expr e pos) (UE te):=by
 intro pins s σ H D Ex I h;exact wpAny_Expr_any (bo (he pins s σ H _ _ I h) (λv s1 ⟨x,H1,I1,r1,q1⟩=>⟨σ,H1,I1,q1⟩) λ_ _ z=>Uv z) I.quiet hs
theorem MI {st:Stmt}{u:S7}(h1:WI X st u):UC X [st] u:=by
 intro pins s σ H D Ex I h;refine fH (Bz (h1 pins s σ H D Ex I h) λf s1 q=>?_);cases f with
 |next=>exact dH q
 |ret v=>exact q
 |brk=>exact q
 |cont=>exact q
theorem OA (D:FZ X.prog X.w X.K X.mg X.base k x ps sp) (hr:Room k X.A) (hg:Gl X x) (ha:PA X.nox (e::es) t)
  (hdb:(x == ("__debug__":Str))=false:=by decide) (he:starEach (e::es) X.env=(false,eval e X.env)::starEach es X.env:=by rfl) (hpl:(backTo pos (starEach es X.env)).any (·.1)=false:=by rfl) :
  Vh X (.Call (.Name x p) (e::es) [] pos) (λEx=>Oi sp [] (λcls d H'=>Ex cls d H') t):=by
 obtain⟨f,fd,F,hm,hk,hb⟩:=D;intro pins s σ H Q Ex I h;refine cm (Ez I hg hm ?_ hdb);refine cO (h₀:=X.base) I.ok.mod.kin hk (bo (ha pos pins s σ H _ (I.wish _) h) (λus s1 ⟨vs,H1,I1,r,q⟩=>⟨I1.kIn,?_⟩) λ_ _ z=>False.elim z) he hpl;have J:=I1.unwish;have q':sp vs H1 Q λcls d H'=>Ex cls d H':=by rw[<-br vs];exact q
 have hl:us.length=ps.length:=by rw[<-r.length];exact F.len _ _ _ _ q'
 have hb':=hb s1 us J.kIn (by rw[br];exact hl);rw[br] at hb';refine cZ (dw (F.run X.A X.stack s1 H1 ⟨us,[]⟩ us vs Q _ hr J.env0 hb' r q') λr s' z=>?_)
 match r,z with
 | .error e,⟨ea,cls,H',B,a0,d,he,Fl,dj,q⟩=>exact⟨ea,cls,σ,H1,H',s1,B,a0,d,he,J,Fl,dj,rfl,q⟩
 | .ok (.ret u),z=>exact J.after z
end
section
open PySem PySem.Spec PyProof.Rows
variable {X:Cx}{pins:List (Addr×Obj)}{σ:St}{H:Hp}{s:Shared}
variable {x n:Str}{c:Value}{body orelse suite:List Stmt}{b₀:Stmt}{np hpos pos:Pos}{i:Nat}
def RK (K:PySem.W.Frag)(c:Value)(i:Nat)(tb:S7)(te:TS)(ts:Addr->TS):TS:=λD σ H=>tb { D with nx:=te D } (λcls d σ' H'=>PySem.W.exmOne K cls c=some true/\∃C:Addr,cls=.ref C/\∀ea,H' ea=none->
 ts ea { nx:=λσ H=>D.nx (σ.set i none) H,rt:=D.rt,bk:=λσ H=>D.bk (σ.set i none) H,ct:=λσ H=>D.ct (σ.set i none) H } (σ'.set i (some (.ref ea))) (upd H' ea (Ek ea C d))) σ H
theorem Pk {tb:S7} {te:TS} {ts:Addr->TS} (hst:X.stack=X.env::X.outer/\X.env.frame=some X.env.locals) (hm:X.mg x=some c) (hg:Gl X x) (hN:X.N.Nodup) (hi:X.N[i]?=some n) (hk:X.env.scope.names.lookup n=some .local) (hb:UC X body tb) (he:KU X orelse te) (hs:∀ea:Addr,KU (X.held (.ref ea)) (b₀::suite) (ts ea))
  (hd:(x == ("__debug__":Str))=false:=by decide):PS X (.Try body [.ExceptHandler (some (.Name x np)) (some n) (b₀::suite) hpos] orelse [] pos) (RK X.K c i tb te ts):=by
 intro pins s σ H D I h;refine wpAny_Try_except (bo (hb pins s σ H _ _ I h) (λf s1 q=>?_) λe s1 q=>?_)
 ·cases f with
  |next=>
   obtain⟨σ',H',I',q⟩:=q;exact he pins s1 σ' H' D I' q
  |ret v=>exact q
  |brk=>exact q
  |cont=>exact q
 ·obtain⟨ea,cls,σ',H1,H',s2,B,a0,d,rfl,I2,F,dj,hx,C,hC,q⟩:=q;subst hC;have hfr:=I.ok.frames;have fl:=F.fl;rw[hst.1] at hfr fl;refine(Ff _ _).also dj (wpAny_looks_onW hfr hst.2 fl λh4 held4 up4 dj4=>?_);refine(CH _ _).also dj4 (wpAny_landsW held4 λh5 fl5 up5 dj5=>?_);have J5:=I2.landed F fl5.1 (up4.trans up5);refine e9 (eR (Ez (J5.held (.ref ea)) hg hm ?_ hd)) (by intro z;cases z);obtain⟨ob,hob,hcls⟩:=fl5.there;have LT:PySem.W.Looks (model X.prog X.w) h5 (typeOf (.ref ea)) (.ref C):=by
   rw[<-hcls];exact(PySem.W.Looks.ld hob).andThen .now
  refine(fj J5.kIn LT hx).here ?_;refine dW ((CH _ _).also dj5 (lands_againW fl5 λh6 fl6 up6 dj6=>?_));have J6:=I2.landed F fl6.1 ((up4.trans up5).trans up6);have J7:=I2.knowD F J6 fl6.2.2.2 dj6;refine DE (v:=.ref ea) J7 hN hi (.inl hk) rfl (λs8 I8=>?_) (.inr hk);refine bo (hs ea pins s8 _ _ _ (I8.held (.ref ea)) (q ea F.free)) (λf s9 z=>?_) λ_ _ z=>False.elim z
  have z':=z.unheld J7;cases f with
  |next=>
   obtain⟨σ9,H9,I9,q9⟩:=z';exact Em I9 hN hi hk λs10 I10=>⟨_,_,I10,q9⟩
  |brk=>
   obtain⟨σ9,H9,I9,q9⟩:=z';exact Em I9 hN hi hk λs10 I10=>⟨_,_,I10,q9⟩
  |cont=>
   obtain⟨σ9,H9,I9,q9⟩:=z';exact Em I9 hN hi hk λs10 I10=>⟨_,_,I10,q9⟩
  |ret u=>
   obtain⟨v,σ9,H9,I9,r9,q9⟩:=z';exact Em I9 hN hi hk λs10 I10=>⟨v,_,_,I10,r9,q9⟩
end
section
open PySem PySem.Calls PyProof.Rows PySem.W Builtin Builtin.ObjectAttr Builtin.Getset_descriptor
variable {prog:Program}{w:World}{A:Around}{E:Value->Shared->Prop}{K:Frag}{e D:Addr}{oe od:Obj}{name:Str}{v:Value}{s:Shared}
theorem Pg {tk:Tok}{Q:Fin->Shared->Prop}(k:K.In s.heap)(I:InstAt s.heap e oe D (some od))(hf:findObj K D (some od) name=some (.value v))(q:Q (.done (.ret v)) s) :
  wpAny (model prog w) A (Builtin.«object.__getattribute__» ⟨[.ref e,.str name tk],[]⟩) Q E s:=by
 have T0:=I.type (M:=model prog w);have T1:=looks_find (M:=model prog w) k I hf;have s0:slotArgs "__getattribute__" 1 ⟨[.ref e,.str name tk],[]⟩=pure (Value.ref e,[Value.str name tk]):=by kernel_rfl
 have s1:attrName (.str name tk)=pure name:=by kernel_rfl
 simp only[Builtin.«object.__getattribute__»,s0];refine ae (ao ?_);dsimp only;rw[s1];refine ae (ao (ae (T0.here (ae (T1.here ?_)))));exact ao q
theorem SD {expr:Bool}{Q:Value->Shared->Prop}(k:K.In s.heap)(I:InstAt s.heap e oe D (some od))(z:IsExc s.heap e D)(c:ExcCls K D)(hf:findObj K D (some od) name=some (.value v))(hh:handedIn v=true)(q:Q v { s with toks:=s.toks+1 }) :
  wpAny (model prog w) A (getAttr (.ref e) name expr) Q E s:=by
 obtain⟨h1,g1,d1,t1,o1⟩:=s;have T0:=I.type (M:=model prog w);have T1:=dQ (M:=model prog w) k c.ga;have T2:=dQ (M:=model prog w) k c.gg;have B:=F.excAttr_ValueError.ga.bind (.ref e);unfold getAttr getAttrBy;refine ae (wpAny_mkText (bu (ae (T0.at (ae (T1.at ?_))))));have n0:(onTheHeap (Value.ref D)&&Value.builtin "BaseException.__getattribute__" == Value.builtin "object.__getattribute__")=false:=by
  have:(Value.builtin "BaseException.__getattribute__" == Value.builtin "object.__getattribute__")=false:=by decide +kernel
  rw[this];rfl
 dsimp only;rw[aH (by rw[n0];decide)];unfold getAttrByItsOwn hookBefore;rw[aI (by rfl)];refine ae (T2.at (ae (gI (bu ?_))));unfold callGetattribute boundAndCalled;rw[aH (by cases expr<;>decide),B];refine ae (ao ?_);dsimp only;refine cZ (cK F.excAttr_ValueError.ga.plain F.entry_bexc_ga ?_);refine KB (s:=⟨h1,g1,d1,t1+1,o1⟩) k z c.mb (Pg (s:=⟨h1,g1,d1,t1+1,o1⟩) k I hf ?_);dsimp only;exact handed_on hh q
end
section
open PySem PySem.Spec PyProof.Rows
variable {X:Cx}{pins:List (Addr×Obj)}{σ:St}{H:Hp}{s:Shared}
def UT (K:PySem.W.Frag)(ta:TE)(f:Str):TE:=λσ H Q=>ta σ H λx H1=>∃e D dx fs v,x=.ref e/\H1 e=some (Ek e D (some dx))/\ExiCls K D/\PySem.W.findIn K (.ref D) f=some none/\H1 dx=some (.xd fs)/\fs.lookup f=some v/\Q v H1
theorem Lj {K:PySem.W.Frag}(hK:X.K=K){o:Expr}{f:Str}{pos:Pos}{ta:TE}(he:PE X o ta)(hb:attributeBase o f X.env (eval o X.env)=eval o X.env):PE X (.Attribute o f pos) (UT K ta f):=by
 subst hK;intro pins s σ H Q I h;refine N8 hb (Bz (he pins s σ H _ I h) λu s1 z9=>?_);obtain⟨x,H1,I1,rx,e,D,dx,fs,v,ex,ee,c,n,hd,l,q⟩:=z9;subst ex;obtain rfl:u=Value.ref e:=rx;obtain⟨⟨z,oe,q1,hde,_⟩,_,_⟩:A5 X.prog X.w H1 s1.heap e (Ek e D (some dx)):=I1.hok e _ ee;obtain⟨mA,ns,r⟩:A5 X.prog X.w H1 s1.heap dx (.xd fs):=I1.hok dx _ hd;obtain⟨od,ho,hl⟩:=Ky ns;obtain⟨u,hu,ru⟩:=Fs.some_of (v:=v) (o:=mA f) (by rw[<-l];exact r f);obtain⟨oe2,q2,hc,vs,hv⟩:=id z.ob;rw[q1] at q2;cases q2;have inst:PySem.W.InstAt s1.heap e oe D (some od):=⟨q1,hc,by unfold PySem.W.notCls;rw[hv],by rw[hde];exact ho⟩
 exact SD I1.kIn inst z c.toExcCls (gC c.hd n rfl (by rw[hl,hu])) (KJ ru) ⟨v,H1,I1.tok _,ru,q⟩
end
end L2
namespace L2
open PySem PySem.Calls PySem.Spec PyProof.Rows PySem.Builtin.Str
section
variable {prog:Program}{w:World}{A:Around}{E:Value->Shared->Prop}{s:Shared}{x y:Str}{t u:Tok}{Q:Value->Shared->Prop}
theorem O0 (hz:x.length+2<=sizeLine):(PySem.Txt.split x y).length<=sizeLine:=by
 have:=StrLaws.occ_length_le x y 0 x.length (x.length+1);unfold PySem.Txt.split
 split
 ·show 1<=sizeLine;decide
 ·split
  ·show 1<=sizeLine;decide
  ·rw[length_partsBetween];omega
theorem OQ (hy:(y.length == 0)=false) (hz:x.length+2<=sizeLine)
  (h:∀(l:List (Str×Tok)) (k:Nat),l.map (·.1)=PySem.Txt.split x y->Q (.ref s.heap.objs.size) { s with heap:=s.heap.push { cls:=.type "list",data:=.seq (strValues l).toArray },toks:=k }) :
  wpAny (model prog w) A (call (.builtin "str.split") [.str x t,.str y u]) Q E s:=by
 have go:∀{S:PySem.Spec},Meets (Builtin.«str.split» ⟨[.str x t,.str y u],[]⟩) S->S A (wants Q E) s->wpAny (model prog w) A (call (.builtin "str.split") [.str x t,.str y u]) Q E s:=
  λg z=>fe F.slot_str_split (gr _ _ _) F.entry_str_split (F.args_str_split_2 _ _) g z
 by_cases c1:(decide (x.length<y.length)||decide (strKind x<strKind y))=true
 ·exact go (meets_str_split_cannot_occur x y t u c1) (h [(x,t)] s.toks (by unfold PySem.Txt.split;rw[aI c1];rfl))
 have c1':=cD.mpr c1
 by_cases c2:(occurrences x y 0 x.length (x.length+1)).isEmpty=true
 ·exact go (meets_str_split_not_found x y t u c1' hy c2) (h [(x,t)] s.toks (by unfold PySem.Txt.split;rw[aH c1,aI c2];rfl))
 have few:(partsBetween x (occurrences x y 0 x.length (x.length+1)) y.length).length<=sizeLine:=by
  have:=StrLaws.occ_length_le x y 0 x.length (x.length+1);rw[length_partsBetween];omega
 refine go (meets_str_split_sep x y t u c1' hy (cD.mpr c2) (by omega) few) ?_;have z:=h (numbered s.toks (partsBetween x (occurrences x y 0 x.length (x.length+1)) y.length)) (s.toks+(partsBetween x (occurrences x y 0 x.length (x.length+1)) y.length).length) (by unfold PySem.Txt.split;rw[aH c1,aH c2];exact numbered_texts _ _);rw[<-strsFrom_eq] at z;exact z
end
section
variable {X:Cx}
def Uw:V->List V->Hp->VK->Prop:=λx vs H Q=>∃z y,x=.str z/\vs=[.str y]/\(y.length == 0)=false/\z.length+2<=16777216/\∀p,H p=none->Q (.ref p) (upd H p (.lst ((PySem.Txt.split z y).map V.str)))
theorem Kp:∀(l:List (Str×Tok)),AJ ((l.map (·.1)).map V.str) (strValues l)
 |[]=>.nil
 |(z,t)::l=>.cons ⟨t,rfl⟩ (Kp l)
theorem PJ:Tw X "str.split" Uw:=by
 intro pins s σ H x vs v us Q I rx rv h;obtain⟨z,y,rfl,rfl,hy,hz,q⟩:=h;obtain⟨tk,rfl⟩:=rx;obtain⟨y',rfl,ry⟩:=rv.one;obtain⟨tk2,rfl⟩:=ry;refine OQ hy (by rw[bB];exact hz) λl k e=>?_
 refine⟨.ref s.heap.objs.size,_,I.laid (λb o e=>af _ e) (ak _) (show A5 X.prog X.w _ _ _ (.lst ((PySem.Txt.split z y).map V.str)) from⟨?_,strValues l,0,?_,aJ _ rfl⟩),rfl,q _ I.fresh⟩
 ·rw[aa];exact O0 (by rw[bB];exact hz)
 ·rw[<-e];exact Kp l
end
end L2
namespace L2
open PySem PySem.Spec PyProof.Rows
end L2
namespace L2
section
open PySem PySem.Spec PyProof.Rows
structure HeldS (X:Cx) (e:Addr) (oe:Obj):Prop where
 hd:X.A.handled=some (.ref e)
 at_:X.s₀.heap.get? e=some oe
 free:X.H₀ e=none
 nfs:e∉X.fs
 nex:e∉X.ex
 fl:Jy oe
structure NowH (h:Heap) (e:Addr) (oe:Obj):Prop where
 at_:h.get? e=some oe
 fl:Jy oe
theorem HeldS.now {X:Cx}{e:Addr}{oe:Obj}(h:HeldS X e oe){pins:List (Addr×Obj)}{σ:St}{H:Hp}{s:Shared}(I:Inv X pins σ H s):NowH s.heap e oe:=⟨I.base.keep e oe h.at_ h.free h.nfs h.nex,h.fl⟩
end
section
open PySem PySem.Spec PyProof.Rows
structure RoomH (k:Nat) (A:Around):Prop where
 dp:A.depth+3*k+5<recursionLimit
 un:A.units+16*k+200<cLine
structure FnOkH (P:Program) (w:World) (K:PySem.W.Frag) (mg:Str->Option Value) (base:Heap) (k:Nat) (f:Addr) (fd:FuncData) (ps:List Str) (sp:Sp):Prop where
 len:∀vs H Q E,sp vs H Q E->vs.length=ps.length
 run:∀(A:Around) (outer:List Env) (s:Shared) (H:Hp) (args:Args) (us:List Value) (vs:List V) (Q:VK) (E:XK) (eh:Addr) (oh:Obj),RoomH k A->Env0 P w K mg base A outer s H->A.handled=some (.ref eh)->s.heap.get? eh=some oh->H eh=none->eh∉Gw outer->Jy oh->BindsTo s fd args (ps.zip us)->AJ vs us->sp vs H Q E->
  codeAny (model P w) A (.call (.ref f) args) (CR CU outer P w H s Q E) s
def Vz (P:Program)(w:World)(K:PySem.W.Frag)(mg:Str->Option Value)(base:Heap)(k:Nat)(x:Str)(ps:List Str)(sp:Sp):Prop:=
 ∃(f:Addr) (fd:FuncData),FnOk P w K mg base CU k f fd ps sp/\FnOkH P w K mg base k f fd ps sp/\mg x=some (.ref f)/\PySem.W.keepIn K (.ref f)=true/\Binds K fd ps []
theorem Vz.def {P:Program}{w:World}{K:PySem.W.Frag}{mg:Str->Option Value}{base:Heap}{k:Nat}{x:Str}{ps:List Str}{sp:Sp}(D:Vz P w K mg base k x ps sp):Def P w K mg base k x ps sp:=by
 obtain⟨f,fd,F,_,r⟩:=D;exact⟨f,fd,F,r⟩
variable {X:Cx}{k:Nat}{x:Str}{ps:List Str}{sp:Sp}{e:Expr}{es:List Expr}{t:TA}{p pos:Pos}
end
end L2
namespace L2
section
open PySem PySem.Calls PyProof.Rows
variable {prog:Program}{w:World}{A:Around}{E:Value->Shared->Prop}{s:Shared}
def N6 (Q:Value->Shared->Prop)(vs:List Value)(s1:Shared):Prop:=∃ss,StrsAre vs ss/\vs.length<64/\
 ∀h' p (out:List Value) ss' c,StrsAre out ss'->ss'.Perm ss->sortedS ss'=true->s1.heap.objs.size<=p->(∀b o,s1.heap.get? b=some o->h'.get? b=some o)->
  h'.get? p=some (seqObj "list" out.toArray c)->Q (.ref p) { s1 with heap:=h' }
theorem Kf {x:Value}{Q:Value->Shared->Prop}(hc:wpAny (model prog w) A.in1 (collect x) (N6 Q) E s):wpAny (model prog w) A (call (.builtin "sorted") [x]) Q E s:=by
 refine gF kind_sorted plain_sorted entry_sorted (args_sorted1 x) ?_;unfold Builtin.«sorted»;refine ae (m:=checkCount "sorted" 1 1 _) (ao (ae (bo hc (λvs s1 z=>?_) λ_ _ e=>e)));obtain⟨ss,hS,few,q⟩:=z;refine ae (gH ?_);have there:(s1.heap.push (seqObj "list" vs.toArray 0)).get? s1.heap.objs.size=some (seqObj "list" vs.toArray 0):=aJ _ rfl;refine ae (bu (eF slot_list_sort ⟨_,there,rfl⟩ entry_list_sort (list_sort_treeK strKind_oneLt there hS.keysOf (λv₁ v₂ rest e=>keyKind_strs (by rw[<-e];exact hS)) few λst' pm so=>⟨_,rfl,?_⟩) (args_list_sort _)));obtain⟨ss',y1,y2,y3⟩:=sorted_out_str hS pm so;obtain⟨c,hp⟩:=sortedHeap_at (out:=(arrOf st').map (·.2)) there;refine ao ⟨_,rfl,q _ _ ((arrOf st').map (·.2)).toList ss' c y1 y2 y3 (ak _) (λb o e=>?_) (by rw[Array.toArray_toList];exact hp)⟩;have lt:=aG e;show Heap.get? _ b=some o;rw[sortedHeap_old (aS lt) (by rw[bL];exact cn lt)];exact af _ e
def TK (S:Addr)(Q:List Value->Shared->Prop)(r:Result)(s':Shared):Prop:=∃acc c,r=.ok (.ret (.ref S))/\s'.heap.get? S=some { cls:=.type "list",dict:=none,data:=.seq acc c,slots:=#[] }/\Q acc.toList s'
theorem MA {x:Value} {Q:List Value->Shared->Prop} (h:wpAny (model prog w) A.in1 (Builtin.List.listExtendWith (.ref s.heap.objs.size) x (.ref s.heap.objs.size))
   (λfin s'=>match fin with | .done f=>TK s.heap.objs.size Q (.ok f) s' | .again c'=>c'.quiet=true/\codeAny (model prog w) A c' (TK s.heap.objs.size Q) s') (λe s'=>TK s.heap.objs.size Q (.error e) s')
   { s with heap:=s.heap.push { cls:=.type "list",data:=.seq #[] } }):wpAny (model prog w) A (collect x) Q E s:=by
 unfold collect;refine ae (wpAny_runValue (cF PySem.F.entry_proto_collect ?_));rw[cx PySem.F.plain_proto_collect _];refine ae (bR (ao ⟨cS fQ _,cF PySem.F.entry_list_iadd ?_⟩));rw[cx fQ _];refine bo h (λfin s' z=>?_) (λe s' z=>?_)
 ·cases fin with
  |done f=>
   obtain⟨acc,c,e,hS,q⟩:=z;cases e;exact ae (gq hS (ao q))
  |again c'=>
   refine⟨z.1,dw z.2 λr s2 z2=>?_⟩;obtain⟨acc,c,rfl,hS,q⟩:=z2;exact ae (gq hS (ao q))
 ·obtain⟨acc,c,e,_⟩:=z;cases e
theorem LW {T:String} {r d:Addr} {n:Nat} {P:Nat->Value->Prop} {OK:Heap->Prop} {Q:List Value->Shared->Prop} (S:PySem.W.KdlSrc prog w T r d n P OK) (hh:A.handled=none) (ok:OK s.heap) (hn:n<=sizeLine)
  (q:∀h' tk (vs:List Value),(∀b o,s.heap.get? b=some o->h'.get? b=some o)->vs.length=n->(∀j v,vs[j]?=some v->P j v)->Q vs { s with heap:=h',toks:=tk }):wpAny (model prog w) A (collect (.ref r)) Q E s:=by
 obtain⟨lr,ld⟩:=S.there _ ok;refine MA (PySem.W.kdl_extend S hh (S.keep _ _ ok λb _ o e=>af _ e) s.heap.objs.size (cV lr) (cV ld) (.ref s.heap.objs.size) 0 (aJ _ rfl) (λh' tk acc c k hS it=>?_) hn);refine⟨acc,c,rfl,hS,q h' tk acc.toList (λb o e=>k b o (aS (aG e)) (af _ e)) (by rw[cJ];exact it.1) λj v e=>it.2 j v (by rw[<-cj];exact e)⟩
def SY (h:Heap)(it a:Addr)(first:Value)(i n ep:Nat):Prop:=∃o,h.get? it=some o/\o.cls=.type "set_iterator"/\o.data=.fields #[first,rawInt i,.ref a,rawInt n,rawInt ep]
theorem SY.typeIs {it a:Addr}{f:Value}{i n ep:Nat}(x:SY s.heap it a f i n ep):s.TypeIs (.ref it) "set_iterator":=let⟨o,e,c,_⟩:=x;⟨o,e,c⟩
end
end L2
namespace L2
end L2
namespace L2
end L2
namespace L2
end L2
namespace L2
section
open PySem PySem.Calls PyProof.Rows
variable {X:Cx}{pins:List (Addr×Obj)}{σ:St}{H:Hp}{s:Shared}
theorem Inv.drew {d':Drawn}(I:Inv X pins σ H s):Inv X pins σ H { s with drawn:=d' }:=⟨I.ok,I.os,I.bare,I.base,I.loc,I.cell,I.free,I.freeC,I.pin,I.hok,I.len⟩
theorem G2:∀{ss:List Str} {its:List Value},StrsAre its ss->AJ (ss.map V.str) its
 |_,_,.nil=>.nil
 |_,_,.cons x t h=>.cons ⟨t,rfl⟩ (G2 h)
theorem NO:∀{us:List Value} {ss:List Str},us.length=ss.length->(∀(j:Nat) (v:Value),us[j]?=some v->∃k t,v=.str k t/\ss[j]?=some k)->StrsAre us ss
 |[],[],_,_=>.nil
 |[],_::_,h,_=>nomatch h
 |_::_,[],h,_=>nomatch h
 |u::us,k::ss,h,f=>by
  obtain⟨k',t,rfl,e⟩:=f 0 u rfl;cases e;exact .cons _ t (NO (cU h) λj v e=>f (j+1) v e)
theorem Lm:∀{kvs:List (Key×V)} {vs:List (Key×Value)},KV kvs vs->vs.map (·.1)=kvs.map (·.1)
 |_,_,.nil=>rfl
 |_,_,.cons h t=>by rw[av,av,Lm t,h.1]
def QQ (H:Hp)(ks:List Str)(Q:VK):Prop:=∀ts p,ts.Perm ks->sortedS ts=true->H p=none->Q (.ref p) (upd H p (.lst (ts.map V.str)))
theorem P0 {Q:VK}{ks:List Str}{d':Drawn}{tk:Nat}{h1:Heap}{vs:List Value}{ss:List Str}(I:Inv X pins σ H s)(k:∀b o,s.heap.get? b=some o->h1.get? b=some o)(hs:StrsAre vs ss)(pm:ss.Perm ks)(few:ks.length<64)(q:QQ H ks Q) :
  N6 (EP X pins σ Q) vs { s with heap:=h1,drawn:=d',toks:=tk }:=by
 have I1:Inv X pins σ H { s with heap:=h1,drawn:=d',toks:=tk }:=(I.drew (d':=d')).kept (t':=tk) k;refine⟨ss,hs,by rw[hs.length,pm.length_eq];exact few,λh' p out ss' c ho pe so lp k' e=>⟨.ref p,_,I1.laid (t':=tk) k' lp (?_:A5 X.prog X.w _ h' p (.lst (ss'.map V.str))),rfl,q ss' p (pe.trans pm) so (I1.hok.fresh lp)⟩⟩;refine⟨?_,out,c,G2 ho,e⟩;rw[aa,pe.length_eq,pm.length_eq,bB];omega
def TY:List V->Hp->VK->Prop:=λxs H Q=>∃(d:Addr) (kvs:List (Key×V)) (ss:List Str),xs=[.ref d]/\H d=some (.dK kvs)/\kvs.map (·.1)=ss.map .inr/\ss.length<64/\QQ H ss Q
theorem NF (hc:X.calm=true):C7 X (.builtin "sorted") TY:=by
 intro pins s σ H xs us Q I r h;obtain⟨d,kvs,ss,rfl,h1,hk,few,q⟩:=h;obtain⟨u,rfl,ru⟩:=vals1 r;cases ru;obtain⟨_,lo,vs,rv,o,es,ep,ho,h2,h3,h4⟩:A5 X.prog X.w H s.heap d (.dK kvs):=I.hok d _ h1;have D:s.heap.DictAt (Bo X.prog X.w) d vs ep:=⟨o,es,ho,h2,h3,h4⟩
 have ln:vs.length=ss.length:=by
  have:=congrArg List.length hk;rw[aa,aa] at this;rw[<-this];exact rv.length.symm
 refine Kf (LW (PySem.W.kdl_dict (knd:=Bo X.prog X.w) (kvs:=vs) (ep:=ep) lo) (by simpa using I.ok.hd hc) D (by rw[ln,bB];omega) λh' tk us k lu it=>?_);have hs:StrsAre us ss:=by
  refine NO (by rw[lu,ln]) λj v e=>?_
  obtain⟨ky,x,e1,e2⟩:=it j v e;have e3:(kvs.map (·.1))[j]?=some ky:=by rw[<-Lm rv,aw,e1];rfl
  rw[hk,aw] at e3;cases z:ss[j]? with
  |none=>rw[z] at e3;cases e3
  |some y=>
   rw[z] at e3;injection e3 with e3
   subst e3;obtain⟨t,rfl⟩:=JA e2;exact⟨_,t,rfl,rfl⟩
 exact P0 (d':=s.drawn) I k hs (List.Perm.refl _) few q
end
end L2
namespace L2
open PySem
end L2
namespace L2
open PySem PySem.Spec PyProof.Rows
section
variable {X:Cx}
theorem QH (hu:X.A.units+1<cLine):Gq X (compareOp .NotEq) (UZ X.K true):=by
 intro pins s σ H x y v u Q I rx ry h;obtain⟨a,b,xs,rfl,rfl,h1,h2,q⟩:=h;cases rx;cases ry;obtain⟨its,r1,p1,_⟩:=I.list h1;obtain⟨its2,r2,p2,_⟩:=I.list h2;cases r2;cases r1 with
 |nil=>
  exact SeqAt.RcNeAt.lists (A:=X.A) (s:=s) (e:=λ_=>true) p1.isList p2.isList rfl (by omega) (λj g1 g2=>absurd g1 (by simp)) _ _ _ _ ⟨.bl _,H,I,rfl,q⟩
 |cons r rr=>
  exact SeqAt.RcNeAt.lists_lengths p1.isList p2.isList (by simp) (by omega) _ _ _ _ ⟨.bl _,H,I,rfl,q⟩
end
theorem G9:∀{ns:List Int} {its:List Value},IntsAre its ns->AJ (ns.map V.int) its
 |[],_,.nil=>.nil
 |_::_,_,.cons n t h=>.cons ⟨_,rfl⟩ (G9 h)
def Tp (K:PySem.W.Frag):List V->Hp->VK->Prop:=λxs H Q=>∃(a:Addr) (ns:List Int),xs=[.ref a]/\AB K H a (ns.map V.int)/\ns.length<64/\∀(ms:List Int) (p:Addr),ms.Perm ns->ms.Pairwise (·<=·)->H p=none->Q (.ref p) (upd H p (.lst (ms.map V.int)))
theorem M5 {X:Cx}{K:PySem.W.Frag}(hK:X.K=K):C7 X (.builtin "sorted") (Tp K):=by
 subst hK;intro pins s σ H xs us Q I r h;obtain⟨a,ns,rfl,h1,few,q⟩:=h;obtain⟨u,rfl,ru⟩:=vals1 r;cases ru;obtain⟨its,r1,p1,_⟩:=I.list h1;have hs:=intsAre_of r1;have hl:=IntsAre.length hs;refine sorted_ints p1.isList hs (by omega) λout ns' a1 a2 a3=>?_
 obtain⟨e,he⟩:=sortedAll_at s.heap its out;have lp:s.heap.objs.size<=s.heap.objs.size+1:=eI _;refine⟨.ref (s.heap.objs.size+1),_,I.laid (t':=s.toks) (o:=.lst (ns'.map V.int)) (λb o y=>sortedAll_old y) lp ?_,rfl,q ns' _ a2 a3 (I.hok.fresh lp)⟩;refine⟨?_,out.toList,e,G9 a1,he⟩;rw[aa,a2.length_eq,bB];omega
end L2
namespace L2
end L2
namespace L2
end L2
namespace L2
section
open PySem PySem.Calls PyProof.Rows
variable {prog:Program}{w:World}{A:Around}{E:Value->Shared->Prop}{I S:Addr}{fp wr:List Addr}{n:Nat}{P:Nat->Value->Prop}{St:Nat->Heap->Prop}{bt:Nat->Nat->Bool}{d:Value}{R:Result->Shared->Prop}
def UA (P:Nat->Value->Prop)(bt:Nat->Nat->Bool)(i:Nat)(arr:List Value):Prop:=(arr=[]/\i=0)\/∃v,arr=[v,v]/\0<i/\P (argBest bt (i-1)) v
theorem O1 (W:Walks prog w A.in1 I fp wr n P St)(hcmp:CmpOf prog w A.in1 .Gt P bt)(hSf:S∉fp):∀(k i:Nat) (s:Shared) (arr:List Value) (c:Nat),i+k=n->St i s.heap->s.heap.get? S=some { cls:=.type "list",dict:=none,data:=.seq arr.toArray c,slots:=#[] }->UA P bt i arr->
  (∀r h' tk,(n=0/\r=d\/0<n/\P (argBest bt (n-1)) r)->(∀b o,b∉wr->b≠S->s.heap.get? b=some o->h'.get? b=some o)->R (.ok (.ret r)) { s with heap:=h',toks:=tk })->
  codeAny (model prog w) A (.builtin "max.loop" ⟨[.ref I,.none,.ref S],[("default",d)]⟩) R s:=by
 have hSw:S∉wr:=λh=>hSf (W.sub _ h)
 intro k
 induction k with
 |zero=>
  intro i s arr c hk hst hS hb hR;cases(show i=n by omega);refine cF fW ?_;rw[cx bX _];refine ae (m:=seqItems? (.ref S)) (wpAny_seqItems hS rfl (ae (eW (W.done s _ _ hst λh' tk k'=>?_))));rcases hb with⟨rfl,i0⟩|⟨v,rfl,i0,hv⟩
  ·exact ae (wpAny_rule (ao (hR d h' tk (.inl ⟨i0,rfl⟩) λb o hb _ e=>k' b o hb e)))
  ·exact ae (wpAny_updateSeq (k' S _ hSw hS) rfl (ae (fN (ao (hR v _ tk (.inr ⟨i0,hv⟩) λb o hb hS e=>(bC _ _ (Ne.symm hS)).trans (k' b o hb e))))))
 |succ k ih=>
  intro i s arr c hk hst hS hb hR;refine cF fW ?_;rw[cx bX _];refine ae (m:=seqItems? (.ref S)) (wpAny_seqItems hS rfl (ae (eW (W.item i s _ _ (by omega) hst λx h' tk hP st' k'=>?_))));have hS':=k' S _ hSw hS;have nm:(toString "max"++toString ".loop":String)="max.loop":=by decide
  have la:arr.toArray.size<=sizeLine:=by
   rw[bB];rcases hb with⟨rfl,_⟩|⟨v,rfl,_⟩
   ·exact bg _
   ·show 2<=_;omega
  have put:∀(tk':Nat),P (argBest bt i) x->wpAny (model prog w) A.in1 (updateSeq S (λ_=>#[x,x])) (λ_ s'=>codeAny (model prog w) A (.builtin "max.loop" ⟨[.ref I,.none,.ref S],[("default",d)]⟩) R s') (λe s'=>R (.error e) s') { s with heap:=h',toks:=tk' }:=λtk' hx=>by
   refine wpAny_updateSeq (hz:=la) (s:={ s with heap:=h',toks:=tk' }) hS' rfl (ih (i+1) _ [x,x] _ (by omega) (W.frame _ _ _ st' λb hb o e=>?_) (eV _ hS' rfl) (.inr ⟨x,rfl,Nat.succ_pos _,hx⟩) λr h2 tk2 hr k2=>?_)
   ·exact(bC _ _ (λz:S=b=>hSf (by rw[z];exact hb))).trans e
   ·exact hR r h2 tk2 hr λb o hb hbS e=>k2 b o hb hbS ((bC _ _ (Ne.symm hbS)).trans (k' b o hb e))
  rcases hb with⟨rfl,i0⟩|⟨v,rfl,i0,hv⟩
  ·subst i0;refine ae (ao (ae (bo (put tk hP) (λ_ s' q=>?_) λ_ _ q=>q)));rw[nm];exact ao ⟨cS bX _,q⟩
  ·refine ae (ao (ae (eW (bu (ae (hcmp i (argBest bt (i-1)) x v _ _ _ hP hv (ae (bu (bZ (ae (fN (ao ?_))))))))))));have ea:argBest bt i=if bt i (argBest bt (i-1)) then i else argBest bt (i-1):=by
    obtain⟨j,rfl⟩:∃j,i=j+1:=⟨i-1,by omega⟩
    rfl
   cases q:bt i (argBest bt (i-1)) with
   |true=>
    rw[q,aI rfl] at ea;rw[aI rfl];refine ae (bo (put tk (by rw[ea];exact hP)) (λ_ s' z=>ae (fN ?_)) λ_ _ z=>z);rw[nm];exact ao ⟨cS bX _,z⟩
   |false=>
    rw[q,aH aA] at ea;rw[aH aA];refine ae (fN ?_);rw[nm];refine ao ⟨cS bX _,ih (i+1) _ [v,v] _ (by omega) st' hS' (.inr ⟨v,rfl,Nat.succ_pos _,?_⟩) λr h2 tk2 hr k2=>hR r h2 tk2 hr λb o hb hbS e=>k2 b o hb hbS (k' b o hb e)⟩;show P (argBest bt i) v;rw[ea];exact hv
theorem Rt (l:Addr)(d:Value):checkBuiltinCall "max" ⟨[.ref l],[("default",d)]⟩=pure ():=by kernel_rfl
theorem OT {l:Addr} {items:Array Value} {Q:Value->Shared->Prop} {s:Shared} (hh:A.handled=none) (hl:s.heap.IsList l items) (val:Nat->Int) (hval:∀i v,items[i]?=some v->∃t,v=Value.int (val i) t)
  (q:∀r h' tk,(items.size=0/\r=d\/0<items.size/\items[argBest (λi j=>decide (val j<val i)) (items.size-1)]?=some r)->(∀b o,s.heap.get? b=some o->h'.get? b=some o)->Q r { s with heap:=h',toks:=tk }):wpAny (model prog w) A (call (.builtin "max") [.ref l] [("default",d)]) Q E s:=by
 refine cZ (cK PySem.F.plain_max PySem.F.entry_max ?_);rw[Rt];refine ao ?_;have nm:(toString "max"++toString ".loop":String)="max.loop":=by decide
 change wpAny _ A.in1 (Builtin.Builtins.bindParams "max" ["key","default"] 0 ⟨[],[("default",d)]⟩ >>= _) _ _ s
 refine ae (wpAny_of_eq (show Builtin.Builtins.bindParams "max" ["key","default"] 0 ⟨[],[("default",d)]⟩=pure [none,some d] from rfl) (ae (ao (ae (du hl ?_)))));refine ae (bR ?_);rw[nm];have ll:l<s.heap.objs.size:=let⟨_,ho,_⟩:=hl;aG ho;have sz:(s.heap.push { cls:=.type "list_iterator",data:=.fields #[.ref l,.int 0 0] }).objs.size=s.heap.objs.size+1:=bL ..;refine ao ⟨cS bX _,O1 (P:=λi v=>items[i]?=some v) (gu (A:=A.in1) (show A.in1.handled=none from hh) s.heap.objs.size l (aS ll) items) (CmpOf.ints_gt val hval) (S:=(s.heap.push { cls:=.type "list_iterator",data:=.fields #[.ref l,.int 0 0] }).objs.size) ?_ items.size 0 _ [] 0 (fX _) ?_ ?_ (.inl ⟨rfl,rfl⟩) λr h' tk hr k=>?_⟩
 ·rw[sz];intro z;rcases aD.mp z with z|z
  ·exact Nat.succ_ne_self _ z
  ·exact cV (cn ll) (ai.mp z)
 ·refine⟨⟨_,af _ (aJ _ rfl),rfl,rfl⟩,hl.at λo e=>af _ (af _ e)⟩
 ·exact aJ _ rfl
 ·refine q r h' tk hr λb o e=>k b o ?_ ?_ (af _ (af _ e))
  ·exact λz=>aS (aG e) (ai.mp z)
  ·rw[sz];exact aS (cn (aG e))
theorem QK {M:Model} {A:Around} {E:Value->Shared->Prop} {s:Shared} {pos:Pos} {id:String} {args:List (Bool×Sem Value)} {kws:List (Option Str×Sem Value)} {Q:Value->Shared->Prop} (hp:args.any (·.1)=false) (hk:kws.any (·.1.isNone)=false)
  (h:wpAny M A (evalArgs (.builtin id) true args kws) (λz sz=>wpAny M A (call (.builtin id) z.pos z.kw) Q E sz) E s):wpAny M A (callWith pos (.builtin id) [] args kws) Q E s:=by
 unfold callWith;refine ae (bu (bo h (λz sz hz=>ae (cR ?_)) λ_ _ y=>y));simp only[hp,hk,Bool.or_false];refine ae (ao (ae (bo hz (λv sv hv=>ae (bu (wpAny_point (ao hv)))) λ_ _ y=>y)))
end
section
open PySem PySem.Spec PyProof.Rows PySem.Calls
variable {X:Cx}
def Mo:List Int->Int
 |[]=>0
 |x::l=>l.foldl (λa b=>if a<b then b else a) x
theorem Pn {l:List Int}(h:l≠[])(x:Int):Mo (l++[x])=if Mo l<x then x else Mo l:=by
 cases l with
 |nil=>exact absurd rfl h
 |cons y l=>
  show(l++[x]).foldl (λa b=>if a<b then b else a) y=_;rw[List.foldl_append];rfl
theorem KI (ns:List Int):∀k,k<ns.length->argBest (λi j=>decide (ns.getD j 0<ns.getD i 0)) k<ns.length/\Mo (ns.take (k+1))=ns.getD (argBest (λi j=>decide (ns.getD j 0<ns.getD i 0)) k) 0
 |0,h=>by
  cases ns with
  |nil=>exact absurd h (Nat.not_lt_zero _)
  |cons x l=>exact⟨h,rfl⟩
 |k+1,h=>by
  obtain⟨h1,h2⟩:=KI ns k (by omega);have e:ns.take (k+1+1)=ns.take (k+1)++[ns.getD (k+1) 0]:=by
   rw[aX,bw,ah h];rfl
  have ne:ns.take (k+1)≠[]:=λz=>by
   have:=congrArg List.length z;rw[aQ,eB] at this;omega
  rw[e,Pn ne,h2];show(if decide (_<_)=true then k+1 else _)<_/\_=ns.getD (if decide (_<_)=true then k+1 else _) 0
  by_cases q:ns.getD (argBest (λi j=>decide (ns.getD j 0<ns.getD i 0)) k) 0<ns.getD (k+1) 0
  ·rw[aI q,aI (aR q)];exact⟨h,rfl⟩
  ·rw[aH q,aH (by rw[aO q];exact aA)];exact⟨h1,rfl⟩
theorem Ga:∀{its:List Value} {ns:List Int},IntsAre its ns->∀{i:Nat} {v:Value},its[i]?=some v->∃t,v=Value.int (ns.getD i 0) t
 |_,_,.nil,i,v,h=>by simp at h
 |_,_,.cons n t r,0,v,h=>by simp at h;exact⟨t,h.symm⟩
 |_,_,.cons n t r,i+1,v,h=>Ga r (by simpa using h)
end
end L2
namespace L2
section
open PySem PySem.Calls PyProof.Rows
variable {prog:Program}{w:World}{A:Around}{E:Value->Shared->Prop}{s:Shared}
theorem Md:entryFor table "dict.update.loop"=some Builtin.«dict.update.loop»:=entryFor_of_tree (by kernel_rfl)
theorem G5:plainId "dict.update.loop"=true:=by decide +kernel
theorem OV:typeLookup (.type "list") "keys"=pure none:=by rw[typeLookup_type,builtinLookup_eq_fast];kernel_rfl
theorem K2 {a:Addr} {xs:Array Value} {k:Nat} {sl:Array (Option Value)} {Q:Option Value->Shared->Prop} (hx:s.heap.get? a=some { cls:=.type "list",dict:=none,data:=.seq xs k,slots:=sl }) (hA:A.handled=none)
  (h:∀h' tk,(∀b o,s.heap.get? b=some o->h'.get? b=some o)->Q none { s with heap:=h',toks:=tk }):wpAny (model prog w) A (getAttr? (.ref a) "keys") Q E s:=by
 obtain⟨hp,g,d,tk,os⟩:=s;have hT:∀tk',(⟨hp,g,d,tk',os⟩:Shared).TypeIs (.ref a) "list":=λ_=>⟨_,hx,rfl⟩
 have f1:=sub_AttributeError;have f3:=F.slot_list_getattribute.lookup;have f4:=F.slot_list_getattribute.bind (.ref a);have f5:=am_list_getattr_none;unfold getAttr? getAttrBy? getAttrBy
 repeat (any_goals (first|assumption|exact hT _|((with_reducible show wpAny _ _ (call (Value.builtin "list.__getattribute__") _ _) _ _ _);refine fe F.slot_list_getattribute (hT _) am_entry_list_getattribute (F.args_list_getattribute_2 _ _) (meets_getattribute_miss_list a xs k sl "keys" _ OV (by decide +kernel) (by decide +kernel)) ⟨hx,hA,λh' tk' e hx'=>?_⟩)|wp_step))
 obtain⟨t',u',he⟩:=hx'.there;show wpAny _ _ (getattributeRaised _ _ _ _ _ _ _) _ _ _;unfold getattributeRaised
 repeat (any_goals (first|assumption|wp_step))
 exact h _ _ λb o e=>hx'.keeps b o e
theorem pair_items {t:Addr}{k v:Value}{Q:List Value->Shared->Prop}(ht:IsTup s.heap t #[k,v])(h:Q [k,v] s):wpAny (model prog w) A (Builtin.Dict.pairItems (.ref t)) Q E s:=by
 obtain⟨o,ho,hc,n,hd⟩:=ht;have hT:s.TypeIs (.ref t) "tuple":=⟨o,ho,hc⟩
 unfold Builtin.Dict.pairItems;refine ae (fu hT ?_);rw[aI (by decide)];refine ae (m:=seqItems? (.ref t)) ?_;unfold seqItems?;refine ae (gq ho ?_);rw[hd];exact ao (ao h)
theorem OS {R:Result->Shared->Prop} {I d:Addr} {fp:List Addr} {vs:List Value} {St:Nat->Heap->Prop} {D:Nat->Heap->Prop} {h0:Heap} (W:Walks prog w A.in1 I fp [I] vs.length (λi v=>vs[i]?=some v) St) (nd:d∉fp)
  (hI:h0.get? I=none) (hd0:h0.get? d=none) (keep:∀i h h',D i h->(∀o,h.get? d=some o->h'.get? d=some o)->D i h')
  (pr:∀i v,vs[i]?=some v->∃t x y,v=.ref t/\IsTup h0 t #[x,y]/\∀(s:Shared) (Q:Unit->Shared->Prop) (E:Value->Shared->Prop),(∀b o,h0.get? b=some o->s.heap.get? b=some o)->D i s.heap->(∀h' tk,D (i+1) h'->Heap.SameBut d s.heap h'->Q () { s with heap:=h',toks:=tk })->wpAny (model prog w) A.in1 (dictSet d x y) Q E s) :
  ∀(k i:Nat) (s:Shared),vs.length-i=k->i<=vs.length->(∀b o,h0.get? b=some o->s.heap.get? b=some o)->St i s.heap->D i s.heap->
   (∀h' tk,(∀b o,b∉[d,I]->s.heap.get? b=some o->h'.get? b=some o)->D vs.length h'->R (.ok (.ret .none)) { s with heap:=h',toks:=tk })->codeAny (model prog w) A (.builtin "dict.update.loop" ⟨[.ref d,.ref I,rawInt i,.none],[]⟩) R s:=by
 have nI:d∉[I]:=λz=>nd (W.sub _ z)
 intro k
 induction k with
 |zero=>
  intro i s hk hi old st T q;have e:i=vs.length:=by omega
  subst e;refine cF Md ?_;rw[cx G5 _];refine ae (m:=pyNext (.ref I)) (W.done s _ _ st λh' tk k'=>?_);refine ae (m:=Builtin.Dict.addKeywords d []) (ao (ao ?_));exact q h' tk (λb o n e=>k' b o (λz=>n (az _ z)) e) (keep _ _ _ T λo e=>k' d o nI e)
 |succ k ih=>
  intro i s hk hi old st T q;have lt:i<vs.length:=by omega
  refine cF Md ?_;rw[cx G5 _];refine ae (m:=pyNext (.ref I)) (W.item i s _ _ lt st λv h' tk hv st' k'=>?_);obtain⟨t,x,y,rfl,ht,step⟩:=pr i v hv;have old':∀b o,h0.get? b=some o->h'.get? b=some o:=λb o e=>k' b o (λz=>by rw[ai.mp z,hI] at e;cases e) (old b o e)
  refine ae (bu (ae (eW (pair_items (s:={ s with heap:=h',toks:=tk }) (ht.keeps old') ?_))));refine bu (step _ _ _ old' (keep _ _ _ T λo e=>k' d o nI e) λh2 tk2 T2 sb=>?_);refine ao ⟨cS G5 _,ih (i+1) _ (by omega) lt (λb o e=>?_) (W.frame _ _ _ st' λb hb o e=>?_) T2 λh3 tk3 k3 T3=>?_⟩
  ·rw[sb.2 b (λz=>by rw[z,hd0] at e;cases e)];exact old' b o e
  ·rw[sb.2 b (λz=>nd (z▸hb))];exact e
  ·refine q h3 tk3 (λb o n e=>k3 b o n ?_) T3;rw[sb.2 b (λz=>n (by simp[z]))];exact k' b o (λz=>n (az _ z)) e
theorem OH {l:Addr} {vs:List Value} {D:Nat->Heap->Prop} {Q:Value->Shared->Prop} (hh:A.handled=none) (hl:∃n sl,s.heap.get? l=some { cls:=.type "list",dict:=none,data:=.seq vs.toArray n,slots:=sl })
  (keep:∀i h h',D i h->(∀o,h.get? s.heap.objs.size=some o->h'.get? s.heap.objs.size=some o)->D i h')
  (d0:∀h:Heap,h.get? s.heap.objs.size=some { cls:=.type "dict",data:=.dict #[] }->D 0 h)
  (pr:∀i v,vs[i]?=some v->∃t x y,v=.ref t/\IsTup s.heap t #[x,y]/\∀(s1:Shared) (Q:Unit->Shared->Prop) (E:Value->Shared->Prop),(∀b o,s.heap.get? b=some o->s1.heap.get? b=some o)->D i s1.heap->(∀h' tk,D (i+1) h'->Heap.SameBut s.heap.objs.size s1.heap h'->Q () { s1 with heap:=h',toks:=tk })->wpAny (model prog w) A.in1.in1 (dictSet s.heap.objs.size x y) Q E s1)
  (q:∀h' tk,(∀b o,s.heap.get? b=some o->h'.get? b=some o)->D vs.length h'->Q (.ref s.heap.objs.size) { s with heap:=h',toks:=tk }):wpAny (model prog w) A (call (.type "dict") [.ref l]) Q E s:=by
 obtain⟨n,sl,el⟩:=hl;have lt:l<s.heap.objs.size:=aG el;refine callType_codes (Q₁:=λobj s₁=>obj=.ref s.heap.objs.size/\s₁={ s with heap:=s.heap.push { cls:=.type "dict",data:=.dict #[] } }) PySem.F.kt_called_dict (PySem.F.kt_typeCall_dict_1 _) PySem.F.entry_dict_init (kt_code_dict_new _ ⟨rfl,rfl⟩) ?_
 rintro obj s₁ ⟨rfl,rfl⟩
 have hS:(s.heap.push { cls:=.type "dict",data:=.dict #[] }).get? s.heap.objs.size=some { cls:=.type "dict",data:=.dict #[] }:=aJ _ rfl;have hT:Shared.TypeIs { s with heap:=s.heap.push { cls:=.type "dict",data:=.dict #[] } } (.ref s.heap.objs.size) "dict":=⟨_,hS,rfl⟩
 have el':=af ({ cls:=.type "dict",data:=.dict #[] }:Obj) el;refine⟨hT,PySem.F.args_dict_init_2 _ _,?_⟩;unfold Builtin.«dict.__init__»;refine ae ?_;unfold Builtin.Dict.selfAndRest;refine ae (wpAny_notOrdered_dict hT ?_);show wpAny _ _ (pure (s.heap.objs.size,[Value.ref l])) _ _ _;refine ao ?_;show wpAny _ _ (Builtin.Dict.updateFrom "dict.__init__" s.heap.objs.size (.ref l) [] .none) _ _ _;unfold Builtin.Dict.updateFrom;refine ae (fu (T:="list") ⟨_,el',rfl⟩ ?_);rw[aI (by decide)];refine ae (K2 (s:={ s with heap:=s.heap.push { cls:=.type "dict",data:=.dict #[] } }) el' (by simp[hh]) λh1 tk1 k1=>?_);rw[aI (show(none:Option Value).isNone=true from rfl)];refine ae (wpAny_rule ?_);have el1:=k1 _ _ el';have l1:h1.IsList l vs.toArray:=⟨_,el1,rfl,_,rfl⟩
 refine ae (du (s:={ s with heap:=h1,toks:=tk1 }) l1 ?_);have g1:s.heap.objs.size+1<=h1.objs.size:=aG (k1 _ _ hS);have nI:l≠h1.objs.size:=aS (aW lt (Nat.le_of_succ_le g1));have W:=gu (prog:=prog) (w:=w) (A:=A.in1.in1) (by simp[hh]) h1.objs.size l nI vs.toArray;have W2:Walks prog w A.in1.in1 h1.objs.size [h1.objs.size,l] [h1.objs.size] vs.length (λi v=>vs[i]?=some v) (λi h=>h.IsListIter h1.objs.size l i/\h.IsList l vs.toArray):=by
  simpa only [List.size_toArray,List.getElem?_toArray] using W
 have old1:∀b o,s.heap.get? b=some o->h1.get? b=some o:=λb o e=>k1 b o (af _ e)
 refine ao ⟨cS G5 _,OS (h0:=s.heap) (D:=D) W2 ?_ (cw (by omega)) (cw (ak _)) keep pr vs.length 0 _ (by omega) (bg _) (λb o e=>af _ (old1 b o e)) ⟨⟨_,aJ _ rfl,rfl,rfl⟩,l1.push _⟩ (d0 _ (af _ (k1 _ _ hS))) λh' tk k' T=>⟨rfl,q h' tk (λb o e=>k' b o (λz=>?_) (af _ (old1 b o e))) T⟩⟩
 ·simp only[List.mem_cons,List.not_mem_nil,or_false,not_or];exact⟨aS (by omega),cV lt⟩
 ·have lb:=aG e;simp only[List.mem_cons,List.not_mem_nil,or_false] at z;rcases z with rfl|rfl
  ·exact absurd lb (cp _)
  ·exact absurd lb (Nat.not_lt.mpr (Nat.le_of_succ_le g1))
open PySem.Spec
theorem Ow:∀{ps:List Addr} {its:List Value},AJ (ps.map V.ref) its->∀(i:Nat) v,its[i]?=some v->∃t,ps[i]?=some t/\v=.ref t
 |[],_,.nil,i,v,e=>by simp at e
 |t::ps,_,.cons r h,0,v,e=>⟨t,rfl,by cases r;simpa using e.symm⟩
 |t::ps,_,.cons r h,i+1,v,e=>by
  obtain⟨t',a,b⟩:=Ow h i v (by simpa using e);exact⟨t',by simpa using a,b⟩
theorem JB {α β:Type}{F:α->β->Prop}:∀{l:List α} {m:List β},Paired F l m->∀{y:β},y∈m->∃x,x∈l/\F x y
 |_,_,.nil,_,h=>nomatch h
 |_,_,.cons r t,y,h=>by
  rcases aD.mp h with rfl|h
  ·exact⟨_,ay,r⟩
  ·obtain⟨x,a,b⟩:=JB t h;exact⟨x,az _ a,b⟩
end
end L2
namespace L2
section
open PySem PySem.W PyProof.Rows
variable {n:Nat}{lt:Nat->Nat->Bool}{cmp:Nat->Nat->(Bool->Shared->Prop)->Shared->Prop}{s:Shared}
structure Ordr (n:Nat) (lt:Nat->Nat->Bool) (cmp:Nat->Nat->(Bool->Shared->Prop)->Shared->Prop) (s:Shared):Prop where
 ask:∀(i j:Nat) (C:Bool->Shared->Prop),i<n->j<n->i≠j->C (lt i j) s->cmp i j C s
 tr:∀i j k,i<n->j<n->k<n->lt i j=true->lt j k=true->lt i k=true
 tot:∀i j,i<n->j<n->i≠j->lt i j=false->lt j i=true
def KZ (n:Nat)(p:Array Nat):Prop:=p.size=n/\p.toList.Perm (List.range n)
theorem KZ.lo {p:Array Nat}(h:KZ n p){i:Nat}(hi:i<n):p.getD i 0<n:=by
 have hs:i<p.size:=by rw[h.1];exact hi
 have e:p.getD i 0=p[i]:=by simp[Array.getD,hs]
 rw[e];exact cG.mp (h.2.mem_iff.mp (by simp))
theorem KZ.ne {p:Array Nat}(h:KZ n p){i j:Nat}(hi:i<n)(hj:j<n)(hij:i≠j):p.getD i 0≠p.getD j 0:=by
 have hs:i<p.size:=by rw[h.1];exact hi
 have ht:j<p.size:=by rw[h.1];exact hj
 have nd:p.toList.Nodup:=h.2.nodup_iff.mpr List.nodup_range;have e1:p.getD i 0=p.toList[i]'(by simpa using hs):=by simp[Array.getD,hs]
 have e2:p.getD j 0=p.toList[j]'(by simpa using ht):=by simp[Array.getD,ht]
 rw[e1,e2];intro z;have pw:=bj.mp nd;rcases dE hij with g|g
 ·exact pw i j (by simpa using hs) (by simpa using ht) g z
 ·exact pw j i (by simpa using ht) (by simpa using hs) g z.symm
def IU (lt:Nat->Nat->Bool)(p:Array Nat)(k:Nat):Prop:=∀i j,i<j->j<k->lt (p.getD i 0) (p.getD j 0)=true
def Ti (lt:Nat->Nat->Bool)(p:Array Nat)(k:Nat):Prop:=∀i j,i<j->j<k->lt (p.getD j 0) (p.getD i 0)=true
theorem Nx (O:Ordr n lt cmp s){p:Array Nat}(hp:KZ n p){G:Nat->Shared->Prop}:∀(f m:Nat),1<=m->m+f<=n->IU lt p m->
  (∀m',m<=m'->m'<=m+f->IU lt p m'->(m'=m+f\/lt (p.getD m' 0) (p.getD (m'-1) 0)=true)->G m' s)->(kas_asc p f m).kasWp cmp G s
 |0,m,_,_,up,h=>h m (ak _) (ak _) up (.inl rfl)
 |f+1,m,h1,h2,up,h=>by
  refine O.ask _ _ _ (hp.lo (by omega)) (hp.lo (by omega)) (hp.ne (by omega) (by omega) (by omega)) ?_;cases hl:lt (p.getD m 0) (p.getD (m-1) 0) with
  |true=>exact h m (ak _) (by omega) up (.inr hl)
  |false=>
   have hl':=O.tot _ _ (hp.lo (by omega)) (hp.lo (by omega)) (hp.ne (by omega) (by omega) (by omega)) hl;show(kas_asc p f (m+1)).kasWp cmp G s;refine Nx O hp f (m+1) (by omega) (by omega) (λi j hij hj=>?_) λm' a b c d=>h m' (by omega) (by omega) c (d.imp (by omega) id)
   by_cases e:j=m
   ·subst e
    by_cases e2:i=j-1
    ·rw[e2];exact hl'
    ·exact O.tr _ _ _ (hp.lo (by omega)) (hp.lo (by omega)) (hp.lo (by omega)) (up i (j-1) (by omega) (by omega)) hl'
   ·exact up i j hij (by omega)
theorem NR (O:Ordr n lt cmp s){p:Array Nat}(hp:KZ n p){G:Array Nat×Nat×Nat->Shared->Prop}:∀(f m:Nat),1<=m->m+f<=n->Ti lt p m->
  (∀m',m<=m'->m'<=m+f->Ti lt p m'->G (p,m',0) s)->(kas_desc f p m 0).kasWp cmp G s
 |0,m,_,_,dn,h=>h m (ak _) (ak _) dn
 |f+1,m,h1,h2,dn,h=>by
  refine O.ask _ _ _ (hp.lo (by omega)) (hp.lo (by omega)) (hp.ne (by omega) (by omega) (by omega)) ?_;cases hl:lt (p.getD m 0) (p.getD (m-1) 0) with
  |true=>
   show(kas_desc f p (m+1) 0).kasWp cmp G s;refine NR O hp f (m+1) (by omega) (by omega) (λi j hij hj=>?_) λm' a b c=>h m' (by omega) (by omega) c
   by_cases e:j=m
   ·subst e
    by_cases e2:i=j-1
    ·rw[e2];exact hl
    ·exact O.tr _ _ _ (hp.lo (by omega)) (hp.lo (by omega)) (hp.lo (by omega)) hl (dn i (j-1) (by omega) (by omega))
   ·exact dn i j hij (by omega)
  |false=>
   have hl':=O.tot _ _ (hp.lo (by omega)) (hp.lo (by omega)) (hp.ne (by omega) (by omega) (by omega)) hl;refine O.ask _ _ _ (hp.lo (by omega)) (hp.lo (by omega)) (hp.ne (by omega) (by omega) (by omega)) ?_;rw[hl'];exact h m (ak _) (by omega) dn
theorem Ec (p:Array Nat)(i:Nat):p.getD i 0=(p[i]?).getD 0:=by
 by_cases h:i<p.size
 ·simp[Array.getD,h]
 ·simp[Array.getD,h]
theorem Qb {p:Array Nat}{m:Nat}(hm:m<=p.size)(k:Nat):(kas_rev p 0 m).getD k 0=if k<m then p.getD (m-1-k) 0 else p.getD k 0:=by
 rw[Ec];unfold kas_rev;rw[getElem?_mirror_all hm]
 by_cases h:k<m
 ·rw[aI ⟨bg _,h⟩,aI h,Ec,fX]
 ·rw[aH (λz=>h z.2),aH h,Ec]
theorem RG {p:Array Nat}(hp:KZ n p)(m:Nat):KZ n (kas_rev p 0 m):=⟨(mirror_size ..).trans hp.1,(fE.mp (mirror_perm ..)).trans hp.2⟩
theorem QW (O:Ordr n lt cmp s) {p:Array Nat} (hp:KZ n p) {m:Nat} (h1:1<=m) (hm:m<=n) (dn:Ti lt p m) {G:Nat×Array Nat->Shared->Prop}
  (h:∀m' p',KZ n p'->IU lt p' m'->1<=m'->m'<=n->G (m',p') s):(kas_tail3 m n p).kasWp cmp G s:=by
 unfold kas_tail3;rw[dO];have hr:=RG hp m;refine Nx O hr (n-m) m h1 (by omega) (λi j hij hj=>?_) λm' a b c _=>h m' _ hr c (by omega) (by omega)
 rw[Qb (by rw[hp.1];exact hm),Qb (by rw[hp.1];exact hm),aI (by omega),aI hj];exact dn _ _ (by omega) (by omega)
theorem QZ (O:Ordr n lt cmp s) (hn:1<=n) {p:Array Nat} (hp:KZ n p) {G:Nat×Array Nat->Shared->Prop}
  (h:∀m' p',KZ n p'->IU lt p' m'->1<=m'->m'<=n->G (m',p') s):(kas_count n p).kasWp cmp G s:=by
 unfold kas_count;rw[dO];refine Nx O hp (n-1) 1 (ak _) (by omega) (λi j hij hj=>by omega) λm a b up d=>?_
 by_cases e:m=n
 ·subst e;rw[aI (by simp)];exact h _ _ hp up a (ak _)
 ·rw[aH (by simpa using e)]
  by_cases g:m>1
  ·rw[aI g];refine O.ask _ _ _ (hp.lo (by omega)) (hp.lo (by omega)) (hp.ne (by omega) (by omega) (by omega)) ?_;rw[up 0 (m-1) (by omega) (by omega)];exact h _ _ hp up a (by omega)
  ·rw[aH g];have e1:m=1:=by omega
   subst e1;have hl:=d.resolve_left (by omega);unfold kas_descPart;rw[dO];refine NR O hp (n-(1+1)) (1+1) (by omega) (by omega) (λi j hij hj=>?_) λm' a' b' dn=>?_
   ·obtain⟨rfl,rfl⟩:i=0/\j=1:=by omega
    exact hl
   ·rw[aH (by simp)];exact QW O hp (by omega) (by omega) dn h
theorem Jw (O:Ordr n lt cmp s) {p:Array Nat} (hp:KZ n p) {k:Nat} (hk:k<n) (up:IU lt p k) {G:Nat->Shared->Prop}
  (h:∀l,l<=k->(∀i,i<l->lt (p.getD i 0) (p.getD k 0)=true)->(∀i,l<=i->i<k->lt (p.getD k 0) (p.getD i 0)=true)->G l s) :
  ∀(f l r:Nat),l<=r->r<=k->r-l<=f->(∀i,i<l->lt (p.getD i 0) (p.getD k 0)=true)->(∀i,r<=i->i<k->lt (p.getD k 0) (p.getD i 0)=true)->(kas_place p k f l r).kasWp cmp G s
 |0,l,r,h1,h2,h3,a,b=>h l (by omega) a λi hi=>b i (by omega)
 |f+1,l,r,h1,h2,h3,a,b=>by
  unfold kas_place
  by_cases g:l≥r
  ·rw[aI g];exact h l (by omega) a λi hi=>b i (by omega)
  ·rw[aH g];refine O.ask _ _ _ (hp.lo hk) (hp.lo (by omega)) (hp.ne hk (by omega) (by omega)) ?_;cases hl:lt (p.getD k 0) (p.getD ((l+r)/2) 0) with
   |true=>
    show(kas_place p k f l ((l+r)/2)).kasWp cmp G s;refine Jw O hp hk up h f l ((l+r)/2) (by omega) (by omega) (by omega) a λi hi hik=>?_
    by_cases e:i=(l+r)/2
    ·rw[e];exact hl
    ·exact O.tr _ _ _ (hp.lo hk) (hp.lo (by omega)) (hp.lo (by omega)) hl (up _ _ (by omega) hik)
   |false=>
    have hl':=O.tot _ _ (hp.lo hk) (hp.lo (by omega)) (hp.ne hk (by omega) (by omega)) hl;show(kas_place p k f ((l+r)/2+1) r).kasWp cmp G s;refine Jw O hp hk up h f ((l+r)/2+1) r (by omega) (by omega) (by omega) (λi hi=>?_) b
    by_cases e:i=(l+r)/2
    ·rw[e];exact hl'
    ·exact O.tr _ _ _ (hp.lo (by omega)) (hp.lo (by omega)) (hp.lo hk) (up _ _ (by omega) (by omega)) hl'
theorem Qn {p:Array Nat}{k l:Nat}(hk:k<p.size)(hl:l<=k)(i:Nat):(bubble p k (k-l)).getD i 0=if i=l then p.getD k 0 else if l<i/\i<=k then p.getD (i-1) 0 else p.getD i 0:=by
 rw[Ec,getElem?_bubble hk _ (by omega),show k-(k-l)=l by omega]
 by_cases h:i=l
 ·rw[aI h,aI h,Ec]
 ·rw[aH h,aH h]
  by_cases g:l<i/\i<=k
  ·rw[aI g,aI g,Ec]
  ·rw[aH g,aH g,Ec]
theorem QJ (O:Ordr n lt cmp s){G:Array Nat->Shared->Prop}(h:∀p,KZ n p->IU lt p n->G p s):∀(f:Nat) (p:Array Nat) (k:Nat),k+f=n->KZ n p->IU lt p k->(kas_bin f p k).kasWp cmp G s
 |0,p,k,e,hp,up=>h p hp (by rw[<-e];exact up)
 |f+1,p,k,e,hp,up=>by
  unfold kas_bin;rw[dO];refine Jw O hp (by omega) up (λl hl a b=>?_) k 0 k (bg _) (ak _) (by omega) (λi hi=>by omega) (λi h1 h2=>by omega);have hs:k<p.size:=by rw[hp.1];omega
  refine QJ O h f _ (k+1) (by omega) ⟨(bubble_size ..).trans hp.1,(fE.mp (bubble_perm ..)).trans hp.2⟩ λi j hij hj=>?_
  rw[Qn hs hl,Qn hs hl]
  by_cases i1:i=l
  ·rw[aI i1,aH (by omega),aI (by omega)];exact b _ (by omega) (by omega)
  ·rw[aH i1]
   by_cases j1:j=l
   ·rw[aH (by omega),aI j1];exact a _ (by omega)
   ·rw[aH j1]
    by_cases i2:l<i/\i<=k
    ·rw[aI i2,aI (by omega)];exact up _ _ (by omega) (by omega)
    ·rw[aH i2]
     by_cases j2:l<j/\j<=k
     ·rw[aI j2];exact up _ _ (by omega) (by omega)
     ·rw[aH j2];exact up _ _ (by omega) (by omega)
theorem Ru (O:Ordr n lt cmp s)(hn:1<=n){G:Array Nat->Shared->Prop}(h:∀p,KZ n p->IU lt p n->G p s):(kas_sort n).kasWp cmp G s:=by
 unfold kas_sort;rw[dO];refine QZ O hn ⟨by simp,by simp⟩ λm p hp up h1 h2=>?_
 by_cases e:m<n
 ·rw[aI e];exact QJ O h _ _ _ (by omega) hp (by rw[show max m 1=m by omega];exact up)
 ·rw[aH e];obtain rfl:m=n:=by omega
  exact h p hp up
end
end L2
namespace L2
section
open PySem PySem.W PySem.Calls PyProof.Rows
variable {prog:Program}{w:World}{A:Around}{E:Value->Shared->Prop}{s:Shared}
def G8 (vs:List Value)(p:Array Nat):List Value:=p.toList.map λi=>vs.getD i Value.none
theorem LQ (vs:List Value):G8 vs (List.range vs.length).toArray=vs:=by
 unfold G8;refine cB λi=>?_
 rw[aw]
 by_cases h:i<vs.length
 ·simp[h]
 ·simp[h]
theorem R1 {a:Addr} {vs:List Value} {n:Nat} {lt:Nat->Nat->Bool} {P:PySem.Fin->Shared->Prop} (ho:s.heap.get? a=some (seqObj "list" vs.toArray n)) (few:vs.length<64)
  (hk:∀h',(∀b o,b≠a->s.heap.get? b=some o->h'.get? b=some o)->2<=vs.length->wpAny (model prog w) A (keyKind' vs.toArray) (λκ s'=>s'={ s with heap:=h' }/\Ordr vs.length lt (kas_ask prog w A κ vs) s') (λ_ _=>False) { s with heap:=h' })
  (h:∀p,KZ vs.length p->IU lt p vs.length->P (.done (.ret .none)) { s with heap:=sortedHeap s.heap a vs (G8 vs p).toArray }) :
  wpAny (model prog w) A (Builtin.«list.sort» ⟨[.ref a],[]⟩) P E s:=by
 rw[list_sort_plain];have ha:a<s.heap.objs.size:=aG ho;refine ae (listItems_at ho rfl (ae (listUpdate_at ho rfl ?_)));obtain⟨e1,h1⟩:∃e,(s.heap.update a (Obj.mapSeq λ_=>#[])).get? a=some (seqObj "list" #[] e):=⟨_,get?_update_seq ho (λ_=>#[])⟩
 refine ae (seqEpoch_at h1 rfl (ae (wpAny_newTuple (ae (gH (bu ?_))))));have n1:a≠(s.heap.update a (Obj.mapSeq λ_=>#[])).objs.size:=by rw[fM];exact aS ha
 have n2:a≠((s.heap.update a (Obj.mapSeq λ_=>#[])).push (seqObj "tuple" vs.toArray 0)).objs.size:=by rw[bL,fM];exact aS (cn ha)
 have h2:(((s.heap.update a (Obj.mapSeq λ_=>#[])).push (seqObj "tuple" vs.toArray 0)).push (seqObj "list" #[] 0)).get? a=some (seqObj "list" #[] e1):=by
  rw[Heap.get?_push_ne _ _ _ n2,Heap.get?_push_ne _ _ _ n1];exact h1
 have old:∀b o,b≠a->s.heap.get? b=some o->(((s.heap.update a (Obj.mapSeq λ_=>#[])).push (seqObj "tuple" vs.toArray 0)).push (seqObj "list" #[] 0)).get? b=some o:=λb o nb e=>
  af _ (af _ ((bC _ _ (Ne.symm nb)).trans e))
 show wpAny (model prog w) A _ P E { s with heap:=((s.heap.update a (Obj.mapSeq λ_=>#[])).push (seqObj "tuple" vs.toArray 0)).push (seqObj "list" #[] 0) };dsimp only;have ez:vs.toArray.size=vs.length:=by simp
 by_cases hs2:vs.toArray.size<2
 ·rw[aI hs2,aI hs2];refine ae (ao ?_);rw[StateT.run_pure];refine ae (ao ?_);dsimp only;refine ae (seqEpoch_at h2 rfl (ae (listUpdate_at h2 rfl ?_ (hsz2:=?_))))
  ·simp only[bne_self_eq_false,Bool.false_eq_true,if_false];have hq:=h (List.range vs.length).toArray ⟨by simp,by simp⟩ (λi j hij hj=>by omega);rw[LQ] at hq;have e:(vs.toArray.zip vs.toArray).map (·.2)=vs.toArray:=by
    apply dU.mp;simp;exact List.map_snd_zip (ak _)
   refine ao ?_;show P _ { s with heap:=sortedHeap s.heap a vs ((vs.toArray.zip vs.toArray).map (·.2)) };rw[e];exact hq
  ·show((vs.toArray.zip vs.toArray).map (·.2)).size<=_;rw[Array.size_map];simp;rw[bB];omega
 ·rw[aH hs2,aH hs2];refine ae (bo (hk _ old (by omega)) (λκ s' hs'=>?_) λ_ _ z=>z.elim);obtain⟨rfl,O⟩:=hs';refine ae (bo (kat_run (ks:=vs) (E:=E) (Q:=λst' s'=>s'={ s with heap:=((s.heap.update a (Obj.mapSeq λ_=>#[])).push (seqObj "tuple" vs.toArray 0)).push (seqObj "list" #[] 0) }/\∃p,KZ vs.length p/\IU lt p vs.length/\(arrOf st').map (·.2)=(G8 vs p).toArray/\failedOf st'=none)
   (G:=λp s'=>s'={ s with heap:=((s.heap.update a (Obj.mapSeq λ_=>#[])).push (seqObj "tuple" vs.toArray 0)).push (seqObj "list" #[] 0) }/\KZ vs.length p/\IU lt p vs.length) rfl (by omega) few
   (λp st' s' _ ea ef hg=>⟨hg.1,p,hg.2.1,hg.2.2,kat_snds rfl ea,ef⟩) (Ru O (by omega) λp hp up=>⟨rfl,hp,up⟩)) (λr s' hr=>?_) λ_ _ z=>z)
  obtain⟨⟨⟩,st'⟩:=r;obtain⟨rfl,p,hp,up,ea,ef⟩:=hr;dsimp only;refine ae (seqEpoch_at h2 rfl (ae (listUpdate_at h2 rfl ?_ (hsz2:=?_))))
  ·rw[ef];simp only[bne_self_eq_false,Bool.false_eq_true,if_false];rw[ea];exact ao (h p hp up)
  ·rw[ea];unfold G8;simp only[List.size_toArray,List.length_map,Array.length_toList,hp.1];rw[bB];omega
theorem NA {vs:List Value}{ss:List Str}(nd:ss.Nodup)(hl:vs.length=ss.length)(hv:∀(i:Nat) x,ss[i]?=some x->∃(a:Addr) (o:Obj) (t:Tok) (xs:Array Value) (n:Nat),vs[i]?=some (.ref a)/\s.heap.get? a=some o/\o.data=.seq xs n/\xs[0]?=some (.str x t)) :
  Ordr vs.length (λi j=>decide ((ss.getD i ⟨#[]⟩).cps.toList<(ss.getD j ⟨#[]⟩).cps.toList)) (kas_ask prog w A (tuples' true) vs) s:=by
 have get:∀i,i<vs.length->ss[i]?=some (ss.getD i ⟨#[]⟩):=λi hi=>by
  rw[hl] at hi;simp[hi]
 refine⟨λi j C hi hj hij hC=>?_,λi j k _ _ _ h1 h2=>?_,λi j hi hj hij h1=>?_⟩
 ·obtain⟨a,o,t,xs,n,e1,e2,e3,e4⟩:=hv i _ (get i hi);obtain⟨a',o',t',xs',n',f1,f2,f3,f4⟩:=hv j _ (get j hj);have g1:vs.getD i Value.none=.ref a:=by simp[e1]
  have g2:vs.getD j Value.none=.ref a':=by simp[f1]
  unfold kas_ask;rw[g1,g2];have z1:0<xs.size:=(dG.mp e4).1;have z2:0<xs'.size:=(dG.mp f4).1;obtain⟨r,er⟩:∃r,xs.toList=.str (ss.getD i ⟨#[]⟩) t::r:=by
   cases hx:xs.toList with
   |nil=>rw[<-cJ,hx] at z1;exact absurd z1 (by simp)
   |cons y r=>
    have:=e4;rw[<-cj,hx] at this;exact⟨r,by rw[show y=_ from aP this]⟩
  obtain⟨r',er'⟩:∃r,xs'.toList=.str (ss.getD j ⟨#[]⟩) t'::r:=by
   cases hx:xs'.toList with
   |nil=>rw[<-cJ,hx] at z2;exact absurd z2 (by simp)
   |cons y r=>
    have:=f4;rw[<-cj,hx] at this;exact⟨r,by rw[show y=_ from aP this]⟩
  refine kat_lt e2 e3 f2 f3 ?_;rw[er,er',List.zip_cons_cons];refine kat_cons (eqBool_str ?_);have ne:((ss.getD i ⟨#[]⟩) == (ss.getD j ⟨#[]⟩))=false:=by
   rw[bO];intro z;have hi':i<ss.length:=by omega
   have hj':j<ss.length:=by omega
   have pw:=bj.mp nd;have z':ss[i]=ss[j]:=by simpa [hi',hj'] using z
   rcases dE hij with q|q
   ·exact pw i j hi' hj' q z'
   ·exact pw j i hj' hi' q z'.symm
  rw[ne];exact kat_no (oneLt_str hC)
 ·rw[cz] at *;exact List.lt_trans h1 h2
 ·rw[decide_eq_false_iff_not] at h1;rw[cz];have hle:=List.not_lt.mp h1;rcases Classical.em ((ss.getD j ⟨#[]⟩).cps.toList<(ss.getD i ⟨#[]⟩).cps.toList) with h|h
  ·exact h
  ·exfalso;have e:=List.le_antisymm hle (List.not_lt.mp h);have e2:ss.getD j ⟨#[]⟩=ss.getD i ⟨#[]⟩:=by
    cases hx:ss.getD j ⟨#[]⟩ with
    |mk c1=>
     cases hy:ss.getD i ⟨#[]⟩ with
     |mk c2=>
      rw[hx,hy] at e;have e3:c1=c2:=dU.mp e;rw[e3]
   have hi':i<ss.length:=by omega
   have hj':j<ss.length:=by omega
   have pw:=bj.mp nd;have z':ss[j]=ss[i]:=by simpa [hi',hj'] using e2
   rcases dE hij with q|q
   ·exact pw i j hi' hj' q z'.symm
   ·exact pw j i hj' hi' q z'
end
end L2
namespace L2
section
open PySem PySem.W PySem.Calls PyProof.Rows
variable {prog:Program}{w:World}{A:Around}{E:Value->Shared->Prop}{s:Shared}
def Sz (prog:Program)(w:World)(Q:Value->Shared->Prop)(vs:List Value)(s1:Shared):Prop:=∃lt,vs.length<64/\
 (∀(A':Around) h',(∀b o,s1.heap.get? b=some o->h'.get? b=some o)->2<=vs.length->wpAny (model prog w) A' (keyKind' vs.toArray) (λκ s'=>s'={ s1 with heap:=h' }/\Ordr vs.length lt (kas_ask prog w A' κ vs) s') (λ_ _=>False) { s1 with heap:=h' })/\
 ∀h' p idx c,KZ vs.length idx->IU lt idx vs.length->s1.heap.objs.size<=p->(∀b o,s1.heap.get? b=some o->h'.get? b=some o)->h'.get? p=some (seqObj "list" (G8 vs idx).toArray c)->Q (.ref p) { s1 with heap:=h' }
theorem O4 {x:Value}{Q:Value->Shared->Prop}(hc:wpAny (model prog w) A.in1 (collect x) (Sz prog w Q) E s):wpAny (model prog w) A (call (.builtin "sorted") [x]) Q E s:=by
 refine gF kind_sorted plain_sorted entry_sorted (args_sorted1 x) ?_;unfold Builtin.«sorted»;refine ae (m:=checkCount "sorted" 1 1 _) (ao (ae (bo hc (λvs s1 z=>?_) λ_ _ e=>e)));obtain⟨lt,few,hk,q⟩:=z;refine ae (gH ?_);have there:(s1.heap.push (seqObj "list" vs.toArray 0)).get? s1.heap.objs.size=some (seqObj "list" vs.toArray 0):=aJ _ rfl;refine ae (bu (eF slot_list_sort ⟨_,there,rfl⟩ entry_list_sort (R1 (lt:=lt) there few (λh' old h2=>?_) λidx hp up=>⟨_,rfl,?_⟩) (args_list_sort _)))
 ·have k':∀b o,s1.heap.get? b=some o->h'.get? b=some o:=λb o e=>old b o (aS (aG e)) (af _ e)
  exact hk _ h' k' h2
 ·obtain⟨c,hp'⟩:=sortedHeap_at (out:=(G8 vs idx).toArray) there;refine ao ⟨_,rfl,q _ _ idx c hp up (ak _) (λb o e=>?_) hp'⟩;have lt:=aG e;show Heap.get? _ b=some o;rw[sortedHeap_old (aS lt) (by rw[bL];exact cn lt)];exact af _ e
end
end L2
namespace L2
section
open PySem PySem.W PySem.Calls PyProof.Rows
variable {X:Cx}
def Ss (H:Hp)(ts:List (Addr×Str))(Q:VK):Prop:=∀(us:List (Addr×Str)) (p:Addr),us.Perm ts->sortedS (us.map (·.2))=true->H p=none->Q (.ref p) (upd H p (.lst (us.map λt=>V.ref t.1)))
def RR (K:PySem.W.Frag):List V->Hp->VK->Prop:=λxs H Q=>∃(a:Addr) (ts:List (Addr×Str)),xs=[.ref a]/\AB K H a (ts.map λt=>V.ref t.1)/\ts.length<64/\(∀t∈ts,∃r,AD K H t.1 (.str t.2::r))/\(ts.map (·.2)).Nodup/\Ss H ts Q
theorem Mw:∀{ts:List (Addr×Str)} {its:List Value},AJ (ts.map λt=>V.ref t.1) its->its=ts.map λt=>Value.ref t.1
 |[],_,.nil=>rfl
 |t::ts,_,.cons r h=>by
  cases r;rw[av,Mw h]
theorem Hf:∀(ts:List (Addr×Str)),AJ (ts.map λt=>V.ref t.1) (ts.map λt=>Value.ref t.1)
 |[]=>.nil
 |t::ts=>.cons rfl (Hf ts)
theorem Eu {K:PySem.W.Frag}(hK:X.K=K):C7 X (.builtin "sorted") (RR K):=by
 subst hK;intro pins s σ H xs us Q I r h;obtain⟨a,ts,rfl,h1,few,ht,nd,q⟩:=h;obtain⟨u,rfl,ru⟩:=vals1 r;cases ru;obtain⟨its,r1,p1,_⟩:=I.list h1;have ei:=Mw r1;have li:its.length=ts.length:=by rw[ei,aa]
 refine O4 (collect_list p1.isList ?_ (by rw[li,bB];omega));have old:∀b o,s.heap.get? b=some o->((s.heap.push (seqObj "list" #[] 0)).update s.heap.objs.size (Obj.mapSeq λx=>x++its.toArray)).get? b=some o:=λb o e=>(bC _ _ (cV (aG e))).trans (af _ e)
 have hsz:s.heap.objs.size<=((s.heap.push (seqObj "list" #[] 0)).update s.heap.objs.size (Obj.mapSeq λx=>x++its.toArray)).objs.size:=by rw[fM,bL];exact eI _
 generalize (s.heap.push (seqObj "list" #[] 0)).update s.heap.objs.size (Obj.mapSeq λx=>x++its.toArray)=h1 at old hsz ⊢;have tup:∀(i:Nat) x,(ts.map λt=>t.2)[i]?=some x->∃(b:Addr) (o:Obj) (t:Tok) (xs:Array Value) (n:Nat),its[i]?=some (.ref b)/\s.heap.get? b=some o/\o.cls=.type "tuple"/\o.data=.seq xs n/\xs[0]?=some (.str x t):=λi x hx=>by
  rw[aw] at hx;cases hi:ts[i]? with
  |none=>rw[hi] at hx;cases hx
  |some y=>
   rw[hi] at hx;cases hx;obtain⟨r,hr⟩:=ht y (aE hi);obtain⟨ys,rv,⟨o,e1,e2,n,e3⟩,_⟩:=I.tuple hr;cases rv with
   |cons rv _=>
    obtain⟨t,rfl⟩:=rv;exact⟨y.1,o,t,_,n,by rw[ei,aw,hi];rfl,e1,e2,e3,by simp⟩
 refine⟨λi j=>decide (((ts.map λt:Addr×Str=>t.2).getD i (⟨#[]⟩:Str)).cps.toList<((ts.map λt:Addr×Str=>t.2).getD j (⟨#[]⟩:Str)).cps.toList),by rw[li];exact few,λA' h' k h2=>?_,λh' p idx c hp up lp k e=>?_⟩
 ·obtain⟨fs,kt,kf⟩:∃fs,KatTups h' its fs/\fs.length=its.length/\∀v∈fs,∃x t,v=Value.str x t:=by
   have go:∀(l:List Value),(∀v∈l,∃(b:Addr) (o:Obj) (x:Str) (t:Tok) (xs:Array Value) (n:Nat),v=.ref b/\h'.get? b=some o/\o.cls=.type "tuple"/\o.data=.seq xs n/\xs[0]?=some (.str x t))->∃fs,KatTups h' l fs/\fs.length=l.length/\∀v∈fs,∃x t,v=Value.str x t:=by
    intro l
    induction l with
    |nil=>exact λ_=>⟨[],.nil,rfl,λ_ h=>nomatch h⟩
    |cons v l ih=>
     intro hl;obtain⟨fs,a1,a2,a3⟩:=ih λu hu=>hl u (az _ hu)
     obtain⟨b,o,x,t,xs,n,rfl,e1,e2,e3,e4⟩:=hl v ay;refine⟨.str x t::fs,.cons e1 e2 e3 e4 a1,by rw[aM,aM,a2],λu hu=>?_⟩;rcases aD.mp hu with rfl|hu
     ·exact⟨x,t,rfl⟩
     ·exact a3 u hu
   refine go its λv hv=>?_
   obtain⟨i,hi⟩:=bE hv;have lt:i<ts.length:=by rw[<-li];exact(ar.mp hi).1
   obtain⟨b,o,t,xs,n,e1,e2,e3,e4,e5⟩:=tup i _ (ah (by rw[aa];exact lt));rw[hi] at e1;cases e1;exact⟨b,o,_,t,xs,n,rfl,k _ _ (old _ _ e2),e3,e4,e5⟩
  refine kat_kind (T:=.type "str") kt (by rw[kf.1];omega) (λv hv=>?_) (by decide) ?_
  ·obtain⟨x,t,rfl⟩:=kf.2 v hv;exact .now
  ·refine⟨rfl,?_⟩;refine NA nd (by rw[li,aa]) λi x hx=>?_
   obtain⟨b,o,t,xs,n,e1,e2,_,e4,e5⟩:=tup i x hx;exact⟨b,o,t,xs,n,e1,k _ _ (old _ _ e2),e4,e5⟩
 ·have I1:Inv X pins σ H { s with heap:=h' }:=I.kept (t':=s.toks) λb o e=>k b o (old b o e)
  have ln:∀i,i<ts.length->∃t,ts[i]?=some t:=λi hi=>⟨_,ah hi⟩
  have g0:(0:Nat)<ts.length\/ts=[]:=by
   cases ts with
   |nil=>exact .inr rfl
   |cons _ _=>exact .inl (by simp)
  obtain⟨d,ed⟩:∃d:Addr×Str,True:=⟨(0,⟨#[]⟩),trivial⟩
  have lt:∀i∈idx.toList,i<ts.length:=λi hi=>by
   have:=cG.mp (hp.2.mem_iff.mp hi);omega
  have eo:G8 its idx=(idx.toList.map λi=>ts.getD i d).map λt=>Value.ref t.1:=by
   unfold G8;rw[aj];refine bP λi hi=>?_
   have hl:=lt i hi;rw[ei];simp[hl]
  have pm:(idx.toList.map λi=>ts.getD i d).Perm ts:=by
   have h3:=hp.2.map λi=>ts.getD i d
   have e3:(List.range its.length).map (λi=>ts.getD i d)=ts:=by
    refine cB λi=>?_
    rw[aw,li]
    by_cases hi:i<ts.length
    ·simp[hi]
    ·simp[hi]
   rw[e3] at h3;exact h3
  have so:sortedS ((idx.toList.map λi=>ts.getD i d).map (·.2))=true:=by
   apply sortedS_of_pairwise;rw[bj];intro i j hi hj hij;have hi':i<idx.size:=by simpa using hi
   have hj':j<idx.size:=by simpa using hj
   have h4:=up i j hij (by rw[<-hp.1];exact hj');have li':=lt idx[i] (by simp);have lj':=lt idx[j] (by simp);simp only[List.getElem_map,Array.getElem_toList];rw[ltCps_eq];have e5:idx.getD i 0=idx[i]:=by simp[Array.getD,hi']
   have e6:idx.getD j 0=idx[j]:=by simp[Array.getD,hj']
   rw[e5,e6,cz] at h4;have e7:(ts.map λt:Addr×Str=>t.2).getD idx[i] (⟨#[]⟩:Str)=(ts.getD idx[i] d).2:=by simp[li']
   have e8:(ts.map λt:Addr×Str=>t.2).getD idx[j] (⟨#[]⟩:Str)=(ts.getD idx[j] d).2:=by simp[lj']
   rw[e7,e8] at h4;exact aO λz=>absurd (List.lt_trans h4 z) (List.lt_irrefl _)
  rw[eo] at e;have lp':s.heap.objs.size<=p:=ba (by
   rcases Nat.lt_or_ge s.heap.objs.size h1.objs.size with g|g
   ·exact dY g
   ·exact dZ (Nat.le_antisymm hsz g)) lp
  refine⟨.ref p,_,I.laid (t':=s.toks) (o:=.lst ((idx.toList.map λi=>ts.getD i d).map λt=>V.ref t.1)) (λb o e=>k b o (old b o e)) lp' ?_,rfl,q _ _ pm so (I.hok.fresh lp')⟩;refine⟨?_,_,c,Hf _,e⟩;rw[aa,pm.length_eq,bB];omega
end
end L2
namespace L2
end L2
namespace L2
end L2
namespace L2
end L2
namespace L2
end L2
namespace L2
end L2
namespace L2
section
open PySem PySem.Calls PySem.Spec PyProof.Rows PySem.Builtin.Str
variable {X:Cx}
def VM:R2:=λx y H Q=>∃ts F G,Tr.deps ts<=99/\Rep F H (.tup ts) x/\Rep G H (.tup ts) y/\Q (.bl true) H
theorem Sh (hu:X.A.units+150<cLine):Gq X (compareOp .Eq) VM:=by
 intro pins s σ H x y v u Q I rx ry h;obtain⟨ts,F,G,hd,⟨a,vs,rfl,ha,hr1⟩,⟨b,us,rfl,hb,hr2⟩,q⟩:=h;cases rx;cases ry;obtain⟨its,rv1,p1,_⟩:=I.tuple (AD.of (K:=X.K) ha);obtain⟨its2,rv2,p2,_⟩:=I.tuple (AD.of (K:=X.K) hb);have l1:=rv1.length.symm.trans (AX.len ts vs hr1);have l2:=rv2.length.symm.trans (AX.len ts us hr2);have q2:=d9 (A:=X.A) (s:=s) (e:=λ_=>true) p1 p2 (by omega) (λj g1 g2=>FC I ts X.A.in1 vs us its its2 (by show X.A.units+1+Tr.deps ts<cLine;omega) hr1 hr2 rv1 rv2 j (by simpa using g1) (by simpa using g2));have e:((List.range (min its.toArray.size its2.toArray.size)).all (λ_=>true)&&its.toArray.size == its2.toArray.size)=true:=by
  simp[l1,l2]
 rw[e] at q2;exact q2 _ _ _ _ ⟨.bl _,H,I,rfl,q⟩
end
end L2
namespace L2
open PySem PySem.Spec PyProof.Rows
def Src:Bool->Heap->Addr->Array Value->Prop
 |true,h,a,its=>h.IsList a its
 |false,h,a,its=>h.IsTuple a its
theorem Src.push {h:Heap}{a:Addr}{its:Array Value}(o:Obj):(k:Bool)->Src k h a its->Src k (h.push o) a its
 |true,⟨x,e,r⟩=>⟨x,af _ e,r⟩
 |false,⟨x,e,r⟩=>⟨x,af _ e,r⟩
end L2
namespace L2
end L2
namespace L2
section
open PySem PySem.Builtin.Str
def EH (c:Nat):List Nat->List Nat
 |[]=>[]
 |x::l=>if x=c then 0::(EH c l).map (· + 1) else(EH c l).map (· + 1)
def Kh (c:Nat):List Str->Str->List Nat
 |[],t=>AR t
 |w::ws,t=>AR w++c::Kh c ws t
theorem KO {c:Nat}:∀{l:List Nat},c∉l->EH c l=[]
 |[],_=>rfl
 |x::l,h=>by
  have h1:x≠c:=λe=>h (by rw[e];exact ay)
  show(if x=c then _ else _)=_;rw[aH h1,KO λz=>h (az _ z)];rfl
theorem Jg {c:Nat}{r:List Nat}:∀{l:List Nat},c∉l->EH c (l++c::r)=l.length::(EH c r).map (· + (l.length+1))
 |[],_=>by
  show(if c=c then _ else _)=_;rw[aI rfl];rfl
 |x::l,h=>by
  have h1:x≠c:=λe=>h (by rw[e];exact ay)
  show(if x=c then _ else(EH c (l++c::r)).map (· + 1))=_;rw[aH h1,Jg (l:=l) λz=>h (az _ z),av,aj];show(l.length+1)::_=(l.length+1)::_;rfl
theorem IA (c:Nat):∀(l:List Nat) (a:Nat),(EH c l).map (· + a)=(List.range' a l.length).filter λi=>decide (l[i-a]?=some c)
 |[],a=>rfl
 |x::l,a=>by
  have ih:=IA c l (a+1);have e:(List.range' (a+1) l.length).filter (λi=>decide ((x::l)[i-a]?=some c))=(List.range' (a+1) l.length).filter λi=>decide (l[i-(a+1)]?=some c):=by
   refine List.filter_congr λi hi=>?_
   have:=(List.mem_range'_1.mp hi).1;have e1:i-a=(i-(a+1))+1:=by omega
   rw[e1,List.getElem?_cons_succ]
  show _=(List.range' a (l.length+1)).filter _;rw[List.range'_succ,dq,e,<-ih];have e0:(decide ((x::l)[a-a]?=some c))=decide (x=c):=by
   rw[fY,List.getElem?_cons_zero]
   by_cases h:x=c
   ·rw[h];simp
   ·rw[aO h,aO λq=>h (aP q)]
  rw[e0];have e2:∀m:List Nat,(m.map (· + 1)).map (· + a)=m.map (· + (a+1)):=λm=>by
   rw[aj];exact bP λk _=>by show k+1+a=k+(a+1);omega
  by_cases h:x=c
  ·rw[aR h,aI rfl];show((if x=c then 0::(EH c l).map (· + 1) else _).map (· + a))=_;rw[aI h,av,e2,fX]
  ·rw[aO h,aH aA];show((if x=c then _ else(EH c l).map (· + 1)).map (· + a))=_;rw[aH h,e2]
theorem Qd {x:Str}{c i:Nat}:(i+(⟨#[c]⟩:Str).length<=x.length/\subAt x ⟨#[c]⟩ i=true)↔(AR x)[i]?=some c:=StrLaws.subAt_one x c i
theorem IX (x:Str)(c limit:Nat):∀(l:List Nat) (st:Array Nat×Nat),l.Pairwise (· < ·)->(∀i∈l,st.snd<=i)->
  (forIn l st (StrLaws.occBody x ⟨#[c]⟩ x.length limit)).run.fst.toList=st.fst.toList++(l.filter λi=>decide ((AR x)[i]?=some c)).take (limit-st.fst.size)
 |[],st,_,_=>by simp[Id.run,pure,forIn]
 |a::l,st,hp,hs=>by
  rw[List.forIn_cons];unfold StrLaws.occBody;obtain⟨h1,h2⟩:=eT.mp hp
  by_cases h:(AR x)[a]?=some c
  ·have g:=Qd.mpr h
   by_cases hl:st.fst.size<limit
   ·rw[aI ⟨⟨⟨hl,hs a ay⟩,g.1⟩,g.2⟩];have ih:=IX x c limit l (st.fst.push a,a+(⟨#[c]⟩:Str).length) h2 (λi hi=>by have:=h1 i hi;show a+1<=i;omega);refine ih.trans ?_;rw[Array.toList_push,Array.size_push,bD,dq,aI (aR h)];have e:limit-st.fst.size=(limit-(st.fst.size+1))+1:=by omega
    rw[e,eN];rfl
   ·rw[aH λq=>hl q.1.1.1];have ih:=IX x c limit l st h2 (λi hi=>hs i (az _ hi));refine ih.trans ?_;have e:limit-st.fst.size=0:=by omega
    rw[e,cW,cW]
  ·rw[aH λq=>h (Qd.mp ⟨q.1.2,q.2⟩)];have ih:=IX x c limit l st h2 (λi hi=>hs i (az _ hi));refine ih.trans ?_;rw[dq,aH (by rw[aO h];exact aA)]
theorem RO (x:Str)(c limit:Nat):occurrences x ⟨#[c]⟩ 0 x.length limit=(EH c (AR x)).take limit:=by
 rw[StrLaws.occ_eq];have h:=IX x c limit (List.range' 0 (x.length+1-0)) (#[],0) List.pairwise_lt_range' (λi _=>bg i);refine h.trans ?_;have e:=IA c (AR x) 0;have e1:(EH c (AR x)).map (· + 0)=EH c (AR x):=by
  have:(λk:Nat=>k+0)=id:=rfl;rw[this,gz]
 rw[e1,Bg] at e;rw[e];show[]++List.take (limit-0) _=_;rw[List.nil_append,Nat.sub_zero,Nat.sub_zero,List.range'_concat,dF];have e2:List.filter (λi=>decide ((AR x)[i]?=some c)) [0+1*x.length]=[]:=by
  rw[dq,aH,List.filter_nil];rw[cy (by rw[Bg];omega)];simp
 rw[e2,br];rfl
theorem Oq (c:Nat):∀(ws:List Str) (t:Str),ws.length<=(Kh c ws t).length
 |[],_=>bg _
 |w::ws,t=>by
  have:=Oq c ws t;show ws.length+1<=(AR w++c::Kh c ws t).length;rw[au,aM];omega
theorem Ob {c:Nat}:∀{ws:List Str} {t:Str},(∀w∈ws,c∉AR w)->∃r,EH c (Kh c ws t)=r++(EH c (AR t)).map (· + ((Kh c ws t).length-(AR t).length))/\r.length=ws.length
 |[],t,_=>⟨[],by
   show EH c (AR t)=[]++(EH c (AR t)).map (· + ((AR t).length-(AR t).length));rw[fY,List.nil_append];exact(gz _).symm,rfl⟩
 |w::ws,t,h=>by
  obtain⟨r,e,l⟩:=Ob (ws:=ws) (t:=t) λy hy=>h y (az _ hy)
  refine⟨(AR w).length::r.map (· + ((AR w).length+1)),?_,by rw[aM,aa,l];rfl⟩;show EH c (AR w++c::Kh c ws t)=_;rw[Jg (h w ay),e,aq,fc,aj]
  congr 2
  refine bP λk _=>?_
  have g:∀(ws:List Str),(AR t).length<=(Kh c ws t).length:=λws=>by
   induction ws with
   |nil=>exact ak _
   |cons y ys ih=>
    show _<=(AR y++c::Kh c ys t).length;rw[au,aM];omega
  have:=g ws;show k+((Kh c ws t).length-(AR t).length)+((AR w).length+1)=k+((AR w++c::Kh c ws t).length-(AR t).length);rw[au,aM];omega
theorem Ku {c:Nat}{x:Str}{t:Str}:∀(ws:List Str) (pre:List Nat),AR x=pre++Kh c ws t->(∀w∈ws,c∉AR w)->
  StrLaws.partsFrom x 1 pre.length (((EH c (Kh c ws t)).take ws.length).map (· + pre.length))=ws++[t]
 |[],pre,h,_=>by
  rw[eB,cW];show[strSub x pre.length x.length]=[t]
  congr 1
  refine G3 ?_;show(strSub x pre.length x.length).cps.toList=_;rw[StrLaws.strSub_toList];have hx:x.cps.toList=pre++AR t:=h;have hl:x.length=pre.length+(AR t).length:=by rw[<-Bg,h,au];rfl
  rw[hx,List.drop_left',bb (by rw[hl];omega)];rfl
 |w::ws,pre,h,hf=>by
  have hw:=hf w ay;have ih:=Ku (x:=x) (t:=t) ws (pre++AR w++[c]) (by rw[h];show pre++(AR w++c::Kh c ws t)=_;simp) λy hy=>hf y (az _ hy)
  show StrLaws.partsFrom x 1 pre.length (((EH c (AR w++c::Kh c ws t)).take (ws.length+1)).map (· + pre.length))=w::(ws++[t]);rw[Jg hw,eN,av,<-List.map_take,aj];show strSub x pre.length ((AR w).length+pre.length)::StrLaws.partsFrom x 1 ((AR w).length+pre.length+1) _=_
  congr 1
  ·refine G3 ?_;show(strSub x pre.length _).cps.toList=_;rw[StrLaws.strSub_toList];have hx:x.cps.toList=pre++(AR w++c::Kh c ws t):=h;rw[hx,List.drop_left',Nat.add_sub_cancel,List.take_left']
   ·rfl
   ·rfl
  ·rw[<-ih];have el:(pre++AR w++[c]).length=(AR w).length+pre.length+1:=by simp;omega
   rw[el]
   congr 1
   refine bP λk _=>?_
   show k+((AR w).length+1)+pre.length=k+((AR w).length+pre.length+1);omega
theorem PZ (c:Nat):(⟨#[c]⟩:Str).length=1:=rfl
theorem TV {c:Nat}{x t:Str}{ws:List Str}(h:AR x=Kh c ws t)(hf:∀w∈ws,c∉AR w){l:List Nat}(hl:l=(EH c (AR x)).take ws.length):partsBetween x l 1=ws++[t]:=by
 have:=Ku (x:=x) (t:=t) ws [] h hf;rw[StrLaws.partsBetween_eq,hl,h];have e:∀l:List Nat,l.map (· + ([]:List Nat).length)=l:=λl=>gz l
 rw[e] at this;exact this
theorem TQ {x:Str}{c:Nat}(h:(decide (x.length<(⟨#[c]⟩:Str).length)||decide (strKind x<strKind ⟨#[c]⟩))=true):c∉AR x:=by
 rw[Bool.or_eq_true,cz,cz] at h;rcases h with h|h
 ·intro hm;have:0<(AR x).length:=gc hm;rw[Bg] at this;rw[PZ] at h;omega
 ·exact StrLaws.kind_free x c h
theorem Qj {c:Nat}{x t:Str}{ws:List Str}(h:AR x=Kh c ws t)(hn:c∉AR x):ws=[]/\x=t:=by
 cases ws with
 |nil=>exact⟨rfl,G3 h⟩
 |cons w ws=>
  rw[h] at hn;exact absurd (show c∈AR w++c::Kh c ws t by simp) hn
theorem O3 {c:Nat}{x t:Str}{ws:List Str}(h:AR x=Kh c ws t)(hf:∀w∈ws,c∉AR w)(ht:c∉AR t):PySem.Txt.split x ⟨#[c]⟩=ws++[t]:=by
 obtain⟨r,e,l⟩:=Ob (c:=c) (ws:=ws) (t:=t) hf;rw[KO ht,bY,br] at e;have hw:=Oq c ws t;rw[<-h,Bg] at hw;have ho:occurrences x ⟨#[c]⟩ 0 x.length (x.length+1)=(EH c (AR x)).take ws.length:=by
  rw[RO,h,e,bb (by omega),bb (by omega)]
 unfold PySem.Txt.split
 split
 ·rename_i hc
  obtain⟨rfl,rfl⟩:=Qj h (TQ hc);rfl
 ·split
  ·rename_i he
   rw[ho,h,e,List.isEmpty_iff] at he;cases ws with
   |nil=>rw[show x=t from G3 h];rfl
   |cons w ws=>
    cases r with
    |nil=>cases l
    |cons a r=>cases he
  ·rw[ho];exact TV h hf rfl
end
end L2
namespace L2
end L2
namespace L2
end L2
namespace L2
end L2
namespace L2
section
open PySem PySem.Spec PyProof.Rows
variable {X:Cx}{pins:List (Addr×Obj)}{σ:St}{H:Hp}{s:Shared}
def Vy (c:Addr)(qual:Str):HO:=.ext λh=>h.CodeRec (.ref c) qual
def Vi (P:Addr)(qual:Str)(pos:Pos)(H:Hp):Prop:=H P=some (.tbl #[])\/∃c,H P=some (.tbl #[rawInt pos.line,rawInt pos.col,.ref c])/\H c=some (Vy c qual)
theorem Vi.some {P:Addr}{qual:Str}{pos:Pos}{H:Hp}(t:Vi P qual pos H):∃ps,H P=some (.tbl ps):=by
 rcases t with h|⟨c,h,_⟩
 ·exact⟨_,h⟩
 ·exact⟨_,h⟩
theorem M7 {α:Type}{d:α}{l:List α}(nd:l.Nodup){i j:Nat}(hi:i<l.length)(hj:j<l.length)(hij:i≠j):l.getD i d≠l.getD j d:=by
 have e1:l.getD i d=l[i]:=by simp[hi]
 have e2:l.getD j d=l[j]:=by simp[hj]
 rw[e1,e2];have pw:=bj.mp nd;intro z;rcases dE hij with q|q
 ·exact pw i j hi hj q z
 ·exact pw j i hj hi q z.symm
end
end L2
namespace L2
end L2
namespace L2
end L2
namespace L2
end L2
namespace L2
end L2
namespace L2
section
open PySem
variable {α:Type}
theorem DX {J:It} {ps:List α} {g:α->V} {fr:List (Option Nat)} {k:Nat} {tt:TT} {te:TE} {Q:VK} {σ:St} {H:Hp} (p:α->Bool) (P:α->V->Hp->Prop) (hP:∀x y H1 H2,P x y H1->Al H1 H2->P x y H2)
  (hU:∀x y H1 l us us',P x y H1->H1 l=some (.lst us)->P x y (upd H1 l (.lst us'))) (hJ:Hi J H (ps.map g)) (hn:ps.length<=1000000)
  (htest:∀x∈ps,∀(H':Hp) (R:Bool->Hp->Prop),Al H H'->(∀H'',Al H' H''->R (p x) H'')->tt ((stC fr σ).set k (some (g x))) H' R)
  (helt:∀x∈ps,p x=true->∀(H':Hp) (R:VK),Al H H'->(∀y H'',Al H' H''->P x y H''->R y H'')->te ((stC fr σ).set k (some (g x))) H' R)
  (hQ:∀l H' (ys:List (α×V)),H l=none->Al H H'->H' l=some (.lst (ys.map (·.2)))->ys.map (·.1)=ps.filter p->(∀q∈ys,P q.1 q.2 H')->Q (.ref l) H'):Df fr (Aq k) tt te σ Q J H:=by
 intro l hl;refine⟨λi m σ' H'=>m=ps.length-i/\i<=ps.length/\(∀y,σ'.set k y=(stC fr σ).set k y)/\Al H H'/\∃ys:List (α×V),H' l=some (.lst (ys.map (·.2)))/\ys.map (·.1)=(ps.take i).filter p/\∀q∈ys,P q.1 q.2 H',
  ⟨ps.length,by simp,bg _,λ_=>rfl,Af hl _,[],by rw[Ad];rfl,rfl,λ_ h=>nomatch h⟩,?_⟩
 rintro i m σ' H' ⟨rfl,hi,hσ,hs,ys,hl',e1,hys⟩
 obtain⟨h1,h2,h3⟩:=hJ H' hs i;rw[aa] at h1 h2 h3
 by_cases hlt:i<ps.length
 ·refine .inr ⟨h1 hlt,λx H'' y=>?_⟩;obtain⟨rfl,hx⟩:=h2 x H'' y;have hx:=hx hlt;rw[aw,ah hlt] at hx;cases hx;have hm:ps[i]∈ps:=bz hlt;have et:(ps.take (i+1)).filter p=(ps.take i).filter p++(if p ps[i]=true then[ps[i]] else[]):=by
   rw[aX,ah hlt,dF];cases q:p ps[i]<;>simp[q]
  have le:ys.length<=i:=by
   have a:=congrArg List.length e1;have b:=bT p (ps.take i);rw[aa] at a;rw[aQ] at b;omega
  show tt (σ'.set k (some (g ps[i]))) H'' _;rw[hσ];refine htest _ hm H'' _ hs λH0 s0=>?_
  have hs0:=hs.trans s0;refine DN (λc=>?_) (λc=>?_)
  ·refine helt _ hm c H0 _ hs0 λv H4 s4' hv=>?_
   have s4:=s0.trans s4';have hl4:=s4.get hl';refine⟨_,hl4,Bh (by rw[aa];omega),ps.length-(i+1),by omega,rfl,hlt,λy=>by rw[d5],AI (hs.trans s4) hl _,ys++[(ps[i],v)],?_,?_,λq hq=>?_⟩
   ·rw[Ad,aq];rfl
   ·rw[et,aI c,aq,e1];rfl
   ·rcases aB.mp hq with h|h
    ·exact hU _ _ _ _ _ _ (hP _ _ _ _ (hys q h) s4) hl4
    ·rw[ai.mp h];exact hU _ _ _ _ _ _ hv hl4
  ·exact⟨ps.length-(i+1),by omega,rfl,hlt,λy=>by rw[d5],hs0,ys,s0.get hl',by rw[et,aH c,br];exact e1,λq hq=>hP _ _ _ _ (hys q hq) s0⟩
 ·have e:i=ps.length:=by omega
  subst e;exact .inl ⟨h3 (ak _),hQ l H' ys hl hs hl' (by rw[e1,bb (ak _)]) hys⟩
theorem Sl {ys:List (α×V)}{f:α->V}(h:∀q∈ys,q.2=f q.1):ys.map (·.2)=(ys.map (·.1)).map f:=by
 rw[aj];exact bP λq hq=>h q hq
theorem O5 {J:It} {ps:List α} {g:α->V} {fr:List (Option Nat)} {k:Nat} {tt:TT} {te:TE} {Q:VK} {σ:St} {H:Hp} (p:α->Bool) (f:α->V) (hJ:Hi J H (ps.map g)) (hn:ps.length<=1000000)
  (htest:∀x∈ps,∀(H':Hp) (R:Bool->Hp->Prop),Al H H'->(∀H'',Al H' H''->R (p x) H'')->tt ((stC fr σ).set k (some (g x))) H' R)
  (helt:∀x∈ps,p x=true->∀(H':Hp) (R:VK),Al H H'->(∀H'',Al H' H''->R (f x) H'')->te ((stC fr σ).set k (some (g x))) H' R)
  (hQ:∀l H',H l=none->Al H H'->H' l=some (.lst ((ps.filter p).map f))->Q (.ref l) H'):Df fr (Aq k) tt te σ Q J H:=by
 refine DX p (λx y _=>y=f x) (λ_ _ _ _ h _=>h) (λ_ _ _ _ _ _ h _=>h) hJ hn htest (λx hx hp H' R s' hR=>helt x hx hp H' R s' λH'' s''=>hR _ H'' s'' rfl) λl H' ys nl s' h' e hq=>hQ l H' nl s' ?_
 rw[<-e,<-Sl hq];exact h'
theorem DS {J:It} {ps:List α} {g:α->V} {fr:List (Option Nat)} {k:Nat} {tt:TT} {te:TE} {Q:VK} {σ:St} {H:Hp} (p:α->Bool) (f:α->V) (hJ:Hi J H (ps.map g)) (hn:ps.length<=1000000)
  (htest:∀x∈ps,∀(H':Hp) (R:Bool->Hp->Prop),Al H H'->R (p x) H'->tt ((stC fr σ).set k (some (g x))) H' R)
  (helt:∀x∈ps,p x=true->∀(H':Hp) (R:VK),Al H H'->(∀H'',Al H' H''->R (f x) H'')->te ((stC fr σ).set k (some (g x))) H' R)
  (hQ:∀l H',H l=none->Al H H'->H' l=some (.lst ((ps.filter p).map f))->Q (.ref l) H'):Df fr (Aq k) tt te σ Q J H:=
 O5 p f hJ hn (λx hx H' R s' hR=>htest x hx H' R s' (hR H' (Al.refl _))) helt hQ
end
end L2
namespace L2
section
open PySem
variable {X:Cx}{K:PySem.W.Frag}
theorem GG (h:X.K=K):Gq X (compareOp .In) (WD K false):=by subst h;exact OL
end
end L2
namespace L2
end L2
namespace L2
end L2
namespace L2
end L2
namespace L2
end L2
namespace L2
end L2
namespace L2
end L2
namespace L2
section
open PySem PySem.Calls PyProof.Rows PySem.Spec
def Um (K:PySem.W.Frag):List V->Hp->VK->Prop:=λxs H Q=>∃(a:Addr) (ps:List Addr) (kvs:List (Key×V)),xs=[.ref a]/\AB K H a (ps.map V.ref)/\ps.length=kvs.length/\kvs.length<=100000/\(kvs.map (·.1)).Nodup/\
 (∀(i:Nat) t k v,ps[i]?=some t->kvs[i]?=some (k,v)->H t=some (.tup [kV k,v]))/\∀d,H d=none->Q (.ref d) (upd H d (.dK kvs))
abbrev V2 (p:Key×V)(q:Key×Value×Value):Prop:=p.1=q.1/\RelV (kV p.1) q.2.1/\RelV p.2 q.2.2
theorem KH {X:Cx}{pins:List (Addr×Obj)}{σ:St}{H:Hp}{s:Shared}(I:Inv X pins σ H s):∀(ps:List Addr) (kvs:List (Key×V)),ps.length=kvs.length->(∀(i:Nat) t k v,ps[i]?=some t->kvs[i]?=some (k,v)->H t=some (.tup [kV k,v]))->
  ∃xs:List (Key×Value×Value),Paired V2 kvs xs/\∀(i:Nat) t,ps[i]?=some t->∃q,xs[i]?=some q/\IsTup s.heap t #[q.2.1,q.2.2]
 |[],[],_,_=>⟨[],.nil,λi t h=>by simp at h⟩
 |[],_::_,h,_=>by cases h
 |_::_,[],h,_=>by cases h
 |t::ps,(k,v)::kvs,ln,hp=>by
  obtain⟨xs,r,a⟩:=KH I ps kvs (by simpa using ln) λi t k v e1 e2=>hp (i+1) t k v (by simpa using e1) (by simpa using e2)
  obtain⟨_,its,rv,it⟩:=(show A5 X.prog X.w H s.heap t (.tup [kV k,v]) from I.hok t _ (hp 0 t k v rfl rfl))
  cases rv with
  |@cons _ wk _ _ ra rb=>
   cases rb with
   |@cons _ wv _ _ rb rc=>
    cases rc;refine⟨(k,wk,wv)::xs,.cons ⟨rfl,ra,rb⟩ r,λi t' e=>?_⟩;cases i with
    |zero=>simp only[List.getElem?_cons_zero,Option.some.injEq] at e;subst e;exact⟨_,rfl,it.is⟩
    |succ i=>exact a i t' (by simpa using e)
theorem VC {kvs:List (Key×V)}{xs:List (Key×Value×Value)}(h:Paired V2 kvs xs):KV kvs (xs.map λq=>(q.1,q.2.2)):=by
 induction h with
 |nil=>exact .nil
 |cons r _ ih=>exact .cons ⟨r.1,r.2.2⟩ ih
theorem SF {kvs:List (Key×V)}{xs:List (Key×Value×Value)}(h:Paired V2 kvs xs):xs.map (·.1)=kvs.map (·.1):=by
 induction h with
 |nil=>rfl
 |cons r _ ih=>rw[av,av,ih,r.1]
theorem NJ {X:Cx}{K:PySem.W.Frag}(hK:X.K=K)(hc:X.calm=true):C7 X (.type "dict") (Um K):=by
 subst hK;intro pins s σ H xs us Q I r h;obtain⟨a,ps,kvs,rfl,h1,ln,hz,nd,hp,q⟩:=h;obtain⟨u,rfl,ru⟩:=vals1 r;cases ru;obtain⟨its,r1,⟨o1,n1,e1,c1,d1,s1⟩,_⟩:=I.list h1;obtain⟨xs,rx,tx⟩:=KH I ps kvs ln hp;have lx:xs.length=kvs.length:=(cT rx).symm;have ndx:(xs.map (·.1)).Nodup:=by rw[SF rx];exact nd
 have li:its.length=ps.length:=by have:=r1.length;rw[aa] at this;exact this.symm
 obtain⟨c,dd,da,sl⟩:=o1;simp only at c1 d1 s1;subst c1 d1 s1;refine OH (A:=X.A) (I.ok.hd hc) ⟨n1,_,e1⟩ (D:=λi h=>h.DictOf (Bo X.prog X.w) s.heap.objs.size ((xs.take i).map λq:Key×Value×Value=>(q.1,q.2.2))) (λi h h' ⟨o,es,ep,z1,z2⟩ k=>⟨o,es,ep,k o z1,z2⟩) (λh e=>?_) (λi v e=>?_) λh' tk k' z=>?_
 ·obtain⟨o,es,ep,z1,z2⟩:=(Heap.DictOf.new (knd:=Bo X.prog X.w) s.heap)
  have e2:(s.heap.push { cls:=.type "dict",data:=.dict #[] }).get? s.heap.objs.size=some { cls:=.type "dict",data:=.dict #[] }:=aJ _ rfl;rw[e2] at z1;cases z1;exact⟨_,es,ep,e,z2⟩
 ·obtain⟨t,et,rfl⟩:=Ow r1 i v e;obtain⟨⟨k,wk,wv⟩,eq,ht⟩:=tx i t et;refine⟨t,wk,wv,rfl,ht,λs2 Q2 E2 old hm hQ=>?_⟩;have rk:RelV (kV k) wk:=by
   obtain⟨p,_,e1,e2,_⟩:=JB rx (aE eq);rw[e1] at e2;exact e2
  have ts:xs.take (i+1)=xs.take i++[(k,wk,wv)]:=by rw[aX,eq];rfl
  have no:valueAt ((xs.take i).map λq:Key×Value×Value=>(q.1,q.2.2)) k=none:=by
   unfold valueAt;rw[Option.map_eq_none_iff,bV];intro x hx z;have e:=bh z;obtain⟨y,hy,rfl⟩:=ax.mp hx;have:=ndx.sublist ((cA (i+1) xs).map _);rw[ts,aq,cX] at this;exact this.2.2 _ (ax.mpr ⟨y,hy,rfl⟩) k (by simp) e
  refine wpAny_dictSet_pairs (hsz:=?_) (k:=k) (Km rk) hm λh' hm' sb=>hQ _ _ ?_ sb
  ·rw[stored_absent no] at hm';rw[ts,aq];exact hm'
  ·rw[aa,aQ,bB];omega
 ·have hb:=I.big;rw[li,ln,<-lx,bU] at z;refine⟨.ref s.heap.objs.size,_,I.laid (o:=.dK kvs) k' (ak _) (Qh (by rw[bB];omega) ?_ (VC rx) z),rfl,q _ I.fresh⟩;rw[bO];exact cV hb
end
end L2
namespace L2
end L2
namespace L2
open PySem
end L2
namespace L2
end L2
namespace L2
end L2
namespace L2
section
open PySem PySem.Calls PyProof.Rows
variable {prog:Program}{w:World}{A:Around}{E:Value->Shared->Prop}{s:Shared}
def Vp (h:Heap)(it l:Addr)(i:Int):Prop:=∃o,h.get? it=some o/\o.cls=.type "reversed"/\o.data=.fields #[.ref l,rawInt i]
theorem Vp.typeIs {it l:Addr}{i:Int}(x:Vp s.heap it l i):s.TypeIs (.ref it) "reversed":=let⟨o,e,c,_⟩:=x;⟨o,e,c⟩
end
end L2
namespace L2
end L2
namespace L2
end L2
namespace L2
end L2
namespace L2
end L2
namespace L2
section
open PySem PySem.Spec PyProof.Rows PySem.Calls
variable {X:Cx}{pins:List (Addr×Obj)}{σ:St}{H:Hp}{s:Shared}{A:Around}
def Ve (K:PySem.W.Frag)(ta:TA)(te:TE):TE:=λσ H Q=>ta σ H λvs H1=>te σ H1 λy H2=>∃(a:Addr) (ns:List Int) (n:Int),vs=[.ref a]/\y=.int n/\AB K H2 a (ns.map V.int)/\Q (.int (if ns=[] then n else Mo ns)) H2
theorem Ry {l e:Expr} {ta:TA} {te:TE} {p pos kp:Pos} (hc:X.calm=true) (hg:Gl X "max") (hm:X.mg "max"=none) (ha:PA X [l] ta) (hE:PE X e te)
  (he:backTo pos (starEach [l] X.env)=(false,eval l X.env)::backTo pos (starEach [] X.env):=by rfl)
  (hpl:(backTo pos (starEach [l] X.env)).any (·.1)=false:=by rfl) :
  PE X (.Call (.Name "max" p) [l] [⟨some "default",e,kp⟩] pos) (Ve X.K ta te):=by
 intro pins s σ H Q I h;refine cm (JZ I hg hm Tz (QK hpl rfl ?_));have hsp:=ha pos pins s σ H _ I h;rw[he] at hsp ⊢;refine evalArgs_kwB rfl (Bz hsp λus s1 ⟨vs,H1,I1,r1,q1⟩=>?_);refine kws_cons (Bz (hE pins s1 σ H1 _ I1 q1) λdv s2 ⟨y,H2,I2,ry,q2⟩=>kws_nil ?_);obtain⟨a,ns,n,rfl,rfl,hq,q⟩:=q2;obtain⟨u,rfl,ru⟩:=vals1 r1;cases ru;obtain⟨tn,rfl⟩:=ry;obtain⟨its,rv,p1,hz⟩:=I2.list hq;have hi:=intsAre_of rv;have ln:its.length=ns.length:=IntsAre.length hi;refine OT (items:=its.toArray) (d:=.int n tn) (I2.ok.hd hc) p1.isList (λi=>ns.getD i 0) (λi v e=>Ga hi (by simpa using e)) λr h' tk hr k=>?_
 obtain⟨t,rfl⟩:∃t,r=Value.int (if ns=[] then n else Mo ns) t:=by
  rcases hr with⟨h0,rfl⟩|⟨h0,h1⟩
  ·have:ns=[]:=List.eq_nil_of_length_eq_zero (by rw[<-ln];simpa using h0);subst this;exact⟨_,rfl⟩
  ·have h2:0<ns.length:=by rw[<-ln];simpa using h0
   obtain⟨t,e⟩:=Ga hi (i:=argBest (λi j=>decide (ns.getD j 0<ns.getD i 0)) (ns.length-1)) (v:=r) (by rw[<-ln];simpa using h1);have:=(KI ns (ns.length-1) (by omega)).2;rw[show ns.length-1+1=ns.length by omega,bU] at this;refine⟨t,?_⟩;rw[aH (λz=>by rw[z] at h2;exact absurd h2 (cp 0)),e,this]
 exact⟨.int (if ns=[] then n else Mo ns),H2,I2.kept (t':=tk) k,⟨t,rfl⟩,q⟩
end
end L2
namespace L2
open PySem PySem.Spec PyProof.Rows
end L2
namespace L2
end L2
namespace L2
noncomputable instance trDec:DecidableEq Tr:=λa b=>Classical.propDecidable (a=b)
end L2
namespace L2
end L2
namespace L2
section
open PySem PySem.Spec PyProof.Rows PySem.Calls
variable {X:Cx}
theorem LV (ns:List Int):∀k,k<ns.length->argBest (λi j=>decide (ns.getD i 0<ns.getD j 0)) k<=k/\∀i,i<=k->ns.getD (argBest (λi j=>decide (ns.getD i 0<ns.getD j 0)) k) 0<=ns.getD i 0
 |0,_=>⟨ak _,λi hi=>by rw[Nat.le_zero.mp hi];exact Int.le_refl _⟩
 |k+1,h=>by
  obtain⟨h1,h2⟩:=LV ns k (by omega);show(if decide (_<_)=true then k+1 else _)<=_/\∀i,i<=k+1->ns.getD (if decide (_<_)=true then k+1 else _) 0<=_
  by_cases q:ns.getD (k+1) 0<ns.getD (argBest (λi j=>decide (ns.getD i 0<ns.getD j 0)) k) 0
  ·rw[aI (aR q)];refine⟨ak _,λi hi=>?_⟩
   by_cases e:i=k+1
   ·rw[e];exact Int.le_refl _
   ·have:=h2 i (by omega);omega
  ·rw[aH (by rw[aO q];exact aA)];refine⟨by omega,λi hi=>?_⟩
   by_cases e:i=k+1
   ·rw[e];omega
   ·exact h2 i (by omega)
def UV (K:PySem.W.Frag):List V->Hp->VK->Prop:=λxs H Q=>∃(a:Addr) (ns:List Int),xs=[.ref a]/\AB K H a (ns.map V.int)/\ns≠[]/\∀m,m∈ns->(∀x∈ns,m<=x)->Q (.int m) H
theorem Pj {K:PySem.W.Frag}(hK:X.K=K)(hc:X.calm=true):C7 X (.builtin "min") (UV K):=by
 subst hK;intro pins s σ H xs us Q I r h;obtain⟨a,ns,rfl,hq,ne,q⟩:=h;obtain⟨u,rfl,ru⟩:=vals1 r;cases ru;obtain⟨its,rv,p1,hz⟩:=I.list hq;have hi:=intsAre_of rv;have ln:its.length=ns.length:=IntsAre.length hi;have h2:0<ns.length:=bI.mpr ne;have ll:a<s.heap.objs.size:=let⟨_,ho,_⟩:=p1.isList;aG ho;refine call_min_walk (du p1.isList ?_);refine⟨s.heap.objs.size,_,_,its.toArray.size,(λi v=>its.toArray[i]?=some v),_,(λi j=>decide (ns.getD i 0<ns.getD j 0)),rfl,gu (A:=X.A.in1) (show X.A.in1.handled=none from I.ok.hd hc) s.heap.objs.size a (aS ll) its.toArray,⟨⟨_,aJ _ rfl,rfl,rfl⟩,p1.isList.at λo e=>af _ e⟩,λb hb=>?_,by rw[aN];omega,CmpOf.ints_lt (λi=>ns.getD i 0) (λi v e=>Ga hi (by simpa using e)),λv h' tk hv k=>?_⟩
 ·rw[bL];rcases aD.mp hb with rfl|hb
  ·exact cH _
  ·rw[ai.mp hb];exact cn ll
 ·obtain⟨t,e⟩:=Ga hi (i:=argBest (λi j=>decide (ns.getD i 0<ns.getD j 0)) (ns.length-1)) (v:=v) (by rw[<-ln];simpa using hv);obtain⟨g1,g2⟩:=LV ns (ns.length-1) (by omega);have gl:argBest (λi j=>decide (ns.getD i 0<ns.getD j 0)) (ns.length-1)<ns.length:=by omega
  refine⟨.int (ns.getD (argBest (λi j=>decide (ns.getD i 0<ns.getD j 0)) (ns.length-1)) 0),H,I.kept (t':=tk) λb o e=>k b o ?_ (af _ e),⟨t,e⟩,q _ ?_ λx hx=>?_⟩
  ·exact λz=>aS (aG e) (ai.mp z)
  ·rw[bw,ah gl];exact bz gl
  ·obtain⟨i,hi2,rfl⟩:=dB hx;have:=g2 i (by omega);rw[bw (i:=i),ah hi2] at this;exact this
end
end L2
namespace L2
end L2
namespace L2
section
open PySem PySem.Spec PyProof.Rows
variable {X:Cx}{pins:List (Addr×Obj)}{σ:St}{H:Hp}{s:Shared}
variable {x1 x2 n:Str}{c1 c2:Value}{body orelse su1 su2:List Stmt}{b1 b2:Stmt}{np1 np2 hp1 hp2 pos:Pos}{i:Nat}
def Qm (i:Nat)(D:Ends):Ends:={ nx:=λσ H=>D.nx (σ.set i none) H,rt:=D.rt,bk:=λσ H=>D.bk (σ.set i none) H,ct:=λσ H=>D.ct (σ.set i none) H }
def SK (K:PySem.W.Frag)(c1 c2:Value)(i:Nat)(tb:S7)(te:TS)(t1 t2:Addr->TS):TS:=λD σ H=>tb { D with nx:=te D } (λcls d σ' H'=>∃(C:Addr) (b:Bool),cls=.ref C/\PySem.W.exmOne K cls c1=some b/\(b=false->PySem.W.exmOne K cls c2=some true)/\∀ea,H' ea=none->
 (if b=true then t1 ea else t2 ea) (Qm i D) (σ'.set i (some (.ref ea))) (upd H' ea (Ek ea C d))) σ H
theorem Po {tb:S7} {te:TS} {t1 t2:Addr->TS} (hst:X.stack=X.env::X.outer/\X.env.frame=some X.env.locals) (hm1:X.mg x1=some c1) (hm2:X.mg x2=some c2) (hg1:Gl X x1) (hg2:Gl X x2) (hN:X.N.Nodup) (hi:X.N[i]?=some n) (hk:X.env.scope.names.lookup n=some .local) (hb:UC X body tb) (he:KU X orelse te)
  (hs1:∀ea:Addr,KU (X.held (.ref ea)) (b1::su1) (t1 ea)) (hs2:∀ea:Addr,KU (X.held (.ref ea)) (b2::su2) (t2 ea))
  (hd1:(x1 == ("__debug__":Str))=false:=by decide) (hd2:(x2 == ("__debug__":Str))=false:=by decide) :
  PS X (.Try body [.ExceptHandler (some (.Name x1 np1)) (some n) (b1::su1) hp1,.ExceptHandler (some (.Name x2 np2)) (some n) (b2::su2) hp2] orelse [] pos) (SK X.K c1 c2 i tb te t1 t2):=by
 intro pins s σ H D I h;refine wpAny_Try_except (bo (hb pins s σ H _ _ I h) (λf s1 q=>?_) λe s1 q=>?_)
 ·cases f with
  |next=>
   obtain⟨σ',H',I',q⟩:=q;exact he pins s1 σ' H' D I' q
  |ret v=>exact q
  |brk=>exact q
  |cont=>exact q
 ·obtain⟨ea,cls,σ',H1,H',s2,B,a0,d,rfl,I2,F,dj,C,b,hC,hx1,hx2,q⟩:=q;subst hC;have hfr:=I.ok.frames;have fl:=F.fl;rw[hst.1] at hfr fl;refine(Ff _ _).also dj (wpAny_looks_onW hfr hst.2 fl λh4 held4 up4 dj4=>?_);refine(CH _ _).also dj4 (wpAny_landsW held4 λh5 fl5 up5 dj5=>?_);have J5:=I2.landed F fl5.1 (up4.trans up5);obtain⟨ob,hob,hcls⟩:=fl5.there;have LT:PySem.W.Looks (model X.prog X.w) h5 (typeOf (.ref ea)) (.ref C):=by
   rw[<-hcls];exact(PySem.W.Looks.ld hob).andThen .now
  have fin:∀{f:Flow} {s9:Shared} {σ8:St} {H8:Hp} {s8:Shared} {D8:Ends} {pp:Pos},Inv X pins σ8 H8 s8->D8=Qm i D->SP (X.held (.ref ea)) pins D8 f s9->wpAny (model X.prog X.w) X.A (do bindName X.env n .none;unbindBehindTheSuite X.env n pp) (λ_ s3=>SP X pins D f s3) X.xe s9:=λ{f s9 σ8 H8 s8 D8 pp} J7 eD z=>by
   subst eD;have z':=z.unheld J7;cases f with
   |next=>
    obtain⟨σ9,H9,I9,q9⟩:=z';exact Em I9 hN hi hk λs10 I10=>⟨_,_,I10,q9⟩
   |brk=>
    obtain⟨σ9,H9,I9,q9⟩:=z';exact Em I9 hN hi hk λs10 I10=>⟨_,_,I10,q9⟩
   |cont=>
    obtain⟨σ9,H9,I9,q9⟩:=z';exact Em I9 hN hi hk λs10 I10=>⟨_,_,I10,q9⟩
   |ret u=>
    obtain⟨v,σ9,H9,I9,r9,q9⟩:=z';exact Em I9 hN hi hk λs10 I10=>⟨v,_,_,I10,r9,q9⟩
  have qq:=q ea F.free;refine e9 (eR (Ez (J5.held (.ref ea)) hg1 hm1 ?_ hd1)) (by intro z;cases z);refine(fj J5.kIn LT hx1).here ?_;cases b with
  |true=>
   refine dW ((CH _ _).also dj5 (lands_againW fl5 λh6 fl6 up6 dj6=>?_));have J6:=I2.landed F fl6.1 ((up4.trans up5).trans up6);have J7:=I2.knowD F J6 fl6.2.2.2 dj6;refine DE (v:=.ref ea) J7 hN hi (.inl hk) rfl (λs8 I8=>?_) (.inr hk);exact bo (hs1 ea pins s8 _ _ _ (I8.held (.ref ea)) qq) (λf s9 z=>fin J7 rfl z) λ_ _ z=>False.elim z
  |false=>
   refine e9 (eR (Ez (J5.held (.ref ea)) hg2 hm2 ?_ hd2)) (by intro z;cases z);refine(fj J5.kIn LT (hx2 rfl)).here ?_;refine dW ((CH _ _).also dj5 (lands_againW fl5 λh6 fl6 up6 dj6=>?_));have J6:=I2.landed F fl6.1 ((up4.trans up5).trans up6);have J7:=I2.knowD F J6 fl6.2.2.2 dj6;refine DE (v:=.ref ea) J7 hN hi (.inl hk) rfl (λs8 I8=>?_) (.inr hk);exact bo (hs2 ea pins s8 _ _ _ (I8.held (.ref ea)) qq) (λf s9 z=>fin J7 rfl z) λ_ _ z=>False.elim z
end
section
open PySem PySem.Spec PyProof.Rows
variable {X:Cx}
def V1 (K:PySem.W.Frag):V->List V->Hp->VK->Prop:=λx vs H Q=>∃(l:Addr) (ns:List Int) (n:Int),x=.ref l/\vs=[.int n]/\AB K H l (ns.map V.int)/\Q (.int (ns.count n:Nat)) H
theorem Mr:Tw X "list.count" (V1 X.K):=by
 intro pins s σ H x vs v us Q I rx rv h;obtain⟨l,ns,n,rfl,rfl,hl,q⟩:=h;cases rx;obtain⟨u,rfl,ru⟩:=rv.one;obtain⟨t,rfl⟩:=ru;obtain⟨its,r,p,_⟩:=I.list hl;exact count_list_ints p.isList (intsAre_of r) ⟨.int _,H,I.tok (s.toks+1),⟨_,rfl⟩,q⟩
theorem Pb:C7 X (.builtin "len") (λxs H Q=>∃d kvs,xs=[V.ref d]/\H d=some (.dK kvs)/\Q (.int kvs.length) H):=by
 rintro pins s σ H xs us Q I r ⟨d,kvs,rfl,hd,q⟩
 obtain⟨_,rfl,ru⟩:=vals1 r;cases ru;exact Vb I (.inl hd) λt _ I'=>⟨.int kvs.length,H,I',⟨t,rfl⟩,q⟩
def VJ (K:PySem.W.Frag)(te:TE)(ts:TO):TE:=λσ H Q=>te σ H λx H1=>ts σ H1 λo H2=>o=some (-1)/\∃a xs,x=.ref a/\AD K H2 a xs/\∀p,H2 p=none->Q (.ref p) (upd H2 p (.tup xs.reverse))
theorem Pr (its:List Value):((List.range its.length).filterMap λ(k:Nat)=>its.toArray[(((its.length:Int)-1)+(k:Int) * -1).toNat]?).toArray=its.reverse.toArray:=by
 congr 1
 refine cB λk=>?_
 have g:∀(l:List Nat),(∀k∈l,k<its.length)->l.filterMap (λ(k:Nat)=>its.toArray[(((its.length:Int)-1)+(k:Int) * -1).toNat]?)=l.map λk=>its.getD (its.length-1-k) Value.none:=by
  intro l
  induction l with
  |nil=>intro _;rfl
  |cons k l ih=>
   intro h;have hk:=h k (ay ..);have e:(((its.length:Int)-1)+(k:Int) * -1).toNat=its.length-1-k:=by omega
   rw[List.filterMap_cons_some (b:=its[its.length-1-k]'(by omega)) (by rw[e,List.getElem?_toArray,ah]),ih λj hj=>h j (az _ hj),av]
   congr 1
   rw[bw,ah (by omega)];rfl
 rw[g _ λk hk=>cG.mp hk,aw]
 by_cases hk:k<its.length
 ·rw[dC hk,List.getElem?_reverse hk];show some (its.getD (its.length-1-k) Value.none)=_;rw[bw,ah (by omega)];rfl
 ·rw[cy (by rw[bK];omega),cy (by rw[dA];omega)];rfl
theorem LA {prog:Program} {w:World} {A:Around} {E:Value->Shared->Prop} {s:Shared} {t sl:Addr} {xs ys:Array Value} {vl vu vs:Value} {lo st:Int} {n:Nat} {Q:Value->Shared->Prop} (ht:IsTup s.heap t xs) (hs:s.heap.IsSliceOf sl vl vu vs)
  (ap:∀(B:Around) (R:Int×Int×Nat->Shared->Prop),R (lo,st,n) s->wpAny (model prog w) B (Builtin.Slice.sliceApplied (.ref sl) (pure (xs.size:Int))) R E s) (hn:(st == 1)=false)
  (hy:((List.range n).filterMap λ(k:Nat)=>xs[(lo+(k:Int)*st).toNat]?).toArray=ys) (sz:sizeOk (.seq ys)) (h:Q (.ref s.heap.objs.size) { s with heap:=s.heap.push { cls:=.type "tuple",data:=.seq ys } }):wpAny (model prog w) A (getItem (.ref t) (.ref sl)) Q E s:=by
 have hT:s.TypeIs (.ref sl) "slice":=by
  obtain⟨o,h1,h2,_⟩:=hs;exact⟨o,h1,h2⟩
 have mid:∀(B:Around) (R:Fin->Shared->Prop),R (.done (.ret (.ref s.heap.objs.size))) { s with heap:=s.heap.push { cls:=.type "tuple",data:=.seq ys } }->wpAny (model prog w) B (Builtin.«tuple.__getitem__» ⟨[.ref t,.ref sl],[]⟩) R E s:=λB R hR=>by
  refine ae (m:=Builtin.Tuple.tupleItemsOf (.ref t)) (tupleItemsOf_ ht (ae (fu hT ?_)));rw[aI (by decide)];refine ae (ap _ _ ?_);have no:¬((lo == 0&&st == 1&&n == xs.size)=true):=by rw[hn,fD,fB];exact aA
  dsimp only;rw[aH no,hy];exact ae (m:=Builtin.Tuple.tupleExact _) (bR (ao hR) sz)
 unfold getItem;refine bu (ae (wpAny_sequenceKey ht.typeIs (by decide) (ae ?_)));exact gL ht.typeIs cq (eF cq ht.typeIs entry_tuple_getitem (mid _ _ ⟨_,rfl,ao h⟩) (args_tuple_getitem _ _))
theorem Pp {prog:Program} {w:World} {A:Around} {E:Value->Shared->Prop} {s:Shared} {t sl:Addr} {its:List Value} {vs:Value} {Q:Value->Shared->Prop} (ht:IsTup s.heap t its.toArray) (hs:s.heap.IsSliceOf sl .none .none vs) (ps:IsPart vs (some (-1))) (hz:its.length<=sizeLine)
  (h:Q (.ref s.heap.objs.size) { s with heap:=s.heap.push { cls:=.type "tuple",data:=.seq its.reverse.toArray } }):wpAny (model prog w) A (getItem (.ref t) (.ref sl)) Q E s:=by
 obtain⟨os,hos,hcs,hds⟩:=id hs;obtain⟨u,rfl⟩:∃u,vs=.int (-1) u:=by
  cases ps;exact⟨_,rfl⟩
 refine LA (lo:=(its.length:Int)-1) (st:=-1) (n:=its.length) ht hs (λB R hR=>?_) rfl (Pr its) (by show its.reverse.toArray.size<=sizeLine;rw[aN,dA];exact hz) h;have e:Builtin.Slice.slicePlaces ((its.toArray.size:Int)-1) (-1) (-1)=its.length:=by
  unfold Builtin.Slice.slicePlaces;rw[aN,aH (by decide),Int.neg_neg,Int.ediv_one]
  by_cases h0:(its.length:Int)-1 > -1
  ·rw[aI h0];omega
  ·rw[aH h0];omega
 unfold Builtin.Slice.sliceApplied Builtin.Slice.sliceFields;refine ae (ae (d8 hos hds rfl (ae (d8 hos hds rfl (ae (d8 hos hds rfl (ao (ae (slicePart_int ?_)))))))));dsimp only[Option.getD_some];rw[aH (by decide)];refine ae (fF (ae (fF (ae (ao (ao ?_))))));show R ((its.toArray.size:Int)-1,-1,Builtin.Slice.slicePlaces ((its.toArray.size:Int)-1) (-1) (-1)) s;rw[e,aN];exact hR
theorem R8 {e st:Expr}{te:TE}{ts:TO}{p2 pos:Pos}(he:PE X e te)(hs:PO X (some st) ts):PE X (.Subscript e (.Slice none none (some st) p2) pos) (VJ X.K te ts):=by
 intro pins s σ H Q I h;refine Subscript_ (Bz (he pins s σ H _ I h) λv s1 ⟨x,H1,I1,r1,q1⟩=>?_);refine wpAny_Slice ?_;rw[gK];refine ao (ao (Bz (hs pins s1 σ H1 _ I1 q1) λvs s3 ⟨o,H3,I3,ps,q3⟩=>?_));obtain⟨rfl,a,xs,rfl,hx,q⟩:=q3;cases r1;have I4:Inv X pins σ H3 { s3 with heap:=s3.heap.push { cls:=.type "slice",data:=.fields #[.none,.none,vs] } }:=I3.kept (t':=s3.toks) λb ob q=>af _ q
 obtain⟨its,r,ht,hz⟩:=I4.tuple hx;show wpAny (model X.prog X.w) X.A (subscriptTail e (.Slice none none (some st) p2) (.ref a) (.ref s3.heap.objs.size)) (EP X pins σ Q) X.xe { s3 with heap:=s3.heap.push { cls:=.type "slice",data:=.fields #[.none,.none,vs] } };refine tail_any (ops:=[.ref a,.ref s3.heap.objs.size]) ht.typeIs PyProof.Rows.slot_tuple_getitem.lookup ?_ (by with_unfolding_all rfl);refine Pp ht (Heap.IsSliceOf.new ..) ps (by rw[<-r.length];exact hz) ?_;refine⟨.ref _,_,I4.laid (t':=s3.toks) (o:=.tup xs.reverse) (λb ob q=>af _ q) (ak _) ?_,rfl,q _ (I4.hok.fresh (ak _))⟩;exact⟨by rw[dA];exact hz,_,r.reverse,JO.new _ _⟩
end
end L2
namespace L2
open PySem
mutual
def Jd:Tr->Tr->Bool
 | .int i,.int j=>i == j
 | .str y,.str z=>y == z
 | .tup ts,.tup us=>Di ts us
 |_,_=>false
def Di:List Tr->List Tr->Bool
 |[],[]=>true
 |t::ts,u::us=>Jd t u&&Di ts us
 |_,_=>false
end
mutual
theorem Tj:∀(t u:Tr),Jd t u=true->t=u
 | .int i,.int j,h=>by rw[eq_of_beq (show(i == j)=true from h)]
 | .str y,.str z,h=>by rw[eq_of_beq (show(y == z)=true from h)]
 | .tup ts,.tup us,h=>by rw[Lg ts us h]
 | .int _,.str _,h | .int _,.tup _,h | .str _,.int _,h | .str _,.tup _,h | .tup _,.int _,h | .tup _,.str _,h=>nomatch h
 | .non,_,h | .bl _,_,h | .lst _,_,h=>by simp[Jd] at h
 | .int _,.non,h | .int _,.bl _,h | .int _,.lst _,h | .str _,.non,h | .str _,.bl _,h | .str _,.lst _,h | .tup _,.non,h | .tup _,.bl _,h | .tup _,.lst _,h=>nomatch h
theorem Lg:∀(ts us:List Tr),Di ts us=true->ts=us
 |[],[],_=>rfl
 |[],_::_,h|_::_,[],h=>nomatch h
 |t::ts,u::us,h=>by
  have h':=bM.mp (show(Jd t u&&Di ts us)=true from h);rw[Tj t u h'.1,Lg ts us h'.2]
end
theorem JS:∀(ts us:List Tr),((List.range (min ts.length us.length)).all (λj=>Jd (ts.getD j .non) (us.getD j .non))&&ts.length == us.length)=Di ts us
 |[],[]=>rfl
 |[],_::_=>rfl
 |_::_,[]=>rfl
 |t::ts,u::us=>by
  rw[aM,aM,Nat.succ_min_succ,List.range_succ_eq_map,fL,eZ];have:=JS ts us;show(Jd t u&&(List.range (min ts.length us.length)).all _&&(ts.length+1 == us.length+1))=(Jd t u&&Di ts us);rw[<-this,Bool.and_assoc]
  congr 2
  rw[cN,cg,cg];omega
abbrev Pu (t:Tr):Prop:=Jd t t=true
theorem Lo:∀{ts:List Tr} {i:Nat} {t:Tr},Di ts ts=true->ts[i]?=some t->Pu t
 |t::ts,0,t',h,e=>by
  cases(aP e);exact(bM.mp (show(Jd t t&&Di ts ts)=true from h)).1
 |t::ts,i+1,t',h,e=>Lo (ts:=ts) (i:=i) (bM.mp (show(Jd t t&&Di ts ts)=true from h)).2 (by simpa using e)
theorem Ls:∀{ts:List Tr},(∀t∈ts,Pu t)->Di ts ts=true
 |[],_=>rfl
 |t::ts,h=>bM.mpr ⟨h t ay,Ls λu hu=>h u (az _ hu)⟩
mutual
theorem Oz {F:Addr->Prop}{H:Hp}:∀(t u:Tr) (v:V),Pu t->Pu u->Rep F H t v->Rep F H u v->Jd t u=true
 | .int i,.int j,v,_,_,h1,h2=>by
  have e:V.int i=V.int j:=(show v=_ from h1).symm.trans h2;cases e;exact beq_self_eq_true i
 | .str y,.str z,v,_,_,h1,h2=>by
  have e:V.str y=V.str z:=(show v=_ from h1).symm.trans h2;cases e;exact beq_self_eq_true y
 | .tup ts,.tup us,v,p,q,⟨a,vs,e1,ha,r1⟩,⟨b,ws,e2,hb,r2⟩=>by
  subst e1;cases e2;rw[ha] at hb;cases hb;exact MG ts us vs p q r1 r2
 | .int i,.str z,v,_,_,h1,h2=>nomatch(show v=V.int i from h1).symm.trans h2
 | .str z,.int i,v,_,_,h1,h2=>nomatch(show v=V.str z from h1).symm.trans h2
 | .int i,.tup us,v,_,_,h1,⟨b,ws,e2,_⟩=>nomatch(show v=V.int i from h1).symm.trans e2
 | .str z,.tup us,v,_,_,h1,⟨b,ws,e2,_⟩=>nomatch(show v=V.str z from h1).symm.trans e2
 | .tup us,.int i,v,_,_,⟨b,ws,e2,_⟩,h1=>nomatch(show v=V.int i from h1).symm.trans e2
 | .tup us,.str z,v,_,_,⟨b,ws,e2,_⟩,h1=>nomatch(show v=V.str z from h1).symm.trans e2
 | .non,_,_,p,_,_,_ | .bl _,_,_,p,_,_,_ | .lst _,_,_,p,_,_,_=>nomatch p
 | .int _,.non,_,_,p,_,_ | .int _,.bl _,_,_,p,_,_ | .int _,.lst _,_,_,p,_,_ | .str _,.non,_,_,p,_,_ | .str _,.bl _,_,_,p,_,_ | .str _,.lst _,_,_,p,_,_ | .tup _,.non,_,_,p,_,_ | .tup _,.bl _,_,_,p,_,_ | .tup _,.lst _,_,_,p,_,_=>nomatch p
theorem MG {F:Addr->Prop}{H:Hp}:∀(ts us:List Tr) (vs:List V),Di ts ts=true->Di us us=true->AX F H ts vs->AX F H us vs->Di ts us=true
 |[],[],_,_,_,_,_=>rfl
 |[],u::us,vs,_,_,h,⟨_,_,e,_⟩=>nomatch(show vs=[] from h).symm.trans e
 |t::ts,[],vs,_,_,⟨_,_,e,_⟩,h=>nomatch(show vs=[] from h).symm.trans e
 |t::ts,u::us,vs,p,q,⟨v,vs',e1,a1,a2⟩,⟨w,ws',e2,b1,b2⟩=>by
  subst e1;cases e2;have p':=bM.mp (show(Jd t t&&Di ts ts)=true from p);have q':=bM.mp (show(Jd u u&&Di us us)=true from q);exact bM.mpr ⟨Oz t u v p'.1 q'.1 a1 b1,MG ts us vs' p'.2 q'.2 a2 b2⟩
end
section
open PySem PyProof.Rows
variable {X:Cx}{pins:List (Addr×Obj)}{σ:St}{H:Hp}{s:Shared}{F:Addr->Prop}
theorem Kz (I:Inv X pins σ H s) {A:Around} {ts us:List Tr} {vs ws:List V} {its its2:List Value} {n:Nat}
  (rec:∀(t u:Tr) (v w:V) (vv ww:Value),t.dep<=n->Pu t->Pu u->Rep F H t v->Rep F H u w->RelV v vv->RelV w ww->SeqAt.EqAt A.in1 s vv ww (Jd t u))
  (d:Tr.deps ts<=n) (p:Di ts ts=true) (q:Di us us=true) (hr1:AX F H ts vs) (hr2:AX F H us ws) (rv1:AJ vs its) (rv2:AJ ws its2) (j:Nat) (g1:j<its.toArray.size) (g2:j<its2.toArray.size) :
  SeqAt.EqAt A.in1 s its.toArray[j] its2.toArray[j] (Jd (ts.getD j .non) (us.getD j .non)):=by
 have g1':j<its.length:=by simpa using g1
 have g2':j<its2.length:=by simpa using g2
 have lv1:=rv1.length;have lv2:=rv2.length;have hx1:vs[j]?=some (vs[j]'(by omega)):=ah _;have hx2:ws[j]?=some (ws[j]'(by omega)):=ah _;obtain⟨y1,hy1,ry1⟩:=rv1.get hx1;obtain⟨y2,hy2,ry2⟩:=rv2.get hx2;obtain⟨t1,e1,p1⟩:=AX.get hr1 hx1;obtain⟨t2,e2,p2⟩:=AX.get hr2 hx2;have:=rec t1 t2 _ _ y1 y2 (ba (Tr.deps_get e1) d) (Lo p e1) (Lo q e2) p1 p2 ry1 ry2;rw[ah g1'] at hy1;rw[ah g2'] at hy2;cases hy1;cases hy2;simp only[List.getD,e1,e2,Option.getD_some];simpa using this
theorem QX (I:Inv X pins σ H s):∀(n:Nat) (A:Around) (t u:Tr) (v w:V) (vv ww:Value),A.units+n<cLine->t.dep<=n->Pu t->Pu u->Rep F H t v->Rep F H u w->RelV v vv->RelV w ww->SeqAt.EqAt A s vv ww (Jd t u)
 |n,A,t,u,v,w,vv,ww,hA,d,p,q,h1,h2,r1,r2=>by
  cases t with
  |int i=>
   cases(show v=V.int i from h1);obtain⟨t1,rfl⟩:=r1;cases u with
   |int j=>cases(show w=V.int j from h2);obtain⟨t2,rfl⟩:=r2;exact SeqAt.EqAt.int_int i t1 j t2
   |str z=>cases(show w=V.str z from h2);obtain⟨t2,rfl⟩:=r2;exact fi i t1 z t2
   |tup us=>obtain⟨b,ws,rfl,hb,_⟩:=h2;cases r2;obtain⟨_,_,p,_⟩:=I.tuple (AD.of (K:=X.K) hb);exact SeqAt.EqAt.int_tuple i t1 p (by omega)
   |_=>exact nomatch q
  |str y=>
   cases(show v=V.str y from h1);obtain⟨t1,rfl⟩:=r1;cases u with
   |int j=>cases(show w=V.int j from h2);obtain⟨t2,rfl⟩:=r2;exact fg y t1 j t2
   |str z=>cases(show w=V.str z from h2);obtain⟨t2,rfl⟩:=r2;exact SeqAt.EqAt.str_str y t1 z t2
   |tup us=>obtain⟨b,ws,rfl,hb,_⟩:=h2;cases r2;obtain⟨_,_,p,_⟩:=I.tuple (AD.of (K:=X.K) hb);exact SeqAt.EqAt.str_tuple y t1 p (by omega)
   |_=>exact nomatch q
  |tup ts=>
   obtain⟨a,vs,rfl,ha,hr1⟩:=h1;cases r1;obtain⟨its,rv1,p1,_⟩:=I.tuple (AD.of (K:=X.K) ha);cases u with
   |int j=>cases(show w=V.int j from h2);obtain⟨t2,rfl⟩:=r2;exact SeqAt.EqAt.tuple_int j t2 p1 (by omega)
   |str z=>cases(show w=V.str z from h2);obtain⟨t2,rfl⟩:=r2;exact SeqAt.EqAt.tuple_str z t2 p1 (by omega)
   |tup us=>
    obtain⟨b,ws,rfl,hb,hr2⟩:=h2;cases r2;obtain⟨its2,rv2,p2,_⟩:=I.tuple (AD.of (K:=X.K) hb)
    by_cases hab:a=b
    ·subst hab;rw[Oz (.tup ts) (.tup us) (.ref a) p q ⟨a,vs,rfl,ha,hr1⟩ ⟨a,ws,rfl,hb,hr2⟩];exact cY _
    ·have l1:=rv1.length.symm.trans (AX.len ts vs hr1);have l2:=rv2.length.symm.trans (AX.len us ws hr2);have d':1+Tr.deps ts<=n:=d;have r:=d9 (A:=A) (s:=s) (e:=λj=>Jd (ts.getD j .non) (us.getD j .non)) p1 p2 (by omega) (λj g1 g2=>Kz I (n:=n-1) (λt u v w vv ww d=>QX I (n-1) A.in1 t u v w vv ww (by show A.units+1+(n-1)<cLine;omega) d) (by omega) p q hr1 hr2 rv1 rv2 j g1 g2);simp only[List.size_toArray,l1,l2,JS] at r;exact fh hab r
   |_=>exact nomatch q
  |_=>exact nomatch p
termination_by n=>n
def V6 (neg:Bool):R2:=λx y H Q=>∃ts us F,Tr.deps ts<=99/\Di ts ts=true/\Di us us=true/\Rep F H (.tup ts) x/\Rep F H (.tup us) y/\Q (.bl (if neg then !Di ts us else Di ts us)) H
theorem Uc (hu9:X.A.units+150<cLine):Gq X (compareOp .Eq) (V6 false):=by
 intro pins s σ H x y v u Q I rx ry h;obtain⟨ts,us,F,d,p,pq,⟨a,vs,rfl,ha,hr1⟩,⟨b,ws,rfl,hb,hr2⟩,q⟩:=h;cases rx;cases ry;obtain⟨its,rv1,p1,_⟩:=I.tuple (AD.of (K:=X.K) ha);obtain⟨its2,rv2,p2,_⟩:=I.tuple (AD.of (K:=X.K) hb);have l1:=rv1.length.symm.trans (AX.len ts vs hr1);have l2:=rv2.length.symm.trans (AX.len us ws hr2);have r:=d9 (A:=X.A) (s:=s) (e:=λj=>Jd (ts.getD j .non) (us.getD j .non)) p1 p2 (by omega) (λj g1 g2=>Kz I (n:=99) (λt u v w vv ww d=>QX I 99 X.A.in1 t u v w vv ww (by show X.A.units+1+99<cLine;omega) d) d p pq hr1 hr2 rv1 rv2 j g1 g2);simp only[List.size_toArray,l1,l2,JS] at r;exact r _ _ _ _ ⟨.bl _,H,I,rfl,q⟩
end
end L2
namespace L2
open PySem PySem.Spec PyProof.Rows
variable {X:Cx}
theorem LS:∀{vs:List V} {us:List Value},us.length=vs.length->(∀(j:Nat) v u,vs[j]?=some v->us[j]?=some u->RelV v u)->AJ vs us
 |[],[],_,_=>.nil
 |[],_::_,h,_=>nomatch h
 |_::_,[],h,_=>nomatch h
 |v::vs,u::us,h,k=>.cons (k 0 v u rfl rfl) (LS (by simpa using h) λj v' u' e1 e2=>k (j+1) v' u' (by simpa using e1) (by simpa using e2))
def Tq:List V->Hp->VK->Prop:=λxs H Q=>∃(d:Addr) (kvs:List (Key×V)),xs=[.ref d]/\H d=some (.dK kvs)/\kvs.length<=100000/\∀l,H l=none->Q (.ref l) (upd H l (.lst (kvs.map λp=>kV p.1)))
theorem Ni (hc:X.calm=true):C7 X (.type "list") Tq:=by
 intro pins s σ H xs us Q I r h;obtain⟨d,kvs,rfl,h1,few,q⟩:=h;obtain⟨u,rfl,ru⟩:=vals1 r;cases ru;obtain⟨_,lo,vs,rv,o,es,ep,ho,h2,h3,h4⟩:A5 X.prog X.w H s.heap d (.dK kvs):=I.hok d _ h1;have D:s.heap.DictAt (Bo X.prog X.w) d vs ep:=⟨o,es,ho,h2,h3,h4⟩
 have ln:vs.length=kvs.length:=rv.length.symm;refine PySem.W.kdl_call (PySem.W.kdl_dict (knd:=Bo X.prog X.w) (kvs:=vs) (ep:=ep) lo) (I.ok.hd hc) D (by rw[ln,bB];omega) λh' tk acc c' hk e' hacc=>?_
 refine⟨.ref s.heap.objs.size,_,I.laid hk (ak _) (show A5 X.prog X.w _ h' _ (.lst (kvs.map λp=>kV p.1)) from⟨?_,acc.toList,c',LS ?_ λj v u e1 e2=>?_,by simpa using e'⟩),rfl,q _ I.fresh⟩
 ·rw[aa,bB];omega
 ·rw[aa,cJ,hacc.1,ln]
 ·obtain⟨ky,x,a1,a2⟩:=hacc.2 j u (by rw[<-cj];exact e2);have e3:(kvs.map (·.1))[j]?=some ky:=by rw[<-Lm rv,aw,a1];rfl
  rw[aw] at e1 e3;cases z:kvs[j]? with
  |none=>rw[z] at e3;cases e3
  |some y=>
   rw[z] at e1 e3;injection e3 with e3
   injection e1 with e1
   have e3:y.1=ky:=e3;rw[<-e1];show RelV (kV y.1) u;rw[e3];exact JA a2
end L2
namespace M06
end M06
set_option maxHeartbeats 4000000
namespace K64
local macro_rules | `(!$x) => do
  let (f, a) ← match x with | `($f:ident $a*) => pure (f, a) | `($f:ident) => pure (f, #[]) | _ => Lean.Macro.throwUnsupported
  let some (n, m, t) := ([([`Ac, `AO, `AW, `BU, `Gs], 1, 0, ""), ([`Gc], 2, 0, ""), ([`Gh, `Ah, `LH, `E8, `Dc, `MI], 3, 0, ""), ([`GH, `FS, `Dj, `As, `Lx, `Ab, `A3, `Bc, `BA, `B9, `Hg], 4, 0, ""), ([`BK, `ME], 4, 2, "r"), ([`MH, `C8, `JX], 4, 3, "d"), ([`Ji], 4, 5, "dd"), ([`Ae, `QL, `AY, `Q9, `OP, `Tf, `Om], 5, 0, ""), ([`Uq], 5, 2, "f"), ([`Aa, `Av], 5, 3, "r"), ([`CT, `Hz, `JT, `SX], 6, 0, ""), ([`BE], 6, 4, "r"), ([`D5], 6, 4, "rr"), ([`Lr], 6, 5, "rrr"), ([`Hh, `PL, `Ai, `Im, `T9, `R8], 7, 0, ""), ([`Bu, `BF, `Am, `NW], 8, 0, ""), ([`Od, `T8], 8, 3, "f"), ([`Fp, `AA], 8, 4, "f"), ([`Ry], 8, 7, "rr"), ([`IZ], 9, 5, "f"), ([`UJ], 9, 7, "rr"), ([`Aw, `Bf], 9, 9, "ddrr"), ([`E5], 10, 0, ""), ([`AM, `OA], 10, 7, "drr"), ([`MW], 11, 7, "drr"), ([`D9], 11, 8, "drr"), ([`Mq], 12, 0, ""), ([`KS], 12, 8, "dr"), ([`Cf], 12, 11, "rrrrr"), ([`NC], 14, 8, "rrr")] : List (List Lean.Name × Nat × Nat × String)).findSome? (λ(l, n) => if l.contains f.getId then some n else none) | Lean.Macro.throwUnsupported
  let u ← `(_)
  let us := Array.replicate n u
  let mut p := #[]
  for c in t.toList.drop (t.length + a.size - m) do
    let v ← if c == 'r' then `(by rfl) else if c == 'd' then `(by decide) else if c == 'f' then `(rfl) else `(by trivial)
    p := p.push v
  `(@$f $us* $a* $p*)
set_option hygiene false
local macro_rules | `(tactic| exists $t) => `(tactic| refine F.ok $t (fun vs H Q E h => ?_) (fun cdv A outer s H vs Q E hr h => ?_))
set_option hygiene true
local macro_rules | `(tactic| trivial) => `(tactic| first | exact .inl rfl | exact .inr rfl | assumption | exact ⟨rfl, rfl, rfl, by decide +kernel, rfl, by decide +kernel, by decide +kernel⟩ | exact L2.Room.mono (by assumption) (by decide))
open PySem L2 M06
theorem Fm : 0 <= sizeLine := small (by decide)
theorem QO : 1 <= sizeLine := small (by decide)
theorem E3 : 2 <= sizeLine := small (by decide)
theorem II : 3 <= sizeLine := small (by decide)
theorem Wz : 4 <= sizeLine := small (by decide)
theorem LJ : 5 <= sizeLine := small (by decide)
theorem V4 : 6 <= sizeLine := small (by decide)
def top (i:Nat):Stmt:=PySem.Challenge.pw_stemshelf_k64_accounts_read.main.body.getD i (.Pass ⟨0,0,0,0⟩)
abbrev DZ:Stmt:=top 2
theorem Nn:FnScope ["thing","least","most"] ["thing","least","most"] (Ag DZ):=by trivial
abbrev Co:Stmt:=inClass (top 5) 0
theorem Jj:FnScope ["self","name"] ["self","name"] (Ag Co):=by trivial
abbrev Cj:Stmt:=inClass (top 6) 0
theorem JK:FnScope ["self","path"] ["self","path"] (Ag Cj):=by trivial
abbrev D0:Stmt:=top 13
theorem Na:FnScope ["thing"] ["thing"] (Ag D0):=by trivial
abbrev DU:Stmt:=top 14
theorem Nd:FnScope ["block"] ["block"] (Ag DU):=by trivial
abbrev BN:Stmt:=top 16
theorem ED:FnScope ["pool","tag","block"] ["pool","tag"] (Ag BN):=by trivial
abbrev CB:Stmt:=top 18
theorem GC:FnScope ["some","name","one"] ["some","name"] (Ag CB):=by trivial
abbrev Ds:Stmt:=top 19
theorem ID:FnScope ["head","name","named"] ["head","name"] (Ag Ds):=by trivial
abbrev Dv:Stmt:=top 22
theorem Iq:FnScope ["path","steps"] ["path"] (Ag Dv):=by trivial
abbrev DY:Stmt:=top 23
theorem MY:FnScope ["folder","name"] ["folder","name"] (Ag DY):=by trivial
abbrev Du:Stmt:=top 25
theorem El:FnScope ["pool","root","path","entry","step"] ["pool","root","path"] (Ag Du):=by trivial
abbrev BV:Stmt:=top 26
theorem CO:FnScope ["folder","name","called","kind","tag"] ["folder","name"] (Ag BV):=by trivial
abbrev EW:Stmt:=top 27
theorem C2:FnScope ["pool","root","found","layer","beneath","path","kind","tag"] ["pool","root"] (Ag EW):=by trivial
abbrev Bv:Stmt:=inClass (top 29) 0
theorem GT:FnScope ["self","account"] ["self","account"] (Ag Bv):=by trivial
abbrev Bj:Stmt:=inClass (top 29) 1
theorem Gz:FnScope ["self","tag"] ["self","tag"] (Ag Bj):=by trivial
abbrev DW:Stmt:=top 30
theorem MR:FnScope ["account","name"] ["account","name"] (Ag DW):=by trivial
abbrev Dt:Stmt:=top 31
theorem Mm:FnScope ["account","name","path"] ["account","name","path"] (Ag Dt):=by trivial
abbrev Cy:Stmt:=top 32
theorem Kg:FnScope ["account","tag"] ["account","tag"] (Ag Cy):=by trivial
abbrev Dl:Stmt:=top 33
theorem Ir:FnScope ["account","name","found"] ["account","name"] (Ag Dl):=by trivial
abbrev B1:Stmt:=top 35
theorem IK:FnScope ["_law_script","_law_k"] ["_law_script","_law_k"] (Ag B1):=by trivial
abbrev Dx:Stmt:=top 36
theorem DG:FnScope ["_law_cell","_law_many_here","_law_found","_law_k","_law_number"] ["_law_cell","_law_many_here"] (Ag Dx):=by trivial
abbrev CF:Stmt:=top 37
theorem BC:FnScope ["_law_row_here","_law_many_here","_law_signs","_law_word","_law_at","_law_found","_law_k","_law_one"] ["_law_row_here","_law_many_here"] (Ag CF):=by trivial
abbrev CW:Stmt:=top 38
theorem GZ:FnScope ["_law_row_here","_law_at","_law_signs"] ["_law_row_here","_law_at"] (Ag CW):=by trivial
abbrev Dr:Stmt:=top 39
theorem Be:FnScope ["_law_block","_law_signs","_law_told","_law_name","_law_kind","_law_tag","_law_found","_law_number"] ["_law_block"] (Ag Dr):=by trivial
abbrev Do:Stmt:=top 40
theorem Ey:FnScope ["_law_pool","_law_blocks_here","_law_block","_law_birth","_law_number","_law_tag"] ["_law_pool","_law_blocks_here","_law_block","_law_birth"] (Ag Do):=by trivial
abbrev BX:Stmt:=top 41
theorem BH:FnScope ["_law_row_here","_law_at","_law_names_here","_law_files","_law_folders","_law_found","_law_k","_law_number","_law_kind","_law_name"] ["_law_row_here","_law_at","_law_names_here","_law_files","_law_folders"] (Ag BX):=by trivial
abbrev Ck:Stmt:=top 42
theorem Bb:FnScope ["_law_script","_law_pool","_law_names_here","_law_blocks_here","_law_row_here","_law_pieces","_law_rows","_law_k","_law_some","_law_folders","_law_more"] ["_law_script","_law_pool","_law_names_here"] (Ag Ck):=by trivial
abbrev CC:Stmt:=top 43
theorem Dy:FnScope ["_law_entries_here","_law_stem","_law_number","_law_own","_law_least","_law_seals"] ["_law_entries_here","_law_stem","_law_number"] (Ag CC):=by trivial
abbrev CY:Stmt:=top 44
theorem A4:FnScope ["_law_script","_law_names_here","_law_folders","_law_row_here","_law_keepers","_law_k","_law_bound","_law_entries_here","_law_tag","_law_which","_law_stem"] ["_law_script","_law_names_here","_law_folders"] (Ag CY):=by trivial
abbrev C3:Stmt:=top 45
theorem LC:FnScope ["_law_block"] ["_law_block"] (Ag C3):=by trivial
abbrev B3:Stmt:=top 46
theorem CS:FnScope ["_law_blocks_here","_law_tags_here","_law_found","_law_waiting","_law_number"] ["_law_blocks_here","_law_tags_here"] (Ag B3):=by trivial
abbrev CZ:Stmt:=top 47
theorem CI:FnScope ["_law_blocks_here","_law_head_here","_law_held_here","_law_keeper","_law_bound","_law_stems","_law_tags_here"] ["_law_blocks_here","_law_head_here"] (Ag CZ):=by trivial
abbrev B7:Stmt:=top 48
theorem Fe:FnScope ["_law_blocks_here","_law_tag","_law_entries_here"] ["_law_blocks_here","_law_tag"] (Ag B7):=by trivial
abbrev Cw:Stmt:=top 49
theorem Cm:FnScope ["_law_script","_law_names_here","_law_cell","_law_blocks_here","_law_pool","_law_folders"] ["_law_script","_law_names_here"] (Ag Cw):=by trivial
abbrev BL:Stmt:=top 50
theorem GD:FnScope ["_law_thing"] ["_law_thing"] (Ag BL):=by trivial
abbrev Ci:Stmt:=top 51
theorem Gb:FnScope ["_law_one","_law_other"] ["_law_one","_law_other"] (Ag Ci):=by trivial
abbrev BD:Stmt:=top 52
theorem FT:FnScope ["_law_blocks_here","_law_number"] ["_law_blocks_here","_law_number"] (Ag BD):=by trivial
abbrev CG:Stmt:=top 53
theorem Dz:FnScope ["_law_blocks_here","_law_head_here","_law_met","_law_number","_law_times","_law_other"] ["_law_blocks_here","_law_head_here","_law_met","_law_number"] (Ag CG):=by trivial
abbrev BZ:Stmt:=top 54
theorem AF:FnScope ["_law_blocks_here","_law_head_here","_law_held_here","_law_met","_law_cells","_law_number","_law_tag","_law_block","_law_holders","_law_height_here","_law_shares","_law_keeper","_law_bound","_law_top","_law_by"] ["_law_blocks_here","_law_head_here"] (Ag BZ):=by trivial
abbrev Bq:Stmt:=top 55
theorem DL:FnScope ["_law_blocks_here","_law_tag","_law_block"] ["_law_blocks_here","_law_tag"] (Ag Bq):=by trivial
abbrev B6:Stmt:=top 56
theorem Ca:FnScope ["_law_blocks_here","_law_path","_law_tag","_law_found","_law_name","_law_kind","_law_below","_law_to"] ["_law_blocks_here","_law_path","_law_tag"] (Ag B6):=by trivial
abbrev CA:Stmt:=top 57
theorem Cn:FnScope ["_law_blocks_here","_law_account_here","_law_entry","_law_names_here","_law_tree_here","_law_found","_law_path","_law_kind","_law_tag"] ["_law_blocks_here","_law_account_here","_law_entry","_law_names_here"] (Ag CA):=by trivial
abbrev BW:Stmt:=top 58
theorem Cg:FnScope ["_law_account_here","_law_name","_law_path","_law_found","e"] ["_law_account_here","_law_name","_law_path"] (Ag BW):=by trivial
abbrev BJ:Stmt:=top 59
theorem BY:FnScope ["_law_account_here","_law_name","_law_wrong","e","_law_path"] ["_law_account_here","_law_name"] (Ag BJ):=by trivial
abbrev G4:Stmt:=top 60
theorem E9:FnScope ["_law_script","_law_names_here","_law_pool","_law_blocks_here","_law_head_here","_law_account_here","_law_handed","_law_entry","_law_odd"] ["_law_script"] (Ag G4):=by trivial
structure Txt (K:W.Frag) (mg:Str->Option Value) (C:Addr) (XC:Nat->Addr):Prop where
 cl:LZ K C
 n_blocks:GL K C "blocks"
 x_NoPath:mg "NoPath"=some (.ref (XC 0))
 x_NoName:mg "NoName"=some (.ref (XC 1))
 x_StemError:mg "StemError"=some (.ref (XC 2))
 m_NoName_NoName:W.exmOne K (.ref (XC 1)) (.ref (XC 1))=some true
 m_NoPath_NoName:W.exmOne K (.ref (XC 0)) (.ref (XC 1))=some false
 m_NoPath_NoPath:W.exmOne K (.ref (XC 0)) (.ref (XC 0))=some true
 m_NoName_StemError:W.exmOne K (.ref (XC 1)) (.ref (XC 2))=some true
 i_NoPath:ExiCls K (XC 0)
 f_NoPath:W.findIn K (.ref (XC 0)) "path"=some none
 i_NoName:ExiCls K (XC 1)
 f_NoName:W.findIn K (.ref (XC 1)) "name"=some none
 k_NoName_NoName:W.kitOne K (.ref (XC 1)) (.ref (XC 1))=some true
 k_NoName_ValueError:W.kitOne K (.ref (XC 1)) (.type "ValueError")=some true
 k_NoName_StemError:W.kitOne K (.ref (XC 1)) (.ref (XC 2))=some true
 k_NoName_NoPath:W.kitOne K (.ref (XC 1)) (.ref (XC 0))=some false
 k_NoPath_ValueError:W.kitOne K (.ref (XC 0)) (.type "ValueError")=some true
 k_NoPath_StemError:W.kitOne K (.ref (XC 0)) (.ref (XC 2))=some true
 k_NoPath_NoName:W.kitOne K (.ref (XC 0)) (.ref (XC 1))=some false
 b_ValueError:mg "ValueError"=none
 b_all:mg "all"=none
 b_dict:mg "dict"=none
 b_int:mg "int"=none
 b_isinstance:mg "isinstance"=none
 b_len:mg "len"=none
 b_list:mg "list"=none
 b_max:mg "max"=none
 b_min:mg "min"=none
 b_range:mg "range"=none
 b_sorted:mg "sorted"=none
 b_str:mg "str"=none
 b_sum:mg "sum"=none
 b_tuple:mg "tuple"=none
 c_SIGNS:∃t,mg "SIGNS"=some (.str (PySem.Str.ofString " !\"#$&'()*+,-./0123456789:;<=>?@ABCDEFGHIJKLMNOPQRSTUVWXYZ[\\]^_`abcdefghijklmnopqrstuvwxyz{|}~") t)
 c_PIECE:∃t,mg "PIECE"=some (.int 0 t)
 c_ROW:∃t,mg "ROW"=some (.int 1 t)
 c_FOLDER_ENTRY:∃t,mg "FOLDER_ENTRY"=some (.int 2 t)
 c_NAME_SIGNS:∃t,mg "NAME_SIGNS"=some (.str (PySem.Str.ofString "0123456789abcdefghijklmnopqrstuvwxyz") t)
 c_MOST_NAME_SIGNS:∃t,mg "MOST_NAME_SIGNS"=some (.int 8 t)
 c_MOST_STEPS:∃t,mg "MOST_STEPS"=some (.int 8 t)
abbrev SG:Str:=PySem.Str.ofString " !\"#$&'()*+,-./0123456789:;<=>?@ABCDEFGHIJKLMNOPQRSTUVWXYZ[\\]^_`abcdefghijklmnopqrstuvwxyz{|}~"
theorem Tx:SG.cps.toList.length=94:=by decide +kernel
theorem RC:∀k:Nat,k<94->PySem.Txt.find SG ⟨#[SG.cps.toList.getD k 0]⟩=(k:Int):=by decide +kernel
section
variable {P:Program}{w:World}{K:W.Frag}{mg:Str->Option Value}{base:Heap}{f C:Addr}{XC:Nat->Addr}{fd:FuncData}
def CK (t:Str)(z:Str):Bool:=(AR z).all λc=>decide (c∈AR t)
def Iv (a b:Int):V->Bool
 | .str z=>decide (a<=(z.length:Int))&&decide ((z.length:Int)<=b)&&CK SG z
 |_=>false
theorem Qv {H:Hp}{v:V}{a b:Int}(h:isA (IC H v) "str"=false):Iv a b v=false:=by
 cases v with
 |str z=>exact absurd (show isA "str" "str"=false from h) (by decide)
 |_=>rfl
def GM (K:W.Frag):Sp:=λvs H Q _=>∃v a b,vs=[v,.int a,.int b]/\Ok H v/\∀H',Al H H'->Q (.bl (Iv a b v)) H'
theorem KW (t z:Str):((AR z).map λc=>V.str ⟨#[c]⟩).map (λv=>match v with|V.str y=>V.bl (!(Builtin.Str.occurrences t y 0 t.length 1).isEmpty)|_=>V.non)=((AR z).map λc=>decide (c∈AR t)).map V.bl:=by
 rw[aj,aj];refine bP λc _=>?_
 show V.bl (!(Builtin.Str.occurrences t ⟨#[c]⟩ 0 t.length 1).isEmpty)=V.bl (decide (c∈AR t));rw[PySem.StrLaws.found_one]
theorem Ng (T:Txt K mg C XC)(F:Fun K "is_text" "is_text" DZ f fd):FnOk P w K mg base CU 1 f fd ["thing","least","most"] (GM K):=by
 exists Nn
 ·obtain⟨v,a,b,rfl,_⟩:=h;rfl
 obtain⟨v,a,b,rfl,ok,q⟩:=h;refine⟨_,(!Ae (!Bu (@PW.pt _ _ _ (!Hh (!GH (!Gh (!Aw Eo (by rfl) T.b_isinstance AZ (!Aa (pv 0) (!Aa (!Ji rfl T.b_str PY) (!Ac)))) (by intro _;rfl))) (!FS (!GH (!Mq N9 N9 (pv 1) (!Aw Fg (by rfl) T.b_len Cs (!Aa (pv 0) (!Ac))) (pv 2) (by with_unfolding_all rfl)))))) (!Ah (!As (!Dj))) (!AO)) (!Ah (!As (!Aw (Js rfl) (by rfl) T.b_all M9 (!Aa (@BO _ ["sign"] _ _ _ _ _ _ _ _ _ _ rfl (!Lx (pv 0)) (by decide +kernel) (λC s H fp=>⟨(@Ak _ _ (0) _ (show(["sign"]:List Str).Nodup by decide +kernel) rfl (by trivial) (by trivial)),(!AW),(!Fp Kq (pv 0) (!MH rfl T.c_SIGNS))⟩) (by intro _;rfl)) (!Ac)))))),?_⟩;refine⟨_,rfl,_,_,_,_,rfl,ok.ty K,ok.kit K,_,rfl,?_⟩;cases hw:isA (IC H v) "str" with
 |false=>
  refine DR rfl ?_;have:=q H (Al.refl _);rw[Qv hw] at this;exact this
 |true=>
  refine By rfl ?_;obtain⟨z,rfl,hz⟩:=Te ok hw;have zl:=Bg z;refine⟨_,rfl,_,rfl,_,rfl,small (by omega),_,_,rfl,rfl,_,rfl,?_⟩;refine DN (λc=>?_) (λc=>?_)
  ·refine⟨_,rfl,_,_,rfl,rfl,_,rfl,?_⟩;refine DN (λd=>?_) (λd=>?_)
   ·have d':decide ((z.length:Int)<=b)=false:=by simpa using d
    have e:Iv a b (.str z)=false:=by show(decide (a<=(z.length:Int))&&decide ((z.length:Int)<=b)&&CK SG z)=_;rw[d',fD];rfl
    have:=q H (Al.refl _);rw[e] at this;exact this
   ·have d':decide ((z.length:Int)<=b)=true:=by simpa using d
    refine⟨_,rfl,z,rfl,?_⟩;refine comp_map (λv=>match v with | .str y=>.bl (!(Builtin.Str.occurrences SG y 0 SG.length 1).isEmpty)|_=>.non) JQ (by rw[aa];exact ba (dZ zl) (by omega)) (λx H' R hx s' hR=>?_) λl H7 n7 s7 h7=>?_
    ·obtain⟨u,_,rfl⟩:=ax.mp hx;exact⟨_,rfl,_,_,rfl,rfl,hR H' (Al.refl _)⟩
    rw[KW] at h7;refine⟨l,_,rfl,AB.of h7,?_⟩;have e:Iv a b (.str z)=((AR z).map λc=>decide (c∈AR SG)).all id:=by
     show(decide (a<=(z.length:Int))&&decide ((z.length:Int)<=b)&&CK SG z)=_;unfold CK;rw[c,d',eZ];rfl
    have:=q H7 s7;rw[e] at this;exact this
  ·have c':decide (a<=(z.length:Int))=false:=cD.mpr c;have e:Iv a b (.str z)=false:=by show(decide (a<=(z.length:Int))&&decide ((z.length:Int)<=b)&&CK SG z)=_;rw[c',fB];rfl
   have:=q H (Al.refl _);rw[e] at this;exact⟨_,rfl,this⟩
abbrev NS:Str:=PySem.Str.ofString "0123456789abcdefghijklmnopqrstuvwxyz"
abbrev LN:Str:=PySem.Str.ofString "abcdefghijklmnopqrstuvwxyz0123456789"
theorem QE:(∀c∈AR NS,c∈AR LN)/\∀c∈AR LN,c∈AR NS/\c∈AR SG:=by decide +kernel
def Cv:V->Bool
 | .str z=>decide ((1:Int)<=z.length)&&decide ((z.length:Int)<=8)&&CK LN z
 |_=>false
theorem Pc (z:Str):(CK SG z&&CK NS z)=CK LN z:=by
 unfold CK;rw[cN,bq,cf,cf,cf];simp only[decide_eq_true_eq];exact⟨λh c hc=>QE.1 c (h.2 c hc),λh=>⟨λc hc=>(QE.2 c (h c hc)).2,λc hc=>(QE.2 c (h c hc)).1⟩⟩
theorem OC (v:V):Cv v=match v with | .str z=>Iv 1 8 v&&CK NS z|_=>false:=by
 cases v with
 |str z=>
  show(decide ((1:Int)<=z.length)&&decide ((z.length:Int)<=8)&&CK LN z)=((decide ((1:Int)<=(z.length:Int))&&decide ((z.length:Int)<=8)&&CK SG z)&&CK NS z);rw[<-Pc z];simp only[Bool.and_assoc]
 |_=>rfl
def GN (K:W.Frag):Sp:=λvs H Q _=>∃v,vs=[v]/\Ok H v/\∀H',Al H H'->Q (.bl (Cv v)) H'
theorem MT (T:Txt K mg C XC)(F:Fun K "is_name" "is_name" D0 f fd)(Ij:Def P w K mg base 1 "is_text" ["thing","least","most"] (GM K)):FnOk P w K mg base CU 2 f fd ["thing"] (GN K):=by
 exists Na
 ·obtain⟨v,rfl,_⟩:=h;rfl
 obtain⟨v,rfl,ok,q⟩:=h;refine⟨_,(!Ah (!As (!PL (!AM Ij (by trivial) rfl (!Aa (pv 0) (!Aa (!Ab) (!Aa (!C8 rfl T.c_MOST_NAME_SIGNS) (!Ac))))) (!QL (!Aw (Js rfl) (by rfl) T.b_all M9 (!Aa (@BO _ ["sign"] _ _ _ _ _ _ _ _ _ _ rfl (!Lx (pv 0)) (by decide +kernel) (λC s H fp=>⟨(@Ak _ _ (0) _ (show(["sign"]:List Str).Nodup by decide +kernel) rfl (by trivial) (by trivial)),(!AW),(!Fp Kq (pv 0) (!MH rfl T.c_NAME_SIGNS))⟩) (by intro _;rfl)) (!Ac))))))),?_⟩;refine⟨_,rfl,v,1,8,rfl,ok,λH1 s1=>⟨_,rfl,?_⟩⟩;have en:=OC v;refine DN (λc=>?_) (λc=>?_)
 ·cases v with
  |str z=>
   have hz:z.length<=1000:=ok;have zl:=Bg z;refine⟨_,rfl,z,rfl,?_⟩;refine comp_map (λv=>match v with | .str y=>.bl (!(Builtin.Str.occurrences NS y 0 NS.length 1).isEmpty)|_=>.non) JQ (by rw[aa];exact ba (dZ zl) (by omega)) (λx H' R hx s' hR=>?_) λl H7 n7 s7 h7=>?_
   ·obtain⟨u,_,rfl⟩:=ax.mp hx;exact⟨_,rfl,_,_,rfl,rfl,hR H' (Al.refl _)⟩
   rw[KW] at h7;refine⟨l,_,rfl,AB.of h7,?_⟩;have e:Cv (.str z)=((AR z).map λc=>decide (c∈AR NS)).all id:=by
    rw[en];show(Iv 1 8 (.str z)&&CK NS z)=_;rw[c];unfold CK;rw[eZ];rfl
   have:=q H7 (s1.trans s7);rw[e] at this;exact this
  |_=>exact absurd (show false=true from c) aA
 ·have e:Cv v=false:=by
   rw[en];cases v with
   |str z=>show(Iv 1 8 (.str z)&&CK NS z)=false;rw[cD.mpr c];rfl
   |_=>rfl
  have:=q H1 s1;rw[e] at this;exact this
def BI (K:W.Frag):Sp:=λvs H Q _=>∃(a:Addr) (ns:List Int) (k:Int),vs=[.ref a,.int k]/\0<=k/\AB K H a (ns.map V.int)/\∀z:Int,Q (.int z) H
theorem IJ (T:Txt K mg C XC)(F:Fun K "_law_cell_at" "_law_cell_at" B1 f fd):FnOk P w K mg base CU 1 f fd ["_law_script","_law_k"] (BI K):=by
 exists IK
 ·obtain⟨a,ns,k,rfl,_⟩:=h;rfl
 obtain⟨a,ns,k,rfl,hk,hS,q⟩:=h;refine⟨_,(!Ae (!Bu (!AA QU (pv 1) (!Aw A0 (by rfl) T.b_len Cs (!Aa (pv 0) (!Ac))) (AG _)) (!Ah (!As (!Ai Ax (pv 0) (pv 1) (λ_ _=>rfl)))) (!AO)) (!Ah (!As (!Ab)))),?_⟩;refine⟨_,rfl,_,rfl,a,_,rfl,.inl hS,_,_,rfl,rfl,_,rfl,DN (λc=>?_) (λc=>q 0)⟩;have c':=dec_true c;rw[aa] at c';exact⟨_,rfl,_,rfl,a,_,_,_,rfl,rfl,hS,C5 hk c',q _⟩
theorem Jl (T:Txt K mg C XC)(F:Fun K "__init__" "NoPath.__init__" Cj f fd):FnOk P w K mg base CU 1 f fd ["self","path"] (NB (XC 0) "path"):=by
 exists JK
 ·obtain⟨e,y,rfl,_⟩:=h;rfl
 obtain⟨e,y,rfl,he,q⟩:=h;refine⟨_,(!Ah (!Od (pv 0) (pv 1))),?_⟩;exact⟨_,rfl,_,rfl,e,XC 0,rfl,he,T.i_NoPath,T.f_NoPath,q⟩
abbrev SL:Str:=PySem.Str.ofString "/"
abbrev EM:Str:=PySem.Str.ofString ""
def FL (ss:List Str):Bool:=decide (ss.length<=8)&&ss.all λz=>Cv (.str z)
def Er (K:W.Frag)(XC:Nat->Addr):Sp:=λvs H Q E=>∃z,vs=[.str z]/\z.length<=1000/\(z=EM->∀l H',Al H H'->H l=none->H' l=some (.lst [])->Q (.ref l) H')/\
 (z≠EM->FL (PySem.Txt.split z SL)=true->∀l H',Al H H'->H l=none->H' l=some (.lst ((PySem.Txt.split z SL).map V.str))->Q (.ref l) H')/\
 (z≠EM->FL (PySem.Txt.split z SL)=false->∀H' dx,Al H H'->H' dx=none->E (.ref (XC 0)) (some dx) (upd H' dx (.xd [("path",.str z)])))
theorem L9 (T:Txt K mg C XC)(F:Fun K "steps_in" "steps_in" Dv f fd)(ET:QP P w K mg base 1 "NoPath" (XC 0) "path" ["self","path"])(HY:Def P w K mg base 2 "is_name" ["thing"] (GN K)):FnOk P w K mg base (MJ P w) 3 f fd ["path"] (Er K XC):=by
 refine F.okE Iq (λvs H Q E h=>?_) (λcdv A outer s H vs Q E hr h=>?_)
 ·obtain⟨z,rfl,_⟩:=h;rfl
 obtain⟨z,rfl,hz,q0,q1,q2⟩:=h;have hu:=Cp hr;refine⟨_,(!Ae (!Bu (!AA CJ (pv 0) (!A3) (AG _)) (!Ah (!As (!Bc (!Ac)))) (!AO)) (!Ae (@Ap _ _ (1) _ _ _ _ Iq.nd rfl (by trivial) (!Cf bN PySem.F.slot_str_split PySem.F.type_str_split PJ (pv 0) (!Aa (!A3) (!Ac))) (by rfl) (by trivial)) (!Ae (!Bu (@PW.pt _ _ _ (!Hh (!AA Q7 (!Aw A0 (by rfl) T.b_len Cs (!Aa (pv 1) (!Ac))) (!C8 rfl T.c_MOST_STEPS) (AG _)) (!FS (!GH (!Gh (!Aw (Js rfl) (by rfl) T.b_all M9 (!Aa (@BO _ ["step"] _ _ _ _ _ _ _ _ _ _ rfl (!BA (pv 1)) (by decide +kernel) (λC s H fp=>⟨(@Ak _ _ (0) _ (show(["step"]:List Str).Nodup by decide +kernel) rfl (by trivial) (by trivial)),(!AW),(!AM HY (by trivial) rfl (!Aa (pv 0) (!Ac)))⟩) (by intro _;rfl)) (!Ac))) (by intro _;rfl)))))) (!Ah (!KS JV rfl ET (by trivial) rfl (!Aa (pv 0) (!Ac)))) (!AO)) (!Ah (!As (pv 1)))))),?_⟩
 try dsimp only[Bw,Cx.nox,Cx.wish]
 refine⟨_,rfl,rfl,_,rfl,DN (λc=>?_) (λc=>?_)⟩
 ·have c':V.str z=V.str EM:=dec_true c;exact⟨Fm,λl hl=>q0 (V.str.inj c') l _ (Af hl _) hl Ad⟩
 have ne:z≠EM:=λe=>dec_false c (by rw[e])
 refine⟨_,rfl,rfl,z,SL,rfl,rfl,rfl,by omega,λp hp=>?_⟩;have s1:=Af hp (.lst ((PySem.Txt.split z SL).map V.str));have hp1:(upd H p (.lst ((PySem.Txt.split z SL).map V.str))) p=some (.lst ((PySem.Txt.split z SL).map V.str)):=Ad;have short:∀a∈PySem.Txt.split z SL,a.length<=1000:=λa ha=>ba (PyProof.Rows.part_short ha) hz
 have few:(PySem.Txt.split z SL).length<=1002:=ba (PyProof.Rows.split_le z SL) (by omega);generalize upd H p (.lst ((PySem.Txt.split z SL).map V.str))=H1 at s1 hp1;have fin:∀H',Al H1 H'->FL (PySem.Txt.split z SL)=true->Q (.ref p) H':=λH' s' g=>q1 ne g p H' (s1.trans s') hp (s'.get hp1)
 have out:∀H',Al H1 H'->FL (PySem.Txt.split z SL)=false->∀dx,H' dx=none->E (.ref (XC 0)) (some dx) (upd H' dx (.xd [("path",.str z)])):=λH' s' g dx hd=>q2 ne g H' dx (s1.trans s') hd
 generalize PySem.Txt.split z SL=ss at hp1 short few fin out;refine⟨_,rfl,p,_,rfl,.inl (AB.of hp1),_,_,rfl,rfl,_,rfl,DN (λc=>?_) (λc=>?_)⟩
 ·have c':=bh c;rw[aa] at c';exact⟨_,rfl,_,rfl,out H1 (Al.refl _) (by unfold FL;rw[aO (by omega)];rfl)⟩
 have l8:ss.length<=8:=by
  have:=of_decide_eq_false (cD.mpr c);rw[aa] at this;omega
 refine⟨_,rfl,p,rfl,⟨_,AB.of hp1⟩,?_⟩;refine comp_map (λv=>.bl (Cv v)) (B5 (AB.of hp1)) (by rw[aa];omega) (λx H' R hx s' hR=>?_) λl H7 n7 s7 h7=>?_
 ·obtain⟨y,hy,rfl⟩:=ax.mp hx;exact⟨_,rfl,.str y,rfl,short y hy,λH8 s8=>hR H8 s8⟩
 rw[aj] at h7;have h7':H7 l=some (.lst ((ss.map λy=>Cv (.str y)).map V.bl)):=by rw[h7,aj];rfl
 have gg:FL ss=(ss.map λy=>Cv (.str y)).all id:=by unfold FL;rw[aR l8,eZ];rfl
 refine⟨l,_,rfl,AB.of h7',_,rfl,?_⟩;rw[<-gg];cases g:FL ss with
 |true=>exact By rfl ⟨_,rfl,fin H7 s7 g⟩
 |false=>exact DR rfl ⟨_,rfl,_,rfl,out H7 s7 g⟩
theorem JU {g:Array Nat}(hg:g.toList=[]):∀(xs:List Str) (acc:Array Nat),(xs.foldl (λacc p=>acc++g++p.cps) acc).toList=acc.toList++(xs.map AR).flatten
 |[],acc=>by simp
 |x::xs,acc=>by
  rw[List.foldl_cons,JU hg xs,gG,gG,hg,br,av,List.flatten_cons,bD]
theorem QG {g:Str}(hg:AR g=[])(ys:List Str):AR (PySem.Txt.join g ys)=(ys.map AR).flatten:=by
 unfold PySem.Txt.join PySem.Builtin.Str.glued
 change Array.toList (List.foldl _ _ _)=_
 rw[JU (g:=g.cps) hg];cases ys with
 |nil=>rfl
 |cons y ys=>simp
abbrev Tg:=Int×Int×Int
structure En where
 nm:Str
 kd:Int
 tg:Tg
inductive Bk where
 |piece (z:Str)
 |row (lv:Int) (ts:List Tg)
 |folder (es:List En)
def NL:Addr->Prop:=λ_=>False
mutual
theorem CQ {H H':Hp}(k:∀c xs,H c=some (.tup xs)->H' c=some (.tup xs)):∀(t:Tr) (v:V),Rep NL H t v->Rep NL H' t v
 | .non,_,h=>h
 | .bl _,_,h=>h
 | .int _,_,h=>h
 | .str _,_,h=>h
 | .tup ts,_,⟨a,vs,e,ha,hr⟩=>⟨a,vs,e,k a _ ha,LX k ts vs hr⟩
 | .lst _,_,⟨_,_,_,fa,_⟩=>fa.elim
theorem LX {H H':Hp}(k:∀c xs,H c=some (.tup xs)->H' c=some (.tup xs)):∀(ts:List Tr) (vs:List V),AX NL H ts vs->AX NL H' ts vs
 |[],_,h=>h
 |t::ts,_,⟨v,us,e,h1,h2⟩=>⟨v,us,e,CQ k t v h1,LX k ts us h2⟩
end
def Hk (t:Tg):Tr:=.tup [.int t.1,.int t.2.1,.int t.2.2]
def MM (e:En):Tr:=.tup [.str e.nm,.int e.kd,Hk e.tg]
def Oc:Bk->List Tr
 | .piece z=>[.int 0,.str z]
 | .row lv ts=>[.int 1,.int lv,.tup (ts.map Hk)]
 | .folder es=>[.int 2,.tup (es.map MM)]
def FF (b:Bk):Tr:=.tup (Oc b)
def DB:Bk->List Tg
 | .piece _=>[]
 | .row _ ts=>ts
 | .folder es=>es.map (·.tg)
abbrev Dm (H:Hp)(a:Addr)(t:Tg):Prop:=H a=some (.tup [.int t.1,.int t.2.1,.int t.2.2])
theorem Qy {H:Hp}{t:Tg}{v:V}(h:Rep NL H (Hk t) v):∃a,v=.ref a/\Dm H a t:=by
 obtain⟨a,vs,rfl,e,x1,u1,rfl,rfl,x2,u2,rfl,rfl,x3,u3,rfl,rfl,rfl⟩:=h;exact⟨a,rfl,e⟩
theorem E7 {H:Hp}{t:Tg}{a:Addr}(e:Dm H a t):Rep NL H (Hk t) (.ref a):=⟨a,_,rfl,e,_,_,rfl,rfl,_,_,rfl,rfl,_,_,rfl,rfl,rfl⟩
theorem JH {H:Hp}{x:En}{v:V}(h:Rep NL H (MM x) v):∃a b,v=.ref a/\H a=some (.tup [.str x.nm,.int x.kd,.ref b])/\Dm H b x.tg:=by
 obtain⟨a,vs,rfl,e,x1,u1,rfl,rfl,x2,u2,rfl,rfl,x3,u3,rfl,r3,rfl⟩:=h;obtain⟨b,rfl,e2⟩:=Qy r3;exact⟨a,b,rfl,e,e2⟩
theorem Ut {H:Hp}{x:En}{a b:Addr}(e:H a=some (.tup [.str x.nm,.int x.kd,.ref b]))(e2:Dm H b x.tg):Rep NL H (MM x) (.ref a):=⟨a,_,rfl,e,_,_,rfl,rfl,_,_,rfl,rfl,_,_,rfl,E7 e2,rfl⟩
theorem DV {H:Hp}{z:Str}{v:V}(h:Rep NL H (FF (.piece z)) v):∃a,v=.ref a/\H a=some (.tup [.int 0,.str z]):=by
 obtain⟨a,vs,rfl,e,x1,u1,rfl,rfl,x2,u2,rfl,rfl,rfl⟩:=h;exact⟨a,rfl,e⟩
theorem Gm {H:Hp}{lv:Int}{ts:List Tg}{v:V}(h:Rep NL H (FF (.row lv ts)) v):∃a b vs,v=.ref a/\H a=some (.tup [.int 1,.int lv,.ref b])/\H b=some (.tup vs)/\AX NL H (ts.map Hk) vs:=by
 obtain⟨a,vs,rfl,e,x1,u1,rfl,rfl,x2,u2,rfl,rfl,x3,u3,rfl,⟨b,us,rfl,e2,r⟩,rfl⟩:=h;exact⟨a,b,us,rfl,e,e2,r⟩
theorem Cq {H:Hp}{es:List En}{v:V}(h:Rep NL H (FF (.folder es)) v):∃a b vs,v=.ref a/\H a=some (.tup [.int 2,.ref b])/\H b=some (.tup vs)/\AX NL H (es.map MM) vs:=by
 obtain⟨a,vs,rfl,e,x1,u1,rfl,rfl,x2,u2,rfl,⟨b,us,rfl,e2,r⟩,rfl⟩:=h;exact⟨a,b,us,rfl,e,e2,r⟩
theorem RU {α:Type}{g:α->Tr}{H:Hp}{xs:List α}{vs:List V}(h:AX NL H (xs.map g) vs){v:V}(hv:v∈vs):∃x∈xs,Rep NL H (g x) v:=by
 obtain⟨i,hi,e⟩:=dB hv;obtain⟨t,ht,r⟩:=AX.get h (show vs[i]?=some v by rw[ah hi,e]);rw[aw] at ht;obtain⟨x,hx,rfl⟩:=aV.mp ht;exact⟨x,aE hx,r⟩
theorem Rg {α:Type}{g:α->Tr}{H:Hp}{xs:List α}{vs:List V}(h:AX NL H (xs.map g) vs){i:Nat}{v:V}(hv:vs[i]?=some v):∃x,xs[i]?=some x/\Rep NL H (g x) v:=by
 obtain⟨t,ht,r⟩:=AX.get h hv;rw[aw] at ht;obtain⟨x,hx,rfl⟩:=aV.mp ht;exact⟨x,hx,r⟩
theorem Je {α:Type}{g:α->Tr}{H:Hp}:∀{xs:List α} {vs:List V},vs.length=xs.length->(∀(i:Nat) x v,xs[i]?=some x->vs[i]?=some v->Rep NL H (g x) v)->AX NL H (xs.map g) vs
 |[],[],_,_=>rfl
 |[],_::_,h,_=>nomatch h
 |_::_,[],h,_=>nomatch h
 |x::xs,v::vs,h,r=>⟨v,vs,rfl,r 0 x v rfl rfl,Je (cU h) λi y u e1 e2=>r (i+1) y u (by simpa using e1) (by simpa using e2)⟩
def Lf (H:Hp):V->V
 | .ref a=>match H a with
  |some (.tup [_,_,t])=>t
  |_=>.non
 |_=>.non
theorem Jq {H:Hp}{a:Addr}{x y z:V}(h:H a=some (.tup [x,y,z])):Lf H (.ref a)=z:=by
 show(match H a with|some (.tup [_,_,t])=>t|_=>V.non)=z;rw[h]
theorem GW {H:Hp}:∀{es:List En} {us:List V},AX NL H (es.map MM) us->AX NL H ((es.map (·.tg)).map Hk) (us.map (Lf H))
 |[],us,h=>by cases h;exact rfl
 |e::es,us,h=>by
  obtain⟨v,vs,rfl,h1,h2⟩:=h;obtain⟨a,b,rfl,e1,e2⟩:=JH h1;refine⟨_,_,rfl,?_,GW h2⟩;rw[Jq e1];exact E7 e2
theorem Pf {J:It} {xs:List V} {te:TE} {Q:VK} {σ:St} {H:Hp} (f:V->V) (hJ:Hi J H xs) (hn:xs.length<=1000000) (htg:∀x∈xs,∃a x1 x2 x3,x=.ref a/\H a=some (.tup [x1,x2,x3]))
  (helt:∀a x1 x2 x3 (H':Hp) (R:VK),V.ref a∈xs->H a=some (.tup [x1,x2,x3])->Al H H'->(∀H'',Al H' H''->R (f (.ref a)) H'')->te [some x1,some x2,some x3] H' R)
  (hQ:∀l H',H l=none->Al H H'->H' l=some (.lst (xs.map f))->Q (.ref l) H') :
  Df [none,none,none] (Pi K 3 (FK (Aq 0) (FK (Aq 1) (FK (Aq 2) QF)))) L8 te σ Q J H:=by
 intro l hl;refine⟨λi m σ' H'=>m=xs.length-i/\i<=xs.length/\(∃y0 y1 y2,σ'=[y0,y1,y2])/\Al H H'/\H' l=some (.lst ((xs.take i).map f)),⟨xs.length,by simp,bg _,⟨_,_,_,rfl⟩,Af hl _,by rw[Ad,cW,bY]⟩,?_⟩
 rintro i m σ' H' ⟨rfl,hi,⟨y0,y1,y2,rfl⟩,hs,hl'⟩
 obtain⟨h1,h2,h3⟩:=hJ H' hs i
 by_cases hlt:i<xs.length
 ·refine .inr ⟨h1 hlt,λx H'' y=>?_⟩;obtain⟨rfl,hx⟩:=h2 x H'' y;have hx:=hx hlt;obtain⟨a,x1,x2,x3,rfl,ha⟩:=htg x (aE hx);refine⟨a,_,rfl,AD.of (hs.get ha),rfl,_,_,rfl,_,_,rfl,_,_,rfl,rfl,?_⟩;refine helt a x1 x2 x3 H'' _ (aE hx) ha hs λH4 s4=>?_
  refine⟨_,s4.get hl',Bh (by rw[aa,aQ];omega),xs.length-(i+1),by omega,rfl,hlt,⟨_,_,_,rfl⟩,AI (hs.trans s4) hl _,?_⟩;rw[Ad,aX,hx];simp
 ·have e:i=xs.length:=by omega
  subst e;exact .inl ⟨h3 (ak _),hQ l H' hl hs (by rw[hl',bb (ak _)])⟩
def Ea (K:W.Frag):Sp:=λvs H Q _=>∃v b,vs=[v]/\Rep NL H (FF b) v/\(DB b).length<=1000/\∀l us H',Al H H'->H l=none->H' l=some (.lst us)->AX NL H' ((DB b).map Hk) us->Q (.ref l) H'
theorem Nt (T:Txt K mg C XC)(F:Fun K "tags_in" "tags_in" DU f fd):FnOk P w K mg base CU 1 f fd ["block"] (Ea K):=by
 exists Nd
 ·obtain⟨v,b,rfl,_⟩:=h;rfl
 obtain⟨v,b,rfl,hv,few,q⟩:=h;refine⟨_,(!Ae (!Bu (!AA CJ (!Ai Ar (pv 0) (!Ab) (λ_ _=>rfl)) (!C8 rfl T.c_PIECE) (AG _)) (!Ah (!As (!Bc (!Ac)))) (!AO)) (!Ae (!Bu (!AA CJ (!Ai Ar (pv 0) (!Ab) (λ_ _=>rfl)) (!C8 rfl T.c_ROW) (AG _)) (!Ah (!As (!Bf C4 (by rfl) T.b_list FI (!Aa (!Ai Ar (pv 0) (!Ab) (λ_ _=>rfl)) (!Ac))))) (!AO)) (!Ah (!As (@BO _ ["name","kind","tag"] _ _ _ _ _ _ _ _ _ _ rfl (!B9 (!Ai Ar (pv 0) (!Ab) (λ_ _=>rfl))) (by decide +kernel) (λC s H fp=>⟨(@Gu _ (K) _ _ _ _ (3) (by rfl) rfl (!Av (@Ak _ _ (0) _ (show(["name","kind","tag"]:List Str).Nodup by decide +kernel) rfl (by trivial) (by trivial)) (!Av (@Ak _ _ (1) _ (show(["name","kind","tag"]:List Str).Nodup by decide +kernel) rfl (by trivial) (by trivial)) (!Av (@Ak _ _ (2) _ (show(["name","kind","tag"]:List Str).Nodup by decide +kernel) rfl (by trivial) (by trivial)) (!BU)))) (by rfl) (by rfl)),(!AW),(pv 2)⟩) (by intro _;rfl)))))),?_⟩
 try dsimp only[Bw,Cx.nox,Cx.wish]
 cases b with
 |piece z=>
  obtain⟨a,rfl,e⟩:=DV hv;refine⟨_,rfl,a,_,_,_,rfl,rfl,AD.of e,rfl,rfl,_,rfl,DR rfl ?_⟩;exact⟨Fm,λl hl=>q l [] _ (Af hl _) hl Ad rfl⟩
 |row lv ts=>
  obtain⟨a,d,us,rfl,e,e2,r⟩:=Gm hv;refine⟨_,rfl,a,_,_,_,rfl,rfl,AD.of e,rfl,rfl,_,rfl,By rfl ?_⟩;refine⟨_,rfl,a,_,_,_,rfl,rfl,AD.of e,rfl,rfl,_,rfl,DR rfl ?_⟩;exact⟨_,rfl,a,_,_,_,rfl,rfl,AD.of e,rfl,d,_,rfl,.inr (AD.of e2),λl hl=>q l us _ (Af hl _) hl Ad (AX.same (Af hl _) _ _ r)⟩
 |folder es=>
  obtain⟨a,d,us,rfl,e,e2,r⟩:=Cq hv;refine⟨_,rfl,a,_,_,_,rfl,rfl,AD.of e,rfl,rfl,_,rfl,By rfl ?_⟩;refine⟨_,rfl,a,_,_,_,rfl,rfl,AD.of e,rfl,rfl,_,rfl,By rfl ?_⟩;refine⟨_,rfl,a,_,_,_,rfl,rfl,AD.of e,rfl,d,rfl,⟨_,AD.of e2⟩,?_⟩;have lu:us.length=es.length:=by rw[AX.len _ _ r,aa]
  have few':(es.map (·.tg)).length<=1000:=few;rw[aa] at few';refine Pf (xs:=us) (Lf H) (B2 e2) (by omega) (λx hx=>?_) (λb x1 x2 x3 H' R hx hb s' hR=>⟨_,rfl,?_⟩) λl H' nl s' hl=>q l _ H' s' nl hl (AX.same s' _ _ (GW r))
  ·obtain⟨en,_,hr⟩:=RU r hx;obtain⟨b,c,rfl,e3,_⟩:=JH hr;exact⟨b,_,_,_,rfl,e3⟩
  ·have:=hR H' (Al.refl _);rw[Jq hb] at this;exact this
theorem len_app (x y:Str):(x++y).length=x.length+y.length:=Str.length_append x y
theorem Ct {α:Type} {J:It} {ps:List α} {g:α->V} {fr:List (Option Nat)} {k:Nat} {te:TE} {Q:VK} {σ:St} {H:Hp} (f:α->V) (hJ:Hi J H (ps.map g)) (hn:ps.length<=1000000)
  (helt:∀x∈ps,∀(H':Hp) (R:VK),Al H H'->(∀H'',Al H' H''->R (f x) H'')->te ((stC fr σ).set k (some (g x))) H' R)
  (hQ:∀l H',H l=none->Al H H'->H' l=some (.lst (ps.map f))->Q (.ref l) H'):Df fr (Aq k) L8 te σ Q J H:=
 DS (λ_=>true) f hJ hn (λx hx H' R s' hR=>hR) (λx hx _=>helt x hx) λl H' nl s' hl=>hQ l H' nl s' (by rw[hl,bW.mpr λ_ _=>rfl])
abbrev GF (H:Hp)(ps:List (Addr×Tg)):Prop:=∀p∈ps,Dm H p.1 p.2
theorem Hv {H:Hp}:∀{ts:List Tg} {us:List V},AX NL H (ts.map Hk) us->∃ps:List (Addr×Tg),us=ps.map (λp=>V.ref p.1)/\ts=ps.map (·.2)/\GF H ps
 |[],us,h=>⟨[],by rw[show us=[] from h];rfl,rfl,λ_ h=>nomatch h⟩
 |x::ts,us,h=>by
  obtain⟨v,vs,rfl,r,rs⟩:=h;obtain⟨ps,e1,e2,e3⟩:=Hv rs;obtain⟨a,rfl,h1⟩:=Qy r;refine⟨(a,x)::ps,by rw[e1];rfl,by rw[e2];rfl,λp hp=>?_⟩;rcases aD.mp hp with rfl|hp
  ·exact h1
  ·exact e3 p hp
theorem On {H:Hp}:∀{ps:List (Addr×Tg)},GF H ps->AX NL H ((ps.map (·.2)).map Hk) (ps.map λp=>V.ref p.1)
 |[],_=>rfl
 |p::ps,h=>⟨_,_,rfl,E7 (h p ay),On λq hq=>h q (az _ hq)⟩
theorem GF.same {H H':Hp}{ps:List (Addr×Tg)}(h:GF H ps)(s:Al H H'):GF H' ps:=λp hp=>s.get (h p hp)
theorem Gk {α:Type}{R:α->Addr->Prop}:∀{ys:List (α×V)},(∀q∈ys,∃t,q.2=V.ref t/\R q.1 t)->∃rs:List (α×Addr),ys.map (·.2)=rs.map (λp=>V.ref p.2)/\rs.map (·.1)=ys.map (·.1)/\∀p∈rs,R p.1 p.2
 |[],_=>⟨[],rfl,rfl,λ_ h=>nomatch h⟩
 |y::ys,h=>by
  obtain⟨rs,e1,e2,e3⟩:=Gk λq hq=>h q (az _ hq)
  obtain⟨t,et,ht⟩:=h y ay;refine⟨(y.1,t)::rs,by rw[av,av,e1,et],by rw[av,av,e2],λp hp=>?_⟩;rcases aD.mp hp with rfl|hp
  ·exact ht
  ·exact e3 p hp
abbrev KT (H H':Hp):Prop:=∀c xs,H c=some (.tup xs)->H' c=some (.tup xs)
theorem KT.of {H H':Hp}(s:Al H H'):KT H H':=λ_ _ h=>s.get h
theorem KT.lst {H:Hp}{l:Addr}{us:List V}(h:H l=some (.lst us))(o:HO):KT H (upd H l o):=λc xs e=>by rw[An λw=>by rw[w,h] at e;cases e];exact e
theorem RP {α:Type} {J:It} {ps:List α} {g:α->V} {fr:List (Option Nat)} {k:Nat} {tt:TT} {te:TE} {Q:VK} {σ:St} {H:Hp} (p:α->Bool) (R:α->Addr->Hp->Prop) (hR:∀x t H1 H2,R x t H1->KT H1 H2->R x t H2) (hJ:Hi J H (ps.map g)) (hn:ps.length<=1000000)
  (htest:∀x∈ps,∀(H':Hp) (S:Bool->Hp->Prop),Al H H'->(∀H'',Al H' H''->S (p x) H'')->tt ((stC fr σ).set k (some (g x))) H' S)
  (helt:∀x∈ps,p x=true->∀(H':Hp) (S:VK),Al H H'->(∀t H'',Al H' H''->R x t H''->S (.ref t) H'')->te ((stC fr σ).set k (some (g x))) H' S)
  (hQ:∀l H' (rs:List (α×Addr)),H l=none->Al H H'->H' l=some (.lst (rs.map λq=>V.ref q.2))->rs.map (·.1)=ps.filter p->(∀q∈rs,R q.1 q.2 H')->Q (.ref l) H'):Df fr (Aq k) tt te σ Q J H:=by
 refine DX p (λx y H1=>∃t,y=.ref t/\R x t H1) (λx y H1 H2 ⟨t,e,r⟩ s=>⟨t,e,hR _ _ _ _ r (KT.of s)⟩) (λx y H1 l us us' ⟨t,e,r⟩ hl=>⟨t,e,hR _ _ _ _ r (KT.lst hl _)⟩) hJ hn htest (λx hx px H' S s' hS=>helt x hx px H' S s' λt H'' s'' r=>hS _ _ s'' ⟨t,rfl,r⟩) λl H' ys nl s' hl e1 hys=>?_
 obtain⟨rs,h1,h2,h3⟩:=Gk (R:=λx t=>R x t H') hys;exact hQ l H' rs nl s' (by rw[hl,h1]) (h2.trans e1) h3
theorem Ih {α:Type} {J:It} {ps:List α} {g:α->Addr} {A B C:α->V} {fr:List (Option Nat)} {rest:St} {tt:TT} {te:TE} {Q:VK} {σ:St} {H:Hp} (p:α->Bool) (P:α->V->Hp->Prop) (hst:stC fr σ=none::none::none::rest) (hP:∀x y H1 H2,P x y H1->Al H1 H2->P x y H2)
  (hU:∀x y H1 l us us',P x y H1->H1 l=some (.lst us)->P x y (upd H1 l (.lst us'))) (hJ:Hi J H (ps.map λx=>V.ref (g x))) (hpr:∀x∈ps,H (g x)=some (.tup [A x,B x,C x])) (hn:ps.length<=1000000)
  (htest:∀x∈ps,∀(H':Hp) (R:Bool->Hp->Prop),Al H H'->(∀H'',Al H' H''->R (p x) H'')->tt (some (A x)::some (B x)::some (C x)::rest) H' R)
  (helt:∀x∈ps,p x=true->∀(H':Hp) (R:VK),Al H H'->(∀y H'',Al H' H''->P x y H''->R y H'')->te (some (A x)::some (B x)::some (C x)::rest) H' R)
  (hQ:∀l H' (ys:List (α×V)),H l=none->Al H H'->H' l=some (.lst (ys.map (·.2)))->ys.map (·.1)=ps.filter p->(∀q∈ys,P q.1 q.2 H')->Q (.ref l) H'):Df fr (Pi K 3 (FK (Aq 0) (FK (Aq 1) (FK (Aq 2) QF)))) tt te σ Q J H:=by
 intro l hl;refine⟨λi m σ' H'=>m=ps.length-i/\i<=ps.length/\(∃y0 y1 y2,σ'=y0::y1::y2::rest)/\Al H H'/\∃ys:List (α×V),H' l=some (.lst (ys.map (·.2)))/\ys.map (·.1)=(ps.take i).filter p/\∀q∈ys,P q.1 q.2 H',
  ⟨ps.length,by simp,bg _,⟨_,_,_,hst⟩,Af hl _,[],by rw[Ad];rfl,rfl,λ_ h=>nomatch h⟩,?_⟩
 rintro i m σ' H' ⟨rfl,hi,⟨y0,y1,y2,rfl⟩,hs,ys,hl',e1,hys⟩
 obtain⟨h1,h2,h3⟩:=hJ H' hs i;rw[aa] at h1 h2 h3
 by_cases hlt:i<ps.length
 ·refine .inr ⟨h1 hlt,λx H'' y=>?_⟩;obtain⟨rfl,hx⟩:=h2 x H'' y;have hx:=hx hlt;rw[aw,ah hlt] at hx;cases hx;have hm:ps[i]∈ps:=bz hlt;have et:(ps.take (i+1)).filter p=(ps.take i).filter p++(if p ps[i]=true then[ps[i]] else[]):=by
   rw[aX,ah hlt,dF];cases q:p ps[i]<;>simp[q]
  have le:ys.length<=i:=by
   have a:=congrArg List.length e1;have b:=bT p (ps.take i);rw[aa] at a;rw[aQ] at b;omega
  refine⟨g ps[i],_,rfl,AD.of (hs.get (hpr _ hm)),rfl,_,_,rfl,_,_,rfl,_,_,rfl,rfl,?_⟩;refine htest _ hm H'' _ hs λH0 s0=>?_
  have hs0:=hs.trans s0;refine DN (λc=>?_) (λc=>?_)
  ·refine helt _ hm c H0 _ hs0 λv H4 s4' hv=>?_
   have s4:=s0.trans s4';have hl4:=s4.get hl';refine⟨_,hl4,Bh (by rw[aa];omega),ps.length-(i+1),by omega,rfl,hlt,⟨_,_,_,rfl⟩,AI (hs.trans s4) hl _,ys++[(ps[i],v)],?_,?_,λq hq=>?_⟩
   ·rw[Ad,aq];rfl
   ·rw[et,aI c,aq,e1];rfl
   ·rcases aB.mp hq with h|h
    ·exact hU _ _ _ _ _ _ (hP _ _ _ _ (hys q h) s4) hl4
    ·rw[ai.mp h];exact hU _ _ _ _ _ _ hv hl4
  ·exact⟨ps.length-(i+1),by omega,rfl,hlt,⟨_,_,_,rfl⟩,hs0,ys,s0.get hl',by rw[et,aH c,br];exact e1,λq hq=>hP _ _ _ _ (hys q hq) s0⟩
 ·have e:i=ps.length:=by omega
  subst e;exact .inl ⟨h3 (ak _),hQ l H' ys hl hs hl' (by rw[e1,bb (ak _)]) hys⟩
end
theorem Ao {te:TE}{g:TG}{u:TS}{D:Ends}{σ:St}{H:Hp}(h:te σ H λx H'=>g x σ H' λσ' H''=>u D σ' H''):Pq (QV te g) u D σ H:=h
theorem G1 {te:TE}{u:TS}{D:Ends}{σ:St}{H:Hp}(h:te σ H λ_ H'=>u D σ H'):Pq (SV te) u D σ H:=h
section
variable {P:Program}{w:World}{K:W.Frag}{mg:Str->Option Value}{base:Heap}{f Vv SR Wv:Addr}{XC:Nat->Addr}{fd:FuncData}
def Jo (H:Hp):Option (Int×Tg)->V->Prop
 |none,v=>v=.non
 |some (k,g),v=>∃p ta,v=.ref p/\H p=some (.tup [.int k,.ref ta])/\H ta=some (.tup [.int g.1,.int g.2.1,.int g.2.2])
theorem Jo.same {H H':Hp}(s:Al H H'):∀{e:Option (Int×Tg)} {v:V},Jo H e v->Jo H' e v
 |none,_,h=>h
 |some _,_,⟨p,ta,e,h1,h2⟩=>⟨p,ta,e,s.get h1,s.get h2⟩
def Kw (es:List En)(z:Str):Option (Int×Tg):=(es.find? λx=>decide (x.nm=z)).map λx=>(x.kd,x.tg)
theorem Q3 {es:List En}{z:Str}{i:Nat}{y:En}(ey:es[i]?=some y)(e:y.nm=z)(no:∀x∈es.take i,x.nm≠z):es.find? (λx=>decide (x.nm=z))=some y:=by
 have h1:es=es.take i++y::es.drop (i+1):=by
  have hi:=(ar.mp ey)
  obtain⟨hl,he⟩:=hi;rw[<-he];exact(eE i es).symm.trans (by rw[dI hl])
 rw[h1,eY,bV.mpr λx hx c=>no x hx (bh c),List.find?_cons,aR e];rfl
def DP (K:W.Frag):Sp:=λvs H Q _=>∃(v:V) (es:List En) (z:Str),vs=[v,.str z]/\Rep NL H (FF (.folder es)) v/\es.length<=1000/\∀u H',Al H H'->Jo H' (Kw es z) u->Q u H'
theorem IV (T:Txt K mg C XC)(F:Fun K "entry_called" "entry_called" BV f fd):FnOk P w K mg base CU 1 f fd ["folder","name"] (DP K):=by
 exists CO
 ·obtain⟨v,es,z,rfl,_⟩:=h;rfl
 obtain⟨v,es,z,rfl,hv,few,q⟩:=h;have hu:=Cp hr;refine⟨_,(!Ae (!BF aT rfl (!B9 (!Ai Ar (pv 0) (!Ab) (λ_ _=>rfl))) (!D5 rfl (!Av (@Ak _ _ (2) _ CO.nd rfl (by trivial) (by trivial)) (!Av (@Ak _ _ (3) _ CO.nd rfl (by trivial) (by trivial)) (!Av (@Ak _ _ (4) _ CO.nd rfl (by trivial) (by trivial)) (!BU))))) (!Ah (!Bu (!AA CJ (pv 2) (pv 1) (AG _)) (!Ah (!As (!AY (!Aa (pv 3) (!Aa (pv 4) (!Ac)))))) (!AO))) (by intro _;rfl)) (!Ah (!As (!LH)))),?_⟩
 try dsimp only[Bw,Cx.nox,Cx.wish]
 obtain⟨a,b,us,rfl,ha,hb,rs⟩:=Cq hv;have lu:=AX.len _ _ rs;rw[aa] at lu;refine⟨_,rfl,a,_,_,_,rfl,rfl,AD.of ha,rfl,b,rfl,⟨_,AD.of hb⟩,?_⟩;refine Gr (K:=K) (a:=b) (xs:=us) (λi σ H2=>∃v2 v3 v4,σ=[some (.ref a),some (.str z),v2,v3,v4]/\H2=H/\∀x∈es.take i,x.nm≠z) ⟨none,none,none,rfl,rfl,λ_ h=>nomatch h⟩ (by rintro i σ H2 _ ⟨_,_,_,_,e,_⟩;exact by rw[e];exact AD.of hb) ?_ ?_
 ·rintro i x σ H2 hi ⟨v2,v3,v4,rfl,rfl,no⟩
  obtain⟨t,et,rt⟩:=AX.get rs hi;rw[aw] at et;obtain⟨y,ey,rfl⟩:=aV.mp et;obtain⟨p,ta,rfl,hp,hta⟩:=JH rt;dsimp only[Aq,Pm];refine⟨p,_,rfl,AD.of hp,rfl,_,_,rfl,_,_,rfl,_,_,rfl,rfl,?_⟩;refine⟨_,rfl,_,rfl,rfl,_,rfl,DN (λc=>?_) (λc=>?_)⟩
  ·have e:y.nm=z:=V.str.inj (dec_true c);refine⟨_,rfl,_,rfl,E3,λpp np=>?_⟩;have s3:=Af np (.tup [.int y.kd,.ref ta]);have ef:Kw es z=some (y.kd,y.tg):=by
    unfold Kw;rw[Q3 ey e no];rfl
   refine q _ _ s3 ?_;rw[ef];exact⟨pp,ta,rfl,Ad,s3.get hta⟩
  ·have e:y.nm≠z:=λe=>dec_false c (by rw[e])
   refine⟨_,_,_,rfl,rfl,λx hx=>?_⟩;rw[aX,ey] at hx;rcases aB.mp hx with h|h
   ·exact no x h
   ·cases ai.mp h;exact e
 ·rintro σ H2 ⟨v2,v3,v4,rfl,rfl,no⟩
  have ef:Kw es z=none:=by
   unfold Kw;rw[bV.mpr λx hx c=>no x (by rw[lu,bU];exact hx) (bh c)];rfl
  refine q _ _ (Al.refl _) ?_;rw[ef];rfl
end
section
variable {P:Program}{w:World}{K:W.Frag}{mg:Str->Option Value}{base:Heap}{f C:Addr}{XC:Nat->Addr}{fd:FuncData}
abbrev BM:=Int->Option Bk
structure Tb (C:Addr) (H:Hp) (x:Addr) (B:BM) (met:List Int):Prop where
 at_:∃dx d kvs,H x=some (.ins C dx [("blocks",.ref d)])/\H d=some (.dK kvs)/\∀z∈met,∃b v,B z=some b/\EU kvs (.inl z)=some v/\Rep NL H (FF b) v
 cl:∀z∈met,∀b,B z=some b->∀t∈DB b,t.1∈met
 fw:∀z∈met,∀es,B z=some (.folder es)->es.length<=16/\∀x∈es,Cv (.str x.nm)=true/\(x.kd=2->∃es',B x.tg.1=some (.folder es'))
theorem Tb.same {H H':Hp}{x:Addr}{B:BM}{met:List Int}(h:Tb C H x B met)(s:Al H H'):Tb C H' x B met:=by
 obtain⟨⟨dx,d,kvs,h1,h2,h3⟩,h4,h5⟩:=h;exact⟨⟨dx,d,kvs,s.get h1,s.get h2,λz hz=>let⟨b,v,e1,e2,r⟩:=h3 z hz;⟨b,v,e1,e2,Rep.same s _ _ r⟩⟩,h4,h5⟩
def AU (K:W.Frag)(C:Addr):Sp:=λvs H Q _=>∃(p:Addr) (B:BM) (met:List Int) (ta:Addr) (t:Tg),vs=[.ref p,.ref ta]/\Tb C H p B met/\Dm H ta t/\t.1∈met/\∀b v,B t.1=some b->Rep NL H (FF b) v->Q v H
theorem Gy (T:Txt K mg C XC)(F:Fun K "block" "ToldBlocks.block" Bj f fd):FnOk P w K mg base CU 1 f fd ["self","tag"] (AU K C):=by
 exists Gz
 ·obtain⟨p,B,met,ta,t,rfl,_⟩:=h;rfl
 obtain⟨p,B,met,ta,t,rfl,⟨⟨dx,d,kvs,h1,h2,h3⟩,_,_⟩,hta,hm,q⟩:=h;have hu:=Cp hr;refine⟨_,(!Ah (!As (!CT hu (!Uq (pv 0)) (!Ai Ar (pv 1) (!Ab) (λ_ _=>rfl)) (λ_ _=>rfl)))),?_⟩
 try dsimp only[Bw,Cx.nox,Cx.wish]
 obtain⟨b,v,e1,e2,r⟩:=h3 _ hm;have g:=FO.k (k:=.inl t.1) h2;rw[e2] at g;exact⟨_,rfl,p,C,dx,_,_,rfl,h1,T.cl,T.n_blocks,rfl,_,rfl,ta,_,_,_,rfl,rfl,AD.of hta,rfl,d,_,rfl,g,q b v e1 r⟩
theorem Jb {H:Hp}{p:Addr}{B:BM}{met:List Int}{ta:Addr}{t:Tg}{b:Bk}{Q:VK}(tb:Tb C H p B met)(hta:Dm H ta t)(hm:t.1∈met)(e:B t.1=some b)(hq:∀v,Rep NL H (FF b) v->Q v H):AU K C [.ref p,.ref ta] H Q E0:=
 ⟨p,B,met,ta,t,rfl,tb,hta,hm,λb' v e' r=>by rw[e] at e';cases e';exact hq v r⟩
def IM (B:BM):Nat->Int->Str
 |0,z=>match B z with
  |some (.piece c)=>c
  |_=>EM
 |n+1,z=>match B z with
  |some (.piece c)=>c
  |some (.row _ ts)=>PySem.Txt.join EM (ts.map λt=>IM B n t.1)
  |_=>EM
def Rw (B:BM):Nat->Int->Prop
 |0,z=>∃c,B z=some (.piece c)/\c.length<=8
 |n+1,z=>(∃c,B z=some (.piece c)/\c.length<=8)\/∃lv ts,B z=some (.row lv ts)/\ts.length<=3/\∀t∈ts,Rw B n t.1
theorem GY (zs:List Str):(PySem.Txt.join EM zs).length=(zs.map (·.length)).sum:=by
 rw[<-Bg,QG rfl,List.length_flatten,aj];rfl
theorem MX {α:Type}{g:α->Nat}{m:Nat}:∀{l:List α},(∀x∈l,g x<=m)->(l.map g).sum<=l.length*m
 |[],_=>by simp
 |x::l,h=>by
  have h1:=h x ay;have h2:=MX λy hy=>h y (az x hy)
  rw[av,dM,aM,Nat.succ_mul];omega
theorem Rw.len {B:BM}:∀{n:Nat} {z:Int},Rw B n z->(IM B n z).length<=8*3^n
 |0,z,h=>by
  obtain⟨c,e,hc⟩:=h;unfold IM;rw[e];exact hc
 |n+1,z,h=>by
  have p1:1<=3^n:=Nat.one_le_pow _ _ (by decide);have p2:3^(n+1)=3*3^n:=by rw[Nat.pow_succ];omega
  rcases h with⟨c,e,hc⟩|⟨lv,ts,e,h3,ht⟩
  ·unfold IM;rw[e,p2];dsimp only;omega
  ·unfold IM;rw[e];dsimp only;rw[GY,aj,p2];have:=MX (l:=ts) (g:=(λz:Str=>z.length)∘λt=>IM B n t.1) (m:=8*3^n) λt hm=>Rw.len (ht t hm)
   have:=gy (8*3^n) h3;omega
def Ov (n:Nat)(K:W.Frag)(C:Addr):Sp:=match n with
 |0=>λ_ _ _ _=>False
 |n+1=>λvs H Q _=>∃(p:Addr) (B:BM) (met:List Int) (ta:Addr) (t:Tg),vs=[.ref p,.ref ta]/\Tb C H p B met/\Dm H ta t/\t.1∈met/\Rw B n t.1/\n<=2/\∀H',Al H H'->Q (.str (IM B n t.1)) H'
def EL (K:W.Frag)(C:Addr):Sp:=Ov 3 K C
theorem Se (T:Txt K mg C XC)(F:Fun K "content_at" "content_at" BN f fd)(Az:M3 P w K mg base 1 C "block" ["self","tag"] (AU K C))(C0:Def P w K mg base 1 "tags_in" ["block"] (Ea K))(n:Nat)(Dg:Def P w K mg base (1+n) "content_at" ["pool","tag"] (Ov n K C)):FnOk P w K mg base CU (1+n+1) f fd ["pool","tag"] (Ov (n+1) K C):=by
 exists ED
 ·obtain⟨p,B,met,ta,t,rfl,_⟩:=h;rfl
 obtain⟨p,B,met,ta,t,rfl,tb,hta,hm,rw_,n2,q⟩:=h;refine⟨_,(!Ae (@Ap _ _ (2) _ _ _ _ ED.nd rfl (by trivial) (!NC (pv 0) T.cl Az (hr.mono (by omega)) (!Aa (pv 1) (!Ac))) (by rfl) (by trivial)) (!Ae (!Bu (!AA CJ (!Ai Ar (pv 2) (!Ab) (λ_ _=>rfl)) (!C8 rfl T.c_PIECE) (AG _)) (!Ah (!As (!Ai Ar (pv 2) (!Ab) (λ_ _=>rfl)))) (!AO)) (!Ah (!As (!Cf bN di dg (Jc rfl) (!A3) (!Aa (@Cb _ ["below","pool"] [none,some 0] _ _ _ _ _ _ _ _ _ _ _ rfl (!BA (!AM C0 (hr.mono (by omega)) rfl (!Aa (pv 2) (!Ac)))) (by rfl) rfl (by repeat (first|exact trivial|refine⟨rfl,?_⟩)) (by repeat (first|exact trivial|refine⟨λh=>(by first|exact⟨_,rfl⟩|cases h),?_⟩)) (λC s H fp=>⟨(@Ak _ _ (0) _ (show(["below","pool"]:List Str).Nodup by decide +kernel) rfl (by trivial) (by trivial)),(!AW),(!AM Dg (hr.mono (by omega)) rfl (!Aa (pv 1) (!Aa (pv 0) (!Ac))))⟩) (by intro _;rfl)) (!Ac))))))),?_⟩
 try dsimp only[Bw,Cx.nox,Cx.wish]
 obtain⟨dx,d,kvs,h1,_⟩:=tb.at_;have pc:∀c,B t.1=some (.piece c)->IM B n t.1=c:=λc e=>by
  cases n with
  |zero=>unfold IM;rw[e]
  |succ n=>unfold IM;rw[e]
 have hp:(∃c,B t.1=some (.piece c))\/∃m lv ts,n=m+1/\B t.1=some (.row lv ts)/\ts.length<=3/\∀t∈ts,Rw B m t.1:=by
  cases n with
  |zero=>obtain⟨c,e,_⟩:=rw_;exact .inl ⟨c,e⟩
  |succ m=>
   rcases rw_ with⟨c,e,_⟩|⟨lv,ts,e,l3,ht⟩
   ·exact .inl ⟨c,e⟩
   ·exact .inr ⟨m,lv,ts,rfl,e,l3,ht⟩
 rcases hp with⟨c,e⟩|⟨m,lv,ts,rfl,e,l3,ht⟩
 ·rw[pc c e] at q;refine⟨_,rfl,p,dx,_,rfl,h1,rfl,_,rfl,Jb (K:=K) tb hta hm e λv r=>?_⟩;obtain⟨a,rfl,ha⟩:=DV r;exact⟨_,rfl,a,_,_,_,rfl,rfl,AD.of ha,rfl,rfl,_,rfl,DR rfl ⟨_,rfl,a,_,_,_,rfl,rfl,AD.of ha,rfl,q H (Al.refl _)⟩⟩
 ·refine⟨_,rfl,p,dx,_,rfl,h1,rfl,_,rfl,Jb (K:=K) tb hta hm e λv r=>?_⟩;obtain⟨a,b,vs,rfl,ha,hb,rs⟩:=Gm r;refine⟨_,rfl,a,_,_,_,rfl,rfl,AD.of ha,rfl,rfl,_,rfl,By rfl ?_⟩;refine⟨rfl,_,rfl,_,.row lv ts,rfl,r,by show ts.length<=1000;omega,λl us H2 s2 nl hl rus=>⟨l,rfl,⟨_,AB.of hl⟩,?_⟩⟩;obtain⟨ps,rfl,ets,hps⟩:=Hv rus;have ets:ts=ps.map (·.2):=ets;subst ets;rw[aa] at l3;refine Ct (ps:=ps) (λx=>.str (IM B m x.2.1)) (B5 (AB.of hl)) (by omega) (λx hx H3 R s3 hR=>?_) λl3' H3 nl3 s3 hl3=>?_
  ·have hx':x.2∈ps.map (·.2):=aF hx;exact⟨_,rfl,_,rfl,p,B,met,x.1,x.2,rfl,tb.same (s2.trans s3),s3.get (hps x hx),tb.cl _ hm _ e _ hx',ht _ hx',by omega,λH4 s4=>hR H4 s4⟩
  ·have le:=Rw.len (n:=m+1) (.inr ⟨lv,_,e,by rw[aa];exact l3,ht⟩);have ec:IM B (m+1) t.1=PySem.Txt.join EM (ps.map λx=>IM B m x.2.1):=by
    rw[IM,e];dsimp only;rw[aj];rfl
   have m3:3^(m+1)<=3^2:=gx (by decide) n2;rw[ec,GY] at le;have hl3':H3 l3'=some (.lst ((ps.map λx=>IM B m x.2.1).map V.str)):=by rw[hl3,aj];rfl
   rw[ec] at q;refine⟨l3',EM,_,rfl,rfl,AB.of hl3',?_,q H3 (s2.trans s3)⟩;rw[show EM.length=0 from rfl,fZ];omega
theorem QY (T:Txt K mg C XC)(F:Fun K "content_at" "content_at" BN f fd)(Az:M3 P w K mg base 1 C "block" ["self","tag"] (AU K C))(C0:Def P w K mg base 1 "tags_in" ["block"] (Ea K))(hm:mg "content_at"=some (.ref f))(hk:W.keepIn K (.ref f)=true)(hb:Binds K fd ["pool","tag"] []):∀n,FnOk P w K mg base CU (1+n) f fd ["pool","tag"] (Ov n K C)
 |0=>F.ok ED (λvs H Q E h=>h.elim) (λcdv A outer s H vs Q E hr h=>h.elim)
 |n+1=>Se T F Az C0 n ⟨f,fd,QY T F Az C0 hm hk hb n,hm,hk,hb⟩
theorem Kb (T:Txt K mg C XC)(F:Fun K "content_at" "content_at" BN f fd)(Az:M3 P w K mg base 1 C "block" ["self","tag"] (AU K C))(C0:Def P w K mg base 1 "tags_in" ["block"] (Ea K))(hm:mg "content_at"=some (.ref f))(hk:W.keepIn K (.ref f)=true)(hb:Binds K fd ["pool","tag"] []):FnOk P w K mg base CU 4 f fd ["pool","tag"] (EL K C):=
 QY T F Az C0 hm hk hb 3
theorem Ej {σ:St}{H:Hp}{Q:List V->Hp->Prop}(h:Q [] H):Re σ H Q:=h
structure HE where
 nm:Str
 kd:Int
 ow:Str
 og:Key
 tg:Tg
def FN (H:Hp)(p:Addr×HE):Prop:=∃ta,H p.1=some (.tup [.str p.2.nm,.int p.2.kd,.str p.2.ow,kV p.2.og,.ref ta])/\Dm H ta p.2.tg
theorem FN.same {H H':Hp}{p:Addr×HE}(h:FN H p)(s:Al H H'):FN H' p:=let⟨ta,h1,h2⟩:=h;⟨ta,s.get h1,s.get h2⟩
def D2 (ps:List (Addr×HE))(z:Str):Option (Addr×HE):=ps.find? λp=>decide (p.2.nm=z)
def EA (K:W.Frag):Sp:=λvs H Q _=>∃(n:Addr) (ps:List (Addr×HE)) (z:Str),vs=[.ref n,.str z]/\H n=some (.tup (ps.map λp=>V.ref p.1))/\(∀p∈ps,FN H p)/\(∀p,D2 ps z=some p->Q (.ref p.1) H)/\(D2 ps z=none->Q .non H)
theorem Oy {α:Type}{p:α->Bool}{es:List α}{i:Nat}{y:α}(ey:es[i]?=some y)(e:p y=true)(no:∀x∈es.take i,p x=false):es.find? p=some y:=by
 have h1:es=es.take i++y::es.drop (i+1):=by
  obtain⟨hl,he⟩:=ar.mp ey;rw[<-he];exact(eE i es).symm.trans (by rw[dI hl])
 rw[h1,eY,bV.mpr λx hx c=>(by rw[no x hx] at c;cases c),List.find?_cons,e];rfl
theorem Ka (T:Txt K mg C XC)(F:Fun K "one_called" "one_called" CB f fd):FnOk P w K mg base CU 1 f fd ["some","name"] (EA K):=by
 exists GC
 ·obtain⟨n,ps,z,rfl,_⟩:=h;rfl
 obtain⟨n,ps,z,rfl,hn,he,q1,q2⟩:=h;refine⟨_,(!Ae (!BF aT rfl (!B9 (pv 0)) (@Ak _ _ (2) _ GC.nd rfl (by trivial) (by trivial)) (!Ah (!Bu (!AA CJ (!Ai Ar (pv 2) (!Ab) (λ_ _=>rfl)) (pv 1) (AG _)) (!Ah (!As (pv 2))) (!AO))) (by intro _;rfl)) (!Ah (!As (!LH)))),?_⟩
 try dsimp only[Bw,Cx.nox,Cx.wish]
 refine⟨_,rfl,n,rfl,⟨_,AD.of hn⟩,Gr (K:=K) (a:=n) (xs:=ps.map λp=>V.ref p.1) (λi σ H2=>H2=H/\(∃v,σ=[some (.ref n),some (.str z),v])/\∀p∈ps.take i,decide (p.2.nm=z)=false) ⟨rfl,⟨none,rfl⟩,λ_ h=>nomatch h⟩ (λi σ H2 _ ⟨e,_⟩=>by rw[e];exact AD.of hn) ?_ ?_⟩
 ·rintro i x σ H2 hi ⟨rfl,⟨v,rfl⟩,no⟩
  rw[aw] at hi;obtain⟨p,hp,rfl⟩:=aV.mp hi;obtain⟨ta,h1,_⟩:=he p (aE hp);refine⟨_,rfl,p.1,_,_,_,rfl,rfl,AD.of h1,Aj (j:=0) rfl,_,rfl,rfl,_,rfl,DN (λc=>?_) (λc=>?_)⟩
  ·have e:p.2.nm=z:=V.str.inj (dec_true c);exact⟨_,rfl,q1 p (Oy hp (aR e) no)⟩
  ·have e:p.2.nm≠z:=λe=>dec_false c (by rw[e])
   refine⟨rfl,⟨_,rfl⟩,λy hy=>?_⟩;rw[aX,hp] at hy;rcases aB.mp hy with h|h
   ·exact no y h
   ·cases ai.mp h;exact aO e
 ·rintro σ H2 ⟨rfl,_,no⟩
  rw[aa,bU] at no;exact q2 (bV.mpr λx hx c=>by rw[no x hx] at c;cases c)
theorem Jm (T:Txt K mg C XC)(F:Fun K "__init__" "NoName.__init__" Co f fd):FnOk P w K mg base CU 1 f fd ["self","name"] (NB (XC 1) "name"):=by
 exists Jj
 ·obtain⟨e,y,rfl,_⟩:=h;rfl
 obtain⟨e,y,rfl,he,q⟩:=h;refine⟨_,(!Ah (!Od (pv 0) (pv 1))),?_⟩;exact⟨_,rfl,_,rfl,e,XC 1,rfl,he,T.i_NoName,T.f_NoName,q⟩
def FV (K:W.Frag)(XC:Nat->Addr):Sp:=λvs H Q E=>∃(h:Addr) (x y:V) (n:Addr) (ps:List (Addr×HE)) (z:Str),vs=[.ref h,.str z]/\H h=some (.tup [x,y,.ref n])/\H n=some (.tup (ps.map λp=>V.ref p.1))/\(∀p∈ps,FN H p)/\(∀p,D2 ps z=some p->Q (.ref p.1) H)/\
 (D2 ps z=none->∀dx,H dx=none->E (.ref (XC 1)) (some dx) (upd H dx (.xd [("name",.str z)])))
theorem Mc (T:Txt K mg C XC)(F:Fun K "named_so" "named_so" Ds f fd)(Fy:Def P w K mg base 1 "one_called" ["some","name"] (EA K))(EN:QP P w K mg base 1 "NoName" (XC 1) "name" ["self","name"]):FnOk P w K mg base (MJ P w) 3 f fd ["head","name"] (FV K XC):=by
 refine F.okE ID (λvs H Q E h=>?_) (λcdv A outer s H vs Q E hr h=>?_)
 ·obtain⟨h,x,y,n,ps,z,rfl,_⟩:=h;rfl
 obtain⟨h,x,y,n,ps,z,rfl,hh,hn,he,q1,q2⟩:=h;refine⟨_,(!Ae (@Ap _ _ (2) _ _ _ _ ID.nd rfl (by trivial) (!AM Fy (by trivial) rfl (!Aa (!Ai Ar (pv 0) (!Ab) (λ_ _=>rfl)) (!Aa (pv 1) (!Ac)))) (by rfl) (by trivial)) (!Ae (!Bu (!Hz (!Q9 (pv 2)) (by first|exact Ef _ (by decide) (by decide)|rfl)) (!Ah (!KS JV rfl EN (by trivial) rfl (!Aa (pv 1) (!Ac)))) (!AO)) (!Ah (!As (pv 2))))),?_⟩
 try dsimp only[Bw,Cx.nox,Cx.wish]
 refine⟨_,rfl,h,_,_,_,rfl,rfl,AD.of hh,Aj (j:=2) rfl,_,rfl,n,ps,z,rfl,hn,he,λp e=>?_,λe=>?_⟩
 ·exact⟨_,rfl,_,rfl,By (aO λe=>by cases e) ⟨_,rfl,q1 p e⟩⟩
 ·exact⟨_,rfl,_,rfl,DR rfl ⟨_,rfl,_,rfl,q2 e⟩⟩
def ML (B:BM)(z:Int):List En:=match B z with
 |some (.folder es)=>es
 |_=>[]
theorem C6 {B:BM}{z:Int}{es:List En}(h:B z=some (.folder es)):ML B z=es:=by
 unfold ML;rw[h]
def J0 (B:BM):Option (Int×Tg)->List Str->Option (Int×Tg)
 |e,[]=>e
 |none,_::_=>none
 |some (k,g),s::ss=>if k=2 then J0 B (Kw (ML B g.1) s) ss else none
theorem RX {es:List En}{z:Str}{k:Int}{g:Tg}(h:Kw es z=some (k,g)):∃x∈es,x.nm=z/\x.kd=k/\x.tg=g:=by
 unfold Kw at h;obtain⟨x,hx,e⟩:=aV.mp h;cases e;exact⟨x,cI hx,by simpa using eC hx,rfl,rfl⟩
abbrev UP (B:BM)(met:List Int)(g:Tg):Prop:=g.1∈met/\∃es,B g.1=some (.folder es)
def Vq (B:BM)(met:List Int):Option (Int×Tg)->Prop
 |none=>True
 |some (k,g)=>k=2->UP B met g
theorem Tv {H:Hp}{p:Addr}{B:BM}{met:List Int}(tb:Tb C H p B met){z:Int}{es:List En}(hz:z∈met)(h:B z=some (.folder es))(s:Str):Vq B met (Kw es s):=by
 cases e:Kw es s with
 |none=>trivial
 |some kg=>
  obtain⟨k,g⟩:=kg;obtain⟨x,hx,_,rfl,rfl⟩:=RX e;exact λk2=>⟨tb.cl z hz _ h x.tg (aF hx),((tb.fw z hz es h).2 x hx).2 k2⟩
def P9 (z:Str):List Str:=if z=EM then[] else PySem.Txt.split z SL
def Qi (z:Str):Prop:=z=EM\/FL (PySem.Txt.split z SL)=true
theorem PU {H:Hp}{z:Str}{Q:VK}{E:XK}(lz:z.length<=1000)(h1:Qi z->∀l H',Al H H'->H l=none->H' l=some (.lst ((P9 z).map V.str))->Q (.ref l) H')(h2:¬Qi z->∀H' dx,Al H H'->H' dx=none->E (.ref (XC 0)) (some dx) (upd H' dx (.xd [("path",.str z)]))):Er K XC [.str z] H Q E:=by
 refine⟨z,rfl,lz,λe l H' s' nl hl=>h1 (.inl e) l H' s' nl ?_,λe g l H' s' nl hl=>h1 (.inr g) l H' s' nl ?_,λe g H' dx s' hd=>h2 (λk=>?_) H' dx s' hd⟩
 ·rw[P9,aI e];exact hl
 ·rw[P9,aH e];exact hl
 ·rcases k with k|k
  ·exact e k
  ·rw[g] at k;cases k
theorem Su {z:Str}(h:Qi z):(P9 z).length<=8:=by
 unfold P9
 split
 ·exact bg _
 ·next e=>
  have g:=h.resolve_left e;unfold FL at g;rw[bq,cz] at g;exact g.1
def FY (K:W.Frag)(C:Addr)(XC:Nat->Addr):Sp:=λvs H Q E=>∃(p:Addr) (B:BM) (met:List Int) (ta:Addr) (g:Tg) (z:Str),vs=[.ref p,.ref ta,.str z]/\Tb C H p B met/\Dm H ta g/\UP B met g/\z.length<=1000/\
 (Qi z->∀u H',Al H H'->Jo H' (J0 B (some (2,g)) (P9 z)) u->Q u H')/\(¬Qi z->∀H' dx,Al H H'->H' dx=none->E (.ref (XC 0)) (some dx) (upd H' dx (.xd [("path",.str z)])))
theorem Me (T:Txt K mg C XC)(F:Fun K "entry_at" "entry_at" Du f fd)(GQ:FZ P w K mg base 3 "steps_in" ["path"] (Er K XC))(D3:Def P w K mg base 1 "entry_called" ["folder","name"] (DP K))(Az:M3 P w K mg base 1 C "block" ["self","tag"] (AU K C)):FnOk P w K mg base (MJ P w) 4 f fd ["pool","root","path"] (FY K C XC):=by
 refine F.okE El (λvs H Q E h=>?_) (λcdv A outer s H vs Q E hr h=>?_)
 ·obtain⟨p,B,met,ta,g,z,rfl,_⟩:=h;rfl
 obtain⟨p,B,met,ta,g,z,rfl,tb,hta,hroot,lz,hq,q2⟩:=h;have hu:=Cp hr;have hu9:=B8 hr;obtain⟨dx,d,kvs,hx,_⟩:=tb.at_;refine⟨_,(!Ae (@Ap _ _ (3) _ _ _ _ El.nd rfl (by trivial) (!AY (!Aa (!C8 rfl T.c_FOLDER_ENTRY) (!Aa (pv 1) (!Ac)))) (by rfl) (by trivial)) (!Ae (!BF PassesOwn.leaving rfl (!BA (!D9 GQ (by trivial) rfl Gf (!Aa (pv 2) (!Ac)))) (@Ak _ _ (4) _ El.nd rfl (by trivial) (by trivial)) (!Ae (!Bu (@PW.pt _ _ _ (!Hh (!Hz (!Q9 (pv 3)) (by first|exact Ef _ (by decide) (by decide)|rfl)) (!FS (!AA Iu (!Ai Ar (pv 3) (!Ab) (λ_ _=>rfl)) (!C8 rfl T.c_FOLDER_ENTRY) (AG _))))) (!Ah (!As (!LH))) (!AO)) (!Ah (@Ap _ _ (3) _ _ _ _ El.nd rfl (by trivial) (!AM D3 (by trivial) rfl (!Aa (!NC (pv 0) T.cl Az (by trivial) (!Aa (!Ai Ar (pv 3) (!Ab) (λ_ _=>rfl)) (!Ac))) (!Aa (pv 4) (!Ac)))) (by rfl) (by trivial)))) (by intro _;rfl)) (!Ah (!As (pv 3))))),?_⟩
 try dsimp only[Bw,Cx.nox,Cx.wish]
 refine⟨_,rfl,E3,λpe npe=>?_⟩;have s1:=Af npe (.tup [.int 2,.ref ta]);have hpe:(upd H pe (.tup [.int 2,.ref ta])) pe=some (.tup [.int 2,.ref ta]):=Ad;dsimp only[Aq,QV];generalize upd H pe (.tup [.int 2,.ref ta])=H1 at s1 hpe;refine⟨_,rfl,Ej (PU (K:=K) lz (λok l H2 s2 nl hl=>?_) λno H' dx s' hd=>q2 no H' dx (s1.trans s') hd)⟩;have l8:=Su ok;have hq:=hq ok;generalize P9 z=ss at hq hl l8;have s12:=s1.trans s2;refine⟨l,rfl,⟨_,AB.of hl⟩,?_⟩;refine Eh (K:=K) (a:=l) (xs:=ss.map V.str) (λi σ H3=>∃u v4 e,σ=[some (.ref p),some (.ref ta),some (.str z),some u,v4]/\Al H2 H3/\Jo H3 e u/\Vq B met e/\J0 B e (ss.drop i)=J0 B (some (2,g)) ss) ⟨.ref pe,none,some (2,g),rfl,Al.refl _,⟨pe,ta,rfl,s2.get hpe,s12.get hta⟩,λ_=>hroot,rfl⟩ (by rintro i σ H3 _ ⟨_,_,_,_,s3,_⟩;exact AB.of (s3.get hl)) ?_ ?_
 ·rintro i x σ H3 hi ⟨u,v4,e,rfl,s3,he,eok,ew⟩
  rw[aw] at hi;obtain⟨st,est,rfl⟩:=aV.mp hi;have hi':=(ar.mp est).1;have ed:ss.drop i=st::ss.drop (i+1):=by
   rw[dI hi'];rw[ah hi'] at est;rw[aP est]
  rw[ed] at ew;have s13:=s12.trans s3;dsimp only[Aq,Pq,Pm,Wc];cases e with
  |none=>
   cases(show u=V.non from he);refine⟨_,rfl,_,rfl,DR rfl (DR rfl ?_)⟩;refine hq _ _ s13 ?_;rw[<-ew];rfl
  |some kg=>
   obtain⟨k,gg⟩:=kg;obtain⟨pu,tu,rfl,hpu,htu⟩:=he;refine⟨_,rfl,_,rfl,By rfl ?_⟩;refine⟨_,rfl,pu,_,_,_,rfl,rfl,AD.of hpu,rfl,rfl,_,rfl,DN (λc=>?_) (λc=>?_)⟩
   ·have k2:k≠2:=λz=>by rw[z] at c;exact absurd c (by decide)
    refine hq _ _ s13 ?_;rw[<-ew];show Jo H3 (if k=2 then _ else none) V.non;rw[aH k2];rfl
   ·have k2:k=2:=by
     by_cases z:k=2
     ·exact z
     ·exact absurd (by rw[aO λy=>z (V.int.inj y)];rfl) c
    subst k2;obtain⟨gm,es,hes⟩:=eok rfl;have tb3:=tb.same s13;have few:es.length<=1000:=by have:=(tb.fw _ gm es hes).1;omega
    refine⟨_,rfl,p,dx,_,rfl,s13.get hx,rfl,_,rfl,pu,_,_,_,rfl,rfl,AD.of hpu,rfl,Ej (Jb (K:=K) tb3 htu gm hes λv rv=>⟨_,rfl,v,es,st,rfl,rv,few,λu' H4 s4 he4=>?_⟩)⟩;refine⟨u',_,_,rfl,s3.trans s4,he4,Tv tb gm hes st,?_⟩;rw[<-ew];show _=if(2:Int)=2 then J0 B (Kw (ML B gg.1) st) _ else none;rw[aI rfl,C6 hes]
 ·rintro σ H3 ⟨u,v4,e,rfl,s3,he,eok,ew⟩
  rw[aa,List.drop_length] at ew;refine⟨_,rfl,hq _ _ (s12.trans s3) ?_⟩;rw[<-ew];cases e<;>exact he
def pj (z n:Str):Str:=if z=EM then n else(z++SL)++n
def GJ (K:W.Frag):Sp:=λvs H Q _=>∃(z n:Str),vs=[.str z,.str n]/\z.length<=1000/\n.length<=1000/\Q (.str (pj z n)) H
theorem Np (T:Txt K mg C XC)(F:Fun K "path_to" "path_to" DY f fd):FnOk P w K mg base CU 1 f fd ["folder","name"] (GJ K):=by
 exists MY
 ·obtain⟨z,n,rfl,_⟩:=h;rfl
 obtain⟨z,n,rfl,lz,ln,q⟩:=h;have hu:=Cp hr;refine⟨_,(!Ae (!Bu (!AA CJ (pv 0) (!A3) (AG _)) (!Ah (!As (pv 1))) (!AO)) (!Ah (!As (!Am BP (!Am BP (pv 0) (!A3)) (pv 1))))),?_⟩
 try dsimp only[Bw,Cx.nox,Cx.wish]
 dsimp only[Pq,Pm];refine⟨_,rfl,rfl,_,rfl,DN (λc=>?_) (λc=>?_)⟩
 ·have e:z=EM:=V.str.inj (bh c);refine⟨_,rfl,?_⟩;rw[pj,aI e] at q;exact q
 ·have e:z≠EM:=λe=>c (aR (by rw[e]))
  rw[pj,aH e] at q;have l1:(z++SL).length=z.length+1:=Str.length_append _ _;exact⟨_,rfl,_,_,rfl,rfl,ba (by show z.length+1<=1000000;omega) (by decide:(1000000:Nat)<=sizeLine),_,rfl,_,_,rfl,rfl,ba (by rw[l1];show z.length+1+n.length<=1000000;omega) (by decide:(1000000:Nat)<=sizeLine),q⟩
theorem EX {α β:Type}{f:α->β}{us vs:List β}(h:us.Perm vs):∀{qs:List α},vs=qs.map f->∃us':List α,us'.Perm qs/\us'.map f=us:=by
 induction h with
 |nil=>intro qs e;exact⟨[],by rw[eO.mp e.symm],rfl⟩
 |cons x _ ih=>
  intro qs e;cases qs with
  |nil=>cases e
  |cons q qs=>
   rw[av] at e;injection e with e1 e2
   obtain⟨us',h1,h2⟩:=ih e2;exact⟨q::us',h1.cons q,by rw[av,h2,e1]⟩
 |swap x y l=>
  intro qs e;cases qs with
  |nil=>cases e
  |cons q qs=>
   cases qs with
   |nil=>cases e
   |cons q' qs=>
    rw[av,av] at e;injection e with e1 e2
    injection e2 with e2 e3
    exact⟨q'::q::qs,List.Perm.swap _ _ _,by rw[av,av,e1,e2,e3]⟩
 |trans _ _ ih1 ih2=>
  intro qs e;obtain⟨a,h1,h2⟩:=ih2 e;obtain⟨b,h3,h4⟩:=ih1 h2.symm;exact⟨b,h3.trans h1,h4⟩
def GB (H:Hp)(p:Addr×En):Prop:=∃b,H p.1=some (.tup [.str p.2.nm,.int p.2.kd,.ref b])/\H b=some (.tup [.int p.2.tg.1,.int p.2.tg.2.1,.int p.2.tg.2.2])
theorem GB.same {H H':Hp}{p:Addr×En}(h:GB H p)(s:Al H H'):GB H' p:=let⟨b,h1,h2⟩:=h;⟨b,s.get h1,s.get h2⟩
theorem GB.tup {H H':Hp}{p:Addr×En}(h:GB H p)(k:∀b xs,H b=some (.tup xs)->H' b=some (.tup xs)):GB H' p:=let⟨b,h1,h2⟩:=h;⟨b,k _ _ h1,k _ _ h2⟩
theorem JD {H:Hp}:∀{es:List En} {us:List V},AX NL H (es.map MM) us->∃ps:List (Addr×En),us=ps.map (λp=>V.ref p.1)/\es=ps.map (·.2)/\∀p∈ps,GB H p
 |[],us,h=>⟨[],by rw[show us=[] from h];rfl,rfl,λ_ h=>nomatch h⟩
 |x::es,us,h=>by
  obtain⟨v,vs,rfl,r,rs⟩:=h;obtain⟨ps,e1,e2,e3⟩:=JD rs;obtain⟨a,b,rfl,h1,h2⟩:=JH r;refine⟨(a,x)::ps,by rw[e1];rfl,by rw[e2];rfl,λp hp=>?_⟩;rcases aD.mp hp with rfl|hp
  ·exact⟨b,h1,h2⟩
  ·exact e3 p hp
theorem N7 {H:Hp}:∀{ps:List (Addr×En)},(∀p∈ps,GB H p)->AX NL H ((ps.map (·.2)).map MM) (ps.map λp=>V.ref p.1)
 |[],_=>rfl
 |p::ps,h=>by
  obtain⟨b,h1,h2⟩:=h p ay;exact⟨_,_,rfl,Ut h1 h2,N7 λq hq=>h q (az _ hq)⟩
theorem EZ {z:Str}(h:Cv (.str z)=true):z.length<=8:=by
 have h':(decide ((1:Int)<=z.length)&&decide ((z.length:Int)<=8)&&CK LN z)=true:=h;simp only[Bool.and_eq_true,decide_eq_true_eq] at h';omega
def FH (B:BM)(x:En):List En:=if x.kd=2 then(ML B x.tg.1).map λe=>⟨pj x.nm e.nm,e.kd,e.tg⟩ else[]
def allB (B:BM):Nat->List En->List En
 |0,_=>[]
 |n+1,l=>l++allB B n (l.flatMap (FH B))
def UM (B:BM):Nat->List En->List En
 |0,l=>l
 |n+1,l=>UM B n (l.flatMap (FH B))
def Ua (H:Hp)(a:Addr):V:=match H a with
 |some (.tup [_,_,c])=>c
 |_=>.non
theorem GB.th {H:Hp}{p:Addr×En}(h:GB H p):H p.1=some (.tup [.str p.2.nm,.int p.2.kd,Ua H p.1]):=by
 obtain⟨b,h1,_⟩:=h;unfold Ua;rw[h1]
theorem NY {H:Hp}{F:En->En}:∀{ys:List ((Addr×En)×V)},(∀q∈ys,∃t,q.2=V.ref t/\GB H (t,F q.1.2))->∃rs:List (Addr×En),ys.map (·.2)=rs.map (λp=>V.ref p.1)/\rs.map (·.2)=(ys.map (·.1)).map (λp=>F p.2)/\∀p∈rs,GB H p
 |[],_=>⟨[],rfl,rfl,λ_ h=>nomatch h⟩
 |y::ys,h=>by
  obtain⟨rs,e1,e2,e3⟩:=NY λq hq=>h q (az _ hq)
  obtain⟨t,et,ht⟩:=h y ay;refine⟨(t,F y.1.2)::rs,by rw[av,av,e1,et],by rw[av,av,av,e2],λp hp=>?_⟩;rcases aD.mp hp with rfl|hp
  ·exact ht
  ·exact e3 p hp
theorem MB (B:BM):∀n,allB B n []=[]
 |0=>rfl
 |n+1=>by show[]++allB B n []=[];rw[MB B n];rfl
def HH (K:W.Frag)(C:Addr):Sp:=λvs H Q _=>∃(p:Addr) (B:BM) (met:List Int) (ta:Addr) (g:Tg) (n:Nat),vs=[.ref p,.ref ta]/\Tb C H p B met/\Dm H ta g/\UP B met g/\
 UM B n [⟨EM,2,g⟩]=[]/\(allB B n [⟨EM,2,g⟩]).length<=63/\((allB B n [⟨EM,2,g⟩]).map (·.nm)).Nodup/\(∀x∈allB B n [⟨EM,2,g⟩],x.nm.length<=900)/\
 ∀l (ps:List (Addr×En)) H',Al H H'->H l=none->H' l=some (.lst (ps.map λp=>V.ref p.1))->(∀p∈ps,GB H' p)->(ps.map (·.2)).Perm (allB B n [⟨EM,2,g⟩])->PyProof.Rows.sortedS ((ps.map (·.2)).map (·.nm))=true->Q (.ref l) H'
theorem Pe (T:Txt K mg C XC)(F:Fun K "all_in" "all_in" EW f fd)(HS:Def P w K mg base 1 "path_to" ["folder","name"] (GJ K))(Az:M3 P w K mg base 1 C "block" ["self","tag"] (AU K C)):FnOk P w K mg base CU 2 f fd ["pool","root"] (HH K C):=by
 exists C2
 ·obtain⟨p,B,met,ta,g,n,rfl,_⟩:=h;rfl
 obtain⟨p,B,met,ta,g,n,rfl,tb,hta,hroot,dn,few,nd,ln,hq⟩:=h;have hu:=Cp hr;obtain⟨dx,d,kvs,hx,_⟩:=tb.at_;refine⟨_,(!Ae (@Ap _ _ (2) _ _ _ _ C2.nd rfl (by trivial) (!Bc (!Ac)) (by rfl) (by trivial)) (!Ae (@Ap _ _ (3) _ _ _ _ C2.nd rfl (by trivial) (!Bc (!Aa (!AY (!Aa (!A3) (!Aa (!C8 rfl T.c_FOLDER_ENTRY) (!Aa (pv 1) (!Ac))))) (!Ac))) (by rfl) (by trivial)) (!Ae (!JT aT (!AA Q7 (!Aw A0 (by rfl) T.b_len Cs (!Aa (pv 3) (!Ac))) (!Ab) (AG _)) (!Ae (!BK (!Cf aL cM cL Gj (pv 2) (!Aa (pv 3) (!Ac)))) (!Ae (@Ap _ _ (4) _ _ _ _ C2.nd rfl (by trivial) (!Bc (!Ac)) (by rfl) (by trivial)) (!Ae (!BF aT rfl (!BA (pv 3)) (!D5 rfl (!Av (@Ak _ _ (5) _ C2.nd rfl (by trivial) (by trivial)) (!Av (@Ak _ _ (6) _ C2.nd rfl (by trivial) (by trivial)) (!Av (@Ak _ _ (7) _ C2.nd rfl (by trivial) (by trivial)) (!BU))))) (!Ah (!Bu (!AA CJ (pv 6) (!C8 rfl T.c_FOLDER_ENTRY) (AG _)) (!Ah (!BK (!Cf aL cM cL Gj (pv 4) (!Aa (@Cb _ ["name","below","own","path"] [none,none,none,some 5] _ _ _ _ _ _ _ _ _ _ _ rfl (!B9 (!Ai Ar (!NC (pv 0) T.cl Az (by trivial) (!Aa (pv 7) (!Ac))) (!Ab) (λ_ _=>rfl))) (by rfl) rfl (by repeat (first|exact trivial|refine⟨rfl,?_⟩)) (by repeat (first|exact trivial|refine⟨λh=>(by first|exact⟨_,rfl⟩|cases h),?_⟩)) (λC s H fp=>⟨(@Gu _ (K) _ _ _ _ (3) (by rfl) rfl (!Av (@Ak _ _ (0) _ (show(["name","below","own","path"]:List Str).Nodup by decide +kernel) rfl (by trivial) (by trivial)) (!Av (@Ak _ _ (1) _ (show(["name","below","own","path"]:List Str).Nodup by decide +kernel) rfl (by trivial) (by trivial)) (!Av (@Ak _ _ (2) _ (show(["name","below","own","path"]:List Str).Nodup by decide +kernel) rfl (by trivial) (by trivial)) (!BU)))) (by rfl) (by rfl)),(!AW),(!AY (!Aa (!AM HS (by trivial) rfl (!Aa (pv 3) (!Aa (pv 0) (!Ac)))) (!Aa (pv 1) (!Aa (pv 2) (!Ac)))))⟩) (by intro _;rfl)) (!Ac))))) (!AO))) (by intro _;rfl)) (!Ah (@Ap _ _ (3) _ _ _ _ C2.nd rfl (by trivial) (pv 4) (by rfl) (by trivial))))))) (!Ah (!As (!Aw (Eu (K:=K) (by rfl)) (by rfl) T.b_sorted DT (!Aa (pv 2) (!Ac)))))))),?_⟩
 try dsimp only[Bw,Cx.nox,Cx.wish]
 refine Ao ⟨Fm,λlf nlf=>?_⟩;have s1:=Af nlf (.lst []);have hlf1:(upd H lf (.lst [])) lf=some (.lst []):=Ad;generalize upd H lf (.lst [])=H1 at s1 hlf1;dsimp only[Aq];refine Ao ⟨_,rfl,II,λpt npt=>?_⟩;have s2:=Af npt (.tup [.str EM,.int 2,.ref ta]);have hpt2:(upd H1 pt (.tup [.str EM,.int 2,.ref ta])) pt=some (.tup [.str EM,.int 2,.ref ta]):=Ad;generalize upd H1 pt (.tup [.str EM,.int 2,.ref ta])=H2 at s2 hpt2;refine⟨QO,λll0 nll=>?_⟩;have s3:=Af nll (.lst [.ref pt]);have hll3:(upd H2 ll0 (.lst [.ref pt])) ll0=some (.lst [.ref pt]):=Ad;generalize upd H2 ll0 (.lst [.ref pt])=H3 at s3 hll3;dsimp only[Aq];have s13:=s1.trans (s2.trans s3);refine Bs (t:=LL _ _) (λσ' H'=>∃(ps:List (Addr×En)) (v3 v4 v5 v6 v7:Option V),σ'=[some (.ref p),some (.ref ta),some (.ref lf),v3,v4,v5,v6,v7]/\Al H H'/\H' lf=some (.lst (ps.map λp=>V.ref p.1))/\(∀p∈ps,GB H' p)/\ps.map (·.2)=allB B n [⟨EM,2,g⟩]) (λN hN=>?_) ?_
 ·refine⟨λm σ' H'=>∃(ll:Addr) (ps qs:List (Addr×En)) (v4 v5 v6 v7:Option V),σ'=[some (.ref p),some (.ref ta),some (.ref lf),some (.ref ll),v4,v5,v6,v7]/\Al H H'/\H ll=none/\lf≠ll/\H' lf=some (.lst (ps.map λp=>V.ref p.1))/\H' ll=some (.lst (qs.map λp=>V.ref p.1))/\(∀p∈ps,GB H' p)/\(∀p∈qs,GB H' p)/\allB B n [⟨EM,2,g⟩]=ps.map (·.2)++allB B m (qs.map (·.2))/\UM B m (qs.map (·.2))=[]/\∀p∈qs,p.2.kd=2->UP B met p.2.tg,
   ⟨n,ll0,[],[(pt,⟨EM,2,g⟩)],none,none,none,none,rfl,s13,(s1.trans s2).free nll,(λw=>by rw[<-w,s2.get hlf1] at nll;cases nll),(s2.trans s3).get hlf1,hll3,(λ_ h=>nomatch h),(λp hp=>by cases ai.mp hp;exact⟨ta,s3.get hpt2,s13.get hta⟩),rfl,dn,λp hp _=>by cases ai.mp hp;exact hroot⟩,?_⟩
  rintro m σ' H4 ⟨ll,ps,qs,v4,v5,v6,v7,rfl,s4,nl4,nfl,hlf,hll,hps,hqs,eall,edn,hfl⟩
  refine⟨_,rfl,ll,_,rfl,.inl (AB.of hll),_,_,rfl,rfl,_,rfl,DN (λc=>?_) (λc=>?_)⟩
  ·have c':=bh c;rw[aa] at c';cases m with
   |zero=>
    rw[eO.mp (show qs.map (·.2)=[] from edn)] at c';exact absurd c' (by decide)
   |succ m=>
   refine⟨_,λσ' H' h=>⟨m,cH m,h⟩,?_⟩;have lall:ps.length+qs.length<=63:=by
    have:=few;rw[eall] at this;simp only[allB,List.length_append,List.length_map] at this;omega
   have lnm:∀p∈qs,p.2.nm.length<=900:=λp hp=>ln p.2 (by rw[eall];exact aK _ (bf _ (aF hp)))
   refine G1 ⟨_,rfl,.inl ⟨rfl,_,AB.of hlf⟩,_,rfl,lf,ll,_,_,rfl,rfl,hlf,hll,small (by rw[aa,aa];omega),?_⟩;rw[<-aq];have kt:∀c xs,H4 c=some (.tup xs)->(upd H4 lf (.lst ((ps++qs).map λp=>V.ref p.1))) c=some (.tup xs):=λc xs y=>by rw[An λw=>by rw[w,hlf] at y;cases y];exact y
   have s5:Al H (upd H4 lf (.lst ((ps++qs).map λp=>V.ref p.1))):=AI s4 nlf _;have hlf5:(upd H4 lf (.lst ((ps++qs).map λp=>V.ref p.1))) lf=some (.lst ((ps++qs).map λp=>V.ref p.1)):=Ad;have hll5:(upd H4 lf (.lst ((ps++qs).map λp=>V.ref p.1))) ll=some (.lst (qs.map λp=>V.ref p.1)):=by rw[An (Ne.symm nfl)];exact hll
   have hps5:∀p∈ps++qs,GB (upd H4 lf (.lst ((ps++qs).map λp=>V.ref p.1))) p:=λp hp=>by
    rcases aB.mp hp with hp|hp
    ·exact(hps p hp).tup kt
    ·exact(hqs p hp).tup kt
   generalize upd H4 lf (.lst ((ps++qs).map λp=>V.ref p.1))=H5 at s5 hlf5 hll5 hps5;refine Ao ⟨Fm,λlb nlb=>?_⟩;have s6:=Af nlb (.lst []);have hlb6:(upd H5 lb (.lst [])) lb=some (.lst []):=Ad;have nb1:lf≠lb:=λw=>by rw[<-w,hlf5] at nlb;cases nlb
   have nb2:ll≠lb:=λw=>by rw[<-w,hll5] at nlb;cases nlb
   generalize upd H5 lb (.lst [])=H6 at s6 hlb6;dsimp only[Aq];refine Bs (t:=GR _ _ _) (λσ' H'=>∃(rs:List (Addr×En)) (v5 v6 v7:Option V),σ'=[some (.ref p),some (.ref ta),some (.ref lf),some (.ref ll),some (.ref lb),v5,v6,v7]/\Al H H'/\H' lf=some (.lst ((ps++qs).map λp=>V.ref p.1))/\H' lb=some (.lst (rs.map λp=>V.ref p.1))/\(∀p∈ps++qs,GB H' p)/\(∀p∈rs,GB H' p)/\rs.map (·.2)=(qs.map (·.2)).flatMap (FH B)) (λN2 hN2=>?_) ?_
   ·refine⟨_,rfl,ll,rfl,⟨_,AB.of (s6.get hll5)⟩,?_⟩;refine Eh (K:=K) (a:=ll) (xs:=qs.map λp=>V.ref p.1) (λi σ H7=>∃(rs:List (Addr×En)) (v5 v6 v7:Option V),σ=[some (.ref p),some (.ref ta),some (.ref lf),some (.ref ll),some (.ref lb),v5,v6,v7]/\Al H H7/\H7 ll=some (.lst (qs.map λp=>V.ref p.1))/\H7 lf=some (.lst ((ps++qs).map λp=>V.ref p.1))/\H7 lb=some (.lst (rs.map λp=>V.ref p.1))/\(∀p∈ps++qs,GB H7 p)/\(∀p∈rs,GB H7 p)/\rs.map (·.2)=((qs.map (·.2)).take i).flatMap (FH B)/\rs.length<=16*i) ⟨[],_,_,_,rfl,s5.trans s6,s6.get hll5,s6.get hlf5,hlb6,λp hp=>(hps5 p hp).same s6,(λ_ h=>nomatch h),rfl,bg _⟩ (by rintro i σ H7 _ ⟨_,_,_,_,_,_,h,_⟩;exact AB.of h) ?_ ?_
    ·rintro i x σ H7 hi ⟨rs,v5,v6,v7,rfl,s7,hll7,hlf7,hlb7,hps7,hrs7,ers,lrs⟩
     rw[aw] at hi;obtain⟨y,ey,rfl⟩:=aV.mp hi;have hy:=aE ey;have li:=(ar.mp ey).1;have etk:((qs.map (·.2)).take (i+1)).flatMap (FH B)=((qs.map (·.2)).take i).flatMap (FH B)++FH B y.2:=by
      rw[aX,aw,ey,gE];simp
     obtain⟨tb',hy1,hy2⟩:=hps7 y (aK _ hy);dsimp only[Aq];refine⟨y.1,_,rfl,AD.of hy1,rfl,_,_,rfl,_,_,rfl,_,_,rfl,rfl,?_⟩;refine⟨_,rfl,rfl,_,rfl,DN (λc=>?_) (λc=>?_)⟩
     ·have k2:y.2.kd=2:=V.int.inj (bh c);obtain⟨gm,es,hes⟩:=hfl y hy k2;have ok0:=tb.fw _ gm es hes;refine⟨_,rfl,.inl ⟨rfl,_,AB.of hlb7⟩,?_⟩;refine⟨_,rfl,p,dx,_,rfl,s7.get hx,rfl,_,rfl,Ej (Jb (K:=K) (tb.same s7) hy2 gm hes λfv rv0=>?_)⟩;obtain⟨fa,fb,us,rfl,hfa,hfb,rus⟩:=Cq rv0;obtain⟨eps,rfl,rfl,heps⟩:=JD rus;refine⟨fa,_,_,_,rfl,rfl,AD.of hfa,rfl,fb,rfl,⟨_,AD.of hfb⟩,?_⟩;have lep:eps.length<=16:=by
       have:=ok0.1;rw[aa] at this;exact this
      refine Ih (ps:=eps) (g:=λx=>x.1) (A:=λx=>.str x.2.nm) (B:=λx=>.int x.2.kd) (C:=λx=>Ua H7 x.1) (λ_=>true) (λx v H'=>∃t,v=.ref t/\GB H' (t,⟨pj y.2.nm x.2.nm,x.2.kd,x.2.tg⟩)) rfl (λx v H1 H2 ⟨t,e,h⟩ s=>⟨t,e,h.same s⟩) (λx v H1 l us us' ⟨t,e,h⟩ hl=>⟨t,e,h.tup λc xs w=>by rw[An λw'=>by rw[w',hl] at w;cases w];exact w⟩) (B2 hfb) (λx hx=>(heps x hx).th) (by omega) (λx hx H' R s' hR=>hR H' (Al.refl _)) (λx hx _ H' R s' hR=>?_) (λl H8 ys nl s8 hl8 e1 hys=>?_)
      ·obtain⟨b,h1,h2⟩:=heps x hx;have eth:Ua H7 x.1=.ref b:=by
        unfold Ua;rw[h1]
       rw[eth];have l1:=lnm y hy;have l2:=EZ (ok0.2 x.2 (aF hx)).1;refine⟨_,rfl,_,rfl,y.2.nm,x.2.nm,rfl,by omega,by omega,_,rfl,_,rfl,II,λpn npn=>?_⟩;have s9:=Af npn (.tup [.str (pj y.2.nm x.2.nm),.int x.2.kd,.ref b]);exact hR _ _ s9 ⟨pn,rfl,b,Ad,s9.get (s'.get h2)⟩
      ·obtain⟨rs2,e2,e3,e4⟩:=NY (F:=λe=>⟨pj y.2.nm e.nm,e.kd,e.tg⟩) hys;rw[e2] at hl8;rw[e1,bW.mpr λ_ _=>rfl] at e3;have l2:rs2.length=eps.length:=by
        have:=congrArg List.length e3;rw[aa,aa] at this;exact this
       have hlb8:=s8.get hlb7;refine⟨lb,l,_,_,rfl,rfl,hlb8,hl8,small (by rw[aa,aa];omega),?_⟩;rw[<-aq];have kt:∀c xs,H8 c=some (.tup xs)->(upd H8 lb (.lst ((rs++rs2).map λp=>V.ref p.1))) c=some (.tup xs):=λc xs y=>by rw[An λw=>by rw[w,hlb8] at y;cases y];exact y
       refine⟨rs++rs2,_,_,_,rfl,AI (s7.trans s8) (s5.free nlb) _,by rw[An nb2];exact s8.get hll7,by rw[An nb1];exact s8.get hlf7,Ad,λp hp=>((hps7 p hp).same s8).tup kt,λp hp=>?_,?_,by rw[au];omega⟩
       ·rcases aB.mp hp with hp|hp
        ·exact((hrs7 p hp).same s8).tup kt
        ·exact(e4 p hp).tup kt
       ·rw[etk,aq,ers,e3,FH,aI k2,C6 hes,aj];rfl
     ·have k2:y.2.kd≠2:=λk2=>c (aR (by rw[k2]))
      refine⟨rs,_,_,_,rfl,s7,hll7,hlf7,hlb7,hps7,hrs7,?_,by omega⟩;rw[etk,FH,aH k2,br];exact ers
    ·rintro σ H7 ⟨rs,v5,v6,v7,rfl,s7,hll7,hlf7,hlb7,hps7,hrs7,ers,lrs⟩
     rw[aa,bb (by rw[aa];exact ak _)] at ers;exact hN2 _ _ ⟨rs,_,_,_,rfl,s7,hlf7,hlb7,hps7,hrs7,ers⟩
   ·rintro σ' H7 ⟨rs,v5,v6,v7,rfl,s7,hlf7,hlb7,hps7,hrs7,ers⟩
    refine⟨_,rfl,lb,ps++qs,rs,_,_,_,_,rfl,s7,s5.free nlb,nb1,hlf7,hlb7,hps7,hrs7,?_,?_,λx hx k2=>?_⟩
    ·rw[eall,aq,bD,ers];rfl
    ·rw[ers];exact edn
    ·have:x.2∈(qs.map (·.2)).flatMap (FH B):=by rw[<-ers];exact aF hx
     obtain⟨y,hy,hx'⟩:=dS.mp this;obtain⟨y',hy',rfl⟩:=ax.mp hy;unfold FH at hx'
     split at hx'
     ·next ky=>
      obtain⟨gm,es,hes⟩:=hfl y' hy' ky;rw[C6 hes] at hx';obtain⟨x',hx'',ex⟩:=ax.mp hx';rw[<-ex] at k2 ⊢;exact⟨tb.cl _ gm _ hes x'.tg (aF hx''),((tb.fw _ gm es hes).2 x' hx'').2 k2⟩
     ·cases hx'
  ·have c':=of_decide_eq_false (cD.mpr c);rw[aa] at c';have q0:qs=[]:=fR.mp (by omega);refine hN _ _ ⟨ps,_,_,_,_,_,rfl,s4,hlf,hps,?_⟩;rw[eall,q0,bY,MB,br]
 rintro σ' H4 ⟨ps,v3,v4,v5,v6,v7,rfl,s4,hlf,hps,eps⟩
 have lps:ps.length<=63:=by rw[<-eps,aa] at few;exact few
 dsimp only[Pl];refine⟨_,rfl,lf,ps.map λp=>(p.1,p.2.nm),rfl,AB.of (by rw[aj];exact hlf),by rw[aa];omega,λt ht=>?_,?_,λus l up so np=>?_⟩
 ·obtain⟨p,hp,rfl⟩:=ax.mp ht;obtain⟨_,h3,_⟩:=hps p hp;exact⟨_,AD.of h3⟩
 ·rw[aj];rw[<-eps,aj] at nd;exact nd
 ·obtain⟨rs',pm,rfl⟩:=EX up rfl;rw[aj];have s5:=Af np (.lst (rs'.map ((λt:Addr×Str=>V.ref t.1)∘λp:Addr×En=>(p.1,p.2.nm))));refine hq l rs' _ (s4.trans s5) (s4.free np) Ad (λp hp=>(hps p (pm.mem_iff.mp hp)).same s5) ?_ ?_
  ·rw[<-eps];exact pm.map _
  ·rw[aj] at so ⊢;exact so
structure AC where
 p:Addr
 z:Int
 b:Bk
 v:V
structure Acc (H:Hp) (a:Addr) (ps:List (Addr×HE)) (B:BM) (met:List Int):Prop where
 ex:∃(x0 x1 x4:V) (na ca:Addr) (cs:List AC),H a=some (.tup [x0,x1,.ref na,.ref ca,x4])/\H na=some (.tup (ps.map λp=>V.ref p.1))/\H ca=some (.tup (cs.map λc=>V.ref c.p))/\(∀c∈cs,(∃y u3 u4 u5,H c.p=some (.tup [.int c.z,y,c.v,u3,u4,u5]))/\Rep NL H (FF c.b) c.v/\B c.z=some c.b)/\cs.map (·.z)=met/\cs.length<=1000
 nd:met.Nodup
 en:∀p∈ps,FN H p
 cl:∀z∈met,∀b,B z=some b->∀t∈DB b,t.1∈met
 fw:∀z∈met,∀es,B z=some (.folder es)->es.length<=16/\∀x∈es,Cv (.str x.nm)=true/\(x.kd=2->∃es',B x.tg.1=some (.folder es'))
 rt:∀p∈ps,UP B met p.2.tg
theorem Acc.keep {H H':Hp}{a:Addr}{ps:List (Addr×HE)}{B:BM}{met:List Int}(h:Acc H a ps B met)(k:KT H H'):Acc H' a ps B met:=by
 obtain⟨⟨x0,x1,x4,na,ca,cs,h1,h2,h3,h4,h5,h6⟩,nd,en,cl,fw,rt⟩:=h;exact⟨⟨x0,x1,x4,na,ca,cs,k _ _ h1,k _ _ h2,k _ _ h3,λc hc=>let⟨⟨y,u3,u4,u5,e⟩,r,q⟩:=h4 c hc;⟨⟨y,u3,u4,u5,k _ _ e⟩,CQ k _ _ r,q⟩,h5,h6⟩,nd,λp hp=>let⟨ta,e1,e2⟩:=en p hp;⟨ta,k _ _ e1,k _ _ e2⟩,cl,fw,rt⟩
theorem Acc.same {H H':Hp}{a:Addr}{ps:List (Addr×HE)}{B:BM}{met:List Int}(h:Acc H a ps B met)(s:Al H H'):Acc H' a ps B met:=h.keep (KT.of s)
theorem IY {α:Type}{z:α->Int}{v:α->V}:∀{cs:List α},(cs.map z).Nodup->∀c∈cs,EU (cs.map λc=>(Sum.inl (z c),v c):List (Key×V)) (.inl (z c))=some (v c)
 |x::cs,nd,c,hc=>by
  rw[av,bQ] at nd;rw[av];rcases aD.mp hc with rfl|hc
  ·exact E4 rfl
  ·rw[D7 λe=>nd.1 (ax.mpr ⟨c,hc,(cQ e).symm⟩)];exact IY nd.2 c hc
def Bl (K:W.Frag)(C:Addr):Sp:=λvs H Q _=>∃(x dx a:Addr) (ps:List (Addr×HE)) (B:BM) (met:List Int),vs=[.ref x,.ref a]/\H x=some (.ins C dx [])/\Acc H a ps B met/\
 ∀H',(∀c o,H c=some o->c≠x->H' c=some o)->Tb C H' x B met->Q .non H'
theorem GI (T:Txt K mg C XC)(F:Fun K "__init__" "ToldBlocks.__init__" Bv f fd):FnOk P w K mg base CU 1 f fd ["self","account"] (Bl K C):=by
 exists GT
 ·obtain⟨x,dx,a,ps,B,met,rfl,_⟩:=h;rfl
 obtain⟨x,dx,a,ps,B,met,rfl,hx,ac,q⟩:=h;refine⟨_,(!Ah (!T8 (pv 0) (!Bf (NJ (K:=K) (by rfl) rfl) (by rfl) T.b_dict SM (!Aa (@BO _ ["cell"] _ _ _ _ _ _ _ _ _ _ rfl (!B9 (!Ai Ar (pv 1) (!Ab) (λ_ _=>rfl))) (by decide +kernel) (λC s H fp=>⟨(@Ak _ _ (0) _ (show(["cell"]:List Str).Nodup by decide +kernel) rfl (by trivial) (by trivial)),(!AW),(!AY (!Aa (!Ai (AS (K:=K) (by rfl)) (pv 0) (!Ab) (λ_ _=>rfl)) (!Aa (!Ai (AS (K:=K) (by rfl)) (pv 0) (!Ab) (λ_ _=>rfl)) (!Ac))))⟩) (by intro _;rfl)) (!Ac))))),?_⟩
 try dsimp only[Bw,Cx.nox,Cx.wish]
 obtain⟨x0,x1,x4,na,ca,cs,h1,h2,h3,h4,h5,h6⟩:=ac.ex;refine⟨_,rfl,a,_,_,_,rfl,rfl,AD.of h1,Aj (j:=3) rfl,ca,rfl,⟨_,AD.of h3⟩,?_⟩;refine RP (ps:=cs) (λ_=>true) (λc t H1=>H1 t=some (.tup [.int c.z,c.v])) (λc t H1 H2 h k=>k _ _ h) (B2 h3) (by omega) (λc hc H' S s' hS=>hS _ (Al.refl _)) (λc hc _ H' S s' hS=>?_) λl H1 rs nl s1 hl e1 hrs=>?_
 ·obtain⟨⟨y,u3,u4,u5,e⟩,r,_⟩:=h4 c hc;refine⟨_,rfl,c.p,_,_,_,rfl,rfl,AD.of (s'.get e),Aj (j:=0) rfl,_,rfl,c.p,_,_,_,rfl,rfl,AD.of (s'.get e),Aj (j:=2) rfl,E3,λt nt=>?_⟩;exact hS t _ (Af nt _) Ad
 rw[bW.mpr λ_ _=>rfl] at e1;have lr:rs.length=cs.length:=by rw[<-e1,aa]
 have nd:(cs.map (·.z)).Nodup:=by rw[h5];exact ac.nd
 refine⟨l,rs.map (·.2),cs.map λc=>(.inl c.z,c.v),rfl,AB.of (by rw[aj];exact hl),by rw[aa,aa,lr],by rw[aa];omega,?_,λi t k v ht hk=>?_,λd nd'=>?_⟩
 ·rw[aj];have:((λp:Key×V=>p.1)∘λc:AC=>((.inl c.z,c.v):Key×V))=Sum.inl∘(λc:AC=>c.z):=rfl;rw[this,<-aj];exact nd.map _ λa b n e=>n (cQ e)
 ·rw[aw] at ht hk;obtain⟨r,hr1,rfl⟩:=aV.mp ht;obtain⟨c,hc,e⟩:=aV.mp hk;cases e;have:(rs.map (·.1))[i]?=some c:=by rw[e1];exact hc
  rw[aw,hr1] at this;cases this;exact hrs r (aE hr1)
 ·have sd:=Af nd' (.dK (cs.map λc=>(Sum.inl c.z,c.v)));have nx:d≠x:=λe=>by rw[e,s1.get hx] at nd';cases nd'
  refine⟨_,rfl,x,C,dx,_,rfl,sd.get (s1.get hx),T.cl,T.n_blocks,(by show 0<1000;decide),?_⟩;have kk:∀c o,H c=some o->c≠x->(upd (upd H1 d (.dK (cs.map λc=>(Sum.inl c.z,c.v)))) x (.ins C dx (Gg "blocks" (.ref d) []))) c=some o:=λc o e n=>by rw[An n];exact sd.get (s1.get e)
  refine q _ kk ⟨⟨dx,d,_,Ad,by rw[An nx,Ad],λz hz=>?_⟩,ac.cl,ac.fw⟩;rw[<-h5] at hz;obtain⟨c,hc,rfl⟩:=ax.mp hz;obtain⟨_,r,e⟩:=h4 c hc;exact⟨c.b,c.v,e,IY nd c hc,CQ (λb xs e=>kk b _ e (λw=>by rw[w,hx] at e;cases e)) _ _ r⟩
theorem made {H1 H2:Hp}{x dx:Addr}(nx:H1 x=none)(ndx:H1 dx=none)(k:∀b o,(upd (upd H1 dx (.own x)) x (.ins C dx [])) b=some o->b≠x->H2 b=some o):Al H1 H2:=λb o e=>by
 have n1:b≠x:=Bm e nx;have n2:b≠dx:=Bm e ndx;exact k b o (by rw[An n1,An n2];exact e) n1
theorem Lw {H:Hp}{x dx a:Addr}{ps:List (Addr×HE)}{B:BM}{met:List Int}{R:VK}(ac:Acc H a ps B met)(nx:H x=none)(ndx:H dx=none)(h:∀H',Al H H'->Tb C H' x B met->R .non H'):Bl K C [.ref x,.ref a] (upd (upd H dx (.own x)) x (.ins C dx [])) R E0:=
 ⟨x,dx,a,ps,B,met,rfl,Ad,ac.keep λc xs e=>by rw[An (Bm e nx),An (Bm e ndx)];exact e,λH' k tb=>h H' (made nx ndx k) tb⟩
abbrev Wi (XC:Nat->Addr)(H:Hp)(z:Str)(E:XK):Prop:=∀H' dx,Al H H'->H' dx=none->E (.ref (XC 1)) (some dx) (upd H' dx (.xd [("name",.str z)]))
def Fi (K:W.Frag)(XC:Nat->Addr):Sp:=λvs H Q E=>∃(a:Addr) (ps:List (Addr×HE)) (B:BM) (met:List Int) (z:Str),vs=[.ref a,.str z]/\Acc H a ps B met/\(∀p,D2 ps z=some p->∀ta H',Al H H'->Dm H' ta p.2.tg->Q (.ref ta) H')/\(D2 ps z=none->Wi XC H z E)
theorem Jf {ps:List (Addr×HE)}{z:Str}{p:Addr×HE}(h:D2 ps z=some p):p∈ps/\p.2.nm=z:=⟨cI h,bh (eC (p:=λp:Addr×HE=>decide (p.2.nm=z)) h)⟩
theorem Nj (T:Txt K mg C XC)(F:Fun K "root_by" "root_by" DW f fd)(GV:FZ P w K mg base 3 "named_so" ["head","name"] (FV K XC)):FnOk P w K mg base (MJ P w) 4 f fd ["account","name"] (Fi K XC):=by
 refine F.okE MR (λvs H Q E h=>?_) (λcdv A outer s H vs Q E hr h=>?_)
 ·obtain⟨a,ps,B,met,z,rfl,_⟩:=h;rfl
 obtain⟨a,ps,B,met,z,rfl,ac,q1,q2⟩:=h;refine⟨_,(!Ah (!As (!Ai Ar (!D9 GV (by trivial) rfl Gf (!Aa (!E5 Ri (pv 0) (!Gs) (!E8 (!Ab))) (!Aa (pv 1) (!Ac)))) (!Ab) (λ_ _=>rfl)))),?_⟩
 try dsimp only[Bw,Cx.nox,Cx.wish]
 obtain⟨x0,x1,x4,na,ca,cs,h1,h2,_⟩:=ac.ex;refine⟨_,rfl,_,rfl,a,_,rfl,AD.of h1,(by show ¬(HT.Dk 5 0 none=0/\HT.Dk 5 5 (some 3)=5);decide),λt nt=>?_⟩;have st:=Af nt (.tup [x0,x1,.ref na]);refine⟨_,rfl,t,x0,x1,na,ps,z,rfl,Ad,st.get h2,λp hp=>(ac.en p hp).same st,λp e=>?_,λe dx hd=>q2 e _ dx st hd⟩;obtain⟨ta,e1,e2⟩:=ac.en p (Jf e).1;exact⟨p.1,_,_,_,rfl,rfl,AD.of (st.get e1),Aj (j:=4) rfl,q1 p e ta _ st (st.get e2)⟩
def DH (K:W.Frag)(XC:Nat->Addr):Sp:=λvs H Q E=>∃(a:Addr) (ps:List (Addr×HE)) (B:BM) (met:List Int) (z y:Str),vs=[.ref a,.str z,.str y]/\Acc H a ps B met/\y.length<=1000/\
 (∀p,D2 ps z=some p->Qi y->∀u H',Al H H'->Jo H' (J0 B (some (2,p.2.tg)) (P9 y)) u->Q u H')/\
 (∀p,D2 ps z=some p->¬Qi y->∀H' dx,Al H H'->H' dx=none->E (.ref (XC 0)) (some dx) (upd H' dx (.xd [("path",.str y)])))/\(D2 ps z=none->Wi XC H z E)
theorem Mh (T:Txt K mg C XC)(F:Fun K "entry_by" "entry_by" Dt f fd)(GU:FZ P w K mg base 4 "entry_at" ["pool","root","path"] (FY K C XC))(AV:PR P w K mg base 1 C "ToldBlocks" ["self","account"] (Bl K C))(D1:FZ P w K mg base 4 "root_by" ["account","name"] (Fi K XC)):FnOk P w K mg base (MJ P w) 5 f fd ["account","name","path"] (DH K XC):=by
 refine F.okE Mm (λvs H Q E h=>?_) (λcdv A outer s H vs Q E hr h=>?_)
 ·obtain⟨a,ps,B,met,z,y,rfl,_⟩:=h;rfl
 obtain⟨a,ps,B,met,z,y,rfl,ac,ly,q1,q2,q3⟩:=h;refine⟨_,(!Ah (!As (!D9 GU (by trivial) rfl Gf (!Aa (!MW AV (by trivial) rfl (!Aa (pv 0) (!Ac))) (!Aa (!D9 D1 (by trivial) rfl Gf (!Aa (pv 0) (!Aa (pv 1) (!Ac)))) (!Aa (pv 2) (!Ac))))))),?_⟩
 try dsimp only[Bw,Cx.nox,Cx.wish]
 refine⟨_,rfl,Ej λx dx nx ndx _=>Lw (K:=K) ac nx ndx λH1 s1 tb=>⟨rfl,?_⟩⟩;refine⟨_,rfl,_,rfl,a,ps,B,met,z,rfl,ac.same s1,λp e ta H2 s2 hta=>?_,λe H' dx s' hd=>q3 e H' dx (s1.trans s') hd⟩;exact⟨_,rfl,x,B,met,ta,p.2.tg,y,rfl,tb.same s2,hta,ac.rt p (Jf e).1,ly,λok u H' s' he=>q1 p e ok u H' (s1.trans (s2.trans s')) he,λno H' dx s' hd=>q2 p e no H' dx (s1.trans (s2.trans s')) hd⟩
def EC (K:W.Frag):Sp:=λvs H Q E=>∃(a:Addr) (ps:List (Addr×HE)) (B:BM) (met:List Int) (ta:Addr) (t:Tg),vs=[.ref a,.ref ta]/\Acc H a ps B met/\Dm H ta t/\t.1∈met/\Rw B 2 t.1/\∀H',Al H H'->Q (.str (IM B 2 t.1)) H'
theorem Ke (T:Txt K mg C XC)(F:Fun K "content_by" "content_by" Cy f fd)(Dg:Def P w K mg base 4 "content_at" ["pool","tag"] (EL K C))(AV:PR P w K mg base 1 C "ToldBlocks" ["self","account"] (Bl K C)):FnOk P w K mg base CU 5 f fd ["account","tag"] (EC K):=by
 exists Kg
 ·obtain⟨a,ps,B,met,ta,t,rfl,_⟩:=h;rfl
 obtain⟨a,ps,B,met,ta,t,rfl,ac,hta,hm,hr2,q⟩:=h;refine⟨_,(!Ah (!As (!AM Dg (by trivial) rfl (!Aa (!MW AV (by trivial) rfl (!Aa (pv 0) (!Ac))) (!Aa (pv 1) (!Ac)))))),?_⟩
 try dsimp only[Bw,Cx.nox,Cx.wish]
 exact⟨_,rfl,Ej λx dx nx ndx _=>Lw (K:=K) ac nx ndx λH1 s1 tb=>⟨rfl,_,rfl,x,B,met,ta,t,rfl,tb,s1.get hta,hm,hr2,ak _,λH' s'=>q H' (s1.trans s')⟩⟩
abbrev EB (H:Hp)(q:Addr×Str×Int):Prop:=H q.1=some (.tup [.str q.2.1,.int q.2.2])
def Vn (es:List En):List (Str×Int):=(es.filter λe=>!decide (e.nm=EM)).map λe=>(e.nm,e.kd)
def DD (K:W.Frag)(XC:Nat->Addr):Sp:=λvs H Q E=>∃(a:Addr) (ps:List (Addr×HE)) (B:BM) (met:List Int) (z:Str),vs=[.ref a,.str z]/\Acc H a ps B met/\
 (∀p,D2 ps z=some p->∃n,UM B n [⟨EM,2,p.2.tg⟩]=[]/\(allB B n [⟨EM,2,p.2.tg⟩]).length<=63/\((allB B n [⟨EM,2,p.2.tg⟩]).map (·.nm)).Nodup/\(∀x∈allB B n [⟨EM,2,p.2.tg⟩],x.nm.length<=900)/\
  ∀l (qs:List (Addr×Str×Int)) (es:List En) H',Al H H'->H l=none->H' l=some (.lst (qs.map λp=>V.ref p.1))->(∀q∈qs,EB H' q)->es.Perm (allB B n [⟨EM,2,p.2.tg⟩])->PyProof.Rows.sortedS (es.map (·.nm))=true->qs.map (·.2)=Vn es->Q (.ref l) H')/\(D2 ps z=none->Wi XC H z E)
theorem Wt {a b:Str}:decide (V.str a=V.str b)=decide (a=b):=by
 by_cases z:a=b
 ·rw[aR z,aR (by rw[z])]
 ·rw[aO z,aO λh=>z (V.str.inj h)]
theorem Mb (T:Txt K mg C XC)(F:Fun K "paths_by" "paths_by" Dl f fd)(Jn:Def P w K mg base 2 "all_in" ["pool","root"] (HH K C))(AV:PR P w K mg base 1 C "ToldBlocks" ["self","account"] (Bl K C))(D1:FZ P w K mg base 4 "root_by" ["account","name"] (Fi K XC)):FnOk P w K mg base (MJ P w) 5 f fd ["account","name"] (DD K XC):=by
 refine F.okE Ir (λvs H Q E h=>?_) (λcdv A outer s H vs Q E hr h=>?_)
 ·obtain⟨a,ps,B,met,z,rfl,_⟩:=h;rfl
 obtain⟨a,ps,B,met,z,rfl,ac,q1,q2⟩:=h;refine⟨_,(!Ae (@Ap _ _ (2) _ _ _ _ Ir.nd rfl (by trivial) (!AM Jn (by trivial) rfl (!Aa (!MW AV (by trivial) rfl (!Aa (pv 0) (!Ac))) (!Aa (!D9 D1 (by trivial) rfl Gf (!Aa (pv 0) (!Aa (pv 1) (!Ac)))) (!Ac)))) (by rfl) (by trivial)) (!Ah (!As (@BO _ ["path","kind","tag"] _ _ _ _ _ _ _ _ _ _ rfl (!BA (pv 2)) (by decide +kernel) (λC s H fp=>⟨(@Gu _ (K) _ _ _ _ (3) (by rfl) rfl (!Av (@Ak _ _ (0) _ (show(["path","kind","tag"]:List Str).Nodup by decide +kernel) rfl (by trivial) (by trivial)) (!Av (@Ak _ _ (1) _ (show(["path","kind","tag"]:List Str).Nodup by decide +kernel) rfl (by trivial) (by trivial)) (!Av (@Ak _ _ (2) _ (show(["path","kind","tag"]:List Str).Nodup by decide +kernel) rfl (by trivial) (by trivial)) (!BU)))) (by rfl) (by rfl)),(!Dc (!AA Iu (pv 0) (!A3) (AG _))),(!AY (!Aa (pv 0) (!Aa (pv 1) (!Ac))))⟩) (by intro _;rfl))))),?_⟩
 try dsimp only[Bw,Cx.nox,Cx.wish]
 refine⟨_,rfl,Ej λx dx nx ndx _=>Lw (K:=K) ac nx ndx λH1 s1 tb=>⟨rfl,?_⟩⟩;refine⟨_,rfl,_,rfl,a,ps,B,met,z,rfl,ac.same s1,λp e ta H2 s2 hta=>?_,λe H' dx s' hd=>q2 e H' dx (s1.trans s') hd⟩;obtain⟨n,dn,few,nd,ln,hq⟩:=q1 p e;refine⟨x,B,met,ta,p.2.tg,n,rfl,tb.same s2,hta,ac.rt p (Jf e).1,dn,few,nd,ln,λlf fs H3 s3 nlf hlf hfs pm so=>?_⟩;have lfs:fs.length<=63:=by have:=pm.length_eq;rw[aa] at this;omega
 refine⟨_,rfl,lf,rfl,⟨_,AB.of hlf⟩,?_⟩;have s13:=s1.trans (s2.trans s3);refine Ih (ps:=fs) (g:=λx=>x.1) (A:=λx=>.str x.2.nm) (B:=λx=>.int x.2.kd) (C:=λx=>Ua H3 x.1) (rest:=[]) (λx=>!decide (x.2.nm=EM)) (λx v H'=>∃t,v=.ref t/\EB H' (t,x.2.nm,x.2.kd)) rfl (λx v H1 H2 ⟨t,e,h⟩ s=>⟨t,e,s.get h⟩) (λx v H1 l us us' ⟨t,e,h⟩ hl=>⟨t,e,KT.lst hl _ _ _ h⟩) (B5 (AB.of hlf)) (λx hx=>(hfs x hx).th) (by omega) (λx hx H' R s' hR=>?_) (λx hx _ H' R s' hR=>?_) λl H4 ys nl s4 hl e1 hys=>?_
 ·refine⟨_,rfl,rfl,_,rfl,?_⟩;rw[Wt];exact hR H' (Al.refl _)
 ·exact⟨_,rfl,_,rfl,E3,λt nt=>hR _ _ (Af nt _) ⟨t,rfl,Ad⟩⟩
 ·obtain⟨rs,h1,h2,h3⟩:=Gk (R:=λ(x:Addr×En) t=>EB H4 (t,x.2.nm,x.2.kd)) hys;refine hq l (rs.map λr=>(r.2,r.1.2.nm,r.1.2.kd)) (fs.map (·.2)) H4 (s13.trans s4) ((s13).free nl) (by rw[hl,h1,aj];rfl) (λq hq=>?_) pm so ?_
  ·obtain⟨r,hr,rfl⟩:=ax.mp hq;exact h3 r hr
  ·rw[aj];have:rs.map ((λx:Addr×Str×Int=>x.2)∘λr=>(r.2,r.1.2.nm,r.1.2.kd))=(rs.map (·.1)).map λx=>(x.2.nm,x.2.kd):=by rw[aj];rfl
   rw[this,h2,e1,Vn,fk,aj];rfl
end
open M06
section
variable {P:Program}{w:World}{K:W.Frag}{mg:Str->Option Value}{base:Heap}{f:Addr}{XC:Nat->Addr}{fd:FuncData}
def DC (K:W.Frag):Sp:=λvs H Q _=>∃(c m:Int),vs=[.int c,.int m]/\0<=m/\m<=1000/\
 ∀(r:Addr) (H':Hp) (ns:List Int),Al H H'->H r=none->H' r=some (.lst (ns.map V.int))->ns.length=m.toNat->(∀x∈ns,0<=x/\x<60)->Q (.ref r) H'
theorem Mt (T:Txt K mg C XC)(F:Fun K "_law_row" "_law_row" Dx f fd):FnOk P w K mg base CU 1 f fd ["_law_cell","_law_many_here"] (DC K):=by
 exists DG
 ·obtain⟨c,m,rfl,_⟩:=h;rfl
 obtain⟨c,m,rfl,hm0,hm1,q⟩:=h;refine⟨_,(!Ae (@Ap _ _ (2) _ _ _ _ DG.nd rfl (by trivial) (!Bc (!Ac)) (by rfl) (by trivial)) (!Ae (!BF aT rfl (!BE rfl T.b_range (!Aa (pv 1) (!Ac))) (@Ak _ _ (3) _ DG.nd rfl (by trivial) (by trivial)) (!Ah (!Bu (!Mq N9 QU (!Ab) (pv 0) (!Am MQ (!Ab) (!Ab)) (by with_unfolding_all rfl)) (!Ae (@Ap _ _ (4) _ _ _ _ DG.nd rfl (by trivial) (!Am AQ (!Am AE (!Am AE (!Am BG (!Am AQ (pv 0) (!Ab)) (!Ab)) (!Am BG (!Am BG (pv 3) (pv 3)) (!Ab))) (!Ab)) (!Ab)) (by rfl) (by trivial)) (!Ah (!BK (!Cf aL aZ aY Br (pv 2) (!Aa (!Am AQ (!Am Ep (!Am AQ (!Am BG (pv 4) (!Am AE (!Am AQ (pv 4) (!Ab)) (!Ab))) (!Ab)) (!Ab)) (!Ab)) (!Ac)))))) (!Ae (!BK (!Cf aL aZ aY Br (pv 2) (!Aa (!Am AQ (pv 0) (!Ab)) (!Ac)))) (!Ah (@Ap _ _ (0) _ _ _ _ DG.nd rfl (by trivial) (!Am Ep (pv 0) (!Ab)) (by rfl) (by trivial)))))) (by intro _;rfl)) (!Ah (!As (pv 2))))),?_⟩
 try dsimp only[Bw,Cx.nox,Cx.wish]
 refine⟨Fm,λg hg=>?_⟩;refine⟨_,rfl,m,rfl,by omega,by omega,CD (lo:=0) (n:=m.toNat) (λi σ H2=>∃(ns:List Int) (z:Int) (v u:Option V),σ=[some (.int z),some (.int m),some (.ref g),v,u]/\Al H H2/\H2 g=some (.lst (ns.map V.int))/\ns.length=i/\∀x∈ns,0<=x/\x<60)
  ⟨[],c,none,none,rfl,Af hg _,Ad,rfl,λ_ h=>nomatch h⟩ ?_ ?_⟩
 ·rintro i σ H2 hi ⟨ns,z,v,u,rfl,s2,hg2,hl,hb⟩
  have app:∀x:Int,0<=x->x<60->∀(z:Int) (v u:Option V),∃(ns':List Int) (z':Int) (v' u':Option V),[some (.int z),some (.int m),some (.ref g),v,u]=[some (.int z'),some (.int m),some (.ref g),v',u']/\Al H (upd H2 g (.lst (ns.map V.int++[.int x])))/\(upd H2 g (.lst (ns.map V.int++[.int x]))) g=some (.lst (ns'.map V.int))/\ns'.length=i+1/\∀x∈ns',0<=x/\x<60:=λx h0 h1 z v u=>
   ⟨ns++[x],z,v,u,rfl,AI s2 hg _,by rw[Ad,aq];rfl,by rw[au,hl];rfl,λy hy=>by
    rcases aB.mp hy with hy|hy
    ·exact hb y hy
    ·rw[ai.mp hy];exact⟨h0,h1⟩⟩
  have few:(ns.map V.int).length<sizeLine:=Bh (by rw[aa];omega);refine⟨_,rfl,_,_,rfl,rfl,_,rfl,DN (λc1=>?_) (λc1=>?_)⟩
  ·refine⟨_,_,rfl,rfl,⟨by decide,by decide,by decide⟩,_,_,rfl,rfl,_,rfl,DN (λc2=>?_) (λc2=>?_)⟩
   ·refine⟨_,rfl,_,_,rfl,rfl,(by show(0:Int)<2147483629;decide),_,_,rfl,rfl,.inr ⟨by decide,by decide⟩,_,rfl,_,rfl,_,_,rfl,rfl,.inl ⟨by omega,by omega⟩,_,_,rfl,rfl,.inr ⟨by decide,by decide⟩,_,_,rfl,rfl,_,_,rfl,rfl,_,_,rfl,rfl,(by show(0:Int)<2147483647;decide),?_⟩;have b0:=bc (z%2147483629*48271+(0+(i:Int))*(0+(i:Int))*69621+7) (show(2147483647:Int)≠0 by decide);have b1:=aU (z%2147483629*48271+(0+(i:Int))*(0+(i:Int))*69621+7) (show(0:Int)<2147483647 by decide);dsimp only;generalize (z%2147483629*48271+(0+(i:Int))*(0+(i:Int))*69621+7)%2147483647=y at b0 b1;refine⟨_,rfl,.inl ⟨rfl,_,AB.of hg2⟩,_,rfl,_,rfl,_,_,rfl,rfl,(by show(0:Int)<65521;decide),_,_,rfl,rfl,_,_,rfl,rfl,.inl ⟨by omega,by omega⟩,_,_,rfl,rfl,(by show(0:Int)<2147483629;decide),_,_,rfl,rfl,⟨by decide,by decide⟩,_,_,rfl,rfl,(by show(0:Int)<60;decide),g,_,_,rfl,rfl,hg2,few,?_⟩;exact app _ (bc _ (by decide)) (aU _ (by decide)) _ _ _
   ·refine⟨_,rfl,.inl ⟨rfl,_,AB.of hg2⟩,_,rfl,_,_,rfl,rfl,(by show(0:Int)<60;decide),g,_,_,rfl,rfl,hg2,few,?_⟩;refine⟨_,rfl,_,_,rfl,rfl,⟨by decide,by decide⟩,?_⟩;exact app _ (bc _ (by decide)) (aU _ (by decide)) _ _ _
  ·refine⟨_,rfl,By rfl ?_⟩;refine⟨_,rfl,.inl ⟨rfl,_,AB.of hg2⟩,_,rfl,_,_,rfl,rfl,(by show(0:Int)<60;decide),g,_,_,rfl,rfl,hg2,few,?_⟩;refine⟨_,rfl,_,_,rfl,rfl,⟨by decide,by decide⟩,?_⟩;exact app _ (bc _ (by decide)) (aU _ (by decide)) _ _ _
 ·rintro σ H2 ⟨ns,z,v,u,rfl,s2,hg2,hl,hb⟩
  exact⟨_,rfl,q g _ ns s2 hg hg2 hl hb⟩
theorem JE:(AR LN).length=36:=by decide +kernel
theorem Vt:(AR LN).Nodup:=by decide +kernel
def UK (i:Int):Nat:=(AR LN).getD (i%36).toNat 0
theorem So {i j:Int}(h:UK i=UK j):i%36=j%36:=by
 have i0:=bc i (show(36:Int)≠0 by decide);have i1:=aU i (show(0:Int)<36 by decide);have j0:=bc j (show(36:Int)≠0 by decide);have j1:=aU j (show(0:Int)<36 by decide)
 by_cases e:(i%36).toNat=(j%36).toNat
 ·omega
 ·exact absurd h (M7 Vt (by rw[JE];omega) (by rw[JE];omega) e)
theorem U1 (i:Int):Iw LN.cps.toList (i%36)=some (UK i)/\UK i∈AR LN:=by
 have i0:=bc i (show(36:Int)≠0 by decide);have i1:=aU i (show(0:Int)<36 by decide);have hk:(i%36).toNat<(AR LN).length:=by rw[JE];omega
 have e:UK i=(AR LN)[(i%36).toNat]:=by
  show(AR LN).getD (i%36).toNat 0=_;rw[bw,ah hk];rfl
 have:=Aj (xs:=AR LN) (j:=(i%36).toNat) (ah hk);rw[show(((i%36).toNat:Nat):Int)=i%36 by omega] at this;exact⟨by rw[e];exact this,by rw[e];exact bz hk⟩
theorem Qf {z:Str}{i:Int}(h0:0<=i)(h1:i<(AR z).length):∃c,Iw z.cps.toList i=some c/\c∈AR z:=by
 have hk:i.toNat<(AR z).length:=by omega
 have ek:((i.toNat:Nat):Int)=i:=by omega
 refine⟨(AR z)[i.toNat],?_,bz hk⟩;have:=Aj (xs:=AR z) (j:=i.toNat) (ah hk);rw[ek] at this;exact this
theorem Rz (z:Str){i:Int}(h0:0<=i):∃n,min i.toNat z.length<=n/\AR (PySem.Txt.slice z (some i) none)=(AR z).drop n:=by
 have hz:=Bg z
 by_cases h:i<=z.length
 ·refine⟨i.toNat,Nat.min_le_left _ _,?_⟩;show AR (StrLaws.sliceText z (some i) none)=_;rw[StrLaws.sliceText_from ⟨h0,by rw[hz];exact h⟩];refine bb ?_;rw[cu];show(AR z).length-i.toNat<=(((AR z).length:Int)-i).toNat;omega
 ·refine⟨z.length,Nat.min_le_right _ _,?_⟩;have e:PySem.Builtin.Str.strSliceIndices (some i) none 1 z.length=PySem.Builtin.Str.strSliceIndices (some (z.length:Int)) none 1 z.length:=by
   unfold PySem.Builtin.Str.strSliceIndices;have e1:(if i<0 then i+(z.length:Int) else i)=i:=aH (by omega);have e2:(if(z.length:Int)<0 then(z.length:Int)+(z.length:Int) else(z.length:Int))=z.length:=aH (by omega);simp only[e1,e2];have e3:max 0 (min i (z.length:Int))=max 0 (min (z.length:Int) z.length):=by omega
   rw[e3];simp only[if_pos (show(1:Int)>0 by decide)]
  show AR (StrLaws.sliceText z (some i) none)=_;have e':StrLaws.sliceText z (some i) none=StrLaws.sliceText z (some (z.length:Int)) none:=by
   unfold StrLaws.sliceText;rw[e]
  rw[e',StrLaws.sliceText_from ⟨by omega,by rw[hz];omega⟩];refine bb ?_;rw[cu];show(AR z).length-z.length<=(((AR z).length:Int)-(z.length:Int)).toNat;omega
theorem MC {M:List Nat}:∀(ys:List V),(∀y∈ys,∃c,y=.str ⟨#[c]⟩/\c∈M)->∃cs:List Nat,ys=(cs.map λc=>(⟨#[c]⟩:Str)).map V.str/\∀c∈cs,c∈M
 |[],_=>⟨[],rfl,λ_ h=>nomatch h⟩
 |y::ys,h=>by
  obtain⟨c,rfl,hc⟩:=h y ay;obtain⟨cs,rfl,hw⟩:=MC ys λy hy=>h y (az _ hy)
  refine⟨c::cs,rfl,λx hx=>?_⟩;rcases aD.mp hx with rfl|hx
  ·exact hc
  ·exact hw x hx
theorem HF (cs:List Nat):AR (PySem.Txt.join EM (cs.map λc=>(⟨#[c]⟩:Str)))=cs:=by
 show AR (PySem.Builtin.Str.glued EM _)=_;rw[StrLaws.glued_eq_join]
 induction cs with
 |nil=>rfl
 |cons c r ih=>
  cases r with
  |nil=>rfl
  |cons d r=>
   show AR (⟨#[c]⟩++EM++PySem.Str.join EM (List.map _ (d::r)))=c::d::r;rw[Dh,Dh,ih];rfl
def Sq (z:Str):Prop:=AR z≠[]/\z.length<=8/\∀c∈AR z,c∈AR LN
def EF (K:W.Frag):Sp:=λvs H Q _=>∃(a:Addr) (ns:List Int) (m:Int),vs=[.ref a,.int m]/\H a=some (.lst (ns.map V.int))/\ns.length=10/\(∀x∈ns,0<=x/\x<60)/\0<=m/\m<=30/\
 ∀l H' (zs:List Str),Al H H'->H l=none->H' l=some (.lst (zs.map V.str))->zs.length=m.toNat->(∀z∈zs,Sq z)->zs.Nodup->Q (.ref l) H'
theorem J1 (T:Txt K mg C XC)(F:Fun K "_law_names" "_law_names" CF f fd):FnOk P w K mg base CU 1 f fd ["_law_row_here","_law_many_here"] (EF K):=by
 exists BC
 ·obtain⟨a,ns,m,rfl,_⟩:=h;rfl
 obtain⟨a,ns,m,rfl,ha,ln,nb,hm0,hm1,q⟩:=h;refine⟨_,(!Ae (@Ap _ _ (2) _ _ _ _ BC.nd rfl (by trivial) (!A3) (by rfl) (by trivial)) (!Ae (@Ap _ _ (3) _ _ _ _ BC.nd rfl (by trivial) (!Cf bN di dg (Jc rfl) (!A3) (!Aa (@Cb _ ["_law_k","_law_signs","_law_row_here"] [none,some 2,some 0] _ _ _ _ _ _ _ _ _ _ _ rfl (!BE rfl T.b_range (!Aa (!Ab) (!Ac))) (by rfl) rfl (by repeat (first|exact trivial|refine⟨rfl,?_⟩)) (by repeat (first|exact trivial|refine⟨λh=>(by first|exact⟨_,rfl⟩|cases h),?_⟩)) (λC s H fp=>⟨(@Ak _ _ (0) _ (show(["_law_k","_law_signs","_law_row_here"]:List Str).Nodup by decide +kernel) rfl (by trivial) (by trivial)),(!AW),(!Ai K5 (pv 1) (!Am AQ (!Ai (EY (K:=K) (by rfl)) (pv 2) (pv 0) (λ_ _=>rfl)) (!Ab)) (λ_ _=>rfl))⟩) (by intro _;rfl)) (!Ac))) (by rfl) (by trivial)) (!Ae (@Ap _ _ (4) _ _ _ _ BC.nd rfl (by trivial) (!Am AQ (!Ai Ax (pv 0) (!Ab) (λ_ _=>rfl)) (!Ab)) (by rfl) (by trivial)) (!Ae (@Ap _ _ (5) _ _ _ _ BC.nd rfl (by trivial) (!Bc (!Ac)) (by rfl) (by trivial)) (!Ae (!BF aT rfl (!BE rfl T.b_range (!Aa (pv 1) (!Ac))) (@Ak _ _ (6) _ BC.nd rfl (by trivial) (by trivial)) (!Ae (@Ap _ _ (7) _ _ _ _ BC.nd rfl (by trivial) (!Am BP (!E5 NM (pv 3) (!Gs) (!E8 (pv 4))) (!Ai K5 (pv 2) (!Am AQ (!Am AE (!Ai Ax (pv 0) (!Ab) (λ_ _=>rfl)) (pv 6)) (!Ab)) (λ_ _=>rfl))) (by rfl) (by trivial)) (!Ae (@Ap _ _ (7) _ _ _ _ BC.nd rfl (by trivial) (!Am BP (pv 7) (!E5 NM (pv 3) (!E8 (!Am AE (pv 4) (!Ab))) (!Gs))) (by rfl) (by trivial)) (!Ah (!BK (!Cf aL aZ aY Br (pv 5) (!Aa (!Ai Ax (!Bc (!Aa (pv 7) (!Aa (!E5 NM (pv 7) (!Gs) (!E8 (!Am AE (pv 4) (!Ab)))) (!Aa (!Am BP (pv 7) (!Ai K5 (pv 2) (pv 6) (λ_ _=>rfl))) (!Ac))))) (!Am AQ (!Am AE (!Ai Ax (pv 0) (!Ab) (λ_ _=>rfl)) (pv 6)) (!Ab)) (λ_ _=>rfl)) (!Ac))))))) (by intro _;rfl)) (!Ah (!As (pv 5)))))))),?_⟩
 try dsimp only[Bw,Cx.nox,Cx.wish]
 have nn:∀k:Nat,k<10->0<=ns.getD k 0:=λk hk=>by
  have hk':k<ns.length:=by omega
  simp only[List.getD,List.getElem?_eq_getElem hk',Option.getD_some];exact(nb _ (bz hk')).1
 have A7:Iw (ns.map V.int) 7=some (.int (ns.getD 7 0)):=C5 (by decide) (by omega);have A8:Iw (ns.map V.int) 8=some (.int (ns.getD 8 0)):=C5 (by decide) (by omega);have A9:Iw (ns.map V.int) 9=some (.int (ns.getD 9 0)):=C5 (by decide) (by omega);refine⟨rfl,7,rfl,by decide,by decide,?_⟩;refine Qs (xs:=(List.range (7:Int).toNat).map λ(i:Nat)=>V.int (0+(i:Int))) (λ_ y _=>∃c,y=.str ⟨#[c]⟩/\c∈AR LN) (λ_ _ _ _ h _=>h) (λ_ _ _ _ _ _ h _ _=>h) GK (by rw[aa,bK];decide) (λx H' R hx s' hR=>?_) λl H1 ys n1 s1 h1 l1 hy=>?_
 ·obtain⟨i,hi,rfl⟩:=ax.mp hx;have hi':i<7:=cG.mp hi;obtain⟨c,hc,mc⟩:=Qf (z:=LN) (i:=ns.getD (0+(i:Int)).toNat 0%36) (bc _ (by decide)) (by rw[JE];exact aU _ (by decide));refine⟨_,rfl,_,rfl,_,rfl,a,_,_,_,rfl,rfl,AB.of (s'.get ha),C5 (by omega) (by omega),_,_,rfl,rfl,(by show(0:Int)<36;decide),LN,_,c,rfl,rfl,small (by decide +kernel),hc,?_⟩;exact hR (.str ⟨#[c]⟩) H' (Al.refl _) (λ_ z=>by cases z) ⟨c,rfl,mc⟩
 obtain⟨cs,rfl,hcs⟩:=MC ys λy hm=>by
  obtain⟨i,hi⟩:=bE hm;have il:=(ar.mp hi).1;exact(hy i _ y (ah (by omega)) hi).1
 have lcs:cs.length=7:=by
  rw[aa,aa,aa,bK] at l1;exact l1
 have wl:(AR (PySem.Txt.join EM (cs.map λc=>(⟨#[c]⟩:Str))))=cs:=HF cs;refine⟨l,EM,cs.map λc=>(⟨#[c]⟩:Str),rfl,rfl,AB.of h1,?_,?_⟩
 ·have e:((cs.map λc=>(⟨#[c]⟩:Str)).map (·.length)).sum=cs.length:=by
   rw[aj];have:((λz:Str=>z.length)∘λc=>(⟨#[c]⟩:Str))=λ_:Nat=>1:=rfl
   rw[this]
   clear this hcs h1 hy l1 wl lcs
   induction cs with
   |nil=>rfl
   |cons c cs ih=>rw[av,dM,ih,aM];omega
  rw[e,aa,lcs]
  decide +kernel
 dsimp only;have hwl:(PySem.Txt.join EM (cs.map λc=>(⟨#[c]⟩:Str))).length=7:=by rw[<-Bg,wl,lcs]
 have hwc:∀c∈AR (PySem.Txt.join EM (cs.map λc=>(⟨#[c]⟩:Str))),c∈AR LN:=by rw[wl];exact hcs
 generalize PySem.Txt.join EM (cs.map λc=>(⟨#[c]⟩:Str))=wd at hwl hwc;refine⟨_,rfl,a,_,_,_,rfl,rfl,AB.of (s1.get ha),A7,_,_,rfl,rfl,(by show(0:Int)<7;decide),?_⟩;have t0:=bc (ns.getD 7 0) (show(7:Int)≠0 by decide);have t1:=aU (ns.getD 7 0) (show(0:Int)<7 by decide);dsimp only;generalize ns.getD 7 0%7=at_ at t0 t1;refine⟨Fm,λg hg=>?_⟩;have hgH:H g=none:=s1.free hg;refine⟨_,rfl,m,rfl,by omega,by omega,CD (lo:=0) (n:=m.toNat) (λi σ H2=>∃(zs:List Str) (v u:Option V),σ=[some (.ref a),some (.int m),some (.str LN),some (.str wd),some (.int at_),some (.ref g),v,u]/\Al H H2/\H2 g=some (.lst (zs.map V.str))/\zs.length=i/\(∀z∈zs,Sq z)/\∀(j:Nat) z,zs[j]?=some z->(AR z)[at_.toNat]?=some (UK (ns.getD 8 0+(0+(j:Int)))))
  ⟨[],none,none,rfl,s1.trans (Af hg _),Ad,rfl,(λ_ h=>nomatch h),(λj z h=>by simp at h)⟩ ?_ ?_⟩
 ·rintro i σ H2 hi ⟨zs,v,u,rfl,s2,hg2,hl,hb,hat⟩
  have ha2:=s2.get ha;obtain⟨hc,mc⟩:=U1 (ns.getD 8 0+(0+(i:Int)));generalize ec:UK (ns.getD 8 0+(0+(i:Int)))=c at hc mc;obtain⟨d,hd,md⟩:=Qf (z:=LN) (i:=0+(i:Int)) (by omega) (by rw[JE];omega);have e1:=SN wd t0;obtain⟨k,kk,e2⟩:=Rz wd (i:=at_+1) (by omega);have lwd:=Bg wd;have l1:(PySem.Txt.slice wd none (some at_)).length<=at_.toNat:=by rw[<-Bg,e1,aQ];omega
  have l2:(PySem.Txt.slice wd (some (at_+1)) none).length<=6-at_.toNat:=by rw[<-Bg,e2,cu];omega
  refine⟨_,rfl,_,rfl,_,rfl,wd,rfl,small (by omega),_,rfl,_,rfl,a,_,_,_,rfl,rfl,AB.of ha2,A8,_,rfl,_,_,rfl,rfl,_,_,rfl,rfl,(by show(0:Int)<36;decide),LN,_,c,rfl,rfl,small (by decide +kernel),hc,_,_,rfl,rfl,small (by show _+1<=1000000;omega),?_⟩;refine⟨_,rfl,_,rfl,_,rfl,_,_,rfl,rfl,_,rfl,wd,rfl,small (by omega),_,_,rfl,rfl,small (by rw[len_app];show _+1+_<=1000000;omega),?_⟩;have oc:AR (PySem.Txt.slice wd none (some at_)++⟨#[c]⟩++PySem.Txt.slice wd (some (at_+1)) none)=(AR wd).take at_.toNat++c::(AR wd).drop k:=by
   rw[Dh,Dh,e1,e2,bD];rfl
  have ol:(PySem.Txt.slice wd none (some at_)++⟨#[c]⟩++PySem.Txt.slice wd (some (at_+1)) none).length<=7:=by
   rw[len_app,len_app];show _+1+_<=7;omega
  dsimp only;generalize PySem.Txt.slice wd none (some at_)++⟨#[c]⟩++PySem.Txt.slice wd (some (at_+1)) none=one at oc ol;have on:Sq one:=⟨by rw[oc];simp,by omega,λx hx=>by
   rw[oc] at hx;rcases aB.mp hx with hx|hx
   ·exact hwc x (dy hx)
   ·rcases aD.mp hx with rfl|hx
    ·exact mc
    ·exact hwc x (List.mem_of_mem_drop hx)⟩
  have e3:=SN one (j:=at_+1) (by omega);have tn:Sq (PySem.Txt.slice one none (some (at_+1))):=⟨by
    rw[e3];have:=on.1;cases h:AR one with
    |nil=>exact absurd h this
    |cons x l=>
     rw[show(at_+1).toNat=at_.toNat+1 by omega,eN];simp,by rw[<-Bg,e3,aQ,Bg];omega,λx hx=>by rw[e3] at hx;exact on.2.2 x (dy hx)⟩
  have pn:Sq (one++⟨#[d]⟩):=⟨by rw[Dh];simp,by rw[len_app];show one.length+1<=8;omega,λx hx=>by
   rw[Dh] at hx;rcases aB.mp hx with hx|hx
   ·exact on.2.2 x hx
   ·rw[ai.mp hx];exact md⟩
  have oat:(AR one)[at_.toNat]?=some c:=by
   rw[oc,bF (by rw[aQ];omega),aQ,show at_.toNat-min at_.toNat (AR wd).length=0 by omega];rfl
  have tat:(AR (PySem.Txt.slice one none (some (at_+1))))[at_.toNat]?=some c:=by
   rw[e3,cP,aI (by omega)];exact oat
  have pat:(AR (one++⟨#[d]⟩))[at_.toNat]?=some c:=by
   rw[Dh,bA (ar.mp oat).1];exact oat
  refine⟨_,rfl,.inl ⟨rfl,_,AB.of hg2⟩,_,rfl,_,rfl,_,rfl,_,_,rfl,rfl,_,rfl,one,rfl,small (by omega),_,rfl,_,rfl,_,rfl,LN,_,d,rfl,rfl,small (by decide +kernel),hd,_,_,rfl,rfl,small (by show one.length+1<=1000000;omega),II,λp hp=>?_⟩;have s3:=Af hp (.lst [V.str one,V.str (PySem.Txt.slice one none (some (at_+1))),V.str (one++⟨#[d]⟩)]);obtain⟨z,hz,hzn,hza⟩:∃z,Iw [V.str one,V.str (PySem.Txt.slice one none (some (at_+1))),V.str (one++⟨#[d]⟩)] ((ns.getD 9 0+(0+(i:Int)))%3)=some (.str z)/\Sq z/\(AR z)[at_.toNat]?=some c:=by
   have r0:=bc (ns.getD 9 0+(0+(i:Int))) (show(3:Int)≠0 by decide);have r1:=aU (ns.getD 9 0+(0+(i:Int))) (show(0:Int)<3 by decide);generalize (ns.getD 9 0+(0+(i:Int)))%3=r at r0 r1;have:r=0\/r=1\/r=2:=by omega
   rcases this with rfl|rfl|rfl
   ·exact⟨_,rfl,on,oat⟩
   ·exact⟨_,rfl,tn,tat⟩
   ·exact⟨_,rfl,pn,pat⟩
  refine⟨_,rfl,a,_,_,_,rfl,rfl,AB.of (s3.get ha2),A9,_,rfl,_,_,rfl,rfl,_,_,rfl,rfl,(by show(0:Int)<3;decide),p,_,_,_,rfl,rfl,AB.of Ad,hz,g,_,_,rfl,rfl,s3.get hg2,Bh (by rw[aa];omega),?_⟩;refine⟨zs++[z],_,_,rfl,AI (s2.trans s3) hgH _,by rw[Ad,aq];rfl,by rw[au,hl];rfl,λy hy=>?_,λj y hj=>?_⟩
  ·rcases aB.mp hy with hy|hy
   ·exact hb y hy
   ·rw[ai.mp hy];exact hzn
  ·by_cases hjl:j<zs.length
   ·rw[bA hjl] at hj;exact hat j y hj
   ·rw[bF (by omega)] at hj;have h0:j-zs.length=0:=by
     have:=(ar.mp hj).1;simp at this;omega
    rw[h0] at hj;cases hj;rw[show j=i by omega,ec];exact hza
 ·rintro σ H2 ⟨zs,v,u,rfl,s2,hg2,hl,hb,hat⟩
  refine⟨_,rfl,q g _ zs s2 hgH hg2 hl hb ?_⟩;refine bj.mpr λi j hi hj hij e=>?_
  have e1:=hat i _ (ah hi);have e2:=hat j _ (ah hj);rw[e,e2] at e1;have:=So (aP e1);have l30:zs.length<=30:=by omega
  omega
end
section
variable {P:Program}{w:World}{K:W.Frag}{mg:Str->Option Value}{base:Heap}{f C:Addr}{XC:Nat->Addr}{fd:FuncData}
theorem Va {c:Nat}(h:c∈AR SG):0<=PySem.Txt.find SG ⟨#[c]⟩:=by
 obtain⟨k,hk,e⟩:=dB (show c∈SG.cps.toList from h);have hk':k<94:=by rw[Tx] at hk;exact hk
 have eg:SG.cps.toList.getD k 0=c:=by simp only[List.getD,List.getElem?_eq_getElem hk,Option.getD_some];exact e
 have:=RC k hk';rw[eg] at this;rw[this];omega
abbrev TX:Str:=PySem.Str.ofString " abcdefghijklmnopqrstuvwxyz0123456789!#&*+,-./:;<=>?\x40[]^_{|}~"
theorem Qx:(AR TX).length=61:=by decide +kernel
theorem UY:∀c∈AR TX,c∈AR SG:=by decide +kernel
def OG (z:Str):Prop:=∀c∈AR z,c∈AR SG
def Fh (K:W.Frag):Sp:=λvs H Q _=>∃(a:Addr) (ns:List Int) (k:Int),vs=[.ref a,.int k]/\H a=some (.lst (ns.map V.int))/\0<=k/\k+2<ns.length/\(∀x∈ns,0<=x/\x<60)/\∀z H',Al H H'->z.length<=8->OG z->Q (.str z) H'
theorem Fb {ns:List Int}(h:∀x∈ns,0<=x/\x<60)(k:Nat):0<=ns.getD k 0/\ns.getD k 0<60:=by
 rw[bw];cases e:ns[k]? with
 |none=>exact⟨by decide,by decide⟩
 |some x=>exact h x (aE e)
theorem K9 (T:Txt K mg C XC)(F:Fun K "_law_text" "_law_text" CW f fd):FnOk P w K mg base CU 1 f fd ["_law_row_here","_law_at"] (Fh K):=by
 exists GZ
 ·obtain⟨a,ns,k,rfl,_⟩:=h;rfl
 obtain⟨a,ns,k,rfl,ha,k0,k1,hb,q⟩:=h;refine⟨_,(!Ae (@Ap _ _ (2) _ _ _ _ GZ.nd rfl (by trivial) (!A3) (by rfl) (by trivial)) (!Ah (!As (!Cf bN di dg (Jc rfl) (!A3) (!Aa (@Cb _ ["_law_k","_law_signs","_law_row_here","_law_at"] [none,some 2,some 0,some 1] _ _ _ _ _ _ _ _ _ _ _ rfl (!BE rfl T.b_range (!Aa (!Am AE (!Ab) (!Am AQ (!Ai Ax (pv 0) (!Am AE (pv 1) (!Ab)) (λ_ _=>rfl)) (!Ab))) (!Ac))) (by rfl) rfl (by repeat (first|exact trivial|refine⟨rfl,?_⟩)) (by repeat (first|exact trivial|refine⟨λh=>(by first|exact⟨_,rfl⟩|cases h),?_⟩)) (λC s H fp=>⟨(@Ak _ _ (0) _ (show(["_law_k","_law_signs","_law_row_here","_law_at"]:List Str).Nodup by decide +kernel) rfl (by trivial) (by trivial)),(!AW),(!Ai K5 (pv 1) (!Am AQ (!Am AE (!Ai (EY (K:=K) (by rfl)) (pv 2) (pv 3) (λ_ _=>rfl)) (!Am BG (pv 0) (!Ai (EY (K:=K) (by rfl)) (pv 2) (!Am AE (pv 3) (!Ab)) (λ_ _=>rfl)))) (!Aw Fg (by rfl) T.b_len Cs (!Aa (pv 1) (!Ac)))) (λ_ _=>rfl))⟩) (by intro _;rfl)) (!Ac)))))),?_⟩
 try dsimp only[Bw,Cx.nox,Cx.wish]
 have r0:=bc (ns.getD (k+2).toNat 0) (show(8:Int)≠0 by decide);have r1:=aU (ns.getD (k+2).toNat 0) (show(0:Int)<8 by decide);refine Ao ⟨rfl,_,rfl,_,rfl,_,_,rfl,rfl,a,_,_,_,rfl,rfl,AB.of ha,C5 (by omega) k1,_,_,rfl,rfl,(by show(0:Int)<8;decide),_,_,rfl,rfl,_,rfl,by omega,by omega,?_⟩;generalize ns.getD (k+2).toNat 0%8=r at r0 r1;refine Ct (ps:=List.range (1+r).toNat) (λi=>.str ⟨#[(AR TX).getD ((ns.getD k.toNat 0+(0+(i:Int))*ns.getD (k+1).toNat 0)%61).toNat 0]⟩) GK (by rw[bK];omega) (λi hi H' R s' hR=>?_) λl H1 nl s1 hl=>?_
 ·have i1:=cG.mp hi;have m0:=bc (ns.getD k.toNat 0+(0+(i:Int))*ns.getD (k+1).toNat 0) (show(61:Int)≠0 by decide);have m1:=aU (ns.getD k.toNat 0+(0+(i:Int))*ns.getD (k+1).toNat 0) (show(0:Int)<61 by decide);have hk:((ns.getD k.toNat 0+(0+(i:Int))*ns.getD (k+1).toNat 0)%61).toNat<(AR TX).length:=by rw[Qx];omega
  have hat:=Aj (xs:=AR TX) (ah hk);rw[show(((((ns.getD k.toNat 0+(0+(i:Int))*ns.getD (k+1).toNat 0)%61).toNat:Nat)):Int)=(ns.getD k.toNat 0+(0+(i:Int))*ns.getD (k+1).toNat 0)%61 by omega] at hat;have:=hR H' (Al.refl _);rw[bw,ah hk] at this;exact⟨_,rfl,_,rfl,_,rfl,a,_,_,_,rfl,rfl,AB.of (s'.get ha),C5 (by omega) (by omega),_,rfl,_,rfl,_,rfl,_,_,rfl,rfl,a,_,_,_,rfl,rfl,AB.of (s'.get ha),C5 (by omega) (by omega),_,_,rfl,rfl,.inl ⟨by omega,by omega⟩,_,_,rfl,rfl,_,rfl,TX,rfl,small (by decide +kernel),_,_,rfl,rfl,(by show(0:Int)<(TX.length:Int);decide +kernel),TX,_,_,rfl,rfl,small (by decide +kernel),hat,this⟩
 ·have el:(List.range (1+r).toNat).map (λ(i:Nat)=>V.str ⟨#[(AR TX).getD ((ns.getD k.toNat 0+(0+(i:Int))*ns.getD (k+1).toNat 0)%61).toNat 0]⟩)=(((List.range (1+r).toNat).map λ(i:Nat)=>(AR TX).getD ((ns.getD k.toNat 0+(0+(i:Int))*ns.getD (k+1).toNat 0)%61).toNat 0).map λc=>(⟨#[c]⟩:Str)).map V.str:=by rw[aj,aj];rfl
  rw[el] at hl;have lc:((List.range (1+r).toNat).map λ(i:Nat)=>(AR TX).getD ((ns.getD k.toNat 0+(0+(i:Int))*ns.getD (k+1).toNat 0)%61).toNat 0).length<=8:=by rw[aa,bK];omega
  have mc:∀c∈(List.range (1+r).toNat).map λ(i:Nat)=>(AR TX).getD ((ns.getD k.toNat 0+(0+(i:Int))*ns.getD (k+1).toNat 0)%61).toNat 0,c∈AR SG:=λc hc=>by
   obtain⟨i,_,rfl⟩:=ax.mp hc;have m0:=bc (ns.getD k.toNat 0+(0+(i:Int))*ns.getD (k+1).toNat 0) (show(61:Int)≠0 by decide);have m1:=aU (ns.getD k.toNat 0+(0+(i:Int))*ns.getD (k+1).toNat 0) (show(0:Int)<61 by decide);rw[bw,ah (by rw[Qx];omega)];exact UY _ (bz _)
  generalize ((List.range (1+r).toNat).map λ(i:Nat)=>(AR TX).getD ((ns.getD k.toNat 0+(0+(i:Int))*ns.getD (k+1).toNat 0)%61).toNat 0)=cs at hl lc mc;have lj:(PySem.Txt.join EM (cs.map λc=>(⟨#[c]⟩:Str))).length=cs.length:=by rw[<-Bg,HF]
  refine⟨l,EM,_,rfl,rfl,AB.of hl,?_,q _ H1 s1 (by rw[lj];exact lc) λc hc=>mc c (by rw[HF] at hc;exact hc)⟩;rw[<-GY,lj,show EM.length=0 from rfl,fZ];omega
def VV:Bk->Prop
 | .piece z=>z.length<=8/\OG z
 | .row _ ts=>ts.length<=8
 | .folder es=>es.length<=16/\∀e∈es,e.nm.length<=8/\OG e.nm
theorem Qk {H:Hp}{b:Bk}{v:V}(h:Rep NL H (FF b) v):∃a k xs,v=.ref a/\H a=some (.tup (.int k::xs)):=by
 cases b with
 |piece z=>obtain⟨a,rfl,e⟩:=DV h;exact⟨a,_,_,rfl,e⟩
 |row lv ts=>obtain⟨a,_,_,rfl,e,_⟩:=Gm h;exact⟨a,_,_,rfl,e⟩
 |folder es=>obtain⟨a,_,_,rfl,e,_⟩:=Cq h;exact⟨a,_,_,rfl,e⟩
theorem Ew {α:Type}{g:α->V}{ns:List α}{i:Nat}{y:V}(h:(ns.map g)[i]?=some y):∃n,y=g n/\ns[i]?=some n:=by
 rw[aw] at h;obtain⟨n,e,rfl⟩:=aV.mp h;exact⟨n,rfl,e⟩
theorem LO {z:Str}{H:Hp}{σ:St}{i:Nat}{Q:VK}(lz:z.length<=1000)(hz:OG z)(hσ:σ[i]?=some (some (.str SG)))(hQ:∀l (ms:List Int) H',H l=none->Al H H'->H' l=some (.lst (ms.map V.int))->ms.length=z.length->Q (.ref l) H') :
  Df [none,some i] (Aq 0) L8 (VZ K "str" P5 (O9 1) (Ma (O9 0) Re)) σ Q (VL z) H:=by
 have es:stC [none,some i] σ=[none,some (.str SG)]:=by
  show[none,(σ[i]?).bind id]=_;rw[hσ];rfl
 refine Ct (ps:=AR z) (λc=>.int (PySem.Txt.find SG ⟨#[c]⟩)) JQ (by rw[Bg];omega) (λc hc H' R s' hR=>?_) λl H' nl s' hl=>hQ l ((AR z).map λc=>PySem.Txt.find SG ⟨#[c]⟩) H' nl s' (by rw[hl,aj];rfl) (by rw[aa,Bg])
 rw[es];exact⟨_,rfl,rfl,_,rfl,_,_,rfl,rfl,Va (hz c hc),hR H' (Al.refl _)⟩
def FW (K:W.Frag):Sp:=λvs H Q _=>∃v b,vs=[v]/\Rep NL H (FF b) v/\VV b/\∀n H',Al H H'->Q (.int n) H'
theorem L6 (T:Txt K mg C XC)(F:Fun K "_law_sum" "_law_sum" Dr f fd):FnOk P w K mg base CU 1 f fd ["_law_block"] (FW K):=by
 exists Be
 ·obtain⟨v,b,rfl,_⟩:=h;rfl
 obtain⟨v,b,rfl,hv,ok,q⟩:=h;refine⟨_,(!Ae (@Ap _ _ (1) _ _ _ _ Be.nd rfl (by trivial) (!A3) (by rfl) (by trivial)) (!Ae (@Ap _ _ (1) _ _ _ _ Be.nd rfl (by trivial) (!Am BP (pv 1) (!A3)) (by rfl) (by trivial)) (!Ae (@Ap _ _ (2) _ _ _ _ Be.nd rfl (by trivial) (!Bc (!Ac)) (by rfl) (by trivial)) (!Ae (!Bu (!AA CJ (!Ai Ar (pv 0) (!Ab) (λ_ _=>rfl)) (!Ab) (AG _)) (!Ah (@GX _ ["_law_sign","_law_signs"] [none,some 1] (2) _ _ _ _ _ _ _ _ _ _ _ _ _ _ Be.nd rfl (by trivial) rfl (!Lx (!Ai Ar (pv 0) (!Ab) (λ_ _=>rfl))) (by rfl) rfl (by repeat (first|exact trivial|refine⟨rfl,?_⟩)) (by repeat (first|exact trivial|refine⟨λh=>(by first|exact⟨_,rfl⟩|cases h),?_⟩)) (λC s H fp=>⟨(@Ak _ _ (0) _ (show(["_law_sign","_law_signs"]:List Str).Nodup by decide +kernel) rfl (by trivial) (by trivial)),(!AW),(@P4 _ (K) _ _ _ _ _ _ _ _ _ _ _ rfl bN fV fU (Mv rfl) (pv 1) (!Aa (pv 0) (!Ac)) (by rfl) (by rfl) (by rfl) (by rfl) (by rfl))⟩) (by intro _;rfl) (by rfl) (by trivial))) (!Ah (!Bu (!AA CJ (!Ai Ar (pv 0) (!Ab) (λ_ _=>rfl)) (!Ab) (AG _)) (!Ah (@Ap _ _ (2) _ _ _ _ Be.nd rfl (by trivial) (!Am Gp (!Bc (!Aa (!Ai Ar (pv 0) (!Ab) (λ_ _=>rfl)) (!Ac))) (@BO _ ["_law_tag"] _ _ _ _ _ _ _ _ _ _ rfl (!B9 (!Ai Ar (pv 0) (!Ab) (λ_ _=>rfl))) (by decide +kernel) (λC s H fp=>⟨(@Ak _ _ (0) _ (show(["_law_tag"]:List Str).Nodup by decide +kernel) rfl (by trivial) (by trivial)),(!AW),(!Ai (AS (K:=K) (by rfl)) (pv 0) (!Ab) (λ_ _=>rfl))⟩) (by intro _;rfl))) (by rfl) (by trivial))) (!Ah (!BF aT rfl (!B9 (!Ai Ar (pv 0) (!Ab) (λ_ _=>rfl))) (!D5 rfl (!Av (@Ak _ _ (3) _ Be.nd rfl (by trivial) (by trivial)) (!Av (@Ak _ _ (4) _ Be.nd rfl (by trivial) (by trivial)) (!Av (@Ak _ _ (5) _ Be.nd rfl (by trivial) (by trivial)) (!BU))))) (!Ah (@Ap _ _ (2) _ _ _ _ Be.nd rfl (by trivial) (!Am Gp (!Am Gp (pv 2) (@Cb _ ["_law_sign","_law_signs"] [none,some 1] _ _ _ _ _ _ _ _ _ _ _ rfl (!Lx (pv 3)) (by rfl) rfl (by repeat (first|exact trivial|refine⟨rfl,?_⟩)) (by repeat (first|exact trivial|refine⟨λh=>(by first|exact⟨_,rfl⟩|cases h),?_⟩)) (λC s H fp=>⟨(@Ak _ _ (0) _ (show(["_law_sign","_law_signs"]:List Str).Nodup by decide +kernel) rfl (by trivial) (by trivial)),(!AW),(@P4 _ (K) _ _ _ _ _ _ _ _ _ _ _ rfl bN fV fU (Mv rfl) (pv 1) (!Aa (pv 0) (!Ac)) (by rfl) (by rfl) (by rfl) (by rfl) (by rfl))⟩) (by intro _;rfl))) (!Bc (!Aa (pv 4) (!Aa (!Ai Ar (pv 5) (!Ab) (λ_ _=>rfl)) (!Ac))))) (by rfl) (by trivial))) (by intro _;rfl)))))) (!Ae (@Ap _ _ (6) _ _ _ _ Be.nd rfl (by trivial) (!Am AE (!Ai Ar (pv 0) (!Ab) (λ_ _=>rfl)) (!Ab)) (by rfl) (by trivial)) (!Ae (!BF aT rfl (!BA (pv 2)) (@Ak _ _ (7) _ Be.nd rfl (by trivial) (by trivial)) (!Ah (@Ap _ _ (6) _ _ _ _ Be.nd rfl (by trivial) (!Am AQ (!Am AE (!Am AE (!Am BG (!Ab) (pv 6)) (pv 7)) (!Ab)) (!Ab)) (by rfl) (by trivial))) (by intro _;rfl)) (!Ah (!As (pv 6))))))))),?_⟩
 try dsimp only[Bw,Cx.nox,Cx.wish]
 obtain⟨a,k0,xs,rfl,ha⟩:=Qk hv;refine Ao ?_;dsimp only[tC,Aq];refine Ao ⟨_,rfl,_,_,rfl,rfl,small (by decide +kernel),?_⟩;dsimp only[Aq];rw[show PySem.Str.ofString " !\"#$&'()*+,-./0123456789:;<=>?@ABCDEFGHIJKLMNOPQRSTUVWXYZ[\\]^_`"++PySem.Str.ofString "abcdefghijklmnopqrstuvwxyz{|}~"=SG by decide +kernel];refine Ao ⟨Fm,λl0 nl0=>?_⟩;have s0:=Af nl0 (.lst []);have hl0:(upd H l0 (.lst [])) l0=some (.lst []):=Ad;generalize upd H l0 (.lst [])=H0 at s0 hl0;dsimp only[Aq];refine Bs (λσ' H'=>∃(l:Addr) (ms:List Int) (v3 v4 v5:Option V),σ'=[some (.ref a),some (.str SG),some (.ref l),v3,v4,v5,none,none]/\Al H H'/\H' l=some (.lst (ms.map V.int))) (λN hN=>?_) ?_
 ·cases b with
  |piece z=>
   obtain⟨a',e',ha⟩:=DV hv;cases e';refine⟨_,rfl,a,_,_,_,rfl,rfl,AD.of (s0.get ha),rfl,rfl,_,rfl,DR rfl ?_⟩;refine⟨_,rfl,a,_,_,_,rfl,rfl,AD.of (s0.get ha),rfl,z,rfl,LO (K:=K) (by have:=ok.1;omega) ok.2 rfl λl ms H' nl s' hl _=>?_⟩;exact hN _ _ ⟨l,ms,_,_,_,rfl,s0.trans s',hl⟩
  |row lv ts=>
   obtain⟨a',d,us,e',ha,hd,r⟩:=Gm hv;cases e';obtain⟨ps,rfl,rfl,hps⟩:=Hv r;have ok:(ps.map (·.2)).length<=8:=ok;rw[aa] at ok;refine⟨_,rfl,a,_,_,_,rfl,rfl,AD.of (s0.get ha),rfl,rfl,_,rfl,By rfl ?_⟩;refine⟨_,rfl,a,_,_,_,rfl,rfl,AD.of (s0.get ha),rfl,rfl,_,rfl,DR rfl ?_⟩;refine⟨_,rfl,a,_,_,_,rfl,rfl,AD.of (s0.get ha),rfl,QO,λp1 np1=>?_⟩;have s1:=Af np1 (.lst [V.int lv]);have s01:=s0.trans s1;refine⟨_,rfl,a,_,_,_,rfl,rfl,AD.of (s01.get ha),rfl,d,rfl,⟨_,AD.of (s01.get hd)⟩,Ct (ps:=ps) (λp=>.int p.2.2.2) (B2 (s01.get hd)) (by omega) (λp hp H' R s' hR=>⟨_,rfl,p.1,_,_,_,rfl,rfl,AD.of (s'.get (s01.get (hps p hp))),rfl,hR H' (Al.refl _)⟩) λl H2 nl s2 hl=>?_⟩;refine⟨p1,l,_,_,rfl,rfl,AB.of (s2.get Ad),AB.of hl,small (by rw[aa];show 1+ps.length<=1000000;omega),λp2 np2=>hN _ _ ⟨p2,lv::ps.map (·.2.2.2),_,_,_,rfl,s01.trans (s2.trans (Af np2 _)),?_⟩⟩;rw[Ad,av,aj];rfl
  |folder es=>
   obtain⟨a',d,us,e',ha,hd,r⟩:=Cq hv;cases e';have lu:us.length=es.length:=by rw[AX.len _ _ r,aa]
   obtain⟨o1,o2⟩:=ok;refine⟨_,rfl,a,_,_,_,rfl,rfl,AD.of (s0.get ha),rfl,rfl,_,rfl,By rfl ?_⟩;refine⟨_,rfl,a,_,_,_,rfl,rfl,AD.of (s0.get ha),rfl,rfl,_,rfl,By rfl ?_⟩;refine⟨_,rfl,a,_,_,_,rfl,rfl,AD.of (s0.get ha),rfl,d,rfl,⟨_,AD.of (s0.get hd)⟩,Gr (K:=K) (a:=d) (xs:=us) (λi σ H2=>∃(l:Addr) (ms:List Int) (v3 v4 v5:Option V),σ=[some (.ref a),some (.str SG),some (.ref l),v3,v4,v5,none,none]/\Al H H2/\H2 l=some (.lst (ms.map V.int))/\ms.length<=10*i) ⟨l0,[],none,none,none,rfl,s0,hl0,bg _⟩ (by rintro i σ H2 _ ⟨_,_,_,_,_,_,s2,_⟩;exact AD.of (s2.get hd)) ?_ ?_⟩
   ·rintro i y σ H2 hi ⟨l,ms,v3,v4,v5,rfl,s2,hl,lm⟩
    have il:=(ar.mp hi).1;obtain⟨x,hx,rx⟩:=Rg r hi;obtain⟨c,e,rfl,hc,he⟩:=JH rx;obtain⟨n1,n2⟩:=o2 x (aE hx);refine⟨c,_,rfl,AD.of (s2.get hc),rfl,_,_,rfl,_,_,rfl,_,_,rfl,rfl,?_⟩;refine⟨_,rfl,_,rfl,x.nm,rfl,LO (K:=K) (by omega) n2 rfl λl' ms' H3 nl3 s3 hl3 lm3=>?_⟩;refine⟨l,l',_,_,rfl,rfl,AB.of (s3.get hl),AB.of hl3,small (by rw[aa,aa];omega),λp1 np1=>?_⟩;have s4:=Af np1 (.lst (ms.map V.int++ms'.map V.int));have s24:=s2.trans (s3.trans s4);refine⟨_,rfl,_,rfl,e,_,_,_,rfl,rfl,AD.of (s24.get he),rfl,E3,λp2 np2=>?_⟩;have s5:=Af np2 (.lst [V.int x.kd,V.int x.tg.2.2]);refine⟨p1,p2,_,_,rfl,rfl,AB.of (s5.get Ad),AB.of Ad,small (by rw[au,aa,aa];show _+_+2<=_;omega),λp3 np3=>?_⟩;refine⟨p3,ms++ms'++[x.kd,x.tg.2.2],_,_,_,rfl,s24.trans (s5.trans (Af np3 _)),?_,?_⟩
    ·rw[Ad,aq,aq];rfl
    ·rw[au,au,lm3];show _+_+2<=_;omega
   ·rintro σ H2 ⟨l,ms,v3,v4,v5,rfl,s2,hl,lm⟩
    exact hN _ _ ⟨l,ms,_,_,_,rfl,s2,hl⟩
 ·rintro σ' H1 ⟨l,ms,v3,v4,v5,rfl,s1,hl⟩
  refine Ao ⟨_,rfl,a,_,_,_,rfl,rfl,AD.of (s1.get ha),Aj (j:=0) rfl,_,_,rfl,rfl,?_⟩;refine⟨_,rfl,l,rfl,⟨_,AB.of hl⟩,Eh (K:=K) (a:=l) (xs:=ms.map V.int) (λi σ H2=>∃(n:Int) (v7:Option V),σ=[some (.ref a),some (.str SG),some (.ref l),v3,v4,v5,some (.int n),v7]/\Al H1 H2) ⟨_,none,rfl,Al.refl _⟩ (λi σ H2 _ ⟨_,_,_,s2⟩=>AB.of (s2.get hl)) ?_ ?_⟩
  ·rintro i y σ H2 hi ⟨n,v7,rfl,s2⟩
   obtain⟨m,rfl,_⟩:=Ew hi;exact⟨_,rfl,_,_,rfl,rfl,.inl ⟨by decide,by decide⟩,_,rfl,_,_,rfl,rfl,_,_,rfl,rfl,_,_,rfl,rfl,(show(0:Int)<997 by decide),_,_,rfl,s2⟩
  ·rintro σ H2 ⟨n,v7,rfl,s2⟩
   exact⟨_,rfl,q n H2 (s1.trans s2)⟩
end
theorem map_one {α β:Type}{g:α->β}(hg:∀a b,g a=g b->a=b):∀{l l':List α},l.map g=l'.map g->l=l'
 |[],[],_=>rfl
 |[],_::_,h=>nomatch h
 |_::_,[],h=>nomatch h
 |x::l,y::l',h=>by
  rw[av,av] at h;injection h with h1 h2
  rw[hg x y h1,map_one hg h2]
theorem NU (a b:Tg)(h:Hk a=Hk b):a=b:=by
 obtain⟨a1,a2,a3⟩:=a;obtain⟨b1,b2,b3⟩:=b;injection h with h
 injection h with h1 h
 injection h with h2 h
 injection h with h3 _
 injection h1 with h1
 injection h2 with h2
 injection h3 with h3
 dsimp only at h1 h2 h3;rw[h1,h2,h3]
theorem RA (a b:En)(h:MM a=MM b):a=b:=by
 obtain⟨a1,a2,a3⟩:=a;obtain⟨b1,b2,b3⟩:=b;injection h with h
 injection h with h1 h
 injection h with h2 h
 injection h with h3 _
 injection h1 with h1
 injection h2 with h2
 have h3:=NU _ _ h3;dsimp only at h1 h2 h3;rw[h1,h2,h3]
theorem Sa {a b:Bk}(h:FF a=FF b):a=b:=by
 cases a with
 |piece z=>
  cases b with
  |piece z'=>injection h with h;injection h with _ h;injection h with h _;injection h with h;rw[h]
  |row lv ts=>injection h with h;injection h with h _;injection h with h;cases h
  |folder es=>injection h with h;injection h with h _;injection h with h;cases h
 |row lv ts=>
  cases b with
  |piece z'=>injection h with h;injection h with h _;injection h with h;cases h
  |row lv' ts'=>
   injection h with h;injection h with _ h;injection h with h1 h;injection h with h2 _
   injection h1 with h1
   injection h2 with h2
   rw[h1,map_one NU h2]
  |folder es=>injection h with h;injection h with h _;injection h with h;cases h
 |folder es=>
  cases b with
  |piece z'=>injection h with h;injection h with h _;injection h with h;cases h
  |row lv ts=>injection h with h;injection h with h _;injection h with h;cases h
  |folder es'=>injection h with h;injection h with _ h;injection h with h _;injection h with h;rw[map_one RA h]
section
variable {P:Program}{w:World}{K:W.Frag}{mg:Str->Option Value}{base:Heap}{f C:Addr}{XC:Nat->Addr}{fd:FuncData}
structure Cz where
 tg:Tg
 bk:Bk
 p:Addr
 ta:Addr
 v:V
def QC (H:Hp)(c:Cz):Prop:=H c.p=some (.tup [.ref c.ta,c.v])/\Dm H c.ta c.tg/\Rep NL H (FF c.bk) c.v
theorem QC.keep {H H':Hp}{c:Cz}(h:QC H c)(k:KT H H'):QC H' c:=⟨k _ _ h.1,k _ _ h.2.1,CQ k _ _ h.2.2⟩
def LK (cs:List Cz):List (Key×V):=cs.map λc=>(.inl c.tg.1,.ref c.p)
structure Bn (H:Hp) (d pl:Addr) (p0 p1:Int) (cs:List Cz):Prop where
 pl:H pl=some (.tup [.int p0,.int p1])
 r0:0<=p0
 r1:1<=p1
 r2:p1<=999982
 at_:H d=some (.dK (LK cs))
 ce:∀c∈cs,QC H c
 nu:∀(i:Nat) c,cs[i]?=some c->c.tg.1=1+(p0+p1*(i:Int))%999983
theorem WL:∀d:Nat,d<100->0<d->Nat.gcd 999983 d=1:=by decide +kernel
theorem SS {p0 p1:Int}{i j:Nat}(r1:1<=p1)(r2:p1<=999982)(ij:i<j)(j1:j<100):(p0+p1*(i:Int))%999983≠(p0+p1*(j:Int))%999983:=λe=>by
 have h1:(999983:Int) ∣ p1*(j:Int)-p1*(i:Int):=by
  generalize p1*(i:Int)=x at e ⊢;generalize p1*(j:Int)=y at e ⊢;omega
 rw[<-Int.mul_sub,show(j:Int)-(i:Int)=((j-i:Nat):Int) by omega] at h1;obtain⟨n,rfl⟩:=Int.eq_ofNat_of_zero_le (show 0<=p1 by omega);have h2:999983 ∣ n*(j-i):=by
  have h1':((999983:Nat):Int) ∣ ((n*(j-i):Nat):Int):=by rw[Int.natCast_mul];exact h1
  exact Int.natCast_dvd_natCast.mp h1'
 have h3:999983 ∣ n:=Nat.Coprime.dvd_of_dvd_mul_right (WL (j-i) (by omega) (by omega)) h2;have:=Nat.le_of_dvd (by omega) h3;omega
theorem Bn.nd {H:Hp}{d pl:Addr}{p0 p1:Int}{cs:List Cz}(h:Bn H d pl p0 p1 cs)(few:cs.length<=100):(cs.map (·.tg.1)).Nodup:=by
 refine bj.mpr λi j hi hj ij e=>?_
 rw[aa] at hi hj;rw[cb,cb,h.nu i _ (ah hi),h.nu j _ (ah hj)] at e;exact SS (p0:=p0) h.r1 h.r2 ij (by omega) (by omega)
theorem Bn.keep {H H':Hp}{d pl:Addr}{p0 p1:Int}{cs:List Cz}(h:Bn H d pl p0 p1 cs)(k:KT H H')(hd:H' d=some (.dK (LK cs))):Bn H' d pl p0 p1 cs:=⟨k _ _ h.pl,h.r0,h.r1,h.r2,hd,λc hc=>(h.ce c hc).keep k,h.nu⟩
theorem Bn.same {H H':Hp}{d pl:Addr}{p0 p1:Int}{cs:List Cz}(h:Bn H d pl p0 p1 cs)(s:Al H H'):Bn H' d pl p0 p1 cs:=h.keep (KT.of s) (s.get h.at_)
abbrev Pw (d:Addr)(H H':Hp):Prop:=∀a o,a≠d->H a=some o->H' a=some o
theorem Pw.kt {d:Addr}{H H':Hp}{kvs:List (Key×V)}(h:Pw d H H')(hd:H d=some (.dK kvs)):KT H H':=λc xs e=>h c _ (λw=>by rw[w,hd] at e;cases e) e
theorem Q4 (b:Bk):Di (Oc b) (Oc b)=true:=by
 have tg:∀t:Tg,Pu (Hk t):=λt=>by simp[Pu,Hk,Jd,Di]
 have en:∀e:En,Pu (MM e):=λe=>by simp[Pu,MM,Jd,Di,show Jd (Hk e.tg) (Hk e.tg)=true from tg e.tg]
 cases b with
 |piece z=>simp[Oc,Jd,Di]
 |row lv ts=>
  have:Di (ts.map Hk) (ts.map Hk)=true:=Ls λt ht=>by obtain⟨x,_,rfl⟩:=ax.mp ht;exact tg x
  simp[Oc,Jd,Di,this]
 |folder es=>
  have:Di (es.map MM) (es.map MM)=true:=Ls λt ht=>by obtain⟨x,_,rfl⟩:=ax.mp ht;exact en x
  simp[Oc,Jd,Di,this]
theorem NZ:∀ts:List Tg,Tr.deps (ts.map Hk)<=2
 |[]=>by decide
 |t::ts=>by
  show max (Tr.dep (Hk t)) (Tr.deps (ts.map Hk))<=2;exact fA.mpr ⟨by show Tr.dep (.tup [.int t.1,.int t.2.1,.int t.2.2])<=2;simp[Tr.dep,Tr.deps],NZ ts⟩
theorem Oh:∀es:List En,Tr.deps (es.map MM)<=3
 |[]=>by decide
 |e::es=>by
  show max (Tr.dep (MM e)) (Tr.deps (es.map MM))<=3;exact fA.mpr ⟨by show Tr.dep (.tup [.str e.nm,.int e.kd,.tup [.int e.tg.1,.int e.tg.2.1,.int e.tg.2.2]])<=3;simp[Tr.dep,Tr.deps],Oh es⟩
theorem P7 (b:Bk):Tr.deps (Oc b)<=5:=by
 cases b with
 |piece z=>simp[Oc,Tr.deps,Tr.dep]
 |row lv ts=>have:=NZ ts;simp[Oc,Tr.deps,Tr.dep];omega
 |folder es=>have:=Oh es;simp[Oc,Tr.deps,Tr.dep];omega
theorem SA {a b:Bk}(h:Oc a=Oc b):a=b:=Sa (by rw[FF,FF,h])
def Es (K:W.Frag):Sp:=λvs H Q _=>∃(pl d:Addr) (p0 p1:Int) (cs:List Cz) (v:V) (b:Bk) (y:Int),vs=[.ref pl,.ref d,v,.int y]/\Bn H d pl p0 p1 cs/\cs.length<=50/\Rep NL H (FF b) v/\VV b/\
 ∀cs' c H',Pw d H H'->Bn H' d pl p0 p1 cs'->c∈cs'->c.bk=b->(cs'=cs\/cs'=cs++[c])->Q (.ref c.ta) H'
theorem Mj (T:Txt K mg C XC)(F:Fun K "_law_put" "_law_put" Do f fd)(GO:Def P w K mg base 1 "_law_sum" ["_law_block"] (FW K)):FnOk P w K mg base CU 2 f fd ["_law_pool","_law_blocks_here","_law_block","_law_birth"] (Es K):=by
 exists Ey
 ·obtain⟨pl,d,p0,p1,cs,v,b,y,rfl,_⟩:=h;rfl
 obtain⟨pl,d,p0,p1,cs,v,b,y,rfl,bn,few,hv,ok,q⟩:=h;have hu:=Cp hr;have hu9:=B8 hr;refine⟨_,(!Ae (!NW aT rfl (pv 1) (@Ak _ _ (4) _ Ey.nd rfl (by trivial) (by trivial)) (!Ah (!Bu (!AA (Uc hu9) (!Ai Ar (!CT hu (pv 1) (pv 4) (λ_ _=>rfl)) (!Ab) (λ_ _=>rfl)) (pv 2) (AG _)) (!Ah (!As (!Ai Ar (!CT hu (pv 1) (pv 4) (λ_ _=>rfl)) (!Ab) (λ_ _=>rfl)))) (!AO))) (by intro _;rfl)) (!Ae (@Ap _ _ (4) _ _ _ _ Ey.nd rfl (by trivial) (!Am AE (!Ab) (!Am AQ (!Am AE (!Ai Ar (pv 0) (!Ab) (λ_ _=>rfl)) (!Am BG (!Ai Ar (pv 0) (!Ab) (λ_ _=>rfl)) (!Aw Pb (by rfl) T.b_len Cs (!Aa (pv 1) (!Ac))))) (!Ab))) (by rfl) (by trivial)) (!Ae (@Ap _ _ (5) _ _ _ _ Ey.nd rfl (by trivial) (!AY (!Aa (pv 4) (!Aa (pv 3) (!Aa (!AM GO (by trivial) rfl (!Aa (pv 2) (!Ac))) (!Ac))))) (by rfl) (by trivial)) (!Ae (!IZ hu (pv 1) (pv 4) (!AY (!Aa (pv 5) (!Aa (pv 2) (!Ac))))) (!Ah (!As (pv 5))))))),?_⟩
 try dsimp only[Bw,Cx.nox,Cx.wish]
 have nd:=bn.nd (by omega);have nf:∀o u,H d≠some (.frz o u):=λo u z=>by rw[bn.at_] at z;cases z
 refine Bs (t:=Qg _ _ _ _) (λσ' H'=>∃v4,σ'=[some (.ref pl),some (.ref d),some v,some (.int y),v4,none]/\Pw d H H'/\H' d=some (.dK (LK cs))) (λN hN=>?_) ?_
 ·refine⟨_,rfl,d,_,rfl,bn.at_,λo=>?_⟩;have k3:Pw d H (upd H d (.frz o (.dK (LK cs)))):=λa ob n e=>by rw[An n];exact e
  have t3:=k3.kt bn.at_;have f3:(upd H d (.frz o (.dK (LK cs)))) d=some (.frz o (.dK (LK cs))):=Ad;generalize upd H d (.frz o (.dK (LK cs)))=H3 at k3 t3 f3;have k4:Pw d H (upd H3 d (.dK (LK cs))):=λa ob n e=>by rw[An n];exact k3 a ob n e
  refine KM (d:=d) (o:=o) (kvs:=LK cs) nf (λi σ H'=>H'=H3/\(∃v4,σ=[some (.ref pl),some (.ref d),some v,some (.int y),v4,none])/\∀c∈cs.take i,c.bk≠b) ⟨rfl,⟨_,rfl⟩,λ_ h=>nomatch h⟩ (λi σ H' _ ⟨e,_⟩=>by rw[e];exact f3) ?_ ?_
  ·rintro i key vv σ H' hi ⟨rfl,⟨v4,rfl⟩,no⟩
   unfold LK at hi;rw[aw] at hi;obtain⟨c,hc,e⟩:=aV.mp hi;cases e;have hm:=aE hc;obtain⟨c1,c2,c3⟩:=bn.ce c hm;have g:FO H' d (.int c.tg.1) (some (.ref c.p)):=by
    refine .inl ⟨LK cs,.inl c.tg.1,.inr ⟨o,f3⟩,rfl,?_⟩;exact(IY (z:=λc:Cz=>c.tg.1) (v:=λc=>.ref c.p) nd c hm).symm
   dsimp only[Aq,Pm];refine⟨_,rfl,_,rfl,d,_,rfl,g,c.p,_,_,_,rfl,rfl,AD.of (t3 _ _ c1),Aj (j:=1) rfl,_,rfl,Oc c.bk,Oc b,NL,by have:=P7 c.bk;omega,Q4 _,Q4 _,CQ t3 _ _ c3,CQ t3 _ _ hv,_,rfl,DN (λz=>?_) (λz=>?_)⟩
   ·have eb:c.bk=b:=SA (Lg _ _ z);refine⟨_,rfl,_,rfl,d,_,rfl,g,c.p,_,_,_,rfl,rfl,AD.of (t3 _ _ c1),Aj (j:=0) rfl,d,o,_,nf,f3,q cs c _ k4 (bn.keep (k4.kt bn.at_) Ad) hm eb (.inl rfl)⟩
   ·refine⟨rfl,⟨_,rfl⟩,λx hx=>?_⟩;rw[aX,hc] at hx;rcases aB.mp hx with h|h
    ·exact no x h
    ·cases ai.mp h;intro eb;exact z (by rw[eb];exact Q4 b)
  ·rintro σ H' ⟨rfl,⟨v4,rfl⟩,no⟩
   exact hN _ _ ⟨_,rfl,k4,Ad⟩
 ·rintro σ' H1 ⟨v4,rfl,k1,hd1⟩
  have t1:=k1.kt bn.at_;have lc:(LK cs).length=cs.length:=aa ..;refine Ao ⟨_,rfl,pl,_,_,_,rfl,rfl,AD.of (t1 _ _ bn.pl),Aj (j:=0) rfl,_,rfl,pl,_,_,_,rfl,rfl,AD.of (t1 _ _ bn.pl),Aj (j:=1) rfl,_,rfl,d,_,rfl,hd1,_,_,rfl,rfl,.inl ⟨by have:=bn.r1;omega,by have:=bn.r2;omega⟩,_,_,rfl,rfl,_,_,rfl,rfl,(by show(0:Int)<999983;decide),_,_,rfl,rfl,?_⟩;rw[lc];have hz:∀z:Int,z=1+(p0+p1*(cs.length:Int))%999983->∀(i:Nat) c,cs[i]?=some c->c.tg.1≠z:=λz ez i c hc e=>by
   have il:=(ar.mp hc).1;rw[bn.nu i c hc,ez] at e;exact SS (p0:=p0) bn.r1 bn.r2 il (by omega) (by omega)
  dsimp only[Aq];generalize ez:1+(p0+p1*(cs.length:Int))%999983=z at hz;have hz:=hz z rfl;refine Ao ⟨_,rfl,_,rfl,_,rfl,v,b,rfl,CQ t1 _ _ hv,ok,λn H2 s2=>⟨II,λta nta=>?_⟩⟩;have s3:=Af nta (.tup [.int z,.int y,.int n]);have ha3:Dm (upd H2 ta (.tup [.int z,.int y,.int n])) ta (z,y,n):=Ad;dsimp only[Aq];generalize upd H2 ta (.tup [.int z,.int y,.int n])=H3 at s3 ha3;have s13:=s2.trans s3;refine⟨_,rfl,_,rfl,E3,λp np=>?_⟩;have s4:=Af np (.tup [.ref ta,v]);have hp4:(upd H3 p (.tup [.ref ta,v])) p=some (.tup [.ref ta,v]):=Ad;generalize upd H3 p (.tup [.ref ta,v])=H4 at s4 hp4;have s14:=s13.trans s4;have hd4:=s14.get hd1;refine⟨_,rfl,_,rfl,d,_,rfl,L7.k (k:=.inl z) hd4 (Bh (by rw[lc];omega)),?_⟩;have put:putK (LK cs) (.inl z) (.ref p)=LK (cs++[⟨(z,y,n),b,p,ta,v⟩]):=by
   unfold putK;rw[aH]
   ·unfold LK;rw[aq];rfl
   ·intro h;obtain⟨kv,hk,e⟩:=List.any_eq_true.mp h;obtain⟨c,hc,rfl⟩:=ax.mp hk;obtain⟨i,hi⟩:=bE hc;exact hz i c hi (cQ (bh e))
  rw[put];have k5:Pw d H (upd H4 d (.dK (LK (cs++[⟨(z,y,n),b,p,ta,v⟩])))):=λa ob ne e=>by rw[An ne];exact s14.get (k1 a ob ne e)
  have t45:KT H4 (upd H4 d (.dK (LK (cs++[⟨(z,y,n),b,p,ta,v⟩])))):=λc xs e=>by rw[An λw=>by rw[w,hd4] at e;cases e];exact e
  have t5:=k5.kt bn.at_;refine⟨_,rfl,q (cs++[⟨(z,y,n),b,p,ta,v⟩]) _ _ k5 ⟨t5 _ _ bn.pl,bn.r0,bn.r1,bn.r2,Ad,λc hc=>?_,λi c hc=>?_⟩ (aK _ ay) rfl (.inr rfl)⟩
  ·rcases aB.mp hc with h|h
   ·exact(bn.ce c h).keep t5
   ·cases ai.mp h;exact⟨t45 _ _ hp4,t45 _ _ (s4.get ha3),CQ t5 _ _ hv⟩
  ·by_cases il:i<cs.length
   ·rw[bA il] at hc;exact bn.nu i c hc
   ·rw[bF (by omega)] at hc;have i0:i-cs.length=0:=by
     have:=(ar.mp hc).1;simp at this;omega
    rw[i0] at hc;cases hc;rw[show i=cs.length by omega,ez]
theorem JG {α:Type}{k:α->Key}{g:α->V}:∀{rs:List α},(rs.map k).Nodup->∀r∈rs,EU (rs.map λr=>(k r,g r)) (k r)=some (g r)
 |x::rs,nd,r,hr=>by
  rw[av,bQ] at nd;rw[av];rcases aD.mp hr with rfl|hr
  ·exact E4 rfl
  ·rw[D7 λe=>nd.1 (ax.mpr ⟨r,hr,e.symm⟩)];exact JG nd.2 r hr
theorem Jt {α:Type}{k:α->Key}{g:α->V}{z:Key}:∀{rs:List α},(∀r∈rs,k r≠z)->EU (rs.map λr=>(k r,g r)) z=none
 |[],_=>rfl
 |x::rs,h=>by
  rw[av,D7 (h x ay)];exact Jt λr hr=>h r (az _ hr)
theorem Th {α:Type}{k:α->Key}{g:α->V}(rs:List α)(n:α)(nd:(rs.map k).Nodup):∃rs':List α,(rs'.map λr=>(k r,g r))=putK (rs.map λr=>(k r,g r)) (k n) (g n)/\(∀r∈rs',r=n\/r∈rs)/\(rs'.map k).Nodup/\rs'.length<=rs.length+1:=by
 by_cases h:k n∈rs.map k
 ·refine⟨rs.map λr=>if k r=k n then n else r,?_,λr hr=>?_,?_,by rw[aa];omega⟩
  ·obtain⟨r0,h0,e0⟩:=ax.mp h;unfold putK;rw[G7,<-e0,JG nd r0 h0,aI (show(some (g r0)).isSome=true from rfl),aj,aj];refine bP λr _=>?_
   dsimp only[Function.comp]
   by_cases e:k r=k r0
   ·rw[aI e,aI e,e,e0]
   ·rw[aH e,aH e]
  ·obtain⟨x,hx,rfl⟩:=ax.mp hr
   by_cases e:k x=k n
   ·rw[aI e];exact .inl rfl
   ·rw[aH e];exact .inr hx
  ·rw[aj,show(k∘λr=>if k r=k n then n else r)=k from funext λr=>by
    dsimp only[Function.comp]
    by_cases e:k r=k n
    ·rw[aI e,e]
    ·rw[aH e]]
   exact nd
 ·refine⟨rs++[n],?_,λr hr=>?_,?_,by rw[au];exact ak _⟩
  ·rw[Jx _ (Jt λr hr e=>h (ax.mpr ⟨r,hr,e⟩)),aq];rfl
  ·rcases aB.mp hr with hr|hr
   ·exact .inr hr
   ·exact .inl (ai.mp hr)
  ·rw[aq,cX];refine⟨nd,by simp,λa ha b hb e=>?_⟩;rw[ai.mp hb] at e;exact h (e▸ha)
theorem GP {xs:List V}{n:Int}(h:(xs.length:Int)=n)(h0:0<n)(i:Int):∃v∈xs,Iw xs (i%n)=some v:=by
 have i0:=bc i (show n≠0 by omega);have i1:=aU i h0;have hk:(i%n).toNat<xs.length:=by omega
 refine⟨xs[(i%n).toNat],bz hk,?_⟩;have:=Aj (xs:=xs) (j:=(i%n).toNat) (ah hk);rw[show(((i%n).toNat:Nat):Int)=i%n by omega] at this;exact this
def Us (zs:List Str)(fs gs:List (Addr×Tg))(e:En):Prop:=e.nm∈zs/\((e.kd=1/\∃p∈fs,e.tg=p.2)\/(e.kd=2/\∃p∈gs,e.tg=p.2))
def DI (K:W.Frag):Sp:=λvs H Q _=>∃(a na fa ga:Addr) (ns:List Int) (k:Int) (zs:List Str) (fs gs:List (Addr×Tg)),vs=[.ref a,.int k,.ref na,.ref fa,.ref ga]/\H a=some (.lst (ns.map V.int))/\0<=k/\k+7<ns.length/\(∀x∈ns,0<=x/\x<60)/\AB K H na (zs.map V.str)/\zs≠[]/\zs.length<=100/\
 H fa=some (.lst (fs.map λp=>V.ref p.1))/\H ga=some (.lst (gs.map λp=>V.ref p.1))/\GF H fs/\GF H gs/\fs≠[]/\fs.length<=100/\gs.length<=100/\
 ∀v es H',Al H H'->Rep NL H' (FF (.folder es)) v->es.length<=3->(∀e∈es,Us zs fs gs e)->(es.map (·.nm)).Nodup->Q v H'
theorem IQ (T:Txt K mg C XC)(F:Fun K "_law_entries" "_law_entries" BX f fd):FnOk P w K mg base CU 1 f fd ["_law_row_here","_law_at","_law_names_here","_law_files","_law_folders"] (DI K):=by
 exists BH
 ·obtain⟨a,na,fa,ga,ns,k,zs,fs,gs,rfl,_⟩:=h;rfl
 obtain⟨a,na,fa,ga,ns,k,zs,fs,gs,rfl,ha,k0,k1,hb,hna,zn,lz,hfa,hga,tf,tg,fn,lf,lg,q⟩:=h;have hu:=Cp hr;have hu9:=B8 hr;refine⟨_,(!Ae (@Ap _ _ (5) _ _ _ _ BH.nd rfl (by trivial) (!Gc) (by rfl) (by trivial)) (!Ae (!BF aT rfl (!BE rfl T.b_range (!Aa (!Am AQ (!Ai Ax (pv 0) (pv 1) (λ_ _=>rfl)) (!Ab)) (!Ac))) (@Ak _ _ (6) _ BH.nd rfl (by trivial) (by trivial)) (!Ae (@Ap _ _ (7) _ _ _ _ BH.nd rfl (by trivial) (!Am AQ (!Ai Ax (pv 0) (!Am AE (!Am AE (pv 1) (!Ab)) (!Am BG (!Ab) (pv 6))) (λ_ _=>rfl)) (!Am AE (!Aw A0 (by rfl) T.b_len Cs (!Aa (pv 3) (!Ac))) (!Aw A0 (by rfl) T.b_len Cs (!Aa (pv 4) (!Ac))))) (by rfl) (by trivial)) (!Ae (@Ap _ _ (8) _ _ _ _ BH.nd rfl (by trivial) (!Am AE (!Ab) (!Bf HC (by rfl) T.b_int Lc (!Aa (!Fp U7 (pv 7) (!Aw A0 (by rfl) T.b_len Cs (!Aa (pv 3) (!Ac))) (AG _)) (!Ac)))) (by rfl) (by trivial)) (!Ae (@Ap _ _ (9) _ _ _ _ BH.nd rfl (by trivial) (!Ai Ax (pv 2) (!Am AQ (!Ai Ax (pv 0) (!Am AE (!Am AE (pv 1) (!Ab)) (!Am BG (!Ab) (pv 6))) (λ_ _=>rfl)) (!Aw A0 (by rfl) T.b_len Cs (!Aa (pv 2) (!Ac)))) (λ_ _=>rfl)) (by rfl) (by trivial)) (!Ah (!IZ hu (pv 5) (pv 9) (!AY (!Aa (pv 9) (!Aa (pv 8) (!Aa (!Ai Ax (!Am Gp (pv 3) (pv 4)) (pv 7) (λ_ _=>rfl)) (!Ac)))))))))) (by intro _;rfl)) (!Ah (!As (!AY (!Aa (!Ab) (!Aa (!Bf BQ (by rfl) T.b_tuple Ei (!Aa (@Cb _ ["_law_name","_law_found"] [none,some 5] _ _ _ _ _ _ _ _ _ _ _ rfl (!BA (!Aw (NF rfl) (by rfl) T.b_sorted DT (!Aa (pv 5) (!Ac)))) (by rfl) rfl (by repeat (first|exact trivial|refine⟨rfl,?_⟩)) (by repeat (first|exact trivial|refine⟨λh=>(by first|exact⟨_,rfl⟩|cases h),?_⟩)) (λC s H fp=>⟨(@Ak _ _ (0) _ (show(["_law_name","_law_found"]:List Str).Nodup by decide +kernel) rfl (by trivial) (by trivial)),(!AW),(!CT hu (pv 1) (pv 0) (λ_ _=>rfl))⟩) (by intro _;rfl)) (!Ac))) (!Ac)))))))),?_⟩
 try dsimp only[Bw,Cx.nox,Cx.wish]
 refine Ao λde nde=>?_
 have s0:=Af nde (.dK []);have hd0:(upd H de (.dK [])) de=some (.dK []):=Ad;generalize upd H de (.dK [])=H0 at s0 hd0;dsimp only[Aq];obtain⟨x0,x1⟩:=Fb hb k.toNat;refine Bs (t:=GR _ _ _) (λσ' H'=>∃(rs:List (Addr×En)) (v6 v7 v8 v9:Option V),σ'=[some (.ref a),some (.int k),some (.ref na),some (.ref fa),some (.ref ga),some (.ref de),v6,v7,v8,v9]/\Al H H'/\H' de=some (.dK (rs.map λr=>(.inr r.2.nm,.ref r.1)))/\(rs.map λr=>(.inr r.2.nm:Key)).Nodup/\rs.length<=3/\∀r∈rs,GB H' r/\Us zs fs gs r.2) (λN hN=>?_) ?_
 ·refine⟨_,rfl,_,rfl,a,_,_,_,rfl,rfl,AB.of (s0.get ha),C5 k0 (by omega),_,_,rfl,rfl,(by show(0:Int)<4;decide),_,rfl,by omega,by omega,?_⟩;refine CD (lo:=0) (λi σ H'=>∃(rs:List (Addr×En)) (v6 v7 v8 v9:Option V),σ=[some (.ref a),some (.int k),some (.ref na),some (.ref fa),some (.ref ga),some (.ref de),v6,v7,v8,v9]/\Al H H'/\H' de=some (.dK (rs.map λr=>(.inr r.2.nm,.ref r.1)))/\(rs.map λr=>(.inr r.2.nm:Key)).Nodup/\rs.length<=i/\∀r∈rs,GB H' r/\Us zs fs gs r.2) ⟨[],none,none,none,none,rfl,s0,hd0,eJ,ak _,λ_ h=>nomatch h⟩ ?_ ?_
  ·rintro i σ H1 hi ⟨rs,v6,v7,v8,v9,rfl,s1,hd1,nd,lr,hrs⟩
   have i3:(i:Int)<3:=by omega
   have ha1:=s1.get ha;have hfa1:=s1.get hfa;have hga1:=s1.get hga;obtain⟨y0,y1⟩:=Fb hb (k+1+2*(0+(i:Int))).toNat;have pf:0<fs.length:=bI.mpr fn;have lfg:(((fs.map λp=>V.ref p.1).length:Nat):Int)+(((gs.map λp=>V.ref p.1).length:Nat):Int)=(fs.length:Int)+(gs.length:Int):=by rw[aa,aa]
   refine Ao ⟨_,rfl,_,rfl,_,_,rfl,rfl,_,rfl,_,_,rfl,rfl,.inl ⟨by decide,by decide⟩,_,_,rfl,rfl,a,_,_,_,rfl,rfl,AB.of ha1,C5 (by omega) (by omega),_,rfl,fa,_,rfl,.inl (AB.of hfa1),_,rfl,ga,_,rfl,.inl (AB.of hga1),_,_,rfl,rfl,_,_,rfl,rfl,(by show(0:Int)<_+_;rw[lfg];omega),?_⟩;rw[lfg];have n0:=bc (ns.getD (k+1+2*(0+(i:Int))).toNat 0) (show(fs.length:Int)+(gs.length:Int)≠0 by omega);have n1:=aU (ns.getD (k+1+2*(0+(i:Int))).toNat 0) (show(0:Int)<(fs.length:Int)+(gs.length:Int) by omega);dsimp only[Aq];generalize ns.getD (k+1+2*(0+(i:Int))).toNat 0%((fs.length:Int)+(gs.length:Int))=n at n0 n1;obtain⟨pq,hpq,hk⟩:∃pq,(fs++gs)[n.toNat]?=some pq/\((¬(fs.length:Int)<=n/\pq∈fs)\/((fs.length:Int)<=n/\pq∈gs)):=by
    by_cases h:n.toNat<fs.length
    ·exact⟨_,by rw[bA h,ah h],.inl ⟨by omega,bz _⟩⟩
    ·have h2:n.toNat-fs.length<gs.length:=by omega
     exact⟨_,by rw[bF (by omega),ah h2],.inr ⟨by omega,bz _⟩⟩
   have hat:Iw (fs.map (λp=>V.ref p.1)++gs.map λp=>V.ref p.1) n=some (.ref pq.1):=by
    have:=Aj (xs:=fs.map (λp=>V.ref p.1)++gs.map λp=>V.ref p.1) (j:=n.toNat) (v:=.ref pq.1) (by rw[<-aq,aw,hpq];rfl)
    rwa [show((n.toNat:Nat):Int)=n by omega] at this
   refine Ao ⟨_,rfl,_,rfl,fa,_,rfl,.inl (AB.of hfa1),_,_,rfl,rfl,.inr ⟨_,rfl,_,_,rfl,rfl,?_⟩⟩;rw[show(((fs.map λp=>V.ref p.1).length:Nat):Int)=(fs.length:Int) by rw[aa]];dsimp only[Aq];obtain⟨kd,ekd,hkd⟩:∃kd:Int,(1+if decide ((fs.length:Int)<=n)=true then 1 else 0)=kd/\((kd=1/\pq∈fs)\/(kd=2/\pq∈gs)):=by
    rcases hk with⟨h,m⟩|⟨h,m⟩
    ·exact⟨1,by rw[aO h];rfl,.inl ⟨rfl,m⟩⟩
    ·exact⟨2,by rw[aR h];rfl,.inr ⟨rfl,m⟩⟩
   rw[ekd];have lz':(((zs.map V.str).length:Nat):Int)=(zs.length:Int):=by rw[aa]
   have pz:0<zs.length:=bI.mpr zn;obtain⟨vz,hvz,haz⟩:=GP (xs:=zs.map V.str) lz' (by omega) (ns.getD (k+2+2*(0+(i:Int))).toNat 0);obtain⟨z,hz,rfl⟩:=ax.mp hvz;refine Ao ⟨_,rfl,_,rfl,_,rfl,_,_,rfl,rfl,_,rfl,_,_,rfl,rfl,.inl ⟨by decide,by decide⟩,_,_,rfl,rfl,a,_,_,_,rfl,rfl,AB.of ha1,C5 (by omega) (by omega),_,rfl,na,_,rfl,.inl (s1.seq hna),_,_,rfl,rfl,(by show(0:Int)<_;rw[lz'];omega),na,_,_,_,rfl,rfl,s1.seq hna,(by rw[lz'];exact haz),?_⟩;dsimp only[Aq];refine⟨_,rfl,_,rfl,_,rfl,_,rfl,fa,ga,_,_,rfl,rfl,AB.of hfa1,AB.of hga1,small (by rw[aa,aa];omega),λp1 np1=>?_⟩;have s2:=Af np1 (.lst (fs.map (λp=>V.ref p.1)++gs.map λp=>V.ref p.1));refine⟨_,rfl,p1,_,_,_,rfl,rfl,AB.of Ad,hat,II,λt nt=>?_⟩;have s3:=Af nt (.tup [.str z,.int kd,.ref pq.1]);have ht3:(upd (upd H1 p1 (.lst (fs.map (λp=>V.ref p.1)++gs.map λp=>V.ref p.1))) t (.tup [.str z,.int kd,.ref pq.1])) t=some (.tup [.str z,.int kd,.ref pq.1]):=Ad;generalize upd (upd H1 p1 (.lst (fs.map (λp=>V.ref p.1)++gs.map λp=>V.ref p.1))) t (.tup [.str z,.int kd,.ref pq.1])=H3 at s3 ht3;have s13:=s2.trans s3;have hd3:=s13.get hd1;refine⟨_,rfl,_,rfl,de,_,rfl,L7.k (k:=.inr z) hd3 (Bh (by rw[aa];omega)),?_⟩;obtain⟨rs',e1,e2,e3,e4⟩:=Th (k:=λr:Addr×En=>.inr r.2.nm) (g:=λr=>.ref r.1) rs (t,⟨z,kd,pq.2⟩) nd;have tp:KT H3 (upd H3 de (.dK (putK (rs.map λr=>(.inr r.2.nm,.ref r.1)) (.inr z) (.ref t)))):=λc xs e=>by rw[An λw=>by rw[w,hd3] at e;cases e];exact e
   refine⟨rs',_,_,_,_,rfl,AI (s1.trans s13) nde _,by rw[Ad,<-e1],e3,by omega,λr hr=>?_⟩;rcases e2 r hr with rfl|hr
   ·have hpt:Dm H pq.1 pq.2:=by
     rcases hkd with⟨_,m⟩|⟨_,m⟩
     ·exact tf pq m
     ·exact tg pq m
    refine⟨⟨pq.1,tp _ _ ht3,tp _ _ ((s1.trans s13).get hpt)⟩,hz,?_⟩;rcases hkd with⟨e,m⟩|⟨e,m⟩
    ·exact .inl ⟨e,pq,m,rfl⟩
    ·exact .inr ⟨e,pq,m,rfl⟩
   ·obtain⟨h1,h2⟩:=hrs r hr;exact⟨(h1.same s13).tup tp,h2⟩
  ·rintro σ H1 ⟨rs,v6,v7,v8,v9,rfl,s1,hd1,nd,lr,hrs⟩
   exact hN _ _ ⟨rs,_,_,_,_,rfl,s1,hd1,nd,by omega,hrs⟩
 ·rintro σ' H1 ⟨rs,v6,v7,v8,v9,rfl,s1,hd1,nd,lr,hrs⟩
  refine⟨_,rfl,de,_,rs.map (·.2.nm),rfl,hd1,by rw[aj,aj];rfl,by rw[aa];omega,λts pl pm so npl=>?_⟩;obtain⟨rs',pm',ets⟩:=EX pm rfl;have s2:=Af npl (.lst (ts.map V.str));have lr':rs'.length<=3:=by rw[pm'.length_eq];exact lr
  have hl2:(upd H1 pl (.lst (ts.map V.str))) pl=some (.lst (rs'.map λr=>V.str r.2.nm)):=by rw[Ad,<-ets,aj];rfl
  refine⟨pl,rfl,⟨_,AB.of hl2⟩,Ct (ps:=rs') (λr=>.ref r.1) (B5 (AB.of hl2)) (by omega) (λr hr H2 R s' hR=>?_) λl H2 nl s' hl=>?_⟩
  ·have g:=FO.k (k:=.inr r.2.nm) (s'.get (s2.get hd1));rw[JG (k:=λr:Addr×En=>.inr r.2.nm) (g:=λr=>.ref r.1) nd r (pm'.mem_iff.mp hr)] at g;exact⟨_,rfl,_,rfl,de,_,rfl,g,hR H2 (Al.refl _)⟩
  ·refine⟨l,_,rfl,.inl ⟨AB.of hl,λt nt=>⟨E3,λfp nf=>?_⟩⟩⟩;have s3:=Af nt (.tup (rs'.map λr=>V.ref r.1));have s4:=Af nf (.tup [.int 2,.ref t]);have s25:=s2.trans (s'.trans (s3.trans s4));refine q (.ref fp) (rs'.map (·.2)) _ (s1.trans s25) ⟨fp,_,rfl,Ad,_,_,rfl,rfl,_,_,rfl,⟨t,_,rfl,s4.get Ad,N7 λp hp=>((hrs p (pm'.mem_iff.mp hp)).1).same s25⟩,rfl⟩ (by rw[aa];exact lr') (λe he=>?_) ?_
   ·obtain⟨r,hr,rfl⟩:=ax.mp he;exact(hrs r (pm'.mem_iff.mp hr)).2
   ·rw[aj];have nd2:=(pm'.map λr=>(.inr r.2.nm:Key)).nodup_iff.mpr nd;exact bJ.mpr ((bJ.mp nd2).imp λh e=>h (congrArg Sum.inr e))
def bm (cs:List Cz):BM:=λz=>(cs.find? λc=>decide (c.tg.1=z)).map (·.bk)
abbrev Mon (B B':BM):Prop:=∀z b,B z=some b->B' z=some b
theorem UH (cs more:List Cz):Mon (bm cs) (bm (cs++more)):=λz b h=>by
 unfold bm at h ⊢;obtain⟨c,hc,e⟩:=aV.mp h;rw[eY,hc];exact congrArg some e
theorem Tu {cs:List Cz}(nd:(cs.map (·.tg.1)).Nodup){c:Cz}(hc:c∈cs):bm cs c.tg.1=some c.bk:=by
 obtain⟨i,hi⟩:=bE hc;unfold bm;rw[Oy (p:=λx:Cz=>decide (x.tg.1=c.tg.1)) hi (aR rfl) λx hx=>aO λe=>?_]
 ·rfl
 ·obtain⟨j,hj⟩:=bE hx;have jl:=(ar.mp hj).1;rw[aQ] at jl;rw[cP,aI (by omega)] at hj;have il:=(ar.mp hi)
  have jl':=(ar.mp hj)
  have:=bj.mp nd j i (by rw[aa];omega) (by rw[aa];exact il.1) (by omega);rw[cb,cb,il.2,jl'.2] at this;exact this e
theorem Rw.mon {B B':BM}(m:Mon B B'):∀{n:Nat} {z:Int},Rw B n z->Rw B' n z
 |0,z,⟨c,e,l⟩=>⟨c,m _ _ e,l⟩
 |n+1,z,.inl ⟨c,e,l⟩=>.inl ⟨c,m _ _ e,l⟩
 |n+1,z,.inr ⟨lv,ts,e,l,h⟩=>.inr ⟨lv,ts,m _ _ e,l,λt ht=>Rw.mon m (h t ht)⟩
theorem Rw.up {B:BM}:∀{n:Nat} {z:Int},Rw B n z->Rw B (n+1) z
 |0,z,h=>.inl h
 |n+1,z,.inl h=>.inl h
 |n+1,z,.inr ⟨lv,ts,e,l,h⟩=>.inr ⟨lv,ts,e,l,λt ht=>Rw.up (h t ht)⟩
def Fd (B:BM)(Nm:Str->Prop):Nat->Int->Prop
 |0,_=>False
 |n+1,z=>∃es,B z=some (.folder es)/\es.length<=3/\(es.map (·.nm)).Nodup/\∀e∈es,Nm e.nm/\((e.kd=1/\Rw B 2 e.tg.1)\/(e.kd=2/\Fd B Nm n e.tg.1))
theorem Fd.mon {B B':BM}{Nm:Str->Prop}(m:Mon B B'):∀{n:Nat} {z:Int},Fd B Nm n z->Fd B' Nm n z
 |n+1,z,⟨es,e,l,nd,h⟩=>⟨es,m _ _ e,l,nd,λx hx=>⟨(h x hx).1,(h x hx).2.imp (λ⟨k,r⟩=>⟨k,r.mon m⟩) λ⟨k,r⟩=>⟨k,Fd.mon m r⟩⟩⟩
theorem Fd.up {B:BM}{Nm:Str->Prop}:∀{n:Nat} {z:Int},Fd B Nm n z->Fd B Nm (n+1) z
 |n+1,z,⟨es,e,l,nd,h⟩=>⟨es,e,l,nd,λx hx=>⟨(h x hx).1,(h x hx).2.imp id λ⟨k,r⟩=>⟨k,Fd.up r⟩⟩⟩
structure Sb (H0 H:Hp) (d pl:Addr) (p0 p1:Int) (cs:List Cz) (n:Nat):Prop where
 sm:Al H0 H
 fr:H0 d=none
 bn:Bn H d pl p0 p1 cs
 few:cs.length<=n
theorem Sb.on {H0 H H':Hp}{d pl:Addr}{p0 p1:Int}{cs:List Cz}{n:Nat}(h:Sb H0 H d pl p0 p1 cs n)(s:Al H H'):Sb H0 H' d pl p0 p1 cs n:=⟨h.sm.trans s,h.fr,h.bn.same s,h.few⟩
theorem Kn {H0 H:Hp} {d pl:Addr} {p0 p1:Int} {cs:List Cz} {n:Nat} {v:V} {b:Bk} {y:Int} {Q:VK} (h:Sb H0 H d pl p0 p1 cs n) (hn:n<=50) (hv:Rep NL H (FF b) v) (ok:VV b)
  (q:∀cs' H' ta t,Sb H0 H' d pl p0 p1 cs' (n+1)->Pw d H H'->bm cs' t.1=some b->Dm H' ta t->Mon (bm cs) (bm cs')->Q (.ref ta) H'):Es K [.ref pl,.ref d,v,.int y] H Q E0:=by
 have hf:=h.few;refine⟨pl,d,p0,p1,cs,v,b,y,rfl,h.bn,by omega,hv,ok,λcs' c H' k bn hc eb ec=>q cs' H' c.ta c.tg ⟨λa o e=>k a o (λw=>by rw[w,h.fr] at e;cases e) (h.sm.get e),h.fr,bn,?_⟩ k ?_ (bn.ce c hc).2.1 ?_⟩
 ·rcases ec with rfl|rfl
  ·omega
  ·rw[au];show cs.length+1<=_;omega
 ·have l:cs'.length<=100:=by
   rcases ec with rfl|rfl
   ·omega
   ·rw[au];show cs.length+1<=_;omega
  rw[<-eb];exact Tu (bn.nd l) hc
 ·rcases ec with rfl|rfl
  ·exact λ_ _ h=>h
  ·exact UH _ _
theorem L0 {v:V}{σ:St}{H:Hp}{Q:List V->Hp->Prop}(h:Q [v] H):Ma (tC v) Re σ H Q:=h
theorem IW {H0 H:Hp}{d pl l:Addr}{p0 p1:Int}{cs:List Cz}{n:Nat}{us us':List V}(h:Sb H0 H d pl p0 p1 cs n)(hl:H l=some (.lst us))(nl:H0 l=none):Sb H0 (upd H l (.lst us')) d pl p0 p1 cs n:=
 ⟨AI h.sm nl _,h.fr,h.bn.keep (KT.lst hl _) (by rw[An λw=>by rw[<-w,h.bn.at_] at hl;cases hl];exact h.bn.at_),h.few⟩
theorem Pw.ls {d l:Addr}{H H':Hp}{kvs:List (Key×V)}{us:List V}(h:Pw d H H')(hd:H d=some (.dK kvs))(e:H l=some (.lst us)):H' l=some (.lst us):=h l _ (λw=>by rw[w,hd] at e;cases e) e
abbrev Hj (H:Hp)(l:Addr)(ps:List (Addr×Tg)):Prop:=H l=some (.lst (ps.map λp=>V.ref p.1))/\GF H ps
theorem Hj.but {d l:Addr}{H H':Hp}{kvs:List (Key×V)}{ps:List (Addr×Tg)}(h:Hj H l ps)(k:Pw d H H')(hd:H d=some (.dK kvs)):Hj H' l ps:=⟨k.ls hd h.1,λp hp=>k.kt hd _ _ (h.2 p hp)⟩
theorem Hj.same {l:Addr}{H H':Hp}{ps:List (Addr×Tg)}(h:Hj H l ps)(s:Al H H'):Hj H' l ps:=⟨s.get h.1,λp hp=>s.get (h.2 p hp)⟩
theorem Hj.snoc {l:Addr}{H:Hp}{ps:List (Addr×Tg)}{ta:Addr}{t:Tg}(h:Hj H l ps)(ht:Dm H ta t):Hj (upd H l (.lst (ps.map (λp=>V.ref p.1)++[.ref ta]))) l (ps++[(ta,t)]):=by
 refine⟨by rw[Ad,aq];rfl,λp hp=>?_⟩;have k:=KT.lst h.1 (.lst (ps.map (λp=>V.ref p.1)++[.ref ta]));rcases aB.mp hp with hp|hp
 ·exact k _ _ (h.2 p hp)
 ·cases ai.mp hp;exact k _ _ ht
theorem Hj.at {l:Addr}{H:Hp}{ps:List (Addr×Tg)}(h:Hj H l ps){n:Int}(hn:(ps.length:Int)=n)(h0:0<n)(i:Int):∃p∈ps,Iw (ps.map λp=>V.ref p.1) (i%n)=some (.ref p.1):=by
 obtain⟨v,hv,e⟩:=GP (xs:=ps.map λp=>V.ref p.1) (n:=n) (by rw[aa];exact hn) h0 i;obtain⟨p,hp,rfl⟩:=ax.mp hv;exact⟨p,hp,e⟩
theorem Og {α:Type}{ps:List (Addr×Tg)}:∀{ys:List (α×V)},(∀q∈ys,∃p∈ps,q.2=V.ref p.1)->∃qs:List (Addr×Tg),ys.map (·.2)=qs.map (λp=>V.ref p.1)/\(∀q∈qs,q∈ps)/\qs.length=ys.length
 |[],_=>⟨[],rfl,(λ_ h=>nomatch h),rfl⟩
 |y::ys,h=>by
  obtain⟨qs,e1,e2,e3⟩:=Og λq hq=>h q (az _ hq)
  obtain⟨p,hp,e⟩:=h y ay;refine⟨p::qs,by rw[av,av,e1,e],λq hq=>?_,by rw[aM,aM,e3]⟩;rcases aD.mp hq with rfl|hq
  ·exact hp
  ·exact e2 q hq
def Eb (K:W.Frag):Sp:=λvs H Q _=>∃(sa pl na:Addr) (ns:List Int) (p0 p1:Int) (zs:List Str),vs=[.ref sa,.ref pl,.ref na]/\AB K H sa (ns.map V.int)/\H pl=some (.tup [.int p0,.int p1])/\0<=p0/\1<=p1/\p1<=999982/\AB K H na (zs.map V.str)/\zs≠[]/\zs.length<=100/\(∀z∈zs,z.length<=8/\OG z)/\
 ∀t d fo cs (gs:List (Addr×Tg)) H',Sb H H' d pl p0 p1 cs 15->H' t=some (.tup [.ref d,.ref fo])->H' fo=some (.lst (gs.map λp=>V.ref p.1))->GF H' gs->(∀p∈gs,Fd (bm cs) (·∈zs) 6 p.2.1)->(∃p∈gs,bm cs p.2.1=some (.folder []))->gs.length<=6->Q (.ref t) H'
theorem Jk (T:Txt K mg C XC)(F:Fun K "_law_blocks" "_law_blocks" Ck f fd)(BS:Def P w K mg base 1 "_law_row" ["_law_cell","_law_many_here"] (DC K))(AL:Def P w K mg base 1 "_law_cell_at" ["_law_script","_law_k"] (BI K))(Cr:Def P w K mg base 2 "_law_put" ["_law_pool","_law_blocks_here","_law_block","_law_birth"] (Es K))(FP:Def P w K mg base 1 "_law_text" ["_law_row_here","_law_at"] (Fh K))(Eg:Def P w K mg base 1 "_law_entries" ["_law_row_here","_law_at","_law_names_here","_law_files","_law_folders"] (DI K)):FnOk P w K mg base CU 3 f fd ["_law_script","_law_pool","_law_names_here"] (Eb K):=by
 exists Bb
 ·obtain⟨sa,pl,na,ns,p0,p1,zs,rfl,_⟩:=h;rfl
 obtain⟨sa,pl,na,ns,p0,p1,zs,rfl,hsa,hpl,r0,r1,r2,hna,zn,lz,zok,q⟩:=h;have hu:=Cp hr;have hu9:=B8 hr;refine⟨_,(!Ae (@Ap _ _ (3) _ _ _ _ Bb.nd rfl (by trivial) (!Gc) (by rfl) (by trivial)) (!Ae (@Ap _ _ (4) _ _ _ _ Bb.nd rfl (by trivial) (!AM BS (by trivial) rfl (!Aa (!AM AL (by trivial) rfl (!Aa (pv 0) (!Aa (!Ab) (!Ac)))) (!Aa (!Ab) (!Ac)))) (by rfl) (by trivial)) (!Ae (@Ap _ _ (5) _ _ _ _ Bb.nd rfl (by trivial) (@Cb _ ["_law_k","_law_pool","_law_blocks_here","_law_row_here"] [none,some 1,some 3,some 4] _ _ _ _ _ _ _ _ _ _ _ rfl (!BE rfl T.b_range (!Aa (!Ab) (!Ac))) (by rfl) rfl (by repeat (first|exact trivial|refine⟨rfl,?_⟩)) (by repeat (first|exact trivial|refine⟨λh=>(by first|exact⟨_,rfl⟩|cases h),?_⟩)) (λC s H fp=>⟨(@Ak _ _ (0) _ (show(["_law_k","_law_pool","_law_blocks_here","_law_row_here"]:List Str).Nodup by decide +kernel) rfl (by trivial) (by trivial)),(!AW),(!AM Cr (by trivial) rfl (!Aa (pv 1) (!Aa (pv 2) (!Aa (!AY (!Aa (!Ab) (!Aa (!AM FP (by trivial) rfl (!Aa (pv 3) (!Aa (!Am BG (!Ab) (pv 0)) (!Ac)))) (!Ac)))) (!Aa (!Am AE (!Ab) (!Am AQ (!Ai (EY (K:=K) (by rfl)) (pv 3) (!Ab) (λ_ _=>rfl)) (!Ab))) (!Ac))))))⟩) (by intro _;rfl)) (by rfl) (by trivial)) (!Ae (@Ap _ _ (6) _ _ _ _ Bb.nd rfl (by trivial) (!Bc (!Aa (!AM Cr (by trivial) rfl (!Aa (pv 1) (!Aa (pv 3) (!Aa (!AY (!Aa (!Ab) (!Aa (!Ab) (!Aa (!AY (!Ac)) (!Ac))))) (!Aa (!Ab) (!Ac)))))) (!Ac))) (by rfl) (by trivial)) (!Ae (!BF aT rfl (!BE rfl T.b_range (!Aa (!Ab) (!Ac))) (@Ak _ _ (7) _ Bb.nd rfl (by trivial) (by trivial)) (!Ae (@GX _ ["_law_j","_law_pieces","_law_row_here","_law_k"] [none,some 5,some 4,some 7] (8) _ _ _ _ _ _ _ _ _ _ _ _ _ _ Bb.nd rfl (by trivial) rfl (!BE rfl T.b_range (!Aa (!Am AE (!Ab) (!Am AQ (!Ai Ax (pv 4) (!Am AE (!Ab) (!Am BG (!Ab) (pv 7))) (λ_ _=>rfl)) (!Ab))) (!Ac))) (by rfl) rfl (by repeat (first|exact trivial|refine⟨rfl,?_⟩)) (by repeat (first|exact trivial|refine⟨λh=>(by first|exact⟨_,rfl⟩|cases h),?_⟩)) (λC s H fp=>⟨(@Ak _ _ (0) _ (show(["_law_j","_law_pieces","_law_row_here","_law_k"]:List Str).Nodup by decide +kernel) rfl (by trivial) (by trivial)),(!AW),(!Ai (EY (K:=K) (by rfl)) (pv 1) (!Am AQ (!Ai (EY (K:=K) (by rfl)) (pv 2) (!Am AE (!Am AE (!Ab) (!Am BG (!Ab) (pv 3))) (pv 0)) (λ_ _=>rfl)) (!Ab)) (λ_ _=>rfl))⟩) (by intro _;rfl) (by rfl) (by trivial)) (!Ah (!BK (!Cf aL aZ aY Br (pv 6) (!Aa (!AM Cr (by trivial) rfl (!Aa (pv 1) (!Aa (pv 3) (!Aa (!AY (!Aa (!Ab) (!Aa (!Ab) (!Aa (!Bf BQ (by rfl) T.b_tuple Ei (!Aa (pv 8) (!Ac))) (!Ac))))) (!Aa (!Ab) (!Ac)))))) (!Ac)))))) (by intro _;rfl)) (!Ae (!BK (!Cf aL aZ aY Br (pv 6) (!Aa (!AM Cr (by trivial) rfl (!Aa (pv 1) (!Aa (pv 3) (!Aa (!AY (!Aa (!Ab) (!Aa (!Ab) (!Aa (!AY (!Aa (!Ai Ax (pv 6) (!Am AQ (!Ai Ax (pv 4) (!Ab) (λ_ _=>rfl)) (!Ab)) (λ_ _=>rfl)) (!Aa (!Ai Ax (pv 6) (!Am AQ (!Ai Ax (pv 4) (!Ab) (λ_ _=>rfl)) (!Ab)) (λ_ _=>rfl)) (!Ac)))) (!Ac))))) (!Aa (!Ab) (!Ac)))))) (!Ac)))) (!Ae (@Ap _ _ (9) _ _ _ _ Bb.nd rfl (by trivial) (!Bc (!Aa (!AM Cr (by trivial) rfl (!Aa (pv 1) (!Aa (pv 3) (!Aa (!AY (!Aa (!Ab) (!Aa (!AY (!Ac)) (!Ac)))) (!Aa (!Ab) (!Ac)))))) (!Ac))) (by rfl) (by trivial)) (!Ae (@Ap _ _ (10) _ _ _ _ Bb.nd rfl (by trivial) (!AM BS (by trivial) rfl (!Aa (!AM AL (by trivial) rfl (!Aa (pv 0) (!Aa (!Ab) (!Ac)))) (!Aa (!Ab) (!Ac)))) (by rfl) (by trivial)) (!Ae (!BF aT rfl (!BE rfl T.b_range (!Aa (!Ab) (!Ac))) (@Ak _ _ (7) _ Bb.nd rfl (by trivial) (by trivial)) (!Ah (!BK (!Cf aL aZ aY Br (pv 9) (!Aa (!AM Cr (by trivial) rfl (!Aa (pv 1) (!Aa (pv 3) (!Aa (!AM Eg (by trivial) rfl (!Aa (pv 10) (!Aa (!Am BG (!Ab) (pv 7)) (!Aa (pv 2) (!Aa (pv 6) (!Aa (pv 9) (!Ac))))))) (!Aa (!Am AE (!Ab) (!Am AQ (!Ai Ax (pv 10) (!Am AE (!Am BG (!Ab) (pv 7)) (!Ab)) (λ_ _=>rfl)) (!Ab))) (!Ac)))))) (!Ac))))) (by intro _;rfl)) (!Ah (!As (!AY (!Aa (pv 3) (!Aa (pv 9) (!Ac))))))))))))))),?_⟩
 try dsimp only[Bw,Cx.nox,Cx.wish]
 refine Ao λd nd=>?_
 have sb0:Sb H (upd H d (.dK [])) d pl p0 p1 [] 0:=⟨Af nd _,nd,⟨(Af nd _).get hpl,r0,r1,r2,Ad,(λ_ h=>nomatch h),(λi c h=>by simp at h)⟩,ak _⟩
 dsimp only[Aq];generalize upd H d (.dK [])=H1 at sb0;refine Ao ⟨_,rfl,sa,ns,1,rfl,by decide,sb0.sm.seq hsa,λc1=>⟨c1,40,rfl,by decide,by decide,λra H2 ms s2 nra hra lms bms=>?_⟩⟩;have sb2:=sb0.on s2;have nraH:=sb0.sm.free nra;have lms:ms.length=40:=lms;have A:∀k:Int,0<=k->k<40->Iw (ms.map V.int) k=some (.int (ms.getD k.toNat 0)):=λk h0 h1=>C5 h0 (by omega)
 dsimp only[Aq];refine Ao ⟨4,rfl,by decide,by decide,?_⟩;refine R3 (xs:=(List.range (4:Int).toNat).map λ(i:Nat)=>V.int (0+(i:Int))) (λi ys l H'=>∃cs ps,Sb H H' d pl p0 p1 cs i/\ys=ps.map (λp=>V.ref p.1)/\GF H' ps/\(∀p∈ps,Rw (bm cs) 0 p.2.1)/\H' ra=some (.lst (ms.map V.int))/\ps.length=i/\H l=none/\l≠ra) (by rw[aa,bK];decide) (λi ys l H' _=>TH) (λl nl=>?_) (λi x ys l H' R hx nl hl ly ⟨cs,ps,sb,ey,tp,hp,hr',lp,nlH,nlr⟩ hR=>?_) λl H3 ys nl hl ly ⟨cs,ps,sb3,ey,tp3,hp3,hr3,lp,nlH,nlr⟩=>?_
 ·have sl:=Af nl (.lst []);exact⟨[],[],sb2.on sl,rfl,(λ_ h=>nomatch h),(λ_ h=>nomatch h),sl.get hra,rfl,sb2.sm.free nl,λw=>by rw[w,hra] at nl;cases nl⟩
 ·have hi:i<4:=by have:=(ar.mp hx).1;rw[aa,bK] at this;exact this
  rw[aw,dC (show i<(4:Int).toNat from hi)] at hx;cases hx;refine⟨_,rfl,_,rfl,_,rfl,_,rfl,_,_,rfl,rfl,.inl ⟨by decide,by decide⟩,ra,ms,_,rfl,hr',by omega,by omega,bms,λz H4 s4 lz hz=>⟨E3,λt nt=>?_⟩⟩;have s5:=Af nt (.tup [.int 0,.str z]);have s45:=s4.trans s5;refine⟨_,rfl,ra,_,_,_,rfl,rfl,AB.of (s45.get hr'),A 12 (by decide) (by decide),_,_,rfl,rfl,(by show(0:Int)<9;decide),_,_,rfl,rfl,Ej (Kn (K:=K) (b:=.piece z) (sb.on s45) (by omega) ⟨t,_,rfl,Ad,_,_,rfl,rfl,_,_,rfl,rfl,rfl⟩ ⟨lz,hz⟩ λcs' H6 ta tt sb6 k6 eb hta mon=>?_)⟩;have hd5:=(sb.on s45).bn.at_;have hl6:=k6.ls hd5 (s45.get hl);refine hR _ H6 hl6 ⟨cs',ps++[(ta,tt)],IW sb6 hl6 nlH,by rw[ey,aq];rfl,λp hp'=>?_,λp hp'=>?_,by rw[An (Ne.symm nlr)];exact k6.ls hd5 (s45.get hr'),by rw[au,lp];rfl,nlH,nlr⟩
  ·rcases aB.mp hp' with h|h
   ·exact KT.lst hl6 _ _ _ (k6.kt hd5 _ _ (s45.get (tp p h)))
   ·cases ai.mp h;exact KT.lst hl6 _ _ _ hta
  ·rcases aB.mp hp' with h|h
   ·exact(hp p h).mon mon
   ·cases ai.mp h;exact⟨z,eb,lz⟩
 subst ey;have lp:ps.length=4:=lp;have la3:Hj H3 l ps:=⟨hl,tp3⟩
 clear hl tp3 ly
 dsimp only[Aq];refine Ao ⟨_,rfl,_,rfl,Fm,λe0 ne0=>⟨II,λt0 nt0=>?_⟩⟩;have s4:=Af ne0 (.tup []);have s5:=Af nt0 (.tup [.int 1,.int 1,.ref e0]);have s45:=s4.trans s5;have sb5:=sb3.on s45;have la5:=la3.same s45;have hr5:=s45.get hr3;have rep5:Rep NL (upd (upd H3 e0 (.tup [])) t0 (.tup [.int 1,.int 1,.ref e0])) (FF (.row 1 [])) (.ref t0):=⟨t0,_,rfl,Ad,_,_,rfl,rfl,_,_,rfl,rfl,_,_,rfl,⟨e0,_,rfl,s5.get Ad,rfl⟩,rfl⟩
 generalize upd (upd H3 e0 (.tup [])) t0 (.tup [.int 1,.int 1,.ref e0])=H5 at s45 sb5 la5 hr5 rep5;refine L0 (Kn (K:=K) (b:=.row 1 []) sb5 (by decide) rep5 (by show 0<=8;decide) λcs6 H6 ta6 tt6 sb6 k6 eb6 hta6 mon6=>⟨QO,λlr nlr6=>?_⟩);have s7:=Af nlr6 (.lst [.ref ta6]);have sb7:=sb6.on s7;have la7:=(la5.but k6 sb5.bn.at_).same s7;have hr7:=s7.get (k6.ls sb5.bn.at_ hr5);have nlrH:=sb6.sm.free nlr6;have lb7:Hj (upd H6 lr (.lst [.ref ta6])) lr [(ta6,tt6)]:=⟨Ad,λp hp=>by cases ai.mp hp;exact s7.get hta6⟩
 have hp7:∀p∈ps,Rw (bm cs6) 0 p.2.1:=λp hp=>(hp3 p hp).mon mon6
 have hb7:∀p∈[(ta6,tt6)],Rw (bm cs6) 1 p.2.1:=λp hp=>by
  cases ai.mp hp;exact .inr ⟨1,[],eb6,(by decide),λ_ h=>nomatch h⟩
 generalize upd H6 lr (.lst [.ref ta6])=H7 at s7 sb7 la7 hr7 lb7
 clear hp3 hr3 la3 sb3 la5 hr5 rep5 sb5 s45 k6 eb6 hta6 mon6 sb6 nlr6
 dsimp only[Aq];refine Bs (t:=GR _ _ _) (λσ' H'=>∃(cs:List Cz) (rs:List (Addr×Tg)) (v7 v8:Option V),σ'=[some (.ref sa),some (.ref pl),some (.ref na),some (.ref d),some (.ref ra),some (.ref l),some (.ref lr),v7,v8,none,none]/\Sb H H' d pl p0 p1 cs 8/\Hj H' lr rs/\(∀p∈rs,Rw (bm cs) 1 p.2.1)/\H' ra=some (.lst (ms.map V.int))/\rs.length=4) (λN hN=>?_) ?_
 ·refine⟨3,rfl,by decide,by decide,?_⟩;refine CD (lo:=0) (λi σ H'=>∃(cs:List Cz) (rs:List (Addr×Tg)) (v7 v8:Option V),σ=[some (.ref sa),some (.ref pl),some (.ref na),some (.ref d),some (.ref ra),some (.ref l),some (.ref lr),v7,v8,none,none]/\Sb H H' d pl p0 p1 cs (5+i)/\Hj H' l ps/\Hj H' lr rs/\(∀p∈ps,Rw (bm cs) 0 p.2.1)/\(∀p∈rs,Rw (bm cs) 1 p.2.1)/\H' ra=some (.lst (ms.map V.int))/\rs.length=1+i) ⟨cs6,[(ta6,tt6)],none,none,rfl,sb7,la7,lb7,hp7,hb7,hr7,rfl⟩ ?_ ?_
  ·rintro i σ H1 hi ⟨cs,rs,v7,v8,rfl,sb,la,lb,hp,hb,hra1,lrs⟩
   have hi:i<3:=hi;obtain⟨y0,y1⟩:=Fb bms (16+4*(0+(i:Int))).toNat;refine Ao ⟨_,rfl,_,rfl,_,_,rfl,rfl,.inl ⟨by decide,by decide⟩,_,_,rfl,rfl,ra,_,_,_,rfl,rfl,AB.of hra1,A _ (by omega) (by omega),_,_,rfl,rfl,(by show(0:Int)<3;decide),_,_,rfl,rfl,_,rfl,by omega,by omega,?_⟩;have m0:=bc (ms.getD (16+4*(0+(i:Int))).toNat 0) (show(3:Int)≠0 by decide);have m1:=aU (ms.getD (16+4*(0+(i:Int))).toNat 0) (show(0:Int)<3 by decide);generalize ms.getD (16+4*(0+(i:Int))).toNat 0%3=r at m0 m1;refine DX (ps:=List.range (1+r).toNat) (λ_=>true) (λ_ y _=>∃p∈ps,y=.ref p.1) (λ_ _ _ _ h _=>h) (λ_ _ _ _ _ _ h _=>h) GK (by rw[bK];omega) (λj hj H' S s' hS=>hS _ (Al.refl _)) (λj hj _ H' S s' hS=>?_) λls H2 ys nls s2 hls ey hys=>?_
   ·have hj:=cG.mp hj;obtain⟨p,hp',hat⟩:=la.at (n:=4) (by omega) (by decide) (ms.getD (13+4*(0+(i:Int))+(0+(j:Int))).toNat 0);exact⟨_,rfl,_,rfl,_,rfl,_,_,rfl,rfl,.inl ⟨by decide,by decide⟩,_,_,rfl,rfl,_,rfl,_,_,rfl,rfl,ra,_,_,_,rfl,rfl,AB.of (s'.get hra1),A _ (by omega) (by omega),_,_,rfl,rfl,(by show(0:Int)<4;decide),l,_,_,_,rfl,rfl,AB.of (s'.get la.1),hat,hS _ _ (Al.refl _) ⟨p,hp',rfl⟩⟩
   obtain⟨qs,eq1,eq2,eq3⟩:=Og hys;have lqs:qs.length<=3:=by
    have:=congrArg List.length ey;rw[aa,bW.mpr λ_ _=>rfl,bK] at this;omega
   rw[eq1] at hls;dsimp only[Aq];refine⟨_,rfl,.inl ⟨rfl,_,AB.of (s2.get lb.1)⟩,_,rfl,_,rfl,_,rfl,ls,_,rfl,.inl ⟨AB.of hls,λtt ntt=>⟨II,λt nt=>?_⟩⟩⟩;have s3:=Af ntt (.tup (qs.map λp=>V.ref p.1));have s4:=Af nt (.tup [.int 1,.int 1,.ref tt]);have s24:=s2.trans (s3.trans s4);have sb4:=sb.on s24;have la4:=la.same s24;have lb4:=lb.same s24;have rep4:Rep NL (upd (upd H2 tt (.tup (qs.map λp=>V.ref p.1))) t (.tup [.int 1,.int 1,.ref tt])) (FF (.row 1 (qs.map (·.2)))) (.ref t):=⟨t,_,rfl,Ad,_,_,rfl,rfl,_,_,rfl,rfl,_,_,rfl,⟨tt,_,rfl,s4.get Ad,On λq hq=>la4.2 q (eq2 q hq)⟩,rfl⟩
   have hr4:=s24.get hra1;generalize upd (upd H2 tt (.tup (qs.map λp=>V.ref p.1))) t (.tup [.int 1,.int 1,.ref tt])=H4 at s24 sb4 la4 lb4 rep4 hr4;refine L0 (Kn (K:=K) (b:=.row 1 (qs.map (·.2))) sb4 (by omega) rep4 (by show(qs.map (·.2)).length<=8;rw[aa];omega) λcs5 H5 ta5 tt5 sb5 k5 eb5 hta5 mon5=>?_);have la5:=la4.but k5 sb4.bn.at_;have lb5:=lb4.but k5 sb4.bn.at_;have nll:l≠lr:=λw=>by
    have e1:=la.1;rw[w,lb.1] at e1;have:=congrArg List.length (HO.lst.inj (aP e1));rw[aa,aa] at this;omega
   have nra5:ra≠lr:=λw=>by
    have e1:=hra1;rw[w,lb.1] at e1;have:=congrArg List.length (HO.lst.inj (aP e1));rw[aa,aa] at this;omega
   refine⟨lr,_,_,rfl,rfl,lb5.1,Bh (by rw[aa];omega),cs5,rs++[(ta5,tt5)],_,_,rfl,IW sb5 lb5.1 nlrH,⟨by rw[An nll];exact la5.1,λp hp'=>KT.lst lb5.1 _ _ _ (la5.2 p hp')⟩,lb5.snoc hta5,λp hp'=>(hp p hp').mon mon5,λp hp'=>?_,by rw[An nra5];exact k5.ls sb4.bn.at_ hr4,by rw[au,lrs];show 1+i+1=_;omega⟩;rcases aB.mp hp' with h|h
   ·exact(hb p h).mon mon5
   ·cases ai.mp h;refine .inr ⟨1,_,eb5,by rw[aa];exact lqs,λt ht=>?_⟩;obtain⟨q',hq',rfl⟩:=ax.mp ht;exact(hp q' (eq2 q' hq')).mon mon5
  ·rintro σ H1 ⟨cs,rs,v7,v8,rfl,sb,la,lb,hp,hb,hra1,lrs⟩
   exact hN _ _ ⟨cs,rs,_,_,rfl,sb,lb,hb,hra1,lrs⟩
 clear hp7 hb7 la7 lb7 hr7 sb7
 rintro σ' H1 ⟨cs,rs,v7,v8,rfl,sb,lb,hb,hra1,lrs⟩
 obtain⟨u1,hu1,at1⟩:=lb.at (n:=4) (by omega) (by decide) (ms.getD (25:Int).toNat 0);obtain⟨u2,hu2,at2⟩:=lb.at (n:=4) (by omega) (by decide) (ms.getD (26:Int).toNat 0);refine G1 ⟨_,rfl,.inl ⟨rfl,_,AB.of lb.1⟩,_,rfl,_,rfl,_,rfl,_,rfl,ra,_,_,_,rfl,rfl,AB.of hra1,A 25 (by decide) (by decide),_,_,rfl,rfl,(by show(0:Int)<4;decide),lr,_,_,_,rfl,rfl,AB.of lb.1,at1,_,rfl,_,rfl,ra,_,_,_,rfl,rfl,AB.of hra1,A 26 (by decide) (by decide),_,_,rfl,rfl,(by show(0:Int)<4;decide),lr,_,_,_,rfl,rfl,AB.of lb.1,at2,E3,λtt ntt=>⟨II,λt nt=>?_⟩⟩;have s3:=Af ntt (.tup [.ref u1.1,.ref u2.1]);have s4:=Af nt (.tup [.int 1,.int 2,.ref tt]);have s24:=s3.trans s4;have sb4:=sb.on s24;have lb4:=lb.same s24;have rep4:Rep NL (upd (upd H1 tt (.tup [.ref u1.1,.ref u2.1])) t (.tup [.int 1,.int 2,.ref tt])) (FF (.row 2 [u1.2,u2.2])) (.ref t):=⟨t,_,rfl,Ad,_,_,rfl,rfl,_,_,rfl,rfl,_,_,rfl,⟨tt,_,rfl,s4.get Ad,_,_,rfl,E7 (lb4.2 u1 hu1),_,_,rfl,E7 (lb4.2 u2 hu2),rfl⟩,rfl⟩
 generalize upd (upd H1 tt (.tup [.ref u1.1,.ref u2.1])) t (.tup [.int 1,.int 2,.ref tt])=H4 at s24 sb4 lb4 rep4;refine L0 (Kn (K:=K) (b:=.row 2 [u1.2,u2.2]) sb4 (by omega) rep4 (by show 2<=8;decide) λcs5 H5 ta5 tt5 sb5 k5 eb5 hta5 mon5=>?_);have lb5:=lb4.but k5 sb4.bn.at_;refine⟨lr,_,_,rfl,rfl,lb5.1,Bh (by rw[aa];omega),?_⟩;have sb6:=IW (us':=rs.map (λp=>V.ref p.1)++[.ref ta5]) sb5 lb5.1 nlrH;have lb6:=lb5.snoc hta5;have hb6:∀p∈rs++[(ta5,tt5)],Rw (bm cs5) 2 p.2.1:=λp hp'=>by
  rcases aB.mp hp' with h|h
  ·exact((hb p h).mon mon5).up
  ·cases ai.mp h;refine .inr ⟨2,_,eb5,(by show 2<=3;decide),λt ht=>?_⟩;rcases aD.mp ht with rfl|ht
   ·exact(hb u1 hu1).mon mon5
   ·rw[ai.mp ht];exact(hb u2 hu2).mon mon5
 have lrs6:(rs++[(ta5,tt5)]).length=5:=by rw[au,lrs];rfl
 generalize upd H5 lr (.lst (rs.map (λp=>V.ref p.1)++[.ref ta5]))=H6 at sb6 lb6;generalize rs++[(ta5,tt5)]=rs6 at lb6 hb6 lrs6
 clear sb lb hb hra1 lb4 rep4 sb4 s24 k5 eb5 hta5 mon5 sb5 lb5 at1 at2
 refine Ao ⟨_,rfl,_,rfl,Fm,λe0 ne0=>⟨E3,λt0 nt0=>?_⟩⟩;have s7:=Af ne0 (.tup []);have s8:=Af nt0 (.tup [.int 2,.ref e0]);have s78:=s7.trans s8;have sb8:=sb6.on s78;have lb8:=lb6.same s78;have rep8:Rep NL (upd (upd H6 e0 (.tup [])) t0 (.tup [.int 2,.ref e0])) (FF (.folder [])) (.ref t0):=⟨t0,_,rfl,Ad,_,_,rfl,rfl,_,_,rfl,⟨e0,_,rfl,s8.get Ad,rfl⟩,rfl⟩
 generalize upd (upd H6 e0 (.tup [])) t0 (.tup [.int 2,.ref e0])=H8 at s78 sb8 lb8 rep8;refine L0 (Kn (K:=K) (b:=.folder []) sb8 (by omega) rep8 ⟨by decide,λ_ h=>nomatch h⟩ λcs9 H9 ta9 tt9 sb9 k9 eb9 hta9 mon9=>⟨QO,λlg nlg9=>?_⟩);have s10:=Af nlg9 (.lst [.ref ta9]);have sb10:=sb9.on s10;have lb10:=(lb8.but k9 sb8.bn.at_).same s10;have nlgH:=sb9.sm.free nlg9;have nlg:lg≠lr:=λw=>by rw[w,(lb8.but k9 sb8.bn.at_).1] at nlg9;cases nlg9
 have lg10:Hj (upd H9 lg (.lst [.ref ta9])) lg [(ta9,tt9)]:=⟨Ad,λp hp=>by cases ai.mp hp;exact s10.get hta9⟩
 generalize upd H9 lg (.lst [.ref ta9])=H10 at s10 sb10 lb10 lg10;dsimp only[Aq];refine Ao ⟨_,rfl,sa,ns,2,rfl,by decide,sb10.sm.seq hsa,λc2=>⟨c2,40,rfl,by decide,by decide,λrb H11 mt s11 nrb hrb lmt bmt=>?_⟩⟩;have lmt:mt.length=40:=lmt;have A2:∀k:Int,0<=k->k<40->Iw (mt.map V.int) k=some (.int (mt.getD k.toNat 0)):=λk h0 h1=>C5 h0 (by omega)
 have sb11:=sb10.on s11;have lb11:=lb10.same s11;have lg11:=lg10.same s11;have hb11:∀p∈rs6,Rw (bm cs9) 2 p.2.1:=λp hp=>(hb6 p hp).mon mon9
 have hg11:∀p∈[(ta9,tt9)],Fd (bm cs9) (·∈zs) 1 p.2.1:=λp hp=>by
  cases ai.mp hp;exact⟨[],eb9,by decide,eJ,λ_ h=>nomatch h⟩
 have nrg:rb≠lg:=λw=>by rw[w,lg10.1] at nrb;cases nrb
 clear lb10 lg10 sb10 lb8 rep8 sb8 s78 k9 hta9 mon9 sb9 nlg9 hb6 lb6 sb6
 dsimp only[Aq];refine Bs (t:=GR _ _ _) (λσ' H'=>∃(cs:List Cz) (gs:List (Addr×Tg)) (v7:Option V),σ'=[some (.ref sa),some (.ref pl),some (.ref na),some (.ref d),some (.ref ra),some (.ref l),some (.ref lr),v7,v8,some (.ref lg),some (.ref rb)]/\Sb H H' d pl p0 p1 cs 15/\Hj H' lg gs/\(∀p∈gs,Fd (bm cs) (·∈zs) 6 p.2.1)/\(∃p∈gs,bm cs p.2.1=some (.folder []))/\gs.length<=6) (λN hN=>?_) ?_
 ·refine⟨5,rfl,by decide,by decide,?_⟩;refine CD (lo:=0) (λi σ H'=>∃(cs:List Cz) (gs:List (Addr×Tg)) (v7:Option V),σ=[some (.ref sa),some (.ref pl),some (.ref na),some (.ref d),some (.ref ra),some (.ref l),some (.ref lr),v7,v8,some (.ref lg),some (.ref rb)]/\Sb H H' d pl p0 p1 cs (10+i)/\Hj H' lr rs6/\Hj H' lg gs/\(∀p∈rs6,Rw (bm cs) 2 p.2.1)/\(∀p∈gs,Fd (bm cs) (·∈zs) (1+i) p.2.1)/\H' rb=some (.lst (mt.map V.int))/\gs.length=1+i/\∃p∈gs,bm cs p.2.1=some (.folder [])) ⟨cs9,[(ta9,tt9)],_,rfl,sb11,lb11,lg11,hb11,hg11,hrb,rfl,_,ay,eb9⟩ ?_ ?_
  ·rintro i σ H1 hi ⟨cs,gs,v7,rfl,sb,lb,lg,hb,hg,hrb1,lgs,pe,hpe,epe⟩
   have hi:i<5:=hi;refine⟨_,rfl,.inl ⟨rfl,_,AB.of lg.1⟩,_,rfl,_,rfl,_,rfl,_,rfl,_,_,rfl,rfl,.inl ⟨by decide,by decide⟩,_,rfl,_,rfl,_,rfl,?_⟩;refine⟨rb,na,lr,_,mt,_,zs,rs6,gs,rfl,hrb1,by omega,by omega,bmt,sb.sm.seq hna,zn,lz,lb.1,lg.1,lb.2,lg.2,(λe=>by rw[e] at lrs6;cases lrs6),by omega,by omega,λv es H2 s2 hv l3 he nde=>?_⟩;refine⟨_,rfl,_,rfl,_,_,rfl,rfl,.inl ⟨by decide,by decide⟩,_,_,rfl,rfl,rb,_,_,_,rfl,rfl,AB.of (s2.get hrb1),A2 _ (by omega) (by omega),_,_,rfl,rfl,(by show(0:Int)<5;decide),_,_,rfl,rfl,Ej (Kn (K:=K) (b:=.folder es) (sb.on s2) (by omega) hv ⟨by omega,λe h=>zok _ (he e h).1⟩ λcs5 H5 ta5 tt5 sb5 k5 eb5 hta5 mon5=>?_)⟩;have hd2:=(sb.on s2).bn.at_;have lb5:=(lb.same s2).but k5 hd2;have lg5:=(lg.same s2).but k5 hd2;refine⟨_,_,_,rfl,rfl,lg5.1,Bh (by rw[aa];omega),cs5,gs++[(ta5,tt5)],_,rfl,IW sb5 lg5.1 nlgH,⟨by rw[An (Ne.symm nlg)];exact lb5.1,λp hp'=>KT.lst lg5.1 _ _ _ (lb5.2 p hp')⟩,lg5.snoc hta5,λp hp'=>(hb p hp').mon mon5,λp hp'=>?_,by rw[An nrg];exact k5.ls hd2 (s2.get hrb1),by rw[au,lgs];show 1+i+1=_;omega,pe,bf _ hpe,mon5 _ _ epe⟩;rcases aB.mp hp' with h|h
   ·exact((hg p h).mon mon5).up
   ·cases ai.mp h;rw[show 1+(i+1)=(1+i)+1 by omega];refine⟨es,eb5,l3,nde,λe h=>⟨(he e h).1,(he e h).2.imp (λ⟨k,p,hp',e'⟩=>⟨k,?_⟩) λ⟨k,p,hp',e'⟩=>⟨k,?_⟩⟩⟩
    ·rw[e'];exact(hb p hp').mon mon5
    ·rw[e'];exact(hg p hp').mon mon5
  ·rintro σ H1 ⟨cs,gs,v7,rfl,sb,lb,lg,hb,hg,hrb1,lgs,pe⟩
   exact hN _ _ ⟨cs,gs,_,rfl,sb,lg,hg,pe,by have:gs.length=1+5:=lgs;omega⟩
 ·rintro σ' H1 ⟨cs,gs,v7,rfl,sb,lg1,hg,pe,lgs⟩
  refine⟨_,rfl,_,rfl,E3,λt nt=>?_⟩;have st:=Af nt (.tup [.ref d,.ref lg]);exact q t d lg cs gs _ (sb.on st) Ad (st.get lg1.1) (lg1.2.same st) hg pe lgs
def Jz (e:HE):Prop:=(e.kd=1/\∃z,e.og=.inr z)\/(e.kd=2/\∃i,e.og=.inl i)
def Rp (e:HE):Int:=match e.og with
 | .inl i=>i
 | .inr _=>0
theorem SU {e:HE}(h:Jz e)(k:e.kd=2):kV e.og=.int (Rp e):=by
 rcases h with⟨k',_⟩|⟨_,i,ei⟩
 ·omega
 ·unfold Rp;rw[ei];rfl
theorem VB {k:Int}(h:decide (V.int k=V.int 2)=true):k=2:=V.int.inj (bh h)
def EG (K:W.Frag):Sp:=λvs H Q _=>∃(l:Addr) (ps:List (Addr×HE)) (p:Addr×HE) (n:Int),vs=[.ref l,.ref p.1,.int n]/\H l=some (.lst (ps.map λp=>V.ref p.1))/\(∀p∈ps,FN H p/\Jz p.2)/\ps.length<=50/\FN H p/\p.2.kd=1/\Jz p.2/\0<=n/\
 ∀(a:Addr) (z:Str) H',Al H H'->FN H' (a,⟨p.2.nm,p.2.kd,p.2.ow,.inr z,p.2.tg⟩)->Q (.ref a) H'
theorem Ki (T:Txt K mg C XC)(F:Fun K "_law_grown" "_law_grown" CC f fd):FnOk P w K mg base CU 1 f fd ["_law_entries_here","_law_stem","_law_number"] (EG K):=by
 exists Dy
 ·obtain⟨l,ps,p,n,rfl,_⟩:=h;rfl
 obtain⟨l,ps,p,n,rfl,hl,hps,few,hp,k1,og,n0,q⟩:=h;have hu:=Cp hr;have hu9:=B8 hr;refine⟨_,(!Ae (@GX _ ["_law_entry","_law_stem"] [none,some 1] (3) _ _ _ _ _ _ _ _ _ _ _ _ _ _ Dy.nd rfl (by trivial) rfl (!BA (pv 0)) (by rfl) rfl (by repeat (first|exact trivial|refine⟨rfl,?_⟩)) (by repeat (first|exact trivial|refine⟨λh=>(by first|exact⟨_,rfl⟩|cases h),?_⟩)) (λC s H fp=>⟨(@Ak _ _ (0) _ (show(["_law_entry","_law_stem"]:List Str).Nodup by decide +kernel) rfl (by trivial) (by trivial)),(!Dc (@PW.pt _ _ _ (!Im (!AA CJ (!Ai (AS (K:=K) (by rfl)) (pv 0) (!Ab) (λ_ _=>rfl)) (!Ab) (AG _)) (!Hg (!AA CJ (!Ai (AS (K:=K) (by rfl)) (pv 0) (!Ab) (λ_ _=>rfl)) (!Ai (AS (K:=K) (by rfl)) (pv 1) (!Ab) (λ_ _=>rfl)) (AG _)))))),(!Ai (AS (K:=K) (by rfl)) (pv 0) (!Ab) (λ_ _=>rfl))⟩) (by intro _;rfl) (by rfl) (by trivial)) (!Ae (@Ap _ _ (4) _ _ _ _ Dy.nd rfl (by trivial) (!Aw (Pj (K:=K) (by rfl) rfl) (by rfl) T.b_min TJ (!Aa (!Am Gp (pv 3) (!Bc (!Aa (!Am MQ (!Ab) (!Ab)) (!Ac)))) (!Ac))) (by rfl) (by trivial)) (!Ae (@GX _ ["_law_entry","_law_least","_law_stem"] [none,some 4,some 1] (5) _ _ _ _ _ _ _ _ _ _ _ _ _ _ Dy.nd rfl (by trivial) rfl (!BA (pv 0)) (by rfl) rfl (by repeat (first|exact trivial|refine⟨rfl,?_⟩)) (by repeat (first|exact trivial|refine⟨λh=>(by first|exact⟨_,rfl⟩|cases h),?_⟩)) (λC s H fp=>⟨(@Ak _ _ (0) _ (show(["_law_entry","_law_least","_law_stem"]:List Str).Nodup by decide +kernel) rfl (by trivial) (by trivial)),(!Dc (@PW.pt _ _ _ (!Im (!AA CJ (!Ai (AS (K:=K) (by rfl)) (pv 0) (!Ab) (λ_ _=>rfl)) (!Ab) (AG _)) (!Im (!AA Iu (!Ai (AS (K:=K) (by rfl)) (pv 0) (!Ab) (λ_ _=>rfl)) (!Ai (AS (K:=K) (by rfl)) (pv 2) (!Ab) (λ_ _=>rfl)) (AG _)) (!Hg (!AA QU (!Ai (AS (K:=K) (by rfl)) (pv 0) (!Ab) (λ_ _=>rfl)) (pv 1) (AG _))))))),(!Ai (AS (K:=K) (by rfl)) (pv 0) (!Ab) (λ_ _=>rfl))⟩) (by intro _;rfl) (by rfl) (by trivial)) (!Ae (!Bu (@PW.pt _ _ _ (!Hh (!AA Q7 (!Am AQ (pv 2) (!Ab)) (!Ab) (AG _)) (!FS (!AA (UI hu) (pv 5) (!Bc (!Ac)) (AG _))))) (!Ah (!As (pv 1))) (!AO)) (!Ah (!As (!Am Q5 (!E5 Ri (pv 1) (!Gs) (!E8 (!Ab))) (!AY (!Aa (!Ai Ax (pv 5) (!Am AQ (!Am Ep (pv 2) (!Ab)) (!Aw A0 (by rfl) T.b_len Cs (!Aa (pv 5) (!Ac)))) (λ_ _=>rfl)) (!Aa (!Ai Ar (pv 1) (!Ab) (λ_ _=>rfl)) (!Ac))))))))))),?_⟩
 try dsimp only[Bw,Cx.nox,Cx.wish]
 obtain⟨tp,hp1,hp2⟩:=hp;have at5:∀(x:Addr×HE),x∈ps->∃ta,H x.1=some (.tup [.str x.2.nm,.int x.2.kd,.str x.2.ow,kV x.2.og,.ref ta]):=λx hx=>let⟨ta,h,_⟩:=(hps x hx).1;⟨ta,h⟩
 refine Ao ⟨_,rfl,l,rfl,⟨_,AB.of hl⟩,DS (ps:=ps) (λx=>decide (V.int x.2.kd=V.int 2)&&decide (V.str x.2.ow=V.str p.2.nm)) (λx=>.int (Rp x.2)) (B5 (AB.of hl)) (by omega) (λx hx H' R s' hR=>?_) (λx hx px H' R s' hR=>?_) λlo H1 nlo s1 hlo=>?_⟩
 ·obtain⟨ta,h⟩:=at5 x hx;refine JP _ _ (λR q=>⟨_,rfl,x.1,_,_,_,rfl,rfl,AD.of (s'.get h),Aj (j:=1) rfl,rfl,_,rfl,q⟩) (λ_ R q=>⟨_,rfl,x.1,_,_,_,rfl,rfl,AD.of (s'.get h),Aj (j:=2) rfl,_,rfl,p.1,_,_,_,rfl,rfl,AD.of (s'.get hp1),Aj (j:=0) rfl,rfl,_,rfl,q⟩) hR
 ·obtain⟨ta,h⟩:=at5 x hx;have e:=SU (hps x hx).2 (VB (bM.mp px).1);have:=hR H' (Al.refl _);rw[<-e] at this;exact⟨_,rfl,x.1,_,_,_,rfl,rfl,AD.of (s'.get h),Aj (j:=3) rfl,this⟩
 have lfil:∀g:Addr×HE->Bool,(ps.filter g).length<=50:=λg=>ba (bT g ps) few
 have hlo':H1 lo=some (.lst (((ps.filter λx=>decide (V.int x.2.kd=V.int 2)&&decide (V.str x.2.ow=V.str p.2.nm)).map λx=>Rp x.2).map V.int)):=by rw[hlo,aj];rfl
 have lo50:=lfil λx=>decide (V.int x.2.kd=V.int 2)&&decide (V.str x.2.ow=V.str p.2.nm)
 dsimp only[Aq];generalize (ps.filter λx=>decide (V.int x.2.kd=V.int 2)&&decide (V.str x.2.ow=V.str p.2.nm))=os at hlo' lo50;refine Ao ⟨_,rfl,_,_,rfl,rfl,⟨by decide,by decide,by decide⟩,QO,λl1 nl1=>?_⟩;have s2:=Af nl1 (.lst [.int (10^(9:Int).toNat)]);refine⟨lo,l1,_,_,rfl,rfl,AB.of (s2.get hlo'),AB.of Ad,small (by rw[aa,aa];show _+1<=_;omega),λl2 nl2=>?_⟩;have s3:=Af nl2 (.lst ((os.map λx=>Rp x.2).map V.int++[.int (10^(9:Int).toNat)]));refine⟨l2,(os.map λx=>Rp x.2)++[10^(9:Int).toNat],rfl,AB.of (by rw[Ad,aq];rfl),(by simp),λm _ _=>?_⟩;have s13:=s1.trans (s2.trans s3);generalize upd (upd H1 l1 (.lst [.int (10^(9:Int).toNat)])) l2 (.lst ((os.map λx=>Rp x.2).map V.int++[.int (10^(9:Int).toNat)]))=H3 at s13;dsimp only[Aq];refine Ao ⟨_,rfl,l,rfl,⟨_,AB.of (s13.get hl)⟩,DS (ps:=ps) (λx=>decide (V.int x.2.kd=V.int 2)&&(!decide (V.str x.2.ow=V.str p.2.nm)&&decide (Rp x.2<m))) (λx=>.str x.2.nm) (B5 (AB.of (s13.get hl))) (by omega) (λx hx H' R s' hR=>?_) (λx hx px H' R s' hR=>?_) λls H4 nls s4 hls=>?_⟩
 ·obtain⟨ta,h⟩:=at5 x hx;have h':=s'.get (s13.get h);refine JP _ _ (λR q=>⟨_,rfl,x.1,_,_,_,rfl,rfl,AD.of h',Aj (j:=1) rfl,rfl,_,rfl,q⟩) (λc R q=>JP _ _ (λR q=>⟨_,rfl,x.1,_,_,_,rfl,rfl,AD.of h',Aj (j:=2) rfl,_,rfl,p.1,_,_,_,rfl,rfl,AD.of (s'.get (s13.get hp1)),Aj (j:=0) rfl,rfl,_,rfl,q⟩) (λ_ R q=>?_) q) hR;have e:=SU (hps x hx).2 (VB c);rw[e] at h';exact⟨_,rfl,x.1,_,_,_,rfl,rfl,AD.of h',Aj (j:=3) rfl,_,rfl,_,_,rfl,rfl,_,rfl,q⟩
 ·obtain⟨ta,h⟩:=at5 x hx;exact⟨_,rfl,x.1,_,_,_,rfl,rfl,AD.of (s'.get (s13.get h)),Aj (j:=0) rfl,hR H' (Al.refl _)⟩
 have ls50:=lfil λx=>decide (V.int x.2.kd=V.int 2)&&(!decide (V.str x.2.ow=V.str p.2.nm)&&decide (Rp x.2<m))
 dsimp only[Aq];generalize (ps.filter λx=>decide (V.int x.2.kd=V.int 2)&&(!decide (V.str x.2.ow=V.str p.2.nm)&&decide (Rp x.2<m)))=ss at hls ls50;have s14:=s13.trans s4;have same:∀H',Al H H'->Q (.ref p.1) H':=λH' s'=>by
  obtain⟨z,ez⟩:∃z,p.2.og=.inr z:=by
   rcases og with⟨_,z⟩|⟨k,_⟩
   ·exact z
   ·omega
  exact q p.1 z H' s' ⟨tp,by rw[<-ez];exact s'.get hp1,s'.get hp2⟩
 refine⟨_,rfl,_,_,rfl,rfl,(by show(0:Int)<3;decide),_,_,rfl,rfl,_,rfl,DN (λc=>DR rfl ⟨_,rfl,same _ s14⟩) (λc=>?_)⟩;refine⟨_,rfl,Fm,λle nle=>?_⟩;have s5:=Af nle (.lst []);refine⟨ls,le,_,rfl,rfl,AB.of (s5.get hls),AB.of Ad,_,rfl,DN (λc=>⟨_,rfl,same _ (s14.trans s5)⟩) (λc=>?_)⟩;have ne:0<ss.length:=bI.mpr λe=>c (by rw[e];rfl)
 have s15:=s14.trans s5;obtain⟨v,hv,hat⟩:=GP (xs:=ss.map λx=>V.str x.2.nm) (n:=(ss.length:Int)) (by rw[aa]) (by omega) (n/3);obtain⟨x,_,rfl⟩:=ax.mp hv;dsimp only[IG];refine⟨_,rfl,_,rfl,p.1,_,rfl,AD.of (s15.get hp1),(by show ¬(HT.Dk 5 0 none=0/\HT.Dk 5 5 (some 3)=5);decide),λt1 nt1=>?_⟩;have s6:=Af nt1 (.tup [.str p.2.nm,.int p.2.kd,.str p.2.ow]);refine⟨_,rfl,_,rfl,_,_,rfl,rfl,⟨by decide,by decide⟩,_,rfl,ls,_,rfl,.inl (AB.of (s6.get (s5.get hls))),_,_,rfl,rfl,(by rw[aa];show(0:Int)<(ss.length:Int);omega),ls,_,_,_,rfl,rfl,AB.of (s6.get (s5.get hls)),(by rw[aa];exact hat),_,rfl,p.1,_,_,_,rfl,rfl,AD.of (s6.get (s15.get hp1)),Aj (j:=4) rfl,E3,λt2 nt2=>?_⟩;have s7:=Af nt2 (.tup [.str x.2.nm,.ref tp]);refine⟨t1,t2,_,_,rfl,rfl,AD.of (s7.get Ad),AD.of Ad,LJ,(λe=>nomatch e),(λ_ e=>nomatch e),λ_ _ t3 nt3=>?_⟩;have s8:=Af nt3 (.tup [.str p.2.nm,.int p.2.kd,.str p.2.ow,.str x.2.nm,.ref tp]);have s18:=s15.trans (s6.trans (s7.trans s8));exact q t3 x.2.nm _ s18 ⟨tp,Ad,s18.get hp2⟩
def Fk (K:W.Frag):Sp:=λvs H Q _=>∃(sa na fo:Addr) (ns:List Int) (zs:List Str) (gs:List (Addr×Tg)),vs=[.ref sa,.ref na,.ref fo]/\AB K H sa (ns.map V.int)/\AB K H na (zs.map V.str)/\zs.length=18/\zs.Nodup/\Hj H fo gs/\gs≠[]/\gs.length<=50/\
 ∀h ag ka ea (ks:List (Addr×Str×Int)) (ps:List (Addr×HE)) H',Al H H'->H' h=some (.tup [.int ag,.ref ka,.ref ea])->H' ka=some (.tup (ks.map λp=>V.ref p.1))->(∀k∈ks,EB H' k)->(ks.map (·.2.1)).Nodup->ks.length<=8->H' ea=some (.tup (ps.map λp=>V.ref p.1))->(∀p∈ps,FN H' p/\Jz p.2/\p.2.nm∈zs/\∃g∈gs,p.2.tg=g.2)->(ps.map (·.2.nm)).Nodup->ps.length<=12->Q (.ref h) H'
theorem K8 (T:Txt K mg C XC)(F:Fun K "_law_head" "_law_head" CY f fd)(BS:Def P w K mg base 1 "_law_row" ["_law_cell","_law_many_here"] (DC K))(AL:Def P w K mg base 1 "_law_cell_at" ["_law_script","_law_k"] (BI K))(Fn:Def P w K mg base 1 "_law_grown" ["_law_entries_here","_law_stem","_law_number"] (EG K)):FnOk P w K mg base CU 2 f fd ["_law_script","_law_names_here","_law_folders"] (Fk K):=by
 exists A4
 ·obtain⟨sa,na,fo,ns,zs,gs,rfl,_⟩:=h;rfl
 obtain⟨sa,na,fo,ns,zs,gs,rfl,hsa,hna,lz,ndz,hfo,gn,lg,q⟩:=h;have hu:=Cp hr;have hu9:=B8 hr;refine⟨_,(!Ae (@Ap _ _ (3) _ _ _ _ A4.nd rfl (by trivial) (!AM BS (by trivial) rfl (!Aa (!AM AL (by trivial) rfl (!Aa (pv 0) (!Aa (!Ab) (!Ac)))) (!Aa (!Ab) (!Ac)))) (by rfl) (by trivial)) (!Ae (@Ap _ _ (4) _ _ _ _ A4.nd rfl (by trivial) (!Bc (!Ac)) (by rfl) (by trivial)) (!Ae (!BF aT rfl (!BE rfl T.b_range (!Aa (!Am AE (!Ab) (!Am AQ (!Ai Ax (pv 3) (!Ab) (λ_ _=>rfl)) (!Ab))) (!Ac))) (@Ak _ _ (5) _ A4.nd rfl (by trivial) (by trivial)) (!Ae (@Ap _ _ (6) _ _ _ _ A4.nd rfl (by trivial) (!Ai Ax (!Bc (!Aa (!Ai Ax (pv 3) (!Am AE (!Ab) (pv 5)) (λ_ _=>rfl)) (!Aa (!Am AE (!Am BG (!Ab) (!Ai Ax (pv 3) (!Am AE (!Ab) (pv 5)) (λ_ _=>rfl))) (!Ai Ax (pv 3) (!Ab) (λ_ _=>rfl))) (!Aa (!Am Uz (!Am MQ (!Ab) (!Ab)) (!Ab)) (!Ac))))) (!Am AQ (!Ai Ax (pv 3) (!Am AE (!Ab) (pv 5)) (λ_ _=>rfl)) (!Ab)) (λ_ _=>rfl)) (by rfl) (by trivial)) (!Ah (!BK (!Cf aL aZ aY Br (pv 4) (!Aa (!AY (!Aa (!Ai Ax (pv 1) (!Am AE (!Ab) (pv 5)) (λ_ _=>rfl)) (!Aa (pv 6) (!Ac)))) (!Ac)))))) (by intro _;rfl)) (!Ae (@Ap _ _ (7) _ _ _ _ A4.nd rfl (by trivial) (!Bc (!Ac)) (by rfl) (by trivial)) (!Ae (!BF aT rfl (!BE rfl T.b_range (!Aa (!Am AQ (!Ai Ax (pv 3) (!Ab) (λ_ _=>rfl)) (!Ab)) (!Ac))) (@Ak _ _ (5) _ A4.nd rfl (by trivial) (by trivial)) (!Ae (@Ap _ _ (8) _ _ _ _ A4.nd rfl (by trivial) (!Ai Ax (pv 2) (!Am AQ (!Ai Ax (pv 3) (!Am AE (!Ab) (!Am BG (!Ab) (pv 5))) (λ_ _=>rfl)) (!Aw A0 (by rfl) T.b_len Cs (!Aa (pv 2) (!Ac)))) (λ_ _=>rfl)) (by rfl) (by trivial)) (!Ae (@Ap _ _ (9) _ _ _ _ A4.nd rfl (by trivial) (!Ai Ax (!Bc (!Aa (!Ai Ax (pv 3) (!Am AE (!Ab) (!Am BG (!Ab) (pv 5))) (λ_ _=>rfl)) (!Aa (pv 5) (!Ac)))) (!Am AQ (!Ai Ax (pv 3) (!Ab) (λ_ _=>rfl)) (!Ab)) (λ_ _=>rfl)) (by rfl) (by trivial)) (!Ah (!BK (!Cf aL aZ aY Br (pv 7) (!Aa (!AY (!Aa (!Ai Ax (pv 1) (pv 5) (λ_ _=>rfl)) (!Aa (!Ab) (!Aa (!Ai Ar (!Ai Ax (pv 4) (!Am AQ (pv 9) (!Aw A0 (by rfl) T.b_len Cs (!Aa (pv 4) (!Ac)))) (λ_ _=>rfl)) (!Ab) (λ_ _=>rfl)) (!Aa (!A3) (!Aa (pv 8) (!Ac))))))) (!Ac))))))) (by intro _;rfl)) (!Ae (!BF aT rfl (!BE rfl T.b_range (!Aa (!Am BG (!Am AQ (!Ai Ax (pv 3) (!Ab) (λ_ _=>rfl)) (!Ab)) (!Bf HC (by rfl) T.b_int Lc (!Aa (!Fp (QH hu) (pv 7) (!Bc (!Ac)) (AG _)) (!Ac)))) (!Ac))) (@Ak _ _ (5) _ A4.nd rfl (by trivial) (by trivial)) (!Ae (@Ap _ _ (8) _ _ _ _ A4.nd rfl (by trivial) (!Ai Ax (pv 2) (!Am AQ (!Ai Ax (pv 3) (!Am AE (!Ab) (!Am BG (!Ab) (pv 5))) (λ_ _=>rfl)) (!Aw A0 (by rfl) T.b_len Cs (!Aa (pv 2) (!Ac)))) (λ_ _=>rfl)) (by rfl) (by trivial)) (!Ae (@Ap _ _ (10) _ _ _ _ A4.nd rfl (by trivial) (!Ai Ar (!Ai Ax (pv 7) (!Am AQ (!Ai Ax (pv 3) (!Am AE (!Ab) (!Am BG (!Ab) (pv 5))) (λ_ _=>rfl)) (!Am AQ (!Ai Ax (pv 3) (!Ab) (λ_ _=>rfl)) (!Ab))) (λ_ _=>rfl)) (!Ab) (λ_ _=>rfl)) (by rfl) (by trivial)) (!Ah (!BK (!Cf aL aZ aY Br (pv 7) (!Aa (!AY (!Aa (!Ai Ax (pv 1) (!Am AE (!Ab) (pv 5)) (λ_ _=>rfl)) (!Aa (!Ab) (!Aa (pv 10) (!Aa (!Am AE (!Am AE (!Ab) (!Ai Ax (pv 3) (!Ab) (λ_ _=>rfl))) (!Am BG (!Ab) (pv 5))) (!Aa (pv 8) (!Ac))))))) (!Ac))))))) (by intro _;rfl)) (!Ae (!BF aT rfl (!BE rfl T.b_range (!Aa (!Am AQ (!Ai Ax (pv 3) (!Ab) (λ_ _=>rfl)) (!Ab)) (!Ac))) (@Ak _ _ (5) _ A4.nd rfl (by trivial) (by trivial)) (!Ah (!Lr (!AM Fn (by trivial) rfl (!Aa (pv 7) (!Aa (!Ai Ax (pv 7) (pv 5) (λ_ _=>rfl)) (!Aa (!Ai Ax (pv 3) (!Am AE (!Ab) (pv 5)) (λ_ _=>rfl)) (!Ac))))) (!T9 (pv 7) (pv 5) set_list (by intro _;rfl)))) (by intro _;rfl)) (!Ah (!As (!AY (!Aa (!Ai Ax (pv 3) (!Ab) (λ_ _=>rfl)) (!Aa (!Bf BQ (by rfl) T.b_tuple Ei (!Aa (!Aw (Eu (K:=K) (by rfl)) (by rfl) T.b_sorted DT (!Aa (pv 4) (!Ac))) (!Ac))) (!Aa (!Bf BQ (by rfl) T.b_tuple Ei (!Aa (!Aw (Eu (K:=K) (by rfl)) (by rfl) T.b_sorted DT (!Aa (pv 7) (!Ac))) (!Ac))) (!Ac)))))))))))))),?_⟩
 try dsimp only[Bw,Cx.nox,Cx.wish]
 have Z:∀k:Int,0<=k->k<18->∃z,zs[k.toNat]?=some z/\Iw (zs.map V.str) k=some (.str z):=λk h0 h1=>by
  have hk:k.toNat<zs.length:=by omega
  refine⟨zs[k.toNat],ah hk,?_⟩;have:=Aj (xs:=zs.map V.str) (j:=k.toNat) (v:=.str zs[k.toNat]) (by rw[aw,ah hk];rfl)
  rwa [show((k.toNat:Nat):Int)=k by omega] at this
 refine Ao ⟨_,rfl,sa,ns,3,rfl,by decide,hsa,λc1=>⟨c1,60,rfl,by decide,by decide,λra H1 ms s1 nra hra lms bms=>?_⟩⟩;have lms:ms.length=60:=lms;have A:∀k:Int,0<=k->k<60->Iw (ms.map V.int) k=some (.int (ms.getD k.toNat 0)):=λk h0 h1=>C5 h0 (by omega)
 dsimp only[Aq];refine Ao ⟨Fm,λlk nlk=>?_⟩;have s2:=Af nlk (.lst []);have hlk2:(upd H1 lk (.lst [])) lk=some (.lst []):=Ad;generalize upd H1 lk (.lst [])=H2 at s2 hlk2;have s12:=s1.trans s2;have nlkH:=s1.free nlk;have nrk:ra≠lk:=λw=>by rw[w] at hra;rw[hra] at nlk;cases nlk
 dsimp only[Aq];obtain⟨x0,x1⟩:=Fb bms (0:Int).toNat;refine Bs (t:=GR _ _ _) (λσ' H'=>∃(ks:List (Addr×Str×Int)) (v5 v6:Option V),σ'=[some (.ref sa),some (.ref na),some (.ref fo),some (.ref ra),some (.ref lk),v5,v6,none,none,none,none]/\Al H H'/\H' ra=some (.lst (ms.map V.int))/\H' lk=some (.lst (ks.map λp=>V.ref p.1))/\(∀k∈ks,EB H' k)/\(ks.map (·.2.1)).Nodup/\ks.length<=8/\ks≠[]) (λN hN=>?_) ?_
 ·refine⟨_,rfl,ra,_,_,_,rfl,rfl,AB.of (s2.get hra),A 0 (by decide) (by decide),_,_,rfl,rfl,(by show(0:Int)<8;decide),_,_,rfl,rfl,_,rfl,by omega,by omega,?_⟩;refine CD (lo:=0) (λi σ H'=>∃(ks:List (Addr×Str×Int)) (v5 v6:Option V),σ=[some (.ref sa),some (.ref na),some (.ref fo),some (.ref ra),some (.ref lk),v5,v6,none,none,none,none]/\Al H H'/\H' ra=some (.lst (ms.map V.int))/\H' lk=some (.lst (ks.map λp=>V.ref p.1))/\(∀k∈ks,EB H' k)/\ks.map (·.2.1)=(zs.drop 10).take i/\ks.length=i) ⟨[],none,none,rfl,s12,s2.get hra,hlk2,(λ_ h=>nomatch h),rfl,rfl⟩ ?_ ?_
  ·rintro i σ H3 hi ⟨ks,v5,v6,rfl,s3,hra3,hlk3,hks,eks,lks⟩
   have i8:i<8:=by omega
   refine Ao ⟨_,rfl,_,rfl,_,_,rfl,rfl,ra,_,_,_,rfl,rfl,AB.of hra3,A _ (by omega) (by omega),_,rfl,_,rfl,_,_,rfl,rfl,ra,_,_,_,rfl,rfl,AB.of hra3,A _ (by omega) (by omega),_,_,rfl,rfl,.inl ⟨by decide,by decide⟩,_,rfl,ra,_,_,_,rfl,rfl,AB.of hra3,A 5 (by decide) (by decide),_,_,rfl,rfl,_,_,rfl,rfl,⟨by decide,by decide,by decide⟩,_,_,rfl,rfl,II,λlb nlb=>?_⟩;obtain⟨v,hv,hat⟩:=GP (xs:=[V.int (ms.getD (44+(0+(i:Int))).toNat 0),V.int (10*ms.getD (44+(0+(i:Int))).toNat 0+ms.getD (5:Int).toNat 0),V.int (10^(9:Int).toNat-1)]) (n:=3) rfl (by decide) (ms.getD (52+(0+(i:Int))).toNat 0);obtain⟨bd,rfl⟩:∃bd:Int,v=.int bd:=by
    rcases aD.mp hv with h|hv
    ·exact⟨_,h⟩
    ·rcases aD.mp hv with h|hv
     ·exact⟨_,h⟩
     ·exact⟨_,ai.mp hv⟩
   have s4:=Af nlb (.lst [V.int (ms.getD (44+(0+(i:Int))).toNat 0),V.int (10*ms.getD (44+(0+(i:Int))).toNat 0+ms.getD (5:Int).toNat 0),V.int (10^(9:Int).toNat-1)]);refine⟨_,rfl,_,rfl,_,_,rfl,rfl,ra,_,_,_,rfl,rfl,AB.of (s4.get hra3),A _ (by omega) (by omega),_,_,rfl,rfl,(by show(0:Int)<3;decide),lb,_,_,_,rfl,rfl,AB.of Ad,hat,?_⟩;have s34:=s3.trans s4;have hra4:=s4.get hra3;have hlk4:=s4.get hlk3;have hks4:∀k∈ks,EB _ k:=λk hk=>s4.get (hks k hk)
   dsimp only[Aq];generalize upd H3 lb (.lst [V.int (ms.getD (44+(0+(i:Int))).toNat 0),V.int (10*ms.getD (44+(0+(i:Int))).toNat 0+ms.getD (5:Int).toNat 0),V.int (10^(9:Int).toNat-1)])=H4 at s34 hra4 hlk4 hks4;obtain⟨z,hz,haz⟩:=Z (10+(0+(i:Int))) (by omega) (by omega);refine⟨_,rfl,.inl ⟨rfl,_,AB.of hlk4⟩,_,rfl,_,rfl,_,_,rfl,rfl,na,_,_,_,rfl,rfl,s34.seq hna,haz,_,rfl,E3,λt nt=>?_⟩;have s5:=Af nt (.tup [.str z,.int bd]);have hlk5:=s5.get hlk4;refine⟨lk,_,_,rfl,rfl,hlk5,Bh (by rw[aa];omega),ks++[(t,z,bd)],_,_,rfl,AI (s34.trans s5) nlkH _,by rw[An nrk];exact s5.get hra4,by rw[Ad,aq];rfl,λk hk=>KT.lst hlk5 _ _ _ ?_,?_,by rw[au,lks];rfl⟩
   ·rcases aB.mp hk with h|h
    ·exact s5.get (hks4 k h)
    ·cases ai.mp h;exact Ad
   ·rw[aq,eks,aX,List.getElem?_drop,show 10+i=(10+(0+(i:Int))).toNat by omega,hz];rfl
  ·rintro σ H3 ⟨ks,v5,v6,rfl,s3,hra3,hlk3,hks,eks,lks⟩
   refine hN _ _ ⟨ks,_,_,rfl,s3,hra3,hlk3,hks,?_,by omega,λe=>by rw[e] at lks;simp at lks;omega⟩;rw[eks];exact(ndz.sublist (List.drop_sublist _ _)).sublist (cA _ _)
 rintro σ' H3 ⟨ks,v5,v6,rfl,s3,hra3,hlk3,hks3,ndk,lks,kn⟩
 refine Ao ⟨Fm,λle nle=>?_⟩;have s4:=Af nle (.lst []);have hle4:(upd H3 le (.lst [])) le=some (.lst []):=Ad;have hks4:∀k∈ks,EB (upd H3 le (.lst [])) k:=λk hk=>s4.get (hks3 k hk)
 have nke:lk≠le:=λw=>by rw[<-w,hlk3] at nle;cases nle
 have nre:ra≠le:=λw=>by rw[<-w,hra3] at nle;cases nle
 generalize upd H3 le (.lst [])=H4 at s4 hle4 hks4;have s14:=s3.trans s4;have hra4:=s4.get hra3;have hlk4:=s4.get hlk3;have nleH:=s3.free nle
 clear hks3 hra3 hlk3
 dsimp only[Aq];have pk:0<ks.length:=bI.mpr kn;have pg:0<gs.length:=bI.mpr gn;obtain⟨y0,y1⟩:=Fb bms (10:Int).toNat;have m0:=bc (ms.getD (10:Int).toNat 0) (show(9:Int)≠0 by decide);have m1:=aU (ms.getD (10:Int).toNat 0) (show(0:Int)<9 by decide);refine Bs (t:=GR _ _ _) (λσ' H'=>∃(ps:List (Addr×HE)) (v5 v8 v9:Option V),σ'=[some (.ref sa),some (.ref na),some (.ref fo),some (.ref ra),some (.ref lk),v5,v6,some (.ref le),v8,v9,none]/\Al H H'/\H' ra=some (.lst (ms.map V.int))/\H' lk=some (.lst (ks.map λp=>V.ref p.1))/\(∀k∈ks,EB H' k)/\H' le=some (.lst (ps.map λp=>V.ref p.1))/\(∀p∈ps,FN H' p/\Jz p.2/\∃g∈gs,p.2.tg=g.2)/\ps.map (·.2.nm)=zs.take (ms.getD (10:Int).toNat 0%9).toNat/\∀p∈ps,p.2.kd=1) (λN hN=>?_) ?_
 ·refine⟨_,rfl,ra,_,_,_,rfl,rfl,AB.of hra4,A 10 (by decide) (by decide),_,_,rfl,rfl,(by show(0:Int)<9;decide),_,rfl,by omega,by omega,?_⟩;refine CD (lo:=0) (λi σ H'=>∃(ps:List (Addr×HE)) (v5 v8 v9:Option V),σ=[some (.ref sa),some (.ref na),some (.ref fo),some (.ref ra),some (.ref lk),v5,v6,some (.ref le),v8,v9,none]/\Al H H'/\H' ra=some (.lst (ms.map V.int))/\H' lk=some (.lst (ks.map λp=>V.ref p.1))/\(∀k∈ks,EB H' k)/\H' le=some (.lst (ps.map λp=>V.ref p.1))/\(∀p∈ps,FN H' p/\Jz p.2/\∃g∈gs,p.2.tg=g.2)/\ps.map (·.2.nm)=zs.take i/\∀p∈ps,p.2.kd=1) ⟨[],_,none,none,rfl,s14,hra4,hlk4,hks4,hle4,(λ_ h=>nomatch h),rfl,(λ_ h=>nomatch h)⟩ ?_ ?_
  ·rintro i σ H5 hi ⟨ps,v5,v8,v9,rfl,s5,hra5,hlk5,hks5,hle5,hps,eps,kps⟩
   have i8:i<8:=by omega
   have lps:ps.length=i:=by have:=congrArg List.length eps;rw[aa,aQ] at this;omega
   have fo5:=hfo.same s5;obtain⟨g,hg,hag⟩:=fo5.at (n:=(gs.length:Int)) rfl (by omega) (ms.getD (11+2*(0+(i:Int))).toNat 0);have lgs:(((gs.map λp=>V.ref p.1).length:Nat):Int)=(gs.length:Int):=by rw[aa]
   refine Ao ⟨_,rfl,_,rfl,_,rfl,_,_,rfl,rfl,.inl ⟨by decide,by decide⟩,_,_,rfl,rfl,ra,_,_,_,rfl,rfl,AB.of hra5,A _ (by omega) (by omega),_,rfl,fo,_,rfl,.inl (AB.of fo5.1),_,_,rfl,rfl,(by show(0:Int)<_;rw[lgs];omega),fo,_,_,_,rfl,rfl,AB.of fo5.1,(by rw[lgs];exact hag),?_⟩;dsimp only[Aq];refine Ao ⟨_,rfl,_,rfl,_,_,rfl,rfl,.inl ⟨by decide,by decide⟩,_,_,rfl,rfl,ra,_,_,_,rfl,rfl,AB.of hra5,A _ (by omega) (by omega),_,rfl,E3,λlb nlb=>?_⟩;obtain⟨v,hv,hat⟩:=GP (xs:=[V.int (ms.getD (12+2*(0+(i:Int))).toNat 0),V.int (0+(i:Int))]) (n:=2) rfl (by decide) (ms.getD (43:Int).toNat 0);obtain⟨wi,rfl⟩:∃wi:Int,v=.int wi:=by
    rcases aD.mp hv with h|hv
    ·exact⟨_,h⟩
    ·exact⟨_,ai.mp hv⟩
   have s6:=Af nlb (.lst [V.int (ms.getD (12+2*(0+(i:Int))).toNat 0),V.int (0+(i:Int))]);refine⟨_,rfl,ra,_,_,_,rfl,rfl,AB.of (s6.get hra5),A 43 (by decide) (by decide),_,_,rfl,rfl,(by show(0:Int)<2;decide),lb,_,_,_,rfl,rfl,AB.of Ad,hat,?_⟩;have s56:=s5.trans s6;have hra6:=s6.get hra5;have hlk6:=s6.get hlk5;have hle6:=s6.get hle5;have hks6:∀k∈ks,EB _ k:=λk hk=>s6.get (hks5 k hk)
   have hps6:∀p∈ps,FN _ p:=λp hp=>(hps p hp).1.same s6
   have hg6:=s6.get (fo5.2 g hg);dsimp only[Aq];generalize upd H5 lb (.lst [V.int (ms.getD (12+2*(0+(i:Int))).toNat 0),V.int (0+(i:Int))])=H6 at s56 hra6 hlk6 hle6 hks6 hps6 hg6;obtain⟨z,hz,haz⟩:=Z (0+(i:Int)) (by omega) (by omega);obtain⟨u,hu',hau⟩:=GP (xs:=ks.map λp=>V.ref p.1) (n:=(ks.length:Int)) (by rw[aa]) (by omega) wi;obtain⟨kp,hkp,rfl⟩:=ax.mp hu';have lks':(((ks.map λp=>V.ref p.1).length:Nat):Int)=(ks.length:Int):=by rw[aa]
   refine⟨_,rfl,.inl ⟨rfl,_,AB.of hle6⟩,_,rfl,_,rfl,na,_,_,_,rfl,rfl,s56.seq hna,haz,_,rfl,_,rfl,_,rfl,lk,_,rfl,.inl (AB.of hlk6),_,_,rfl,rfl,(by show(0:Int)<_;rw[lks'];omega),lk,_,_,_,rfl,rfl,AB.of hlk6,(by rw[lks'];exact hau),kp.1,_,_,_,rfl,rfl,AD.of (hks6 kp hkp),Aj (j:=0) rfl,_,rfl,LJ,λt nt=>?_⟩;have s7:=Af nt (.tup [.str z,.int 1,.str kp.2.1,.str EM,.ref g.1]);have hle7:=s7.get hle6;have kt:=KT.lst hle7 (.lst (ps.map (λp=>V.ref p.1)++[.ref t]));refine⟨le,_,_,rfl,rfl,hle7,Bh (by rw[aa];omega),ps++[(t,⟨z,1,kp.2.1,.inr EM,g.2⟩)],_,_,_,rfl,AI (s56.trans s7) nleH _,by rw[An nre];exact s7.get hra6,by rw[An nke];exact s7.get hlk6,λk hk=>kt _ _ (s7.get (hks6 k hk)),by rw[Ad,aq];rfl,λp hp=>?_,?_,λp hp=>?_⟩
   ·rcases aB.mp hp with h|h
    ·obtain⟨ta,e1,e2⟩:=hps6 p h;exact⟨⟨ta,kt _ _ (s7.get e1),kt _ _ (s7.get e2)⟩,(hps p h).2⟩
    ·cases ai.mp h;exact⟨⟨g.1,kt _ _ Ad,kt _ _ (s7.get hg6)⟩,.inl ⟨rfl,_,rfl⟩,g,hg,rfl⟩
   ·rw[aq,eps,aX,show i=(0+(i:Int)).toNat by omega,hz,show(0+(i:Int)).toNat=i by omega];rfl
   ·rcases aB.mp hp with h|h
    ·exact kps p h
    ·cases ai.mp h;rfl
  ·rintro σ H5 ⟨ps,v5,v8,v9,rfl,s5,hra5,hlk5,hks5,hle5,hps,eps,kps⟩
   exact hN _ _ ⟨ps,_,_,_,rfl,s5,hra5,hlk5,hks5,hle5,hps,eps,kps⟩
 rintro σ' H5 ⟨ps,v5,v8,v9,rfl,s5,hra5,hlk5,hks5,hle5,hps5,eps,kps⟩
 have A10:=A 10 (by decide) (by decide);generalize hn1:ms.getD (10:Int).toNat 0%9=n1 at m0 m1 eps;have lps:ps.length=n1.toNat:=by have:=congrArg List.length eps;rw[aa,aQ] at this;omega
 refine Bs (t:=GR _ _ _) (λσ' H'=>∃(ss:List (Addr×HE)) (v5 v8 v10:Option V),σ'=[some (.ref sa),some (.ref na),some (.ref fo),some (.ref ra),some (.ref lk),v5,v6,some (.ref le),v8,v9,v10]/\Al H H'/\H' ra=some (.lst (ms.map V.int))/\H' lk=some (.lst (ks.map λp=>V.ref p.1))/\(∀k∈ks,EB H' k)/\H' le=some (.lst ((ps++ss).map λp=>V.ref p.1))/\(∀p∈ps++ss,FN H' p/\Jz p.2/\∃g∈gs,p.2.tg=g.2)/\(∃n2,n2<=4/\ss.map (·.2.nm)=(zs.drop 8).take n2)/\ss.length<=4) (λN hN=>?_) ?_
 ·obtain⟨w0,w1⟩:=Fb bms (30:Int).toNat;have q0:=bc (ms.getD (30:Int).toNat 0) (show(5:Int)≠0 by decide);have q1:=aU (ms.getD (30:Int).toNat 0) (show(0:Int)<5 by decide);obtain⟨n2,en2,b0,b1,bp⟩:∃n2:Int,ms.getD (30:Int).toNat 0%5*(if(if true=true then !decide ((ps.map λp=>V.ref p.1)=[]) else decide ((ps.map λp=>V.ref p.1)=[]))=true then 1 else 0)=n2/\0<=n2/\n2<=4/\(0<n2->0<ps.length):=by
   refine⟨_,rfl,?_⟩;rw[aI (rfl:true=true)]
   by_cases e:ps=[]
   ·rw[e,bY,aR rfl,show(if(!true)=true then(1:Int) else 0)=0 from rfl,Int.mul_zero];exact⟨by decide,by decide,λh=>absurd h (by decide)⟩
   ·rw[aO λh=>e (eO.mp h)];have:=bI.mpr e;simp only[Bool.not_false,if_true,Int.mul_one];exact⟨by omega,by omega,λ_=>this⟩
  refine⟨_,rfl,ra,_,_,_,rfl,rfl,AB.of hra5,A 30 (by decide) (by decide),_,_,rfl,rfl,(by show(0:Int)<5;decide),_,rfl,Fm,λl0 nl0=>?_⟩;have s6:=Af nl0 (.lst []);refine⟨le,l0,_,rfl,rfl,AB.of (s6.get hle5),AB.of Ad,.inr ⟨_,rfl,_,_,rfl,rfl,.inl ⟨by omega,by omega⟩,?_⟩⟩;refine⟨_,rfl,by rw[en2];omega,by rw[en2];omega,?_⟩;rw[en2];have s16:=s5.trans s6;refine CD (lo:=0) (λi σ H'=>∃(ss:List (Addr×HE)) (v5 v8 v10:Option V),σ=[some (.ref sa),some (.ref na),some (.ref fo),some (.ref ra),some (.ref lk),v5,v6,some (.ref le),v8,v9,v10]/\Al H H'/\H' ra=some (.lst (ms.map V.int))/\H' lk=some (.lst (ks.map λp=>V.ref p.1))/\(∀k∈ks,EB H' k)/\H' le=some (.lst ((ps++ss).map λp=>V.ref p.1))/\(∀p∈ps++ss,FN H' p/\Jz p.2/\∃g∈gs,p.2.tg=g.2)/\ss.map (·.2.nm)=(zs.drop 8).take i) ⟨[],_,_,none,rfl,s16,s6.get hra5,s6.get hlk5,λk hk=>s6.get (hks5 k hk),by rw[br];exact s6.get hle5,λp hp=>by rw[br] at hp;exact⟨(hps5 p hp).1.same s6,(hps5 p hp).2⟩,rfl⟩ ?_ ?_
  ·rintro i σ H7 hi ⟨ss,v5,v8,v10,rfl,s7,hra7,hlk7,hks7,hle7,hps7,ess⟩
   have i4:i<4:=by omega
   have lss:ss.length=i:=by have:=congrArg List.length ess;rw[aa,aQ,cu] at this;omega
   have pp:=bp (by omega);have fo7:=hfo.same s7;obtain⟨g,hg,hag⟩:=fo7.at (n:=(gs.length:Int)) rfl (by omega) (ms.getD (31+2*(0+(i:Int))).toNat 0);have lgs:(((gs.map λp=>V.ref p.1).length:Nat):Int)=(gs.length:Int):=by rw[aa]
   refine Ao ⟨_,rfl,_,rfl,_,rfl,_,_,rfl,rfl,.inl ⟨by decide,by decide⟩,_,_,rfl,rfl,ra,_,_,_,rfl,rfl,AB.of hra7,A _ (by omega) (by omega),_,rfl,fo,_,rfl,.inl (AB.of fo7.1),_,_,rfl,rfl,(by show(0:Int)<_;rw[lgs];omega),fo,_,_,_,rfl,rfl,AB.of fo7.1,(by rw[lgs];exact hag),?_⟩;dsimp only[Aq];have t0:=bc (ms.getD (32+2*(0+(i:Int))).toNat 0) (show n1≠0 by omega);have t1:=aU (ms.getD (32+2*(0+(i:Int))).toNat 0) (show 0<n1 by omega);have hst:(ms.getD (32+2*(0+(i:Int))).toNat 0%n1).toNat<ps.length:=by omega
   have hat:Iw ((ps++ss).map λp=>V.ref p.1) (ms.getD (32+2*(0+(i:Int))).toNat 0%n1)=some (.ref (ps[(ms.getD (32+2*(0+(i:Int))).toNat 0%n1).toNat]).1):=by
    have:=Aj (xs:=(ps++ss).map λp=>V.ref p.1) (j:=(ms.getD (32+2*(0+(i:Int))).toNat 0%n1).toNat) (v:=.ref (ps[(ms.getD (32+2*(0+(i:Int))).toNat 0%n1).toNat]).1) (by rw[aw,bA hst,ah hst];rfl)
    rwa [show(((ms.getD (32+2*(0+(i:Int))).toNat 0%n1).toNat:Nat):Int)=ms.getD (32+2*(0+(i:Int))).toNat 0%n1 by omega] at this
   have hsm:ps[(ms.getD (32+2*(0+(i:Int))).toNat 0%n1).toNat]∈ps++ss:=bf _ (bz hst);generalize ps[(ms.getD (32+2*(0+(i:Int))).toNat 0%n1).toNat]=sp at hat hsm;obtain⟨ta,e1,_⟩:=(hps7 sp hsm).1;refine Ao ⟨_,rfl,_,rfl,_,rfl,_,_,rfl,rfl,.inl ⟨by decide,by decide⟩,_,_,rfl,rfl,ra,_,_,_,rfl,rfl,AB.of hra7,A _ (by omega) (by omega),_,rfl,ra,_,_,_,rfl,rfl,AB.of hra7,A10,_,_,rfl,rfl,(by show(0:Int)<9;decide),_,_,rfl,rfl,(by show(0:Int)<_;rw[hn1];omega),le,_,_,_,rfl,rfl,AB.of hle7,(by rw[hn1];exact hat),sp.1,_,_,_,rfl,rfl,AD.of e1,Aj (j:=0) rfl,?_⟩;dsimp only[Aq];obtain⟨z,hz,haz⟩:=Z (8+(0+(i:Int))) (by omega) (by omega);refine⟨_,rfl,.inl ⟨rfl,_,AB.of hle7⟩,_,rfl,_,rfl,_,_,rfl,rfl,na,_,_,_,rfl,rfl,s7.seq hna,haz,_,rfl,_,rfl,ra,_,_,_,rfl,rfl,AB.of hra7,A 40 (by decide) (by decide),_,_,rfl,rfl,_,rfl,_,_,rfl,rfl,.inl ⟨by decide,by decide⟩,_,_,rfl,rfl,_,rfl,LJ,λt nt=>?_⟩;have s8:=Af nt (.tup [.str z,.int 2,.str sp.2.nm,.int (1+ms.getD (40:Int).toNat 0+3*(0+(i:Int))),.ref g.1]);have hle8:=s8.get hle7;have kt:=KT.lst hle8 (.lst ((ps++ss).map (λp=>V.ref p.1)++[.ref t]));refine⟨le,_,_,rfl,rfl,hle8,Bh (by rw[aa,au];omega),ss++[(t,⟨z,2,sp.2.nm,.inl (1+ms.getD (40:Int).toNat 0+3*(0+(i:Int))),g.2⟩)],_,_,_,rfl,AI (s7.trans s8) nleH _,by rw[An nre];exact s8.get hra7,by rw[An nke];exact s8.get hlk7,λk hk=>kt _ _ (s8.get (hks7 k hk)),by rw[Ad,aq,aq,aq,bD];rfl,λp hp=>?_,?_⟩
   ·rw[<-bD] at hp;rcases aB.mp hp with h|h
    ·obtain⟨⟨ta,e1,e2⟩,r⟩:=hps7 p h;exact⟨⟨ta,kt _ _ (s8.get e1),kt _ _ (s8.get e2)⟩,r⟩
    ·cases ai.mp h;exact⟨⟨g.1,kt _ _ Ad,kt _ _ (s8.get (fo7.2 g hg))⟩,.inr ⟨rfl,_,rfl⟩,g,hg,rfl⟩
   ·rw[aq,ess,aX,List.getElem?_drop,show 8+i=(8+(0+(i:Int))).toNat by omega,hz];rfl
  ·rintro σ H7 ⟨ss,v5,v8,v10,rfl,s7,hra7,hlk7,hks7,hle7,hps7,ess⟩
   refine hN _ _ ⟨ss,_,_,_,rfl,s7,hra7,hlk7,hks7,hle7,hps7,⟨_,by omega,ess⟩,?_⟩;have:=congrArg List.length ess;rw[aa,aQ,cu] at this;omega
 rintro σ' H7 ⟨ss,v5,v8,v10,rfl,s7,hra7,hlk7,hks7,hle7,hps7,⟨n2,b2,ess⟩,lss⟩
 have names:((ps++ss).map (·.2.nm)).Nodup/\∀z∈(ps++ss).map (·.2.nm),z∈zs:=by
  have sub:((ps++ss).map (·.2.nm)).Sublist zs:=by
   rw[aq,eps,ess];have h1:(zs.take n1.toNat).Sublist (zs.take 8):=by
    rw[show n1.toNat=min n1.toNat 8 by omega,<-List.take_take];exact cA _ _
   exact(List.Sublist.append h1 (cA _ _)).trans (by rw[eE];exact List.Sublist.refl _)
  exact⟨ndz.sublist sub,λz hz=>sub.subset hz⟩
 have lall:(ps++ss).length<=12:=by rw[au];omega
 have Si:n1.toNat<=(ps++ss).length:=by rw[au];omega
 have k1:∀(i:Nat) p,i<n1.toNat->(ps++ss)[i]?=some p->p.2.kd=1:=λi p hi hp=>by
  rw[bA (by omega)] at hp;exact kps p (aE hp)
 generalize ps++ss=es at hle7 hps7 names lall Si k1;refine Bs (t:=GR _ _ _) (λσ' H'=>∃(fs:List (Addr×HE)) (v5:Option V),σ'=[some (.ref sa),some (.ref na),some (.ref fo),some (.ref ra),some (.ref lk),v5,v6,some (.ref le),v8,v9,v10]/\Al H H'/\H' ra=some (.lst (ms.map V.int))/\H' lk=some (.lst (ks.map λp=>V.ref p.1))/\(∀k∈ks,EB H' k)/\H' le=some (.lst (fs.map λp=>V.ref p.1))/\(∀p∈fs,FN H' p/\Jz p.2/\∃g∈gs,p.2.tg=g.2)/\fs.map (·.2.nm)=es.map (·.2.nm)) (λN hN=>?_) ?_
 ·refine⟨_,rfl,ra,_,_,_,rfl,rfl,AB.of hra7,A10,_,_,rfl,rfl,(by show(0:Int)<9;decide),_,rfl,by rw[hn1];omega,by rw[hn1];omega,?_⟩;rw[hn1];refine CD (lo:=0) (λi σ H'=>∃(fs:List (Addr×HE)) (v5:Option V),σ=[some (.ref sa),some (.ref na),some (.ref fo),some (.ref ra),some (.ref lk),v5,v6,some (.ref le),v8,v9,v10]/\Al H H'/\H' ra=some (.lst (ms.map V.int))/\H' lk=some (.lst (ks.map λp=>V.ref p.1))/\(∀k∈ks,EB H' k)/\H' le=some (.lst (fs.map λp=>V.ref p.1))/\(∀p∈fs,FN H' p/\Jz p.2/\∃g∈gs,p.2.tg=g.2)/\fs.map (·.2.nm)=es.map (·.2.nm)/\fs.map (·.2.kd)=es.map (·.2.kd)) ⟨es,_,rfl,s7,hra7,hlk7,hks7,hle7,hps7,rfl,rfl⟩ ?_ ?_
  ·rintro i σ H8 hi ⟨fs,v5,rfl,s8,hra8,hlk8,hks8,hle8,hfs8,enm,ekd⟩
   have li:i<fs.length:=by have:=congrArg List.length enm;rw[aa,aa] at this;omega
   have lf:fs.length<=12:=by have:=congrArg List.length enm;rw[aa,aa] at this;omega
   have hm:fs[i]∈fs:=bz li;have ex:fs[i]?=some fs[i]:=ah li;generalize fs[i]=x at hm ex;have kx:x.2.kd=1:=by
    have h:=congrArg (λl:List Int=>l[i]?) ekd;simp only[List.getElem?_map,ex,Option.map_some] at h;cases ey:es[i]? with
    |none=>rw[ey] at h;cases h
    |some y=>
     rw[ey] at h;rw[aP h];exact k1 i y hi ey
   have hat:Iw (fs.map λp=>V.ref p.1) (0+(i:Int))=some (.ref x.1):=by
    have:=Aj (xs:=fs.map λp=>V.ref p.1) (j:=i) (v:=.ref x.1) (by rw[aw,ex];rfl)
    rwa [show((i:Nat):Int)=0+(i:Int) by omega] at this
   obtain⟨y0,y1⟩:=Fb bms (11+(0+(i:Int))).toNat;obtain⟨hx1,hx2,g,hg,hx3⟩:=hfs8 x hm;dsimp only[Aq];refine⟨_,rfl,_,rfl,_,rfl,le,_,_,_,rfl,rfl,AB.of hle8,hat,_,rfl,_,rfl,_,_,rfl,rfl,ra,_,_,_,rfl,rfl,AB.of hra8,A _ (by omega) (by omega),le,fs,x,_,rfl,hle8,λp hp=>⟨(hfs8 p hp).1,(hfs8 p hp).2.1⟩,by omega,hx1,kx,hx2,y0,λa z H9 s9 ha=>?_⟩;have hle9:=s9.get hle8;have hix:SH (fs.map λp=>V.ref p.1).length (0+(i:Int))=some i:=by
    unfold SH;rw[aI (by omega),aI (by rw[aa];omega)];exact congrArg some (by omega)
   have kt:=KT.lst hle9 (.lst ((fs.map λp=>V.ref p.1).set i (.ref a)));refine⟨_,rfl,_,rfl,le,_,_,i,rfl,rfl,hle9,hix,fs.set i (a,⟨x.2.nm,x.2.kd,x.2.ow,.inr z,x.2.tg⟩),_,rfl,AI (s8.trans s9) nleH _,by rw[An nre];exact s9.get hra8,by rw[An nke];exact s9.get hlk8,λk hk=>kt _ _ (s9.get (hks8 k hk)),by rw[Ad,gb],λp hp=>?_,?_,?_⟩
   ·rcases List.mem_or_eq_of_mem_set hp with h|h
    ·obtain⟨⟨ta,e1,e2⟩,r⟩:=hfs8 p h;exact⟨⟨ta,kt _ _ (s9.get e1),kt _ _ (s9.get e2)⟩,r⟩
    ·subst h;obtain⟨ta,e1,e2⟩:=ha;exact⟨⟨ta,kt _ _ e1,kt _ _ e2⟩,.inl ⟨kx,_,rfl⟩,g,hg,hx3⟩
   ·rw[gb,<-enm];refine cB λj=>?_
    rw[List.getElem?_set]
    split
    ·next e=>
     subst e;rw[aI (by rw[aa];exact li),aw,ex];rfl
    ·rfl
   ·rw[gb,<-ekd];refine cB λj=>?_
    rw[List.getElem?_set]
    split
    ·next e=>
     subst e;rw[aI (by rw[aa];exact li),aw,ex];rfl
    ·rfl
  ·rintro σ H8 ⟨fs,v5,rfl,s8,hra8,hlk8,hks8,hle8,hfs8,enm,ekd⟩
   exact hN _ _ ⟨fs,_,rfl,s8,hra8,hlk8,hks8,hle8,hfs8,enm⟩
 rintro σ' H8 ⟨fs,v5,rfl,s8,hra8,hlk8,hks8,hle8,hfs8,enm⟩
 have lfs:fs.length<=12:=by have:=congrArg List.length enm;rw[aa,aa] at this;omega
 have ndf:(fs.map (·.2.nm)).Nodup:=by rw[enm];exact names.1
 dsimp only[Pl];refine⟨_,rfl,ra,_,_,_,rfl,rfl,AB.of hra8,A 41 (by decide) (by decide),_,rfl,lk,ks.map λp=>(p.1,p.2.1),rfl,AB.of (by rw[aj];exact hlk8),by rw[aa];omega,λt ht=>?_,by rw[aj];exact ndk,λus l up so np=>?_⟩
 ·obtain⟨p,hp,rfl⟩:=ax.mp ht;exact⟨_,AD.of (hks8 p hp)⟩
 obtain⟨ks',pk,rfl⟩:=EX up rfl;rw[aj];have s9:=Af np (.lst (ks'.map ((λt:Addr×Str=>V.ref t.1)∘λp:Addr×Str×Int=>(p.1,p.2.1))));refine⟨l,_,rfl,.inl ⟨AB.of Ad,λka nka=>?_⟩⟩;have s10:=Af nka (.tup (ks'.map ((λt:Addr×Str=>V.ref t.1)∘λp:Addr×Str×Int=>(p.1,p.2.1))));have s910:=s9.trans s10;have hka:(upd (upd H8 l (.lst (ks'.map ((λt:Addr×Str=>V.ref t.1)∘λp:Addr×Str×Int=>(p.1,p.2.1))))) ka (.tup (ks'.map ((λt:Addr×Str=>V.ref t.1)∘λp:Addr×Str×Int=>(p.1,p.2.1))))) ka=some (.tup (ks'.map λp=>V.ref p.1)):=Ad;generalize upd (upd H8 l (.lst (ks'.map ((λt:Addr×Str=>V.ref t.1)∘λp:Addr×Str×Int=>(p.1,p.2.1))))) ka (.tup (ks'.map ((λt:Addr×Str=>V.ref t.1)∘λp:Addr×Str×Int=>(p.1,p.2.1))))=H10 at s910 hka;refine⟨_,rfl,le,fs.map λp=>(p.1,p.2.nm),rfl,AB.of (by rw[aj];exact s910.get hle8),by rw[aa];omega,λt ht=>?_,by rw[aj];exact ndf,λus l2 up2 so2 np2=>?_⟩
 ·obtain⟨p,hp,rfl⟩:=ax.mp ht;obtain⟨⟨ta,e1,_⟩,_⟩:=hfs8 p hp;exact⟨_,AD.of (s910.get e1)⟩
 obtain⟨fs',pf,rfl⟩:=EX up2 rfl;rw[aj];have s11:=Af np2 (.lst (fs'.map ((λt:Addr×Str=>V.ref t.1)∘λp:Addr×HE=>(p.1,p.2.nm))));refine⟨l2,_,rfl,.inl ⟨AB.of Ad,λea nea=>?_⟩⟩;have s12:=Af nea (.tup (fs'.map ((λt:Addr×Str=>V.ref t.1)∘λp:Addr×HE=>(p.1,p.2.nm))));have s1112:=s11.trans s12;have hea:(upd (upd H10 l2 (.lst (fs'.map ((λt:Addr×Str=>V.ref t.1)∘λp:Addr×HE=>(p.1,p.2.nm))))) ea (.tup (fs'.map ((λt:Addr×Str=>V.ref t.1)∘λp:Addr×HE=>(p.1,p.2.nm))))) ea=some (.tup (fs'.map λp=>V.ref p.1)):=Ad;generalize upd (upd H10 l2 (.lst (fs'.map ((λt:Addr×Str=>V.ref t.1)∘λp:Addr×HE=>(p.1,p.2.nm))))) ea (.tup (fs'.map ((λt:Addr×Str=>V.ref t.1)∘λp:Addr×HE=>(p.1,p.2.nm))))=H12 at s1112 hea;refine⟨II,λh nh=>?_⟩;have s13:=Af nh (.tup [.int (ms.getD (41:Int).toNat 0),.ref ka,.ref ea]);have s813:=s910.trans (s1112.trans s13);refine q h _ ka ea ks' fs' _ (s8.trans s813) Ad ((s1112.trans s13).get hka) (λk hk=>s813.get (hks8 k (pk.mem_iff.mp hk))) ((pk.map _).nodup_iff.mpr ndk) (by rw[pk.length_eq];omega) (s13.get hea) (λp hp=>?_) ((pf.map _).nodup_iff.mpr ndf) (by rw[pf.length_eq];omega);obtain⟨h1,h2,h3⟩:=hfs8 p (pf.mem_iff.mp hp);exact⟨h1.same s813,h2,names.2 _ (by rw[<-enm];exact aF (f:=λp:Addr×HE=>p.2.nm) (pf.mem_iff.mp hp)),h3⟩
def Cc (K:W.Frag):Sp:=λvs H Q _=>∃v b,vs=[v]/\Rep NL H (FF b) v/\(DB b).length<=1000/\∀l (ps:List (Addr×Tg)) H',Al H H'->H l=none->Hj H' l ps->ps.map (·.2)=DB b->Q (.ref l) H'
theorem LF (T:Txt K mg C XC)(F:Fun K "_law_tags" "_law_tags" C3 f fd):FnOk P w K mg base CU 1 f fd ["_law_block"] (Cc K):=by
 exists LC
 ·obtain⟨v,b,rfl,_⟩:=h;rfl
 obtain⟨v,b,rfl,hv,few,q⟩:=h;refine⟨_,(!Ae (!Bu (!AA CJ (!Ai Ar (pv 0) (!Ab) (λ_ _=>rfl)) (!Ab) (AG _)) (!Ah (!As (!Bc (!Ac)))) (!AO)) (!Ae (!Bu (!AA CJ (!Ai Ar (pv 0) (!Ab) (λ_ _=>rfl)) (!Ab) (AG _)) (!Ah (!As (!Bf C4 (by rfl) T.b_list FI (!Aa (!Ai Ar (pv 0) (!Ab) (λ_ _=>rfl)) (!Ac))))) (!AO)) (!Ah (!As (@BO _ ["_law_entry"] _ _ _ _ _ _ _ _ _ _ rfl (!B9 (!Ai Ar (pv 0) (!Ab) (λ_ _=>rfl))) (by decide +kernel) (λC s H fp=>⟨(@Ak _ _ (0) _ (show(["_law_entry"]:List Str).Nodup by decide +kernel) rfl (by trivial) (by trivial)),(!AW),(!Ai (AS (K:=K) (by rfl)) (pv 0) (!Ab) (λ_ _=>rfl))⟩) (by intro _;rfl)))))),?_⟩
 try dsimp only[Bw,Cx.nox,Cx.wish]
 cases b with
 |piece z=>
  obtain⟨a,rfl,e⟩:=DV hv;refine⟨_,rfl,a,_,_,_,rfl,rfl,AD.of e,rfl,rfl,_,rfl,DR rfl ?_⟩;exact⟨Fm,λl hl=>q l [] _ (Af hl _) hl ⟨Ad,λ_ h=>nomatch h⟩ rfl⟩
 |row lv ts=>
  obtain⟨a,d,us,rfl,e,e2,r⟩:=Gm hv;obtain⟨ps,rfl,rfl,hps⟩:=Hv r;refine⟨_,rfl,a,_,_,_,rfl,rfl,AD.of e,rfl,rfl,_,rfl,By rfl ?_⟩;refine⟨_,rfl,a,_,_,_,rfl,rfl,AD.of e,rfl,rfl,_,rfl,DR rfl ?_⟩;exact⟨_,rfl,a,_,_,_,rfl,rfl,AD.of e,rfl,d,_,rfl,.inr (AD.of e2),λl hl=>q l ps _ (Af hl _) hl ⟨Ad,λp hp=>(Af hl _).get (hps p hp)⟩ rfl⟩
 |folder es=>
  obtain⟨a,d,us,rfl,e,e2,r⟩:=Cq hv;obtain⟨ps,rfl,rfl,hps⟩:=JD r;have few':((ps.map (·.2)).map (·.tg)).length<=1000:=few;rw[aa,aa] at few';refine⟨_,rfl,a,_,_,_,rfl,rfl,AD.of e,rfl,rfl,_,rfl,By rfl ?_⟩;refine⟨_,rfl,a,_,_,_,rfl,rfl,AD.of e,rfl,rfl,_,rfl,By rfl ?_⟩;refine⟨_,rfl,a,_,_,_,rfl,rfl,AD.of e,rfl,d,rfl,⟨_,AD.of e2⟩,?_⟩;obtain⟨qs,e3,e4,hqs⟩:=Hv (GW r);refine Ct (ps:=ps) (λx=>Lf H (.ref x.1)) (B2 e2) (by omega) (λx hx H' R s' hR=>?_) λl H' nl s' hl=>q l qs H' s' nl ⟨?_,λp hp=>s'.get (hqs p hp)⟩ e4.symm
  ·obtain⟨b,h1,h2⟩:=hps x hx;have:=hR H' (Al.refl _);rw[Jq h1] at this;exact⟨_,rfl,x.1,_,_,_,rfl,rfl,AD.of (s'.get h1),Aj (j:=2) rfl,this⟩
  ·rw[hl,<-e3,aj];rfl
def LM (B:BM)(z:Int):List Int:=match B z with
 |some b=>(DB b).map (·.1)
 |none=>[]
theorem FU {α:Type}[DecidableEq α]:∀{l m:List α},l.Nodup->(∀x∈l,x∈m)->l.length<=m.length
 |[],_,_,_=>bg _
 |a::l,m,nd,h=>by
  rw[bQ] at nd;have ha:=h a ay;have:=FU (m:=m.erase a) nd.2 λx hx=>(List.mem_erase_of_ne (λz=>nd.1 (by rw[<-z];exact hx))).mpr (h x (az _ hx))
  rw[List.length_erase_of_mem ha] at this;have:0<m.length:=gc ha;rw[aM];omega
def Nh (B:BM):Nat->List Int->List Int->List Int
 |0,_,fs=>fs
 |n+1,ws,fs=>match ws.getLast? with
  |none=>fs
  |some z=>if z∈fs then Nh B n ws.dropLast fs else Nh B n (ws.dropLast++LM B z) (fs++[z])
theorem N5 (B:BM):∀n fs,Nh B n [] fs=fs
 |0,_=>rfl
 |_+1,_=>rfl
theorem Mz (B:BM)(n:Nat)(ws:List Int)(z:Int)(fs:List Int):Nh B (n+1) (ws++[z]) fs=if z∈fs then Nh B n ws fs else Nh B n (ws++LM B z) (fs++[z]):=by
 rw[Nh,List.getLast?_concat,gA]
structure Bx (H:Hp) (d:Addr) (cs:List Cz):Prop where
 at_:H d=some (.dK (LK cs))
 ce:∀c∈cs,QC H c
 nd:(cs.map (·.tg.1)).Nodup
 few:cs.length<=50
theorem Bx.same {H H':Hp}{d:Addr}{cs:List Cz}(h:Bx H d cs)(s:Al H H'):Bx H' d cs:=⟨s.get h.at_,λc hc=>(h.ce c hc).keep (KT.of s),h.nd,h.few⟩
theorem Fq {cs:List Cz}{z:Int}{b:Bk}(h:bm cs z=some b):∃c∈cs,c.tg.1=z/\c.bk=b:=by
 obtain⟨c,hc,e⟩:=aV.mp h;exact⟨c,cI hc,bh (eC (p:=λc:Cz=>decide (c.tg.1=z)) hc),e⟩
theorem Bx.get {H:Hp}{d:Addr}{cs:List Cz}(h:Bx H d cs){c:Cz}(hc:c∈cs):FO H d (.int c.tg.1) (some (.ref c.p)):=by
 have g:=FO.k (k:=.inl c.tg.1) h.at_;rw[show EU (LK cs) (.inl c.tg.1)=some (.ref c.p) from IY (z:=λc:Cz=>c.tg.1) (v:=λc=>.ref c.p) h.nd c hc] at g;exact g
def LZ (B:BM)(Ok:Int->Prop):Prop:=∀z,Ok z->∃b,B z=some b/\(DB b).length<=3/\∀t∈DB b,Ok t.1
theorem Lb {B:BM}{Ok:Int->Prop}(cl:LZ B Ok){N:List Int}(hN:∀z,Ok z->z∈N):∀(n:Nat) (ws fs:List Int),ws.length+4*(N.length-fs.length)<=n->fs.Nodup->(∀z∈ws,Ok z)->(∀z∈fs,Ok z)->(∀z∈fs,∀t∈LM B z,t∈fs\/t∈ws)->
  (Nh B n ws fs).Nodup/\(∀z∈fs,z∈Nh B n ws fs)/\(∀z∈ws,z∈Nh B n ws fs)/\(∀z∈Nh B n ws fs,Ok z)/\∀z∈Nh B n ws fs,∀t∈LM B z,t∈Nh B n ws fs
 |0,ws,fs,hn,nd,hw,hf,hc=>by
  have:ws=[]:=fR.mp (by omega);subst this;exact⟨nd,λ_ h=>h,(λ_ h=>nomatch h),hf,λz hz t ht=>(hc z hz t ht).resolve_right λh=>nomatch h⟩
 |n+1,ws,fs,hn,nd,hw,hf,hc=>by
  rcases gi ws with rfl|⟨ws',z,rfl⟩
  ·rw[N5];exact⟨nd,λ_ h=>h,(λ_ h=>nomatch h),hf,λz hz t ht=>(hc z hz t ht).resolve_right λh=>nomatch h⟩
  ·rw[gj] at *;rw[Mz];rw[au,bS] at hn;have oz:=hw z (aK _ ay)
   by_cases hz:z∈fs
   ·rw[aI hz];obtain⟨h1,h2,h3,h4,h5⟩:=Lb cl hN n ws' fs (by omega) nd (λx hx=>hw x (bf _ hx)) hf λx hx t ht=>by
     rcases hc x hx t ht with h|h
     ·exact .inl h
     ·rcases aB.mp h with h|h
      ·exact .inr h
      ·rw[ai.mp h];exact .inl hz
    refine⟨h1,h2,λx hx=>?_,h4,h5⟩;rcases aB.mp hx with hx|hx
    ·exact h3 x hx
    ·rw[ai.mp hx];exact h2 z hz
   ·rw[aH hz];obtain⟨b,eb,l3,ok⟩:=cl z oz;have et:LM B z=(DB b).map (·.1):=by unfold LM;rw[eb]
    have nd':(fs++[z]).Nodup:=cX.mpr ⟨nd,by simp,λa ha c hc e=>hz (by rw[ai.mp hc] at e;rw[<-e];exact ha)⟩;have hf':∀x∈fs++[z],Ok x:=λx hx=>by
     rcases aB.mp hx with hx|hx
     ·exact hf x hx
     ·rw[ai.mp hx];exact oz
    have lN:(fs++[z]).length<=N.length:=FU nd' λx hx=>hN x (hf' x hx)
    rw[au,bS] at lN;obtain⟨h1,h2,h3,h4,h5⟩:=Lb cl hN n (ws'++LM B z) (fs++[z]) (by rw[au,au,et,aa,bS];omega) nd' (λx hx=>by
     rcases aB.mp hx with hx|hx
     ·exact hw x (bf _ hx)
     ·rw[et] at hx;obtain⟨t,ht,rfl⟩:=ax.mp hx;exact ok t ht) hf' λx hx t ht=>by
     rcases aB.mp hx with hx|hx
     ·rcases hc x hx t ht with h|h
      ·exact .inl (bf _ h)
      ·rcases aB.mp h with h|h
       ·exact .inr (bf _ h)
       ·exact .inl (aK _ h)
     ·rw[ai.mp hx] at ht;exact .inr (aK _ ht)
    refine⟨h1,λx hx=>h2 x (bf _ hx),λx hx=>?_,h4,h5⟩;rcases aB.mp hx with hx|hx
    ·exact h3 x (bf _ hx)
    ·exact h2 x (aK _ hx)
def L4 (cs:List Cz)(ws:List Int):List Int:=Nh (bm cs) (ws.length+4*cs.length) ws []
def Bi (fs:List Int):List (Key×V):=fs.map λz=>(.inl z,.bl true)
def CN (K:W.Frag):Sp:=λvs H Q _=>∃(d la:Addr) (cs:List Cz) (ps:List (Addr×Tg)) (Ok:Int->Prop),vs=[.ref d,.ref la]/\Bx H d cs/\Hj H la ps/\ps.length<=100/\LZ (bm cs) Ok/\(∀p∈ps,Ok p.2.1)/\
 ∀dd H',Al H H'->H dd=none->H' dd=some (.dK (Bi (L4 cs (ps.map (·.2.1)))))->Q (.ref dd) H'
theorem IT (T:Txt K mg C XC)(F:Fun K "_law_reached" "_law_reached" B3 f fd)(A6:Def P w K mg base 1 "_law_tags" ["_law_block"] (Cc K)):FnOk P w K mg base CU 2 f fd ["_law_blocks_here","_law_tags_here"] (CN K):=by
 exists CS
 ·obtain⟨d,la,cs,ps,Ok,rfl,_⟩:=h;rfl
 obtain⟨d,la,cs,ps,Ok,rfl,bx,hla,few,cl,okw,q⟩:=h;have hu:=Cp hr;have hu9:=B8 hr;refine⟨_,(!Ae (@Ap _ _ (2) _ _ _ _ CS.nd rfl (by trivial) (!Gc) (by rfl) (by trivial)) (!Ae (@Ap _ _ (3) _ _ _ _ CS.nd rfl (by trivial) (!Bf C4 (by rfl) T.b_list FI (!Aa (pv 1) (!Ac))) (by rfl) (by trivial)) (!Ae (!JT aT (!AA (QH hu) (pv 3) (!Bc (!Ac)) (AG _)) (!Ae (@Ap _ _ (4) _ _ _ _ CS.nd rfl (by trivial) (!Ai Ar (!UJ aL PySem.F.slot_list_pop PySem.F.type_list_pop T7 (pv 3)) (!Ab) (λ_ _=>rfl)) (by rfl) (by trivial)) (!Ah (!Bu (!Hz (!OP hu (pv 4) (pv 2)) (by first|exact Ef _ (by decide) (by decide)|rfl)) (!Ae (!IZ hu (pv 2) (pv 4) (!Dj)) (!Ah (!BK (!Cf aL cM cL Gj (pv 3) (!Aa (!AM A6 (by trivial) rfl (!Aa (!Ai Ar (!CT hu (pv 0) (pv 4) (λ_ _=>rfl)) (!Ab) (λ_ _=>rfl)) (!Ac))) (!Ac)))))) (!AO))))) (!Ah (!As (pv 2)))))),?_⟩
 try dsimp only[Bw,Cx.nox,Cx.wish]
 refine Ao λdf ndf=>?_
 have s1:=Af ndf (.dK []);have hdf:(upd H df (.dK [])) df=some (.dK (Bi [])):=Ad;dsimp only[Aq];generalize upd H df (.dK [])=H1 at s1 hdf;refine Ao ⟨_,rfl,la,_,rfl,.inl (AB.of (s1.get hla.1)),λlw nlw=>?_⟩;have s2:=Af nlw (.lst (ps.map λp=>V.ref p.1));have hlw:(upd H1 lw (.lst (ps.map λp=>V.ref p.1))) lw=some (.lst (ps.map λp=>V.ref p.1)):=Ad;have hdf2:=s2.get hdf;have nlwH:=s1.free nlw;have nlf:df≠lw:=λw=>by rw[<-w,hdf] at nlw;cases nlw
 dsimp only[Aq];generalize upd H1 lw (.lst (ps.map λp=>V.ref p.1))=H2 at s2 hlw hdf2;have s12:=s1.trans s2;have N0:∀z,Ok z->z∈cs.map (·.tg.1):=λz hz=>by
  obtain⟨b,eb,_⟩:=cl z hz;obtain⟨c,hc,e,_⟩:=Fq eb;rw[<-e];exact aF (f:=λc:Cz=>c.tg.1) hc
 refine Bs (t:=LL _ _) (λσ' H'=>∃(v4:Option V),σ'=[some (.ref d),some (.ref la),some (.ref df),some (.ref lw),v4]/\Al H H'/\H' df=some (.dK (Bi (L4 cs (ps.map (·.2.1)))))) (λN hN=>?_) ?_
 ·refine⟨λm σ' H'=>∃(ws:List (Addr×Tg)) (fs:List Int) (v4:Option V),σ'=[some (.ref d),some (.ref la),some (.ref df),some (.ref lw),v4]/\Al H H'/\H' df=some (.dK (Bi fs))/\Hj H' lw ws/\Nh (bm cs) m (ws.map (·.2.1)) fs=L4 cs (ps.map (·.2.1))/\ws.length+4*(cs.length-fs.length)<=m/\fs.Nodup/\(∀p∈ws,Ok p.2.1)/\(∀z∈fs,Ok z)/\m<=300,
   ⟨ps.length+4*cs.length,ps,[],none,rfl,s12,hdf2,⟨hlw,λp hp=>s12.get (hla.2 p hp)⟩,by unfold L4;rw[aa],by simp,by simp,okw,(λ_ h=>nomatch h),by have:=bx.few;omega⟩,?_⟩
  rintro m σ' H3 ⟨ws,fs,v4,rfl,s3,hdf3,hlw3,er,hm,nd,okws,okfs,m3⟩
  refine⟨_,rfl,Fm,λle nle=>?_⟩;have s4:=Af nle (.lst []);have hle:(upd H3 le (.lst [])) le=some (.lst []):=Ad;have hdf4:=s4.get hdf3;have hlw4:=hlw3.same s4;have s34:=s3.trans s4;generalize upd H3 le (.lst [])=H4 at s4 hle hdf4 hlw4 s34;refine⟨lw,le,_,rfl,rfl,AB.of hlw4.1,AB.of hle,_,rfl,DN (λc=>?_) (λc=>?_)⟩
  ·rcases gi ws with rfl|⟨ws,y,rfl⟩
   ·exact absurd c (by simp)
   rw[gj] at *;have y1:Dm H4 y.1 y.2:=hlw4.2 y (aK _ ay);have oy:=okws y (aK _ ay);rw[au,bS] at hm;obtain⟨m,rfl⟩:∃m',m=m'+1:=⟨m-1,by omega⟩
   rw[aq,List.map_singleton,Mz] at er;refine⟨_,λσ' H' h=>⟨m,cH m,h⟩,?_⟩;have hlast:((ws++[y]).map λp=>V.ref p.1)[((ws++[y]).map λp=>V.ref p.1).length-1]?=some (.ref y.1):=by
    rw[aq,au,bF (by simp)];simp
   have hdl:((ws++[y]).map λp=>V.ref p.1).dropLast=ws.map λp=>V.ref p.1:=by
    rw[aq];exact gA
   have k5:=KT.lst hlw4.1 (.lst (ws.map λp=>V.ref p.1));have hlw5:Hj (upd H4 lw (.lst (ws.map λp=>V.ref p.1))) lw ws:=⟨Ad,λp hp=>k5 _ _ (hlw4.2 p (bf _ hp))⟩
   have s5:Al H (upd H4 lw (.lst (ws.map λp=>V.ref p.1))):=AI s34 nlwH _;have hdf5:(upd H4 lw (.lst (ws.map λp=>V.ref p.1))) df=some (.dK (Bi fs)):=by rw[An nlf];exact hdf4
   refine Ao ⟨_,rfl,.inl ⟨rfl,_,AB.of hlw4.1⟩,lw,_,_,rfl,rfl,hlw4.1,hlast,?_⟩;rw[hdl];refine⟨y.1,_,_,_,rfl,rfl,AD.of (k5 _ _ y1),Aj (j:=0) rfl,?_⟩;dsimp only[Aq];generalize upd H4 lw (.lst (ws.map λp=>V.ref p.1))=H5 at hlw5 s5 hdf5;have g:=FO.k (k:=.inl y.2.1) hdf5;refine⟨_,rfl,_,rfl,df,_,rfl,g,_,rfl,DN (λc=>?_) (λc=>?_)⟩
   ·have hz:y.2.1∉fs:=λh=>by
     rw[show EU (Bi fs) (.inl y.2.1)=some (.bl true) from JG (k:=λz:Int=>.inl z) (g:=λ_=>.bl true) (bJ.mpr (nd.imp λh e=>h (cQ e))) y.2.1 h] at c;cases c
    rw[aH hz] at er;obtain⟨b,eb,l3,okb⟩:=cl _ oy;obtain⟨cc,hc,e1,e2⟩:=Fq eb;have nd':(fs++[y.2.1]).Nodup:=cX.mpr ⟨nd,by simp,λa ha c hc e=>hz (by rw[ai.mp hc] at e;rw[<-e];exact ha)⟩;have hf':∀x∈fs++[y.2.1],Ok x:=λx hx=>by
     rcases aB.mp hx with hx|hx
     ·exact okfs x hx
     ·rw[ai.mp hx];exact oy
    have lN:=FU nd' λx hx=>N0 x (hf' x hx)
    rw[au,bS,aa] at lN;have lf50:=bx.few;have put:putK (Bi fs) (.inl y.2.1) (.bl true)=Bi (fs++[y.2.1]):=by
     rw[Bi,Bi,Jx _ (Jt (k:=λz:Int=>.inl z) (g:=λ_=>.bl true) (z:=.inl y.2.1) λr hr e=>hz (by rw[<-cQ e];exact hr)),aq];rfl
    refine⟨_,rfl,_,rfl,df,_,rfl,L7.k (k:=.inl y.2.1) hdf5 (Bh (by rw[Bi,aa];omega)),?_⟩;rw[put];have k6:KT H5 (upd H5 df (.dK (Bi (fs++[y.2.1])))):=λc xs e=>by rw[An λw=>by rw[w,hdf5] at e;cases e];exact e
    have s6:Al H (upd H5 df (.dK (Bi (fs++[y.2.1])))):=AI s5 ndf _;have hdf6:(upd H5 df (.dK (Bi (fs++[y.2.1])))) df=some (.dK (Bi (fs++[y.2.1]))):=Ad;have hlw6:Hj (upd H5 df (.dK (Bi (fs++[y.2.1])))) lw ws:=⟨by rw[An (Ne.symm nlf)];exact hlw5.1,λp hp=>k6 _ _ (hlw5.2 p hp)⟩
    generalize upd H5 df (.dK (Bi (fs++[y.2.1])))=H6 at k6 s6 hdf6 hlw6;have bx6:=bx.same s6;obtain⟨c1,c2,c3⟩:=bx6.ce cc hc;have g6:=bx6.get hc;rw[e1] at g6;rw[e2] at c3;dsimp only[IG];refine⟨_,rfl,.inl ⟨rfl,_,AB.of hlw6.1⟩,_,rfl,_,rfl,d,_,rfl,g6,cc.p,_,_,_,rfl,rfl,AD.of c1,Aj (j:=1) rfl,cc.v,b,rfl,c3,by omega,λl qs H7 s7 nl hl7 eq=>?_⟩;have hlw7:=hlw6.same s7;have lq:qs.length<=3:=by rw[<-eq,aa] at l3;exact l3
    have nl6:lw≠l:=λw=>by rw[<-w,hlw6.1] at nl;cases nl
    refine⟨lw,l,_,_,rfl,rfl,hlw7.1,hl7.1,small (by rw[aa,aa];omega),?_⟩;have k8:=KT.lst hlw7.1 (.lst (ws.map (λp=>V.ref p.1)++qs.map λp=>V.ref p.1));have et:LM (bm cs) y.2.1=qs.map (·.2.1):=by unfold LM;rw[eb];dsimp only;rw[<-eq,aj];rfl
    refine⟨ws++qs,fs++[y.2.1],_,rfl,AI (s6.trans s7) nlwH _,by rw[An nlf];exact s7.get hdf6,⟨by rw[Ad,aq],λp hp=>?_⟩,by rw[aq,<-et];exact er,?_,nd',λp hp=>?_,hf',by omega⟩
    ·rcases aB.mp hp with hp|hp
     ·exact k8 _ _ (hlw7.2 p hp)
     ·exact k8 _ _ (hl7.2 p hp)
    ·rw[au,au,bS];omega
    ·rcases aB.mp hp with hp|hp
     ·exact okws p (bf _ hp)
     ·exact okb p.2 (by rw[<-eq];exact aF hp)
   ·have hz:y.2.1∈fs:=Classical.byContradiction λh=>by
     rw[show EU (Bi fs) (.inl y.2.1)=none from Jt (k:=λz:Int=>.inl z) (g:=λ_=>.bl true) λr hr e=>h (by rw[<-cQ e];exact hr)] at c;exact c rfl
    rw[aI hz] at er;exact⟨ws,fs,_,rfl,s5,hdf5,hlw5,er,by omega,nd,λp hp=>okws p (bf _ hp),okfs,by omega⟩
  ·have e:ws=[]:=by
    rcases ws with _|⟨y,ws⟩
    ·rfl
    ·exact absurd (by simp) c
   subst e;rw[bY,N5] at er;refine hN _ _ ⟨_,rfl,s34,?_⟩;rw[<-er];exact hdf4
 ·rintro σ' H3 ⟨v4,rfl,s3,hdf3⟩
  exact⟨_,rfl,q df H3 s3 ndf hdf3⟩
structure Hd (H:Hp) (h:Addr) (ag:Int) (ka ea:Addr) (ks:List (Addr×Str×Int)) (ps:List (Addr×HE)):Prop where
 at_:H h=some (.tup [.int ag,.ref ka,.ref ea])
 kt:H ka=some (.tup (ks.map λp=>V.ref p.1))
 ke:∀k∈ks,EB H k
 kn:(ks.map (·.2.1)).Nodup
 kl:ks.length<=8
 et:H ea=some (.tup (ps.map λp=>V.ref p.1))
 en:∀p∈ps,FN H p
 og:∀p∈ps,Jz p.2
 nd:(ps.map (·.2.nm)).Nodup
 el:ps.length<=12
theorem Hd.same {H H':Hp}{h:Addr}{ag:Int}{ka ea:Addr}{ks:List (Addr×Str×Int)}{ps:List (Addr×HE)}(a:Hd H h ag ka ea ks ps)(s:Al H H'):Hd H' h ag ka ea ks ps:=
 ⟨s.get a.at_,s.get a.kt,λk hk=>s.get (a.ke k hk),a.kn,a.kl,s.get a.et,λp hp=>(a.en p hp).same s,a.og,a.nd,a.el⟩
def U5 (z:Str)(x:Addr×HE):Bool:=decide (V.int x.2.kd=V.int 1)&&decide (V.str x.2.ow=V.str z)
def U3 (ps:List (Addr×HE))(z:Str):List V:=(ps.filter (U5 z)).map λx=>.str x.2.nm
def Ug (ss:List V)(x:Addr×HE):Bool:=SW (.str x.2.nm) ss||(decide (V.int x.2.kd=V.int 2)&&SW (.str x.2.ow) ss)
def Pt (cs:List Cz)(ps:List (Addr×HE))(z:Str):List Int:=L4 cs ((ps.filter (Ug (U3 ps z))).map (·.2.tg.1))
structure Hl (H:Hp) (dh:Addr) (cs:List Cz) (ps:List (Addr×HE)) (hs:List (Str×Addr)):Prop where
 at_:H dh=some (.dK (hs.map λr=>(.inr r.1,.ref r.2)))
 ea:∀r∈hs,H r.2=some (.dK (Bi (Pt cs ps r.1)))
 nd:(hs.map (·.1)).Nodup
theorem Hl.same {H H':Hp}{dh:Addr}{cs:List Cz}{ps:List (Addr×HE)}{hs:List (Str×Addr)}(a:Hl H dh cs ps hs)(s:Al H H'):Hl H' dh cs ps hs:=⟨s.get a.at_,λr hr=>s.get (a.ea r hr),a.nd⟩
def FG (K:W.Frag):Sp:=λvs H Q _=>∃(d h:Addr) (cs:List Cz) (ag:Int) (ka ea:Addr) (ks:List (Addr×Str×Int)) (ps:List (Addr×HE)) (Ok:Int->Prop),vs=[.ref d,.ref h]/\Bx H d cs/\Hd H h ag ka ea ks ps/\LZ (bm cs) Ok/\(∀p∈ps,Ok p.2.tg.1)/\
 ∀dh hs H',Al H H'->H dh=none->Hl H' dh cs ps hs->hs.map (·.1)=ks.map (·.2.1)->Q (.ref dh) H'
theorem Lq (T:Txt K mg C XC)(F:Fun K "_law_held" "_law_held" CZ f fd)(B4:Def P w K mg base 2 "_law_reached" ["_law_blocks_here","_law_tags_here"] (CN K)):FnOk P w K mg base CU 3 f fd ["_law_blocks_here","_law_head_here"] (FG K):=by
 exists CI
 ·obtain⟨d,h,cs,ag,ka,ea,ks,ps,Ok,rfl,_⟩:=h;rfl
 obtain⟨d,h,cs,ag,ka,ea,ks,ps,Ok,rfl,bx,hd,cl,okw,q⟩:=h;have hu:=Cp hr;have hu9:=B8 hr;refine⟨_,(!Ae (@Ap _ _ (2) _ _ _ _ CI.nd rfl (by trivial) (!Gc) (by rfl) (by trivial)) (!Ae (!BF aT rfl (!B9 (!Ai Ar (pv 1) (!Ab) (λ_ _=>rfl))) (!D5 rfl (!Av (@Ak _ _ (3) _ CI.nd rfl (by trivial) (by trivial)) (!Av (@Ak _ _ (4) _ CI.nd rfl (by trivial) (by trivial)) (!BU)))) (!Ae (@Ap _ _ (5) _ _ _ _ CI.nd rfl (by trivial) (@Cb _ ["_law_entry","_law_keeper"] [none,some 3] _ _ _ _ _ _ _ _ _ _ _ rfl (!B9 (!Ai Ar (pv 1) (!Ab) (λ_ _=>rfl))) (by rfl) rfl (by repeat (first|exact trivial|refine⟨rfl,?_⟩)) (by repeat (first|exact trivial|refine⟨λh=>(by first|exact⟨_,rfl⟩|cases h),?_⟩)) (λC s H fp=>⟨(@Ak _ _ (0) _ (show(["_law_entry","_law_keeper"]:List Str).Nodup by decide +kernel) rfl (by trivial) (by trivial)),(!Dc (@PW.pt _ _ _ (!Im (!AA CJ (!Ai (AS (K:=K) (by rfl)) (pv 0) (!Ab) (λ_ _=>rfl)) (!Ab) (AG _)) (!Hg (!AA CJ (!Ai (AS (K:=K) (by rfl)) (pv 0) (!Ab) (λ_ _=>rfl)) (pv 1) (AG _)))))),(!Ai (AS (K:=K) (by rfl)) (pv 0) (!Ab) (λ_ _=>rfl))⟩) (by intro _;rfl)) (by rfl) (by trivial)) (!Ae (@GX _ ["_law_entry","_law_stems"] [none,some 5] (6) _ _ _ _ _ _ _ _ _ _ _ _ _ _ CI.nd rfl (by trivial) rfl (!B9 (!Ai Ar (pv 1) (!Ab) (λ_ _=>rfl))) (by rfl) rfl (by repeat (first|exact trivial|refine⟨rfl,?_⟩)) (by repeat (first|exact trivial|refine⟨λh=>(by first|exact⟨_,rfl⟩|cases h),?_⟩)) (λC s H fp=>⟨(@Ak _ _ (0) _ (show(["_law_entry","_law_stems"]:List Str).Nodup by decide +kernel) rfl (by trivial) (by trivial)),(!Dc (@PW.pt _ _ _ (!Hh (!AA (GG (K:=K) (by rfl)) (!Ai (AS (K:=K) (by rfl)) (pv 0) (!Ab) (λ_ _=>rfl)) (pv 1)) (!FS (@PW.pt _ _ _ (!Im (!AA CJ (!Ai (AS (K:=K) (by rfl)) (pv 0) (!Ab) (λ_ _=>rfl)) (!Ab) (AG _)) (!Hg (!AA (GG (K:=K) (by rfl)) (!Ai (AS (K:=K) (by rfl)) (pv 0) (!Ab) (λ_ _=>rfl)) (pv 1))))))))),(!Ai (AS (K:=K) (by rfl)) (pv 0) (!Ab) (λ_ _=>rfl))⟩) (by intro _;rfl) (by rfl) (by trivial)) (!Ah (!IZ hu (pv 2) (pv 3) (!AM B4 (by trivial) rfl (!Aa (pv 0) (!Aa (pv 6) (!Ac)))))))) (by intro _;rfl)) (!Ah (!As (pv 2))))),?_⟩
 try dsimp only[Bw,Cx.nox,Cx.wish]
 refine Ao λdh ndh=>?_
 have s1:=Af ndh (.dK []);have hdh:(upd H dh (.dK [])) dh=some (.dK []):=Ad;dsimp only[Aq];generalize upd H dh (.dK [])=H1 at s1 hdh;refine Bs (t:=GR _ _ _) (λσ' H'=>∃(hs:List (Str×Addr)) (v3 v4 v5 v6:Option V),σ'=[some (.ref d),some (.ref h),some (.ref dh),v3,v4,v5,v6]/\Al H H'/\Hl H' dh cs ps hs/\hs.map (·.1)=ks.map (·.2.1)) (λN hN=>?_) ?_
 ·refine⟨_,rfl,h,_,_,_,rfl,rfl,AD.of (s1.get hd.at_),Aj (j:=1) rfl,ka,rfl,⟨_,AD.of (s1.get hd.kt)⟩,?_⟩;refine Gr (K:=K) (a:=ka) (xs:=ks.map λp=>V.ref p.1) (λi σ H'=>∃(hs:List (Str×Addr)) (v3 v4 v5 v6:Option V),σ=[some (.ref d),some (.ref h),some (.ref dh),v3,v4,v5,v6]/\Al H H'/\Hl H' dh cs ps hs/\hs.map (·.1)=(ks.take i).map (·.2.1)) ⟨[],none,none,none,none,rfl,s1,⟨hdh,(λ_ h=>nomatch h),by simp⟩,rfl⟩ (by rintro i σ H' _ ⟨_,_,_,_,_,_,s',_⟩;exact AD.of (s'.get hd.kt)) ?_ ?_
  ·rintro i x σ H2 hi ⟨hs,v3,v4,v5,v6,rfl,s2,hl2,ehs⟩
   obtain⟨k,rfl,hk⟩:=Ew hi;have hd2:=hd.same s2;dsimp only[Aq];refine⟨k.1,_,rfl,AD.of (hd2.ke k (aE hk)),rfl,_,_,rfl,_,_,rfl,rfl,?_⟩;have k8:=(ar.mp hk).1;have kl:=hd.kl;have el:=hd.el;have lh:hs.length<=8:=by have:=congrArg List.length ehs;rw[aa,aa,aQ] at this;omega
   have at5:∀x∈ps,∃ta,H2 x.1=some (.tup [.str x.2.nm,.int x.2.kd,.str x.2.ow,kV x.2.og,.ref ta])/\Dm H2 ta x.2.tg:=λx hx=>hd2.en x hx
   refine Ao ⟨_,rfl,h,_,_,_,rfl,rfl,AD.of hd2.at_,Aj (j:=2) rfl,ea,rfl,⟨_,AD.of hd2.et⟩,DS (ps:=ps) (U5 k.2.1) (λx=>.str x.2.nm) (B2 hd2.et) (by omega) (λx hx H' R s' hR=>?_) (λx hx px H' R s' hR=>?_) λls H3 nls s3 hls=>?_⟩
   ·obtain⟨ta,h1,_⟩:=at5 x hx;exact JP _ _ (λR q=>⟨_,rfl,x.1,_,_,_,rfl,rfl,AD.of (s'.get h1),Aj (j:=1) rfl,rfl,_,rfl,q⟩) (λ_ R q=>⟨_,rfl,x.1,_,_,_,rfl,rfl,AD.of (s'.get h1),Aj (j:=2) rfl,_,rfl,rfl,_,rfl,q⟩) hR
   ·obtain⟨ta,h1,_⟩:=at5 x hx;exact⟨_,rfl,x.1,_,_,_,rfl,rfl,AD.of (s'.get h1),Aj (j:=0) rfl,hR H' (Al.refl _)⟩
   have hls:H3 ls=some (.lst (U3 ps k.2.1)):=hls;have fl:(U3 ps k.2.1).all GE=true:=cf.mpr λv hv=>by
    obtain⟨x,_,rfl⟩:=ax.mp hv;rfl
   have hd3:=hd2.same s3;have e23:=s2.trans s3;dsimp only[Aq];refine Ao ⟨_,rfl,h,_,_,_,rfl,rfl,AD.of hd3.at_,Aj (j:=2) rfl,ea,rfl,⟨_,AD.of hd3.et⟩,DX (ps:=ps) (Ug (U3 ps k.2.1)) (λx y H'=>∃ta,y=.ref ta/\Dm H' ta x.2.tg) (λx y H1 H2 ⟨ta,e,h⟩ s=>⟨ta,e,s.get h⟩) (λx y H1 l us us' ⟨ta,e,h⟩ hl=>⟨ta,e,KT.lst hl _ _ _ h⟩) (B2 hd3.et) (by omega) (λx hx H' R s' hR=>?_) (λx hx px H' R s' hR=>?_) λlt H4 ys nlt s4 hlt ey hys=>?_⟩
   ·obtain⟨ta,h1,_⟩:=at5 x hx;have h1:=s'.get (s3.get h1);exact Vu _ _ (λR q=>⟨_,rfl,x.1,_,_,_,rfl,rfl,AD.of h1,Aj (j:=0) rfl,_,rfl,ls,_,rfl,.inl (AB.of (s'.get hls)),rfl,fl,_,rfl,q⟩) (λ_ R q=>JP _ _ (λR q=>⟨_,rfl,x.1,_,_,_,rfl,rfl,AD.of h1,Aj (j:=1) rfl,rfl,_,rfl,q⟩) (λ_ R q=>⟨_,rfl,x.1,_,_,_,rfl,rfl,AD.of h1,Aj (j:=2) rfl,_,rfl,ls,_,rfl,.inl (AB.of (s'.get hls)),rfl,fl,_,rfl,q⟩) q) (hR H' (Al.refl _))
   ·obtain⟨ta,h1,h2⟩:=at5 x hx;exact⟨_,rfl,x.1,_,_,_,rfl,rfl,AD.of (s'.get (s3.get h1)),Aj (j:=4) rfl,hR _ H' (Al.refl _) ⟨ta,rfl,s'.get (s3.get h2)⟩⟩
   obtain⟨rs,e1,e2,hrs⟩:=Gk (R:=λ(x:Addr×HE) t=>Dm H4 t x.2.tg) hys;have s24:=e23.trans s4;have lrs:rs.length<=12:=by
    have:=congrArg List.length e2;rw[ey,aa] at this;have:=bT (Ug (U3 ps k.2.1)) ps;omega
   have hlt:Hj H4 lt (rs.map λr=>(r.2,r.1.2.tg)):=⟨by rw[hlt,e1,aj];rfl,λp hp=>by obtain⟨r,hr,rfl⟩:=ax.mp hp;exact hrs r hr⟩
   dsimp only[Aq];refine⟨_,rfl,_,rfl,d,lt,cs,rs.map λr=>(r.2,r.1.2.tg),Ok,rfl,bx.same s24,hlt,by rw[aa];omega,cl,λp hp=>?_,λdd H5 s5 ndd hdd=>?_⟩
   ·obtain⟨r,hr,rfl⟩:=ax.mp hp;refine okw r.1 ?_;have:r.1∈rs.map (·.1):=aF hr;rw[e2,ey] at this;exact(dz.mp this).1
   have eh:L4 cs ((rs.map λr=>(r.2,r.1.2.tg)).map (·.2.1))=Pt cs ps k.2.1:=by
    unfold Pt;rw[<-ey,<-e2,aj,aj];rfl
   rw[eh] at hdd;have hl5:=hl2.same (s3.trans (s4.trans s5));refine⟨_,rfl,_,rfl,dh,_,rfl,L7.k (k:=.inr k.2.1) hl5.at_ (Bh (by rw[aa];omega)),?_⟩;have hn:k.2.1∉hs.map (·.1):=λh=>by
    rw[ehs] at h;obtain⟨k',hk',e⟩:=ax.mp h;obtain⟨j,hj⟩:=bE hk';have jl:=(ar.mp hj).1;rw[aQ] at jl;rw[cP,aI (by omega)] at hj;have:=bj.mp hd.kn j i (by rw[aa];omega) (by rw[aa];exact k8) (by omega);rw[cb,cb,(ar.mp hj).2,(ar.mp hk).2] at this;exact this e
   have put:putK (hs.map λr=>(.inr r.1,.ref r.2)) (.inr k.2.1) (.ref dd)=(hs++[(k.2.1,dd)]).map λr=>((.inr r.1,.ref r.2):Key×V):=by
    rw[Jx _ (Jt (k:=λr:Str×Addr=>.inr r.1) (g:=λr=>.ref r.2) (z:=.inr k.2.1) λr hr e=>hn (by rw[<-gv e];exact aF (f:=λr:Str×Addr=>r.1) hr)),aq];rfl
   rw[put];have ndd4:dd≠dh:=λw=>by rw[w,(hl2.same (s3.trans s4)).at_] at ndd;cases ndd
   refine⟨hs++[(k.2.1,dd)],_,_,_,_,rfl,AI (s24.trans s5) ndh _,⟨Ad,λr hr=>?_,?_⟩,?_⟩
   ·rcases aB.mp hr with hr|hr
    ·have:=hl5.ea r hr;rw[An λw=>?_]
     ·exact this
     ·have ea:=hl5.ea r hr;rw[w,hl5.at_] at ea;have ea:=HO.dK.inj (aP ea);have m:((.inr r.1,.ref r.2):Key×V)∈Bi (Pt cs ps r.1):=by
       rw[<-ea];exact aF (f:=λr:Str×Addr=>((.inr r.1,.ref r.2):Key×V)) hr
      obtain⟨z,_,e⟩:=ax.mp m;cases e
    ·cases ai.mp hr;rw[An ndd4];exact hdd
   ·rw[aq];exact cX.mpr ⟨hl2.nd,by simp,λa ha c hc e=>hn (by rw[ai.mp hc] at e;have e:a=k.2.1:=e;rw[<-e];exact ha)⟩
   ·rw[aq,ehs,aX,hk,aq];rfl
  ·rintro σ H2 ⟨hs,v3,v4,v5,v6,rfl,s2,hl2,ehs⟩
   rw[aa,bU] at ehs;exact hN _ _ ⟨hs,_,_,_,_,rfl,s2,hl2,ehs⟩
 ·rintro σ' H2 ⟨hs,v3,v4,v5,v6,rfl,s2,hl2,ehs⟩
  exact⟨_,rfl,q dh hs H2 s2 ndh hl2 ehs⟩
def Lu (B:BM):Nat->Int->Int
 |0,_=>0
 |n+1,z=>((ML B z).length:Int)+(((ML B z).filter λe=>decide (V.int e.kd=V.int 2)).map λe=>Lu B n e.tg.1).sum
def NP (n:Nat)(K:W.Frag):Sp:=match n with
 |0=>λ_ _ _ _=>False
 |n+1=>λvs H Q _=>∃(d ta:Addr) (cs:List Cz) (t:Tg) (Nm:Str->Prop),vs=[.ref d,.ref ta]/\Bx H d cs/\Dm H ta t/\Fd (bm cs) Nm (n+1) t.1/\∀H',Al H H'->Q (.int (Lu (bm cs) (n+1) t.1)) H'
def Fj (K:W.Frag):Sp:=NP 6 K
theorem Bx.blk {H:Hp}{d:Addr}{cs:List Cz}(h:Bx H d cs){z:Int}{b:Bk}(e:bm cs z=some b):∃(p ta:Addr) (v:V),FO H d (.int z) (some (.ref p))/\H p=some (.tup [.ref ta,v])/\Rep NL H (FF b) v:=by
 obtain⟨c,hc,rfl,rfl⟩:=Fq e;obtain⟨c1,_,c3⟩:=h.ce c hc;exact⟨c.p,c.ta,c.v,h.get hc,c1,c3⟩
theorem RI (T:Txt K mg C XC)(F:Fun K "_law_many" "_law_many" B7 f fd)(n:Nat)(DF:Def P w K mg base (1+n) "_law_many" ["_law_blocks_here","_law_tag"] (NP n K)):FnOk P w K mg base CU (1+n+1) f fd ["_law_blocks_here","_law_tag"] (NP (n+1) K):=by
 exists Fe
 ·obtain⟨d,ta,cs,t,Nm,rfl,_⟩:=h;rfl
 obtain⟨d,ta,cs,t,Nm,rfl,bx,hta,fdz,q⟩:=h;have hu:=Cp hr;have hu9:=B8 hr;refine⟨_,(!Ae (@Ap _ _ (2) _ _ _ _ Fe.nd rfl (by trivial) (!Ai Ar (!Ai Ar (!CT hu (pv 0) (!Ai Ar (pv 1) (!Ab) (λ_ _=>rfl)) (λ_ _=>rfl)) (!Ab) (λ_ _=>rfl)) (!Ab) (λ_ _=>rfl)) (by rfl) (by trivial)) (!Ah (!As (!Am AE (!Aw A0 (by rfl) T.b_len Cs (!Aa (pv 2) (!Ac))) (!Aw (JN rfl) (by rfl) T.b_sum MZ (!Aa (@Cb _ ["_law_entry","_law_blocks_here"] [none,some 0] _ _ _ _ _ _ _ _ _ _ _ rfl (!B9 (pv 2)) (by rfl) rfl (by repeat (first|exact trivial|refine⟨rfl,?_⟩)) (by repeat (first|exact trivial|refine⟨λh=>(by first|exact⟨_,rfl⟩|cases h),?_⟩)) (λC s H fp=>⟨(@Ak _ _ (0) _ (show(["_law_entry","_law_blocks_here"]:List Str).Nodup by decide +kernel) rfl (by trivial) (by trivial)),(!Dc (!AA CJ (!Ai (AS (K:=K) (by rfl)) (pv 0) (!Ab) (λ_ _=>rfl)) (!Ab) (AG _))),(!AM DF (hr.mono (by omega)) rfl (!Aa (pv 1) (!Aa (!Ai (AS (K:=K) (by rfl)) (pv 0) (!Ab) (λ_ _=>rfl)) (!Ac))))⟩) (by intro _;rfl)) (!Ac))))))),?_⟩
 try dsimp only[Bw,Cx.nox,Cx.wish]
 obtain⟨es,eb,l3,nd,hes⟩:=fdz;obtain⟨p,tb,v,g,hp,hv⟩:=bx.blk eb;obtain⟨a,b,us,rfl,ha,hb,r⟩:=Cq hv;obtain⟨ps,rfl,rfl,hps⟩:=JD r;rw[aa] at l3;refine Ao ⟨_,rfl,_,rfl,ta,_,_,_,rfl,rfl,AD.of hta,Aj (j:=0) rfl,d,_,rfl,g,p,_,_,_,rfl,rfl,AD.of hp,Aj (j:=1) rfl,a,_,_,_,rfl,rfl,AD.of ha,Aj (j:=1) rfl,?_⟩;dsimp only[Aq];refine⟨_,rfl,b,_,rfl,.inr (AD.of hb),_,rfl,b,rfl,⟨_,AD.of hb⟩,DS (ps:=ps) (λx=>decide (V.int x.2.kd=V.int 2)) (λx=>.int (Lu (bm cs) n x.2.tg.1)) (B2 hb) (by omega) (λx hx H' R s' hR=>?_) (λx hx px H' R s' hR=>?_) λl H1 nl s1 hl=>?_⟩
 ·obtain⟨tt,h1,_⟩:=hps x hx;exact⟨_,rfl,x.1,_,_,_,rfl,rfl,AD.of (s'.get h1),Aj (j:=1) rfl,rfl,_,rfl,hR⟩
 ·obtain⟨tt,h1,h2⟩:=hps x hx;have k2:x.2.kd=2:=VB px;have f2:Fd (bm cs) Nm n x.2.tg.1:=by
   rcases(hes x.2 (aF hx)).2 with⟨k,_⟩|⟨_,k⟩
   ·rw[k2] at k;cases k
   ·exact k
  refine⟨_,rfl,_,rfl,x.1,_,_,_,rfl,rfl,AD.of (s'.get h1),Aj (j:=2) rfl,?_⟩;cases n with
  |zero=>exact f2.elim
  |succ n=>exact⟨d,tt,cs,x.2.tg,Nm,rfl,bx.same s',s'.get h2,f2,hR⟩
 ·refine⟨l,((ps.filter λx=>decide (V.int x.2.kd=V.int 2)).map λx=>Lu (bm cs) n x.2.tg.1),rfl,AB.of (by rw[hl,aj];rfl),_,_,rfl,rfl,?_⟩;have e:=q H1 s1;rw[Lu,C6 eb,fk,aj,aa] at e;rw[aa];exact e
theorem PQ (T:Txt K mg C XC)(F:Fun K "_law_many" "_law_many" B7 f fd)(hm:mg "_law_many"=some (.ref f))(hk:W.keepIn K (.ref f)=true)(hb:Binds K fd ["_law_blocks_here","_law_tag"] []):∀n,FnOk P w K mg base CU (1+n) f fd ["_law_blocks_here","_law_tag"] (NP n K)
 |0=>F.ok Fe (λvs H Q E h=>h.elim) (λcdv A outer s H vs Q E hr h=>h.elim)
 |n+1=>RI T F n ⟨f,fd,PQ T F hm hk hb n,hm,hk,hb⟩
theorem Lz (T:Txt K mg C XC)(F:Fun K "_law_many" "_law_many" B7 f fd)(hm:mg "_law_many"=some (.ref f))(hk:W.keepIn K (.ref f)=true)(hb:Binds K fd ["_law_blocks_here","_law_tag"] []):FnOk P w K mg base CU 7 f fd ["_law_blocks_here","_law_tag"] (Fj K):=
 PQ T F hm hk hb 6
theorem US:∀c∈AR LN,c∈AR SG:=by decide +kernel
theorem UU {z:Str}(h:Sq z):z.length<=8/\OG z:=⟨h.2.1,λc hc=>US c (h.2.2 c hc)⟩
def EK (K:W.Frag):Sp:=λvs H Q _=>∃(sa na:Addr) (ns:List Int) (zs:List Str),vs=[.ref sa,.ref na]/\AB K H sa (ns.map V.int)/\AB K H na (zs.map V.str)/\zs.length=18/\zs.Nodup/\(∀z∈zs,Sq z)/\
 ∀t pl d h cs ag ka ea (ks:List (Addr×Str×Int)) (ps:List (Addr×HE)) H',Al H H'->H' t=some (.tup [.ref pl,.ref d,.ref h])->Bx H' d cs->Hd H' h ag ka ea ks ps->(∀p∈ps,p.2.nm∈zs/\Fd (bm cs) (·∈zs) 6 p.2.tg.1/\Lu (bm cs) 6 p.2.tg.1<=60)->Q (.ref t) H'
theorem Kj (T:Txt K mg C XC)(F:Fun K "_law_built" "_law_built" Cw f fd)(AL:Def P w K mg base 1 "_law_cell_at" ["_law_script","_law_k"] (BI K))(EV:Def P w K mg base 3 "_law_blocks" ["_law_script","_law_pool","_law_names_here"] (Eb K))(Gi:Def P w K mg base 2 "_law_head" ["_law_script","_law_names_here","_law_folders"] (Fk K))(DF:Def P w K mg base 7 "_law_many" ["_law_blocks_here","_law_tag"] (Fj K)):FnOk P w K mg base CU 8 f fd ["_law_script","_law_names_here"] (EK K):=by
 exists Cm
 ·obtain⟨sa,na,ns,zs,rfl,_⟩:=h;rfl
 obtain⟨sa,na,ns,zs,rfl,hsa,hna,lz,ndz,nmz,q⟩:=h;have hu:=Cp hr;have hu9:=B8 hr;refine⟨_,(!Ae (@Ap _ _ (2) _ _ _ _ Cm.nd rfl (by trivial) (!AM AL (by trivial) rfl (!Aa (pv 0) (!Aa (!Ab) (!Ac)))) (by rfl) (by trivial)) (!Ae (@Ap _ _ (3) _ _ _ _ Cm.nd rfl (by trivial) (!Gc) (by rfl) (by trivial)) (!Ae (@Ap _ _ (4) _ _ _ _ Cm.nd rfl (by trivial) (!AY (!Aa (!Am AQ (!Am Ep (pv 2) (!Ab)) (!Ab)) (!Aa (!Am AE (!Ab) (!Am AQ (!Am Ep (pv 2) (!Ab)) (!Ab))) (!Ac)))) (by rfl) (by trivial)) (!Ae (!Lr (!AM EV (by trivial) rfl (!Aa (pv 0) (!Aa (pv 4) (!Aa (pv 1) (!Ac))))) (!D5 rfl (!Av (@Ak _ _ (3) _ Cm.nd rfl (by trivial) (by trivial)) (!Av (@Ak _ _ (5) _ Cm.nd rfl (by trivial) (by trivial)) (!BU))))) (!Ah (!As (!AY (!Aa (pv 4) (!Aa (pv 3) (!Aa (!AM Gi (by trivial) rfl (!Aa (pv 0) (!Aa (pv 1) (!Aa (@Cb _ ["_law_tag","_law_blocks_here"] [none,some 3] _ _ _ _ _ _ _ _ _ _ _ rfl (!BA (pv 5)) (by rfl) rfl (by repeat (first|exact trivial|refine⟨rfl,?_⟩)) (by repeat (first|exact trivial|refine⟨λh=>(by first|exact⟨_,rfl⟩|cases h),?_⟩)) (λC s H fp=>⟨(@Ak _ _ (0) _ (show(["_law_tag","_law_blocks_here"]:List Str).Nodup by decide +kernel) rfl (by trivial) (by trivial)),(!Dc (!AA N9 (!AM DF (by trivial) rfl (!Aa (pv 1) (!Aa (pv 0) (!Ac)))) (!Ab) (AG _))),(pv 0)⟩) (by intro _;rfl)) (!Ac))))) (!Ac))))))))))),?_⟩
 try dsimp only[Bw,Cx.nox,Cx.wish]
 refine Ao ⟨_,rfl,sa,ns,0,rfl,by decide,hsa,λc1=>?_⟩;dsimp only[Aq];refine Ao λd0 nd0=>?_
 have s0:=Af nd0 (.dK []);dsimp only[Aq];generalize upd H d0 (.dK [])=H0 at s0;have a0:=bc (c1/3) (show(999983:Int)≠0 by decide);have b0:=bc (c1/5) (show(999982:Int)≠0 by decide);have b1:=aU (c1/5) (show(0:Int)<999982 by decide);refine Ao ⟨_,rfl,_,_,rfl,rfl,⟨by decide,by decide⟩,_,_,rfl,rfl,(by show(0:Int)<999983;decide),_,rfl,_,_,rfl,rfl,⟨by decide,by decide⟩,_,_,rfl,rfl,(by show(0:Int)<999982;decide),_,_,rfl,rfl,E3,λpl npl=>?_⟩;have s1:=Af npl (.tup [.int (c1/3%999983),.int (1+c1/5%999982)]);have hpl:(upd H0 pl (.tup [.int (c1/3%999983),.int (1+c1/5%999982)])) pl=some (.tup [.int (c1/3%999983),.int (1+c1/5%999982)]):=Ad;dsimp only[Aq];generalize upd H0 pl (.tup [.int (c1/3%999983),.int (1+c1/5%999982)])=H1 at s1 hpl;have s01:=s0.trans s1;refine Ao ⟨_,rfl,_,rfl,_,rfl,sa,pl,na,ns,_,_,zs,rfl,s01.seq hsa,hpl,a0,by omega,by omega,s01.seq hna,(λe=>by rw[e] at lz;cases lz),by omega,λz hz=>UU (nmz z hz),λt d fo cs gs H2 sb ht hfo tg hgs hem lgs=>?_⟩;have s02:=s01.trans sb.sm;have bx:Bx H2 d cs:=⟨sb.bn.at_,sb.bn.ce,sb.bn.nd (by have:=sb.few;omega),by have:=sb.few;omega⟩
 dsimp only[Aq];refine⟨t,_,rfl,AD.of ht,rfl,_,_,rfl,_,_,rfl,rfl,?_⟩;refine⟨_,rfl,_,rfl,_,rfl,_,rfl,_,rfl,fo,rfl,⟨_,AB.of hfo⟩,DX (ps:=gs) (λx=>decide (Lu (bm cs) 6 x.2.1<=60)) (λx y _=>y=.ref x.1) (λ_ _ _ _ h _=>h) (λ_ _ _ _ _ _ h _=>h) (B5 (AB.of hfo)) (by omega) (λx hx H' R s' hR=>?_) (λx hx _ H' R s' hR=>⟨_,rfl,hR _ H' (Al.refl _) rfl⟩) λl H3 ys nl s3 hl ey hys=>?_⟩
 ·exact⟨_,rfl,_,rfl,d,x.1,cs,x.2,_,rfl,bx.same s',s'.get (tg x hx),hgs x hx,λH'' s''=>⟨_,_,rfl,rfl,_,rfl,hR H'' s''⟩⟩
 have eys:ys.map (·.2)=(gs.filter λx=>decide (Lu (bm cs) 6 x.2.1<=60)).map λx=>V.ref x.1:=by
  rw[<-ey,aj];exact bP λy hy=>hys y hy
 rw[eys] at hl;have s03:=s02.trans s3;have hgs':∀g∈gs.filter λx=>decide (Lu (bm cs) 6 x.2.1<=60),g∈gs/\Lu (bm cs) 6 g.2.1<=60:=λg hg=>by
  obtain⟨h1,h2⟩:=dz.mp hg;exact⟨h1,bh h2⟩
 have lf:=bT (λx:Addr×Tg=>decide (Lu (bm cs) 6 x.2.1<=60)) gs;have nf:gs.filter (λx=>decide (Lu (bm cs) 6 x.2.1<=60))≠[]:=λe=>by
  obtain⟨g,hg,eg⟩:=hem;have m0:Lu (bm cs) 6 g.2.1=0:=by rw[Lu,C6 eg];rfl
  have:g∈gs.filter λx=>decide (Lu (bm cs) 6 x.2.1<=60):=dz.mpr ⟨hg,aR (by rw[m0];decide)⟩
  rw[e] at this;cases this
 refine⟨sa,na,l,ns,zs,_,rfl,s03.seq hsa,s03.seq hna,lz,ndz,⟨hl,λg hg=>s3.get (tg g (hgs' g hg).1)⟩,nf,by omega,λh ag ka ea ks ps H4 s4 hh hka hks ndk lks hea hps ndp lps=>?_⟩;refine⟨II,λtt ntt=>?_⟩;have s5:=Af ntt (.tup [.ref pl,.ref d,.ref h]);have s25:=s3.trans (s4.trans s5);refine q tt pl d h cs ag ka ea ks ps _ (s02.trans s25) Ad (bx.same s25) ⟨s5.get hh,s5.get hka,λk hk=>s5.get (hks k hk),ndk,lks,s5.get hea,λp hp=>((hps p hp).1).same s5,λp hp=>(hps p hp).2.1,ndp,lps⟩ λp hp=>?_
 obtain⟨_,_,h3,g,hg,eg⟩:=hps p hp;obtain⟨h4,h5⟩:=hgs' g hg;rw[eg];exact⟨h3,hgs g h4,h5⟩
def Px:Nat->Tr->Int
 |_,.str z=>2+(z.length:Int)
 |n+1,.tup ts=>2+(ts.map (Px n)).sum
 |_,_=>2
def UL:Nat->Tr->Prop
 |_,.int _=>True
 |_,.str z=>z.length<=1000
 |n+1,.tup ts=>ts.length<=1000/\∀t∈ts,UL n t
 |_,_=>False
def Oa (n:Nat)(K:W.Frag):Sp:=match n with
 |0=>λ_ _ _ _=>False
 |n+1=>λvs H Q _=>∃v t,vs=[v]/\Rep NL H t v/\UL n t/\∀H',Al H H'->Q (.int (Px n t)) H'
def ER (K:W.Frag):Sp:=Oa 6 K
theorem R7 (T:Txt K mg C XC)(F:Fun K "_law_words" "_law_words" BL f fd)(n:Nat)(Dd:Def P w K mg base (1+n) "_law_words" ["_law_thing"] (Oa n K)):FnOk P w K mg base CU (1+n+1) f fd ["_law_thing"] (Oa (n+1) K):=by
 exists GD
 ·obtain⟨v,t,rfl,_⟩:=h;rfl
 obtain⟨v,t,rfl,hv,ht,q⟩:=h;refine⟨_,(!Ae (!Bu (!Gh (!Aw Eo (by rfl) T.b_isinstance AZ (!Aa (pv 0) (!Aa (!Ji rfl T.b_int Lc) (!Ac)))) (by intro _;rfl)) (!Ah (!As (!Ab))) (!AO)) (!Ae (!Bu (!Gh (!Aw Eo (by rfl) T.b_isinstance AZ (!Aa (pv 0) (!Aa (!Ji rfl T.b_str PY) (!Ac)))) (by intro _;rfl)) (!Ah (!As (!Am AE (!Ab) (!Aw Fg (by rfl) T.b_len Cs (!Aa (pv 0) (!Ac)))))) (!AO)) (!Ah (!As (!Am AE (!Ab) (!Aw (JN rfl) (by rfl) T.b_sum MZ (!Aa (@BO _ ["_law_part"] _ _ _ _ _ _ _ _ _ _ rfl (!B9 (pv 0)) (by decide +kernel) (λC s H fp=>⟨(@Ak _ _ (0) _ (show(["_law_part"]:List Str).Nodup by decide +kernel) rfl (by trivial) (by trivial)),(!AW),(!AM Dd (hr.mono (by omega)) rfl (!Aa (pv 0) (!Ac)))⟩) (by intro _;rfl)) (!Ac)))))))),?_⟩
 try dsimp only[Bw,Cx.nox,Cx.wish]
 cases t with
 |int i=>
  cases(show v=V.int i from hv);have ok:Ok H (.int i):=trivial;refine⟨_,rfl,_,_,_,_,rfl,ok.ty K,ok.kit K,_,rfl,DR (by show isA "int" "int"=true;decide) ?_⟩;have e:=q H (Al.refl _);cases n<;>exact e
 |str z=>
  cases(show v=V.str z from hv);have lz:z.length<=1000:=by cases n<;>exact ht
  have ok:Ok H (.str z):=lz;refine⟨_,rfl,_,_,_,_,rfl,ok.ty K,ok.kit K,_,rfl,By (by show isA "str" "int"=false;decide) ?_⟩;refine⟨_,rfl,_,_,_,_,rfl,ok.ty K,ok.kit K,_,rfl,DR (by show isA "str" "str"=true;decide) ?_⟩;have e:=q H (Al.refl _);refine⟨_,rfl,z,rfl,small (by omega),_,_,rfl,rfl,?_⟩;cases n<;>exact e
 |tup ts=>
  obtain⟨a,us,rfl,ha,r⟩:=hv;have ok:Ok H (.ref a):=.inr ⟨us,ha⟩;have ety:IC H (.ref a)="tuple":=by simp only[IC,ha]
  refine⟨_,rfl,_,_,_,_,rfl,ok.ty K,ok.kit K,_,rfl,By (by rw[ety];decide) ?_⟩;refine⟨_,rfl,_,_,_,_,rfl,ok.ty K,ok.kit K,_,rfl,By (by rw[ety];decide) ?_⟩;cases n with
  |zero=>exact ht.elim
  |succ n=>
   obtain⟨lt,ht⟩:=ht;have lu:=AX.len ts us r;obtain⟨qs,rfl,rfl,hqs⟩:∃qs:List (V×Tr),us=qs.map (·.1)/\ts=qs.map (·.2)/\∀q∈qs,Rep NL H q.2 q.1:=by
    refine⟨us.zip ts,by rw[List.map_fst_zip (by omega)],by rw[List.map_snd_zip (by omega)],λq hq=>?_⟩;obtain⟨i,hi,rfl⟩:=dB hq;rw[List.getElem_zip];rw[List.length_zip] at hi;obtain⟨t,et,rt⟩:=AX.get r (ah (show i<us.length by omega));rw[ah (show i<ts.length by omega)] at et;cases et;exact rt
   rw[aa] at lt;refine⟨_,rfl,a,rfl,⟨_,AD.of ha⟩,Ct (ps:=qs) (λx=>.int (Px n x.2)) (B2 ha) (by omega) (λx hx H' R s' hR=>?_) λl H1 nl s1 hl=>?_⟩
   ·exact⟨_,rfl,x.1,x.2,rfl,Rep.same s' _ _ (hqs x hx),ht _ (aF hx),hR⟩
   ·have e:=q H1 s1;rw[Px,aj] at e;exact⟨l,qs.map λ(x:V×Tr)=>Px n x.2,rfl,AB.of (by rw[hl,aj];rfl),_,_,rfl,rfl,e⟩
 |_=>cases n<;>exact ht.elim
theorem PP (T:Txt K mg C XC)(F:Fun K "_law_words" "_law_words" BL f fd)(hm:mg "_law_words"=some (.ref f))(hk:W.keepIn K (.ref f)=true)(hb:Binds K fd ["_law_thing"] []):∀n,FnOk P w K mg base CU (1+n) f fd ["_law_thing"] (Oa n K)
 |0=>F.ok GD (λvs H Q E h=>h.elim) (λcdv A outer s H vs Q E hr h=>h.elim)
 |n+1=>R7 T F n ⟨f,fd,PP T F hm hk hb n,hm,hk,hb⟩
theorem J8 (T:Txt K mg C XC)(F:Fun K "_law_words" "_law_words" BL f fd)(hm:mg "_law_words"=some (.ref f))(hk:W.keepIn K (.ref f)=true)(hb:Binds K fd ["_law_thing"] []):FnOk P w K mg base CU 7 f fd ["_law_thing"] (ER K):=
 PP T F hm hk hb 6
def VX:St->Hp->Nat:=λσ _=>match σ with
 |_::some (.int b)::_=>b.toNat
 |_=>0
def Ed (K:W.Frag):Sp:=λvs H Q _=>∃(m n:Nat),vs=[.int m,.int n]/\Q (.int (Nat.gcd m n)) H
theorem Jv (T:Txt K mg C XC)(F:Fun K "_law_common" "_law_common" Ci f fd):FnOk P w K mg base CU 1 f fd ["_law_one","_law_other"] (Ed K):=by
 exists Gb
 ·obtain⟨m,n,rfl,_⟩:=h;rfl
 obtain⟨m,n,rfl,q⟩:=h;refine⟨_,(!Ae (!JT aT (!AA Iu (pv 1) (!Ab) (AG _)) (!Ah (@Ui _ _ (0) (1) _ _ _ _ _ _ _ _ _ _ _ rfl Gb.nd rfl rfl (by decide) rfl rfl (!Aa (pv 1) (!Aa (!Am AQ (pv 0) (pv 1)) (!Ac))) rfl (by rfl)))) (!Ah (!As (pv 0)))),?_⟩;refine Qr (λσ H2=>∃(a b:Nat),σ=[some (.int a),some (.int b)]/\H2=H/\Nat.gcd a b=Nat.gcd m n) VX ⟨m,n,rfl,rfl,rfl⟩ ?_ ?_
 ·rintro σ H2 ⟨a,b,rfl,rfl,hg⟩
  refine⟨_,rfl,rfl,_,rfl,?_⟩;refine DN (λc=>?_) (λc=>?_)
  ·have c':0<b:=by
    simp only[Bool.not_eq_true',decide_eq_false_iff_not,V.int.injEq] at c;omega
   refine⟨_,rfl,_,rfl,_,rfl,_,_,rfl,rfl,by omega,_,_,rfl,?_⟩;refine⟨⟨b,a%b,rfl,rfl,by rw[Nat.gcd_comm b,<-Nat.gcd_rec,Nat.gcd_comm];exact hg⟩,?_⟩;show((a:Int)%b).toNat<(b:Int).toNat;have:=Nat.mod_lt a c';omega
  ·have c':b=0:=by
    simp only[Bool.not_eq_true',decide_eq_false_iff_not,V.int.injEq,Decidable.not_not] at c;omega
   subst c';rw[Nat.gcd_zero_right] at hg;refine⟨_,rfl,?_⟩;rw[hg];exact q
 ·rintro σ H Q Q' hQ ⟨v,e,h1,k,e2,q⟩
  exact⟨v,e,h1,k,e2,hQ _ _ q⟩
def Dp (B:BM):Nat->Int->Prop
 |0,_=>False
 |n+1,z=>∃b,B z=some b/\(DB b).length<=3/\∀t∈DB b,Dp B n t.1
def Ro (B:BM):Nat->Int->Int
 |0,_=>0
 |n+1,z=>1+if(LM B z).map (Ro B n)=[] then -1 else Mo ((LM B z).map (Ro B n))
def Ox (n:Nat)(K:W.Frag):Sp:=match n with
 |0=>λ_ _ _ _=>False
 |n+1=>λvs H Q _=>∃(d:Addr) (cs:List Cz) (z:Int),vs=[.ref d,.int z]/\Bx H d cs/\Dp (bm cs) (n+1) z/\∀H',Al H H'->Q (.int (Ro (bm cs) (n+1) z)) H'
def D6 (K:W.Frag):Sp:=Ox 9 K
theorem R9 (T:Txt K mg C XC)(F:Fun K "_law_height" "_law_height" BD f fd)(A6:Def P w K mg base 1 "_law_tags" ["_law_block"] (Cc K))(n:Nat)(CL:Def P w K mg base (1+n) "_law_height" ["_law_blocks_here","_law_number"] (Ox n K)):FnOk P w K mg base CU (1+n+1) f fd ["_law_blocks_here","_law_number"] (Ox (n+1) K):=by
 exists FT
 ·obtain⟨d,cs,z,rfl,_⟩:=h;rfl
 obtain⟨d,cs,z,rfl,bx,dp,q⟩:=h;have hu:=Cp hr;have hu9:=B8 hr;refine⟨_,(!Ah (!As (!Am AE (!Ab) (!Ry rfl (by rfl) T.b_max (!Aa (@Cb _ ["_law_tag","_law_blocks_here"] [none,some 0] _ _ _ _ _ _ _ _ _ _ _ rfl (!BA (!AM A6 (hr.mono (by omega)) rfl (!Aa (!Ai Ar (!CT hu (pv 0) (pv 1) (λ_ _=>rfl)) (!Ab) (λ_ _=>rfl)) (!Ac)))) (by rfl) rfl (by repeat (first|exact trivial|refine⟨rfl,?_⟩)) (by repeat (first|exact trivial|refine⟨λh=>(by first|exact⟨_,rfl⟩|cases h),?_⟩)) (λC s H fp=>⟨(@Ak _ _ (0) _ (show(["_law_tag","_law_blocks_here"]:List Str).Nodup by decide +kernel) rfl (by trivial) (by trivial)),(!AW),(!AM CL (hr.mono (by omega)) rfl (!Aa (pv 1) (!Aa (!Ai (AS (K:=K) (by rfl)) (pv 0) (!Ab) (λ_ _=>rfl)) (!Ac))))⟩) (by intro _;rfl)) (!Ac)) (!SX PF (!Ab)))))),?_⟩
 try dsimp only[Bw,Cx.nox,Cx.wish]
 obtain⟨b,eb,l3,hb⟩:=dp;obtain⟨p,tb,v,g,hp,hv⟩:=bx.blk eb;refine⟨_,rfl,_,rfl,d,_,rfl,g,p,_,_,_,rfl,rfl,AD.of hp,Aj (j:=1) rfl,v,b,rfl,hv,by omega,λl ps H1 s1 nl hl ep=>?_⟩;have lp:ps.length<=3:=by rw[<-ep,aa] at l3;exact l3
 refine⟨l,rfl,⟨_,AB.of hl.1⟩,Ct (ps:=ps) (λx=>.int (Ro (bm cs) n x.2.1)) (B5 (AB.of hl.1)) (by omega) (λx hx H' R s' hR=>?_) λl2 H2 nl2 s2 hl2=>?_⟩
 ·have dx:=hb x.2 (by rw[<-ep];exact aF hx);refine⟨_,rfl,_,rfl,x.1,_,_,_,rfl,rfl,AD.of (s'.get (hl.2 x hx)),Aj (j:=0) rfl,?_⟩;cases n with
  |zero=>exact dx.elim
  |succ n=>exact⟨d,cs,x.2.1,rfl,bx.same (s1.trans s'),dx,hR⟩
 ·have e:=q H2 (s1.trans s2);have et:(LM (bm cs) z).map (Ro (bm cs) n)=ps.map λx=>Ro (bm cs) n x.2.1:=by
   unfold LM;rw[eb];dsimp only;rw[<-ep,aj,aj];rfl
  rw[Ro,et] at e;exact⟨1,rfl,l2,ps.map λ(x:Addr×Tg)=>Ro (bm cs) n x.2.1,-1,rfl,rfl,AB.of (by rw[hl2,aj];rfl),_,_,rfl,rfl,e⟩
theorem Py (T:Txt K mg C XC)(F:Fun K "_law_height" "_law_height" BD f fd)(A6:Def P w K mg base 1 "_law_tags" ["_law_block"] (Cc K))(hm:mg "_law_height"=some (.ref f))(hk:W.keepIn K (.ref f)=true)(hb:Binds K fd ["_law_blocks_here","_law_number"] []):∀n,FnOk P w K mg base CU (1+n) f fd ["_law_blocks_here","_law_number"] (Ox n K)
 |0=>F.ok FT (λvs H Q E h=>h.elim) (λcdv A outer s H vs Q E hr h=>h.elim)
 |n+1=>R9 T F A6 n ⟨f,fd,Py T F A6 hm hk hb n,hm,hk,hb⟩
theorem JL (T:Txt K mg C XC)(F:Fun K "_law_height" "_law_height" BD f fd)(A6:Def P w K mg base 1 "_law_tags" ["_law_block"] (Cc K))(hm:mg "_law_height"=some (.ref f))(hk:W.keepIn K (.ref f)=true)(hb:Binds K fd ["_law_blocks_here","_law_number"] []):FnOk P w K mg base CU 10 f fd ["_law_blocks_here","_law_number"] (D6 K):=
 Py T F A6 hm hk hb 9
def LB (B:BM)(ps:List (Addr×HE))(met:List Int)(z:Int):Int:=((ps.map (·.2.tg.1)).count z:Nat)+(met.map λo=>(((LM B o).count z:Nat):Int)).sum
def ES (K:W.Frag):Sp:=λvs H Q _=>∃(d h dm:Addr) (cs:List Cz) (ag:Int) (ka ea:Addr) (ks:List (Addr×Str×Int)) (ps:List (Addr×HE)) (met:List Int) (z:Int),vs=[.ref d,.ref h,.ref dm,.int z]/\Bx H d cs/\Hd H h ag ka ea ks ps/\H dm=some (.dK (Bi met))/\d≠dm/\(∀o∈met,∃b,bm cs o=some b/\(DB b).length<=3)/\met.length<=100/\
 ∀H',Al H H'->Q (.int (LB (bm cs) ps met z)) H'
theorem J2 (T:Txt K mg C XC)(F:Fun K "_law_count" "_law_count" CG f fd)(A6:Def P w K mg base 1 "_law_tags" ["_law_block"] (Cc K)):FnOk P w K mg base CU 2 f fd ["_law_blocks_here","_law_head_here","_law_met","_law_number"] (ES K):=by
 exists Dz
 ·obtain⟨d,h,dm,cs,ag,ka,ea,ks,ps,met,z,rfl,_⟩:=h;rfl
 obtain⟨d,h,dm,cs,ag,ka,ea,ks,ps,met,z,rfl,bx,hd,hdm,ndm,hm,lm,q⟩:=h;have hu:=Cp hr;have hu9:=B8 hr;refine⟨_,(!Ae (@Ap _ _ (4) _ _ _ _ Dz.nd rfl (by trivial) (!Cf aL fP fO Mr (@BO _ ["_law_entry"] _ _ _ _ _ _ _ _ _ _ rfl (!B9 (!Ai Ar (pv 1) (!Ab) (λ_ _=>rfl))) (by decide +kernel) (λC s H fp=>⟨(@Ak _ _ (0) _ (show(["_law_entry"]:List Str).Nodup by decide +kernel) rfl (by trivial) (by trivial)),(!AW),(!Ai (AS (K:=K) (by rfl)) (!Ai (AS (K:=K) (by rfl)) (pv 0) (!Ab) (λ_ _=>rfl)) (!Ab) (λ_ _=>rfl))⟩) (by intro _;rfl)) (!Aa (pv 3) (!Ac))) (by rfl) (by trivial)) (!Ae (!NW aT rfl (pv 2) (@Ak _ _ (5) _ Dz.nd rfl (by trivial) (by trivial)) (!Ah (@Ap _ _ (4) _ _ _ _ Dz.nd rfl (by trivial) (!Am AE (pv 4) (!Cf aL fP fO Mr (@BO _ ["_law_tag"] _ _ _ _ _ _ _ _ _ _ rfl (!BA (!AM A6 (by trivial) rfl (!Aa (!Ai Ar (!CT hu (pv 0) (pv 5) (λ_ _=>rfl)) (!Ab) (λ_ _=>rfl)) (!Ac)))) (by decide +kernel) (λC s H fp=>⟨(@Ak _ _ (0) _ (show(["_law_tag"]:List Str).Nodup by decide +kernel) rfl (by trivial) (by trivial)),(!AW),(!Ai (AS (K:=K) (by rfl)) (pv 0) (!Ab) (λ_ _=>rfl))⟩) (by intro _;rfl)) (!Aa (pv 3) (!Ac)))) (by rfl) (by trivial))) (by intro _;rfl)) (!Ah (!As (pv 4))))),?_⟩
 try dsimp only[Bw,Cx.nox,Cx.wish]
 have el:=hd.el;refine Ao ⟨_,rfl,h,_,_,_,rfl,rfl,AD.of hd.at_,Aj (j:=2) rfl,ea,rfl,⟨_,AD.of hd.et⟩,Ct (ps:=ps) (λx=>.int x.2.tg.1) (B2 hd.et) (by omega) (λx hx H' R s' hR=>?_) λl H1 nl s1 hl=>?_⟩
 ·obtain⟨ta,h1,h2⟩:=hd.en x hx;exact⟨_,rfl,x.1,_,_,_,rfl,rfl,AD.of (s'.get h1),Aj (j:=4) rfl,ta,_,_,_,rfl,rfl,AD.of (s'.get h2),Aj (j:=0) rfl,hR H' (Al.refl _)⟩
 refine⟨.inl ⟨rfl,_,AB.of hl⟩,_,rfl,l,ps.map λ(x:Addr×HE)=>x.2.tg.1,z,rfl,rfl,AB.of (by rw[hl,aj];rfl),?_⟩;dsimp only[Aq];have nf:∀o u,H dm≠some (.frz o u):=λo u z=>by rw[hdm] at z;cases z
 have hdm1:=s1.get hdm;have bx1:=bx.same s1;refine Bs (t:=Qg _ _ _ _) (λσ' H'=>∃v5,σ'=[some (.ref d),some (.ref h),some (.ref dm),some (.int z),some (.int (LB (bm cs) ps met z)),v5]/\Al H H') (λN hN=>?_) ?_
 ·refine⟨_,rfl,dm,_,rfl,hdm1,λo=>?_⟩;have k3:Pw dm H1 (upd H1 dm (.frz o (.dK (Bi met)))):=λa ob n e=>by rw[An n];exact e
  have f3:(upd H1 dm (.frz o (.dK (Bi met)))) dm=some (.frz o (.dK (Bi met))):=Ad;generalize upd H1 dm (.frz o (.dK (Bi met)))=H3 at k3 f3;have bx3:Bx H3 d cs:=⟨k3 _ _ ndm bx1.at_,λc hc=>(bx1.ce c hc).keep (k3.kt hdm1),bx1.nd,bx1.few⟩
  refine KM (d:=dm) (o:=o) (kvs:=Bi met) nf (λi σ H'=>Al H3 H'/\∃v5,σ=[some (.ref d),some (.ref h),some (.ref dm),some (.int z),some (.int (LB (bm cs) ps (met.take i) z)),v5]) ⟨Al.refl _,none,by rw[LB,cW,bY,List.sum_nil,Int.add_zero];rfl⟩ (λi σ H' _ ⟨s',_⟩=>s'.get f3) ?_ ?_
  ·rintro i key vv σ H4 hi ⟨s4,v5,rfl⟩
   unfold Bi at hi;rw[aw] at hi;obtain⟨y,hy,e⟩:=aV.mp hi;cases e;obtain⟨b,eb,l3⟩:=hm y (aE hy);obtain⟨p,tb,v,g,hp,hv⟩:=(bx3.same s4).blk eb;dsimp only[Aq];refine⟨_,rfl,_,rfl,_,rfl,d,_,rfl,g,p,_,_,_,rfl,rfl,AD.of hp,Aj (j:=1) rfl,v,b,rfl,hv,by omega,λl4 qs H5 s5 nl4 hl4 ep=>?_⟩;have lq:qs.length<=3:=by rw[<-ep,aa] at l3;exact l3
   refine⟨l4,rfl,⟨_,AB.of hl4.1⟩,Ct (ps:=qs) (λx=>.int x.2.1) (B5 (AB.of hl4.1)) (by omega) (λx hx H' R s' hR=>⟨_,rfl,x.1,_,_,_,rfl,rfl,AD.of (s'.get (hl4.2 x hx)),Aj (j:=0) rfl,hR H' (Al.refl _)⟩) λl6 H6 nl6 s6 hl6=>?_⟩;refine⟨.inl ⟨rfl,_,AB.of hl6⟩,_,rfl,l6,qs.map λ(x:Addr×Tg)=>x.2.1,z,rfl,rfl,AB.of (by rw[hl6,aj];rfl),_,_,rfl,rfl,s4.trans (s5.trans s6),some (.int y),?_⟩;have et:LM (bm cs) y=qs.map λ(x:Addr×Tg)=>x.2.1:=by
    unfold LM;rw[eb];dsimp only;rw[<-ep,aj];rfl
   have ec:LB (bm cs) ps (met.take (i+1)) z=LB (bm cs) ps (met.take i) z+(((qs.map λ(x:Addr×Tg)=>x.2.1).count z:Nat):Int):=by
    unfold LB;rw[aX,hy,Option.toList_some,aq,List.sum_append,List.map_singleton,List.sum_singleton,et];omega
   rw[ec];rfl
  ·rintro σ H4 ⟨s4,v5,rfl⟩
   rw[show(Bi met).length=met.length from aa ..,bU];refine hN _ _ ⟨_,rfl,λa ob e=>?_⟩
   by_cases ea:a=dm
   ·rw[ea] at e ⊢;rw[hdm] at e;rw[<-e,Ad]
   ·rw[An ea];exact s4.get (k3 a ob ea (s1.get e))
 ·rintro σ' H4 ⟨v5,rfl,s4⟩
  exact⟨_,rfl,q H4 s4⟩
def SJ (B:BM)(Nm:Str->Prop)(z:Int):Prop:=Rw B 2 z\/Fd B Nm 6 z
theorem Da (B:BM)(Nm:Str->Prop):LZ B (SJ B Nm):=λz h=>by
 rcases h with h|⟨es,e,l,nd,h⟩
 ·rcases h with⟨c,e,_⟩|⟨lv,ts,e,l,h⟩
  ·exact⟨_,e,bg _,λ_ h=>nomatch h⟩
  ·exact⟨_,e,l,λt ht=>.inl (h t ht).up⟩
 ·refine⟨_,e,by rw[DB,aa];exact l,λt ht=>?_⟩;obtain⟨x,hx,rfl⟩:=ax.mp ht;rcases(h x hx).2 with⟨_,r⟩|⟨_,r⟩
  ·exact .inl r
  ·exact .inr r.up
theorem Rn {B:BM}:∀{n:Nat} {z:Int},Rw B n z->Dp B (n+1) z
 |0,z,⟨c,e,_⟩=>⟨_,e,bg _,λ_ h=>nomatch h⟩
 |n+1,z,.inl ⟨c,e,_⟩=>⟨_,e,bg _,λ_ h=>nomatch h⟩
 |n+1,z,.inr ⟨lv,ts,e,l,h⟩=>⟨_,e,l,λt ht=>Rn (h t ht)⟩
theorem Dp.up {B:BM}:∀{n:Nat} {z:Int},Dp B n z->Dp B (n+1) z
 |n+1,z,⟨b,e,l,h⟩=>⟨b,e,l,λt ht=>(h t ht).up⟩
theorem Dp.ups {B:BM}{n:Nat}{z:Int}(h:Dp B n z):∀m,Dp B (n+m) z
 |0=>h
 |m+1=>(Dp.ups h m).up
theorem S4 {B:BM}{Nm:Str->Prop}:∀{n:Nat} {z:Int},Fd B Nm n z->Dp B (3+n) z
 |n+1,z,⟨es,e,l,nd,h⟩=>⟨_,e,by rw[DB,aa];exact l,λt ht=>by
  obtain⟨x,hx,rfl⟩:=ax.mp ht;rcases(h x hx).2 with⟨_,r⟩|⟨_,r⟩
  ·exact(Rn r).ups n
  ·exact S4 r⟩
theorem UB {B:BM}{Nm:Str->Prop}{z:Int}(h:SJ B Nm z):Dp B 9 z:=by
 rcases h with h|h
 ·exact(Rn h).ups 6
 ·exact S4 h
theorem Ur {B:BM}{Nm:Str->Prop}(hN:∀z,Nm z->z.length<=8){z:Int}{b:Bk}(h:SJ B Nm z)(e:B z=some b):UL 5 (FF b):=by
 have tg:∀(n:Nat) (t:Tg),UL (n+1) (Hk t):=λn t=>⟨by show 3<=1000;decide,λx hx=>by
  rcases aD.mp hx with rfl|hx
  ·cases n<;>trivial
  rcases aD.mp hx with rfl|hx
  ·cases n<;>trivial
  cases ai.mp hx;cases n<;>trivial⟩
 rcases h with h|⟨es,e',l,nd,h⟩
 ·rcases h with⟨c,e',lc⟩|⟨lv,ts,e',l,h⟩
  ·rw[e'] at e;cases e;refine⟨by show 2<=1000;decide,λx hx=>?_⟩;rcases aD.mp hx with rfl|hx
   ·trivial
   cases ai.mp hx;show c.length<=1000;omega
  ·rw[e'] at e;cases e;refine⟨by show 3<=1000;decide,λx hx=>?_⟩;rcases aD.mp hx with rfl|hx
   ·trivial
   rcases aD.mp hx with rfl|hx
   ·trivial
   cases ai.mp hx;refine⟨by rw[aa];omega,λy hy=>?_⟩;obtain⟨t,_,rfl⟩:=ax.mp hy;exact tg _ t
 ·rw[e'] at e;cases e;refine⟨by show 2<=1000;decide,λx hx=>?_⟩;rcases aD.mp hx with rfl|hx
  ·trivial
  cases ai.mp hx;refine⟨by rw[aa];omega,λy hy=>?_⟩;obtain⟨en,hen,rfl⟩:=ax.mp hy;have:=hN _ (h en hen).1;refine⟨by show 3<=1000;decide,λu hu=>?_⟩;rcases aD.mp hu with rfl|hu
  ·show en.nm.length<=1000;omega
  rcases aD.mp hu with rfl|hu
  ·trivial
  cases ai.mp hu;exact tg _ en.tg
structure Ce where
 z:Int
 y:Int
 b:Bk
 hh:Int
 ct:Int
 hs:List Str
def MN (c:Ce):Tr:=.tup [.int c.z,.int c.y,FF c.b,.int c.hh,.int c.ct,.tup (c.hs.map .str)]
def VN (cs:List Cz)(z:Int):Tg:=((cs.find? λc=>decide (c.tg.1=z)).map (·.tg)).getD (0,0,0)
def S6 (cs:List Cz)(z:Int):Bk:=(bm cs z).getD (.piece EM)
def GS (cs:List Cz)(ks:List (Addr×Str×Int))(ps:List (Addr×HE))(met:List Int)(z:Int):Ce:=
 ⟨z,(VN cs z).2.1,S6 cs z,Ro (bm cs) 9 z,LB (bm cs) ps met z,(ks.filter λk=>decide (z∈Pt cs ps k.2.1)).map (·.2.1)⟩
def IR (ces:List Ce)(k:Str):Int:=((ces.filter λc=>SW (.str k) (c.hs.map V.str)).map λc=>840*Px 5 (FF c.b)/(c.hs.length:Int)).sum
def Rq (ces:List Ce)(k:Str):Tr:=.tup [.str k,.tup [.int (IR ces k/((Nat.gcd (IR ces k).toNat 840:Nat):Int)),.int (840/((Nat.gcd (IR ces k).toNat 840:Nat):Int))]]
def DJ (cs:List Cz)(ps:List (Addr×HE)):List Int:=L4 cs (ps.map (·.2.tg.1))
theorem KA (z:Int):∀fs:List Int,(EU (Bi fs) (.inl z)).isSome=decide (z∈fs)
 |[]=>rfl
 |y::fs=>by
  by_cases e:y=z
  ·subst e;rw[Bi,av,E4 rfl,aR ay];rfl
  ·have:=KA z fs;rw[Bi] at this;rw[Bi,av,D7 λw=>e (cQ w),this];exact decide_eq_decide.mpr ⟨az _,λh=>(aD.mp h).resolve_left λw=>e w.symm⟩
theorem RL {cs:List Cz}{z:Int}{b:Bk}(h:bm cs z=some b):∃c∈cs,VN cs z=c.tg/\c.tg.1=z/\c.bk=b:=by
 obtain⟨c,hc,e⟩:=aV.mp h;exact⟨c,cI hc,by unfold VN;rw[hc];rfl,bh (eC (p:=λc:Cz=>decide (c.tg.1=z)) hc),e⟩
theorem Ks {H:Hp}:∀zs:List Str,AX NL H (zs.map .str) (zs.map V.str)
 |[]=>rfl
 |_::zs=>⟨_,_,rfl,rfl,Ks zs⟩
theorem KQ {H:Hp}:∀{zs:List Str} {us:List V},AX NL H (zs.map .str) us->us=zs.map V.str
 |[],_,h=>h
 |_::zs,_,⟨v,vs,e,h1,h2⟩=>by rw[e,show v=_ from h1,KQ h2];rfl
theorem Ny {H:Hp}{c:Ce}{a:Addr}(h:Rep NL H (MN c) (.ref a)):∃(v:V) (t:Addr),H a=some (.tup [.int c.z,.int c.y,v,.int c.hh,.int c.ct,.ref t])/\Rep NL H (FF c.b) v/\H t=some (.tup (c.hs.map V.str)):=by
 obtain⟨a',vs,e,ha,x1,u1,rfl,rfl,x2,u2,rfl,rfl,x3,u3,rfl,r3,x4,u4,rfl,rfl,x5,u5,rfl,rfl,x6,u6,rfl,⟨t,us,rfl,ht,r6⟩,rfl⟩:=h;cases e;rw[KQ r6] at ht;exact⟨x3,t,ha,r3,ht⟩
theorem Ul {H:Hp}{c:Ce}{a:Addr}{v:V}{t:Addr}(h:H a=some (.tup [.int c.z,.int c.y,v,.int c.hh,.int c.ct,.ref t]))(r:Rep NL H (FF c.b) v)(ht:H t=some (.tup (c.hs.map V.str))):Rep NL H (MN c) (.ref a):=
 ⟨a,_,rfl,h,_,_,rfl,rfl,_,_,rfl,rfl,_,_,rfl,r,_,_,rfl,rfl,_,_,rfl,rfl,_,_,rfl,⟨t,_,rfl,ht,Ks _⟩,rfl⟩
theorem M8:∀{l:List Int},(∀x∈l,0<=x)->0<=l.sum
 |[],_=>by simp
 |x::l,h=>by
  have h1:=h x ay;have h2:=M8 λy hy=>h y (az x hy)
  rw[dM];omega
theorem QM:∀(n:Nat) (t:Tr),0<=Px n t
 |n,.str z=>by cases n<;>(show(0:Int)<=2+(z.length:Int);omega)
 |n+1,.tup ts=>by
  have:=M8 (l:=ts.map (Px n)) λx hx=>by
   obtain⟨t,_,rfl⟩:=ax.mp hx;exact QM n t
  show(0:Int)<=2+(ts.map (Px n)).sum;omega
 |0,.tup ts=>by show(0:Int)<=2;decide
 |n,.int i=>by cases n<;>(show(0:Int)<=2;decide)
 |n,.bl b=>by cases n<;>(show(0:Int)<=2;decide)
 |n,.non=>by cases n<;>(show(0:Int)<=2;decide)
 |n,.lst ts=>by cases n<;>(show(0:Int)<=2;decide)
theorem Ue (ces:List Ce)(k:Str):0<=IR ces k:=M8 λx hx=>by
 obtain⟨c,_,rfl⟩:=ax.mp hx;have:=QM 5 (FF c.b);exact Int.ediv_nonneg (by omega) (by omega)
theorem OE {α:Type} {J:It} {ps:List α} {g:α->Addr} {A B:α->V} {fr:List (Option Nat)} {rest:St} {tt:TT} {te:TE} {Q:VK} {σ:St} {H:Hp} (p:α->Bool) (f:α->V) (hst:stC fr σ=none::none::rest) (hJ:Hi J H (ps.map λx=>V.ref (g x))) (hpr:∀x∈ps,H (g x)=some (.tup [A x,B x])) (hn:ps.length<=1000000)
  (htest:∀x∈ps,∀(H':Hp) (R:Bool->Hp->Prop),Al H H'->R (p x) H'->tt (some (A x)::some (B x)::rest) H' R)
  (helt:∀x∈ps,∀(H':Hp) (R:VK),Al H H'->R (f x) H'->te (some (A x)::some (B x)::rest) H' R)
  (hQ:∀l H',H l=none->Al H H'->H' l=some (.lst ((ps.filter p).map f))->Q (.ref l) H'):Df fr (Pi K 2 (FK (Aq 0) (FK (Aq 1) QF))) tt te σ Q J H:=by
 intro l hl;refine⟨λi m σ' H'=>m=ps.length-i/\i<=ps.length/\(∃y0 y1,σ'=y0::y1::rest)/\Al H H'/\H' l=some (.lst (((ps.take i).filter p).map f)),⟨ps.length,by simp,bg _,⟨_,_,hst⟩,Af hl _,by rw[Ad];rfl⟩,?_⟩
 rintro i m σ' H' ⟨rfl,hi,⟨y0,y1,rfl⟩,hs,hl'⟩
 obtain⟨h1,h2,h3⟩:=hJ H' hs i;rw[aa] at h1 h2 h3
 by_cases hlt:i<ps.length
 ·refine .inr ⟨h1 hlt,λx H'' y=>?_⟩;obtain⟨rfl,hx⟩:=h2 x H'' y;have hx:=hx hlt;rw[aw,ah hlt] at hx;cases hx;have hm:ps[i]∈ps:=bz hlt;have et:((ps.take (i+1)).filter p).map f=((ps.take i).filter p).map f++(if p ps[i]=true then[f ps[i]] else[]):=by
   rw[aX,ah hlt,dF,aq];cases q:p ps[i]<;>simp[q]
  have le:(((ps.take i).filter p).map f).length<=i:=by
   have b:=bT p (ps.take i);rw[aQ] at b;rw[aa];omega
  refine⟨g ps[i],_,rfl,AD.of (hs.get (hpr _ hm)),rfl,_,_,rfl,_,_,rfl,rfl,?_⟩;refine htest _ hm H'' _ hs ?_;refine DN (λc=>?_) (λc=>?_)
  ·refine helt _ hm H'' _ hs ⟨_,hl',Bh (by omega),ps.length-(i+1),by omega,rfl,hlt,⟨_,_,rfl⟩,AI hs hl _,?_⟩;rw[Ad,et,aI c]
  ·exact⟨ps.length-(i+1),by omega,rfl,hlt,⟨_,_,rfl⟩,hs,by rw[et,aH c,br];exact hl'⟩
 ·have e:i=ps.length:=by omega
  subst e;exact .inl ⟨h3 (ak _),hQ l H' hl hs (by rw[hl',bb (ak _)])⟩
structure Made (H:Hp) (a:Addr) (cs:List Cz) (ag:Int) (ka ea:Addr) (ks:List (Addr×Str×Int)) (ps:List (Addr×HE)) (ms:List Int):Prop where
 ex:∃(ca sh:Addr) (rs:List (Addr×Ce)),H a=some (.tup [.int ag,.ref ka,.ref ea,.ref ca,.ref sh])/\H ca=some (.tup (rs.map λr=>V.ref r.1))/\rs.map (·.2)=ms.map (GS cs ks ps (DJ cs ps))/\(∀r∈rs,Rep NL H (MN r.2) (.ref r.1))/\Rep NL H (.tup (ks.map λk=>Rq (ms.map (GS cs ks ps (DJ cs ps))) k.2.1)) (.ref sh)
 pm:ms.Perm (DJ cs ps)
 so:ms.Pairwise (·<=·)
theorem Made.same {H H':Hp}{a:Addr}{cs:List Cz}{ag:Int}{ka ea:Addr}{ks:List (Addr×Str×Int)}{ps:List (Addr×HE)}{ms:List Int}(h:Made H a cs ag ka ea ks ps ms)(s:Al H H'):Made H' a cs ag ka ea ks ps ms:=by
 obtain⟨⟨ca,sh,rs,h1,h2,h3,h4,h5⟩,pm,so⟩:=h;exact⟨⟨ca,sh,rs,s.get h1,s.get h2,h3,λr hr=>Rep.same s _ _ (h4 r hr),Rep.same s _ _ h5⟩,pm,so⟩
theorem Hl.lst {H:Hp}{dh:Addr}{cs:List Cz}{ps:List (Addr×HE)}{hs:List (Str×Addr)}(a:Hl H dh cs ps hs){l:Addr}{us us':List V}(h:H l=some (.lst us)):Hl (upd H l (.lst us')) dh cs ps hs:=
 ⟨by rw[An λw=>by rw[<-w,a.at_] at h;cases h];exact a.at_,λr hr=>by rw[An λw=>by rw[<-w,a.ea r hr] at h;cases h];exact a.ea r hr,a.nd⟩
def DM (K:W.Frag):Sp:=λvs H Q _=>∃(d h:Addr) (cs:List Cz) (ag:Int) (ka ea:Addr) (ks:List (Addr×Str×Int)) (ps:List (Addr×HE)) (Nm:Str->Prop),vs=[.ref d,.ref h]/\Bx H d cs/\Hd H h ag ka ea ks ps/\(∀z,Nm z->z.length<=8)/\(∀p∈ps,SJ (bm cs) Nm p.2.tg.1)/\
 ∀a ms H',Al H H'->Made H' a cs ag ka ea ks ps ms->Q (.ref a) H'
theorem IH (T:Txt K mg C XC)(F:Fun K "_law_account" "_law_account" BZ f fd)(FR:Def P w K mg base 3 "_law_held" ["_law_blocks_here","_law_head_here"] (FG K))(B4:Def P w K mg base 2 "_law_reached" ["_law_blocks_here","_law_tags_here"] (CN K))(CL:Def P w K mg base 10 "_law_height" ["_law_blocks_here","_law_number"] (D6 K))(EI:Def P w K mg base 1 "_law_common" ["_law_one","_law_other"] (Ed K))(FA:Def P w K mg base 2 "_law_count" ["_law_blocks_here","_law_head_here","_law_met","_law_number"] (ES K))(Dd:Def P w K mg base 7 "_law_words" ["_law_thing"] (ER K)):FnOk P w K mg base CU 11 f fd ["_law_blocks_here","_law_head_here"] (DM K):=by
 exists AF
 ·obtain⟨d,h,cs,ag,ka,ea,ks,ps,Nm,rfl,_⟩:=h;rfl
 obtain⟨d,h,cs,ag,ka,ea,ks,ps,Nm,rfl,bx,hd,hNm,okp,q⟩:=h;have hu:=Cp hr;have hu9:=B8 hr;refine⟨_,(!Ae (@Ap _ _ (2) _ _ _ _ AF.nd rfl (by trivial) (!AM FR (by trivial) rfl (!Aa (pv 0) (!Aa (pv 1) (!Ac)))) (by rfl) (by trivial)) (!Ae (@Ap _ _ (3) _ _ _ _ AF.nd rfl (by trivial) (!AM B4 (by trivial) rfl (!Aa (pv 0) (!Aa (@BO _ ["_law_entry"] _ _ _ _ _ _ _ _ _ _ rfl (!B9 (!Ai Ar (pv 1) (!Ab) (λ_ _=>rfl))) (by decide +kernel) (λC s H fp=>⟨(@Ak _ _ (0) _ (show(["_law_entry"]:List Str).Nodup by decide +kernel) rfl (by trivial) (by trivial)),(!AW),(!Ai (AS (K:=K) (by rfl)) (pv 0) (!Ab) (λ_ _=>rfl))⟩) (by intro _;rfl)) (!Ac)))) (by rfl) (by trivial)) (!Ae (@Ap _ _ (4) _ _ _ _ AF.nd rfl (by trivial) (!Bc (!Ac)) (by rfl) (by trivial)) (!Ae (!BF aT rfl (!BA (!Aw (M5 (K:=K) (by rfl)) (by rfl) T.b_sorted DT (!Aa (!Bf (Ni rfl) (by rfl) T.b_list FI (!Aa (pv 3) (!Ac))) (!Ac)))) (@Ak _ _ (5) _ AF.nd rfl (by trivial) (by trivial)) (!Ae (!Lr (!CT hu (pv 0) (pv 5) (λ_ _=>rfl)) (!D5 rfl (!Av (@Ak _ _ (6) _ AF.nd rfl (by trivial) (by trivial)) (!Av (@Ak _ _ (7) _ AF.nd rfl (by trivial) (by trivial)) (!BU))))) (!Ae (@Ap _ _ (8) _ _ _ _ AF.nd rfl (by trivial) (!Bf BQ (by rfl) T.b_tuple Ei (!Aa (@Cb _ ["_law_keeper","_law_bound","_law_number","_law_held_here"] [none,none,some 5,some 2] _ _ _ _ _ _ _ _ _ _ _ rfl (!B9 (!Ai Ar (pv 1) (!Ab) (λ_ _=>rfl))) (by rfl) rfl (by repeat (first|exact trivial|refine⟨rfl,?_⟩)) (by repeat (first|exact trivial|refine⟨λh=>(by first|exact⟨_,rfl⟩|cases h),?_⟩)) (λC s H fp=>⟨(@Gu _ (K) _ _ _ _ (2) (by rfl) rfl (!Av (@Ak _ _ (0) _ (show(["_law_keeper","_law_bound","_law_number","_law_held_here"]:List Str).Nodup by decide +kernel) rfl (by trivial) (by trivial)) (!Av (@Ak _ _ (1) _ (show(["_law_keeper","_law_bound","_law_number","_law_held_here"]:List Str).Nodup by decide +kernel) rfl (by trivial) (by trivial)) (!BU))) (by rfl) (by rfl)),(!Dc (!Hz (!Tf hu (pv 2) (!CT hu (pv 3) (pv 0) (λ_ _=>rfl))) (by first|exact Ef _ (by decide) (by decide)|rfl))),(pv 0)⟩) (by intro _;rfl)) (!Ac))) (by rfl) (by trivial)) (!Ae (@Ap _ _ (9) _ _ _ _ AF.nd rfl (by trivial) (!AM CL (by trivial) rfl (!Aa (pv 0) (!Aa (pv 5) (!Ac)))) (by rfl) (by trivial)) (!Ah (!BK (!Cf aL aZ aY Br (pv 4) (!Aa (!AY (!Aa (pv 5) (!Aa (!Ai Ar (pv 6) (!Ab) (λ_ _=>rfl)) (!Aa (pv 7) (!Aa (pv 9) (!Aa (!AM FA (by trivial) rfl (!Aa (pv 0) (!Aa (pv 1) (!Aa (pv 3) (!Aa (pv 5) (!Ac)))))) (!Aa (pv 8) (!Ac)))))))) (!Ac)))))))) (by intro _;rfl)) (!Ae (@Ap _ _ (10) _ _ _ _ AF.nd rfl (by trivial) (!Bc (!Ac)) (by rfl) (by trivial)) (!Ae (!BF aT rfl (!B9 (!Ai Ar (pv 1) (!Ab) (λ_ _=>rfl))) (!D5 rfl (!Av (@Ak _ _ (11) _ AF.nd rfl (by trivial) (by trivial)) (!Av (@Ak _ _ (12) _ AF.nd rfl (by trivial) (by trivial)) (!BU)))) (!Ae (@Ap _ _ (13) _ _ _ _ AF.nd rfl (by trivial) (!Aw (JN rfl) (by rfl) T.b_sum MZ (!Aa (@Cb _ ["_law_cell","_law_keeper"] [none,some 11] _ _ _ _ _ _ _ _ _ _ _ rfl (!BA (pv 4)) (by rfl) rfl (by repeat (first|exact trivial|refine⟨rfl,?_⟩)) (by repeat (first|exact trivial|refine⟨λh=>(by first|exact⟨_,rfl⟩|cases h),?_⟩)) (λC s H fp=>⟨(@Ak _ _ (0) _ (show(["_law_cell","_law_keeper"]:List Str).Nodup by decide +kernel) rfl (by trivial) (by trivial)),(!Dc (!AA (GG (K:=K) (by rfl)) (pv 1) (!Ai (AS (K:=K) (by rfl)) (pv 0) (!Ab) (λ_ _=>rfl)))),(!Am Ep (!Am BG (!Ab) (!AM Dd (by trivial) rfl (!Aa (!Ai (AS (K:=K) (by rfl)) (pv 0) (!Ab) (λ_ _=>rfl)) (!Ac)))) (!Aw (Kc (K:=K) (by rfl)) (by rfl) T.b_len Cs (!Aa (!Ai (AS (K:=K) (by rfl)) (pv 0) (!Ab) (λ_ _=>rfl)) (!Ac))))⟩) (by intro _;rfl)) (!Ac))) (by rfl) (by trivial)) (!Ae (@Ap _ _ (14) _ _ _ _ AF.nd rfl (by trivial) (!AM EI (by trivial) rfl (!Aa (pv 13) (!Aa (!Ab) (!Ac)))) (by rfl) (by trivial)) (!Ah (!BK (!Cf aL aZ aY Br (pv 10) (!Aa (!AY (!Aa (pv 11) (!Aa (!AY (!Aa (!Am Ep (pv 13) (pv 14)) (!Aa (!Am Ep (!Ab) (pv 14)) (!Ac)))) (!Ac)))) (!Ac))))))) (by intro _;rfl)) (!Ah (!As (!AY (!Aa (!Ai Ar (pv 1) (!Ab) (λ_ _=>rfl)) (!Aa (!Ai Ar (pv 1) (!Ab) (λ_ _=>rfl)) (!Aa (!Ai Ar (pv 1) (!Ab) (λ_ _=>rfl)) (!Aa (!Bf BQ (by rfl) T.b_tuple Ei (!Aa (pv 4) (!Ac))) (!Aa (!Bf BQ (by rfl) T.b_tuple Ei (!Aa (pv 10) (!Ac))) (!Ac))))))))))))))),?_⟩
 try dsimp only[Bw,Cx.nox,Cx.wish]
 have el:=hd.el;refine Ao ⟨_,rfl,_,rfl,d,h,cs,ag,ka,ea,ks,ps,_,rfl,bx,hd,Da (bm cs) Nm,okp,λdh hs H1 s1 ndh hl ehs=>?_⟩;dsimp only[Aq];have hd1:=hd.same s1;refine Ao ⟨_,rfl,_,rfl,h,_,_,_,rfl,rfl,AD.of hd1.at_,Aj (j:=2) rfl,ea,rfl,⟨_,AD.of hd1.et⟩,DX (ps:=ps) (λ_=>true) (λx y H'=>∃ta,y=.ref ta/\Dm H' ta x.2.tg) (λx y H1 H2 ⟨ta,e,h⟩ s=>⟨ta,e,s.get h⟩) (λx y H1 l us us' ⟨ta,e,h⟩ hl=>⟨ta,e,KT.lst hl _ _ _ h⟩) (B2 hd1.et) (by omega) (λx hx H' R s' hR=>hR H' (Al.refl _)) (λx hx px H' R s' hR=>?_) λlt H2 ys nlt s2 hlt ey hys=>?_⟩
 ·obtain⟨ta,h1,h2⟩:=hd1.en x hx;exact⟨_,rfl,x.1,_,_,_,rfl,rfl,AD.of (s'.get h1),Aj (j:=4) rfl,hR _ H' (Al.refl _) ⟨ta,rfl,s'.get h2⟩⟩
 rw[bW.mpr λ_ _=>rfl] at ey;obtain⟨rs,e1,e2,hrs⟩:=Gk (R:=λ(x:Addr×HE) t=>Dm H2 t x.2.tg) hys;rw[ey] at e2;have s12:=s1.trans s2;have hlt:Hj H2 lt (rs.map λr=>(r.2,r.1.2.tg)):=⟨by rw[hlt,e1,aj];rfl,λp hp=>by obtain⟨r,hr,rfl⟩:=ax.mp hp;exact hrs r hr⟩
 have lrs:rs.length<=12:=by have:=congrArg List.length e2;rw[aa] at this;omega
 refine⟨d,lt,cs,rs.map λr=>(r.2,r.1.2.tg),SJ (bm cs) Nm,rfl,bx.same s12,hlt,by rw[aa];omega,Da (bm cs) Nm,λp hp=>?_,λdm H3 s3 ndm hdm=>?_⟩
 ·obtain⟨r,hr,rfl⟩:=ax.mp hp;exact okp r.1 (by rw[<-e2];exact aF hr)
 have em:L4 cs ((rs.map λr=>(r.2,r.1.2.tg)).map (·.2.1))=DJ cs ps:=by
  unfold DJ;rw[<-e2,aj,aj];rfl
 rw[em] at hdm;have mok:=Lb (Da (bm cs) Nm) (N:=cs.map (·.tg.1)) (λz hz=>by
  obtain⟨b,eb,_⟩:=Da (bm cs) Nm z hz;obtain⟨c,hc,e,_⟩:=Fq eb;rw[<-e];exact aF (f:=λc:Cz=>c.tg.1) hc) ((ps.map (·.2.tg.1)).length+4*cs.length) (ps.map (·.2.tg.1)) [] (by rw[aa];simp) eJ (λz hz=>by obtain⟨p,hp,rfl⟩:=ax.mp hz;exact okp p hp) (λ_ h=>nomatch h) (λ_ h=>nomatch h)
 obtain⟨mnd,_,_,mok,mcl⟩:=mok;have mnd:(DJ cs ps).Nodup:=mnd;have mok:∀z∈DJ cs ps,SJ (bm cs) Nm z:=mok
 clear mcl
 have s13:=s12.trans s3;have lmet:(DJ cs ps).length<=50:=by
  have:=FU mnd (m:=cs.map (·.tg.1)) λz hz=>by
   obtain⟨b,eb,_⟩:=Da (bm cs) Nm z (mok z hz);obtain⟨c,hc,e,_⟩:=Fq eb;rw[<-e];exact aF (f:=λc:Cz=>c.tg.1) hc
  rw[aa] at this;have:=bx.few;omega
 have ndm1:d≠dm:=λw=>by rw[<-w,(bx.same s12).at_] at ndm;cases ndm
 dsimp only[Aq];refine Ao ⟨Fm,λlc nlc=>?_⟩;have s4:=Af nlc (.lst []);have hlc:(upd H3 lc (.lst [])) lc=some (.lst []):=Ad;have hdm4:=s4.get hdm;have hl4:=hl.same (s2.trans (s3.trans s4));have s14:=s13.trans s4;have nlcH:=s13.free nlc;dsimp only[Aq];generalize upd H3 lc (.lst [])=H4 at s4 hlc hdm4 hl4 s14;have lkm:(Bi (DJ cs ps)).length=(DJ cs ps).length:=aa ..;generalize em0:DJ cs ps=met at *;refine Bs (t:=GR _ _ _) (λσ' H'=>∃(ms:List Int) (rs:List (Addr×Ce)) (v5 v6 v7 v8 v9:Option V),σ'=[some (.ref d),some (.ref h),some (.ref dh),some (.ref dm),some (.ref lc),v5,v6,v7,v8,v9,none,none,none,none,none]/\Al H H'/\H' lc=some (.lst (rs.map λr=>V.ref r.1))/\rs.map (·.2)=ms.map (GS cs ks ps met)/\(∀r∈rs,Rep NL H' (MN r.2) (.ref r.1))/\ms.Perm met/\ms.Pairwise (·<=·)) (λN hN=>?_) ?_
 ·refine⟨_,rfl,dm,_,rfl,hdm4,by omega,λl5 nl5=>?_⟩;have s5:=Af nl5 (.lst ((Bi met).map λp=>kV p.1));refine⟨l5,met,rfl,AB.of (by rw[Ad,Bi,aj];rfl),by omega,λms l6 pm so nl6=>?_⟩;have s6:=Af nl6 (.lst (ms.map V.int));have hl6:(upd (upd H4 l5 (.lst ((Bi met).map λp=>kV p.1))) l6 (.lst (ms.map V.int))) l6=some (.lst (ms.map V.int)):=Ad;have s46:=s5.trans s6;generalize upd (upd H4 l5 (.lst ((Bi met).map λp=>kV p.1))) l6 (.lst (ms.map V.int))=H6 at s46 hl6;have nl6c:l6≠lc:=λw=>by rw[w,s5.get hlc] at nl6;cases nl6
  refine⟨l6,rfl,⟨_,AB.of hl6⟩,Eh (K:=K) (a:=l6) (xs:=ms.map V.int) (λi σ H'=>∃(rs:List (Addr×Ce)) (v5 v6 v7 v8 v9:Option V),σ=[some (.ref d),some (.ref h),some (.ref dh),some (.ref dm),some (.ref lc),v5,v6,v7,v8,v9,none,none,none,none,none]/\Al H H'/\H' l6=some (.lst (ms.map V.int))/\H' dm=some (.dK (Bi met))/\Hl H' dh cs ps hs/\H' lc=some (.lst (rs.map λr=>V.ref r.1))/\rs.map (·.2)=(ms.take i).map (GS cs ks ps met)/\(∀r∈rs,Rep NL H' (MN r.2) (.ref r.1))) ⟨[],none,none,none,none,none,rfl,s14.trans s46,hl6,s46.get hdm4,hl4.same s46,s46.get hlc,rfl,λ_ h=>nomatch h⟩ (by rintro i σ H' _ ⟨_,_,_,_,_,_,_,_,h,_⟩;exact AB.of h) ?_ ?_⟩
  ·rintro i x σ H7 hi ⟨rs,v5,v6,v7,v8,v9,rfl,s7,hl7,hdm7,hh7,hlc7,ers,hrs7⟩
   obtain⟨z,rfl,hz⟩:=Ew hi;have zm:z∈met:=pm.mem_iff.mp (aE hz);have okz:=mok z zm;obtain⟨b,eb,l3,_⟩:=Da (bm cs) Nm z okz;obtain⟨c,hc,etg,ecz,ecb⟩:=RL eb;have bx7:=bx.same s7;have hd7:=hd.same s7;obtain⟨c1,c2,c3⟩:=bx7.ce c hc;have g7:=bx7.get hc;rw[ecz] at g7;dsimp only[Aq];refine Ao ⟨_,rfl,_,rfl,d,_,rfl,g7,?_⟩;refine⟨c.p,_,rfl,AD.of c1,rfl,_,_,rfl,_,_,rfl,rfl,?_⟩;have kl:=hd.kl;refine Ao ⟨_,rfl,h,_,_,_,rfl,rfl,AD.of hd7.at_,Aj (j:=1) rfl,ka,rfl,⟨_,AD.of hd7.kt⟩,OE (K:=K) (ps:=ks) (g:=λk=>k.1) (A:=λk=>.str k.2.1) (B:=λk=>.int k.2.2) (λk=>decide (z∈Pt cs ps k.2.1)) (λk=>.str k.2.1) rfl (B2 hd7.kt) hd7.ke (by omega) (λk hk H' R s' hR=>?_) (λk hk H' R s' hR=>⟨_,rfl,hR⟩) λl8 H8 nl8 s8 hl8=>?_⟩
   ·have hm:k.2.1∈hs.map (·.1):=by rw[ehs];exact aF (f:=λk:Addr×Str×Int=>k.2.1) hk
    obtain⟨r,hr,er⟩:=ax.mp hm;have er:r.1=k.2.1:=er;have hh':=hh7.same s';have g1:=FO.k (k:=.inr r.1) hh'.at_;rw[show EU (hs.map λr=>((.inr r.1:Key),V.ref r.2)) (.inr r.1)=some (.ref r.2) from JG (k:=λr:Str×Addr=>.inr r.1) (g:=λr=>.ref r.2) (bJ.mpr ((bJ.mp hh'.nd).imp λh e=>h (gv e))) r hr] at g1;have g2:=FO.k (k:=.inl z) (hh'.ea r hr);rw[er] at g1 g2;refine⟨_,rfl,_,rfl,_,rfl,dh,_,rfl,g1,r.2,_,rfl,g2,_,rfl,?_⟩;rw[KA];exact hR
   refine⟨l8,_,rfl,.inl ⟨AB.of hl8,λth nth=>?_⟩⟩;have s9:=Af nth (.tup ((ks.filter λk=>decide (z∈Pt cs ps k.2.1)).map λk=>V.str k.2.1));have hth:(upd H8 th (.tup ((ks.filter λk=>decide (z∈Pt cs ps k.2.1)).map λk=>V.str k.2.1))) th=some (.tup ((ks.filter λk=>decide (z∈Pt cs ps k.2.1)).map λk=>V.str k.2.1)):=Ad;have s79:=s8.trans s9;dsimp only[Aq];generalize upd H8 th (.tup ((ks.filter λk=>decide (z∈Pt cs ps k.2.1)).map λk=>V.str k.2.1))=H9 at hth s79;refine Ao ⟨_,rfl,_,rfl,d,cs,z,rfl,bx7.same s79,UB okz,λH10 s10=>?_⟩;have s710:=s79.trans s10;dsimp only[Aq];refine⟨_,rfl,.inl ⟨rfl,_,AB.of (s710.get hlc7)⟩,_,rfl,_,rfl,c.ta,_,_,_,rfl,rfl,AD.of (s710.get c2),Aj (j:=1) rfl,_,rfl,_,rfl,_,rfl,_,rfl,_,rfl,_,rfl,d,h,dm,cs,ag,ka,ea,ks,ps,met,z,rfl,bx7.same s710,hd7.same s710,s710.get hdm7,ndm1,(λo ho=>?_),by omega,λH11 s11=>⟨_,rfl,V4,λt nt=>?_⟩⟩
   ·obtain⟨b,eb,l3,_⟩:=Da (bm cs) Nm o (mok o ho);exact⟨b,eb,l3⟩
   have s711:=s710.trans s11;have s12':=Af nt (.tup [.int z,.int c.tg.2.1,c.v,.int (Ro (bm cs) 9 z),.int (LB (bm cs) ps met z),.ref th]);have hlc12:=s12'.get (s711.get hlc7);have kt:=KT.lst hlc12 (.lst (rs.map (λr=>V.ref r.1)++[.ref t]));have lrs':rs.length<=50:=by
    have:=congrArg List.length ers;rw[aa,aa,aQ] at this;have:=pm.length_eq;omega
   have s712:=s711.trans s12';refine⟨lc,_,_,rfl,rfl,hlc12,Bh (by rw[aa];omega),rs++[(t,GS cs ks ps met z)],_,_,_,_,_,rfl,AI (s7.trans s712) nlcH _,by rw[An nl6c];exact s712.get hl7,by rw[An λw=>by rw[<-w,s712.get hdm7] at hlc12;cases hlc12];exact s712.get hdm7,(hh7.same s712).lst hlc12,by rw[Ad,aq];rfl,?_,λr hr=>?_⟩
   ·rw[aq,ers,aX,hz,aq];rfl
   ·rcases aB.mp hr with hr|hr
    ·exact CQ kt _ _ (Rep.same s712 _ _ (hrs7 r hr))
    ·cases ai.mp hr;have eb':S6 cs z=c.bk:=by unfold S6;rw[eb,ecb];rfl
     refine Ul (v:=c.v) (t:=th) (kt _ _ ?_) ?_ (kt _ _ ?_)
     ·rw[Ad];show some (HO.tup [.int z,.int c.tg.2.1,_,_,_,_])=some (HO.tup [.int z,.int (VN cs z).2.1,_,_,_,_]);rw[etg];rfl
     ·show Rep NL _ (FF (S6 cs z)) c.v;rw[eb'];exact CQ kt _ _ (Rep.same s712 _ _ c3)
     ·rw[(s10.trans (s11.trans s12')).get hth];show _=some (HO.tup (((ks.filter λk=>decide (z∈Pt cs ps k.2.1)).map (·.2.1)).map V.str));rw[aj];rfl
  ·rintro σ H7 ⟨rs,v5,v6,v7,v8,v9,rfl,s7,hl7,hdm7,hh7,hlc7,ers,hrs7⟩
   rw[aa,bU] at ers;exact hN _ _ ⟨ms,rs,_,_,_,_,_,rfl,s7,hlc7,ers,hrs7,pm,so⟩
 rintro σ' H7 ⟨ms,rs,v5,v6,v7,v8,v9,rfl,s7,hlc7,ers,hrs7,pm,so⟩
 have kl:=hd.kl;have hwd:∀r∈rs,UL 5 (FF r.2.b):=λr hr=>by
  have:r.2∈ms.map (GS cs ks ps met):=by rw[<-ers];exact aF hr
  obtain⟨z,hz,e⟩:=ax.mp this;rw[<-e];have okz:=mok z (pm.mem_iff.mp hz);obtain⟨b,eb,_⟩:=Da (bm cs) Nm z okz;show UL 5 (FF (S6 cs z));unfold S6;rw[eb];exact Ur hNm okz eb
 have lrs':rs.length<=50:=by
  have:=congrArg List.length ers;rw[aa,aa] at this;have:=pm.length_eq;omega
 have lhs':∀r∈rs,r.2.hs.length<=8:=λr hr=>by
  have:r.2∈ms.map (GS cs ks ps met):=by rw[<-ers];exact aF hr
  obtain⟨z,hz,e⟩:=ax.mp this;rw[<-e];show((ks.filter λk=>decide (z∈Pt cs ps k.2.1)).map (·.2.1)).length<=8;have:=bT (λk:Addr×Str×Int=>decide (z∈Pt cs ps k.2.1)) ks;rw[aa];omega
 refine Ao ⟨Fm,λls nls=>?_⟩;have s8:=Af nls (.lst []);have hls:(upd H7 ls (.lst [])) ls=some (.lst []):=Ad;have hlc8:=s8.get hlc7;have hrs8:∀r∈rs,Rep NL _ (MN r.2) (.ref r.1):=λr hr=>Rep.same s8 _ _ (hrs7 r hr)
 have s18:=s7.trans s8;have nlsH:=s7.free nls;have nlsc:lc≠ls:=λw=>by rw[<-w,hlc7] at nls;cases nls
 dsimp only[Aq];generalize upd H7 ls (.lst [])=H8 at hls hlc8 hrs8 s18;refine Bs (t:=GR _ _ _) (λσ' H'=>∃(qs:List (Addr×Str)) (v11 v12 v13 v14:Option V),σ'=[some (.ref d),some (.ref h),some (.ref dh),some (.ref dm),some (.ref lc),v5,v6,v7,v8,v9,some (.ref ls),v11,v12,v13,v14]/\Al H H'/\H' lc=some (.lst (rs.map λr=>V.ref r.1))/\(∀r∈rs,Rep NL H' (MN r.2) (.ref r.1))/\H' ls=some (.lst (qs.map λr=>V.ref r.1))/\qs.map (·.2)=ks.map (·.2.1)/\∀r∈qs,Rep NL H' (Rq (rs.map (·.2)) r.2) (.ref r.1)) (λN hN=>?_) ?_
 ·have hd8:=hd.same s18;refine⟨_,rfl,h,_,_,_,rfl,rfl,AD.of hd8.at_,Aj (j:=1) rfl,ka,rfl,⟨_,AD.of hd8.kt⟩,?_⟩;refine Gr (K:=K) (a:=ka) (xs:=ks.map λp=>V.ref p.1) (λi σ H'=>∃(qs:List (Addr×Str)) (v11 v12 v13 v14:Option V),σ=[some (.ref d),some (.ref h),some (.ref dh),some (.ref dm),some (.ref lc),v5,v6,v7,v8,v9,some (.ref ls),v11,v12,v13,v14]/\Al H H'/\H' lc=some (.lst (rs.map λr=>V.ref r.1))/\(∀r∈rs,Rep NL H' (MN r.2) (.ref r.1))/\H' ls=some (.lst (qs.map λr=>V.ref r.1))/\qs.map (·.2)=(ks.take i).map (·.2.1)/\∀r∈qs,Rep NL H' (Rq (rs.map (·.2)) r.2) (.ref r.1)) ⟨[],none,none,none,none,rfl,s18,hlc8,hrs8,hls,rfl,λ_ h=>nomatch h⟩ (by rintro i σ H' _ ⟨_,_,_,_,_,_,s',_⟩;exact AD.of (s'.get hd.kt)) ?_ ?_
  ·rintro i x σ H9 hi ⟨qs,v11,v12,v13,v14,rfl,s9,hlc9,hrs9,hls9,eqs,hqs9⟩
   obtain⟨k,rfl,hk⟩:=Ew hi;have hd9:=hd.same s9;have i8:=(ar.mp hk).1;dsimp only[Aq];refine⟨k.1,_,rfl,AD.of (hd9.ke k (aE hk)),rfl,_,_,rfl,_,_,rfl,rfl,?_⟩;refine Ao ⟨_,rfl,lc,rfl,⟨_,AB.of hlc9⟩,DS (ps:=rs) (λr=>SW (.str k.2.1) (r.2.hs.map V.str)) (λr=>.int (840*Px 5 (FF r.2.b)/(r.2.hs.length:Int))) (B5 (AB.of hlc9)) (by omega) (λr hr H' R s' hR=>?_) (λr hr pr H' R s' hR=>?_) λl10 H10 nl10 s10 hl10=>?_⟩
   ·obtain⟨v,t,h1,h2,h3⟩:=Ny (Rep.same s' _ _ (hrs9 r hr));have fl:(r.2.hs.map V.str).all GE=true:=cf.mpr λv hv=>by
     obtain⟨x,_,rfl⟩:=ax.mp hv;rfl
    exact⟨_,rfl,_,rfl,r.1,_,_,_,rfl,rfl,AD.of h1,Aj (j:=5) rfl,t,_,rfl,.inr (AD.of h3),rfl,fl,_,rfl,hR⟩
   ·obtain⟨v,t,h1,h2,h3⟩:=Ny (Rep.same s' _ _ (hrs9 r hr));have lp:0<r.2.hs.length:=bI.mpr λe=>by rw[e] at pr;cases pr
    have l8:=lhs' r hr;have ll:((r.2.hs.map V.str).length:Int)=(r.2.hs.length:Int):=by rw[aa]
    refine⟨_,rfl,r.1,_,_,_,rfl,rfl,AD.of h1,Aj (j:=2) rfl,v,_,rfl,h2,hwd r hr,λH'' s''=>⟨_,_,rfl,rfl,.inl ⟨by decide,by decide⟩,_,rfl,r.1,_,_,_,rfl,rfl,AD.of (s''.get h1),Aj (j:=5) rfl,t,_,rfl,.inr (AD.of (s''.get h3)),_,_,rfl,rfl,⟨by rw[ll];omega,by rw[ll];omega⟩,?_⟩⟩;rw[ll];exact hR H'' s''
   refine⟨l10,(rs.filter λr=>SW (.str k.2.1) (r.2.hs.map V.str)).map λ(r:Addr×Ce)=>840*Px 5 (FF r.2.b)/(r.2.hs.length:Int),rfl,AB.of (by rw[hl10,aj];rfl),?_⟩;have et:((rs.filter λr=>SW (.str k.2.1) (r.2.hs.map V.str)).map λ(r:Addr×Ce)=>840*Px 5 (FF r.2.b)/(r.2.hs.length:Int)).sum=IR (rs.map (·.2)) k.2.1:=by
    unfold IR;rw[fk,aj];rfl
   rw[et];have t0:=Ue (rs.map (·.2)) k.2.1;dsimp only[Aq];refine Ao ⟨_,rfl,(IR (rs.map (·.2)) k.2.1).toNat,840,by rw[Int.toNat_of_nonneg t0];rfl,?_⟩;have g0:0<Nat.gcd (IR (rs.map (·.2)) k.2.1).toNat 840:=Nat.gcd_pos_of_pos_right _ (by decide);have g1:Nat.gcd (IR (rs.map (·.2)) k.2.1).toNat 840<=840:=Nat.gcd_le_right _ (by decide);dsimp only[Aq];refine⟨_,rfl,.inl ⟨rfl,_,AB.of (s10.get hls9)⟩,_,rfl,_,rfl,_,rfl,_,_,rfl,rfl,⟨by omega,by omega⟩,_,rfl,_,_,rfl,rfl,⟨by omega,by omega⟩,E3,λt1 nt1=>⟨E3,λt2 nt2=>?_⟩⟩;have s11:=Af nt1 (.tup [.int (IR (rs.map (·.2)) k.2.1/((Nat.gcd (IR (rs.map (·.2)) k.2.1).toNat 840:Nat):Int)),.int (840/((Nat.gcd (IR (rs.map (·.2)) k.2.1).toNat 840:Nat):Int))]);have s12:=Af nt2 (.tup [.str k.2.1,.ref t1]);have s912:=s10.trans (s11.trans s12);have hls12:=s912.get hls9;have kt:=KT.lst hls12 (.lst (qs.map (λr=>V.ref r.1)++[.ref t2]));have lqs:qs.length<=8:=by
    have:=congrArg List.length eqs;rw[aa,aa,aQ] at this;omega
   refine⟨ls,_,_,rfl,rfl,hls12,Bh (by rw[aa];omega),qs++[(t2,k.2.1)],_,_,_,_,rfl,AI (s9.trans s912) nlsH _,by rw[An nlsc];exact s912.get hlc9,λr hr=>CQ kt _ _ (Rep.same s912 _ _ (hrs9 r hr)),by rw[Ad,aq];rfl,by rw[aq,eqs,aX,hk,aq];rfl,λr hr=>?_⟩;rcases aB.mp hr with hr|hr
   ·exact CQ kt _ _ (Rep.same s912 _ _ (hqs9 r hr))
   ·cases ai.mp hr;exact⟨t2,_,rfl,kt _ _ Ad,_,_,rfl,rfl,_,_,rfl,⟨t1,_,rfl,kt _ _ (s12.get Ad),_,_,rfl,rfl,_,_,rfl,rfl,rfl⟩,rfl⟩
  ·rintro σ H9 ⟨qs,v11,v12,v13,v14,rfl,s9,hlc9,hrs9,hls9,eqs,hqs9⟩
   rw[aa,bU] at eqs;exact hN _ _ ⟨qs,_,_,_,_,rfl,s9,hlc9,hrs9,hls9,eqs,hqs9⟩
 rintro σ' H9 ⟨qs,v11,v12,v13,v14,rfl,s9,hlc9,hrs9,hls9,eqs,hqs9⟩
 have hd9:=hd.same s9;dsimp only[Pl];refine⟨_,rfl,h,_,_,_,rfl,rfl,AD.of hd9.at_,Aj (j:=0) rfl,_,rfl,h,_,_,_,rfl,rfl,AD.of hd9.at_,Aj (j:=1) rfl,_,rfl,h,_,_,_,rfl,rfl,AD.of hd9.at_,Aj (j:=2) rfl,_,rfl,lc,_,rfl,.inl ⟨AB.of hlc9,λca nca=>?_⟩⟩;have s10:=Af nca (.tup (rs.map λr=>V.ref r.1));refine⟨_,rfl,ls,_,rfl,.inl ⟨AB.of (s10.get hls9),λsh nsh=>⟨LJ,λa na=>?_⟩⟩⟩;have s11:=Af nsh (.tup (qs.map λr=>V.ref r.1));have s12:=Af na (.tup [.int ag,.ref ka,.ref ea,.ref ca,.ref sh]);have s912:=s10.trans (s11.trans s12);refine q a ms _ (s9.trans s912) ⟨⟨ca,sh,rs,Ad,(s11.trans s12).get Ad,by rw[em0];exact ers,λr hr=>Rep.same s912 _ _ (hrs9 r hr),sh,_,rfl,s12.get Ad,?_⟩,by rw[em0];exact pm,so⟩;rw[em0,<-ers];have e2:(ks.map λk=>Rq (rs.map (·.2)) k.2.1)=qs.map λr=>Rq (rs.map (·.2)) r.2:=by
  rw[show(ks.map λk=>Rq (rs.map (·.2)) k.2.1)=(ks.map (·.2.1)).map (Rq (rs.map (·.2))) by rw[aj];rfl,<-eqs,aj];rfl
 rw[e2];refine Je (by rw[aa]) λi x v hx hv=>?_
 rw[aw,hx] at hv;cases hv;exact Rep.same s912 _ _ (hqs9 x (aE hx))
def NQ (n:Nat)(K:W.Frag):Sp:=match n with
 |0=>λ_ _ _ _=>False
 |n+1=>λvs H Q _=>∃(d ta:Addr) (cs:List Cz) (t:Tg),vs=[.ref d,.ref ta]/\Bx H d cs/\Dm H ta t/\Rw (bm cs) n t.1/\n<=2/\∀H',Al H H'->Q (.str (IM (bm cs) n t.1)) H'
def DQ (K:W.Frag):Sp:=NQ 3 K
theorem RN (T:Txt K mg C XC)(F:Fun K "_law_content" "_law_content" Bq f fd)(n:Nat)(Cu:Def P w K mg base (1+n) "_law_content" ["_law_blocks_here","_law_tag"] (NQ n K)):FnOk P w K mg base CU (1+n+1) f fd ["_law_blocks_here","_law_tag"] (NQ (n+1) K):=by
 exists DL
 ·obtain⟨d,ta,cs,t,rfl,_⟩:=h;rfl
 obtain⟨d,ta,cs,t,rfl,bx,hta,rw_,n2,q⟩:=h;have hu:=Cp hr;have hu9:=B8 hr;refine⟨_,(!Ae (@Ap _ _ (2) _ _ _ _ DL.nd rfl (by trivial) (!Ai Ar (!CT hu (pv 0) (!Ai Ar (pv 1) (!Ab) (λ_ _=>rfl)) (λ_ _=>rfl)) (!Ab) (λ_ _=>rfl)) (by rfl) (by trivial)) (!Ae (!Bu (!AA CJ (!Ai Ar (pv 2) (!Ab) (λ_ _=>rfl)) (!Ab) (AG _)) (!Ah (!As (!Ai Ar (pv 2) (!Ab) (λ_ _=>rfl)))) (!AO)) (!Ah (!As (!Cf bN di dg (Jc rfl) (!A3) (!Aa (@Cb _ ["_law_other","_law_blocks_here"] [none,some 0] _ _ _ _ _ _ _ _ _ _ _ rfl (!B9 (!Ai Ar (pv 2) (!Ab) (λ_ _=>rfl))) (by rfl) rfl (by repeat (first|exact trivial|refine⟨rfl,?_⟩)) (by repeat (first|exact trivial|refine⟨λh=>(by first|exact⟨_,rfl⟩|cases h),?_⟩)) (λC s H fp=>⟨(@Ak _ _ (0) _ (show(["_law_other","_law_blocks_here"]:List Str).Nodup by decide +kernel) rfl (by trivial) (by trivial)),(!AW),(!AM Cu (hr.mono (by omega)) rfl (!Aa (pv 1) (!Aa (pv 0) (!Ac))))⟩) (by intro _;rfl)) (!Ac))))))),?_⟩
 try dsimp only[Bw,Cx.nox,Cx.wish]
 have pc:∀c,bm cs t.1=some (.piece c)->IM (bm cs) n t.1=c:=λc e=>by
  cases n with
  |zero=>unfold IM;rw[e]
  |succ n=>unfold IM;rw[e]
 have hp:(∃c,bm cs t.1=some (.piece c))\/∃m lv ts,n=m+1/\bm cs t.1=some (.row lv ts)/\ts.length<=3/\∀t∈ts,Rw (bm cs) m t.1:=by
  cases n with
  |zero=>obtain⟨c,e,_⟩:=rw_;exact .inl ⟨c,e⟩
  |succ m=>
   rcases rw_ with⟨c,e,_⟩|⟨lv,ts,e,l3,ht⟩
   ·exact .inl ⟨c,e⟩
   ·exact .inr ⟨m,lv,ts,rfl,e,l3,ht⟩
 rcases hp with⟨c,e⟩|⟨m,lv,ts,rfl,e,l3,ht⟩
 ·obtain⟨p,tb,v,g,hp,hv⟩:=bx.blk e;obtain⟨a,rfl,ha⟩:=DV hv;refine Ao ⟨_,rfl,_,rfl,ta,_,_,_,rfl,rfl,AD.of hta,Aj (j:=0) rfl,d,_,rfl,g,p,_,_,_,rfl,rfl,AD.of hp,Aj (j:=1) rfl,?_⟩;rw[pc c e] at q;exact⟨_,rfl,a,_,_,_,rfl,rfl,AD.of ha,Aj (j:=0) rfl,rfl,_,rfl,DR rfl ⟨_,rfl,a,_,_,_,rfl,rfl,AD.of ha,Aj (j:=1) rfl,q H (Al.refl _)⟩⟩
 ·obtain⟨p,tb,v,g,hp,hv⟩:=bx.blk e;obtain⟨a,b,vs,rfl,ha,hb,rs⟩:=Gm hv;refine Ao ⟨_,rfl,_,rfl,ta,_,_,_,rfl,rfl,AD.of hta,Aj (j:=0) rfl,d,_,rfl,g,p,_,_,_,rfl,rfl,AD.of hp,Aj (j:=1) rfl,?_⟩;obtain⟨ps,rfl,rfl,hps⟩:=Hv rs;rw[aa] at l3;refine⟨_,rfl,a,_,_,_,rfl,rfl,AD.of ha,Aj (j:=0) rfl,rfl,_,rfl,By rfl ?_⟩;refine⟨rfl,_,rfl,a,_,_,_,rfl,rfl,AD.of ha,Aj (j:=2) rfl,b,rfl,⟨_,AD.of hb⟩,?_⟩;refine Ct (ps:=ps) (λx=>.str (IM (bm cs) m x.2.1)) (B2 hb) (by omega) (λx hx H3 R s3 hR=>?_) λl3' H3 nl3 s3 hl3=>?_
  ·exact⟨_,rfl,_,rfl,d,x.1,cs,x.2,rfl,bx.same s3,s3.get (hps x hx),ht _ (aF hx),by omega,λH4 s4=>hR H4 s4⟩
  ·have le:=Rw.len (n:=m+1) (.inr ⟨lv,_,e,by rw[aa];exact l3,ht⟩);have ec:IM (bm cs) (m+1) t.1=PySem.Txt.join EM (ps.map λx=>IM (bm cs) m x.2.1):=by
    rw[IM,e];dsimp only;rw[aj];rfl
   have m3:3^(m+1)<=3^2:=gx (by decide) n2;rw[ec,GY] at le;have hl3':H3 l3'=some (.lst ((ps.map λx=>IM (bm cs) m x.2.1).map V.str)):=by rw[hl3,aj];rfl
   rw[ec] at q;refine⟨l3',EM,_,rfl,rfl,AB.of hl3',?_,q H3 s3⟩;rw[show EM.length=0 from rfl,fZ];omega
theorem QR (T:Txt K mg C XC)(F:Fun K "_law_content" "_law_content" Bq f fd)(hm:mg "_law_content"=some (.ref f))(hk:W.keepIn K (.ref f)=true)(hb:Binds K fd ["_law_blocks_here","_law_tag"] []):∀n,FnOk P w K mg base CU (1+n) f fd ["_law_blocks_here","_law_tag"] (NQ n K)
 |0=>F.ok DL (λvs H Q E h=>h.elim) (λcdv A outer s H vs Q E hr h=>h.elim)
 |n+1=>RN T F n ⟨f,fd,QR T F hm hk hb n,hm,hk,hb⟩
theorem IL (T:Txt K mg C XC)(F:Fun K "_law_content" "_law_content" Bq f fd)(hm:mg "_law_content"=some (.ref f))(hk:W.keepIn K (.ref f)=true)(hb:Binds K fd ["_law_blocks_here","_law_tag"] []):FnOk P w K mg base CU 4 f fd ["_law_blocks_here","_law_tag"] (DQ K):=
 QR T F hm hk hb 3
def lT (B:BM):Nat->Str->Int->List En
 |0,_,_=>[]
 |n+1,z,g=>(ML B g).flatMap λe=>⟨pj z e.nm,e.kd,e.tg⟩::(if e.kd=2 then lT B n (pj z e.nm) e.tg.1 else[])
def bd:Nat->Nat
 |0=>0
 |n+1=>3*(bd n+1)
theorem TB:∀n:Nat,n<8->bd n<=5000:=by decide
theorem QB {B:BM}{Nm:Str->Prop}:∀{n:Nat} {z:Str} {g:Int},Fd B Nm n g->(lT B n z g).length<=bd n
 |n+1,z,g,⟨es,e,l3,nd,h⟩=>by
  unfold lT;rw[C6 e,gD];have:=MX (l:=es) (g:=λe=>((⟨pj z e.nm,e.kd,e.tg⟩:En)::(if e.kd=2 then lT B n (pj z e.nm) e.tg.1 else[])).length) (m:=bd n+1) λx hx=>by
   rw[aM]
   split
   ·next k2=>
    rcases(h x hx).2 with⟨k,_⟩|⟨_,k⟩
    ·rw[k2] at k;cases k
    ·have:=QB (z:=pj z x.nm) k;omega
   ·show 0+1<=_;omega
  have:=gy (bd n+1) l3;show _<=3*(bd n+1);omega
theorem mul_one (z:Str):PySem.Txt.mul SL (if(!decide (V.str z=V.str EM))=true then 1 else 0)=if z=EM then EM else SL:=by
 by_cases e:z=EM
 ·rw[e,aR rfl,aI rfl];rfl
 ·rw[aO λw=>e (V.str.inj w),aH e];rfl
theorem Ux (z n:Str):(pj z n).length<=z.length+1+n.length:=by
 unfold pj
 split
 ·omega
 ·rw[len_app,len_app];exact ak _
def Ou (n:Nat)(K:W.Frag):Sp:=match n with
 |0=>λ_ _ _ _=>False
 |n+1=>λvs H Q _=>∃(d ta:Addr) (cs:List Cz) (z:Str) (t:Tg) (Nm:Str->Prop),vs=[.ref d,.str z,.ref ta]/\Bx H d cs/\Dm H ta t/\Fd (bm cs) Nm (n+1) t.1/\(∀z,Nm z->z.length<=8)/\z.length+9*n<=900/\n<=6/\
  ∀l (ps:List (Addr×En)) H',Al H H'->H l=none->H' l=some (.lst (ps.map λp=>V.ref p.1))->(∀p∈ps,GB H' p)->ps.map (·.2)=lT (bm cs) (n+1) z t.1->Q (.ref l) H'
def Fz (K:W.Frag):Sp:=Ou 6 K
theorem RS (T:Txt K mg C XC)(F:Fun K "_law_tree" "_law_tree" B6 f fd)(n:Nat)(DA:Def P w K mg base (1+n) "_law_tree" ["_law_blocks_here","_law_path","_law_tag"] (Ou n K)):FnOk P w K mg base CU (1+n+1) f fd ["_law_blocks_here","_law_path","_law_tag"] (Ou (n+1) K):=by
 exists Ca
 ·obtain⟨d,ta,cs,z,t,Nm,rfl,_⟩:=h;rfl
 obtain⟨d,ta,cs,z,t,Nm,rfl,bx,hta,fdz,hNm,lz,n6,q⟩:=h;have hu:=Cp hr;have hu9:=B8 hr;refine⟨_,(!Ae (@Ap _ _ (3) _ _ _ _ Ca.nd rfl (by trivial) (!Bc (!Ac)) (by rfl) (by trivial)) (!Ae (!BF aT rfl (!B9 (!Ai Ar (!Ai Ar (!CT hu (pv 0) (!Ai Ar (pv 2) (!Ab) (λ_ _=>rfl)) (λ_ _=>rfl)) (!Ab) (λ_ _=>rfl)) (!Ab) (λ_ _=>rfl))) (!D5 rfl (!Av (@Ak _ _ (4) _ Ca.nd rfl (by trivial) (by trivial)) (!Av (@Ak _ _ (5) _ Ca.nd rfl (by trivial) (by trivial)) (!Av (@Ak _ _ (6) _ Ca.nd rfl (by trivial) (by trivial)) (!BU))))) (!Ae (@Ap _ _ (7) _ _ _ _ Ca.nd rfl (by trivial) (!Am BP (!Am BP (pv 1) (!Am NI (!A3) (!Bf HC (by rfl) T.b_int Lc (!Aa (!Fp Iu (pv 1) (!A3) (AG _)) (!Ac))))) (pv 4)) (by rfl) (by trivial)) (!Ae (!BK (!Cf aL aZ aY Br (pv 3) (!Aa (!AY (!Aa (pv 7) (!Aa (pv 5) (!Aa (pv 6) (!Ac))))) (!Ac)))) (!Ah (!Bu (!AA CJ (pv 5) (!Ab) (AG _)) (!Ah (!BK (!Cf aL cM cL Gj (pv 3) (!Aa (!AM DA (hr.mono (by omega)) rfl (!Aa (pv 0) (!Aa (pv 7) (!Aa (pv 6) (!Ac))))) (!Ac))))) (!AO))))) (by intro _;rfl)) (!Ah (!As (pv 3))))),?_⟩
 try dsimp only[Bw,Cx.nox,Cx.wish]
 obtain⟨es,eb,l3,nd,hes⟩:=fdz;obtain⟨cc,hcc,ecz,ecb⟩:=Fq eb;obtain⟨hp,_,hv⟩:=bx.ce cc hcc;rw[ecb] at hv;generalize cc.v=v at hv hp;obtain⟨a,b,us,rfl,ha,hb,r⟩:=Cq hv;obtain⟨ps,rfl,rfl,hps⟩:=JD r;rw[aa] at l3;refine Ao ⟨Fm,λlf nlf=>?_⟩;have s1:=Af nlf (.lst []);have hlf:(upd H lf (.lst [])) lf=some (.lst []):=Ad;dsimp only[Aq];generalize upd H lf (.lst [])=H1 at s1 hlf;have hb1:=s1.get hb;refine Bs (t:=GR _ _ _) (λσ' H'=>∃(rs:List (Addr×En)) (v4 v5 v6 v7:Option V),σ'=[some (.ref d),some (.str z),some (.ref ta),some (.ref lf),v4,v5,v6,v7]/\Al H H'/\H' lf=some (.lst (rs.map λp=>V.ref p.1))/\(∀p∈rs,GB H' p)/\rs.map (·.2)=lT (bm cs) (n+1) z t.1) (λN hN=>?_) ?_
 ·have g:=(bx.same s1).get hcc;rw[ecz] at g;refine⟨_,rfl,_,rfl,ta,_,_,_,rfl,rfl,AD.of (s1.get hta),Aj (j:=0) rfl,d,_,rfl,g,cc.p,_,_,_,rfl,rfl,AD.of (s1.get hp),Aj (j:=1) rfl,a,_,_,_,rfl,rfl,AD.of (s1.get ha),Aj (j:=1) rfl,b,rfl,⟨_,AD.of hb1⟩,?_⟩;refine Gr (K:=K) (a:=b) (xs:=ps.map λp=>V.ref p.1) (λi σ H'=>∃(rs:List (Addr×En)) (v4 v5 v6 v7:Option V),σ=[some (.ref d),some (.str z),some (.ref ta),some (.ref lf),v4,v5,v6,v7]/\Al H H'/\H' lf=some (.lst (rs.map λp=>V.ref p.1))/\(∀p∈rs,GB H' p)/\rs.length<=5001*i/\rs.map (·.2)=((ps.take i).map (·.2)).flatMap λe=>⟨pj z e.nm,e.kd,e.tg⟩::(if e.kd=2 then lT (bm cs) n (pj z e.nm) e.tg.1 else[])) ⟨[],none,none,none,none,rfl,s1,hlf,(λ_ h=>nomatch h),bg _,rfl⟩ (by rintro i σ H' _ ⟨_,_,_,_,_,_,s',_⟩;exact AD.of (s'.get hb)) ?_ ?_
  ·rintro i x σ H2 hi ⟨rs,v4,v5,v6,v7,rfl,s2,hlf2,hrs2,lrs,ers⟩
   obtain⟨y,rfl,hy⟩:=Ew hi;have hm:=aE hy;have il:=(ar.mp hy).1;obtain⟨yt,hy1,hy2⟩:=hps y hm;have oky:=hes y.2 (aF hm);have lnm:=hNm _ oky.1;have et:((ps.take (i+1)).map (·.2)).flatMap (λe=>(⟨pj z e.nm,e.kd,e.tg⟩:En)::(if e.kd=2 then lT (bm cs) n (pj z e.nm) e.tg.1 else[]))=((ps.take i).map (·.2)).flatMap (λe=>(⟨pj z e.nm,e.kd,e.tg⟩:En)::(if e.kd=2 then lT (bm cs) n (pj z e.nm) e.tg.1 else[]))++(⟨pj z y.2.nm,y.2.kd,y.2.tg⟩::(if y.2.kd=2 then lT (bm cs) n (pj z y.2.nm) y.2.tg.1 else[])):=by
    rw[aX,hy,Option.toList_some,aq,gE];simp
   dsimp only[Aq];refine⟨y.1,_,rfl,AD.of (s2.get hy1),rfl,_,_,rfl,_,_,rfl,_,_,rfl,rfl,?_⟩;refine Ao ⟨_,rfl,_,rfl,rfl,.inr ⟨_,rfl,_,_,rfl,rfl,(by split<;>decide),(by split<;>decide),(by decide +kernel),?_⟩⟩;rw[mul_one];have l1:z.length+(if z=EM then EM else SL).length<=1000:=by
    split
    ·show z.length+0<=_;omega
    ·show z.length+1<=_;omega
   refine⟨_,_,rfl,rfl,small (by omega),_,rfl,_,_,rfl,rfl,small (by rw[len_app];omega),?_⟩;have ep:(z++if z=EM then EM else SL)++y.2.nm=pj z y.2.nm:=by
    unfold pj
    split
    ·next e=>rw[e];exact G3 (by rw[Dh,Dh];rfl)
    ·rfl
   rw[ep];have lpj:=Ux z y.2.nm;dsimp only[Aq];refine G1 ⟨_,rfl,.inl ⟨rfl,_,AB.of hlf2⟩,_,rfl,_,rfl,_,rfl,II,λt3 nt3=>?_⟩;have s3:=Af nt3 (.tup [.str (pj z y.2.nm),.int y.2.kd,.ref yt]);have hlf3:=s3.get hlf2;have kt:=KT.lst hlf3 (.lst (rs.map (λp=>V.ref p.1)++[.ref t3]));have h4:GB (upd (upd H2 t3 (.tup [.str (pj z y.2.nm),.int y.2.kd,.ref yt])) lf (.lst (rs.map (λp=>V.ref p.1)++[.ref t3]))) (t3,⟨pj z y.2.nm,y.2.kd,y.2.tg⟩):=⟨yt,kt _ _ Ad,kt _ _ (s3.get (s2.get hy2))⟩
   refine⟨lf,_,_,rfl,rfl,hlf3,Bh (by rw[aa];omega),?_⟩;have hrs4:∀p∈rs++[(t3,⟨pj z y.2.nm,y.2.kd,y.2.tg⟩)],GB (upd (upd H2 t3 (.tup [.str (pj z y.2.nm),.int y.2.kd,.ref yt])) lf (.lst (rs.map (λp=>V.ref p.1)++[.ref t3]))) p:=λp hp=>by
    rcases aB.mp hp with hp|hp
    ·exact((hrs2 p hp).same s3).tup kt
    ·cases ai.mp hp;exact h4
   have hlf4:(upd (upd H2 t3 (.tup [.str (pj z y.2.nm),.int y.2.kd,.ref yt])) lf (.lst (rs.map (λp=>V.ref p.1)++[.ref t3]))) lf=some (.lst ((rs++[(t3,(⟨pj z y.2.nm,y.2.kd,y.2.tg⟩:En))]).map λp=>V.ref p.1)):=by rw[Ad,aq];rfl
   have s4:Al H (upd (upd H2 t3 (.tup [.str (pj z y.2.nm),.int y.2.kd,.ref yt])) lf (.lst (rs.map (λp=>V.ref p.1)++[.ref t3]))):=AI (s2.trans s3) nlf _;have ers4:(rs++[(t3,(⟨pj z y.2.nm,y.2.kd,y.2.tg⟩:En))]).map (·.2)=((ps.take i).map (·.2)).flatMap (λe=>(⟨pj z e.nm,e.kd,e.tg⟩:En)::(if e.kd=2 then lT (bm cs) n (pj z e.nm) e.tg.1 else[]))++[⟨pj z y.2.nm,y.2.kd,y.2.tg⟩]:=by rw[aq,ers];rfl
   have lrs4:(rs++[(t3,(⟨pj z y.2.nm,y.2.kd,y.2.tg⟩:En))]).length=rs.length+1:=by rw[au];rfl
   generalize upd (upd H2 t3 (.tup [.str (pj z y.2.nm),.int y.2.kd,.ref yt])) lf (.lst (rs.map (λp=>V.ref p.1)++[.ref t3]))=H4 at hrs4 hlf4 s4;generalize rs++[(t3,(⟨pj z y.2.nm,y.2.kd,y.2.tg⟩:En))]=rs4 at hrs4 hlf4 ers4 lrs4;refine⟨_,rfl,rfl,_,rfl,DN (λc=>?_) (λc=>?_)⟩
   ·have k2:y.2.kd=2:=VB c;have f2:Fd (bm cs) Nm n y.2.tg.1:=by
     rcases oky.2 with⟨k,_⟩|⟨_,k⟩
     ·rw[k2] at k;cases k
     ·exact k
    have lT2:=QB (z:=pj z y.2.nm) f2;have b2:=TB n (by omega);refine⟨_,rfl,.inl ⟨rfl,_,AB.of hlf4⟩,_,rfl,_,rfl,_,rfl,?_⟩;cases n with
    |zero=>exact f2.elim
    |succ n=>
     refine⟨d,yt,cs,_,y.2.tg,Nm,rfl,bx.same s4,s4.get hy2,f2,hNm,by omega,by omega,λl5 qs H5 s5 nl5 hl5 hqs5 eqs=>?_⟩;have hlf5:=s5.get hlf4;have nl:lf≠l5:=λw=>by rw[<-w,hlf4] at nl5;cases nl5
     have lqs:qs.length<=5000:=by rw[<-eqs,aa] at lT2;omega
     have kt5:=KT.lst hlf5 (.lst (rs4.map (λp=>V.ref p.1)++qs.map λp=>V.ref p.1));refine⟨lf,l5,_,_,rfl,rfl,hlf5,hl5,small (by rw[aa,aa];omega),rs4++qs,_,_,_,_,rfl,AI (s4.trans s5) nlf _,by rw[Ad,aq],λp hp=>?_,by rw[au];omega,by rw[et,aq,ers4,eqs,aI k2,bD];rfl⟩;rcases aB.mp hp with hp|hp
     ·exact((hrs4 p hp).same s5).tup kt5
     ·exact(hqs5 p hp).tup kt5
   ·have k2:y.2.kd≠2:=λk2=>c (aR (by rw[k2]))
    exact⟨rs4,_,_,_,_,rfl,s4,hlf4,hrs4,by omega,by rw[et,ers4,aH k2]⟩
  ·rintro σ H2 ⟨rs,v4,v5,v6,v7,rfl,s2,hlf2,hrs2,lrs,ers⟩
   rw[aa,bU] at ers;exact hN _ _ ⟨rs,_,_,_,_,rfl,s2,hlf2,hrs2,by rw[ers,lT,C6 eb]⟩
 ·rintro σ' H2 ⟨rs,v4,v5,v6,v7,rfl,s2,hlf2,hrs2,ers⟩
  exact⟨_,rfl,q lf rs H2 s2 nlf hlf2 hrs2 ers⟩
theorem QA (T:Txt K mg C XC)(F:Fun K "_law_tree" "_law_tree" B6 f fd)(hm:mg "_law_tree"=some (.ref f))(hk:W.keepIn K (.ref f)=true)(hb:Binds K fd ["_law_blocks_here","_law_path","_law_tag"] []):∀n,FnOk P w K mg base CU (1+n) f fd ["_law_blocks_here","_law_path","_law_tag"] (Ou n K)
 |0=>F.ok Ca (λvs H Q E h=>h.elim) (λcdv A outer s H vs Q E hr h=>h.elim)
 |n+1=>RS T F n ⟨f,fd,QA T F hm hk hb n,hm,hk,hb⟩
theorem Ld (T:Txt K mg C XC)(F:Fun K "_law_tree" "_law_tree" B6 f fd)(hm:mg "_law_tree"=some (.ref f))(hk:W.keepIn K (.ref f)=true)(hb:Binds K fd ["_law_blocks_here","_law_path","_law_tag"] []):FnOk P w K mg base CU 7 f fd ["_law_blocks_here","_law_path","_law_tag"] (Fz K):=
 QA T F hm hk hb 6
end
section
theorem U2:SL=⟨#[47]⟩:=by decide +kernel
theorem Sd {z:Str}(h:Cv (.str z)=true):47∉AR z:=by
 intro hc;have h':(decide ((1:Int)<=z.length)&&decide ((z.length:Int)<=8)&&CK LN z)=true:=h;rw[bq] at h';have:=h'.2;unfold CK at this;rw[cf] at this;exact absurd (this 47 hc) (by decide +kernel)
theorem RE {z:Str}(h:Cv (.str z)=true):z≠EM:=λe=>by
 rw[e] at h;exact absurd h (by decide +kernel)
theorem Oo {z:Str}(h:Sq z):Cv (.str z)=true:=by
 show(decide ((1:Int)<=z.length)&&decide ((z.length:Int)<=8)&&CK LN z)=true;have l0:0<z.length:=by rw[<-Bg];exact bI.mpr h.1
 have l8:=h.2.1;rw[bq,bq];refine⟨⟨aR (by omega),aR (by omega)⟩,?_⟩;unfold CK;exact cf.mpr λc hc=>aR (h.2.2 c hc)
theorem Ql {w n:Str}(h:w≠EM):AR (pj w n)=AR w++47::AR n:=by
 unfold pj;rw[aH h,Dh,Dh,bD];rfl
theorem SO (n:Str):pj EM n=n:=by
 unfold pj;rw[aI rfl]
theorem U0 {w n:Str}(h:w≠EM):pj w n≠EM:=λe=>by
 have:=congrArg AR e;rw[Ql h] at this;exact absurd this (by simp[show AR EM=[] from rfl])
def Ko (z:Str)(ss:List Str):Str:=ss.foldl pj z
def jt:List Str->List Nat
 |[]=>[]
 |s::ss=>47::(AR s++jt ss)
theorem PH:∀(r:List Str) (s:Str),∃ws t,s::r=ws++[t]/\AR s++jt r=Kh 47 ws t
 |[],s=>⟨[],s,rfl,by show AR s++[]=AR s;rw[br]⟩
 |s'::r,s=>by
  obtain⟨ws,t,e1,e2⟩:=PH r s';exact⟨s::ws,t,by rw[e1];rfl,by show AR s++47::(AR s'++jt r)=AR s++47::Kh 47 ws t;rw[e2]⟩
theorem NT:∀(r:List Str) {w:Str},w≠EM->AR (Ko w r)=AR w++jt r/\Ko w r≠EM
 |[],w,h=>⟨by show AR w=AR w++[];rw[br],h⟩
 |s::r,w,h=>by
  obtain⟨h1,h2⟩:=NT r (U0 (n:=s) h);refine⟨?_,h2⟩;show AR (Ko (pj w s) r)=_;rw[h1,Ql h,bD];rfl
abbrev Ns (ss:List Str):Prop:=ss≠[]/\ss.length<=8/\∀s∈ss,Cv (.str s)=true
theorem Ii {ss:List Str}(h:Ns ss):Ko EM ss≠EM/\P9 (Ko EM ss)=ss/\Qi (Ko EM ss)/\(Ko EM ss).length<=100:=by
 obtain⟨ne,l8,hn⟩:=h;cases ss with
 |nil=>exact absurd rfl ne
 |cons s r=>
  have hs:=RE (hn s ay);have e0:Ko EM (s::r)=Ko s r:=by show Ko (pj EM s) r=_;rw[SO]
  rw[e0];obtain⟨h1,h2⟩:=NT r hs;obtain⟨ws,t,e1,e2⟩:=PH r s;have hm:∀x∈ws++[t],47∉AR x:=λx hx=>Sd (hn x (by rw[e1];exact hx))
  have sp:PySem.Txt.split (Ko s r) SL=s::r:=by
   rw[U2,e1];exact O3 (by rw[h1,e2]) (λx hx=>hm x (bf _ hx)) (hm t (aK _ ay))
  refine⟨h2,by unfold P9;rw[aH h2];exact sp,.inr ?_,?_⟩
  ·rw[sp];unfold FL;rw[bq];exact⟨aR l8,cf.mpr hn⟩
  ·rw[<-Bg,h1,au,Bg];have jl:∀l:List Str,(∀s∈l,Cv (.str s)=true)->(jt l).length<=9*l.length:=λl=>by
    induction l with
    |nil=>intro _;exact ak _
    |cons a l ih=>
     intro h;have i1:=ih λs hs=>h s (az _ hs)
     have i2:=EZ (h a ay);show(47::(AR a++jt l)).length<=_;rw[aM,au,Bg,aM];omega
   have:=jl r λx hx=>hn x (az _ hx)
   have:=EZ (hn s ay);rw[aM] at l8;omega
theorem Rv {a b:List Str}(ha:Ns a)(hb:Ns b)(e:Ko EM a=Ko EM b):a=b:=by
 rw[<-(Ii ha).2.1,e,(Ii hb).2.1]
theorem PN (z:Str)(ss:List Str)(s:Str):Ko z (ss++[s])=pj (Ko z ss) s:=by
 unfold Ko;rw[List.foldl_append];rfl
def lS (B:BM):Nat->Int->List (List Str×Int×Tg)
 |0,_=>[]
 |n+1,g=>(ML B g).flatMap λe=>([e.nm],e.kd,e.tg)::(if e.kd=2 then(lS B n e.tg.1).map λx=>(e.nm::x.1,x.2) else[])
theorem N4 (B:BM):∀(n:Nat) (z:Str) (g:Int),lT B n z g=(lS B n g).map λx=>⟨Ko z x.1,x.2.1,x.2.2⟩
 |0,_,_=>rfl
 |n+1,z,g=>by
  unfold lT lS;rw[List.map_flatMap];refine congrArg (λf=>(ML B g).flatMap f) (funext λe=>?_);rw[av]
  split
  ·rw[N4 B n,aj];rfl
  ·rfl
theorem Up {es:List En}(nd:(es.map (·.nm)).Nodup){e:En}(he:e∈es):Kw es e.nm=some (e.kd,e.tg):=by
 obtain⟨i,hi⟩:=bE he;unfold Kw;rw[Q3 hi rfl λx hx w=>?_]
 ·rfl
 ·obtain⟨j,hj⟩:=bE hx;have jl:=(ar.mp hj).1;rw[aQ] at jl;rw[cP,aI (by omega)] at hj;have il:=(ar.mp hi)
  have jl':=(ar.mp hj)
  have:=bj.mp nd j i (by rw[aa];omega) (by rw[aa];exact il.1) (by omega);rw[cb,cb,il.2,jl'.2] at this;exact this w
theorem PD {es:List En}{z:Str}(h:∀e∈es,e.nm≠z):Kw es z=none:=by
 unfold Kw;rw[bV.mpr λx hx c=>h x hx (bh c)];rfl
def Ws (B:BM)(Nm:Str->Prop)(n:Nat)(g:Tg)(x:List Str×Int×Tg):Prop:=x.1≠[]/\x.1.length<=n/\(∀s∈x.1,Nm s)/\J0 B (some (2,g)) x.1=some x.2/\((x.2.1=1/\Rw B 2 x.2.2.1)\/(x.2.1=2/\∃m,Fd B Nm m x.2.2.1))
theorem KR {B:BM}{Nm:Str->Prop}:∀{n:Nat} {g:Tg},Fd B Nm n g.1->∀x∈lS B n g.1,Ws B Nm n g x
 |n+1,g,⟨es,e,l3,nd,h⟩,x,hx=>by
  unfold lS at hx;rw[C6 e] at hx;obtain⟨y,hy,hx⟩:=dS.mp hx;have w1:∀ss,J0 B (some (2,g)) (y.nm::ss)=J0 B (some (y.kd,y.tg)) ss:=λss=>by
   show(if(2:Int)=2 then J0 B (Kw (ML B g.1) y.nm) ss else none)=_;rw[aI rfl,C6 e,Up nd hy]
  rcases aD.mp hx with rfl|hx
  ·refine⟨λw=>(nomatch w),by show 1<=n+1;omega,λs hs=>?_,w1 [],(h y hy).2.imp id λ⟨k,r⟩=>⟨k,_,r⟩⟩;rw[ai.mp hs];exact(h y hy).1
  ·split at hx
   ·next k2=>
    obtain⟨u,hu,rfl⟩:=ax.mp hx;have f2:Fd B Nm n y.tg.1:=by
     rcases(h y hy).2 with⟨k,_⟩|⟨_,k⟩
     ·rw[k2] at k;cases k
     ·exact k
    obtain⟨u1,u2,u3,u4,u5⟩:=KR f2 u hu;refine⟨λw=>(nomatch w),by show u.1.length+1<=n+1;omega,λs hs=>?_,by rw[w1,k2];exact u4,u5⟩;rcases aD.mp hs with rfl|hs
    ·exact(h y hy).1
    ·exact u3 s hs
   ·cases hx
theorem S1 {B:BM}{Nm:Str->Prop}:∀{n:Nat} {g:Tg},Fd B Nm n g.1->((lS B n g.1).map (·.1)).Nodup
 |n+1,g,⟨es,e,l3,nd,h⟩=>by
  unfold lS;rw[C6 e,List.map_flatMap];refine List.pairwise_flatMap.mpr ⟨λy hy=>?_,?_⟩
  ·rw[av]
   split
   ·next k2=>
    have f2:Fd B Nm n y.tg.1:=by
     rcases(h y hy).2 with⟨k,_⟩|⟨_,k⟩
     ·rw[k2] at k;cases k
     ·exact k
    rw[aj];refine bQ.mpr ⟨λhm=>?_,?_⟩
    ·obtain⟨u,hu,eu⟩:=ax.mp hm;exact(KR f2 u hu).1 (List.cons.inj eu).2
    ·exact bJ.mpr ((bJ.mp (S1 f2)).imp λhne eq=>hne (List.cons.inj eq).2)
   ·simp
  ·refine(bJ.mp nd).imp λ{a b} hne x hx y hy eq=>?_
   have hd:∀(c:En) (x:List Str),x∈((([c.nm],c.kd,c.tg):List Str×Int×Tg)::(if c.kd=2 then(lS B n c.tg.1).map λx=>(c.nm::x.1,x.2) else[])).map (·.1)->x.head?=some c.nm:=λc x hx=>by
    obtain⟨u,hu,rfl⟩:=ax.mp hx;rcases aD.mp hu with rfl|hu
    ·rfl
    ·split at hu
     ·obtain⟨v,_,rfl⟩:=ax.mp hu;rfl
     ·cases hu
   have h1:=hd a x hx;rw[eq,hd b y hy] at h1;exact hne (aP h1).symm
theorem Ws.ns {B:BM}{Nm:Str->Prop}(hN:∀z,Nm z->Cv (.str z)=true){n:Nat}{g:Tg}{x:List Str×Int×Tg}(n8:n<=8)(h:Ws B Nm n g x):Ns x.1:=⟨h.1,by have:=h.2.1;omega,λs hs=>hN s (h.2.2.1 s hs)⟩
theorem S8 {B:BM}{Nm:Str->Prop}(hN:∀z,Nm z->Cv (.str z)=true){n:Nat}{g:Tg}(n8:n<=8)(h:Fd B Nm n g.1):((lT B n EM g.1).map (·.nm)).Nodup:=by
 rw[N4,aj];have nd:=bJ.mp (S1 h);refine bJ.mpr (nd.imp_of_mem λha hb hne eq=>hne (Rv ((KR h _ ha).ns hN n8) ((KR h _ hb).ns hN n8) eq))
theorem Nf (B:BM):∀(n:Nat) (z:Str) (g:Int),((lT B n z g).length:Int)=Lu B n g
 |0,_,_=>rfl
 |n+1,z,g=>by
  unfold lT Lu;rw[gD];generalize ML B g=es
  induction es with
  |nil=>rfl
  |cons e es ih=>
   rw[av,dM,aM,dq]
   by_cases k2:e.kd=2
   ·rw[aI k2,aI (aR (by rw[k2])),av,dM,aM,<-Nf B n (pj z e.nm)];omega
   ·rw[aH k2,aH λw=>k2 (VB w),aM,eB];omega
theorem Hr {α:Type}(G:α->List α):∀l:List α,(l++l.flatMap G).Perm (l.flatMap λe=>e::G e)
 |[]=>.nil
 |e::l=>by
  rw[List.flatMap_cons,List.flatMap_cons,fc,fc];refine .cons e (List.Perm.trans ?_ ((Hr G l).append_left (G e)));rw[<-bD,<-bD];exact(List.perm_append_comm).append_right _
theorem LR {B:BM}{Nm:Str->Prop}:∀(n:Nat) (l:List En),(∀e∈l,e.kd=2->Fd B Nm n e.tg.1)->(allB B (n+1) l).Perm (l.flatMap λe=>e::(if e.kd=2 then lT B n e.nm e.tg.1 else[]))/\UM B (n+1) l=[]
 |0,l,h=>by
  have e0:l.flatMap (FH B)=[]:=fS.mpr λe he=>by
   unfold FH;rw[aH λk=>(h e he k).elim]
  refine⟨?_,by show UM B 0 (l.flatMap (FH B))=[];rw[e0];rfl⟩;show(l++[]).Perm _;have:=Hr (λe:En=>if e.kd=2 then lT B 0 e.nm e.tg.1 else[]) l
  rwa [show l.flatMap (λe:En=>if e.kd=2 then lT B 0 e.nm e.tg.1 else[])=[] from fS.mpr λe he=>by split<;>rfl] at this
 |n+1,l,h=>by
  obtain⟨i1,i2⟩:=LR n (l.flatMap (FH B)) λe he k2=>by
   obtain⟨y,hy,he⟩:=dS.mp he;unfold FH at he
   split at he
   ·next ky=>
    obtain⟨es,ee,_,_,hh⟩:=h y hy ky;rw[C6 ee] at he;obtain⟨x,hx,rfl⟩:=ax.mp he;rcases(hh x hx).2 with⟨k,_⟩|⟨_,k⟩
    ·rw[show x.kd=2 from k2] at k;cases k
    ·exact k
   ·cases he
  refine⟨?_,i2⟩;show(l++allB B (n+1) (l.flatMap (FH B))).Perm _;refine(i1.append_left l).trans ?_;rw[List.flatMap_assoc];have eG:(λx:En=>(FH B x).flatMap λe=>e::(if e.kd=2 then lT B n e.nm e.tg.1 else[]))=λx=>if x.kd=2 then lT B (n+1) x.nm x.tg.1 else[]:=funext λx=>by
   unfold FH
   split
   ·rw[List.flatMap_map];rfl
   ·rfl
  rw[eG];exact Hr _ l
end
theorem RB {a b:List Nat}(h1:¬b<a)(h2:¬a<b):a=b:=List.le_antisymm h1 h2
theorem Ft:∀{p:Str} {l:List Str},PyProof.Rows.risingS p l=true->∀x∈l,¬x.cps.toList<p.cps.toList
 |p,y::r,h,x,hx=>by
  have h':=h;rw[PyProof.Rows.risingS,bq,gh] at h';have h1:¬y.cps.toList<p.cps.toList:=by simpa using h'.1
  rcases aD.mp hx with rfl|hx
  ·exact h1
  ·exact List.le_trans h1 (Ft h'.2 x hx)
theorem FX {x:Str}{l:List Str}(h:PyProof.Rows.sortedS (x::l)=true):PyProof.Rows.sortedS l=true:=by
 cases l with
 |nil=>rfl
 |cons y r=>
  have h':=h;rw[PyProof.Rows.sortedS,PyProof.Rows.risingS,bq] at h';exact h'.2
theorem Jr:∀{a b:List Str},a.Perm b->PyProof.Rows.sortedS a=true->PyProof.Rows.sortedS b=true->a=b
 |[],b,p,_,_=>(List.nil_perm.mp p).symm
 |x::a,[],p,_,_=>absurd p.length_eq (by simp)
 |x::a,y::b,p,ha,hb=>by
  have e:x=y:=by
   have m1:x∈y::b:=p.mem_iff.mp ay;have m2:y∈x::a:=p.mem_iff.mpr ay;rcases aD.mp m1 with e|m1
   ·exact e
   rcases aD.mp m2 with e|m2
   ·exact e.symm
   have l1:=Ft (p:=x) (l:=a) ha y m2;have l2:=Ft (p:=y) (l:=b) hb x m1;have:=RB l1 l2;cases x;cases y;simp only[PySem.Str.mk.injEq];exact dU.mp this
  subst e;rw[Jr p.cons_inv (FX ha) (FX hb)]
theorem HJ {α β:Type}{g:α->β}:∀{l:List α},(l.map g).Nodup->∀{x y:α},x∈l->y∈l->g x=g y->x=y
 |[],_,_,_,h,_,_=>nomatch h
 |a::l,nd,x,y,hx,hy,e=>by
  rw[av,bQ] at nd;rcases aD.mp hx with hx|hx
  ·rcases aD.mp hy with hy|hy
   ·rw[hx,hy]
   ·exact(nd.1 (by rw[<-hx,e];exact ax.mpr ⟨_,hy,rfl⟩)).elim
  ·rcases aD.mp hy with hy|hy
   ·exact(nd.1 (by rw[<-hy,<-e];exact ax.mpr ⟨_,hx,rfl⟩)).elim
   ·exact HJ nd.2 hx hy e
theorem TC {a b:List En}(p:a.Perm b)(nd:(b.map (·.nm)).Nodup)(e:a.map (·.nm)=b.map (·.nm)):a=b:=by
 refine cB λi=>?_
 have h:=congrArg (λl:List Str=>l[i]?) e;rw[aw,aw] at h;cases ea:a[i]? with
 |none=>
  rw[ea] at h;cases eb:b[i]? with
  |none=>rfl
  |some y=>rw[eb] at h;cases h
 |some x=>
  rw[ea] at h;cases eb:b[i]? with
  |none=>rw[eb] at h;cases h
  |some y=>
   rw[eb] at h;rw[HJ nd (p.mem_iff.mp (aE ea)) (aE eb) (aP h)]
section
variable {P:Program}{w:World}{K:W.Frag}{mg:Str->Option Value}{base:Heap}{f C:Addr}{XC:Nat->Addr}{fd:FuncData}
theorem Uo {cs:List Cz}{ps:List (Addr×HE)}{Nm:Str->Prop}(okp:∀p∈ps,SJ (bm cs) Nm p.2.tg.1):(DJ cs ps).Nodup/\(∀p∈ps,p.2.tg.1∈DJ cs ps)/\(∀z∈DJ cs ps,SJ (bm cs) Nm z)/\(∀z∈DJ cs ps,∀t∈LM (bm cs) z,t∈DJ cs ps)/\(DJ cs ps).length<=cs.length:=by
 have hN:∀z,SJ (bm cs) Nm z->z∈cs.map (·.tg.1):=λz hz=>by
  obtain⟨b,eb,_⟩:=Da (bm cs) Nm z hz;obtain⟨c,hc,e,_⟩:=Fq eb;rw[<-e];exact aF (f:=λc:Cz=>c.tg.1) hc
 obtain⟨h1,_,h3,h4,h5⟩:=Lb (Da (bm cs) Nm) hN ((ps.map (·.2.tg.1)).length+4*cs.length) (ps.map (·.2.tg.1)) [] (by rw[aa,aa];simp) eJ (λz hz=>by obtain⟨p,hp,rfl⟩:=ax.mp hz;exact okp p hp) (λ_ h=>nomatch h) (λ_ h=>nomatch h);refine⟨h1,λp hp=>h3 _ (aF (f:=λp:Addr×HE=>p.2.tg.1) hp),h4,h5,?_⟩;have:=FU h1 (m:=cs.map (·.tg.1)) λz hz=>hN z (h4 z hz)
 rwa [aa (as:=cs)] at this
theorem QD {H:Hp}{B:BM}:∀{rs:List (Addr×Ce)},(∀r∈rs,Rep NL H (MN r.2) (.ref r.1)/\B r.2.z=some r.2.b)->∃acs:List AC,acs.map (λc=>V.ref c.p)=rs.map (λr=>V.ref r.1)/\acs.map (·.z)=rs.map (·.2.z)/\∀c∈acs,(∃y u3 u4 u5,H c.p=some (.tup [.int c.z,y,c.v,u3,u4,u5]))/\Rep NL H (FF c.b) c.v/\B c.z=some c.b
 |[],_=>⟨[],rfl,rfl,λ_ h=>nomatch h⟩
 |r::rs,h=>by
  obtain⟨acs,e1,e2,e3⟩:=QD λx hx=>h x (az _ hx)
  obtain⟨r1,r2⟩:=h r ay;obtain⟨v,t,h1,h2,h3⟩:=Ny r1;refine⟨⟨r.1,r.2.z,r.2.b,v⟩::acs,by rw[av,av,e1],by rw[av,av,e2],λc hc=>?_⟩;rcases aD.mp hc with rfl|hc
  ·exact⟨⟨_,_,_,_,h1⟩,h2,r2⟩
  ·exact e3 c hc
theorem TZ {H:Hp}{a h:Addr}{cs:List Cz}{ag:Int}{ka ea:Addr}{ks:List (Addr×Str×Int)}{ps:List (Addr×HE)}{ms:List Int}{Nm:Str->Prop}(md:Made H a cs ag ka ea ks ps ms)(hd:Hd H h ag ka ea ks ps)(hN:∀z,Nm z->Cv (.str z)=true)(okp:∀p∈ps,Fd (bm cs) Nm 6 p.2.tg.1)(few:cs.length<=50):Acc H a ps (bm cs) ms:=by
 obtain⟨⟨ca,sh,rs,h1,h2,h3,h4,h5⟩,pm,so⟩:=md;obtain⟨m1,m2,m3,m4,m5⟩:=Uo (Nm:=Nm) λp hp=>.inr (okp p hp)
 have hz:∀r∈rs,r.2.z∈ms/\bm cs r.2.z=some r.2.b:=λr hr=>by
  have:r.2∈ms.map (GS cs ks ps (DJ cs ps)):=by rw[<-h3];exact aF hr
  obtain⟨z,hz,e⟩:=ax.mp this;rw[<-e];obtain⟨b,eb,_⟩:=Da (bm cs) Nm z (m3 z (pm.mem_iff.mp hz));refine⟨hz,?_⟩;show bm cs z=some (S6 cs z);unfold S6;rw[eb];rfl
 obtain⟨acs,e1,e2,e3⟩:=QD (H:=H) (B:=bm cs) λr hr=>⟨h4 r hr,(hz r hr).2⟩
 have ez:acs.map (·.z)=ms:=by
  rw[e2,show rs.map (λr=>r.2.z)=(rs.map (·.2)).map (·.z) by rw[aj];rfl,h3,aj];exact List.map_id'' (λ_=>rfl) ms
 have fo:∀z∈ms,∀b,bm cs z=some b->∀t∈DB b,t.1∈ms:=λz hz b eb t ht=>pm.mem_iff.mpr (m4 z (pm.mem_iff.mp hz) t.1 (by unfold LM;rw[eb];exact aF ht))
 refine⟨⟨_,_,_,ea,ca,acs,h1,hd.et,by rw[e1];exact h2,e3,ez,?_⟩,pm.nodup_iff.mpr m1,hd.en,fo,λz hz es ez=>?_,λp hp=>⟨pm.mem_iff.mpr (m2 p hp),?_⟩⟩
 ·have:=congrArg List.length ez;rw[aa,pm.length_eq] at this;omega
 ·rcases m3 z (pm.mem_iff.mp hz) with hh|⟨es',e',l3,nd,hh⟩
  ·rcases hh with⟨c,e',_⟩|⟨lv,ts,e',_⟩
   ·rw[ez] at e';cases e'
   ·rw[ez] at e';cases e'
  ·rw[ez] at e';cases e';refine⟨by omega,λx hx=>⟨hN _ (hh x hx).1,λk2=>?_⟩⟩;rcases(hh x hx).2 with⟨k,_⟩|⟨_,es',e',_⟩
   ·rw[k2] at k;cases k
   ·exact⟨es',e'⟩
 ·obtain⟨es,e,_⟩:=okp p hp;exact⟨es,e⟩
theorem P6 {B:BM}{met:List Int}(cl:∀z∈met,∀b,B z=some b->∀t∈DB b,t.1∈met){Nm:Str->Prop}:∀{n:Nat} {g:Int},Fd B Nm n g->g∈met->∀x∈lS B n g,x.2.2.1∈met
 |n+1,g,⟨es,e,l3,nd,h⟩,hg,x,hx=>by
  unfold lS at hx;rw[C6 e] at hx;obtain⟨y,hy,hx⟩:=dS.mp hx;have ym:y.tg.1∈met:=cl g hg _ e y.tg (aF hy);rcases aD.mp hx with rfl|hx
  ·exact ym
  ·split at hx
   ·next k2=>
    obtain⟨u,hu,rfl⟩:=ax.mp hx;have f2:Fd B Nm n y.tg.1:=by
     rcases(h y hy).2 with⟨k,_⟩|⟨_,k⟩
     ·rw[k2] at k;cases k
     ·exact k
    exact P6 cl f2 ym u hu
   ·cases hx
theorem Kr:∀{l:List Str},PyProof.Rows.sortedS l=true->l.Pairwise λa b=>¬b.cps.toList<a.cps.toList
 |[],_=>.nil
 |x::l,h=>.cons (λy hy=>Ft (p:=x) (l:=l) h y hy) (Kr (FX h))
theorem Kl:∀{l:List Str},(l.Pairwise λa b=>¬b.cps.toList<a.cps.toList)->PyProof.Rows.sortedS l=true
 |[],_=>rfl
 |[x],_=>rfl
 |x::y::l,h=>by
  obtain⟨h1,h2⟩:=eT.mp h;rw[PyProof.Rows.sortedS,PyProof.Rows.risingS,bq,gh];exact⟨by simpa using h1 y ay,Kl h2⟩
theorem N1 (B:BM)(b:List Str):∀(a:List Str) (e:Option (Int×Tg)),J0 B e (a++b)=J0 B (J0 B e a) b
 |[],e=>by cases e<;>rfl
 |s::a,none=>by
  show none=J0 B none b;cases b<;>rfl
 |s::a,some (k,g)=>by
  show(if k=2 then J0 B (Kw (ML B g.1) s) (a++b) else none)=J0 B (if k=2 then J0 B (Kw (ML B g.1) s) a else none) b
  split
  ·exact N1 B b a _
  ·cases b<;>rfl
theorem Q6 {H:Hp}{k:Int}{g:Tg}{u:V}(h:Jo H (some (k,g)) u):Rep NL H (.tup [.int k,Hk g]) u:=by
 obtain⟨a,b,rfl,h1,h2⟩:=h;exact⟨a,_,rfl,h1,_,_,rfl,rfl,_,_,rfl,E7 h2,rfl⟩
theorem VO {H:Hp}{a:Addr}{ps:List (Addr×HE)}{B:BM}{met:List Int}{p:Addr×HE}{y:Str}{Q:VK}(ac:Acc H a ps B met)(one:D2 ps p.2.nm=some p)(ok:Qi y)(ly:y.length<=1000)(h:∀u H',Al H H'->Jo H' (J0 B (some (2,p.2.tg)) (P9 y)) u->Q u H'):DH K XC [.ref a,.str p.2.nm,.str y] H Q E0:=
 ⟨a,ps,B,met,_,y,rfl,ac,ly,λp' e _ u H' s he=>(by rw[one] at e;cases e;exact h u H' s he),λ_ _ no=>absurd ok no,λe=>by rw[one] at e;cases e⟩
def Sy (q:Str×Int):Tr:=.tup [.str q.1,.int q.2]
theorem Ja {H:Hp}{l:Addr}{rs:List (Addr×Str×Int)}(hl:H l=some (.lst (rs.map λp=>V.ref p.1)))(h:∀q∈rs,EB H q):Rep (λa=>a=l) H (.lst ((rs.map (·.2)).map Sy)) (.ref l):=by
 refine⟨l,_,rfl,rfl,hl,AX.mono (λa (n:False)=>n.elim) _ _ ?_⟩;rw[aj];refine Je (by rw[aa]) λi x v hx hv=>?_
 rw[aw,hx] at hv;cases hv;exact⟨x.1,_,rfl,h x (aE hx),_,_,rfl,rfl,_,_,rfl,rfl,rfl⟩
theorem Li:∀qs:List (Str×Int),Tr.deps (qs.map Sy)<=2
 |[]=>by decide
 |q::qs=>by
  show max (Tr.dep (Sy q)) (Tr.deps (qs.map Sy))<=2;exact fA.mpr ⟨by show Tr.dep (.tup [.str q.1,.int q.2])<=2;simp[Tr.dep,Tr.deps],Li qs⟩
theorem Oe {H:Hp}{l:Addr}{qs:List (Addr×En)}{σ:St}{Q:VK}(hl:H l=some (.lst (qs.map λp=>V.ref p.1)))(hq:∀p∈qs,GB H p)(few:qs.length<=1000)(h:∀l' (rs:List (Addr×Str×Int)) H',H l'=none->Al H H'->H' l'=some (.lst (rs.map λp=>V.ref p.1))->(∀q∈rs,EB H' q)->rs.map (·.2)=(qs.map (·.2)).map (λe=>(e.nm,e.kd))->Q (.ref l') H') :
  Df [none,none,none] (Pi K 3 (FK (Aq 0) (FK (Aq 1) (FK (Aq 2) QF)))) L8 (VE (Ma (O9 0) (Ma (O9 1) Re))) σ Q (UF K l) H:=by
 refine Ih (ps:=qs) (g:=λx=>x.1) (A:=λx=>.str x.2.nm) (B:=λx=>.int x.2.kd) (C:=λx=>Ua H x.1) (rest:=[]) (λ_=>true) (λx v H'=>∃t,v=.ref t/\EB H' (t,x.2.nm,x.2.kd)) rfl (λx v H1 H2 ⟨t,e,h⟩ s=>⟨t,e,s.get h⟩) (λx v H1 l us us' ⟨t,e,h⟩ hl=>⟨t,e,KT.lst hl _ _ _ h⟩) (B5 (AB.of hl)) (λx hx=>(hq x hx).th) (by omega) (λx hx H' R s' hR=>hR H' (Al.refl _)) (λx hx _ H' R s' hR=>?_) λl' H4 ys nl s4 hl4 e1 hys=>?_
 ·exact⟨_,rfl,_,rfl,E3,λt nt=>hR _ _ (Af nt _) ⟨t,rfl,Ad⟩⟩
 ·obtain⟨rs,h1,h2,h3⟩:=Gk (R:=λ(x:Addr×En) t=>EB H4 (t,x.2.nm,x.2.kd)) hys;rw[bW.mpr λ_ _=>rfl] at e1;refine h l' (rs.map λr=>(r.2,r.1.2.nm,r.1.2.kd)) H4 nl s4 (by rw[hl4,h1,aj];rfl) (λq hq=>?_) ?_
  ·obtain⟨r,hr,rfl⟩:=ax.mp hq;exact h3 r hr
  ·rw[aj,aj,<-e1,<-h2,aj];rfl
theorem WJ {H:Hp} {a:Addr} {ps:List (Addr×HE)} {B:BM} {met:List Int} {p:Addr×HE} {Nm:Str->Prop} {Q:VK} (ac:Acc H a ps B met) (one:D2 ps p.2.nm=some p) (fdp:Fd B Nm 6 p.2.tg.1) (mn:Lu B 6 p.2.tg.1<=60) (hN:∀z,Nm z->Cv (.str z)=true)
  (h:∀l (rs:List (Addr×Str×Int)) (es:List En) H',Al H H'->H l=none->H' l=some (.lst (rs.map λp=>V.ref p.1))->(∀q∈rs,EB H' q)->es.Perm (lT B 6 EM p.2.tg.1)->PyProof.Rows.sortedS (es.map (·.nm))=true->rs.map (·.2)=es.map (λe=>(e.nm,e.kd))->Q (.ref l) H'):DD K XC [.ref a,.str p.2.nm] H Q E0:=by
 have nd:=S8 hN (n:=6) (by decide) fdp;have ll:=Nf B 6 EM p.2.tg.1;have hx:∀x∈lT B 6 EM p.2.tg.1,x.nm≠EM/\x.nm.length<=100:=λx hx=>by
  rw[N4] at hx;obtain⟨y,hy,rfl⟩:=ax.mp hx;obtain⟨a1,_,_,a4⟩:=Ii ((KR fdp y hy).ns hN (by decide));exact⟨a1,a4⟩
 obtain⟨pm,dn⟩:=LR (Nm:=Nm) 6 [⟨EM,2,p.2.tg⟩] λe he _=>by
  cases ai.mp he;exact fdp
 have pm:(allB B 7 [⟨EM,2,p.2.tg⟩]).Perm (⟨EM,2,p.2.tg⟩::lT B 6 EM p.2.tg.1):=by
  refine pm.trans ?_;simp
 refine⟨a,ps,B,met,_,rfl,ac,λp' e=>?_,λe=>by rw[one] at e;cases e⟩;rw[one] at e;cases e;refine⟨7,dn,by rw[pm.length_eq,aM];omega,(pm.map _).nodup_iff.mpr (bQ.mpr ⟨λhm=>?_,nd⟩),λx hx'=>?_,λl qs es H' s' nl hl hq pe so eq=>?_⟩
 ·obtain⟨x,hx',e⟩:=ax.mp hm;exact(hx x hx').1 e
 ·rcases aD.mp (pm.mem_iff.mp hx') with rfl|hx'
  ·show(0:Nat)<=900
   decide
  ·have:=(hx x hx').2;omega
 ·refine h l qs (es.filter λe=>!decide (e.nm=EM)) H' s' nl hl hq ?_ ?_ eq
  ·have:=(pe.trans pm).filter λe=>!decide (e.nm=EM)
   have e2:(lT B 6 EM p.2.tg.1).filter (λe=>!decide (e.nm=EM))=lT B 6 EM p.2.tg.1:=bW.mpr λx hx'=>by rw[aO (hx x hx').1];rfl
   rwa [List.filter_cons_of_neg (by simp),e2] at this
  ·exact Kl ((Kr so).sublist ((List.filter_sublist).map _))
def EE (K:W.Frag):Sp:=λvs H Q _=>∃(d a na:Addr) (cs:List Cz) (ps:List (Addr×HE)) (ms:List Int) (p:Addr×HE) (zs:List Str) (y:Str) (Nm:Str->Prop),vs=[.ref d,.ref a,.ref p.1,.ref na]/\Bx H d cs/\Acc H a ps (bm cs) ms/\p∈ps/\D2 ps p.2.nm=some p/\Fd (bm cs) Nm 6 p.2.tg.1/\Lu (bm cs) 6 p.2.tg.1<=60/\(∀z,Nm z->Cv (.str z)=true)/\H na=some (.lst (zs.map V.str))/\zs[18]?=some y/\Cv (.str y)=true/\¬Nm y/\
 ∀H',Al H H'->Q (.bl true) H'
theorem J9 (T:Txt K mg C XC)(F:Fun K "_law_right" "_law_right" CA f fd)(CV:FZ P w K mg base 5 "paths_by" ["account","name"] (DD K XC))(DA:Def P w K mg base 7 "_law_tree" ["_law_blocks_here","_law_path","_law_tag"] (Fz K))(Cd:FZ P w K mg base 5 "entry_by" ["account","name","path"] (DH K XC))(Fo:Def P w K mg base 5 "content_by" ["account","tag"] (EC K))(Cu:Def P w K mg base 4 "_law_content" ["_law_blocks_here","_law_tag"] (DQ K)):FnOk P w K mg base CU 8 f fd ["_law_blocks_here","_law_account_here","_law_entry","_law_names_here"] (EE K):=by
 exists Cn
 ·obtain⟨d,a,na,cs,ps,ms,p,zs,y,Nm,rfl,_⟩:=h;rfl
 obtain⟨d,a,na,cs,ps,ms,p,zs,y,Nm,rfl,bx,ac,pps,onep,fdp,mn,hN,hna,hy,nmy,noy,q⟩:=h;have hu:=Cp hr;have hu9:=B8 hr;refine⟨_,(!Ae (@Ap _ _ (4) _ _ _ _ Cn.nd rfl (by trivial) (!Aw (Eu (K:=K) (by rfl)) (by rfl) T.b_sorted DT (!Aa (!AM DA (by trivial) rfl (!Aa (pv 0) (!Aa (!A3) (!Aa (!Ai Ar (pv 2) (!Ab) (λ_ _=>rfl)) (!Ac))))) (!Ac))) (by rfl) (by trivial)) (!Ae (@Ap _ _ (5) _ _ _ _ Cn.nd rfl (by trivial) (!D9 CV (by trivial) rfl HV (!Aa (pv 1) (!Aa (!Ai Ar (pv 2) (!Ab) (λ_ _=>rfl)) (!Ac)))) (by rfl) (by trivial)) (!Ae (!Bu (@PW.pt _ _ _ (!Hh (!GH (!Gh (!Aw Eo (by rfl) T.b_isinstance AZ (!Aa (pv 5) (!Aa (!Ji rfl T.b_list FI) (!Ac)))) (by intro _;rfl))) (!FS (!AA (JF hu9) (pv 5) (@BO _ ["_law_path","_law_kind","_law_tag"] _ _ _ _ _ _ _ _ _ _ rfl (!BA (pv 4)) (by decide +kernel) (λC s H fp=>⟨(@Gu _ (K) _ _ _ _ (3) (by rfl) rfl (!Av (@Ak _ _ (0) _ (show(["_law_path","_law_kind","_law_tag"]:List Str).Nodup by decide +kernel) rfl (by trivial) (by trivial)) (!Av (@Ak _ _ (1) _ (show(["_law_path","_law_kind","_law_tag"]:List Str).Nodup by decide +kernel) rfl (by trivial) (by trivial)) (!Av (@Ak _ _ (2) _ (show(["_law_path","_law_kind","_law_tag"]:List Str).Nodup by decide +kernel) rfl (by trivial) (by trivial)) (!BU)))) (by rfl) (by rfl)),(!AW),(!AY (!Aa (pv 0) (!Aa (pv 1) (!Ac))))⟩) (by intro _;rfl)) (AG _))))) (!Ah (!As (!Dj))) (!AO)) (!Ae (!BK (!Cf aL aZ aY Br (pv 5) (!Aa (!A3) (!Ac)))) (!Ae (!Bu (@PW.pt _ _ _ (!Hh (!AA (JF hu9) (!D9 Cd (by trivial) rfl HV (!Aa (pv 1) (!Aa (!Ai Ar (pv 2) (!Ab) (λ_ _=>rfl)) (!Aa (!A3) (!Ac))))) (!AY (!Aa (!Ab) (!Aa (!Ai Ar (pv 2) (!Ab) (λ_ _=>rfl)) (!Ac)))) (AG _)) (!FS (!Hz (!Om (!D9 Cd (by trivial) rfl HV (!Aa (pv 1) (!Aa (!Ai Ar (pv 2) (!Ab) (λ_ _=>rfl)) (!Aa (!Ai Ax (pv 3) (!Ab) (λ_ _=>rfl)) (!Ac)))))) (by first|exact Ef _ (by decide) (by decide)|rfl))))) (!Ah (!As (!Dj))) (!AO)) (!Ae (!BF aT rfl (!BA (pv 4)) (!D5 rfl (!Av (@Ak _ _ (6) _ Cn.nd rfl (by trivial) (by trivial)) (!Av (@Ak _ _ (7) _ Cn.nd rfl (by trivial) (by trivial)) (!Av (@Ak _ _ (8) _ Cn.nd rfl (by trivial) (by trivial)) (!BU))))) (!Ae (!Bu (!AA (JF hu9) (!D9 Cd (by trivial) rfl HV (!Aa (pv 1) (!Aa (!Ai Ar (pv 2) (!Ab) (λ_ _=>rfl)) (!Aa (pv 6) (!Ac))))) (!AY (!Aa (pv 7) (!Aa (pv 8) (!Ac)))) (AG _)) (!Ah (!As (!Dj))) (!AO)) (!Ae (!Bu (!Hz (!Om (!D9 Cd (by trivial) rfl HV (!Aa (pv 1) (!Aa (!Ai Ar (pv 2) (!Ab) (λ_ _=>rfl)) (!Aa (!Am BP (!Am BP (pv 6) (!A3)) (!Ai Ax (pv 3) (!Ab) (λ_ _=>rfl))) (!Ac)))))) (by first|exact Ef _ (by decide) (by decide)|rfl)) (!Ah (!As (!Dj))) (!AO)) (!Ah (!Bu (@PW.pt _ _ _ (!Im (!AA CJ (pv 7) (!Ab) (AG _)) (!Hg (!AA Iu (!AM Fo (by trivial) rfl (!Aa (pv 1) (!Aa (pv 8) (!Ac)))) (!AM Cu (by trivial) rfl (!Aa (pv 0) (!Aa (pv 8) (!Ac)))) (AG _))))) (!Ah (!As (!Dj))) (!AO))))) (by intro _;rfl)) (!Ah (!As (!Fp (Uu hu9) (!D9 CV (by trivial) rfl HV (!Aa (pv 1) (!Aa (!Ai Ar (pv 2) (!Ab) (λ_ _=>rfl)) (!Ac)))) (@BO _ ["_law_path","_law_kind","_law_tag"] _ _ _ _ _ _ _ _ _ _ rfl (!BA (pv 4)) (by decide +kernel) (λC s H fp=>⟨(@Gu _ (K) _ _ _ _ (3) (by rfl) rfl (!Av (@Ak _ _ (0) _ (show(["_law_path","_law_kind","_law_tag"]:List Str).Nodup by decide +kernel) rfl (by trivial) (by trivial)) (!Av (@Ak _ _ (1) _ (show(["_law_path","_law_kind","_law_tag"]:List Str).Nodup by decide +kernel) rfl (by trivial) (by trivial)) (!Av (@Ak _ _ (2) _ (show(["_law_path","_law_kind","_law_tag"]:List Str).Nodup by decide +kernel) rfl (by trivial) (by trivial)) (!BU)))) (by rfl) (by rfl)),(!AW),(!AY (!Aa (pv 0) (!Aa (pv 1) (!Ac))))⟩) (by intro _;rfl)) (AG _)))))))))),?_⟩
 try dsimp only[Bw,Cx.nox,Cx.wish]
 obtain⟨ta,hp1,hp2⟩:=ac.en p pps;have nd:=S8 hN (n:=6) (by decide) fdp;have ll:=Nf (bm cs) 6 EM p.2.tg.1;refine Ao ⟨_,rfl,_,rfl,p.1,_,_,_,rfl,rfl,AD.of hp1,Aj (j:=4) rfl,d,ta,cs,EM,p.2.tg,Nm,rfl,bx,hp2,fdp,(λz hz=>EZ (hN z hz)),(by decide +kernel),by decide,λl0 qs0 H1 s1 nl0 hl0 hq0 eq0=>?_⟩;have lq0:qs0.length<=60:=by rw[<-eq0,aa] at ll;omega
 refine⟨l0,qs0.map λp=>(p.1,p.2.nm),rfl,AB.of (by rw[aj];exact hl0),by rw[aa];omega,λt ht=>?_,?_,λus lt up so nlt=>?_⟩
 ·obtain⟨x,hx,rfl⟩:=ax.mp ht;obtain⟨_,h3,_⟩:=hq0 x hx;exact⟨_,AD.of h3⟩
 ·rw[aj];rw[<-eq0,aj] at nd;exact nd
 obtain⟨qs,pq,rfl⟩:=EX up rfl;rw[aj];have s2:=Af nlt (.lst (qs.map ((λt:Addr×Str=>V.ref t.1)∘λp:Addr×En=>(p.1,p.2.nm))));have hlt:(upd H1 lt (.lst (qs.map ((λt:Addr×Str=>V.ref t.1)∘λp:Addr×En=>(p.1,p.2.nm))))) lt=some (.lst (qs.map λp=>V.ref p.1)):=Ad;have hq2:∀x∈qs,GB _ x:=λx hx=>(hq0 x (pq.mem_iff.mp hx)).same s2
 dsimp only[Aq];generalize upd H1 lt (.lst (qs.map ((λt:Addr×Str=>V.ref t.1)∘λp:Addr×En=>(p.1,p.2.nm))))=H2 at s2 hlt hq2;have s12:=s1.trans s2;have nltH:=s1.free nlt;have lq:qs.length<=60:=by rw[pq.length_eq];exact lq0
 have pl:(qs.map (·.2)).Perm (lT (bm cs) 6 EM p.2.tg.1):=by rw[<-eq0];exact pq.map _
 have so2:PyProof.Rows.sortedS ((qs.map (·.2)).map (·.nm))=true:=by
  rw[aj] at so ⊢;exact so
 have one:∀es:List En,es.Perm (lT (bm cs) 6 EM p.2.tg.1)->PyProof.Rows.sortedS (es.map (·.nm))=true->es=qs.map (·.2):=λes pe se=>by
  have p2:=pe.trans pl.symm;exact TC p2 ((pl.map _).nodup_iff.mpr nd) (Jr (p2.map _) se so2)
 refine Ao ⟨_,rfl,_,rfl,p.1,_,_,_,rfl,rfl,AD.of (s12.get hp1),Aj (j:=0) rfl,Ej (WJ (K:=K) (ac.same s12) onep fdp mn hN λl3 rs3 es3 H3 s3 nl3 hl3 hr3 pe3 se3 er3=>?_)⟩;rw[one es3 pe3 se3] at er3;have s13:=s12.trans s3;have lr3:rs3.length=qs.length:=by have:=congrArg List.length er3;rw[aa,aa,aa] at this;exact this
 dsimp only[Aq];refine⟨_,rfl,_,_,_,_,rfl,.lst hl3,rfl,_,rfl,By rfl ?_⟩;refine⟨_,rfl,_,rfl,lt,rfl,⟨_,AB.of (s3.get hlt)⟩,Oe (K:=K) (s3.get hlt) (λx hx=>(hq2 x hx).same s3) (by omega) λl4 rs4 H4 nl4 s4 hl4 hr4 er4=>?_⟩;have r4:=Ja hl4 hr4;rw[er4.trans er3.symm] at r4;refine⟨.lst ((rs3.map (·.2)).map Sy),_,_,by have:=Li (rs3.map (·.2));simp only[Tr.dep];omega,Ja (s4.get hl3) (λq hq=>s4.get (hr3 q hq)),r4,_,rfl,By rfl ?_⟩;have hl34:=s4.get hl3;dsimp only[IG];refine G1 ⟨_,rfl,.inl ⟨rfl,_,AB.of hl34⟩,l3,_,_,rfl,rfl,hl34,Bh (by rw[aa];omega),?_⟩;have kt5:=KT.lst hl34 (.lst (rs3.map (λp=>V.ref p.1)++[.str (PySem.Str.ofString "more")]));have s5:Al H (upd H4 l3 (.lst (rs3.map (λp=>V.ref p.1)++[.str (PySem.Str.ofString "more")]))):=AI (s13.trans s4) (s12.free nl3) _;have hlt5:(upd H4 l3 (.lst (rs3.map (λp=>V.ref p.1)++[.str (PySem.Str.ofString "more")]))) lt=some (.lst (qs.map λp=>V.ref p.1)):=by
  rw[An λw=>by rw[<-w,hlt] at nl3;cases nl3];exact(s3.trans s4).get hlt
 have hq5:∀x∈qs,GB (upd H4 l3 (.lst (rs3.map (λp=>V.ref p.1)++[.str (PySem.Str.ofString "more")]))) x:=λx hx=>((hq2 x hx).same (s3.trans s4)).tup kt5
 generalize upd H4 l3 (.lst (rs3.map (λp=>V.ref p.1)++[.str (PySem.Str.ofString "more")]))=H5 at s5 hlt5 hq5
 clear hl34 kt5 r4 er4 hr4 hl4 hl3 hr3 nl3 s3 s4 s13 hlt hq2
 obtain⟨es0,eb0,_,nd0,he0⟩:=fdp;have fdp:Fd (bm cs) Nm 6 p.2.tg.1:=⟨es0,eb0,by assumption,nd0,he0⟩
 have one_y:Ko EM [y]=y:=by show pj EM y=y;exact SO y
 obtain⟨_,y2,y3,y4⟩:=Ii (ss:=[y]) ⟨λw=>(nomatch w),(by show 1<=8;decide),λs hs=>by rw[ai.mp hs];exact nmy⟩;rw[one_y] at y2 y3 y4;have w18:Iw (zs.map V.str) 18=some (.str y):=Aj (j:=18) (by rw[aw,hy];rfl);refine Bs (t:=Pm _ _ _) (λσ' H'=>σ'=[some (.ref d),some (.ref a),some (.ref p.1),some (.ref na),some (.ref lt),some (.ref l3),none,none,none]/\Al H5 H') (λN hN'=>?_) ?_
 ·refine⟨_,rfl,_,rfl,p.1,_,_,_,rfl,rfl,AD.of (s5.get hp1),Aj (j:=0) rfl,L0 (VO (K:=K) (ac.same s5) onep (.inl rfl) (by decide +kernel) λu H6 s6 he=>?_)⟩;have he:Jo H6 (some (2,p.2.tg)) u:=he;have s06:=s5.trans s6;refine⟨_,rfl,p.1,_,_,_,rfl,rfl,AD.of (s06.get hp1),Aj (j:=4) rfl,E3,λt nt=>?_⟩;have s7:=Af nt (.tup [.int 2,.ref ta]);refine⟨.tup [.int 2,Hk p.2.tg],NL,NL,by simp[Tr.dep,Tr.deps,Hk],Q6 (he.same s7),⟨t,_,rfl,Ad,_,_,rfl,rfl,_,_,rfl,E7 ((s06.trans s7).get hp2),rfl⟩,_,rfl,By rfl ?_⟩;have s07:=s06.trans s7;refine⟨_,rfl,_,rfl,p.1,_,_,_,rfl,rfl,AD.of (s07.get hp1),Aj (j:=0) rfl,_,rfl,na,_,_,_,rfl,rfl,AB.of (s07.get hna),w18,Ej (VO (K:=K) (ac.same s07) onep y3 (by omega) λu8 H8 s8 he8=>?_)⟩;rw[y2] at he8;have e8:J0 (bm cs) (some (2,p.2.tg)) [y]=none:=by
   show(if(2:Int)=2 then J0 (bm cs) (Kw (ML (bm cs) p.2.tg.1) y) [] else none)=none;rw[aI rfl,C6 eb0,PD λe he e2=>noy (by rw[<-e2];exact(he0 e he).1)];rfl
  rw[e8] at he8;cases(show u8=V.non from he8);exact⟨_,rfl,By rfl (hN' _ _ ⟨rfl,s6.trans (s7.trans s8)⟩)⟩
 rintro σ' H6 ⟨rfl,s6⟩
 refine Bs (t:=GR _ _ _) (λσ' H'=>∃v6 v7 v8,σ'=[some (.ref d),some (.ref a),some (.ref p.1),some (.ref na),some (.ref lt),some (.ref l3),v6,v7,v8]/\Al H5 H') (λN hN'=>?_) ?_
 ·refine⟨_,rfl,lt,rfl,⟨_,AB.of (s6.get hlt5)⟩,Eh (K:=K) (a:=lt) (xs:=qs.map λp=>V.ref p.1) (λi σ H'=>∃v6 v7 v8,σ=[some (.ref d),some (.ref a),some (.ref p.1),some (.ref na),some (.ref lt),some (.ref l3),v6,v7,v8]/\Al H5 H') ⟨_,_,_,rfl,s6⟩ (λi σ H' _ ⟨_,_,_,_,s'⟩=>AB.of (s'.get hlt5)) ?_ ?_⟩
  ·rintro i x σ H7 hi ⟨v6,v7,v8,rfl,s7⟩
   obtain⟨x,rfl,hx⟩:=Ew hi;have hxm:=aE hx;have xl:x.2∈lT (bm cs) 6 EM p.2.tg.1:=pl.mem_iff.mp (aF hxm);rw[N4] at xl;obtain⟨u,hul,eu⟩:=ax.mp xl;have en:x.2.nm=Ko EM u.1:=by rw[<-eu]
   have ek:x.2.kd=u.2.1:=by rw[<-eu]
   have eg:x.2.tg=u.2.2:=by rw[<-eu]
   have lok:=KR fdp u hul;have ns:=lok.ns hN (by decide);obtain⟨p1,p2,p3,p4⟩:=Ii ns;have s07:=s5.trans s7;obtain⟨tx,hx1,hx2⟩:=(hq5 x hxm).same s7;dsimp only[Aq];refine⟨x.1,_,rfl,AD.of hx1,rfl,_,_,rfl,_,_,rfl,_,_,rfl,rfl,?_⟩;refine⟨_,rfl,_,rfl,p.1,_,_,_,rfl,rfl,AD.of (s07.get hp1),Aj (j:=0) rfl,_,rfl,Ej (VO (K:=K) (y:=x.2.nm) (ac.same s07) onep (by rw[en];exact p3) (by rw[en];omega) λu8 H8 s8 he8=>?_)⟩;rw[en,p2,lok.2.2.2.1,show u.2=(x.2.kd,x.2.tg) by rw[ek,eg]] at he8;refine⟨_,rfl,_,rfl,E3,λt nt=>?_⟩;have s9:=Af nt (.tup [.int x.2.kd,.ref tx]);refine⟨.tup [.int x.2.kd,Hk x.2.tg],NL,NL,by simp[Tr.dep,Tr.deps,Hk],Q6 (he8.same s9),⟨t,_,rfl,Ad,_,_,rfl,rfl,_,_,rfl,E7 ((s8.trans s9).get hx2),rfl⟩,_,rfl,By rfl ?_⟩;generalize upd H8 t (.tup [.int x.2.kd,.ref tx])=H9 at s9;have s79:=s8.trans s9;have s09:=s07.trans s79;dsimp only[IG];have e1:(x.2.nm++SL)++y=Ko EM (u.1++[y]):=by
    rw[PN,<-en];unfold pj;rw[aH (by rw[en];exact p1)]
   have ln:(x.2.nm++SL).length<=101:=by rw[len_app,en];show _+1<=_;omega
   obtain⟨_,z2,z3,z4⟩:=Ii (ss:=u.1++[y]) ⟨by simp,by rw[au];have:=lok.2.1;show _+1<=_;omega,λs hs=>by
    rcases aB.mp hs with hs|hs
    ·exact ns.2.2 s hs
    ·rw[ai.mp hs];exact nmy⟩
   refine⟨_,rfl,_,rfl,p.1,_,_,_,rfl,rfl,AD.of (s09.get hp1),Aj (j:=0) rfl,_,rfl,_,_,rfl,rfl,small (by rw[<-len_app];show(x.2.nm++SL).length<=1000000;omega),_,rfl,na,_,_,_,rfl,rfl,AB.of (s09.get hna),w18,_,_,rfl,rfl,small (by show(x.2.nm++SL).length+y.length<=1000000;omega),?_⟩;rw[show PySem.Str.ofString "/"=SL from rfl,e1];refine Ej (VO (K:=K) (ac.same s09) onep z3 (by omega) λu10 H10 s10 he10=>?_);rw[z2,N1,lok.2.2.2.1] at he10;have e10:J0 (bm cs) (some u.2) [y]=none:=by
    show(if u.2.1=2 then J0 (bm cs) (Kw (ML (bm cs) u.2.2.1) y) [] else none)=none
    split
    ·next k2=>
     rcases lok.2.2.2.2 with⟨k,_⟩|⟨_,m,fm⟩
     ·rw[k2] at k;cases k
     ·cases m with
      |zero=>exact fm.elim
      |succ m=>
       obtain⟨es1,eb1,_,_,he1⟩:=fm;rw[C6 eb1,PD λe he e2=>noy (by rw[<-e2];exact(he1 e he).1)];rfl
    ·rfl
   rw[e10] at he10;cases(show u10=V.non from he10);refine⟨_,rfl,By rfl ?_⟩;have s710:=s79.trans s10;have s010:=s09.trans s10;dsimp only[IG];refine⟨_,rfl,rfl,_,rfl,DN (λc=>?_) (λc=>?_)⟩
   ·have k1:u.2.1=1:=by rw[<-ek];exact V.int.inj (bh c)
    have r2:Rw (bm cs) 2 x.2.tg.1:=by
     rw[eg];rcases lok.2.2.2.2 with⟨_,r⟩|⟨k,_⟩
     ·exact r
     ·rw[k1] at k;cases k
    have xm:x.2.tg.1∈ms:=by rw[eg];exact P6 ac.cl fdp (ac.rt p pps).1 u hul
    refine⟨_,rfl,_,rfl,a,ps,bm cs,ms,tx,x.2.tg,rfl,ac.same s010,s710.get hx2,xm,r2,λH11 s11=>⟨_,rfl,_,rfl,d,tx,cs,x.2.tg,rfl,bx.same (s010.trans s11),(s710.trans s11).get hx2,r2,ak _,λH12 s12=>⟨rfl,_,rfl,By (by rw[aR rfl];rfl) ⟨_,_,_,rfl,s7.trans (s710.trans (s11.trans s12))⟩⟩⟩⟩
   ·exact By rfl ⟨_,_,_,rfl,s7.trans s710⟩
  ·rintro σ H7 ⟨v6,v7,v8,rfl,s7⟩
   exact hN' _ _ ⟨_,_,_,rfl,s7⟩
 rintro σ' H7 ⟨v6,v7,v8,rfl,s7⟩
 have s07:=s5.trans s7;dsimp only[Pl];refine⟨_,rfl,_,rfl,p.1,_,_,_,rfl,rfl,AD.of (s07.get hp1),Aj (j:=0) rfl,Ej (WJ (K:=K) (ac.same s07) onep fdp mn hN λl8 rs8 es8 H8 s8 nl8 hl8 hr8 pe8 se8 er8=>?_)⟩;rw[one es8 pe8 se8] at er8;have s78:=s7.trans s8;refine⟨_,rfl,lt,rfl,⟨_,AB.of (s78.get hlt5)⟩,Oe (K:=K) (s78.get hlt5) (λx hx=>(hq5 x hx).same s78) (by omega) λl9 rs9 H9 nl9 s9 hl9 hr9 er9=>?_⟩;have r9:=Ja hl9 hr9;rw[er9.trans er8.symm] at r9;exact⟨(rs8.map (·.2)).map Sy,_,_,by have:=Li (rs8.map (·.2));omega,Ja (s9.get hl8) (λq hq=>s9.get (hr8 q hq)),r9,q H9 (s5.trans (s78.trans s9))⟩
abbrev Wd:Str:=PySem.Str.ofString "no name"
abbrev Wj:Str:=PySem.Str.ofString "no path"
def CP (K:W.Frag):Sp:=λvs H Q _=>∃(a:Addr) (ps:List (Addr×HE)) (B:BM) (met:List Int) (z y:Str),vs=[.ref a,.str z,.str y]/\Acc H a ps B met/\y.length<=1000/\(D2 ps z=none\/¬Qi y)/\
 ∀l H',Al H H'->H' l=some (.lst [.str (if D2 ps z=none then Wd else Wj),.str (if D2 ps z=none then z else y),.bl true,.bl true,.bl false])->Q (.ref l) H'
theorem IP (T:Txt K mg C XC)(F:Fun K "_law_refused" "_law_refused" BW f fd)(Cd:FZ P w K mg base 5 "entry_by" ["account","name","path"] (DH K XC)):FnOk P w K mg base CU 6 f fd ["_law_account_here","_law_name","_law_path"] (CP K):=by
 exists Cg
 ·obtain⟨a,ps,B,met,z,y,rfl,_⟩:=h;rfl
 obtain⟨a,ps,B,met,z,y,rfl,ac,ly,bad,q⟩:=h;have hu:=Cp hr;have hu9:=B8 hr;refine⟨_,(!Ae (@Ap _ _ (3) _ _ _ _ Cg.nd rfl (by trivial) (!Bc (!Ac)) (by rfl) (by trivial)) (!Ae (@Po _ _ _ _ _ _ _ _ _ _ _ _ _ _ _ _ _ (4) _ _ _ _ ⟨rfl,rfl⟩ T.x_NoName T.x_NoPath rfl rfl Cg.nd rfl rfl (!MI (!ME (!OA Cd (by trivial) rfl (!Aa (pv 0) (!Aa (pv 1) (!Aa (pv 2) (!Ac))))))) (!AO) (λea=>(!Ah (@Ap _ _ (3) _ _ _ _ Cg.nd rfl (by trivial) (!Bc (!Aa (!A3) (!Aa (@Lj _ (K) (by rfl) _ _ _ _ (pv 4) rfl) (!Aa (!Aw (C1 (K:=K) (by rfl)) (by rfl) T.b_isinstance AZ (!Aa (pv 4) (!Aa (!Ji rfl T.b_ValueError EO) (!Ac)))) (!Aa (!Aw (C1 (K:=K) (by rfl)) (by rfl) T.b_isinstance AZ (!Aa (pv 4) (!Aa (!JX rfl T.x_StemError) (!Ac)))) (!Aa (!Aw (C1 (K:=K) (by rfl)) (by rfl) T.b_isinstance AZ (!Aa (pv 4) (!Aa (!JX rfl T.x_NoPath) (!Ac)))) (!Ac))))))) (by rfl) (by trivial)))) (λea=>(!Ah (@Ap _ _ (3) _ _ _ _ Cg.nd rfl (by trivial) (!Bc (!Aa (!A3) (!Aa (@Lj _ (K) (by rfl) _ _ _ _ (pv 4) rfl) (!Aa (!Aw (C1 (K:=K) (by rfl)) (by rfl) T.b_isinstance AZ (!Aa (pv 4) (!Aa (!Ji rfl T.b_ValueError EO) (!Ac)))) (!Aa (!Aw (C1 (K:=K) (by rfl)) (by rfl) T.b_isinstance AZ (!Aa (pv 4) (!Aa (!JX rfl T.x_StemError) (!Ac)))) (!Aa (!Aw (C1 (K:=K) (by rfl)) (by rfl) T.b_isinstance AZ (!Aa (pv 4) (!Aa (!JX rfl T.x_NoName) (!Ac)))) (!Ac))))))) (by rfl) (by trivial)))) (by decide) (by decide)) (!Ah (!As (pv 3))))),?_⟩
 try dsimp only[Bw,Cx.nox,Cx.wish]
 refine Ao ⟨Fm,λl0 nl0=>?_⟩;have s0:=Af nl0 (.lst []);dsimp only[Aq];generalize upd H l0 (.lst [])=H0 at s0;refine⟨_,rfl,_,rfl,_,rfl,a,ps,B,met,z,y,rfl,ac.same s0,ly,λp e ok=>?_,λp e no H1 dx s1 hd=>?_,λe H1 dx s1 hd=>?_⟩
 ·rcases bad with h|h
  ·rw[h] at e;cases e
  ·exact absurd ok h
 ·rw[e,aH (by simp),aH (by simp)] at q;refine⟨XC 0,false,rfl,T.m_NoPath_NoName,λ_=>T.m_NoPath_NoPath,λea hea=>?_⟩;have nea:ea≠dx:=λw=>by rw[w,Ad] at hea;cases hea
  have hea1:H1 ea=none:=by rw[An nea] at hea;exact hea
  have s01:=s0.trans s1;have S2:Al H (upd (upd H1 dx (.xd [("path",.str y)])) ea (Ek ea (XC 0) (some dx))):=AI (AI s01 (s01.free hd) _) (s01.free hea1) _;have hex2:(upd (upd H1 dx (.xd [("path",.str y)])) ea (Ek ea (XC 0) (some dx))) ea=some (Ek ea (XC 0) (some dx)):=Ad;have hxd2:(upd (upd H1 dx (.xd [("path",.str y)])) ea (Ek ea (XC 0) (some dx))) dx=some (.xd [("path",.str y)]):=by rw[An (Ne.symm nea),Ad]
  generalize upd (upd H1 dx (.xd [("path",.str y)])) ea (Ek ea (XC 0) (some dx))=H2 at S2 hex2 hxd2;rw[aH aA];exact⟨_,rfl,ea,XC 0,dx,_,.str y,rfl,hex2,T.i_NoPath,T.f_NoPath,hxd2,rfl,_,rfl,ea,XC 0,some dx,_,_,_,rfl,hex2,T.i_NoPath.toExcCls,(λu h=>h),T.k_NoPath_ValueError,_,rfl,ea,XC 0,some dx,_,_,_,rfl,hex2,T.i_NoPath.toExcCls,(λu h=>h),T.k_NoPath_StemError,_,rfl,ea,XC 0,some dx,_,_,_,rfl,hex2,T.i_NoPath.toExcCls,(λu h=>h),T.k_NoPath_NoName,LJ,λl nl=>⟨_,rfl,q l _ (S2.trans (Af nl _)) Ad⟩⟩
 ·rw[aI e,aI e] at q;refine⟨XC 1,true,rfl,T.m_NoName_NoName,(λh=>nomatch h),λea hea=>?_⟩;have nea:ea≠dx:=λw=>by rw[w,Ad] at hea;cases hea
  have hea1:H1 ea=none:=by rw[An nea] at hea;exact hea
  have s01:=s0.trans s1;have S2:Al H (upd (upd H1 dx (.xd [("name",.str z)])) ea (Ek ea (XC 1) (some dx))):=AI (AI s01 (s01.free hd) _) (s01.free hea1) _;have hex2:(upd (upd H1 dx (.xd [("name",.str z)])) ea (Ek ea (XC 1) (some dx))) ea=some (Ek ea (XC 1) (some dx)):=Ad;have hxd2:(upd (upd H1 dx (.xd [("name",.str z)])) ea (Ek ea (XC 1) (some dx))) dx=some (.xd [("name",.str z)]):=by rw[An (Ne.symm nea),Ad]
  generalize upd (upd H1 dx (.xd [("name",.str z)])) ea (Ek ea (XC 1) (some dx))=H2 at S2 hex2 hxd2;rw[aI rfl];exact⟨_,rfl,ea,XC 1,dx,_,.str z,rfl,hex2,T.i_NoName,T.f_NoName,hxd2,rfl,_,rfl,ea,XC 1,some dx,_,_,_,rfl,hex2,T.i_NoName.toExcCls,(λu h=>h),T.k_NoName_ValueError,_,rfl,ea,XC 1,some dx,_,_,_,rfl,hex2,T.i_NoName.toExcCls,(λu h=>h),T.k_NoName_StemError,_,rfl,ea,XC 1,some dx,_,_,_,rfl,hex2,T.i_NoName.toExcCls,(λu h=>h),T.k_NoName_NoPath,LJ,λl nl=>⟨_,rfl,q l _ (S2.trans (Af nl _)) Ad⟩⟩
def Dw (K:W.Frag):Sp:=λvs H Q _=>∃(a:Addr) (ps:List (Addr×HE)) (B:BM) (met:List Int) (z:Str),vs=[.ref a,.str z]/\Acc H a ps B met/\D2 ps z=none/\∀H',Al H H'->Q (.bl true) H'
theorem Hy (T:Txt K mg C XC)(F:Fun K "_law_has_none" "_law_has_none" BJ f fd)(CV:FZ P w K mg base 5 "paths_by" ["account","name"] (DD K XC))(B0:Def P w K mg base 6 "_law_refused" ["_law_account_here","_law_name","_law_path"] (CP K)):FnOk P w K mg base CU 7 f fd ["_law_account_here","_law_name"] (Dw K):=by
 exists BY
 ·obtain⟨a,ps,B,met,z,rfl,_⟩:=h;rfl
 obtain⟨a,ps,B,met,z,rfl,ac,one,q⟩:=h;have hu:=Cp hr;have hu9:=B8 hr;refine⟨_,(!Ae (@Ap _ _ (2) _ _ _ _ BY.nd rfl (by trivial) (!LH) (by rfl) (by trivial)) (!Ae (@Pk _ _ _ _ _ _ _ _ _ _ _ (3) _ _ _ ⟨rfl,rfl⟩ T.x_StemError rfl BY.nd rfl rfl (!MI (!ME (!OA CV (by trivial) rfl (!Aa (pv 0) (!Aa (pv 1) (!Ac)))))) (!AO) (λea=>(!Ah (@Ap _ _ (2) _ _ _ _ BY.nd rfl (by trivial) (pv 3) (by rfl) (by trivial)))) (by decide)) (!Ae (!Bu (@PW.pt _ _ _ (!Hh (!GH (!Gh (!Aw (C1 (K:=K) (by rfl)) (by rfl) T.b_isinstance AZ (!Aa (pv 2) (!Aa (!JX rfl T.x_NoName) (!Ac)))) (by intro _;rfl))) (!Hh (!GH (!Gh (!Aw (C1 (K:=K) (by rfl)) (by rfl) T.b_isinstance AZ (!Aa (pv 2) (!Aa (!Ji rfl T.b_ValueError EO) (!Ac)))) (by intro _;rfl))) (!FS (!AA Iu (@Lj _ (K) (by rfl) _ _ _ _ (pv 2) rfl) (pv 1) (AG _)))))) (!Ah (!As (!Dj))) (!AO)) (!Ae (!BF aT rfl (!BA (!Bc (!Aa (!A3) (!Aa (!A3) (!Aa (!A3) (!Aa (!A3) (!Ac))))))) (@Ak _ _ (4) _ BY.nd rfl (by trivial) (by trivial)) (!Ah (!Bu (!AA (JF hu9) (!AM B0 (by trivial) rfl (!Aa (pv 0) (!Aa (pv 1) (!Aa (pv 4) (!Ac))))) (!Bc (!Aa (!A3) (!Aa (pv 1) (!Aa (!Dj) (!Aa (!Dj) (!Aa (!Dj) (!Ac))))))) (AG _)) (!Ah (!As (!Dj))) (!AO))) (by intro _;rfl)) (!Ah (!As (!Dj))))))),?_⟩
 try dsimp only[Bw,Cx.nox,Cx.wish]
 refine Ao ?_;dsimp only[tC,Aq];refine⟨_,rfl,_,rfl,a,ps,B,met,z,rfl,ac,(λp e=>by rw[one] at e;cases e),λe H1 dx s1 hd=>?_⟩;refine⟨T.m_NoName_StemError,XC 1,rfl,λea hea=>?_⟩;have nea:ea≠dx:=λw=>by rw[w,Ad] at hea;cases hea
 have hea1:H1 ea=none:=by rw[An nea] at hea;exact hea
 have S2:Al H (upd (upd H1 dx (.xd [("name",.str z)])) ea (Ek ea (XC 1) (some dx))):=AI (AI s1 (s1.free hd) _) (s1.free hea1) _;have hex2:(upd (upd H1 dx (.xd [("name",.str z)])) ea (Ek ea (XC 1) (some dx))) ea=some (Ek ea (XC 1) (some dx)):=Ad;have hxd2:(upd (upd H1 dx (.xd [("name",.str z)])) ea (Ek ea (XC 1) (some dx))) dx=some (.xd [("name",.str z)]):=by rw[An (Ne.symm nea),Ad]
 generalize upd (upd H1 dx (.xd [("name",.str z)])) ea (Ek ea (XC 1) (some dx))=H2 at S2 hex2 hxd2;refine⟨_,rfl,?_⟩;refine⟨_,rfl,ea,XC 1,some dx,_,_,_,rfl,hex2,T.i_NoName.toExcCls,(λu h=>h),T.k_NoName_NoName,_,rfl,By rfl ?_⟩;refine⟨_,rfl,ea,XC 1,some dx,_,_,_,rfl,hex2,T.i_NoName.toExcCls,(λu h=>h),T.k_NoName_ValueError,_,rfl,By rfl ?_⟩;refine⟨_,rfl,ea,XC 1,dx,_,.str z,rfl,hex2,T.i_NoName,T.f_NoName,hxd2,rfl,_,rfl,rfl,_,rfl,By (by rw[aR rfl];rfl) ?_⟩;dsimp only[IG];refine⟨Wz,λl3 nl3=>?_⟩;have s3:=Af nl3 (.lst [.str (PySem.Str.ofString ""),.str (PySem.Str.ofString "a"),.str (PySem.Str.ofString "A"),.str (PySem.Str.ofString "a//b")]);have hl3:(upd H2 l3 (.lst [.str (PySem.Str.ofString ""),.str (PySem.Str.ofString "a"),.str (PySem.Str.ofString "A"),.str (PySem.Str.ofString "a//b")])) l3=some (.lst ([PySem.Str.ofString "",PySem.Str.ofString "a",PySem.Str.ofString "A",PySem.Str.ofString "a//b"].map V.str)):=Ad;generalize upd H2 l3 (.lst [.str (PySem.Str.ofString ""),.str (PySem.Str.ofString "a"),.str (PySem.Str.ofString "A"),.str (PySem.Str.ofString "a//b")])=H3 at s3 hl3;have S3:=S2.trans s3;refine⟨l3,rfl,⟨_,AB.of hl3⟩,Eh (K:=K) (a:=l3) (xs:=[PySem.Str.ofString "",PySem.Str.ofString "a",PySem.Str.ofString "A",PySem.Str.ofString "a//b"].map V.str) (λi σ H'=>∃v4,σ=[some (.ref a),some (.str z),some (.ref ea),none,v4]/\Al H3 H') ⟨_,rfl,Al.refl _⟩ (λi σ H' _ ⟨_,_,s'⟩=>AB.of (s'.get hl3)) ?_ ?_⟩
 ·rintro i x σ H4 hi ⟨v4,rfl,s4⟩
  obtain⟨y,rfl,hy⟩:=Ew hi;have hy:=aE hy;have ly:y.length<=1000:=(by decide +kernel:∀y∈[PySem.Str.ofString "",PySem.Str.ofString "a",PySem.Str.ofString "A",PySem.Str.ofString "a//b"],y.length<=1000) y hy;dsimp only[Aq];refine⟨_,rfl,_,rfl,_,rfl,a,ps,B,met,z,y,rfl,ac.same (S3.trans s4),ly,.inl one,λl5 H5 s5 hl5=>?_⟩;rw[aI one,aI one] at hl5;refine⟨_,rfl,LJ,λl6 nl6=>?_⟩;have s6:=Af nl6 (.lst [.str Wd,.str z,.bl true,.bl true,.bl false]);refine⟨.lst [.str Wd,.str z,.bl true,.bl true,.bl false],λa=>a=l5,λa=>a=l6,by simp[Tr.dep,Tr.deps],⟨l5,_,rfl,rfl,s6.get hl5,_,_,rfl,rfl,_,_,rfl,rfl,_,_,rfl,rfl,_,_,rfl,rfl,_,_,rfl,rfl,rfl⟩,⟨l6,_,rfl,rfl,Ad,_,_,rfl,rfl,_,_,rfl,rfl,_,_,rfl,rfl,_,_,rfl,rfl,_,_,rfl,rfl,rfl⟩,_,rfl,By rfl ⟨_,rfl,s4.trans (s5.trans s6)⟩⟩
 ·rintro σ H4 ⟨v4,rfl,s4⟩
  exact q H4 (S3.trans s4)
theorem FQ:∀{a b:List Int},a.Perm b->a.Pairwise (·<=·)->b.Pairwise (·<=·)->a=b
 |[],b,p,_,_=>(List.nil_perm.mp p).symm
 |x::a,[],p,_,_=>absurd p.length_eq (by simp)
 |x::a,y::b,p,ha,hb=>by
  rw[eT] at ha hb;have e:x=y:=by
   have m1:x∈y::b:=p.mem_iff.mp ay;have m2:y∈x::a:=p.mem_iff.mpr ay;rcases aD.mp m1 with e|m1
   ·exact e
   rcases aD.mp m2 with e|m2
   ·exact e.symm
   have l1:=ha.1 y m2;have l2:=hb.1 x m1;omega
  subst e;rw[FQ p.cons_inv ha.2 hb.2]
theorem UD {xs:List V}(h:xs.length=20):K3 xs none (some 18)=xs.take 18:=by
 unfold K3;simp[HT.Dk,h]
theorem TL {ps:List (Addr×HE)}(nd:(ps.map (·.2.nm)).Nodup){p:Addr×HE}(hp:p∈ps):D2 ps p.2.nm=some p:=by
 cases e:D2 ps p.2.nm with
 |none=>
  have:=bV.mp e p hp;exact absurd (aR rfl) this
 |some x=>
  obtain⟨h1,h2⟩:=Jf e;rw[HJ nd h1 hp h2]
theorem Uj {ps:List (Addr×HE)}{z:Str}(h:∀p∈ps,p.2.nm≠z):D2 ps z=none:=bV.mpr λp hp c=>h p hp (bh c)
theorem Kt {zs:List Str}(nd:zs.Nodup){n k:Nat}(h:k<=n/\n<zs.length):∃y,zs[n]?=some y/\y∉zs.take k:=by
 refine⟨zs[n],ah h.2,λhm=>?_⟩;obtain⟨j,hj⟩:=bE hm;have jl:=(ar.mp hj).1;rw[aQ] at jl;rw[cP,aI (by omega)] at hj;have:=bj.mp nd j n (by omega) h.2 (by omega);rw[(ar.mp hj).2] at this;exact this rfl
def WE:Key->Tr
 | .inl i=>.int i
 | .inr s=>.str s
def Wf (e:HE):Tr:=.tup [.str e.nm,.int e.kd,.str e.ow,WE e.og,Hk e.tg]
def To (cs:List Cz)(ag:Int)(ks:List (Addr×Str×Int))(ps:List (Addr×HE))(ms:List Int):List Tr:=
 [.int ag,.tup (ks.map λk=>Sy k.2),.tup (ps.map λp=>Wf p.2),.tup (ms.map λz=>MN (GS cs ks ps (DJ cs ps) z)),.tup (ks.map λk=>Rq (ms.map (GS cs ks ps (DJ cs ps))) k.2.1)]
theorem Hm {α:Type}{g:α->Tr}{a:α->Addr}{H:Hp}{xs:List α}(h:∀x∈xs,Rep NL H (g x) (.ref (a x))):AX NL H (xs.map g) (xs.map λx=>V.ref (a x)):=
 Je (by rw[aa]) λi x v hx hv=>by
  rw[aw,hx] at hv;cases hv;exact h x (aE hx)
theorem LU {H:Hp}{a h:Addr}{cs:List Cz}{ag:Int}{ka ea:Addr}{ks:List (Addr×Str×Int)}{ps:List (Addr×HE)}{ms:List Int}(md:Made H a cs ag ka ea ks ps ms)(hd:Hd H h ag ka ea ks ps):Rep NL H (.tup (To cs ag ks ps ms)) (.ref a):=by
 obtain⟨⟨ca,sh,rs,h1,h2,h3,h4,h5⟩,_,_⟩:=md;refine⟨a,_,rfl,h1,_,_,rfl,rfl,_,_,rfl,⟨ka,_,rfl,hd.kt,Hm λk hk=>?_⟩,_,_,rfl,⟨ea,_,rfl,hd.et,Hm λp hp=>?_⟩,_,_,rfl,⟨ca,_,rfl,h2,?_⟩,_,_,rfl,h5,rfl⟩
 ·exact⟨k.1,_,rfl,hd.ke k hk,_,_,rfl,rfl,_,_,rfl,rfl,rfl⟩
 ·obtain⟨ta,e1,e2⟩:=hd.en p hp;exact⟨p.1,_,rfl,e1,_,_,rfl,rfl,_,_,rfl,rfl,_,_,rfl,rfl,_,_,rfl,(by cases p.2.og<;>rfl),_,_,rfl,E7 e2,rfl⟩
 ·rw[show(ms.map λz=>MN (GS cs ks ps (DJ cs ps) z))=rs.map λr=>MN r.2 by rw[show(rs.map λr=>MN r.2)=(rs.map (·.2)).map MN by rw[aj];rfl,h3,aj];rfl];exact Hm λr hr=>h4 r hr
theorem Gn {α:Type}{g:α->Tr}{n:Nat}(h:∀x,(g x).dep<=n):∀l:List α,Tr.deps (l.map g)<=n
 |[]=>by simp[Tr.deps]
 |x::l=>by
  show max (Tr.dep (g x)) (Tr.deps (l.map g))<=n;exact fA.mpr ⟨h x,Gn h l⟩
theorem QI {cs:List Cz}{ag:Int}{ks:List (Addr×Str×Int)}{ps:List (Addr×HE)}{ms:List Int}:Tr.deps (To cs ag ks ps ms)<=99:=by
 have d1:=Gn (g:=λk:Addr×Str×Int=>Sy k.2) (n:=20) (λx=>by simp[Sy,Tr.dep,Tr.deps]) ks;have d2:=Gn (g:=λp:Addr×HE=>Wf p.2) (n:=20) (λx=>by cases e:x.2.og<;>simp[Wf,Hk,WE,e,Tr.dep,Tr.deps]) ps;have d3:=Gn (g:=λz=>MN (GS cs ks ps (DJ cs ps) z)) (n:=20) (λx=>by
  have h1:=P7 (GS cs ks ps (DJ cs ps) x).b;have h2:=Gn (g:=Tr.str) (n:=2) (λx=>by simp[Tr.dep]) (GS cs ks ps (DJ cs ps) x).hs;simp only[MN,FF,Tr.dep,Tr.deps];omega) ms
 have d4:=Gn (g:=λk:Addr×Str×Int=>Rq (ms.map (GS cs ks ps (DJ cs ps))) k.2.1) (n:=20) (λx=>by simp[Rq,Tr.dep,Tr.deps]) ks;simp only[To,Tr.dep,Tr.deps];omega
def Sk:List Str:=[PySem.Str.ofString "A",PySem.Str.ofString "a//b",PySem.Str.ofString "/",PySem.Str.ofString "123456789",PySem.Str.ofString " "]
theorem Q0:∀o∈Sk,o.length<=1000/\¬Qi o:=by
 have h:∀o∈Sk,o.length<=1000/\o≠EM/\FL (PySem.Txt.split o SL)=false:=by decide +kernel
 exact λo ho=>⟨(h o ho).1,λk=>k.elim (h o ho).2.1 λk=>by rw[(h o ho).2.2] at k;cases k⟩
def Lp (K:W.Frag):Sp:=λvs H Q _=>∃(a:Addr) (ns:List Int),vs=[.ref a]/\AB K H a (ns.map V.int)/\ns.length<=63/\∀H',Q (.bl true) H'
theorem T5 (T:Txt K mg C XC)(F:Fun K "law" "law" G4 f fd)(Fv:Def P w K mg base 1 "_law_names" ["_law_row_here","_law_many_here"] (EF K))(Fu:Def P w K mg base 8 "_law_built" ["_law_script","_law_names_here"] (EK K))(C9:Def P w K mg base 11 "_law_account" ["_law_blocks_here","_law_head_here"] (DM K))(BS:Def P w K mg base 1 "_law_row" ["_law_cell","_law_many_here"] (DC K))(DO:Def P w K mg base 7 "_law_has_none" ["_law_account_here","_law_name"] (Dw K))(AL:Def P w K mg base 1 "_law_cell_at" ["_law_script","_law_k"] (BI K))(E6:Def P w K mg base 8 "_law_right" ["_law_blocks_here","_law_account_here","_law_entry","_law_names_here"] (EE K))(B0:Def P w K mg base 6 "_law_refused" ["_law_account_here","_law_name","_law_path"] (CP K)):FnOk P w K mg base CU 12 f fd ["_law_script"] (Lp K):=by
 exists E9
 ·obtain⟨a,ns,rfl,_⟩:=h;rfl
 obtain⟨a,ns,rfl,hsa,lns,q⟩:=h;have hu:=Cp hr;have hu9:=B8 hr;refine⟨_,(!Ae (@Ap _ _ (1) _ _ _ _ E9.nd rfl (by trivial) (!AM Fv (by trivial) rfl (!Aa (!AM BS (by trivial) rfl (!Aa (!AM AL (by trivial) rfl (!Aa (pv 0) (!Aa (!Ab) (!Ac)))) (!Aa (!Ab) (!Ac)))) (!Aa (!Ab) (!Ac)))) (by rfl) (by trivial)) (!Ae (!Lr (!AM Fu (by trivial) rfl (!Aa (pv 0) (!Aa (!E5 RV (pv 1) (!Gs) (!E8 (!Ab))) (!Ac)))) (!D5 rfl (!Av (@Ak _ _ (2) _ E9.nd rfl (by trivial) (by trivial)) (!Av (@Ak _ _ (3) _ E9.nd rfl (by trivial) (by trivial)) (!Av (@Ak _ _ (4) _ E9.nd rfl (by trivial) (by trivial)) (!BU)))))) (!Ae (@Ap _ _ (5) _ _ _ _ E9.nd rfl (by trivial) (!AM C9 (by trivial) rfl (!Aa (pv 3) (!Aa (pv 4) (!Ac)))) (by rfl) (by trivial)) (!Ae (@Ap _ _ (6) _ _ _ _ E9.nd rfl (by trivial) (!AM C9 (by trivial) rfl (!Aa (pv 3) (!Aa (pv 4) (!Ac)))) (by rfl) (by trivial)) (!Ae (!BF aT rfl (!BA (!Am Gp (!Bf C4 (by rfl) T.b_list FI (!Aa (!Ai Ar (pv 4) (!Ab) (λ_ _=>rfl)) (!Ac))) (!Bf C4 (by rfl) T.b_list FI (!Aa (!R8 (!Ai Ar (pv 4) (!Ab) (λ_ _=>rfl)) (!E8 (!SX PF (!Ab)))) (!Ac))))) (@Ak _ _ (7) _ E9.nd rfl (by trivial) (by trivial)) (!Ae (!Bu (!GH (!Gh (!AM E6 (by trivial) rfl (!Aa (pv 3) (!Aa (pv 5) (!Aa (pv 7) (!Aa (pv 1) (!Ac)))))) (by intro _;rfl))) (!Ah (!As (!Dj))) (!AO)) (!Ae (@Ap _ _ (8) _ _ _ _ E9.nd rfl (by trivial) (!Ai Ax (!Bc (!Aa (!A3) (!Aa (!A3) (!Aa (!A3) (!Aa (!A3) (!Aa (!A3) (!Ac))))))) (!Am AQ (!AM AL (by trivial) rfl (!Aa (pv 0) (!Aa (!Ab) (!Ac)))) (!Ab)) (λ_ _=>rfl)) (by rfl) (by trivial)) (!Ah (!Bu (!AA (JF hu9) (!AM B0 (by trivial) rfl (!Aa (pv 5) (!Aa (!Ai Ar (pv 7) (!Ab) (λ_ _=>rfl)) (!Aa (pv 8) (!Ac))))) (!Bc (!Aa (!A3) (!Aa (pv 8) (!Aa (!Dj) (!Aa (!Dj) (!Aa (!Dj) (!Ac))))))) (AG _)) (!Ah (!As (!Dj))) (!AO))))) (by intro _;rfl)) (!Ah (!As (!PL (!AM DO (by trivial) rfl (!Aa (pv 5) (!Aa (!Ai Ax (pv 1) (!Ab) (λ_ _=>rfl)) (!Ac)))) (!QL (!Fp (Sh hu9) (pv 5) (pv 6) (AG _))))))))))),?_⟩
 try dsimp only[Bw,Cx.nox,Cx.wish]
 refine Ao ⟨_,rfl,a,ns,0,rfl,by decide,hsa,λc0=>⟨c0,10,rfl,by decide,by decide,λra H1 ms s1 nra hra lms bms=>⟨ra,ms,20,rfl,hra,lms,bms,by decide,by decide,λna H2 zs s2 nna hna lz nmz ndz=>?_⟩⟩⟩;have s12:=s1.trans s2;have lz:zs.length=20:=lz;dsimp only[Aq];refine Ao ⟨_,rfl,_,rfl,18,rfl,na,_,rfl,AB.of hna,λnb nnb=>?_⟩;have ecut:K3 (zs.map V.str) none (some 18)=(zs.take 18).map V.str:=by
  rw[List.map_take];exact UD (by rw[aa];exact lz)
 rw[ecut];have s3:=Af nnb (.lst ((zs.take 18).map V.str));have hnb:(upd H2 nb (.lst ((zs.take 18).map V.str))) nb=some (.lst ((zs.take 18).map V.str)):=Ad;have s13:=s12.trans s3;have hna3:=s3.get hna;generalize upd H2 nb (.lst ((zs.take 18).map V.str))=H3 at s3 hnb s13 hna3;refine Ej ⟨a,nb,ns,zs.take 18,rfl,s13.seq hsa,AB.of hnb,by rw[aQ];omega,ndz.sublist (cA _ _),λz hz=>nmz z (dy hz),λt pl d h cs ag ka ea ks ps H4 s4 ht bx hd hps=>?_⟩;have hN:∀z,z∈zs.take 18->Cv (.str z)=true:=λz hz=>Oo (nmz z (dy hz))
 have s14:=s13.trans s4;dsimp only[Aq];refine⟨t,_,rfl,AD.of ht,rfl,_,_,rfl,_,_,rfl,_,_,rfl,rfl,?_⟩;refine Ao ⟨_,rfl,_,rfl,d,h,cs,ag,ka,ea,ks,ps,(·∈zs.take 18),rfl,bx,hd,λz hz=>EZ (hN z hz),λp hp=>.inr (hps p hp).2.1,λa1 ms1 H5 s5 md1=>?_⟩;dsimp only[Aq];refine Ao ⟨_,rfl,_,rfl,d,h,cs,ag,ka,ea,ks,ps,(·∈zs.take 18),rfl,bx.same s5,hd.same s5,λz hz=>EZ (hN z hz),λp hp=>.inr (hps p hp).2.1,λa2 ms2 H6 s6 md2=>?_⟩;have s46:=s5.trans s6;have s16:=s14.trans s46;have md1:=md1.same s6;have bx6:=bx.same s46;have hd6:=hd.same s46;have hna6:=(s4.trans s46).get hna3;have ac:=TZ md1 hd6 hN (λp hp=>(hps p hp).2.1) bx.few;have ems:ms2=ms1:=FQ (md2.pm.trans md1.pm.symm) md2.so md1.so;subst ems;dsimp only[Aq];have onp:∀p∈ps,D2 ps p.2.nm=some p:=λp hp=>TL hd.nd hp
 have y18:∃y,zs[18]?=some y/\y∉zs.take 18:=Kt ndz (by omega);have y19:∃y,zs[19]?=some y/\y∉zs.take 18:=Kt ndz (by omega);obtain⟨y,hy,noy⟩:=y18;obtain⟨y',hy',noy'⟩:=y19;refine Bs (t:=GR _ _ _) (λσ' H'=>∃v7 v8,σ'=[some (.ref a),some (.ref na),some (.ref pl),some (.ref d),some (.ref h),some (.ref a1),some (.ref a2),v7,v8]/\Al H6 H') (λN hN'=>?_) ?_
 ·refine⟨_,rfl,h,_,_,_,rfl,rfl,AD.of hd6.at_,Aj (j:=2) rfl,ea,_,rfl,.inr (AD.of hd6.et),λl7 nl7=>?_⟩;have s7:=Af nl7 (.lst (ps.map λp=>V.ref p.1));have hl7:(upd H6 l7 (.lst (ps.map λp=>V.ref p.1))) l7=some (.lst (ps.map λp=>V.ref p.1)):=Ad;generalize upd H6 l7 (.lst (ps.map λp=>V.ref p.1))=H7 at s7 hl7;have hd7:=hd6.same s7;refine⟨_,rfl,h,_,_,_,rfl,rfl,AD.of hd7.at_,Aj (j:=2) rfl,1,rfl,-1,rfl,rfl,ea,_,rfl,AD.of hd7.et,λt8 nt8=>?_⟩;have s8:=Af nt8 (.tup (ps.map λp=>V.ref p.1).reverse);refine⟨t8,_,rfl,.inr (AD.of Ad),λl9 nl9=>?_⟩;have s9:=Af nl9 (.lst (ps.map λp=>V.ref p.1).reverse);have el:=hd.el;refine⟨l7,l9,_,_,rfl,rfl,AB.of ((s8.trans s9).get hl7),AB.of Ad,small (by rw[dA,aa];omega),λl10 nl10=>?_⟩;have s10:=Af nl10 (.lst (ps.map (λp=>V.ref p.1)++(ps.map λp=>V.ref p.1).reverse));have hl10:(upd (upd (upd H7 t8 (.tup (ps.map λp=>V.ref p.1).reverse)) l9 (.lst (ps.map λp=>V.ref p.1).reverse)) l10 (.lst (ps.map (λp=>V.ref p.1)++(ps.map λp=>V.ref p.1).reverse))) l10=some (.lst ((ps++ps.reverse).map λp=>V.ref p.1)):=by rw[Ad,aq,List.map_reverse]
  have s610:=s7.trans (s8.trans (s9.trans s10));generalize upd (upd (upd H7 t8 (.tup (ps.map λp=>V.ref p.1).reverse)) l9 (.lst (ps.map λp=>V.ref p.1).reverse)) l10 (.lst (ps.map (λp=>V.ref p.1)++(ps.map λp=>V.ref p.1).reverse))=H10 at hl10 s610;refine⟨l10,rfl,⟨_,AB.of hl10⟩,Eh (K:=K) (a:=l10) (xs:=(ps++ps.reverse).map λp=>V.ref p.1) (λi σ H'=>∃v7 v8,σ=[some (.ref a),some (.ref na),some (.ref pl),some (.ref d),some (.ref h),some (.ref a1),some (.ref a2),v7,v8]/\Al H10 H') ⟨_,_,rfl,Al.refl _⟩ (λi σ H' _ ⟨_,_,_,s'⟩=>AB.of (s'.get hl10)) ?_ ?_⟩
  ·rintro i x σ H11 hi ⟨v7,v8,rfl,s11⟩
   obtain⟨p,rfl,hp⟩:=Ew hi;have hp:p∈ps:=by
    rcases aB.mp (aE hp) with hp|hp
    ·exact hp
    ·exact List.mem_reverse.mp hp
   have s611:=s610.trans s11;obtain⟨ta,hp1,hp2⟩:=hd6.en p hp;dsimp only[Aq];refine⟨_,rfl,_,rfl,_,rfl,_,rfl,d,a1,na,cs,ps,_,p,zs,y,(·∈zs.take 18),rfl,bx6.same s611,ac.same s611,hp,onp p hp,(hps p hp).2.1,(hps p hp).2.2,hN,s611.get hna6,hy,Oo (nmz y (aE hy)),noy,λH12 s12'=>⟨_,rfl,By rfl ?_⟩⟩;have s612:=s611.trans s12';dsimp only[IG];refine Ao ⟨LJ,λlo nlo=>?_⟩;have s13':=Af nlo (.lst [.str (PySem.Str.ofString "A"),.str (PySem.Str.ofString "a//b"),.str (PySem.Str.ofString "/"),.str (PySem.Str.ofString "123456789"),.str (PySem.Str.ofString " ")]);have hlo:(upd H12 lo (.lst [.str (PySem.Str.ofString "A"),.str (PySem.Str.ofString "a//b"),.str (PySem.Str.ofString "/"),.str (PySem.Str.ofString "123456789"),.str (PySem.Str.ofString " ")])) lo=some (.lst (Sk.map V.str)):=Ad;generalize upd H12 lo (.lst [.str (PySem.Str.ofString "A"),.str (PySem.Str.ofString "a//b"),.str (PySem.Str.ofString "/"),.str (PySem.Str.ofString "123456789"),.str (PySem.Str.ofString " ")])=H13 at s13' hlo;have s613:=s612.trans s13';refine⟨_,rfl,a,ns,4,rfl,by decide,(s16.trans s613).seq hsa,λc4=>?_⟩;obtain⟨v,hv,hat⟩:=GP (xs:=Sk.map V.str) (n:=5) rfl (by decide) c4;obtain⟨o,ho,rfl⟩:=ax.mp hv;refine⟨_,_,rfl,rfl,(by show(0:Int)<5;decide),lo,_,_,_,rfl,rfl,AB.of hlo,hat,?_⟩;obtain⟨o1,o2⟩:=Q0 o ho;dsimp only[Aq];refine⟨_,rfl,_,rfl,p.1,_,_,_,rfl,rfl,AD.of (s613.get hp1),Aj (j:=0) rfl,_,rfl,a1,ps,bm cs,_,p.2.nm,o,rfl,ac.same s613,o1,.inr o2,λl14 H14 s14' hl14=>?_⟩;rw[onp p hp,aH (by simp),aH (by simp)] at hl14;refine⟨_,rfl,LJ,λl15 nl15=>?_⟩;have s15:=Af nl15 (.lst [.str Wj,.str o,.bl true,.bl true,.bl false]);exact⟨.lst [.str Wj,.str o,.bl true,.bl true,.bl false],λa=>a=l14,λa=>a=l15,by simp[Tr.dep,Tr.deps],⟨l14,_,rfl,rfl,s15.get hl14,_,_,rfl,rfl,_,_,rfl,rfl,_,_,rfl,rfl,_,_,rfl,rfl,_,_,rfl,rfl,rfl⟩,⟨l15,_,rfl,rfl,Ad,_,_,rfl,rfl,_,_,rfl,rfl,_,_,rfl,rfl,_,_,rfl,rfl,_,_,rfl,rfl,rfl⟩,_,rfl,By rfl ⟨_,_,rfl,s11.trans (s12'.trans (s13'.trans (s14'.trans s15)))⟩⟩
  ·rintro σ H11 ⟨v7,v8,rfl,s11⟩
   exact hN' _ _ ⟨_,_,rfl,s610.trans s11⟩
 rintro σ' H7 ⟨v7,v8,rfl,s7⟩
 have w19:Iw (zs.map V.str) 19=some (.str y'):=Aj (j:=19) (by rw[aw,hy'];rfl);dsimp only[Pl];refine⟨_,rfl,_,rfl,na,_,_,_,rfl,rfl,AB.of (s7.get hna6),w19,Ej ⟨a1,ps,bm cs,_,y',rfl,ac.same s7,Uj λp hp e=>noy' (by rw[<-e];exact(hps p hp).1),λH8 s8=>⟨true,rfl,?_⟩⟩⟩;have s68:=s7.trans s8;rw[aI rfl];exact⟨_,rfl,_,rfl,_,NL,NL,QI,LU (md1.same s68) (hd6.same s68),LU (md2.same s68) (hd6.same s68),q _⟩
end
theorem WR {us:List Value}(h:us.length=0):us=[]:=by
 cases us with
 |nil=>rfl
 |cons _ _=>cases h
theorem Si {us:List Value}(h:us.length=1):∃x0,us=[x0]:=by
 cases us with
 |nil=>cases h
 |cons a us=>
  cases WR (cU h);exact⟨_,rfl⟩
theorem ln2 {us:List Value}(h:us.length=2):∃x0 x1,us=[x0,x1]:=by
 cases us with
 |nil=>cases h
 |cons a us=>
  obtain⟨_,rfl⟩:=Si (cU h);exact⟨_,_,rfl⟩
theorem Sf {us:List Value}(h:us.length=3):∃x0 x1 x2,us=[x0,x1,x2]:=by
 cases us with
 |nil=>cases h
 |cons a us=>
  obtain⟨_,_,rfl⟩:=ln2 (cU h);exact⟨_,_,_,rfl⟩
theorem VS {us:List Value}(h:us.length=4):∃x0 x1 x2 x3,us=[x0,x1,x2,x3]:=by
 cases us with
 |nil=>cases h
 |cons a us=>
  obtain⟨_,_,_,rfl⟩:=Sf (cU h);exact⟨_,_,_,_,rfl⟩
theorem WK {us:List Value}(h:us.length=5):∃x0 x1 x2 x3 x4,us=[x0,x1,x2,x3,x4]:=by
 cases us with
 |nil=>cases h
 |cons a us=>
  obtain⟨_,_,_,_,rfl⟩:=VS (cU h);exact⟨_,_,_,_,_,rfl⟩
theorem all_mk {l:W.OpenLaw} {w:World} {K:W.Frag} {h:Heap} {mg:Str->Option Value} {fa:Addr} (X:K.In h) (G:h.Ns mainGlobals mg) (hfa:mg "law"=some (.ref fa))
  {f0:Addr} {od0 an0:Option Addr} {sl0:Array (Option Value)} {oc0 kV0 dc0 pm0 cd0 ct0:Value}
  {f1:Addr} {od1 an1:Option Addr} {sl1:Array (Option Value)} {oc1 kV1 dc1 pm1 cd1 ct1:Value}
  {f2:Addr} {od2 an2:Option Addr} {sl2:Array (Option Value)} {oc2 kV2 dc2 pm2 cd2 ct2:Value}
  {f3:Addr} {od3 an3:Option Addr} {sl3:Array (Option Value)} {oc3 kV3 dc3 pm3 cd3 ct3:Value}
  {f4:Addr} {od4 an4:Option Addr} {sl4:Array (Option Value)} {oc4 kV4 dc4 pm4 cd4 ct4:Value}
  {f5:Addr} {od5 an5:Option Addr} {sl5:Array (Option Value)} {oc5 kV5 dc5 pm5 cd5 ct5:Value}
  {f6:Addr} {od6 an6:Option Addr} {sl6:Array (Option Value)} {oc6 kV6 dc6 pm6 cd6 ct6:Value}
  {f7:Addr} {od7 an7:Option Addr} {sl7:Array (Option Value)} {oc7 kV7 dc7 pm7 cd7 ct7:Value}
  {f8:Addr} {od8 an8:Option Addr} {sl8:Array (Option Value)} {oc8 kV8 dc8 pm8 cd8 ct8:Value}
  {f9:Addr} {od9 an9:Option Addr} {sl9:Array (Option Value)} {oc9 kV9 dc9 pm9 cd9 ct9:Value}
  {f10:Addr} {od10 an10:Option Addr} {sl10:Array (Option Value)} {oc10 kV10 dc10 pm10 cd10 ct10:Value}
  {f11:Addr} {od11 an11:Option Addr} {sl11:Array (Option Value)} {oc11 kV11 dc11 pm11 cd11 ct11:Value}
  {f12:Addr} {od12 an12:Option Addr} {sl12:Array (Option Value)} {oc12 kV12 dc12 pm12 cd12 ct12:Value}
  {f13:Addr} {od13 an13:Option Addr} {sl13:Array (Option Value)} {oc13 kV13 dc13 pm13 cd13 ct13:Value}
  {f14:Addr} {od14 an14:Option Addr} {sl14:Array (Option Value)} {oc14 kV14 dc14 pm14 cd14 ct14:Value}
  {f15:Addr} {od15 an15:Option Addr} {sl15:Array (Option Value)} {oc15 kV15 dc15 pm15 cd15 ct15:Value}
  {f16:Addr} {od16 an16:Option Addr} {sl16:Array (Option Value)} {oc16 kV16 dc16 pm16 cd16 ct16:Value}
  {f17:Addr} {od17 an17:Option Addr} {sl17:Array (Option Value)} {oc17 kV17 dc17 pm17 cd17 ct17:Value}
  {f18:Addr} {od18 an18:Option Addr} {sl18:Array (Option Value)} {oc18 kV18 dc18 pm18 cd18 ct18:Value}
  {f19:Addr} {od19 an19:Option Addr} {sl19:Array (Option Value)} {oc19 kV19 dc19 pm19 cd19 ct19:Value}
  {f20:Addr} {od20 an20:Option Addr} {sl20:Array (Option Value)} {oc20 kV20 dc20 pm20 cd20 ct20:Value}
  {f21:Addr} {od21 an21:Option Addr} {sl21:Array (Option Value)} {oc21 kV21 dc21 pm21 cd21 ct21:Value}
  {f22:Addr} {od22 an22:Option Addr} {sl22:Array (Option Value)} {oc22 kV22 dc22 pm22 cd22 ct22:Value}
  {f23:Addr} {od23 an23:Option Addr} {sl23:Array (Option Value)} {oc23 kV23 dc23 pm23 cd23 ct23:Value}
  {f24:Addr} {od24 an24:Option Addr} {sl24:Array (Option Value)} {oc24 kV24 dc24 pm24 cd24 ct24:Value}
  {f25:Addr} {od25 an25:Option Addr} {sl25:Array (Option Value)} {oc25 kV25 dc25 pm25 cd25 ct25:Value}
  {f26:Addr} {od26 an26:Option Addr} {sl26:Array (Option Value)} {oc26 kV26 dc26 pm26 cd26 ct26:Value}
  {f27:Addr} {od27 an27:Option Addr} {sl27:Array (Option Value)} {oc27 kV27 dc27 pm27 cd27 ct27:Value}
  {f28:Addr} {od28 an28:Option Addr} {sl28:Array (Option Value)} {oc28 kV28 dc28 pm28 cd28 ct28:Value}
  {f29:Addr} {od29 an29:Option Addr} {sl29:Array (Option Value)} {oc29 kV29 dc29 pm29 cd29 ct29:Value}
  {f30:Addr} {od30 an30:Option Addr} {sl30:Array (Option Value)} {oc30 kV30 dc30 pm30 cd30 ct30:Value}
  {f31:Addr} {od31 an31:Option Addr} {sl31:Array (Option Value)} {oc31 kV31 dc31 pm31 cd31 ct31:Value}
  {f32:Addr} {od32 an32:Option Addr} {sl32:Array (Option Value)} {oc32 kV32 dc32 pm32 cd32 ct32:Value}
  {f33:Addr} {od33 an33:Option Addr} {sl33:Array (Option Value)} {oc33 kV33 dc33 pm33 cd33 ct33:Value}
  {f34:Addr} {od34 an34:Option Addr} {sl34:Array (Option Value)} {oc34 kV34 dc34 pm34 cd34 ct34:Value}
  {f35:Addr} {od35 an35:Option Addr} {sl35:Array (Option Value)} {oc35 kV35 dc35 pm35 cd35 ct35:Value}
  {f36:Addr} {od36 an36:Option Addr} {sl36:Array (Option Value)} {oc36 kV36 dc36 pm36 cd36 ct36:Value}
  {f37:Addr} {od37 an37:Option Addr} {sl37:Array (Option Value)} {oc37 kV37 dc37 pm37 cd37 ct37:Value}
  {f38:Addr} {od38 an38:Option Addr} {sl38:Array (Option Value)} {oc38 kV38 dc38 pm38 cd38 ct38:Value}
  {f39:Addr} {od39 an39:Option Addr} {sl39:Array (Option Value)} {oc39 kV39 dc39 pm39 cd39 ct39:Value}
  {f40:Addr} {od40 an40:Option Addr} {sl40:Array (Option Value)} {oc40 kV40 dc40 pm40 cd40 ct40:Value}
  {f41:Addr} {od41 an41:Option Addr} {sl41:Array (Option Value)} {oc41 kV41 dc41 pm41 cd41 ct41:Value}
  {f42:Addr} {od42 an42:Option Addr} {sl42:Array (Option Value)} {oc42 kV42 dc42 pm42 cd42 ct42:Value}
  {f43:Addr} {od43 an43:Option Addr} {sl43:Array (Option Value)} {oc43 kV43 dc43 pm43 cd43 ct43:Value}
  {f44:Addr} {od44 an44:Option Addr} {sl44:Array (Option Value)} {oc44 kV44 dc44 pm44 cd44 ct44:Value}
  {C:Addr}
  {AN:Addr}
  {AH:Addr}
  {Bp:Addr}
  {t_SIGNS:Tok}
  {t_PIECE:Tok}
  {t_ROW:Tok}
  {t_FOLDER_ENTRY:Tok}
  {t_NAME_SIGNS:Tok}
  {t_MOST_NAME_SIGNS:Tok}
  {t_MOST_STEPS:Tok}
  (a0:W.nsIn K mainGlobals "is_text"=some (some (.ref f0))) (l0:K.lookup f0=some ⟨oc0,od0,.func (W.fnOf "is_text" "is_text" (Ay DZ) (Au DZ) (Ag DZ) .none kV0 dc0 pm0 an0 cd0 ct0),sl0⟩) (c0:W.codeIn K cd0 "is_text"=true) (k0:W.keepIn K (.ref f0)=true)
  (a1:W.findIn K (.ref AH) "__init__"=some (some (.ref f1))) (i1:W.isFn K (.ref f1)=true) (l1:K.lookup f1=some ⟨oc1,od1,.func (W.fnOf "__init__" "NoName.__init__" (Ay Co) (Au Co) (Ag Co) .none kV1 dc1 pm1 an1 cd1 ct1),sl1⟩) (c1:W.codeIn K cd1 "NoName.__init__"=true) (k1:W.keepIn K (.ref f1)=true)
  (a2:W.findIn K (.ref AN) "__init__"=some (some (.ref f2))) (i2:W.isFn K (.ref f2)=true) (l2:K.lookup f2=some ⟨oc2,od2,.func (W.fnOf "__init__" "NoPath.__init__" (Ay Cj) (Au Cj) (Ag Cj) .none kV2 dc2 pm2 an2 cd2 ct2),sl2⟩) (c2:W.codeIn K cd2 "NoPath.__init__"=true) (k2:W.keepIn K (.ref f2)=true)
  (a3:W.nsIn K mainGlobals "is_name"=some (some (.ref f3))) (l3:K.lookup f3=some ⟨oc3,od3,.func (W.fnOf "is_name" "is_name" (Ay D0) (Au D0) (Ag D0) .none kV3 dc3 pm3 an3 cd3 ct3),sl3⟩) (c3:W.codeIn K cd3 "is_name"=true) (k3:W.keepIn K (.ref f3)=true)
  (a4:W.nsIn K mainGlobals "tags_in"=some (some (.ref f4))) (l4:K.lookup f4=some ⟨oc4,od4,.func (W.fnOf "tags_in" "tags_in" (Ay DU) (Au DU) (Ag DU) .none kV4 dc4 pm4 an4 cd4 ct4),sl4⟩) (c4:W.codeIn K cd4 "tags_in"=true) (k4:W.keepIn K (.ref f4)=true)
  (a5:W.nsIn K mainGlobals "content_at"=some (some (.ref f5))) (l5:K.lookup f5=some ⟨oc5,od5,.func (W.fnOf "content_at" "content_at" (Ay BN) (Au BN) (Ag BN) .none kV5 dc5 pm5 an5 cd5 ct5),sl5⟩) (c5:W.codeIn K cd5 "content_at"=true) (k5:W.keepIn K (.ref f5)=true)
  (a6:W.nsIn K mainGlobals "one_called"=some (some (.ref f6))) (l6:K.lookup f6=some ⟨oc6,od6,.func (W.fnOf "one_called" "one_called" (Ay CB) (Au CB) (Ag CB) .none kV6 dc6 pm6 an6 cd6 ct6),sl6⟩) (c6:W.codeIn K cd6 "one_called"=true) (k6:W.keepIn K (.ref f6)=true)
  (a7:W.nsIn K mainGlobals "named_so"=some (some (.ref f7))) (l7:K.lookup f7=some ⟨oc7,od7,.func (W.fnOf "named_so" "named_so" (Ay Ds) (Au Ds) (Ag Ds) .none kV7 dc7 pm7 an7 cd7 ct7),sl7⟩) (c7:W.codeIn K cd7 "named_so"=true) (k7:W.keepIn K (.ref f7)=true)
  (a8:W.nsIn K mainGlobals "steps_in"=some (some (.ref f8))) (l8:K.lookup f8=some ⟨oc8,od8,.func (W.fnOf "steps_in" "steps_in" (Ay Dv) (Au Dv) (Ag Dv) .none kV8 dc8 pm8 an8 cd8 ct8),sl8⟩) (c8:W.codeIn K cd8 "steps_in"=true) (k8:W.keepIn K (.ref f8)=true)
  (a9:W.nsIn K mainGlobals "path_to"=some (some (.ref f9))) (l9:K.lookup f9=some ⟨oc9,od9,.func (W.fnOf "path_to" "path_to" (Ay DY) (Au DY) (Ag DY) .none kV9 dc9 pm9 an9 cd9 ct9),sl9⟩) (c9:W.codeIn K cd9 "path_to"=true) (k9:W.keepIn K (.ref f9)=true)
  (a10:W.nsIn K mainGlobals "entry_at"=some (some (.ref f10))) (l10:K.lookup f10=some ⟨oc10,od10,.func (W.fnOf "entry_at" "entry_at" (Ay Du) (Au Du) (Ag Du) .none kV10 dc10 pm10 an10 cd10 ct10),sl10⟩) (c10:W.codeIn K cd10 "entry_at"=true) (k10:W.keepIn K (.ref f10)=true)
  (a11:W.nsIn K mainGlobals "entry_called"=some (some (.ref f11))) (l11:K.lookup f11=some ⟨oc11,od11,.func (W.fnOf "entry_called" "entry_called" (Ay BV) (Au BV) (Ag BV) .none kV11 dc11 pm11 an11 cd11 ct11),sl11⟩) (c11:W.codeIn K cd11 "entry_called"=true) (k11:W.keepIn K (.ref f11)=true)
  (a12:W.nsIn K mainGlobals "all_in"=some (some (.ref f12))) (l12:K.lookup f12=some ⟨oc12,od12,.func (W.fnOf "all_in" "all_in" (Ay EW) (Au EW) (Ag EW) .none kV12 dc12 pm12 an12 cd12 ct12),sl12⟩) (c12:W.codeIn K cd12 "all_in"=true) (k12:W.keepIn K (.ref f12)=true)
  (a13:W.findIn K (.ref C) "__init__"=some (some (.ref f13))) (i13:W.isFn K (.ref f13)=true) (l13:K.lookup f13=some ⟨oc13,od13,.func (W.fnOf "__init__" "ToldBlocks.__init__" (Ay Bv) (Au Bv) (Ag Bv) .none kV13 dc13 pm13 an13 cd13 ct13),sl13⟩) (c13:W.codeIn K cd13 "ToldBlocks.__init__"=true) (k13:W.keepIn K (.ref f13)=true)
  (a14:W.findIn K (.ref C) "block"=some (some (.ref f14))) (i14:W.isFn K (.ref f14)=true) (l14:K.lookup f14=some ⟨oc14,od14,.func (W.fnOf "block" "ToldBlocks.block" (Ay Bj) (Au Bj) (Ag Bj) .none kV14 dc14 pm14 an14 cd14 ct14),sl14⟩) (c14:W.codeIn K cd14 "ToldBlocks.block"=true) (k14:W.keepIn K (.ref f14)=true)
  (a15:W.nsIn K mainGlobals "root_by"=some (some (.ref f15))) (l15:K.lookup f15=some ⟨oc15,od15,.func (W.fnOf "root_by" "root_by" (Ay DW) (Au DW) (Ag DW) .none kV15 dc15 pm15 an15 cd15 ct15),sl15⟩) (c15:W.codeIn K cd15 "root_by"=true) (k15:W.keepIn K (.ref f15)=true)
  (a16:W.nsIn K mainGlobals "entry_by"=some (some (.ref f16))) (l16:K.lookup f16=some ⟨oc16,od16,.func (W.fnOf "entry_by" "entry_by" (Ay Dt) (Au Dt) (Ag Dt) .none kV16 dc16 pm16 an16 cd16 ct16),sl16⟩) (c16:W.codeIn K cd16 "entry_by"=true) (k16:W.keepIn K (.ref f16)=true)
  (a17:W.nsIn K mainGlobals "content_by"=some (some (.ref f17))) (l17:K.lookup f17=some ⟨oc17,od17,.func (W.fnOf "content_by" "content_by" (Ay Cy) (Au Cy) (Ag Cy) .none kV17 dc17 pm17 an17 cd17 ct17),sl17⟩) (c17:W.codeIn K cd17 "content_by"=true) (k17:W.keepIn K (.ref f17)=true)
  (a18:W.nsIn K mainGlobals "paths_by"=some (some (.ref f18))) (l18:K.lookup f18=some ⟨oc18,od18,.func (W.fnOf "paths_by" "paths_by" (Ay Dl) (Au Dl) (Ag Dl) .none kV18 dc18 pm18 an18 cd18 ct18),sl18⟩) (c18:W.codeIn K cd18 "paths_by"=true) (k18:W.keepIn K (.ref f18)=true)
  (a19:W.nsIn K mainGlobals "_law_cell_at"=some (some (.ref f19))) (l19:K.lookup f19=some ⟨oc19,od19,.func (W.fnOf "_law_cell_at" "_law_cell_at" (Ay B1) (Au B1) (Ag B1) .none kV19 dc19 pm19 an19 cd19 ct19),sl19⟩) (c19:W.codeIn K cd19 "_law_cell_at"=true) (k19:W.keepIn K (.ref f19)=true)
  (a20:W.nsIn K mainGlobals "_law_row"=some (some (.ref f20))) (l20:K.lookup f20=some ⟨oc20,od20,.func (W.fnOf "_law_row" "_law_row" (Ay Dx) (Au Dx) (Ag Dx) .none kV20 dc20 pm20 an20 cd20 ct20),sl20⟩) (c20:W.codeIn K cd20 "_law_row"=true) (k20:W.keepIn K (.ref f20)=true)
  (a21:W.nsIn K mainGlobals "_law_names"=some (some (.ref f21))) (l21:K.lookup f21=some ⟨oc21,od21,.func (W.fnOf "_law_names" "_law_names" (Ay CF) (Au CF) (Ag CF) .none kV21 dc21 pm21 an21 cd21 ct21),sl21⟩) (c21:W.codeIn K cd21 "_law_names"=true) (k21:W.keepIn K (.ref f21)=true)
  (a22:W.nsIn K mainGlobals "_law_text"=some (some (.ref f22))) (l22:K.lookup f22=some ⟨oc22,od22,.func (W.fnOf "_law_text" "_law_text" (Ay CW) (Au CW) (Ag CW) .none kV22 dc22 pm22 an22 cd22 ct22),sl22⟩) (c22:W.codeIn K cd22 "_law_text"=true) (k22:W.keepIn K (.ref f22)=true)
  (a23:W.nsIn K mainGlobals "_law_sum"=some (some (.ref f23))) (l23:K.lookup f23=some ⟨oc23,od23,.func (W.fnOf "_law_sum" "_law_sum" (Ay Dr) (Au Dr) (Ag Dr) .none kV23 dc23 pm23 an23 cd23 ct23),sl23⟩) (c23:W.codeIn K cd23 "_law_sum"=true) (k23:W.keepIn K (.ref f23)=true)
  (a24:W.nsIn K mainGlobals "_law_put"=some (some (.ref f24))) (l24:K.lookup f24=some ⟨oc24,od24,.func (W.fnOf "_law_put" "_law_put" (Ay Do) (Au Do) (Ag Do) .none kV24 dc24 pm24 an24 cd24 ct24),sl24⟩) (c24:W.codeIn K cd24 "_law_put"=true) (k24:W.keepIn K (.ref f24)=true)
  (a25:W.nsIn K mainGlobals "_law_entries"=some (some (.ref f25))) (l25:K.lookup f25=some ⟨oc25,od25,.func (W.fnOf "_law_entries" "_law_entries" (Ay BX) (Au BX) (Ag BX) .none kV25 dc25 pm25 an25 cd25 ct25),sl25⟩) (c25:W.codeIn K cd25 "_law_entries"=true) (k25:W.keepIn K (.ref f25)=true)
  (a26:W.nsIn K mainGlobals "_law_blocks"=some (some (.ref f26))) (l26:K.lookup f26=some ⟨oc26,od26,.func (W.fnOf "_law_blocks" "_law_blocks" (Ay Ck) (Au Ck) (Ag Ck) .none kV26 dc26 pm26 an26 cd26 ct26),sl26⟩) (c26:W.codeIn K cd26 "_law_blocks"=true) (k26:W.keepIn K (.ref f26)=true)
  (a27:W.nsIn K mainGlobals "_law_grown"=some (some (.ref f27))) (l27:K.lookup f27=some ⟨oc27,od27,.func (W.fnOf "_law_grown" "_law_grown" (Ay CC) (Au CC) (Ag CC) .none kV27 dc27 pm27 an27 cd27 ct27),sl27⟩) (c27:W.codeIn K cd27 "_law_grown"=true) (k27:W.keepIn K (.ref f27)=true)
  (a28:W.nsIn K mainGlobals "_law_head"=some (some (.ref f28))) (l28:K.lookup f28=some ⟨oc28,od28,.func (W.fnOf "_law_head" "_law_head" (Ay CY) (Au CY) (Ag CY) .none kV28 dc28 pm28 an28 cd28 ct28),sl28⟩) (c28:W.codeIn K cd28 "_law_head"=true) (k28:W.keepIn K (.ref f28)=true)
  (a29:W.nsIn K mainGlobals "_law_tags"=some (some (.ref f29))) (l29:K.lookup f29=some ⟨oc29,od29,.func (W.fnOf "_law_tags" "_law_tags" (Ay C3) (Au C3) (Ag C3) .none kV29 dc29 pm29 an29 cd29 ct29),sl29⟩) (c29:W.codeIn K cd29 "_law_tags"=true) (k29:W.keepIn K (.ref f29)=true)
  (a30:W.nsIn K mainGlobals "_law_reached"=some (some (.ref f30))) (l30:K.lookup f30=some ⟨oc30,od30,.func (W.fnOf "_law_reached" "_law_reached" (Ay B3) (Au B3) (Ag B3) .none kV30 dc30 pm30 an30 cd30 ct30),sl30⟩) (c30:W.codeIn K cd30 "_law_reached"=true) (k30:W.keepIn K (.ref f30)=true)
  (a31:W.nsIn K mainGlobals "_law_held"=some (some (.ref f31))) (l31:K.lookup f31=some ⟨oc31,od31,.func (W.fnOf "_law_held" "_law_held" (Ay CZ) (Au CZ) (Ag CZ) .none kV31 dc31 pm31 an31 cd31 ct31),sl31⟩) (c31:W.codeIn K cd31 "_law_held"=true) (k31:W.keepIn K (.ref f31)=true)
  (a32:W.nsIn K mainGlobals "_law_many"=some (some (.ref f32))) (l32:K.lookup f32=some ⟨oc32,od32,.func (W.fnOf "_law_many" "_law_many" (Ay B7) (Au B7) (Ag B7) .none kV32 dc32 pm32 an32 cd32 ct32),sl32⟩) (c32:W.codeIn K cd32 "_law_many"=true) (k32:W.keepIn K (.ref f32)=true)
  (a33:W.nsIn K mainGlobals "_law_built"=some (some (.ref f33))) (l33:K.lookup f33=some ⟨oc33,od33,.func (W.fnOf "_law_built" "_law_built" (Ay Cw) (Au Cw) (Ag Cw) .none kV33 dc33 pm33 an33 cd33 ct33),sl33⟩) (c33:W.codeIn K cd33 "_law_built"=true) (k33:W.keepIn K (.ref f33)=true)
  (a34:W.nsIn K mainGlobals "_law_words"=some (some (.ref f34))) (l34:K.lookup f34=some ⟨oc34,od34,.func (W.fnOf "_law_words" "_law_words" (Ay BL) (Au BL) (Ag BL) .none kV34 dc34 pm34 an34 cd34 ct34),sl34⟩) (c34:W.codeIn K cd34 "_law_words"=true) (k34:W.keepIn K (.ref f34)=true)
  (a35:W.nsIn K mainGlobals "_law_common"=some (some (.ref f35))) (l35:K.lookup f35=some ⟨oc35,od35,.func (W.fnOf "_law_common" "_law_common" (Ay Ci) (Au Ci) (Ag Ci) .none kV35 dc35 pm35 an35 cd35 ct35),sl35⟩) (c35:W.codeIn K cd35 "_law_common"=true) (k35:W.keepIn K (.ref f35)=true)
  (a36:W.nsIn K mainGlobals "_law_height"=some (some (.ref f36))) (l36:K.lookup f36=some ⟨oc36,od36,.func (W.fnOf "_law_height" "_law_height" (Ay BD) (Au BD) (Ag BD) .none kV36 dc36 pm36 an36 cd36 ct36),sl36⟩) (c36:W.codeIn K cd36 "_law_height"=true) (k36:W.keepIn K (.ref f36)=true)
  (a37:W.nsIn K mainGlobals "_law_count"=some (some (.ref f37))) (l37:K.lookup f37=some ⟨oc37,od37,.func (W.fnOf "_law_count" "_law_count" (Ay CG) (Au CG) (Ag CG) .none kV37 dc37 pm37 an37 cd37 ct37),sl37⟩) (c37:W.codeIn K cd37 "_law_count"=true) (k37:W.keepIn K (.ref f37)=true)
  (a38:W.nsIn K mainGlobals "_law_account"=some (some (.ref f38))) (l38:K.lookup f38=some ⟨oc38,od38,.func (W.fnOf "_law_account" "_law_account" (Ay BZ) (Au BZ) (Ag BZ) .none kV38 dc38 pm38 an38 cd38 ct38),sl38⟩) (c38:W.codeIn K cd38 "_law_account"=true) (k38:W.keepIn K (.ref f38)=true)
  (a39:W.nsIn K mainGlobals "_law_content"=some (some (.ref f39))) (l39:K.lookup f39=some ⟨oc39,od39,.func (W.fnOf "_law_content" "_law_content" (Ay Bq) (Au Bq) (Ag Bq) .none kV39 dc39 pm39 an39 cd39 ct39),sl39⟩) (c39:W.codeIn K cd39 "_law_content"=true) (k39:W.keepIn K (.ref f39)=true)
  (a40:W.nsIn K mainGlobals "_law_tree"=some (some (.ref f40))) (l40:K.lookup f40=some ⟨oc40,od40,.func (W.fnOf "_law_tree" "_law_tree" (Ay B6) (Au B6) (Ag B6) .none kV40 dc40 pm40 an40 cd40 ct40),sl40⟩) (c40:W.codeIn K cd40 "_law_tree"=true) (k40:W.keepIn K (.ref f40)=true)
  (a41:W.nsIn K mainGlobals "_law_right"=some (some (.ref f41))) (l41:K.lookup f41=some ⟨oc41,od41,.func (W.fnOf "_law_right" "_law_right" (Ay CA) (Au CA) (Ag CA) .none kV41 dc41 pm41 an41 cd41 ct41),sl41⟩) (c41:W.codeIn K cd41 "_law_right"=true) (k41:W.keepIn K (.ref f41)=true)
  (a42:W.nsIn K mainGlobals "_law_refused"=some (some (.ref f42))) (l42:K.lookup f42=some ⟨oc42,od42,.func (W.fnOf "_law_refused" "_law_refused" (Ay BW) (Au BW) (Ag BW) .none kV42 dc42 pm42 an42 cd42 ct42),sl42⟩) (c42:W.codeIn K cd42 "_law_refused"=true) (k42:W.keepIn K (.ref f42)=true)
  (a43:W.nsIn K mainGlobals "_law_has_none"=some (some (.ref f43))) (l43:K.lookup f43=some ⟨oc43,od43,.func (W.fnOf "_law_has_none" "_law_has_none" (Ay BJ) (Au BJ) (Ag BJ) .none kV43 dc43 pm43 an43 cd43 ct43),sl43⟩) (c43:W.codeIn K cd43 "_law_has_none"=true) (k43:W.keepIn K (.ref f43)=true)
  (a44:W.nsIn K mainGlobals "law"=some (some (.ref f44))) (l44:K.lookup f44=some ⟨oc44,od44,.func (W.fnOf "law" "law" (Ay G4) (Au G4) (Ag G4) .none kV44 dc44 pm44 an44 cd44 ct44),sl44⟩) (c44:W.codeIn K cd44 "law"=true) (k44:W.keepIn K (.ref f44)=true)
  (aC:W.nsIn K mainGlobals "ToldBlocks"=some (some (.ref C))) (pg:W.plainGet K C Str.empty=true) (hd:W.hasDictIn K C=true) (po:W.plainOver K C=true) (sa:W.findIn K (.ref C) "__setattr__"=some (some (.builtin "object.__setattr__"))) (mk:W.makesIn K C=true) (kc:W.keepIn K (.ref C)=true)
  (n_blocks:W.findIn K (.ref C) "blocks"=some none)
  (x_NoPath:W.nsIn K mainGlobals "NoPath"=some (some (.ref AN)))
  (x_NoName:W.nsIn K mainGlobals "NoName"=some (some (.ref AH)))
  (x_StemError:W.nsIn K mainGlobals "StemError"=some (some (.ref Bp)))
  (m_NoName_NoName:W.exmOne K (.ref AH) (.ref AH)=some true)
  (m_NoPath_NoName:W.exmOne K (.ref AN) (.ref AH)=some false)
  (m_NoPath_NoPath:W.exmOne K (.ref AN) (.ref AN)=some true)
  (m_NoName_StemError:W.exmOne K (.ref AH) (.ref Bp)=some true)
  (Ic:W.findIn K (.ref AH) "__getattribute__"=some (some (.builtin "BaseException.__getattribute__")))
  (HP:W.findIn K (.ref AH) "__getattr__"=some none)
  (Ho:W.findIn K (.ref AH) "__class__"=some (some (.builtin "object.__class__")))
  (HZ:W.specialIn K (.builtin "object.__class__") "__get__"=some (some (.builtin "getset_descriptor.__get__")))
  (Hw:W.takesIn K (.builtin "object.__class__")=some true)
  (HD:W.mroIn K AH (.type "object")=some true)
  (Hs:W.mroIn K AH (.type "BaseException")=some true)
  (HG:W.findIn K (.ref AN) "__getattribute__"=some (some (.builtin "BaseException.__getattribute__")))
  (Ig:W.findIn K (.ref AN) "__getattr__"=some none)
  (HQ:W.findIn K (.ref AN) "__class__"=some (some (.builtin "object.__class__")))
  (HB:W.specialIn K (.builtin "object.__class__") "__get__"=some (some (.builtin "getset_descriptor.__get__")))
  (Hn:W.takesIn K (.builtin "object.__class__")=some true)
  (HR:W.mroIn K AN (.type "object")=some true)
  (HI:W.mroIn K AN (.type "BaseException")=some true)
  (HK:KG K AN=true)
  (HW:TF K AN=true)
  (HN:W.findIn K (.ref AN) "__setattr__"=some (some (.builtin "object.__setattr__")))
  (Hu:W.hasDictIn K AN=true)
  (Hx:W.keepIn K (.ref AN)=true)
  (HA:W.findIn K (.ref AN) "path"=some none)
  (HU:KG K AH=true)
  (HX:TF K AH=true)
  (HM:W.findIn K (.ref AH) "__setattr__"=some (some (.builtin "object.__setattr__")))
  (Hq:W.hasDictIn K AH=true)
  (Ik:W.keepIn K (.ref AH)=true)
  (Il:W.findIn K (.ref AH) "name"=some none)
  (k_NoName_NoName:W.kitOne K (.ref AH) (.ref AH)=some true)
  (k_NoName_ValueError:W.kitOne K (.ref AH) (.type "ValueError")=some true)
  (k_NoName_StemError:W.kitOne K (.ref AH) (.ref Bp)=some true)
  (k_NoName_NoPath:W.kitOne K (.ref AH) (.ref AN)=some false)
  (k_NoPath_ValueError:W.kitOne K (.ref AN) (.type "ValueError")=some true)
  (k_NoPath_StemError:W.kitOne K (.ref AN) (.ref Bp)=some true)
  (k_NoPath_NoName:W.kitOne K (.ref AN) (.ref AH)=some false)
  (Fw:W.nsIn K mainGlobals "ValueError"=some none)
  (Rf:W.nsIn K mainGlobals "all"=some none)
  (NG:W.nsIn K mainGlobals "dict"=some none)
  (Qo:W.nsIn K mainGlobals "int"=some none)
  (FB:W.nsIn K mainGlobals "isinstance"=some none)
  (Rk:W.nsIn K mainGlobals "len"=some none)
  (Nk:W.nsIn K mainGlobals "list"=some none)
  (PV:W.nsIn K mainGlobals "max"=some none)
  (Qe:W.nsIn K mainGlobals "min"=some none)
  (LD:W.nsIn K mainGlobals "range"=some none)
  (JC:W.nsIn K mainGlobals "sorted"=some none)
  (P3:W.nsIn K mainGlobals "str"=some none)
  (PM:W.nsIn K mainGlobals "sum"=some none)
  (Lv:W.nsIn K mainGlobals "tuple"=some none)
  (Lk:W.nsIn K mainGlobals "SIGNS"=some (some (.str (PySem.Str.ofString " !\"#$&'()*+,-./0123456789:;<=>?@ABCDEFGHIJKLMNOPQRSTUVWXYZ[\\]^_`abcdefghijklmnopqrstuvwxyz{|}~") t_SIGNS)))
  (Ly:W.nsIn K mainGlobals "PIECE"=some (some (.int 0 t_PIECE)))
  (Rj:W.nsIn K mainGlobals "ROW"=some (some (.int 1 t_ROW)))
  (D4:W.nsIn K mainGlobals "FOLDER_ENTRY"=some (some (.int 2 t_FOLDER_ENTRY)))
  (FD:W.nsIn K mainGlobals "NAME_SIGNS"=some (some (.str (PySem.Str.ofString "0123456789abcdefghijklmnopqrstuvwxyz") t_NAME_SIGNS)))
  (De:W.nsIn K mainGlobals "MOST_NAME_SIGNS"=some (some (.int 8 t_MOST_NAME_SIGNS)))
  (Fx:W.nsIn K mainGlobals "MOST_STEPS"=some (some (.int 8 t_MOST_STEPS))) :
  ∃fd:FuncData,(∀(s:Shared) (v:Value),BindsTo s fd ⟨[v],[]⟩ [("_law_script",v)])/\∀base:Heap,K.In base->base.Ns mainGlobals mg->FnOk l.prog w K mg base CU 12 fa fd ["_law_script"] (Lp K):=by
 have e:=hfa.symm.trans (W.mg_of X G a44);cases e;have T:Txt K mg C (λn=>match n with|0=>AN|1=>AH|2=>Bp|_=>0):=⟨⟨pg,hd,po,sa⟩,n_blocks,W.mg_of X G x_NoPath,W.mg_of X G x_NoName,W.mg_of X G x_StemError,m_NoName_NoName,m_NoPath_NoName,m_NoPath_NoPath,m_NoName_StemError,⟨⟨HG,Ig,HQ,HB,Hn,HR,HI⟩,HN,HW,Hu⟩,HA,⟨⟨Ic,HP,Ho,HZ,Hw,HD,Hs⟩,HM,HX,Hq⟩,Il,k_NoName_NoName,k_NoName_ValueError,k_NoName_StemError,k_NoName_NoPath,k_NoPath_ValueError,k_NoPath_StemError,k_NoPath_NoName,W.mg_none_of X G Fw,W.mg_none_of X G Rf,W.mg_none_of X G NG,W.mg_none_of X G Qo,W.mg_none_of X G FB,W.mg_none_of X G Rk,W.mg_none_of X G Nk,W.mg_none_of X G PV,W.mg_none_of X G Qe,W.mg_none_of X G LD,W.mg_none_of X G JC,W.mg_none_of X G P3,W.mg_none_of X G PM,W.mg_none_of X G Lv,⟨_,W.mg_of X G Lk⟩,⟨_,W.mg_of X G Ly⟩,⟨_,W.mg_of X G Rj⟩,⟨_,W.mg_of X G D4⟩,⟨_,W.mg_of X G FD⟩,⟨_,W.mg_of X G De⟩,⟨_,W.mg_of X G Fx⟩⟩
 have F0:=AK (st:=DZ) l0 c0 k0;have b0:=F0.binds (ps:=["thing","least","most"]) λ_ _ _ _ _ _ us hl=>by
  obtain⟨_,_,_,rfl⟩:=Sf hl;rfl
 have F1:=AK (st:=Co) l1 c1 k1;have b1:=F1.binds (ps:=["self","name"]) λ_ _ _ _ _ _ us hl=>by
  obtain⟨_,_,rfl⟩:=ln2 hl;rfl
 have F2:=AK (st:=Cj) l2 c2 k2;have b2:=F2.binds (ps:=["self","path"]) λ_ _ _ _ _ _ us hl=>by
  obtain⟨_,_,rfl⟩:=ln2 hl;rfl
 have F3:=AK (st:=D0) l3 c3 k3;have b3:=F3.binds (ps:=["thing"]) λ_ _ _ _ _ _ us hl=>by
  obtain⟨_,rfl⟩:=Si hl;rfl
 have F4:=AK (st:=DU) l4 c4 k4;have b4:=F4.binds (ps:=["block"]) λ_ _ _ _ _ _ us hl=>by
  obtain⟨_,rfl⟩:=Si hl;rfl
 have F5:=AK (st:=BN) l5 c5 k5;have b5:=F5.binds (ps:=["pool","tag"]) λ_ _ _ _ _ _ us hl=>by
  obtain⟨_,_,rfl⟩:=ln2 hl;rfl
 have F6:=AK (st:=CB) l6 c6 k6;have b6:=F6.binds (ps:=["some","name"]) λ_ _ _ _ _ _ us hl=>by
  obtain⟨_,_,rfl⟩:=ln2 hl;rfl
 have F7:=AK (st:=Ds) l7 c7 k7;have b7:=F7.binds (ps:=["head","name"]) λ_ _ _ _ _ _ us hl=>by
  obtain⟨_,_,rfl⟩:=ln2 hl;rfl
 have F8:=AK (st:=Dv) l8 c8 k8;have b8:=F8.binds (ps:=["path"]) λ_ _ _ _ _ _ us hl=>by
  obtain⟨_,rfl⟩:=Si hl;rfl
 have F9:=AK (st:=DY) l9 c9 k9;have b9:=F9.binds (ps:=["folder","name"]) λ_ _ _ _ _ _ us hl=>by
  obtain⟨_,_,rfl⟩:=ln2 hl;rfl
 have F10:=AK (st:=Du) l10 c10 k10;have b10:=F10.binds (ps:=["pool","root","path"]) λ_ _ _ _ _ _ us hl=>by
  obtain⟨_,_,_,rfl⟩:=Sf hl;rfl
 have F11:=AK (st:=BV) l11 c11 k11;have b11:=F11.binds (ps:=["folder","name"]) λ_ _ _ _ _ _ us hl=>by
  obtain⟨_,_,rfl⟩:=ln2 hl;rfl
 have F12:=AK (st:=EW) l12 c12 k12;have b12:=F12.binds (ps:=["pool","root"]) λ_ _ _ _ _ _ us hl=>by
  obtain⟨_,_,rfl⟩:=ln2 hl;rfl
 have F13:=AK (st:=Bv) l13 c13 k13;have b13:=F13.binds (ps:=["self","account"]) λ_ _ _ _ _ _ us hl=>by
  obtain⟨_,_,rfl⟩:=ln2 hl;rfl
 have F14:=AK (st:=Bj) l14 c14 k14;have b14:=F14.binds (ps:=["self","tag"]) λ_ _ _ _ _ _ us hl=>by
  obtain⟨_,_,rfl⟩:=ln2 hl;rfl
 have F15:=AK (st:=DW) l15 c15 k15;have b15:=F15.binds (ps:=["account","name"]) λ_ _ _ _ _ _ us hl=>by
  obtain⟨_,_,rfl⟩:=ln2 hl;rfl
 have F16:=AK (st:=Dt) l16 c16 k16;have b16:=F16.binds (ps:=["account","name","path"]) λ_ _ _ _ _ _ us hl=>by
  obtain⟨_,_,_,rfl⟩:=Sf hl;rfl
 have F17:=AK (st:=Cy) l17 c17 k17;have b17:=F17.binds (ps:=["account","tag"]) λ_ _ _ _ _ _ us hl=>by
  obtain⟨_,_,rfl⟩:=ln2 hl;rfl
 have F18:=AK (st:=Dl) l18 c18 k18;have b18:=F18.binds (ps:=["account","name"]) λ_ _ _ _ _ _ us hl=>by
  obtain⟨_,_,rfl⟩:=ln2 hl;rfl
 have F19:=AK (st:=B1) l19 c19 k19;have b19:=F19.binds (ps:=["_law_script","_law_k"]) λ_ _ _ _ _ _ us hl=>by
  obtain⟨_,_,rfl⟩:=ln2 hl;rfl
 have F20:=AK (st:=Dx) l20 c20 k20;have b20:=F20.binds (ps:=["_law_cell","_law_many_here"]) λ_ _ _ _ _ _ us hl=>by
  obtain⟨_,_,rfl⟩:=ln2 hl;rfl
 have F21:=AK (st:=CF) l21 c21 k21;have b21:=F21.binds (ps:=["_law_row_here","_law_many_here"]) λ_ _ _ _ _ _ us hl=>by
  obtain⟨_,_,rfl⟩:=ln2 hl;rfl
 have F22:=AK (st:=CW) l22 c22 k22;have b22:=F22.binds (ps:=["_law_row_here","_law_at"]) λ_ _ _ _ _ _ us hl=>by
  obtain⟨_,_,rfl⟩:=ln2 hl;rfl
 have F23:=AK (st:=Dr) l23 c23 k23;have b23:=F23.binds (ps:=["_law_block"]) λ_ _ _ _ _ _ us hl=>by
  obtain⟨_,rfl⟩:=Si hl;rfl
 have F24:=AK (st:=Do) l24 c24 k24;have b24:=F24.binds (ps:=["_law_pool","_law_blocks_here","_law_block","_law_birth"]) λ_ _ _ _ _ _ us hl=>by
  obtain⟨_,_,_,_,rfl⟩:=VS hl;rfl
 have F25:=AK (st:=BX) l25 c25 k25;have b25:=F25.binds (ps:=["_law_row_here","_law_at","_law_names_here","_law_files","_law_folders"]) λ_ _ _ _ _ _ us hl=>by
  obtain⟨_,_,_,_,_,rfl⟩:=WK hl;rfl
 have F26:=AK (st:=Ck) l26 c26 k26;have b26:=F26.binds (ps:=["_law_script","_law_pool","_law_names_here"]) λ_ _ _ _ _ _ us hl=>by
  obtain⟨_,_,_,rfl⟩:=Sf hl;rfl
 have F27:=AK (st:=CC) l27 c27 k27;have b27:=F27.binds (ps:=["_law_entries_here","_law_stem","_law_number"]) λ_ _ _ _ _ _ us hl=>by
  obtain⟨_,_,_,rfl⟩:=Sf hl;rfl
 have F28:=AK (st:=CY) l28 c28 k28;have b28:=F28.binds (ps:=["_law_script","_law_names_here","_law_folders"]) λ_ _ _ _ _ _ us hl=>by
  obtain⟨_,_,_,rfl⟩:=Sf hl;rfl
 have F29:=AK (st:=C3) l29 c29 k29;have b29:=F29.binds (ps:=["_law_block"]) λ_ _ _ _ _ _ us hl=>by
  obtain⟨_,rfl⟩:=Si hl;rfl
 have F30:=AK (st:=B3) l30 c30 k30;have b30:=F30.binds (ps:=["_law_blocks_here","_law_tags_here"]) λ_ _ _ _ _ _ us hl=>by
  obtain⟨_,_,rfl⟩:=ln2 hl;rfl
 have F31:=AK (st:=CZ) l31 c31 k31;have b31:=F31.binds (ps:=["_law_blocks_here","_law_head_here"]) λ_ _ _ _ _ _ us hl=>by
  obtain⟨_,_,rfl⟩:=ln2 hl;rfl
 have F32:=AK (st:=B7) l32 c32 k32;have b32:=F32.binds (ps:=["_law_blocks_here","_law_tag"]) λ_ _ _ _ _ _ us hl=>by
  obtain⟨_,_,rfl⟩:=ln2 hl;rfl
 have F33:=AK (st:=Cw) l33 c33 k33;have b33:=F33.binds (ps:=["_law_script","_law_names_here"]) λ_ _ _ _ _ _ us hl=>by
  obtain⟨_,_,rfl⟩:=ln2 hl;rfl
 have F34:=AK (st:=BL) l34 c34 k34;have b34:=F34.binds (ps:=["_law_thing"]) λ_ _ _ _ _ _ us hl=>by
  obtain⟨_,rfl⟩:=Si hl;rfl
 have F35:=AK (st:=Ci) l35 c35 k35;have b35:=F35.binds (ps:=["_law_one","_law_other"]) λ_ _ _ _ _ _ us hl=>by
  obtain⟨_,_,rfl⟩:=ln2 hl;rfl
 have F36:=AK (st:=BD) l36 c36 k36;have b36:=F36.binds (ps:=["_law_blocks_here","_law_number"]) λ_ _ _ _ _ _ us hl=>by
  obtain⟨_,_,rfl⟩:=ln2 hl;rfl
 have F37:=AK (st:=CG) l37 c37 k37;have b37:=F37.binds (ps:=["_law_blocks_here","_law_head_here","_law_met","_law_number"]) λ_ _ _ _ _ _ us hl=>by
  obtain⟨_,_,_,_,rfl⟩:=VS hl;rfl
 have F38:=AK (st:=BZ) l38 c38 k38;have b38:=F38.binds (ps:=["_law_blocks_here","_law_head_here"]) λ_ _ _ _ _ _ us hl=>by
  obtain⟨_,_,rfl⟩:=ln2 hl;rfl
 have F39:=AK (st:=Bq) l39 c39 k39;have b39:=F39.binds (ps:=["_law_blocks_here","_law_tag"]) λ_ _ _ _ _ _ us hl=>by
  obtain⟨_,_,rfl⟩:=ln2 hl;rfl
 have F40:=AK (st:=B6) l40 c40 k40;have b40:=F40.binds (ps:=["_law_blocks_here","_law_path","_law_tag"]) λ_ _ _ _ _ _ us hl=>by
  obtain⟨_,_,_,rfl⟩:=Sf hl;rfl
 have F41:=AK (st:=CA) l41 c41 k41;have b41:=F41.binds (ps:=["_law_blocks_here","_law_account_here","_law_entry","_law_names_here"]) λ_ _ _ _ _ _ us hl=>by
  obtain⟨_,_,_,_,rfl⟩:=VS hl;rfl
 have F42:=AK (st:=BW) l42 c42 k42;have b42:=F42.binds (ps:=["_law_account_here","_law_name","_law_path"]) λ_ _ _ _ _ _ us hl=>by
  obtain⟨_,_,_,rfl⟩:=Sf hl;rfl
 have F43:=AK (st:=BJ) l43 c43 k43;have b43:=F43.binds (ps:=["_law_account_here","_law_name"]) λ_ _ _ _ _ _ us hl=>by
  obtain⟨_,_,rfl⟩:=ln2 hl;rfl
 have F44:=AK (st:=G4) l44 c44 k44;refine⟨W.fnOf "law" "law" (Ay G4) (Au G4) (Ag G4) .none kV44 dc44 pm44 an44 cd44 ct44,λs v=>.of_eq rfl,λbase _ _=>?_⟩;have Ij:Def l.prog w K mg base 1 "is_text" ["thing","least","most"] (GM K):=⟨_,_,Ng T F0 ,W.mg_of X G a0,k0,b0⟩
 have EN:QP l.prog w K mg base 1 "NoName" AH "name" ["self","name"]:=⟨_,_,⟨HU,a1,i1,Ik⟩,Jm T F1,W.mg_of X G x_NoName,b1⟩
 have ET:QP l.prog w K mg base 1 "NoPath" AN "path" ["self","path"]:=⟨_,_,⟨HK,a2,i2,Hx⟩,Jl T F2,W.mg_of X G x_NoPath,b2⟩
 have C0:Def l.prog w K mg base 1 "tags_in" ["block"] (Ea K):=⟨_,_,Nt T F4 ,W.mg_of X G a4,k4,b4⟩
 have Fy:Def l.prog w K mg base 1 "one_called" ["some","name"] (EA K):=⟨_,_,Ka T F6 ,W.mg_of X G a6,k6,b6⟩
 have HS:Def l.prog w K mg base 1 "path_to" ["folder","name"] (GJ K):=⟨_,_,Np T F9 ,W.mg_of X G a9,k9,b9⟩
 have D3:Def l.prog w K mg base 1 "entry_called" ["folder","name"] (DP K):=⟨_,_,IV T F11 ,W.mg_of X G a11,k11,b11⟩
 have AV:PR l.prog w K mg base 1 C "ToldBlocks" ["self","account"] (Bl K C):=⟨_,_,GI T F13 ,⟨mk,a13,i13,kc⟩,W.mg_of X G aC,b13⟩
 have Az:M3 l.prog w K mg base 1 C "block" ["self","tag"] (AU K C):=⟨_,_,Gy T F14 ,⟨a14,i14,k14⟩,b14⟩
 have AL:Def l.prog w K mg base 1 "_law_cell_at" ["_law_script","_law_k"] (BI K):=⟨_,_,IJ T F19 ,W.mg_of X G a19,k19,b19⟩
 have BS:Def l.prog w K mg base 1 "_law_row" ["_law_cell","_law_many_here"] (DC K):=⟨_,_,Mt T F20 ,W.mg_of X G a20,k20,b20⟩
 have Fv:Def l.prog w K mg base 1 "_law_names" ["_law_row_here","_law_many_here"] (EF K):=⟨_,_,J1 T F21 ,W.mg_of X G a21,k21,b21⟩
 have FP:Def l.prog w K mg base 1 "_law_text" ["_law_row_here","_law_at"] (Fh K):=⟨_,_,K9 T F22 ,W.mg_of X G a22,k22,b22⟩
 have GO:Def l.prog w K mg base 1 "_law_sum" ["_law_block"] (FW K):=⟨_,_,L6 T F23 ,W.mg_of X G a23,k23,b23⟩
 have Eg:Def l.prog w K mg base 1 "_law_entries" ["_law_row_here","_law_at","_law_names_here","_law_files","_law_folders"] (DI K):=⟨_,_,IQ T F25 ,W.mg_of X G a25,k25,b25⟩
 have Fn:Def l.prog w K mg base 1 "_law_grown" ["_law_entries_here","_law_stem","_law_number"] (EG K):=⟨_,_,Ki T F27 ,W.mg_of X G a27,k27,b27⟩
 have A6:Def l.prog w K mg base 1 "_law_tags" ["_law_block"] (Cc K):=⟨_,_,LF T F29 ,W.mg_of X G a29,k29,b29⟩
 have EI:Def l.prog w K mg base 1 "_law_common" ["_law_one","_law_other"] (Ed K):=⟨_,_,Jv T F35 ,W.mg_of X G a35,k35,b35⟩
 have HY:Def l.prog w K mg base 2 "is_name" ["thing"] (GN K):=⟨_,_,MT T F3 Ij,W.mg_of X G a3,k3,b3⟩
 have Jn:Def l.prog w K mg base 2 "all_in" ["pool","root"] (HH K C):=⟨_,_,Pe T F12 HS Az,W.mg_of X G a12,k12,b12⟩
 have Cr:Def l.prog w K mg base 2 "_law_put" ["_law_pool","_law_blocks_here","_law_block","_law_birth"] (Es K):=⟨_,_,Mj T F24 GO,W.mg_of X G a24,k24,b24⟩
 have Gi:Def l.prog w K mg base 2 "_law_head" ["_law_script","_law_names_here","_law_folders"] (Fk K):=⟨_,_,K8 T F28 BS AL Fn,W.mg_of X G a28,k28,b28⟩
 have B4:Def l.prog w K mg base 2 "_law_reached" ["_law_blocks_here","_law_tags_here"] (CN K):=⟨_,_,IT T F30 A6,W.mg_of X G a30,k30,b30⟩
 have FA:Def l.prog w K mg base 2 "_law_count" ["_law_blocks_here","_law_head_here","_law_met","_law_number"] (ES K):=⟨_,_,J2 T F37 A6,W.mg_of X G a37,k37,b37⟩
 have GV:FZ l.prog w K mg base 3 "named_so" ["head","name"] (FV K (λn=>match n with|0=>AN|1=>AH|2=>Bp|_=>0)):=⟨_,_,Mc T F7 Fy EN,W.mg_of X G a7,k7,b7⟩
 have GQ:FZ l.prog w K mg base 3 "steps_in" ["path"] (Er K (λn=>match n with|0=>AN|1=>AH|2=>Bp|_=>0)):=⟨_,_,L9 T F8 ET HY,W.mg_of X G a8,k8,b8⟩
 have EV:Def l.prog w K mg base 3 "_law_blocks" ["_law_script","_law_pool","_law_names_here"] (Eb K):=⟨_,_,Jk T F26 BS AL Cr FP Eg,W.mg_of X G a26,k26,b26⟩
 have FR:Def l.prog w K mg base 3 "_law_held" ["_law_blocks_here","_law_head_here"] (FG K):=⟨_,_,Lq T F31 B4,W.mg_of X G a31,k31,b31⟩
 have Dg:Def l.prog w K mg base 4 "content_at" ["pool","tag"] (EL K C):=⟨_,_,Kb T F5 Az C0 (W.mg_of X G a5) k5 b5,W.mg_of X G a5,k5,b5⟩
 have GU:FZ l.prog w K mg base 4 "entry_at" ["pool","root","path"] (FY K C (λn=>match n with|0=>AN|1=>AH|2=>Bp|_=>0)):=⟨_,_,Me T F10 GQ D3 Az,W.mg_of X G a10,k10,b10⟩
 have D1:FZ l.prog w K mg base 4 "root_by" ["account","name"] (Fi K (λn=>match n with|0=>AN|1=>AH|2=>Bp|_=>0)):=⟨_,_,Nj T F15 GV,W.mg_of X G a15,k15,b15⟩
 have Cu:Def l.prog w K mg base 4 "_law_content" ["_law_blocks_here","_law_tag"] (DQ K):=⟨_,_,IL T F39 (W.mg_of X G a39) k39 b39,W.mg_of X G a39,k39,b39⟩
 have Cd:FZ l.prog w K mg base 5 "entry_by" ["account","name","path"] (DH K (λn=>match n with|0=>AN|1=>AH|2=>Bp|_=>0)):=⟨_,_,Mh T F16 GU AV D1,W.mg_of X G a16,k16,b16⟩
 have Fo:Def l.prog w K mg base 5 "content_by" ["account","tag"] (EC K):=⟨_,_,Ke T F17 Dg AV,W.mg_of X G a17,k17,b17⟩
 have CV:FZ l.prog w K mg base 5 "paths_by" ["account","name"] (DD K (λn=>match n with|0=>AN|1=>AH|2=>Bp|_=>0)):=⟨_,_,Mb T F18 Jn AV D1,W.mg_of X G a18,k18,b18⟩
 have B0:Def l.prog w K mg base 6 "_law_refused" ["_law_account_here","_law_name","_law_path"] (CP K):=⟨_,_,IP T F42 Cd,W.mg_of X G a42,k42,b42⟩
 have DF:Def l.prog w K mg base 7 "_law_many" ["_law_blocks_here","_law_tag"] (Fj K):=⟨_,_,Lz T F32 (W.mg_of X G a32) k32 b32,W.mg_of X G a32,k32,b32⟩
 have Dd:Def l.prog w K mg base 7 "_law_words" ["_law_thing"] (ER K):=⟨_,_,J8 T F34 (W.mg_of X G a34) k34 b34,W.mg_of X G a34,k34,b34⟩
 have DA:Def l.prog w K mg base 7 "_law_tree" ["_law_blocks_here","_law_path","_law_tag"] (Fz K):=⟨_,_,Ld T F40 (W.mg_of X G a40) k40 b40,W.mg_of X G a40,k40,b40⟩
 have DO:Def l.prog w K mg base 7 "_law_has_none" ["_law_account_here","_law_name"] (Dw K):=⟨_,_,Hy T F43 CV B0,W.mg_of X G a43,k43,b43⟩
 have Fu:Def l.prog w K mg base 8 "_law_built" ["_law_script","_law_names_here"] (EK K):=⟨_,_,Kj T F33 AL EV Gi DF,W.mg_of X G a33,k33,b33⟩
 have E6:Def l.prog w K mg base 8 "_law_right" ["_law_blocks_here","_law_account_here","_law_entry","_law_names_here"] (EE K):=⟨_,_,J9 T F41 CV DA Cd Fo Cu,W.mg_of X G a41,k41,b41⟩
 have CL:Def l.prog w K mg base 10 "_law_height" ["_law_blocks_here","_law_number"] (D6 K):=⟨_,_,JL T F36 A6 (W.mg_of X G a36) k36 b36,W.mg_of X G a36,k36,b36⟩
 have C9:Def l.prog w K mg base 11 "_law_account" ["_law_blocks_here","_law_head_here"] (DM K):=⟨_,_,IH T F38 FR B4 CL EI FA Dd,W.mg_of X G a38,k38,b38⟩
 exact T5 T F44 Fv Fu C9 BS DO AL E6 B0
theorem walk {l:W.OpenLaw} {q:Program} {loose:List Str} {XP:(Str->Option Value)->Heap->Prop} {YP:World->Heap->Prop} {d:DefRec} {K:Params->W.Frag} (hn:l.most=some 63) (hdf:d.params.defaults=[])
  (hY:∀(w:World) (h:Heap),YP w h->(K w.params).In h)
  (F:∀(w:World) (mg:Str->Option Value) (fa:Addr) (h:Heap),(K w.params).In h->h.Ns mainGlobals mg->mg d.name=some (.ref fa)->
   ∃fd:FuncData,(∀(s:Shared) (u:Value),BindsTo s fd ⟨[u],[]⟩ [("_law_script",u)])/\∀base:Heap,(K w.params).In base->base.Ns mainGlobals mg->FnOk l.prog w (K w.params) mg base CU 12 fa fd ["_law_script"] (Lp (K w.params))) :
  W.WalkO q loose XP YP l.row.toRowW d [] (λf vs=>PySem.call f vs):=
 L2.Sr (n:=63) (k:=12) (x:="_law_script") (CX:=λ_=>CU) (sp:=λw=>Lp (K w.params)) hn (by decide) hdf ⟨rfl,by decide,by decide⟩ hY F (λ_ _ a ns hl _ hS=>⟨a,ns,rfl,hS,hl,λ_=>rfl⟩) λ_ _ _ _ _ z=>z
end K64
def PySem.W.Fast.tw15641715125113993005:Type:=PySem.Expr
theorem PySem.W.Fast.te15641715125113993005:PySem.Expr = PySem.W.Fast.tw15641715125113993005:=rfl
def PySem.W.Fast.tw90343872475197607:Type:=PySem.Params
theorem PySem.W.Fast.te90343872475197607:PySem.Params = PySem.W.Fast.tw90343872475197607:=rfl
open PySem PySem.W PyProof.Rows
set_option maxRecDepth 100000 in
set_option maxHeartbeats 0 in
theorem PySem.Challenge.cw_stemshelf_k64_accounts_read_holds : PySem.Challenge.rw_stemshelf_k64_accounts_read.Holds := by
 w_on;o_law;k_head;(case hw=>w_witness2)
 k_fill
 refine K64.walk (l:=PySem.Challenge.rw_stemshelf_k64_accounts_read) rfl rfl (λw h Y=>W.kIn_of Y) ?F
 case F=>
  intro w mg fa h KX G hmg
  refine' K64.all_mk KX G hmg ?a0 ?l0 ?c0 ?k0 ?a1 ?i1 ?l1 ?c1 ?k1 ?a2 ?i2 ?l2 ?c2 ?k2 ?a3 ?l3 ?c3 ?k3 ?a4 ?l4 ?c4 ?k4 ?a5 ?l5 ?c5 ?k5 ?a6 ?l6 ?c6 ?k6 ?a7 ?l7 ?c7 ?k7 ?a8 ?l8 ?c8 ?k8 ?a9 ?l9 ?c9 ?k9 ?a10 ?l10 ?c10 ?k10 ?a11 ?l11 ?c11 ?k11 ?a12 ?l12 ?c12 ?k12 ?a13 ?i13 ?l13 ?c13 ?k13 ?a14 ?i14 ?l14 ?c14 ?k14 ?a15 ?l15 ?c15 ?k15 ?a16 ?l16 ?c16 ?k16 ?a17 ?l17 ?c17 ?k17 ?a18 ?l18 ?c18 ?k18 ?a19 ?l19 ?c19 ?k19 ?a20 ?l20 ?c20 ?k20 ?a21 ?l21 ?c21 ?k21 ?a22 ?l22 ?c22 ?k22 ?a23 ?l23 ?c23 ?k23 ?a24 ?l24 ?c24 ?k24 ?a25 ?l25 ?c25 ?k25 ?a26 ?l26 ?c26 ?k26 ?a27 ?l27 ?c27 ?k27 ?a28 ?l28 ?c28 ?k28 ?a29 ?l29 ?c29 ?k29 ?a30 ?l30 ?c30 ?k30 ?a31 ?l31 ?c31 ?k31 ?a32 ?l32 ?c32 ?k32 ?a33 ?l33 ?c33 ?k33 ?a34 ?l34 ?c34 ?k34 ?a35 ?l35 ?c35 ?k35 ?a36 ?l36 ?c36 ?k36 ?a37 ?l37 ?c37 ?k37 ?a38 ?l38 ?c38 ?k38 ?a39 ?l39 ?c39 ?k39 ?a40 ?l40 ?c40 ?k40 ?a41 ?l41 ?c41 ?k41 ?a42 ?l42 ?c42 ?k42 ?a43 ?l43 ?c43 ?k43 ?a44 ?l44 ?c44 ?k44 ?aC ?pg ?hd ?po ?sa ?mk ?kc ?n_blocks ?x_NoPath ?x_NoName ?x_StemError ?m_NoName_NoName ?m_NoPath_NoName ?m_NoPath_NoPath ?m_NoName_StemError ?Ic ?HP ?Ho ?HZ ?Hw ?HD ?Hs ?HG ?Ig ?HQ ?HB ?Hn ?HR ?HI ?HK ?HW ?HN ?Hu ?Hx ?HA ?HU ?HX ?HM ?Hq ?Ik ?Il ?k_NoName_NoName ?k_NoName_ValueError ?k_NoName_StemError ?k_NoName_NoPath ?k_NoPath_ValueError ?k_NoPath_StemError ?k_NoPath_NoName ?Fw ?Rf ?NG ?Qo ?FB ?Rk ?Nk ?PV ?Qe ?LD ?JC ?P3 ?PM ?Lv ?Lk ?Ly ?Rj ?D4 ?FD ?De ?Fx
  (case aC|x_NoPath|x_NoName|x_StemError|a0|l0|c0|k0|a1|i1|l1|c1|k1|a2|i2|l2|c2|k2|a3|l3|c3|k3|a4|l4|c4|k4|a5|l5|c5|k5|a6|l6|c6|k6|a7|l7|c7|k7|a8|l8|c8|k8|a9|l9|c9|k9|a10|l10|c10|k10|a11|l11|c11|k11|a12|l12|c12|k12|a13|i13|l13|c13|k13|a14|i14|l14|c14|k14|a15|l15|c15|k15|a16|l16|c16|k16|a17|l17|c17|k17|a18|l18|c18|k18|a19|l19|c19|k19|a20|l20|c20|k20|a21|l21|c21|k21|a22|l22|c22|k22|a23|l23|c23|k23|a24|l24|c24|k24|a25|l25|c25|k25|a26|l26|c26|k26|a27|l27|c27|k27|a28|l28|c28|k28|a29|l29|c29|k29|a30|l30|c30|k30|a31|l31|c31|k31|a32|l32|c32|k32|a33|l33|c33|k33|a34|l34|c34|k34|a35|l35|c35|k35|a36|l36|c36|k36|a37|l37|c37|k37|a38|l38|c38|k38|a39|l39|c39|k39|a40|l40|c40|k40|a41|l41|c41|k41|a42|l42|c42|k42|a43|l43|c43|k43|a44|l44|c44|k44|pg|hd|po|sa|mk|kc|n_blocks=>k_is)
  (case m_NoName_NoName|m_NoPath_NoName|m_NoPath_NoPath|m_NoName_StemError=>kts_exm)
  (case Ic|HP|Ho|HZ|Hw|HD|Hs|HG|Ig|HQ|HB|Hn|HR|HI=>k_is)
  (case HK|HW=>kernel_rfl)
  (case HN|Hu|Hx|HA=>k_is)
  (case HU|HX=>kernel_rfl)
  (case HM|Hq|Ik|Il=>k_is)
  (case k_NoName_NoName|k_NoName_ValueError|k_NoName_StemError|k_NoName_NoPath|k_NoPath_ValueError|k_NoPath_StemError|k_NoPath_NoName=>kit_is)
  (case Fw|Rf|NG|Qo|FB|Rk|Nk|PV|Qe|LD|JC|P3|PM|Lv|Lk|Ly|Rj|D4|FD|De|Fx=>k_is)
