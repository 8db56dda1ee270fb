import PyProof.Rows.All
import Wide.All
import OpenK.AllK
import Wide.FinOn
import Lean
import PyProof.EqAt
import PyProof.EqKinds
import PyProof.TupleCall
import PySem.Challenge.RW_stemshelf_k71_plain_names
set_option Elab.async false
set_option linter.all false
set_option maxRecDepth 100000
def aa:=@List.mem_map
def ae:=@List.length_map
def af:=@PySem.wpAny_bind
def ah:=@PySem.Heap.get?_push_of_some
def ai:=@Bool.false_ne_true
def aj:=@if_neg
def ak:=@List.getElem?_eq_getElem
def ao:=@List.map_map
def aq:=@Nat.le_refl
def ar:=@PySem.wpAny_pure
def au:=@decide_eq_true
def av:=@List.mem_filter
def aw:=@if_pos
def ax:=@List.mem_singleton
def ay:=@PySem.Heap.get?_push_size
def aA:=@PySem.Heap.lt_size
def aB:=@List.map_congr_left
def aD:=@List.map_cons
def aE:=@of_decide_eq_true
def aF:=@List.size_toArray
def aG:=@decide_eq_false
def aH:=@List.getElem?_eq_some_iff
def aI:=@Option.some.inj
def aJ:=@List.getElem?_map
def aK:=@List.mem_cons_of_mem
def aL:=@List.mem_cons
def aM:=@List.mem_cons_self
def aN:=@List.mem_append_right
def aO:=@Nat.ne_of_lt
def aP:=@List.mem_append
def aQ:=@Nat.lt_of_lt_of_le
def aR:=@PySem.wpAny_mono
def aS:=@List.map_append
def aU:=@List.mem_of_getElem?
def aV:=@Nat.le_trans
def aW:=@List.length_append
def aX:=@Bool.and_eq_true
def aY:=@PySem.Heap.get?_update_other
def aZ:=@PySem.sizeLine_eq
def ba:=@List.length_take
def bc:=@Int.emod_lt_of_pos
def bf:=@List.length_filter_le
def bg:=@List.length_cons
def bh:=@PySem.wpAny_holding
def bj:=@List.take_of_length_le
def bo:=@List.nodup_cons
def bp:=@List.pairwise_map
def bq:=@Bool.eq_false_iff
def br:=@Int.emod_nonneg
def bu:=@List.all_eq_true
def bw:=@Nat.zero_le
def bx:=@PySem.W.kia_one
def bz:=@List.append_nil
def bA:=@Option.map_eq_some_iff
def bB:=@List.getElem_mem
def bC:=@List.filter_cons
def bD:=@PySem.mem_of_lookup
def bE:=@List.pairwise_cons
def bF:=@PySem.Heap.size_push
def bG:=@beq_eq_false_iff_ne
def bH:=@Bool.eq_iff_iff
def bI:=@Option.filter_eq_some_iff
def bJ:=@List.pairwise_iff_getElem
def bK:=@PySem.wpAny_truthy_bool
def bL:=@beq_iff_eq
def bM:=@PySem.wpAny_Call_Name_kw
def bN:=@decide_eq_true_eq
def bO:=@PySem.F.plainAttrs_list
def bP:=@PySem.W.hideAll_get
def bQ:=@List.filter_eq_self
def bR:=@PySem.PassesOwn.never
def bS:=@List.getElem?_append_right
def bT:=@List.length_singleton
def bU:=@PySem.Paired.length
def bV:=@List.getElem?_append_left
def bW:=@List.nodup_nil
def bX:=@List.length_drop
def bY:=@decide_eq_true_iff
def bZ:=@Nat.lt_irrefl
def cb:=@Nat.lt_succ_of_lt
def cf:=@List.take_add_one
def cg:=@PySem.wpAny_call
def cj:=@List.mem_of_mem_take
def cm:=@List.mem_append_left
def cn:=@Nat.ne_of_gt
def cp:=@PySem.wpAny_newObj_type
def cq:=@PySem.codeAny_call_builtin
def cu:=@Option.isSome_iff_exists
def cw:=@List.lt_trans
def cx:=@PySem.Heap.get?_none_of_le
def cy:=@List.filter_map
def cz:=@of_decide_eq_false
def cA:=@PySem.codeAny_mono
def cB:=@PySem.W.callWith_K
def cD:=@List.map_singleton
def cE:=@List.filter_append
def cF:=@decide_eq_false_iff_not
def cG:=@PySem.F.plainAttrs_str
def cH:=@List.lt_irrefl
def cI:=@List.all_map
def cJ:=@PySem.wpAny_getItem_str_slice
def cK:=@List.lookup_cons
def cL:=@Sum.inr.inj
def cM:=@PyProof.Rows.listUpdate_at
def cN:=@List.of_mem_zip
def cO:=@List.set_set
def cP:=@PySem.Heap.size_update
def cQ:=@PySem.wpAny_standAt
def cR:=@PySem.Txt.slice_le
def cS:=@List.mem_filterMap
def cT:=@PySem.Around.under_plainId
def cU:=@PySem.wpAny_passesOwn
def cV:=@PySem.codeAny_builtin
def cW:=@PySem.SeqAt.EqAt.same
def cX:=@Classical.byContradiction
def cY:=@List.nodup_append
def cZ:=@PySem.F.type_list_append
def dc:=@PySem.F.slot_list_append
def dg:=@PySem.F.args_tuple_add_2
def dh:=@List.map_take
def di:=@List.any_cons
def dm:=@List.all_cons
def du:=@PySem.W.KasT.kasWp_bind
def dv:=@PySem.tupleKind_room_in1
def dw:=@PySem.W.looks_findIn
def dy:=@PySem.F.entry_tuple_add
def dz:=@List.take_length
def dA:=@PySem.F.slot_tuple_add
def dB:=@Nat.succ.inj
def dC:=@Nat.le_of_eq
def dD:=@List.getElem?_set_self
def dE:=@PySem.wpAny_loadPart_at
def dF:=@PySem.wpAny_newList
def dG:=@PySem.W.methodCall_KW
def dH:=@List.getElem?_eq_none
def dI:=@Nat.le_succ
def dJ:=@List.mem_range
def dM:=@List.mem_iff_getElem
def dN:=@List.getElem?_set_ne
def dO:=@PySem.call_meets
def dP:=@PySem.W.plainGet_of
def dQ:=@List.map_eq_nil_iff
def dR:=@List.filterMap_cons
def dS:=@PySem.Calls.callWith_builtin
def dU:=@Array.length_toList
def dW:=@PySem.wpAny_execs_nil
def dX:=@PySem.post_val_or_str
def dY:=@PySem.codeAny_handlers_test
def dZ:=@PySem.W.of_hideAll
def d2:=@PySem.W.Looks.here
def d3:=@Option.isSome_map
def d4:=@Nat.le_of_lt
def d5:=@List.map_nil
def d6:=@List.filter_congr
def d7:=@Int.toNat_natCast
def d8:=@Bool.not_eq_true'
def d9:=@PyProof.Rows.slot_tuple_getitem
def ed:=@PySem.wpAny_handleBy_cons
def eu:=@Nat.lt_succ_self
def eB:=@List.any_eq_true
def eC:=@Array.toList_inj
def eD:=@PySem.wpAny_attempt
def eE:=@PyProof.Rows.subscriptTail_builtinR
def eF:=@List.map_id
def eG:=@PySem.typeIs_str
def eI:=@PyProof.Rows.get?_update_seq
def eJ:=@PySem.SeqAt.EqAt.int_str
def eK:=@PySem.W.exm_one
def eL:=@List.dropLast_concat_getLast
def eM:=@PySem.Code.quiet_builtin
def eN:=@PySem.Calls.spliced_cons
def eO:=@PyProof.Rows.callWith_type1
def eP:=@PySem.wpAny_pyIter_list
def eQ:=@PySem.concat_meets
def eR:=@PySem.F.excBase_ValueError
def eS:=@List.perm_append_singleton
def eT:=@PySem.Calls.spliced_nil
def eU:=@Array.perm_iff_toList_perm
def eV:=@Array.getElem?_eq_some_iff
def eW:=@PyProof.Rows.seqEpoch_at
def eX:=@PySem.plainObj_wpAny_Assign_Attribute
def eY:=@PySem.F.slot_dict_delitem
def eZ:=@List.mem_of_find?_eq_some
def e7:=@PySem.wpAny_execs_cons
def e8:=@PySem.wpAny_call_entry
def fb:=@PySem.noFill_tuple_add
def fc:=@PySem.SeqAt.RcAt.lists
def fe:=@Nat.lt_succ_iff_lt_or_eq
def fg:=@PySem.seqIndex_of
def fh:=@PySem.StrLaws.found_one
def fi:=@PySem.F.type_list_count
def fj:=@PySem.F.slot_list_count
def fk:=@PySem.F.plain_list_iadd
def fm:=@PySem.F.plainAttrs_dict
def fo:=@List.length_eq_zero_iff
def fq:=@PySem.W.funFrames_hide
def ft:=@PySem.W.cellsFrom_some
def fu:=@Nat.zero_add
def fv:=@List.drop_eq_nil_of_le
def fw:=@Int.le_of_lt
def fz:=@PySem.F.slot_dict_pop
def fA:=@Array.getElem?_toList
def fB:=@Array.getElem?_modify
def fD:=@PySem.wpAny_loadPart
def fE:=@PySem.wpAny_load
def fF:=@PySem.wpAny_Name
def fG:=@PySem.W.hideAll_none
def fH:=@List.pairwise_append
def fJ:=@List.mem_of_mem_drop
def fK:=@List.getElem?_of_mem
def fL:=@Int.le_refl
def fM:=@PySem.Calls.Name_function_global
def fN:=@PySem.W.findObj_own
def fO:=@PySem.W.codeHd_of_K
def fP:=@PySem.Calls.call_function_entry
def fQ:=@PySem.seq_tuple_add
def fR:=@PySem.plainId_quiet
def fS:=@PySem.SeqAt.RcAt.lists_lengths
namespace L2
open PySem PySem.Spec PyProof.Rows
abbrev Key:=Sum Int Str
def N2:Key->Value->Bool
 | .inl k,v=>Value.isInt k v
 | .inr x,v=>Value.isStrOf x v
def YG (w:World):Key->Int
 | .inl k=>hashInt k
 | .inr x=>hashStr w x
theorem BL:∀{k:Key} {v:Value},N2 k v=true->(∃i t,k=Sum.inl i/\v=Value.int i t)\/(∃x t,k=Sum.inr x/\v=Value.str x t)
 | .inl i,v,h=>by
  obtain⟨t,e⟩:=Value.isInt_shape (k:=i) (v:=v) h;exact .inl ⟨i,t,rfl,e⟩
 | .inr x,v,h=>by
  obtain⟨t,e⟩:=Value.isStrOf_shape (x:=x) (v:=v) h;exact .inr ⟨x,t,rfl,e⟩
theorem Tj (i:Int)(t:Tok):N2 (.inl i) (.int i t)=true:=by simp[N2,Value.isInt]
theorem Sr (x:Str)(t:Tok):N2 (.inr x) (.str x t)=true:=by simp[N2,Value.isStrOf]
theorem WK (a b:Int):decide ((Sum.inl a:Key)=Sum.inl b)=(a == b):=by
 by_cases e:a=b
 ·subst e;simp
 ·have h:¬(Sum.inl a:Key)=Sum.inl b:=λq=>e (Sum.inl.inj q)
  rw[aG h];exact(bG.mpr e).symm
theorem Xe (a b:Str):decide ((Sum.inr a:Key)=Sum.inr b)=decide (a=b):=by
 by_cases e:a=b
 ·subst e;simp
 ·have h:¬(Sum.inr a:Key)=Sum.inr b:=λq=>e (cL q)
  rw[aG h,aG e]
theorem WV (a:Int)(b:Str):decide ((Sum.inl a:Key)=Sum.inr b)=false:=aG (λq=>nomatch q)
theorem W0 (a:Str)(b:Int):decide ((Sum.inr a:Key)=Sum.inl b)=false:=aG (λq=>nomatch q)
def Bk (prog:Program)(w:World):PySem.KeyKind prog w Key where
 is:=N2
 hash:=YG w
 inj:=λv a b ha hb=>by
  rcases BL ha with⟨i,t,rfl,rfl⟩|⟨x,t,rfl,rfl⟩
  ·rcases BL hb with⟨j,u,rfl,e⟩|⟨y,u,rfl,e⟩
   ·injection e with e1 _;rw[e1]
   ·exact nomatch e
  ·rcases BL hb with⟨j,u,rfl,e⟩|⟨y,u,rfl,e⟩
   ·exact nomatch e
   ·injection e with e1 _;rw[e1]
 byValue:=λk v h=>by
  rcases BL h with⟨i,t,rfl,rfl⟩|⟨x,t,rfl,rfl⟩<;>rfl
 pyHash:=λhv h=>by
  rcases BL hv with⟨i,t,rfl,rfl⟩|⟨x,t,rfl,rfl⟩
  ·exact wpAny_pyHash_int h
  ·exact wpAny_pyHash_str h
 eqBool:=λhu hv h=>by
  rcases BL hu with⟨i,t,rfl,rfl⟩|⟨x,t,rfl,rfl⟩
  ·rcases BL hv with⟨j,u,rfl,rfl⟩|⟨y,u,rfl,rfl⟩
   ·rw[WK] at h;exact wpAny_eqBool_int h
   ·rw[WV] at h;exact eJ i t y u _ _ _ _ h
  ·rcases BL hv with⟨j,u,rfl,rfl⟩|⟨y,u,rfl,rfl⟩
   ·rw[W0] at h;exact SeqAt.EqAt.str_int x t j u _ _ _ _ h
   ·rw[Xe] at h;exact wpAny_eqBool_str h
 «strs»:=λk x t v h=>by
  rcases BL h with⟨i,u,rfl,e⟩|⟨y,u,rfl,e⟩
  ·exact nomatch e
  ·injection e with e1 _
   subst e1;cases v<;>rfl
theorem Qj (prog:Program)(w:World)(i:Int)(t:Tok):(Bk prog w).is (.inl i) (.int i t)=true:=Tj i t
theorem P8 (prog:Program)(w:World)(x:Str)(t:Tok):(Bk prog w).is (.inr x) (.str x t)=true:=Sr x t
inductive V where
 |non|bl (b:Bool)|int (i:Int)|str (x:Str)|byt (b:Array UInt8)|flt (b:UInt64)|ref (a:Addr)|ty (n:String)
 deriving DecidableEq
def RelV:V->Value->Prop
 | .non,u=>u=Value.none
 | .bl b,u=>u=Value.bool b
 | .int i,u=>∃t,u=Value.int i t
 | .str x,u=>∃t,u=Value.str x t
 | .byt b,u=>∃t,u=Value.bytes b t
 | .flt b,u=>∃t,u=Value.float b t
 | .ref a,u=>u=Value.ref a
 | .ty n,u=>u=Value.type n
abbrev AW:List V->List Value->Prop:=Paired RelV
theorem AW.length {xs:List V}{us:List Value}(r:AW xs us):xs.length=us.length:=bU r
theorem AW.get:∀{xs:List V} {us:List Value} {i:Nat} {x:V},AW xs us->xs[i]?=some x->∃u,us[i]?=some u/\RelV x u
 |_,_,_,_,.nil,e=>by simp at e
 |_,_,0,_,.cons r _,e=>by simp at e;subst e;exact⟨_,rfl,r⟩
 |_,_,i+1,x,.cons _ t,e=>by
  obtain⟨u,h1,h2⟩:=AW.get (i:=i) (x:=x) t (by simpa using e);exact⟨u,by simpa using h1,h2⟩
theorem AW.set {x:V}{u:Value}(r:RelV x u):∀{xs:List V} {us:List Value} (i:Nat),AW xs us->AW (xs.set i x) (us.set i u)
 |_,_,_,.nil=>.nil
 |_,_,0,.cons _ t=>.cons r t
 |_,_,i+1,.cons q t=>.cons q (AW.set r i t)
theorem AW.append:∀{xs ys:List V} {us ws:List Value},AW xs us->AW ys ws->AW (xs++ys) (us++ws)
 |_,_,_,_,.nil,s=>s
 |_,_,_,_,.cons r t,s=>.cons r (AW.append t s)
theorem AW.take:∀{xs:List V} {us:List Value} (n:Nat),AW xs us->AW (xs.take n) (us.take n)
 |_,_,0,_=>.nil
 |_,_,_+1,.nil=>.nil
 |_,_,n+1,.cons r t=>.cons r (AW.take n t)
theorem AW.drop:∀{xs:List V} {us:List Value} (n:Nat),AW xs us->AW (xs.drop n) (us.drop n)
 |_,_,0,r=>r
 |_,_,_+1,.nil=>.nil
 |_,_,n+1,.cons _ t=>AW.drop n t
def Ho:Option V->Option Value->Prop
 |some v,some u=>RelV v u
 |none,none=>True
 |_,_=>False
def KV {κ:Type}:List (κ×V)->List (κ×Value)->Prop:=Paired λ(p:κ×V) (q:κ×Value)=>p.1=q.1/\RelV p.2 q.2
def kV:Key->V
 | .inl i=>.int i
 | .inr x=>.str x
inductive HO where
 |lst (xs:List V)
 |tup (xs:List V)
 |dK (kvs:List (Key×V))|dT (kvs:List (List Key×V))
 |set (S:Int->Bool) (n:Nat)
 |ins (C dx:Addr) (fs:List (Str×V))
 |own (x:Addr)
 |xd (fs:List (Str×V))
 |met (f x:Addr)
 |rng (lo hi:Int)
 |frz (o:Obj) (u:HO)
 |tbl (ps:Array Value)
 |ext (φ:Heap->Prop)
abbrev Hp:=Addr->Option HO
def upd (H:Hp)(a:Addr)(o:HO):Hp:=λb=>if b=a then some o else H b
theorem Ac {H:Hp}{a:Addr}{o:HO}:upd H a o a=some o:=by unfold upd;rw[aw rfl]
theorem An {H:Hp}{a b:Addr}{o:HO}(h:b≠a):upd H a o b=H b:=by unfold upd;rw[aj h]
theorem C4 {H:Hp}{a b:Addr}{o u:HO}(h:H a=some o)(h':H b=some u)(d:o≠u):a≠b:=by
 intro e;subst e;rw[h] at h';exact d (aI h')
theorem Cm {H:Hp}{a b:Addr}{o:HO}(h:H a=some o)(h':H b=none):a≠b:=by
 intro e;subst e;rw[h] at h';cases h'
def YB:List V->Bool
 |[.int _,_]=>true
 |_=>false
def M8 (b:Bool)(h:Heap)(a:Addr)(items:Array Value):Prop:=∃o,h.get? a=some o/\o.cls=.type "tuple"/\∃n,o.data=.seq items n/\(b=false->o.dict=none)
theorem M8.is {b:Bool}{h:Heap}{a:Addr}{items:Array Value}(x:M8 b h a items):IsTup h a items:=let⟨o,e,c,n,d,_⟩:=x;⟨o,e,c,n,d⟩
theorem M8.lt {b:Bool}{h:Heap}{a:Addr}{items:Array Value}(x:M8 b h a items):a<h.objs.size:=x.is.lt
theorem M8.new {b:Bool}(h:Heap)(items:Array Value):M8 b (h.push { cls:=.type "tuple",data:=.seq items }) h.objs.size items:=⟨_,ay _ rfl,rfl,_,rfl,λ_=>rfl⟩
section
variable (P:Program)(w:World)
def Be (H:Hp)(h:Heap)(a:Addr):HO->Prop
 | .lst xs=>xs.length<=sizeLine/\∃(its:List Value) (n:Nat),AW xs its/\h.get? a=some { cls:=.type "list",data:=.seq its.toArray n }
 | .tup xs=>xs.length<=sizeLine/\∃its:List Value,AW xs its/\M8 (YB xs) h a its.toArray
 | .dK kvs=>kvs.length<=sizeLine/\(a == sysModules)=false/\∃vs,KV kvs vs/\h.DictOf (Bk P w) a vs
 | .dT kvs=>kvs.length<=sizeLine/\(a == sysModules)=false/\∃xs:List (List Key×Addr×Value),
   Paired (λ(p:List Key×V) (q:List Key×Addr×Value)=>p.1=q.1/\H q.2.1=some (.tup (p.1.map kV))/\RelV p.2 q.2.2) kvs xs/\
   ∃o es ep,h.get? a=some o/\o.ExactDict/\o.data=.dict es ep/\es.toList=xs.map (entryOfKey (tupleKind (Bk P w)))/\(xs.map (·.1)).Nodup
 | .set S n=>h.SetOf (intKind P w) a S n
 | .ins C dx fs=>H dx=some (.own a)/\fs.length<=1000/\dx≠a/\h.get? a=some (PySem.W.instObj C dx)/\
   ∃mA,h.Ns1 dx mA/\(∀f,Ho (fs.lookup f) (mA f))/\PySem.Within mA (fs.map (·.1))
 | .own _=>∃o,h.get? a=some o
 | .xd fs=>∃mA,h.Ns1 a mA/\∀f,Ho (fs.lookup f) (mA f)
 | .rng lo hi=>∃t u v,h.get? a=some { cls:=.type "range",data:=.fields #[.int lo t,.int hi u,.int 1 v] }
 | .frz o u=>h.get? a=some o/\Be H h a u
 | .tbl ps=>h.get? a=some { cls:=.none,data:=.fields ps }
 | .met f x=>h.get? a=some (PySem.W.methodObj (.ref f) (.ref x))
 | .ext φ=>φ h/\(∃o,h.get? a=some o)/\∀h1 h2:Heap,φ h1->(∀o,h1.get? a=some o->h2.get? a=some o)->φ h2
def Im (H:Hp)(h:Heap):Prop:=∀a o,H a=some o->Be P w H h a o
end
section
variable {P:Program}{w:World}{H H':Hp}{h h':Heap}{a:Addr}{o:HO}
theorem Be.lt (x:Be P w H h a o):a<h.objs.size:=by
 cases o with
 |lst xs=>obtain⟨_,_,_,_,e⟩:=x;exact aA e
 |tup xs=>obtain⟨_,_,_,p⟩:=x;exact p.lt
 |dK kvs=>obtain⟨_,_,_,_,o,_,_,e,_⟩:=x;exact aA e
 |dT kvs=>obtain⟨_,_,_,_,o,_,_,e,_⟩:=x;exact aA e
 |set S n=>obtain⟨o,_,_,_,e,_⟩:=x;exact aA e
 |ins C dx fs=>obtain⟨_,_,_,e,_⟩:=x;exact aA e
 |own y=>obtain⟨_,e⟩:=x;exact aA e
 |xd fs=>obtain⟨_,⟨_,_,_,e,_⟩,_⟩:=x;exact aA e
 |rng lo hi=>obtain⟨_,_,_,e⟩:=x;exact aA e
 |frz ob u=>obtain⟨e,_⟩:=x;exact aA e
 |tbl ps=>exact aA (show h.get? a=some _ from x)
 |met f y=>exact aA (show h.get? a=some _ from x)
 |ext φ=>obtain⟨_,⟨_,e⟩,_⟩:=x;exact aA e
theorem Paired.mapP {α β:Type}{F G:α->β->Prop}:∀{l₁:List α} {l₂:List β},Paired F l₁ l₂->(∀a b,F a b->G a b)->Paired G l₁ l₂
 |_,_,.nil,_=>.nil
 |_,_,.cons r t,f=>.cons (f _ _ r) (Paired.mapP t f)
theorem Be.stay (x:Be P w H h a o) (k:∀b u,(b=a\/H b=some (.own a))->h.get? b=some u->h'.get? b=some u)
  (ho:∀b,H b=some (.own a)->H' b=some (.own a)) (ht:∀b xs,H b=some (.tup xs)->H' b=some (.tup xs)):Be P w H' h' a o:=by
 induction o with
 |lst xs=>obtain⟨z,its,n,r,e⟩:=x;exact⟨z,its,n,r,k _ _ (.inl rfl) e⟩
 |tup xs=>obtain⟨z,its,r,ob,e,c⟩:=x;exact⟨z,its,r,ob,k _ _ (.inl rfl) e,c⟩
 |dK kvs=>obtain⟨z,y,vs,r,ob,es,ep,e,c⟩:=x;exact⟨z,y,vs,r,ob,es,ep,k _ _ (.inl rfl) e,c⟩
 |dT kvs=>
  obtain⟨z,y,xs,r,ob,es,ep,e,c⟩:=x;exact⟨z,y,xs,Paired.mapP r λp q z=>⟨z.1,ht _ _ z.2.1,z.2.2⟩,ob,es,ep,k _ _ (.inl rfl) e,c⟩
 |set S n=>obtain⟨ob,es,ep,t,e,c⟩:=x;exact⟨ob,es,ep,t,k _ _ (.inl rfl) e,c⟩
 |ins C dx fs=>
  obtain⟨d,z,ne,e,mA,⟨od,es,ep,e2,c⟩,r⟩:=x;exact⟨ho _ d,z,ne,k _ _ (.inl rfl) e,mA,⟨od,es,ep,k _ _ (.inr d) e2,c⟩,r⟩
 |own y=>obtain⟨ob,e⟩:=x;exact⟨ob,k _ _ (.inl rfl) e⟩
 |xd fs=>obtain⟨mA,⟨od,es,ep,e,c⟩,r⟩:=x;exact⟨mA,⟨od,es,ep,k _ _ (.inl rfl) e,c⟩,r⟩
 |rng lo hi=>obtain⟨t,u,v,e⟩:=x;exact⟨t,u,v,k _ _ (.inl rfl) e⟩
 |frz ob u ih=>obtain⟨e,q⟩:=x;exact⟨k _ _ (.inl rfl) e,ih q⟩
 |tbl ps=>
  have e:h.get? a=some { cls:=.none,data:=.fields ps }:=x;show h'.get? a=some { cls:=.none,data:=.fields ps };exact k a _ (.inl rfl) e
 |met f y=>
  have e:h.get? a=some (PySem.W.methodObj (.ref f) (.ref y)):=x;show h'.get? a=some (PySem.W.methodObj (.ref f) (.ref y));exact k a _ (.inl rfl) e
 |ext φ=>obtain⟨p,⟨o,e⟩,st⟩:=x;exact⟨st _ _ p λo q=>k _ _ (.inl rfl) q,⟨o,k _ _ (.inl rfl) e⟩,st⟩
theorem Im.lt (x:Im P w H h)(e:H a=some o):a<h.objs.size:=(x a o e).lt
theorem Im.fresh (x:Im P w H h)(e:h.objs.size<=a):H a=none:=by
 cases q:H a with
 |none=>rfl
 |some u=>exact absurd (aQ (x.lt q) e) (bZ _)
theorem Im.kept (x:Im P w H h)(k:∀b u,h.get? b=some u->h'.get? b=some u):Im P w H h':=λa o e=>
 (x a o e).stay (λb u _ q=>k b u q) (λ_ q=>q) λ_ _ q=>q
theorem Im.laid (x:Im P w H h)(k:∀b u,h.get? b=some u->h'.get? b=some u)(hp:h.objs.size<=a)(new:Be P w (upd H a o) h' a o):Im P w (upd H a o) h':=λb u e=>by
 have hn:=x.fresh hp
 by_cases hb:b=a
 ·subst hb;rw[Ac] at e;cases e;exact new
 ·rw[An hb] at e;exact(x b u e).stay (λc v _ q=>k c v q) (λc q=>by rw[An (Cm q hn)];exact q) λc xs q=>by rw[An (Cm q hn)];exact q
end
def Rd (H:Hp)(a:Addr)(u:HO):Prop:=H a=some u\/∃o,H a=some (.frz o u)
theorem Rd.ok {P:Program}{w:World}{H:Hp}{h:Heap}{a:Addr}{u:HO}(r:Rd H a u)(x:Im P w H h):Be P w H h a u:=by
 rcases r with r|⟨o,r⟩
 ·exact x a u r
 ·obtain⟨_,q⟩:=x a _ r;exact q
def Yj:Option HO->Prop
 |some (.lst _)=>True
 |some (.dK _)=>True
 |some (.dT _)=>True
 |some (.set _ _)=>True
 |some (.ins _ _ _)=>True
 |some (.ext _)=>True
 |_=>False
section
variable {P:Program}{w:World}{H:Hp}{h h':Heap}{x e:Addr}{o':HO}
theorem Im.write (ok:Im P w H h) (mu:Yj (H x)) (he:e=x\/H e=some (.own x)) (k:∀b u,b≠e->h.get? b=some u->h'.get? b=some u) (heo:∃u,h'.get? e=some u)
  (new:Be P w (upd H x o') h' x o'):Im P w (upd H x o') h':=λb u q=>by
 have nown:∀c y,H c=some (.own y)->c≠x:=λc y r z=>by subst z;rw[r] at mu;exact mu
 have ntup:∀c xs,H c=some (.tup xs)->c≠x:=λc xs r z=>by subst z;rw[r] at mu;exact mu
 by_cases hb:b=x
 ·subst hb;rw[Ac] at q;cases q;exact new
 ·rw[An hb] at q
  by_cases hbe:b=e
  ·have q':H b=some (.own x):=by
    rcases he with z|z
    ·exact absurd (hbe.trans z) hb
    ·rw[hbe];exact z
   rw[q] at q';cases q';obtain⟨v,hv⟩:=heo;exact⟨v,by rw[hbe];exact hv⟩
  ·refine(ok b u q).stay (λc v hc r=>k c v ?_ r) (λc r=>by rw[An (nown c b r)];exact r) λc xs r=>by rw[An (ntup c xs r)];exact r
   rcases hc with rfl|hc
   ·exact hbe
   ·rintro rfl
    rcases he with z|z
    ·exact nown c b hc z
    ·rw[hc] at z;cases z;exact hb rfl
end
structure Un (fs ex:List Addr) (H H':Hp) (h h':Heap):Prop where
 keep:∀b o,h.get? b=some o->H b=none->b∉fs->b∉ex->h'.get? b=some o
 slot:∀b o,h.get? b=some o->H b=none->b∈fs->b∉ex->∃sl,h'.get? b=some { o with slots:=sl }
 free:∀b o,h.get? b=some o->H b=none->b∉ex->H' b=none
 there:∀b o,h.get? b=some o->b∉ex->∃o',h'.get? b=some o'
 tups:∀b xs,H b=some (.tup xs)->H' b=some (.tup xs)
 frzs:∀b o u,H b=some (.frz o u)->H' b=some (.frz o u)
 tbls:∀b ps,H b=some (.tbl ps)->∃more,H' b=some (.tbl (ps++more))
section
variable {fs fs' ex ex':List Addr}{H H1 H2:Hp}{h h1 h2 h':Heap}{a x e:Addr}{o:HO}
theorem Un.any (u:Un fs ex H H1 h h1){b:Addr}{ob:Obj}(q:h.get? b=some ob)(n:H b=none)(hx:b∉ex):∃sl,h1.get? b=some { ob with slots:=sl }:=by
 by_cases hb:b∈fs
 ·exact u.slot b ob q n hb hx
 ·exact⟨ob.slots,u.keep b ob q n hb hx⟩
theorem Un.kept (k:∀b u,h.get? b=some u->h'.get? b=some u):Un fs ex H H h h':=
 ⟨λb ob q _ _ _=>k b ob q,λb ob q _ _ _=>⟨ob.slots,k b ob q⟩,λ_ _ _ n _=>n,λb ob q _=>⟨ob,k b ob q⟩,λ_ _ q=>q,λ_ _ _ q=>q,λ_ ps q=>⟨#[],by rw[q];simp⟩⟩
theorem Un.refl:Un fs ex H H h h:=Un.kept λ_ _ q=>q
theorem Un.laid (k:∀b u,h.get? b=some u->h'.get? b=some u)(hp:h.objs.size<=a)(hn:H a=none):Un fs ex H (upd H a o) h h' where
 keep:=λb u q _ _ _=>k b u q
 slot:=λb u q _ _ _=>⟨u.slots,k b u q⟩
 free:=λb u q n _=>by rw[An (aO (aQ (aA q) hp))];exact n
 there:=λb u q _=>⟨u,k b u q⟩
 tups:=λb xs q=>by rw[An (Cm q hn)];exact q
 frzs:=λb u xs q=>by rw[An (Cm q hn)];exact q
 tbls:=λb ps q=>⟨#[],by rw[An (Cm q hn),q];simp⟩
theorem Un.write (mu:Yj (H x))(he:e=x\/H e=some (.own x))(k:∀b u,b≠e->h.get? b=some u->h'.get? b=some u)(heo:∃u,h'.get? e=some u):Un fs ex H (upd H x o) h h':=by
 have hx:∀b,H b=none->b≠x:=λb n z=>by subst z;rw[n] at mu;exact mu
 have hb:∀b,H b=none->b≠e:=λb n z=>by
  subst z;rcases he with r|r
  ·exact hx b n r
  ·rw[n] at r;cases r
 have hm:∀b u,H b=some u->¬Yj (some u)->b≠x:=λb u q nm z=>by subst z;rw[q] at mu;exact nm mu
 refine⟨λb u q n _ _=>k b u (hb b n) q,λb u q n _ _=>⟨u.slots,k b u (hb b n) q⟩,λb u q n _=>by rw[An (hx b n)];exact n,λb u q _=>?_,
  λb xs q=>by rw[An (hm b _ q λz=>z)];exact q,λb u xs q=>by rw[An (hm b _ q λz=>z)];exact q,λb ps q=>⟨#[],by rw[An (hm b _ q λz=>z),q];simp⟩⟩
 by_cases hbe:b=e
 ·subst hbe;exact heo
 ·exact⟨u,k b u hbe q⟩
end
def Yt (h:Heap)(H:Hp):List Addr:=(List.range h.objs.size).filter λa=>(H a).isSome
def Ou (h:Heap)(H:Hp):Heap:=PySem.W.hideAll h (Yt h H)
theorem Tf (h:Heap)(H:Hp):(Ou h H).objs.size=h.objs.size:=PySem.W.hideAll_size _ _
theorem MO {h:Heap}{H:Hp}{b:Addr}{o:Obj}(e:h.get? b=some o)(n:H b=none):(Ou h H).get? b=some o:=
 bP _ e λhm=>by
  have q:(H b).isSome=true:=(av.mp hm).2;rw[n] at q;simp at q
theorem Wa {h:Heap}{H:Hp}{b:Addr}{o:Obj}(e:(Ou h H).get? b=some o):h.get? b=some o/\H b=none:=by
 have e':h.get? b=some o:=dZ (Yt h H) e;refine⟨e',?_⟩;cases q:H b with
 |none=>rfl
 |some x=>
  have hm:b∈Yt h H:=av.mpr ⟨dJ.mpr (aA e'),by simp[q]⟩;have z:(Ou h H).get? b=none:=fG (Yt h H) hm;rw[z] at e;cases e
def Ve (g h:Heap)(L:Addr):List (Addr×Obj):=(List.range h.objs.size).filterMap λa=>if a=L\/(g.get? a).isSome=true then none else(h.get? a).map λo=>(a,o)
def rest (g h:Heap)(L d:Addr):List (Addr×Obj):=(Ve g h L).filter λp=>decide (p.1≠d)
structure Mod (K:PySem.W.Frag) (mg:Str->Option Value) (base:Heap):Prop where
 kin:K.In base
 glob:base.Ns mainGlobals mg
 blt:∃mb,base.Ns builtinsNs mb/\∀x:Str,x≠"__name__"->mb x=bootBuiltins x
 nolimit:base.NoLimit
structure Cx where
 prog:Program
 w:World
 K:PySem.W.Frag
 mg:Str->Option Value
 base:Heap
 A:Around
 N:List Str
 s₀:Shared
 H₀:Hp
 env:Env
 outer:List Env
 stack:List Env
 ex:List Addr
 fn:Str->Bool
 calm:Bool
 pn:List (Addr×Obj)
 xe:Value->Shared->Prop
def G9 (l:List Env):List Addr:=l.filterMap (·.frame)
abbrev Cx.fs (X:Cx):List Addr:=G9 X.outer
def Y0 (sc:Scope)(x:Str):Prop:=sc.names.lookup x=some .local\/sc.names.lookup x=some .cell\/sc.names.lookup x=some .free
def Loc (sc:Scope)(x:Str):Prop:=sc.names.lookup x=some .local\/sc.names.lookup x=some .cell
def Look (env:Env)(h:Heap)(m:Str->Option Value)(x:Str)(u:Value):Prop:=
 (env.kindOf x=some .local/\m x=some u)\/((env.kindOf x=some .cell\/env.kindOf x=some .free)/\∃c,env.cells.lookup x=some c/\h.IsCell c (some u))
structure Cx.Ok (X:Cx):Prop where
 mod:Mod X.K X.mg X.base
 kind:X.env.scope.kind=.function
 glob:X.env.globals=mainGlobals
 blt:X.env.builtins=builtinsNs
 above:X.s₀.heap.objs.size<=X.env.locals
 inj:∀x y c,X.env.cells.lookup x=some c->X.env.cells.lookup y=some c->x=y
 has:∀x,(X.env.kindOf x=some .cell\/X.env.kindOf x=some .free)->∃c,X.env.cells.lookup x=some c
 cab:∀x c,X.fn x=true->X.env.cells.lookup x=some c->X.s₀.heap.objs.size<=c
 hd:X.calm=true->X.A.handled=none
 frames:X.A.frames=some X.stack
 stk:X.stack=X.outer\/(X.stack=X.env::X.outer/\X.env.frame=some X.env.locals)
 exf:∀b∈X.ex,b≠X.env.locals/\∀x c,X.env.cells.lookup x=some c->c≠b
 bs:∀b o,X.base.get? b=some o->X.s₀.heap.get? b=some o/\X.H₀ b=none
 bsz:X.base.objs.size<=X.s₀.heap.objs.size
 noex:∀b o,X.base.get? b=some o->b∉X.ex
 exfs:∀b∈X.ex,b∉X.fs
 funs:X.s₀.heap.FunFrames X.base X.outer
 frf:∀b∈X.fs,X.H₀ b=none
structure Inv (X:Cx) (pins:List (Addr×Obj)) (σ:List (Option V)) (H:Hp) (s:Shared):Prop where
 ok:X.Ok
 os:s.os=X.s₀.os
 bare:AllBare s.gens
 base:Un X.fs X.ex X.H₀ H X.s₀.heap s.heap
 loc:∃m,s.heap.Ns X.env.locals m/\∀(i:Nat) (x:Str) (v:V),X.N[i]?=some x->σ[i]?=some (some v)->Y0 X.env.scope x->∃u,RelV v u/\Look X.env s.heap m x u
 cell:∀x c,X.env.cells.lookup x=some c->∃v,s.heap.IsCell c v
 free:H X.env.locals=none
 freeC:∀x c,X.env.cells.lookup x=some c->H c=none
 pin:∀p∈X.pn++pins,s.heap.get? p.1=some p.2/\H p.1=none/\p.1≠X.env.locals/\p.1∉X.fs/\∀v,p.2.data≠.cell v
 hok:Im X.prog X.w H s.heap
 len:σ.length=X.N.length
section
variable {X:Cx}{pins:List (Addr×Obj)}{σ:List (Option V)}{H H':Hp}{s:Shared}{h':Heap}
theorem Cx.Ok.nofr (ok:X.Ok){b:Addr}{o:Obj}(e:X.base.get? b=some o):b∉X.fs:=λhb=>by
 have:=(ok.funs.mem hb).1;rw[e] at this;cases this
theorem Inv.bs (I:Inv X pins σ H s):∀b o,X.base.get? b=some o->s.heap.get? b=some o/\H b=none:=λb o e=>
 ⟨I.base.keep b o (I.ok.bs b o e).1 (I.ok.bs b o e).2 (I.ok.nofr e) (I.ok.noex b o e),I.base.free b o (I.ok.bs b o e).1 (I.ok.bs b o e).2 (I.ok.noex b o e)⟩
theorem Inv.bk (I:Inv X pins σ H s):∀b o,X.base.get? b=some o->s.heap.get? b=some o:=λb o e=>(I.bs b o e).1
theorem Inv.mod (I:Inv X pins σ H s):Mod X.K X.mg X.base:=I.ok.mod
theorem Inv.kIn (I:Inv X pins σ H s):X.K.In s.heap:=I.ok.mod.kin.keeps I.bk
theorem Inv.nolimit (I:Inv X pins σ H s):s.heap.NoLimit:=I.ok.mod.nolimit.keeps I.bk
theorem Inv.lt (I:Inv X pins σ H s):X.env.locals<s.heap.objs.size:=let⟨_,hn,_⟩:=I.loc;hn.lt
theorem Inv.sz (I:Inv X pins σ H s):X.s₀.heap.objs.size<=s.heap.objs.size:=aV I.ok.above (d4 I.lt)
theorem Inv.nofs (I:Inv X pins σ H s){a:Addr}(h:s.heap.objs.size<=a):a∉X.fs:=λhb=>by
 obtain⟨_,o,ho,_⟩:=I.ok.funs.mem hb;exact absurd (aQ (aA ho) (aV I.sz h)) (bZ _)
theorem Inv.cne (I:Inv X pins σ H s):∀x c,X.env.cells.lookup x=some c->c≠X.env.locals:=λx c e z=>by
 obtain⟨v,o,ho,hd⟩:=I.cell x c e;obtain⟨m,⟨o',es,ep,ho',hd',_⟩,_⟩:=I.loc;rw[z,ho'] at ho;cases ho;rw[hd'] at hd;cases hd
theorem Inv.funs (I:Inv X pins σ H s):s.heap.FunFrames X.base X.outer:=by
 have all:∀(l:List Env),(∀b∈G9 l,b∈X.fs)->X.s₀.heap.FunFrames X.base l->s.heap.FunFrames X.base l:=by
  intro l
  induction l with
  |nil=>intro _ _;trivial
  |cons env r ih=>
   intro hs hl;obtain⟨hk,⟨L,o,hf,hn,ho,hd⟩,hr⟩:=hl;have hL:L∈X.fs:=hs L (by unfold G9;rw[dR,hf];exact aM);obtain⟨sl,e⟩:=I.base.slot L o ho (I.ok.frf L hL) hL λz=>I.ok.exfs L z hL
   exact⟨hk,⟨L,_,hf,hn,e,hd⟩,ih (λb hb=>hs b (by unfold G9;rw[dR,hf];exact aK _ hb)) hr⟩
 exact all X.outer (λ_ hb=>hb) I.ok.funs
theorem Inv.stack (I:Inv X pins σ H s):s.heap.FunFrames X.base X.stack:=by
 rcases I.ok.stk with e|⟨e,hf⟩
 ·rw[e];exact I.funs
 ·rw[e];obtain⟨m,hn,_⟩:=I.loc;refine .cons (by rw[I.ok.kind];decide) hf hn ?_ I.funs;exact cx (aV I.ok.bsz I.ok.above)
theorem Inv.stkSub (I:Inv X pins σ H s):∀b∈G9 X.stack,b∈X.env.locals::X.fs:=λb hb=>by
 rcases I.ok.stk with e|⟨e,hf⟩
 ·rw[e] at hb;exact aK _ hb
 ·rw[e] at hb;unfold G9 at hb;rw[dR,hf] at hb;exact hb
theorem Inv.stkFree (I:Inv X pins σ H s):∀b∈G9 X.stack,H b=none:=λb hb=>by
 rcases aL.mp (I.stkSub b hb) with e|hb
 ·rw[e];exact I.free
 ·obtain⟨_,o,ho,_⟩:=I.ok.funs.mem hb;exact I.base.free b o ho (I.ok.frf b hb) λz=>I.ok.exfs b z hb
theorem Inv.step {g':Array GenState} {t':Nat} {d':Drawn} {ch:List Addr} (I:Inv X pins σ H s)
  (hch:∀b∈ch,(b∈X.ex\/X.s₀.heap.objs.size<=b)/\b≠X.env.locals/\(∀x c,X.env.cells.lookup x=some c->c≠b)/\∀p∈X.pn++pins,p.1≠b)
  (keep:∀b o,b≠X.env.locals->b∉X.fs->b∉ch->s.heap.get? b=some o->H b=none->h'.get? b=some o)
  (slot:∀b o,b≠X.env.locals->b∈X.fs->b∉ch->s.heap.get? b=some o->H b=none->∃sl,h'.get? b=some { o with slots:=sl }) (free:∀b o,b∉ch->s.heap.get? b=some o->H b=none->H' b=none)
  (there:∀b o,b∉ch->s.heap.get? b=some o->∃o',h'.get? b=some o')
  (tups:∀b xs,H b=some (.tup xs)->H' b=some (.tup xs)) (frzs:∀b o u,H b=some (.frz o u)->H' b=some (.frz o u)) (tbls:∀b ps,H b=some (.tbl ps)->∃more,H' b=some (.tbl (ps++more)))
  (ns:∀m,s.heap.Ns X.env.locals m->h'.Ns X.env.locals m) (hok:Im X.prog X.w H' h') (hg:AllBare g') :
  Inv X pins σ H' { s with heap:=h',gens:=g',drawn:=d',toks:=t' }:=by
 have neL:∀b o,X.s₀.heap.get? b=some o->b≠X.env.locals:=λb o e=>aO (aQ (aA e) I.ok.above)
 have neC:∀b o,X.s₀.heap.get? b=some o->b∉X.ex->b∉ch:=λb o e hx hb=>by
  rcases(hch b hb).1 with z|z
  ·exact hx z
  ·exact absurd (aQ (aA e) z) (bZ _)
 have cellK:∀x c,X.env.cells.lookup x=some c->∀v,s.heap.IsCell c v->h'.IsCell c v:=λx c e v ⟨o,ho,hd⟩=>by
  have nch:c∉ch:=λz=>(hch c z).2.2.1 x c e rfl
  by_cases hc:c∈X.fs
  ·obtain⟨sl,q⟩:=slot c o (I.cne x c e) hc nch ho (I.freeC x c e);exact⟨_,q,hd⟩
  ·exact⟨o,keep c o (I.cne x c e) hc nch ho (I.freeC x c e),hd⟩
 refine⟨I.ok,I.os,hg,⟨λb o e n hb hx=>?_,λb o e n hb hx=>?_,λb o e n hx=>?_,λb o e hx=>?_,λb xs e=>tups b xs (I.base.tups b xs e),λb o xs e=>frzs b o xs (I.base.frzs b o xs e),λb ps e=>?_⟩,?_,λx c e=>?_,?_,λx c e=>?_,λp hp=>?_,hok,I.len⟩
 ·exact keep b o (neL b o e) hb (neC b o e hx) (I.base.keep b o e n hb hx) (I.base.free b o e n hx)
 ·obtain⟨sl,e1⟩:=I.base.slot b o e n hb hx;obtain⟨sl',e2⟩:=slot b _ (neL b o e) hb (neC b o e hx) e1 (I.base.free b o e n hx);exact⟨sl',e2⟩
 ·obtain⟨o',e1⟩:=I.base.there b o e hx;exact free b o' (neC b o e hx) e1 (I.base.free b o e n hx)
 ·obtain⟨o',e1⟩:=I.base.there b o e hx;exact there b o' (neC b o e hx) e1
 ·obtain⟨m1,e1⟩:=I.base.tbls b ps e;obtain⟨m2,e2⟩:=tbls b _ e1;exact⟨m1++m2,by rw[e2,Array.append_assoc]⟩
 ·obtain⟨m,hn,hl⟩:=I.loc;refine⟨m,ns m hn,λi x v e1 e2 e3=>?_⟩;obtain⟨u,r,l⟩:=hl i x v e1 e2 e3;refine⟨u,r,?_⟩;rcases l with l|⟨k,c,e,z⟩
  ·exact .inl l
  ·exact .inr ⟨k,c,e,cellK x c e _ z⟩
 ·obtain⟨v,z⟩:=I.cell x c e;exact⟨v,cellK x c e v z⟩
 ·obtain⟨m,⟨o,_,_,ho,_⟩,_⟩:=I.loc;exact free _ o (λz=>(hch _ z).2.1 rfl) ho I.free
 ·obtain⟨v,o,ho,hd⟩:=I.cell x c e;exact free c o (λz=>(hch c z).2.2.1 x c e rfl) ho (I.freeC x c e)
 ·obtain⟨e,n,ne,nf,d⟩:=I.pin p hp;have nch:p.1∉ch:=λz=>(hch p.1 z).2.2.2 p hp rfl
  exact⟨keep p.1 p.2 ne nf nch e n,free p.1 p.2 nch e n,ne,nf,d⟩
theorem Inv.un {t':Nat}(I:Inv X pins σ H s)(u:Un X.fs [] H H' s.heap h')(hok:Im X.prog X.w H' h'):Inv X pins σ H' { s with heap:=h',toks:=t' }:=by
 obtain⟨m,⟨o,es,ep,ho,r⟩,_⟩:=id I.loc;obtain⟨sl,hL⟩:=u.any ho I.free (by simp);exact I.step (g':=s.gens) (d':=s.drawn) (ch:=[]) (λ_ z=>nomatch z) (λb o _ hb _ e n=>u.keep b o e n hb (by simp)) (λb o _ hb _ e n=>u.slot b o e n hb (by simp)) (λb o _ e n=>u.free b o e n (by simp)) (λb o _ e=>u.there b o e (by simp)) u.tups u.frzs u.tbls (λm' hm=>by
  obtain⟨o',es',ep',ho',r'⟩:=hm;rw[ho] at ho';cases ho';exact⟨_,es',ep',hL,r'⟩) hok I.bare
theorem Inv.call {g':Array GenState} {t':Nat} {d':Drawn} {ch:List Addr} (I:Inv X pins σ H s) (u:Un (G9 X.stack) ch H H' s.heap h') (hok:Im X.prog X.w H' h') (hg:AllBare g')
  (hch:∀b∈ch,(b∈X.ex\/X.s₀.heap.objs.size<=b)/\b≠X.env.locals/\(∀x c,X.env.cells.lookup x=some c->c≠b)/\∀p∈X.pn++pins,p.1≠b) :
  Inv X pins σ H' { s with heap:=h',gens:=g',drawn:=d',toks:=t' }:=by
 obtain⟨m,⟨o,es,ep,ho,r⟩,_⟩:=id I.loc;obtain⟨sl,hL⟩:=u.any ho I.free λz=>(hch _ z).2.1 rfl
 exact I.step (ch:=ch) hch (λb o hL hb hc e n=>u.keep b o e n (λz=>(aL.mp (I.stkSub b z)).elim hL hb) hc) (λb o _ _ hc e n=>u.any e n hc) (λb o hc e n=>u.free b o e n hc) (λb o hc e=>u.there b o e hc) u.tups u.frzs u.tbls (λm' hm=>by
  obtain⟨o',es',ep',ho',r'⟩:=hm;rw[ho] at ho';cases ho';exact⟨_,es',ep',hL,r'⟩) hok hg
theorem Inv.turned {t':Nat} {it:Addr} (I:Inv X pins σ H s) (k:∀b o,b≠it->s.heap.get? b=some o->h'.get? b=some o) (hn:H it=none) (hL:it≠X.env.locals)
  (h1:it∈X.ex\/X.s₀.heap.objs.size<=it) (h2:∀x c,X.env.cells.lookup x=some c->c≠it) (h3:∀p∈X.pn++pins,p.1≠it):Inv X pins σ H { s with heap:=h',toks:=t' }:=by
 have nit:∀b u,H b=some u->b≠it:=λb u e z=>by rw[z,hn] at e;cases e
 refine I.step (g':=s.gens) (d':=s.drawn) (ch:=[it]) (λb hb=>?_) (λb o _ _ hc e _=>k b o (λz=>hc (by simp[z])) e) (λb o _ _ hc e _=>⟨o.slots,k b o (λz=>hc (by simp[z])) e⟩) (λ_ _ _ _ n=>n)
  (λb o hc e=>⟨o,k b o (λz=>hc (by simp[z])) e⟩) (λ_ _ e=>e) (λ_ _ _ e=>e) (λb ps e=>⟨#[],by rw[e];simp⟩) (λm hm=>?_) (λb u e=>?_) I.bare
 ·have e:b=it:=by simpa using hb
  subst e;exact⟨h1,hL,h2,h3⟩
 ·obtain⟨o,es,ep,ho,r⟩:=hm;exact⟨o,es,ep,k _ o (Ne.symm hL) ho,r⟩
 ·refine(I.hok b u e).stay (λc v hc q=>k c v ?_ q) (λ_ q=>q) λ_ _ q=>q
  rcases hc with z|z
  ·rw[z];exact nit b u e
  ·exact nit c _ z
theorem Inv.tok (I:Inv X pins σ H s)(t:Nat):Inv X pins σ H { s with toks:=t }:=I.un (h':=s.heap) (t':=t) Un.refl I.hok
theorem Inv.kept {t':Nat}(I:Inv X pins σ H s)(k:∀b u,s.heap.get? b=some u->h'.get? b=some u):Inv X pins σ H { s with heap:=h',toks:=t' }:=I.un (Un.kept k) (I.hok.kept k)
theorem Inv.laid {a:Addr}{o:HO}{t':Nat}(I:Inv X pins σ H s)(k:∀b u,s.heap.get? b=some u->h'.get? b=some u)(hp:s.heap.objs.size<=a)(new:Be X.prog X.w (upd H a o) h' a o) :
  Inv X pins σ (upd H a o) { s with heap:=h',toks:=t' }:=I.un (Un.laid k hp (I.hok.fresh hp)) (I.hok.laid k hp new)
theorem Inv.write {x e:Addr} {o:HO} {t':Nat} (I:Inv X pins σ H s) (mu:Yj (H x)) (he:e=x\/H e=some (.own x)) (k:∀b u,b≠e->s.heap.get? b=some u->h'.get? b=some u) (heo:∃u,h'.get? e=some u)
  (new:Be X.prog X.w (upd H x o) h' x o):Inv X pins σ (upd H x o) { s with heap:=h',toks:=t' }:=I.un (Un.write mu he k heo) (I.hok.write mu he k heo new)
theorem Inv.pins_of {pins':List (Addr×Obj)}(I:Inv X pins σ H s)(h:∀p∈pins',s.heap.get? p.1=some p.2/\H p.1=none/\p.1≠X.env.locals/\p.1∉X.fs/\∀v,p.2.data≠.cell v):Inv X pins' σ H s:=
 ⟨I.ok,I.os,I.bare,I.base,I.loc,I.cell,I.free,I.freeC,λp hp=>(aP.mp hp).elim (λz=>I.pin p (cm _ z)) (h p),I.hok,I.len⟩
theorem Mf {N:List Str}(hN:N.Nodup){i j:Nat}{x:Str}(a:N[i]?=some x)(b:N[j]?=some x):i=j:=by
 obtain⟨h1,e1⟩:=aH.mp a;obtain⟨h2,e2⟩:=aH.mp b;exact(List.getElem_inj hN).mp (e1.trans e2.symm)
theorem Tq {M:Model} {A:Around} {E:Value->Shared->Prop} {i:Nat} {x:Str} {v:V} {u:Value} {Q:Unit->Shared->Prop} (I:Inv X pins σ H s) (hN:X.N.Nodup) (hi:X.N[i]?=some x) (hx:Loc X.env.scope x) (r:RelV v u)
  (h:∀s',Inv X pins (σ.set i (some v)) H s'->(∃a,Heap.SameBut a s.heap s'.heap/\(a=X.env.locals\/X.env.cells.lookup x=some a))->Q () s') (hf:X.fn x=true\/X.env.scope.names.lookup x=some .local:=by first|exact .inl rfl|exact .inr rfl|assumption):wpAny M A (storeName X.env x u) Q E s:=by
 obtain⟨m,hn,hl⟩:=id I.loc;have hcls:(X.env.scope.kind == .class||(X.env.scope.kind == .module&&X.env.locals != X.env.globals))=false:=by rw[I.ok.kind];rfl
 have hiσ:i<σ.length:=by rw[I.len];exact(aH.mp hi).1
 have cne:=I.cne;have tracked:∀{a:Addr} {h':Heap},(∃o,s.heap.get? a=some o/\H a=none)->Heap.SameBut a s.heap h'->Im X.prog X.w H h':=λ{a h'} ha hs b ob e=>by
  obtain⟨_,_,hfree⟩:=ha;refine(I.hok b ob e).stay (λc w' hc q=>(hs.2 c ?_).trans q) (λ_ q=>q) λ_ _ q=>q
  rintro rfl
  rcases hc with rfl|hc
  ·rw[hfree] at e;cases e
  ·rw[hfree] at hc;cases hc
 rcases hx with hk|hk
 ·refine wpAny_storeName_local hk hn (λh' hn' hs=>?_) hcls;obtain⟨oL,_,_,hoL,_⟩:=id hn;refine h _ ⟨I.ok,I.os,I.bare,⟨λb o e n hb hx=>?_,λb o e n hb hx=>?_,I.base.free,λb o e hx=>?_,I.base.tups,I.base.frzs,I.base.tbls⟩,⟨_,hn',λj y v' e1 e2 e3=>?_⟩,λy c e=>?_,I.free,I.freeC,λp hp=>?_,tracked ⟨oL,hoL,I.free⟩ hs,by simpa using I.len⟩ ⟨_,hs,.inl rfl⟩
  ·exact(hs.2 b (aO (aQ (aA e) I.ok.above))).trans (I.base.keep b o e n hb hx)
  ·obtain⟨sl,e1⟩:=I.base.slot b o e n hb hx;exact⟨sl,(hs.2 b (aO (aQ (aA e) I.ok.above))).trans e1⟩
  ·obtain⟨o',e1⟩:=I.base.there b o e hx;exact⟨o',(hs.2 b (aO (aQ (aA e) I.ok.above))).trans e1⟩
  ·by_cases hj:j=i
   ·subst hj;rw[hi] at e1;cases e1;rw[dD hiσ] at e2;cases e2;exact⟨u,r,.inl ⟨hk,by simp⟩⟩
   ·rw[dN (Ne.symm hj)] at e2;obtain⟨u',r',q⟩:=hl j y v' e1 e2 e3;refine⟨u',r',?_⟩;rcases q with⟨k,e⟩|⟨k,c,e,z⟩
    ·refine .inl ⟨k,?_⟩;have:y≠x:=λe=>hj (Mf hN e1 (e▸hi))
     simp[this,e]
    ·exact .inr ⟨k,c,e,z.sameBut hs (cne y c e)⟩
  ·obtain⟨w',z⟩:=I.cell y c e;exact⟨w',z.sameBut hs (cne y c e)⟩
  ·obtain⟨e,n,ne,nf,d⟩:=I.pin p hp;exact⟨(hs.2 p.1 ne).trans e,n,ne,nf,d⟩
 ·have hfn:X.fn x=true:=by
   rcases hf with z|z
   ·exact z
   ·rw[z] at hk;cases hk
  obtain⟨c,hc⟩:=I.ok.has x (.inl hk);obtain⟨w',z⟩:=I.cell x c hc;refine wpAny_storeName_cell I.ok.kind hk hc z (λh' hc' hs=>?_);obtain⟨oc,hoc,hocd⟩:=id z;refine h { s with heap:=h' } ⟨I.ok,I.os,I.bare,⟨λb o e n hb hx=>?_,λb o e n hb hx=>?_,I.base.free,λb o e hx=>?_,I.base.tups,I.base.frzs,I.base.tbls⟩,⟨m,hn.sameBut hs (Ne.symm (cne x c hc)),λj y v' e1 e2 e3=>?_⟩,λy c' e=>?_,I.free,I.freeC,λp hp=>?_,tracked ⟨oc,hoc,I.freeC x c hc⟩ hs,by simpa using I.len⟩ ⟨c,hs,.inr hc⟩
  ·exact(hs.2 b (aO (aQ (aA e) (I.ok.cab x c hfn hc)))).trans (I.base.keep b o e n hb hx)
  ·obtain⟨sl,e1⟩:=I.base.slot b o e n hb hx;exact⟨sl,(hs.2 b (aO (aQ (aA e) (I.ok.cab x c hfn hc)))).trans e1⟩
  ·obtain⟨o',e1⟩:=I.base.there b o e hx;exact⟨o',(hs.2 b (aO (aQ (aA e) (I.ok.cab x c hfn hc)))).trans e1⟩
  ·by_cases hj:j=i
   ·subst hj;rw[hi] at e1;cases e1;rw[dD hiσ] at e2;cases e2;exact⟨u,r,.inr ⟨.inl hk,c,hc,hc'⟩⟩
   ·rw[dN (Ne.symm hj)] at e2;obtain⟨u',r',q⟩:=hl j y v' e1 e2 e3;refine⟨u',r',?_⟩;rcases q with q|⟨k,c',e,z'⟩
    ·exact .inl q
    ·refine .inr ⟨k,c',e,z'.sameBut hs ?_⟩
     rintro rfl
     exact hj (Mf hN e1 (I.ok.inj _ _ _ e hc▸hi))
  ·by_cases hcc:c'=c
   ·subst hcc;exact⟨_,hc'⟩
   ·obtain⟨w2,z2⟩:=I.cell y c' e;exact⟨w2,z2.sameBut hs hcc⟩
  ·obtain⟨e,n,ne,nf,d⟩:=I.pin p hp;refine⟨(hs.2 p.1 ?_).trans e,n,ne,nf,d⟩;intro q;rw[q,hoc] at e;have q':oc=p.2:=aI e;exact d w' (by rw[<-q'];exact hocd)
theorem HM {M:Model} {A:Around} {E:Value->Shared->Prop} {i:Nat} {x:Str} {v:V} {u:Value} {Q:Unit->Shared->Prop} (I:Inv X pins σ H s) (hN:X.N.Nodup) (hi:X.N[i]?=some x) (hx:Loc X.env.scope x) (r:RelV v u)
  (h:∀s',Inv X pins (σ.set i (some v)) H s'->Q () s') (hf:X.fn x=true\/X.env.scope.names.lookup x=some .local:=by first|exact .inl rfl|exact .inr rfl|assumption):wpAny M A (storeName X.env x u) Q E s:=
 Tq I hN hi hx r (λs' I' _=>h s' I') hf
theorem Inv.call' {s':Shared} {ch:List Addr} (I:Inv X pins σ H s) (ho:s'.os=s.os) (u:Un (G9 X.stack) ch H H' s.heap s'.heap) (hok:Im X.prog X.w H' s'.heap) (hg:AllBare s'.gens)
  (hch:∀b∈ch,(b∈X.ex\/X.s₀.heap.objs.size<=b)/\b≠X.env.locals/\(∀x c,X.env.cells.lookup x=some c->c≠b)/\∀p∈X.pn++pins,p.1≠b):Inv X pins σ H' s':=by
 obtain⟨h',g',d',t',o'⟩:=s';have e:o'=s.os:=ho;subst e;exact I.call (g':=g') (t':=t') (d':=d') u hok hg hch
end
abbrev XK:=Value->Option Addr->Hp->Prop
abbrev St:=List (Option V)
abbrev VK:=V->Hp->Prop
abbrev TE:=St->Hp->VK->Prop
abbrev TT:=St->Hp->(Bool->Hp->Prop)->Prop
abbrev TA:=St->Hp->(List V->Hp->Prop)->Prop
structure Ends where
 nx:St->Hp->Prop
 rt:VK
 bk:St->Hp->Prop:=λ_ _=>False
 ct:St->Hp->Prop:=λ_ _=>False
abbrev TS:=Ends->St->Hp->Prop
def EP (X:Cx)(pins:List (Addr×Obj))(σ:St)(Q:VK)(u:Value)(s':Shared):Prop:=∃v H',Inv X pins σ H' s'/\RelV v u/\Q v H'
def TP (X:Cx)(pins:List (Addr×Obj))(σ:St)(Q:Bool->Hp->Prop)(b:Bool)(s':Shared):Prop:=∃H',Inv X pins σ H' s'/\Q b H'
def AP (X:Cx)(pins:List (Addr×Obj))(σ:St)(Q:List V->Hp->Prop)(us:List Value)(s':Shared):Prop:=∃vs H',Inv X pins σ H' s'/\AW vs us/\Q vs H'
def SP (X:Cx)(pins:List (Addr×Obj))(D:Ends)(f:Flow)(s':Shared):Prop:=
 match f with
 | .next=>∃σ' H',Inv X pins σ' H' s'/\D.nx σ' H'
 | .brk=>∃σ' H',Inv X pins σ' H' s'/\D.bk σ' H'
 | .cont=>∃σ' H',Inv X pins σ' H' s'/\D.ct σ' H'
 | .ret u=>∃v σ' H',Inv X pins σ' H' s'/\RelV v u/\D.rt v H'
def PE (X:Cx)(e:Expr)(t:TE):Prop:=
 ∀(pins:List (Addr×Obj)) (s:Shared) (σ:St) (H:Hp) (Q:VK),Inv X pins σ H s->t σ H Q->wpAny (model X.prog X.w) X.A (eval e X.env) (EP X pins σ Q) X.xe s
def PT (X:Cx)(e:Expr)(t:TT):Prop:=
 ∀(pins:List (Addr×Obj)) (s:Shared) (σ:St) (H:Hp) (Q:Bool->Hp->Prop),Inv X pins σ H s->t σ H Q->wpAny (model X.prog X.w) X.A (isTrue e X.env (eval e X.env)) (TP X pins σ Q) X.xe s
def PW (X:Cx)(e:Expr)(t:TT):Prop:=
 ∀(whole:Sem Value) (pins:List (Addr×Obj)) (s:Shared) (σ:St) (H:Hp) (Q:Bool->Hp->Prop),Inv X pins σ H s->t σ H Q->wpAny (model X.prog X.w) X.A (isTrue e X.env whole) (TP X pins σ Q) X.xe s
theorem PW.pt {X:Cx}{e:Expr}{t:TT}(h:PW X e t):PT X e t:=h _
def PA (X:Cx)(es:List Expr)(t:TA):Prop:=
 ∀(pos:Pos) (pins:List (Addr×Obj)) (s:Shared) (σ:St) (H:Hp) (Q:List V->Hp->Prop),Inv X pins σ H s->t σ H Q->wpAny (model X.prog X.w) X.A (spliced (backTo pos (starEach es X.env))) (AP X pins σ Q) X.xe s
def PS (X:Cx)(st:Stmt)(t:TS):Prop:=
 ∀(pins:List (Addr×Obj)) (s:Shared) (σ:St) (H:Hp) (D:Ends),Inv X pins σ H s->t D σ H->wpAny (model X.prog X.w) X.A (exec st X.env) (SP X pins D) X.xe s
def On (X:Cx)(st:List Stmt)(t:TS):Prop:=
 ∀(pins:List (Addr×Obj)) (s:Shared) (σ:St) (H:Hp) (D:Ends),Inv X pins σ H s->t D σ H->wpAny (model X.prog X.w) X.A (execs st X.env) (SP X pins D) X.xe s
theorem Bv {α:Type}{t:Sem α}{Q Q':α->Shared->Prop}{M:Model}{A:Around}{E:Value->Shared->Prop}{s:Shared}(h:wpAny M A t Q E s)(hQ:∀a s,Q a s->Q' a s):wpAny M A t Q' E s:=aR h hQ λ_ _ x=>x
section
variable {X:Cx}
theorem bin {a b:Expr} {ta tb:TE} (ha:PE X a ta) (hb:PE X b tb) {pins:List (Addr×Obj)} {s:Shared} {σ:St} {H:Hp} {R:V->V->Hp->Prop} (I:Inv X pins σ H s) (h:ta σ H λx H1=>tb σ H1 λy H2=>R x y H2)
  {α:Type} {Q:α->Shared->Prop} {f:Value->Value->Sem α}
  (hf:∀v u s2 x y H2,Inv X pins σ H2 s2->RelV x v->RelV y u->R x y H2->wpAny (model X.prog X.w) X.A (f v u) Q X.xe s2) :
  wpAny (model X.prog X.w) X.A (eval a X.env) (λv s₁=>wpAny (model X.prog X.w) X.A (eval b X.env) (λu s₂=>wpAny (model X.prog X.w) X.A (f v u) Q X.xe s₂) X.xe s₁) X.xe s:=by
 refine Bv (ha pins s σ H _ I h) λv s1 ⟨x,H1,I1,r1,q1⟩=>?_
 refine Bv (hb pins s1 σ H1 _ I1 q1) λu s2 ⟨y,H2,I2,r2,q2⟩=>?_
 exact hf v u s2 x y H2 I2 r1 r2 q2
def VD (i:Nat):TE:=λσ H Q=>∃v,σ[i]?=some (some v)/\Q v H
def tC (v:V):TE:=λ_ H Q=>Q v H
theorem WE {i:Nat}{x:Str}{pos:Pos}(hN:X.N[i]?=some x)(hv:Y0 X.env.scope x)(hd:(x == ("__debug__":Str))=false:=by decide)(hcd:(x == ("__classdict__":Str))=false:=by decide):PE X (.Name x pos) (VD i):=by
 intro pins s σ H Q I h;obtain⟨v,e,h⟩:=h;obtain⟨m,hn,hl⟩:=I.loc;obtain⟨u,r,l⟩:=hl i x v hN e hv;have fin:EP X pins σ Q u s:=⟨v,H,I,r,h⟩
 rcases l with⟨hk,hm⟩|⟨hk,c,hc,hcell⟩
 ·exact fF (wpAny_loadName_local I.ok.kind hk hn hm fin) hd
 ·rcases hk with hk|hk
  ·exact fF (wpAny_loadName_cell I.ok.kind hk hc hcell fin) hd
  ·exact fF (wpAny_loadName_free I.ok.kind hk hc hcell fin hcd) hd
theorem Ae {i j pos}:PE X (.Constant (.int i) j pos) (tC (.int i)):=λ_ _ _ H _ I h=>wpAny_Constant_int ⟨.int i,H,I.tok _,⟨_,rfl⟩,h⟩
theorem Lk {b j pos}:PE X (.Constant (.bool b) j pos) (tC (.bl b)):=λ_ _ _ H _ I h=>Constant_bool ⟨.bl b,H,I,rfl,h⟩
theorem Om {j pos}:PE X (.Constant .none j pos) (tC .non):=λ_ _ _ H _ I h=>Constant_none ⟨.non,H,I,rfl,h⟩
theorem Aq {x j pos}:PE X (.Constant (.str x) j pos) (tC (.str x)):=λ_ _ _ H _ I h=>Calls.Constant_str ⟨.str x,H,I.tok _,⟨_,rfl⟩,h⟩
def Gl (X:Cx)(x:Str):Prop:=X.env.kindOf x=some .globalImplicit
theorem Ff {E:Value->Shared->Prop} {pins:List (Addr×Obj)} {s:Shared} {σ:St} {H:Hp} {x:Str} {u:Value} {pos:Pos} {Q:Value->Shared->Prop} (I:Inv X pins σ H s) (hg:Gl X x) (hm:X.mg x=some u) (h:Q u s)
  (hd:(x == ("__debug__":Str))=false:=by decide):wpAny (model X.prog X.w) X.A (eval (.Name x pos) X.env) Q E s:=
 fM I.ok.kind hg (Calls.loadGlobal_global (by rw[I.ok.glob];exact I.mod.glob.keeps I.bk) hm h) hd
theorem Kr {E:Value->Shared->Prop} {pins:List (Addr×Obj)} {s:Shared} {σ:St} {H:Hp} {x:Str} {u:Value} {pos:Pos} {Q:Value->Shared->Prop} (I:Inv X pins σ H s) (hg:Gl X x) (hm:X.mg x=none) (hv:bootBuiltins x=some u) (h:Q u s)
  (hn:x≠"__name__":=by decide) (hd:(x == ("__debug__":Str))=false:=by decide):wpAny (model X.prog X.w) X.A (eval (.Name x pos) X.env) Q E s:=by
 obtain⟨mb,h1,h2⟩:=I.mod.blt;exact fM I.ok.kind hg (Calls.loadGlobal_builtin (by rw[I.ok.glob];exact I.mod.glob.keeps I.bk) hm (by rw[I.ok.blt];exact h1.keeps I.bk) ((h2 x hn).trans hv) h) hd
theorem Pc {x:Str}{v:V}{u:Value}{pos:Pos}(hg:Gl X x)(hm:X.mg x=some u)(r:RelV v u)(hd:(x == ("__debug__":Str))=false:=by decide):PE X (.Name x pos) (tC v):=
 λ_ _ _ H _ I h=>Ff I hg hm ⟨v,H,I,r,h⟩ hd
theorem V5 {x:Str}{v:V}{u:Value}{pos:Pos}(hg:Gl X x)(hm:X.mg x=none)(hv:bootBuiltins x=some u)(r:RelV v u)(hn:x≠"__name__":=by decide)(hd:(x == ("__debug__":Str))=false:=by decide):PE X (.Name x pos) (tC v):=
 λ_ _ _ H _ I h=>Kr I hg hm hv ⟨v,H,I,r,h⟩ hn hd
variable {a b:Expr}{ta tb:TE}{pos:Pos}
def PC (X:Cx)(op:CmpOp)(a b:Expr)(t:TE):Prop:=
 ∀(pins:List (Addr×Obj)) (s:Shared) (σ:St) (H:Hp) (Q:VK),Inv X pins σ H s->t σ H Q->
  wpAny (model X.prog X.w) X.A (eval a X.env) (λv s₁=>wpAny (model X.prog X.w) X.A (eval b X.env) (λu s₂=>wpAny (model X.prog X.w) X.A (compareOp op v u) (EP X pins σ Q) X.xe s₂) X.xe s₁) X.xe s
theorem Bl (b:Expr){op:CmpOp}(h:op≠.In)(h2:op≠.NotIn):behindInMarks op b=false:=by
 have e1:(op == CmpOp.In)=false:=by cases op<;>first|rfl|exact absurd rfl h
 have e2:(op == CmpOp.NotIn)=false:=by cases op<;>first|rfl|exact absurd rfl h2
 cases b<;>simp[behindInMarks,e1,e2]
def YO (ta:TE):TE:=λσ H Q=>ta σ H λx H1=>Q (.bl (decide (x=.non))) H1
def X4 (ta:TE):TE:=λσ H Q=>ta σ H λx H1=>Q (.bl (!decide (x=.non))) H1
theorem RelV.none_iff {x:V}{v:Value}(r:RelV x v):(v == Value.none)=decide (x=.non):=by
 cases x with
 |non=>cases r;rfl
 |bl _=>cases r;rfl
 |int _=>obtain⟨t,rfl⟩:=r;rfl
 |str _=>obtain⟨t,rfl⟩:=r;rfl
 |byt _=>obtain⟨t,rfl⟩:=r;rfl
 |flt _=>obtain⟨t,rfl⟩:=r;rfl
 |ref _=>cases r;rfl
 |ty _=>cases r;rfl
theorem IR {j pos'}(ha:PE X a ta):PC X .Is a (.Constant .none j pos') (YO ta):=by
 intro pins s σ H Q I h;refine Bv (ha pins s σ H _ I h) λv s1 ⟨x,H1,I1,r1,q1⟩=>?_
 exact Constant_none (is_none_gen ⟨.bl _,H1,I1,by rw[r1.none_iff];rfl,q1⟩)
theorem V3 {j pos'}(ha:PE X a ta):PC X .IsNot a (.Constant .none j pos') (X4 ta):=by
 intro pins s σ H Q I h;refine Bv (ha pins s σ H _ I h) λv s1 ⟨x,H1,I1,r1,q1⟩=>?_
 exact Constant_none (isnot_none_gen ⟨.bl _,H1,I1,by rw[r1.none_iff];rfl,q1⟩)
def tB (t:TE):TT:=λσ H Q=>t σ H λx H1=>∃c,x=.bl c/\Q c H1
theorem Od {op:CmpOp}{t:TE}(h:PC X op a b t)(h1:behindInMarks op b=false:=by first|exact Bl _ (by decide) (by decide)|rfl):PE X (.Compare a [op] [b] pos) t:=λpins s σ H Q I hw=>wpAny_Compare1 (h pins s σ H Q I hw) h1
theorem Et {op:CmpOp}{t:TE}(h:PC X op a b t)(h1:behindInMarks op b=false:=by first|exact Bl _ (by decide) (by decide)|rfl):PT X (.Compare a [op] [b] pos) (tB t):=by
 intro pins s σ H Q I hw;refine wpAny_isTrue_Compare1 (Bv (h pins s σ H _ I hw) λv s1 h1=>Bv h1 λu s2 h2=>Bv h2 λc s3 ⟨x,H1,I1,r1,q1⟩=>?_) h1;obtain⟨d,rfl,q⟩:=q1;cases r1;exact bK ⟨H1,I1,q⟩
theorem CI {e:Expr}{t:TE}(h:PE X e t)(he:∀whole,isTrue e X.env whole=(do let v <-whole;standAt e.pos;holding [v] (truthy v)):=by intro _;rfl):PT X e (tB t):=by
 intro pins s σ H Q I hw;refine isTrue_plain (Bv (h pins s σ H _ I hw) λv s1 ⟨x,H1,I1,r1,q1⟩=>?_) (he _);obtain⟨d,rfl,q⟩:=q1;cases r1;exact bK ⟨H1,I1,q⟩
variable {tA tB':TT}{rest:List Expr}
def Yy (t u:TT):TT:=λσ H Q=>t σ H λc H1=>if c=true then u σ H1 Q else Q false H1
def Zk (t u:TT):TT:=λσ H Q=>t σ H λc H1=>if c=true then Q true H1 else u σ H1 Q
def YU (t:TT):TT:=λσ H Q=>t σ H λc H1=>Q (!c) H1
theorem EN (ha:PT X a tA):PW X (.BoolOp .And [a] pos) tA:=by
 intro wh pins s σ H Q I h;refine isTrue_and (Bv (ha pins s σ H Q I h) λc s1 e=>?_);cases c with
 |true=>exact isTrue_and_nil e
 |false=>exact e
theorem IQ (ha:PT X a tA):PW X (.BoolOp .Or [a] pos) tA:=by
 intro wh pins s σ H Q I h;refine isTrue_or (Bv (ha pins s σ H Q I h) λc s1 e=>?_);cases c with
 |false=>exact isTrue_or_nil e
 |true=>exact e
theorem E8 (ha:PT X a tA)(hb:PW X (.BoolOp .And (b::rest) pos) tB'):PW X (.BoolOp .And (a::b::rest) pos) (Yy tA tB'):=by
 intro wh pins s σ H Q I h;refine isTrue_and (Bv (ha pins s σ H _ I h) λc s1 ⟨H1,I1,q1⟩=>?_);cases c with
 |true=>exact hb wh pins s1 σ H1 Q I1 q1
 |false=>exact⟨H1,I1,q1⟩
theorem LO (ha:PT X a tA)(hb:PW X (.BoolOp .Or (b::rest) pos) tB'):PW X (.BoolOp .Or (a::b::rest) pos) (Zk tA tB'):=by
 intro wh pins s σ H Q I h;refine isTrue_or (Bv (ha pins s σ H _ I h) λc s1 ⟨H1,I1,q1⟩=>?_);cases c with
 |true=>exact⟨H1,I1,q1⟩
 |false=>exact hb wh pins s1 σ H1 Q I1 q1
theorem Dd (ha:PT X a tA):PT X (.UnaryOp .Not a pos) (YU tA):=by
 intro pins s σ H Q I h;exact isTrue_not (ha pins s σ H (λc H1=>Q (!c) H1) I h)
def XA (ta tb:TE):TE:=λσ H Q=>ta σ H λx H1=>∃c,x=.bl c/\if c=true then tb σ H1 Q else Q (.bl false) H1
def YI (ta tb:TE):TE:=λσ H Q=>ta σ H λx H1=>∃c,x=.bl c/\if c=true then Q (.bl true) H1 else tb σ H1 Q
theorem KB {op}{t:TE}(h:PE X a t):PE X (.BoolOp op [a] pos) t:=λpins s σ H Q I hw=>BoolOp_one (h pins s σ H Q I hw)
theorem Ob (ha:PE X a ta)(hb:PE X (.BoolOp .And (b::rest) pos) tb):PE X (.BoolOp .And (a::b::rest) pos) (XA ta tb):=by
 intro pins s σ H Q I h;refine BoolOp_and (Bv (ha pins s σ H _ I h) λv s1 ⟨x,H1,I1,r1,q1⟩=>?_);obtain⟨c,rfl,q1⟩:=q1;cases r1;refine bK ?_;cases c with
 |true=>exact hb pins s1 σ H1 Q I1 q1
 |false=>exact⟨.bl false,H1,I1,rfl,q1⟩
theorem Wj (ha:PE X a ta)(hb:PE X (.BoolOp .Or (b::rest) pos) tb):PE X (.BoolOp .Or (a::b::rest) pos) (YI ta tb):=by
 intro pins s σ H Q I h;refine BoolOp_or (Bv (ha pins s σ H _ I h) λv s1 ⟨x,H1,I1,r1,q1⟩=>?_);obtain⟨c,rfl,q1⟩:=q1;cases r1;refine bK ?_;cases c with
 |false=>exact hb pins s1 σ H1 Q I1 q1
 |true=>exact⟨.bl true,H1,I1,rfl,q1⟩
def Zn (t:TT)(ta tb:TE):TE:=λσ H Q=>t σ H λc H1=>if c=true then ta σ H1 Q else tb σ H1 Q
theorem UH {c:Expr}(hc:PT X c tA)(ha:PE X a ta)(hb:PE X b tb):PE X (.IfExp c a b pos) (Zn tA ta tb):=by
 intro pins s σ H Q I h;refine wpAny_IfExp (Bv (hc pins s σ H _ I h) λd s1 ⟨H1,I1,q1⟩=>?_);cases d with
 |true=>exact ha pins s1 σ H1 Q I1 q1
 |false=>exact hb pins s1 σ H1 Q I1 q1
end
def AR (K:PySem.W.Frag)(H:Hp)(a:Addr)(xs:List V):Prop:=
 Rd H a (.lst xs)\/
  ∃(o:Obj) (its:Array Value) (n:Nat),K.lookup a=some o/\o.cls=.type "list"/\o.dict=none/\o.data=.seq its n/\its.size<=sizeLine/\AW xs its.toList
def AJ (K:PySem.W.Frag)(H:Hp)(a:Addr)(xs:List V):Prop:=
 Rd H a (.tup xs)\/
  ∃(o:Obj) (its:Array Value) (n:Nat),K.lookup a=some o/\o.cls=.type "tuple"/\o.data=.seq its n/\its.size<=sizeLine/\AW xs its.toList
def YH:Value->Option V
 | .none=>some .non
 | .bool b=>some (.bl b)
 | .int i _=>some (.int i)
 | .str x _=>some (.str x)
 | .bytes b _=>some (.byt b)
 | .float b _=>some (.flt b)
 | .ref a=>some (.ref a)
 | .type n=>some (.ty n)
 |_=>none
theorem RelV.abs {x:V}{u:Value}(r:RelV x u):YH u=some x:=by
 cases x with
 |non=>cases r;rfl
 |bl _=>cases r;rfl
 |int _=>obtain⟨t,rfl⟩:=r;rfl
 |str _=>obtain⟨t,rfl⟩:=r;rfl
 |byt _=>obtain⟨t,rfl⟩:=r;rfl
 |flt _=>obtain⟨t,rfl⟩:=r;rfl
 |ref _=>cases r;rfl
 |ty _=>cases r;rfl
theorem RelV.inj {x y:V}{u:Value}(r:RelV x u)(q:RelV y u):x=y:=aI (r.abs.symm.trans q.abs)
theorem AW.inj:∀{xs ys:List V} {us:List Value},AW xs us->AW ys us->xs=ys
 |_,_,_,.nil,.nil=>rfl
 |_,_,_,.cons r t,.cons r' t'=>by rw[r.inj r',AW.inj t t']
section
variable {X:Cx}{pins:List (Addr×Obj)}{σ:St}{H:Hp}{s:Shared}{a:Addr}{xs ys:List V}
theorem AR.of {K:PySem.W.Frag}(h:H a=some (.lst xs)):AR K H a xs:=.inl (.inl h)
theorem AJ.of {K:PySem.W.Frag}(h:H a=some (.tup xs)):AJ K H a xs:=.inl (.inl h)
theorem Inv.list (I:Inv X pins σ H s)(h:AR X.K H a xs):∃its:List Value,AW xs its/\PlainL s.heap a its.toArray/\xs.length<=sizeLine:=by
 rcases h with h|⟨o,its,n,hk,hc,hd,hs,hz,r⟩
 ·obtain⟨z,its,n,r,e⟩:=h.ok I.hok;exact⟨its,r,⟨_,n,e,rfl,rfl,rfl⟩,z⟩
 ·refine⟨its.toList,r,⟨o,n,I.kIn a o hk,hc,hd,by simpa using hs⟩,?_⟩;have e:=r.length;simp only[Array.length_toList] at e;omega
theorem Inv.tuple (I:Inv X pins σ H s)(h:AJ X.K H a xs):∃its:List Value,AW xs its/\IsTup s.heap a its.toArray/\xs.length<=sizeLine:=by
 rcases h with h|⟨o,its,n,hk,hc,hs,hz,r⟩
 ·obtain⟨z,its,r,p⟩:=h.ok I.hok;exact⟨its,r,p.is,z⟩
 ·refine⟨its.toList,r,⟨o,I.kIn a o hk,hc,n,by simpa using hs⟩,?_⟩;have e:=r.length;simp only[Array.length_toList] at e;omega
theorem Inv.list_inj (I:Inv X pins σ H s)(h:AR X.K H a xs)(h':AR X.K H a ys):xs=ys:=by
 obtain⟨its,r,⟨o,n,e,_,_,d⟩,_⟩:=I.list h;obtain⟨its',r',⟨o',n',e',_,_,d'⟩,_⟩:=I.list h';rw[e] at e';cases e';rw[d] at d';injection d' with d1 _
 have:its=its':=by simpa using congrArg Array.toList d1
 subst this;exact r.inj r'
theorem Inv.tuple_inj (I:Inv X pins σ H s)(h:AJ X.K H a xs)(h':AJ X.K H a ys):xs=ys:=by
 obtain⟨its,r,⟨o,e,_,n,d⟩,_⟩:=I.tuple h;obtain⟨its',r',⟨o',e',_,n',d'⟩,_⟩:=I.tuple h';rw[e] at e';cases e';rw[d] at d';injection d' with d1 _
 have:its=its':=by simpa using congrArg Array.toList d1
 subst this;exact r.inj r'
end
abbrev Cx.wish (X:Cx)(E:Value->Shared->Prop):Cx:={ X with xe:=E }
abbrev Cx.nox (X:Cx):Cx:=X.wish λ_ _=>False
theorem Cx.Ok.wish {X:Cx}(ok:X.Ok)(E:Value->Shared->Prop):(X.wish E).Ok:=
 ⟨ok.mod,ok.kind,ok.glob,ok.blt,ok.above,ok.inj,ok.has,ok.cab,ok.hd,ok.frames,ok.stk,ok.exf,ok.bs,ok.bsz,ok.noex,ok.exfs,ok.funs,ok.frf⟩
theorem Cx.Ok.unwish {X:Cx}{E:Value->Shared->Prop}(ok:(X.wish E).Ok):X.Ok:=
 ⟨ok.mod,ok.kind,ok.glob,ok.blt,ok.above,ok.inj,ok.has,ok.cab,ok.hd,ok.frames,ok.stk,ok.exf,ok.bs,ok.bsz,ok.noex,ok.exfs,ok.funs,ok.frf⟩
section
variable {X:Cx}{pins:List (Addr×Obj)}{σ:St}{H:Hp}{s:Shared}{E:Value->Shared->Prop}
theorem Inv.wish (I:Inv X pins σ H s)(E:Value->Shared->Prop):Inv (X.wish E) pins σ H s:=⟨I.ok.wish E,I.os,I.bare,I.base,I.loc,I.cell,I.free,I.freeC,I.pin,I.hok,I.len⟩
theorem Inv.unwish (I:Inv (X.wish E) pins σ H s):Inv X pins σ H s:=⟨I.ok.unwish,I.os,I.bare,I.base,I.loc,I.cell,I.free,I.freeC,I.pin,I.hok,I.len⟩
theorem SP.unwish {D:Ends}{f:Flow}{s':Shared}(h:SP (X.wish E) pins D f s'):SP X pins D f s':=by
 cases f with
 |next=>obtain⟨σ',H',I,q⟩:=h;exact⟨σ',H',I.unwish,q⟩
 |brk=>obtain⟨σ',H',I,q⟩:=h;exact⟨σ',H',I.unwish,q⟩
 |cont=>obtain⟨σ',H',I,q⟩:=h;exact⟨σ',H',I.unwish,q⟩
 |ret u=>obtain⟨v,σ',H',I,r,q⟩:=h;exact⟨v,σ',H',I.unwish,r,q⟩
theorem On.nox {st:List Stmt}{t:TS}(h:On X.nox st t):On X st t:=λpins s σ H D I hw=>
 aR (h pins s σ H D (I.wish _) hw) (λ_ _ q=>q.unwish) λ_ _ z=>False.elim z
end
section
variable {X:Cx}{st:Stmt}{rest:List Stmt}{t u:TS}{e:Expr}{te:TE}{pos:Pos}
def UW:TS:=λD σ H=>D.nx σ H
def VY (t u:TS):TS:=λD σ H=>t { D with nx:=u D } σ H
theorem Aw:On X [] UW:=λ_ _ σ H _ I h=>dW ⟨σ,H,I,h⟩
theorem Ai (h1:PS X st t)(h2:On X rest u):On X (st::rest) (VY t u):=by
 intro pins s σ H D I h;refine e7 (Bv (h1 pins s σ H { D with nx:=u D } I h) λf s1 q=>?_);cases f with
 |next=>
  obtain⟨σ',H',I',q⟩:=q;exact h2 pins s1 σ' H' D I' q
 |ret v=>exact q
 |brk=>exact q
 |cont=>exact q
theorem Ag (h1:PS X st t):On X [st] t:=by
 intro pins s σ H D I h;refine e7 (Bv (h1 pins s σ H D I h) λf s1 q=>?_);cases f with
 |next=>exact dW q
 |ret v=>exact q
 |brk=>exact q
 |cont=>exact q
theorem Inv.quiet {pins:List (Addr×Obj)}{σ:St}{H:Hp}{s:Shared}(I:Inv X pins σ H s):interactive X.env=false:=by simp[interactive,I.ok.kind]
def X6 (te:TE):TS:=λD σ H=>te σ H λ_ H1=>D.nx σ H1
theorem A3 (he:PE X e te)(hs:swapsWith e none pos.line X.env=pure false:=by rfl):PS X (.Expr e pos) (X6 te):=by
 intro pins s σ H D I h;exact wpAny_Expr_any (Bv (he pins s σ H _ I h) λv s1 ⟨x,H1,I1,r1,q1⟩=>⟨σ,H1,I1,q1⟩) I.quiet hs
def Tw (te:TE):TS:=λD σ H=>te σ H D.rt
theorem Au (he:PE X e te):PS X (.Return (some e) pos) (Tw te):=by
 intro pins s σ H D I h;exact wpAny_Return_some (Bv (he pins s σ H _ I h) λv s1 ⟨x,H1,I1,r1,q1⟩=>⟨x,σ,H1,I1,r1,q1⟩)
def Xu (c:TT)(t u:TS):TS:=λD σ H=>c σ H λb H1=>if b=true then t D σ H1 else u D σ H1
theorem AL {c:Expr}{a b:List Stmt}{tc:TT}(hc:PT X c tc)(ha:On X a t)(hb:On X b u):PS X (.If c a b pos) (Xu tc t u):=by
 intro pins s σ H D I h;refine wpAny_If (Bv (hc pins s σ H _ I h) λd s1 ⟨H1,I1,q1⟩=>?_);cases d with
 |true=>exact ha pins s1 σ H1 D I1 q1
 |false=>exact hb pins s1 σ H1 D I1 q1
def WR:TS:=λ_ _ _=>False
theorem Gp:PS X st WR:=λ_ _ _ _ _ _ h=>h.elim
end
abbrev TG:=V->St->Hp->(St->Hp->Prop)->Prop
abbrev Wp:=List V->St->Hp->(St->Hp->Prop)->Prop
def PG (X:Cx)(target:Expr)(t:TG):Prop:=
 ∀(pins:List (Addr×Obj)) (s:Shared) (σ:St) (H:Hp) (v:V) (u:Value) (Q:St->Hp->Prop),Inv X pins σ H s->RelV v u->t v σ H Q->
  wpAny (model X.prog X.w) X.A (assign target X.env u) (λ_ s'=>∃σ' H',Inv X pins σ' H' s'/\Q σ' H') X.xe s
def XI (X:Cx)(ts:List Expr)(t:Wp):Prop:=
 ∀(pins:List (Addr×Obj)) (s:Shared) (σ:St) (H:Hp) (vs:List V) (us:List Value) (Q:St->Hp->Prop),Inv X pins σ H s->AW vs us->t vs σ H Q->
  wpAny (model X.prog X.w) X.A (assignInOrder ((assignEach ts X.env).map (·.2)) us) (λ_ s'=>∃σ' H',Inv X pins σ' H' s'/\Q σ' H') X.xe s
abbrev WG:=V->V->V->Hp->(Hp->Prop)->Prop
def Xz (X:Cx)(t:WG):Prop:=
 ∀(pins:List (Addr×Obj)) (s:Shared) (σ:St) (H:Hp) (o i v:V) (ov iv u:Value) (Q:Hp->Prop),Inv X pins σ H s->RelV o ov->RelV i iv->RelV v u->t o i v H Q->
  wpAny (model X.prog X.w) X.A (setItem ov iv u) (λ_ s'=>∃H',Inv X pins σ H' s'/\Q H') X.xe s
section
variable {X:Cx}{pos:Pos}
def BD (i:Nat):TG:=λv σ H Q=>Q (σ.set i (some v)) H
theorem AS {i:Nat}{x:Str}(hN:X.N.Nodup)(hi:X.N[i]?=some x)(hx:Loc X.env.scope x)(hf:X.fn x=true\/X.env.scope.names.lookup x=some .local:=by first|exact .inl rfl|exact .inr rfl|assumption):PG X (.Name x pos) (BD i):=by
 intro pins s σ H v u Q I r h;exact wpAny_assign_Name (HM I hN hi hx r (λs' I'=>⟨_,H,I',h⟩) hf)
def XB:Wp:=λvs σ H Q=>vs=[]/\Q σ H
def UA (t:TG)(u:Wp):Wp:=λvs σ H Q=>∃v r,vs=v::r/\t v σ H λσ' H'=>u r σ' H' Q
theorem RW:XI X [] XB:=by
 intro pins s σ H vs us Q I r h;obtain⟨e,h⟩:=h;subst e;cases r;exact assignInOrder_nil ⟨σ,H,I,h⟩
theorem JI {e:Expr} {es:List Expr} {t:TG} {u:Wp} (h1:PG X e t) (h2:XI X es u)
  (hs:(assignEach (e::es) X.env).map (·.2)=assign e X.env::(assignEach es X.env).map (·.2):=by rfl):XI X (e::es) (UA t u):=by
 intro pins s σ H vs us Q I r h;obtain⟨v,vr,e1,h⟩:=h;subst e1;cases r with
 |cons r rr=>
  rw[hs];refine assignInOrder_cons (Bv (h1 pins s σ H _ _ _ I r h) λ_ s1 ⟨σ1,H1,I1,q1⟩=>?_);exact h2 pins s1 σ1 H1 _ _ Q I1 rr q1
def Xa (K:PySem.W.Frag)(n:Nat)(t:Wp):TG:=λv σ H Q=>∃a xs,v=.ref a/\AJ K H a xs/\xs.length=n/\t xs σ H Q
theorem TH {es:List Expr} {k:Nat} {t:Wp} {n:Nat} (hc:X.calm=true) (h:XI X es t)
  (hn:(assignEach es X.env).length=n:=by rfl) (hst:(assignEach es X.env).findIdx? (·.1)=none:=by rfl):PG X (.Tuple es k pos) (Xa X.K n t):=by
 intro pins s σ H v u Q I r hw;obtain⟨a,xs,e1,hq,hl,hw⟩:=hw;subst e1;cases r;obtain⟨its,rv,ht,hz⟩:=I.tuple hq;refine assign_Tuple_tuple (I.ok.hd hc) ht (by simp[hn,<-hl,rv.length]) hst λh' hx=>?_
 have I1:Inv X pins σ H { s with heap:=h' }:=I.kept (t':=s.toks) λb o e=>hx b o (aO (aA e)) e
 exact h pins _ σ H xs _ Q I1 (by simpa using rv) hw
def YJ (to ti:TE)(t:WG):TG:=λv σ H Q=>to σ H λo H1=>ti σ H1 λi H2=>t o i v H2 λH3=>Q σ H3
theorem MB {o i:Expr} {to ti:TE} {t:WG} (ho:PE X o to) (hi:PE X i ti) (hs:Xz X t)
  (ha:∀v,assign (.Subscript o i pos) X.env v=(do
   let ov <-holding [v] (eval o X.env)
   let iv <-holding [v,ov] (eval i X.env)
   standAt pos
   holding [v,ov,iv] (setItem ov iv v)
   release [v,ov,iv] []):=by intro _;rfl):PG X (.Subscript o i pos) (YJ to ti t):=by
 intro pins s σ H v u Q I r h;rw[ha];refine af (bh (Bv (ho pins s σ H _ I h) λov s1 ⟨x,H1,I1,r1,q1⟩=>?_));refine af (bh (Bv (hi pins s1 σ H1 _ I1 q1) λiv s2 ⟨y,H2,I2,r2,q2⟩=>?_));refine af (cQ (af (bh (Bv (hs pins s2 σ H2 x y v ov iv u _ I2 r1 r2 r q2) λ_ s3 ⟨H3,I3,q3⟩=>?_))));exact wpAny_release ⟨σ,H3,I3,q3⟩
def Vt (te:TE)(g:TG):TS:=λD σ H=>te σ H λx H1=>g x σ H1 D.nx
theorem LR {tg e:Expr} {te:TE} {g:TG} (he:PE X e te) (hg:PG X tg g) (hs:swapsWithSole [tg] e pos.line X.env=pure false:=by rfl) (hw:swappedStores [tg] e X.env=pure none:=by rfl)
  (h1:(assignEach [tg] X.env).map (·.2)=[assign tg X.env]:=by rfl):PS X (.Assign [tg] e pos) (Vt te g):=by
 intro pins s σ H D I h;refine wpAny_Assign_stores (Bv (he pins s σ H _ I h) λv s1 ⟨x,H1,I1,r1,q1⟩=>?_) hs hw;rw[h1];exact Bv (hg pins s1 σ H1 x v _ I1 r1 q1) λ_ s2 q=>q
theorem AE {i:Nat}{x:Str}{e:Expr}{te:TE}{pos':Pos}(hN:X.N.Nodup)(hi:X.N[i]?=some x)(hx:Loc X.env.scope x)(he:PE X e te)(hs:swapsWith e (some (.Name x pos')) pos.line X.env=pure false:=by rfl)(hf:X.fn x=true\/X.env.scope.names.lookup x=some .local:=by first|exact .inl rfl|exact .inr rfl|assumption) :
  PS X (.Assign [.Name x pos'] e pos) (Vt te (BD i)):=by
 intro pins s σ H D I h;refine wpAny_Assign_Name (Bv (he pins s σ H _ I h) λv s1 ⟨y,H1,I1,r1,q1⟩=>?_) hs;exact HM I1 hN hi hx r1 (λs2 I2=>⟨_,H1,I2,q1⟩) hf
end
structure It where
 go:Nat->Hp->Prop
 yld:Nat->Hp->V->Hp->Prop
 stop:Nat->Hp->Prop
def Nm (X:Cx)(pins:List (Addr×Obj))(H:Hp)(b:Addr):Prop:=
 H b=none/\b≠X.env.locals/\b∉X.fs/\(b∈X.ex\/X.s₀.heap.objs.size<=b)/\(∀x c,X.env.cells.lookup x=some c->c≠b)/\∀p∈X.pn++pins,p.1≠b
theorem Inv.fpOk {X:Cx}{pins:List (Addr×Obj)}{σ:St}{H H':Hp}{s:Shared}{b:Addr}(I:Inv X pins σ H s)(hb:s.heap.objs.size<=b)(hn:H' b=none):Nm X pins H' b:=by
 refine⟨hn,cn (aQ I.lt hb),I.nofs hb,.inr (aV I.sz hb),λx c e z=>?_,λp hp z=>?_⟩
 ·obtain⟨v,q⟩:=I.cell x c e;exact absurd (aQ q.lt (by rw[z];exact hb)) (bZ _)
 ·exact absurd (aQ (aA (I.pin p hp).1) (by rw[z];exact hb)) (bZ _)
structure Turn (P:Program) (w:World) (K:PySem.W.Frag) (tg:Expr) (J:It) (fp:List Addr) (it:Addr) (tn:Nat->Heap->Prop):Prop where
 mem:it∈fp
 obj:∀i h,tn i h->∀b∈fp,∃o,h.get? b=some o/\∀v,o.data≠.cell v
 keep:∀i h h',tn i h->(∀b∈fp,∀o,h.get? b=some o->h'.get? b=some o)->tn i h'
 item:∀(X:Cx),X.prog=P->X.w=w->X.K=K->X.calm=true->∀(i:Nat) (pins:List (Addr×Obj)) (s:Shared) (σ:St) (H:Hp) (E:Value->Shared->Prop),Inv X pins σ H s->(∀b∈fp,Nm X pins H b)->tn i s.heap->J.go i H->
  wpAny (model P w) X.A (pyNext (.ref it)) (λr s1=>∃u,r=some u/\
   wpAny (model P w) X.A (letOwnedTupleGo tg (.ref it) u) (λ_ s2=>∃x H',Inv X pins σ H' s2/\RelV x u/\J.yld i H x H'/\tn (i+1) s2.heap/\∀b∈fp,H' b=none) E s1) E s
 done:∀(X:Cx),X.prog=P->X.w=w->X.K=K->X.calm=true->∀(i:Nat) (pins:List (Addr×Obj)) (s:Shared) (σ:St) (H:Hp) (E:Value->Shared->Prop),Inv X pins σ H s->(∀b∈fp,Nm X pins H b)->tn i s.heap->J.stop i H->
  wpAny (model P w) X.A (pyNext (.ref it)) (λr s1=>r=none/\Inv X pins σ H s1) E s
 self:∀(A:Around) (i:Nat) (s:Shared) (Q:Value->Shared->Prop) (E:Value->Shared->Prop),tn i s.heap->Q (.ref it) s->wpAny (model P w) A (pyIter (.ref it)) Q E s
abbrev TI:=St->Hp->(It->Hp->Prop)->Prop
def Y8 (X:Cx)(pins:List (Addr×Obj))(σ:St)(tg:Expr)(R:It->Hp->Prop)(itv:Value)(s2:Shared):Prop:=
 ∃(it:Addr) (fp:List Addr) (tn:Nat->Heap->Prop) (J:It) (H':Hp),itv=.ref it/\Inv X pins σ H' s2/\Turn X.prog X.w X.K tg J fp it tn/\tn 0 s2.heap/\(∀b∈fp,Nm X pins H' b)/\R J H'
def PI (X:Cx)(tg iter:Expr)(wi:TI):Prop:=
 ∀(pins:List (Addr×Obj)) (s:Shared) (σ:St) (H:Hp) (R:It->Hp->Prop),Inv X pins σ H s->wi σ H R->
  wpAny (model X.prog X.w) X.A (eval iter X.env) (λv s1=>wpAny (model X.prog X.w) X.A (pyIter v) (Y8 X pins σ tg R) X.xe s1) X.xe s
theorem LX {M:Model} {A:Around} {E:Value->Shared->Prop} {s:Shared} {tg:Expr} {it:Addr} {u:Value} {o:Obj} {n:String} {vs:Array Value} {Q:Unit->Shared->Prop} (ho:s.heap.get? it=some o) (hc:o.cls=.type n) (hd:o.data=.fields vs)
  (hn:["enumerate","zip","dict_itemiterator","dict_reverseitemiterator","odict_iterator","itertools.zip_longest","itertools.pairwise"].contains n=false) (hQ:Q () s):wpAny M A (letOwnedTupleGo tg (.ref it) u) Q E s:=by
 unfold letOwnedTupleGo;cases tg<;>first
  |exact ar hQ
  |(cases u<;>first
    |exact ar hQ
    |(refine af (fE ho ?_)
      rw[hc,hd];show wpAny M A (if(["enumerate","zip","dict_itemiterator","dict_reverseitemiterator","odict_iterator","itertools.zip_longest","itertools.pairwise"].contains n&&vs[0]? == some (rawInt _))=true then _ else _) Q E s;rw[aj (by intro h;rw[hn,Bool.false_and] at h;cases h)];exact ar hQ))
def Xn (K:PySem.W.Frag)(a:Addr):It:=
 ⟨λi H=>∃xs x,AR K H a xs/\xs[i]?=some x,λi H x H'=>H'=H/\∀xs,AR K H a xs->xs[i]?=some x,λi H=>∃xs,AR K H a xs/\xs.length<=i⟩
def Xq (K:PySem.W.Frag)(a:Addr):It:=
 ⟨λi H=>∃xs x,AJ K H a xs/\xs[i]?=some x,λi H x H'=>H'=H/\∀xs,AJ K H a xs->xs[i]?=some x,λi H=>∃xs,AJ K H a xs/\xs.length<=i⟩
def W9 (lo:Int)(n:Nat):It:=⟨λi _=>i<n,λi H x H'=>H'=H/\x=.int (lo+i),λi _=>n<=i⟩
theorem SU {P:Program}{w:World}{K:PySem.W.Frag}{tg:Expr}(a it:Addr):Turn P w K tg (Xn K a) [it] it (λi h=>h.IsListIter it a i) where
 mem:=by simp
 obj:=λi h st b hb=>by
  have e:b=it:=by simpa using hb
  subst e;obtain⟨o,e,c,d⟩:=st;exact⟨o,e,λv z=>by rw[d] at z;cases z⟩
 keep:=λi h h' st k=>st.at λo e=>k it (by simp) o e
 item:=by
  intro X hP hw hK hc i pins s σ H E I hf st hg;subst hP hw hK;obtain⟨xs,x,hq,hx⟩:=hg;obtain⟨its,rv,p,hz⟩:=I.list hq;obtain⟨u,hu,ru⟩:=rv.get hx;obtain⟨f0,f1,f2,f3,f4,f5⟩:=hf it (by simp);refine wpAny_pyNext_list_item st p.isList (x:=u) (by simpa using hu) λh' st' sb=>?_
  have I1:Inv X pins σ H { s with heap:=h' }:=I.turned (t':=s.toks) (λb o hb e=>(sb.2 b hb).trans e) f0 f1 f3 f4 f5;obtain⟨o,e,c,d⟩:=id st';exact⟨u,rfl,LX (s:={ s with heap:=h' }) e c d (by decide) ⟨x,H,I1,ru,⟨rfl,λys hy=>by rw[I.list_inj hy hq];exact hx⟩,st',λb hb=>(hf b hb).1⟩⟩
 done:=by
  intro X hP hw hK hc i pins s σ H E I hf st hg;subst hP hw hK;obtain⟨xs,hq,hx⟩:=hg;obtain⟨its,rv,p,hz⟩:=I.list hq;obtain⟨f0,f1,f2,f3,f4,f5⟩:=hf it (by simp);have hl:=rv.length;exact wpAny_pyNext_list_end (I.ok.hd hc) st p.isList (by simp;omega) λh' eb=>⟨rfl,I.turned (t':=s.toks) (λb o hb e=>eb b o hb e) f0 f1 f3 f4 f5⟩
 self:=λ_ _ _ _ _ st h=>wpAny_pyIter_listiter st h
theorem QL {P:Program}{w:World}{K:PySem.W.Frag}{tg:Expr}(a it:Addr):Turn P w K tg (Xq K a) [it] it (λi h=>h.IsTupleIter it a i) where
 mem:=by simp
 obj:=λi h st b hb=>by
  have e:b=it:=by simpa using hb
  subst e;obtain⟨o,e,c,d⟩:=st;exact⟨o,e,λv z=>by rw[d] at z;cases z⟩
 keep:=λi h h' st k=>st.at λo e=>k it (by simp) o e
 item:=by
  intro X hP hw hK hc i pins s σ H E I hf st hg;subst hP hw hK;obtain⟨xs,x,hq,hx⟩:=hg;obtain⟨its,rv,p,hz⟩:=I.tuple hq;obtain⟨u,hu,ru⟩:=rv.get hx;obtain⟨f0,f1,f2,f3,f4,f5⟩:=hf it (by simp);refine wpAny_pyNext_tuple_item st (show s.heap.IsTuple a its.toArray from p) (x:=u) (by simpa using hu) λh' st' sb=>?_
  have I1:Inv X pins σ H { s with heap:=h' }:=I.turned (t':=s.toks) (λb o hb e=>(sb.2 b hb).trans e) f0 f1 f3 f4 f5;obtain⟨o,e,c,d⟩:=id st';exact⟨u,rfl,LX (s:={ s with heap:=h' }) e c d (by decide) ⟨x,H,I1,ru,⟨rfl,λys hy=>by rw[I.tuple_inj hy hq];exact hx⟩,st',λb hb=>(hf b hb).1⟩⟩
 done:=by
  intro X hP hw hK hc i pins s σ H E I hf st hg;subst hP hw hK;obtain⟨xs,hq,hx⟩:=hg;obtain⟨its,rv,p,hz⟩:=I.tuple hq;obtain⟨f0,f1,f2,f3,f4,f5⟩:=hf it (by simp);have hl:=rv.length;exact wpAny_pyNext_tuple_end (I.ok.hd hc) st (show s.heap.IsTuple a its.toArray from p) (by simp;omega) λh' eb=>⟨rfl,I.turned (t':=s.toks) (λb o hb e=>eb b o hb e) f0 f1 f3 f4 f5⟩
 self:=λ_ _ _ _ _ st h=>wpAny_pyIter_tupleiter st h
theorem Rt {P:Program}{w:World}{K:PySem.W.Frag}{tg:Expr}(it:Addr)(lo:Int)(n:Nat):Turn P w K tg (W9 lo n) [it] it (λi h=>IsRangeIter h it (lo+(i:Nat)*1) ((n:Int)-(i:Nat)) 1) where
 mem:=by simp
 obj:=λi h st b hb=>by
  have e:b=it:=by simpa using hb
  subst e;exact⟨_,st,λv z=>by
   have z':Data.fields _=Data.cell v:=z;cases z'⟩
 keep:=λi h h' st k=>k it (by simp) _ st
 item:=by
  intro X hP hw hK hc i pins s σ H E I hf st hg;subst hP hw hK;obtain⟨f0,f1,f2,f3,f4,f5⟩:=hf it (by simp);have W:=Walks.range (prog:=X.prog) (w:=X.w) (I.ok.hd hc) it lo 1 n;refine W.item i s _ _ hg st λv h' tk hv st' kk=>?_
  obtain⟨t,rfl⟩:=hv;have I1:Inv X pins σ H { s with heap:=h',toks:=tk }:=I.turned (λb o hb e=>kk b o (by simpa using hb) e) f0 f1 f3 f4 f5;refine⟨_,rfl,LX (s:={ s with heap:=h',toks:=tk }) (n:="range_iterator") st' rfl rfl (by decide) ⟨.int (lo+i),H,I1,⟨t,?_⟩,⟨rfl,rfl⟩,st',λb hb=>(hf b hb).1⟩⟩;rw[Int.mul_one]
 done:=by
  intro X hP hw hK hc i pins s σ H E I hf st hg;subst hP hw hK;obtain⟨f0,f1,f2,f3,f4,f5⟩:=hf it (by simp);exact wpAny_pyNext_range_end (I.ok.hd hc) st (by have:n<=i:=hg;omega) λh' eb=>⟨rfl,I.turned (t':=s.toks) (λb o hb e=>eb b o hb e) f0 f1 f3 f4 f5⟩
 self:=λ_ _ _ _ _ st h=>wpAny_pyIter_rangeiter st h
section
variable {X:Cx}{tg:Expr}
def X0 (K:PySem.W.Frag)(tl:TE):TI:=λσ H R=>tl σ H λx H1=>∃a,x=.ref a/\(∃xs,AR K H1 a xs)/\R (Xn K a) H1
def YY (K:PySem.W.Frag)(tl:TE):TI:=λσ H R=>tl σ H λx H1=>∃a,x=.ref a/\(∃xs,AJ K H1 a xs)/\R (Xq K a) H1
theorem B7 {l:Expr}{tl:TE}(hl:PE X l tl):PI X tg l (X0 X.K tl):=by
 intro pins s σ H R I h;refine Bv (hl pins s σ H _ I h) λv s1 ⟨x,H1,I1,r1,q1⟩=>?_
 obtain⟨a,e,⟨xs,hq⟩,q⟩:=q1;subst e;cases r1;obtain⟨its,rv,p,hz⟩:=I1.list hq;refine eP p.isList ?_;refine⟨s1.heap.objs.size,[s1.heap.objs.size],_,_,H1,rfl,I1.kept (t':=s1.toks) λb o e=>ah _ e,SU a _,⟨_,ay _ rfl,rfl,rfl⟩,λb hb=>?_,q⟩;have e:b=s1.heap.objs.size:=by simpa using hb
 subst e;exact I1.fpOk (aq _) (I1.hok.fresh (aq _))
theorem Mt {l:Expr}{tl:TE}(hl:PE X l tl):PI X tg l (YY X.K tl):=by
 intro pins s σ H R I h;refine Bv (hl pins s σ H _ I h) λv s1 ⟨x,H1,I1,r1,q1⟩=>?_
 obtain⟨a,e,⟨xs,hq⟩,q⟩:=q1;subst e;cases r1;obtain⟨its,rv,p,hz⟩:=I1.tuple hq;refine wpAny_pyIter_tuple (show s1.heap.IsTuple a its.toArray from p) ?_;refine⟨s1.heap.objs.size,[s1.heap.objs.size],_,_,H1,rfl,I1.kept (t':=s1.toks) λb o e=>ah _ e,QL a _,⟨_,ay _ rfl,rfl,rfl⟩,λb hb=>?_,q⟩;have e:b=s1.heap.objs.size:=by simpa using hb
 subst e;exact I1.fpOk (aq _) (I1.hok.fresh (aq _))
theorem Uu {pins:List (Addr×Obj)} {σ:St} {H:Hp} {s:Shared} {R:It->Hp->Prop} {E:Value->Shared->Prop} {lo hi:Int} {t u v:Tok} {tk:Nat} (I:Inv X pins σ H s) (h1:-(2^62)<=lo) (h2:lo<2^62) (h3:-(2^62)<=hi) (h4:hi<2^62)
  (q:R (W9 lo (hi-lo).toNat) H):wpAny (model X.prog X.w) X.A (pyIter (.ref s.heap.objs.size)) (Y8 X pins σ tg R) E { s with heap:=s.heap.push { cls:=.type "range",data:=.fields #[.int lo t,.int hi u,.int 1 v] },toks:=tk }:=by
 refine wpAny_pyIter_range (IsRange.new ..) (small_one h1 h2 h3 h4) ?_;have I1:Inv X pins σ H { s with heap:=s.heap.push { cls:=.type "range",data:=.fields #[.int lo t,.int hi u,.int 1 v] },toks:=tk }:=I.kept λb o e=>ah _ e
 refine⟨(s.heap.push { cls:=.type "range",data:=.fields #[.int lo t,.int hi u,.int 1 v] }).objs.size,[(s.heap.push { cls:=.type "range",data:=.fields #[.int lo t,.int hi u,.int 1 v] }).objs.size],_,_,H,rfl,
  I1.kept (t':=tk) λb o e=>ah _ e,Rt _ lo (hi-lo).toNat,?_,λb hb=>?_,q⟩
 ·have e1:lo+((0:Nat):Int)*1=lo:=by simp
  have e2:(((hi-lo).toNat:Nat):Int)-((0:Nat):Int)=Builtin.Range.rangeSize lo hi 1:=by rw[rangeSize_one];split<;>omega
  show IsRangeIter _ _ (lo+((0:Nat):Int)*1) ((((hi-lo).toNat:Nat):Int)-((0:Nat):Int)) 1;rw[e1,e2];exact ay _ rfl
 ·have e:b=(s.heap.push { cls:=.type "range",data:=.fields #[.int lo t,.int hi u,.int 1 v] }).objs.size:=by simpa using hb
  subst e;exact I1.fpOk (aq _) (I1.hok.fresh (aq _))
def Yb (ta:TA):TI:=λσ H R=>ta σ H λvs H1=>∃j:Int,vs=[.int j]/\-(2^62)<=j/\j<2^62/\R (W9 0 j.toNat) H1
theorem Kc {a:Expr}{ta:TA}{p pos:Pos}(hg:Gl X "range")(hm:X.mg "range"=none)(ha:PA X [a] ta)(hs:starEach [a] X.env=[(false,eval a X.env)]:=by rfl):PI X tg (.Call (.Name "range" p) [a] [] pos) (Yb ta):=by
 intro pins s σ H R I h;refine Call_ (Kr I hg hm boot_range (eO (Bv (ha pos pins s σ H _ I h) λus s1 ⟨vs,H1,I1,r1,q1⟩=>?_) hs rfl));obtain⟨j,e,q1,q2,q⟩:=q1;subst e;cases r1 with
 |cons r rr=>
  cases rr;obtain⟨t,rfl⟩:=r;exact call_range_1 (Uu I1 (by omega) (by omega) q1 q2 (by simpa using q))
def Y5 (wi:TI)(g:TG)(tb:TS):TS:=λD σ H=>wi σ H λJ H1=>∃W:Nat->Nat->St->Hp->Prop,(∃m,W 0 m σ H1)/\∀i m σ H,W i m σ H->
 (J.stop i H/\D.nx σ H)\/(J.go i H/\∃N:St->Hp->Prop,(∀σ' H',N σ' H'->∃m',m'<m/\W (i+1) m' σ' H')/\∀x H',J.yld i H x H'->g x σ H' λσ2 H2=>tb { D with nx:=N,ct:=N,bk:=D.nx } σ2 H2)
def MX (fp:List Addr)(h:Heap):List (Addr×Obj):=fp.filterMap λb=>(h.get? b).map λo=>(b,o)
theorem GG {fp:List Addr}{h:Heap}{b:Addr}{o:Obj}(hb:b∈fp)(e:h.get? b=some o):(b,o)∈MX fp h:=cS.mpr ⟨b,hb,by rw[e];rfl⟩
theorem SI {fp:List Addr}{h:Heap}{p:Addr×Obj}(hp:p∈MX fp h):p.1∈fp/\h.get? p.1=some p.2:=by
 obtain⟨b,hb,e⟩:=cS.mp hp;cases q:h.get? b with
 |none=>rw[q] at e;cases e
 |some o=>
  rw[q] at e;have e':(b,o)=p:=aI e;subst e';exact⟨hb,q⟩
theorem Inv.pinned {pins:List (Addr×Obj)}{σ:St}{H:Hp}{s:Shared}{fp:List Addr}(I:Inv X pins σ H s)(hf:∀b∈fp,Nm X pins H b)(ho:∀b∈fp,∃o,s.heap.get? b=some o/\∀v,o.data≠.cell v):Inv X (pins++MX fp s.heap) σ H s:=
 I.pins_of λp hp=>(aP.mp hp).elim (λz=>I.pin p (aN _ z)) λz=>by
  obtain⟨hb,e⟩:=SI z;obtain⟨f0,f1,f2,_⟩:=hf p.1 hb;obtain⟨o,e',d⟩:=ho p.1 hb;rw[e] at e';cases e';exact⟨e,f0,f1,f2,d⟩
theorem Inv.unpinned {pins pl:List (Addr×Obj)}{σ:St}{H:Hp}{s:Shared}(I:Inv X (pins++pl) σ H s):Inv X pins σ H s:=I.pins_of λp hp=>I.pin p (aN _ (cm _ hp))
theorem GB {iter:Expr} {body:List Stmt} {wi:TI} {g:TG} {tb:TS} {pos:Pos} (hp:PassesOwn (model X.prog X.w) X.A X.env X.xe) (hc:X.calm=true) (hi:PI X tg iter wi) (hg:PG X tg g) (hb:On X body tb)
  (hs:∀x,foldedSetIterable iter X.env x=pure x:=by intro _;rfl):PS X (.For tg iter body [] pos) (Y5 wi g tb):=by
 intro pins s σ H D I h;refine wpAny_For (Bv (hi pins s σ H _ I h) λv s1 h1=>Bv h1 λitv s2 h2=>?_) hs;obtain⟨it,fp,tn,J,H2,e,I2,T,st2,f2,W,⟨m0,w0⟩,turn⟩:=h2;subst e;have stat:∀{H':Hp},(∀b∈fp,H' b=none)->∀b∈fp,Nm X pins H' b:=λhn b hb=>⟨hn b hb,(f2 b hb).2⟩
 refine codeAny_forLoop_any (λn s'=>∃i σ' H',Inv X pins σ' H' s'/\tn i s'.heap/\(∀b∈fp,H' b=none)/\W i n σ' H') ?_ m0 ⟨0,σ,H2,I2,st2,λb hb=>(f2 b hb).1,w0⟩
 rintro n s3 ⟨i,σ3,H3,I3,st3,fr3,w3⟩
 rcases turn i n σ3 H3 w3 with⟨stop,qn⟩|⟨go,N,hN,step⟩
 ·refine cU hp (Bv (T.done X rfl rfl rfl hc i pins s3 σ3 H3 X.xe I3 (stat fr3) st3 stop) λr s4 ⟨hr,I4⟩=>?_);subst hr;exact dW ⟨σ3,H3,I4,qn⟩
 ·refine cU hp (Bv (T.item X rfl rfl rfl hc i pins s3 σ3 H3 X.xe I3 (stat fr3) st3 go) λr s4 ⟨u,hr,h4⟩=>?_);subst hr;refine cU hp (Bv h4 λ_ s5 z9=>?_);obtain⟨x,H5,I5,r5,y5,st5,fr5⟩:=z9;have I5':=I5.pinned (stat fr5) (T.obj _ _ st5);refine cU hp (Bv (hg _ s5 σ3 H5 x u _ I5' r5 (step x H5 y5)) λ_ s6 ⟨σ6,H6,I6,q6⟩=>?_);refine cU hp (Bv (hb _ s6 σ6 H6 _ I6 q6) λf s7 q7=>?_);have again:∀{σ7:St} {H7:Hp},Inv X (pins++MX fp s5.heap) σ7 H7 s7->N σ7 H7->∃m,m<n/\∃i σ' H',Inv X pins σ' H' s7/\tn i s7.heap/\(∀b∈fp,H' b=none)/\W i m σ' H':=λ{σ7 H7} I7 n7=>by
   obtain⟨m',hm,w7⟩:=hN σ7 H7 n7;refine⟨m',hm,i+1,σ7,H7,I7.unpinned,T.keep _ _ _ st5 λb hb o e=>(I7.pin (b,o) (aN _ (aN _ (GG hb e)))).1,λb hb=>?_,w7⟩;obtain⟨o,e,d⟩:=T.obj _ _ st5 b hb;exact(I7.pin (b,o) (aN _ (aN _ (GG hb e)))).2.1
  cases f with
  |next=>obtain⟨σ7,H7,I7,n7⟩:=q7;exact again I7 n7
  |cont=>obtain⟨σ7,H7,I7,n7⟩:=q7;exact again I7 n7
  |brk=>obtain⟨σ7,H7,I7,q7⟩:=q7;exact⟨σ7,H7,I7.unpinned,q7⟩
  |ret v=>obtain⟨x7,σ7,H7,I7,r7,q7⟩:=q7;exact⟨x7,σ7,H7,I7.unpinned,r7,q7⟩
end
theorem Gn {K:PySem.W.Frag} {a:Addr} {xs:List V} {g:TG} {tb:TS} {D:Ends} {σ:St} {H:Hp} (Pv:Nat->St->Hp->Prop) (h0:Pv 0 σ H) (hl:∀i σ H,i<=xs.length->Pv i σ H->AR K H a xs)
  (hs:∀i x σ H,xs[i]?=some x->Pv i σ H->g x σ H λσ2 H2=>tb { D with nx:=Pv (i+1),ct:=Pv (i+1),bk:=D.nx } σ2 H2) (hd:∀σ H,Pv xs.length σ H->D.nx σ H) :
  ∃W:Nat->Nat->St->Hp->Prop,(∃m,W 0 m σ H)/\∀i m σ H,W i m σ H->
   ((Xn K a).stop i H/\D.nx σ H)\/((Xn K a).go i H/\∃N:St->Hp->Prop,(∀σ' H',N σ' H'->∃m',m'<m/\W (i+1) m' σ' H')/\∀x H',(Xn K a).yld i H x H'->g x σ H' λσ2 H2=>tb { D with nx:=N,ct:=N,bk:=D.nx } σ2 H2):=by
 refine⟨λi m σ H=>m=xs.length-i/\i<=xs.length/\Pv i σ H,⟨xs.length,by simp,bw _,h0⟩,?_⟩
 rintro i m σ H ⟨rfl,hi,p⟩
 have q:=hl i σ H hi p
 by_cases hlt:i<xs.length
 ·refine .inr ⟨⟨xs,xs[i],q,by simp[hlt]⟩,Pv (i+1),λσ' H' p'=>⟨xs.length-(i+1),by omega,rfl,hlt,p'⟩,λx H' y=>?_⟩;obtain⟨e,y⟩:=y;subst e;exact hs i x σ _ (y xs q) p
 ·have e:i=xs.length:=by omega
  subst e;exact .inl ⟨⟨xs,q,aq _⟩,hd σ H p⟩
theorem V8 {K:PySem.W.Frag} {a:Addr} {xs:List V} {g:TG} {tb:TS} {D:Ends} {σ:St} {H:Hp} (Pv:Nat->St->Hp->Prop) (h0:Pv 0 σ H) (hl:∀i σ H,i<=xs.length->Pv i σ H->AJ K H a xs)
  (hs:∀i x σ H,xs[i]?=some x->Pv i σ H->g x σ H λσ2 H2=>tb { D with nx:=Pv (i+1),ct:=Pv (i+1),bk:=D.nx } σ2 H2) (hd:∀σ H,Pv xs.length σ H->D.nx σ H) :
  ∃W:Nat->Nat->St->Hp->Prop,(∃m,W 0 m σ H)/\∀i m σ H,W i m σ H->
   ((Xq K a).stop i H/\D.nx σ H)\/((Xq K a).go i H/\∃N:St->Hp->Prop,(∀σ' H',N σ' H'->∃m',m'<m/\W (i+1) m' σ' H')/\∀x H',(Xq K a).yld i H x H'->g x σ H' λσ2 H2=>tb { D with nx:=N,ct:=N,bk:=D.nx } σ2 H2):=by
 refine⟨λi m σ H=>m=xs.length-i/\i<=xs.length/\Pv i σ H,⟨xs.length,by simp,bw _,h0⟩,?_⟩
 rintro i m σ H ⟨rfl,hi,p⟩
 have q:=hl i σ H hi p
 by_cases hlt:i<xs.length
 ·refine .inr ⟨⟨xs,xs[i],q,by simp[hlt]⟩,Pv (i+1),λσ' H' p'=>⟨xs.length-(i+1),by omega,rfl,hlt,p'⟩,λx H' y=>?_⟩;obtain⟨e,y⟩:=y;subst e;exact hs i x σ _ (y xs q) p
 ·have e:i=xs.length:=by omega
  subst e;exact .inl ⟨⟨xs,q,aq _⟩,hd σ H p⟩
theorem NA {lo:Int} {n:Nat} {g:TG} {tb:TS} {D:Ends} {σ:St} {H:Hp} (Pv:Nat->St->Hp->Prop) (h0:Pv 0 σ H)
  (hs:∀i σ H,i<n->Pv i σ H->g (.int (lo+i)) σ H λσ2 H2=>tb { D with nx:=Pv (i+1),ct:=Pv (i+1),bk:=D.nx } σ2 H2) (hd:∀σ H,Pv n σ H->D.nx σ H) :
  ∃W:Nat->Nat->St->Hp->Prop,(∃m,W 0 m σ H)/\∀i m σ H,W i m σ H->
   ((W9 lo n).stop i H/\D.nx σ H)\/((W9 lo n).go i H/\∃N:St->Hp->Prop,(∀σ' H',N σ' H'->∃m',m'<m/\W (i+1) m' σ' H')/\∀x H',(W9 lo n).yld i H x H'->g x σ H' λσ2 H2=>tb { D with nx:=N,ct:=N,bk:=D.nx } σ2 H2):=by
 refine⟨λi m σ H=>m=n-i/\i<=n/\Pv i σ H,⟨n,by simp,bw _,h0⟩,?_⟩
 rintro i m σ H ⟨rfl,hi,p⟩
 by_cases hlt:i<n
 ·refine .inr ⟨hlt,Pv (i+1),λσ' H' p'=>⟨n-(i+1),by omega,rfl,hlt,p'⟩,λx H' y=>?_⟩;obtain⟨e,y⟩:=y;subst e y;exact hs i σ _ hlt p
 ·have e:i=n:=by omega
  subst e;exact .inl ⟨aq _,hd σ H p⟩
abbrev R2:=V->V->Hp->VK->Prop
def Hr (X:Cx)(f:Value->Value->Sem Value)(r:R2):Prop:=
 ∀(pins:List (Addr×Obj)) (s:Shared) (σ:St) (H:Hp) (x y:V) (v u:Value) (Q:VK),Inv X pins σ H s->RelV x v->RelV y u->r x y H Q->
  wpAny (model X.prog X.w) X.A (f v u) (EP X pins σ Q) X.xe s
def YQ (X:Cx)(f:Value->Sem Value)(r:V->Hp->VK->Prop):Prop:=
 ∀(pins:List (Addr×Obj)) (s:Shared) (σ:St) (H:Hp) (x:V) (v:Value) (Q:VK),Inv X pins σ H s->RelV x v->r x H Q->
  wpAny (model X.prog X.w) X.A (f v) (EP X pins σ Q) X.xe s
def FO (X:Cx)(f:Value)(r:List V->Hp->VK->Prop):Prop:=
 ∀(pins:List (Addr×Obj)) (s:Shared) (σ:St) (H:Hp) (xs:List V) (us:List Value) (Q:VK),Inv X pins σ H s->AW xs us->r xs H Q->
  wpAny (model X.prog X.w) X.A (call f us) (EP X pins σ Q) X.xe s
def X9 (r:R2)(ta tb:TE):TE:=λσ H Q=>ta σ H λx H1=>tb σ H1 λy H2=>r x y H2 Q
def Zo (r:V->Hp->VK->Prop)(ta:TE):TE:=λσ H Q=>ta σ H λx H1=>r x H1 Q
def rI (C:Int->Int->Prop)(g:Int->Int->V):R2:=λx y H Q=>∃i j,x=.int i/\y=.int j/\C i j/\Q (g i j) H
def Wr (g:Int->Int->V):R2:=λx y H Q=>∃i j,x=.int i/\y=.int j/\Q (g i j) H
def rU (g:Int->V):V->Hp->VK->Prop:=λx H Q=>∃i,x=.int i/\Q (g i) H
section
variable {X:Cx}{a b c:Expr}{ta tb tc:TE}{pos:Pos}
theorem Xf (ha:PE X a ta) (hb:PE X b tb) {pins:List (Addr×Obj)} {s:Shared} {σ:St} {H:Hp} {R:V->V->Hp->Prop} (I:Inv X pins σ H s)
  (h:ta σ H λx H1=>tb σ H1 λy H2=>R x y H2) {Q:Value->Shared->Prop} {f:Value->Value->Sem Value}
  (hf:∀v u s2 x y H2,Inv X pins σ H2 s2->RelV x v->RelV y u->R x y H2->wpAny (model X.prog X.w) X.A (f v u) Q X.xe s2) :
  wpAny (model X.prog X.w) X.A (eval a X.env) (λv s₁=>wpAny (model X.prog X.w) X.A (eval b X.env) (λu s₂=>wpAny (model X.prog X.w) X.A (f v u) Q X.xe s₂) X.xe s₁) X.xe s:=by
 refine Bv (ha pins s σ H _ I h) λv s1 ⟨x,H1,I1,r1,q1⟩=>?_
 refine Bv (hb pins s1 σ H1 _ I1 q1) λu s2 ⟨y,H2,I2,r2,q2⟩=>?_
 exact hf v u s2 x y H2 I2 r1 r2 q2
theorem AV {op:Operator}{r:R2}(ho:Hr X (binaryOp op) r)(ha:PE X a ta)(hb:PE X b tb):PE X (.BinOp a op b pos) (X9 r ta tb):=by
 intro pins s σ H Q I h;exact wpAny_BinOp (Xf ha hb I h λv u s2 x y H2 I2 rx ry q=>ho pins s2 σ H2 x y v u Q I2 rx ry q)
theorem RB {op:UnaryOp}{r:V->Hp->VK->Prop}(ho:YQ X (unaryOp op) r)(ha:PE X a ta):PE X (.UnaryOp op a pos) (Zo r ta):=by
 intro pins s σ H Q I h;exact UnaryOp_ (Bv (ha pins s σ H _ I h) λv s1 ⟨x,H1,I1,r1,q1⟩=>ho pins s1 σ H1 x v Q I1 r1 q1)
theorem Ys {f:Value->Value->Sem Value} {C:Int->Int->Prop} {g:Int->Int->Int}
  (rule:∀(i j:Int) (t u:Tok) (s:Shared) (Q:Value->Shared->Prop) (E:Value->Shared->Prop),C i j->Q (.int (g i j) s.toks) { s with toks:=s.toks+1 }->wpAny (model X.prog X.w) X.A (f (.int i t) (.int j u)) Q E s) :
  Hr X f (rI C λi j=>.int (g i j)):=by
 intro pins s σ H x y v u Q I rx ry h;obtain⟨i,j,rfl,rfl,hc,q⟩:=h;obtain⟨t,rfl⟩:=rx;obtain⟨t',rfl⟩:=ry;exact rule i j t t' s _ _ hc ⟨.int (g i j),H,I.tok _,⟨_,rfl⟩,q⟩
theorem Yc {f:Value->Value->Sem Value} {g:Int->Int->Int}
  (rule:∀(i j:Int) (t u:Tok) (s:Shared) (Q:Value->Shared->Prop) (E:Value->Shared->Prop),Q (.int (g i j) s.toks) { s with toks:=s.toks+1 }->wpAny (model X.prog X.w) X.A (f (.int i t) (.int j u)) Q E s) :
  Hr X f (Wr λi j=>.int (g i j)):=by
 intro pins s σ H x y v u Q I rx ry h;obtain⟨i,j,rfl,rfl,q⟩:=h;obtain⟨t,rfl⟩:=rx;obtain⟨t',rfl⟩:=ry;exact rule i j t t' s _ _ ⟨.int (g i j),H,I.tok _,⟨_,rfl⟩,q⟩
theorem VJ {f:Value->Value->Sem Value} {g:Int->Int->Bool}
  (rule:∀(i j:Int) (t u:Tok) (s:Shared) (Q:Value->Shared->Prop) (E:Value->Shared->Prop),Q (.bool (g i j)) s->wpAny (model X.prog X.w) X.A (f (.int i t) (.int j u)) Q E s) :
  Hr X f (Wr λi j=>.bl (g i j)):=by
 intro pins s σ H x y v u Q I rx ry h;obtain⟨i,j,rfl,rfl,q⟩:=h;obtain⟨t,rfl⟩:=rx;obtain⟨t',rfl⟩:=ry;exact rule i j t t' s _ _ ⟨.bl (g i j),H,I,rfl,q⟩
def YR (i j:Int):Prop:=0<j/\j<1073741824
def YC (i j:Int):Prop:=0<=j/\j<=1000000/\i.natAbs<2^64
def Xh (i j:Int):Prop:=(-(2^64)<i/\i<2^64)\/(-(2^64)<j/\j<2^64)
theorem Xh.ok {i j:Int}(h:Xh i j):IntMulOk i j:=by
 rcases h with⟨h1,h2⟩|⟨h1,h2⟩
 ·exact .of_left (intBits_le_64 h1 h2)
 ·exact .of_right (intBits_le_64 h1 h2)
theorem D4:Hr X (binaryOp .Add) (Wr λi j=>.int (i+j)):=Yc λ_ _ _ _ _ _ _ q=>add_int q
theorem WC:Hr X (binaryOp .Sub) (Wr λi j=>.int (i-j)):=Yc λ_ _ _ _ _ _ _ q=>sub_int q
theorem LW:Hr X (binaryOp .Mult) (rI Xh λi j=>.int (i*j)):=Ys λ_ _ _ _ _ _ _ hc q=>mul_int q hc.ok
theorem JD:Hr X (binaryOp .FloorDiv) (rI YR λi j=>.int (i/j)):=Ys λi j _ _ _ _ _ hc q=>by
 have h1:(0:Int)<j:=hc.1;have h2:j<1073741824:=hc.2;exact floordiv_int (by omega) (by rw[Int.fdiv_eq_ediv_of_nonneg i (by omega)];exact q) (.inl (PyProof.noPylong_small (by omega)))
theorem CD:Hr X (binaryOp .Mod) (rI (λ_ j=>0<j) λi j=>.int (i%j)):=Ys λi j _ _ _ _ _ hc q=>by
 have h1:(0:Int)<j:=hc;exact mod_int' (by omega) (by rw[Int.fmod_eq_emod_of_nonneg i (by omega)];exact q)
theorem WI:Hr X (binaryOp .Pow) (rI YC λi j=>.int (i^j.toNat)):=Ys λ_ _ _ _ _ _ _ hc q=>pow_int_small hc.1 hc.2.1 hc.2.2 q
theorem Zj {f:Value->Sem Value} {g:Int->Int}
  (rule:∀(i:Int) (t:Tok) (s:Shared) (Q:Value->Shared->Prop) (E:Value->Shared->Prop),Q (.int (g i) s.toks) { s with toks:=s.toks+1 }->wpAny (model X.prog X.w) X.A (f (.int i t)) Q E s) :
  YQ X f (rU λi=>.int (g i)):=by
 intro pins s σ H x v Q I rx h;obtain⟨i,rfl,q⟩:=h;obtain⟨t,rfl⟩:=rx;exact rule i t s _ _ ⟨.int (g i),H,I.tok _,⟨_,rfl⟩,q⟩
theorem Pf:YQ X (unaryOp .USub) (rU λi=>.int (-i)):=Zj λ_ _ _ _ _ q=>neg_int q
end
def QE:V->V->Bool
 | .non,.non=>true | .non,.int _=>true | .int _,.non=>true | .non,.bl _=>true | .bl _,.non=>true | .non,.str _=>true | .str _,.non=>true
 | .int _,.int _=>true | .bl _,.bl _=>true | .str _,.str _=>true | .byt _,.byt _=>true
 | .int _,.str _=>true | .str _,.int _=>true | .bl _,.str _=>true | .str _,.bl _=>true
 |_,_=>false
def Zh:R2:=λx y H Q=>QE x y=true/\Q (.bl (decide (x=y))) H
def Zp:R2:=λx y H Q=>QE x y=true/\Q (.bl (!decide (x=y))) H
theorem JJ {i j:Int}:decide (V.int i=V.int j)=(i == j):=by
 rw[bH];simp
theorem Tv {i j:Bool}:decide (V.bl i=V.bl j)=(i == j):=by
 rw[bH];simp
theorem EJ {i j:Str}:decide (V.str i=V.str j)=(i == j):=by
 rw[bH];simp
theorem RD {i j:Array UInt8}:decide (V.byt i=V.byt j)=(i.toList == j.toList):=by
 rw[bH];cases i;cases j;simp
section
variable {X:Cx}{a b c:Expr}{ta tb tc:TE}{pos:Pos}
theorem Bc {pins:List (Addr×Obj)}{σ:St}{H:Hp}{s:Shared}{Q:VK}{k k':Bool}(I:Inv X pins σ H s)(q:Q (.bl k) H)(e:k=k'):EP X pins σ Q (.bool k') s:=by
 subst e;exact⟨.bl k,H,I,rfl,q⟩
theorem Bp:Hr X (compareOp .Eq) Zh:=by
 intro pins s σ H x y v u Q I rx ry h;obtain⟨hs,q⟩:=h;cases x with
 |non=>
  cases rx;cases y with
  |non=>cases ry;exact PySem.EqNone.eq_none_none (Bc I q (by simp))
  |bl j=>cases ry;exact PySem.EqNone.eq_none_bool (Bc I q (by simp))
  |int j=>obtain⟨t',rfl⟩:=ry;exact PySem.EqNone.eq_none_int (Bc I q (by simp))
  |str j=>obtain⟨t',rfl⟩:=ry;exact PySem.EqNone.eq_none_str (Bc I q (by simp))
  |_=>exact absurd (show false=true from hs) ai
 |bl i=>
  cases rx;cases y with
  |non=>cases ry;exact PySem.EqNone.eq_bool_none (Bc I q (by simp))
  |bl j=>cases ry;exact eq_bool (Bc I q Tv)
  |str j=>obtain⟨t',rfl⟩:=ry;exact PySem.EqMixed.eq_bool_str (Bc I q (by simp))
  |_=>exact absurd (show false=true from hs) ai
 |int i=>
  obtain⟨t,rfl⟩:=rx;cases y with
  |non=>cases ry;exact PySem.EqNone.eq_int_none (Bc I q (by simp))
  |int j=>obtain⟨t',rfl⟩:=ry;exact eq_int (Bc I q JJ)
  |str j=>obtain⟨t',rfl⟩:=ry;exact PySem.EqMixed.eq_int_str (Bc I q (by simp))
  |_=>exact absurd (show false=true from hs) ai
 |str i=>
  obtain⟨t,rfl⟩:=rx;cases y with
  |non=>cases ry;exact PySem.EqNone.eq_str_none (Bc I q (by simp))
  |bl j=>cases ry;exact PySem.EqMixed.eq_str_bool (Bc I q (by simp))
  |int j=>obtain⟨t',rfl⟩:=ry;exact PySem.EqMixed.eq_str_int (Bc I q (by simp))
  |str j=>obtain⟨t',rfl⟩:=ry;exact eq_str (Bc I q EJ)
  |_=>exact absurd (show false=true from hs) ai
 |byt i=>
  obtain⟨t,rfl⟩:=rx;cases y with
  |byt j=>obtain⟨t',rfl⟩:=ry;exact PySem.W.eq_bytes (Bc I q RD)
  |_=>exact absurd (show false=true from hs) ai
 |_=>cases y<;>exact absurd (show false=true from hs) ai
theorem NO:Hr X (compareOp .NotEq) Zp:=by
 intro pins s σ H x y v u Q I rx ry h;obtain⟨hs,q⟩:=h;cases x with
 |non=>
  cases rx;cases y with
  |non=>cases ry;exact PySem.EqNone.ne_none_none (Bc I q (by simp))
  |bl j=>cases ry;exact PySem.EqNone.ne_none_bool (Bc I q (by simp))
  |int j=>obtain⟨t',rfl⟩:=ry;exact PySem.EqNone.ne_none_int (Bc I q (by simp))
  |str j=>obtain⟨t',rfl⟩:=ry;exact PySem.EqNone.ne_none_str (Bc I q (by simp))
  |_=>exact absurd (show false=true from hs) ai
 |bl i=>
  cases rx;cases y with
  |non=>cases ry;exact PySem.EqNone.ne_bool_none (Bc I q (by simp))
  |bl j=>cases ry;exact ne_bool (Bc I q (congrArg not Tv))
  |str j=>obtain⟨t',rfl⟩:=ry;exact PySem.EqMixed.ne_bool_str (Bc I q (by simp))
  |_=>exact absurd (show false=true from hs) ai
 |int i=>
  obtain⟨t,rfl⟩:=rx;cases y with
  |non=>cases ry;exact PySem.EqNone.ne_int_none (Bc I q (by simp))
  |int j=>obtain⟨t',rfl⟩:=ry;exact ne_int (Bc I q (congrArg not JJ))
  |str j=>obtain⟨t',rfl⟩:=ry;exact PySem.EqMixed.ne_int_str (Bc I q (by simp))
  |_=>exact absurd (show false=true from hs) ai
 |str i=>
  obtain⟨t,rfl⟩:=rx;cases y with
  |non=>cases ry;exact PySem.EqNone.ne_str_none (Bc I q (by simp))
  |bl j=>cases ry;exact PySem.EqMixed.ne_str_bool (Bc I q (by simp))
  |int j=>obtain⟨t',rfl⟩:=ry;exact PySem.EqMixed.ne_str_int (Bc I q (by simp))
  |str j=>obtain⟨t',rfl⟩:=ry;exact ne_str (Bc I q (congrArg not EJ))
  |_=>exact absurd (show false=true from hs) ai
 |byt i=>
  obtain⟨t,rfl⟩:=rx;cases y with
  |byt j=>obtain⟨t',rfl⟩:=ry;exact PySem.W.ne_bytes (Bc I q (congrArg not RD))
  |_=>exact absurd (show false=true from hs) ai
 |_=>cases y<;>exact absurd (show false=true from hs) ai
theorem P5:Hr X (compareOp .Lt) (Wr λi j=>.bl (decide (i<j))):=VJ λ_ _ _ _ _ _ _ q=>lt_int q
theorem JQ:Hr X (compareOp .LtE) (Wr λi j=>.bl (decide (i<=j))):=VJ λ_ _ _ _ _ _ _ q=>le_int q
theorem RG:Hr X (compareOp .Gt) (Wr λi j=>.bl (decide (j<i))):=VJ λ_ _ _ _ _ _ _ q=>gt_int q
theorem Yn:Hr X (compareOp .GtE) (Wr λi j=>.bl (decide (j<=i))):=VJ λ_ _ _ _ _ _ _ q=>ge_int q
theorem NC:Hr X (compareOp .In) (λx y H Q=>∃i j,x=.str i/\y=.str j/\Q (.bl (!(Builtin.Str.occurrences j i 0 j.length 1).isEmpty)) H):=by
 intro pins s σ H x y v u Q I rx ry h;obtain⟨i,j,rfl,rfl,q⟩:=h;obtain⟨t,rfl⟩:=rx;obtain⟨t',rfl⟩:=ry;exact in_str (Bc I q rfl)
theorem OS:Hr X (compareOp .NotIn) (λx y H Q=>∃i j,x=.str i/\y=.str j/\Q (.bl (!(!(Builtin.Str.occurrences j i 0 j.length 1).isEmpty))) H):=by
 intro pins s σ H x y v u Q I rx ry h;obtain⟨i,j,rfl,rfl,q⟩:=h;obtain⟨t,rfl⟩:=rx;obtain⟨t',rfl⟩:=ry;exact notIn_str (Bc I q rfl)
theorem AC (b:Expr){op:CmpOp}(h:op≠.In:=by decide)(h2:op≠.NotIn:=by decide):behindInMarks op b=false:=by
 have e1:(op == CmpOp.In)=false:=by cases op<;>first|rfl|exact absurd rfl h
 have e2:(op == CmpOp.NotIn)=false:=by cases op<;>first|rfl|exact absurd rfl h2
 cases b<;>simp[behindInMarks,e1,e2]
theorem Fg {op:CmpOp}{r:R2}(ho:Hr X (compareOp op) r)(ha:PE X a ta)(hb:PE X b tb)(hm:behindInMarks op b=false):PE X (.Compare a [op] [b] pos) (X9 r ta tb):=by
 intro pins s σ H Q I h;exact wpAny_Compare1 (Xf ha hb I h λv u s2 x y H2 I2 rx ry q=>ho pins s2 σ H2 x y v u Q I2 rx ry q) hm
def Wo (t:TE):TT:=λσ H Q=>t σ H λx H'=>∃k,x=.bl k/\Q k H'
theorem Ar {op:CmpOp}{r:R2}(ho:Hr X (compareOp op) r)(ha:PE X a ta)(hb:PE X b tb)(hm:behindInMarks op b=false):PT X (.Compare a [op] [b] pos) (Wo (X9 r ta tb)):=by
 intro pins s σ H Q I h;refine wpAny_isTrue_Compare1 (Bv (ha pins s σ H _ I h) λv s1 ⟨x,H1,I1,r1,q1⟩=>Bv (hb pins s1 σ H1 _ I1 q1) λu s2 ⟨y,H2,I2,r2,q2⟩=>
  Bv (ho pins s2 σ H2 x y v u _ I2 r1 r2 q2) λc s3 ⟨z,H3,I3,r3,k,e,q3⟩=>?_) hm
 subst e;cases r3;exact bK ⟨H3,I3,q3⟩
def U5 (r r':R2)(ta tb tc:TE):TE:=λσ H Q=>ta σ H λx H1=>tb σ H1 λy H2=>r x y H2 λz H3=>∃k,z=.bl k/\
 (if k=true then tc σ H3 λw' H4=>r' y w' H4 Q else Q (.bl false) H3)
theorem TN {op op':CmpOp} {r r':R2} (ho:Hr X (compareOp op) r) (ho':Hr X (compareOp op') r') (ha:PE X a ta) (hb:PE X b tb) (hc:PE X c tc)
  (hm:lastMarks [op,op'] [b,c]=false:=by with_unfolding_all rfl):PE X (.Compare a [op,op'] [b,c] pos) (U5 r r' ta tb tc):=by
 intro pins s σ H Q I h;refine Compare_chain (Bv (ha pins s σ H _ I h) λv s1 ⟨x,H1,I1,r1,q1⟩=>chain_link (Bv (hb pins s1 σ H1 _ I1 q1) λu s2 ⟨y,H2,I2,r2,q2⟩=>
  Bv (ho pins s2 σ H2 x y v u _ I2 r1 r2 q2) λd s3 ⟨z,H3,I3,r3,k,e,q3⟩=>?_)) hm
 subst e;cases r3;refine bK ?_;cases k with
 |false=>exact ite_ff ⟨.bl false,H3,I3,rfl,q3⟩
 |true=>exact ite_tt (chain_last (Bv (hc pins s3 σ H3 _ I3 q3) λw' s4 ⟨z',H4,I4,r4,q4⟩=>ho' pins s4 σ H4 y z' u w' Q I4 r2 r4 q4))
theorem PJ {op op':CmpOp} {r r':R2} (ho:Hr X (compareOp op) r) (ho':Hr X (compareOp op') r') (ha:PE X a ta) (hb:PE X b tb) (hc:PE X c tc)
  (hm:lastMarks [op,op'] [b,c]=false:=by with_unfolding_all rfl):PT X (.Compare a [op,op'] [b,c] pos) (Wo (U5 r r' ta tb tc)):=by
 intro pins s σ H Q I h;refine isTrue_chain (Bv (ha pins s σ H _ I h) λv s1 ⟨x,H1,I1,r1,q1⟩=>test_link (Bv (hb pins s1 σ H1 _ I1 q1) λu s2 ⟨y,H2,I2,r2,q2⟩=>
  Bv (ho pins s2 σ H2 x y v u _ I2 r1 r2 q2) λd s3 ⟨z,H3,I3,r3,k,e,q3⟩=>?_)) hm
 subst e;cases r3;refine bK ?_;cases k with
 |false=>
  obtain⟨k',e',q'⟩:=q3;cases e';exact ite_ff ⟨H3,I3,q'⟩
 |true=>
  refine ite_tt (test_last (Bv (hc pins s3 σ H3 _ I3 q3) λw' s4 ⟨z',H4,I4,r4,q4⟩=>Bv (ho' pins s4 σ H4 y z' u w' _ I4 r2 r4 q4) λd' s5 z9=>?_));obtain⟨z2,H5,I5,r5,k2,e2,q5⟩:=z9;subst e2;cases r5;exact bK ⟨H5,I5,q5⟩
theorem J8:(sizeLine:Nat)<2^63:=by rw[aZ];decide
theorem Je:Hr X (binaryOp .Add) (λx y H Q=>∃i j,x=.str i/\y=.str j/\i.length+j.length<=sizeLine/\Q (.str (i++j)) H):=by
 intro pins s σ H x y v u Q I rx ry h;obtain⟨i,j,rfl,rfl,hz,q⟩:=h;obtain⟨t,rfl⟩:=rx;obtain⟨t',rfl⟩:=ry;exact add_str (λt' tk=>⟨.str (i++j),H,I.tok _,⟨_,rfl⟩,q⟩) hz
theorem vals1 {x:V}{us:List Value}(r:AW [x] us):∃u,us=[u]/\RelV x u:=by
 cases r with
 |cons r1 r2=>cases r2;exact⟨_,rfl,r1⟩
theorem vals2 {x y:V}{us:List Value}(r:AW [x,y] us):∃u w',us=[u,w']/\RelV x u/\RelV y w':=by
 cases r with
 |cons r1 r2=>
  cases r2 with
  |cons r3 r4=>cases r4;exact⟨_,_,rfl,r1,r3⟩
theorem Ta:FO X (.type "int") (λxs H Q=>(∃i,xs=[.int i]/\Q (.int i) H)\/∃k,xs=[.bl k]/\Q (.int (if k then 1 else 0)) H):=by
 intro pins s σ H xs us Q I r h;rcases h with⟨i,rfl,q⟩|⟨k,rfl,q⟩
 ·obtain⟨u,rfl,t,rfl⟩:=vals1 r;exact call_int_int ⟨.int i,H,I,⟨_,rfl⟩,q⟩
 ·obtain⟨u,rfl,r1⟩:=vals1 r;cases r1;exact call_int_bool ⟨.int (if k then 1 else 0),H,I.tok _,⟨_,rfl⟩,q⟩
end
structure ObjM (h:Heap) (x dx C:Addr) (mA:Str->Option Value):Prop where
 obj:h.get? x=some (PySem.W.instObj C dx)
 ns:h.Ns1 dx mA
 ne:dx≠x
theorem NF {h:Heap}{dx:Addr}{mA:Str->Option Value}(n:h.Ns1 dx mA):∃od,h.get? dx=some od/\∀name,PySem.W.lookIn name od=some (mA name):=by
 obtain⟨o,es,ep,ho,hd,hk,_,hm⟩:=n;refine⟨o,ho,λname=>?_⟩;have e:=hm name;unfold nsFind findBy at e;rw[<-Array.find?_toList] at e;unfold PySem.W.lookIn;rw[hd];dsimp only
 split
 ·rename_i y q
  rw[q] at e;exact congrArg some e
 ·rename_i q
  rw[q] at e;have a:es.toList.any (·.refKey)=false:=by
   rw[List.any_eq_false];intro y hy;obtain⟨z,t,hkey⟩:=hk y (Array.mem_toList_iff.mp hy);simp[DictEntry.refKey,hkey]
  have a':¬es.toList.any (·.refKey)=true:=by rw[a];exact ai
  rw[aj a'];exact congrArg some e
theorem ObjM.look {h:Heap}{x dx C:Addr}{mA:Str->Option Value}(I:ObjM h x dx C mA):∃od,PySem.W.InstAt h x (PySem.W.instObj C dx) C (some od)/\∀name,PySem.W.lookIn name od=some (mA name):=
 let⟨od,ho,hl⟩:=NF I.ns
 ⟨od,⟨I.obj,rfl,rfl,ho⟩,hl⟩
section
variable {prog:Program}{w:World}{A:Around}{E:Value->Shared->Prop}{s:Shared}{K:PySem.W.Frag}{x dx C f:Addr}{mA:Str->Option Value}{name:Str}{v:Value}
theorem get_map {expr:Bool} {Q:Value->Shared->Prop} (X:K.In s.heap) (I:ObjM s.heap x dx C mA) (hg:PySem.W.plainGet K C name=true) (hh:PySem.W.hasDictIn K C=true)
  (ha:PySem.W.findIn K (.ref C) name=some none) (hv:mA name=some v) (hv':PySem.W.handedIn v=true) (h:Q v { s with toks:=s.toks+1 }) :
  wpAny (model prog w) A (getAttr (.ref x) name expr) Q E s:=by
 obtain⟨od,J,hl⟩:=I.look;exact PySem.W.get_value X J (dP hg).1 (fN hh ha rfl (by rw[hl,hv])) hv' h
theorem TC {pl:Sem Bool} {Q:Value×List Value->Shared->Prop} (X:K.In s.heap) (I:ObjM s.heap x dx C mA) (hg:PySem.W.plainGet K C name=true)
  (hf:PySem.W.findIn K (.ref C) name=some (some (.ref f))) (ht:PySem.W.isFn K (.ref f)=true) (hv:mA name=none) (h:Q (.ref f,[.ref x]) s) :
  wpAny (model prog w) A (getMethod (.ref x) name pl) Q E s:=by
 obtain⟨od,J,hl⟩:=I.look;exact PySem.W.method_fn X J (dP hg).1 (dP hg).2 hf (bL.mp ht) (by show(PySem.W.lookIn name od).map (·.isSome)=some false;rw[hl,hv];rfl) h
theorem Vs {ns:List Str} {Q:Unit->Shared->Prop} (X:K.In s.heap) (I:ObjM s.heap x dx C mA)
  (hs:PySem.W.findIn K (.ref C) "__setattr__"=some (some (.builtin "object.__setattr__"))) (hp:PySem.W.plainOver K C=true) (ht:PySem.W.takerIn K C name=some none) (hh:PySem.W.hasDictIn K C=true)
  (hw:PySem.Within mA ns) (hsz:ns.length<=sizeLine)
  (h:∀h',ObjM h' x dx C (λy=>if y=name then some v else mA y)->Heap.SameBut dx s.heap h'->Q () { s with heap:=h',toks:=s.toks+2 }) :
  wpAny (model prog w) A (setAttr (.ref x) name v) Q E s:=by
 obtain⟨od,J,hl⟩:=I.look;refine PySem.W.set_plain X J hs (PySem.W.osa_open (s:={ s with toks:=s.toks+1 }) (r:=none) X J hp ht λb=>?_);obtain⟨cd,hc,hd'⟩:=PySem.W.any_some hh;have hx:s.heap.get? x=some ⟨.ref C,some dx,.plain,#[]⟩:=I.obj;refine af (ar (af (af (fD hx (af (PySem.W.Looks.here (s:={ s with toks:=s.toks+1 }) (PySem.W.looks_clsIn X hc) ?_))))));rw[hd'];refine ar (a:=some dx) (af (ar (af ?_)));refine wpAny_nsSet1 (s:={ s with toks:=s.toks+1 }) I.ns λh' hn2 hs2=>?_
 obtain⟨oD,esD,epD,hoD,hdD,hcD⟩:=hn2.count (PySem.Within.cons name v hw);refine af (wpAny_lookBehind hoD (by rw[hdD];exact pastItsLine_dict (aV hcD (by rw[bg];omega))) ?_);exact ar (h _ ⟨(hs2.2 _ (Ne.symm I.ne)).trans I.obj,hn2,I.ne⟩ hs2)
theorem UK {R:Result->Shared->Prop} {vs:List Value} {kw:List (Str×Value)} (X:K.In s.heap) (hm:PySem.W.makesIn K C=true)
  (hi:PySem.W.findIn K (.ref C) "__init__"=some (some (.ref f))) (hf:PySem.W.typeIn K (.ref f)=some (.type "function"))
  (h:codeAny (model prog w) (A.under (.builtin "type.__call__" ⟨.ref C::vs,kw⟩)) (.call (.ref f) ⟨.ref (s.heap.objs.size+1)::vs,kw⟩) (PySem.W.InitBack (s.heap.objs.size+1) R)
   { s with heap:=(s.heap.push PySem.W.emptyDict).push (PySem.W.instObj C s.heap.objs.size) }) :
  codeAny (model prog w) A (.call (.ref C) ⟨vs,kw⟩) R s:=by
 obtain⟨hh,g,d,t,os⟩:=s;exact PySem.W.make_core (PySem.W.makes_of X hm) (PySem.W.looks_findIn X hi) (λself=>PySem.W.bind_fn X self hf) (.inl rfl) h
end
def IA (f:Str)(v:V):List (Str×V)->List (Str×V)
 |[]=>[(f,v)]
 |(g,x)::r=>if g=f then(g,v)::r else(g,x)::IA f v r
theorem Ll (f g:Str)(v:V):∀fs:List (Str×V),(IA f v fs).lookup g=if g=f then some v else fs.lookup g
 |[]=>by
  show List.lookup g [(f,v)]=_
  by_cases h:g=f
  ·have hb:(g == f)=true:=bL.mpr h;simp only[List.lookup,hb,if_pos h]
  ·have hb:(g == f)=false:=bG.mpr h;simp only[List.lookup,hb,if_neg h]
 |(k,x)::r=>by
  have ih:=Ll f g v r;rw[show IA f v ((k,x)::r)=(if k=f then(k,v)::r else(k,x)::IA f v r) from rfl]
  by_cases hk:k=f
  ·rw[aw hk]
   by_cases h:g=k
   ·have hb:(g == k)=true:=bL.mpr h;simp only[List.lookup,hb,if_pos (h.trans hk)]
   ·have hb:(g == k)=false:=bG.mpr h;simp only[List.lookup,hb,if_neg (λe:g=f=>h (e.trans hk.symm))]
  ·rw[aj hk]
   by_cases h:g=k
   ·have hb:(g == k)=true:=bL.mpr h;simp only[List.lookup,hb,if_neg (λe:g=f=>hk (h.symm.trans e))]
   ·have hb:(g == k)=false:=bG.mpr h;simp only[List.lookup,hb];exact ih
theorem Kp (f:Str)(v:V):∀fs:List (Str×V),f∈(IA f v fs).map (·.1)/\∀g,g∈fs.map (·.1)->g∈(IA f v fs).map (·.1)
 |[]=>⟨by simp[IA],λg h=>by simp at h⟩
 |(k,x)::r=>by
  obtain⟨i1,i2⟩:=Kp f v r;rw[show IA f v ((k,x)::r)=(if k=f then(k,v)::r else(k,x)::IA f v r) from rfl]
  by_cases hk:k=f
  ·rw[aw hk];subst hk;exact⟨by simp,λg h=>by simpa using h⟩
  ·rw[aj hk];refine⟨?_,λg h=>?_⟩
   ·rw[aD];exact aK _ i1
   ·rw[aD] at h ⊢;rcases aL.mp h with e|e
    ·exact aL.mpr (.inl e)
    ·exact aK _ (i2 g e)
theorem Lo (f:Str)(v:V):∀fs:List (Str×V),(IA f v fs).length<=fs.length+1
 |[]=>by simp[IA]
 |(k,x)::r=>by
  have ih:=Lo f v r;rw[show IA f v ((k,x)::r)=(if k=f then(k,v)::r else(k,x)::IA f v r) from rfl]
  by_cases hk:k=f
  ·rw[aw hk,bg,bg];omega
  ·rw[aj hk,bg,bg];omega
theorem Ho.some_of {v:V}{o:Option Value}(r:Ho (some v) o):∃u,o=some u/\RelV v u:=by
 cases o with
 |none=>exact(show False from r).elim
 |some u=>exact⟨u,rfl,r⟩
theorem Ho.none_of {o:Option Value}(r:Ho none o):o=none:=by
 cases o with
 |none=>rfl
 |some u=>exact(show False from r).elim
theorem N3 {v:V}{u:Value}(r:RelV v u):PySem.W.handedIn u=true:=by
 cases v with
 |non=>cases(show u=Value.none from r);rfl
 |bl b=>cases(show u=Value.bool b from r);rfl
 |int i=>obtain⟨t,e⟩:=(show ∃t,u=Value.int i t from r);cases e;rfl
 |str x=>obtain⟨t,e⟩:=(show ∃t,u=Value.str x t from r);cases e;rfl
 |byt b=>obtain⟨t,e⟩:=(show ∃t,u=Value.bytes b t from r);cases e;rfl
 |flt b=>obtain⟨t,e⟩:=(show ∃t,u=Value.float b t from r);cases e;rfl
 |ref a=>cases(show u=Value.ref a from r);rfl
 |ty n=>cases(show u=Value.type n from r);rfl
section
variable {P:Program}{w:World}{H H':Hp}{h h':Heap}{a C dx:Addr}{fs fs':List (Str×V)}
theorem LC (hok:Im P w H h)(e:H a=some (.ins C dx fs)):∃mA,ObjM h a dx C mA/\(∀f,Ho (fs.lookup f) (mA f))/\PySem.Within mA (fs.map (·.1))/\fs.length<=1000/\H dx=some (.own a):=by
 obtain⟨d,z,ne,ob,mA,n,r,q⟩:=(show Be P w H h a (.ins C dx fs) from hok a _ e)
 exact⟨mA,⟨ob,n,ne⟩,r,q,z,d⟩
end
structure Cls (K:PySem.W.Frag) (C:Addr):Prop where
 pg:PySem.W.plainGet K C Str.empty=true
 hd:PySem.W.hasDictIn K C=true
 po:PySem.W.plainOver K C=true
 sa:PySem.W.findIn K (.ref C) "__setattr__"=some (some (.builtin "object.__setattr__"))
theorem Cls.get {K:PySem.W.Frag}{C:Addr}(c:Cls K C)(f:Str):PySem.W.plainGet K C f=true:=c.pg
def IY (K:PySem.W.Frag)(C:Addr)(f:Str):Prop:=PySem.W.findIn K (.ref C) f=some none
theorem IY.taker {K:PySem.W.Frag}{C:Addr}{f:Str}(n:IY K C f):PySem.W.takerIn K C f=some none:=by
 unfold PySem.W.takerIn;rw[show PySem.W.findIn K (.ref C) f=some none from n];rfl
structure Meth (K:PySem.W.Frag) (C:Addr) (m:Str) (f:Addr):Prop where
 at_:PySem.W.findIn K (.ref C) m=some (some (.ref f))
 fn:PySem.W.isFn K (.ref f)=true
 kp:PySem.W.keepIn K (.ref f)=true
section
variable {X:Cx}{pins:List (Addr×Obj)}{σ:St}{H:Hp}{s:Shared}{a C dx:Addr}{fs:List (Str×V)}{f:Str}{v:V}{A:Around}{E:Value->Shared->Prop}
theorem Ry {b:Bool} {Q:Value->Shared->Prop} (I:Inv X pins σ H s) (e:H a=some (.ins C dx fs)) (c:Cls X.K C) (n:IY X.K C f) (l:fs.lookup f=some v)
  (h:∀u s',Inv X pins σ H s'->RelV v u->Q u s'):wpAny (model X.prog X.w) A (getAttr (.ref a) f b) Q E s:=by
 obtain⟨mA,O,r,_,_,_⟩:=LC I.hok e;obtain⟨u,hu,ru⟩:=Ho.some_of (v:=v) (o:=mA f) (by rw[<-l];exact r f);exact get_map I.kIn O (c.get f) c.hd n hu (N3 ru) (h u _ (I.tok _) ru)
theorem IU {m:Str} {g:Addr} {pl:Sem Bool} {Q:Value×List Value->Shared->Prop} (I:Inv X pins σ H s) (e:H a=some (.ins C dx fs)) (c:Cls X.K C) (k:Meth X.K C m g) (l:fs.lookup m=none)
  (h:Q (.ref g,[.ref a]) s):wpAny (model X.prog X.w) A (getMethod (.ref a) m pl) Q E s:=by
 obtain⟨mA,O,r,_,_,_⟩:=LC I.hok e;have hn:mA m=none:=Ho.none_of (by rw[<-l];exact r m);exact TC I.kIn O (c.get m) k.at_ k.fn hn h
theorem QS {y:V} {u:Value} {Q:Unit->Shared->Prop} (I:Inv X pins σ H s) (e:H a=some (.ins C dx fs)) (c:Cls X.K C) (n:IY X.K C f) (hl:fs.length<1000) (ry:RelV y u)
  (h:∀s',Inv X pins σ (upd H a (.ins C dx (IA f y fs))) s'->Q () s'):wpAny (model X.prog X.w) A (setAttr (.ref a) f u) Q E s:=by
 obtain⟨mA,O,r,wi,_,ho⟩:=LC I.hok e;have hz:(fs.map (·.1)).length<=sizeLine:=by rw[ae,aZ];omega
 refine Vs I.kIn O c.sa c.po n.taker c.hd wi hz λh' O' sb=>h _ ?_
 have hd:∃o,h'.get? dx=some o:=let⟨o,_,_,e',_⟩:=O'.ns;⟨o,e'⟩;refine I.write (x:=a) (e:=dx) (by rw[e];exact True.intro) (.inr ho) (λb q hb z=>(sb.2 b hb).trans z) hd ?_;refine⟨by rw[An O.ne];exact ho,?_,O.ne,O'.obj,_,O'.ns,λg=>?_,λg hg=>?_⟩
 ·have:=Lo f y fs;omega
 ·show Ho ((IA f y fs).lookup g) (if g=f then some u else mA g);rw[Ll]
  by_cases q:g=f
  ·rw[aw q,aw q];exact ry
  ·rw[aj q,aj q];exact r g
 ·by_cases q:g=f
  ·rw[q];exact(Kp f y fs).1
  ·refine(Kp f y fs).2 g (wi g λz=>hg ?_);show(if g=f then some u else mA g)=none;rw[aj q];exact z
theorem Inv.made (I:Inv X pins σ H s):Inv X pins σ (upd (upd H s.heap.objs.size (.own (s.heap.objs.size+1))) (s.heap.objs.size+1) (.ins C s.heap.objs.size []))
  { s with heap:=(s.heap.push PySem.W.emptyDict).push (PySem.W.instObj C s.heap.objs.size) }:=by
 have e1:(s.heap.push PySem.W.emptyDict).get? s.heap.objs.size=some PySem.W.emptyDict:=ay s.heap rfl;have e2:((s.heap.push PySem.W.emptyDict).push (PySem.W.instObj C s.heap.objs.size)).get? (s.heap.objs.size+1)=some (PySem.W.instObj C s.heap.objs.size):=by
  have:=ay (s.heap.push PySem.W.emptyDict) (o:=PySem.W.instObj C s.heap.objs.size) rfl
  rwa [bF] at this
 have e3:(s.heap.push PySem.W.emptyDict).Ns s.heap.objs.size (λ_=>none):=⟨PySem.W.emptyDict,#[],_,e1,rfl,(λe he=>absurd he (by simp)),λ_=>rfl⟩
 have I1:=I.laid (a:=s.heap.objs.size) (o:=.own (s.heap.objs.size+1)) (h':=s.heap.push PySem.W.emptyDict) (t':=s.toks) (λb u q=>ah _ q) (aq _) ⟨_,e1⟩;refine I1.laid (a:=s.heap.objs.size+1) (o:=.ins C s.heap.objs.size []) (t':=s.toks) (λb u q=>ah _ q) (dC (bF _ _)) ?_;have ne:s.heap.objs.size≠s.heap.objs.size+1:=aO (eu _);refine⟨by rw[An ne,Ac],bw _,ne,e2,λ_=>none,(Heap.Ns1.of_empty e3).at λo q=>ah _ q,λ_=>True.intro,λy hy=>absurd rfl hy⟩
theorem Se {prog:Program} {w:World} {env:Env} {e:Expr} {f:Str} {pos:Pos} {s:Shared} {Q:Value->Shared->Prop} (hb:attributeBase e f env (eval e env)=eval e env)
  (h:wpAny (model prog w) A (eval e env) (λo s₁=>wpAny (model prog w) A (getAttr o f true) Q E s₁) E s):wpAny (model prog w) A (eval (.Attribute e f pos) env) Q E s:=
 Attribute_any_ h (by rw[arm_eval_Attribute,hb])
end
def YX (K:PySem.W.Frag)(ta:TE)(f:Str):TE:=λσ H Q=>ta σ H λx H1=>∃a C dx fs v,x=.ref a/\H1 a=some (.ins C dx fs)/\Cls K C/\IY K C f/\fs.lookup f=some v/\Q v H1
def YE (K:PySem.W.Frag)(ta tv:TE)(f:Str):TS:=λD σ H=>tv σ H λy H1=>ta σ H1 λx H2=>∃a C dx fs,x=.ref a/\H2 a=some (.ins C dx fs)/\Cls K C/\IY K C f/\fs.length<1000/\
 D.nx σ (upd H2 a (.ins C dx (IA f y fs)))
section
variable {X:Cx}{o e value:Expr}{f:Str}{pos pos' tpos:Pos}{ta tv:TE}
theorem Ez (he:PE X e ta)(hb:attributeBase e f X.env (eval e X.env)=eval e X.env):PE X (.Attribute e f pos) (YX X.K ta f):=by
 intro pins s σ H Q I h;refine Se hb (Bv (he pins s σ H _ I h) λu s1 z9=>?_);obtain⟨x,H1,I1,rx,a,C,dx,fs,v,ex,ea,c,n,l,q⟩:=z9;subst ex;obtain rfl:u=Value.ref a:=rx;exact Ry I1 ea c n l λu' s2 I2 ru=>⟨v,H1,I2,ru,q⟩
theorem IW (ha:PE X o ta)(hv:PE X value tv)(hs:swapsWith value (some (.Attribute o f pos')) pos.line X.env=pure false):PS X (.Assign [.Attribute o f pos'] value pos) (YE X.K ta tv f):=by
 intro pins s σ H D I h;refine eX (Bv (hv pins s σ H _ I h) λu s1 ⟨y,H1,I1,ry,q⟩=>Bv (ha pins s1 σ H1 _ I1 q) λov s2 z9=>?_) hs;obtain⟨x,H2,I2,rx,a,C,dx,fs,ex,ea,c,n,l,q2⟩:=z9;subst ex;obtain rfl:ov=Value.ref a:=rx;exact QS I2 ea c n l ry λs3 I3=>⟨σ,_,I3,q2⟩
theorem Wd {pl:Sem Bool} {m:Str} {apos:Pos} {args:List Expr} {pins:List (Addr×Obj)} {s:Shared} {σ:St} {H:Hp} {Q:Value->Shared->Prop} {te:TE} (he:PE X e te) (I:Inv X pins σ H s)
  (h:te σ H λx H1=>∃a C dx fs g,x=.ref a/\H1 a=some (.ins C dx fs)/\Cls X.K C/\Meth X.K C m g/\fs.lookup m=none/\
   ∀s1,Inv X pins σ H1 s1->wpAny (model X.prog X.w) X.A (callWith pos (.ref g) [.ref a] (backTo pos (starEach args X.env)) (backToKw pos (keywordEach [] X.env))) Q X.xe s1)
  (ht:eval (.Call (.Attribute e m apos) args [] pos) X.env=(do
   let ov <-eval e X.env
   standAt apos.atName
   let(f,first) <-holding [ov] (getMethod ov m pl)
   callWith pos f first (backTo pos (starEach args X.env)) (backToKw pos (keywordEach [] X.env)))) :
  wpAny (model X.prog X.w) X.A (eval (.Call (.Attribute e m apos) args [] pos) X.env) Q X.xe s:=by
 refine dG (pl:=pl) (Bv (he pins s σ H _ I h) λu s1 z9=>?_) ht;obtain⟨x,H1,I1,rx,a,C,dx,fs,g,ex,ea,c,k,l,q⟩:=z9;subst ex;obtain rfl:u=Value.ref a:=rx;exact IU I1 ea c k l (q s1 I1)
end
section
variable {X:Cx}{pins:List (Addr×Obj)}{σ:St}{H:Hp}{s:Shared}{A:Around}{E:Value->Shared->Prop}{Q:Value->Shared->Prop}{c:Value}{b:Bool}
inductive TyOf (K:PySem.W.Frag) (H:Hp):V->Value->Prop where
 |non:TyOf K H .non (.type "NoneType")
 |bl (x:Bool):TyOf K H (.bl x) (.type "bool")
 |int (i:Int):TyOf K H (.int i) (.type "int")
 |str (x:Str):TyOf K H (.str x) (.type "str")
 |flt (x:UInt64):TyOf K H (.flt x) (.type "float")
 |lst {a:Addr} {xs:List V} (e:H a=some (.lst xs)):TyOf K H (.ref a) (.type "list")
 |frz {a:Addr} {o:Obj} {xs:List V} (e:H a=some (.frz o (.lst xs))):TyOf K H (.ref a) (.type "list")
 |tup {a:Addr} {xs:List V} (e:H a=some (.tup xs)):TyOf K H (.ref a) (.type "tuple")
 |dK {a:Addr} {kvs:List (Key×V)} (e:H a=some (.dK kvs)):TyOf K H (.ref a) (.type "dict")
 |dT {a:Addr} {kvs:List (List Key×V)} (e:H a=some (.dT kvs)):TyOf K H (.ref a) (.type "dict")
 |ins {a C dx:Addr} {fs:List (Str×V)} (e:H a=some (.ins C dx fs)) (cl:Cls K C) (ha:PySem.W.findIn K (.ref C) "__class__"=some (some (.builtin "object.__class__")))
   (hn:PySem.W.specialIn K (.builtin "object.__class__") "__get__"=some (some (.builtin "getset_descriptor.__get__"))) (htk:PySem.W.takesIn K (.builtin "object.__class__")=some true)
   (hm:PySem.W.mroIn K C (.type "object")=some true):TyOf K H (.ref a) (.ref C)
theorem Th {x:V}{u t:Value}(I:Inv X pins σ H s)(rx:RelV x u)(ty:TyOf X.K H x t)(e:PySem.W.kitOne X.K t c=some b)(h:∀tk,Q (.bool b) { s with toks:=tk }) :
  wpAny (model X.prog X.w) A (call (.builtin "isinstance") [u,c]) Q E s:=by
 cases ty with
 |non=>cases(show u=Value.none from rx);exact bx PySem.W.kitx_none I.kIn True.intro e (λz=>nomatch z) h
 |bl y=>cases(show u=Value.bool y from rx);exact bx PySem.W.kitx_bool I.kIn True.intro e (λz=>nomatch z) h
 |int i=>obtain⟨t,q⟩:=(show ∃t,u=Value.int i t from rx);cases q;exact bx PySem.W.kitx_int I.kIn True.intro e (λz=>nomatch z) h
 |str y=>obtain⟨t,q⟩:=(show ∃t,u=Value.str y t from rx);cases q;exact bx PySem.W.kitx_str I.kIn True.intro e (λz=>nomatch z) h
 |flt y=>obtain⟨t,q⟩:=(show ∃t,u=Value.float y t from rx);cases q;exact bx PySem.W.kitx_float I.kIn True.intro e (λz=>nomatch z) h
 |@lst a xs ea=>
  cases(show u=Value.ref a from rx);obtain⟨_,_,n,_,h1⟩:=(show Be X.prog X.w H s.heap a (.lst xs) from I.hok a _ ea)
  exact bx PySem.W.kitx_list I.kIn ⟨_,h1,rfl⟩ e (λz=>nomatch z) h
 |@frz a ob xs ea=>
  cases(show u=Value.ref a from rx);obtain⟨_,_,_,n,_,h1⟩:=(show Be X.prog X.w H s.heap a (.frz ob (.lst xs)) from I.hok a _ ea)
  exact bx PySem.W.kitx_list I.kIn ⟨_,h1,rfl⟩ e (λz=>nomatch z) h
 |@tup a xs ea=>
  cases(show u=Value.ref a from rx);obtain⟨_,_,_,p⟩:=(show Be X.prog X.w H s.heap a (.tup xs) from I.hok a _ ea)
  obtain⟨o,h1,h2,_⟩:=p;exact bx PySem.W.kitx_tuple I.kIn ⟨o,h1,h2⟩ e (λz=>nomatch z) h
 |@dK a kvs ea=>
  cases(show u=Value.ref a from rx);obtain⟨_,_,vs,_,p⟩:=(show Be X.prog X.w H s.heap a (.dK kvs) from I.hok a _ ea)
  obtain⟨o,es,ep,h1,h2,_⟩:=p;exact bx PySem.W.kitx_dict I.kIn ⟨o,h1,h2.1⟩ e (λz=>nomatch z) h
 |@dT a kvs ea=>
  cases(show u=Value.ref a from rx);obtain⟨_,_,xs,_,o,es,ep,h1,h2,_⟩:=(show Be X.prog X.w H s.heap a (.dT kvs) from I.hok a _ ea)
  exact bx PySem.W.kitx_dict I.kIn ⟨o,h1,h2.1⟩ e (λz=>nomatch z) h
 |@ins a C dx fs ea cl ha hn htk hm=>
  cases(show u=Value.ref a from rx);obtain⟨mA,O,_⟩:=LC I.hok ea;obtain⟨od,J,_⟩:=O.look;exact bx (PySem.W.kitx_own (cl.get _) cl.hd ha hn htk hm) I.kIn J e (λz=>nomatch z) h
end
structure Room (k:Nat) (A:Around):Prop where
 hd:A.handled=none
 dp:A.depth+3*k+5<recursionLimit
 un:A.units+16*k+200<cLine
theorem Room.mono {j k:Nat}{A:Around}(r:Room k A)(h:j<=k):Room j A:=⟨r.hd,by have:=r.dp;omega,by have:=r.un;omega⟩
theorem Room.deeper {k:Nat}{A:Around}(r:Room (k+1) A)(env:Env):Room k (A.deeper env):=
 ⟨r.hd,by have:=r.dp;show A.depth+1+3*k+5<_;omega,by have:=r.un;show A.units+3+16*k+200<_;omega⟩
theorem QY {A:Around}{C:Addr}{us:List Value}{kw:List (Str×Value)}:(A.under (.builtin "type.__call__" ⟨.ref C::us,kw⟩)).depth=A.depth+1:=by
 first|rfl|simp[Around.under,Code.weight,Code.isCreation,Code.isGuard,Code.isCaller,Code.frames,Code.isFrame,guardIds]
theorem QP {A:Around}{C:Addr}{us:List Value}{kw:List (Str×Value)}:(A.under (.builtin "type.__call__" ⟨.ref C::us,kw⟩)).units=A.units+1:=by
 first|rfl|simp[Around.under,Code.cUnits,Code.frames,Code.isFrame]
theorem Room.make {k:Nat}{A:Around}(r:Room (k+1) A)(C:Addr)(us:List Value)(kw:List (Str×Value)):Room k (A.under (.builtin "type.__call__" ⟨.ref C::us,kw⟩)):=
 ⟨r.hd,by have:=r.dp;rw[QY];omega,by have:=r.un;rw[QP];omega⟩
theorem Room.depth {k:Nat}{A:Around}(r:Room k A):A.depth<recursionLimit:=by have:=r.dp;omega
theorem Room.units {k:Nat}{A:Around}(r:Room k A):A.units+64<cLine:=by have:=r.un;omega
def Ug:TA:=λ_ H Q=>Q [] H
def UQ (ta:TE)(tr:TA):TA:=λσ H Q=>ta σ H λx H1=>tr σ H1 λxs H2=>Q (x::xs) H2
section
variable {X:Cx}{e:Expr}{es:List Expr}{te:TE}{t:TA}{pos:Pos}
theorem Ab:PA X [] Ug:=λ_ _ _ _ H Q I h=>eT ⟨[],H,I,.nil,h⟩
theorem Aa (ha:PE X e te)(hr:PA X es t)(hs:starEach (e::es) X.env=(false,eval e X.env)::starEach es X.env:=by rfl):PA X (e::es) (UQ te t):=by
 intro pos pins s σ H Q I h;rw[hs];show wpAny _ _ (spliced ((false,eval e X.env)::backTo pos (starEach es X.env))) _ _ s;refine eN (Bv (ha pins s σ H _ I h) λu s1 ⟨x,H1,I1,r1,q1⟩=>?_);exact Bv (hr pos pins s1 σ H1 _ I1 q1) λus s2 ⟨xs,H2,I2,r2,q2⟩=>⟨x::xs,H2,I2,.cons r1 r2,q2⟩
def Uk (t:TA):TE:=λσ H Q=>t σ H λxs H1=>xs.length<=sizeLine/\∀p,H1 p=none->Q (.ref p) (upd H1 p (.tup xs))
def YS (t:TA):TE:=λσ H Q=>t σ H λxs H1=>xs.length<=sizeLine/\∀p,H1 p=none->Q (.ref p) (upd H1 p (.lst xs))
theorem AF {x1}(h:PA X es t):PE X (.Tuple es x1 pos) (Uk t):=by
 intro pins s σ H Q I hq;refine wpAny_Tuple_spliced (Bv (h pos pins s σ H _ I hq) λus s1 ⟨xs,H1,I1,r,z,q⟩=>⟨by rw[<-r.length];exact z,?_⟩);have hf:H1 s1.heap.objs.size=none:=I1.hok.fresh (aq _);refine⟨.ref s1.heap.objs.size,upd H1 s1.heap.objs.size (.tup xs),I1.laid (t':=s1.toks) (λb u e=>ah _ e) (aq _) ?_,rfl,q _ hf⟩;exact⟨z,us,r,⟨_,ay _ rfl,rfl,_,rfl,λ_=>rfl⟩⟩
theorem BU (h:PA X es t):PE X (.List es pos) (YS t):=by
 intro pins s σ H Q I hq;refine wpAny_List_spliced (Bv (h pos pins s σ H _ I hq) λus s1 ⟨xs,H1,I1,r,z,q⟩=>⟨by rw[<-r.length];exact z,?_⟩);have hf:H1 s1.heap.objs.size=none:=I1.hok.fresh (aq _);refine⟨.ref s1.heap.objs.size,upd H1 s1.heap.objs.size (.lst xs),I1.laid (t':=s1.toks) (λb u e=>ah _ e) (aq _) ?_,rfl,q _ hf⟩;exact⟨z,us,0,r,ay _ rfl⟩
end
abbrev Sp:=List V->Hp->VK->XK->Prop
abbrev RH:=List Env->Hp->Shared->XK->Value->Shared->Prop
structure Env0 (P:Program) (w:World) (K:PySem.W.Frag) (mg:Str->Option Value) (base:Heap) (A:Around) (outer:List Env) (s:Shared) (H:Hp):Prop where
 frames:A.frames=some outer
 mod:Mod K mg base
 bs:∀b o,base.get? b=some o->s.heap.get? b=some o/\H b=none
 bsz:base.objs.size<=s.heap.objs.size
 funs:s.heap.FunFrames base outer
 frf:∀b∈G9 outer,H b=none
 hok:Im P w H s.heap
 bare:AllBare s.gens
def CE (outer:List Env)(P:Program)(w:World)(H:Hp)(s:Shared)(Q:VK)(u:Value)(s':Shared):Prop:=
 ∃v H',s'.os=s.os/\AllBare s'.gens/\Un (G9 outer) [] H H' s.heap s'.heap/\Im P w H' s'.heap/\RelV v u/\Q v H'
def CR (CX:RH)(outer:List Env)(P:Program)(w:World)(H:Hp)(s:Shared)(Q:VK)(E:XK)(r:Result)(s':Shared):Prop:=
 match r with
 | .ok (.ret u)=>CE outer P w H s Q u s'
 | .ok _=>False
 | .error e=>CX outer H s E e s'
structure FnOk (P:Program) (w:World) (K:PySem.W.Frag) (mg:Str->Option Value) (base:Heap) (CX:RH) (k:Nat) (f:Addr) (fd:FuncData) (ps:List Str) (sp:Sp):Prop where
 len:∀vs H Q E,sp vs H Q E->vs.length=ps.length
 run:∀(A:Around) (outer:List Env) (s:Shared) (H:Hp) (args:Args) (us:List Value) (vs:List V) (Q:VK) (E:XK),Room k A->Env0 P w K mg base A outer s H->BindsTo s fd args (ps.zip us)->AW vs us->sp vs H Q E->
  codeAny (model P w) A (.call (.ref f) args) (CR CX outer P w H s Q E) s
theorem Env0.make {P:Program}{w:World}{K:PySem.W.Frag}{mg:Str->Option Value}{base:Heap}{A:Around}{outer:List Env}{s:Shared}{H:Hp}(e:Env0 P w K mg base A outer s H)(C:Addr)(us:List Value)(kw:List (Str×Value)) :
  Env0 P w K mg base (A.under (.builtin "type.__call__" ⟨.ref C::us,kw⟩)) outer s H:=⟨by first|exact e.frames|(simpa [Around.under,Code.envs,Code.isFrame,pushEnvs] using e.frames),e.mod,e.bs,e.bsz,e.funs,e.frf,e.hok,e.bare⟩
section
variable {X:Cx}{pins:List (Addr×Obj)}{σ:St}{H:Hp}{s s':Shared}
theorem Inv.env0 (I:Inv X pins σ H s):Env0 X.prog X.w X.K X.mg X.base X.A X.stack s H:=
 ⟨I.ok.frames,I.ok.mod,I.bs,aV I.ok.bsz I.sz,I.stack,I.stkFree,I.hok,I.bare⟩
theorem Inv.after {Q:VK}{u:Value}(I:Inv X pins σ H s)(h:CE X.stack X.prog X.w H s Q u s'):EP X pins σ Q u s':=by
 obtain⟨v,H',os,bare,un,hok,r,q⟩:=h;obtain⟨hh,g,d,t,os'⟩:=s';obtain rfl:os'=s.os:=os;exact⟨v,H',I.call (h':=hh) (g':=g) (d':=d) (t':=t) (ch:=[]) un hok bare (λb z=>absurd z (by simp)),r,q⟩
end
def Sh (sp:Sp)(dvs:List V)(E:XK)(t:TA):TE:=λσ H Q=>t σ H λvs H1=>sp (vs++dvs) H1 Q E
def RK (C:Addr)(m:Str)(sp:Sp)(dvs:List V)(E:XK)(ta:TE)(t:TA):TE:=λσ H Q=>ta σ H λx H1=>∃a dx fs,x=.ref a/\H1 a=some (.ins C dx fs)/\fs.lookup m=none/\
 t σ H1 λvs H2=>sp (x::(vs++dvs)) H2 Q E
def Wi (C:Addr)(sp:Sp)(dvs:List V)(E:XK)(t:TA):TE:=λσ H Q=>t σ H λvs H1=>∀x dx,H1 x=none->H1 dx=none->dx≠x->
 sp (.ref x::(vs++dvs)) (upd (upd H1 dx (.own x)) x (.ins C dx [])) (λv H2=>v=.non/\Q (.ref x) H2) E
def Binds (K:PySem.W.Frag)(fd:FuncData)(ps:List Str)(ds:List Value):Prop:=
 ∀(s:Shared) (us:List Value),K.In s.heap->(us++ds).length=ps.length->BindsTo s fd ⟨us,[]⟩ (ps.zip (us++ds))
theorem Binds.all {K:PySem.W.Frag}{fd:FuncData}{ps:List Str}(h:∀us:List Value,us.length=ps.length->bindArgs fd ⟨us,[]⟩=pure (ps.zip us)):Binds K fd ps []:=λs us _ hl=>by
 rw[bz] at hl ⊢;exact .of_eq (h us hl)
def FL (CX:RH)(X:Cx)(E:XK):Prop:=∀(pins:List (Addr×Obj)) (σ:St) (H:Hp) (s:Shared) (e:Value) (s':Shared),Inv X pins σ H s->CX X.stack H s E e s'->X.xe e s'
section
variable {X:Cx}{CX:RH}{k:Nat}{f C:Addr}{fd:FuncData}{ps:List Str}{sp:Sp}{dvs:List V}{ds:List Value}{E:XK}{x m:Str}{p pos apos:Pos}{e o:Expr}{es:List Expr}{ta:TE}{t:TA}
theorem UV {pins:List (Addr×Obj)} {σ:St} {H:Hp} {s:Shared} {Q:VK} {us:List Value} {vs:List V} (F:FnOk X.prog X.w X.K X.mg X.base CX k f fd ps sp) (hr:Room k X.A) (hb:Binds X.K fd ps ds) (hd:AW dvs ds) (hx:FL CX X E)
  (I:Inv X pins σ H s) (r:AW vs us) (h:sp (vs++dvs) H Q E):wpAny (model X.prog X.w) X.A (call (.ref f) us) (EP X pins σ Q) X.xe s:=by
 have r2:AW (vs++dvs) (us++ds):=r.append hd;have hl:(us++ds).length=ps.length:=by rw[<-r2.length];exact F.len _ _ _ _ h
 refine cg (cA (F.run X.A X.stack s H ⟨us,[]⟩ (us++ds) (vs++dvs) Q E hr I.env0 (hb s us I.kIn hl) r2 h) λr s' hq=>?_);cases r with
 |error e=>exact hx pins σ H s e s' I hq
 |ok fl=>
  cases fl with
  |ret u=>exact I.after hq
  |next=>exact False.elim hq
  |brk=>exact False.elim hq
  |cont=>exact False.elim hq
theorem R8 (F:FnOk X.prog X.w X.K X.mg X.base CX k f fd ps sp) (hr:Room k X.A) (hg:Gl X x) (hm:X.mg x=some (.ref f)) (hk:PySem.W.keepIn X.K (.ref f)=true) (hb:Binds X.K fd ps ds) (hd:AW dvs ds) (hx:FL CX X E)
  (ha:PA X (e::es) t) (hdb:(x == ("__debug__":Str))=false:=by decide) (he:starEach (e::es) X.env=(false,eval e X.env)::starEach es X.env:=by rfl) (hpl:(backTo pos (starEach es X.env)).any (·.1)=false:=by rfl) :
  PE X (.Call (.Name x p) (e::es) [] pos) (Sh sp dvs E t):=by
 intro pins s σ H Q I h;refine bM (Ff I hg hm ?_ hdb);refine cB (h₀:=X.base) I.ok.mod.kin hk (Bv (ha pos pins s σ H _ I h) λus s1 ⟨vs,H1,I1,r,q⟩=>⟨I1.kIn,?_⟩) he hpl;exact UV F hr hb hd hx I1 r q
theorem RR {pl:Sem Bool} (he:PE X o ta) (c:Cls X.K C) (hm:Meth X.K C m f) (F:FnOk X.prog X.w X.K X.mg X.base CX k f fd ps sp) (hr:Room k X.A) (hb:Binds X.K fd ps ds) (hd:AW dvs ds) (hx:FL CX X E) (ha:PA X (e::es) t)
  (hst:starEach (e::es) X.env=(false,eval e X.env)::starEach es X.env:=by rfl) (hpl:(backTo pos (starEach es X.env)).any (·.1)=false:=by rfl)
  (ht:eval (.Call (.Attribute o m apos) (e::es) [] pos) X.env=(do
   let ov <-eval o X.env
   standAt apos.atName
   let(f,first) <-holding [ov] (getMethod ov m pl)
   callWith pos f first (backTo pos (starEach (e::es) X.env)) (backToKw pos (keywordEach [] X.env))):=by rfl) :
  PE X (.Call (.Attribute o m apos) (e::es) [] pos) (RK C m sp dvs E ta t):=by
 intro pins s σ H Q I h;refine dG (pl:=pl) (Bv (he pins s σ H _ I h) λu s1 z9=>?_) ht;obtain⟨x,H1,I1,rx,a,dx,fs,ex,ea,l,q⟩:=z9;subst ex;obtain rfl:u=Value.ref a:=rx;refine IU I1 ea c hm l ?_;refine cB (first:=[.ref a]) (h₀:=X.base) I.ok.mod.kin hm.kp (Bv (ha pos pins s1 σ H1 _ I1 q) λus s2 ⟨vs,H2,I2,r,q2⟩=>⟨I2.kIn,?_⟩) hst hpl;exact UV (us:=.ref a::us) (vs:=.ref a::vs) F hr hb hd hx I2 (.cons rfl r) q2
structure Mk (K:PySem.W.Frag) (C f:Addr):Prop where
 makes:PySem.W.makesIn K C=true
 init:PySem.W.findIn K (.ref C) "__init__"=some (some (.ref f))
 fn:PySem.W.isFn K (.ref f)=true
 kp:PySem.W.keepIn K (.ref C)=true
theorem UN {pins:List (Addr×Obj)} {σ:St} {H:Hp} {s:Shared} {Q:VK} {us:List Value} {vs:List V} (M:Mk X.K C f) (F:FnOk X.prog X.w X.K X.mg X.base CX k f fd ps sp) (hr:Room (k+1) X.A) (hb:Binds X.K fd ps ds) (hd:AW dvs ds)
  (hx:FL CX X E) (I:Inv X pins σ H s) (r:AW vs us)
  (h:∀x dx,H x=none->H dx=none->dx≠x->sp (.ref x::(vs++dvs)) (upd (upd H dx (.own x)) x (.ins C dx [])) (λv H2=>v=.non/\Q (.ref x) H2) E) :
  wpAny (model X.prog X.w) X.A (call (.ref C) us) (EP X pins σ Q) X.xe s:=by
 have hq:=h (s.heap.objs.size+1) s.heap.objs.size (I.hok.fresh (dI _)) (I.hok.fresh (aq _)) (aO (eu _));have I2:=Inv.made (C:=C) I;have r2:AW (V.ref (s.heap.objs.size+1)::(vs++dvs)) (Value.ref (s.heap.objs.size+1)::(us++ds)):=.cons rfl (r.append hd);have hl:(Value.ref (s.heap.objs.size+1)::us++ds).length=ps.length:=by
  have e:=r2.length;rw[F.len _ _ _ _ hq] at e;exact e.symm
 refine cg (UK (f:=f) I.kIn M.makes M.init (bL.mp M.fn) (cA (F.run _ X.stack _ _ ⟨Value.ref (s.heap.objs.size+1)::us,[]⟩ (Value.ref (s.heap.objs.size+1)::(us++ds)) _ _ E (hr.make C us [])
  (I2.env0.make C us []) (hb _ (Value.ref (s.heap.objs.size+1)::us) I2.kIn hl) r2 hq) λr s' hq'=>?_))
 cases r with
 |error e=>exact hx pins σ _ _ e s' I2 hq'
 |ok fl=>
  cases fl with
  |ret u=>
   obtain⟨v,H',I3,rv,ev,q3⟩:=I2.after hq';subst ev;exact⟨rv,⟨V.ref (s.heap.objs.size+1),H',I3,rfl,q3⟩⟩
  |next=>exact False.elim hq'
  |brk=>exact False.elim hq'
  |cont=>exact False.elim hq'
theorem UU (M:Mk X.K C f) (F:FnOk X.prog X.w X.K X.mg X.base CX k f fd ps sp) (hr:Room (k+1) X.A) (hg:Gl X x) (hm:X.mg x=some (.ref C)) (hb:Binds X.K fd ps ds) (hd:AW dvs ds) (hx:FL CX X E)
  (hdb:(x == ("__debug__":Str))=false:=by decide):PE X (.Call (.Name x p) [] [] pos) (Wi C sp dvs E Ug):=by
 intro pins s σ H Q I h;refine bM (Ff I hg hm ?_ hdb);exact PySem.W.callWith_K0 I.kIn M.kp (UN (us:=[]) M F hr hb hd hx I .nil h)
end
structure FnScope (N P:List Str) (sc:Scope):Prop where
 kind:sc.kind=.function
 co:sc.isCoroutine=false
 gen:sc.isGenerator=false
 nd:N.Nodup
 pre:N.take P.length=P
 par:∀x∈P,sc.names.lookup x=some .local\/sc.names.lookup x=some .cell
 nofree:∀y∈sc.names,y.2≠.free
theorem NK {kindOf:Str->Option NameKind}{x:Str}:∀{binds:List (Str×Value)} {m:Str->Option Value},(∀v,(x,v)∉binds)->bindL kindOf binds m x=m x
 |[],_,_=>rfl
 |(n,v)::r,m,h=>by
  unfold bindL;rw[NK λw hw=>h w (aK _ hw)]
  split
  ·have:x≠n:=by rintro rfl;exact h v aM
   simp[this]
  ·rfl
theorem NQ {kindOf:Str->Option NameKind}{x:Str}:∀{binds:List (Str×Value)} {m:Str->Option Value},(∀v,(x,v)∉binds)->bindC kindOf binds m x=m x
 |[],_,_=>rfl
 |(n,v)::r,m,h=>by
  unfold bindC;rw[NQ λw hw=>h w (aK _ hw)]
  split
  ·rfl
  ·have:x≠n:=by rintro rfl;exact h v aM
   simp[this]
theorem NU {kindOf:Str->Option NameKind}{x:Str}{v:Value}:∀{P:List Str} {vs:List Value} {i:Nat} {m:Str->Option Value},P.Nodup->P[i]?=some x->vs[i]?=some v->kindOf x=some .local->
  bindL kindOf (P.zip vs) m x=some v
 |[],_,_,_,_,h,_,_=>by simp at h
 |_::_,[],_,_,_,_,h,_=>by simp at h
 |p::P,w::vs,0,m,nd,h1,h2,hk=>by
  simp at h1 h2;subst h1;subst h2;show bindL kindOf ((p,w)::P.zip vs) m p=_;unfold bindL;rw[NK λv hv=>(bo.mp nd).1 (cN hv).1,aw hk];simp
 |p::P,w::vs,i+1,m,nd,h1,h2,hk=>by
  show bindL kindOf ((p,w)::P.zip vs) m x=_;unfold bindL;exact NU (i:=i) (bo.mp nd).2 (by simpa using h1) (by simpa using h2) hk
theorem NW {kindOf:Str->Option NameKind}{x:Str}{v:Value}:∀{P:List Str} {vs:List Value} {i:Nat} {m:Str->Option Value},P.Nodup->P[i]?=some x->vs[i]?=some v->kindOf x≠some .local->
  bindC kindOf (P.zip vs) m x=some v
 |[],_,_,_,_,h,_,_=>by simp at h
 |_::_,[],_,_,_,_,h,_=>by simp at h
 |p::P,w::vs,0,m,nd,h1,h2,hk=>by
  simp at h1 h2;subst h1;subst h2;show bindC kindOf ((p,w)::P.zip vs) m p=_;unfold bindC;rw[NQ λv hv=>(bo.mp nd).1 (cN hv).1,aj hk];simp
 |p::P,w::vs,i+1,m,nd,h1,h2,hk=>by
  show bindC kindOf ((p,w)::P.zip vs) m x=_;unfold bindC;exact NW (i:=i) (bo.mp nd).2 (by simpa using h1) (by simpa using h2) hk
def start (N:List Str)(vs:List V):St:=vs.map some++List.replicate (N.length-vs.length) none
def AZ (CX:RH)(P:Program)(w:World)(K:PySem.W.Frag)(mg:Str->Option Value)(base:Heap)(N:List Str)(qual:Str)(scope:Scope)(f:Addr)(cd:Value)(A:Around)(outer:List Env)(s:Shared)(H:Hp)(E:XK):Cx where
 prog:=P
 w:=w
 K:=K
 mg:=mg
 base:=base
 A:=A.deeper (envOfC qual scope s.heap.objs.size f cd)
 N:=N
 s₀:=s
 H₀:=H
 env:=envOfC qual scope s.heap.objs.size f cd
 outer:=outer
 stack:=envOfC qual scope s.heap.objs.size f cd::outer
 ex:=[]
 calm:=true
 fn:=λ_=>true
 pn:=[]
 xe:=λe s'=>wpAny (model P w) (A.deeper (envOfC qual scope s.heap.objs.size f cd)) (leaving (envOfC qual scope s.heap.objs.size f cd) e) (λ_ s''=>CX outer H s E e s'') (λe' s''=>CX outer H s E e' s'') s'
theorem Pu {sc:Scope}{n:Nat}{x:Str}(h:sc.names.lookup x=some .cell):∃c,(cellsFrom n sc.names []).lookup x=some c:=by
 have q:=ft sc.names n [] (.inl h);exact cu.mp q
theorem S7 {CX:RH} {P:Program} {w:World} {K:PySem.W.Frag} {mg:Str->Option Value} {base:Heap} {N ps:List Str} {qual:Str} {scope:Scope} {f:Addr} {cd:Value} {A:Around} {outer:List Env} {s s1:Shared} {H:Hp} {E:XK} {us:List Value} {vs:List V}
  (S:FnScope N ps scope) (hd:A.handled=none) (e0:Env0 P w K mg base A outer s H) (hl:vs.length=ps.length) (r:AW vs us)
  (x:InCallC s s.heap.objs.size (bindL (envOfC qual scope s.heap.objs.size f cd).kindOf (ps.zip us) λ_=>none) (cellsFrom (s.heap.objs.size+1) scope.names []) (bindC (envOfC qual scope s.heap.objs.size f cd).kindOf (ps.zip us) λ_=>none) s1) :
  Inv (AZ CX P w K mg base N qual scope f cd A outer s H E) [] (start N vs) H s1:=by
 have hpl:ps.length<=N.length:=by have:=congrArg List.length S.pre;rw[ba] at this;omega
 obtain⟨h1,tk,rfl,hk⟩:=x.done;have noA:∀b:Addr,b∉(AZ CX P w K mg base N qual scope f cd A outer s H E).ex:=λb z=>absurd (show b∈([]:List Addr) from z) (by simp)
 refine⟨⟨e0.mod,S.kind,rfl,rfl,aq _,λy z c h1 h2=>?_,λy hy=>?_,λy c _ h=>?_,λ_=>hd,Around.frames_deeper e0.frames,.inr ⟨rfl,rfl⟩,λb z=>absurd z (noA b),e0.bs,e0.bsz,λb _ _=>noA b,λb z=>absurd z (noA b),e0.funs,e0.frf⟩,
  rfl,e0.bare,Un.kept hk,⟨_,x.toInCall.ns,λi y v h1 h2 h3=>?_⟩,λy c h=>⟨_,x.cell y c h⟩,e0.hok.fresh (aq _),λy c h=>?_,λp hp=>absurd (show p∈([]:List (Addr×Obj)) from hp) (by simp),e0.hok.kept hk,?_⟩
 ·exact name_of_addr x.apart (bD h1) (bD h2)
 ·have hy:scope.names.lookup y=some .cell\/scope.names.lookup y=some .free:=hy;rcases hy with hy|hy
  ·exact Pu hy
  ·exact absurd rfl (S.nofree _ (bD hy))
 ·exact d4 (x.above y c (bD h))
 ·have hi:i<vs.length:=by
   unfold start at h2
   by_cases hi:i<vs.length
   ·exact hi
   ·rw[bS (by simpa using hi)] at h2;rw[List.getElem?_replicate] at h2
    split at h2<;>cases h2
  have ha:vs[i]?=some v:=by
   unfold start at h2;rw[bV (by simpa using hi),aJ] at h2;cases e:vs[i]? with
   |none=>rw[e] at h2;cases h2
   |some a=>rw[e] at h2;cases h2;rfl
  obtain⟨u,hu,rv⟩:=r.get ha;have hp:ps[i]?=some y:=by
   rw[<-S.pre,List.getElem?_take_of_lt (by omega)];exact h1
  have ndP:ps.Nodup:=by rw[<-S.pre];exact S.nd.sublist (List.take_sublist _ _)
  refine⟨u,rv,?_⟩;rcases S.par y (aU hp) with k|k
  ·exact .inl ⟨k,NU ndP hp hu k⟩
  ·obtain⟨c,e⟩:=Pu (n:=s.heap.objs.size+1) k;refine .inr ⟨.inl k,c,e,?_⟩;have q:=x.cell y c e;rw[NW ndP hp hu (by show scope.names.lookup y≠_;rw[k];decide)] at q;exact q
 ·exact e0.hok.fresh (d4 (x.above y c (bD h)))
 ·unfold start;show _=N.length;rw[aW,ae,List.length_replicate];omega
theorem Uo {CX:RH} {P:Program} {w:World} {K:PySem.W.Frag} {mg:Str->Option Value} {base:Heap} {k:Nat} {f:Addr} {name qual:Str} {params:Arguments} {body:List Stmt} {scope:Scope} {dV kV doc pm cdv ct oc:Value} {an od:Option Addr}
  {osl:Array (Option Value)} {N ps:List Str} {sp:Sp} (lk:K.lookup f=some ⟨oc,od,.func (PySem.W.fnOf name qual params body scope dV kV doc pm an cdv ct),osl⟩) (hcd:PySem.W.codeIn K cdv qual=true) (S:FnScope N ps scope)
  (len:∀vs H Q E,sp vs H Q E->vs.length=ps.length)
  (hbody:∀(A:Around) (outer:List Env) (s:Shared) (H:Hp) (vs:List V) (Q:VK) (E:XK),Room k (A.deeper (envOfC qual scope s.heap.objs.size f cdv))->sp vs H Q E->
   ∃t,On (AZ CX P w K mg base N qual scope f cdv A outer s H E) body t/\t { nx:=λ_ H'=>Q .non H',rt:=Q } (start N vs) H) :
  FnOk P w K mg base CX (k+1) f (PySem.W.fnOf name qual params body scope dV kV doc pm an cdv ct) ps sp:=by
 refine⟨len,λA outer s H args us vs Q E hr e0 hb r hsp=>?_⟩;have hl:=len _ _ _ _ hsp;have KX:K.In s.heap:=e0.mod.kin.keeps λb o e=>(e0.bs b o e).1
 have lim:s.heap.NoLimit:=e0.mod.nolimit.keeps λb o e=>(e0.bs b o e).1
 have hkind:∀y∈ps.zip us,scope.names.lookup y.1=some .local\/(scope.names.lookup y.1=some .cell/\((cellsFrom (s.heap.objs.size+1) scope.names []).lookup y.1).isSome=true):=λ⟨n,v⟩ hy=>by
  rcases S.par n (cN hy).1 with q|q
  ·exact .inl q
  ·exact .inr ⟨q,ft _ _ _ (.inl q)⟩
 refine codeAny_call_function hr.depth (KX _ _ lk) rfl S.co S.gen rfl (PySem.W.codeRec_of KX hcd) (hb _ _ _ _ ?_);refine wpAny_newFunctionEnv_cells S.kind hkind λenv he s1 x=>?_
 subst he;refine⟨lim.keeps x.toInCall.keep,codeAny_func ?_⟩;obtain⟨t,ht,hq⟩:=hbody A outer s H vs Q E (hr.deeper _) hsp;have I:Inv (AZ CX P w K mg base N qual scope f cdv A outer s H E) [] (start N vs) H s1:=S7 S hr.hd e0 hl r x;refine aR (ht [] s1 (start N vs) H _ I hq) (λfl s' hs=>?_) λe s' hs=>hs
 have fin:∀{σ':St} {H':Hp} {v:V} {u:Value},Inv (AZ CX P w K mg base N qual scope f cdv A outer s H E) [] σ' H' s'->RelV v u->Q v H'->CE outer P w H s Q u s':=
  λ{σ' H' v u} J rv q=>⟨v,H',J.os,J.bare,J.base,J.hok,rv,q⟩
 cases fl with
 |ret u=>
  obtain⟨v,σ',H',J,rv,q⟩:=hs;exact fin J rv q
 |next=>
  obtain⟨σ',H',J,q⟩:=hs;exact fin (v:=V.non) (u:=Value.none) J rfl q
 |brk=>
  obtain⟨_,_,_,q⟩:=hs;exact False.elim q
 |cont=>
  obtain⟨_,_,_,q⟩:=hs;exact False.elim q
section
variable {X:Cx}{x:Str}{p pos:Pos}{e:Expr}{es:List Expr}{t:TA}{id T:String}{r:List V->Hp->VK->Prop}
def Zc (r:List V->Hp->VK->Prop)(t:TA):TE:=λσ H Q=>t σ H λvs H1=>r vs H1 Q
theorem AM (hc:FO X (.builtin id) r) (hg:Gl X x) (hm:X.mg x=none) (hv:bootBuiltins x=some (.builtin id)) (ha:PA X (e::es) t) (hn:x≠"__name__":=by decide) (hdb:(x == ("__debug__":Str))=false:=by decide)
  (he:starEach (e::es) X.env=(false,eval e X.env)::starEach es X.env:=by rfl) (hpl:(backTo pos (starEach es X.env)).any (·.1)=false:=by rfl):PE X (.Call (.Name x p) (e::es) [] pos) (Zc r t):=by
 intro pins s σ H Q I h;refine bM (Kr I hg hm hv ?_ hn hdb);exact PyProof.Rows.callWith_builtin1 (Bv (ha pos pins s σ H _ I h) λus s1 ⟨vs,H1,I1,r1,q1⟩=>hc pins s1 σ H1 vs us Q I1 r1 q1) he hpl
theorem EF (hc:FO X (.type T) r) (hg:Gl X x) (hm:X.mg x=none) (hv:bootBuiltins x=some (.type T)) (ha:PA X (e::es) t) (hn:x≠"__name__":=by decide) (hdb:(x == ("__debug__":Str))=false:=by decide)
  (he:starEach (e::es) X.env=(false,eval e X.env)::starEach es X.env:=by rfl) (hpl:(backTo pos (starEach es X.env)).any (·.1)=false:=by rfl):PE X (.Call (.Name x p) (e::es) [] pos) (Zc r t):=by
 intro pins s σ H Q I h;refine bM (Kr I hg hm hv ?_ hn hdb);exact eO (Bv (ha pos pins s σ H _ I h) λus s1 ⟨vs,H1,I1,r1,q1⟩=>hc pins s1 σ H1 vs us Q I1 r1 q1) he hpl
end
end L2
namespace HT
open PySem PyProof.Rows
section
variable {prog:Program}{w:World}{A:Around}{E:Value->Shared->Prop}{s:Shared}
theorem V9 {t b:Addr} {vs ws:List Value} {Q:Value->Shared->Prop} (ht:IsTup s.heap t vs.toArray) (hb:IsTup s.heap b ws.toArray) (hv:vs≠[])
  (h1:ws=[]->Q (.ref t) s) (h2:ws≠[]->Q (.ref s.heap.objs.size) { s with heap:=s.heap.push { cls:=.type "tuple",data:=.seq (vs++ws).toArray } })
  (hsz:vs.length+ws.length<=sizeLine):wpAny (model prog w) A (binaryOp .Add (.ref t) (.ref b)) Q E s:=by
 obtain⟨⟨cls,dd,data,sl⟩,ho,hc,n,hd⟩:=id ht;obtain⟨⟨cls2,dd2,data2,sl2⟩,ho2,hc2,n2,hd2⟩:=id hb;simp only at hc hd hc2 hd2;subst hc hd hc2 hd2;have e:vs.toArray++ws.toArray=(vs++ws).toArray:=by simp
 by_cases hw:ws=[]
 ·exact eQ ⟨_,ho,rfl⟩ ⟨_,ho2,rfl⟩ fb fQ dA dy (dg _ _)
   (tuple_addW1 t b vs.toArray ws.toArray n n2 dd dd2 sl sl2 (by simpa using hv) (by simp[hw])) ⟨ho,ho2,h1 hw⟩
 ·refine eQ ⟨_,ho,rfl⟩ ⟨_,ho2,rfl⟩ fb fQ dA dy (dg _ _)
   (tuple_addW2 t b vs.toArray ws.toArray n n2 dd dd2 sl sl2 (by simpa using hv) (by simpa using hw) (by rw[aF,aF];exact hsz)) ⟨ho,ho2,?_⟩
  rw[e];exact h2 hw
def Ea (n d:Nat):Option Int->Nat
 |none=>d
 |some v=>if v<0 then(v+(n:Int)).toNat else min v.toNat n
theorem Qd (n d:Nat):Ea n d none=d:=rfl
theorem RE (n d k:Nat):Ea n d (some (k:Int))=min k n:=by
 show(if(k:Int)<0 then((k:Int)+(n:Int)).toNat else min (k:Int).toNat n)=min k n;rw[aj (by omega),d7]
theorem Xd (n d:Nat)(hd:d<=n)(o:Option Int):Ea n d o<=n:=by
 cases o with
 |none=>exact hd
 |some v=>
  show(if v<0 then(v+(n:Int)).toNat else min v.toNat n)<=n
  by_cases hv:v<0
  ·rw[aw hv];omega
  ·rw[aj hv];exact Nat.min_le_right _ _
theorem Sg (v:Int)(n d:Nat):(if v<0 then max (v+(n:Int)) 0 else min v (n:Int))=((Ea n d (some v):Nat):Int):=by
 show(if v<0 then max (v+(n:Int)) 0 else min v (n:Int))=(((if v<0 then(v+(n:Int)).toNat else min v.toNat n):Nat):Int)
 by_cases hv:v<0
 ·simp only[if_pos hv];omega
 ·simp only[if_neg hv];omega
theorem Rp (lo hi:Option Int)(n:Nat):Builtin.Slice.sliceAdjust lo hi 1 (n:Int)=(((Ea n 0 lo:Nat):Int),((Ea n n hi:Nat):Int)):=by
 have h1:¬((1:Int)<0):=by omega
 unfold Builtin.Slice.sliceAdjust;simp only[h1,if_false];refine Prod.ext ?_ ?_
 ·cases lo with
  |none=>rfl
  |some v=>exact Sg v n 0
 ·cases hi with
  |none=>rfl
  |some v=>exact Sg v n n
theorem QI (i j:Nat):Builtin.Slice.slicePlaces (i:Int) (j:Int) 1=j-i:=by
 unfold Builtin.Slice.slicePlaces;have h1:(1:Int)>0:=by omega
 simp only[h1,if_true,Int.ediv_one]
 split<;>omega
theorem L8 {v:Value}{o:Option Int}{Q:Option Int->Shared->Prop}(p:IsPart v o)(h:Q o s):wpAny (model prog w) A (Builtin.Slice.slicePartIndex v) Q E s:=by
 cases p with
 |none=>exact slicePart_none h
 |int i t=>exact slicePart_int h
theorem K2 {sl:Addr} {vl vu:Value} {lo hi:Option Int} {n:Nat} {Q:Int×Int×Nat->Shared->Prop} (hs:s.heap.IsSliceOf sl vl vu .none) (pl:IsPart vl lo) (pu:IsPart vu hi)
  (h:Q (((Ea n 0 lo:Nat):Int),1,Ea n n hi-Ea n 0 lo) s):wpAny (model prog w) A (Builtin.Slice.sliceApplied (.ref sl) (pure (n:Int))) Q E s:=by
 obtain⟨os,hos,hcs,hds⟩:=id hs;unfold Builtin.Slice.sliceApplied Builtin.Slice.sliceFields;refine af (af (wpAny_field hos hds (x:=vl) rfl (af (wpAny_field hos hds (x:=vu) rfl (af (wpAny_field hos hds (x:=.none) rfl (ar ?_)))))));refine af (slicePart_none ?_);show wpAny _ _ (if((1:Int) == 0)=true then _ else _) _ _ s;rw[aj (by decide)];refine af (L8 pl (af (L8 pu (af (ar ?_)))));show wpAny _ _ (match Builtin.Slice.sliceAdjust lo hi 1 (n:Int) with|(lo,hi)=>pure (lo,(1:Int),Builtin.Slice.slicePlaces lo hi 1)) _ _ s;rw[Rp lo hi n];show wpAny _ _ (pure (((Ea n 0 lo:Nat):Int),(1:Int),Builtin.Slice.slicePlaces ((Ea n 0 lo:Nat):Int) ((Ea n n hi:Nat):Int) 1)) _ _ s;rw[QI];exact ar h
theorem UC (xs:Array Value)(i k:Nat):((List.range k).filterMap λ(m:Nat)=>xs[((i:Int)+(m:Int)*1).toNat]?).toArray=((xs.toList.drop i).take k).toArray:=by
 have e:(λ(m:Nat)=>xs[((i:Int)+(m:Int)*1).toNat]?)=λm=>xs[i+m]?:=by
  funext m
  have:((i:Int)+(m:Int)*1).toNat=i+m:=by omega
  rw[this]
 rw[e];have:=pick_run xs i k;rw[List.filterMap_map] at this;have e2:((λx=>xs[x]?)∘λx=>i+x)=λm=>xs[i+m]?:=rfl
 rw[e2] at this;rw[this]
theorem Jz {t sl:Addr} {items:Array Value} {vl vu:Value} {lo hi:Option Int} {Q:Value->Shared->Prop} (ht:IsTup s.heap t items) (hs:s.heap.IsSliceOf sl vl vu .none) (pl:IsPart vl lo) (pu:IsPart vu hi)
  (hw:¬(Ea items.size 0 lo=0/\Ea items.size items.size hi=items.size))
  (h:Q (.ref s.heap.objs.size) { s with heap:=s.heap.push { cls:=.type "tuple",data:=.seq ((items.toList.drop (Ea items.size 0 lo)).take (Ea items.size items.size hi-Ea items.size 0 lo)).toArray } })
  (hsz:items.size<=sizeLine):wpAny (model prog w) A (getItem (.ref t) (.ref sl)) Q E s:=by
 have htake:sizeOk (.seq ((items.toList.drop (Ea items.size 0 lo)).take (Ea items.size items.size hi-Ea items.size 0 lo)).toArray):=by
  show((items.toList.drop (Ea items.size 0 lo)).take (Ea items.size items.size hi-Ea items.size 0 lo)).toArray.size<=sizeLine;rw[aF,ba,bX,dU];omega
 have hj:Ea items.size items.size hi<=items.size:=Xd _ _ (aq _) hi;obtain⟨os,hos,hcs,hds⟩:=id hs;have hTs:s.TypeIs (.ref sl) "slice":=⟨os,hos,hcs⟩
 unfold getItem
 try with_reducible refine bh ?_
 first|refine af (ar ?_)|skip
 refine af (wpAny_sequenceKey ht.typeIs (by decide) ?_);refine af (wpAny_callSpecial?_slot (name:=Str.ofString "__getitem__") ht.typeIs d9
  (e8 d9 ht.typeIs entry_tuple_getitem ?_ (args_tuple_getitem _ _)))
 show wpAny _ _ (Builtin.Tuple.tupleItemsOf (.ref t) >>= _) _ _ s;refine af (tupleItemsOf_ ht ?_);refine af (wpAny_typeOf hTs ?_);rw[aw (by decide)];refine af (K2 hs pl pu ?_);have hno:¬((((Ea items.size 0 lo:Nat):Int) == 0&&(1:Int) == 1&&(Ea items.size items.size hi-Ea items.size 0 lo) == items.size)=true):=by
  intro q;rw[aX,aX] at q;have q1:((Ea items.size 0 lo:Nat):Int)=0:=eq_of_beq q.1.1;have q2:Ea items.size items.size hi-Ea items.size 0 lo=items.size:=eq_of_beq q.2;exact hw ⟨by omega,by omega⟩
 show wpAny _ _ (if(((Ea items.size 0 lo:Nat):Int) == 0&&(1:Int) == 1&&(Ea items.size items.size hi-Ea items.size 0 lo) == items.size)=true then _ else _) _ _ s;rw[aj hno,UC]
 first
  |exact af (m:=Builtin.Tuple.tupleExact _) (cp (ar ⟨_,rfl,ar h⟩) htake)
  |exact af (m:=Builtin.Tuple.tupleExact _) (cp (af (ar (ar ⟨_,rfl,ar h⟩))) htake)
  |exact af (af (m:=Builtin.Tuple.tupleExact _) (cp (ar (ar ⟨_,rfl,ar h⟩)) htake))
  |exact af (af (m:=Builtin.Tuple.tupleExact _) (cp (ar ⟨_,rfl,ar h⟩) htake))
end
end HT
namespace L2
open PySem PySem.Spec PyProof.Rows
abbrev TO:=St->Hp->(Option Int->Hp->Prop)->Prop
def PO (X:Cx)(e:Option Expr)(t:TO):Prop:=
 ∀(pins:List (Addr×Obj)) (s:Shared) (σ:St) (H:Hp) (Q:Option Int->Hp->Prop),Inv X pins σ H s->t σ H Q->
  wpAny (model X.prog X.w) X.A (evalPart e X.env) (λu s'=>∃o H',Inv X pins σ H' s'/\IsPart u o/\Q o H') X.xe s
def V1:TO:=λ_ H Q=>Q none H
def Yd (t:TE):TO:=λσ H Q=>t σ H λx H1=>∃i,x=.int i/\Q (some i) H1
section
variable {X:Cx}{e:Expr}{te:TE}{lo hi:Option Expr}{tl th:TO}{pos p2:Pos}
theorem FX:PO X none V1:=by
 intro pins s σ H Q I h;rw[evalPart_none];exact ar ⟨none,H,I,.none,h⟩
theorem EI (h:PE X e te):PO X (some e) (Yd te):=by
 intro pins s σ H Q I hw;rw[evalPart_some];refine Bv (h pins s σ H _ I hw) λu s1 ⟨x,H1,I1,r1,q1⟩=>?_
 obtain⟨i,rfl,q⟩:=q1;obtain⟨t,rfl⟩:=r1;exact⟨some i,H1,I1,.int i t,q⟩
def Yp (X:Cx)(r:V->Option Int->Option Int->Hp->VK->Prop):Prop:=
 ∀(pins:List (Addr×Obj)) (s:Shared) (σ:St) (H:Hp) (x:V) (v vl vu:Value) (lo hi:Option Int) (sl:Addr) (Q:VK),Inv X pins σ H s->RelV x v->s.heap.IsSliceOf sl vl vu .none->IsPart vl lo->IsPart vu hi->r x lo hi H Q->
  ∃T id,typeLookup (.type T) "__getitem__"=pure (some (.builtin id))/\s.TypeIs v T/\wpAny (model X.prog X.w) X.A (getItem v (.ref sl)) (EP X pins σ Q) X.xe s
def Zg (r:V->Option Int->Option Int->Hp->VK->Prop)(te:TE)(tl th:TO):TE:=λσ H Q=>te σ H λx H1=>tl σ H1 λl H2=>th σ H2 λu H3=>r x l u H3 Q
theorem DZ {r:V->Option Int->Option Int->Hp->VK->Prop}(hr:Yp X r)(he:PE X e te)(hl:PO X lo tl)(hu:PO X hi th):PE X (.Subscript e (.Slice lo hi none p2) pos) (Zg r te tl th):=by
 intro pins s σ H Q I h;refine Subscript_ (Bv (he pins s σ H _ I h) λv s1 ⟨x,H1,I1,r1,q1⟩=>?_);refine wpAny_Slice (Bv (hl pins s1 σ H1 _ I1 q1) λvl s2 ⟨l,H2,I2,pl,q2⟩=>Bv (hu pins s2 σ H2 _ I2 q2) λvu s3 ⟨u,H3,I3,pu,q3⟩=>?_);rw[evalPart_none];refine ar ?_;have I4:Inv X pins σ H3 { s3 with heap:=s3.heap.push { cls:=.type "slice",data:=.fields #[vl,vu,.none] } }:=I3.kept (t':=s3.toks) λb ob q=>ah _ q
 obtain⟨T,id,hT,ht,hg⟩:=hr pins { s3 with heap:=s3.heap.push { cls:=.type "slice",data:=.fields #[vl,vu,.none] } } σ H3 x v vl vu l u s3.heap.objs.size Q I4 r1 (Heap.IsSliceOf.new ..) pl pu q3;show wpAny (model X.prog X.w) X.A (subscriptTail e (.Slice lo hi none p2) v (.ref s3.heap.objs.size)) (EP X pins σ Q) X.xe { s3 with heap:=s3.heap.push { cls:=.type "slice",data:=.fields #[vl,vu,.none] } };exact tail_any (ops:=[.ref s3.heap.objs.size,v]) ht hT hg (by with_unfolding_all rfl)
def Lx (xs:List V)(lo hi:Option Int):List V:=(xs.drop (HT.Ea xs.length 0 lo)).take (HT.Ea xs.length xs.length hi-HT.Ea xs.length 0 lo)
theorem Ld (xs:List V)(lo hi:Option Int):(Lx xs lo hi).length<=xs.length:=by
 unfold Lx;rw[ba,bX];omega
def YF (K:PySem.W.Frag):V->Option Int->Option Int->Hp->VK->Prop:=λx lo hi H Q=>∃a xs,x=.ref a/\AJ K H a xs/\
 ¬(HT.Ea xs.length 0 lo=0/\HT.Ea xs.length xs.length hi=xs.length)/\∀p,H p=none->Q (.ref p) (upd H p (.tup (Lx xs lo hi)))
theorem Ru:Yp X (YF X.K):=by
 intro pins s σ H x v vl vu lo hi sl Q I rx hs pl pu h;obtain⟨a,xs,rfl,hx,hw,q⟩:=h;cases rx;obtain⟨its,r,ht,hz⟩:=I.tuple hx;have hlen:its.toArray.size=xs.length:=by rw[aF];exact r.length.symm
 refine⟨"tuple",_,PyProof.Rows.slot_tuple_getitem.lookup,ht.typeIs,?_⟩;refine HT.Jz ht hs pl pu (by rw[hlen];exact hw) ?_ (by rw[hlen];exact hz);rw[hlen];refine⟨.ref s.heap.objs.size,_,I.laid (t':=s.toks) (o:=.tup (Lx xs lo hi)) (λb ob q=>ah _ q) (aq _) ?_,rfl,q _ (I.hok.fresh (aq _))⟩;exact⟨aV (Ld xs lo hi) hz,_,(r.drop (HT.Ea xs.length 0 lo)).take (HT.Ea xs.length xs.length hi-HT.Ea xs.length 0 lo),M8.new _ _⟩
def Yh (K:PySem.W.Frag):R2:=λx y H Q=>∃a b xs ys,x=.ref a/\y=.ref b/\AJ K H a xs/\AJ K H b ys/\xs≠[]/\xs.length+ys.length<=sizeLine/\
 (ys=[]->Q (.ref a) H)/\(ys≠[]->∀p,H p=none->Q (.ref p) (upd H p (.tup (xs++ys))))
theorem AW.nil_iff {xs:List V}{us:List Value}(r:AW xs us):us=[]↔xs=[]:=by
 cases r with
 |nil=>simp
 |cons _ _=>simp
theorem Wb:Hr X (binaryOp .Add) (Yh X.K):=by
 intro pins s σ H x y v u Q I rx ry h;obtain⟨a,b,xs,ys,rfl,rfl,ha,hb,hx,hz,q1,q2⟩:=h;cases rx;cases ry;obtain⟨its,r1,p1,_⟩:=I.tuple ha;obtain⟨its2,r2,p2,_⟩:=I.tuple hb;refine HT.V9 p1 p2 (λz=>hx (r1.nil_iff.mp z)) (λz=>⟨.ref a,H,I,rfl,q1 (r2.nil_iff.mp z)⟩) (λz=>?_) (by rw[<-r1.length,<-r2.length];exact hz);refine⟨.ref s.heap.objs.size,_,I.laid (t':=s.toks) (o:=.tup (xs++ys)) (λb ob q=>ah _ q) (aq _) ?_,rfl,q2 (λw=>z (r2.nil_iff.mpr w)) _ (I.hok.fresh (aq _))⟩;exact⟨by rw[aW];exact hz,_,r1.append r2,M8.new _ _⟩
end
def We (n:Nat)(i:Int):Option Nat:=if 0<=i then(if i<n then some i.toNat else none) else if -(n:Int)<=i then some (i+n).toNat else none
def Jv {α:Type}(xs:List α)(i:Int):Option α:=(We xs.length i).bind λj=>xs[j]?
theorem RX {n:Nat}{i:Int}{j:Nat}(h:We n i=some j):seqIndex? i n=some j/\j<n/\-(n:Int)<=i/\i<n:=by
 unfold We at h
 by_cases h0:0<=i
 ·rw[aw h0] at h
  by_cases h1:i<n
  ·rw[aw h1] at h;have e:i.toNat=j:=aI h;exact⟨by rw[fg h0 h1,e],by omega,by omega,h1⟩
  ·rw[aj h1] at h;cases h
 ·rw[aj h0] at h
  by_cases h1:-(n:Int)<=i
  ·rw[aw h1] at h;have e:(i+n).toNat=j:=aI h;exact⟨by rw[seqIndex_neg (by omega) h1,e],by omega,h1,by omega⟩
  ·rw[aj h1] at h;cases h
theorem Oy {α:Type}{xs:List α}{i:Int}{v:α}(h:Jv xs i=some v):∃j,seqIndex? i xs.length=some j/\xs[j]?=some v/\j<xs.length/\-(xs.length:Int)<=i/\i<xs.length:=by
 unfold Jv at h;cases e:We xs.length i with
 |none=>rw[e] at h;cases h
 |some j=>
  rw[e] at h;obtain⟨h1,h2,h3,h4⟩:=RX e;exact⟨j,h1,h,h2,h3,h4⟩
theorem Af {α:Type}{xs:List α}{j:Nat}{v:α}(h:xs[j]?=some v):Jv xs (j:Int)=some v:=by
 have hj:j<xs.length:=(aH.mp h).1;have e:We xs.length (j:Int)=some j:=by
  unfold We;rw[aw (by omega),aw (by omega)];simp
 unfold Jv;rw[e];exact h
def VM (b:Expr):Prop:=∀o i,subscripted b false o i=operate [o,i] (getItem o i)
def Xo (X:Cx)(r:R2):Prop:=
 ∀(value slice:Expr) (pins:List (Addr×Obj)) (s:Shared) (σ:St) (H:Hp) (x y:V) (v u:Value) (Q:VK),Inv X pins σ H s->RelV x v->RelV y u->r x y H Q->
  subscripted slice false v u=operate [v,u] (getItem v u)->wpAny (model X.prog X.w) X.A (subscriptTail value slice v u) (EP X pins σ Q) X.xe s
def VX (X:Cx)(id:String)(r:V->List V->Hp->VK->Prop):Prop:=
 ∀(pins:List (Addr×Obj)) (s:Shared) (σ:St) (H:Hp) (x:V) (xs:List V) (v:Value) (us:List Value) (Q:VK),Inv X pins σ H s->RelV x v->AW xs us->r x xs H Q->
  wpAny (model X.prog X.w) X.A (call (.builtin id) (v::us)) (EP X pins σ Q) X.xe s
section
variable {X:Cx}{a b:Expr}{ta tb:TE}{pos:Pos}
theorem Aj {r:R2}(hr:Xo X r)(ha:PE X a ta)(hb:PE X b tb)(hs:VM b):PE X (.Subscript a b pos) (X9 r ta tb):=by
 intro pins s σ H Q I h;exact Subscript_ (Xf ha hb I h λv u s2 x y H2 I2 rx ry q=>hr a b pins s2 σ H2 x y v u Q I2 rx ry q (hs _ _))
def XD (K:PySem.W.Frag):R2:=λx y H Q=>∃p xs i v,x=.ref p/\y=.int i/\AR K H p xs/\Jv xs i=some v/\Q v H
def WX (K:PySem.W.Frag):R2:=λx y H Q=>∃p xs i v,x=.ref p/\y=.int i/\AJ K H p xs/\Jv xs i=some v/\Q v H
def Y3:R2:=λx y H Q=>∃z i c,x=.str z/\y=.int i/\z.length<=sizeLine/\Jv z.cps.toList i=some c/\Q (.str ⟨#[c]⟩) H
theorem AQ:Xo X (XD X.K):=by
 intro value slice pins s σ H x y v u Q I rx ry h hs;obtain⟨p,xs,i,z,rfl,rfl,hq,he,q⟩:=h;cases rx;obtain⟨t,rfl⟩:=ry;obtain⟨its,r,pl,hz⟩:=I.list hq;obtain⟨j,h1,h2,h3,h4,h5⟩:=Oy he;obtain⟨w,ew,rw'⟩:=r.get h2;have hl:=r.length;have hn:=J8;have fin:EP X pins σ Q w s:=⟨z,H,I,rw',q⟩
 by_cases h0:0<=i
 ·have hj:i.toNat=j:=by
   rw[fg h0 h5] at h1;exact aI h1
  exact item_listR pl.isList h0 (by omega) (by rw[hj];simpa using ew) fin hs
 ·have hj:(i+(its.toArray.size:Int)).toNat=j:=by
   rw[seqIndex_neg (by omega) h4] at h1;rw[aF,<-hl];exact aI h1
  exact eE (x:=w) pl.isList.typeIs slot_list_getitem.lookup
   (wpAny_getItem_list_neg (Q:=λr s'=>r=w/\EP X pins σ Q r s') pl.isList (by omega) (by rw[aF]<;>omega) (by omega) (by rw[hj];simpa using ew) ⟨rfl,fin⟩) hs
theorem Ak:Xo X (WX X.K):=by
 intro value slice pins s σ H x y v u Q I rx ry h hs;obtain⟨p,xs,i,z,rfl,rfl,hq,he,q⟩:=h;cases rx;obtain⟨t,rfl⟩:=ry;obtain⟨its,r,pl,hz⟩:=I.tuple hq;obtain⟨j,h1,h2,h3,h4,h5⟩:=Oy he;obtain⟨w,ew,rw'⟩:=r.get h2;have hl:=r.length;have hn:=J8;have fin:EP X pins σ Q w s:=⟨z,H,I,rw',q⟩
 exact eE (x:=w) pl.typeIs slot_tuple_getitem.lookup
  (getItem_tuple (j:=j) (Q:=λr s'=>r=w/\EP X pins σ Q r s') pl (by omega) (by omega) (by rw[aF,<-hl];exact h1) (by simpa using ew) ⟨rfl,fin⟩) hs
theorem Ra:Xo X Y3:=by
 intro value slice pins s σ H x y v u Q I rx ry h hs;obtain⟨z,i,c,rfl,rfl,hz,he,q⟩:=h;obtain⟨t,rfl⟩:=rx;obtain⟨t',rfl⟩:=ry;obtain⟨j,h1,h2,h3,h4,h5⟩:=Oy he;have hl:z.cps.toList.length=z.length:=by simp[Str.length]
 rw[hl] at h1 h4 h5;have hn:=J8;exact tail_any (eG s z t) slot_str_getitem.lookup (getItem_str (c:=c) (by
  have e1:decide (i < -(2^63:Int))=false:=aG (by omega);have e2:decide (i≥2^63)=false:=aG (by omega);rw[e1,e2,Bool.or_false]) (by rw[h1];simpa using h2) ⟨.str ⟨#[c]⟩,H,I.tok _,⟨_,rfl⟩,q⟩) hs
theorem QG (its:List Value)(n j:Nat)(u:Value):Obj.mapSeq (·.setIfInBounds j u) { cls:=.type "list",data:=.seq its.toArray n }={ cls:=.type "list",data:=.seq (its.set j u).toArray n }:=by
 simp[Obj.mapSeq]
theorem Inv.lst {pins:List (Addr×Obj)}{σ:St}{H:Hp}{s:Shared}{p:Addr}{xs:List V}(I:Inv X pins σ H s)(h:H p=some (.lst xs)) :
  ∃(its:List Value) (n:Nat),AW xs its/\s.heap.get? p=some { cls:=.type "list",data:=.seq its.toArray n }/\xs.length<=sizeLine:=by
 obtain⟨z,its,n,r,e⟩:=I.hok p _ h;exact⟨its,n,r,e,z⟩
theorem Inv.lstUpd {pins:List (Addr×Obj)} {σ:St} {H:Hp} {s:Shared} {p:Addr} {xs ys:List V} {its its':List Value} {n n':Nat} {f:Obj->Obj} (I:Inv X pins σ H s) (h:H p=some (.lst xs))
  (ho:s.heap.get? p=some { cls:=.type "list",data:=.seq its.toArray n }) (hf:f { cls:=.type "list",data:=.seq its.toArray n }={ cls:=.type "list",data:=.seq its'.toArray n' }) (r:AW ys its') (hz:ys.length<=sizeLine) (t:Nat) :
  Inv X pins σ (upd H p (.lst ys)) { s with heap:=s.heap.update p f,toks:=t }:=by
 have e:(s.heap.update p f).get? p=some { cls:=.type "list",data:=.seq its'.toArray n' }:=by
  rw[Heap.get?_update_self f ho (by rw[hf]<;>rfl),hf]
 refine I.write (x:=p) (e:=p) (by rw[h];trivial) (.inl rfl) (λb u hb q=>(aY _ _ (Ne.symm hb)).trans q) ⟨_,e⟩ ?_;exact⟨hz,its',n',r,e⟩
def Yk:V->V->V->Hp->(Hp->Prop)->Prop:=λo i v H Q=>∃p xs k j,o=.ref p/\i=.int k/\H p=some (.lst xs)/\We xs.length k=some j/\Q (upd H p (.lst (xs.set j v)))
theorem set_list:Xz X Yk:=by
 intro pins s σ H o i v ov iv u Q I ro ri rv h;obtain⟨p,xs,k,j,rfl,rfl,hp,hj,q⟩:=h;cases ro;obtain⟨t,rfl⟩:=ri;obtain⟨its,n,r,ho,hz⟩:=I.lst hp;obtain⟨h1,h2,h3,h4⟩:=RX hj;have hl:=r.length;have hn:=J8;have I':Inv X pins σ (upd H p (.lst (xs.set j v))) { s with heap:=s.heap.update p (Obj.mapSeq (·.setIfInBounds j u)) }:=
  I.lstUpd hp ho (QG its n j u) (r.set rv j) (by rw[List.length_set];exact hz) s.toks
 by_cases h0:0<=k
 ·have hk:k.toNat=j:=by
   rw[fg h0 h4] at h1;exact aI h1
  exact PySem.W.ki_setAt ho h0 (by omega) (by rw[aF,<-hl];exact h4) (by rw[hk];exact⟨_,I',q⟩)
 ·have hk:(k+(its.toArray.size:Int)).toNat=j:=by
   rw[seqIndex_neg (by omega) h3] at h1;rw[aF,<-hl];exact aI h1
  exact PySem.W.ki_setBack ho (by omega) (by rw[aF,<-hl];exact h3) (by omega) (by rw[hk];exact⟨_,I',q⟩)
theorem Pi (lo hi:Option Int)(n:Nat):(sliceBounds lo hi none n).1=((HT.Ea n 0 lo:Nat):Int)/\(sliceBounds lo hi none n).2.1=((HT.Ea n n hi:Nat):Int)/\(sliceBounds lo hi none n).2.2=1:=by
 refine⟨?_,?_,rfl⟩
 ·cases lo with
  |none=>simp[sliceBounds,HT.Ea]
  |some i=>
   simp only[sliceBounds,HT.Ea,Option.getD_none,show(1:Int)>0 by decide,if_true]
   by_cases h:i<0
   ·simp only[h,if_true]<;>omega
   ·simp only[h,if_false]<;>omega
 ·cases hi with
  |none=>simp[sliceBounds,HT.Ea]
  |some i=>
   simp only[sliceBounds,HT.Ea,Option.getD_none,show(1:Int)>0 by decide,if_true]
   by_cases h:i<0
   ·simp only[h,if_true]<;>omega
   ·simp only[h,if_false]<;>omega
theorem M9 (its:List Value)(lo hi:Option Int):slicePick its.toArray lo hi none=((its.drop (HT.Ea its.length 0 lo)).take (HT.Ea its.length its.length hi-HT.Ea its.length 0 lo)).toArray:=by
 obtain⟨h1,h2,h3⟩:=Pi lo hi its.toArray.size;unfold slicePick;rw[h1,h2,h3];simp only[sliceRange_one,pick_run,List.size_toArray]<;>rfl
def Y1 (K:PySem.W.Frag):V->Option Int->Option Int->Hp->VK->Prop:=λx lo hi H Q=>∃a xs,x=.ref a/\AR K H a xs/\∀p,H p=none->Q (.ref p) (upd H p (.lst (Lx xs lo hi)))
theorem Ov:Yp X (Y1 X.K):=by
 intro pins s σ H x v vl vu lo hi sl Q I rx hs pl pu h;obtain⟨a,xs,rfl,hx,q⟩:=h;cases rx;obtain⟨its,r,ht,hz⟩:=I.list hx;have hlen:=r.length;refine⟨"list",_,slot_list_getitem.lookup,ht.isList.typeIs,?_⟩;refine wpAny_getItem_list_slice ht.isList hs pl pu .none (by simp) ?_ (by rw[aF]<;>omega);rw[M9,<-hlen];refine⟨.ref s.heap.objs.size,_,I.laid (t':=s.toks) (o:=.lst (Lx xs lo hi)) (λb ob q=>ah _ q) (aq _) ?_,rfl,q _ (I.hok.fresh (aq _))⟩;exact⟨aV (Ld xs lo hi) hz,_,0,(r.drop (HT.Ea xs.length 0 lo)).take (HT.Ea xs.length xs.length hi-HT.Ea xs.length 0 lo),ay _ rfl⟩
def ER:V->Bool
 | .non=>true
 | .bl _=>true
 | .int _=>true
 | .str _=>true
 |_=>false
def KS:V->V->Bool
 | .non,.non=>true
 | .bl a,.bl b=>a == b
 | .bl a,.int b=>(if a then 1 else 0) == b
 | .int a,.bl b=>a == (if b then 1 else 0)
 | .int a,.int b=>a == b
 | .str a,.str b=>a == b
 |_,_=>false
theorem KZ {A:Around}{s:Shared}{y x:V}{u v:Value}(ry:RelV y u)(rx:RelV x v)(fy:ER y=true)(fx:ER x=true):SeqAt.EqAt A s u v (KS y x):=by
 cases y with
 |non=>
  cases ry;cases x with
  |non=>cases rx;exact cW _
  |bl b=>cases rx;exact SeqAt.EqAt.none_bool b
  |int b=>obtain⟨t,rfl⟩:=rx;exact SeqAt.EqAt.none_int b t
  |str b=>obtain⟨t,rfl⟩:=rx;exact SeqAt.EqAt.none_str b t
  |_=>exact absurd (show false=true from fx) ai
 |bl a=>
  cases ry;cases x with
  |non=>cases rx;exact SeqAt.EqAt.bool_none a
  |bl b=>cases rx;exact SeqAt.EqAt.bool_bool a b
  |int b=>obtain⟨t,rfl⟩:=rx;exact SeqAt.EqAt.bool_int a b t
  |str b=>obtain⟨t,rfl⟩:=rx;exact SeqAt.EqAt.bool_str a b t
  |_=>exact absurd (show false=true from fx) ai
 |int a=>
  obtain⟨t',rfl⟩:=ry;cases x with
  |non=>cases rx;exact SeqAt.EqAt.int_none a t'
  |bl b=>cases rx;exact SeqAt.EqAt.int_bool a t' b
  |int b=>obtain⟨t,rfl⟩:=rx;exact SeqAt.EqAt.int_int a t' b t
  |str b=>obtain⟨t,rfl⟩:=rx;exact eJ a t' b t
  |_=>exact absurd (show false=true from fx) ai
 |str a=>
  obtain⟨t',rfl⟩:=ry;cases x with
  |non=>cases rx;exact SeqAt.EqAt.str_none a t'
  |bl b=>cases rx;exact SeqAt.EqAt.str_bool a t' b
  |int b=>obtain⟨t,rfl⟩:=rx;exact SeqAt.EqAt.str_int a t' b t
  |str b=>obtain⟨t,rfl⟩:=rx;exact SeqAt.EqAt.str_str a t' b t
  |_=>exact absurd (show false=true from fx) ai
 |_=>exact absurd (show false=true from fy) ai
def Rm (x:V)(u:Value):Bool:=match u with
 | .none=>KS .non x
 | .bool b=>KS (.bl b) x
 | .int i _=>KS (.int i) x
 | .str z _=>KS (.str z) x
 |_=>false
theorem Ux {x y:V}{u:Value}(r:RelV y u)(f:ER y=true):Rm x u=KS y x:=by
 cases y with
 |non=>cases r;rfl
 |bl b=>cases r;rfl
 |int i=>obtain⟨t,rfl⟩:=r;rfl
 |str z=>obtain⟨t,rfl⟩:=r;rfl
 |_=>exact absurd (show false=true from f) ai
theorem JA {x:V}:∀{xs:List V} {us:List Value},AW xs us->xs.all ER=true->us.any (Rm x)=xs.any λy=>KS y x
 |_,_,.nil,_=>rfl
 |y::xs,u::us,.cons r t,f=>by
  rw[dm,aX] at f;rw[di,di,Ux r f.1,JA t f.2]
theorem HU {A:Around}{s:Shared}{x:V}{v:Value}(rx:RelV x v)(fx:ER x=true):∀{xs:List V} {us:List Value},AW xs us->xs.all ER=true->∀u∈us,SeqAt.EqAt A s u v (Rm x u)
 |_,_,.nil,_=>λu hu=>by cases hu
 |y::xs,u::us,.cons r t,f=>λu' hu=>by
  rw[dm,aX] at f;rcases aL.mp hu with rfl|hu
  ·rw[Ux r f.1];exact KZ r rx f.1 fx
  ·exact HU rx fx t f.2 u' hu
def Wn (x:V)(xs:List V):Bool:=xs.any λy=>KS y x
def Yv (K:PySem.W.Frag)(neg:Bool):R2:=λx y H Q=>∃p xs,y=.ref p/\(AR K H p xs\/AJ K H p xs)/\ER x=true/\xs.all ER=true/\Q (.bl (if neg then !Wn x xs else Wn x xs)) H
theorem KU:Hr X (compareOp .In) (Yv X.K false):=by
 intro pins s σ H x y v u Q I rx ry h;obtain⟨p,xs,rfl,hq,fx,fs,q⟩:=h;cases ry;rcases hq with hq|hq
 ·obtain⟨its,r,pl,hz⟩:=I.list hq;refine SeqAt.in_listAt (Rm x) pl.isList (λw hw=>HU rx fx r fs w (by simpa using hw)) ⟨.bl _,H,I,rfl,?_⟩;rw[show its.toArray.any (Rm x)=its.any (Rm x) by simp,JA r fs];exact q
 ·obtain⟨its,r,pl,hz⟩:=I.tuple hq;refine SeqAt.in_tupleAt (Rm x) pl (λw hw=>HU rx fx r fs w (by simpa using hw)) ⟨.bl _,H,I,rfl,?_⟩;rw[show its.toArray.any (Rm x)=its.any (Rm x) by simp,JA r fs];exact q
theorem N9:Hr X (compareOp .NotIn) (Yv X.K true):=by
 intro pins s σ H x y v u Q I rx ry h;obtain⟨p,xs,rfl,hq,fx,fs,q⟩:=h;cases ry;rcases hq with hq|hq
 ·obtain⟨its,r,pl,hz⟩:=I.list hq;refine SeqAt.notIn_listAt (Rm x) pl.isList (λw hw=>HU rx fx r fs w (by simpa using hw)) ⟨.bl _,H,I,rfl,?_⟩;rw[show its.toArray.any (Rm x)=its.any (Rm x) by simp,JA r fs];exact q
 ·obtain⟨its,r,pl,hz⟩:=I.tuple hq;refine SeqAt.notIn_tupleAt (Rm x) pl (λw hw=>HU rx fx r fs w (by simpa using hw)) ⟨.bl _,H,I,rfl,?_⟩;rw[show its.toArray.any (Rm x)=its.any (Rm x) by simp,JA r fs];exact q
theorem Cj:FO X (.builtin "len") (λxs H Q=>∃p ys,xs=[.ref p]/\(AR X.K H p ys\/AJ X.K H p ys)/\Q (.int ys.length) H):=by
 intro pins s σ H xs us Q I r h;obtain⟨p,ys,rfl,hq,q⟩:=h;obtain⟨u,rfl,rx⟩:=vals1 r;cases rx;have hn:=J8;rcases hq with hq|hq
 ·obtain⟨its,r',pl,hz⟩:=I.list hq;have hlen:=r'.length;exact Calls.call_len_list pl.isList (by simp only[List.size_toArray]<;>omega) ⟨.int ys.length,H,I.tok _,⟨s.toks+1,by rw[aF,hlen]⟩,q⟩
 ·obtain⟨its,r',pl,hz⟩:=I.tuple hq;have hlen:=r'.length;exact len_tuple pl (by simp only[List.size_toArray]<;>omega) ⟨.int ys.length,H,I.tok _,⟨s.toks+1,by rw[aF,hlen]⟩,q⟩
theorem GV:FO X (.builtin "len") (λxs H Q=>∃z,xs=[.str z]/\z.length<=sizeLine/\Q (.int z.length) H):=by
 intro pins s σ H xs us Q I r h;obtain⟨z,rfl,hz,q⟩:=h;obtain⟨u,rfl,t,rfl⟩:=vals1 r;have hn:=J8;exact len_str (by omega) ⟨.int z.length,H,I.tok _,⟨_,rfl⟩,q⟩
theorem II:FO X (.type "tuple") (λxs H Q=>∃p ys,xs=[.ref p]/\((AR X.K H p ys/\∀l,H l=none->Q (.ref l) (upd H l (.tup ys)))\/(AJ X.K H p ys/\Q (.ref p) H))):=by
 intro pins s σ H xs us Q I r h;obtain⟨p,ys,rfl,h⟩:=h;obtain⟨u,rfl,rx⟩:=vals1 r;cases rx;rcases h with⟨hq,q⟩|⟨hq,q⟩
 ·obtain⟨its,r',pl,hz⟩:=I.list hq;have hlen:=r'.length;refine call_tuple_list pl.isList (λh' kp=>?_) (by simp only[List.size_toArray]<;>omega);have I1:Inv X pins σ H { s with heap:=h' }:=I.kept (t':=s.toks) kp;have I2:Inv X pins σ (upd H h'.objs.size (.tup ys)) { s with heap:=h'.push { cls:=.type "tuple",data:=.seq its.toArray } }:=
   I1.laid (t':=s.toks) (λb o e=>ah _ e) (aq _) (show Be X.prog X.w _ _ _ (.tup ys) from⟨hz,its,r',M8.new _ _⟩)
  exact⟨.ref h'.objs.size,_,I2,rfl,q _ (I1.hok.fresh (aq _))⟩
 ·obtain⟨its,r',pl,hz⟩:=I.tuple hq;exact call_tuple_same pl ⟨.ref p,H,I,rfl,q⟩
def Za (K:PySem.W.Frag)(T:String)(x:V)(H:Hp):Prop:=match x with
 | .str _=>T="str"
 | .int _=>T="int"
 | .ref p=>(T="list"/\∃xs,AR K H p xs)\/(T="tuple"/\∃o,K.lookup p=some o/\o.cls=.type "tuple"/\o.dict=none)\/
   (T="dict"/\((∃kvs,H p=some (.dK kvs))\/∃kvs,H p=some (.dT kvs)))\/(T="set"/\∃S n,H p=some (.set S n))
 |_=>False
theorem US {pins:List (Addr×Obj)}{σ:St}{H:Hp}{s:Shared}{T:String}{x:V}{v:Value}(I:Inv X pins σ H s)(r:RelV x v)(ty:Za X.K T x H) :
  s.TypeIs v T/\∀a,v=.ref a->∃ob,s.heap.get? a=some ob/\ob.dict=none:=by
 cases x with
 |str z=>
  obtain⟨t,rfl⟩:=r;cases(show T="str" from ty);exact⟨eG s z t,λ_ e=>nomatch e⟩
 |int i=>
  obtain⟨t,rfl⟩:=r;cases(show T="int" from ty);exact⟨typeIs_int s i t,λ_ e=>nomatch e⟩
 |ref p=>
  cases r;rcases ty with⟨rfl,xs,hq⟩|⟨rfl,o,hk,hc,hd⟩|⟨rfl,hk⟩|⟨rfl,S,n,hk⟩
  ·obtain⟨its,_,pl,_⟩:=I.list hq;refine⟨pl.isList.typeIs,λa e=>?_⟩;cases e;obtain⟨o,n,e,c,hd,_⟩:=pl;exact⟨o,e,hd⟩
  ·refine⟨⟨o,I.kIn p o hk,hc⟩,λa e=>?_⟩;cases e;exact⟨o,I.kIn _ o hk,hd⟩
  ·have z:∃o,s.heap.get? p=some o/\o.ExactDict:=by
    rcases hk with⟨kvs,hk⟩|⟨kvs,hk⟩
    ·obtain⟨_,_,_,_,o,_,_,e,ex,_⟩:=I.hok p _ hk;exact⟨o,e,ex⟩
    ·obtain⟨_,_,_,_,o,_,_,e,ex,_⟩:=I.hok p _ hk;exact⟨o,e,ex⟩
   obtain⟨o,e,ex⟩:=z;refine⟨⟨o,e,ex.1⟩,λa e2=>?_⟩;cases e2;exact⟨o,e,ex.2.1⟩
  ·obtain⟨o,_,_,_,e,ex,_⟩:=I.hok p _ hk;refine⟨⟨o,e,ex.1⟩,λa e2=>?_⟩;cases e2;exact⟨o,e,ex.2.1⟩
 |_=>exact False.elim ty
def Zf (K:PySem.W.Frag)(T:String)(r:V->List V->Hp->VK->Prop)(to:TE)(t:TA):TE:=λσ H Q=>to σ H λx H1=>Za K T x H1/\t σ H1 λxs H2=>r x xs H2 Q
variable {o e:Expr}{es:List Expr}{to:TE}{t:TA}{name:Str}{apos cpos:Pos}{T id:String}{r:V->List V->Hp->VK->Prop}
theorem Lf (pa:PlainAttrs T) (slot:Slot T name id) (hty:typeOf (.builtin id)=pure (.type "method_descriptor")) (hm:VX X id r) (ho:PE X o to) (ha:PA X (e::es) t)
  (hbase:attributeBase o name X.env (eval o X.env)=eval o X.env:=by rfl)
  (hfew:((backTo cpos (starEach (e::es) X.env)).all (λx=>!x.1)&&(backToKw cpos (keywordEach [] X.env)).all (λx=>x.1.isSome)
   && decide ((e::es).length+([]:List Keyword).length+(if([]:List Keyword).isEmpty then 0 else 1)<30))=true:=by rfl)
  (hline:(apos.endLine == cpos.line)=true:=by rfl) (hs:starEach (e::es) X.env=(false,eval e X.env)::starEach es X.env:=by rfl) (hplain:(backTo cpos (starEach es X.env)).any (·.1)=false:=by rfl) :
  PE X (.Call (.Attribute o name apos) (e::es) [] cpos) (Zf X.K T r to t):=by
 intro pins s σ H Q I h;refine wpAny_Call_method_late hbase hfew hline rfl (Bv (ho pins s σ H _ I h) λv s1 z9=>?_);obtain⟨x,H1,I1,r1,ty,q1⟩:=z9;obtain⟨h1,h2⟩:=US I1 r1 ty;refine⟨T,id,pa,slot,hty,h1,h2,?_⟩;have hA:=ha cpos pins s1 σ H1 _ I1 q1;rw[hs] at hA ⊢;refine dS (by show(false||(backTo cpos (starEach es X.env)).any (·.1))=false;rw[hplain]<;>rfl) (Calls.evalArgs_plain ?_);exact Bv hA λus s2 ⟨vs,H2,I2,r2,q2⟩=>hm pins s2 σ H2 x vs v us Q I2 r1 r2 q2
end
def Zi (X:Cx)(id:String)(r:V->List V->Hp->VK->Prop):Prop:=
 ∀(pins:List (Addr×Obj)) (s:Shared) (σ:St) (H:Hp) (x:V) (xs:List V) (v:Value) (us:List Value) (Q:VK),Inv X pins σ H s->RelV x v->AW xs us->r x xs H Q->
  wpAny (model X.prog X.w) X.A (call (.builtin id) (v::us)) (EP X pins σ Q) X.xe s
theorem AW.one:∀{x:V} {us:List Value},AW [x] us->∃u,us=[u]/\RelV x u
 |_,_,.cons r .nil=>⟨_,rfl,r⟩
section
variable {X:Cx}{pins:List (Addr×Obj)}{σ:St}{H:Hp}{s:Shared}{l b:Addr}{xs ys zs:List V}
theorem Inv.lset {its its':List Value} {n:Nat} {f:Array Value->Array Value} {t':Nat} (I:Inv X pins σ H s) (hH:H l=some (.lst xs))
  (e:s.heap.get? l=some { cls:=.type "list",data:=.seq its.toArray n }) (hf:f its.toArray=its'.toArray) (hv:AW ys its') (hz:ys.length<=sizeLine) :
  Inv X pins σ (upd H l (.lst ys)) { s with heap:=s.heap.update l (Obj.mapSeq f),toks:=t' }:=by
 have q:=PySem.IsL.update e f;rw[hf] at q;refine I.write (x:=l) (e:=l) (by rw[hH];exact trivial) (.inl rfl) (λb' u hb hu=>(aY s.heap (Obj.mapSeq f) (Ne.symm hb)).trans hu) ⟨_,q⟩ ?_;exact⟨hz,its',_,hv,q⟩
theorem Inv.lnew {its:List Value}{t':Nat}(I:Inv X pins σ H s)(hv:AW ys its)(hz:ys.length<=sizeLine) :
  Inv X pins σ (upd H s.heap.objs.size (.lst ys)) { s with heap:=s.heap.push { cls:=.type "list",data:=.seq its.toArray },toks:=t' }:=
 I.laid (λ_ _ q=>ah _ q) (aq _) ⟨hz,its,0,hv,ay _ rfl⟩
theorem Inv.fresh (I:Inv X pins σ H s):H s.heap.objs.size=none:=I.hok.fresh (aq _)
theorem Inv.lstM (I:Inv X pins σ H s)(hH:H l=some (.lst xs)):xs.length<=sizeLine/\∃(its:List Value) (n:Nat),AW xs its/\xs.length=its.length/\s.heap.get? l=some { cls:=.type "list",data:=.seq its.toArray n }:=by
 obtain⟨z,its,n,r,e⟩:=I.hok l _ hH;exact⟨z,its,n,r,r.length,e⟩
end
section
variable {X:Cx}
def Vm:V->List V->Hp->VK->Prop:=λx vs H Q=>∃l xs y,x=.ref l/\vs=[y]/\H l=some (.lst xs)/\xs.length<sizeLine/\Q .non (upd H l (.lst (xs++[y])))
theorem Iu:Zi X "list.append" Vm:=by
 intro pins s σ H x vs v us Q I rx rv h;obtain⟨l,xs,y,rfl,rfl,hH,hz,q⟩:=h;cases rx;obtain⟨u,rfl,ru⟩:=rv.one;obtain⟨z,its,n,r,hl,e⟩:=I.lstM hH;refine dO F.slot_list_append ⟨_,e,rfl⟩ F.entry_list_append (F.args_list_append_2 _ _) (PySem.list_append l its.toArray n u (by rw[aF];omega)) ⟨e,?_⟩;refine⟨.non,_,I.lset (its':=its++[u]) hH e (by simp) (r.append (.cons ru .nil)) ?_,rfl,q⟩;rw[aW,bT];omega
end
end L2
namespace Att
open PySem PySem.W PySem.Calls PyProof.Rows
theorem Lv {P:Params}{h:Heap}:∀(ns:List Int) (vs:List Value),WellAll P h vs (ns.map WData.int)->IntsAre vs ns:=by
 intro ns
 induction ns with
 |nil=>
  intro vs w;rw[d5] at w;cases w;exact .nil
 |cons n ns ih=>
  intro vs w;rw[aD] at w;cases w with
  |cons a b=>
   cases a;exact .cons _ _ (ih _ b)
theorem Su {l:OpenLaw} {n:Nat} (hn:l.most=some n) {P:Params} {h:Heap} {args:List WData} {vals:List Value}
  (hpre:l.row.toRowW.claim.pre args=true) (hwl:WellAll P h vals args) :
  ∃a vs ns,vals=[Value.ref a]/\args=[WData.list (ns.map WData.int)]/\h.get? a=some { cls:=.type "list",data:=.seq vs.toArray }/\IntsAre vs ns/\ns.length<=n:=by
 have hsh:WShape.hasAll [] args [.list .int]=true:=(pre_splitW hpre).1;have hc:l.pre.holds [] { args:=args }=true:=(pre_splitW hpre).2;obtain⟨d,r,rfl,h1,h2⟩:=hasAllW_cons hsh;obtain rfl:=hasAllW_nil h2;obtain⟨xs,rfl,h3⟩:=hasW_list h1;obtain⟨ns,rfl⟩:=items_int h3;have hlen:ns.length<=n:=by
  unfold OpenLaw.pre at hc;have h4:(WTm.not (.lt (.lit (.int (n:Int))) (.len (.arg 0)))).holds [] { args:=[.list (ns.map .int)] }=true:=by
   have h4:=(holds_andW hc).1;rw[hn] at h4;exact h4
  have h5:=condW_of h4 (w_not (w_lt w_lit (w_len_list (w_arg rfl))));rw[ae] at h5;refine Nat.le_of_not_lt λq=>?_
  have q':(n:Int)<((ns.length:Nat):Int):=by omega
  first
   |(rw[au q'] at h5;exact absurd h5 (by decide))
   |(simp at h5;omega)
 cases hwl with
 |cons w1 w2=>
  cases w2;cases w1 with
  |list ho hall=>exact⟨_,_,ns,rfl,rfl,ho,Lv ns _ hall,hlen⟩
theorem Sm (l:OpenLaw)(args:List WData):l.row.toRowW.claim.post args (.bool true) args=true:=
 postW_of (r:=l.row.toRowW) (X:=(true == true))
  (show WShape.has [] (.bool true) .bool=true by first|rfl|decide|simp[WShape.has,WShape.arms,WShape.armsAll])
  (show(WTm.eq .res (.lit (.bool true))).value [] { args:=args,res:=some (.bool true),after:=args }=some (.bool (true == true)) from w_eq_bool (w_res rfl) w_lit) rfl
theorem Qa {l:OpenLaw} {n:Nat} {q:Program} {loose:List Str} {XP:(Str->Option Value)->Heap->Prop} {YP:World->Heap->Prop} {d:DefRec}
  (hn:l.most=some n) (hdf:d.params.defaults=[])
  (call:∀(w:World) (s₀ s₁:Shared) (mg mb:Str->Option Value) (fa:Addr) (o:Obj) (pm cd doc:Value) (a:Addr) (vs:List Value) (ns:List Int),
   Ground q loose [] XP w s₀ mg mb s₁.heap->YP w s₁.heap->
   s₁.heap.get? fa=some o->o.data=.func (docDef d.name d.params d.body d.scope pm cd doc)->s₁.heap.CodeRec cd d.name->mg d.name=some (.ref fa)->
   s₁.heap.get? a=some { cls:=.type "list",data:=.seq vs.toArray }->IntsAre vs ns->ns.length<=n->s₁.gens = #[]->
   codeAny (model l.prog w) callerA (.call (.ref fa) ⟨[.ref a],[]⟩) (λr s'=>r=.ok (.ret (.bool true))/\OldK s₁.heap s'.heap/\s'.os=s₁.os/\AllBare s'.gens) s₁) :
  WalkO q loose XP YP l.row.toRowW d [] (λf vs=>PySem.call f vs):=by
 intro w s₀ s₁ mg mb G Y fa o pm cd doc dV kV ho hd hcd hD hmg hg args vals as hpre hlay hrd hwl hlo;obtain rfl:dV=.none:=Dflts.none hD hdf;obtain rfl:kV=.none:=Dflts.noKw hD;obtain⟨a,vs,ns,rfl,rfl,hobj,hints,hlen⟩:=Su hn hpre hwl;refine enter_call (cA (call w s₀ s₁ mg mb fa o pm cd doc a vs ns G Y ho (fd_plain hd) hcd hmg hobj hints hlen hg) λr s' hq=>?_);obtain⟨rfl,h2,h3,h4⟩:=hq;exact⟨.inl ⟨.bool true,.bool true,[],rfl,λ_=>rfl,.bool true,Sm l _,λ_=>⟨List.Pairwise.nil,λ_ hm=>(nomatch hm)⟩⟩,h2,h3,h4⟩
end Att
namespace L2
open PySem PySem.Spec PyProof.Rows
theorem KQ:∀{vs:List Value} {ns:List Int},IntsAre vs ns->AW (ns.map V.int) vs
 |_,_,.nil=>.nil
 |_,_,.cons n t h=>.cons ⟨t,rfl⟩ (KQ h)
def inClass (s:Stmt)(j:Nat):Stmt:=match s with
 | .ClassDef _ _ _ body _ _ _ _ _ _ _=>body.getD j (.Pass ⟨0,0,0,0⟩)
 |_=>.Pass ⟨0,0,0,0⟩
def Am (s:Stmt):Arguments:=match s with
 | .FunctionDef _ a _ _ _ _ _ _ _ _=>a
 |_=>{ posonlyargs:=[],args:=[],vararg:=none,kwonlyargs:=[],kw_defaults:=[],kwarg:=none,defaults:=[] }
def Al (s:Stmt):List Stmt:=match s with
 | .FunctionDef _ _ b _ _ _ _ _ _ _=>b
 |_=>[]
def Ad (s:Stmt):Scope:=match s with
 | .FunctionDef _ _ _ _ _ _ sc _ _ _=>sc
 |_=>{ kind:=.function,names:=[],isGenerator:=false,isCoroutine:=false }
abbrev EL:RH:=λ_ _ _ _ _ _=>False
abbrev E0:XK:=λ_ _ _=>False
theorem RN {X:Cx}:FL EL X E0:=λ_ _ _ _ _ _ _ h=>h.elim
structure Fun (K:PySem.W.Frag) (x qual:Str) (st:Stmt) (f:Addr) (fd:FuncData):Prop where
 ex:∃(oc:Value) (od:Option Addr) (kV doc pm:Value) (an:Option Addr) (cdv ct:Value) (osl:Array (Option Value)),
  fd=PySem.W.fnOf x qual (Am st) (Al st) (Ad st) .none kV doc pm an cdv ct/\K.lookup f=some ⟨oc,od,.func fd,osl⟩/\PySem.W.codeIn K cdv qual=true
 kp:PySem.W.keepIn K (.ref f)=true
section
variable {P:Program}{w:World}{K:PySem.W.Frag}{mg:Str->Option Value}{base:Heap}
theorem Fun.ok {x qual:Str} {st:Stmt} {f:Addr} {fd:FuncData} {N ps:List Str} {k:Nat} {sp:Sp} (F:Fun K x qual st f fd) (S:FnScope N ps (Ad st)) (len:∀vs H Q E,sp vs H Q E->vs.length=ps.length)
  (hbody:∀(cdv:Value) (A:Around) (outer:List Env) (s:Shared) (H:Hp) (vs:List V) (Q:VK) (E:XK),Room k (A.deeper (envOfC qual (Ad st) s.heap.objs.size f cdv))->sp vs H Q E->
   ∃t,On (AZ EL P w K mg base N qual (Ad st) f cdv A outer s H E).nox (Al st) t/\t { nx:=λ_ H'=>Q .non H',rt:=Q } (start N vs) H):FnOk P w K mg base EL (k+1) f fd ps sp:=by
 obtain⟨oc,od,kV,doc,pm,an,cdv,ct,osl,rfl,lk,hcd⟩:=F.ex;refine Uo lk hcd S len λA outer s H vs Q E hr hsp=>?_
 obtain⟨t,h,q⟩:=hbody cdv A outer s H vs Q E hr hsp;exact⟨t,h.nox,q⟩
theorem Fun.binds {x qual:Str} {st:Stmt} {f:Addr} {fd:FuncData} {ps:List Str} (F:Fun K x qual st f fd)
  (h:∀(kV doc pm:Value) (an:Option Addr) (cdv ct:Value) (us:List Value),us.length=ps.length->bindArgs (PySem.W.fnOf x qual (Am st) (Al st) (Ad st) .none kV doc pm an cdv ct) ⟨us,[]⟩=pure (ps.zip us)):Binds K fd ps []:=by
 obtain⟨oc,od,kV,doc,pm,an,cdv,ct,osl,rfl,lk,hcd⟩:=F.ex;exact .all (h kV doc pm an cdv ct)
theorem Ax {x qual:Str} {st:Stmt} {f:Addr} {oc:Value} {od an:Option Addr} {osl:Array (Option Value)} {kV doc pm cdv ct:Value} (l:K.lookup f=some ⟨oc,od,.func (PySem.W.fnOf x qual (Am st) (Al st) (Ad st) .none kV doc pm an cdv ct),osl⟩)
  (c:PySem.W.codeIn K cdv qual=true) (k:PySem.W.keepIn K (.ref f)=true):Fun K x qual st f (PySem.W.fnOf x qual (Am st) (Al st) (Ad st) .none kV doc pm an cdv ct):=⟨⟨oc,od,kV,doc,pm,an,cdv,ct,osl,rfl,l,c⟩,k⟩
end
theorem ES {A:Around}{k:Nat}(hr:Room k A):A.units+1<cLine:=Nat.lt_of_le_of_lt (Nat.add_le_add_left (by decide:1<=64) _) hr.units
section
variable {X:Cx}
theorem pv (i:Nat) {x:Str} {pos:Pos} (hN:X.N[i]?=some x:=by rfl) (hv:Y0 X.env.scope x:=by first|exact Or.inl rfl|exact Or.inr (Or.inl rfl)|exact Or.inr (Or.inr rfl)) (hd:(x == ("__debug__":Str))=false:=by decide)
  (hcd:(x == ("__classdict__":Str))=false:=by decide):PE X (.Name x pos) (VD i):=WE hN hv hd hcd
end
theorem Dh {c A B:Prop}[Decidable c](h1:c->A)(h2:¬c->B):if c then A else B:=by
 by_cases h:c
 ·rw[aw h];exact h1 h
 ·rw[aj h];exact h2 h
def AA (H H':Hp):Prop:=∀b o,H b=some o->H' b=some o
theorem AA.refl (H:Hp):AA H H:=λ_ _ h=>h
theorem AA.trans {H H1 H2:Hp}(a:AA H H1)(b:AA H1 H2):AA H H2:=λc o h=>b c o (a c o h)
theorem AA.free {H H':Hp}(e:AA H H'){l:Addr}(h:H' l=Option.none):H l=Option.none:=by
 cases q:H l with
 |none=>rfl
 |some o=>
  rw[e l o q] at h;cases h
theorem AA.seq {K:PySem.W.Frag}{H H':Hp}{a:Addr}{xs:List V}(e:AA H H')(h:AR K H a xs):AR K H' a xs:=by
 rcases h with(h|⟨o,h⟩)|h
 ·exact .inl (.inl (e _ _ h))
 ·exact .inl (.inr ⟨o,e _ _ h⟩)
 ·exact .inr h
end L2
set_option maxHeartbeats 1000000
namespace L2
open PySem PySem.Spec PyProof.Rows
section
variable {prog:Program}{w:World}{A:Around}{env:Env}{elt target iter:Expr}{ifs:List Expr}{scope:Scope}{pos:Pos}{it acc:Value}
abbrev Va (env:Env)(ifs:List Expr):Sem Bool:=forIn ifs true λc r=>(if r=true then(do let ok <-isTrue c env (eval c env);pure (ForInStep.yield ok)) else pure (ForInStep.yield r))
abbrev RL (prog:Program)(w:World)(A:Around)(env:Env)(elt target:Expr)(ifs:List Expr)(it acc:Value)(Ee:Value->Shared->Prop)(over on:Shared->Prop):Shared->Prop:=
 wpAny (model prog w) A (pyNext it) (fun|none,s1=>over s1|some v,s1=>wpAny (model prog w) A (letOwnedTupleGo target it v) (λ_ s2=>wpAny (model prog w) A (assign target env v) (λ_ s3=>wpAny (model prog w) A (Va env ifs) (λok s4=>
  if ok=true then wpAny (model prog w) A (eval elt env) (λx s5=>wpAny (model prog w) A (call (.builtin "list.append") [acc,x]) (λ_=>on) (λ_ _=>False) s5) Ee s4 else on s4) Ee s3) Ee s2) (λ_ _=>False) s1) (λ_ _=>False)
theorem Qr {R:Result->Shared->Prop} {Ee:Value->Shared->Prop} (I:Nat->Shared->Prop) (hE:∀x s,Ee x s->notedBy (model prog w) A env (λx s=>R (.error x) s) x s)
  (turn:∀n s,I n s->RL prog w A env elt target ifs it acc Ee (R (.ok .next)) (λs'=>∃m,m<n/\I m s') s) (n:Nat) {s:Shared} (h:I n s) :
  codeAny (model prog w) A (.compLoop (.ListComp elt [⟨target,iter,ifs,0⟩] scope pos) 0 it acc env) R s:=by
 have none':∀{Z:Value->Shared->Prop} (x:Value) (s:Shared),False->Z x s:=λ_ _ z=>z.elim
 refine codeAny_loop rfl I (λk s1 h1=>?_) n h
 change wpAny _ A ((compTurn (.ListComp elt [⟨target,iter,ifs,0⟩] scope pos) 0 it acc env).onRaise (λx=>do noteFrame x env;theTreesLotGoes x)) _ _ s1
 refine wpAny_noted ?_;rw[compTurn_list];refine af (cQ (af (aR (turn k s1 h1) (λr s2 h2=>?_) none')))
 match r,h2 with
 |none,h2=>exact ar h2
 |some v,h2=>
  refine af (aR h2 (λ_ s3 h3=>af (aR h3 (λ_ s4 h4=>af (aR h4 (λok s5 h5=>?_) hE)) hE)) none')
  match ok,h5 with
  |false,h5=>exact ar ⟨rfl,h5⟩
  |true,h5=>exact af (af (aR h5 (λx s6 h6=>af (aR h6 (λ_ s7 h7=>ar (ar ⟨rfl,h7⟩)) none')) hE))
theorem Q8 {R:Result->Shared->Prop}(I:Nat->Shared->Prop)(turn:∀n s,I n s->RL prog w A env elt target ifs it acc (λ_ _=>False) (R (.ok .next)) (λs'=>∃m,m<n/\I m s') s)(n:Nat){s:Shared}(h:I n s) :
  codeAny (model prog w) A (.compLoop (.ListComp elt [⟨target,iter,ifs,0⟩] scope pos) 0 it acc env) R s:=Qr I (λ_ _ z=>z.elim) turn n h
end
def QR (X:Cx)(ifs:List Expr)(t:TT):Prop:=
 ∀(pins:List (Addr×Obj)) (s:Shared) (σ:St) (H:Hp) (Q:Bool->Hp->Prop),Inv X pins σ H s->t σ H Q->
  wpAny (model X.prog X.w) X.A (forIn ifs true λc r=>if r=true then do let ok <-isTrue c X.env (eval c X.env);pure (ForInStep.yield ok) else pure (ForInStep.yield r)) (TP X pins σ Q) X.xe s
def VH:TT:=λ_ H Q=>Q true H
theorem BR {X:Cx}:QR X [] VH:=λ_ _ _ H _ I h=>wpAny_tests_nil ⟨H,I,h⟩
theorem EX {X:Cx}{c:Expr}{t:TT}(h:PT X c t):QR X [c] t:=λpins s σ H Q I q=>wpAny_tests_one (h pins s σ H Q I q)
def BI (X:Cx)(scope:Scope)(cl:List (Str×Addr))(N:List Str)(C:Addr)(s:Shared)(H:Hp)(fp:List Addr):Cx:=
 { prog:=X.prog,w:=X.w,K:=X.K,mg:=X.mg,base:=X.base,A:=X.A,N:=N,s₀:=s,H₀:=H,env:=compEnvC scope cl C X.env,outer:=X.stack,stack:=X.stack,ex:=fp,fn:=λ_=>false,calm:=X.calm,pn:=[],xe:=λ_ _=>False }
def stC (fr:List (Option Nat))(σ:St):St:=fr.map λo=>o.bind λi=>(σ[i]?).bind id
def Jn (fr:List (Option Nat))(g:TG)(tt:TT)(te:TE)(σ:St)(Q:VK)(J:It)(H1:Hp):Prop:=∀l,H1 l=none->∃W:Nat->Nat->St->Hp->Prop,(∃m,W 0 m (stC fr σ) (upd H1 l (.lst [])))/\∀i m σ H,W i m σ H->
 (J.stop i H/\Q (.ref l) H)\/(J.go i H/\∀x H',J.yld i H x H'->g x σ H' λσ2 H2=>tt σ2 H2 λb H3=>if b=true then te σ2 H3 λv H4=>∃xs,H4 l=some (.lst xs)/\xs.length<sizeLine/\∃m',m'<m/\W (i+1) m' σ2 (upd H4 l (.lst (xs++[v])))
  else ∃m',m'<m/\W (i+1) m' σ2 H3)
def Nz (fr:List (Option Nat))(wi:TI)(g:TG)(tt:TT)(te:TE):TE:=λσ H Q=>wi σ H (Jn fr g tt te σ Q)
def Io (XN:List Str)(xs sc:Scope)(N:List Str)(fr:List (Option Nat)):Bool:=
 decide (sc.kind=.function)&&decide (fr.length=N.length)&&(sc.names.all λy=>!decide (y.2=.cell))&&(sc.names.all λy=>!decide (y.2=.local)||decide (sc.names.lookup y.1=some .local)) &&
 (sc.names.all λy=>!decide (y.2=.free)||(decide (xs.names.lookup y.1=some .cell)||decide (xs.names.lookup y.1=some .free))) &&
 ((N.zip fr).all λp=>match p.2 with|none=>true|some i=>decide (XN[i]?=some p.1)&&decide (sc.names.lookup p.1=some .free))
def Q9 (cells:List (Str×Addr)):List (Str×Addr)->Prop
 |[]=>True
 |p::r=>cells.lookup p.1=some p.2/\Q9 cells r
theorem Q9.get {cells:List (Str×Addr)}:∀{cl:List (Str×Addr)},Q9 cells cl->∀{x:Str} {c:Addr},cl.lookup x=some c->cells.lookup x=some c
 |[],_,_,_,h=>by cases h
 |(y,d)::r,k,x,c,h=>by
  rw[cK] at h;cases e:x == y with
  |true=>
   rw[e] at h;cases h;rw[eq_of_beq e];exact k.1
  |false=>
   rw[e] at h;exact Q9.get k.2 h
def Jy (cl:List (Str×Addr)):List (Str×NameKind)->Prop
 |[]=>True
 |p::r=>(p.2=.free->∃c,cl.lookup p.1=some c)/\Jy cl r
theorem Jy.get {cl:List (Str×Addr)}:∀{ns:List (Str×NameKind)},Jy cl ns->∀y∈ns,y.2=.free->∃c,cl.lookup y.1=some c
 |[],_,_,h=>by cases h
 |p::r,k,y,h=>by
  rcases aL.mp h with rfl|h
  ·exact k.1
  ·exact Jy.get k.2 y h
theorem GT {env:Env}:∀{names:List (Str×NameKind)} {x:Str} {k:NameKind},(names.map λ(n,k)=>if(k == NameKind.free&&env.scope.kind == .function&&env.kindOf n == some .cell) then(n,NameKind.cell) else(n,k)).lookup x=some k->
  names.lookup x=some k\/(k=.cell/\names.lookup x=some .free)
 |[],_,_,h=>by cases h
 |(n,k0)::r,x,k,h=>by
  have ih:=@GT env r x k
  by_cases hc:(k0 == NameKind.free&&env.scope.kind == .function&&env.kindOf n == some .cell)=true
  ·simp only[List.map_cons,if_pos hc,List.lookup_cons] at h;rw[cK];cases e:x == n with
   |true=>
    rw[e] at h;cases h;simp only[Bool.and_eq_true] at hc;have:k0=.free:=by simpa using hc.1.1
    exact .inr ⟨rfl,by rw[this]⟩
   |false=>rw[e] at h;exact ih h
  ·simp only[List.map_cons,if_neg hc,List.lookup_cons] at h;rw[cK];cases e:x == n with
   |true=>rw[e] at h;exact .inl h
   |false=>rw[e] at h;exact ih h
theorem JP {env:Env}:∀{names:List (Str×NameKind)} {x:Str},names.lookup x=some .free->
  (names.map λ(n,k)=>if(k == NameKind.free&&env.scope.kind == .function&&env.kindOf n == some .cell) then(n,NameKind.cell) else(n,k)).lookup x=some .cell\/
  (names.map λ(n,k)=>if(k == NameKind.free&&env.scope.kind == .function&&env.kindOf n == some .cell) then(n,NameKind.cell) else(n,k)).lookup x=some .free
 |[],_,h=>by cases h
 |(n,k0)::r,x,h=>by
  have ih:=@JP env r x;rw[cK] at h
  by_cases hc:(k0 == NameKind.free&&env.scope.kind == .function&&env.kindOf n == some .cell)=true
  ·simp only[List.map_cons,if_pos hc,List.lookup_cons];cases e:x == n with
   |true=>exact .inl rfl
   |false=>rw[e] at h;exact ih h
  ·simp only[List.map_cons,if_neg hc,List.lookup_cons];cases e:x == n with
   |true=>rw[e] at h;exact .inr h
   |false=>rw[e] at h;exact ih h
section
variable {X:Cx}
theorem NI (N:List Str) (fr:List (Option Nat)) {elt tg iter:Expr} {ifs:List Expr} {scope:Scope} {pos fpos:Pos} {wi:TI} {g:TG} {tt:TT} {te:TE} {cl:List (Str×Addr)}
  (hc:X.calm=true) (hi:PI X tg iter wi) (hchk:Io X.N X.env.scope scope N fr=true) (hclos:closureFor scope X.env=pure cl) (hcl:Q9 X.env.cells cl) (hall:Jy cl scope.names)
  (hb:∀(C:Addr) (s:Shared) (H:Hp) (fp:List Addr),PG (BI X scope cl N C s H fp) tg g/\QR (BI X scope cl N C s H fp) ifs tt/\PE (BI X scope cl N C s H fp) elt te)
  (hs:∀x,foldedSetIterable iter X.env x=pure x) {pins:List (Addr×Obj)} {s:Shared} {σ:St} {H:Hp} {Q:VK} {use:Option (Value->Sem Unit)} {Qc:Value->Shared->Prop} (I:Inv X pins σ H s) (h:Nz fr wi g tt te σ H Q)
  (hfin:∀(l:Addr) (H':Hp) (s':Shared) (C:Addr),Inv X pins σ H' s'->Nm X pins H' C->(∃m,s'.heap.Ns C m)->Q (.ref l) H'->compPost (model X.prog X.w) X.A X.xe use Qc (.ref l) C (.ok .next) s') :
  wpAny (model X.prog X.w) X.A (comprehension (.ListComp elt [⟨tg,iter,ifs,0⟩] scope pos) scope X.env fpos (newList []) (firstAsync [⟨tg,iter,ifs,0⟩]) (firstIter [⟨tg,iter,ifs,0⟩] X.env) use) Qc X.xe s:=by
 simp only[Io,Bool.and_eq_true,decide_eq_true_eq,List.all_eq_true,Bool.or_eq_true,Bool.not_eq_true',decide_eq_false_iff_not] at hchk;obtain⟨⟨⟨⟨⟨hkind,hlen⟩,hcell⟩,hnames⟩,hfree⟩,hfr⟩:=hchk;have hnames':∀x∈scope.names,x.2=.local->scope.names.lookup x.1=some .local:=λy hy e=>(hnames y hy).resolve_left λz=>z e
 have hcell':∀x∈scope.names,x.2≠.cell:=λy hy=>hcell y hy
 refine wpAny_comprehension_free (use:=use) rfl hs hclos hkind hnames' (Bv (hi pins s σ H _ I h) λv s1 h1=>Bv h1 λitv s2 h2=>?_);obtain⟨it,fp,tn,J,H2,e,I2,T,st2,f2,hQ⟩:=h2;subst e;refine cp (hd:=by size_fits) (wpAny_newFunctionEnv hcell' (by intro y hy;simp at hy) (λh₁ hns hsb=>?_) hkind);dsimp only at hns hsb ⊢;obtain⟨W,⟨m0,w0⟩,turn⟩:=hQ s2.heap.objs.size I2.fresh;have I3:Inv X pins σ (upd H2 s2.heap.objs.size (.lst [])) { s2 with heap:=s2.heap.push { cls:=.type "list",data:=.seq ([]:List Value).toArray },toks:=s2.toks }:=I2.lnew (its:=[]) .nil (bw _);generalize hh3:s2.heap.push { cls:=.type "list",dict:=none,data:=.seq ([]:List Value).toArray }=h3 at hns hsb ⊢;rw[show s2.heap.push { cls:=.type "list",data:=.seq ([]:List Value).toArray }=h3 from hh3] at I3;generalize hH3:upd H2 s2.heap.objs.size (.lst [])=H3 at I3 w0;generalize hl:s2.heap.objs.size=l at turn hH3 ⊢;have hl3:l<h3.objs.size:=by rw[<-hh3,<-hl,bF];exact eu _
 generalize hs3:({ s2 with heap:=h3,toks:=s2.toks }:Shared)=s3 at I3;have es3:s3.heap=h3:=by rw[<-hs3]
 have eos:s3.os=s2.os:=by rw[<-hs3]
 have egens:s3.gens=s2.gens:=by rw[<-hs3]
 generalize hC:h3.objs.size=C at hns hsb ⊢;have old:∀b o,h3.get? b=some o->h₁.get? b=some o:=λb o e=>
  hsb.extBut b o (by rw[<-hC];exact aO (aA e)) (ah _ e)
 have f3:∀b∈fp,Nm X pins H3 b:=λb hb=>by
  obtain⟨g0,g1⟩:=f2 b hb;refine⟨?_,g1⟩;rw[<-hH3];have:b≠l:=by
   obtain⟨o,e,_⟩:=T.obj _ _ st2 b hb;rw[<-hl];exact aO (aA e)
  rw[An this];exact g0
 have st3:tn 0 h₁:=T.keep _ _ _ st2 λb hb o e=>old b o (by rw[<-hh3];exact ah _ e)
 have ok:(BI X scope cl N C s3 H3 fp).Ok:=by
  refine⟨I3.ok.mod,?_,I3.ok.glob,I3.ok.blt,?_,λx y c e1 e2=>I3.ok.inj x y c (hcl.get e1) (hcl.get e2),λx hx=>?_,λx c hx=>(by cases hx),I3.ok.hd,I3.ok.frames,.inl rfl,λb hb=>?_,λb o e=>?_,?_,λb o e hb=>?_,λb hb hb2=>?_,?_,λb hb=>?_⟩
  ·exact hkind
  ·show s3.heap.objs.size<=C;rw[es3,hC];exact aq _
  ·have hx':(relabel scope X.env).names.lookup x=some .cell\/(relabel scope X.env).names.lookup x=some .free:=hx;have:scope.names.lookup x=some .free:=by
    rcases hx' with z|z
    ·rcases GT z with q|⟨_,q⟩
     ·exact absurd rfl (hcell' _ (bD q))
     ·exact q
    ·rcases GT z with q|⟨q,_⟩
     ·exact q
     ·cases q
   exact hall.get _ (bD this) rfl
  ·obtain⟨g0,g1,g2,g3,g4,g5⟩:=f3 b hb;obtain⟨o,e,_⟩:=T.obj _ _ st2 b hb;refine⟨?_,λx c e=>g4 x c (hcl.get e)⟩;show b≠C;rw[<-hC];exact aO (aA (by rw[<-hh3];exact ah _ e))
  ·have q:=I3.bs b o e;exact q
  ·show X.base.objs.size<=s3.heap.objs.size;exact aV I3.ok.bsz I3.sz
  ·obtain⟨g0,g1,g2,g3,g4,g5⟩:=f3 b hb;rcases g3 with z|z
   ·exact I3.ok.noex b o e z
   ·exact absurd (aQ (aA e) (aV I3.ok.bsz z)) (bZ _)
  ·obtain⟨g0,g1,g2,g3,g4,g5⟩:=f3 b hb;rcases aL.mp (I3.stkSub b hb2) with z|z
   ·exact g1 z
   ·exact g2 z
  ·show s3.heap.FunFrames X.base X.stack;exact I3.stack
  ·exact I3.stkFree b hb
 have I4:Inv (BI X scope cl N C s3 H3 fp) [] (stC fr σ) H3 { s2 with heap:=h₁,toks:=s2.toks+([]:List (Str×Value)).length }:=by
  have hk3:∀b o,s3.heap.get? b=some o->h₁.get? b=some o:=λb o e=>old b o (by rw[<-es3];exact e)
  refine⟨ok,eos.symm▸rfl,egens▸I3.bare,Un.kept hk3,⟨_,hns,λi x v e1 e2 e3=>?_⟩,λx c e=>?_,?_,λx c e=>I3.freeC x c (hcl.get e),λp hp=>(by cases hp),I3.hok.kept hk3,?_⟩
  ·
   have e1':N[i]?=some x:=e1;have e2':(fr[i]?).map (λo=>o.bind λi=>(σ[i]?).bind id)=some (some v):=by
    have:(stC fr σ)[i]?=some (some v):=e2;rw[stC,aJ] at this;exact this
   cases q:fr[i]? with
   |none=>rw[q] at e2';cases e2'
   |some o=>
    rw[q] at e2';cases o with
    |none=>cases e2'
    |some j=>
     have e2'':(σ[j]?).bind id=some v:=aI e2';obtain⟨p1,p2⟩:X.N[j]?=some x/\scope.names.lookup x=some .free:=by
      have hz:(x,some j)∈N.zip fr:=by
       have:(N.zip fr)[i]?=some (x,some j):=by
        rw[List.getElem?_zip_eq_some];exact⟨e1',q⟩
       exact aU this
      have:=hfr _ hz;simpa using this
     have hv:X.env.scope.names.lookup x=some .cell\/X.env.scope.names.lookup x=some .free:=by
      rcases hfree _ (bD p2) with z|z
      ·exact absurd rfl z
      ·simpa using z
     have e3':σ[j]?=some (some v):=by
      cases q3:σ[j]? with
      |none=>rw[q3] at e2'';cases e2''
      |some w'=>rw[q3] at e2'';have:w'=some v:=e2'';rw[this]
     obtain⟨m,hn,hl'⟩:=I3.loc;obtain⟨u,ru,lk⟩:=hl' j x v p1 e3' (.inr hv);refine⟨u,ru,.inr ⟨JP p2,?_⟩⟩;rcases lk with⟨lk,_⟩|⟨_,c,ec,cc⟩
     ·have lk':X.env.scope.names.lookup x=some .local:=lk;rcases hv with z|z<;>(rw[z] at lk';cases lk')
     ·obtain⟨c',ec'⟩:=hall.get _ (bD p2) rfl;have:=hcl.get ec';rw[ec] at this;cases this;obtain⟨o,ho,hd⟩:=cc;exact⟨c,ec',o,hk3 _ _ ho,hd⟩
  ·obtain⟨v,o,ho,hd⟩:=I3.cell x c (hcl.get e);exact⟨v,o,hk3 _ _ ho,hd⟩
  ·show H3 C=none;exact I3.hok.fresh (by rw[es3,hC];exact aq _)
  ·show(stC fr σ).length=N.length;rw[stC,ae];exact hlen
 obtain⟨hg,ht,he⟩:=hb C s3 H3 fp;have fpc:∀{H':Hp},(∀b∈fp,H' b=none)->∀b∈fp,Nm (BI X scope cl N C s3 H3 fp) [] H' b:=λhn b hb=>by
  obtain⟨q1,q2⟩:=ok.exf b hb;exact⟨hn b hb,q1,ok.exfs b hb,.inl hb,q2,λp hp=>by cases hp⟩
 have fin:∀(σ':St) (H':Hp) (s':Shared),Inv (BI X scope cl N C s3 H3 fp) [] σ' H' s'->Q (.ref l) H'->compPost (model X.prog X.w) X.A X.xe use Qc (.ref l) C (.ok .next) s':=λσ' H' s' I' q=>by
  obtain⟨m,hn,_⟩:=I'.loc;have nC:∀b o,s3.heap.get? b=some o->b≠C:=λb o e=>by
   rw[<-hC,<-es3];exact aO (aA e)
  have fC:H' C=none:=I'.free;have u:=I'.base;refine hfin l H' s' C ?_ (I3.fpOk (by rw[es3,hC];exact aq _) fC) ⟨m,hn⟩ q;refine I3.call' (s':=s') (ch:=fp) I'.os ⟨λb o e n hb hx=>u.keep b o e n hb hx,λb o e n hb hx=>u.slot b o e n hb hx,u.free,λb o e hx=>u.there b o e hx,u.tups,u.frzs,u.tbls⟩ (λb o e=>I'.hok b o e) I'.bare λb hb=>?_
  obtain⟨g0,g1,g2,g3,g4,g5⟩:=f3 b hb;exact⟨g3,g1,g4,g5⟩
 have loop:codeAny (model X.prog X.w) X.A (.compLoop (.ListComp elt [⟨tg,iter,ifs,0⟩] scope pos) 0 (.ref it) (.ref l) (compEnvC scope cl C X.env)) (compPost (model X.prog X.w) X.A X.xe use Qc (.ref l) C)
   { s2 with heap:=h₁,toks:=s2.toks+([]:List (Str×Value)).length }:=by
  refine Q8 (λn s'=>∃i σ' H',Inv (BI X scope cl N C s3 H3 fp) [] σ' H' s'/\tn i s'.heap/\(∀b∈fp,H' b=none)/\W i n σ' H') ?_ m0 ⟨0,_,H3,I4,st3,λb hb=>(f3 b hb).1,w0⟩
  rintro n s5 ⟨i,σ5,H5,I5,st5,fr5,w5⟩
  rcases turn i n σ5 H5 w5 with⟨stop,qn⟩|⟨go,step⟩
  ·refine Bv (T.done (BI X scope cl N C s3 H3 fp) rfl rfl rfl hc i [] s5 σ5 H5 (λ_ _=>False) I5 (fpc fr5) st5 stop) λr s6 ⟨hr,I6⟩=>?_
   subst hr;exact fin σ5 H5 s6 I6 qn
  ·refine Bv (T.item (BI X scope cl N C s3 H3 fp) rfl rfl rfl hc i [] s5 σ5 H5 (λ_ _=>False) I5 (fpc fr5) st5 go) λr s6 ⟨u,hr,h6⟩=>?_
   subst hr;refine Bv h6 λ_ s7 z9=>?_
   obtain⟨x,H7,I7,r7,y7,st7,fr7⟩:=z9;have I7':=I7.pinned (fpc fr7) (T.obj _ _ st7);refine Bv (hg _ s7 σ5 H7 x u _ I7' r7 (step x H7 y7)) λ_ s8 ⟨σ8,H8,I8,q8⟩=>?_
   have again:∀{σ9:St} {H9:Hp} {s9:Shared},Inv (BI X scope cl N C s3 H3 fp) ([]++MX fp s7.heap) σ9 H9 s9->(∃m',m'<n/\W (i+1) m' σ9 H9)->∃m,m<n/\∃i σ' H',Inv (BI X scope cl N C s3 H3 fp) [] σ' H' s9/\tn i s9.heap/\(∀b∈fp,H' b=none)/\W i m σ' H':=λ{σ9 H9 s9} I9 n9=>by
    obtain⟨m',hm,w9⟩:=n9;refine⟨m',hm,i+1,σ9,H9,I9.unpinned,T.keep _ _ _ st7 λb hb o e=>(I9.pin (b,o) (aN _ (aN _ (GG hb e)))).1,λb hb=>?_,w9⟩;obtain⟨o,e,d⟩:=T.obj _ _ st7 b hb;exact(I9.pin (b,o) (aN _ (aN _ (GG hb e)))).2.1
   refine Bv (ht _ s8 σ8 H8 _ I8 q8) λok s9 ⟨H9,I9,q9⟩=>?_
   cases ok with
   |false=>
    rw[aj ai] at q9 ⊢;exact again I9 q9
   |true=>
    rw[aw rfl] at q9 ⊢;refine Bv (he _ s9 σ8 H9 _ I9 q9) λy sa ⟨vy,Ha,Ia,ry,qa⟩=>?_
    obtain⟨xs,hla,hsz,n9⟩:=qa;refine Bv (Iu _ sa σ8 Ha (.ref l) [vy] (.ref l) [y] (λ_ Hb=>∃m',m'<n/\W (i+1) m' σ8 Hb) Ia rfl (.cons ry .nil) ⟨l,xs,vy,rfl,rfl,hla,hsz,n9⟩) λ_ sb ⟨_,Hb,Ib,_,qb⟩=>?_
    exact again Ib qb
 show codeAny (model X.prog X.w) X.A (.compStart (.ListComp elt [⟨tg,iter,ifs,0⟩] scope pos) 0 (.ref it) (.ref l) (compEnvC scope cl C X.env)) (compPost (model X.prog X.w) X.A X.xe use Qc (.ref l) C) { s2 with heap:=h₁,toks:=s2.toks+([]:List (Str×Value)).length };exact codeAny_compStart_list loop (T.self _ 0 _ _ _ st3 loop)
theorem EH (N:List Str) (fr:List (Option Nat)) {elt tg iter:Expr} {ifs:List Expr} {scope:Scope} {pos:Pos} {wi:TI} {g:TG} {tt:TT} {te:TE} {cl:List (Str×Addr)}
  (hc:X.calm=true) (hi:PI X tg iter wi) (hchk:Io X.N X.env.scope scope N fr=true) (hclos:closureFor scope X.env=pure cl) (hcl:Q9 X.env.cells cl) (hall:Jy cl scope.names)
  (hb:∀(C:Addr) (s:Shared) (H:Hp) (fp:List Addr),PG (BI X scope cl N C s H fp) tg g/\QR (BI X scope cl N C s H fp) ifs tt/\PE (BI X scope cl N C s H fp) elt te)
  (hs:∀x,foldedSetIterable iter X.env x=pure x:=by intro _;rfl) :
  PE X (.ListComp elt [⟨tg,iter,ifs,0⟩] scope pos) (Nz fr wi g tt te):=by
 intro pins s σ H Q I h;rw[eval_ListComp];refine NI N fr hc hi hchk hclos hcl hall hb hs I h λl H' s' C I' fC ⟨m,hn⟩ q=>?_
 refine⟨m,hn,λh'' hs''=>⟨.ref l,H',?_,rfl,q⟩⟩;obtain⟨f0,f1,f2,f3,f4,f5⟩:=fC;exact I'.turned (t':=s'.toks) (λb o hb e=>(hs''.2 b hb).trans e) f0 f1 f3 f4 f5
theorem LF (N:List Str) (fr:List (Option Nat)) {i:Nat} {x:Str} {elt tg iter:Expr} {ifs:List Expr} {scope:Scope} {cpos pos pos':Pos} {wi:TI} {g:TG} {tt:TT} {te:TE} {cl:List (Str×Addr)}
  (hN:X.N.Nodup) (hi':X.N[i]?=some x) (hx:Loc X.env.scope x)
  (hc:X.calm=true) (hi:PI X tg iter wi) (hchk:Io X.N X.env.scope scope N fr=true) (hclos:closureFor scope X.env=pure cl) (hcl:Q9 X.env.cells cl) (hall:Jy cl scope.names)
  (hb:∀(C:Addr) (s:Shared) (H:Hp) (fp:List Addr),PG (BI X scope cl N C s H fp) tg g/\QR (BI X scope cl N C s H fp) ifs tt/\PE (BI X scope cl N C s H fp) elt te)
  (hs:∀x,foldedSetIterable iter X.env x=pure x:=by intro _;rfl)
  (hsw:swapsWith (.ListComp elt [⟨tg,iter,ifs,0⟩] scope cpos) (some (.Name x pos')) pos.line X.env=pure true:=by rfl)
  (hf:X.fn x=true\/X.env.scope.names.lookup x=some .local:=by first|exact .inl rfl|exact .inr rfl|assumption) :
  PS X (.Assign [.Name x pos'] (.ListComp elt [⟨tg,iter,ifs,0⟩] scope cpos) pos) (Vt (Nz fr wi g tt te) (BD i)):=by
 intro pins s σ H D I h;rw[exec_Assign_arm];refine af (cQ ?_);rw[show swapsWithSole [.Name x pos'] (.ListComp elt [⟨tg,iter,ifs,0⟩] scope cpos) pos.line X.env=pure true from hsw];refine af (ar ?_);rw[aw rfl,arm_evalThenUse_ListComp];refine af (af ?_);have h1:Nz fr wi g tt te σ H λv H1=>D.nx (σ.set i (some v)) H1:=h
 refine NI (use:=some _) N fr hc hi hchk hclos hcl hall hb hs I h1 λl H' s' C I' fC ⟨m,hn⟩ q=>?_
 obtain⟨f0,f1,f2,f3,f4,f5⟩:=fC;obtain⟨o,es,ep,ho,hd,hk,hm⟩:=hn;have Ip:Inv X (pins++[(C,o)]) σ H' s':=I'.pins_of λp hp=>(aP.mp hp).elim (λz=>I'.pin p (aN _ z)) λz=>by
  rw[ax.mp z];exact⟨ho,f0,f1,f2,λv e=>by rw[hd] at e;cases e⟩
 show wpAny _ _ (assignAll (.ref l) [assign (.Name x pos') X.env]) _ _ _;rw[assignAll.eq_2];refine wpAny_assign_Name (HM Ip hN hi' hx (v:=.ref l) rfl (λs2 I2=>?_) hf);have ho2:=(I2.pin (C,o) (aN _ (aN _ (List.mem_singleton_self _)))).1;refine⟨m,⟨o,es,ep,ho2,hd,hk,hm⟩,λh' hs'=>ar (ar ⟨_,H',?_,q⟩)⟩;exact I2.unpinned.turned (t':=s2.toks) (λb o hb e=>(hs'.2 b hb).trans e) f0 f1 f3 f4 f5
def JY (sc:Scope):Bool:=
 decide (sc.kind=.function)&&(sc.names.all λy=>!decide (y.2=.cell))&&(sc.names.all λy=>!decide (y.2=.local)||decide (sc.names.lookup y.1=some .local))&&(sc.names.all λy=>!decide (y.2=.free))
theorem Ed (N:List Str) {elt tg iter:Expr} {ifs:List Expr} {scope:Scope} {pos:Pos} {wi:TI} {g:TG} {tt:TT} {te:TE}
  (hc:X.calm=true) (hi:PI X tg iter wi) (hchk:JY scope=true)
  (hb:∀(C:Addr) (s:Shared) (H:Hp) (fp:List Addr),PG (BI X scope [] N C s H fp) tg g/\QR (BI X scope [] N C s H fp) ifs tt/\PE (BI X scope [] N C s H fp) elt te)
  (hs:∀x,foldedSetIterable iter X.env x=pure x:=by intro _;rfl) :
  PE X (.ListComp elt [⟨tg,iter,ifs,0⟩] scope pos) (Nz (N.map λ_=>none) wi g tt te):=by
 simp only[JY,Bool.and_eq_true,decide_eq_true_eq,List.all_eq_true,Bool.or_eq_true,Bool.not_eq_true',decide_eq_false_iff_not] at hchk;obtain⟨⟨⟨hkind,hcell⟩,hnames⟩,hfree⟩:=hchk;refine EH (cl:=[]) N (N.map λ_=>none) hc hi ?_ (closureFor_none λx hx=>hfree x hx) trivial ?_ hb hs
 ·simp only[Io,Bool.and_eq_true,decide_eq_true_eq,List.all_eq_true,Bool.or_eq_true,Bool.not_eq_true',decide_eq_false_iff_not];refine⟨⟨⟨⟨⟨hkind,by simp⟩,hcell⟩,hnames⟩,λy hy=>.inl (hfree y hy)⟩,λp hp=>?_⟩;have:p.2∈N.map λ_=>(none:Option Nat):=(cN hp).2
  obtain⟨_,_,e⟩:=aa.mp this;rw[<-e]
 ·have:∀ns:List (Str×NameKind),(∀y∈ns,y.2≠.free)->Jy [] ns:=by
   intro ns
   induction ns with
   |nil=>intro _;exact trivial
   |cons p r ih=>intro h;exact⟨λe=>absurd e (h p aM),ih λy hy=>h y (aK _ hy)⟩
  exact this _ λy hy=>hfree y hy
theorem Qz (N:List Str) {i:Nat} {x:Str} {elt tg iter:Expr} {ifs:List Expr} {scope:Scope} {cpos pos pos':Pos} {wi:TI} {g:TG} {tt:TT} {te:TE}
  (hN:X.N.Nodup) (hi':X.N[i]?=some x) (hx:Loc X.env.scope x)
  (hc:X.calm=true) (hi:PI X tg iter wi) (hchk:JY scope=true)
  (hb:∀(C:Addr) (s:Shared) (H:Hp) (fp:List Addr),PG (BI X scope [] N C s H fp) tg g/\QR (BI X scope [] N C s H fp) ifs tt/\PE (BI X scope [] N C s H fp) elt te)
  (hs:∀x,foldedSetIterable iter X.env x=pure x:=by intro _;rfl)
  (hsw:swapsWith (.ListComp elt [⟨tg,iter,ifs,0⟩] scope cpos) (some (.Name x pos')) pos.line X.env=pure true:=by rfl)
  (hf:X.fn x=true\/X.env.scope.names.lookup x=some .local:=by first|exact .inl rfl|exact .inr rfl|assumption) :
  PS X (.Assign [.Name x pos'] (.ListComp elt [⟨tg,iter,ifs,0⟩] scope cpos) pos) (Vt (Nz (N.map λ_=>none) wi g tt te) (BD i)):=by
 simp only[JY,Bool.and_eq_true,decide_eq_true_eq,List.all_eq_true,Bool.or_eq_true,Bool.not_eq_true',decide_eq_false_iff_not] at hchk;obtain⟨⟨⟨hkind,hcell⟩,hnames⟩,hfree⟩:=hchk;refine LF (cl:=[]) N (N.map λ_=>none) hN hi' hx hc hi ?_ (closureFor_none λx hx=>hfree x hx) trivial ?_ hb hs hsw hf
 ·simp only[Io,Bool.and_eq_true,decide_eq_true_eq,List.all_eq_true,Bool.or_eq_true,Bool.not_eq_true',decide_eq_false_iff_not];refine⟨⟨⟨⟨⟨hkind,by simp⟩,hcell⟩,hnames⟩,λy hy=>.inl (hfree y hy)⟩,λp hp=>?_⟩;have:p.2∈N.map λ_=>(none:Option Nat):=(cN hp).2
  obtain⟨_,_,e⟩:=aa.mp this;rw[<-e]
 ·have:∀ns:List (Str×NameKind),(∀y∈ns,y.2≠.free)->Jy [] ns:=by
   intro ns
   induction ns with
   |nil=>intro _;exact trivial
   |cons p r ih=>intro h;exact⟨λe=>absurd e (h p aM),ih λy hy=>h y (aK _ hy)⟩
  exact this _ λy hy=>hfree y hy
end
def Def (P:Program)(w:World)(K:PySem.W.Frag)(mg:Str->Option Value)(base:Heap)(k:Nat)(x:Str)(ps:List Str)(sp:Sp):Prop:=
 ∃(f:Addr) (fd:FuncData),FnOk P w K mg base EL k f fd ps sp/\mg x=some (.ref f)/\PySem.W.keepIn K (.ref f)=true/\Binds K fd ps []
section
variable {X:Cx}{k:Nat}{x:Str}{ps:List Str}{sp:Sp}{e:Expr}{es:List Expr}{t:TA}{p pos:Pos}
theorem AO (D:Def X.prog X.w X.K X.mg X.base k x ps sp) (hr:Room k X.A) (hg:Gl X x) (ha:PA X (e::es) t)
  (hdb:(x == ("__debug__":Str))=false:=by decide) (he:starEach (e::es) X.env=(false,eval e X.env)::starEach es X.env:=by rfl) (hpl:(backTo pos (starEach es X.env)).any (·.1)=false:=by rfl) :
  PE X (.Call (.Name x p) (e::es) [] pos) (Sh sp [] E0 t):=by
 obtain⟨f,fd,F,hm,hk,hb⟩:=D;exact R8 F hr hg hm hk hb .nil RN ha hdb he hpl
end
section
variable {X:Cx}
theorem Bm {x:Str}{i:Int}{pos:Pos}(hg:Gl X x)(hm:∃t,X.mg x=some (.int i t))(hd:(x == ("__debug__":Str))=false:=by decide):PE X (.Name x pos) (tC (.int i)):=by
 obtain⟨t,hm⟩:=hm;exact Pc hg hm ⟨_,rfl⟩ hd
theorem Wg {x:Str}{T:String}{pos:Pos}(hg:Gl X x)(hm:X.mg x=none)(hv:bootBuiltins x=some (.type T))(hn:x≠"__name__":=by decide)(hd:(x == ("__debug__":Str))=false:=by decide):PE X (.Name x pos) (tC (.ty T)):=V5 hg hm hv rfl hn hd
theorem PD {x z:Str}{pos:Pos}(hg:Gl X x)(hm:∃t,X.mg x=some (.str z t))(hd:(x == ("__debug__":Str))=false:=by decide):PE X (.Name x pos) (tC (.str z)):=by
 obtain⟨t,hm⟩:=hm;exact Pc hg hm ⟨_,rfl⟩ hd
end
theorem BK:bootBuiltins "isinstance"=some (.builtin "isinstance"):=by decide +kernel
theorem KM:bootBuiltins "all"=some (.builtin "all"):=by decide +kernel
theorem Fo:bootBuiltins "sorted"=some (.builtin "sorted"):=by decide +kernel
theorem Eo:bootBuiltins "len"=some (.builtin "len"):=by decide +kernel
theorem WQ:bootBuiltins "int"=some (.type "int"):=by decide +kernel
theorem QF:bootBuiltins "str"=some (.type "str"):=by decide +kernel
theorem Qw:bootBuiltins "tuple"=some (.type "tuple"):=by decide +kernel
theorem R0:bootBuiltins "dict"=some (.type "dict"):=by decide +kernel
theorem WZ {t c:String}{b:Bool}(h:(if(Value.type t == Value.type c)=true then some true else if PySem.W.kitMeta c=true then(fastBuiltinMro t).map (·.contains (.type c)) else none)=some b)(K:PySem.W.Frag) :
  PySem.W.kitOne K (.type t) (.type c)=some b:=h
section
variable {X:Cx}
def YL (K:PySem.W.Frag):List V->Hp->VK->Prop:=λxs H Q=>∃x c t b,xs=[x,.ty c]/\TyOf K H x t/\PySem.W.kitOne K t (.type c)=some b/\Q (.bl b) H
theorem PZ:FO X (.builtin "isinstance") (YL X.K):=by
 intro pins s σ H xs us Q I r h;obtain⟨x,c,t,b,rfl,ty,e,q⟩:=h;obtain⟨u,v,rfl,ru,rv⟩:=vals2 r;have ev:v=Value.type c:=rv;subst ev;exact Th I ru ty e λtk=>⟨.bl b,H,I.tok _,rfl,q⟩
end
def G7:V->Bool
 | .non=>true
 | .int _=>true
 | .str _=>true
 |_=>false
theorem NP {x:V}(h:G7 x=true):ER x=true:=by
 cases x<;>first|rfl|exact h
theorem pure_eq {x y:V}(hx:G7 x=true)(hy:G7 y=true):KS x y=decide (x=y):=by
 cases x<;>first|exact absurd (show false=true from hx) ai|skip
 all_goals (cases y<;>first|exact absurd (show false=true from hy) ai|skip)
 ·rfl
 ·rfl
 ·rfl
 ·rfl
 ·exact JJ.symm
 ·rfl
 ·rfl
 ·rfl
 ·exact EJ.symm
theorem Nb:∀(xs ys:List V),xs.length=ys.length->xs.all G7=true->ys.all G7=true->
  ((List.range xs.length).all λi=>KS (xs.getD i .non) (ys.getD i .non))=decide (xs=ys):=by
 intro xs
 induction xs with
 |nil=>
  intro ys hl _ _;cases ys with
  |nil=>rfl
  |cons _ _=>simp at hl
 |cons x xs ih=>
  intro ys hl hx hy;cases ys with
  |nil=>simp at hl
  |cons y ys=>
   rw[dm,aX] at hx hy;have q:=ih ys (by simpa using hl) hx.2 hy.2;rw[bg,List.range_succ_eq_map,dm,cI];have e0:((λi=>KS ((x::xs).getD i .non) ((y::ys).getD i .non))∘Nat.succ)=λi=>KS (xs.getD i .non) (ys.getD i .non):=by
    funext i;simp
   rw[e0,q];show(KS x y&&decide (xs=ys))=_;rw[pure_eq hx.1 hy.1]
   by_cases h1:x=y
   ·by_cases h2:xs=ys<;>simp[h1,h2]
   ·simp[h1]
theorem RV {xs:List V}{us:List Value}(r:AW xs us){j:Nat}(hj:j<us.length):∃x,xs[j]?=some x/\RelV x us[j]:=by
 have hl:=r.length;obtain⟨u,e1,e2⟩:=r.get (i:=j) (x:=xs[j]'(by omega)) (by simp[show j<xs.length by omega]);refine⟨xs[j]'(by omega),by simp[show j<xs.length by omega],?_⟩;rw[ak hj] at e1;cases e1;exact e2
section
variable {X:Cx}
theorem UF {A:Around} {s:Shared} {a b:Addr} {xs ys:List V} {its its2:List Value} (hu:A.units<cLine) (r1:AW xs its) (r2:AW ys its2) (h1:s.heap.IsList a its.toArray) (h2:s.heap.IsList b its2.toArray)
  (f1:xs.all G7=true) (f2:ys.all G7=true):SeqAt.RcAt A s (.ref a) (.ref b) (decide (xs=ys)):=by
 have l1:=r1.length;have l2:=r2.length
 by_cases hl:xs.length=ys.length
 ·have q:=fc (A:=A) (s:=s) (e:=λi=>KS (xs.getD i .non) (ys.getD i .non)) h1 h2 (by simp;omega) hu (λj g1 g2=>by
   have g1':j<its.length:=by simpa using g1
   have g2':j<its2.length:=by simpa using g2
   obtain⟨x,e1,rx⟩:=RV r1 g1';obtain⟨y,e2,ry⟩:=RV r2 g2';have p1:G7 x=true:=bu.mp f1 x (aU e1);have p2:G7 y=true:=bu.mp f2 y (aU e2);have:=KZ (A:=A.in1) (s:=s) rx ry (NP p1) (NP p2);simpa [List.getD,e1,e2] using this)
  have e:(its.toArray.size)=xs.length:=by simp;omega
  rw[e,Nb xs ys hl f1 f2] at q;exact q
 ·have e:decide (xs=ys)=false:=aG λz=>hl (by rw[z])
  rw[e];exact fS h1 h2 (by simp;omega) hu
def Y4 (K:PySem.W.Frag)(neg:Bool):R2:=λx y H Q=>∃a b xs ys,x=.ref a/\y=.ref b/\AR K H a xs/\AR K H b ys/\xs.all G7=true/\ys.all G7=true/\Q (.bl (if neg then !decide (xs=ys) else decide (xs=ys))) H
theorem WU (hu:X.A.units+1<cLine):Hr X (compareOp .Eq) (Y4 X.K false):=by
 intro pins s σ H x y v u Q I rx ry h;obtain⟨a,b,xs,ys,rfl,rfl,h1,h2,f1,f2,q⟩:=h;cases rx;cases ry;obtain⟨its,r1,p1,_⟩:=I.list h1;obtain⟨its2,r2,p2,_⟩:=I.list h2;exact UF (by omega) r1 r2 p1.isList p2.isList f1 f2 _ _ _ _ ⟨.bl _,H,I,rfl,q⟩
end
theorem Lj:∀{bs:List Bool} {us:List Value},AW (bs.map V.bl) us->LSm.BoolsAre us bs
 |[],_,.nil=>.nil
 |b::bs,_,.cons r t=>by
  have e:_=Value.bool b:=r;subst e;exact .cons b (Lj t)
section
variable {prog:Program}{w:World}{A:Around}{E:Value->Shared->Prop}{s:Shared}{l:Addr}{vs:List Value}
theorem Ua {bs:List Bool} {Q:Value->Shared->Prop} (hh:A.handled=none) (hl:s.heap.IsList l vs.toArray) (hb:LSm.BoolsAre vs bs)
  (h:∀h' tk,(∀b o,s.heap.get? b=some o->h'.get? b=some o)->Q (.bool (bs.all id)) { s with heap:=h',toks:=tk }):wpAny (model prog w) A (call (.builtin "all") [.ref l]) Q E s:=by
 have below:l<s.heap.objs.size:=(λ⟨_,e,_⟩=>aA e:s.heap.IsList l vs.toArray->_) hl;have whole:((List.range vs.toArray.size).all λi=>(bs[i]?).getD true)=bs.all id:=by rw[aF,hb.length,LSm.range_all]
 exact call_all_walk (eP hl ⟨s.heap.objs.size,[s.heap.objs.size,l],[s.heap.objs.size],vs.toArray.size,_,_,λi=>(bs[i]?).getD true,rfl,Walks.list (A:=A.in1) hh _ l (aO below) vs.toArray,⟨⟨_,ay _ rfl,rfl,rfl⟩,hl.push _⟩,
  (λi v s' Q' E' hP hQ=>by
   obtain⟨b,hg,hv⟩:=hb.get i v (by simpa using hP);have hQ':Q' b s':=by simpa [hg] using hQ
   subst hv;exact bK hQ'),
  λh' tk hk=>whole▸h h' tk (LSm.kept_iter hk)⟩)
end
section
variable {X:Cx}
theorem Gq (hc:X.calm=true):FO X (.builtin "all") (λxs H Q=>∃(a:Addr) (bs:List Bool),xs=[.ref a]/\AR X.K H a (bs.map V.bl)/\Q (.bl (bs.all id)) H):=by
 intro pins s σ H xs us Q I r h;obtain⟨a,bs,rfl,h1,q⟩:=h;obtain⟨u,rfl,ru⟩:=vals1 r;cases ru;obtain⟨its,r1,p1,_⟩:=I.list h1;exact Ua (I.ok.hd hc) p1.isList (Lj r1) λh' tk hk=>⟨.bl _,H,I.kept hk,rfl,q⟩
def XU (K:PySem.W.Frag):R2:=λx y H Q=>∃l b xs zs,x=.ref l/\y=.ref b/\AR K H l xs/\AR K H b zs/\xs.length+zs.length<=sizeLine/\∀p,H p=none->Q (.ref p) (upd H p (.lst (xs++zs)))
theorem Ij:Hr X (binaryOp .Add) (XU X.K):=by
 intro pins s σ H x y v u Q I rx ry h;obtain⟨l,b,xs,zs,rfl,rfl,h1,h2,hz,q⟩:=h;cases rx;cases ry;obtain⟨its,r,p1,_⟩:=I.list h1;obtain⟨its2,r2,p2,_⟩:=I.list h2;have l1:=r.length;have l2:=r2.length;obtain⟨⟨cls,dd,data,sl⟩,ho,hc,n,hd⟩:=id p1.isList;obtain⟨⟨cls2,dd2,data2,sl2⟩,ho2,hc2,n2,hd2⟩:=id p2.isList;simp only at hc hd hc2 hd2;subst hc hd hc2 hd2;have e:its.toArray++its2.toArray=(its++its2).toArray:=by simp
 refine eQ ⟨_,ho,rfl⟩ ⟨_,ho2,rfl⟩ noFill_list_add seq_list_add PySem.F.slot_list_add PySem.F.entry_list_add (PySem.F.args_list_add_2 _ _) (list_addW l b its.toArray its2.toArray n n2 dd dd2 sl sl2 (by rw[aF,aF];omega)) ⟨ho,ho2,?_⟩;rw[e];exact⟨.ref _,_,I.lnew (t':=s.toks) (r.append r2) (by rw[aW];omega),rfl,q _ I.fresh⟩
end
theorem Ah {H:Hp}{p:Addr}(h:H p=none)(o:HO):AA H (upd H p o):=λb u q=>by rw[An (Cm q h)];exact q
theorem Fv {H H':Hp}{p:Addr}(s:AA H H')(h:H p=none)(o:HO):AA H (upd H' p o):=λb u q=>by rw[An (Cm q h)];exact s b u q
theorem AA.get {H H':Hp}{a:Addr}{o:HO}(s:AA H H')(h:H a=some o):H' a=some o:=s a o h
theorem JE:1000000<=sizeLine:=by decide
theorem small {n:Nat}(h:n<=1000000):n<=sizeLine:=aV h JE
theorem Ir {n:Nat}(h:n<1000000):n<sizeLine:=aQ h JE
theorem Gb {ns:List Int}{i:Int}(h0:0<=i)(h1:i<ns.length):Jv (ns.map V.int) i=some (.int (ns.getD i.toNat 0)):=by
 have hk:i.toNat<ns.length:=by omega
 have ek:i=((i.toNat:Nat):Int):=by omega
 have q:Jv (ns.map V.int) ((i.toNat:Nat):Int)=some (.int (ns.getD i.toNat 0)):=Af (by rw[aJ,ak hk];simp[List.getD,List.getElem?_eq_getElem hk]);rw[<-ek] at q;exact q
theorem YK {xs:List V}{i:Int}(h:0<=i):Lx xs (some i) none=xs.drop i.toNat:=by
 unfold Lx;rw[show i=((i.toNat:Nat):Int) by omega,HT.RE,HT.Qd,d7]
 by_cases hl:i.toNat<=xs.length
 ·rw[Nat.min_eq_left hl,bj (by rw[bX];exact aq _)]
 ·rw[Nat.min_eq_right (by omega),fv (aq _),fv (by omega),List.take_nil]
theorem M3 {xs:List V}{j:Int}(h:0<=j):Lx xs none (some j)=xs.take j.toNat:=by
 unfold Lx;rw[show j=((j.toNat:Nat):Int) by omega,HT.RE,HT.Qd,d7,List.drop_zero,Nat.sub_zero]
 by_cases hl:j.toNat<=xs.length
 ·rw[Nat.min_eq_left hl]
 ·rw[Nat.min_eq_right (by omega),bj (aq _),bj (by omega)]
theorem UZ (ns:List Int)(lo hi:Option Int):∃ms:List Int,Lx (ns.map V.int) lo hi=ms.map V.int/\ms.length<=ns.length/\∀x∈ms,x∈ns:=by
 refine⟨(ns.drop (HT.Ea (ns.map V.int).length 0 lo)).take (HT.Ea (ns.map V.int).length (ns.map V.int).length hi-HT.Ea (ns.map V.int).length 0 lo),?_,?_,λx hx=>fJ (cj hx)⟩
 ·unfold Lx;rw[dh,List.map_drop]
 ·rw[ba,bX];omega
theorem Av {c:Bool}{A B:Prop}(h:c=false)(b:B):if c=true then A else B:=by
 subst h;rw[aj ai];exact b
theorem AX {c:Bool}{A B:Prop}(h:c=true)(b:A):if c=true then A else B:=by
 subst h;rw[aw rfl];exact b
theorem dec_true {c:Prop}[Decidable c](h:decide c=true):c:=aE h
theorem dec_false {c:Prop}[Decidable c](h:¬decide c=true):¬c:=λz=>h (au z)
def JC (J:It)(H:Hp)(xs:List V):Prop:=∀H',AA H H'->∀i:Nat,(i<xs.length->J.go i H')/\(∀x H'',J.yld i H' x H''->H''=H'/\(i<xs.length->xs[i]?=some x))/\(xs.length<=i->J.stop i H')
theorem Cv {K:PySem.W.Frag}{a:Addr}{H:Hp}{xs:List V}(h:AR K H a xs):JC (Xn K a) H xs:=λH' s i=>
 ⟨λhi=>⟨xs,xs[i],s.seq h,by simp[hi]⟩,λx H'' y=>⟨y.1,λ_=>y.2 xs (s.seq h)⟩,λhi=>⟨xs,s.seq h,hi⟩⟩
theorem Rz {lo:Int}{n:Nat}{H:Hp}:JC (W9 lo n) H ((List.range n).map λ(i:Nat)=>V.int (lo+(i:Int))):=λH' s i=>
 ⟨λhi=>(by simpa using hi:i<n),λx H'' y=>⟨y.1,λhi=>by
  have hi':i<n:=by simpa using hi
  rw[aJ,List.getElem?_range hi',y.2];rfl⟩,λhi=>(by simpa using hi:n<=i)⟩
theorem comp_map {J:It} {xs:List V} {fr:List (Option Nat)} {k:Nat} {te:TE} {Q:VK} {σ:St} {H:Hp} (f:V->V) (hJ:JC J H xs) (hn:xs.length<=1000000)
  (helt:∀(x:V) (H':Hp) (R:VK),x∈xs->AA H H'->(∀H'',AA H' H''->R (f x) H'')->te ((stC fr σ).set k (some x)) H' R)
  (hQ:∀l H',H l=none->AA H H'->H' l=some (.lst (xs.map f))->Q (.ref l) H') :
  Jn fr (BD k) VH te σ Q J H:=by
 intro l hl;refine⟨λi m σ' H'=>m=xs.length-i/\i<=xs.length/\(∀y,σ'.set k y=(stC fr σ).set k y)/\AA H H'/\H' l=some (.lst ((xs.take i).map f)),⟨xs.length,by simp,bw _,λ_=>rfl,Ah hl _,by rw[Ac,List.take_zero,d5]⟩,?_⟩
 rintro i m σ' H' ⟨rfl,hi,hσ,hs,hl'⟩
 obtain⟨h1,h2,h3⟩:=hJ H' hs i
 by_cases hlt:i<xs.length
 ·refine .inr ⟨h1 hlt,λx H'' y=>?_⟩;obtain⟨rfl,hx⟩:=h2 x H'' y;have hx:=hx hlt;show te (σ'.set k (some x)) H'' _;rw[hσ];refine helt x H'' _ (aU hx) hs λH4 s4=>?_
  refine⟨_,s4.get hl',Ir (by rw[ae,ba];omega),xs.length-(i+1),by omega,rfl,hlt,λy=>by rw[cO],Fv (hs.trans s4) hl _,?_⟩;rw[Ac,cf,hx];simp
 ·have e:i=xs.length:=by omega
  subst e;exact .inl ⟨h3 (aq _),hQ l H' hl hs (by rw[hl',bj (aq _)])⟩
section
variable {X:Cx}{K:PySem.W.Frag}
theorem FC (h:X.K=K):Xo X (XD K):=by subst h;exact AQ
theorem FV (h:X.K=K):Xo X (WX K):=by subst h;exact Ak
end
def Ok (H:Hp):V->Prop
 | .non=>True
 | .bl _=>True
 | .int _=>True
 | .str z=>z.length<=1000
 | .ref a=>(∃xs,H a=some (.lst xs))\/∃xs,H a=some (.tup xs)
 |_=>False
def Ly (H:Hp):V->String
 | .non=>"NoneType"
 | .bl _=>"bool"
 | .int _=>"int"
 | .str _=>"str"
 | .ref a=>match H a with
  |some (.lst _)=>"list"
  |some (.tup _)=>"tuple"
  |_=>"?"
 |_=>"?"
theorem Ok.ty {H:Hp}{v:V}(h:Ok H v)(K:PySem.W.Frag):TyOf K H v (.type (Ly H v)):=by
 cases v with
 |non=>exact .non
 |bl b=>exact .bl b
 |int i=>exact .int i
 |str z=>exact .str z
 |ref a=>
  rcases h with⟨xs,e⟩|⟨xs,e⟩
  ·have q:Ly H (.ref a)="list":=by simp only[Ly,e]
   rw[q];exact .lst e
  ·have q:Ly H (.ref a)="tuple":=by simp only[Ly,e]
   rw[q];exact .tup e
 |_=>exact h.elim
def isA (t c:String):Bool:=t == c||(t == "bool"&&c == "int")
theorem VP {t c:String}(K:PySem.W.Frag)(ht:t∈["NoneType","bool","int","str","list","tuple"])(hc:c∈["bool","int","str","list","tuple"]):PySem.W.kitOne K (.type t) (.type c)=some (isA t c):=by
 have all:∀t∈["NoneType","bool","int","str","list","tuple"],∀c∈["bool","int","str","list","tuple"],(if(Value.type t == Value.type c)=true then some true else if PySem.W.kitMeta c=true then(fastBuiltinMro t).map (·.contains (.type c)) else none)=some (isA t c):=by decide +kernel
 exact WZ (all t ht c hc) K
theorem Ok.tyMem {H:Hp}{v:V}(h:Ok H v):Ly H v∈["NoneType","bool","int","str","list","tuple"]:=by
 cases v with
 |ref a=>
  rcases h with⟨xs,e⟩|⟨xs,e⟩
  ·simp only[Ly,e];decide
  ·simp only[Ly,e];decide
 |byt _=>exact h.elim
 |flt _=>exact h.elim
 |ty _=>exact h.elim
 |_=>simp only[Ly];decide
theorem Ok.kit {H:Hp}{v:V}(h:Ok H v)(K:PySem.W.Frag){c:String}(hc:c∈["bool","int","str","list","tuple"]:=by decide):PySem.W.kitOne K (.type (Ly H v)) (.type c)=some (isA (Ly H v) c):=VP K h.tyMem hc
theorem VB {H:Hp}{a:Addr}{xs:List V}(e:H a=some (.lst xs)):Ly H (.ref a)="list":=by simp only[Ly,e]
theorem Vf {H:Hp}{a:Addr}{xs:List V}(e:H a=some (.tup xs)):Ly H (.ref a)="tuple":=by simp only[Ly,e]
theorem Ok.elim {H:Hp} {v:V} (ok:Ok H v) {C:Prop} (c1:v=.non->Ly H v="NoneType"->C) (c2:∀b,v=.bl b->Ly H v="bool"->C) (c3:∀i,v=.int i->Ly H v="int"->C) (c4:∀z,v=.str z->z.length<=1000->Ly H v="str"->C)
  (c5:∀a xs,v=.ref a->H a=some (.lst xs)->Ly H v="list"->C) (c6:∀a xs,v=.ref a->H a=some (.tup xs)->Ly H v="tuple"->C):C:=by
 cases v with
 |non=>exact c1 rfl rfl
 |bl b=>exact c2 b rfl rfl
 |int i=>exact c3 i rfl rfl
 |str z=>exact c4 z rfl ok rfl
 |ref a=>
  rcases ok with⟨xs,e⟩|⟨xs,e⟩
  ·exact c5 a xs rfl e (VB e)
  ·exact c6 a xs rfl e (Vf e)
 |_=>exact(show False from ok).elim
theorem WH {H:Hp}{v:V}(ok:Ok H v)(h:isA (Ly H v) "str"=true):∃z,v=.str z/\z.length<=1000:=by
 refine ok.elim (λ_ e=>?_) (λ_ _ e=>?_) (λ_ _ e=>?_) (λz e1 e2 _=>⟨z,e1,e2⟩) (λ_ _ _ _ e=>?_) (λ_ _ _ _ e=>?_)
 all_goals (rw[e] at h;exact absurd h (by decide))
def Yq (x:Str):It:=⟨λi _=>i<x.cps.size,λi H v H'=>H'=H/\∃c,x.cps[i]?=some c/\v=.str ⟨#[c]⟩,λi _=>x.cps.size<=i⟩
theorem Q5 {P:Program}{w:World}{K:PySem.W.Frag}{tg:Expr}(it:Addr)(x:Str)(t:Tok):Turn P w K tg (Yq x) [it] it (λi h=>h.IsStrIter it "str_ascii_iterator" x t i) where
 mem:=by simp
 obj:=λi h st b hb=>by
  have e:b=it:=by simpa using hb
  subst e;obtain⟨o,e,c,d⟩:=st;exact⟨o,e,λv z=>by rw[d] at z;cases z⟩
 keep:=λi h h' st k=>by
  obtain⟨o,e,c,d⟩:=st;exact⟨o,k it (by simp) o e,c,d⟩
 item:=by
  intro X hP hw hK hc i pins s σ H E I hf st hg;subst hP hw hK;have hg':i<x.cps.size:=hg;obtain⟨f0,f1,f2,f3,f4,f5⟩:=hf it (by simp);refine wpAny_pyNext_ascii_item st (c:=x.cps[i]) (by simp[hg']) λh' st' sb=>?_
  have I1:Inv X pins σ H { s with heap:=h',toks:=s.toks+1 }:=I.turned (λb o hb e=>(sb.2 b hb).trans e) f0 f1 f3 f4 f5;obtain⟨o,e,c,d⟩:=id st';exact⟨_,rfl,LX (s:={ s with heap:=h',toks:=s.toks+1 }) e c d (by decide) ⟨.str ⟨#[x.cps[i]]⟩,H,I1,⟨_,rfl⟩,⟨rfl,_,by simp[hg'],rfl⟩,st',λb hb=>(hf b hb).1⟩⟩
 done:=by
  intro X hP hw hK hc i pins s σ H E I hf st hg;subst hP hw hK;have hg':x.cps.size<=i:=hg;obtain⟨f0,f1,f2,f3,f4,f5⟩:=hf it (by simp);exact wpAny_pyNext_ascii_end (I.ok.hd hc) st (by simp[hg']) λh' eb=>⟨rfl,I.turned (t':=s.toks) (λb o hb e=>eb b o hb e) f0 f1 f3 f4 f5⟩
 self:=λ_ _ _ _ _ st h=>wpAny_pyIter_striter_ascii st h
theorem Si {P:Program}{w:World}{K:PySem.W.Frag}{tg:Expr}(it:Addr)(x:Str)(t:Tok):Turn P w K tg (Yq x) [it] it (λi h=>h.IsStrIter it "str_iterator" x t i) where
 mem:=by simp
 obj:=λi h st b hb=>by
  have e:b=it:=by simpa using hb
  subst e;obtain⟨o,e,c,d⟩:=st;exact⟨o,e,λv z=>by rw[d] at z;cases z⟩
 keep:=λi h h' st k=>by
  obtain⟨o,e,c,d⟩:=st;exact⟨o,k it (by simp) o e,c,d⟩
 item:=by
  intro X hP hw hK hc i pins s σ H E I hf st hg;subst hP hw hK;have hg':i<x.cps.size:=hg;obtain⟨f0,f1,f2,f3,f4,f5⟩:=hf it (by simp);refine wpAny_pyNext_wide_item st (c:=x.cps[i]) (by simp[hg']) λh' st' sb=>?_
  have I1:Inv X pins σ H { s with heap:=h',toks:=s.toks+1 }:=I.turned (λb o hb e=>(sb.2 b hb).trans e) f0 f1 f3 f4 f5;obtain⟨o,e,c,d⟩:=id st';exact⟨_,rfl,LX (s:={ s with heap:=h',toks:=s.toks+1 }) e c d (by decide) ⟨.str ⟨#[x.cps[i]]⟩,H,I1,⟨_,rfl⟩,⟨rfl,_,by simp[hg'],rfl⟩,st',λb hb=>(hf b hb).1⟩⟩
 done:=by
  intro X hP hw hK hc i pins s σ H E I hf st hg;subst hP hw hK;have hg':x.cps.size<=i:=hg;obtain⟨f0,f1,f2,f3,f4,f5⟩:=hf it (by simp);exact wpAny_pyNext_wide_end (I.ok.hd hc) st (by simp[hg']) λh' eb=>⟨rfl,I.turned (t':=s.toks) (λb o hb e=>eb b o hb e) f0 f1 f3 f4 f5⟩
 self:=λ_ _ _ _ _ st h=>wpAny_pyIter_striter_wide st h
section
variable {X:Cx}{tg:Expr}
def YW (tl:TE):TI:=λσ H R=>tl σ H λx H1=>∃z,x=.str z/\R (Yq z) H1
theorem QV {l:Expr}{tl:TE}(hl:PE X l tl):PI X tg l (YW tl):=by
 intro pins s σ H R I h;refine Bv (hl pins s σ H _ I h) λv s1 ⟨x,H1,I1,r1,q1⟩=>?_
 obtain⟨z,e,q⟩:=q1;subst e;obtain⟨t,rfl⟩:=r1;have fp:∀b∈[s1.heap.objs.size],Nm X pins H1 b:=λb hb=>by
  have e:b=s1.heap.objs.size:=by simpa using hb
  subst e;exact I1.fpOk (aq _) (I1.hok.fresh (aq _))
 cases ha:z.cps.all (· < 128)
 ·exact wpAny_pyIter_wide ha ⟨s1.heap.objs.size,[s1.heap.objs.size],_,_,H1,rfl,I1.kept (t':=s1.toks) (λb o e=>ah _ e),Si _ z t,⟨_,ay _ rfl,rfl,rfl⟩,fp,q⟩
 ·exact wpAny_pyIter_ascii ha ⟨s1.heap.objs.size,[s1.heap.objs.size],_,_,H1,rfl,I1.kept (t':=s1.toks) (λb o e=>ah _ e),Q5 _ z t,⟨_,ay _ rfl,rfl,rfl⟩,fp,q⟩
end
theorem L6 {x:Str}{H:Hp}:JC (Yq x) H (x.cps.toList.map λc=>V.str ⟨#[c]⟩):=λH' s i=>
 ⟨λhi=>(by simpa using hi:i<x.cps.size),λv H'' y=>⟨y.1,λhi=>by
  obtain⟨_,c,hc,e⟩:=y;rw[aJ,fA,hc,e];rfl⟩,λhi=>(by simpa using hi:x.cps.size<=i)⟩
section
variable {X:Cx}
def Yw:V->Option Int->Option Int->Hp->VK->Prop:=λx lo hi H Q=>∃z:Str,x=.str z/\z.length<=sizeLine/\Q (.str (PySem.Txt.slice z lo hi)) H
theorem Q6:Yp X Yw:=by
 intro pins s σ H x v vl vu lo hi sl Q I rx hs pl pu h;obtain⟨z,rfl,hz,q⟩:=h;obtain⟨t,rfl⟩:=rx;refine⟨"str",_,slot_str_getitem.lookup,eG _ _ _,?_⟩;cases pl with
 |none=>
  cases pu with
  |none=>exact cJ (l:=none) (u:=none) (st:=none) hs rfl (dX ⟨aV (cR z _ _) hz,λt' k=>⟨.str _,H,I.tok k,⟨_,rfl⟩,q⟩⟩)
  |int j tj=>exact cJ (l:=none) (u:=some (j,tj)) (st:=none) hs rfl (dX ⟨aV (cR z _ _) hz,λt' k=>⟨.str _,H,I.tok k,⟨_,rfl⟩,q⟩⟩)
 |int i ti=>
  cases pu with
  |none=>exact cJ (l:=some (i,ti)) (u:=none) (st:=none) hs rfl (dX ⟨aV (cR z _ _) hz,λt' k=>⟨.str _,H,I.tok k,⟨_,rfl⟩,q⟩⟩)
  |int j tj=>exact cJ (l:=some (i,ti)) (u:=some (j,tj)) (st:=none) hs rfl (dX ⟨aV (cR z _ _) hz,λt' k=>⟨.str _,H,I.tok k,⟨_,rfl⟩,q⟩⟩)
theorem QU {ys:List Str}:∀{us:List Value},AW (ys.map V.str) us->StrsAre us ys:=by
 induction ys with
 |nil=>intro us r;rw[d5] at r;cases r;exact .nil
 |cons n ns ih=>
  intro us r;rw[aD] at r;cases r with
  |cons r1 r2=>
   obtain⟨t,e⟩:=r1;subst e;exact .cons n t (ih r2)
def rJoin (K:PySem.W.Frag):V->List V->Hp->VK->Prop:=λx vs H Q=>∃(a:Addr) (z:Str) (ys:List Str),x=.str z/\vs=[.ref a]/\AR K H a (ys.map V.str)/\(ys.map (·.length)).sum+ys.length*z.length<=16777216/\Q (.str (PySem.Txt.join z ys)) H
theorem Vb (_:X.calm=true):VX X "str.join" (rJoin X.K):=by
 intro pins s σ H x vs v us Q I rx rv h;obtain⟨a,z,ys,rfl,rfl,hq,hz,q⟩:=h;obtain⟨tk,rfl⟩:=rx;obtain⟨y,rfl,ry⟩:=rv.one;cases ry;obtain⟨its,r1,p1,_⟩:=I.list hq;exact join_list p1.isList (QU (by simpa using r1)) hz λt' k=>⟨.str _,H,I.tok k,⟨_,rfl⟩,q⟩
end
end L2
namespace L2
open PySem PySem.Spec PyProof.Rows PySem.Builtin.Str
abbrev C5 (z:Str):List Nat:=z.cps.toList
theorem Dl (z:Str):(C5 z).length=z.length:=by simp[Str.length]
theorem GU (a y:Str):C5 (a++y)=C5 a++C5 y:=by
 show(a.cps++y.cps).toList=_;simp
theorem Wc (z:Str){j:Int}(h0:0<=j):C5 (PySem.Txt.slice z none (some j))=(C5 z).take j.toNat:=by
 have hc:StrLaws.sliceText z none (some j)=StrLaws.sliceText z none (some (min j z.length)):=by
  have e:strSliceIndices none (some j) 1 z.length=strSliceIndices none (some (min j z.length)) 1 z.length:=by
   unfold strSliceIndices;have e1:(if j<0 then j+(z.length:Int) else j)=j:=aj (by omega);have e2:(if min j (z.length:Int)<0 then min j (z.length:Int)+(z.length:Int) else min j (z.length:Int))=min j z.length:=aj (by omega);simp only[e1,e2];have e3:max 0 (min j (z.length:Int))=max 0 (min (min j (z.length:Int)) z.length):=by omega
   rw[e3];simp only[if_pos (show(1:Int)>0 by decide)]
  unfold StrLaws.sliceText;rw[e]
 show C5 (StrLaws.sliceText z none (some j))=_;rw[hc,StrLaws.sliceText_to ⟨by omega,by rw[Dl z];omega⟩];show((C5 z).drop 0).take (min j (z.length:Int)-0).toNat=_;rw[List.drop_zero]
 by_cases h:j<=z.length
 ·congr 1;omega
 ·have hl:=Dl z;rw[bj (by omega),bj (by omega)]
end L2
namespace L2
open PySem PySem.Spec PyProof.Rows
theorem Ui {J:It} {xs:List V} {fr:List (Option Nat)} {k:Nat} {te:TE} {Q:VK} {σ:St} {H:Hp} (P:V->V->Hp->Prop) (hP:∀x y H1 H2,P x y H1->AA H1 H2->P x y H2)
  (hU:∀x y H1 l us us',P x y H1->H1 l=some (.lst us)->y≠.ref l->P x y (upd H1 l (.lst us'))) (hJ:JC J H xs) (hn:xs.length<=1000000)
  (helt:∀(x:V) (H':Hp) (R:VK),x∈xs->AA H H'->(∀y H'',AA H' H''->(∀a,y=.ref a->H' a=none)->P x y H''->R y H'')->te ((stC fr σ).set k (some x)) H' R)
  (hQ:∀l H' (ys:List V),H l=none->AA H H'->H' l=some (.lst ys)->ys.length=xs.length->(∀(i:Nat) x y,xs[i]?=some x->ys[i]?=some y->P x y H'/\y≠.ref l)->Q (.ref l) H') :
  Jn fr (BD k) VH te σ Q J H:=by
 intro l hl;refine⟨λi m σ' H'=>m=xs.length-i/\i<=xs.length/\(∀y,σ'.set k y=(stC fr σ).set k y)/\AA H H'/\∃ys:List V,H' l=some (.lst ys)/\ys.length=i/\(∀(i:Nat) x y,xs[i]?=some x->ys[i]?=some y->P x y H'/\y≠.ref l),
  ⟨xs.length,by simp,bw _,λ_=>rfl,Ah hl _,[],Ac,rfl,λi x y _ h=>by simp at h⟩,?_⟩
 rintro i m σ' H' ⟨rfl,hi,hσ,hs,ys,hl',hlen,hp⟩
 obtain⟨h1,h2,h3⟩:=hJ H' hs i
 by_cases hlt:i<xs.length
 ·refine .inr ⟨h1 hlt,λx H'' y=>?_⟩;obtain⟨rfl,hx⟩:=h2 x H'' y;have hx:=hx hlt;show te (σ'.set k (some x)) H'' _;rw[hσ];refine helt x H'' _ (aU hx) hs λy H4 s4 fy py=>?_
  have yl:y≠.ref l:=λz=>by rw[fy l z] at hl';cases hl'
  refine⟨_,s4.get hl',Ir (by omega),xs.length-(i+1),by omega,rfl,hlt,λy=>by rw[cO],Fv (hs.trans s4) hl _,ys++[y],Ac,by rw[aW,hlen];rfl,λj x' y' hx' hy'=>?_⟩
  by_cases hj:j<ys.length
  ·rw[bV hj] at hy';obtain⟨q1,q2⟩:=hp j x' y' hx' hy';exact⟨hU _ _ _ _ _ _ (hP _ _ _ _ q1 s4) (s4.get hl') q2,q2⟩
  ·rw[bS (by omega)] at hy'
   by_cases hj2:j=ys.length
   ·subst hj2;rw[Nat.sub_self] at hy';cases(aI hy':y=y');rw[hlen] at hx';cases(aI (hx.symm.trans hx'):x=x');exact⟨hU _ _ _ _ _ _ py (s4.get hl') yl,yl⟩
   ·rw[dH (by simp;omega)] at hy';cases hy'
 ·have e:i=xs.length:=by omega
  subst e;exact .inl ⟨h3 (aq _),hQ l H' ys hl hs hl' hlen hp⟩
theorem VE {X:Cx}{K:PySem.W.Frag}{pos:Pos}{es:List Expr}{k:Nat}{t:Wp}{n:Nat}(hK:X.K=K)(hc:X.calm=true)(h:XI X es t)(hn:(assignEach es X.env).length=n:=by rfl)(hs:(assignEach es X.env).findIdx? (·.1)=none:=by rfl):PG X (.Tuple es k pos) (Xa K n t):=by
 subst hK;exact TH hc h hn hs
section
variable {κ:Type}[DecidableEq κ]
def ET (kvs:List (κ×V))(k:κ):Option V:=(kvs.find? λkv=>decide (kv.1=k)).map (·.2)
def putK (kvs:List (κ×V))(k:κ)(v:V):List (κ×V):=
 if(kvs.any λkv=>decide (kv.1=k))=true then kvs.map (λkv=>if kv.1=k then(kv.1,v) else kv) else kvs++[(k,v)]
def Lg (kvs:List (κ×V))(k:κ):List (κ×V):=kvs.filter λkv=>decide (kv.1≠k)
theorem HN {p:κ×V}{r:List (κ×V)}{k:κ}(e:p.1=k):ET (p::r) k=some p.2:=by simp[ET,List.find?_cons,e]
theorem HQ {p:κ×V}{r:List (κ×V)}{k:κ}(e:¬p.1=k):ET (p::r) k=ET r k:=by simp[ET,List.find?_cons,e]
theorem PN (k:κ):∀kvs:List (κ×V),(kvs.any λkv=>decide (kv.1=k))=(ET kvs k).isSome
 |[]=>rfl
 |p::r=>by
  rw[di]
  by_cases e:p.1=k
  ·simp only[HN e,decide_eq_true e,Bool.true_or,Option.isSome_some]
  ·rw[HQ e,aG e,Bool.false_or];exact PN k r
theorem HW (kvs:List (κ×V))(k:κ)(v:V):(putK kvs k v).length<=kvs.length+1:=by
 unfold putK
 split
 ·rw[ae];omega
 ·rw[aW,bg,List.length_nil];omega
theorem Ho.isSome_eq {o:Option V}{u:Option Value}(r:Ho o u):o.isSome=u.isSome:=by
 cases o with
 |none=>cases u with
  |none=>rfl
  |some _=>exact(show False from r).elim
 |some _=>cases u with
  |none=>exact(show False from r).elim
  |some _=>rfl
theorem KV.val {kvs:List (κ×V)}{vs:List (κ×Value)}(r:KV kvs vs)(k:κ):Ho (ET kvs k) (valueAt vs k):=by
 unfold KV at r
 induction r with
 |nil=>exact True.intro
 |@cons p q ps qs h t ih=>
  obtain⟨h1,h2⟩:=h
  by_cases e:p.1=k
  ·have e':q.1=k:=h1.symm.trans e;have b:valueAt (q::qs) k=some q.2:=by simp[valueAt,List.find?_cons,e']
   rw[HN e,b];exact h2
  ·have e':¬q.1=k:=λz=>e (h1.trans z)
   have b:valueAt (q::qs) k=valueAt qs k:=by simp[valueAt,List.find?_cons,e']
   rw[HQ e,b];exact ih
theorem KV.any {kvs:List (κ×V)}{vs:List (κ×Value)}(r:KV kvs vs)(k:κ):(kvs.any λkv=>decide (kv.1=k))=vs.any λkv=>decide (kv.1=k):=by
 unfold KV at r
 induction r with
 |nil=>rfl
 |cons h t ih=>rw[di,di,ih,h.1]
theorem KV.repl {kvs:List (κ×V)}{vs:List (κ×Value)}(r:KV kvs vs)(k:κ){y:V}{u:Value}(ry:RelV y u) :
  KV (kvs.map λkv=>if kv.1=k then(kv.1,y) else kv) (vs.map λkv=>if kv.1=k then(kv.1,u) else kv):=by
 unfold KV at r ⊢
 induction r with
 |nil=>exact .nil
 |@cons p q ps qs h t ih=>
  rw[aD,aD];refine .cons ?_ ih;obtain⟨h1,h2⟩:=h
  by_cases e:p.1=k
  ·rw[aw e,aw (h1.symm.trans e)];exact⟨h1,ry⟩
  ·rw[aj e,aj (λz=>e (h1.trans z))];exact⟨h1,h2⟩
theorem KV.put {kvs:List (κ×V)}{vs:List (κ×Value)}(r:KV kvs vs)(k:κ){y:V}{u:Value}(ry:RelV y u):KV (putK kvs k y) (stored vs k u):=by
 unfold putK stored;rw[r.any k]
 by_cases e:(vs.any λkv=>decide (kv.1=k))=true
 ·rw[aw e,aw e];exact r.repl k ry
 ·rw[aj e,aj e];exact Paired.snoc r ⟨rfl,ry⟩
theorem KV.drop {kvs:List (κ×V)}{vs:List (κ×Value)}(r:KV kvs vs)(k:κ):KV (Lg kvs k) (without vs k):=by
 unfold KV at r ⊢;unfold Lg without
 induction r with
 |nil=>exact .nil
 |@cons p q ps qs h t ih=>
  obtain⟨h1,h2⟩:=h;rw[bC,bC]
  by_cases e:p.1=k
  ·have a:¬decide (p.1≠k)=true:=by simp[e]
   have b:¬decide (q.1≠k)=true:=by simp[h1.symm.trans e]
   rw[aj a,aj b];exact ih
  ·have e':¬q.1=k:=λz=>e (h1.trans z)
   have a:decide (p.1≠k)=true:=by simp[e]
   have b:decide (q.1≠k)=true:=by simp[e']
   rw[aw a,aw b];exact .cons ⟨h1,h2⟩ ih
theorem KV.keys {kvs:List (κ×V)}{vs:List (κ×Value)}(r:KV kvs vs):kvs.map (·.1)=vs.map (·.1):=by
 unfold KV at r
 induction r with
 |nil=>rfl
 |cons h t ih=>rw[aD,aD,ih,h.1]
theorem KV.length {kvs:List (κ×V)}{vs:List (κ×Value)}(r:KV kvs vs):kvs.length=vs.length:=bU r
theorem PP (kvs:List (κ×V))(k:κ):(Lg kvs k).length<=kvs.length:=bf _ _
end
theorem Li {P:Program}{w:World}{k:Key}{u:Value}(r:RelV (kV k) u):(Bk P w).is k u=true:=by
 cases k with
 |inl i=>obtain⟨t,e⟩:=(show ∃t,u=Value.int i t from r);subst e;exact Qj P w i t
 |inr x=>obtain⟨t,e⟩:=(show ∃t,u=Value.str x t from r);subst e;exact P8 P w x t
theorem NJ {P:Program}{w:World}:∀{ks:List Key} {us:List Value},AW (ks.map kV) us->ItemsAre (Bk P w) ks us
 |[],_,r=>by rw[d5] at r;cases r;exact .nil
 |k::ks,_,r=>by
  rw[aD] at r;cases r with
  |cons h t=>exact .cons (Li h) (NJ t)
abbrev KT (H:Hp):List (List Key×V)->List (List Key×Addr×Value)->Prop:=Paired λp q=>p.1=q.1/\H q.2.1=some (.tup (p.1.map kV))/\RelV p.2 q.2.2
theorem KT.val {H:Hp}{kvs:List (List Key×V)}{xs:List (List Key×Addr×Value)}(r:KT H kvs xs)(k:List Key):Ho (ET kvs k) ((atKey xs k).map (·.2)):=by
 induction r with
 |nil=>exact True.intro
 |@cons p q ps qs h t ih=>
  obtain⟨h1,_,h2⟩:=h
  by_cases e:p.1=k
  ·have e':q.1=k:=h1.symm.trans e;have b:atKey (q::qs) k=some q.2:=by simp[atKey,List.find?_cons,e']
   rw[HN e,b];exact h2
  ·have e':¬q.1=k:=λz=>e (h1.trans z)
   have b:atKey (q::qs) k=atKey qs k:=by simp[atKey,List.find?_cons,e']
   rw[HQ e,b];exact ih
theorem KT.repl {H:Hp}{kvs:List (List Key×V)}{xs:List (List Key×Addr×Value)}(r:KT H kvs xs)(k:List Key){y:V}{u:Value}(ry:RelV y u) :
  KT H (kvs.map λkv=>if kv.1=k then(kv.1,y) else kv) (xs.map (putAt k u)):=by
 induction r with
 |nil=>exact .nil
 |@cons p q ps qs h t ih=>
  rw[aD,aD];refine .cons ?_ ih;obtain⟨h1,h2,h3⟩:=h;unfold putAt
  by_cases e:p.1=k
  ·rw[aw e,aw (h1.symm.trans e)];exact⟨h1,h2,ry⟩
  ·rw[aj e,aj (λz=>e (h1.trans z))];exact⟨h1,h2,h3⟩
theorem KT.put {H:Hp}{kvs:List (List Key×V)}{xs:List (List Key×Addr×Value)}(r:KT H kvs xs)(k:List Key){b:Addr}{y:V}{u:Value}(hb:H b=some (.tup (k.map kV)))(ry:RelV y u) :
  KT H (putK kvs k y) (storedH xs k b u):=by
 have e:(kvs.any λkv=>decide (kv.1=k))=(atKey xs k).isSome:=by
  rw[PN,(r.val k).isSome_eq,d3]
 unfold putK storedH;rw[e]
 by_cases q:(atKey xs k).isSome=true
 ·rw[aw q,aw q];exact r.repl k ry
 ·rw[aj q,aj q];exact Paired.snoc r ⟨rfl,hb,ry⟩
theorem KT.keeps {H H':Hp}{kvs:List (List Key×V)}{xs:List (List Key×Addr×Value)}(r:KT H kvs xs)(ht:∀b ys,H b=some (.tup ys)->H' b=some (.tup ys)):KT H' kvs xs:=
 Paired.mapP r λ_ _ z=>⟨z.1,ht _ _ z.2.1,z.2.2⟩
section
variable {P:Program}{w:World}{H:Hp}{h:Heap}{a:Addr}
theorem Wk {u:HO}(ok:Im P w H h)(e:Rd H a u):Be P w H h a u:=e.ok ok
theorem Mc {kvs:List (Key×V)}(ok:Im P w H h)(e:Rd H a (.dK kvs)):kvs.length<=sizeLine/\(a == sysModules)=false/\∃vs,KV kvs vs/\h.DictOf (Bk P w) a vs:=
 show Be P w H h a (.dK kvs) from Wk ok e
theorem Pn {kvs:List (Key×V)}(ok:Im P w H h)(e:H a=some (.dK kvs)):kvs.length<=sizeLine/\(a == sysModules)=false/\∃vs,KV kvs vs/\h.DictOf (Bk P w) a vs:=Mc ok (.inl e)
theorem L7 {ks:List Key}(ok:Im P w H h)(e:H a=some (.tup (ks.map kV))):(tupleKind (Bk P w)).is h ks a:=by
 obtain⟨_,its,r,o,h1,h2,n,h3⟩:=(show Be P w H h a (.tup (ks.map kV)) from ok a _ e)
 exact⟨o,its.toArray,n,h1,h2,h3.1,by simpa using NJ r⟩
theorem NT {kvs:List (List Key×V)}(ok:Im P w H h)(e:Rd H a (.dT kvs)):kvs.length<=sizeLine/\(a == sysModules)=false/\
  ∃xs,KT H kvs xs/\h.DictOfH (tupleKind (Bk P w)) a xs:=by
 obtain⟨z,y,xs,r,o,es,ep,h1,h2,h3,h4,h5⟩:=(show Be P w H h a (.dT kvs) from Wk ok e)
 refine⟨z,y,xs,r,o,es,ep,h1,h2,h3,h4,λx hx=>?_,h5⟩;have all:∀{l:List (List Key×V)} {m:List (List Key×Addr×Value)},KT H l m->∀x∈m,(tupleKind (Bk P w)).is h x.1 x.2.1:=by
  intro l m q
  induction q with
  |nil=>intro x hx;exact nomatch hx
  |@cons p q ps qs hq t ih=>
   intro x hx;rcases aL.mp hx with e|hx
   ·subst e;exact L7 ok (by rw[<-hq.1];exact hq.2.1)
   ·exact ih x hx
 exact all r x hx
theorem XR {kvs:List (List Key×V)}(ok:Im P w H h)(e:H a=some (.dT kvs)):kvs.length<=sizeLine/\(a == sysModules)=false/\
  ∃xs,KT H kvs xs/\h.DictOfH (tupleKind (Bk P w)) a xs:=NT ok (.inl e)
end
def Fj (H:Hp)(a:Addr)(y:V)(r:Option V):Prop:=
 (∃kvs k,Rd H a (.dK kvs)/\y=kV k/\r=ET kvs k)\/∃kvs k b,Rd H a (.dT kvs)/\y=.ref b/\H b=some (.tup (k.map kV))/\r=ET kvs k
def QQ (H:Hp)(a:Addr)(y v:V)(H':Hp):Prop:=
 (∃kvs k,H a=some (.dK kvs)/\y=kV k/\kvs.length<sizeLine/\H'=upd H a (.dK (putK kvs k v)))\/
 ∃kvs k b,H a=some (.dT kvs)/\y=.ref b/\H b=some (.tup (k.map kV))/\kvs.length<sizeLine/\H'=upd H a (.dT (putK kvs k v))
theorem Fj.k {H:Hp}{a:Addr}{kvs:List (Key×V)}{k:Key}(e:H a=some (.dK kvs)):Fj H a (kV k) (ET kvs k):=.inl ⟨kvs,k,.inl e,rfl,rfl⟩
theorem QQ.k {H:Hp}{a:Addr}{kvs:List (Key×V)}{k:Key}{v:V}(e:H a=some (.dK kvs))(hl:kvs.length<sizeLine):QQ H a (kV k) v (upd H a (.dK (putK kvs k v))):=.inl ⟨kvs,k,e,rfl,hl,rfl⟩
section
variable {X:Cx}{pins:List (Addr×Obj)}{σ:St}{H:Hp}{s:Shared}{a:Addr}{y v:V}{u r:Value}{o:Option V}{A:Around}{E:Value->Shared->Prop}
theorem Inv.big (I:Inv X pins σ H s):sysModules<s.heap.objs.size:=by
 have h:mainGlobals<s.heap.objs.size:=(I.mod.glob.keeps I.bk).lt;exact Nat.lt_trans (by decide) h
theorem SW {Q:Value->Shared->Prop}(hu:A.units+1<cLine)(I:Inv X pins σ H s)(g:Fj H a y (some v))(ry:RelV y u)(h:∀w' s',Inv X pins σ H s'->RelV v w'->Q w' s') :
  wpAny (model X.prog X.w) A (getItem (.ref a) u) Q E s:=by
 rcases g with⟨kvs,k,e,ey,l⟩|⟨kvs,k,b,e,ey,eb,l⟩
 ·subst ey;obtain⟨z,hd,vs,rel,dd⟩:=Mc I.hok e;obtain⟨w',hw,rw'⟩:=Ho.some_of (v:=v) (o:=valueAt vs k) (by rw[l];exact rel.val k);exact wpAny_getItem_of (Li ry) dd.mapOf hw (h w' _ (I.tok _) rw')
 ·subst ey;cases(show u=Value.ref b from ry);obtain⟨z,hd,xs,rel,dd⟩:=NT I.hok e;obtain⟨w',hw,rw'⟩:=Ho.some_of (v:=v) (o:=(atKey xs k).map (·.2)) (by rw[l];exact rel.val k);obtain⟨p,hp,hp2⟩:=bA.mp hw;refine wpAny_getItem_heap (dv hu) (L7 I.hok eb) dd hp ?_;rw[hp2];exact h w' _ (I.tok _) rw'
theorem YM {Q:Value->Shared->Prop}(hu:A.units+1<cLine)(I:Inv X pins σ H s)(g:Fj H a y o)(ry:RelV y u)(h:∀s',Inv X pins σ H s'->Q (.bool o.isSome) s') :
  wpAny (model X.prog X.w) A (compareOp .In u (.ref a)) Q E s:=by
 rcases g with⟨kvs,k,e,ey,l⟩|⟨kvs,k,b,e,ey,eb,l⟩
 ·subst ey;obtain⟨z,hd,vs,rel,dd⟩:=Mc I.hok e;refine wpAny_in_of (Li ry) hd dd.mapOf ?_;rw[<-(rel.val k).isSome_eq,<-l];exact h _ (I.tok _)
 ·subst ey;cases(show u=Value.ref b from ry);obtain⟨z,hd,xs,rel,dd⟩:=NT I.hok e;refine wpAny_in_heap (dv hu) (L7 I.hok eb) hd dd ?_;have q:=(rel.val k).isSome_eq;rw[d3] at q;rw[<-q,<-l];exact h _ (I.tok _)
theorem VA {Q:Value->Shared->Prop}(hu:A.units+1<cLine)(I:Inv X pins σ H s)(g:Fj H a y o)(ry:RelV y u)(h:∀s',Inv X pins σ H s'->Q (.bool (!o.isSome)) s') :
  wpAny (model X.prog X.w) A (compareOp .NotIn u (.ref a)) Q E s:=by
 rcases g with⟨kvs,k,e,ey,l⟩|⟨kvs,k,b,e,ey,eb,l⟩
 ·subst ey;obtain⟨z,hd,vs,rel,dd⟩:=Mc I.hok e;refine wpAny_notIn_of (Li ry) hd dd.mapOf ?_;rw[<-(rel.val k).isSome_eq,<-l];exact h _ (I.tok _)
 ·subst ey;cases(show u=Value.ref b from ry);obtain⟨z,hd,xs,rel,dd⟩:=NT I.hok e;refine wpAny_notIn_heap (dv hu) (L7 I.hok eb) hd dd ?_;have q:=(rel.val k).isSome_eq;rw[d3] at q;rw[<-q,<-l];exact h _ (I.tok _)
theorem LD {h':Heap}{t':Nat}{ob:HO}(I:Inv X pins σ H s)(mu:Yj (H a))(hs:Heap.SameBut a s.heap h')(he:∃q,h'.get? a=some q)(new:Be X.prog X.w (upd H a ob) h' a ob) :
  Inv X pins σ (upd H a ob) { s with heap:=h',toks:=t' }:=
 I.write (x:=a) (e:=a) mu (.inl rfl) (λb q hb z=>(hs.2 b hb).trans z) he new
theorem Md {P:Program}{w:World}{H':Hp}{h':Heap}{kvs:List (Key×V)}{vs:List (Key×Value)}(z:kvs.length<=sizeLine)(hd:(a == sysModules)=false)(rel:KV kvs vs)(dd:h'.DictOf (Bk P w) a vs) :
  Be P w H' h' a (.dK kvs):=⟨z,hd,vs,rel,dd⟩
theorem SO {H':Hp}{Q:Unit->Shared->Prop}(hu:A.units+1<cLine)(I:Inv X pins σ H s)(g:QQ H a y v H')(ry:RelV y u)(rv:RelV v r)(h:∀s',Inv X pins σ H' s'->Q () s') :
  wpAny (model X.prog X.w) A (setItem (.ref a) u r) Q E s:=by
 rcases g with⟨kvs,k,e,ey,l,eH⟩|⟨kvs,k,b,e,ey,eb,l,eH⟩
 ·subst ey eH;obtain⟨z,hd,vs,rel,dd⟩:=Pn I.hok e;have hz:vs.length<=sizeLine:=by rw[<-rel.length];exact z
  have hl:(putK kvs k v).length<=sizeLine:=by have:=HW kvs k v;omega
  refine wpAny_setItem_pairs (hsz:=hz) (Li ry) dd λh' dd' hs=>h _ ?_
  have he:∃q,h'.get? a=some q:=let⟨q,_,_,hq,_⟩:=dd';⟨q,hq⟩;exact LD I (by rw[e];exact True.intro) hs he (Md hl hd (rel.put k rv) dd')
 ·subst ey eH;cases(show u=Value.ref b from ry);obtain⟨z,hd,xs,rel,dd⟩:=XR I.hok e;have hz:xs.length<=sizeLine:=by rw[<-bU rel];exact z
  have hl:(putK kvs k v).length<=sizeLine:=by have:=HW kvs k v;omega
  refine wpAny_setItem_heap (hsz:=hz) (dv hu) (L7 I.hok eb) dd λh' dd' hs=>h _ ?_
  obtain⟨q,es,ep,hq,h2,h3,h4,_,h5⟩:=dd';refine LD I (by rw[e];exact True.intro) hs ⟨q,hq⟩ ⟨hl,hd,_,(rel.put k eb rv).keeps λc ys ec=>?_,q,es,ep,hq,h2,h3,h4,h5⟩;rw[An (C4 ec e (λz=>nomatch z))];exact ec
end
section
variable {X:Cx}{pins:List (Addr×Obj)}{σ:St}{H:Hp}{s:Shared}{a:Addr}{kvs:List (Key×V)}{k:Key}{u:Value}{A:Around}{E:Value->Shared->Prop}
theorem Xr {Q:Unit->Shared->Prop}(I:Inv X pins σ H s)(e:H a=some (.dK kvs))(ry:RelV (kV k) u)(l:(ET kvs k).isSome=true)(h:∀s',Inv X pins σ (upd H a (.dK (Lg kvs k))) s'->Q () s') :
  wpAny (model X.prog X.w) A (delItem (.ref a) u) Q E s:=by
 obtain⟨z,hd,vs,rel,dd⟩:=Pn I.hok e;refine wpAny_delItem_slot dd.typeIs (by decide) eY
  (call_meetsIn eY dd.typeIs PySem.F.entry_dict_delitem (PySem.F.args_dict_delitem_2 _ _) (meets_dict_delitem_pairs (Bk X.prog X.w) a (Li ry)) ⟨vs,dd,by rw[<-rel.length];exact z,by rw[<-(rel.val k).isSome_eq];exact l,λh' dd' hs=>h _ ?_⟩)
 have he:∃q,h'.get? a=some q:=let⟨q,_,_,hq,_⟩:=dd';⟨q,hq⟩;exact LD I (by rw[e];exact True.intro) hs he (Md (aV (PP kvs k) z) hd (rel.drop k) dd')
theorem XZ {v:V} {more:List Value} {Q:Value->Shared->Prop} (I:Inv X pins σ H s) (e:H a=some (.dK kvs)) (ry:RelV (kV k) u) (l:ET kvs k=some v) (hm:more=[]\/∃x,more=[x])
  (h:∀w' s',Inv X pins σ (upd H a (.dK (Lg kvs k))) s'->RelV v w'->Q w' s'):wpAny (model X.prog X.w) A (call (.builtin "dict.pop") (.ref a::u::more)) Q E s:=by
 obtain⟨z,hd,vs,rel,dd⟩:=Pn I.hok e;obtain⟨w',hw,rw'⟩:=Ho.some_of (v:=v) (o:=valueAt vs k) (by rw[<-l];exact rel.val k);have hp:(keyPart u).isSome=true:=by
  cases k with
  |inl i=>obtain⟨t,q⟩:=(show ∃t,u=Value.int i t from ry);subst q;rfl
  |inr x=>obtain⟨t,q⟩:=(show ∃t,u=Value.str x t from ry);subst q;rfl
 have ha:argsOk "dict.pop" ⟨.ref a::u::more,[]⟩:=by
  rcases hm with q|⟨x,q⟩
  ·subst q;exact PySem.F.args_dict_pop_2 _ _
  ·subst q;exact PySem.F.args_dict_pop_3 _ _ _
 refine call_meetsIn fz dd.typeIs PySem.F.entry_dict_pop ha (meets_dict_pop_there (Bk X.prog X.w) a (Li ry) more hm hp)
  ⟨vs,w',dd,by rw[<-rel.length];exact z,hw,λh' dd' hs=>h w' _ ?_ rw'⟩
 have he:∃q,h'.get? a=some q:=let⟨q,_,_,hq,_⟩:=dd';⟨q,hq⟩;exact LD I (by rw[e];exact True.intro) hs he (Md (aV (PP kvs k) z) hd (rel.drop k) dd')
theorem Yi {Q:Value->Shared->Prop}(I:Inv X pins σ H s)(e:Rd H a (.dK kvs))(h:∀t s',Inv X pins σ H s'->Q (.int kvs.length t) s'):wpAny (model X.prog X.w) A (call (.builtin "len") [.ref a]) Q E s:=by
 obtain⟨z,hd,vs,rel,dd⟩:=Mc I.hok e;refine call_len_dict hd dd (by rw[<-rel.length];rw[aZ] at z;omega) ?_;rw[<-rel.length];exact h _ _ (I.tok _)
end
def XE (i:Expr):Prop:=∀ov iv,subscripted i false ov iv=operate [ov,iv] (getItem ov iv)
theorem VG {prog:Program} {w:World} {A:Around} {E:Value->Shared->Prop} {s:Shared} {env:Env} {value slice:Expr} {pos:Pos} {T id:String} {Q:Value->Shared->Prop}
  (hl:typeLookup (.type T) "__getitem__"=pure (some (.builtin id))) (hs:XE slice)
  (h:wpAny (model prog w) A (eval value env) (λo s₁=>wpAny (model prog w) A (eval slice env) (λi s₂=>s₂.TypeIs o T/\wpAny (model prog w) A (getItem o i) Q E s₂) E s₁) E s) :
  wpAny (model prog w) A (eval (.Subscript value slice pos) env) Q E s:=by
 refine Subscript_ (aR h (λo s₁ h₁=>aR h₁ (λi s₂ h₂=>?_) λ_ _ x=>x) λ_ _ x=>x);obtain⟨hT,h₂⟩:=h₂;unfold subscriptTail;refine af ?_;rw[getitemInPython_of_ne hT.not_modules];refine af (wpAny_specialOf hT hl ?_);have fin:wpAny (model prog w) A (subscripted slice false o i) (λr s₃=>wpAny (model prog w) A (letTemporaryGo value o r >>= λ_=>pure r) Q E s₃) E s₂:=by
  rw[hs o i];exact wpAny_operating (aR h₂ (λr s₃ h₃=>af (wpAny_letTemporaryGo (ar h₃))) λ_ _ x=>x)
 first
  |exact ar (af fin)
  |exact af (ar (af fin))
  |exact af fin
theorem Px {X:Cx}{pins:List (Addr×Obj)}{σ:St}{H:Hp}{s:Shared}{a:Addr}{y:V}{o:Option V}(I:Inv X pins σ H s)(g:Fj H a y o):s.TypeIs (.ref a) "dict":=by
 rcases g with⟨kvs,k,e,_,_⟩|⟨kvs,k,b,e,_,_,_⟩
 ·obtain⟨_,_,vs,_,dd⟩:=Mc I.hok e;exact dd.typeIs
 ·obtain⟨_,_,xs,_,dd⟩:=NT I.hok e;exact dd.typeIs
def XY (td ty:TE):TE:=λσ H Q=>td σ H λx H1=>ty σ H1 λy H2=>∃a v,x=.ref a/\Fj H2 a y (some v)/\Q v H2
def YN (ty td:TE):TE:=λσ H Q=>ty σ H λy H1=>td σ H1 λx H2=>∃a o,x=.ref a/\Fj H2 a y o/\Q (.bl o.isSome) H2
def VF (ty td:TE):TE:=λσ H Q=>ty σ H λy H1=>td σ H1 λx H2=>∃a o,x=.ref a/\Fj H2 a y o/\Q (.bl (!o.isSome)) H2
def Ws (td ty tv:TE):TS:=λD σ H=>tv σ H λv H1=>td σ H1 λx H2=>ty σ H2 λy H3=>∃a H4,x=.ref a/\QQ H3 a y v H4/\D.nx σ H4
section
variable {X:Cx}{o i e value:Expr}{pos pos' tpos:Pos}{td ty tv:TE}
theorem Bf (hu:X.A.units+1<cLine)(ho:PE X o td)(hi:PE X i ty)(hs:XE i):PE X (.Subscript o i pos) (XY td ty):=by
 intro pins s σ H Q I h;refine VG PySem.F.slot_dict_getitem.lookup hs (Bv (ho pins s σ H _ I h) λu s1 ⟨x,H1,I1,rx,q1⟩=>Bv (hi pins s1 σ H1 _ I1 q1) λiv s2 z9=>?_);obtain⟨y,H2,I2,ry,a,v,ex,g,q2⟩:=z9;subst ex;obtain rfl:u=Value.ref a:=rx;exact⟨Px I2 g,SW hu I2 g ry λw' s3 I3 rw'=>⟨v,H2,I3,rw',q2⟩⟩
theorem MV (hu:X.A.units+1<cLine)(hi:PE X i ty)(ho:PE X o td):PC X .In i o (YN ty td):=by
 intro pins s σ H Q I h;refine Bv (hi pins s σ H _ I h) λiv s1 ⟨y,H1,I1,ry,q1⟩=>Bv (ho pins s1 σ H1 _ I1 q1) λu s2 z9=>?_
 obtain⟨x,H2,I2,rx,a,ov,ex,g,q2⟩:=z9;subst ex;obtain rfl:u=Value.ref a:=rx;exact YM hu I2 g ry λs3 I3=>⟨.bl ov.isSome,H2,I3,rfl,q2⟩
theorem Ik (hu:X.A.units+1<cLine)(hi:PE X i ty)(ho:PE X o td):PC X .NotIn i o (VF ty td):=by
 intro pins s σ H Q I h;refine Bv (hi pins s σ H _ I h) λiv s1 ⟨y,H1,I1,ry,q1⟩=>Bv (ho pins s1 σ H1 _ I1 q1) λu s2 z9=>?_
 obtain⟨x,H2,I2,rx,a,ov,ex,g,q2⟩:=z9;subst ex;obtain rfl:u=Value.ref a:=rx;exact VA hu I2 g ry λs3 I3=>⟨.bl (!ov.isSome),H2,I3,rfl,q2⟩
theorem Lz (hu:X.A.units+1<cLine)(ho:PE X o td)(hi:PE X i ty)(hv:PE X value tv)(hs:swapsWith value (some (.Subscript o i pos')) pos.line X.env=pure false) :
  PS X (.Assign [.Subscript o i pos'] value pos) (Ws td ty tv):=by
 intro pins s σ H D I h;refine wpAny_Assign_Subscript (Bv (hv pins s σ H _ I h) λr s1 ⟨v,H1,I1,rv,q1⟩=>Bv (ho pins s1 σ H1 _ I1 q1) λu s2 ⟨x,H2,I2,rx,q2⟩=>Bv (hi pins s2 σ H2 _ I2 q2) λiv s3 z9=>?_) hs;obtain⟨y,H3,I3,ry,a,H4,ex,g,q3⟩:=z9;subst ex;obtain rfl:u=Value.ref a:=rx;exact SO hu I3 g ry rv λs4 I4=>⟨σ,H4,I4,q3⟩
end
theorem Up {P:Program}{w:World}{H:Hp}(h:Heap)(hb:sysModules<h.objs.size):Be P w H (h.push { cls:=.type "dict",data:=.dict #[] }) h.objs.size (.dK []):=
 ⟨bw _,bG.mpr (Ne.symm (aO hb)),[],.nil,Heap.DictOf.new h⟩
def Wy:TE:=λ_ H Q=>∀p,H p=none->Q (.ref p) (upd H p (.dK []))
section
variable {X:Cx}{pos:Pos}
theorem L3:PE X (.Dict [] [] pos) Wy:=λpins s σ H Q I h=>
 wpAny_Dict_empty ⟨.ref s.heap.objs.size,_,I.laid (a:=s.heap.objs.size) (o:=.dK []) (t':=s.toks) (λ_ _ q=>ah _ q) (aq _) (Up s.heap I.big),rfl,h _ (I.hok.fresh (aq _))⟩
end
def Ht (kvs more:List (Key×V)):List (Key×V):=more.foldl (λacc kv=>putK acc kv.1 kv.2) kvs
theorem KV.merge:∀{more:List (Key×V)} {rs:List (Key×Value)} {kvs:List (Key×V)} {vs:List (Key×Value)},KV more rs->KV kvs vs->KV (Ht kvs more) (merged vs rs):=by
 intro more rs kvs vs r;unfold KV at r
 induction r generalizing kvs vs with
 |nil=>intro q;exact q
 |@cons p q ps qs h t ih=>
  intro r0;have e:KV (putK kvs p.1 p.2) (stored vs q.1 q.2):=by
   have:=r0.put p.1 h.2;rw[<-h.1];exact this
  exact ih e
theorem ID:∀(more kvs:List (Key×V)),(Ht kvs more).length<=kvs.length+more.length
 |[],kvs=>by show kvs.length<=kvs.length+0;omega
 |p::r,kvs=>by
  have h1:=ID r (putK kvs p.1 p.2);have h2:=HW kvs p.1 p.2;show(Ht (putK kvs p.1 p.2) r).length<=_;rw[bg];omega
structure M1 (X:Cx) (o:Expr) (m:Str) (apos:Pos) (e:Expr) (cpos:Pos):Prop where
 base:attributeBase o m X.env (eval o X.env)=eval o X.env
 few:((backTo cpos (starEach [e] X.env)).all (λx=>!x.1)&&(backToKw cpos (keywordEach [] X.env)).all (λx=>x.1.isSome)
  && decide (([e]:List Expr).length+([]:List Keyword).length+(if([]:List Keyword).isEmpty then 0 else 1)<30))=true
 line:(apos.endLine == cpos.line)=true
 trees:backTo cpos (starEach [e] X.env)=[(false,eval e X.env)]
def Y9 (H:Hp)(a:Addr):Prop:=(∃kvs,Rd H a (.dK kvs))\/∃kvs,Rd H a (.dT kvs)
theorem WB {X:Cx}{pins:List (Addr×Obj)}{σ:St}{H:Hp}{s:Shared}{a:Addr}(I:Inv X pins σ H s)(d:Y9 H a) :
  s.TypeIs (.ref a) "dict"/\(∀b,Value.ref a=.ref b->∃ob,s.heap.get? b=some ob/\ob.dict=none)/\(a == sysModules)=false:=by
 rcases d with⟨kvs,e⟩|⟨kvs,e⟩
 ·obtain⟨_,hd,vs,_,dd⟩:=Mc I.hok e;refine⟨dd.typeIs,λb q=>?_,hd⟩;cases q;obtain⟨ob,_,_,h1,h2,_⟩:=dd;exact⟨ob,h1,h2.2.1⟩
 ·obtain⟨_,hd,xs,_,dd⟩:=NT I.hok e;refine⟨dd.typeIs,λb q=>?_,hd⟩;cases q;obtain⟨ob,_,_,h1,h2,_⟩:=dd;exact⟨ob,h1,h2.2.1⟩
def Wx (td ty:TE):TE:=λσ H Q=>td σ H λx H1=>∃a,x=.ref a/\Y9 H1 a/\ty σ H1 λy H2=>∃kvs k v,H2 a=some (.dK kvs)/\y=kV k/\ET kvs k=some v/\Q v (upd H2 a (.dK (Lg kvs k)))
section
variable {X:Cx}{o e f:Expr}{apos cpos:Pos}{td ty tx:TE}
theorem Us (ho:PE X o td)(he:PE X e ty)(m:M1 X o "pop" apos e cpos):PE X (.Call (.Attribute o "pop" apos) [e] [] cpos) (Wx td ty):=by
 intro pins s σ H Q I h;refine wpAny_Call_method m.base m.few m.line fm fz PySem.F.type_dict_pop (Bv (ho pins s σ H _ I h) λu s1 z9=>?_);obtain⟨x,H1,I1,rx,a,ex,d,q1⟩:=z9;subst ex;obtain rfl:u=Value.ref a:=rx;obtain⟨t1,t2,_⟩:=WB I1 d;refine⟨t1,t2,?_⟩;rw[m.trees];refine dS rfl (Calls.evalArgs_plain (eN (Bv (he pins s1 σ H1 _ I1 q1) λiv s2 ⟨y,H2,I2,ry,kvs,k,v,ea,ey,l,q2⟩=>eT ?_)));subst ey;exact XZ I2 ea ry l (.inl rfl) λw' s3 I3 rw'=>⟨v,_,I3,rw',q2⟩
end
section
variable {X:Cx}
def WN (K:PySem.W.Frag):R2:=λx y H Q=>∃a b xs ys,x=.ref a/\y=.ref b/\AJ K H a xs/\AJ K H b ys/\xs.length+ys.length<=sizeLine/\
 (xs=[]->Q (.ref b) H)/\(xs≠[]->ys=[]->Q (.ref a) H)/\(xs≠[]->ys≠[]->∀p,H p=none->Q (.ref p) (upd H p (.tup (xs++ys))))
theorem Mb:Hr X (binaryOp .Add) (WN X.K):=by
 intro pins s σ H x y v u Q I rx ry h;obtain⟨a,b,xs,ys,rfl,rfl,ha,hb,hz,q0,q1,q2⟩:=h
 by_cases hx:xs=[]
 ·subst hx;cases rx;cases ry;obtain⟨its,r1,p1,_⟩:=I.tuple ha;obtain⟨its2,r2,p2,_⟩:=I.tuple hb;cases r1;obtain⟨⟨cls,dd,data,sl⟩,ho,hc,n,hd⟩:=id p1;obtain⟨⟨cls2,dd2,data2,sl2⟩,ho2,hc2,n2,hd2⟩:=id p2;simp only at hc hd hc2 hd2;subst hc hd hc2 hd2;exact eQ ⟨_,ho,rfl⟩ ⟨_,ho2,rfl⟩ fb fQ dA dy (dg _ _) (tuple_addW0 a b _ _ n n2 dd dd2 sl sl2 rfl) ⟨ho,ho2,.ref b,H,I,rfl,q0 rfl⟩
 ·exact Wb pins s σ H _ _ v u Q I rx ry ⟨a,b,xs,ys,rfl,rfl,ha,hb,hx,hz,q1 hx,q2 hx⟩
def YT (K:PySem.W.Frag)(neg:Bool):R2:=λx y H Q=>∃a b xs,x=.ref a/\y=.ref b/\AR K H a xs/\AR K H b []/\Q (.bl (if neg then !decide (xs=[]) else decide (xs=[]))) H
theorem Ww (hu:X.A.units+1<cLine):Hr X (compareOp .Eq) (YT X.K false):=by
 intro pins s σ H x y v u Q I rx ry h;obtain⟨a,b,xs,rfl,rfl,h1,h2,q⟩:=h;cases rx;cases ry;obtain⟨its,r1,p1,_⟩:=I.list h1;obtain⟨its2,r2,p2,_⟩:=I.list h2;cases r2;cases r1 with
 |nil=>
  exact fc (A:=X.A) (s:=s) (e:=λ_=>true) p1.isList p2.isList rfl (by omega) (λj g1 g2=>absurd g1 (by simp)) _ _ _ _ ⟨.bl _,H,I,rfl,q⟩
 |cons r rr=>
  exact fS p1.isList p2.isList (by simp) (by omega) _ _ _ _ ⟨.bl _,H,I,rfl,q⟩
end
inductive Tr where
 |non
 |bl (b:Bool)
 |int (i:Int)
 |str (z:Str)
 |tup (ts:List Tr)
 |lst (ts:List Tr)
mutual
def Rep (F:Addr->Prop)(H:Hp):Tr->V->Prop
 | .non,v=>v=.non
 | .bl b,v=>v=.bl b
 | .int i,v=>v=.int i
 | .str z,v=>v=.str z
 | .tup ts,v=>∃a vs,v=.ref a/\H a=some (.tup vs)/\El F H ts vs
 | .lst ts,v=>∃a vs,v=.ref a/\F a/\H a=some (.lst vs)/\El F H ts vs
def El (F:Addr->Prop)(H:Hp):List Tr->List V->Prop
 |[],vs=>vs=[]
 |t::ts,vs=>∃v us,vs=v::us/\Rep F H t v/\El F H ts us
end
mutual
def Tr.dep:Tr->Nat
 | .tup ts=>1+Tr.deps ts
 | .lst ts=>1+Tr.deps ts
 |_=>1
def Tr.deps:List Tr->Nat
 |[]=>0
 |t::ts=>max (Tr.dep t) (Tr.deps ts)
end
mutual
theorem Rep.same {F:Addr->Prop}{H H':Hp}(s:AA H H'):∀(t:Tr) (v:V),Rep F H t v->Rep F H' t v
 | .non,_,h=>h
 | .bl _,_,h=>h
 | .int _,_,h=>h
 | .str _,_,h=>h
 | .tup ts,_,⟨a,vs,e,ha,hr⟩=>⟨a,vs,e,s.get ha,El.same s ts vs hr⟩
 | .lst ts,_,⟨a,vs,e,fa,ha,hr⟩=>⟨a,vs,e,fa,s.get ha,El.same s ts vs hr⟩
theorem El.same {F:Addr->Prop}{H H':Hp}(s:AA H H'):∀(ts:List Tr) (vs:List V),El F H ts vs->El F H' ts vs
 |[],_,h=>h
 |t::ts,_,⟨v,us,e,h1,h2⟩=>⟨v,us,e,Rep.same s t v h1,El.same s ts us h2⟩
end
theorem El.len {F:Addr->Prop}{H:Hp}:∀(ts:List Tr) (vs:List V),El F H ts vs->vs.length=ts.length
 |[],_,h=>by rw[show _=[] from h];rfl
 |t::ts,_,⟨v,us,e,_,h2⟩=>by rw[e,bg,bg,El.len ts us h2]
theorem El.get {F:Addr->Prop}{H:Hp}:∀{ts:List Tr} {vs:List V},El F H ts vs->∀{i:Nat} {v:V},vs[i]?=some v->∃t,ts[i]?=some t/\Rep F H t v
 |[],_,h,i,v,hv=>by rw[show _=[] from h] at hv;simp at hv
 |t::ts,_,⟨w,us,e,h1,h2⟩,0,v,hv=>by
  rw[e] at hv;cases(aI hv);exact⟨t,rfl,h1⟩
 |t::ts,_,⟨w,us,e,h1,h2⟩,i+1,v,hv=>by
  rw[e] at hv;obtain⟨t',e1,e2⟩:=El.get h2 (i:=i) (v:=v) (by simpa using hv);exact⟨t',by simpa using e1,e2⟩
section
variable {X:Cx}{pins:List (Addr×Obj)}{σ:St}{H:Hp}{s:Shared}{F G:Addr->Prop}
mutual
theorem Xl (I:Inv X pins σ H s):∀(t:Tr) (A:Around) (v u:V) (vv uu:Value),A.units+t.dep<cLine->Rep F H t v->Rep G H t u->RelV v vv->RelV u uu->SeqAt.EqAt A s vv uu true
 | .non,A,v,u,vv,uu,_,h1,h2,r1,r2=>by
  rw[show v=V.non from h1] at r1;rw[show u=V.non from h2] at r2;cases r1;cases r2;exact cW _
 | .bl b,A,v,u,vv,uu,_,h1,h2,r1,r2=>by
  rw[show v=V.bl b from h1] at r1;rw[show u=V.bl b from h2] at r2;cases r1;cases r2;exact cW _
 | .int i,A,v,u,vv,uu,_,h1,h2,r1,r2=>by
  have:=KZ (A:=A) (s:=s) r1 r2 (by rw[show v=V.int i from h1];rfl) (by rw[show u=V.int i from h2];rfl);rw[show v=V.int i from h1,show u=V.int i from h2] at this;have e:KS (V.int i) (V.int i)=true:=by rw[pure_eq rfl rfl];simp
  rw[e] at this;exact this
 | .str z,A,v,u,vv,uu,_,h1,h2,r1,r2=>by
  have:=KZ (A:=A) (s:=s) r1 r2 (by rw[show v=V.str z from h1];rfl) (by rw[show u=V.str z from h2];rfl);rw[show v=V.str z from h1,show u=V.str z from h2] at this;have e:KS (V.str z) (V.str z)=true:=by rw[pure_eq rfl rfl];simp
  rw[e] at this;exact this
 | .tup ts,A,v,u,vv,uu,hA,⟨a,vs,e1,ha,hr1⟩,⟨b,us,e2,hb,hr2⟩,r1,r2=>by
  subst e1 e2;cases r1;cases r2
  by_cases hab:a=b
  ·subst hab;exact cW _
  have hA':A.units+(1+Tr.deps ts)<cLine:=hA;obtain⟨its,rv1,p1,_⟩:=I.tuple (AJ.of (K:=X.K) ha);obtain⟨its2,rv2,p2,_⟩:=I.tuple (AJ.of (K:=X.K) hb);have l1:=rv1.length.symm.trans (El.len ts vs hr1);have l2:=rv2.length.symm.trans (El.len ts us hr2);have q:=SeqAt.RcAt.tuples (A:=A) (s:=s) (e:=λ_=>true) p1 p2 (by omega) (λj g1 g2=>Jw I ts A.in1 vs us its its2 (by show A.units+1+Tr.deps ts<cLine;omega) hr1 hr2 rv1 rv2 j (by simpa using g1) (by simpa using g2));have e:((List.range (min its.toArray.size its2.toArray.size)).all (λ_=>true)&&its.toArray.size == its2.toArray.size)=true:=by
   simp[l1,l2]
  rw[e] at q;exact SeqAt.EqAt.of_refs hab q
 | .lst ts,A,v,u,vv,uu,hA,⟨a,vs,e1,_,ha,hr1⟩,⟨b,us,e2,_,hb,hr2⟩,r1,r2=>by
  subst e1 e2;cases r1;cases r2
  by_cases hab:a=b
  ·subst hab;exact cW _
  have hA':A.units+(1+Tr.deps ts)<cLine:=hA;obtain⟨its,rv1,p1,_⟩:=I.list (AR.of (K:=X.K) ha);obtain⟨its2,rv2,p2,_⟩:=I.list (AR.of (K:=X.K) hb);have l1:=rv1.length.symm.trans (El.len ts vs hr1);have l2:=rv2.length.symm.trans (El.len ts us hr2);have q:=fc (A:=A) (s:=s) (e:=λ_=>true) p1.isList p2.isList (by simp[l1,l2]) (by omega) (λj g1 g2=>Jw I ts A.in1 vs us its its2 (by show A.units+1+Tr.deps ts<cLine;omega) hr1 hr2 rv1 rv2 j (by simpa using g1) (by simpa using g2));have e:((List.range its.toArray.size).all (λ_=>true))=true:=by simp
  rw[e] at q;exact SeqAt.EqAt.of_refs hab q
theorem Jw (I:Inv X pins σ H s):∀(ts:List Tr) (A:Around) (vs us:List V) (its its2:List Value),A.units+Tr.deps ts<cLine->El F H ts vs->El G H ts us->AW vs its->AW us its2->∀(j:Nat) (g1:j<its.length) (g2:j<its2.length),SeqAt.EqAt A s its[j] its2[j] true
 |[],A,vs,us,its,its2,_,h1,h2,r1,r2=>λj g1 g2=>by
  rw[show vs=[] from h1] at r1;cases r1;simp at g1
 |t::ts,A,vs,us,its,its2,hA,⟨v,vr,e1,a1,b1⟩,⟨u,ur,e2,a2,b2⟩,r1,r2=>by
  subst e1 e2;have hA':A.units+max (Tr.dep t) (Tr.deps ts)<cLine:=hA;cases r1 with
  |cons p1 q1=>
   cases r2 with
   |cons p2 q2=>
    intro j g1 g2;cases j with
    |zero=>exact Xl I t A v u _ _ (by omega) a1 a2 p1 p2
    |succ j=>exact Jw I ts A vr ur _ _ (by omega) b1 b2 q1 q2 j (by simpa using g1) (by simpa using g2)
end
end
section
variable {X:Cx}
def Y2:R2:=λx y H Q=>∃t F G,t.dep<=100/\Rep F H t x/\Rep G H t y/\Q (.bl false) H
theorem Tz (hu:X.A.units+150<cLine):Hr X (compareOp .NotEq) Y2:=by
 intro pins s σ H x y v u Q I rx ry h;obtain⟨t,F,G,hd,h1,h2,q⟩:=h;have QE:∀z:V,G7 z=true\/(∃b,z=.bl b)->x=z->y=z->wpAny (model X.prog X.w) X.A (compareOp .NotEq v u) (EP X pins σ Q) X.xe s:=λz hz e1 e2=>by
  refine NO pins s σ H x y v u Q I rx ry ⟨?_,?_⟩
  ·subst e1 e2;rcases hz with hz|⟨b,rfl⟩
   ·cases y<;>first|rfl|exact absurd (show false=true from hz) ai
   ·rfl
  ·rw[e1,e2];simpa using q
 cases t with
 |non=>exact QE _ (.inl rfl) h1 h2
 |bl b=>exact QE _ (.inr ⟨b,rfl⟩) h1 h2
 |int i=>exact QE (.int i) (.inl rfl) h1 h2
 |str z=>exact QE (.str z) (.inl rfl) h1 h2
 |tup ts=>
  obtain⟨a,vs,rfl,ha,hr1⟩:=h1;obtain⟨b,us,rfl,hb,hr2⟩:=h2;cases rx;cases ry;have hd':1+Tr.deps ts<=100:=hd;obtain⟨its,rv1,p1,_⟩:=I.tuple (AJ.of (K:=X.K) ha);obtain⟨its2,rv2,p2,_⟩:=I.tuple (AJ.of (K:=X.K) hb);have l1:=rv1.length.symm.trans (El.len ts vs hr1);have l2:=rv2.length.symm.trans (El.len ts us hr2);have q2:=SeqAt.RcNeAt.tuples (A:=X.A) (s:=s) (e:=λ_=>true) p1 p2 (by omega) (λj g1 g2=>Jw I ts X.A.in1 vs us its its2 (by show X.A.units+1+Tr.deps ts<cLine;omega) hr1 hr2 rv1 rv2 j (by simpa using g1) (by simpa using g2));have e:(!((List.range (min its.toArray.size its2.toArray.size)).all (λ_=>true)&&its.toArray.size == its2.toArray.size))=false:=by
   simp[l1,l2]
  rw[e] at q2;exact q2 _ _ _ _ ⟨.bl _,H,I,rfl,q⟩
 |lst ts=>
  obtain⟨a,vs,rfl,_,ha,hr1⟩:=h1;obtain⟨b,us,rfl,_,hb,hr2⟩:=h2;cases rx;cases ry;have hd':1+Tr.deps ts<=100:=hd;obtain⟨its,rv1,p1,_⟩:=I.list (AR.of (K:=X.K) ha);obtain⟨its2,rv2,p2,_⟩:=I.list (AR.of (K:=X.K) hb);have l1:=rv1.length.symm.trans (El.len ts vs hr1);have l2:=rv2.length.symm.trans (El.len ts us hr2);have q2:=SeqAt.RcNeAt.lists (A:=X.A) (s:=s) (e:=λ_=>true) p1.isList p2.isList (by simp[l1,l2]) (by omega) (λj g1 g2=>Jw I ts X.A.in1 vs us its its2 (by show X.A.units+1+Tr.deps ts<cLine;omega) hr1 hr2 rv1 rv2 j (by simpa using g1) (by simpa using g2));have e:(!(List.range its.toArray.size).all (λ_=>true))=false:=by simp
  rw[e] at q2;exact q2 _ _ _ _ ⟨.bl _,H,I,rfl,q⟩
end
theorem JH {K:PySem.W.Frag}{a:Addr}{H:Hp}{xs:List V}(h:H a=some (.tup xs)):JC (Xq K a) H xs:=λH' s i=>
 ⟨λhi=>⟨xs,xs[i],AJ.of (s.get h),by simp[hi]⟩,λx H'' y=>⟨y.1,λ_=>y.2 xs (AJ.of (s.get h))⟩,λhi=>⟨xs,AJ.of (s.get h),hi⟩⟩
theorem LS {A:Around}{k:Nat}(hr:Room k A):A.units+150<cLine:=by have:=hr.un;omega
def QM (P:Program)(w:World)(K:PySem.W.Frag)(mg:Str->Option Value)(base:Heap)(k:Nat)(C:Addr)(m:Str)(ps:List Str)(sp:Sp):Prop:=
 ∃(f:Addr) (fd:FuncData),FnOk P w K mg base EL k f fd ps sp/\Meth K C m f/\Binds K fd ps []
def WL (P:Program)(w:World)(K:PySem.W.Frag)(mg:Str->Option Value)(base:Heap)(k:Nat)(C:Addr)(x:Str)(ps:List Str)(sp:Sp):Prop:=
 ∃(f:Addr) (fd:FuncData),FnOk P w K mg base EL k f fd ps sp/\Mk K C f/\mg x=some (.ref C)/\Binds K fd ps []
section
variable {X:Cx}{k:Nat}{x m:Str}{C:Addr}{ps:List Str}{sp:Sp}{e o:Expr}{es:List Expr}{t:TA}{ta:TE}{p apos pos:Pos}
theorem OO {pl:Sem Bool} (ho:PE X o ta) (c:Cls X.K C) (D:QM X.prog X.w X.K X.mg X.base k C m ps sp) (hr:Room k X.A) (ha:PA X (e::es) t)
  (hst:starEach (e::es) X.env=(false,eval e X.env)::starEach es X.env:=by rfl) (hpl:(backTo pos (starEach es X.env)).any (·.1)=false:=by rfl)
  (ht:eval (.Call (.Attribute o m apos) (e::es) [] pos) X.env=(do
   let ov <-eval o X.env
   standAt apos.atName
   let(f,first) <-holding [ov] (getMethod ov m pl)
   callWith pos f first (backTo pos (starEach (e::es) X.env)) (backToKw pos (keywordEach [] X.env))):=by rfl) :
  PE X (.Call (.Attribute o m apos) (e::es) [] pos) (RK C m sp [] E0 ta t):=by
 obtain⟨f,fd,F,M,hb⟩:=D;exact RR ho c M F hr hb .nil RN ha hst hpl ht
end
def Yx (d:Addr)(o:Obj)(kvs:List (Key×V)):It:=
 ⟨λi H=>H d=some (.frz o (.dK kvs))/\i<kvs.length,λi H x H'=>H'=H/\∃k v,kvs[i]?=some (k,v)/\x=kV k,λi H=>H d=some (.frz o (.dK kvs))/\kvs.length<=i⟩
theorem Pq {P:Program}{w:World}{k:Key}{u:Value}(h:(Bk P w).is k u=true):RelV (kV k) u:=by
 rcases BL h with⟨i,t,rfl,rfl⟩|⟨x,t,rfl,rfl⟩
 ·exact⟨t,rfl⟩
 ·exact⟨t,rfl⟩
theorem K9 {X:Cx}{pins:List (Addr×Obj)}{σ:St}{H:Hp}{s:Shared}{d:Addr}{o:Obj}{kvs:List (Key×V)}{es:Array DictEntry}{ep:Nat}(I:Inv X pins σ H s)(h:H d=some (.frz o (.dK kvs)))(he:o.data=.dict es ep) :
  (d == sysModules)=false/\∃vs,KV kvs vs/\s.heap.DictAt (Bk X.prog X.w) d vs ep:=by
 obtain⟨ho,_,hs,vs,r,o',es',ep',ho',h1,h2,h3⟩:=I.hok d _ h;rw[ho] at ho';cases ho';rw[he] at h2;injection h2 with e1 e2
 subst e1 e2;exact⟨hs,vs,r,o,es,ho,h1,he,h3⟩
theorem SS {P:Program}{w:World}{K:PySem.W.Frag}{tg:Expr}(d it:Addr)(o:Obj)(kvs:List (Key×V))(es:Array DictEntry)(ep:Nat)(he:o.data=.dict es ep):Turn P w K tg (Yx d o kvs) [it] it (λi h=>h.IsKeyIter it d i kvs.length ep) where
 mem:=by simp
 obj:=λi h st b hb=>by
  have e:b=it:=by simpa using hb
  subst e;obtain⟨o,e,c,d⟩:=st;exact⟨o,e,λv z=>by rw[d] at z;cases z⟩
 keep:=λi h h' st k=>st.at λo e=>k it (by simp) o e
 item:=by
  intro X hP hw hK hc i pins s σ H E I hf st hg;subst hP hw hK;obtain⟨hq,hi⟩:=hg;obtain⟨_,vs,r,hat⟩:=K9 I hq he;have hl:kvs.length=vs.length:=bU r;obtain⟨f0,f1,f2,f3,f4,f5⟩:=hf it (by simp);have ek:kvs[i]?=some kvs[i]:=ak hi;have ev:vs[i]?=some vs[i]:=ak (by omega);have rk:=r.keys;have e1:kvs[i].1=(vs[i]'(by omega)).1:=by
   have:=congrArg (λl=>l[i]?) rk;simp only[List.getElem?_map,ek,ev,Option.map_some] at this;exact aI this
  rw[hl] at st;refine wpAny_pyNext_dict_item (k:=(vs[i]'(by omega)).1) (v:=(vs[i]'(by omega)).2) st hat ev λkey h' hkey st' sb=>?_
  have I1:Inv X pins σ H { s with heap:=h' }:=I.turned (t':=s.toks) (λb o hb e=>(sb.2 b hb).trans e) f0 f1 f3 f4 f5;rw[<-hl] at st';obtain⟨o2,e,c,dd⟩:=id st';exact⟨key,rfl,LX (s:={ s with heap:=h' }) e c dd (by decide) ⟨kV kvs[i].1,H,I1,Pq (by rw[e1];exact hkey),⟨rfl,kvs[i].1,kvs[i].2,ek,rfl⟩,st',λb hb=>(hf b hb).1⟩⟩
 done:=by
  intro X hP hw hK hc i pins s σ H E I hf st hg;subst hP hw hK;obtain⟨hq,hi⟩:=hg;obtain⟨_,vs,r,hat⟩:=K9 I hq he;have hl:kvs.length=vs.length:=bU r;obtain⟨f0,f1,f2,f3,f4,f5⟩:=hf it (by simp);rw[hl] at st;exact wpAny_pyNext_dict_end (I.ok.hd hc) st hat (dH (by omega)) λh' eb=>⟨rfl,I.turned (t':=s.toks) (λb o hb e=>eb b o hb e) f0 f1 f3 f4 f5⟩
 self:=λ_ _ _ _ _ st h=>wpAny_pyIter_keyiter st h
theorem Inv.freeze {X:Cx}{pins:List (Addr×Obj)}{σ:St}{H:Hp}{s:Shared}{d:Addr}{o:Obj}{kvs:List (Key×V)}(I:Inv X pins σ H s)(h:H d=some (.dK kvs))(ho:s.heap.get? d=some o):Inv X pins σ (upd H d (.frz o (.dK kvs))) s:=by
 have nd:∀b,H b=none->upd H d (.frz o (.dK kvs)) b=none:=λb hb=>by
  rw[An (λz=>by rw[z,h] at hb;cases hb)];exact hb
 refine⟨I.ok,I.os,I.bare,⟨I.base.keep,I.base.slot,λb ob e1 e2 e3=>nd b (I.base.free b ob e1 e2 e3),I.base.there,λb xs e=>?_,λb o2 u e=>?_,λb ps e=>?_⟩,I.loc,I.cell,nd _ I.free,λx c e=>nd c (I.freeC x c e),λp hp=>?_,λb u e=>?_,I.len⟩
 ·have:=I.base.tups b xs e;rw[An (C4 this h (by intro z;cases z))];exact this
 ·have:=I.base.frzs b o2 u e;rw[An (C4 this h (by intro z;cases z))];exact this
 ·obtain⟨more,q⟩:=I.base.tbls b ps e;exact⟨more,by rw[An (C4 q h (by intro z;cases z))];exact q⟩
 ·obtain⟨p1,p2,p3⟩:=I.pin p hp;exact⟨p1,nd _ p2,p3⟩
 ·by_cases hb:b=d
  ·subst hb;rw[Ac] at e;cases e;exact⟨ho,(I.hok b _ h).stay (λc v _ r=>r) (λc r=>by rw[An (C4 r h (by intro z;cases z))];exact r) λc xs r=>by rw[An (C4 r h (by intro z;cases z))];exact r⟩
  ·rw[An hb] at e;exact(I.hok b u e).stay (λc v _ r=>r) (λc r=>by rw[An (C4 r h (by intro z;cases z))];exact r) λc xs r=>by rw[An (C4 r h (by intro z;cases z))];exact r
section
variable {X:Cx}{tg:Expr}
def XF (tl:TE):TI:=λσ H R=>tl σ H λx H1=>∃d kvs,x=.ref d/\H1 d=some (.dK kvs)/\∀o,R (Yx d o kvs) (upd H1 d (.frz o (.dK kvs)))
theorem LB {l:Expr}{tl:TE}(hl:PE X l tl):PI X tg l (XF tl):=by
 intro pins s σ H R I h;refine Bv (hl pins s σ H _ I h) λv s1 ⟨x,H1,I1,r1,q1⟩=>?_
 obtain⟨d,kvs,e,hq,q⟩:=q1;subst e;cases r1;obtain⟨_,_,vs,r,o,es,ep,ho,_,he,_⟩:=I1.hok d _ hq;have I2:=I1.freeze hq ho;obtain⟨hs,vs,r,hat⟩:=K9 I2 Ac he;have hl:kvs.length=vs.length:=bU r;refine wpAny_pyIter_dict hs hat ?_;refine⟨s1.heap.objs.size,[s1.heap.objs.size],_,_,_,rfl,I2.kept (t':=s1.toks) λb o e=>ah _ e,SS d _ o kvs es ep he,⟨_,ay _ rfl,rfl,by rw[hl];rfl⟩,λb hb=>?_,q o⟩;have e:b=s1.heap.objs.size:=by simpa using hb
 subst e;exact I2.fpOk (aq _) (I2.hok.fresh (aq _))
end
theorem Fj.kf {H:Hp}{a:Addr}{o:Obj}{kvs:List (Key×V)}{k:Key}(e:H a=some (.frz o (.dK kvs))):Fj H a (kV k) (ET kvs k):=.inl ⟨kvs,k,.inr ⟨o,e⟩,rfl,rfl⟩
theorem Inv.thaw {X:Cx}{pins:List (Addr×Obj)}{σ:St}{H:Hp}{s:Shared}{d:Addr}{o:Obj}{kvs:List (Key×V)}(I:Inv X pins σ H s)(h:H d=some (.frz o (.dK kvs)))(nf:∀o u,X.H₀ d≠some (.frz o u)):Inv X pins σ (upd H d (.dK kvs)) s:=by
 have nd:∀b,H b=none->upd H d (.dK kvs) b=none:=λb hb=>by
  rw[An (λz=>by rw[z,h] at hb;cases hb)];exact hb
 refine⟨I.ok,I.os,I.bare,⟨I.base.keep,I.base.slot,λb ob e1 e2 e3=>nd b (I.base.free b ob e1 e2 e3),I.base.there,λb xs e=>?_,λb o2 u e=>?_,λb ps e=>?_⟩,I.loc,I.cell,nd _ I.free,λx c e=>nd c (I.freeC x c e),λp hp=>?_,λb u e=>?_,I.len⟩
 ·have:=I.base.tups b xs e;rw[An (C4 this h (by intro z;cases z))];exact this
 ·have:=I.base.frzs b o2 u e;rw[An (λz=>nf o2 u (by rw[<-z];exact e))];exact this
 ·obtain⟨more,q⟩:=I.base.tbls b ps e;exact⟨more,by rw[An (C4 q h (by intro z;cases z))];exact q⟩
 ·obtain⟨p1,p2,p3⟩:=I.pin p hp;exact⟨p1,nd _ p2,p3⟩
 ·by_cases hb:b=d
  ·subst hb;rw[Ac] at e;cases e;obtain⟨_,q⟩:=I.hok b _ h;exact Be.stay (o:=.dK kvs) q (λc v _ r=>r) (λc r=>by rw[An (C4 r h (by intro z;cases z))];exact r) λc xs r=>by rw[An (C4 r h (by intro z;cases z))];exact r
  ·rw[An hb] at e;exact(I.hok b u e).stay (λc v _ r=>r) (λc r=>by rw[An (C4 r h (by intro z;cases z))];exact r) λc xs r=>by rw[An (C4 r h (by intro z;cases z))];exact r
section
variable {X:Cx}
def Wt (X:Cx)(D:Ends):Ends where
 nx:=λσ H=>∃d o kvs,(∀o u,X.H₀ d≠some (.frz o u))/\H d=some (.frz o (.dK kvs))/\D.nx σ (upd H d (.dK kvs))
 rt:=λv H=>∃d o kvs,(∀o u,X.H₀ d≠some (.frz o u))/\H d=some (.frz o (.dK kvs))/\D.rt v (upd H d (.dK kvs))
end
theorem FT {t u:TS}{D:Ends}{σ:St}{H:Hp}(M:St->Hp->Prop)(h1:∀N:St->Hp->Prop,(∀σ' H',M σ' H'->N σ' H')->t { D with nx:=N } σ H)(h2:∀σ' H',M σ' H'->u D σ' H'):VY t u D σ H:=h1 (u D) h2
end L2
namespace L2
section
open PySem
open Sem (wp wp_bind' wp_mono)
def PX (o:Obj):Prop:=∃vs,o.data=.fields vs/\vs[2]?=some .none
def DictAt (h:Heap)(e:Addr)(d:Option Addr):Prop:=∃o,h.objs[e]?=some o/\o.dict=d/\PX o
def DK {α:Type}(t:Sem α):Prop:=∀(M:Model) (Γ:Ctx) (Q:α->Pos->Shared->Prop) (E:Value->Pos->Shared->Prop) (p:Pos) (s:Shared) (e:Addr) (d:Option Addr),wp M Γ t Q E p s->DictAt s.heap e d->
 wp M Γ t (λa p s'=>Q a p s'/\DictAt s'.heap e d) (λv p s'=>E v p s'/\DictAt s'.heap e d) p s
variable {α β:Type}
theorem By (a:α):DK (pure a:Sem α):=λ_ _ _ _ _ _ _ _ h j=>⟨h,j⟩
theorem Dj (w:String):DK (PySem.unsupported w:Sem α):=λ_ _ _ _ _ _ _ _ h _=>False.elim h
theorem Ba {m:Sem α}{f:α->Sem β}(h1:DK m)(h2:∀a,DK (f a)):DK (m >>= f):=by
 intro M Γ Q E p s e d h j;rw[wp_bind'] at h ⊢;exact wp_mono M Γ m (λa p' s' q=>h2 a M Γ Q E p' s' e d q.1 q.2) (λ_ _ _ q=>q) p s (h1 M Γ _ E p s e d h j)
theorem Oo (a:Addr):DK (load a):=λM Γ Q E p s e d ⟨o,q,h⟩ j=>⟨o,q,h,j⟩
theorem MD:DK stack:=λM Γ Q E p s e d h j=>⟨h,j⟩
theorem Qg (o:Obj):DK (alloc o):=λM Γ Q E p s e d h ⟨o1,q,hd⟩=>⟨h,o1,by
 show(s.heap.objs.push o)[e]?=some o1;have hlt:e<s.heap.objs.size:=(eV.mp q).1;rw[Array.getElem?_push,aj (aO hlt)];exact q,hd⟩
theorem NH (a:Addr){f:Obj->Obj}(hf:∀o,(f o).dict=o.dict/\(PX o->PX (f o))):DK (update a f):=λM Γ Q E p s e d ⟨q0,h⟩ ⟨o1,q,hd,h2⟩=>⟨q0,h,by
 by_cases ea:a=e
 ·subst ea;refine⟨f o1,?_,by rw[(hf o1).1];exact hd,(hf o1).2 h2⟩;show(s.heap.objs.modify a f)[a]?=some (f o1);rw[fB,aw rfl,q];rfl
 ·refine⟨o1,?_,hd,h2⟩;show(s.heap.objs.modify a f)[e]?=some o1;rw[fB,aj ea];exact q⟩
theorem HG {c:Prop}[Decidable c]{t u:Sem α}(h1:DK t)(h2:DK u):DK (if c then t else u):=by
 split
 ·exact h1
 ·exact h2
theorem MM {i:Nat}(hi:i≠2)(x:Value)(o:Obj):(Obj.mapFields (·.setIfInBounds i x) o).dict=o.dict/\(PX o->PX (Obj.mapFields (·.setIfInBounds i x) o)):=by
 constructor
 ·unfold Obj.mapFields
  split<;>rfl
 ·rintro⟨vs,h1,h2⟩
  obtain⟨c,d,dt,sl⟩:=o;dsimp only at h1;subst h1;exact⟨_,rfl,by rw[Array.getElem?_setIfInBounds_ne hi];exact h2⟩
theorem P6 (v:Value):DK (fieldsOf v):=by
 unfold fieldsOf
 split
 ·refine Ba (Oo _) λo=>?_
  split
  ·exact By _
  ·exact Dj _
 ·exact Dj _
theorem JT (v:Value)(i:Nat):DK (field v i):=by
 unfold field;refine Ba (P6 v) λvs=>?_
 split
 ·exact By _
 ·exact Dj _
theorem HA (v:Value){i:Nat}(hi:i≠2)(x:Value):DK (setField v i x):=by
 unfold setField updateField
 split
 ·refine Ba (Oo _) λo=>?_
  split
  ·exact HG (NH _ (MM hi x)) (Dj _)
  ·exact Dj _
 ·exact Dj _
theorem O1 (ty:String)(vs:List Value):DK (newFields ty vs):=by
 unfold newFields newObj newObjAsIs;dsimp only
 split
 ·exact Ba (Dj _) λ_=>Ba (Qg _) λ_=>By _
 ·exact Ba (Qg _) λ_=>By _
theorem PM (a b c d e:Value)(l:List Value):DK (EntryCells.newEntry a b c d e l):=O1 _ _
theorem Ox:DK frameEnvs:=Ba MD λ_=>By _
theorem Qi (env:Env)(outer:List Env):DK (behindIsImport env outer):=by
 unfold behindIsImport;refine HG (By _) ?_;refine HG (By _) ?_;exact Ba (JT _ _) λ_=>By _
theorem PY (env:Env)(i:Bool)(outer:List Env):DK (keptBack env i outer):=by
 unfold keptBack
 split
 ·refine HG (By _) ?_;refine Ba (Ba MD λ_=>By _) λ_=>By _
 ·exact By _
theorem P0:∀l:List Env,DK (readyFrames l)
 |[]=>By _
 |env::outer=>by
  unfold readyFrames
  split
  ·refine Ba (Oo _) λo=>?_
   refine HG (By _) ?_;refine Ba (Qi _ _) λ_=>Ba (PY _ _ _) λ_=>Ba (NH _ λ_=>⟨rfl,λh=>h⟩) λ_=>P0 outer
  ·exact Dj _
theorem Rj (env:Env):DK (frameOf env):=by
 unfold frameOf;refine Ba Ox λl=>?_
 refine Ba ?_ λr=>?_
 ·unfold frameObject
  split
  ·exact By _
  ·exact Ba (P0 _) λ_=>By _
 ·split
  ·exact By _
  ·exact Dj _
theorem Nj (f:Addr)(b:Bool):DK (entryPlaceOf f b):=by
 unfold entryPlaceOf;refine Ba MD λl=>?_
 split<;>exact By _
theorem GQ (e:Value)(f:Option Addr):DK (setFlight e f):=by
 unfold setFlight;exact Ba (JT _ _) λ_=>HG (HA _ (by decide) _) (By _)
theorem Jx (e:Value)(env:Env):DK (noteFrame e env):=by
 unfold noteFrame
 split
 ·rename_i fa _
  refine Ba (JT _ _) λhead=>?_
  have rest:DK (do setField e 1 (<-EntryCells.newEntry head (<-frameOf env) .none (rawInt fa) .none (<-entryPlaceOf fa (head != .none)))):=
   Ba (Rj _) λ_=>Ba (Nj _ _) λ_=>Ba (PM _ _ _ _ _ _) λ_=>HA _ (by decide) _
  refine HG ?_ rest;refine Ba (JT _ _) λ_=>?_
  refine HG (By _) ?_;exact Ba (HA _ (by decide) _) λ_=>rest
 ·exact Dj _
theorem Jo (env:Env)(e:Value):DK (leaving env e):=Ba (Jx _ _) λ_=>GQ _ _
theorem DK.also {t:Sem α}(k:DK t){M:Model}{A:Around}{Q:α->Shared->Prop}{E:Value->Shared->Prop}{s:Shared}{e:Addr}{d:Option Addr}(j:DictAt s.heap e d)(h:wpAny M A t (λa s'=>DictAt s'.heap e d->Q a s') E s):wpAny M A t Q E s:=λΓ p hΓ=>
 wp_mono M Γ t (λ_ _ _ q=>q.1 q.2) (λ_ _ _ q=>q.1) p s (k M Γ _ _ p s e d (h Γ p hΓ) j)
theorem RJ {h:Heap}{e:Addr}{o:Obj}(q:h.get? e=some o)(f:PX o):DictAt h e o.dict:=by
 unfold Heap.get? at q
 split at q
 ·cases q
 ·exact⟨o,q,rfl,f⟩
theorem DictAt.get {h:Heap}{e:Addr}{d:Option Addr}{o:Obj}(j:DictAt h e d)(q:h.get? e=some o):o.dict=d/\PX o:=by
 obtain⟨o1,e1,h1⟩:=j;unfold Heap.get? at q;rw[e1] at q
 split at q
 ·cases q
 ·cases q;exact h1
end
end L2
namespace L2
open PySem PySem.Spec PyProof.Rows
theorem Be.get {P:Program}{w:World}{H:Hp}{h:Heap}{a:Addr}{o:HO}(x:Be P w H h a o):∃ob,h.get? a=some ob:=by
 cases o with
 |lst xs=>obtain⟨_,_,_,_,e⟩:=x;exact⟨_,e⟩
 |tup xs=>obtain⟨_,_,_,ob,e,_⟩:=x;exact⟨_,e⟩
 |dK kvs=>obtain⟨_,_,_,_,o,_,_,e,_⟩:=x;exact⟨_,e⟩
 |dT kvs=>obtain⟨_,_,_,_,o,_,_,e,_⟩:=x;exact⟨_,e⟩
 |set S n=>obtain⟨o,_,_,_,e,_⟩:=x;exact⟨_,e⟩
 |ins C dx fs=>obtain⟨_,_,_,e,_⟩:=x;exact⟨_,e⟩
 |own y=>obtain⟨_,e⟩:=x;exact⟨_,e⟩
 |xd fs=>obtain⟨_,⟨_,_,_,e,_⟩,_⟩:=x;exact⟨_,e⟩
 |rng lo hi=>obtain⟨_,_,_,e⟩:=x;exact⟨_,e⟩
 |frz ob u=>obtain⟨e,_⟩:=x;exact⟨_,e⟩
 |tbl ps=>exact⟨_,x⟩
 |met f y=>exact⟨_,x⟩
 |ext φ=>obtain⟨_,e,_⟩:=x;exact e
structure Fly (P:Program) (w:World) (outer:List Env) (H:Hp) (s:Shared) (ea:Addr) (cls:Value) (H':Hp) (B:Heap) (a0:Value) (s':Shared):Prop where
 os:s'.os=s.os
 bare:AllBare s'.gens
 un:Un (G9 outer) [] H H' s.heap s'.heap
 hok:Im P w H' B
 fl:Heap.FlyingW B outer ea cls a0 s'.heap
 kp:∀b o,s.heap.get? b=some o->H b=none->b∉G9 outer->B.get? b=some o
 th:∀b o,s.heap.get? b=some o->b∉G9 outer->∃o',B.get? b=some o'
 dj:∃d,DictAt s'.heap ea d
section
variable {P:Program}{w:World}{outer:List Env}{H H':Hp}{s s':Shared}{ea:Addr}{cls a0:Value}{B h' base:Heap}
theorem Fly.stay (F:Fly P w outer H s ea cls H' B a0 s')(hl:s.heap.FunFrames base outer)(hn:∀b∈G9 outer,H b=none)(sB:B.StaysIn h')(up:s'.heap.UpToSlots h'):Un (G9 outer) [] H H' s.heap h':=by
 have sl:∀b o,s.heap.get? b=some o->b∈G9 outer->∃sl,h'.get? b=some { o with slots:=sl }:=λb o q hb=>by
  obtain⟨z,e⟩:=F.un.slot b o q (hn b hb) hb (by simp);obtain⟨_,o',ho',hd⟩:=hl.mem hb;rw[q] at ho';cases ho';exact up b { o with slots:=z } e hd
 refine⟨λb o q n hb _=>sB b o (F.kp b o q n hb),λb o q _ hb _=>sl b o q hb,F.un.free,λb o q _=>?_,F.un.tups,F.un.frzs,F.un.tbls⟩
 by_cases hb:b∈G9 outer
 ·obtain⟨z,e⟩:=sl b o q hb;exact⟨_,e⟩
 ·obtain⟨o',e⟩:=F.th b o q hb;exact⟨o',sB b o' e⟩
theorem Fly.free (F:Fly P w outer H s ea cls H' B a0 s'):H' ea=none:=by
 cases e:H' ea with
 |none=>rfl
 |some u=>
  obtain⟨ob,q⟩:=(F.hok ea u e).get;rw[F.fl.2.1] at q;cases q
end
section
variable {X:Cx}{pins:List (Addr×Obj)}{σ:St}{H H':Hp}{s s':Shared}{ea:Addr}{cls a0:Value}{B h':Heap}
theorem Inv.landed (I:Inv X pins σ H s)(F:Fly X.prog X.w X.stack H s ea cls H' B a0 s')(sB:B.StaysIn h')(up:s'.heap.UpToSlots h'):Inv X pins σ H' { s' with heap:=h' }:=
 I.call' (s':={ s' with heap:=h' }) (ch:=[]) F.os (F.stay I.stack I.stkFree sB up) (F.hok.kept sB) F.bare (λb z=>nomatch z)
theorem Inv.hid (I:Inv X pins σ H s):Im X.prog X.w H (PySem.W.hideAll s.heap (G9 X.stack)):=λb u e=>by
 refine(I.hok b u e).stay (λc v hc q=>bP _ q λz=>?_) (λ_ q=>q) λ_ _ q=>q
 have:=I.stkFree c z;rcases hc with rfl|hc
 ·rw[e] at this;cases this
 ·rw[hc] at this;cases this
theorem Inv.hidFrames (I:Inv X pins σ H s):s.heap.FunFrames (PySem.W.hideAll s.heap (G9 X.stack)) X.stack:=
 fq I.stack λenv he a ha=>cS.mpr ⟨env,he,ha⟩
theorem Inv.made1 {h1:Heap}{vs:List Value}{l:List Env}{t':Nat}(I:Inv X pins σ H s)(hx:Heap.MadeExcOf s.heap h1 ea cls vs)(fl:Heap.FlyingW (PySem.W.hideAll s.heap (G9 X.stack)) l ea cls a0 h')(up:h1.UpToSlots h') :
  Un (G9 X.stack) [] H H s.heap h':=by
 have sl:∀b o,s.heap.get? b=some o->b∈G9 X.stack->∃sl,h'.get? b=some { o with slots:=sl }:=λb o q hb=>by
  obtain⟨_,o',ho',hd⟩:=I.stack.mem hb;rw[q] at ho';cases ho';exact up b _ (hx.keeps b o q) hd
 refine⟨λb o q _ hb _=>fl.1 b o (bP _ q hb),λb o q _ hb _=>sl b o q hb,λb o _ n _=>n,λb o q _=>?_,λ_ _ e=>e,λ_ _ _ e=>e,λb ps e=>⟨#[],by rw[e];simp⟩⟩
 by_cases hb:b∈G9 X.stack
 ·obtain⟨z,e⟩:=sl b o q hb;exact⟨_,e⟩
 ·exact⟨o,fl.1 b o (bP _ q hb)⟩
end
def Zd (X:Cx)(E:XK):Prop:=∀(pins:List (Addr×Obj)) (σ:St) (H:Hp) (s:Shared) (cls:Value) (h1:Heap) (ea:Addr) (vs:List Value),Inv X pins σ H s->Heap.MadeExcOf s.heap h1 ea cls vs->E cls none H->X.xe (.ref ea) { s with heap:=h1 }
abbrev Qf:List Value:=[.type "ValueError",.type "Exception",.type "BaseException",.type "object"]
theorem Vk {K:PySem.W.Frag}{h:Heap}{C:Addr}(Kh:K.In h)(q:PySem.W.excIn K C Qf "ValueError.__new__"=true) :
  ∃bm N nm qn bs hd sn sub ab col dd k0 k1 k2 k3 k5 mN,h.get? C=some (excClassObj nm qn C N bs bm hd sn sub ab col dd k0 k1 k2 k3 k5 "ValueError.__new__")/\h.Ns N mN/\mN "__init__"=none/\OwnTail h Qf bm:=by
 unfold PySem.W.excIn at q
 split at q
 ·rename_i dx ck slots found
  split at q
  ·rename_i C0 tl p0 p1 p2 p3 made p5 em es
   rw[aX,aX,aX,aX,aX] at q;obtain⟨⟨⟨⟨⟨z1,z2⟩,z3⟩,z4⟩,z5⟩,z6⟩:=q;have y1:C0=C:=bL.mp z1;have y2:made="ValueError.__new__":=bL.mp z2;have y3:ck.hasDel=false:=by simpa using z3
   subst y1 y2;obtain⟨nm,bs,mro,ns,qn,hd,sn,sub,ab,col,del⟩:=ck;simp only at em y3 z5 z6;subst em y3;have es':slots = #[p0,p1,p2,p3,some (.builtin "ValueError.__new__"),p5]:=by
    obtain⟨l⟩:=slots;simp only at es;rw[es]
   subst es';exact⟨tl,ns,nm,qn,bs,hd,sn,sub,ab,col,dx,p0,p1,p2,p3,p5,_,Kh _ _ found,.of_isNs (PySem.W.isNs_of_in Kh z5),PySem.W.nsMap_none_of_in Kh z5 (bL.mp z6),PySem.W.tail_of_in Kh z4⟩
  ·cases q
 ·cases q
section
variable {X:Cx}{E:XK}{x:Str}{C:Addr}{np cpos pos:Pos}
theorem Nx (R:Zd X E)(hc:X.calm=true)(hm:X.mg x=some (.ref C))(hq:PySem.W.excIn X.K C Qf "ValueError.__new__"=true)(hg:Gl X x)(hd:(x == ("__debug__":Str))=false:=by decide) :
  PS X (.Raise (some (.Call (.Name x np) [] [] cpos)) none pos) (λ_ _ H=>E (.ref C) none H):=by
 intro pins s σ H D I h;obtain⟨tl,N,nm,q,bs,hdct,sn,sub,ab,col,dd,k0,k1,k2,k3,k5,mN,hC,hN,hni,T⟩:=Vk I.kIn hq;refine wpAny_Raise_call_subT (C:=C) (nm:=nm) (q:=q) (N:=N) (bs:=bs) (bm:=tl) (hdct:=hdct) (sn:=sn) (sub:=sub) (ab:=ab) (col:=col) (dd:=dd) (k0:=k0) (k1:=k1) (k2:=k2) (k3:=k3) (k5:=k5)
  eR (mN:=mN) (T.hasType PySem.F.excBase_ValueError.hasBase) (I.ok.hd hc) rfl hni (Ff I hg hm ⟨rfl,?_⟩ hd)
 exact evalArgs_empty ⟨rfl,bw _,hC,hN,T,λh' e hx=>R pins σ H s (.ref C) h' e [] I hx h⟩
end
abbrev XS:=Value->St->Hp->Prop
abbrev TX:=Ends->XS->St->Hp->Prop
def XP (X:Cx)(pins:List (Addr×Obj))(Ex:XS)(e:Value)(s':Shared):Prop:=
 ∃(ea:Addr) (cls:Value) (σ':St) (H1 H':Hp) (s1:Shared) (B:Heap) (a0:Value),e=.ref ea/\Inv X pins σ' H1 s1/\Fly X.prog X.w X.stack H1 s1 ea cls H' B a0 s'/\Ex cls σ' H'
def Y7 (X:Cx)(st:List Stmt)(t:TX):Prop:=
 ∀(pins:List (Addr×Obj)) (s:Shared) (σ:St) (H:Hp) (D:Ends) (Ex:XS),Inv X pins σ H s->t D Ex σ H->wpAny (model X.prog X.w) X.A (execs st X.env) (SP X pins D) (XP X pins Ex) s
def Cx.held (X:Cx)(e:Value):Cx:={ X with A:=X.A.mark (some e),calm:=false,xe:=λ_ _=>False }
section
variable {X:Cx}{pins:List (Addr×Obj)}{σ:St}{H:Hp}{s:Shared}{e:Value}
theorem Inv.held (I:Inv X pins σ H s)(e:Value):Inv (X.held e) pins σ H s:=
 ⟨⟨I.ok.mod,I.ok.kind,I.ok.glob,I.ok.blt,I.ok.above,I.ok.inj,I.ok.has,I.ok.cab,(λz=>nomatch z),I.ok.frames,I.ok.stk,I.ok.exf,I.ok.bs,I.ok.bsz,I.ok.noex,I.ok.exfs,I.ok.funs,I.ok.frf⟩,I.os,I.bare,I.base,I.loc,I.cell,I.free,I.freeC,I.pin,I.hok,I.len⟩
theorem Inv.unheld (J:Inv X pins σ H s){σ':St}{H':Hp}{s':Shared}(I:Inv (X.held e) pins σ' H' s'):Inv X pins σ' H' s':=
 ⟨J.ok,I.os,I.bare,I.base,I.loc,I.cell,I.free,I.freeC,I.pin,I.hok,I.len⟩
theorem SP.unheld (J:Inv X pins σ H s){D:Ends}{f:Flow}{s':Shared}(h:SP (X.held e) pins D f s'):SP X pins D f s':=by
 cases f with
 |next=>obtain⟨σ',H',I,q⟩:=h;exact⟨σ',H',J.unheld I,q⟩
 |brk=>obtain⟨σ',H',I,q⟩:=h;exact⟨σ',H',J.unheld I,q⟩
 |cont=>obtain⟨σ',H',I,q⟩:=h;exact⟨σ',H',J.unheld I,q⟩
 |ret u=>obtain⟨v,σ',H',I,r,q⟩:=h;exact⟨v,σ',H',J.unheld I,r,q⟩
end
theorem OA {X:Cx} {K:PySem.W.Frag} {T:String} {name:Str} {id:String} {r:V->List V->Hp->VK->Prop} {o e:Expr} {es:List Expr} {to:TE} {t:TA} {apos cpos:Pos} (hK:X.K=K) (pa:PlainAttrs T) (slot:Slot T name id) (hty:typeOf (.builtin id)=pure (.type "method_descriptor")) (hm:VX X id r) (ho:PE X o to) (ha:PA X (e::es) t)
  (hbase:attributeBase o name X.env (eval o X.env)=eval o X.env:=by rfl)
  (hfew:((backTo cpos (starEach (e::es) X.env)).all (λx=>!x.1)&&(backToKw cpos (keywordEach [] X.env)).all (λx=>x.1.isSome)
   && decide ((e::es).length+([]:List Keyword).length+(if([]:List Keyword).isEmpty then 0 else 1)<30))=true:=by rfl)
  (hline:(apos.endLine == cpos.line)=true:=by rfl) (hs:starEach (e::es) X.env=(false,eval e X.env)::starEach es X.env:=by rfl) (hplain:(backTo cpos (starEach es X.env)).any (·.1)=false:=by rfl) :
  PE X (.Call (.Attribute o name apos) (e::es) [] cpos) (Zf K T r to t):=by
 subst hK;exact Lf pa slot hty hm ho ha hbase hfew hline hs hplain
end L2
namespace L2
section
open PySem PySem.Calls PyProof.Rows PySem.W Builtin Builtin.ObjectAttr Builtin.Getset_descriptor
section
variable {prog:Program}{w:World}{A:Around}{E:Value->Shared->Prop}{K:Frag}{e D:Addr}
structure IsExc (h:Heap) (e D:Addr):Prop where
 ob:∃o,h.get? e=some o/\o.cls=.ref D/\∃vs,o.data=.fields vs
theorem IsExc.ty {h:Heap}(z:IsExc h e D){M:Model}:Looks M h (typeOf (.ref e)) (.ref D):=by
 obtain⟨o,q,c,_⟩:=z.ob;rw[<-c];exact(Looks.ld q).andThen .now
theorem SR {tp:Value}{s:Shared}{R:Result->Shared->Prop}(k:K.In s.heap)(z:IsExc s.heap e D)(hm:mroIn K D (.type "object")=some true)(q:R (.ok (.ret (.ref D))) s) :
  codeAny (model prog w) A (.call (.builtin "getset_descriptor.__get__") ⟨[.builtin "object.__class__",.ref e,tp],[]⟩) R s:=by
 obtain⟨h1,g1,d1,t1,o1⟩:=s;have T0:=z.ty (M:=model prog w);have T1:=looks_mroIn (M:=model prog w) k hm;have slot:=KF.slot_gs;refine cq slot.plain KF.entry_gs (slot.check _ _ _ _ _ _ _ _ KF.type_class (KF.args_gs _ _ _) ?_);simp only[Builtin.«getset_descriptor.__get__»,descrGet,dga_obj];refine af (ar ?_);dsimp only[descrGetter,descrCheckInstance,descrNameAndClass,isInstance];rw[show descrOwnerAndName "object.__class__"=("object","__class__") from KF.owner_class]
 repeat lk
 refine⟨eM (id:="object.__class__") _ (by decide +kernel),cV KF.entry_class ?_⟩;simp only[Builtin.«object.__class__»,shownTypeOf]
 repeat lk
 exact q
theorem TL {h:Heap} {M:Model} (k:K.In h) (ha:findIn K (.ref D) "__class__"=some (some (.builtin "object.__class__")))
  (hn:specialIn K (.builtin "object.__class__") "__get__"=some (some (.builtin "getset_descriptor.__get__"))) (ht:takesIn K (.builtin "object.__class__")=some true) :
  Looks M h (find (.ref e) (.ref D) "__class__") (.bind (.builtin "getset_descriptor.__get__") (.builtin "object.__class__")):=
 (dw k ha).andThen ((show Looks M h (getOf (some (.builtin "object.__class__"))) (some (.builtin "getset_descriptor.__get__")) from looks_specialIn k hn).andThen
  ((show Looks M h (dataDescriptor? (some (.builtin "object.__class__")) (some (.builtin "getset_descriptor.__get__"))) (some (.builtin "getset_descriptor.__get__",.builtin "object.__class__")) from(looks_takesIn k ht).andThen .now).andThen (Looks.tag .now)))
theorem NG {nv:Value}{s:Shared}{Q:Unit->Shared->Prop}{M:Model}(k:K.In s.heap)(z:IsExc s.heap e D)(hb:mroIn K D (.type "BaseException")=some true)(q:Q () s) :
  wpAny M A (checkBuiltinCall "BaseException.__getattribute__" ⟨[.ref e,nv],[]⟩) Q E s:=by
 obtain⟨h1,g1,d1,t1,o1⟩:=s;have b1:builtinKind "BaseException.__getattribute__"=some .slot:=by decide +kernel
 have b2:splitId "BaseException.__getattribute__"=some ("BaseException","__getattribute__"):=by decide +kernel
 have b3:=F.args_bexc_ga (.ref e) nv;have T:Looks M h1 (isInstance (.ref e) (.type "BaseException")) true:=z.ty.andThen (looks_mroIn k hb);simp only[checkBuiltinCall,b1,b2];refine af (T.at ?_);rw[aj (by decide)]
 repeat wp_step
 exact q
theorem SK {tk:Tok} {s:Shared} {Q:Fin->Shared->Prop} (k:K.In s.heap) (z:IsExc s.heap e D) (ha:findIn K (.ref D) "__class__"=some (some (.builtin "object.__class__")))
  (hn:specialIn K (.builtin "object.__class__") "__get__"=some (some (.builtin "getset_descriptor.__get__"))) (ht:takesIn K (.builtin "object.__class__")=some true) (hm:mroIn K D (.type "object")=some true) (q:Q (.done (.ret (.ref D))) s) :
  wpAny (model prog w) A (Builtin.«object.__getattribute__» ⟨[.ref e,.str "__class__" tk],[]⟩) Q E s:=by
 obtain⟨h1,g1,d1,t1,o1⟩:=s;have T0:=z.ty (M:=model prog w);have T1:=TL (e:=e) (M:=model prog w) k ha hn ht;have s0:slotArgs "__getattribute__" 1 ⟨[.ref e,.str "__class__" tk],[]⟩=pure (Value.ref e,[Value.str "__class__" tk]):=by kernel_rfl
 have s1:attrName (.str "__class__" tk)=pure "__class__":=by kernel_rfl
 simp only[Builtin.«object.__getattribute__»,s0];refine af (ar ?_);dsimp only;rw[s1];refine af (ar (af (T0.at (af (T1.at ?_)))));dsimp only;unfold bindTo;dsimp only;refine af (cg (SR (s:=⟨h1,g1,d1,t1,o1⟩) k z hm ?_));exact ar q
theorem Tp {s:Shared} {Q:Option Value->Shared->Prop} (k:K.In s.heap) (z:IsExc s.heap e D) (hga:findIn K (.ref D) "__getattribute__"=some (some (.builtin "BaseException.__getattribute__"))) (hgg:findIn K (.ref D) "__getattr__"=some none)
  (ha:findIn K (.ref D) "__class__"=some (some (.builtin "object.__class__"))) (hn:specialIn K (.builtin "object.__class__") "__get__"=some (some (.builtin "getset_descriptor.__get__"))) (ht:takesIn K (.builtin "object.__class__")=some true)
  (hm:mroIn K D (.type "object")=some true) (hb:mroIn K D (.type "BaseException")=some true) (q:Q (some (.ref D)) { s with toks:=s.toks+1 }) :
  wpAny (model prog w) A (getAttr? (.ref e) "__class__") Q E s:=by
 obtain⟨h1,g1,d1,t1,o1⟩:=s;have T0:=z.ty (M:=model prog w);have T1:=dw (M:=model prog w) k hga;have T2:=dw (M:=model prog w) k hgg;have B:=F.excAttr_ValueError.ga.bind (.ref e);simp only[getAttr?,getAttrBy?,getAttrBy];refine af (wpAny_mkText (af (eD (bh (af (T0.at (af (T1.at ?_))))))));have n0:(onTheHeap (Value.ref D)&&Value.builtin "BaseException.__getattribute__" == Value.builtin "object.__getattribute__")=false:=by
  have:(Value.builtin "BaseException.__getattribute__" == Value.builtin "object.__getattribute__")=false:=by decide +kernel
  rw[this];rfl
 dsimp only;rw[aj (by rw[n0];decide)];unfold getAttrByItsOwn hookBefore;rw[aw (by rfl)];refine af (T2.at (af (eD (bh ?_))));unfold callGetattribute boundAndCalled;rw[aj (by decide),B];refine af (ar ?_);dsimp only;refine cg (cq F.excAttr_ValueError.ga.plain F.entry_bexc_ga ?_);refine NG (s:=⟨h1,g1,d1,t1+1,o1⟩) k ⟨z.ob⟩ hb (SK (s:=⟨h1,g1,d1,t1+1,o1⟩) k ⟨z.ob⟩ ha hn ht hm ?_);dsimp only;exact handed_on rfl (ar q)
structure ExcCls (K:Frag) (D:Addr):Prop where
 ga:findIn K (.ref D) "__getattribute__"=some (some (.builtin "BaseException.__getattribute__"))
 gg:findIn K (.ref D) "__getattr__"=some none
 cl:findIn K (.ref D) "__class__"=some (some (.builtin "object.__class__"))
 sp:specialIn K (.builtin "object.__class__") "__get__"=some (some (.builtin "getset_descriptor.__get__"))
 tk:takesIn K (.builtin "object.__class__")=some true
 mo:mroIn K D (.type "object")=some true
 mb:mroIn K D (.type "BaseException")=some true
theorem ExcCls.there (c:ExcCls K D):∃o,K.lookup D=some o/\∃cd,o.data=.cls cd:=by
 obtain⟨cd,h,_⟩:=Option.bind_eq_some_iff.mp c.mo;unfold clsIn at h
 split at h
 ·rename_i o d' cd' sl' ho
  exact⟨_,ho,_,rfl⟩
 ·cases h
theorem ExcCls.kit (c:ExcCls K D):KitX K (.ref e) (.ref D) (λh=>IsExc h e D) where
 ty:=λ_ _ _ z=>z.ty
 it:=λM h k _=>by
  obtain⟨⟨oc,od,oda,os⟩,h1,cd,h2⟩:=c.there;dsimp only at h2;subst h2;intro A1 Q1 E1 s1 st q;unfold isType loadHead;exact af (fD (st _ _ (k _ _ h1)) (ar q))
 ne:=λh tp dd its n sl k ht=>by
  obtain⟨o,h1,cd,h2⟩:=c.there;cases q:(Value.ref D == Value.ref tp) with
  |false=>rfl
  |true=>
   cases Value.ref.inj (bL.mp q);rw[k _ _ h1] at ht;cases ht;cases h2
 ca:=λk z q=>Tp k z c.ga c.gg c.cl c.sp c.tk c.mo c.mb q
end
end
open PySem PySem.Spec PyProof.Rows
theorem IsExc.stays {h1 h2:Heap}{e D:Addr}(z:IsExc h1 e D)(k:∀o,h1.get? e=some o->h2.get? e=some o):IsExc h2 e D:=by
 obtain⟨o,q,r⟩:=z.ob;exact⟨o,k o q,r⟩
section
variable {X:Cx}{pins:List (Addr×Obj)}{σ:St}{H:Hp}{s:Shared}
theorem Inv.know {e:Addr} {o:HO} (I:Inv X pins σ H s) (n0:e∉X.ex->X.s₀.heap.get? e=none) (nl:e≠X.env.locals) (nc:∀x c,X.env.cells.lookup x=some c->c≠e) (np:∀p∈X.pn++pins,p.1≠e) (hn:H e=none)
  (ho:Be X.prog X.w (upd H e o) s.heap e o):Inv X pins σ (upd H e o) s:=by
 have up:∀{b:Addr} {u:HO},H b=some u->upd H e o b=some u:=λ{b u} q=>by rw[An (Cm q hn)];exact q
 refine⟨I.ok,I.os,I.bare,⟨I.base.keep,I.base.slot,λb ob q n x=>?_,I.base.there,λb xs q=>up (I.base.tups b xs q),λb ob u q=>up (I.base.frzs b ob u q),λb ps q=>?_⟩,I.loc,I.cell,?_,λx c q=>?_,λp hp=>?_,λb u q=>?_,I.len⟩
 ·rw[An (λz=>by subst z;rw[n0 x] at q;cases q)];exact I.base.free b ob q n x
 ·obtain⟨more,z⟩:=I.base.tbls b ps q;exact⟨more,up z⟩
 ·rw[An nl.symm];exact I.free
 ·rw[An (nc x c q)];exact I.freeC x c q
 ·obtain⟨h1,h2,h3⟩:=I.pin p hp;exact⟨h1,by rw[An (np p hp)];exact h2,h3⟩
 ·by_cases hb:b=e
  ·subst hb;rw[Ac] at q;cases q;exact ho
  ·rw[An hb] at q;exact(I.hok b u q).stay (λc v _ z=>z) (λ_ z=>up z) λ_ _ z=>up z
theorem LH {M:Model} {A:Around} {E:Value->Shared->Prop} {i:Nat} {x:Str} {pos:Pos} {Q:Unit->Shared->Prop} (I:Inv X pins σ H s) (hN:X.N.Nodup) (hi:X.N[i]?=some x) (hk:X.env.kindOf x=some .local)
  (h:∀s',Inv X pins (σ.set i none) H s'->Q () s'):wpAny M A (do bindName X.env x .none;unbindBehindTheSuite X.env x pos) Q E s:=by
 obtain⟨m,hn,hl⟩:=id I.loc;have hc:(X.env.scope.kind == .class||(X.env.scope.kind == .module&&X.env.locals != X.env.globals))=false:=by rw[I.ok.kind];rfl
 have hiσ:i<σ.length:=by rw[I.len];exact(aH.mp hi).1
 obtain⟨oL,_,_,hoL,_⟩:=id hn;refine wpAny_nameGoes_keeps hk hn hc λh' v hn' hs=>?_
 have apart:∀b o,X.s₀.heap.get? b=some o->b≠X.env.locals:=λb o q=>aO (aQ (aA q) I.ok.above)
 refine h _ ⟨I.ok,I.os,I.bare,⟨λb o q n hb hx=>(hs.2 b (apart b o q)).trans (I.base.keep b o q n hb hx),λb o q n hb hx=>?_,I.base.free,λb o q hx=>?_,I.base.tups,I.base.frzs,I.base.tbls⟩,
  ⟨_,hn',λj y v' e1 e2 e3=>?_⟩,λy c q=>?_,I.free,I.freeC,λp hp=>?_,λb u q=>?_,by simpa using I.len⟩
 ·obtain⟨sl,z⟩:=I.base.slot b o q n hb hx;exact⟨sl,(hs.2 b (apart b o q)).trans z⟩
 ·obtain⟨o',z⟩:=I.base.there b o q hx;exact⟨o',(hs.2 b (apart b o q)).trans z⟩
 ·by_cases hj:j=i
  ·subst hj;rw[dD hiσ] at e2;cases e2
  ·rw[dN (Ne.symm hj)] at e2;obtain⟨u',r',q⟩:=hl j y v' e1 e2 e3;refine⟨u',r',?_⟩;rcases q with⟨k,z⟩|⟨k,c,z,z2⟩
   ·have ny:y≠x:=λt=>hj (Mf hN e1 (t▸hi))
    exact .inl ⟨k,by simp[ny,z]⟩
   ·exact .inr ⟨k,c,z,z2.sameBut hs (I.cne y c z)⟩
 ·obtain⟨w',z⟩:=I.cell y c q;exact⟨w',z.sameBut hs (I.cne y c q)⟩
 ·obtain⟨q,n,ne,nf,d⟩:=I.pin p hp;exact⟨(hs.2 p.1 ne).trans q,n,ne,nf,d⟩
 ·have nb:∀{c:Addr} {v':HO},H c=some v'->c≠X.env.locals:=λ{c v'} z=>Cm z I.free
  refine(I.hok b u q).stay (λc w' hc z=>(hs.2 c ?_).trans z) (λ_ z=>z) λ_ _ z=>z
  rcases hc with rfl|hc
  ·exact nb q
  ·exact nb hc
theorem Inv.flown {H':Hp}{s':Shared}{ea:Addr}{cls a0:Value}{B:Heap}(I:Inv X pins σ H s)(F:Fly X.prog X.w X.stack H s ea cls H' B a0 s'):s.heap.get? ea=none:=by
 cases q:s.heap.get? ea with
 |none=>rfl
 |some o=>
  by_cases hb:ea∈G9 X.stack
  ·obtain⟨z,e⟩:=F.un.slot ea o q (I.stkFree ea hb) hb (by simp);obtain⟨_,o',ho',hd⟩:=I.stack.mem hb;rw[q] at ho';cases ho';obtain⟨_,_,_,oe,vs,_,_,_,he,_,hv,_⟩:=F.fl;rw[he] at e;cases e;exact absurd hv (hd vs)
  ·obtain⟨o',e⟩:=F.th ea o q hb;rw[F.fl.2.1] at e;cases e
end
theorem J4 {X:Cx}{x:Str}{C:Addr}{pos:Pos}(hg:Gl X x)(hm:X.mg x=some (.ref C))(hd:(x == ("__debug__":Str))=false:=by decide):PE X (.Name x pos) (tC (.ref C)):=Pc (v:=.ref C) hg hm rfl hd
theorem Nh:bootBuiltins "ValueError"=some (.type "ValueError"):=by decide +kernel
end L2
namespace L2
end L2
namespace L2
section
open PySem PySem.Calls PyProof.Rows PySem.W
structure IsExcD (h:Heap) (e D:Addr) (d:Option Addr):Prop where
 is:IsExc h e D
 dj:∃o,h.get? e=some o/\o.dict=d/\PX o
theorem IsExcD.stays {h1 h2:Heap}{e D:Addr}{d:Option Addr}(z:IsExcD h1 e D d)(k:∀o,h1.get? e=some o->h2.get? e=some o):IsExcD h2 e D d:=by
 obtain⟨a,o,q,hd⟩:=z;exact⟨a.stays k,o,k o q,hd⟩
end
section
open PySem PySem.Spec PyProof.Rows
def LU (e D:Addr)(d:Option Addr):HO:=.ext λh=>IsExcD h e D d
variable {X:Cx}{pins:List (Addr×Obj)}{σ:St}{H:Hp}{s:Shared}
theorem Inv.knowD {H':Hp}{s':Shared}{ea C:Addr}{a0:Value}{B h':Heap}{d:Option Addr}(I:Inv X pins σ H s)(F:Fly X.prog X.w X.stack H s ea (.ref C) H' B a0 s')(J:Inv X pins σ H' { s' with heap:=h' })(T:h'.TracedW B ea (.ref C) a0)(dj:DictAt h' ea d):Inv X pins σ (upd H' ea (LU ea C d)) { s' with heap:=h' }:=by
 have n:=I.flown F;obtain⟨m,hn,_⟩:=id I.loc;obtain⟨oL,_,_,hoL,_⟩:=id hn;obtain⟨oe,vs,_,_,_,he,⟨hc,_⟩,hv,_⟩:=T;have ise:IsExcD h' ea C d:=⟨⟨oe,he,hc,vs,hv⟩,oe,he,dj.get he⟩
 refine J.know (λx=>?_) (λz=>?_) (λx c q z=>?_) (λp hp z=>?_) F.free ⟨ise,⟨oe,he⟩,λh1 h2 z k=>z.stays k⟩
 ·cases q:X.s₀.heap.get? ea with
  |none=>rfl
  |some o=>
   obtain⟨o',z⟩:=I.base.there ea o q x;rw[n] at z;cases z
 ·rw[<-z,n] at hoL;cases hoL
 ·obtain⟨w',oc,e,_⟩:=I.cell x c q;rw[z,n] at e;cases e
 ·have:=(I.pin p hp).1;rw[z,n] at this;cases this
def Xv (K:PySem.W.Frag):List V->Hp->VK->Prop:=λxs H Q=>∃(e D:Addr) (d:Option Addr) (c:V) (cv:Value) (b:Bool),xs=[.ref e,c]/\H e=some (LU e D d)/\ExcCls K D/\(∀u,RelV c u->u=cv)/\PySem.W.kitOne K (.ref D) cv=some b/\Q (.bl b) H
theorem Es {K:PySem.W.Frag}(hK:X.K=K):FO X (.builtin "isinstance") (Xv K):=by
 subst hK;intro pins s σ H xs us Q I r h;obtain⟨e,D,d,c,cv,b,rfl,he,hc,hv,hk,q⟩:=h;obtain⟨u,v,rfl,ru,rv⟩:=vals2 r;cases(show u=Value.ref e from ru);cases hv v rv;have z:Be X.prog X.w H s.heap e (LU e D d):=I.hok e _ he;exact bx hc.kit I.kIn z.1.is hk (λz=>nomatch z) λtk=>⟨.bl b,H,I.tok _,rfl,q⟩
variable {x n:Str}{c:Value}{body orelse suite:List Stmt}{b₀:Stmt}{np hpos pos:Pos}{i:Nat}
end
end L2
namespace L2
open PySem PySem.Spec PyProof.Rows
end L2
namespace L2
section
open PySem PySem.Calls PyProof.Rows PySem.W Builtin Builtin.ObjectAttr
def Rn:List Value->Bool
 | .ref _::r=>Rn r
 |l=>l == Qf
theorem N0 (self:Value):∀{l:List Value},Rn l=true->refuseLoop self "__setattr__" l=pure ()
 |[],e=>by cases e
 | .ref a::r,e=>by rw[refuseLoop_ref];exact N0 self (l:=r) e
 | .type n::r,e=>by
  have:(Value.type n::r)=Qf:=bL.mp e;rw[this];exact PySem.F.store_ValueError.passes self
 | .none::_,e | .bool _::_,e | .int _ _::_,e | .float _ _::_,e | .str _ _::_,e | .builtin _::_,e | .notImplemented::_,e | .ellipsis::_,e=>by cases e
def SH (K:Frag)(C:Addr):Bool:=(clsIn K C).any λcd=>Rn cd.mro
section
variable {prog:Program}{w:World}{A:Around}{E:Value->Shared->Prop}{s:Shared}{K:Frag}{x C:Addr}{vs:Array Value}{name:Str}{v:Value}
structure ExiCls (K:Frag) (C:Addr):Prop extends ExcCls K C where
 sa:findIn K (.ref C) "__setattr__"=some (some (.builtin "object.__setattr__"))
 ve:SH K C=true
 hd:hasDictIn K C=true
theorem UI (hx:s.heap.get? x=some ⟨.ref C,none,.fields vs,#[]⟩):InstAt s.heap x ⟨.ref C,none,.fields vs,#[]⟩ C none:=⟨hx,rfl,rfl,trivial⟩
theorem Tc {Q:Unit->Shared->Prop} (X:K.In s.heap) (c:ExiCls K C) (hn:findIn K (.ref C) name=some none) (hx:s.heap.get? x=some ⟨.ref C,none,.fields vs,#[]⟩)
  (h:∀h',h'.get? x=some ⟨.ref C,some s.heap.objs.size,.fields vs,#[]⟩->h'.Ns1 s.heap.objs.size (λy=>if y=name then some v else none)->(∀b o,b≠x->s.heap.get? b=some o->h'.get? b=some o)->Q () { s with heap:=h',toks:=s.toks+2 }) :
  wpAny (model prog w) A (setAttr (.ref x) name v) Q E s:=by
 have I:=UI hx;obtain⟨cd,hc,hm⟩:=any_some c.ve;obtain⟨cd2,hc2,hdd⟩:=any_some c.hd;rw[hc] at hc2;cases hc2;refine set_plain X I c.sa ?_;have inObj:Looks (model prog w) s.heap (isInstance (.ref x) (.type "object")) true:=I.type.andThen (looks_mroIn X c.mo);have G:=PySem.F.store_ValueError;refine cq G.slot.plain G.entry (@check_slot (model prog w) _ _ { s with toks:=s.toks+1 } "object.__setattr__" "object" "__setattr__" (.ref x) [.str name s.toks,v] [] _ G.kind G.split inObj (G.args (.ref x) (.str name s.toks) v) ?_);rw[osa_eq,refuse_eq];have own:Looks (model prog w) s.heap (mroOf (.ref C)) cd.mro:=(looks_clsIn X hc).andThen .now;refine af (af (d2 (s:={ s with toks:=s.toks+1 }) I.type (af (d2 (s:={ s with toks:=s.toks+1 }) own ?_))));rw[N0 _ hm];refine ar (af (d2 (s:={ s with toks:=s.toks+1 }) I.type (af (d2 (s:={ s with toks:=s.toks+1 }) (dw X hn) (af (ar ?_))))));dsimp only;refine af (ar (af (af (fD hx (af (d2 (s:={ s with toks:=s.toks+1 }) (looks_clsIn X hc) ?_))))));rw[hdd];refine af (wpAny_alloc ?_);have n0:s.heap.get? s.heap.objs.size=none:=cx (aq _);have nx:s.heap.objs.size≠x:=λz=>by rw[z,hx] at n0;cases n0
 have hx1:=ah { cls:=.type "dict",data:=.dict #[] } hx;refine af (wpAny_update hx1 ?_);have hx2:=Heap.get?_update_self (λo:Obj=>{ o with dict:=some s.heap.objs.size }) hx1 rfl;have hd2:((s.heap.push { cls:=.type "dict",data:=.dict #[] }).update x (λo:Obj=>{ o with dict:=some s.heap.objs.size })).get? s.heap.objs.size=some { cls:=.type "dict",data:=.dict #[] }:=by
  rw[aY _ _ (Ne.symm nx)];exact ay _ rfl
 have ns0:((s.heap.push { cls:=.type "dict",data:=.dict #[] }).update x (λo:Obj=>{ o with dict:=some s.heap.objs.size })).Ns1 s.heap.objs.size (λ_=>none):=⟨_,_,_,hd2,rfl,(λe he=>by simp at he),(by simp[UniqKeys]),λ_=>rfl⟩
 have keep:∀b o,b≠x->s.heap.get? b=some o->((s.heap.push { cls:=.type "dict",data:=.dict #[] }).update x (λo:Obj=>{ o with dict:=some s.heap.objs.size })).get? b=some o:=λb o nb q=>by
  rw[aY _ _ (Ne.symm nb)];exact ah _ q
 generalize (s.heap.push { cls:=.type "dict",data:=.dict #[] }).update x (λo:Obj=>{ o with dict:=some s.heap.objs.size })=h1 at hx2 hd2 ns0 keep;refine ar (a:=some s.heap.objs.size) (af (ar (af ?_)));refine wpAny_nsSet1 (s:={ s with heap:=h1,toks:=s.toks+1 }) ns0 λh2 ns2 but=>?_
 obtain⟨oD,esD,epD,hoD,hdD,hcD⟩:=ns2.count (PySem.Within.cons (ns:=[]) name v λ_ z=>absurd rfl z);refine af (wpAny_lookBehind hoD (by rw[hdD];exact pastItsLine_dict (aV hcD (by rw[aZ];show 1<=_;decide))) ?_);refine ar (h h2 ((but.2 x (Ne.symm nx)).trans hx2) ns2 λb o nb q=>(but.2 b λz=>?_).trans (keep b o nb q));rw[z,n0] at q;cases q
end
def JV (K:Frag)(C:Addr):Bool:=(K.lookup C).any λo=>match o with
 |⟨.type t,_,.cls cd,sl⟩=>t == "type" && !cd.hasDel&&(match cd.mro with | .ref D::tl=>D == C&&tailIn K Qf tl|_=>false)&&(match sl.toList with|[_,_,_,_,some (.builtin n),_]=>n == "ValueError.__new__"|_=>false)
 |_=>false
theorem RU {h:Heap}{K:Frag}{C:Addr}(X:K.In h)(q:JV K C=true) :
  ∃tl N nm qn bs hd sn sub ab col dd k0 k1 k2 k3 k5,h.get? C=some (excClassObj nm qn C N bs tl hd sn sub ab col dd k0 k1 k2 k3 k5 "ValueError.__new__")/\OwnTail h Qf tl:=by
 obtain⟨o,found,z⟩:=any_some q
 split at z
 ·rename_i t dx ck sl
  rw[aX,aX,aX] at z;obtain⟨⟨⟨z1,z2⟩,z3⟩,z4⟩:=z;have y1:t="type":=bL.mp z1;have y2:ck.hasDel=false:=by simpa using z2
  split at z3
  ·rename_i D tl em
   rw[aX] at z3;have y3:D=C:=bL.mp z3.1
   split at z4
   ·rename_i p0 p1 p2 p3 made p5 es
    have y4:made="ValueError.__new__":=bL.mp z4;subst y1 y3 y4;obtain⟨nm,bs,mro,ns,qn,hd,sn,sub,ab,col,del⟩:=ck;simp only at em y2;subst em y2;obtain⟨l⟩:=sl;simp only at es;subst es;exact⟨tl,ns,nm,qn,bs,hd,sn,sub,ab,col,dx,p0,p1,p2,p3,p5,X _ _ found,tail_of_in X z3.2⟩
   ·cases z4
  ·cases z3
 ·cases z
section
variable {prog:Program}{w:World}{A:Around}{E:Value->Shared->Prop}{s:Shared}{K:Frag}{C f:Addr}{us:List Value}
def EB (C t:Addr)(d:Option Addr):Obj:=⟨.ref C,d,.fields #[.ref t,.none,.none,.none,.bool false,.none],#[]⟩
theorem TR {Q:Value->Shared->Prop} (X:K.In s.heap) (hq:JV K C=true) (hi:findIn K (.ref C) "__init__"=some (some (.ref f))) (hf:typeIn K (.ref f)=some (.type "function")) (hl:us.length<=sizeLine)
  (h:∀h1,(∀b o,s.heap.get? b=some o->h1.get? b=some o)->h1.get? (s.heap.objs.size+1)=some (EB C s.heap.objs.size none)->h1.objs.size=s.heap.objs.size+2->
   wpAny (model prog w) (A.under (.builtin "type.__call__" ⟨.ref C::us,[]⟩)) (call (.ref f) (.ref (s.heap.objs.size+1)::us)) (λr s'=>r=.none/\Q (.ref (s.heap.objs.size+1)) s') E { s with heap:=h1 }) :
  wpAny (model prog w) A (call (.ref C) us) Q E s:=by
 obtain⟨tl,N,nm,qn,bs,hd,sn,sub,ab,col,dd,k0,k1,k2,k3,k5,oc,T⟩:=RU X hq;obtain⟨hp,g,d,t,os⟩:=s;have G:=eR;have l1:=tc_lookup;have l2:=tc_bind (.ref C);have hT:(⟨hp,g,d,t,os⟩:Shared).TypeIs (.ref C) "type":=⟨_,oc,rfl⟩
 refine cg (codeAny_of_tree ?_);show wpAny _ _ (callAny (.ref C) _) _ _ _
 repeat (any_goals (first|assumption|(with_reducible refine dE oc ?_)|wp_step))
 refine⟨rfl,codeAny_call_builtin_at (eM _ (by decide +kernel)) entry_typeCall (wpAny_check_type_call_sub oc ?_)⟩
 change K.In hp at X
 change hp.get? C=_ at oc
 change OwnTail hp Qf tl at T
 dsimp only at h;generalize eA:A.under (Code.builtin "type.__call__" { pos:=[Value.ref C]++us })=A1;have h:∀h1,(∀b o,hp.get? b=some o->h1.get? b=some o)->h1.get? (hp.objs.size+1)=some (EB C hp.objs.size none)->h1.objs.size=hp.objs.size+2->wpAny (model prog w) A1 (call (.ref f) (.ref (hp.objs.size+1)::us)) (λr s'=>r=.none/\Q (.ref (hp.objs.size+1)) s') E ⟨h1,g,d,t,os⟩:=by
  rw[<-eA];exact h
 show wpAny (model prog w) A1 (Builtin.«type.__call__» ⟨.ref C::us,[]⟩) _ _ ⟨hp,g,d,t,os⟩
 repeat (first|(with_reducible refine dE oc ?_)|(with_reducible refine wpAny_madeBy_exc oc ?_)|wp_step)
 refine codeAny_call_builtin_code (eM _ G.quiet) (wpAny_check_new_subT G T oc (codeAny_exc_new_subT G T oc ?_ hl));show wpAny _ _ _ _ _ _;have k1:∀b o,hp.get? b=some o->((hp.push { cls:=.type "tuple",data:=.seq us.toArray }).push (EB C hp.objs.size none)).get? b=some o:=λb o q=>ah _ (ah _ q)
 have z1:((hp.push { cls:=.type "tuple",data:=.seq us.toArray }).push (EB C hp.objs.size none)).objs.size=hp.objs.size+2:=by rw[bF,bF]
 have e1:((hp.push { cls:=.type "tuple",data:=.seq us.toArray }).push (EB C hp.objs.size none)).get? (hp.objs.size+1)=some (EB C hp.objs.size none):=by
  have:=ay (hp.push { cls:=.type "tuple",data:=.seq us.toArray }) (o:=EB C hp.objs.size none) rfl;rw[bF] at this;exact this
 change wpAny (model prog w) A1 _ _ _ ⟨(hp.push { cls:=.type "tuple",data:=.seq us.toArray }).push (EB C hp.objs.size none),g,d,t,os⟩
 generalize (hp.push { cls:=.type "tuple",data:=.seq us.toArray }).push (EB C hp.objs.size none)=h1 at k1 z1 e1;have I:InstAt h1 (hp.objs.size+1) (EB C hp.objs.size none) C none:=⟨e1,rfl,rfl,trivial⟩
 have X1:K.In h1:=λb o q=>k1 b o (X b o q)
 have cC:(Value.ref C::tl).contains (.ref C)=true:=by simp
 refine af (af (d2 (s:=⟨h1,g,d,t,os⟩) I.type ?_));refine wpAny_isSubtype_exc (k1 _ _ oc) ?_;rw[cC];refine af (bh (special_fn (s:=⟨h1,g,d,t,os⟩) X1 I hi hf (aR (h h1 k1 e1 z1) (λr s' q=>?_) λ_ _ q=>q)));obtain⟨rfl,q⟩:=q;exact ar q
end
end
section
open PySem PySem.Spec PyProof.Rows
def Hk (x C:Addr)(d:Option Addr):HO:=.ext λh=>∃t,h.get? x=some (EB C t d)
theorem RT {P:Program}{w:World}{H:Hp}{h:Heap}{x C t:Addr}{d:Option Addr}(e:h.get? x=some (EB C t d)):Be P w H h x (Hk x C d):=⟨⟨t,e⟩,⟨_,e⟩,λ_ _ ⟨t,z⟩ k=>⟨t,k _ z⟩⟩
variable {X:Cx}{pins:List (Addr×Obj)}{σ:St}{H:Hp}{s:Shared}
theorem PF {A:Around} {E:Value->Shared->Prop} {Q:Unit->Shared->Prop} {e C:Addr} {f:Str} {y:V} {u:Value} (I:Inv X pins σ H s) (he:H e=some (Hk e C none)) (c:ExiCls X.K C) (n:PySem.W.findIn X.K (.ref C) f=some none) (ry:RelV y u)
  (h:∀dx s',H dx=none->Inv X pins σ (upd (upd H e (Hk e C (some dx))) dx (.xd [(f,y)])) s'->Q () s'):wpAny (model X.prog X.w) A (setAttr (.ref e) f u) Q E s:=by
 obtain⟨⟨t,ob⟩,_,_⟩:Be X.prog X.w H s.heap e (Hk e C none):=I.hok e _ he;refine Tc I.kIn c n ob λh1 ob1 ns1 k1=>?_
 have hf:H s.heap.objs.size=none:=I.hok.fresh (aq _);have n0:s.heap.get? s.heap.objs.size=none:=cx (aq _);have ne:s.heap.objs.size≠e:=λz=>by rw[z,ob] at n0;cases n0
 have J:=I.write (x:=e) (e:=e) (o:=Hk e C (some s.heap.objs.size)) (h':=h1) (t':=s.toks+2) (by rw[he];trivial) (.inl rfl) (λb o nb q=>k1 b o nb q) ⟨_,ob1⟩ (RT ob1);obtain⟨m,hn,_⟩:=id I.loc;obtain⟨oL,_,_,hoL,_⟩:=id hn;refine h s.heap.objs.size _ hf (J.know (λx=>?_) (λz=>?_) (λx c q z=>?_) (λp hp z=>?_) (by rw[An ne];exact hf) ⟨_,ns1,λg=>?_⟩)
 ·cases q:X.s₀.heap.get? s.heap.objs.size with
  |none=>rfl
  |some o=>
   obtain⟨o',z⟩:=I.base.there _ o q x;rw[n0] at z;cases z
 ·rw[<-z,n0] at hoL;cases hoL
 ·obtain⟨w',oc,e1,_⟩:=I.cell x c q;rw[z,n0] at e1;cases e1
 ·have:=(I.pin p hp).1;rw[z,n0] at this;cases this
 ·by_cases eg:g=f
  ·subst eg;rw[aw rfl,List.lookup_cons_self];exact ry
  ·rw[aj eg,cK,show(g == f)=false from bG.mpr eg]
   trivial
def Yl (K:PySem.W.Frag)(ta tv:TE)(f:Str):TS:=λD σ H=>tv σ H λy H1=>ta σ H1 λx H2=>∃e C,x=.ref e/\H2 e=some (Hk e C none)/\ExiCls K C/\PySem.W.findIn K (.ref C) f=some none/\
 ∀dx,H2 dx=none->D.nx σ (upd (upd H2 e (Hk e C (some dx))) dx (.xd [(f,y)]))
theorem JZ {o value:Expr}{f:Str}{pos pos':Pos}{ta tv:TE}(ha:PE X o ta)(hv:PE X value tv)(hs:swapsWith value (some (.Attribute o f pos')) pos.line X.env=pure false):PS X (.Assign [.Attribute o f pos'] value pos) (Yl X.K ta tv f):=by
 intro pins s σ H D I h;refine eX (Bv (hv pins s σ H _ I h) λu s1 ⟨y,H1,I1,ry,q⟩=>Bv (ha pins s1 σ H1 _ I1 q) λov s2 z9=>?_) hs;obtain⟨x,H2,I2,rx,e,C,ex,he,c,n,q2⟩:=z9;subst ex;obtain rfl:ov=Value.ref e:=rx;exact PF I2 he c n ry λdx s3 hd I3=>⟨σ,_,I3,q2 dx hd⟩
structure MkX (K:PySem.W.Frag) (C f:Addr):Prop where
 ex:JV K C=true
 init:PySem.W.findIn K (.ref C) "__init__"=some (some (.ref f))
 fn:PySem.W.isFn K (.ref f)=true
 kp:PySem.W.keepIn K (.ref C)=true
theorem VS {CX:RH} {k:Nat} {f C:Addr} {fd:FuncData} {ps:List Str} {sp:Sp} {Q:VK} {us:List Value} {vs:List V} (M:MkX X.K C f) (F:FnOk X.prog X.w X.K X.mg X.base CX k f fd ps sp) (hr:Room (k+1) X.A) (hb:Binds X.K fd ps []) (hx:FL CX X E0) (hl:us.length<=sizeLine)
  (I:Inv X pins σ H s) (r:AW vs us) (hq:sp (.ref (s.heap.objs.size+1)::vs) (upd H (s.heap.objs.size+1) (Hk (s.heap.objs.size+1) C none)) (λv H2=>v=.non/\Q (.ref (s.heap.objs.size+1)) H2) E0):wpAny (model X.prog X.w) X.A (call (.ref C) us) (EP X pins σ Q) X.xe s:=by
 refine TR I.kIn M.ex M.init (bL.mp M.fn) hl λh1 k1 e1 z1=>?_
 have I2:=I.laid (a:=s.heap.objs.size+1) (o:=Hk (s.heap.objs.size+1) C none) (h':=h1) (t':=s.toks) k1 (dI _) (RT e1);have r2:AW (V.ref (s.heap.objs.size+1)::vs) (Value.ref (s.heap.objs.size+1)::us):=.cons rfl r;have hn:(Value.ref (s.heap.objs.size+1)::us).length=ps.length:=r2.length.symm.trans (F.len _ _ _ _ hq);have hb':=hb { s with heap:=h1 } (Value.ref (s.heap.objs.size+1)::us) I2.kIn (by rw[bz];exact hn);rw[bz] at hb';refine cg (cA (F.run _ X.stack _ _ ⟨Value.ref (s.heap.objs.size+1)::us,[]⟩ (Value.ref (s.heap.objs.size+1)::us) _ _ _ (hr.make C us []) (I2.env0.make C us []) hb' r2 hq) λr s' z=>?_)
 match r,z with
 | .error e,z=>exact hx pins σ _ _ e s' I2 z
 | .ok (.ret u),z=>
  obtain⟨v,H',I3,rv,ev,q3⟩:=I2.after z;subst ev;exact⟨rv,⟨V.ref (s.heap.objs.size+1),H',I3,rfl,q3⟩⟩
theorem So {M:Model} {A:Around} {E:Value->Shared->Prop} {K:PySem.W.Frag} {env:Env} {y:Sem Value} {Q:Flow->Shared->Prop} {s:Shared} (hh:A.handled=none)
  (h:wpAny M A y (λv s1=>∃e C t d,v=.ref e/\K.In s1.heap/\JV K C=true/\s1.heap.get? e=some (EB C t d)/\E (.ref e) s1) E s):wpAny M A (raiseStmt env (some y) none) Q E s:=by
 unfold raiseStmt;refine af (aR h (λv s1 z=>?_) λ_ _ z=>z);obtain⟨e,C,t,d,rfl,k,hq,he,hE⟩:=z;obtain⟨tl,N,nm,qn,bs,hd,sn,sub,ab,col,dd,k0,k1,k2,k3,k5,oc,T⟩:=RU k hq;obtain⟨hp,g,dr,tk,os⟩:=s1
 change hp.get? e=some ⟨.ref C,d,.fields #[.ref t,.none,.none,.none,.bool false,.none],#[]⟩ at he
 have inB:(Value.ref C::tl).contains (.type "BaseException")=true:=by rw[List.contains_cons,T.hasType PySem.F.excBase_ValueError.hasBase,Bool.or_true]
 repeat (first|(with_reducible refine dE he ?_)|(with_reducible refine dE oc ?_)|((with_reducible refine wpAny_isSubtype_exc oc ?_);rw[inB])|wp_step)
 exact wpAny_raiseNew_none hh hE
end
section
open PySem PySem.Spec PyProof.Rows
def del (H:Hp)(e:Addr):Hp:=λb=>if b=e then none else H b
theorem Qe {H:Hp}{e:Addr}:del H e e=none:=by unfold del;rw[aw rfl]
theorem Ro {H:Hp}{b e:Addr}(h:b≠e):del H e b=H b:=by unfold del;rw[aj h]
def Gk (P:Program)(w:World):RH:=λouter H s E e s'=>∃(ea:Addr) (cls:Value) (H':Hp) (B:Heap) (a0:Value) (d:Option Addr),e=.ref ea/\Fly P w outer H s ea cls H' B a0 s'/\DictAt s'.heap ea d/\E cls d H'
section
variable {P:Program}{w:World}{K:PySem.W.Frag}{mg:Str->Option Value}{base:Heap}{N:List Str}{qual:Str}{scope:Scope}{f:Addr}{cd:Value}{A:Around}{outer:List Env}{s:Shared}{H:Hp}{E:XK}
theorem Fu {CX:RH}{pins:List (Addr×Obj)}{σ:St}{H1:Hp}{s1:Shared}(I:Inv (AZ CX P w K mg base N qual scope f cd A outer s H E) pins σ H1 s1){b:Addr}{o:Obj}(q:s.heap.get? b=some o)(hb:b∉G9 outer) :
  b∉G9 (envOfC qual scope s.heap.objs.size f cd::outer):=λz=>by
 rcases aL.mp (I.stkSub b z) with e|e
 ·have h1:s.heap.objs.size<=b:=by rw[e];exact I.ok.above
  exact absurd (aQ (aA q) h1) (bZ _)
 ·exact hb e
theorem AH:FL (Gk P w) (AZ (Gk P w) P w K mg base N qual scope f cd A outer s H E) E:=by
 intro pins σ H1 s1 e s2 I h;obtain⟨ea,cls,H',B,a0,d,rfl,F,dj,q⟩:=h;have hfr:=I.ok.frames;refine(Jo _ _).also dj (wpAny_leaves_onW (L:=s.heap.objs.size) hfr rfl F.fl λh' fl' up dj'=>?_);have un:=F.stay I.stack I.stkFree fl'.1 up;have J:=I.call' (s':={ s2 with heap:=h' }) (ch:=[]) F.os un (F.hok.kept fl'.1) F.bare (λb z=>nomatch z);refine⟨ea,cls,H',B,a0,d,rfl,⟨J.os,F.bare,J.base,F.hok,fl',λb o e n hb=>?_,λb o e hb=>?_,⟨_,dj'⟩⟩,dj',q⟩
 ·exact F.kp b o (I.base.keep b o e n hb (by intro z;cases z)) (I.base.free b o e n (by intro z;cases z)) (Fu I e hb)
 ·obtain⟨o1,e1⟩:=I.base.there b o e (by intro z;cases z);exact F.th b o1 e1 (Fu I e hb)
theorem Sw {pins:List (Addr×Obj)}{σ:St}{H1:Hp}{s1:Shared}{ea C:Addr}{d:Option Addr}(I:Inv (AZ (Gk P w) P w K mg base N qual scope f cd A outer s H E) pins σ H1 s1)(he:H1 ea=some (Hk ea C d))(hn:s.heap.objs.size<=ea)(q:E (.ref C) d (del H1 ea)) :
  (AZ (Gk P w) P w K mg base N qual scope f cd A outer s H E).xe (.ref ea) s1:=by
 have hfr:=I.ok.frames;obtain⟨⟨t,ob⟩,_,_⟩:Be P w H1 s1.heap ea (Hk ea C d):=I.hok ea _ he;have nf:ea∉G9 (envOfC qual scope s.heap.objs.size f cd::outer):=λz=>by
  have:=I.stkFree ea z;rw[he] at this;cases this
 have nofs:s.heap.get? ea=none:=cx hn;have hid:∀{b:Addr} {o:Obj},s1.heap.get? b=some o->b≠ea->b∉G9 (envOfC qual scope s.heap.objs.size f cd::outer)->(PySem.W.hideAll s1.heap (ea::G9 (envOfC qual scope s.heap.objs.size f cd::outer))).get? b=some o:=λe n1 n2=>bP _ e λz=>(aL.mp z).elim n1 n2
 have ff:s1.heap.FunFrames (PySem.W.hideAll s1.heap (ea::G9 (envOfC qual scope s.heap.objs.size f cd::outer))) (envOfC qual scope s.heap.objs.size f cd::outer):=fq I.stack λenv he a ha=>aK _ (cS.mpr ⟨env,he,ha⟩)
 have hen:(PySem.W.hideAll s1.heap (ea::G9 (envOfC qual scope s.heap.objs.size f cd::outer))).get? ea=none:=fG _ aM;refine(Jo _ _).also (RJ ob ⟨_,rfl,rfl⟩) (wpAny_leaving_firstW (base:=PySem.W.hideAll s1.heap (ea::G9 (envOfC qual scope s.heap.objs.size f cd::outer))) (a0:=.ref t) hfr ff rfl ob (λb o e=>dZ _ e) hen rfl rfl rfl λh' hL dj=>?_);obtain⟨k1,⟨_,_,k2⟩,k3,k4⟩:=hL;generalize PySem.W.hideAll s1.heap (ea::G9 (envOfC qual scope s.heap.objs.size f cd::outer))=B at hid ff hen k1 k2 k3;have nt:∀{b:Addr} {u:HO},H1 b=some u->(∀φ,u≠.ext φ)->del H1 ea b=some u:=λ{b u} e n=>by
  rw[Ro (λz=>by rw[z,he] at e;cases e;exact n _ rfl)];exact e
 have sl:∀b o,s1.heap.get? b=some o->b∈G9 (envOfC qual scope s.heap.objs.size f cd::outer)->∃z,h'.get? b=some { o with slots:=z }:=λb o e hb=>by
  obtain⟨_,o',ho',hd⟩:=I.stack.mem hb;rw[e] at ho';cases ho';exact k4 b o e hd
 have un:Un (G9 (envOfC qual scope s.heap.objs.size f cd::outer)) [] H1 (del H1 ea) s1.heap h':=by
  refine⟨λb o e n hb _=>k1 b o (hid e (λz=>by rw[z,he] at n;cases n) hb),λb o e _ hb _=>sl b o e hb,λb o _ n _=>?_,λb o e _=>?_,λb xs e=>nt e (by intro _ z;cases z),λb o u e=>nt e (by intro _ z;cases z),λb ps e=>⟨#[],by rw[nt e (by intro _ z;cases z)];simp⟩⟩
  ·unfold del;split
   ·rfl
   ·exact n
  ·by_cases z:b=ea
   ·rw[z];obtain⟨oe,_,_,_,_,e1,_⟩:=k3;exact⟨_,e1⟩
   ·by_cases hb:b∈G9 (envOfC qual scope s.heap.objs.size f cd::outer)
    ·obtain⟨z,e1⟩:=sl b o e hb;exact⟨_,e1⟩
    ·exact⟨o,k1 b o (hid e z hb)⟩
 have hok:Im P w (del H1 ea) B:=λb u e=>by
  have nb:b≠ea:=λz=>by rw[z,Qe] at e;cases e
  rw[Ro nb] at e;refine(I.hok b u e).stay (λc v hc z=>hid z (λy=>?_) λy=>?_) (λc z=>nt z (by intro _ z;cases z)) λc xs z=>nt z (by intro _ z;cases z)
  ·rcases hc with rfl|hc
   ·exact nb y
   ·rw[y,he] at hc;cases hc
  ·have:=I.stkFree c y;rcases hc with rfl|hc
   ·rw[e] at this;cases this
   ·rw[hc] at this;cases this
 have J:=I.call' (s':={ s1 with heap:=h' }) (ch:=[]) rfl un (hok.kept k1) I.bare (λb z=>nomatch z);refine⟨ea,_,del H1 ea,B,.ref t,d,rfl,⟨J.os,I.bare,J.base,hok,⟨k1,hen,k2,k3⟩,λb o e n hb=>?_,λb o e hb=>?_,⟨_,dj⟩⟩,dj,q⟩
 ·exact hid (I.base.keep b o e n hb (by intro z;cases z)) (λz=>by rw[z,nofs] at e;cases e) (Fu I e hb)
 ·obtain⟨o1,e1⟩:=I.base.there b o e (by intro z;cases z);exact⟨o1,hid e1 (λz=>by rw[z,nofs] at e;cases e) (Fu I e hb)⟩
end
end
section
open PySem PySem.Spec PyProof.Rows
def Xx (X:Cx)(E:XK):Prop:=∀(pins:List (Addr×Obj)) (σ:St) (H:Hp) (s:Shared) (ea C:Addr) (d:Option Addr),Inv X pins σ H s->H ea=some (Hk ea C d)->X.s₀.heap.objs.size<=ea->E (.ref C) d (del H ea)->X.xe (.ref ea) s
theorem BS {P:Program}{w:World}{K:PySem.W.Frag}{mg:Str->Option Value}{base:Heap}{N:List Str}{qual:Str}{scope:Scope}{f:Addr}{cd:Value}{A:Around}{outer:List Env}{s:Shared}{H:Hp}{E:XK}:Xx (AZ (Gk P w) P w K mg base N qual scope f cd A outer s H E) E:=
 λ_ _ _ _ _ _ _ I he hn q=>Sw I he hn q
theorem O2 {P:Program}{w:World}{X:Cx}:FL (Gk P w) X E0:=λ_ _ _ _ _ _ _ ⟨_,_,_,_,_,_,_,_,_,z⟩=>False.elim z
def K4 (C:Addr)(f:Str):Sp:=λvs H Q _=>∃e y,vs=[.ref e,y]/\H e=some (Hk e C none)/\∀dx,H dx=none->Q .non (upd (upd H e (Hk e C (some dx))) dx (.xd [(f,y)]))
def HJ (P:Program)(w:World)(K:PySem.W.Frag)(mg:Str->Option Value)(base:Heap)(k:Nat)(x:Str)(C:Addr)(f:Str)(ps:List Str):Prop:=
 ∃(fI:Addr) (fd:FuncData),MkX K C fI/\FnOk P w K mg base EL k fI fd ps (K4 C f)/\mg x=some (.ref C)/\Binds K fd ps []
def V4 (C:Addr)(f:Str)(E:XK)(t:TA):TS:=λ_ σ H=>t σ H λvs H1=>∃y,vs=[y]/\∀dx,H1 dx=none->E (.ref C) (some dx) (upd H1 dx (.xd [(f,y)]))
variable {X:Cx}{E:XK}{x:Str}{C:Addr}{f:Str}{ps:List Str}{k:Nat}{e:Expr}{t:TA}{np cpos pos:Pos}
theorem Ca (R:Xx X E)(hc:X.calm=true)(D:HJ X.prog X.w X.K X.mg X.base k x C f ps)(hr:Room (k+1) X.A)(hg:Gl X x)(ha:PA X [e] t)(hdb:(x == ("__debug__":Str))=false:=by decide)(he:starEach [e] X.env=[(false,eval e X.env)]:=by rfl) :
  PS X (.Raise (some (.Call (.Name x np) [e] [] cpos)) none pos) (V4 C f E t):=by
 intro pins s σ H Dn I h;obtain⟨fI,fd,M,F,hm,hb⟩:=D;rw[arm_exec_Raise];refine af (cQ (So (K:=X.K) (I.ok.hd hc) (af ?_)));refine bM (Ff I hg hm ?_ hdb);refine cB (h₀:=X.base) I.ok.mod.kin M.kp (Bv (ha cpos pins s σ H _ I h) λus s1 ⟨vs,H1,I1,r,y,ev,q⟩=>⟨I1.kIn,?_⟩) he rfl;subst ev;have hl2:us.length<=sizeLine:=by rw[<-r.length,aZ];show 1<=_;decide
 have h1:=I1.hok.fresh (dI s1.heap.objs.size);refine Bv (VS (Q:=λv H2=>v=.ref (s1.heap.objs.size+1)/\∃dx,H2 (s1.heap.objs.size+1)=some (Hk (s1.heap.objs.size+1) C (some dx))/\E (.ref C) (some dx) (del H2 (s1.heap.objs.size+1))) M F hr hb RN hl2 I1 r ⟨_,y,rfl,Ac,λdx hd=>⟨rfl,rfl,dx,?_,?_⟩⟩) λv s2 z=>?_
 ·have nd:s1.heap.objs.size+1≠dx:=λz=>by rw[<-z,Ac] at hd;cases hd
  rw[An nd,Ac]
 ·have nd:dx≠s1.heap.objs.size+1:=λz=>by rw[z,Ac] at hd;cases hd
  rw[An nd] at hd;have eq:del (upd (upd (upd H1 (s1.heap.objs.size+1) (Hk (s1.heap.objs.size+1) C none)) (s1.heap.objs.size+1) (Hk (s1.heap.objs.size+1) C (some dx))) dx (.xd [(f,y)])) (s1.heap.objs.size+1)=upd H1 dx (.xd [(f,y)]):=by
   funext b
   by_cases e1:b=s1.heap.objs.size+1
   ·rw[e1,Qe,An (Ne.symm nd)];exact h1.symm
   ·rw[Ro e1]
    by_cases e2:b=dx
    ·rw[e2,Ac,Ac]
    ·rw[An e2,An e1,An e1,An e2]
  rw[eq];exact q dx hd
 ·obtain⟨v',H2,I2,rv,ev,dx,h2,q2⟩:=z;subst ev;obtain rfl:v=.ref (s1.heap.objs.size+1):=rv;obtain⟨⟨t2,ob⟩,_,_⟩:Be X.prog X.w H2 s2.heap (s1.heap.objs.size+1) (Hk (s1.heap.objs.size+1) C (some dx)):=I2.hok _ _ h2;refine af (cQ (ar ⟨_,C,t2,some dx,rfl,I2.kIn,M.ex,ob,R pins σ H2 s2 _ C _ I2 h2 ?_ q2⟩));obtain⟨m,⟨oL,_,_,hoL,_⟩,_⟩:=id I1.loc;exact d4 (Nat.lt_of_le_of_lt I1.ok.above (cb (aA hoL)))
def BW (P:Program)(w:World)(K:PySem.W.Frag)(mg:Str->Option Value)(base:Heap)(k:Nat)(x:Str)(ps:List Str)(sp:Sp):Prop:=
 ∃(f:Addr) (fd:FuncData),FnOk P w K mg base (Gk P w) k f fd ps sp/\mg x=some (.ref f)/\PySem.W.keepIn K (.ref f)=true/\Binds K fd ps []
theorem Fun.okE {P:Program} {w:World} {K:PySem.W.Frag} {mg:Str->Option Value} {base:Heap} {x qual:Str} {st:Stmt} {f:Addr} {fd:FuncData} {N ps:List Str} {k:Nat} {sp:Sp} (F:Fun K x qual st f fd) (S:FnScope N ps (Ad st)) (len:∀vs H Q E,sp vs H Q E->vs.length=ps.length)
  (hbody:∀(cdv:Value) (A:Around) (outer:List Env) (s:Shared) (H:Hp) (vs:List V) (Q:VK) (E:XK),Room k (A.deeper (envOfC qual (Ad st) s.heap.objs.size f cdv))->sp vs H Q E->
   ∃t,On (AZ (Gk P w) P w K mg base N qual (Ad st) f cdv A outer s H E) (Al st) t/\t { nx:=λ_ H'=>Q .non H',rt:=Q } (start N vs) H):FnOk P w K mg base (Gk P w) (k+1) f fd ps sp:=by
 obtain⟨oc,od,kV,doc,pm,an,cdv,ct,osl,rfl,lk,hcd⟩:=F.ex;exact Uo lk hcd S len λA outer s H vs Q E hr hsp=>hbody cdv A outer s H vs Q E hr hsp
end
section
open PySem PySem.Spec PyProof.Rows
variable {X:Cx}{k:Nat}{x:Str}{ps:List Str}{sp:Sp}{E:XK}{e:Expr}{es:List Expr}{t:TA}{p pos:Pos}
theorem Bq (D:BW X.prog X.w X.K X.mg X.base k x ps sp) (hr:Room k X.A) (hg:Gl X x) (hx:FL (Gk X.prog X.w) X E) (ha:PA X (e::es) t)
  (hdb:(x == ("__debug__":Str))=false:=by decide) (he:starEach (e::es) X.env=(false,eval e X.env)::starEach es X.env:=by rfl) (hpl:(backTo pos (starEach es X.env)).any (·.1)=false:=by rfl) :
  PE X (.Call (.Name x p) (e::es) [] pos) (Sh sp [] E t):=by
 obtain⟨f,fd,F,hm,hk,hb⟩:=D;exact R8 F hr hg hm hk hb .nil hx ha hdb he hpl
abbrev XG:=Value->Option Addr->St->Hp->Prop
abbrev Wm:=Ends->XG->St->Hp->Prop
def Xp (X:Cx)(pins:List (Addr×Obj))(Ex:XG)(e:Value)(s':Shared):Prop:=
 ∃(ea:Addr) (cls:Value) (σ':St) (H1 H':Hp) (s1:Shared) (B:Heap) (a0:Value) (d:Option Addr),e=.ref ea/\Inv X pins σ' H1 s1/\Fly X.prog X.w X.stack H1 s1 ea cls H' B a0 s'/\DictAt s'.heap ea d/\Ex cls d σ' H'
def YA (X:Cx)(st:Stmt)(t:Wm):Prop:=
 ∀(pins:List (Addr×Obj)) (s:Shared) (σ:St) (H:Hp) (D:Ends) (Ex:XG),Inv X pins σ H s->t D Ex σ H->wpAny (model X.prog X.w) X.A (exec st X.env) (SP X pins D) (Xp X pins Ex) s
def WS (X:Cx)(st:List Stmt)(t:Wm):Prop:=
 ∀(pins:List (Addr×Obj)) (s:Shared) (σ:St) (H:Hp) (D:Ends) (Ex:XG),Inv X pins σ H s->t D Ex σ H->wpAny (model X.prog X.w) X.A (execs st X.env) (SP X pins D) (Xp X pins Ex) s
def SJ (X:Cx)(e:Expr)(t:(Value->Option Addr->Hp->Prop)->TE):Prop:=
 ∀(pins:List (Addr×Obj)) (s:Shared) (σ:St) (H:Hp) (Q:VK) (Ex:Value->Option Addr->Hp->Prop),Inv X pins σ H s->t Ex σ H Q->wpAny (model X.prog X.w) X.A (eval e X.env) (EP X pins σ Q) (Xp X pins λcls d σ' H'=>σ'=σ/\Ex cls d H') s
theorem Tu {pins:List (Addr×Obj)}{σ:St}{Ex:XG}{v:Value}{s:Shared}(h:Xp X pins (λcls d σ' H'=>σ'=σ/\Ex cls d σ H') v s):Xp X pins Ex v s:=by
 obtain⟨ea,cls,σ',H1,H',s1,B,a0,d,h1,h2,h3,h4,h5,h6⟩:=h;subst h5;exact⟨ea,cls,_,H1,H',s1,B,a0,d,h1,h2,h3,h4,h6⟩
def Yf (i:Nat)(te:(Value->Option Addr->Hp->Prop)->TE):Wm:=λD Ex σ H=>te (λcls d H'=>Ex cls d σ H') σ H λx H1=>D.nx (σ.set i (some x)) H1
theorem VO {i:Nat} {y:Str} {te:(Value->Option Addr->Hp->Prop)->TE} {pos':Pos} (hN:X.N.Nodup) (hi:X.N[i]?=some y) (hy:Loc X.env.scope y) (he:SJ X e te) (hs:swapsWith e (some (.Name y pos')) pos.line X.env=pure false:=by rfl)
  (hf:X.fn y=true\/X.env.scope.names.lookup y=some .local:=by first|exact .inl rfl|exact .inr rfl|assumption):YA X (.Assign [.Name y pos'] e pos) (Yf i te):=by
 intro pins s σ H D Ex I h;refine wpAny_Assign_Name (aR (he pins s σ H _ _ I h) (λv s1 ⟨y,H1,I1,r1,q1⟩=>?_) λ_ _ z=>Tu z) hs;exact HM I1 hN hi hy r1 (λs2 I2=>⟨_,H1,I2,q1⟩) hf
def WM (te:(Value->Option Addr->Hp->Prop)->TE):Wm:=λD Ex σ H=>te (λcls d H'=>Ex cls d σ H') σ H λ_ H1=>D.nx σ H1
theorem UT {te:(Value->Option Addr->Hp->Prop)->TE}(he:SJ X e te)(hs:swapsWith e none pos.line X.env=pure false:=by rfl):YA X (.Expr e pos) (WM te):=by
 intro pins s σ H D Ex I h;exact wpAny_Expr_any (aR (he pins s σ H _ _ I h) (λv s1 ⟨x,H1,I1,r1,q1⟩=>⟨σ,H1,I1,q1⟩) λ_ _ z=>Tu z) I.quiet hs
theorem Qp {st:Stmt}{u:Wm}(h1:YA X st u):WS X [st] u:=by
 intro pins s σ H D Ex I h;refine e7 (Bv (h1 pins s σ H D Ex I h) λf s1 q=>?_);cases f with
 |next=>exact dW q
 |ret v=>exact q
 |brk=>exact q
 |cont=>exact q
theorem V2 (D:BW X.prog X.w X.K X.mg X.base k x ps sp) (hr:Room k X.A) (hg:Gl X x) (ha:PA X.nox (e::es) t)
  (hdb:(x == ("__debug__":Str))=false:=by decide) (he:starEach (e::es) X.env=(false,eval e X.env)::starEach es X.env:=by rfl) (hpl:(backTo pos (starEach es X.env)).any (·.1)=false:=by rfl) :
  SJ X (.Call (.Name x p) (e::es) [] pos) (λEx=>Sh sp [] (λcls d H'=>Ex cls d H') t):=by
 obtain⟨f,fd,F,hm,hk,hb⟩:=D;intro pins s σ H Q Ex I h;refine bM (Ff I hg hm ?_ hdb);refine cB (h₀:=X.base) I.ok.mod.kin hk (aR (ha pos pins s σ H _ (I.wish _) h) (λus s1 ⟨vs,H1,I1,r,q⟩=>⟨I1.kIn,?_⟩) λ_ _ z=>False.elim z) he hpl;have J:=I1.unwish;have q':sp vs H1 Q λcls d H'=>Ex cls d H':=by rw[<-bz vs];exact q
 have hl:us.length=ps.length:=by rw[<-r.length];exact F.len _ _ _ _ q'
 have hb':=hb s1 us J.kIn (by rw[bz];exact hl);rw[bz] at hb';refine cg (cA (F.run X.A X.stack s1 H1 ⟨us,[]⟩ us vs Q _ hr J.env0 hb' r q') λr s' z=>?_)
 match r,z with
 | .error e,⟨ea,cls,H',B,a0,d,he,Fl,dj,q⟩=>exact⟨ea,cls,σ,H1,H',s1,B,a0,d,he,J,Fl,dj,rfl,q⟩
 | .ok (.ret u),z=>exact J.after z
end
section
open PySem PySem.Spec PyProof.Rows
variable {X:Cx}{pins:List (Addr×Obj)}{σ:St}{H:Hp}{s:Shared}
variable {x n:Str}{c:Value}{body orelse suite:List Stmt}{b₀:Stmt}{np hpos pos:Pos}{i:Nat}
def VU (K:PySem.W.Frag)(c:Value)(i:Nat)(tb:Wm)(te:TS)(ts:Addr->TS):TS:=λD σ H=>tb { D with nx:=te D } (λcls d σ' H'=>PySem.W.exmOne K cls c=some true/\∃C:Addr,cls=.ref C/\∀ea,H' ea=none->
 ts ea { nx:=λσ H=>D.nx (σ.set i none) H,rt:=D.rt,bk:=λσ H=>D.bk (σ.set i none) H,ct:=λσ H=>D.ct (σ.set i none) H } (σ'.set i (some (.ref ea))) (upd H' ea (LU ea C d))) σ H
theorem SD {tb:Wm} {te:TS} {ts:Addr->TS} (hst:X.stack=X.env::X.outer/\X.env.frame=some X.env.locals) (hm:X.mg x=some c) (hg:Gl X x) (hN:X.N.Nodup) (hi:X.N[i]?=some n) (hk:X.env.scope.names.lookup n=some .local) (hb:WS X body tb) (he:On X orelse te) (hs:∀ea:Addr,On (X.held (.ref ea)) (b₀::suite) (ts ea))
  (hd:(x == ("__debug__":Str))=false:=by decide):PS X (.Try body [.ExceptHandler (some (.Name x np)) (some n) (b₀::suite) hpos] orelse [] pos) (VU X.K c i tb te ts):=by
 intro pins s σ H D I h;refine wpAny_Try_except (aR (hb pins s σ H _ _ I h) (λf s1 q=>?_) λe s1 q=>?_)
 ·cases f with
  |next=>
   obtain⟨σ',H',I',q⟩:=q;exact he pins s1 σ' H' D I' q
  |ret v=>exact q
  |brk=>exact q
  |cont=>exact q
 ·obtain⟨ea,cls,σ',H1,H',s2,B,a0,d,rfl,I2,F,dj,hx,C,hC,q⟩:=q;subst hC;have hfr:=I.ok.frames;have fl:=F.fl;rw[hst.1] at hfr fl;refine(Jx _ _).also dj (wpAny_looks_onW hfr hst.2 fl λh4 held4 up4 dj4=>?_);refine(GQ _ _).also dj4 (wpAny_landsW held4 λh5 fl5 up5 dj5=>?_);have J5:=I2.landed F fl5.1 (up4.trans up5);refine ed (dY (Ff (J5.held (.ref ea)) hg hm ?_ hd)) (by intro z;cases z);obtain⟨ob,hob,hcls⟩:=fl5.there;have LT:PySem.W.Looks (model X.prog X.w) h5 (typeOf (.ref ea)) (.ref C):=by
   rw[<-hcls];exact(PySem.W.Looks.ld hob).andThen .now
  refine(eK J5.kIn LT hx).here ?_;refine codeAny_handlers_suite_as ((GQ _ _).also dj5 (lands_againW fl5 λh6 fl6 up6 dj6=>?_));have J6:=I2.landed F fl6.1 ((up4.trans up5).trans up6);have J7:=I2.knowD F J6 fl6.2.2.2 dj6;refine HM (v:=.ref ea) J7 hN hi (.inl hk) rfl (λs8 I8=>?_) (.inr hk);refine aR (hs ea pins s8 _ _ _ (I8.held (.ref ea)) (q ea F.free)) (λf s9 z=>?_) λ_ _ z=>False.elim z
  have z':=z.unheld J7;cases f with
  |next=>
   obtain⟨σ9,H9,I9,q9⟩:=z';exact LH I9 hN hi hk λs10 I10=>⟨_,_,I10,q9⟩
  |brk=>
   obtain⟨σ9,H9,I9,q9⟩:=z';exact LH I9 hN hi hk λs10 I10=>⟨_,_,I10,q9⟩
  |cont=>
   obtain⟨σ9,H9,I9,q9⟩:=z';exact LH I9 hN hi hk λs10 I10=>⟨_,_,I10,q9⟩
  |ret u=>
   obtain⟨v,σ9,H9,I9,r9,q9⟩:=z';exact LH I9 hN hi hk λs10 I10=>⟨v,_,_,I10,r9,q9⟩
end
section
open PySem PySem.Calls PyProof.Rows PySem.W Builtin Builtin.ObjectAttr Builtin.Getset_descriptor
variable {prog:Program}{w:World}{A:Around}{E:Value->Shared->Prop}{K:Frag}{e D:Addr}{oe od:Obj}{name:Str}{v:Value}{s:Shared}
theorem Sx {tk:Tok}{Q:Fin->Shared->Prop}(k:K.In s.heap)(I:InstAt s.heap e oe D (some od))(hf:findObj K D (some od) name=some (.value v))(q:Q (.done (.ret v)) s) :
  wpAny (model prog w) A (Builtin.«object.__getattribute__» ⟨[.ref e,.str name tk],[]⟩) Q E s:=by
 have T0:=I.type (M:=model prog w);have T1:=looks_find (M:=model prog w) k I hf;have s0:slotArgs "__getattribute__" 1 ⟨[.ref e,.str name tk],[]⟩=pure (Value.ref e,[Value.str name tk]):=by kernel_rfl
 have s1:attrName (.str name tk)=pure name:=by kernel_rfl
 simp only[Builtin.«object.__getattribute__»,s0];refine af (ar ?_);dsimp only;rw[s1];refine af (ar (af (T0.here (af (T1.here ?_)))));exact ar q
theorem Vh {expr:Bool}{Q:Value->Shared->Prop}(k:K.In s.heap)(I:InstAt s.heap e oe D (some od))(z:IsExc s.heap e D)(c:ExcCls K D)(hf:findObj K D (some od) name=some (.value v))(hh:handedIn v=true)(q:Q v { s with toks:=s.toks+1 }) :
  wpAny (model prog w) A (getAttr (.ref e) name expr) Q E s:=by
 obtain⟨h1,g1,d1,t1,o1⟩:=s;have T0:=I.type (M:=model prog w);have T1:=dw (M:=model prog w) k c.ga;have T2:=dw (M:=model prog w) k c.gg;have B:=F.excAttr_ValueError.ga.bind (.ref e);unfold getAttr getAttrBy;refine af (wpAny_mkText (bh (af (T0.at (af (T1.at ?_))))));have n0:(onTheHeap (Value.ref D)&&Value.builtin "BaseException.__getattribute__" == Value.builtin "object.__getattribute__")=false:=by
  have:(Value.builtin "BaseException.__getattribute__" == Value.builtin "object.__getattribute__")=false:=by decide +kernel
  rw[this];rfl
 dsimp only;rw[aj (by rw[n0];decide)];unfold getAttrByItsOwn hookBefore;rw[aw (by rfl)];refine af (T2.at (af (eD (bh ?_))));unfold callGetattribute boundAndCalled;rw[aj (by cases expr<;>decide),B];refine af (ar ?_);dsimp only;refine cg (cq F.excAttr_ValueError.ga.plain F.entry_bexc_ga ?_);refine NG (s:=⟨h1,g1,d1,t1+1,o1⟩) k z c.mb (Sx (s:=⟨h1,g1,d1,t1+1,o1⟩) k I hf ?_);dsimp only;exact handed_on hh q
end
section
open PySem PySem.Spec PyProof.Rows
variable {X:Cx}{pins:List (Addr×Obj)}{σ:St}{H:Hp}{s:Shared}
def XJ (K:PySem.W.Frag)(ta:TE)(f:Str):TE:=λσ H Q=>ta σ H λx H1=>∃e D dx fs v,x=.ref e/\H1 e=some (LU e D (some dx))/\ExiCls K D/\PySem.W.findIn K (.ref D) f=some none/\H1 dx=some (.xd fs)/\fs.lookup f=some v/\Q v H1
theorem Vd {K:PySem.W.Frag}(hK:X.K=K){o:Expr}{f:Str}{pos:Pos}{ta:TE}(he:PE X o ta)(hb:attributeBase o f X.env (eval o X.env)=eval o X.env):PE X (.Attribute o f pos) (XJ K ta f):=by
 subst hK;intro pins s σ H Q I h;refine Se hb (Bv (he pins s σ H _ I h) λu s1 z9=>?_);obtain⟨x,H1,I1,rx,e,D,dx,fs,v,ex,ee,c,n,hd,l,q⟩:=z9;subst ex;obtain rfl:u=Value.ref e:=rx;obtain⟨⟨z,oe,q1,hde,_⟩,_,_⟩:Be X.prog X.w H1 s1.heap e (LU e D (some dx)):=I1.hok e _ ee;obtain⟨mA,ns,r⟩:Be X.prog X.w H1 s1.heap dx (.xd fs):=I1.hok dx _ hd;obtain⟨od,ho,hl⟩:=NF ns;obtain⟨u,hu,ru⟩:=Ho.some_of (v:=v) (o:=mA f) (by rw[<-l];exact r f);obtain⟨oe2,q2,hc,vs,hv⟩:=id z.ob;rw[q1] at q2;cases q2;have inst:PySem.W.InstAt s1.heap e oe D (some od):=⟨q1,hc,by unfold PySem.W.notCls;rw[hv],by rw[hde];exact ho⟩
 exact Vh I1.kIn inst z c.toExcCls (fN c.hd n rfl (by rw[hl,hu])) (N3 ru) ⟨v,H1,I1.tok _,ru,q⟩
end
end L2
namespace L2
open PySem PySem.Calls PySem.Spec PyProof.Rows PySem.Builtin.Str
section
variable {prog:Program}{w:World}{A:Around}{E:Value->Shared->Prop}{s:Shared}{x y:Str}{t u:Tok}{Q:Value->Shared->Prop}
theorem Sy (hz:x.length+2<=sizeLine):(PySem.Txt.split x y).length<=sizeLine:=by
 have:=StrLaws.occ_length_le x y 0 x.length (x.length+1);unfold PySem.Txt.split
 split
 ·show 1<=sizeLine;decide
 ·split
  ·show 1<=sizeLine;decide
  ·rw[length_partsBetween];omega
theorem SZ (hy:(y.length == 0)=false) (hz:x.length+2<=sizeLine)
  (h:∀(l:List (Str×Tok)) (k:Nat),l.map (·.1)=PySem.Txt.split x y->Q (.ref s.heap.objs.size) { s with heap:=s.heap.push { cls:=.type "list",data:=.seq (strValues l).toArray },toks:=k }) :
  wpAny (model prog w) A (call (.builtin "str.split") [.str x t,.str y u]) Q E s:=by
 have go:∀{S:PySem.Spec},Meets (Builtin.«str.split» ⟨[.str x t,.str y u],[]⟩) S->S A (wants Q E) s->wpAny (model prog w) A (call (.builtin "str.split") [.str x t,.str y u]) Q E s:=
  λg z=>dO F.slot_str_split (eG _ _ _) F.entry_str_split (F.args_str_split_2 _ _) g z
 by_cases c1:(decide (x.length<y.length)||decide (strKind x<strKind y))=true
 ·exact go (meets_str_split_cannot_occur x y t u c1) (h [(x,t)] s.toks (by unfold PySem.Txt.split;rw[aw c1];rfl))
 have c1':=bq.mpr c1
 by_cases c2:(occurrences x y 0 x.length (x.length+1)).isEmpty=true
 ·exact go (meets_str_split_not_found x y t u c1' hy c2) (h [(x,t)] s.toks (by unfold PySem.Txt.split;rw[aj c1,aw c2];rfl))
 have few:(partsBetween x (occurrences x y 0 x.length (x.length+1)) y.length).length<=sizeLine:=by
  have:=StrLaws.occ_length_le x y 0 x.length (x.length+1);rw[length_partsBetween];omega
 refine go (meets_str_split_sep x y t u c1' hy (bq.mpr c2) (by omega) few) ?_;have z:=h (numbered s.toks (partsBetween x (occurrences x y 0 x.length (x.length+1)) y.length)) (s.toks+(partsBetween x (occurrences x y 0 x.length (x.length+1)) y.length).length) (by unfold PySem.Txt.split;rw[aj c1,aj c2];exact numbered_texts _ _);rw[<-strsFrom_eq] at z;exact z
end
section
variable {X:Cx}
def Wu:V->List V->Hp->VK->Prop:=λx vs H Q=>∃z y,x=.str z/\vs=[.str y]/\(y.length == 0)=false/\z.length+2<=16777216/\∀p,H p=none->Q (.ref p) (upd H p (.lst ((PySem.Txt.split z y).map V.str)))
theorem N5:∀(l:List (Str×Tok)),AW ((l.map (·.1)).map V.str) (strValues l)
 |[]=>.nil
 |(z,t)::l=>.cons ⟨t,rfl⟩ (N5 l)
theorem TK:VX X "str.split" Wu:=by
 intro pins s σ H x vs v us Q I rx rv h;obtain⟨z,y,rfl,rfl,hy,hz,q⟩:=h;obtain⟨tk,rfl⟩:=rx;obtain⟨y',rfl,ry⟩:=rv.one;obtain⟨tk2,rfl⟩:=ry;refine SZ hy (by rw[aZ];exact hz) λl k e=>?_
 refine⟨.ref s.heap.objs.size,_,I.laid (λb o e=>ah _ e) (aq _) (show Be X.prog X.w _ _ _ (.lst ((PySem.Txt.split z y).map V.str)) from⟨?_,strValues l,0,?_,ay _ rfl⟩),rfl,q _ I.fresh⟩
 ·rw[ae];exact Sy (by rw[aZ];exact hz)
 ·rw[<-e];exact N5 l
end
end L2
namespace L2
open PySem PySem.Spec PyProof.Rows
end L2
namespace L2
end L2
namespace L2
section
open PySem PySem.Calls PyProof.Rows
variable {prog:Program}{w:World}{A:Around}{E:Value->Shared->Prop}{s:Shared}
def R4 (Q:Value->Shared->Prop)(vs:List Value)(s1:Shared):Prop:=∃ss,StrsAre vs ss/\vs.length<64/\
 ∀h' p (out:List Value) ss' c,StrsAre out ss'->ss'.Perm ss->sortedS ss'=true->s1.heap.objs.size<=p->(∀b o,s1.heap.get? b=some o->h'.get? b=some o)->
  h'.get? p=some (seqObj "list" out.toArray c)->Q (.ref p) { s1 with heap:=h' }
theorem IF {x:Value}{Q:Value->Shared->Prop}(hc:wpAny (model prog w) A.in1 (collect x) (R4 Q) E s):wpAny (model prog w) A (call (.builtin "sorted") [x]) Q E s:=by
 refine fP kind_sorted plain_sorted entry_sorted (args_sorted1 x) ?_;unfold Builtin.«sorted»;refine af (m:=checkCount "sorted" 1 1 _) (ar (af (aR hc (λvs s1 z=>?_) λ_ _ e=>e)));obtain⟨ss,hS,few,q⟩:=z;refine af (dF ?_);have there:(s1.heap.push (seqObj "list" vs.toArray 0)).get? s1.heap.objs.size=some (seqObj "list" vs.toArray 0):=ay _ rfl;refine af (bh (e8 slot_list_sort ⟨_,there,rfl⟩ entry_list_sort (list_sort_treeK strKind_oneLt there hS.keysOf (λv₁ v₂ rest e=>keyKind_strs (by rw[<-e];exact hS)) few λst' pm so=>⟨_,rfl,?_⟩) (args_list_sort _)));obtain⟨ss',y1,y2,y3⟩:=sorted_out_str hS pm so;obtain⟨c,hp⟩:=sortedHeap_at (out:=(arrOf st').map (·.2)) there;refine ar ⟨_,rfl,q _ _ ((arrOf st').map (·.2)).toList ss' c y1 y2 y3 (aq _) (λb o e=>?_) (by rw[Array.toArray_toList];exact hp)⟩;have lt:=aA e;show Heap.get? _ b=some o;rw[sortedHeap_old (aO lt) (by rw[bF];exact cb lt)];exact ah _ e
def WO (S:Addr)(Q:List Value->Shared->Prop)(r:Result)(s':Shared):Prop:=∃acc c,r=.ok (.ret (.ref S))/\s'.heap.get? S=some { cls:=.type "list",dict:=none,data:=.seq acc c,slots:=#[] }/\Q acc.toList s'
theorem PH {x:Value} {Q:List Value->Shared->Prop} (h:wpAny (model prog w) A.in1 (Builtin.List.listExtendWith (.ref s.heap.objs.size) x (.ref s.heap.objs.size))
   (λfin s'=>match fin with | .done f=>WO s.heap.objs.size Q (.ok f) s' | .again c'=>c'.quiet=true/\codeAny (model prog w) A c' (WO s.heap.objs.size Q) s') (λe s'=>WO s.heap.objs.size Q (.error e) s')
   { s with heap:=s.heap.push { cls:=.type "list",data:=.seq #[] } }):wpAny (model prog w) A (collect x) Q E s:=by
 unfold collect;refine af (wpAny_runValue (cV PySem.F.entry_proto_collect ?_));rw[cT PySem.F.plain_proto_collect _];refine af (cp (ar ⟨fR fk _,cV PySem.F.entry_list_iadd ?_⟩));rw[cT fk _];refine aR h (λfin s' z=>?_) (λe s' z=>?_)
 ·cases fin with
  |done f=>
   obtain⟨acc,c,e,hS,q⟩:=z;cases e;exact af (fE hS (ar q))
  |again c'=>
   refine⟨z.1,cA z.2 λr s2 z2=>?_⟩;obtain⟨acc,c,rfl,hS,q⟩:=z2;exact af (fE hS (ar q))
 ·obtain⟨acc,c,e,_⟩:=z;cases e
theorem Pp {T:String} {r d:Addr} {n:Nat} {P:Nat->Value->Prop} {OK:Heap->Prop} {Q:List Value->Shared->Prop} (S:PySem.W.KdlSrc prog w T r d n P OK) (hh:A.handled=none) (ok:OK s.heap) (hn:n<=sizeLine)
  (q:∀h' tk (vs:List Value),(∀b o,s.heap.get? b=some o->h'.get? b=some o)->vs.length=n->(∀j v,vs[j]?=some v->P j v)->Q vs { s with heap:=h',toks:=tk }):wpAny (model prog w) A (collect (.ref r)) Q E s:=by
 obtain⟨lr,ld⟩:=S.there _ ok;refine PH (PySem.W.kdl_extend S hh (S.keep _ _ ok λb _ o e=>ah _ e) s.heap.objs.size (cn lr) (cn ld) (.ref s.heap.objs.size) 0 (ay _ rfl) (λh' tk acc c k hS it=>?_) hn);refine⟨acc,c,rfl,hS,q h' tk acc.toList (λb o e=>k b o (aO (aA e)) (ah _ e)) (by rw[dU];exact it.1) λj v e=>it.2 j v (by rw[<-fA];exact e)⟩
end
end L2
namespace L2
end L2
namespace L2
end L2
namespace L2
end L2
namespace L2
section
open PySem PySem.Calls PyProof.Rows
variable {X:Cx}{pins:List (Addr×Obj)}{σ:St}{H:Hp}{s:Shared}
theorem Inv.drew {d':Drawn}(I:Inv X pins σ H s):Inv X pins σ H { s with drawn:=d' }:=⟨I.ok,I.os,I.bare,I.base,I.loc,I.cell,I.free,I.freeC,I.pin,I.hok,I.len⟩
theorem JM:∀{ss:List Str} {its:List Value},AW (ss.map V.str) its->StrsAre its ss
 |[],_,.nil=>.nil
 |x::r,_,.cons h t=>by
  obtain⟨k,rfl⟩:=h;exact .cons x k (JM t)
theorem J0:∀{ss:List Str} {its:List Value},StrsAre its ss->AW (ss.map V.str) its
 |_,_,.nil=>.nil
 |_,_,.cons x t h=>.cons ⟨t,rfl⟩ (J0 h)
theorem RF:∀{us:List Value} {ss:List Str},us.length=ss.length->(∀(j:Nat) (v:Value),us[j]?=some v->∃k t,v=.str k t/\ss[j]?=some k)->StrsAre us ss
 |[],[],_,_=>.nil
 |[],_::_,h,_=>nomatch h
 |_::_,[],h,_=>nomatch h
 |u::us,k::ss,h,f=>by
  obtain⟨k',t,rfl,e⟩:=f 0 u rfl;cases e;exact .cons _ t (RF (dB h) λj v e=>f (j+1) v e)
theorem RY:∀{kvs:List (Key×V)} {vs:List (Key×Value)},KV kvs vs->vs.map (·.1)=kvs.map (·.1)
 |_,_,.nil=>rfl
 |_,_,.cons h t=>by rw[aD,aD,RY t,h.1]
def Re (H:Hp)(ks:List Str)(Q:VK):Prop:=∀ts p,ts.Perm ks->sortedS ts=true->H p=none->Q (.ref p) (upd H p (.lst (ts.map V.str)))
theorem Qh {Q:VK}{ks:List Str}{d':Drawn}{tk:Nat}{h1:Heap}{vs:List Value}{ss:List Str}(I:Inv X pins σ H s)(k:∀b o,s.heap.get? b=some o->h1.get? b=some o)(hs:StrsAre vs ss)(pm:ss.Perm ks)(few:ks.length<64)(q:Re H ks Q) :
  R4 (EP X pins σ Q) vs { s with heap:=h1,drawn:=d',toks:=tk }:=by
 have I1:Inv X pins σ H { s with heap:=h1,drawn:=d',toks:=tk }:=(I.drew (d':=d')).kept (t':=tk) k;refine⟨ss,hs,by rw[hs.length,pm.length_eq];exact few,λh' p out ss' c ho pe so lp k' e=>⟨.ref p,_,I1.laid (t':=tk) k' lp (?_:Be X.prog X.w _ h' p (.lst (ss'.map V.str))),rfl,q ss' p (pe.trans pm) so (I1.hok.fresh lp)⟩⟩;refine⟨?_,out,c,J0 ho,e⟩;rw[ae,pe.length_eq,pm.length_eq,aZ];omega
def Xk (K:PySem.W.Frag):List V->Hp->VK->Prop:=λxs H Q=>∃(a:Addr) (ss:List Str),xs=[.ref a]/\AR K H a (ss.map V.str)/\ss.length<64/\Re H ss Q
theorem MA {K:PySem.W.Frag}(hK:X.K=K):FO X (.builtin "sorted") (Xk K):=by
 subst hK;intro pins s σ H xs us Q I r h;obtain⟨a,ss,rfl,h1,few,q⟩:=h;obtain⟨u,rfl,ru⟩:=vals1 r;cases ru;obtain⟨its,r1,p1,_⟩:=I.list h1;have hs:=JM r1;refine IF (collect_list p1.isList ?_ (by rw[hs.length,aZ];omega));exact Qh (d':=s.drawn) (tk:=s.toks) I (λb o e=>(aY _ _ (cn (aA e))).trans (ah _ e)) hs (List.Perm.refl _) few q
def WA:List V->Hp->VK->Prop:=λxs H Q=>∃(d:Addr) (kvs:List (Key×V)) (ss:List Str),xs=[.ref d]/\H d=some (.dK kvs)/\kvs.map (·.1)=ss.map .inr/\ss.length<64/\Re H ss Q
theorem Rl (hc:X.calm=true):FO X (.builtin "sorted") WA:=by
 intro pins s σ H xs us Q I r h;obtain⟨d,kvs,ss,rfl,h1,hk,few,q⟩:=h;obtain⟨u,rfl,ru⟩:=vals1 r;cases ru;obtain⟨_,lo,vs,rv,o,es,ep,ho,h2,h3,h4⟩:Be X.prog X.w H s.heap d (.dK kvs):=I.hok d _ h1;have D:s.heap.DictAt (Bk X.prog X.w) d vs ep:=⟨o,es,ho,h2,h3,h4⟩
 have ln:vs.length=ss.length:=by
  have:=congrArg List.length hk;rw[ae,ae] at this;rw[<-this];exact rv.length.symm
 refine IF (Pp (PySem.W.kdl_dict (knd:=Bk X.prog X.w) (kvs:=vs) (ep:=ep) lo) (by simpa using I.ok.hd hc) D (by rw[ln,aZ];omega) λh' tk us k lu it=>?_);have hs:StrsAre us ss:=by
  refine RF (by rw[lu,ln]) λj v e=>?_
  obtain⟨ky,x,e1,e2⟩:=it j v e;have e3:(kvs.map (·.1))[j]?=some ky:=by rw[<-RY rv,aJ,e1];rfl
  rw[hk,aJ] at e3;cases z:ss[j]? with
  |none=>rw[z] at e3;cases e3
  |some y=>
   rw[z] at e3;injection e3 with e3
   subst e3;obtain⟨t,rfl⟩:=Pq e2;exact⟨_,t,rfl,rfl⟩
 exact Qh (d':=s.drawn) I k hs (List.Perm.refl _) few q
end
end L2
namespace L2
open PySem
end L2
namespace L2
open PySem PySem.Spec PyProof.Rows
def V7 (X:Cx)(es:List Expr)(t:(Value->Option Addr->Hp->Prop)->TA):Prop:=
 ∀(pos:Pos) (pins:List (Addr×Obj)) (s:Shared) (σ:St) (H:Hp) (Q:List V->Hp->Prop) (Ex:Value->Option Addr->Hp->Prop),Inv X pins σ H s->t Ex σ H Q->wpAny (model X.prog X.w) X.A (spliced (backTo pos (starEach es X.env))) (AP X pins σ Q) (Xp X pins λcls d σ' H'=>σ'=σ/\Ex cls d H') s
section
variable {X:Cx}{e:Expr}{es:List Expr}{pos:Pos}
theorem UL:V7 X [] (λ_=>Ug):=λ_ _ _ _ H Q _ I h=>eT ⟨[],H,I,.nil,h⟩
theorem NV {te:(Value->Option Addr->Hp->Prop)->TE}{t:(Value->Option Addr->Hp->Prop)->TA}(ha:SJ X e te)(hr:V7 X es t)(hs:starEach (e::es) X.env=(false,eval e X.env)::starEach es X.env:=by rfl):V7 X (e::es) (λEx=>UQ (te Ex) (t Ex)):=by
 intro pos pins s σ H Q Ex I h;rw[hs]
 change wpAny _ _ (spliced ((false,eval e X.env)::backTo pos (starEach es X.env))) _ _ s
 refine eN (Bv (ha pins s σ H _ Ex I h) λu s1 ⟨x,H1,I1,r1,q1⟩=>?_);exact Bv (hr pos pins s1 σ H1 _ Ex I1 q1) λus s2 ⟨xs,H2,I2,r2,q2⟩=>⟨x::xs,H2,I2,.cons r1 r2,q2⟩
theorem TU {x1}{t:(Value->Option Addr->Hp->Prop)->TA}(h:V7 X es t):SJ X (.Tuple es x1 pos) (λEx=>Uk (t Ex)):=by
 intro pins s σ H Q Ex I hq;refine wpAny_Tuple_spliced (Bv (h pos pins s σ H _ Ex I hq) λus s1 ⟨xs,H1,I1,r,z,q⟩=>⟨by rw[<-r.length];exact z,?_⟩);have hf:H1 s1.heap.objs.size=none:=I1.hok.fresh (aq _);refine⟨.ref s1.heap.objs.size,_,I1.laid (t':=s1.toks) (o:=.tup xs) (λb u e=>ah _ e) (aq _) ?_,rfl,q _ hf⟩;exact⟨z,us,r,⟨_,ay _ rfl,rfl,_,rfl,λ_=>rfl⟩⟩
end
end L2
namespace L2
end L2
namespace L2
end L2
namespace L2
section
open PySem PySem.Calls PyProof.Rows
variable {prog:Program}{w:World}{A:Around}{E:Value->Shared->Prop}{I S:Addr}{fp wr:List Addr}{n:Nat}{P:Nat->Value->Prop}{St:Nat->Heap->Prop}{bt:Nat->Nat->Bool}{d:Value}{R:Result->Shared->Prop}
theorem P7 {M:Model} {A:Around} {E:Value->Shared->Prop} {s:Shared} {pos:Pos} {id:String} {args:List (Bool×Sem Value)} {kws:List (Option Str×Sem Value)} {Q:Value->Shared->Prop} (hp:args.any (·.1)=false) (hk:kws.any (·.1.isNone)=false)
  (h:wpAny M A (evalArgs (.builtin id) true args kws) (λz sz=>wpAny M A (call (.builtin id) z.pos z.kw) Q E sz) E s):wpAny M A (callWith pos (.builtin id) [] args kws) Q E s:=by
 unfold callWith;refine af (bh (aR h (λz sz hz=>af (cQ ?_)) λ_ _ y=>y));simp only[hp,hk,Bool.or_false];refine af (ar (af (aR hz (λv sv hv=>af (bh (wpAny_point (ar hv)))) λ_ _ y=>y)))
end
end L2
namespace L2
section
open PySem PySem.Calls PyProof.Rows
variable {prog:Program}{w:World}{A:Around}{E:Value->Shared->Prop}{s:Shared}
theorem Qv:entryFor table "dict.update.loop"=some Builtin.«dict.update.loop»:=entryFor_of_tree (by kernel_rfl)
theorem JO:plainId "dict.update.loop"=true:=by decide +kernel
theorem SV:typeLookup (.type "list") "keys"=pure none:=by rw[typeLookup_type,builtinLookup_eq_fast];kernel_rfl
theorem Pg {a:Addr} {xs:Array Value} {k:Nat} {sl:Array (Option Value)} {Q:Option Value->Shared->Prop} (hx:s.heap.get? a=some { cls:=.type "list",dict:=none,data:=.seq xs k,slots:=sl }) (hA:A.handled=none)
  (h:∀h' tk,(∀b o,s.heap.get? b=some o->h'.get? b=some o)->Q none { s with heap:=h',toks:=tk }):wpAny (model prog w) A (getAttr? (.ref a) "keys") Q E s:=by
 obtain⟨hp,g,d,tk,os⟩:=s;have hT:∀tk',(⟨hp,g,d,tk',os⟩:Shared).TypeIs (.ref a) "list":=λ_=>⟨_,hx,rfl⟩
 have f1:=sub_AttributeError;have f3:=F.slot_list_getattribute.lookup;have f4:=F.slot_list_getattribute.bind (.ref a);have f5:=am_list_getattr_none;unfold getAttr? getAttrBy? getAttrBy
 repeat (any_goals (first|assumption|exact hT _|((with_reducible show wpAny _ _ (call (Value.builtin "list.__getattribute__") _ _) _ _ _);refine dO F.slot_list_getattribute (hT _) am_entry_list_getattribute (F.args_list_getattribute_2 _ _) (meets_getattribute_miss_list a xs k sl "keys" _ SV (by decide +kernel) (by decide +kernel)) ⟨hx,hA,λh' tk' e hx'=>?_⟩)|wp_step))
 obtain⟨t',u',he⟩:=hx'.there;show wpAny _ _ (getattributeRaised _ _ _ _ _ _ _) _ _ _;unfold getattributeRaised
 repeat (any_goals (first|assumption|wp_step))
 exact h _ _ λb o e=>hx'.keeps b o e
theorem pair_items {t:Addr}{k v:Value}{Q:List Value->Shared->Prop}(ht:IsTup s.heap t #[k,v])(h:Q [k,v] s):wpAny (model prog w) A (Builtin.Dict.pairItems (.ref t)) Q E s:=by
 obtain⟨o,ho,hc,n,hd⟩:=ht;have hT:s.TypeIs (.ref t) "tuple":=⟨o,ho,hc⟩
 unfold Builtin.Dict.pairItems;refine af (wpAny_typeOf hT ?_);rw[aw (by decide)];refine af (m:=seqItems? (.ref t)) ?_;unfold seqItems?;refine af (fE ho ?_);rw[hd];exact ar (ar h)
open PySem.Spec
theorem R6:∀{ps:List Addr} {its:List Value},AW (ps.map V.ref) its->∀(i:Nat) v,its[i]?=some v->∃t,ps[i]?=some t/\v=.ref t
 |[],_,.nil,i,v,e=>by simp at e
 |t::ps,_,.cons r h,0,v,e=>⟨t,rfl,by cases r;simpa using e.symm⟩
 |t::ps,_,.cons r h,i+1,v,e=>by
  obtain⟨t',a,b⟩:=R6 h i v (by simpa using e);exact⟨t',by simpa using a,b⟩
theorem Mq {α β:Type}{F:α->β->Prop}:∀{l:List α} {m:List β},Paired F l m->∀{y:β},y∈m->∃x,x∈l/\F x y
 |_,_,.nil,_,h=>nomatch h
 |_,_,.cons r t,y,h=>by
  rcases aL.mp h with rfl|h
  ·exact⟨_,aM,r⟩
  ·obtain⟨x,a,b⟩:=Mq t h;exact⟨x,aK _ a,b⟩
end
end L2
namespace L2
section
open PySem PySem.W PyProof.Rows
variable {n:Nat}{lt:Nat->Nat->Bool}{cmp:Nat->Nat->(Bool->Shared->Prop)->Shared->Prop}{s:Shared}
structure Ordr (n:Nat) (lt:Nat->Nat->Bool) (cmp:Nat->Nat->(Bool->Shared->Prop)->Shared->Prop) (s:Shared):Prop where
 ask:∀(i j:Nat) (C:Bool->Shared->Prop),i<n->j<n->i≠j->C (lt i j) s->cmp i j C s
 tr:∀i j k,i<n->j<n->k<n->lt i j=true->lt j k=true->lt i k=true
 tot:∀i j,i<n->j<n->i≠j->lt i j=false->lt j i=true
def Ki (n:Nat)(p:Array Nat):Prop:=p.size=n/\p.toList.Perm (List.range n)
theorem Ki.lo {p:Array Nat}(h:Ki n p){i:Nat}(hi:i<n):p.getD i 0<n:=by
 have hs:i<p.size:=by rw[h.1];exact hi
 have e:p.getD i 0=p[i]:=by simp[Array.getD,hs]
 rw[e];exact dJ.mp (h.2.mem_iff.mp (by simp))
theorem Ki.ne {p:Array Nat}(h:Ki n p){i j:Nat}(hi:i<n)(hj:j<n)(hij:i≠j):p.getD i 0≠p.getD j 0:=by
 have hs:i<p.size:=by rw[h.1];exact hi
 have ht:j<p.size:=by rw[h.1];exact hj
 have nd:p.toList.Nodup:=h.2.nodup_iff.mpr List.nodup_range;have e1:p.getD i 0=p.toList[i]'(by simpa using hs):=by simp[Array.getD,hs]
 have e2:p.getD j 0=p.toList[j]'(by simpa using ht):=by simp[Array.getD,ht]
 rw[e1,e2];intro z;have pw:=bJ.mp nd;rcases Nat.lt_or_gt_of_ne hij with g|g
 ·exact pw i j (by simpa using hs) (by simpa using ht) g z
 ·exact pw j i (by simpa using ht) (by simpa using hs) g z.symm
def Gz (lt:Nat->Nat->Bool)(p:Array Nat)(k:Nat):Prop:=∀i j,i<j->j<k->lt (p.getD i 0) (p.getD j 0)=true
def Xb (lt:Nat->Nat->Bool)(p:Array Nat)(k:Nat):Prop:=∀i j,i<j->j<k->lt (p.getD j 0) (p.getD i 0)=true
theorem Q0 (O:Ordr n lt cmp s){p:Array Nat}(hp:Ki n p){G:Nat->Shared->Prop}:∀(f m:Nat),1<=m->m+f<=n->Gz lt p m->
  (∀m',m<=m'->m'<=m+f->Gz lt p m'->(m'=m+f\/lt (p.getD m' 0) (p.getD (m'-1) 0)=true)->G m' s)->(kas_asc p f m).kasWp cmp G s
 |0,m,_,_,up,h=>h m (aq _) (aq _) up (.inl rfl)
 |f+1,m,h1,h2,up,h=>by
  refine O.ask _ _ _ (hp.lo (by omega)) (hp.lo (by omega)) (hp.ne (by omega) (by omega) (by omega)) ?_;cases hl:lt (p.getD m 0) (p.getD (m-1) 0) with
  |true=>exact h m (aq _) (by omega) up (.inr hl)
  |false=>
   have hl':=O.tot _ _ (hp.lo (by omega)) (hp.lo (by omega)) (hp.ne (by omega) (by omega) (by omega)) hl;show(kas_asc p f (m+1)).kasWp cmp G s;refine Q0 O hp f (m+1) (by omega) (by omega) (λi j hij hj=>?_) λm' a b c d=>h m' (by omega) (by omega) c (d.imp (by omega) id)
   by_cases e:j=m
   ·subst e
    by_cases e2:i=j-1
    ·rw[e2];exact hl'
    ·exact O.tr _ _ _ (hp.lo (by omega)) (hp.lo (by omega)) (hp.lo (by omega)) (up i (j-1) (by omega) (by omega)) hl'
   ·exact up i j hij (by omega)
theorem R5 (O:Ordr n lt cmp s){p:Array Nat}(hp:Ki n p){G:Array Nat×Nat×Nat->Shared->Prop}:∀(f m:Nat),1<=m->m+f<=n->Xb lt p m->
  (∀m',m<=m'->m'<=m+f->Xb lt p m'->G (p,m',0) s)->(kas_desc f p m 0).kasWp cmp G s
 |0,m,_,_,dn,h=>h m (aq _) (aq _) dn
 |f+1,m,h1,h2,dn,h=>by
  refine O.ask _ _ _ (hp.lo (by omega)) (hp.lo (by omega)) (hp.ne (by omega) (by omega) (by omega)) ?_;cases hl:lt (p.getD m 0) (p.getD (m-1) 0) with
  |true=>
   show(kas_desc f p (m+1) 0).kasWp cmp G s;refine R5 O hp f (m+1) (by omega) (by omega) (λi j hij hj=>?_) λm' a b c=>h m' (by omega) (by omega) c
   by_cases e:j=m
   ·subst e
    by_cases e2:i=j-1
    ·rw[e2];exact hl
    ·exact O.tr _ _ _ (hp.lo (by omega)) (hp.lo (by omega)) (hp.lo (by omega)) hl (dn i (j-1) (by omega) (by omega))
   ·exact dn i j hij (by omega)
  |false=>
   have hl':=O.tot _ _ (hp.lo (by omega)) (hp.lo (by omega)) (hp.ne (by omega) (by omega) (by omega)) hl;refine O.ask _ _ _ (hp.lo (by omega)) (hp.lo (by omega)) (hp.ne (by omega) (by omega) (by omega)) ?_;rw[hl'];exact h m (aq _) (by omega) dn
theorem FR (p:Array Nat)(i:Nat):p.getD i 0=(p[i]?).getD 0:=by
 by_cases h:i<p.size
 ·simp[Array.getD,h]
 ·simp[Array.getD,h]
theorem U3 {p:Array Nat}{m:Nat}(hm:m<=p.size)(k:Nat):(kas_rev p 0 m).getD k 0=if k<m then p.getD (m-1-k) 0 else p.getD k 0:=by
 rw[FR];unfold kas_rev;rw[getElem?_mirror_all hm]
 by_cases h:k<m
 ·rw[aw ⟨bw _,h⟩,aw h,FR,fu]
 ·rw[aj (λz=>h z.2),aj h,FR]
theorem VV {p:Array Nat}(hp:Ki n p)(m:Nat):Ki n (kas_rev p 0 m):=⟨(mirror_size ..).trans hp.1,(eU.mp (mirror_perm ..)).trans hp.2⟩
theorem UJ (O:Ordr n lt cmp s) {p:Array Nat} (hp:Ki n p) {m:Nat} (h1:1<=m) (hm:m<=n) (dn:Xb lt p m) {G:Nat×Array Nat->Shared->Prop}
  (h:∀m' p',Ki n p'->Gz lt p' m'->1<=m'->m'<=n->G (m',p') s):(kas_tail3 m n p).kasWp cmp G s:=by
 unfold kas_tail3;rw[du];have hr:=VV hp m;refine Q0 O hr (n-m) m h1 (by omega) (λi j hij hj=>?_) λm' a b c _=>h m' _ hr c (by omega) (by omega)
 rw[U3 (by rw[hp.1];exact hm),U3 (by rw[hp.1];exact hm),aw (by omega),aw hj];exact dn _ _ (by omega) (by omega)
theorem Ue (O:Ordr n lt cmp s) (hn:1<=n) {p:Array Nat} (hp:Ki n p) {G:Nat×Array Nat->Shared->Prop}
  (h:∀m' p',Ki n p'->Gz lt p' m'->1<=m'->m'<=n->G (m',p') s):(kas_count n p).kasWp cmp G s:=by
 unfold kas_count;rw[du];refine Q0 O hp (n-1) 1 (aq _) (by omega) (λi j hij hj=>by omega) λm a b up d=>?_
 by_cases e:m=n
 ·subst e;rw[aw (by simp)];exact h _ _ hp up a (aq _)
 ·rw[aj (by simpa using e)]
  by_cases g:m>1
  ·rw[aw g];refine O.ask _ _ _ (hp.lo (by omega)) (hp.lo (by omega)) (hp.ne (by omega) (by omega) (by omega)) ?_;rw[up 0 (m-1) (by omega) (by omega)];exact h _ _ hp up a (by omega)
  ·rw[aj g];have e1:m=1:=by omega
   subst e1;have hl:=d.resolve_left (by omega);unfold kas_descPart;rw[du];refine R5 O hp (n-(1+1)) (1+1) (by omega) (by omega) (λi j hij hj=>?_) λm' a' b' dn=>?_
   ·obtain⟨rfl,rfl⟩:i=0/\j=1:=by omega
    exact hl
   ·rw[aj (by simp)];exact UJ O hp (by omega) (by omega) dn h
theorem MG (O:Ordr n lt cmp s) {p:Array Nat} (hp:Ki n p) {k:Nat} (hk:k<n) (up:Gz lt p k) {G:Nat->Shared->Prop}
  (h:∀l,l<=k->(∀i,i<l->lt (p.getD i 0) (p.getD k 0)=true)->(∀i,l<=i->i<k->lt (p.getD k 0) (p.getD i 0)=true)->G l s) :
  ∀(f l r:Nat),l<=r->r<=k->r-l<=f->(∀i,i<l->lt (p.getD i 0) (p.getD k 0)=true)->(∀i,r<=i->i<k->lt (p.getD k 0) (p.getD i 0)=true)->(kas_place p k f l r).kasWp cmp G s
 |0,l,r,h1,h2,h3,a,b=>h l (by omega) a λi hi=>b i (by omega)
 |f+1,l,r,h1,h2,h3,a,b=>by
  unfold kas_place
  by_cases g:l≥r
  ·rw[aw g];exact h l (by omega) a λi hi=>b i (by omega)
  ·rw[aj g];refine O.ask _ _ _ (hp.lo hk) (hp.lo (by omega)) (hp.ne hk (by omega) (by omega)) ?_;cases hl:lt (p.getD k 0) (p.getD ((l+r)/2) 0) with
   |true=>
    show(kas_place p k f l ((l+r)/2)).kasWp cmp G s;refine MG O hp hk up h f l ((l+r)/2) (by omega) (by omega) (by omega) a λi hi hik=>?_
    by_cases e:i=(l+r)/2
    ·rw[e];exact hl
    ·exact O.tr _ _ _ (hp.lo hk) (hp.lo (by omega)) (hp.lo (by omega)) hl (up _ _ (by omega) hik)
   |false=>
    have hl':=O.tot _ _ (hp.lo hk) (hp.lo (by omega)) (hp.ne hk (by omega) (by omega)) hl;show(kas_place p k f ((l+r)/2+1) r).kasWp cmp G s;refine MG O hp hk up h f ((l+r)/2+1) r (by omega) (by omega) (by omega) (λi hi=>?_) b
    by_cases e:i=(l+r)/2
    ·rw[e];exact hl'
    ·exact O.tr _ _ _ (hp.lo (by omega)) (hp.lo (by omega)) (hp.lo hk) (up _ _ (by omega) (by omega)) hl'
theorem T7 {p:Array Nat}{k l:Nat}(hk:k<p.size)(hl:l<=k)(i:Nat):(bubble p k (k-l)).getD i 0=if i=l then p.getD k 0 else if l<i/\i<=k then p.getD (i-1) 0 else p.getD i 0:=by
 rw[FR,getElem?_bubble hk _ (by omega),show k-(k-l)=l by omega]
 by_cases h:i=l
 ·rw[aw h,aw h,FR]
 ·rw[aj h,aj h]
  by_cases g:l<i/\i<=k
  ·rw[aw g,aw g,FR]
  ·rw[aj g,aj g,FR]
theorem Uv (O:Ordr n lt cmp s){G:Array Nat->Shared->Prop}(h:∀p,Ki n p->Gz lt p n->G p s):∀(f:Nat) (p:Array Nat) (k:Nat),k+f=n->Ki n p->Gz lt p k->(kas_bin f p k).kasWp cmp G s
 |0,p,k,e,hp,up=>h p hp (by rw[<-e];exact up)
 |f+1,p,k,e,hp,up=>by
  unfold kas_bin;rw[du];refine MG O hp (by omega) up (λl hl a b=>?_) k 0 k (bw _) (aq _) (by omega) (λi hi=>by omega) (λi h1 h2=>by omega);have hs:k<p.size:=by rw[hp.1];omega
  refine Uv O h f _ (k+1) (by omega) ⟨(bubble_size ..).trans hp.1,(eU.mp (bubble_perm ..)).trans hp.2⟩ λi j hij hj=>?_
  rw[T7 hs hl,T7 hs hl]
  by_cases i1:i=l
  ·rw[aw i1,aj (by omega),aw (by omega)];exact b _ (by omega) (by omega)
  ·rw[aj i1]
   by_cases j1:j=l
   ·rw[aj (by omega),aw j1];exact a _ (by omega)
   ·rw[aj j1]
    by_cases i2:l<i/\i<=k
    ·rw[aw i2,aw (by omega)];exact up _ _ (by omega) (by omega)
    ·rw[aj i2]
     by_cases j2:l<j/\j<=k
     ·rw[aw j2];exact up _ _ (by omega) (by omega)
     ·rw[aj j2];exact up _ _ (by omega) (by omega)
theorem Sf (O:Ordr n lt cmp s)(hn:1<=n){G:Array Nat->Shared->Prop}(h:∀p,Ki n p->Gz lt p n->G p s):(kas_sort n).kasWp cmp G s:=by
 unfold kas_sort;rw[du];refine Ue O hn ⟨by simp,by simp⟩ λm p hp up h1 h2=>?_
 by_cases e:m<n
 ·rw[aw e];exact Uv O h _ _ _ (by omega) hp (by rw[show max m 1=m by omega];exact up)
 ·rw[aj e];obtain rfl:m=n:=by omega
  exact h p hp up
end
end L2
namespace L2
section
open PySem PySem.W PySem.Calls PyProof.Rows
variable {prog:Program}{w:World}{A:Around}{E:Value->Shared->Prop}{s:Shared}
def FG (vs:List Value)(p:Array Nat):List Value:=p.toList.map λi=>vs.getD i Value.none
theorem La (vs:List Value):FG vs (List.range vs.length).toArray=vs:=by
 unfold FG;refine List.ext_getElem? λi=>?_
 rw[aJ]
 by_cases h:i<vs.length
 ·simp[h]
 ·simp[h]
theorem VL {a:Addr} {vs:List Value} {n:Nat} {lt:Nat->Nat->Bool} {P:PySem.Fin->Shared->Prop} (ho:s.heap.get? a=some (seqObj "list" vs.toArray n)) (few:vs.length<64)
  (hk:∀h',(∀b o,b≠a->s.heap.get? b=some o->h'.get? b=some o)->2<=vs.length->wpAny (model prog w) A (keyKind' vs.toArray) (λκ s'=>s'={ s with heap:=h' }/\Ordr vs.length lt (kas_ask prog w A κ vs) s') (λ_ _=>False) { s with heap:=h' })
  (h:∀p,Ki vs.length p->Gz lt p vs.length->P (.done (.ret .none)) { s with heap:=sortedHeap s.heap a vs (FG vs p).toArray }) :
  wpAny (model prog w) A (Builtin.«list.sort» ⟨[.ref a],[]⟩) P E s:=by
 rw[list_sort_plain];have ha:a<s.heap.objs.size:=aA ho;refine af (listItems_at ho rfl (af (cM ho rfl ?_)));obtain⟨e1,h1⟩:∃e,(s.heap.update a (Obj.mapSeq λ_=>#[])).get? a=some (seqObj "list" #[] e):=⟨_,eI ho (λ_=>#[])⟩
 refine af (eW h1 rfl (af (wpAny_newTuple (af (dF (bh ?_))))));have n1:a≠(s.heap.update a (Obj.mapSeq λ_=>#[])).objs.size:=by rw[cP];exact aO ha
 have n2:a≠((s.heap.update a (Obj.mapSeq λ_=>#[])).push (seqObj "tuple" vs.toArray 0)).objs.size:=by rw[bF,cP];exact aO (cb ha)
 have h2:(((s.heap.update a (Obj.mapSeq λ_=>#[])).push (seqObj "tuple" vs.toArray 0)).push (seqObj "list" #[] 0)).get? a=some (seqObj "list" #[] e1):=by
  rw[Heap.get?_push_ne _ _ _ n2,Heap.get?_push_ne _ _ _ n1];exact h1
 have old:∀b o,b≠a->s.heap.get? b=some o->(((s.heap.update a (Obj.mapSeq λ_=>#[])).push (seqObj "tuple" vs.toArray 0)).push (seqObj "list" #[] 0)).get? b=some o:=λb o nb e=>
  ah _ (ah _ ((aY _ _ (Ne.symm nb)).trans e))
 show wpAny (model prog w) A _ P E { s with heap:=((s.heap.update a (Obj.mapSeq λ_=>#[])).push (seqObj "tuple" vs.toArray 0)).push (seqObj "list" #[] 0) };dsimp only;have ez:vs.toArray.size=vs.length:=by simp
 by_cases hs2:vs.toArray.size<2
 ·rw[aw hs2,aw hs2];refine af (ar ?_);rw[StateT.run_pure];refine af (ar ?_);dsimp only;refine af (eW h2 rfl (af (cM h2 rfl ?_ (hsz2:=?_))))
  ·simp only[bne_self_eq_false,Bool.false_eq_true,if_false];have hq:=h (List.range vs.length).toArray ⟨by simp,by simp⟩ (λi j hij hj=>by omega);rw[La] at hq;have e:(vs.toArray.zip vs.toArray).map (·.2)=vs.toArray:=by
    apply eC.mp;simp;exact List.map_snd_zip (aq _)
   refine ar ?_;show P _ { s with heap:=sortedHeap s.heap a vs ((vs.toArray.zip vs.toArray).map (·.2)) };rw[e];exact hq
  ·show((vs.toArray.zip vs.toArray).map (·.2)).size<=_;rw[Array.size_map];simp;rw[aZ];omega
 ·rw[aj hs2,aj hs2];refine af (aR (hk _ old (by omega)) (λκ s' hs'=>?_) λ_ _ z=>z.elim);obtain⟨rfl,O⟩:=hs';refine af (aR (kat_run (ks:=vs) (E:=E) (Q:=λst' s'=>s'={ s with heap:=((s.heap.update a (Obj.mapSeq λ_=>#[])).push (seqObj "tuple" vs.toArray 0)).push (seqObj "list" #[] 0) }/\∃p,Ki vs.length p/\Gz lt p vs.length/\(arrOf st').map (·.2)=(FG vs p).toArray/\failedOf st'=none)
   (G:=λp s'=>s'={ s with heap:=((s.heap.update a (Obj.mapSeq λ_=>#[])).push (seqObj "tuple" vs.toArray 0)).push (seqObj "list" #[] 0) }/\Ki vs.length p/\Gz lt p vs.length) rfl (by omega) few
   (λp st' s' _ ea ef hg=>⟨hg.1,p,hg.2.1,hg.2.2,kat_snds rfl ea,ef⟩) (Sf O (by omega) λp hp up=>⟨rfl,hp,up⟩)) (λr s' hr=>?_) λ_ _ z=>z)
  obtain⟨⟨⟩,st'⟩:=r;obtain⟨rfl,p,hp,up,ea,ef⟩:=hr;dsimp only;refine af (eW h2 rfl (af (cM h2 rfl ?_ (hsz2:=?_))))
  ·rw[ef];simp only[bne_self_eq_false,Bool.false_eq_true,if_false];rw[ea];exact ar (h p hp up)
  ·rw[ea];unfold FG;simp only[List.size_toArray,List.length_map,Array.length_toList,hp.1];rw[aZ];omega
end
end L2
namespace L2
section
open PySem PySem.W PySem.Calls PyProof.Rows
variable {prog:Program}{w:World}{A:Around}{E:Value->Shared->Prop}{s:Shared}
def Vq (prog:Program)(w:World)(Q:Value->Shared->Prop)(vs:List Value)(s1:Shared):Prop:=∃lt,vs.length<64/\
 (∀(A':Around) h',(∀b o,s1.heap.get? b=some o->h'.get? b=some o)->2<=vs.length->wpAny (model prog w) A' (keyKind' vs.toArray) (λκ s'=>s'={ s1 with heap:=h' }/\Ordr vs.length lt (kas_ask prog w A' κ vs) s') (λ_ _=>False) { s1 with heap:=h' })/\
 ∀h' p idx c,Ki vs.length idx->Gz lt idx vs.length->s1.heap.objs.size<=p->(∀b o,s1.heap.get? b=some o->h'.get? b=some o)->h'.get? p=some (seqObj "list" (FG vs idx).toArray c)->Q (.ref p) { s1 with heap:=h' }
theorem S0 {x:Value}{Q:Value->Shared->Prop}(hc:wpAny (model prog w) A.in1 (collect x) (Vq prog w Q) E s):wpAny (model prog w) A (call (.builtin "sorted") [x]) Q E s:=by
 refine fP kind_sorted plain_sorted entry_sorted (args_sorted1 x) ?_;unfold Builtin.«sorted»;refine af (m:=checkCount "sorted" 1 1 _) (ar (af (aR hc (λvs s1 z=>?_) λ_ _ e=>e)));obtain⟨lt,few,hk,q⟩:=z;refine af (dF ?_);have there:(s1.heap.push (seqObj "list" vs.toArray 0)).get? s1.heap.objs.size=some (seqObj "list" vs.toArray 0):=ay _ rfl;refine af (bh (e8 slot_list_sort ⟨_,there,rfl⟩ entry_list_sort (VL (lt:=lt) there few (λh' old h2=>?_) λidx hp up=>⟨_,rfl,?_⟩) (args_list_sort _)))
 ·have k':∀b o,s1.heap.get? b=some o->h'.get? b=some o:=λb o e=>old b o (aO (aA e)) (ah _ e)
  exact hk _ h' k' h2
 ·obtain⟨c,hp'⟩:=sortedHeap_at (out:=(FG vs idx).toArray) there;refine ar ⟨_,rfl,q _ _ idx c hp up (aq _) (λb o e=>?_) hp'⟩;have lt:=aA e;show Heap.get? _ b=some o;rw[sortedHeap_old (aO lt) (by rw[bF];exact cb lt)];exact ah _ e
end
end L2
namespace L2
end L2
namespace L2
end L2
namespace L2
end L2
namespace L2
end L2
namespace L2
end L2
namespace L2
end L2
namespace L2
section
open PySem PySem.Calls PySem.Spec PyProof.Rows PySem.Builtin.Str
variable {X:Cx}
def XT:List V->Hp->VK->Prop:=λxs H Q=>∃n:Int,xs=[.int n]/\0<=n/\n<10^10/\Q (.str (PySem.Str.ofString (toString n))) H
theorem NY:FO X (.type "str") XT:=by
 intro pins s σ H xs us Q I r h;obtain⟨n,rfl,h0,h1,q⟩:=h;obtain⟨u,rfl,ru⟩:=vals1 r;obtain⟨t,rfl⟩:=ru;refine PySem.P.str_of_int ?_ ⟨.str _,H,I.tok _,⟨_,rfl⟩,q⟩;have h2:n.natAbs<2^34:=by omega
 by_cases hz:n.natAbs=0
 ·rw[hz];decide
 ·exact Nat.lt_trans ((Nat.log2_lt hz).mpr h2) (by decide)
end
end L2
namespace L2
open PySem PySem.Spec PyProof.Rows
end L2
namespace L2
end L2
namespace L2
end L2
namespace L2
end L2
namespace L2
section
open PySem PySem.W PySem.Calls PyProof.Rows
variable {prog:Program}{w:World}{A:Around}{E:Value->Shared->Prop}{s:Shared}{a kS:Addr}{vs ks:List Value}{P:PySem.Fin->Shared->Prop}
def Y6 (a b:Addr)(h h':Heap):Prop:=∀c o,c≠a->c≠b->h.get? c=some o->h'.get? c=some o
theorem Pz {st:SortSt} {keys:Array Value} {e e1:Nat} {out:List Value} (hk:s.heap.get? kS=some (seqObj "list" keys e)) (ha:s.heap.get? a=some (seqObj "list" #[] e1)) (ne:kS≠a) (zk:keys.size<=sizeLine) (hout:(arrOf st).map (·.2)=out.toArray) (zo:out.length<=sizeLine) (hf:failedOf st=none)
  (h:∀h' c,Y6 a kS s.heap h'->h'.get? a=some (seqObj "list" out.toArray c)->P (.done (.ret .none)) { s with heap:=h' }):wpAny (model prog w) A (ksk_tail a false e1 (.ref kS) st) P E s:=by
 have a1:(s.heap.update kS (Obj.mapSeq λ_=>(#[]:Array Value))).get? a=some (seqObj "list" #[] e1):=(aY _ _ ne).trans ha;unfold ksk_tail;dsimp only;refine af (cM hk rfl ?_ zk (bw _));refine af (wpAny_letGo (af (eW a1 rfl (af (cM a1 rfl ?_ (bw _) ?_)))))
 ·rw[hf];simp only[bne_self_eq_false,Bool.false_eq_true,if_false];refine ar ?_;rw[hout];refine h _ _ (λc o h1 h2 q=>?_) (eI a1 λ_=>out.toArray);exact(aY _ _ (Ne.symm h1)).trans ((aY _ _ (Ne.symm h2)).trans q)
 ·rw[aj ai,hout,aF];exact Nat.le_succ_of_le zo
theorem VR {lt:Nat->Nat->Bool} {e e1:Nat} (hk:s.heap.get? kS=some (seqObj "list" ks.toArray e)) (ha:s.heap.get? a=some (seqObj "list" #[] e1)) (ne:kS≠a) (hl:ks.length=vs.length) (few:vs.length<64)
  (kind:2<=vs.length->wpAny (model prog w) A (keyKind' ks.toArray) (λκ s'=>s'=s/\Ordr vs.length lt (kas_ask prog w A κ ks) s') (λ_ _=>False) s)
  (h:∀p h' c,Ki vs.length p->Gz lt p vs.length->Y6 a kS s.heap h'->h'.get? a=some (seqObj "list" (FG vs p).toArray c)->P (.done (.ret .none)) { s with heap:=h' }) :
  wpAny (model prog w) A (ksk_end a false vs.toArray e1 (.ref kS) ks.toArray) P E s:=by
 have zk:ks.toArray.size<=sizeLine:=by rw[aF,aZ];omega
 unfold ksk_end;dsimp only;rw[aj ai,aj ai]
 by_cases h2:vs.toArray.size<2
 ·rw[aw h2,aw h2];refine af (ar ?_);rw[StateT.run_pure];refine af (ar ?_);dsimp only;rw[aF] at h2;refine Pz (out:=vs) hk ha ne zk ?_ (by rw[aZ];omega) rfl λh' c k hc=>h (List.range vs.length).toArray h' c ⟨by simp,by simp⟩ (λi j hij hj=>by omega) k (by rw[La];exact hc)
  show(ks.toArray.zip vs.toArray).map (·.2)=vs.toArray;apply eC.mp;simp;exact List.map_snd_zip (by omega)
 ·rw[aj h2,aj h2];rw[aF] at h2;refine af (aR (kind (by omega)) (λκ s' hs'=>?_) λ_ _ z=>z.elim);obtain⟨rfl,O⟩:=hs';refine af (aR (kat_run (E:=E) (Q:=λst' s2=>s2=s'/\∃p,Ki vs.length p/\Gz lt p vs.length/\(arrOf st').map (·.2)=(FG vs p).toArray/\failedOf st'=none) (G:=λp s2=>s2=s'/\Ki vs.length p/\Gz lt p vs.length) hl (by omega) few
   (λp st' s2 _ ea ef hg=>⟨hg.1,p,hg.2.1,hg.2.2,kat_snds hl ea,ef⟩) (Sf O (by omega) λp hp up=>⟨rfl,hp,up⟩)) (λr s2 hr=>?_) λ_ _ z=>z)
  obtain⟨⟨⟩,st'⟩:=r;obtain⟨rfl,p,hp,up,ea,ef⟩:=hr;dsimp only;refine Pz hk ha ne zk ea ?_ ef λh' c k hc=>h p h' c hp up k hc
  unfold FG;rw[ae,dU,hp.1,aZ];omega
def R9 (prog:Program)(w:World)(A:Around)(f:Value)(vs:List Value)(Ky:Nat->Value->Prop)(s:Shared)(a:Addr):Prop:=∀(i:Nat) (v:Value),vs[i]?=some v->∀(h:Heap) (tk:Nat),(∀b o,b≠a->s.heap.get? b=some o->h.get? b=some o)->
 wpAny (model prog w) A (call f [v]) (λk s'=>Ky i k/\∃h' tk',s'={ s with heap:=h',toks:=tk' }/\∀b o,h.get? b=some o->h'.get? b=some o) (λ_ _=>False) { s with heap:=h,toks:=tk }
theorem T6 {f:Value} {lt:Nat->Nat->Bool} {Ky:Nat->Value->Prop} {e1:Nat} (hk:s.heap.get? kS=some (seqObj "list" #[] 0)) (ha:s.heap.get? a=some (seqObj "list" #[] e1)) (ne:kS≠a) (few:vs.length<64)
  (turn:R9 prog w A f vs Ky s kS)
  (kind:∀(ks:List Value) (h':Heap) (tk:Nat),ks.length=vs.length->(∀i k,ks[i]?=some k->Ky i k)->(∀b o,b≠kS->s.heap.get? b=some o->h'.get? b=some o)->2<=vs.length->
   wpAny (model prog w) A (keyKind' ks.toArray) (λκ s'=>s'={ s with heap:=h',toks:=tk }/\Ordr vs.length lt (kas_ask prog w A κ ks) s') (λ_ _=>False) { s with heap:=h',toks:=tk })
  (h:∀p h' tk c,Ki vs.length p->Gz lt p vs.length->Y6 a kS s.heap h'->h'.get? a=some (seqObj "list" (FG vs p).toArray c)->P (.done (.ret .none)) { s with heap:=h',toks:=tk }) :
  wpAny (model prog w) A (ksk_rest a f false vs.toArray e1 (.ref kS)) P E s:=by
 unfold ksk_rest;refine af (wpAny_rule ?_);rw[List.forIn_toArray];refine af (ksk_fold (λi s'=>∃h' tk ks e,s'={ s with heap:=h',toks:=tk }/\(∀b o,b≠kS->s.heap.get? b=some o->h'.get? b=some o)/\h'.get? kS=some (seqObj "list" (List.toArray ks) e)/\ks.length=i/\∀j k,ks[j]?=some k->Ky j k) vs 0 s ⟨s.heap,s.toks,[],0,rfl,λ_ _ _ q=>q,hk,rfl,λj k q=>by simp at q⟩ ?_ ?_)
 ·rintro j x s' hx ⟨h',tk,ks,e,rfl,k1,k2,hl,hK⟩
  rw[fu] at hl ⊢;have hj:j<vs.length:=(aH.mp hx).1;refine af (eD (aR (turn j x hx h' tk k1) (λv s2 hv=>?_) λ_ _ z=>z.elim));obtain⟨ky,h2,tk2,rfl,k3⟩:=hv;dsimp only;refine af (cM (k3 _ _ k2) rfl ?_ (by rw[aF,aZ];omega) (by rw[Array.size_push,aF,aZ];omega));obtain⟨c9,e9⟩:∃c9,(h2.update kS (Obj.mapSeq (·.push v))).get? kS=some (seqObj "list" (ks.toArray.push v) c9):=⟨_,eI (k3 _ _ k2) (·.push v)⟩
  refine ar ⟨rfl,_,tk2,ks++[v],c9,rfl,λb o nb q=>(aY _ _ (Ne.symm nb)).trans (k3 b o (k1 b o nb q)),?_,by rw[aW,hl];rfl,λi k q=>?_⟩
  ·rw[e9,List.push_toArray]
  ·by_cases hi:i<ks.length
   ·rw[bV hi] at q;exact hK i k q
   ·rw[bS (by omega)] at q;have hi2:i-ks.length=0:=by
     have:=(aH.mp q).1;simp at this;omega
    rw[hi2] at q;cases q;rw[show i=j by omega];exact ky
 ·rintro s' ⟨h',tk,ks,e,rfl,k1,k2,hl,hK⟩
  rw[fu] at hl;refine af (listItems_at k2 rfl ?_);refine VR (s:={ s with heap:=h',toks:=tk }) k2 (k1 _ _ (Ne.symm ne) ha) ne hl few (kind ks h' tk hl hK k1) λp h3 c hp up k3 hc=>h p h3 tk c hp up (λb o n1 n2 q=>k3 b o n1 n2 (k1 b o n2 q)) hc
theorem UY {f:Value} {lt:Nat->Nat->Bool} {Ky:Nat->Value->Prop} {n:Nat} (ho:s.heap.get? a=some (seqObj "list" vs.toArray n)) (few:vs.length<64)
  (turn:R9 prog w A f vs Ky s a)
  (kind:∀(ks:List Value) (h':Heap) (tk:Nat),ks.length=vs.length->(∀i k,ks[i]?=some k->Ky i k)->(∀b o,b≠a->s.heap.get? b=some o->h'.get? b=some o)->2<=vs.length->
   wpAny (model prog w) A (keyKind' ks.toArray) (λκ s'=>s'={ s with heap:=h',toks:=tk }/\Ordr vs.length lt (kas_ask prog w A κ ks) s') (λ_ _=>False) { s with heap:=h',toks:=tk })
  (h:∀p h' tk c,Ki vs.length p->Gz lt p vs.length->(∀b o,b≠a->s.heap.get? b=some o->h'.get? b=some o)->h'.get? a=some (seqObj "list" (FG vs p).toArray c)->P (.done (.ret .none)) { s with heap:=h',toks:=tk }) :
  wpAny (model prog w) A (ksk_tree a f false) P E s:=by
 have ha:a<s.heap.objs.size:=aA ho;unfold ksk_tree;refine af (listItems_at ho rfl (af (cM ho rfl ?_ (by rw[aF,aZ];omega) (bw _))));obtain⟨e1,h1⟩:∃e,(s.heap.update a (Obj.mapSeq λ_=>#[])).get? a=some (seqObj "list" #[] e):=⟨_,eI ho (λ_=>#[])⟩
 refine af (eW h1 rfl (af (wpAny_newTuple (af (dF (bh ?_) (bw _))) (by show vs.length<=_;rw[aZ];omega))));have old:∀b o,b≠a->s.heap.get? b=some o->(((s.heap.update a (Obj.mapSeq λ_=>#[])).push (seqObj "tuple" vs.toArray 0)).push (seqObj "list" #[] 0)).get? b=some o:=λb o nb e=>
  ah _ (ah _ ((aY _ _ (Ne.symm nb)).trans e))
 have sz:((s.heap.update a (Obj.mapSeq λ_=>#[])).push (seqObj "tuple" vs.toArray 0)).objs.size=s.heap.objs.size+1:=by rw[bF,cP]
 have hk:(((s.heap.update a (Obj.mapSeq λ_=>#[])).push (seqObj "tuple" vs.toArray 0)).push (seqObj "list" #[] 0)).get? ((s.heap.update a (Obj.mapSeq λ_=>#[])).push (seqObj "tuple" vs.toArray 0)).objs.size=some (seqObj "list" #[] 0):=ay _ rfl;have h2:(((s.heap.update a (Obj.mapSeq λ_=>#[])).push (seqObj "tuple" vs.toArray 0)).push (seqObj "list" #[] 0)).get? a=some (seqObj "list" #[] e1):=ah _ (ah _ h1);rw[sz] at hk;show wpAny (model prog w) A (ksk_rest a f false vs.toArray e1 (.ref ((s.heap.update a (Obj.mapSeq λ_=>#[])).push (seqObj "tuple" vs.toArray 0)).objs.size)) P E { s with heap:=((s.heap.update a (Obj.mapSeq λ_=>#[])).push (seqObj "tuple" vs.toArray 0)).push (seqObj "list" #[] 0) };rw[sz];generalize ((s.heap.update a (Obj.mapSeq λ_=>#[])).push (seqObj "tuple" vs.toArray 0)).push (seqObj "list" #[] 0)=h0 at old hk h2;have nk:∀b o,s.heap.get? b=some o->b≠s.heap.objs.size+1:=λb o q=>aO (cb (aA q))
 refine T6 (s:={ s with heap:=h0 }) (Ky:=Ky) (lt:=lt) hk h2 (cn (cb ha)) few (λi v hv h3 tk k3=>?_) (λks h3 tk hl hK k3 l2=>?_) λp h3 tk c hp up k3 hc=>?_
 ·exact turn i v hv h3 tk λb o nb q=>k3 b o (nk b o q) (old b o nb q)
 ·exact kind ks h3 tk hl hK (λb o nb q=>k3 b o (nk b o q) (old b o nb q)) l2
 ·exact h p h3 tk c hp up (λb o nb q=>k3 b o nb (nk b o q) (old b o nb q)) hc
theorem Mh {l f:Addr} {lt:Nat->Nat->Bool} {Ky:Nat->Value->Prop} {Q:Value->Shared->Prop} (hl:s.heap.IsList l vs.toArray) (few:vs.length<64)
  (turn:∀(i:Nat) (v:Value),vs[i]?=some v->∀(h:Heap) (tk:Nat),(∀b o,s.heap.get? b=some o->h.get? b=some o)->
   wpAny (model prog w) A.in1.in1 (call (.ref f) [v]) (λk s'=>Ky i k/\∃h' tk',s'={ s with heap:=h',toks:=tk' }/\∀b o,h.get? b=some o->h'.get? b=some o) (λ_ _=>False) { s with heap:=h,toks:=tk })
  (kind:∀(ks:List Value) (h':Heap) (tk:Nat),ks.length=vs.length->(∀i k,ks[i]?=some k->Ky i k)->(∀b o,s.heap.get? b=some o->h'.get? b=some o)->2<=vs.length->
   wpAny (model prog w) A.in1.in1 (keyKind' ks.toArray) (λκ s'=>s'={ s with heap:=h',toks:=tk }/\Ordr vs.length lt (kas_ask prog w A.in1.in1 κ ks) s') (λ_ _=>False) { s with heap:=h',toks:=tk })
  (q:∀h' tk p idx c,Ki vs.length idx->Gz lt idx vs.length->s.heap.objs.size<=p->(∀b o,s.heap.get? b=some o->h'.get? b=some o)->h'.get? p=some (seqObj "list" (FG vs idx).toArray c)->Q (.ref p) { s with heap:=h',toks:=tk }) :
  wpAny (model prog w) A (call (.builtin "sorted") [.ref l] [(Str.ofString "key",.ref f)]) Q E s:=by
 refine call_function_entry_kw kind_sorted plain_sorted entry_sorted (ksk_s1 _ _) ?_;unfold Builtin.«sorted»;refine af (m:=checkCount "sorted" 1 1 _) (ar (af (collect_list hl ?_ (by rw[aZ];omega))));refine af (dF ?_ (by rw[aZ];omega));have old:∀b o,s.heap.get? b=some o->((s.heap.push (seqObj "list" #[] 0)).update s.heap.objs.size (Obj.mapSeq λx=>x++vs.toArray)).get? b=some o:=λb o e=>(aY _ _ (cn (aA e))).trans (ah _ e)
 have hsz:s.heap.objs.size<=((s.heap.push (seqObj "list" #[] 0)).update s.heap.objs.size (Obj.mapSeq λx=>x++vs.toArray)).objs.size:=by rw[cP,bF];exact dI _
 generalize (s.heap.push (seqObj "list" #[] 0)).update s.heap.objs.size (Obj.mapSeq λx=>x++vs.toArray)=h1 at old hsz ⊢;have there:(h1.push (seqObj "list" vs.toArray 0)).get? h1.objs.size=some (seqObj "list" vs.toArray 0):=ay _ rfl;have old2:∀b o,s.heap.get? b=some o->b≠h1.objs.size/\(h1.push (seqObj "list" vs.toArray 0)).get? b=some o:=λb o e=>⟨aO (aQ (aA e) hsz),ah _ (old b o e)⟩
 generalize h1.push (seqObj "list" vs.toArray 0)=h2 at there old2 ⊢;refine af (bh (wpAny_call_entry_kw (s:={ s with heap:=h2 }) slot_list_sort ⟨_,there,rfl⟩ entry_list_sort ?_ (ksk_l1 _ _)));rw[ksk_t1];refine UY (s:={ s with heap:=h2 }) (lt:=lt) (Ky:=Ky) there few (λi v hv h3 tk k3=>?_) (λks h3 tk hl hK k3 l2=>?_) λp h3 tk c hp up k3 hc=>?_
 ·exact turn i v hv h3 tk λb o e=>k3 b o (old2 b o e).1 (old2 b o e).2
 ·exact kind ks h3 tk hl hK (λb o e=>k3 b o (old2 b o e).1 (old2 b o e).2) l2
 ·refine⟨_,rfl,?_⟩;exact ar ⟨_,rfl,q h3 tk _ p c hp up hsz (λb o e=>k3 b o (old2 b o e).1 (old2 b o e).2) hc⟩
end
end L2
namespace L2
section
open PySem PySem.W PySem.Calls PyProof.Rows
variable {prog:Program}{w:World}{A:Around}{s:Shared}
abbrev Rr (qual:Str)(params:Arguments)(body:Expr)(scope:Scope)(cl:List (Str×Addr))(pm cv ctv:Value):Obj:={ cls:=.type "function",data:=.func (kla_fn "<lambda>" qual params body scope cl pm cv ctv) }
theorem PB {f a c':Addr} {qual x:Str} {params:Arguments} {scope:Scope} {pm ctv:Value} {j:Nat} {p1 p2 p3:Pos} {items:Array Value} {v:Value} (ho:s.heap.get? f=some (Rr qual params (.Subscript (.Name x p1) (.Constant (.int j) 0 p2) p3) scope [] pm (.ref c') ctv)) (hcd:s.heap.CodeRec (.ref c') qual) (nl:s.heap.NoLimit) (room:A.depth<recursionLimit)
  (hb:∀u,bindArgs (kla_fn "<lambda>" qual params (.Subscript (.Name x p1) (.Constant (.int j) 0 p2) p3) scope [] pm (.ref c') ctv) ⟨[u],[]⟩=pure [(x,u)]) (hx:scope.names.lookup x=some .local) (hk:scope.kind=.function) (hco:scope.isCoroutine=false) (hge:scope.isGenerator=false) (hce:∀y∈scope.names,y.2≠.cell)
  (hd:(x == ("__debug__":Str))=false) (hj:j<1000) (ht:IsTup s.heap a items) (hi:items[j]?=some v) :
  wpAny (model prog w) A (call (.ref f) [.ref a]) (λk s'=>k=v/\∃h' tk',s'={ s with heap:=h',toks:=tk' }/\∀b o,s.heap.get? b=some o->h'.get? b=some o) (λ_ _=>False) s:=by
 refine cg (kla_callFunE room ho rfl hco hge rfl hcd ?_);rw[hb];refine ar (wpAny_newFunctionEnv hce (λy hy=>by rw[ax.mp hy];exact hx) (λh₁ hns hsb=>⟨nl.fresh _ hsb,?_⟩) hk);have k1:∀b o,s.heap.get? b=some o->h₁.get? b=some o:=λb o e=>hsb.extBut b o (aO (aA e)) (ah _ e)
 show codeAny _ _ (.expr _ (envX qual scope s.heap.objs.size f (.ref c') [])) _ _;have hv:[(x,Value.ref a)].reverse.lookup x=some (.ref a):=by simp
 have ht':=ht.keeps k1;have l1:j<items.size:=(eV.mp hi).1;refine kla_codeExpr (Subscript_ (fF (wpAny_loadName_local (v:=.ref a) (m:=λy=>[(x,Value.ref a)].reverse.lookup y) hk hx hns hv ?_) hd));refine wpAny_Constant_int ?_;exact eE (x:=v) ht'.typeIs slot_tuple_getitem.lookup (getItem_tuple (j:=j) ht' (by omega) (by omega) (by rw[fg (by omega) (by omega)];simp) hi ⟨rfl,rfl,_,_,rfl,k1⟩)
end
end L2
namespace L2
section
open PySem PySem.Spec PyProof.Rows
variable {X:Cx}{pins:List (Addr×Obj)}{σ:St}{H:Hp}{s:Shared}
def RM (c:Addr)(qual:Str):HO:=.ext λh=>h.CodeRec (.ref c) qual
theorem Uz {P:Program}{w:World}{h:Heap}{c:Addr}{qual:Str}(e:h.CodeRec (.ref c) qual):Be P w H h c (RM c qual):=by
 obtain⟨c2,o,vs,t,e1,e2,e3⟩:=id e;cases e1;exact⟨e,⟨o,e2⟩,λh1 h2 ⟨c3,o3,vs3,t3,z1,z2,z3⟩ k=>by cases z1;exact⟨_,o3,vs3,t3,rfl,k o3 z2,z3⟩⟩
def CT (P:Addr)(qual:Str)(pos:Pos)(H:Hp):Prop:=H P=some (.tbl #[])\/∃c,H P=some (.tbl #[rawInt pos.line,rawInt pos.col,.ref c])/\H c=some (RM c qual)
def Co (P:Addr)(H H':Hp):Prop:=∀b o,b≠P->H b=some o->H' b=some o
theorem Co.refl (P:Addr)(H:Hp):Co P H H:=λ_ _ _ h=>h
theorem Co.trans {P:Addr}{H H1 H2:Hp}(a:Co P H H1)(b:Co P H1 H2):Co P H H2:=λc o n h=>b c o n (a c o n h)
theorem AA.t {H H':Hp}(a:AA H H')(P:Addr):Co P H H':=λb o _ h=>a b o h
theorem CT.some {P:Addr}{qual:Str}{pos:Pos}{H:Hp}(t:CT P qual pos H):∃ps,H P=some (.tbl ps):=by
 rcases t with h|⟨c,h,_⟩
 ·exact⟨_,h⟩
 ·exact⟨_,h⟩
theorem CT.same {P:Addr}{qual:Str}{pos:Pos}{H H':Hp}(t:CT P qual pos H)(e:AA H H'):CT P qual pos H':=by
 rcases t with h|⟨c,h,h2⟩
 ·exact .inl (e _ _ h)
 ·exact .inr ⟨c,e _ _ h,e _ _ h2⟩
theorem Co.free {P:Addr}{qual:Str}{pos:Pos}{H H':Hp}(e:Co P H H')(t:CT P qual pos H'){l:Addr}(h:H' l=none):H l=none:=by
 cases q:H l with
 |none=>rfl
 |some o=>
  by_cases z:l=P
  ·obtain⟨ps,hp⟩:=t.some;rw[z,hp] at h;cases h
  ·rw[e l o z q] at h;cases h
theorem Co.get {P:Addr}{qual:Str}{pos:Pos}{H H':Hp}(e:Co P H H')(t:CT P qual pos H){b:Addr}{o:HO}(h:H b=some o)(n:∀ps,o≠.tbl ps):H' b=some o:=by
 refine e b o (λz=>?_) h;obtain⟨ps,hp⟩:=t.some;rw[z,hp] at h;exact n ps (aI h).symm
theorem Co.sqT {P:Addr}{qual:Str}{pos:Pos}{K:PySem.W.Frag}{H H':Hp}{a:Addr}{xs:List V}(e:Co P H H')(t:CT P qual pos H)(h:AJ K H a xs):AJ K H' a xs:=by
 rcases h with(h|⟨o,h⟩)|h
 ·exact .inl (.inl (e.get t h (by intro _ z;cases z)))
 ·exact .inl (.inr ⟨o,e.get t h (by intro _ z;cases z)⟩)
 ·exact .inr h
theorem Co.sqL {P:Addr}{qual:Str}{pos:Pos}{K:PySem.W.Frag}{H H':Hp}{a:Addr}{xs:List V}(e:Co P H H')(t:CT P qual pos H)(h:AR K H a xs):AR K H' a xs:=by
 rcases h with(h|⟨o,h⟩)|h
 ·exact .inl (.inl (e.get t h (by intro _ z;cases z)))
 ·exact .inl (.inr ⟨o,e.get t h (by intro _ z;cases z)⟩)
 ·exact .inr h
theorem Inv.tabled {P:Addr}{ps more:Array Value}{h':Heap}{t':Nat}(I:Inv X pins σ H s)(hP:H P=some (.tbl ps))(k:∀b o,b≠P->s.heap.get? b=some o->h'.get? b=some o)(hP':h'.get? P=some { cls:=.none,data:=.fields (ps++more) }) :
  Inv X pins σ (upd H P (.tbl (ps++more))) { s with heap:=h',toks:=t' }:=by
 have nP:∀b,H b=none->b≠P:=λb e z=>by rw[z,hP] at e;cases e
 have nt:∀{b:Addr} {u:HO},H b=some u->(∀ps,u≠.tbl ps)->upd H P (.tbl (ps++more)) b=some u:=λ{b u} e n=>by
  rw[An λz=>by rw[z,hP] at e;exact n _ (aI e).symm];exact e
 refine I.step (g':=s.gens) (d':=s.drawn) (ch:=[]) (λ_ z=>nomatch z) (λb o _ _ _ e n=>k b o (nP b n) e) (λb o _ _ _ e n=>⟨o.slots,k b o (nP b n) e⟩) (λb o _ _ n=>by rw[An (nP b n)];exact n) (λb o _ e=>?_)
  (λb xs e=>nt e (by intro _ z;cases z)) (λb o u e=>nt e (by intro _ z;cases z)) (λb qs e=>?_) (λm hm=>?_) (λb u e=>?_) I.bare
 ·by_cases z:b=P
  ·exact⟨_,by rw[z];exact hP'⟩
  ·exact⟨o,k b o z e⟩
 ·by_cases z:b=P
  ·rw[z,hP] at e;cases e;exact⟨more,by rw[z,Ac]⟩
  ·exact⟨#[],by rw[An z,e];simp⟩
 ·obtain⟨o,es,ep,ho,r⟩:=hm;exact⟨o,es,ep,k _ o (nP _ I.free) ho,r⟩
 ·by_cases z:b=P
  ·rw[z,Ac] at e;cases e;rw[z];exact hP'
  ·rw[An z] at e;refine(I.hok b u e).stay (λc v hc q=>k c v ?_ q) (λc q=>nt q (by intro _ z;cases z)) λc xs q=>nt q (by intro _ z;cases z)
   rcases hc with rfl|hc
   ·exact z
   ·intro y;rw[y,hP] at hc;cases hc
theorem Il {α:Type}:∀{ts:List (Addr×α)} {its:List Value},AW (ts.map λt=>V.ref t.1) its->its=ts.map λt=>Value.ref t.1
 |[],_,.nil=>rfl
 |t::ts,_,.cons r h=>by
  cases r;rw[aD,Il h]
theorem GX {α:Type}:∀(ts:List (Addr×α)),AW (ts.map λt=>V.ref t.1) (ts.map λt=>Value.ref t.1)
 |[]=>.nil
 |t::ts=>.cons rfl (GX ts)
theorem Rx {α:Type}(d:α)(ts:List (Addr×α)){idx:Array Nat}{lt:Nat->Nat->Bool}{R:α->α->Prop}(hp:Ki ts.length idx)(up:Gz lt idx ts.length)(hR:∀i j,i<ts.length->j<ts.length->lt i j=true->R (ts.getD i (0,d)).2 (ts.getD j (0,d)).2) :
  ∃us:List (Addr×α),us.Perm ts/\FG (ts.map λt=>Value.ref t.1) idx=us.map (λt=>Value.ref t.1)/\us.Pairwise λx y=>R x.2 y.2:=by
 have lt':∀i∈idx.toList,i<ts.length:=λi hi=>dJ.mp (hp.2.mem_iff.mp hi)
 refine⟨idx.toList.map λi=>ts.getD i (0,d),?_,?_,?_⟩
 ·have h3:=hp.2.map λi=>ts.getD i (0,d)
  have e3:(List.range ts.length).map (λi=>ts.getD i (0,d))=ts:=by
   refine List.ext_getElem? λi=>?_
   rw[aJ]
   by_cases hi:i<ts.length
   ·simp[hi]
   ·simp[hi]
  rw[e3] at h3;exact h3
 ·unfold FG;rw[ao];refine aB λi hi=>?_
  have hl:=lt' i hi;simp[hl]
 ·rw[bJ];intro i j hi hj hij;have hi':i<idx.size:=by simpa using hi
  have hj':j<idx.size:=by simpa using hj
  have h4:=up i j hij (by rw[<-hp.1];exact hj');have e5:idx.getD i 0=idx[i]:=by simp[Array.getD,hi']
  have e6:idx.getD j 0=idx[j]:=by simp[Array.getD,hj']
  rw[e5,e6] at h4;simp only[List.getElem_map,Array.getElem_toList];exact hR _ _ (lt' _ (by simp)) (lt' _ (by simp)) h4
theorem FP {α:Type}{d:α}{l:List α}(nd:l.Nodup){i j:Nat}(hi:i<l.length)(hj:j<l.length)(hij:i≠j):l.getD i d≠l.getD j d:=by
 have e1:l.getD i d=l[i]:=by simp[hi]
 have e2:l.getD j d=l[j]:=by simp[hj]
 rw[e1,e2];have pw:=bJ.mp nd;intro z;rcases Nat.lt_or_gt_of_ne hij with q|q
 ·exact pw i j hi hj q z
 ·exact pw j i hj hi q z.symm
theorem Qo:∀{ks:List Value} {kz:List Int},ks.length=kz.length->(∀(i:Nat) k,ks[i]?=some k->∃t,k=.int (kz.getD i 0) t)->IntsAre ks kz
 |[],[],_,_=>.nil
 |[],_::_,h,_=>by cases h
 |_::_,[],h,_=>by cases h
 |k::ks,z::kz,h,hk=>by
  obtain⟨t,e⟩:=hk 0 k rfl;rw[show k=Value.int z t from e];exact .cons z t (Qo (by simpa using h) λi k' q=>by
   have:=hk (i+1) k' (by simpa using q);simpa using this)
theorem Tt {prog:Program}{w:World}{A:Around}{ks:List Value}{kz:List Int}(nd:kz.Nodup)(hl:ks.length=kz.length)(hk:∀(i:Nat) k,ks[i]?=some k->∃t,k=.int (kz.getD i 0) t) :
  Ordr ks.length (λi j=>decide (kz.getD i 0<kz.getD j 0)) (PySem.W.kas_ask prog w A oneType' ks) s:=by
 refine⟨λi j C hi hj hij hC=>?_,λi j k _ _ _ h1 h2=>?_,λi j hi hj hij h1=>?_⟩
 ·obtain⟨t,e⟩:=hk i _ (ak hi);obtain⟨u,e'⟩:=hk j _ (ak hj);unfold PySem.W.kas_ask;rw[show ks.getD i Value.none=.int (kz.getD i 0) t by rw[<-e];simp[hi],show ks.getD j Value.none=.int (kz.getD j 0) u by rw[<-e'];simp[hj]];exact PySem.W.kat_lt_int hC
 ·rw[bN] at *;omega
 ·rw[cF] at h1;rw[bN];have:=FP (d:=0) nd (by omega:i<kz.length) (by omega:j<kz.length) hij;omega
end
end L2
namespace L2
section
open PySem PySem.Spec PyProof.Rows PySem.Calls
variable {X:Cx}
structure LamAt (K:PySem.W.Frag) (mg:Str->Option Value) (base:Heap) (cdv:Value) (P:Addr):Prop where
 code:∃c,cdv=.ref c/\PySem.W.codeHdIn K c P=true
 bm:∃bm ob,mg "__builtins__"=some (.ref bm)/\bm≠builtinsNs/\bm≠mainGlobals/\base.get? bm=some ob/\ob.cls=.type "module"/\ob.dict=some builtinsNs/\ob.data=.plain
structure LamTx (x:Str) (params:Arguments) (scope:Scope):Prop where
 bind:∀(qual:Str) (body:Expr) (pm cv ctv u:Value),bindArgs (PySem.W.kla_fn "<lambda>" qual params body scope [] pm cv ctv) ⟨[u],[]⟩=pure [(x,u)]
 dflt:∀env,defaultsOf params env=([],[])
 clos:∀env,closureFor scope env=pure []
 loc:scope.names.lookup x=some .local
 kind:scope.kind=.function
 co:scope.isCoroutine=false
 ge:scope.isGenerator=false
 ce:∀y∈scope.names,y.2≠.cell
 db:(x == ("__debug__":Str))=false
theorem QB {params:Arguments} {body:Expr} {scope:Scope} {cl:List (Str×Addr)} {lp:Pos} {P:Addr} {pins:List (Addr×Obj)} {σ:St} {H:Hp} {s:Shared} {Q:Value->Shared->Prop} {E:Value->Shared->Prop} (dfl:∀env,defaultsOf params env=([],[])) (hcl:closureFor scope X.env=pure cl) (at_:LamAt X.K X.mg X.base X.env.code P) (I:Inv X pins σ H s) (tb:CT P (X.env.qual++"<lambda>") lp H)
  (h:∀f c' pm ctv H2 s2,Inv X pins σ H2 s2->Co P H H2->CT P (X.env.qual++"<lambda>") lp H2->s2.heap.get? f=some (Rr (X.env.qual++"<lambda>") params body scope cl pm (.ref c') ctv)->s2.heap.CodeRec (.ref c') (X.env.qual++"<lambda>")->Q (.ref f) s2) :
  wpAny (model X.prog X.w) X.A (eval (.Lambda params body scope lp) X.env) Q E s:=by
 obtain⟨⟨c,hc,hcd⟩,bm,ob,b1,b2,b3,b4,b5,b6,b7⟩:=at_;have C:=fO I.kIn hcd;have hg:s.heap.Ns mainGlobals X.mg:=I.mod.glob.keeps I.bk;have atP:∀{ps:Array Value},H P=some (.tbl ps)->s.heap.get? P=some (PySem.W.tabObj ps):=λ{ps} e=>I.hok P _ e
 have hgP:∀{ps:Array Value},H P=some (.tbl ps)->mainGlobals≠P:=λ{ps} e q=>by
  obtain⟨o,es,ep,e1,hd,_⟩:=hg;rw[q,atP e] at e1;cases e1;cases hd
 have bb:∀{ps:Array Value},H P=some (.tbl ps)->s.heap.BuiltinsAt X.mg P:=λ{ps} e=>⟨bm,ob,b1,b2,b3,(λq=>by
  have e1:=I.bk _ _ b4;rw[q,atP e] at e1;cases e1;cases b5),I.bk _ _ b4,b5,b6,b7⟩
 refine PySem.W.kla_eval (dfl _) ?_;rcases tb with e|⟨c',e,e2⟩
 ·refine PySem.W.kla_makeFunction (ps:=#[]) (mg:=X.mg) hcl I.ok.glob hg hc C (atP e) trivial rfl (hgP e) (bb e) λc' ctv h' tk hx hge hlt hrec htb=>?_
  have k1:∀b o,b≠P->s.heap.get? b=some o->(h'.push (PySem.W.kla_obj "<lambda>" (X.env.qual++"<lambda>") params body scope cl ((X.mg "__name__").getD .none) c' ctv)).get? b=some o:=λb o nb q=>ah _ (hx b o nb q)
  have I2:=I.tabled (t':=tk) (more:=#[rawInt lp.line,rawInt lp.col,.ref c']) e k1 (ah _ htb);have hr2:(h'.push (PySem.W.kla_obj "<lambda>" (X.env.qual++"<lambda>") params body scope cl ((X.mg "__name__").getD .none) c' ctv)).CodeRec (.ref c') (X.env.qual++"<lambda>"):=by
   obtain⟨c2,o,vs,t,z1,z2,z3⟩:=hrec;exact⟨c2,o,vs,t,z1,ah _ z2,z3⟩
  have n0:s.heap.get? c'=none:=cx hge;have nP:c'≠P:=λz=>by rw[z,atP e] at n0;cases n0
  have nH:H c'=none:=I.hok.fresh hge;have n2:upd H P (.tbl (#[] ++ #[rawInt lp.line,rawInt lp.col,.ref c'])) c'=none:=by rw[An nP];exact nH
  obtain⟨m,hn,_⟩:=id I.loc;obtain⟨oL,_,_,hoL,_⟩:=id hn;have I3:=I2.know (e:=c') (o:=RM c' (X.env.qual++"<lambda>")) (λxx=>by
   cases q:X.s₀.heap.get? c' with
   |none=>rfl
   |some o=>
    obtain⟨o',z⟩:=I.base.there c' o q xx;rw[n0] at z;cases z) (λz=>by rw[<-z,n0] at hoL;cases hoL) (λx c q z=>by
    obtain⟨w',oc,e1,_⟩:=I.cell x c q;rw[z,n0] at e1;cases e1) (λp hp z=>by
    have:=(I.pin p hp).1;rw[z,n0] at this;cases this) n2 (Uz hr2)
  refine h _ c' _ ctv _ _ I3 (λb o nb q=>?_) (.inr ⟨c',?_,Ac⟩) (ay _ rfl) hr2
  ·rw[An (λz=>by rw[z,nH] at q;cases q),An nb];exact q
  ·rw[An (Ne.symm nP),Ac];rfl
 ·obtain⟨hr,_,_⟩:Be X.prog X.w H s.heap c' (RM c' (X.env.qual++"<lambda>")):=I.hok c' _ e2;refine PySem.W.kla_makeFunctionHit (cv:=.ref c') (mg:=X.mg) hcl I.ok.glob hg hc C (atP e) ?_ ?_ (bb e) λctv h' tk k hsz=>?_
  ·exact(TriplesOk_snoc lp.line lp.col (.ref c') [] trivial:TriplesOk ([]++[rawInt lp.line,rawInt lp.col,.ref c']))
  ·exact(codeAmong_snoc (pos:=lp) (c:=.ref c') [] trivial rfl:codeAmong lp ([]++[rawInt lp.line,rawInt lp.col,.ref c'])=some (.ref c'))
  ·have k1:∀b o,s.heap.get? b=some o->(h'.push (Rr (X.env.qual++"<lambda>") params body scope cl ((X.mg "__name__").getD .none) (.ref c') ctv)).get? b=some o:=λb o q=>ah _ (k b o q)
   refine h _ c' _ ctv H _ (I.kept (t':=tk) k1) (.refl P H) (.inr ⟨c',e,e2⟩) (ay _ rfl) ?_;obtain⟨c2,o,vs,t,z1,z2,z3⟩:=hr;exact⟨c2,o,vs,t,z1,k1 _ _ z2,z3⟩
end
end L2
namespace L2
section
open PySem PySem.Spec PyProof.Rows PySem.Calls
variable {X:Cx}
def WJ (K:PySem.W.Frag)(P:Addr)(qual:Str)(lp:Pos)(j:Nat)(ta:TA):TE:=λσ H Q=>ta σ H λvs H1=>∃(a:Addr) (ts:List (Addr×Int)),vs=[.ref a]/\AR K H1 a (ts.map λt=>V.ref t.1)/\ts.length<64/\(∀t∈ts,∃xs,AJ K H1 t.1 xs/\xs[j]?=some (.int t.2))/\(ts.map (·.2)).Nodup/\CT P qual lp H1/\
 ∀(us:List (Addr×Int)) p H2,us.Perm ts->us.Pairwise (λx y=>x.2<y.2)->Co P H1 H2->CT P qual lp H2->H2 p=none->Q (.ref p) (upd H2 p (.lst (us.map λt=>V.ref t.1)))
theorem U1 {e:Expr} {ta:TA} {x:Str} {params:Arguments} {scope:Scope} {j:Nat} {P:Addr} {k:Nat} {p pos kp lp p1 p2 p3:Pos} {qual:Str} (hr:Room k X.A) (L:LamTx x params scope) (at_:LamAt X.K X.mg X.base X.env.code P) (hj:j<1000) (hq:X.env.qual++"<lambda>"=qual) (hg:Gl X "sorted") (hm:X.mg "sorted"=none) (ha:PA X [e] ta)
  (he:backTo pos (starEach [e] X.env)=(false,eval e X.env)::backTo pos (starEach [] X.env):=by rfl)
  (hpl:(backTo pos (starEach [e] X.env)).any (·.1)=false:=by rfl) :
  PE X (.Call (.Name "sorted" p) [e] [⟨some "key",.Lambda params (.Subscript (.Name x p1) (.Constant (.int j) 0 p2) p3) scope lp,kp⟩] pos) (WJ X.K P qual lp j ta):=by
 subst hq;intro pins s σ H Q I h;refine bM (Kr I hg hm Fo (P7 hpl rfl ?_));have hsp:=ha pos pins s σ H _ I h;rw[he] at hsp ⊢;refine evalArgs_kwB rfl (Bv hsp λus s1 ⟨vs,H1,I1,r1,q1⟩=>?_);obtain⟨a,ts,rfl,hl,few,ht,nd,tb,q⟩:=q1;obtain⟨u,rfl,ru⟩:=vals1 r1;cases ru;refine kws_cons (QB L.dflt (L.clos _) at_ I1 tb λf c' pm ctv H2 s2 I2 st tb2 hf hcr=>kws_nil ?_);obtain⟨its,rv,p1',hz⟩:=I2.list (st.sqL tb hl);have ei:=Il rv;have li:its.length=ts.length:=by rw[ei,ae]
 have gk:∀i,i<ts.length->(ts.map (·.2)).getD i 0=(ts.getD i (0,0)).2:=λi hi=>by simp[hi]
 refine Mh (vs:=its) (Ky:=λi k=>∃t,k=Value.int ((ts.map (·.2)).getD i 0) t) (lt:=λi j=>decide ((ts.map (·.2)).getD i 0<(ts.map (·.2)).getD j 0)) p1'.isList (by rw[li];exact few) (λi v hv h' tk k=>?_) (λks h' tk hlk hK k l2=>?_) λh' tk pp idx c hp up lp' k hc=>?_
 ·have il:i<ts.length:=by rw[<-li];exact(aH.mp hv).1
  have ev:v=.ref (ts[i]).1:=by
   rw[ei,aJ,ak il] at hv;exact(aI hv).symm
  subst ev;obtain⟨xs,hx,hxj⟩:=ht _ (bB il);obtain⟨ys,r2,hy,_⟩:=I2.tuple (st.sqT tb hx);obtain⟨y,hyj,ry⟩:=r2.get hxj;obtain⟨t,rfl⟩:=ry;have cr:h'.CodeRec (.ref c') (X.env.qual++"<lambda>"):=by
   obtain⟨c2,o,vs,t,z1,z2,z3⟩:=hcr;exact⟨c2,o,vs,t,z1,k _ _ z2,z3⟩
  refine aR (PB (s:={ s2 with heap:=h',toks:=tk }) (A:=X.A.in1.in1) (items:=ys.toArray) (j:=j) (v:=.int (ts[i]).2 t) (k _ _ hf) cr (I2.nolimit.keeps k) hr.depth (λu=>L.bind _ _ _ _ _ u) L.loc L.kind L.co L.ge L.ce L.db hj (hy.keeps k) (by simpa using hyj)) (λkv s' z=>?_) λ_ _ z=>z
  obtain⟨rfl,h3,tk3,rfl,k3⟩:=z;exact⟨⟨t,by rw[gk i il];simp[il]⟩,h3,tk3,rfl,k3⟩
 ·have hl2:ks.length=(ts.map (·.2)).length:=by rw[hlk,li,ae]
  rw[ksk_kind (kz:=ts.map (·.2)) (by simpa using Qo hl2 hK) (by rw[aF];omega)];refine ar ⟨rfl,?_⟩;have:=Tt (prog:=X.prog) (w:=X.w) (A:=X.A.in1.in1) (s:={ s2 with heap:=h',toks:=tk }) nd hl2 hK;rw[hlk] at this;exact this
 ·rw[li] at hp up;obtain⟨us,u1,u2,u3⟩:=Rx (0:Int) ts (R:=λa b=>a<b) hp up λi j hi hj hlt=>by
   rw[bN,gk i hi,gk j hj] at hlt;exact hlt
  rw[ei,u2] at hc;refine⟨.ref pp,_,I2.laid (t':=tk) (o:=.lst (us.map λt=>V.ref t.1)) k lp' ?_,rfl,q us pp H2 u1 u3 st tb2 (I2.hok.fresh lp')⟩;refine⟨?_,_,c,GX us,hc⟩;rw[ae,u1.length_eq,aZ];omega
end
end L2
namespace L2
section
open PySem PySem.Spec PyProof.Rows
def QZ (mg:Str->Option Value)(base:Heap):Prop:=∃bm ob,mg "__builtins__"=some (.ref bm)/\bm≠builtinsNs/\bm≠mainGlobals/\base.get? bm=some ob/\ob.cls=.type "module"/\ob.dict=some builtinsNs/\ob.data=.plain
def Uj (Ts:List Addr)(H:Hp):Prop:=(∀P∈Ts,H P=some (.tbl #[]))/\∀b,H b=none\/(∃o xs,H b=some (.frz o (.lst xs)))\/(b∈Ts/\H b=some (.tbl #[]))
def D9 (own:Hp)(Ts:List Addr):Hp:=λb=>if b∈Ts then some (.tbl #[]) else own b
theorem SY {P:Program} {w:World} {K:PySem.W.Frag} {mg mb:Str->Option Value} {CX:RH} {k:Nat} {fa a:Addr} {fd:FuncData} {x:Str} {sp:Sp} {s₁:Shared} {vs:List Value} {ns:List Int} {Ts:List Addr}
  (KX:K.In s₁.heap) (hns:s₁.heap.Ns mainGlobals mg) (hb:s₁.heap.Ns builtinsNs mb) (hbb:∀x:Str,x≠"__name__"->mb x=bootBuiltins x) (hlim:s₁.heap.NoLimit) (hbm:QZ mg s₁.heap) (hg:s₁.gens = #[])
  (tabs:∀T∈Ts,s₁.heap.get? T=some (PySem.W.tabObj #[])/\K.lookup T=none/\∃c,PySem.W.codeHdIn K c T=true)
  (ha:s₁.heap.get? a=some { cls:=.type "list",data:=.seq vs.toArray }) (hi:IntsAre vs ns) (hl:ns.length<=sizeLine) (hr:Room k callerA)
  (F:∀base:Heap,K.In base->base.Ns mainGlobals mg->QZ mg base->FnOk P w K mg base CX k fa fd [x] sp) (hbind:∀(s:Shared) (u:Value),BindsTo s fd ⟨[u],[]⟩ [(x,u)])
  (hsp:∀H:Hp,Uj Ts H->AR K H a (ns.map V.int)->sp [.ref a] H (λv _=>v=.bl true) λ_ _ _=>False)
  (hCX:∀H e s',CX [] H s₁ (λ_ _ _=>False) e s'->False) :
  codeAny (model P w) callerA (.call (.ref fa) ⟨[.ref a],[]⟩) (λr s'=>r=.ok (.ret (.bool true))/\OldK s₁.heap s'.heap/\s'.os=s₁.os/\AllBare s'.gens) s₁:=by
 have aT:a∉Ts:=λz=>by
  have:=(tabs a z).1;rw[ha] at this;cases this
 have core:∀own:Hp,(∀b,own b=none\/∃o xs,own b=some (.frz o (.lst xs)))->AR K own a (ns.map V.int)->Im P w own s₁.heap->(∀b,own b≠none->b=a)->(own a≠none->K.lookup a=none)->
   codeAny (model P w) callerA (.call (.ref fa) ⟨[.ref a],[]⟩) (λr s'=>r=.ok (.ret (.bool true))/\OldK s₁.heap s'.heap/\s'.os=s₁.os/\AllBare s'.gens) s₁:=by
  intro own hO hS hok hA hK;have inT:∀{b},b∈Ts->D9 own Ts b=some (.tbl #[]):=λ{b} h=>aw h
  have notT:∀{b},b∉Ts->D9 own Ts b=own b:=λ{b} h=>aj h
  have only:Uj Ts (D9 own Ts):=⟨λT hT=>inT hT,λb=>by
   by_cases z:b∈Ts
   ·exact .inr (.inr ⟨z,inT z⟩)
   ·rw[notT z];exact(hO b).imp id .inl⟩
  have hok':Im P w (D9 own Ts) s₁.heap:=λb u e=>by
   by_cases z:b∈Ts
   ·rw[inT z] at e;cases e;exact(tabs b z).1
   ·rw[notT z] at e;rcases hO b with q|⟨o,xs,q⟩
    ·rw[q] at e;cases e
    ·rw[q] at e;cases e;obtain⟨e1,e2⟩:=hok b _ q;exact⟨e1,e2⟩
  have free:∀{b:Addr} {o:Obj},s₁.heap.get? b=some o->o.cls≠.none->b≠a->D9 own Ts b=none:=λ{b o} e hc na=>by
   have z:b∉Ts:=λz=>by
    have:=(tabs b z).1;rw[e] at this;cases this;exact hc rfl
   rw[notT z];cases q:own b with
   |none=>rfl
   |some u=>exact absurd (hA b (by rw[q];simp)) na
  have freeN:∀{b:Addr} {o:Obj} {es:Array DictEntry} {ep:Nat},s₁.heap.get? b=some o->o.data=.dict es ep->D9 own Ts b=none:=λ{b o es ep} e d=>by
   have z:b∉Ts:=λz=>by
    have:=(tabs b z).1;rw[e] at this;cases this;cases d
   rw[notT z];cases q:own b with
   |none=>rfl
   |some u=>
    have:=hA b (by rw[q];simp);subst this;rw[ha] at e;cases e;cases d
  have nsK:∀{b:Addr} {m:Str->Option Value},s₁.heap.Ns b m->(Ou s₁.heap (D9 own Ts)).Ns b m:=λ{b m} ⟨o,es,ep,e,d,r⟩=>⟨o,es,ep,MO e (freeN e d),d,r⟩
  have hKb:K.In (Ou s₁.heap (D9 own Ts)):=λb o e=>MO (KX b o e) (by
   have z:b∉Ts:=λz=>by rw[(tabs b z).2.1] at e;cases e
   rw[notT z];cases q:own b with
   |none=>rfl
   |some u=>
    have e':b=a:=hA b (by rw[q];simp);subst e';rw[hK (by rw[q];simp)] at e;cases e)
  have hM:Mod K mg (Ou s₁.heap (D9 own Ts)):=⟨hKb,nsK hns,⟨mb,nsK hb,hbb⟩,let⟨mc,h1,h2⟩:=hlim;⟨mc,nsK h1,h2⟩⟩
  have hB:QZ mg (Ou s₁.heap (D9 own Ts)):=by
   obtain⟨bm,ob,b1,b2,b3,b4,b5,b6⟩:=hbm;refine⟨bm,ob,b1,b2,b3,MO b4 (free b4 (by rw[b5];intro z;cases z) λz=>?_),b5,b6⟩;rw[z,ha] at b4;cases b4;exact absurd b5 (by intro y;injection y with y;exact absurd y (by decide))
  have e0:Env0 P w K mg (Ou s₁.heap (D9 own Ts)) callerA [] s₁ (D9 own Ts):=⟨rfl,hM,λb o e=>Wa e,dC (Tf _ _),trivial,λb hb=>absurd (show b∈([]:List Addr) from hb) (by simp),hok',.of_eq hg⟩
  have hS':AR K (D9 own Ts) a (ns.map V.int):=by
   rcases hS with(h|⟨o,h⟩)|h
   ·exact .inl (.inl (by rw[notT aT];exact h))
   ·exact .inl (.inr ⟨o,by rw[notT aT];exact h⟩)
   ·exact .inr h
  refine cA ((F _ hKb (nsK hns) hB).run callerA [] s₁ (D9 own Ts) ⟨[.ref a],[]⟩ [.ref a] [.ref a] _ _ hr e0 (hbind s₁ (.ref a)) (.cons rfl .nil) (hsp _ only hS')) λr s' h=>?_
  match r,h with
  | .error e,h=>exact(hCX _ e s' h).elim
  | .ok (.ret u),h=>
   obtain⟨v,H',os,bare,un,hok2,r',q⟩:=h;have q':v=.bl true:=q;subst q';obtain rfl:u=Value.bool true:=r';refine⟨rfl,⟨λb o e=>?_,λb o e=>?_⟩,os,bare⟩
   ·rcases only.2 b with z|⟨ob,xs,z⟩|⟨zT,z⟩
    ·exact .inl (un.keep b o e z (by intro y;exact absurd (show b∈([]:List Addr) from y) (by simp)) (by simp))
    ·obtain⟨e1,_⟩:=hok' b _ z;obtain⟨e2,_⟩:=hok2 b _ (un.frzs b ob _ z);rw[e] at e1;cases e1;exact .inl e2
    ·obtain⟨t1,_,c,t3⟩:=tabs b zT;obtain⟨more,m1⟩:=un.tbls b _ z;have m2:s'.heap.get? b=some { cls:=.none,data:=.fields (#[]++more) }:=hok2 b _ m1;rw[e] at t1;cases t1;exact .inr (.inl ⟨((fO KX t3).tab e).isCodeTable,rfl,#[],more,rfl,m2⟩)
   ·exact un.there b o e (by simp)
 cases hk:K.lookup a with
 |some o=>
  have e:=KX a o hk;rw[ha] at e;cases e;refine core (λ_=>none) (λ_=>.inl rfl) (.inr ⟨_,vs.toArray,_,hk,rfl,rfl,rfl,by rw[aF,hi.length];exact hl,by simpa using KQ hi⟩) (λb u z=>by cases(show(none:Option HO)=some u from z)) (λb z=>absurd rfl z) λz=>absurd rfl z
 |none=>
  refine core (λb=>if b=a then some (.frz { cls:=.type "list",data:=.seq vs.toArray } (.lst (ns.map V.int))) else none) (λb=>?_) (.inl (.inr ⟨{ cls:=.type "list",data:=.seq vs.toArray },aw rfl⟩)) (λb u z=>?_) (λb z=>?_) λ_=>hk
  ·by_cases hb:b=a
   ·exact .inr ⟨_,_,aw hb⟩
   ·exact .inl (aj hb)
  ·by_cases hb:b=a
   ·cases(aw hb).symm.trans z;subst hb;exact⟨ha,by rw[ae];exact hl,vs,_,KQ hi,ha⟩
   ·cases(aj hb).symm.trans z
  ·by_cases hb:b=a
   ·exact hb
   ·exact absurd (aj hb) z
theorem Ut {l:PySem.W.OpenLaw} {n k:Nat} {q:Program} {loose:List Str} {XP:(Str->Option Value)->Heap->Prop} {YP:World->Heap->Prop} {d:DefRec} {K:Params->PySem.W.Frag} {CX:World->RH} {sp:World->Sp} {x:Str} {Ts:List Addr}
  (hn:l.most=some n) (hn2:n<=sizeLine) (hdf:d.params.defaults=[]) (hr:Room k callerA)
  (hY:∀(w:World) (h:Heap),YP w h->(K w.params).In h) (hT:∀(w:World) (h:Heap),YP w h->∀T∈Ts,h.get? T=some (PySem.W.tabObj #[]))
  (F:∀(w:World) (mg:Str->Option Value) (fa:Addr) (h:Heap),(K w.params).In h->h.Ns mainGlobals mg->mg d.name=some (.ref fa)->
   ∃fd:FuncData,(∀(s:Shared) (u:Value),BindsTo s fd ⟨[u],[]⟩ [(x,u)])/\(∀T∈Ts,(K w.params).lookup T=none/\∃c,PySem.W.codeHdIn (K w.params) c T=true)/\
    ∀base:Heap,(K w.params).In base->base.Ns mainGlobals mg->QZ mg base->FnOk l.prog w (K w.params) mg base (CX w) k fa fd [x] (sp w))
  (hsp:∀(w:World) (H:Hp) (a:Addr) (ns:List Int),ns.length<=n->Uj Ts H->AR (K w.params) H a (ns.map V.int)->sp w [.ref a] H (λv _=>v=.bl true) λ_ _ _=>False)
  (hCX:∀(w:World) (H:Hp) (s:Shared) (e:Value) (s':Shared),CX w [] H s (λ_ _ _=>False) e s'->False) :
  PySem.W.WalkO q loose XP YP l.row.toRowW d [] (λf vs=>PySem.call f vs):=by
 refine Att.Qa hn hdf λw s₀ s₁ mg mb fa o pm cd doc a vs ns G Y ho hd hcd hmg hobj hints hlen hg=>?_
 have KX:=hY w _ Y;obtain⟨fd,hb,ht,hF⟩:=F w mg fa _ KX G.T.g hmg;have bm:QZ mg s₁.heap:=by
  obtain⟨bm,ob,b1,b2,b3,b4,b5,b6⟩:=G.T.bmain;refine⟨bm,ob,b1,b2,λz=>?_,b3,b4,b5,b6⟩;obtain⟨o,es,ep,e,hd,_⟩:=G.T.g;rw[z,e] at b3;cases b3;rw[hd] at b6;cases b6
 exact SY KX G.T.g G.T.b G.T.builtins G.T.nolimit bm hg (λT h=>⟨hT w _ Y T h,ht T h⟩) hobj hints (aV hlen hn2) hr hF hb (λH hO hS=>hsp w H a ns hlen hO hS) λH e s'=>hCX w H s₁ e s'
theorem Fun.okC {P:Program} {w:World} {K:PySem.W.Frag} {mg:Str->Option Value} {base:Heap} {x qual:Str} {st:Stmt} {f:Addr} {fd:FuncData} {N ps:List Str} {k:Nat} {sp:Sp} (F:Fun K x qual st f fd) (S:FnScope N ps (Ad st)) (len:∀vs H Q E,sp vs H Q E->vs.length=ps.length)
  (hbody:∀(cdv:Value) (A:Around) (outer:List Env) (s:Shared) (H:Hp) (vs:List V) (Q:VK) (E:XK),fd.code=cdv->Room k (A.deeper (PyProof.Rows.envOfC qual (Ad st) s.heap.objs.size f cdv))->sp vs H Q E->
   ∃t,On (AZ EL P w K mg base N qual (Ad st) f cdv A outer s H E).nox (Al st) t/\t { nx:=λ_ H'=>Q .non H',rt:=Q } (start N vs) H):FnOk P w K mg base EL (k+1) f fd ps sp:=by
 obtain⟨oc,od,kV,doc,pm,an,cdv,ct,osl,rfl,lk,hcd⟩:=F.ex;refine Uo lk hcd S len λA outer s H vs Q E hr hsp=>?_
 obtain⟨t,h,q⟩:=hbody cdv A outer s H vs Q E rfl hr hsp;exact⟨t,h.nox,q⟩
end
end L2
namespace L2
section
open PySem PySem.W PySem.Calls PyProof.Rows
variable {prog:Program}{w:World}{A:Around}{s:Shared}{X:Cx}
theorem RC {xs:Array Value}{v:Value}(h:xs[0]?=some v):∃r,xs.toList=v::r:=by
 obtain⟨l⟩:=xs;cases l with
 |nil=>simp at h
 |cons y r=>exact⟨r,by simp at h;rw[h]⟩
theorem Te {vs:List Value}{kz:List Int}(nd:kz.Nodup)(hl:vs.length=kz.length)(hv:∀(i:Nat) x,kz[i]?=some x->∃(a:Addr) (o:Obj) (t:Tok) (xs:Array Value) (n:Nat),vs[i]?=some (.ref a)/\s.heap.get? a=some o/\o.data=.seq xs n/\xs[0]?=some (.int x t)) :
  Ordr vs.length (λi j=>decide (kz.getD i 0<kz.getD j 0)) (kas_ask prog w A (tuples' true) vs) s:=by
 have get:∀i,i<vs.length->kz[i]?=some (kz.getD i 0):=λi hi=>by
  rw[hl] at hi;simp[hi]
 refine⟨λi j C hi hj hij hC=>?_,λi j k _ _ _ h1 h2=>?_,λi j hi hj hij h1=>?_⟩
 ·obtain⟨a,o,t,xs,n,e1,e2,e3,e4⟩:=hv i _ (get i hi);obtain⟨a',o',t',xs',n',f1,f2,f3,f4⟩:=hv j _ (get j hj);unfold kas_ask;rw[show vs.getD i Value.none=.ref a by simp[e1],show vs.getD j Value.none=.ref a' by simp[f1]];obtain⟨r,er⟩:=RC e4;obtain⟨r',er'⟩:=RC f4;refine kat_lt e2 e3 f2 f3 ?_;rw[er,er',List.zip_cons_cons];refine kat_cons (wpAny_eqBool_int ?_);have ne:=FP (d:=0) nd (by omega:i<kz.length) (by omega:j<kz.length) hij;rw[show(kz.getD i 0 == kz.getD j 0)=false from bG.mpr ne];exact kat_no (oneLt_int hC)
 ·rw[bN] at *;omega
 ·rw[cF] at h1;rw[bN];have:=FP (d:=0) nd (by omega:i<kz.length) (by omega:j<kz.length) hij;omega
def Vn (K:PySem.W.Frag):List V->Hp->VK->Prop:=λxs H Q=>∃(a:Addr) (ts:List (Addr×Int)),xs=[.ref a]/\AR K H a (ts.map λt=>V.ref t.1)/\ts.length<64/\(∀t∈ts,∃r,AJ K H t.1 (.int t.2::r))/\(ts.map (·.2)).Nodup/\
 ∀(us:List (Addr×Int)) p,us.Perm ts->us.Pairwise (λx y=>x.2<y.2)->H p=none->Q (.ref p) (upd H p (.lst (us.map λt=>V.ref t.1)))
theorem R7 {h':Heap}{T:Value->Prop}:∀(l:List Value),(∀v∈l,∃(b:Addr) (o:Obj) (f:Value) (xs:Array Value) (n:Nat),v=.ref b/\h'.get? b=some o/\o.cls=.type "tuple"/\o.data=.seq xs n/\xs[0]?=some f/\T f)->∃fs,KatTups h' l fs/\fs.length=l.length/\∀v∈fs,T v
 |[],_=>⟨[],.nil,rfl,λ_ h=>nomatch h⟩
 |v::l,hl=>by
  obtain⟨fs,a1,a2,a3⟩:=R7 l λu hu=>hl u (aK _ hu)
  obtain⟨b,o,f,xs,n,rfl,e1,e2,e3,e4,e5⟩:=hl v aM;refine⟨f::fs,.cons e1 e2 e3 e4 a1,by rw[bg,bg,a2],λu hu=>?_⟩;rcases aL.mp hu with rfl|hu
  ·exact e5
  ·exact a3 u hu
theorem P9 {K:PySem.W.Frag}(hK:X.K=K):FO X (.builtin "sorted") (Vn K):=by
 subst hK;intro pins s σ H xs us Q I r h;obtain⟨a,ts,rfl,h1,few,ht,nd,q⟩:=h;obtain⟨u,rfl,ru⟩:=vals1 r;cases ru;obtain⟨its,r1,p1,_⟩:=I.list h1;have ei:=Il r1;have li:its.length=ts.length:=by rw[ei,ae]
 refine S0 (collect_list p1.isList ?_ (by rw[li,aZ];omega));have old:∀b o,s.heap.get? b=some o->((s.heap.push (seqObj "list" #[] 0)).update s.heap.objs.size (Obj.mapSeq λx=>x++its.toArray)).get? b=some o:=λb o e=>(aY _ _ (cn (aA e))).trans (ah _ e)
 have hsz:s.heap.objs.size<=((s.heap.push (seqObj "list" #[] 0)).update s.heap.objs.size (Obj.mapSeq λx=>x++its.toArray)).objs.size:=by rw[cP,bF];exact dI _
 generalize (s.heap.push (seqObj "list" #[] 0)).update s.heap.objs.size (Obj.mapSeq λx=>x++its.toArray)=h1 at old hsz ⊢;have gk:∀i,i<ts.length->(ts.map (·.2)).getD i 0=(ts.getD i (0,0)).2:=λi hi=>by simp[hi]
 have tup:∀(i:Nat) x,(ts.map λt=>t.2)[i]?=some x->∃(b:Addr) (o:Obj) (t:Tok) (xs:Array Value) (n:Nat),its[i]?=some (.ref b)/\s.heap.get? b=some o/\o.cls=.type "tuple"/\o.data=.seq xs n/\xs[0]?=some (.int x t):=λi x hx=>by
  rw[aJ] at hx;obtain⟨y,hi,rfl⟩:=bA.mp hx;obtain⟨r,hr⟩:=ht y (aU hi);obtain⟨ys,rv,⟨o,e1,e2,n,e3⟩,_⟩:=I.tuple hr;cases rv with
  |cons rv _=>
   obtain⟨t,rfl⟩:=rv;exact⟨y.1,o,t,_,n,by rw[ei,aJ,hi];rfl,e1,e2,e3,by simp⟩
 refine⟨λi j=>decide ((ts.map (·.2)).getD i 0<(ts.map (·.2)).getD j 0),by rw[li];exact few,λA' h' k h2=>?_,λh' p idx c hp up lp k e=>?_⟩
 ·obtain⟨fs,kt,kf⟩:=R7 (h':=h') (T:=λv=>∃x t,v=Value.int x t) its λv hv=>by
   obtain⟨i,hi⟩:=fK hv;have lt:i<ts.length:=by rw[<-li];exact(aH.mp hi).1
   obtain⟨b,o,t,xs,n,e1,e2,e3,e4,e5⟩:=tup i _ (ak (by rw[ae];exact lt));rw[hi] at e1;cases e1;exact⟨b,o,_,xs,n,rfl,k _ _ (old _ _ e2),e3,e4,e5,_,t,rfl⟩
  refine kat_kind (T:=.type "int") kt (by rw[kf.1];omega) (λv hv=>?_) (by decide) ⟨rfl,?_⟩
  ·obtain⟨x,t,rfl⟩:=kf.2 v hv;exact .now
  ·refine Te nd (by rw[li,ae]) λi x hx=>?_
   obtain⟨b,o,t,xs,n,e1,e2,_,e4,e5⟩:=tup i x hx;exact⟨b,o,t,xs,n,e1,k _ _ (old _ _ e2),e4,e5⟩
 ·rw[li] at hp up;obtain⟨us,u1,u2,u3⟩:=Rx (0:Int) ts (R:=λa b=>a<b) hp up λi j hi hj hlt=>by
   rw[bN,gk i hi,gk j hj] at hlt;exact hlt
  rw[ei,u2] at e;have lp':s.heap.objs.size<=p:=aV hsz lp;refine⟨.ref p,_,I.laid (t':=s.toks) (o:=.lst (us.map λt=>V.ref t.1)) (λb o e=>k b o (old b o e)) lp' ?_,rfl,q us p u1 u3 (I.hok.fresh lp')⟩;refine⟨?_,_,c,GX us,e⟩;rw[ae,u1.length_eq,aZ];omega
end
end L2
namespace L2
section
open PySem
variable {α:Type}
theorem Fq {J:It} {ps:List α} {g:α->V} {fr:List (Option Nat)} {k:Nat} {tt:TT} {te:TE} {Q:VK} {σ:St} {H:Hp} (p:α->Bool) (P:α->V->Hp->Prop) (hP:∀x y H1 H2,P x y H1->AA H1 H2->P x y H2)
  (hU:∀x y H1 l us us',P x y H1->H1 l=some (.lst us)->P x y (upd H1 l (.lst us'))) (hJ:JC J H (ps.map g)) (hn:ps.length<=1000000)
  (htest:∀x∈ps,∀(H':Hp) (R:Bool->Hp->Prop),AA H H'->(∀H'',AA H' H''->R (p x) H'')->tt ((stC fr σ).set k (some (g x))) H' R)
  (helt:∀x∈ps,p x=true->∀(H':Hp) (R:VK),AA H H'->(∀y H'',AA H' H''->P x y H''->R y H'')->te ((stC fr σ).set k (some (g x))) H' R)
  (hQ:∀l H' (ys:List (α×V)),H l=none->AA H H'->H' l=some (.lst (ys.map (·.2)))->ys.map (·.1)=ps.filter p->(∀q∈ys,P q.1 q.2 H')->Q (.ref l) H'):Jn fr (BD k) tt te σ Q J H:=by
 intro l hl;refine⟨λi m σ' H'=>m=ps.length-i/\i<=ps.length/\(∀y,σ'.set k y=(stC fr σ).set k y)/\AA H H'/\∃ys:List (α×V),H' l=some (.lst (ys.map (·.2)))/\ys.map (·.1)=(ps.take i).filter p/\∀q∈ys,P q.1 q.2 H',
  ⟨ps.length,by simp,bw _,λ_=>rfl,Ah hl _,[],by rw[Ac];rfl,rfl,λ_ h=>nomatch h⟩,?_⟩
 rintro i m σ' H' ⟨rfl,hi,hσ,hs,ys,hl',e1,hys⟩
 obtain⟨h1,h2,h3⟩:=hJ H' hs i;rw[ae] at h1 h2 h3
 by_cases hlt:i<ps.length
 ·refine .inr ⟨h1 hlt,λx H'' y=>?_⟩;obtain⟨rfl,hx⟩:=h2 x H'' y;have hx:=hx hlt;rw[aJ,ak hlt] at hx;cases hx;have hm:ps[i]∈ps:=bB hlt;have et:(ps.take (i+1)).filter p=(ps.take i).filter p++(if p ps[i]=true then[ps[i]] else[]):=by
   rw[cf,ak hlt,cE];cases q:p ps[i]<;>simp[q]
  have le:ys.length<=i:=by
   have a:=congrArg List.length e1;have b:=bf p (ps.take i);rw[ae] at a;rw[ba] at b;omega
  show tt (σ'.set k (some (g ps[i]))) H'' _;rw[hσ];refine htest _ hm H'' _ hs λH0 s0=>?_
  have hs0:=hs.trans s0;refine Dh (λc=>?_) (λc=>?_)
  ·refine helt _ hm c H0 _ hs0 λv H4 s4' hv=>?_
   have s4:=s0.trans s4';have hl4:=s4.get hl';refine⟨_,hl4,Ir (by rw[ae];omega),ps.length-(i+1),by omega,rfl,hlt,λy=>by rw[cO],Fv (hs.trans s4) hl _,ys++[(ps[i],v)],?_,?_,λq hq=>?_⟩
   ·rw[Ac,aS];rfl
   ·rw[et,aw c,aS,e1];rfl
   ·rcases aP.mp hq with h|h
    ·exact hU _ _ _ _ _ _ (hP _ _ _ _ (hys q h) s4) hl4
    ·rw[ax.mp h];exact hU _ _ _ _ _ _ hv hl4
  ·exact⟨ps.length-(i+1),by omega,rfl,hlt,λy=>by rw[cO],hs0,ys,s0.get hl',by rw[et,aj c,bz];exact e1,λq hq=>hP _ _ _ _ (hys q hq) s0⟩
 ·have e:i=ps.length:=by omega
  subst e;exact .inl ⟨h3 (aq _),hQ l H' ys hl hs hl' (by rw[e1,bj (aq _)]) hys⟩
theorem Vw {ys:List (α×V)}{f:α->V}(h:∀q∈ys,q.2=f q.1):ys.map (·.2)=(ys.map (·.1)).map f:=by
 rw[ao];exact aB λq hq=>h q hq
theorem Ti {J:It} {ps:List α} {g:α->V} {fr:List (Option Nat)} {k:Nat} {tt:TT} {te:TE} {Q:VK} {σ:St} {H:Hp} (p:α->Bool) (f:α->V) (hJ:JC J H (ps.map g)) (hn:ps.length<=1000000)
  (htest:∀x∈ps,∀(H':Hp) (R:Bool->Hp->Prop),AA H H'->(∀H'',AA H' H''->R (p x) H'')->tt ((stC fr σ).set k (some (g x))) H' R)
  (helt:∀x∈ps,p x=true->∀(H':Hp) (R:VK),AA H H'->(∀H'',AA H' H''->R (f x) H'')->te ((stC fr σ).set k (some (g x))) H' R)
  (hQ:∀l H',H l=none->AA H H'->H' l=some (.lst ((ps.filter p).map f))->Q (.ref l) H'):Jn fr (BD k) tt te σ Q J H:=by
 refine Fq p (λx y _=>y=f x) (λ_ _ _ _ h _=>h) (λ_ _ _ _ _ _ h _=>h) hJ hn htest (λx hx hp H' R s' hR=>helt x hx hp H' R s' λH'' s''=>hR _ H'' s'' rfl) λl H' ys nl s' h' e hq=>hQ l H' nl s' ?_
 rw[<-e,<-Vw hq];exact h'
theorem B2 {J:It} {ps:List α} {g:α->V} {fr:List (Option Nat)} {k:Nat} {tt:TT} {te:TE} {Q:VK} {σ:St} {H:Hp} (p:α->Bool) (f:α->V) (hJ:JC J H (ps.map g)) (hn:ps.length<=1000000)
  (htest:∀x∈ps,∀(H':Hp) (R:Bool->Hp->Prop),AA H H'->R (p x) H'->tt ((stC fr σ).set k (some (g x))) H' R)
  (helt:∀x∈ps,p x=true->∀(H':Hp) (R:VK),AA H H'->(∀H'',AA H' H''->R (f x) H'')->te ((stC fr σ).set k (some (g x))) H' R)
  (hQ:∀l H',H l=none->AA H H'->H' l=some (.lst ((ps.filter p).map f))->Q (.ref l) H'):Jn fr (BD k) tt te σ Q J H:=
 Ti p f hJ hn (λx hx H' R s' hR=>htest x hx H' R s' (hR H' (AA.refl _))) helt hQ
theorem Sq {K:PySem.W.Frag} {J:It} {ps:List α} {g:α->Addr} {A B f:α->V} {fr:List (Option Nat)} {i0 i1 n:Nat} {te:TE} {Q:VK} {σ:St} {H:Hp} (hJ:JC J H (ps.map λx=>V.ref (g x))) (hpr:∀x∈ps,H (g x)=some (.tup [A x,B x])) (hn:ps.length<=1000000) (h2:n=2) (hne:i0≠i1)
  (helt:∀x∈ps,∀(H':Hp) (R:VK),AA H H'->(∀H'',AA H' H''->R (f x) H'')->te (((stC fr σ).set i0 (some (A x))).set i1 (some (B x))) H' R)
  (hQ:∀l H',H l=none->AA H H'->H' l=some (.lst (ps.map f))->Q (.ref l) H'):Jn fr (Xa K n (UA (BD i0) (UA (BD i1) XB))) VH te σ Q J H:=by
 subst h2;intro l hl;refine⟨λi m σ' H'=>m=ps.length-i/\i<=ps.length/\(∀y z,(σ'.set i0 y).set i1 z=((stC fr σ).set i0 y).set i1 z)/\AA H H'/\H' l=some (.lst ((ps.take i).map f)),⟨ps.length,by simp,bw _,λ_ _=>rfl,Ah hl _,by rw[Ac];rfl⟩,?_⟩
 rintro i m σ' H' ⟨rfl,hi,hσ,hs,hl'⟩
 obtain⟨h1,h2,h3⟩:=hJ H' hs i;rw[ae] at h1 h2 h3
 by_cases hlt:i<ps.length
 ·refine .inr ⟨h1 hlt,λx H'' y=>?_⟩;obtain⟨rfl,hx⟩:=h2 x H'' y;have hx:=hx hlt;rw[aJ,ak hlt] at hx;cases hx;have hm:ps[i]∈ps:=bB hlt;refine⟨g ps[i],_,rfl,AJ.of (hs.get (hpr _ hm)),rfl,_,_,rfl,_,_,rfl,rfl,?_⟩;show te ((σ'.set i0 (some (A ps[i]))).set i1 (some (B ps[i]))) _ _;rw[hσ];refine helt _ hm H'' _ hs λH4 s4=>?_
  refine⟨_,s4.get hl',Ir (by rw[ae,ba];omega),ps.length-(i+1),by omega,rfl,hlt,λy z=>?_,Fv (hs.trans s4) hl _,?_⟩
  ·rw[List.set_comm _ _ (Ne.symm hne),cO,cO]
  ·rw[Ac,cf,ak hlt,aS];rfl
 ·have e:i=ps.length:=by omega
  subst e;exact .inl ⟨h3 (aq _),hQ l H' hl hs (by rw[hl',bj (aq _)])⟩
end
end L2
namespace L2
section
open PySem
variable {X:Cx}{K:PySem.W.Frag}
theorem Rc (h:X.K=K):Hr X (compareOp .In) (Yv K false):=by subst h;exact KU
theorem Nt (h:X.K=K):Hr X (compareOp .NotIn) (Yv K true):=by subst h;exact N9
end
end L2
namespace L2
end L2
namespace L2
end L2
namespace L2
end L2
namespace L2
section
open PySem PySem.W PySem.Calls PyProof.Rows
variable {s:Shared}
abbrev NB (a b:Str):Prop:=a.cps.toList<b.cps.toList
theorem O0 {a b:Str}(h:¬NB a b)(ne:a≠b):NB b a:=by
 rcases Classical.em (NB b a) with z|z
 ·exact z
 ·exact absurd (show a=b by
   cases a;cases b;exact congrArg Str.mk (eC.mp (List.le_antisymm (List.not_lt.mp z) (List.not_lt.mp h)))) ne
theorem Pr:∀{ks:List Value} {kz:List Str},ks.length=kz.length->(∀(i:Nat) k,ks[i]?=some k->∃t,k=.str (kz.getD i ⟨#[]⟩) t)->StrsAre ks kz
 |[],[],_,_=>.nil
 |[],_::_,h,_=>by cases h
 |_::_,[],h,_=>by cases h
 |k::ks,z::kz,h,hk=>by
  obtain⟨t,e⟩:=hk 0 k rfl;rw[show k=Value.str z t from e];exact .cons z t (Pr (by simpa using h) λi k' q=>by
   have:=hk (i+1) k' (by simpa using q);simpa using this)
theorem SB {ks:List Value}{kz:List Str}(h:StrsAre ks kz)(h2:2<=ks.length):keyKind' ks.toArray=pure oneType':=by
 match ks,h,h2 with
 |_::_::_,h,_=>exact keyKind_strs h
theorem SX {prog:Program}{w:World}{A:Around}{ks:List Value}{kz:List Str}(nd:kz.Nodup)(hl:ks.length=kz.length)(hk:∀(i:Nat) k,ks[i]?=some k->∃t,k=.str (kz.getD i ⟨#[]⟩) t) :
  Ordr ks.length (λi j=>decide (NB (kz.getD i ⟨#[]⟩) (kz.getD j ⟨#[]⟩))) (PySem.W.kas_ask prog w A oneType' ks) s:=by
 refine⟨λi j C hi hj hij hC=>?_,λi j k _ _ _ h1 h2=>?_,λi j hi hj hij h1=>?_⟩
 ·obtain⟨t,e⟩:=hk i _ (ak hi);obtain⟨u,e'⟩:=hk j _ (ak hj);unfold PySem.W.kas_ask;rw[show ks.getD i Value.none=.str (kz.getD i ⟨#[]⟩) t by rw[<-e];simp[hi],show ks.getD j Value.none=.str (kz.getD j ⟨#[]⟩) u by rw[<-e'];simp[hj]];exact PySem.W.kas_lt_str hC
 ·rw[bN] at *;exact cw h1 h2
 ·exact au (O0 (cz h1) (FP nd (by omega) (by omega) hij))
end
end L2
namespace L2
section
open PySem PySem.Spec PyProof.Rows PySem.Calls
variable {X:Cx}
def Vl (K:PySem.W.Frag)(P:Addr)(qual:Str)(lp:Pos)(j:Nat)(ta:TA):TE:=λσ H Q=>ta σ H λvs H1=>∃(a:Addr) (ts:List (Addr×Str)),vs=[.ref a]/\AR K H1 a (ts.map λt=>V.ref t.1)/\ts.length<64/\(∀t∈ts,∃xs,AJ K H1 t.1 xs/\xs[j]?=some (.str t.2))/\(ts.map (·.2)).Nodup/\CT P qual lp H1/\
 ∀(us:List (Addr×Str)) p H2,us.Perm ts->us.Pairwise (λx y=>NB x.2 y.2)->Co P H1 H2->CT P qual lp H2->H2 p=none->Q (.ref p) (upd H2 p (.lst (us.map λt=>V.ref t.1)))
theorem Tg {e:Expr} {ta:TA} {x:Str} {params:Arguments} {scope:Scope} {j:Nat} {P:Addr} {k:Nat} {p pos kp lp p1 p2 p3:Pos} {qual:Str} (hr:Room k X.A) (L:LamTx x params scope) (at_:LamAt X.K X.mg X.base X.env.code P) (hj:j<1000) (hq:X.env.qual++"<lambda>"=qual) (hg:Gl X "sorted") (hm:X.mg "sorted"=none) (ha:PA X [e] ta)
  (he:backTo pos (starEach [e] X.env)=(false,eval e X.env)::backTo pos (starEach [] X.env):=by rfl)
  (hpl:(backTo pos (starEach [e] X.env)).any (·.1)=false:=by rfl) :
  PE X (.Call (.Name "sorted" p) [e] [⟨some "key",.Lambda params (.Subscript (.Name x p1) (.Constant (.int j) 0 p2) p3) scope lp,kp⟩] pos) (Vl X.K P qual lp j ta):=by
 subst hq;intro pins s σ H Q I h;refine bM (Kr I hg hm Fo (P7 hpl rfl ?_));have hsp:=ha pos pins s σ H _ I h;rw[he] at hsp ⊢;refine evalArgs_kwB rfl (Bv hsp λus s1 ⟨vs,H1,I1,r1,q1⟩=>?_);obtain⟨a,ts,rfl,hl,few,ht,nd,tb,q⟩:=q1;obtain⟨u,rfl,ru⟩:=vals1 r1;cases ru;refine kws_cons (QB L.dflt (L.clos _) at_ I1 tb λf c' pm ctv H2 s2 I2 st tb2 hf hcr=>kws_nil ?_);obtain⟨its,rv,p1',hz⟩:=I2.list (st.sqL tb hl);have ei:=Il rv;have li:its.length=ts.length:=by rw[ei,ae]
 have gk:∀i,i<ts.length->(ts.map (·.2)).getD i ⟨#[]⟩=(ts.getD i (0,⟨#[]⟩)).2:=λi hi=>by simp[hi]
 refine Mh (vs:=its) (Ky:=λi k=>∃t,k=Value.str ((ts.map (·.2)).getD i ⟨#[]⟩) t) (lt:=λi j=>decide (NB ((ts.map (·.2)).getD i ⟨#[]⟩) ((ts.map (·.2)).getD j ⟨#[]⟩))) p1'.isList (by rw[li];exact few) (λi v hv h' tk k=>?_) (λks h' tk hlk hK k l2=>?_) λh' tk pp idx c hp up lp' k hc=>?_
 ·have il:i<ts.length:=by rw[<-li];exact(aH.mp hv).1
  have ev:v=.ref (ts[i]).1:=by
   rw[ei,aJ,ak il] at hv;exact(aI hv).symm
  subst ev;obtain⟨xs,hx,hxj⟩:=ht _ (bB il);obtain⟨ys,r2,hy,_⟩:=I2.tuple (st.sqT tb hx);obtain⟨y,hyj,ry⟩:=r2.get hxj;obtain⟨t,rfl⟩:=ry;have cr:h'.CodeRec (.ref c') (X.env.qual++"<lambda>"):=by
   obtain⟨c2,o,vs,t,z1,z2,z3⟩:=hcr;exact⟨c2,o,vs,t,z1,k _ _ z2,z3⟩
  refine aR (PB (s:={ s2 with heap:=h',toks:=tk }) (A:=X.A.in1.in1) (items:=ys.toArray) (j:=j) (v:=.str (ts[i]).2 t) (k _ _ hf) cr (I2.nolimit.keeps k) hr.depth (λu=>L.bind _ _ _ _ _ u) L.loc L.kind L.co L.ge L.ce L.db hj (hy.keeps k) (by simpa using hyj)) (λkv s' z=>?_) λ_ _ z=>z
  obtain⟨rfl,h3,tk3,rfl,k3⟩:=z;exact⟨⟨t,by rw[gk i il];simp[il]⟩,h3,tk3,rfl,k3⟩
 ·have hl2:ks.length=(ts.map (·.2)).length:=by rw[hlk,li,ae]
  rw[SB (Pr hl2 hK) (by omega)];refine ar ⟨rfl,?_⟩;have:=SX (prog:=X.prog) (w:=X.w) (A:=X.A.in1.in1) (s:={ s2 with heap:=h',toks:=tk }) nd hl2 hK;rw[hlk] at this;exact this
 ·rw[li] at hp up;obtain⟨us,u1,u2,u3⟩:=Rx (⟨#[]⟩:Str) ts (R:=NB) hp up λi j hi hj hlt=>by
   rw[bN,gk i hi,gk j hj] at hlt;exact hlt
  rw[ei,u2] at hc;refine⟨.ref pp,_,I2.laid (t':=tk) (o:=.lst (us.map λt=>V.ref t.1)) k lp' ?_,rfl,q us pp H2 u1 u3 st tb2 (I2.hok.fresh lp')⟩;refine⟨?_,_,c,GX us,hc⟩;rw[ae,u1.length_eq,aZ];omega
end
end L2
namespace L2
end L2
namespace L2
section
open PySem PySem.Calls PyProof.Rows PySem.Spec
abbrev Ze (p:Key×V)(q:Key×Value×Value):Prop:=p.1=q.1/\RelV (kV p.1) q.2.1/\RelV p.2 q.2.2
theorem N1 {X:Cx}{pins:List (Addr×Obj)}{σ:St}{H:Hp}{s:Shared}(I:Inv X pins σ H s):∀(ps:List Addr) (kvs:List (Key×V)),ps.length=kvs.length->(∀(i:Nat) t k v,ps[i]?=some t->kvs[i]?=some (k,v)->H t=some (.tup [kV k,v]))->
  ∃xs:List (Key×Value×Value),Paired Ze kvs xs/\∀(i:Nat) t,ps[i]?=some t->∃q,xs[i]?=some q/\IsTup s.heap t #[q.2.1,q.2.2]
 |[],[],_,_=>⟨[],.nil,λi t h=>by simp at h⟩
 |[],_::_,h,_=>by cases h
 |_::_,[],h,_=>by cases h
 |t::ps,(k,v)::kvs,ln,hp=>by
  obtain⟨xs,r,a⟩:=N1 I ps kvs (by simpa using ln) λi t k v e1 e2=>hp (i+1) t k v (by simpa using e1) (by simpa using e2)
  obtain⟨_,its,rv,it⟩:=(show Be X.prog X.w H s.heap t (.tup [kV k,v]) from I.hok t _ (hp 0 t k v rfl rfl))
  cases rv with
  |@cons _ wk _ _ ra rb=>
   cases rb with
   |@cons _ wv _ _ rb rc=>
    cases rc;refine⟨(k,wk,wv)::xs,.cons ⟨rfl,ra,rb⟩ r,λi t' e=>?_⟩;cases i with
    |zero=>simp only[List.getElem?_cons_zero,Option.some.injEq] at e;subst e;exact⟨_,rfl,it.is⟩
    |succ i=>exact a i t' (by simpa using e)
theorem XM {kvs:List (Key×V)}{xs:List (Key×Value×Value)}(h:Paired Ze kvs xs):KV kvs (xs.map λq=>(q.1,q.2.2)):=by
 induction h with
 |nil=>exact .nil
 |cons r _ ih=>exact .cons ⟨r.1,r.2.2⟩ ih
end
end L2
namespace L2
end L2
namespace L2
open PySem
end L2
namespace L2
end L2
namespace L2
end L2
namespace L2
end L2
namespace L2
end L2
namespace L2
section
open PySem PySem.Calls PyProof.Rows
variable {X:Cx}
def Zb:Tr->Tr->Bool
 | .non,.non=>true
 | .bl a,.bl b=>a == b
 | .int a,.int b=>a == b
 | .str a,.str b=>a == b
 |_,_=>false
def Zq:Tr->Bool
 | .tup _=>false
 | .lst _=>false
 |_=>true
def Ye:Tr->Bool
 | .bl _=>true
 |_=>false
def YV:R2:=λx y H Q=>∃t u,Rep (λ_=>True) H t x/\Rep (λ_=>True) H u y/\Zq t=true/\Ye t=Ye u/\Q (.bl (Zb t u)) H
theorem YD (hu9:X.A.units+150<cLine):Hr X (compareOp .Eq) YV:=by
 intro pins s σ H x y v u Q I rx ry h;obtain⟨t,w,h1,h2,sc,bb,q⟩:=h;have fin:∀b:Bool,Zb t w=b->SeqAt.RcAt X.A s v u b->wpAny (model X.prog X.w) X.A (compareOp .Eq v u) (EP X pins σ Q) X.xe s:=λb e r=>by
  rw[e] at q;exact r _ _ _ _ ⟨.bl _,H,I,rfl,q⟩
 have hu:X.A.units<cLine:=by omega
 cases t with
 |tup _=>cases sc
 |lst _=>cases sc
 |non=>
  cases(show x=V.non from h1);cases(show v=Value.none from rx);cases w with
  |non=>cases(show y=V.non from h2);cases(show u=Value.none from ry);exact fin true rfl SeqAt.RcAt.none_none
  |bl b=>cases bb
  |int j=>cases(show y=V.int j from h2);obtain⟨t2,rfl⟩:=ry;exact fin false rfl (SeqAt.RcAt.none_int j t2)
  |str z=>cases(show y=V.str z from h2);obtain⟨t2,rfl⟩:=ry;exact fin false rfl (SeqAt.RcAt.none_str z t2)
  |tup us=>obtain⟨b,ws,rfl,hb,_⟩:=h2;cases ry;obtain⟨its,_,p,_⟩:=I.tuple (AJ.of (K:=X.K) hb);exact fin false rfl (SeqAt.RcAt.none_tuple p hu)
  |lst us=>obtain⟨b,ws,rfl,_,hb,_⟩:=h2;cases ry;obtain⟨its,_,p,_⟩:=I.list (AR.of (K:=X.K) hb);exact fin false rfl (SeqAt.RcAt.none_list p.isList hu)
 |bl a=>
  cases(show x=V.bl a from h1);cases(show v=Value.bool a from rx);cases w with
  |bl b=>cases(show y=V.bl b from h2);cases(show u=Value.bool b from ry);exact fin (a == b) rfl (SeqAt.RcAt.bool_bool a b)
  |_=>cases bb
 |int i=>
  cases(show x=V.int i from h1);obtain⟨t1,rfl⟩:=rx;cases w with
  |non=>cases(show y=V.non from h2);cases(show u=Value.none from ry);exact fin false rfl (SeqAt.RcAt.int_none i t1)
  |bl b=>cases bb
  |int j=>cases(show y=V.int j from h2);obtain⟨t2,rfl⟩:=ry;exact fin (i == j) rfl (SeqAt.RcAt.int_int i t1 j t2)
  |str z=>cases(show y=V.str z from h2);obtain⟨t2,rfl⟩:=ry;exact fin false rfl (SeqAt.RcAt.int_str i t1 z t2)
  |tup us=>obtain⟨b,ws,rfl,hb,_⟩:=h2;cases ry;obtain⟨its,_,p,_⟩:=I.tuple (AJ.of (K:=X.K) hb);exact fin false rfl (SeqAt.RcAt.int_tuple i t1 p hu)
  |lst us=>obtain⟨b,ws,rfl,_,hb,_⟩:=h2;cases ry;obtain⟨its,_,p,_⟩:=I.list (AR.of (K:=X.K) hb);exact fin false rfl (SeqAt.RcAt.int_list i t1 p.isList hu)
 |str a=>
  cases(show x=V.str a from h1);obtain⟨t1,rfl⟩:=rx;cases w with
  |non=>cases(show y=V.non from h2);cases(show u=Value.none from ry);exact fin false rfl (SeqAt.RcAt.str_none a t1)
  |bl b=>cases bb
  |int j=>cases(show y=V.int j from h2);obtain⟨t2,rfl⟩:=ry;exact fin false rfl (SeqAt.RcAt.str_int a t1 j t2)
  |str z=>cases(show y=V.str z from h2);obtain⟨t2,rfl⟩:=ry;exact fin (a == z) rfl (SeqAt.RcAt.str_str a t1 z t2)
  |tup us=>obtain⟨b,ws,rfl,hb,_⟩:=h2;cases ry;obtain⟨its,_,p,_⟩:=I.tuple (AJ.of (K:=X.K) hb);exact fin false rfl (SeqAt.RcAt.str_tuple a t1 p hu)
  |lst us=>obtain⟨b,ws,rfl,_,hb,_⟩:=h2;cases ry;obtain⟨its,_,p,_⟩:=I.list (AR.of (K:=X.K) hb);exact fin false rfl (SeqAt.RcAt.str_list a t1 p.isList hu)
def Nw (z:Str):Tr->Bool
 | .tup [.str y]=>y == z
 |_=>false
def eqZ (z:Str):Tr->Bool
 | .str y=>y == z
 |_=>false
def Uy:R2:=λx y H Q=>∃t z b,Rep (λ_=>True) H t x/\y=.ref b/\H b=some (.tup [.str z])/\Q (.bl (Nw z t)) H
theorem Xm {pins:List (Addr×Obj)}{σ:St}{H:Hp}{s:Shared}(I:Inv X pins σ H s){A:Around}(hu:A.units<cLine){t:Tr}{x:V}{v:Value}(z:Str)(tk:Tok)(h:Rep (λ_=>True) H t x)(r:RelV x v):SeqAt.EqAt A s v (.str z tk) (eqZ z t):=by
 cases t with
 |non=>cases(show x=V.non from h);cases(show v=Value.none from r);exact SeqAt.EqAt.none_str z tk
 |bl a=>cases(show x=V.bl a from h);cases(show v=Value.bool a from r);exact SeqAt.EqAt.bool_str a z tk
 |int i=>cases(show x=V.int i from h);obtain⟨t1,rfl⟩:=r;exact eJ i t1 z tk
 |str y=>cases(show x=V.str y from h);obtain⟨t1,rfl⟩:=r;exact SeqAt.EqAt.str_str y t1 z tk
 |tup us=>obtain⟨b,ws,rfl,hb,_⟩:=h;cases r;obtain⟨its,_,p,_⟩:=I.tuple (AJ.of (K:=X.K) hb);exact SeqAt.EqAt.tuple_str z tk p hu
 |lst us=>obtain⟨b,ws,rfl,_,hb,_⟩:=h;cases r;obtain⟨its,_,p,_⟩:=I.list (AR.of (K:=X.K) hb);exact SeqAt.EqAt.list_str z tk p.isList hu
theorem KI (hu9:X.A.units+150<cLine):Hr X (compareOp .Eq) Uy:=by
 intro pins s σ H x y v u Q I rx ry h;obtain⟨t,z,b,h1,rfl,hb,q⟩:=h;cases ry;have fin:∀k:Bool,Nw z t=k->SeqAt.RcAt X.A s v (.ref b) k->wpAny (model X.prog X.w) X.A (compareOp .Eq v (.ref b)) (EP X pins σ Q) X.xe s:=λk e r=>by
  rw[e] at q;exact r _ _ _ _ ⟨.bl _,H,I,rfl,q⟩
 have hu:X.A.units<cLine:=by omega
 obtain⟨its2,rv2,p2,_⟩:=I.tuple (AJ.of (K:=X.K) hb);obtain⟨tk,rfl⟩:∃tk,its2=[Value.str z tk]:=by
  cases rv2 with
  |cons r rs=>cases rs;obtain⟨tk,rfl⟩:=r;exact⟨tk,rfl⟩
 cases t with
 |non=>cases(show x=V.non from h1);cases(show v=Value.none from rx);exact fin false rfl (SeqAt.RcAt.none_tuple p2 hu)
 |bl a=>cases(show x=V.bl a from h1);cases(show v=Value.bool a from rx);exact fin false rfl (SeqAt.RcAt.bool_tuple a p2 hu)
 |int i=>cases(show x=V.int i from h1);obtain⟨t1,rfl⟩:=rx;exact fin false rfl (SeqAt.RcAt.int_tuple i t1 p2 hu)
 |str y=>cases(show x=V.str y from h1);obtain⟨t1,rfl⟩:=rx;exact fin false rfl (SeqAt.RcAt.str_tuple y t1 p2 hu)
 |lst us=>obtain⟨a,ws,rfl,_,ha,_⟩:=h1;cases rx;obtain⟨its,_,p,_⟩:=I.list (AR.of (K:=X.K) ha);exact fin false rfl (SeqAt.RcAt.list_tuple p.isList p2 hu)
 |tup us=>
  obtain⟨a,ws,rfl,ha,hr⟩:=h1;cases rx;obtain⟨its,rv1,p1,_⟩:=I.tuple (AJ.of (K:=X.K) ha);have l1:=rv1.length.symm.trans (El.len us ws hr);have r:=SeqAt.RcAt.tuples (A:=X.A) (s:=s) (e:=λj=>eqZ z (us.getD j .non)) p1 p2 hu (λj g1 g2=>by
   have g1':j<its.length:=by simpa using g1
   have j0:j=0:=by have:=g2;simp at this;exact this
   subst j0;have lv1:=rv1.length;obtain⟨x1,hx1⟩:∃x1,ws[0]?=some x1:=⟨ws[0]'(by omega),ak _⟩
   obtain⟨y1,hy1,ry1⟩:=rv1.get hx1;obtain⟨t1,e1,p1'⟩:=El.get hr hx1;have:=Xm I (A:=X.A.in1) (by show X.A.units+1<cLine;omega) z tk p1' ry1;rw[ak g1'] at hy1;cases hy1;simp only[List.getD,e1,Option.getD_some];simpa using this)
  simp only[List.size_toArray,l1] at r;refine fin _ ?_ r
  match us with
  |[]=>rfl
  |[.str y]=>simp[Nw,eqZ,List.range_succ]
  |[.non]|[.bl _]|[.int _]|[.tup _]|[.lst _]=>simp[Nw,eqZ,List.range_succ]
  |_::_::_=>simp[Nw]
end
end L2
namespace L2
end L2
namespace L2
end L2
namespace L2
end L2
namespace L2
open PySem PySem.Spec PyProof.Rows
section
variable {P:Program}{w:World}{K:PySem.W.Frag}{mg:Str->Option Value}{base:Heap}{N:List Str}{qual:Str}{scope:Scope}{f:Addr}{cd:Value}{A:Around}{outer:List Env}{s:Shared}{H:Hp}{E:XK}
theorem NM:Zd (AZ (Gk P w) P w K mg base N qual scope f cd A outer s H E) E:=by
 intro pins σ H1 s1 cls h1 ea vs I hx q;have hfr:=I.ok.frames;obtain⟨t0,ob,_⟩:=hx.there;refine(Jo _ _).also (s:={ s1 with heap:=h1 }) (RJ ob ⟨_,rfl,rfl⟩) (wpAny_leaves_madeW (base:=PySem.W.hideAll s1.heap (G9 (envOfC qual scope s.heap.objs.size f cd::outer))) (h:=s1.heap) (L:=s.heap.objs.size) hfr rfl (λb o e=>dZ _ e) I.hidFrames hx λh' t fl' _ _ up dj'=>?_);have un:=I.made1 (t':=s1.toks) hx fl' up;have J:=I.call' (s':={ s1 with heap:=h' }) (ch:=[]) rfl un (I.hid.kept fl'.1) I.bare (λb z=>nomatch z);refine⟨ea,cls,H1,_,_,none,rfl,⟨J.os,I.bare,J.base,I.hid,fl',λb o e n hb=>?_,λb o e hb=>?_,⟨_,dj'⟩⟩,dj',q⟩
 ·exact bP _ (I.base.keep b o e n hb (by intro z;cases z)) (Fu I e hb)
 ·obtain⟨o1,e1⟩:=I.base.there b o e (by intro z;cases z);exact⟨o1,bP _ e1 (Fu I e hb)⟩
end
section
variable {X:Cx}
def OV (z y:Str):List Str:=match PySem.Builtin.Str.lastOccurrence z y 0 z.length with
 |some i=>[PySem.Builtin.Str.strSub z 0 i,y,PySem.Builtin.Str.strSub z (i+y.length) z.length]
 |none=>[PySem.Str.empty,PySem.Str.empty,z]
def WD:V->List V->Hp->VK->Prop:=λx vs H Q=>∃z y,x=.str z/\vs=[.str y]/\(y.length == 0)=false/\z.length<=100000/\∀p,H p=none->Q (.ref p) (upd H p (.tup ((OV z y).map V.str)))
theorem Nq:VX X "str.rpartition" WD:=by
 intro pins s σ H x vs v us Q I rx rv h;obtain⟨z,y,rfl,rfl,hy,hz,q⟩:=h;obtain⟨tk,rfl⟩:=rx;obtain⟨y',rfl,ry⟩:=rv.one;obtain⟨tk2,rfl⟩:=ry;refine dO F.slot_str_rpartition (eG _ _ _) F.entry_str_rpartition (F.args_str_rpartition_2 _ _) (meets_str_rpartition z y tk tk2 hy (small (by omega))) ?_;show EP X pins σ Q _ _;refine⟨.ref s.heap.objs.size,upd H s.heap.objs.size (.tup ((OV z y).map V.str)),?_,rfl,q _ I.fresh⟩;unfold OV;cases PySem.Builtin.Str.lastOccurrence z y 0 z.length with
 |none=>exact I.laid (λb o e=>ah _ e) (aq _) ⟨by show 3<=sizeLine;decide,_,.cons ⟨_,rfl⟩ (.cons ⟨_,rfl⟩ (.cons ⟨_,rfl⟩ .nil)),⟨_,ay _ rfl,rfl,_,rfl,λ_=>rfl⟩⟩
 |some i=>exact I.laid (λb o e=>ah _ e) (aq _) ⟨by show 3<=sizeLine;decide,_,.cons ⟨_,rfl⟩ (.cons ⟨_,rfl⟩ (.cons ⟨_,rfl⟩ .nil)),⟨_,ay _ rfl,rfl,_,rfl,λ_=>rfl⟩⟩
end
end L2
namespace L2
section
open PySem PySem.Spec PyProof.Rows
def B4 (P:Program)(w:World)(K:PySem.W.Frag)(mg:Str->Option Value)(base:Heap)(k:Nat)(C:Addr)(m:Str)(ps:List Str)(sp:Sp):Prop:=
 ∃(f:Addr) (fd:FuncData),FnOk P w K mg base (Gk P w) k f fd ps sp/\Meth K C m f/\Binds K fd ps []
variable {X:Cx}{k:Nat}{x m:Str}{C:Addr}{ps:List Str}{sp:Sp}{E:XK}{e o:Expr}{es:List Expr}{t:TA}{ta:TE}{p pos apos:Pos}
theorem Dm {pl:Sem Bool} (ho:PE X o ta) (c:Cls X.K C) (D:B4 X.prog X.w X.K X.mg X.base k C m ps sp) (hr:Room k X.A) (hx:FL (Gk X.prog X.w) X E) (ha:PA X (e::es) t)
  (hst:starEach (e::es) X.env=(false,eval e X.env)::starEach es X.env:=by rfl) (hpl:(backTo pos (starEach es X.env)).any (·.1)=false:=by rfl)
  (ht:eval (.Call (.Attribute o m apos) (e::es) [] pos) X.env=(do
   let ov <-eval o X.env
   standAt apos.atName
   let(f,first) <-holding [ov] (getMethod ov m pl)
   callWith pos f first (backTo pos (starEach (e::es) X.env)) (backToKw pos (keywordEach [] X.env))):=by rfl) :
  PE X (.Call (.Attribute o m apos) (e::es) [] pos) (RK C m sp [] E ta t):=by
 obtain⟨f,fd,F,hm,hb⟩:=D;exact RR ho c hm F hr hb .nil hx ha hst hpl ht
theorem Qu {pl:Sem Bool} (ho:PE X.nox o ta) (c:Cls X.K C) (D:B4 X.prog X.w X.K X.mg X.base k C m ps sp) (hr:Room k X.A) (ha:PA X.nox (e::es) t)
  (hst:starEach (e::es) X.env=(false,eval e X.env)::starEach es X.env:=by rfl) (hpl:(backTo pos (starEach es X.env)).any (·.1)=false:=by rfl)
  (ht:eval (.Call (.Attribute o m apos) (e::es) [] pos) X.env=(do
   let ov <-eval o X.env
   standAt apos.atName
   let(f,first) <-holding [ov] (getMethod ov m pl)
   callWith pos f first (backTo pos (starEach (e::es) X.env)) (backToKw pos (keywordEach [] X.env))):=by rfl) :
  SJ X (.Call (.Attribute o m apos) (e::es) [] pos) (λEx=>RK C m sp [] (λcls d H'=>Ex cls d H') ta t):=by
 obtain⟨f,fd,F,hm,hb⟩:=D;intro pins s σ H Q Ex I h;refine dG (pl:=pl) (aR (ho pins s σ H _ (I.wish _) h) (λu s1 z9=>?_) λ_ _ z=>False.elim z) ht;obtain⟨x,H1,I1,rx,a,dx,fs,ex,ea,l,q⟩:=z9;subst ex;obtain rfl:u=Value.ref a:=rx;refine IU I1.unwish ea c hm l ?_;refine cB (first:=[.ref a]) (h₀:=X.base) I.ok.mod.kin hm.kp (aR (ha pos pins s1 σ H1 _ I1 q) (λus s2 ⟨vs,H2,I2,r,q2⟩=>⟨I2.kIn,?_⟩) λ_ _ z=>False.elim z) hst hpl;have J:=I2.unwish;have q':sp (.ref a::vs) H2 Q λcls d H'=>Ex cls d H':=by
  have:sp (.ref a::(vs++[])) H2 Q λcls d H'=>Ex cls d H':=q2
  rw[bz] at this;exact this
 have r':AW (V.ref a::vs) (Value.ref a::us):=.cons rfl r;have hl:(Value.ref a::us).length=ps.length:=by rw[<-r'.length];exact F.len _ _ _ _ q'
 have hb':=hb s2 (Value.ref a::us) J.kIn (by rw[bz];exact hl);rw[bz] at hb';refine cg (cA (F.run X.A X.stack s2 H2 ⟨Value.ref a::us,[]⟩ (Value.ref a::us) (V.ref a::vs) Q _ hr J.env0 hb' r' q') λr s' z=>?_)
 match r,z with
 | .error e,⟨ea,cls,H',B,a0,d,he,Fl,dj,q⟩=>exact⟨ea,cls,σ,H2,H',s2,B,a0,d,he,J,Fl,dj,rfl,q⟩
 | .ok (.ret u),z=>exact J.after z
theorem Vp {b:List Stmt}{tb:Wm}(h:WS X b tb):Y7 X b (λD Ex=>tb D λcls _ σ' H'=>Ex cls σ' H'):=λpins s σ H D Ex I q=>
 aR (h pins s σ H D _ I q) (λ_ _ z=>z) (by rintro _ _ ⟨ea,cls,σ',H1,H',s1,B,a0,_,h1,h2,h3,_,q⟩;exact⟨ea,cls,σ',H1,H',s1,B,a0,h1,h2,h3,q⟩)
end
end L2
namespace L2
noncomputable instance trDec:DecidableEq Tr:=λa b=>Classical.propDecidable (a=b)
end L2
namespace L2
end L2
namespace L2
end L2
namespace L2
end L2
namespace L2
section
open PySem PySem.Spec PyProof.Rows
variable {X:Cx}
theorem K1:FO X (.builtin "len") (λxs H Q=>∃d kvs,xs=[V.ref d]/\H d=some (.dK kvs)/\Q (.int kvs.length) H):=by
 rintro pins s σ H xs us Q I r ⟨d,kvs,rfl,hd,q⟩
 obtain⟨_,rfl,ru⟩:=vals1 r;cases ru;exact Yi I (.inl hd) λt _ I'=>⟨.int kvs.length,H,I',⟨t,rfl⟩,q⟩
end
end L2
namespace L2
open PySem
end L2
namespace L2
open PySem PySem.Spec PyProof.Rows
variable {X:Cx}
variable {X:Cx}
def Xg (X:Cx)(t:TE):TE:=λσ H Q=>t σ H λx H'=>∃d o kvs,(∀o u,X.H₀ d≠some (.frz o u))/\H' d=some (.frz o (.dK kvs))/\Q x (upd H' d (.dK kvs))
theorem JF {e:Expr}{t:TE}(h:PE X e t):PE X e (Xg X t):=by
 intro pins s σ H Q I q;refine Bv (h pins s σ H _ I q) λv s' z9=>?_
 obtain⟨x,H',I',r,d,o,kvs,nf,hd,q⟩:=z9;exact⟨x,_,I'.thaw hd nf,r,q⟩
def TJ (X:Cx)(t:TS):TS:=λD σ H=>t (Wt X D) σ H
theorem Um {st:Stmt}{t:TS}(h:PS X st t):PS X st (TJ X t):=by
 intro pins s σ H D I q;refine Bv (h pins s σ H (Wt X D) I q) λf s' q=>?_
 cases f with
 |next=>
  obtain⟨σ',H',I',d,o,kvs,nf,hd,q⟩:=q;exact⟨σ',_,I'.thaw hd nf,q⟩
 |brk=>obtain⟨σ',H',I',q⟩:=q;exact False.elim q
 |cont=>obtain⟨σ',H',I',q⟩:=q;exact False.elim q
 |ret v=>
  obtain⟨x,σ',H',I',r,d,o,kvs,nf,hd,q⟩:=q;exact⟨x,σ',_,I'.thaw hd nf,r,q⟩
theorem Iq {d:Addr}{o:Obj}{H:Hp}{kvs:List (Key×V)}(h:H d=some (.frz o (.dK kvs))):JC (Yx d o kvs) H (kvs.map λp=>kV p.1):=by
 intro H' s i;refine⟨λhi=>⟨s.get h,by rw[ae] at hi;exact hi⟩,?_,λhi=>⟨s.get h,by rw[ae] at hi;exact hi⟩⟩
 rintro x H'' ⟨rfl,k,v,e,rfl⟩
 exact⟨rfl,λ_=>by rw[aJ,e];rfl⟩
end L2
namespace L2
section
open PySem PySem.Calls PyProof.Rows
variable {prog:Program}{w:World}{A:Around}{E:Value->Shared->Prop}{s:Shared}
theorem Uh {R:Result->Shared->Prop} {I d:Addr} {fp:List Addr} {vs:List Value} {St:Nat->Heap->Prop} {D:Nat->Heap->Prop} {h0:Heap} (W:Walks prog w A.in1 I fp [I] vs.length (λi v=>vs[i]?=some v) St) (nd:d∉fp)
  (hI:h0.get? I=none) (keep:∀i h h',D i h->(∀o,h.get? d=some o->h'.get? d=some o)->D i h')
  (pr:∀i v,vs[i]?=some v->∃t x y,v=.ref t/\t≠d/\IsTup h0 t #[x,y]/\∀(s:Shared) (Q:Unit->Shared->Prop) (E:Value->Shared->Prop),D i s.heap->(∀h' tk,D (i+1) h'->Heap.SameBut d s.heap h'->Q () { s with heap:=h',toks:=tk })->wpAny (model prog w) A.in1 (dictSet d x y) Q E s) :
  ∀(k i:Nat) (s:Shared),vs.length-i=k->i<=vs.length->(∀b o,b≠d->h0.get? b=some o->s.heap.get? b=some o)->St i s.heap->D i s.heap->
   (∀h' tk,(∀b o,b∉[d,I]->s.heap.get? b=some o->h'.get? b=some o)->D vs.length h'->R (.ok (.ret .none)) { s with heap:=h',toks:=tk })->codeAny (model prog w) A (.builtin "dict.update.loop" ⟨[.ref d,.ref I,rawInt i,.none],[]⟩) R s:=by
 have nI:d∉[I]:=λz=>nd (W.sub _ z)
 intro k
 induction k with
 |zero=>
  intro i s hk hi old st T q;have e:i=vs.length:=by omega
  subst e;refine cV Qv ?_;rw[cT JO _];refine af (m:=pyNext (.ref I)) (W.done s _ _ st λh' tk k'=>?_);refine af (m:=Builtin.Dict.addKeywords d []) (ar (ar ?_));exact q h' tk (λb o n e=>k' b o (λz=>n (aK _ z)) e) (keep _ _ _ T λo e=>k' d o nI e)
 |succ k ih=>
  intro i s hk hi old st T q;have lt:i<vs.length:=by omega
  refine cV Qv ?_;rw[cT JO _];refine af (m:=pyNext (.ref I)) (W.item i s _ _ lt st λv h' tk hv st' k'=>?_);obtain⟨t,x,y,rfl,ntd,⟨ot,ht1,ht2⟩,step⟩:=pr i v hv;have old':∀b o,b≠d->h0.get? b=some o->h'.get? b=some o:=λb o n e=>k' b o (λz=>by rw[ax.mp z,hI] at e;cases e) (old b o n e)
  refine af (bh (af (wpAny_tryCatch (pair_items (s:={ s with heap:=h',toks:=tk }) ⟨ot,old' t ot ntd ht1,ht2⟩ ?_))));refine bh (step _ _ _ (keep _ _ _ T λo e=>k' d o nI e) λh2 tk2 T2 sb=>?_);refine ar ⟨fR JO _,ih (i+1) _ (by omega) lt (λb o n e=>?_) (W.frame _ _ _ st' λb hb o e=>?_) T2 λh3 tk3 k3 T3=>?_⟩
  ·rw[sb.2 b n];exact old' b o n e
  ·rw[sb.2 b (λz=>nd (z▸hb))];exact e
  ·refine q h3 tk3 (λb o n e=>k3 b o n ?_) T3;rw[sb.2 b (λz=>n (by simp[z]))];exact k' b o (λz=>n (aK _ z)) e
theorem UD {l d:Addr} {od:Obj} {vs:List Value} {D:Nat->Heap->Prop} {Q:Value->Shared->Prop} (hh:A.handled=none) (hl:∃n sl,s.heap.get? l=some { cls:=.type "list",dict:=none,data:=.seq vs.toArray n,slots:=sl })
  (hd:s.heap.get? d=some od) (hc:od.cls=.type "dict") (keep:∀i h h',D i h->(∀o,h.get? d=some o->h'.get? d=some o)->D i h') (d0:D 0 s.heap)
  (pr:∀i v,vs[i]?=some v->∃t x y,v=.ref t/\t≠d/\IsTup s.heap t #[x,y]/\∀(s1:Shared) (Q:Unit->Shared->Prop) (E:Value->Shared->Prop),D i s1.heap->(∀h' tk,D (i+1) h'->Heap.SameBut d s1.heap h'->Q () { s1 with heap:=h',toks:=tk })->wpAny (model prog w) A.in1 (dictSet d x y) Q E s1)
  (q:∀h' tk,(∀b o,b≠d->s.heap.get? b=some o->h'.get? b=some o)->D vs.length h'->Q .none { s with heap:=h',toks:=tk }):wpAny (model prog w) A (call (.builtin "dict.update") [.ref d,.ref l]) Q E s:=by
 obtain⟨n,sl,el⟩:=hl;have hT:s.TypeIs (.ref d) "dict":=⟨_,hd,hc⟩
 have ndl:d≠l:=λz=>by
  rw[z,el] at hd;cases hd;exact absurd (Value.type.inj hc) (by decide)
 refine cg (cq PySem.F.slot_dict_update.plain PySem.F.entry_dict_update (PySem.F.slot_dict_update.check _ _ _ _ _ _ _ _ hT (PySem.F.args_dict_update_2 _ _) ?_));unfold Builtin.«dict.update»;refine af ?_;unfold Builtin.Dict.selfAndRest;refine af (wpAny_notOrdered_dict hT ?_);show wpAny _ _ (pure (d,[Value.ref l])) _ _ _;refine ar ?_;show wpAny _ _ (Builtin.Dict.updateFrom "dict.update" d (.ref l) [] .none) _ _ _;unfold Builtin.Dict.updateFrom;refine af (wpAny_typeOf (T:="list") ⟨_,el,rfl⟩ ?_);rw[aw (by decide)];refine af (Pg el (by simp[hh]) λh1 tk1 k1=>?_);rw[aw (show(none:Option Value).isNone=true from rfl)];refine af (wpAny_rule ?_);have el1:=k1 _ _ el;have l1:h1.IsList l vs.toArray:=⟨_,el1,rfl,_,rfl⟩
 refine af (eP (s:={ s with heap:=h1,toks:=tk1 }) l1 ?_);have nI:l≠h1.objs.size:=aO (aA el1);have ndI:d≠h1.objs.size:=aO (aA (k1 _ _ hd));have W:=Walks.list (prog:=prog) (w:=w) (A:=A.in1) (by simp[hh]) h1.objs.size l nI vs.toArray;have W2:Walks prog w A.in1 h1.objs.size [h1.objs.size,l] [h1.objs.size] vs.length (λi v=>vs[i]?=some v) (λi h=>h.IsListIter h1.objs.size l i/\h.IsList l vs.toArray):=by
  simpa only [List.size_toArray,List.getElem?_toArray] using W
 have nIs:s.heap.get? h1.objs.size=none:=by
  cases e:s.heap.get? h1.objs.size with
  |none=>rfl
  |some o=>exact absurd (aA (k1 _ _ e)) (bZ _)
 refine ar ⟨fR JO _,Uh (h0:=s.heap) (D:=D) W2 ?_ nIs keep pr vs.length 0 _ (by omega) (bw _) (λb o n e=>ah _ (k1 b o e)) ⟨⟨_,ay _ rfl,rfl,rfl⟩,l1.push _⟩ (keep _ _ _ d0 λo e=>ah _ (k1 _ _ e)) λh' tk k' T=>q h' tk (λb o n e=>k' b o (λz=>?_) (ah _ (k1 b o e))) T⟩
 ·simp only[List.mem_cons,List.not_mem_nil,or_false,not_or];exact⟨ndI,ndl⟩
 ·simp only[List.mem_cons,List.not_mem_nil,or_false] at z;rcases z with rfl|rfl
  ·exact n rfl
  ·rw[nIs] at e;cases e
end
section
open PySem PySem.Calls PySem.Spec PyProof.Rows
variable {X:Cx}
theorem MI:FO X (.type "dict") (λxs H Q=>∃d kvs,xs=[V.ref d]/\H d=some (.dK kvs)/\kvs.length<=1000/\∀p,H p=none->Q (.ref p) (upd H p (.dK kvs))):=by
 rintro pins s σ H xs us Q I r ⟨d,kvs,rfl,hd,hl,q⟩
 obtain⟨_,rfl,ru⟩:=vals1 r;cases ru;obtain⟨z,hs,vs,rv,dd⟩:=Pn I.hok hd;have hb:=I.big;refine kt_call_dict hs dd (by rw[<-rv.length];exact small (by omega)) λh' dn sb=>?_
 refine⟨.ref s.heap.objs.size,_,I.laid (t':=s.toks) (o:=.dK kvs) (λb o e=>?_) (aq _) (Md (small (by omega)) ?_ rv dn),rfl,q _ I.fresh⟩
 ·rw[sb.2 b (aO (aA e))];exact ah _ e
 ·rw[bG];exact cn hb
def X3 (K:PySem.W.Frag):V->List V->Hp->VK->Prop:=λx vs H Q=>∃(d a:Addr) (ps:List Addr) (kvs more:List (Key×V)),x=.ref d/\vs=[.ref a]/\H d=some (.dK kvs)/\AR K H a (ps.map V.ref)/\ps.length=more.length/\kvs.length+more.length<=1000/\
 (∀(i:Nat) t k v,ps[i]?=some t->more[i]?=some (k,v)->H t=some (.tup [kV k,v]))/\Q .non (upd H d (.dK (Ht kvs more)))
theorem Vx (hc:X.calm=true):VX X "dict.update" (X3 X.K):=by
 intro pins s σ H x vs v us Q I rx rv h;obtain⟨d,a,ps,kvs,more,rfl,rfl,hd,h1,ln,hz,hp,q⟩:=h;cases rx;obtain⟨y',rfl,ry⟩:=rv.one;cases ry;obtain⟨_,hs,va,ra,dda⟩:=Pn I.hok hd;obtain⟨its,r1,⟨o1,n1,e1,c1,d1,s1⟩,_⟩:=I.list h1;obtain⟨xs,rx,tx⟩:=N1 I ps more ln hp;have lx:xs.length=more.length:=(bU rx).symm;have li:its.length=ps.length:=by have:=r1.length;rw[ae] at this;exact this.symm
 have lva:=ra.length;obtain⟨c,dd,da,sl⟩:=o1;simp only at c1 d1 s1;subst c1 d1 s1;obtain⟨od,esd,epd,hod,hcd,hdd⟩:=id dda;have sh:∀i,(merged va ((xs.take i).map λq:Key×Value×Value=>(q.1,q.2.2))).length<=va.length+xs.length:=λi=>by
  refine aV (merged_length_le _ _) ?_;rw[ae];have:=List.length_take_le i xs;have:=(List.take_sublist i xs).length_le;omega
 refine UD (A:=X.A) (I.ok.hd hc) ⟨n1,_,e1⟩ hod hcd.1 (D:=λi h=>h.DictOf (Bk X.prog X.w) d (merged va ((xs.take i).map λq:Key×Value×Value=>(q.1,q.2.2)))) (λi h h' ⟨o,es,ep,z1,z2⟩ k=>⟨o,es,ep,k o z1,z2⟩) (by simpa [merged] using dda) (λi v e=>?_) λh' tk k' z=>?_
 ·obtain⟨t,et,rfl⟩:=R6 r1 i v e;obtain⟨⟨k,wk,wv⟩,eq,ht⟩:=tx i t et;refine⟨t,wk,wv,rfl,λz=>?_,ht,λs2 Q2 E2 hm hQ=>?_⟩
  ·obtain⟨ot,g1,g2,_⟩:=ht;rw[z,hod] at g1;cases g1;rw[hcd.1] at g2;exact absurd (Value.type.inj g2) (by decide)
  have rk:RelV (kV k) wk:=by
   obtain⟨p,_,e1,e2,_⟩:=Mq rx (aU eq);rw[e1] at e2;exact e2
  refine wpAny_dictSet_pairs (hsz:=?_) (k:=k) (Li rk) hm λh' hm' sb=>hQ _ _ ?_ sb
  ·have e3:merged va ((xs.take (i+1)).map λq:Key×Value×Value=>(q.1,q.2.2))=stored (merged va ((xs.take i).map λq:Key×Value×Value=>(q.1,q.2.2))) k wv:=by
    rw[dh,dh];exact merged_take_succ va (xs.map λq:Key×Value×Value=>(q.1,q.2.2)) i (k,wv) (by rw[aJ,eq];rfl)
   show Heap.DictOf _ _ _ _;rw[e3];exact hm'
  ·have:=sh i;rw[aZ];omega
 ·rw[li,ln,<-lx,dz] at z;refine⟨.non,upd H d (.dK (Ht kvs more)),?_,rfl,q⟩;have z':h'.DictOf (Bk X.prog X.w) d (merged va (xs.map λq:Key×Value×Value=>(q.1,q.2.2))):=z;obtain⟨oz,ez,pz,hz1,_⟩:=id z';exact(I.write (x:=d) (e:=d) (o:=.dK (Ht kvs more)) (h':=h') (t':=tk) (by rw[hd];trivial) (.inl rfl) (λb o nb q=>k' b o nb q) ⟨_,hz1⟩ (Md (small (by have:=ID more kvs;omega)) hs (KV.merge (XM rx) ra) z'))
def XQ:V->List V->Hp->VK->Prop:=λx vs H Q=>∃z y,x=.str z/\vs=[.str y]/\Q (.int (PySem.Txt.count z y)) H
theorem SF:VX X "str.count" XQ:=by
 intro pins s σ H x vs v us Q I rx rv h;obtain⟨z,y,rfl,rfl,q⟩:=h;obtain⟨tk,rfl⟩:=rx;obtain⟨y',rfl,ry⟩:=rv.one;obtain⟨tk2,rfl⟩:=ry;exact SC.count ⟨.int _,H,I.tok (s.toks+1),⟨_,rfl⟩,q⟩
def Xt:Value->V
 | .bool b=>.bl b
 | .int i _=>.int i
 | .str z _=>.str z
 |_=>.non
theorem QK {x:V}{v:Value}(r:RelV x v)(f:ER x=true):Xt v=x:=by
 cases x with
 |non=>cases r;rfl
 |bl b=>cases r;rfl
 |int i=>obtain⟨t,rfl⟩:=r;rfl
 |str z=>obtain⟨t,rfl⟩:=r;rfl
 |_=>exact absurd (show false=true from f) ai
theorem Ow:∀{xs:List V} {its:List Value},AW xs its->xs.all ER=true->its.map Xt=xs
 |_,_,.nil,_=>rfl
 |_,_,.cons r h,f=>by
  rw[dm,aX] at f;rw[aD,QK r f.1,Ow h f.2]
theorem M4:∀{xs:List V} {its:List Value},AW xs its->∀{u:Value},u∈its->∃x∈xs,RelV x u
 |_,_,.nil,_,h=>nomatch h
 |_,_,.cons r h,u,hu=>by
  rcases aL.mp hu with rfl|hu
  ·exact⟨_,aM,r⟩
  ·obtain⟨x,hx,rx⟩:=M4 h hu;exact⟨x,aK _ hx,rx⟩
def Xy (K:PySem.W.Frag):V->List V->Hp->VK->Prop:=λx vs H Q=>∃(l:Addr) (xs:List V) (y:V),x=.ref l/\vs=[y]/\AR K H l xs/\xs.all ER=true/\ER y=true/\Q (.int (xs.countP λx=>KS x y:Nat)) H
theorem N6 {K:PySem.W.Frag}(hK:X.K=K):VX X "list.count" (Xy K):=by
 subst hK;intro pins s σ H x vs v us Q I rx rv h;obtain⟨l,xs,y,rfl,rfl,hl,fx,fy,q⟩:=h;cases rx;obtain⟨u,rfl,ru⟩:=rv.one;obtain⟨its,r,⟨o1,n1,e1,c1,d1,s1⟩,_⟩:=I.list hl;obtain⟨c,dd,da,sl⟩:=o1;simp only at c1 d1 s1;subst c1 d1 s1;refine dO F.slot_list_count ⟨_,e1,rfl⟩ F.entry_list_count (F.args_list_count_2 _ _) (SeqAt.list_countAt l its.toArray n1 _ sl u λz=>KS (Xt z) y) ⟨e1,λz hz=>?_,?_⟩
 ·obtain⟨a,ha,ra⟩:=M4 r (by simpa using hz);have fa:=bu.mp fx a ha;rw[QK ra fa];exact KZ ra ru fa fy
 ·refine⟨.int _,H,I.tok _,⟨_,rfl⟩,?_⟩;have e:its.countP (λz=>KS (Xt z) y)=xs.countP λx=>KS x y:=by
   conv=>rhs;rw[<-Ow r fx,List.countP_map]
   rfl
  rw[e];exact q
def XX (K:PySem.W.Frag):V->List V->Hp->VK->Prop:=λx vs H Q=>∃(l:Addr) (xs:List V) (y:V) (j:Nat),x=.ref l/\vs=[y]/\AR K H l xs/\xs.all ER=true/\ER y=true/\xs.length<=1000/\(∃z,xs[j]?=some z/\KS z y=true)/\(∀m z,m<j->xs[m]?=some z->KS z y=false)/\Q (.int j) H
theorem Sv {K:PySem.W.Frag}(hK:X.K=K):VX X "list.index" (XX K):=by
 subst hK;intro pins s σ H x vs v us Q I rx rv h;obtain⟨l,xs,y,j,rfl,rfl,hl,fx,fy,few,⟨z,hz,ez⟩,no,q⟩:=h;cases rx;obtain⟨u,rfl,ru⟩:=rv.one;obtain⟨its,r,⟨o1,n1,e1,c1,d1,s1⟩,_⟩:=I.list hl;obtain⟨c,dd,da,sl⟩:=o1;simp only at c1 d1 s1;subst c1 d1 s1;have mp:=Ow r fx;have ln:=r.length;have jl:=(aH.mp hz).1;have at_:∀m (hm:m<its.toArray.size),xs[m]?=some (Xt its.toArray[m]):=λm hm=>by
  rw[<-mp,aJ,ak (by simpa using hm)];simp
 refine dO F.slot_list_index ⟨_,e1,rfl⟩ F.entry_list_index (F.args_list_index_2 _ _) (SeqAt.list_indexAt l its.toArray n1 _ sl u (λz=>KS (Xt z) y) j (by rw[aF];omega) (by omega) ?_ ?_) ⟨e1,λz hz=>?_,?_⟩
 ·have:=at_ j (by rw[aF];omega);rw[hz] at this;rw[<-aI this];exact ez
 ·intro m hm hmj;exact no m _ hmj (at_ m hm)
 ·obtain⟨a,ha,ra⟩:=M4 r (by simpa using hz);have fa:=bu.mp fx a ha;rw[QK ra fa];exact KZ ra ru fa fy
 ·exact⟨.int j,H,I.tok _,⟨_,rfl⟩,q⟩
end
section
open PySem PySem.Spec PyProof.Rows
def YZ (d:Addr)(o:Obj)(kvs:List (Key×V)):It:=
 ⟨λi H=>H d=some (.frz o (.dK kvs))/\i<kvs.length,λi H x H'=>H'=H/\∃k v,kvs[i]?=some (k,v)/\x=v,λi H=>H d=some (.frz o (.dK kvs))/\kvs.length<=i⟩
theorem Ym {kvs:List (Key×V)}{vs:List (Key×Value)}(r:KV kvs vs):∀{i:Nat} {p:Key×V} {q:Key×Value},kvs[i]?=some p->vs[i]?=some q->RelV p.2 q.2:=by
 induction r with
 |nil=>intro i p q h _;simp at h
 |cons h _ ih=>
  intro i p q h1 h2;cases i with
  |zero=>
   simp only[List.getElem?_cons_zero,Option.some.injEq] at h1 h2;subst h1 h2;exact h.2
  |succ i=>exact ih (by simpa using h1) (by simpa using h2)
theorem SA {P:Program}{w:World}{K:PySem.W.Frag}{tg:Expr}(d it:Addr)(o:Obj)(kvs:List (Key×V))(es:Array DictEntry)(ep:Nat)(he:o.data=.dict es ep):Turn P w K tg (YZ d o kvs) [it] it (λi h=>h.IsValIter it d i kvs.length ep) where
 mem:=by simp
 obj:=λi h st b hb=>by
  have e:b=it:=by simpa using hb
  subst e;obtain⟨o,e,c,d⟩:=st;exact⟨o,e,λv z=>by rw[d] at z;cases z⟩
 keep:=λi h h' ⟨o,e,r⟩ k=>⟨o,k it (by simp) o e,r⟩
 item:=by
  intro X hP hw hK hc i pins s σ H E I hf st hg;subst hP hw hK;obtain⟨hq,hi⟩:=hg;obtain⟨_,vs,r,hat⟩:=K9 I hq he;have hl:kvs.length=vs.length:=bU r;obtain⟨f0,f1,f2,f3,f4,f5⟩:=hf it (by simp);have ek:kvs[i]?=some kvs[i]:=ak hi;have ev:vs[i]?=some vs[i]:=ak (by omega);rw[hl] at st;refine wpAny_pyNext_values_item (k:=(vs[i]'(by omega)).1) (v:=(vs[i]'(by omega)).2) st hat ev λh' st' sb=>?_
  have I1:Inv X pins σ H { s with heap:=h' }:=I.turned (t':=s.toks) (λb o hb e=>(sb.2 b hb).trans e) f0 f1 f3 f4 f5;rw[<-hl] at st';obtain⟨o2,e,c,dd⟩:=id st';exact⟨_,rfl,LX (s:={ s with heap:=h' }) e c dd (by decide) ⟨kvs[i].2,H,I1,Ym r ek ev,⟨rfl,kvs[i].1,kvs[i].2,ek,rfl⟩,st',λb hb=>(hf b hb).1⟩⟩
 done:=by
  intro X hP hw hK hc i pins s σ H E I hf st hg;subst hP hw hK;obtain⟨hq,hi⟩:=hg;obtain⟨_,vs,r,hat⟩:=K9 I hq he;have hl:kvs.length=vs.length:=bU r;obtain⟨f0,f1,f2,f3,f4,f5⟩:=hf it (by simp);rw[hl] at st;exact wpAny_pyNext_values_end (I.ok.hd hc) st hat (dH (by omega)) λh' eb=>⟨rfl,I.turned (t':=s.toks) (λb o hb e=>eb b o hb e) f0 f1 f3 f4 f5⟩
 self:=λ_ _ _ _ _ st h=>wpAny_pyIter_valiter st h
variable {X:Cx}{tg:Expr}
def X5 (tl:TE):TI:=λσ H R=>tl σ H λx H1=>∃d kvs,x=.ref d/\H1 d=some (.dK kvs)/\∀o,R (YZ d o kvs) (upd H1 d (.frz o (.dK kvs)))
theorem Vi {l:Expr}{tl:TE}{apos cpos:Pos}(hl:PE X l tl)(hbase:attributeBase l "values" X.env (eval l X.env)=eval l X.env:=by rfl)(hline:(apos.endLine == cpos.line)=true:=by rfl):PI X tg (.Call (.Attribute l "values" apos) [] [] cpos) (X5 tl):=by
 intro pins s σ H R I h;refine wpAny_Call_method0_late hbase hline (Bv (hl pins s σ H _ I h) λv s1 ⟨x,H1,I1,r1,q1⟩=>?_);obtain⟨d,kvs,e,hq,q⟩:=q1;subst e;obtain⟨t1,t2⟩:=US (T:="dict") I1 r1 (.inr (.inr (.inl ⟨rfl,.inl ⟨kvs,hq⟩⟩)));cases r1;obtain⟨_,_,vs,r,o,es,ep,ho,_,he,_⟩:=I1.hok d _ hq;have I2:=I1.freeze hq ho;obtain⟨hs,vs,r,hat⟩:=K9 I2 Ac he;have hl:kvs.length=vs.length:=bU r;refine⟨"dict","dict.values",F.plainAttrs_dict,F.slot_dict_values,F.type_dict_values,t1,t2,dS rfl (PySem.evalArgs_none ?_)⟩;refine call_meetsIn F.slot_dict_values t1 F.entry_dict_values (F.args_dict_values_1 _) (meets_dict_values (Bk X.prog X.w) d hs) ⟨⟨vs,hat.dictOf⟩,?_⟩;have kp:∀b ob,s1.heap.get? b=some ob->(s1.heap.push { cls:=.type "dict_values",data:=.fields #[.ref d] }).get? b=some ob:=λb ob e=>ah _ e
 have I3:Inv X pins σ _ { s1 with heap:=s1.heap.push { cls:=.type "dict_values",data:=.fields #[.ref d] } }:=I2.kept (t':=s1.toks) kp;refine wpAny_pyIter_values (s:={ s1 with heap:=s1.heap.push { cls:=.type "dict_values",data:=.fields #[.ref d] } }) (v:=s1.heap.objs.size) (knd:=Bk X.prog X.w) (kvs:=vs) (ep:=ep) ⟨_,ay _ rfl,rfl,rfl⟩ (hat.push _) ?_;refine⟨_,[_],_,_,_,rfl,I3.kept (t':=s1.toks) λb o e=>ah _ e,SA d _ o kvs es ep he,⟨_,ay _ rfl,rfl,by rw[hl];rfl⟩,λb hb=>?_,q o⟩;have e:=ax.mp hb;subst e;exact I3.fpOk (aq _) (I3.hok.fresh (aq _))
theorem Ss {d:Addr}{o:Obj}{H:Hp}{kvs:List (Key×V)}(h:H d=some (.frz o (.dK kvs))):JC (YZ d o kvs) H (kvs.map λp=>p.2):=by
 intro H' s i;refine⟨λhi=>⟨s.get h,by rw[ae] at hi;exact hi⟩,?_,λhi=>⟨s.get h,by rw[ae] at hi;exact hi⟩⟩
 rintro x H'' ⟨rfl,k,v,e,rfl⟩
 exact⟨rfl,λ_=>by rw[aJ,e];rfl⟩
end
section
open PySem PySem.Spec PyProof.Rows
variable {X:Cx}{x1 x2:Str}{c1 c2:Value}{body orelse su1 su2:List Stmt}{b1 b2:Stmt}{np1 np2 hp1 hp2 pos:Pos}
def X8 (K:PySem.W.Frag)(c1 c2:Value)(tb:TX)(te t1 t2:TS):TS:=λD σ H=>tb { D with nx:=te D } (λcls σ' H'=>∃b:Bool,PySem.W.exmOne K cls c1=some b/\(b=false->PySem.W.exmOne K cls c2=some true)/\(if b=true then t1 D σ' H' else t2 D σ' H')) σ H
theorem V0 {tb:TX} {te t1 t2:TS} (hst:X.stack=X.env::X.outer/\X.env.frame=some X.env.locals) (hm1:X.mg x1=some c1) (hm2:X.mg x2=some c2) (hg1:Gl X x1) (hg2:Gl X x2) (hb:Y7 X body tb) (he:On X orelse te) (hs1:∀e,On (X.held e) (b1::su1) t1) (hs2:∀e,On (X.held e) (b2::su2) t2)
  (hd1:(x1 == ("__debug__":Str))=false:=by decide) (hd2:(x2 == ("__debug__":Str))=false:=by decide) :
  PS X (.Try body [.ExceptHandler (some (.Name x1 np1)) none (b1::su1) hp1,.ExceptHandler (some (.Name x2 np2)) none (b2::su2) hp2] orelse [] pos) (X8 X.K c1 c2 tb te t1 t2):=by
 intro pins s σ H D I h;refine wpAny_Try_except (aR (hb pins s σ H _ _ I h) (λf s1 q=>?_) λe s1 q=>?_)
 ·cases f with
  |next=>
   obtain⟨σ',H',I',q⟩:=q;exact he pins s1 σ' H' D I' q
  |ret v=>exact q
  |brk=>exact q
  |cont=>exact q
 ·obtain⟨ea,cls,σ',H1,H',s2,B,a0,rfl,I2,F,b,hx1,hx2,q⟩:=q;have hfr:=I.ok.frames;have fl:=F.fl;rw[hst.1] at hfr fl;refine wpAny_looks_onW hfr hst.2 fl λh4 held4 up4=>?_
  refine wpAny_landsW held4 λh5 fl5 up5=>?_
  have J5:=I2.landed F fl5.1 (up4.trans up5);obtain⟨ob,hob,hcls⟩:=fl5.there;have LT:PySem.W.Looks (model X.prog X.w) h5 (typeOf (.ref ea)) cls:=by
   subst hcls;exact(PySem.W.Looks.ld hob).andThen .now
  refine ed (dY (Ff (J5.held (.ref ea)) hg1 hm1 ?_ hd1)) (by intro z;cases z);refine(eK J5.kIn LT hx1).here ?_;cases b with
  |true=>
   refine codeAny_handlers_suite (lands_againW fl5 λh6 fl6 up6=>?_);have J6:=I2.landed F fl6.1 ((up4.trans up5).trans up6);exact aR (hs1 (.ref ea) pins _ σ' H' D (J6.held (.ref ea)) q) (λf s7 z=>z.unheld J6) λ_ _ z=>False.elim z
  |false=>
   refine ed (dY (Ff (J5.held (.ref ea)) hg2 hm2 ?_ hd2)) (by intro z;cases z);refine(eK J5.kIn LT (hx2 rfl)).here ?_;refine codeAny_handlers_suite (lands_againW fl5 λh6 fl6 up6=>?_);have J6:=I2.landed F fl6.1 ((up4.trans up5).trans up6);exact aR (hs2 (.ref ea) pins _ σ' H' D (J6.held (.ref ea)) q) (λf s7 z=>z.unheld J6) λ_ _ z=>False.elim z
end
end L2
namespace L2
open PySem
theorem Vg {X:Cx}{k:Nat}{C:Addr}{x:Str}{ps:List Str}{sp:Sp}{p pos:Pos}(D:WL X.prog X.w X.K X.mg X.base k C x ps sp)(hr:Room (k+1) X.A)(hg:Gl X x)(hdb:(x == ("__debug__":Str))=false:=by decide):PE X (.Call (.Name x p) [] [] pos) (Wi C sp [] E0 Ug):=by
 obtain⟨f,fd,F,M,hm,hb⟩:=D;exact UU M F hr hg hm hb .nil RN hdb
end L2
set_option maxHeartbeats 4000000
namespace K71
local macro_rules | `(!$x) => do
  let (f, a) ← match x with | `($f:ident $a*) => pure (f, a) | `($f:ident) => pure (f, #[]) | _ => Lean.Macro.throwUnsupported
  let some (n, m, t) := ([([`Ab, `Aw, `BR, `FX, `UL, `RW], 1, 0, ""), ([`Gp, `L3], 2, 0, ""), ([`Ag, `CI, `Om, `EX, `EI, `JF, `Qp, `Vp, `Um], 3, 0, ""), ([`Au, `Ae, `Dd, `IQ, `Lk, `QV, `Mt, `EN, `BU, `B7, `Aq, `LB], 4, 0, ""), ([`A3, `UT], 4, 2, "r"), ([`PD, `Bm, `J4], 4, 3, "d"), ([`Wg], 4, 5, "dd"), ([`Ai, `KB, `IR, `V3, `AF, `MV, `Ik, `TU], 5, 0, ""), ([`Ez], 5, 2, "f"), ([`Aa, `NV, `JI], 5, 3, "r"), ([`Et, `RB, `Od, `Bf], 6, 0, ""), ([`Vi], 6, 3, "rr"), ([`Kc], 6, 4, "r"), ([`TH], 6, 4, "rr"), ([`LR], 6, 5, "rrr"), ([`Aj, `LO, `Ob, `E8, `Wj, `Us, `MB], 7, 0, ""), ([`Nx], 7, 6, "fd"), ([`AL, `GB, `AV, `UH], 8, 0, ""), ([`JZ, `IW], 8, 3, "f"), ([`Ar, `Fg], 8, 4, "f"), ([`Lz], 9, 5, "f"), ([`AM, `EF], 9, 9, "ddrr"), ([`DZ], 10, 0, ""), ([`AO, `V2], 10, 7, "drr"), ([`Bq], 11, 8, "drr"), ([`PJ, `TN], 12, 0, ""), ([`Ca], 12, 8, "dr"), ([`Lf], 12, 11, "rrrrr"), ([`OO, `Qu], 14, 8, "rrr"), ([`Dm], 15, 9, "rrr"), ([`V0], 20, 11, "dd")] : List (List Lean.Name × Nat × Nat × String)).findSome? (λ(l, n) => if l.contains f.getId then some n else none) | Lean.Macro.throwUnsupported
  let u ← `(_)
  let us := Array.replicate n u
  let mut p := #[]
  for c in t.toList.drop (t.length + a.size - m) do
    let v ← if c == 'r' then `(by rfl) else if c == 'd' then `(by decide) else if c == 'f' then `(rfl) else `(by trivial)
    p := p.push v
  `(@$f $us* $a* $p*)
set_option hygiene false
local macro_rules | `(tactic| exists $t) => `(tactic| refine F.ok $t (fun vs H Q E h => ?_) (fun cdv A outer s H vs Q E hr h => ?_))
set_option hygiene true
local macro_rules | `(tactic| trivial) => `(tactic| first | exact .inl rfl | exact .inr rfl | assumption | exact ⟨rfl, rfl, rfl, by decide +kernel, rfl, by decide +kernel, by decide +kernel⟩ | exact L2.Room.mono (by assumption) (by decide))
open PySem L2
theorem SN : 0 <= sizeLine := small (by decide)
theorem D0 : 1 <= sizeLine := small (by decide)
theorem Ef : 2 <= sizeLine := small (by decide)
theorem Hq : 3 <= sizeLine := small (by decide)
theorem OR : 4 <= sizeLine := small (by decide)
theorem TM : 5 <= sizeLine := small (by decide)
def top (i:Nat):Stmt:=PySem.Challenge.pw_stemshelf_k71_plain_names.main.body.getD i (.Pass ⟨0,0,0,0⟩)
abbrev Fs:Stmt:=top 3
theorem QN:FnScope ["thing","least","most"] ["thing","least","most"] (Ad Fs):=by trivial
abbrev Cw:Stmt:=inClass (top 7) 0
theorem L4:FnScope ["self","name"] ["self","name"] (Ad Cw):=by trivial
abbrev CP:Stmt:=inClass (top 8) 0
theorem M5:FnScope ["self","name"] ["self","name"] (Ad CP):=by trivial
abbrev DR:Stmt:=inClass (top 9) 0
theorem OU:FnScope ["self","name"] ["self","name"] (Ad DR):=by trivial
abbrev CQ:Stmt:=inClass (top 10) 0
theorem Nr:FnScope ["self","name"] ["self","name"] (Ad CQ):=by trivial
abbrev Cs:Stmt:=inClass (top 11) 0
theorem MH:FnScope ["self","path"] ["self","path"] (Ad Cs):=by trivial
abbrev Ft:Stmt:=top 19
theorem Rq:FnScope ["thing"] ["thing"] (Ad Ft):=by trivial
abbrev CY:Stmt:=top 25
theorem IC:FnScope ["some","name","one"] ["some","name"] (Ad CY):=by trivial
abbrev B0:Stmt:=top 26
theorem Gr:FnScope ["head","name","keeper"] ["head","name"] (Ad B0):=by trivial
abbrev ED:Stmt:=top 27
theorem Lm:FnScope ["head","name","named"] ["head","name"] (Ad ED):=by trivial
abbrev CA:Stmt:=top 28
theorem Ic:FnScope ["head","name","stem"] ["head","name"] (Ad CA):=by trivial
abbrev Ct:Stmt:=top 29
theorem HP:FnScope ["head","name","seal"] ["head","name"] (Ad Ct):=by trivial
abbrev Ek:Stmt:=top 30
theorem PR:FnScope ["head"] ["head"] (Ad Ek):=by trivial
abbrev EA:Stmt:=top 31
theorem Le:FnScope ["head","stem","seals"] ["head","stem"] (Ad EA):=by trivial
abbrev BN:Stmt:=top 32
theorem JK:FnScope ["head","name"] ["head","name"] (Ad BN):=by trivial
abbrev CN:Stmt:=top 33
theorem Nu:FnScope ["head"] ["head"] (Ad CN):=by trivial
abbrev BO:Stmt:=top 34
theorem JR:FnScope ["head","name","keeper"] ["head","name","keeper"] (Ad BO):=by trivial
abbrev DS:Stmt:=top 35
theorem JS:FnScope ["some","one","others"] ["some","one"] (Ad DS):=by trivial
abbrev Cq:Stmt:=top 36
theorem HF:FnScope ["head","name","bound","keepers"] ["head","name","bound"] (Ad Cq):=by trivial
abbrev CM:Stmt:=top 37
theorem Nd:FnScope ["head","named"] ["head","named"] (Ad CM):=by trivial
abbrev BZ:Stmt:=top 38
theorem Km:FnScope ["head","names"] ["head","names"] (Ad BZ):=by trivial
abbrev DD:Stmt:=top 39
theorem Oq:FnScope ["head"] ["head"] (Ad DD):=by trivial
abbrev Fn:Stmt:=top 41
theorem Dt:FnScope ["head","stem","graft","origin","parent","seal"] ["head","stem"] (Ad Fn):=by trivial
abbrev Cy:Stmt:=top 42
theorem Ms:FnScope ["stem","origin"] ["stem","origin"] (Ad Cy):=by trivial
abbrev Er:Stmt:=top 45
theorem Lb:FnScope ["path","steps"] ["path"] (Ad Er):=by trivial
abbrev DN:Stmt:=top 46
theorem OW:FnScope ["path"] ["path"] (Ad DN):=by trivial
abbrev Cp:Stmt:=top 50
theorem Mw:FnScope ["head","name","bound"] ["head","name","bound"] (Ad Cp):=by trivial
abbrev Cr:Stmt:=top 51
theorem Ie:FnScope ["head","stem","name","named"] ["head","stem","name"] (Ad Cr):=by trivial
abbrev BY:Stmt:=top 52
theorem Eu:FnScope ["head","stem","named","seals"] ["head","stem"] (Ad BY):=by trivial
abbrev A6:Stmt:=top 53
theorem Gu:FnScope ["head","stem"] ["head","stem"] (Ad A6):=by trivial
abbrev B9:Stmt:=top 54
theorem B1:FnScope ["head","name","named","seals","origins","grown"] ["head","name"] (Ad B9):=by trivial
abbrev BF:Stmt:=inClass (top 56) 0
theorem Ju:FnScope ["self"] ["self"] (Ad BF):=by trivial
abbrev Bn:Stmt:=inClass (top 56) 1
theorem HB:FnScope ["self","name","bound"] ["self","name","bound"] (Ad Bn):=by trivial
abbrev BE:Stmt:=inClass (top 56) 2
theorem Jb:FnScope ["self","name","keeper"] ["self","name","keeper"] (Ad BE):=by trivial
abbrev Bh:Stmt:=inClass (top 56) 3
theorem Hm:FnScope ["self","name","keeper","tree"] ["self","name","keeper","tree"] (Ad Bh):=by trivial
abbrev Bs:Stmt:=inClass (top 56) 5
theorem Fd:FnScope ["self","stem","path","content","tree"] ["self","stem","path","content"] (Ad Bs):=by trivial
abbrev Bz:Stmt:=inClass (top 56) 10
theorem IP:FnScope ["self","stem","name"] ["self","stem","name"] (Ad Bz):=by trivial
abbrev Bx:Stmt:=inClass (top 56) 11
theorem FN:FnScope ["self","name","seal","keeper","tree"] ["self","name","seal","keeper"] (Ad Bx):=by trivial
abbrev BA:Stmt:=inClass (top 56) 12
theorem IX:FnScope ["self","stem"] ["self","stem"] (Ad BA):=by trivial
abbrev Bt:Stmt:=inClass (top 56) 13
theorem IB:FnScope ["self","stem"] ["self","stem"] (Ad Bt):=by trivial
abbrev BC:Stmt:=inClass (top 56) 14
theorem Js:FnScope ["self","name"] ["self","name"] (Ad BC):=by trivial
abbrev BB:Stmt:=inClass (top 56) 15
theorem Ja:FnScope ["self","name","path"] ["self","name","path"] (Ad BB):=by trivial
abbrev Br:Stmt:=inClass (top 56) 16
theorem Fe:FnScope ["self","name","tree"] ["self","name"] (Ad Br):=by trivial
abbrev Bg:Stmt:=inClass (top 56) 17
theorem Hl:FnScope ["self","name"] ["self","name"] (Ad Bg):=by trivial
abbrev AY:Stmt:=inClass (top 56) 18
theorem Fz:FnScope ["self","name"] ["self","name"] (Ad AY):=by trivial
abbrev Bo:Stmt:=inClass (top 56) 19
theorem HX:FnScope ["self","stem","tree"] ["self","stem","tree"] (Ad Bo):=by trivial
abbrev Bb:Stmt:=inClass (top 56) 20
theorem GD:FnScope ["self","stem","tree"] ["self","stem","tree"] (Ad Bb):=by trivial
abbrev DJ:Stmt:=top 57
theorem Of:FnScope ["tree","path"] ["tree","path"] (Ad DJ):=by trivial
abbrev CV:Stmt:=top 58
theorem Nn:FnScope ["tree","path"] ["tree","path"] (Ad CV):=by trivial
abbrev DO:Stmt:=top 59
theorem N8:FnScope ["tree","path"] ["tree","path"] (Ad DO):=by trivial
abbrev C1:Stmt:=top 61
theorem IJ:FnScope ["tree","more","other"] ["tree","more"] (Ad C1):=by trivial
abbrev Cd:Stmt:=top 62
theorem G8:FnScope ["tree","folders"] ["tree"] (Ad Cd):=by trivial
abbrev Ce:Stmt:=top 64
theorem Ls:FnScope ["_law_script","_law_k"] ["_law_script","_law_k"] (Ad Ce):=by trivial
abbrev EE:Stmt:=top 65
theorem EY:FnScope ["_law_cell","_law_many","_law_found","_law_k","_law_number"] ["_law_cell","_law_many"] (Ad EE):=by trivial
abbrev CS:Stmt:=top 66
theorem BM:FnScope ["_law_row_here","_law_many","_law_signs","_law_word","_law_at","_law_found","_law_k","_law_one"] ["_law_row_here","_law_many"] (Ad CS):=by trivial
abbrev DI:Stmt:=top 67
theorem OB:FnScope ["_law_row_here","_law_at","_law_names_here"] ["_law_row_here","_law_at","_law_names_here"] (Ad DI):=by trivial
abbrev DL:Stmt:=top 68
theorem D8:FnScope ["_law_cell","_law_names_here","_law_row_here","_law_way","_law_one","_law_other"] ["_law_cell","_law_names_here"] (Ad DL):=by trivial
abbrev DT:Stmt:=top 69
theorem O9:FnScope ["_law_house","_law_deed_here"] ["_law_house","_law_deed_here"] (Ad DT):=by trivial
abbrev DQ:Stmt:=top 70
theorem Fk:FnScope ["_law_house","_law_deed_here","e","_law_kinds"] ["_law_house","_law_deed_here"] (Ad DQ):=by trivial
abbrev Cf:Stmt:=top 71
theorem Hh:FnScope ["_law_name","_law_signs"] ["_law_name"] (Ad Cf):=by trivial
abbrev Fp:Stmt:=top 72
theorem Rv:FnScope ["_law_rows","_law_name","_law_kind"] ["_law_rows","_law_name","_law_kind"] (Ad Fp):=by trivial
abbrev Ep:Stmt:=top 73
theorem Po:FnScope ["_law_rows","_law_name"] ["_law_rows","_law_name"] (Ad Ep):=by trivial
abbrev DA:Stmt:=top 74
theorem CO:FnScope ["_law_keepers","_law_rows","_law_deed_here","_law_found"] ["_law_keepers","_law_rows","_law_deed_here"] (Ad DA):=by trivial
abbrev C2:Stmt:=top 75
theorem Ng:FnScope ["_law_rows","_law_stem"] ["_law_rows","_law_stem"] (Ad C2):=by trivial
abbrev DP:Stmt:=top 76
theorem C3:FnScope ["_law_rows","_law_name","_law_some_here","_law_grown","_law_one"] ["_law_rows","_law_name"] (Ad DP):=by trivial
abbrev Cc:Stmt:=top 77
theorem Cn:FnScope ["_law_rows","_law_stem","_law_origin","_law_other","_law_turn","_law_seal"] ["_law_rows","_law_stem"] (Ad Cc):=by trivial
abbrev Ej:Stmt:=top 78
theorem Ln:FnScope ["_law_keepers","_law_rows","_law_deed_here","_law_turn","_law_found"] ["_law_keepers","_law_rows","_law_deed_here","_law_turn"] (Ad Ej):=by trivial
abbrev DV:Stmt:=top 79
theorem JL:FnScope ["_law_house","_law_name","_law_found"] ["_law_house","_law_name"] (Ad DV):=by trivial
abbrev CW:Stmt:=top 80
theorem Df:FnScope ["_law_house","_law_rows","_law_names_here","_law_name","_law_due_here"] ["_law_house","_law_rows","_law_names_here"] (Ad CW):=by trivial
abbrev JX:Stmt:=top 81
theorem E6:FnScope ["_law_script","_law_cell","_law_names_here","_law_house","_law_keepers","_law_rows","_law_turn","_law_deeds","_law_deed_here","_law_due_here"] ["_law_script"] (Ad JX):=by trivial
structure Txt (K:W.Frag) (mg:Str->Option Value) (C:Addr) (XC:Nat->Addr):Prop where
 cl:Cls K C
 n_own_head:IY K C "own_head"
 x_NoName:mg "NoName"=some (.ref (XC 0))
 x_Twice:mg "Twice"=some (.ref (XC 1))
 x_Bare:mg "Bare"=some (.ref (XC 2))
 x_Grown:mg "Grown"=some (.ref (XC 3))
 x_TooMany:mg "TooMany"=some (.ref (XC 4))
 x_NoPath:mg "NoPath"=some (.ref (XC 5))
 x_StemError:mg "StemError"=some (.ref (XC 6))
 q_TooMany:W.excIn K (XC 4) [.type "ValueError",.type "Exception",.type "BaseException",.type "object"] "ValueError.__new__"=true
 m_NoName_StemError:W.exmOne K (.ref (XC 0)) (.ref (XC 6))=some true
 m_Twice_StemError:W.exmOne K (.ref (XC 1)) (.ref (XC 6))=some true
 m_Bare_StemError:W.exmOne K (.ref (XC 2)) (.ref (XC 6))=some true
 m_Grown_StemError:W.exmOne K (.ref (XC 3)) (.ref (XC 6))=some true
 m_TooMany_StemError:W.exmOne K (.ref (XC 4)) (.ref (XC 6))=some true
 m_NoName_NoName:W.exmOne K (.ref (XC 0)) (.ref (XC 0))=some true
 m_NoPath_NoName:W.exmOne K (.ref (XC 5)) (.ref (XC 0))=some false
 m_NoPath_NoPath:W.exmOne K (.ref (XC 5)) (.ref (XC 5))=some true
 e_TooMany:ExcCls K (XC 4)
 i_NoName:ExiCls K (XC 0)
 f_NoName:W.findIn K (.ref (XC 0)) "name"=some none
 i_Twice:ExiCls K (XC 1)
 f_Twice:W.findIn K (.ref (XC 1)) "name"=some none
 i_Bare:ExiCls K (XC 2)
 f_Bare:W.findIn K (.ref (XC 2)) "name"=some none
 i_Grown:ExiCls K (XC 3)
 f_Grown:W.findIn K (.ref (XC 3)) "name"=some none
 i_NoPath:ExiCls K (XC 5)
 f_NoPath:W.findIn K (.ref (XC 5)) "path"=some none
 k_NoName_NoName:W.kitOne K (.ref (XC 0)) (.ref (XC 0))=some true
 k_NoName_Twice:W.kitOne K (.ref (XC 0)) (.ref (XC 1))=some false
 k_NoName_Bare:W.kitOne K (.ref (XC 0)) (.ref (XC 2))=some false
 k_NoName_Grown:W.kitOne K (.ref (XC 0)) (.ref (XC 3))=some false
 k_NoName_TooMany:W.kitOne K (.ref (XC 0)) (.ref (XC 4))=some false
 k_NoName_ValueError:W.kitOne K (.ref (XC 0)) (.type "ValueError")=some true
 k_Twice_NoName:W.kitOne K (.ref (XC 1)) (.ref (XC 0))=some false
 k_Twice_Twice:W.kitOne K (.ref (XC 1)) (.ref (XC 1))=some true
 k_Twice_Bare:W.kitOne K (.ref (XC 1)) (.ref (XC 2))=some false
 k_Twice_Grown:W.kitOne K (.ref (XC 1)) (.ref (XC 3))=some false
 k_Twice_TooMany:W.kitOne K (.ref (XC 1)) (.ref (XC 4))=some false
 k_Twice_ValueError:W.kitOne K (.ref (XC 1)) (.type "ValueError")=some true
 k_Bare_NoName:W.kitOne K (.ref (XC 2)) (.ref (XC 0))=some false
 k_Bare_Twice:W.kitOne K (.ref (XC 2)) (.ref (XC 1))=some false
 k_Bare_Bare:W.kitOne K (.ref (XC 2)) (.ref (XC 2))=some true
 k_Bare_Grown:W.kitOne K (.ref (XC 2)) (.ref (XC 3))=some false
 k_Bare_TooMany:W.kitOne K (.ref (XC 2)) (.ref (XC 4))=some false
 k_Bare_ValueError:W.kitOne K (.ref (XC 2)) (.type "ValueError")=some true
 k_Grown_NoName:W.kitOne K (.ref (XC 3)) (.ref (XC 0))=some false
 k_Grown_Twice:W.kitOne K (.ref (XC 3)) (.ref (XC 1))=some false
 k_Grown_Bare:W.kitOne K (.ref (XC 3)) (.ref (XC 2))=some false
 k_Grown_Grown:W.kitOne K (.ref (XC 3)) (.ref (XC 3))=some true
 k_Grown_TooMany:W.kitOne K (.ref (XC 3)) (.ref (XC 4))=some false
 k_Grown_ValueError:W.kitOne K (.ref (XC 3)) (.type "ValueError")=some true
 k_TooMany_NoName:W.kitOne K (.ref (XC 4)) (.ref (XC 0))=some false
 k_TooMany_Twice:W.kitOne K (.ref (XC 4)) (.ref (XC 1))=some false
 k_TooMany_Bare:W.kitOne K (.ref (XC 4)) (.ref (XC 2))=some false
 k_TooMany_Grown:W.kitOne K (.ref (XC 4)) (.ref (XC 3))=some false
 k_TooMany_TooMany:W.kitOne K (.ref (XC 4)) (.ref (XC 4))=some true
 k_TooMany_ValueError:W.kitOne K (.ref (XC 4)) (.type "ValueError")=some true
 b_ValueError:mg "ValueError"=none
 b_all:mg "all"=none
 b_dict:mg "dict"=none
 b_int:mg "int"=none
 b_isinstance:mg "isinstance"=none
 b_len:mg "len"=none
 b_range:mg "range"=none
 b_sorted:mg "sorted"=none
 b_str:mg "str"=none
 b_tuple:mg "tuple"=none
 c_SIGNS:∃t,mg "SIGNS"=some (.str (PySem.Str.ofString " !\"#$&'()*+,-./0123456789:;<=>?@ABCDEFGHIJKLMNOPQRSTUVWXYZ[\\]^_`abcdefghijklmnopqrstuvwxyz{|}~") t)
 c_MOST_SIGNS:∃t,mg "MOST_SIGNS"=some (.int 400 t)
 c_FILE_ENTRY:∃t,mg "FILE_ENTRY"=some (.int 1 t)
 c_FOLDER_ENTRY:∃t,mg "FOLDER_ENTRY"=some (.int 2 t)
 c_NAME_SIGNS:∃t,mg "NAME_SIGNS"=some (.str (PySem.Str.ofString "0123456789abcdefghijklmnopqrstuvwxyz") t)
 c_MOST_NAME_SIGNS:∃t,mg "MOST_NAME_SIGNS"=some (.int 8 t)
 c_MOST_ENTRIES:∃t,mg "MOST_ENTRIES"=some (.int 16 t)
 c_STEM:∃t,mg "STEM"=some (.int 1 t)
 c_SEAL:∃t,mg "SEAL"=some (.int 2 t)
 c_MOST_KEEPERS:∃t,mg "MOST_KEEPERS"=some (.int 8 t)
 c_MOST_NAMES:∃t,mg "MOST_NAMES"=some (.int 24 t)
 c_MOST_STEPS:∃t,mg "MOST_STEPS"=some (.int 8 t)
 c_MOST_TREE_ENTRIES:∃t,mg "MOST_TREE_ENTRIES"=some (.int 60 t)
 c_MOST_TREE_DEEP:∃t,mg "MOST_TREE_DEEP"=some (.int 8 t)
abbrev EM:Str:=PySem.Str.ofString ""
abbrev SG:Str:=PySem.Str.ofString " !\"#$&'()*+,-./0123456789:;<=>?@ABCDEFGHIJKLMNOPQRSTUVWXYZ[\\]^_`abcdefghijklmnopqrstuvwxyz{|}~"
section
variable {P:Program}{w:World}{K:W.Frag}{mg:Str->Option Value}{base:Heap}{f C:Addr}{XC:Nat->Addr}{fd:FuncData}
def E9 (K:W.Frag):Sp:=λvs H Q _=>∃(a:Addr) (ns:List Int) (k:Int),vs=[.ref a,.int k]/\0<=k/\AR K H a (ns.map V.int)/\∀z:Int,Q (.int z) H
theorem Lp (T:Txt K mg C XC)(F:Fun K "_law_cell_at" "_law_cell_at" Ce f fd):FnOk P w K mg base EL 1 f fd ["_law_script","_law_k"] (E9 K):=by
 exists Ls
 ·obtain⟨a,ns,k,rfl,_⟩:=h;rfl
 obtain⟨a,ns,k,rfl,hk,hS,q⟩:=h;refine⟨_,(!Ai (!AL (!Ar P5 (pv 1) (!AM Cj (by rfl) T.b_len Eo (!Aa (pv 0) (!Ab))) (AC _)) (!Ag (!Au (!Aj AQ (pv 0) (pv 1) (λ_ _=>rfl)))) (!Aw)) (!Ag (!Au (!Ae)))),?_⟩;refine⟨_,rfl,_,rfl,a,_,rfl,.inl hS,_,_,rfl,rfl,_,rfl,Dh (λc=>?_) (λc=>q 0)⟩;have c':=dec_true c;rw[ae] at c';exact⟨_,rfl,_,rfl,a,_,_,_,rfl,rfl,hS,Gb hk c',q _⟩
def DY (t:Str)(z:Str):Bool:=(C5 z).all λc=>decide (c∈C5 t)
def Lc (a b:Int):V->Bool
 | .str z=>decide (a<=(z.length:Int))&&decide ((z.length:Int)<=b)&&DY SG z
 |_=>false
theorem Uw {H:Hp}{v:V}{a b:Int}(h:isA (Ly H v) "str"=false):Lc a b v=false:=by
 cases v with
 |str z=>exact absurd (show isA "str" "str"=false from h) (by decide)
 |_=>rfl
def Jq (K:W.Frag):Sp:=λvs H Q _=>∃v a b,vs=[v,.int a,.int b]/\Ok H v/\∀H',AA H H'->Q (.bl (Lc a b v)) H'
theorem Ny (t z:Str):((C5 z).map λc=>V.str ⟨#[c]⟩).map (λv=>match v with|V.str y=>V.bl (!(Builtin.Str.occurrences t y 0 t.length 1).isEmpty)|_=>V.non)=((C5 z).map λc=>decide (c∈C5 t)).map V.bl:=by
 rw[ao,ao];refine aB λc _=>?_
 show V.bl (!(Builtin.Str.occurrences t ⟨#[c]⟩ 0 t.length 1).isEmpty)=V.bl (decide (c∈C5 t));rw[fh]
theorem Q4 (T:Txt K mg C XC)(F:Fun K "is_text" "is_text" Fs f fd):FnOk P w K mg base EL 1 f fd ["thing","least","most"] (Jq K):=by
 exists QN
 ·obtain⟨v,a,b,rfl,_⟩:=h;rfl
 obtain⟨v,a,b,rfl,ok,q⟩:=h;refine⟨_,(!Ai (!AL (@PW.pt _ _ _ (!LO (!Dd (!CI (!AM PZ (by rfl) T.b_isinstance BK (!Aa (pv 0) (!Aa (!Wg rfl T.b_str QF) (!Ab)))) (by intro _;rfl))) (!IQ (!Dd (!PJ JQ JQ (pv 1) (!AM GV (by rfl) T.b_len Eo (!Aa (pv 0) (!Ab))) (pv 2) (by with_unfolding_all rfl)))))) (!Ag (!Au (!Lk))) (!Aw)) (!Ag (!Au (!AM (Gq rfl) (by rfl) T.b_all KM (!Aa (@Ed _ ["sign"] _ _ _ _ _ _ _ _ _ _ rfl (!QV (pv 0)) (by decide +kernel) (λC s H fp=>⟨(@AS _ _ (0) _ (show(["sign"]:List Str).Nodup by decide +kernel) rfl (by trivial) (by trivial)),(!BR),(!Fg NC (pv 0) (!PD rfl T.c_SIGNS))⟩) (by intro _;rfl)) (!Ab)))))),?_⟩;refine⟨_,rfl,_,_,_,_,rfl,ok.ty K,ok.kit K,_,rfl,?_⟩;cases hw:isA (Ly H v) "str" with
 |false=>
  refine AX rfl ?_;have:=q H (AA.refl _);rw[Uw hw] at this;exact this
 |true=>
  refine Av rfl ?_;obtain⟨z,rfl,hz⟩:=WH ok hw;have zl:=Dl z;refine⟨_,rfl,_,rfl,_,rfl,small (by omega),_,_,rfl,rfl,_,rfl,?_⟩;refine Dh (λc=>?_) (λc=>?_)
  ·refine⟨_,rfl,_,_,rfl,rfl,_,rfl,?_⟩;refine Dh (λd=>?_) (λd=>?_)
   ·have d':decide ((z.length:Int)<=b)=false:=by simpa using d
    have e:Lc a b (.str z)=false:=by show(decide (a<=(z.length:Int))&&decide ((z.length:Int)<=b)&&DY SG z)=_;rw[d',Bool.and_false];rfl
    have:=q H (AA.refl _);rw[e] at this;exact this
   ·have d':decide ((z.length:Int)<=b)=true:=by simpa using d
    refine⟨_,rfl,z,rfl,?_⟩;refine comp_map (λv=>match v with | .str y=>.bl (!(Builtin.Str.occurrences SG y 0 SG.length 1).isEmpty)|_=>.non) L6 (by rw[ae];exact aV (dC zl) (by omega)) (λx H' R hx s' hR=>?_) λl H7 n7 s7 h7=>?_
    ·obtain⟨u,_,rfl⟩:=aa.mp hx;exact⟨_,rfl,_,_,rfl,rfl,hR H' (AA.refl _)⟩
    rw[Ny] at h7;refine⟨l,_,rfl,AR.of h7,?_⟩;have e:Lc a b (.str z)=((C5 z).map λc=>decide (c∈C5 SG)).all id:=by
     show(decide (a<=(z.length:Int))&&decide ((z.length:Int)<=b)&&DY SG z)=_;unfold DY;rw[c,d',cI];rfl
    have:=q H7 s7;rw[e] at this;exact this
  ·have c':decide (a<=(z.length:Int))=false:=bq.mpr c;have e:Lc a b (.str z)=false:=by show(decide (a<=(z.length:Int))&&decide ((z.length:Int)<=b)&&DY SG z)=_;rw[c',Bool.false_and];rfl
   have:=q H (AA.refl _);rw[e] at this;exact⟨_,rfl,this⟩
abbrev NS:Str:=PySem.Str.ofString "0123456789abcdefghijklmnopqrstuvwxyz"
abbrev LN:Str:=PySem.Str.ofString "abcdefghijklmnopqrstuvwxyz0123456789"
theorem UP:(∀c∈C5 NS,c∈C5 LN)/\∀c∈C5 LN,c∈C5 NS/\c∈C5 SG:=by decide +kernel
def DB:V->Bool
 | .str z=>decide ((1:Int)<=z.length)&&decide ((z.length:Int)<=8)&&DY LN z
 |_=>false
theorem Sk (z:Str):(DY SG z&&DY NS z)=DY LN z:=by
 unfold DY;rw[bH,aX,bu,bu,bu];simp only[decide_eq_true_eq];exact⟨λh c hc=>UP.1 c (h.2 c hc),λh=>⟨λc hc=>(UP.2 c (h c hc)).2,λc hc=>(UP.2 c (h c hc)).1⟩⟩
theorem Sn (v:V):DB v=match v with | .str z=>Lc 1 8 v&&DY NS z|_=>false:=by
 cases v with
 |str z=>
  show(decide ((1:Int)<=z.length)&&decide ((z.length:Int)<=8)&&DY LN z)=((decide ((1:Int)<=(z.length:Int))&&decide ((z.length:Int)<=8)&&DY SG z)&&DY NS z);rw[<-Sk z];simp only[Bool.and_assoc]
 |_=>rfl
def Fw (K:W.Frag):Sp:=λvs H Q _=>∃v,vs=[v]/\Ok H v/\∀H',AA H H'->Q (.bl (DB v)) H'
theorem Rg (T:Txt K mg C XC)(F:Fun K "is_name" "is_name" Ft f fd)(KY:Def P w K mg base 1 "is_text" ["thing","least","most"] (Jq K)):FnOk P w K mg base EL 2 f fd ["thing"] (Fw K):=by
 exists Rq
 ·obtain⟨v,rfl,_⟩:=h;rfl
 obtain⟨v,rfl,ok,q⟩:=h;refine⟨_,(!Ag (!Au (!Ob (!AO KY (by trivial) rfl (!Aa (pv 0) (!Aa (!Ae) (!Aa (!Bm rfl T.c_MOST_NAME_SIGNS) (!Ab))))) (!KB (!AM (Gq rfl) (by rfl) T.b_all KM (!Aa (@Ed _ ["sign"] _ _ _ _ _ _ _ _ _ _ rfl (!QV (pv 0)) (by decide +kernel) (λC s H fp=>⟨(@AS _ _ (0) _ (show(["sign"]:List Str).Nodup by decide +kernel) rfl (by trivial) (by trivial)),(!BR),(!Fg NC (pv 0) (!PD rfl T.c_NAME_SIGNS))⟩) (by intro _;rfl)) (!Ab))))))),?_⟩;refine⟨_,rfl,v,1,8,rfl,ok,λH1 s1=>⟨_,rfl,?_⟩⟩;have en:=Sn v;refine Dh (λc=>?_) (λc=>?_)
 ·cases v with
  |str z=>
   have hz:z.length<=1000:=ok;have zl:=Dl z;refine⟨_,rfl,z,rfl,?_⟩;refine comp_map (λv=>match v with | .str y=>.bl (!(Builtin.Str.occurrences NS y 0 NS.length 1).isEmpty)|_=>.non) L6 (by rw[ae];exact aV (dC zl) (by omega)) (λx H' R hx s' hR=>?_) λl H7 n7 s7 h7=>?_
   ·obtain⟨u,_,rfl⟩:=aa.mp hx;exact⟨_,rfl,_,_,rfl,rfl,hR H' (AA.refl _)⟩
   rw[Ny] at h7;refine⟨l,_,rfl,AR.of h7,?_⟩;have e:DB (.str z)=((C5 z).map λc=>decide (c∈C5 NS)).all id:=by
    rw[en];show(Lc 1 8 (.str z)&&DY NS z)=_;rw[c];unfold DY;rw[cI];rfl
   have:=q H7 (s1.trans s7);rw[e] at this;exact this
  |_=>exact absurd (show false=true from c) ai
 ·have e:DB v=false:=by
   rw[en];cases v with
   |str z=>show(Lc 1 8 (.str z)&&DY NS z)=false;rw[bq.mpr c];rfl
   |_=>rfl
  have:=q H1 s1;rw[e] at this;exact this
end
abbrev FS:Str:=PySem.Str.ofString "f"
def Eg:Option Str->List (Key×V)
 |none=>[]
 |some c=>[(.inr FS,.str c)]
inductive En where
 |st (nm kp og:Str) (t:Option Str)
 |sl (nm sm:Str) (tn:Int) (t:Option Str)
def En.nm:En->Str
 | .st nm _ _ _=>nm
 | .sl nm _ _ _=>nm
def En.tr:En->Option Str
 | .st _ _ _ t=>t
 | .sl _ _ _ t=>t
def En.turn:En->Int
 | .sl _ _ tn _=>tn
 |_=>0
def En.isS:En->Bool
 | .st _ _ _ _=>true
 |_=>false
def En.isSl (sm:Str):En->Bool
 | .sl _ s _ _=>decide (s=sm)
 |_=>false
def En.items (ta:Addr):En->List V
 | .st nm kp og _=>[.str nm,.int 1,.str kp,.str og,.ref ta]
 | .sl nm sm tn _=>[.str nm,.int 2,.str sm,.int tn,.ref ta]
structure Pe where
 a:Addr
 t:Addr
 e:En
structure St (H H':Hp):Prop where
 keep:∀b o,(∀ps,o≠.tbl ps)->H b=some o->H' b=some o
 there:∀b,H' b=none->H b=none
theorem St.refl (H:Hp):St H H:=⟨λ_ _ _ h=>h,λ_ h=>h⟩
theorem St.trans {H H1 H2:Hp}(a:St H H1)(b:St H1 H2):St H H2:=⟨λc o n h=>b.keep c o n (a.keep c o n h),λc h=>a.there c (b.there c h)⟩
theorem AD {H H':Hp}(s:AA H H'):St H H':=⟨λb o _ h=>s b o h,λ_ h=>s.free h⟩
theorem St.tup {H H':Hp}(s:St H H'){b:Addr}{xs:List V}(h:H b=some (.tup xs)):H' b=some (.tup xs):=s.keep b _ (by intro _ z;cases z) h
theorem St.lst {H H':Hp}(s:St H H'){b:Addr}{xs:List V}(h:H b=some (.lst xs)):H' b=some (.lst xs):=s.keep b _ (by intro _ z;cases z) h
theorem St.dk {H H':Hp}(s:St H H'){b:Addr}{xs:List (Key×V)}(h:H b=some (.dK xs)):H' b=some (.dK xs):=s.keep b _ (by intro _ z;cases z) h
def MW (H:Hp)(p:Pe):Prop:=H p.t=some (.dK (Eg p.e.tr))/\H p.a=some (.tup (p.e.items p.t))
def Sd (H H':Hp):Prop:=(∀b xs,H b=some (.tup xs)->H' b=some (.tup xs))/\∀b kvs,H b=some (.dK kvs)->H' b=some (.dK kvs)
theorem St.sd {H H':Hp}(s:St H H'):Sd H H':=⟨λ_ _ h=>s.tup h,λ_ _ h=>s.dk h⟩
theorem MW.sd {H H':Hp}{p:Pe}(h:MW H p)(k:Sd H H'):MW H' p:=⟨k.2 _ _ h.1,k.1 _ _ h.2⟩
theorem MW.fst {H:Hp}{p:Pe}(h:MW H p):∃r,H p.a=some (.tup (.str p.e.nm::r)):=by
 obtain⟨a,t,e⟩:=p;cases e<;>exact⟨_,h.2⟩
abbrev Kq:=Addr×Str×Int
structure HeadAt (H:Hp) (h:Addr) (ag:Int) (k:Addr) (qs:List Kq) (n:Addr) (ps:List Pe):Prop where
 at_:H h=some (.tup [.int ag,.ref k,.ref n])
 kp:H k=some (.tup (qs.map λq=>V.ref q.1))
 ke:∀q∈qs,H q.1=some (.tup [.str q.2.1,.int q.2.2])
 nm:H n=some (.tup (ps.map λp=>V.ref p.a))
 en:∀p∈ps,MW H p
theorem HeadAt.sd {H H':Hp}{h:Addr}{ag:Int}{k n:Addr}{qs:List Kq}{ps:List Pe}(x:HeadAt H h ag k qs n ps)(g:Sd H H'):HeadAt H' h ag k qs n ps:=
 ⟨g.1 _ _ x.at_,g.1 _ _ x.kp,λq hq=>g.1 _ _ (x.ke q hq),g.1 _ _ x.nm,λp hp=>(x.en p hp).sd g⟩
theorem HeadAt.st {H H':Hp}{h:Addr}{ag:Int}{k n:Addr}{qs:List Kq}{ps:List Pe}(x:HeadAt H h ag k qs n ps)(g:St H H'):HeadAt H' h ag k qs n ps:=x.sd g.sd
inductive Rf where
 |noName (z:Str)|twice (z:Str)|bare (z:Str)|grown (z:Str)|many
def Rf.no:Rf->Nat
 | .noName _=>0 | .twice _=>1 | .bare _=>2 | .grown _=>3 | .many=>4
def Ex (XC:Nat->Addr)(E:Value->Option Addr->Hp->Prop)(H:Hp):Rf->Prop
 | .noName z=>∀dx,H dx=none->E (.ref (XC 0)) (some dx) (upd H dx (.xd [("name",.str z)]))
 | .twice z=>∀dx,H dx=none->E (.ref (XC 1)) (some dx) (upd H dx (.xd [("name",.str z)]))
 | .bare z=>∀dx,H dx=none->E (.ref (XC 2)) (some dx) (upd H dx (.xd [("name",.str z)]))
 | .grown z=>∀dx,H dx=none->E (.ref (XC 3)) (some dx) (upd H dx (.xd [("name",.str z)]))
 | .many=>E (.ref (XC 4)) none H
theorem EJ (a b:Str):decide (V.str a=V.str b)=decide (a=b):=by
 by_cases z:a=b
 ·rw[au z,au (by rw[z])]
 ·rw[aG z,aG λy=>z (V.str.inj y)]
def Ii (nm:Str)(ps:List Pe):Option Pe:=ps.find? λp=>decide (p.e.nm=nm)
theorem CH {nm:Str}{ps:List Pe}{p:Pe}(h:Ii nm ps=some p):p∈ps/\p.e.nm=nm:=⟨eZ h,aE (List.find?_some (p:=λp:Pe=>decide (p.e.nm=nm)) h)⟩
section
variable {P:Program}{w:World}{K:W.Frag}{mg:Str->Option Value}{base:Heap}{f C:Addr}{XC:Nat->Addr}{fd:FuncData}{PT PU:Addr}
theorem LI (T:Txt K mg C XC)(F:Fun K "__init__" "NoName.__init__" Cw f fd):FnOk P w K mg base EL 1 f fd ["self","name"] (K4 (XC 0) "name"):=by
 exists L4
 ·obtain⟨e,y,rfl,_⟩:=h;rfl
 obtain⟨e,y,rfl,he,q⟩:=h;refine⟨_,(!Ag (!JZ (pv 0) (pv 1))),?_⟩;exact⟨_,rfl,_,rfl,e,XC 0,rfl,he,T.i_NoName,T.f_NoName,q⟩
theorem Np (T:Txt K mg C XC)(F:Fun K "__init__" "Twice.__init__" CP f fd):FnOk P w K mg base EL 1 f fd ["self","name"] (K4 (XC 1) "name"):=by
 exists M5
 ·obtain⟨e,y,rfl,_⟩:=h;rfl
 obtain⟨e,y,rfl,he,q⟩:=h;refine⟨_,(!Ag (!JZ (pv 0) (pv 1))),?_⟩;exact⟨_,rfl,_,rfl,e,XC 1,rfl,he,T.i_Twice,T.f_Twice,q⟩
theorem O4 (T:Txt K mg C XC)(F:Fun K "__init__" "Bare.__init__" DR f fd):FnOk P w K mg base EL 1 f fd ["self","name"] (K4 (XC 2) "name"):=by
 exists OU
 ·obtain⟨e,y,rfl,_⟩:=h;rfl
 obtain⟨e,y,rfl,he,q⟩:=h;refine⟨_,(!Ag (!JZ (pv 0) (pv 1))),?_⟩;exact⟨_,rfl,_,rfl,e,XC 2,rfl,he,T.i_Bare,T.f_Bare,q⟩
theorem Nc (T:Txt K mg C XC)(F:Fun K "__init__" "Grown.__init__" CQ f fd):FnOk P w K mg base EL 1 f fd ["self","name"] (K4 (XC 3) "name"):=by
 exists Nr
 ·obtain⟨e,y,rfl,_⟩:=h;rfl
 obtain⟨e,y,rfl,he,q⟩:=h;refine⟨_,(!Ag (!JZ (pv 0) (pv 1))),?_⟩;exact⟨_,rfl,_,rfl,e,XC 3,rfl,he,T.i_Grown,T.f_Grown,q⟩
theorem Mn (T:Txt K mg C XC)(F:Fun K "__init__" "NoPath.__init__" Cs f fd):FnOk P w K mg base EL 1 f fd ["self","path"] (K4 (XC 5) "path"):=by
 exists MH
 ·obtain⟨e,y,rfl,_⟩:=h;rfl
 obtain⟨e,y,rfl,he,q⟩:=h;refine⟨_,(!Ag (!JZ (pv 0) (pv 1))),?_⟩;exact⟨_,rfl,_,rfl,e,XC 5,rfl,he,T.i_NoPath,T.f_NoPath,q⟩
def Pk (nm:Str)(rs:List (Addr×Str)):V:=match rs.find? λr=>decide (r.2=nm) with
 |some r=>.ref r.1
 |none=>.non
def Di (K:W.Frag):Sp:=λvs H Q _=>∃(n:Addr) (rs:List (Addr×Str)) (nm:Str),vs=[.ref n,.str nm]/\H n=some (.tup (rs.map λp=>V.ref p.1))/\(∀p∈rs,∃r,H p.1=some (.tup (.str p.2::r)))/\Q (Pk nm rs) H
theorem NN {α:Type}{p:α->Bool}{l:List α}{i:Nat}(no:∀j x,j<i->l[j]?=some x->p x=false):l.find? p=(l.drop i).find? p:=by
 induction i generalizing l with
 |zero=>rfl
 |succ i ih=>
  cases l with
  |nil=>rfl
  |cons x l=>
   rw[List.find?_cons,no 0 x (Nat.succ_pos _) rfl,List.drop_succ_cons];exact ih λj y hj hy=>no (j+1) y (Nat.succ_lt_succ hj) hy
theorem Nl (T:Txt K mg C XC)(F:Fun K "one_called" "one_called" CY f fd):FnOk P w K mg base EL 1 f fd ["some","name"] (Di K):=by
 exists IC
 ·obtain⟨n,rs,nm,rfl,_⟩:=h;rfl
 obtain⟨n,rs,nm,rfl,hn,he,q⟩:=h;refine⟨_,(!Ai (!GB bR rfl (!Mt (pv 0)) (@AS _ _ (2) _ IC.nd rfl (by trivial) (by trivial)) (!Ag (!AL (!Ar Bp (!Aj Ak (pv 2) (!Ae) (λ_ _=>rfl)) (pv 1) (AC _)) (!Ag (!Au (pv 2))) (!Aw))) (by intro _;rfl)) (!Ag (!Au (!Om)))),?_⟩
 try dsimp only[AZ,Cx.nox,Cx.wish]
 refine⟨_,rfl,n,rfl,⟨_,AJ.of hn⟩,V8 (K:=K) (a:=n) (xs:=rs.map λp=>V.ref p.1) (λi σ H2=>H2=H/\(∃v,σ=[some (.ref n),some (.str nm),v])/\∀j x,j<i->rs[j]?=some x->decide (x.2=nm)=false) ⟨rfl,⟨none,rfl⟩,λj q hj=>absurd hj (Nat.not_lt_zero _)⟩ (λi σ H2 _ ⟨e,_⟩=>by rw[e];exact AJ.of hn) ?_ ?_⟩
 ·rintro i x σ H2 hi ⟨rfl,⟨v,rfl⟩,no⟩
  rw[aJ] at hi;obtain⟨q',hq,rfl⟩:=bA.mp hi;have hm:=aU hq;obtain⟨r,hr1⟩:=he q' hm;refine⟨_,rfl,q'.1,_,_,_,rfl,rfl,AJ.of hr1,Af (j:=0) rfl,_,rfl,rfl,_,rfl,?_⟩;rw[EJ];refine Dh (λc=>?_) (λc=>?_)
  ·have e:Pk nm rs=.ref q'.1:=by
    unfold Pk;rw[NN no,List.drop_eq_getElem_cons (aH.mp hq).1,(aH.mp hq).2,List.find?_cons,c]
   rw[e] at q;exact⟨_,rfl,q⟩
  ·refine⟨rfl,⟨_,rfl⟩,λj q2 hj hq2=>?_⟩;rcases fe.mp hj with h|rfl
   ·exact no j q2 h hq2
   ·rw[hq] at hq2;cases hq2;exact bq.mpr c
 ·rintro σ H2 ⟨rfl,⟨v,rfl⟩,no⟩
  rw[ae] at no;have e:Pk nm rs=.non:=by
   unfold Pk;rw[NN no,List.drop_length];rfl
  rw[e] at q;exact q
theorem Ud {nm:Str}(ps:List Pe):Pk nm (ps.map λp=>(p.a,p.e.nm))=match Ii nm ps with|some p=>.ref p.a|none=>.non:=by
 unfold Pk Ii;rw[List.find?_map];show(match Option.map _ (ps.find? λp=>decide (p.e.nm=nm)) with|some (r:Addr×Str)=>V.ref r.1|none=>V.non)=_;cases ps.find? λp=>decide (p.e.nm=nm)<;>rfl
theorem XH {nm:Str}(qs:List Kq):Pk nm (qs.map λq=>(q.1,q.2.1))=match qs.find? λq=>decide (q.2.1=nm) with|some p=>.ref p.1|none=>.non:=by
 unfold Pk;rw[List.find?_map];show(match Option.map _ (qs.find? λp=>decide (p.2.1=nm)) with|some (r:Addr×Str)=>V.ref r.1|none=>V.non)=_;cases qs.find? λp=>decide (p.2.1=nm)<;>rfl
def Eh (K:W.Frag)(XC:Nat->Addr):Sp:=λvs H Q E=>∃(h:Addr) (nm:Str) (ag:Int) (k n:Addr) (qs:List Kq) (ps:List Pe),vs=[.ref h,.str nm]/\HeadAt H h ag k qs n ps/\(nm∈qs.map (·.2.1)->∀a,Q (.ref a) H)/\(nm∉qs.map (·.2.1)->Ex XC E H (.noName nm))
theorem J9 (T:Txt K mg C XC)(F:Fun K "keeper_called" "keeper_called" B0 f fd)(BJ:Def P w K mg base 1 "one_called" ["some","name"] (Di K))(AK:HJ P w K mg base 1 "NoName" (XC 0) "name" ["self","name"]):FnOk P w K mg base (Gk P w) 3 f fd ["head","name"] (Eh K XC):=by
 refine F.okE Gr (λvs H Q E h=>?_) (λcdv A outer s H vs Q E hr h=>?_)
 ·obtain⟨h,nm,ag,k,n,qs,ps,rfl,_⟩:=h;rfl
 obtain⟨h,nm,ag,k,n,qs,ps,rfl,hd,q1,q2⟩:=h;refine⟨_,(!Ai (@AE _ _ (2) _ _ _ _ Gr.nd rfl (by trivial) (!AO BJ (by trivial) rfl (!Aa (!Aj Ak (pv 0) (!Ae) (λ_ _=>rfl)) (!Aa (pv 1) (!Ab)))) (by rfl) (by trivial)) (!Ai (!AL (!Et (!IR (pv 2)) (by first|exact Bl _ (by decide) (by decide)|rfl)) (!Ag (!Ca BS rfl AK (by trivial) rfl (!Aa (pv 1) (!Ab)))) (!Aw)) (!Ag (!Au (pv 2))))),?_⟩
 try dsimp only[AZ,Cx.nox,Cx.wish]
 refine⟨_,rfl,h,_,_,_,rfl,rfl,AJ.of hd.at_,Af (j:=1) rfl,_,rfl,k,qs.map λq=>(q.1,q.2.1),nm,rfl,by rw[ao];exact hd.kp,λp hp=>?_,?_⟩
 ·obtain⟨q,hq,rfl⟩:=aa.mp hp;exact⟨_,hd.ke q hq⟩
 rw[XH];cases e:qs.find? λq=>decide (q.2.1=nm) with
 |some p=>
  have m:nm∈qs.map (·.2.1):=aa.mpr ⟨p,eZ e,aE (List.find?_some (p:=λq:Kq=>decide (q.2.1=nm)) e)⟩;exact⟨_,rfl,_,rfl,Av (aG λe=>by cases e) ⟨_,rfl,q1 m p.1⟩⟩
 |none=>
  have m:nm∉qs.map (·.2.1):=λz=>by
   obtain⟨p,hp,ep⟩:=aa.mp z;exact List.find?_eq_none.mp e p hp (au ep)
  exact⟨_,rfl,_,rfl,AX rfl ⟨_,rfl,_,rfl,q2 m⟩⟩
def DU (K:W.Frag)(XC:Nat->Addr):Sp:=λvs H Q E=>∃(h:Addr) (nm:Str) (ag:Int) (k n:Addr) (qs:List Kq) (ps:List Pe),vs=[.ref h,.str nm]/\HeadAt H h ag k qs n ps/\(∀p,Ii nm ps=some p->Q (.ref p.a) H)/\(Ii nm ps=none->Ex XC E H (.noName nm))
theorem PL (T:Txt K mg C XC)(F:Fun K "named_so" "named_so" ED f fd)(BJ:Def P w K mg base 1 "one_called" ["some","name"] (Di K))(AK:HJ P w K mg base 1 "NoName" (XC 0) "name" ["self","name"]):FnOk P w K mg base (Gk P w) 3 f fd ["head","name"] (DU K XC):=by
 refine F.okE Lm (λvs H Q E h=>?_) (λcdv A outer s H vs Q E hr h=>?_)
 ·obtain⟨h,nm,ag,k,n,qs,ps,rfl,_⟩:=h;rfl
 obtain⟨h,nm,ag,k,n,qs,ps,rfl,hd,q1,q2⟩:=h;refine⟨_,(!Ai (@AE _ _ (2) _ _ _ _ Lm.nd rfl (by trivial) (!AO BJ (by trivial) rfl (!Aa (!Aj Ak (pv 0) (!Ae) (λ_ _=>rfl)) (!Aa (pv 1) (!Ab)))) (by rfl) (by trivial)) (!Ai (!AL (!Et (!IR (pv 2)) (by first|exact Bl _ (by decide) (by decide)|rfl)) (!Ag (!Ca BS rfl AK (by trivial) rfl (!Aa (pv 1) (!Ab)))) (!Aw)) (!Ag (!Au (pv 2))))),?_⟩
 try dsimp only[AZ,Cx.nox,Cx.wish]
 refine⟨_,rfl,h,_,_,_,rfl,rfl,AJ.of hd.at_,Af (j:=2) rfl,_,rfl,n,ps.map λp=>(p.a,p.e.nm),nm,rfl,by rw[ao];exact hd.nm,λp hp=>?_,?_⟩
 ·obtain⟨q,hq,rfl⟩:=aa.mp hp;exact(hd.en q hq).fst
 rw[Ud];cases e:Ii nm ps with
 |some p=>exact⟨_,rfl,_,rfl,Av (aG λe=>by cases e) ⟨_,rfl,q1 p e⟩⟩
 |none=>exact⟨_,rfl,_,rfl,AX rfl ⟨_,rfl,_,rfl,q2 e⟩⟩
def fst (nm:Str)(ps:List Pe):Option Pe:=(Ii nm ps).filter λp=>p.e.isS
def U7 (nm:Str)(ps:List Pe):Option Pe:=(Ii nm ps).filter λp=>!p.e.isS
theorem D7 {nm:Str}{ps:List Pe}{p:Pe}(h:fst nm ps=some p):p∈ps/\∃kp og t,p.e=.st nm kp og t:=by
 obtain⟨h1,h2⟩:=bI.mp h;obtain⟨h3,h4⟩:=CH h1;refine⟨h3,?_⟩;obtain⟨a,t,e⟩:=p;cases e with
 |st nm kp og t=>subst h4;exact⟨_,_,_,rfl⟩
 |sl _ _ _ _=>cases h2
theorem TQ {nm:Str}{ps:List Pe}{p:Pe}(h:U7 nm ps=some p):p∈ps/\∃sm tn t,p.e=.sl nm sm tn t:=by
 obtain⟨h1,h2⟩:=bI.mp h;obtain⟨h3,h4⟩:=CH h1;refine⟨h3,?_⟩;obtain⟨a,t,e⟩:=p;cases e with
 |sl nm sm tn t=>subst h4;exact⟨_,_,_,rfl⟩
 |st _ _ _ _=>cases h2
def Bw (K:W.Frag)(XC:Nat->Addr):Sp:=λvs H Q E=>∃(h:Addr) (nm:Str) (ag:Int) (k n:Addr) (qs:List Kq) (ps:List Pe),vs=[.ref h,.str nm]/\HeadAt H h ag k qs n ps/\(∀p,fst nm ps=some p->Q (.ref p.a) H)/\(fst nm ps=none->Ex XC E H (.noName nm))
theorem LY (T:Txt K mg C XC)(F:Fun K "stem_called" "stem_called" CA f fd)(BG:BW P w K mg base 3 "named_so" ["head","name"] (DU K XC))(AK:HJ P w K mg base 1 "NoName" (XC 0) "name" ["self","name"]):FnOk P w K mg base (Gk P w) 4 f fd ["head","name"] (Bw K XC):=by
 refine F.okE Ic (λvs H Q E h=>?_) (λcdv A outer s H vs Q E hr h=>?_)
 ·obtain⟨h,nm,ag,k,n,qs,ps,rfl,_⟩:=h;rfl
 obtain⟨h,nm,ag,k,n,qs,ps,rfl,hd,q1,q2⟩:=h;refine⟨_,(!Ai (@AE _ _ (2) _ _ _ _ Ic.nd rfl (by trivial) (!Bq BG (by trivial) rfl AH (!Aa (pv 0) (!Aa (pv 1) (!Ab)))) (by rfl) (by trivial)) (!Ai (!AL (!Ar NO (!Aj Ak (pv 2) (!Ae) (λ_ _=>rfl)) (!Bm rfl T.c_STEM) (AC _)) (!Ag (!Ca BS rfl AK (by trivial) rfl (!Aa (pv 1) (!Ab)))) (!Aw)) (!Ag (!Au (pv 2))))),?_⟩
 try dsimp only[AZ,Cx.nox,Cx.wish]
 refine⟨_,rfl,_,rfl,h,nm,ag,k,n,qs,ps,rfl,hd,λp hp=>?_,λno=>q2 (by unfold fst;rw[no];rfl)⟩;have ha:=(hd.en p (CH hp).1).2;cases ee:p.e with
 |st nm' kp og t=>
  rw[ee] at ha;exact⟨_,rfl,p.a,_,_,_,rfl,rfl,AJ.of ha,Af (j:=1) rfl,rfl,_,rfl,Av rfl ⟨_,rfl,q1 p (by unfold fst;rw[hp];exact bI.mpr ⟨rfl,by rw[ee];rfl⟩)⟩⟩
 |sl nm' sm tn t=>
  rw[ee] at ha;exact⟨_,rfl,p.a,_,_,_,rfl,rfl,AJ.of ha,Af (j:=1) rfl,rfl,_,rfl,AX rfl ⟨_,rfl,_,rfl,q2 (by unfold fst;rw[hp];show Option.filter _ (some p)=none;rw[Option.filter_some,aj (by rw[ee];exact ai)])⟩⟩
def Eb (K:W.Frag)(XC:Nat->Addr):Sp:=λvs H Q E=>∃(h:Addr) (nm:Str) (ag:Int) (k n:Addr) (qs:List Kq) (ps:List Pe),vs=[.ref h,.str nm]/\HeadAt H h ag k qs n ps/\(∀p,U7 nm ps=some p->Q (.ref p.a) H)/\(U7 nm ps=none->Ex XC E H (.noName nm))
theorem LV (T:Txt K mg C XC)(F:Fun K "seal_called" "seal_called" Ct f fd)(BG:BW P w K mg base 3 "named_so" ["head","name"] (DU K XC))(AK:HJ P w K mg base 1 "NoName" (XC 0) "name" ["self","name"]):FnOk P w K mg base (Gk P w) 4 f fd ["head","name"] (Eb K XC):=by
 refine F.okE HP (λvs H Q E h=>?_) (λcdv A outer s H vs Q E hr h=>?_)
 ·obtain⟨h,nm,ag,k,n,qs,ps,rfl,_⟩:=h;rfl
 obtain⟨h,nm,ag,k,n,qs,ps,rfl,hd,q1,q2⟩:=h;refine⟨_,(!Ai (@AE _ _ (2) _ _ _ _ HP.nd rfl (by trivial) (!Bq BG (by trivial) rfl AH (!Aa (pv 0) (!Aa (pv 1) (!Ab)))) (by rfl) (by trivial)) (!Ai (!AL (!Ar NO (!Aj Ak (pv 2) (!Ae) (λ_ _=>rfl)) (!Bm rfl T.c_SEAL) (AC _)) (!Ag (!Ca BS rfl AK (by trivial) rfl (!Aa (pv 1) (!Ab)))) (!Aw)) (!Ag (!Au (pv 2))))),?_⟩
 try dsimp only[AZ,Cx.nox,Cx.wish]
 refine⟨_,rfl,_,rfl,h,nm,ag,k,n,qs,ps,rfl,hd,λp hp=>?_,λno=>q2 (by unfold U7;rw[no];rfl)⟩;have ha:=(hd.en p (CH hp).1).2;cases ee:p.e with
 |sl nm' kp og t=>
  rw[ee] at ha;exact⟨_,rfl,p.a,_,_,_,rfl,rfl,AJ.of ha,Af (j:=1) rfl,rfl,_,rfl,Av rfl ⟨_,rfl,q1 p (by unfold U7;rw[hp];exact bI.mpr ⟨rfl,by rw[ee];rfl⟩)⟩⟩
 |st nm' sm tn t=>
  rw[ee] at ha;exact⟨_,rfl,p.a,_,_,_,rfl,rfl,AJ.of ha,Af (j:=1) rfl,rfl,_,rfl,AX rfl ⟨_,rfl,_,rfl,q2 (by unfold U7;rw[hp];show Option.filter _ (some p)=none;rw[Option.filter_some,aj (by rw[ee];exact ai)])⟩⟩
end
abbrev LQ:Str:=PySem.Str.ofString "seals_of"++PySem.Str.ofString ".<locals>."++PySem.Str.ofString "<lambda>"
abbrev LP:Pos:=⟨78,29,78,49⟩
abbrev MQ:Str:=PySem.Str.ofString "put_among"++PySem.Str.ofString ".<locals>."++PySem.Str.ofString "<lambda>"
abbrev MP:Pos:=⟨93,44,93,66⟩
theorem ND {α β:Type}{f:α->β}{us vs:List β}(h:us.Perm vs):∀{qs:List α},vs=qs.map f->∃us':List α,us'.Perm qs/\us'.map f=us:=by
 induction h with
 |nil=>intro qs e;exact⟨[],by rw[dQ.mp e.symm],rfl⟩
 |cons x _ ih=>
  intro qs e;cases qs with
  |nil=>cases e
  |cons q qs=>
   rw[aD] at e;injection e with e1 e2
   obtain⟨us',h1,h2⟩:=ih e2;exact⟨q::us',h1.cons q,by rw[aD,h2,e1]⟩
 |swap x y l=>
  intro qs e;cases qs with
  |nil=>cases e
  |cons q qs=>
   cases qs with
   |nil=>cases e
   |cons q' qs=>
    rw[aD,aD] at e;injection e with e1 e2
    injection e2 with e2 e3
    exact⟨q'::q::qs,List.Perm.swap _ _ _,by rw[aD,aD,e1,e2,e3]⟩
 |trans _ _ ih1 ih2=>
  intro qs e;obtain⟨a,h1,h2⟩:=ih2 e;obtain⟨b,h3,h4⟩:=ih1 h2.symm;exact⟨b,h3.trans h1,h4⟩
theorem RZ {α:Type}{key:α->Str}:∀{l1 l2:List α},l1.Perm l2->l1.Pairwise (λx y=>NB (key x) (key y))->l2.Pairwise (λx y=>NB (key x) (key y))->l1=l2
 |[],l2,h,_,_=>(List.nil_perm.mp h).symm
 |a::r1,[],h,_,_=>by have:=h.length_eq;cases this
 |a::r1,b::r2,h,p1,p2=>by
  rw[bE] at p1 p2;rcases Classical.em (a=b) with e|e
  ·subst e;rw[RZ (List.Perm.cons_inv h) p1.2 p2.2]
  ·have ha:a∈b::r2:=h.mem_iff.mp aM;have hb:b∈a::r1:=h.mem_iff.mpr aM;have h1:=(aL.mp ha).resolve_left e;have h2:=(aL.mp hb).resolve_left λz=>e z.symm
   exact absurd (cw (p1.1 b h2) (p2.1 a h1)) (cH _)
theorem Ke {a b:Str}(h:NB a b):a≠b:=λe=>by subst e;exact cH _ h
def putL {α:Type}(key:α->Str)(x:α):List α->List α
 |[]=>[x]
 |y::r=>if key y=key x then x::r else if NB (key x) (key y) then x::y::r else y::putL key x r
abbrev Ri {α:Type}(key:α->Str)(l:List α):Prop:=l.Pairwise λx y=>NB (key x) (key y)
theorem Gv {α:Type}{key:α->Str}{x:α}:∀{l:List α},Ri key l->(putL key x l).Perm ((l.filter λy=>!decide (key y=key x))++[x])
 |[],_=>.refl _
 |y::r,h=>by
  rw[Ri,bE] at h;unfold putL
  by_cases c:key y=key x
  ·rw[aw c,bC,aj (by rw[au c];exact ai),bQ.mpr λz hz=>by
    rw[aG λe=>Ke (h.1 z hz) (by rw[c,e])];rfl]
   exact(eS _ _).symm
  ·rw[aj c]
   by_cases d:NB (key x) (key y)
   ·rw[aw d,bQ.mpr λz hz=>?_]
    ·exact(eS _ _).symm
    ·rcases aL.mp hz with rfl|hz
     ·rw[aG c];rfl
     ·rw[aG λe=>Ke (cw d (h.1 z hz)) e.symm];rfl
   ·rw[aj d,bC,aw (by rw[aG c];rfl)];exact(Gv h.2).cons _
theorem CF {α:Type}{key:α->Str}{x y:α}{l:List α}(h:Ri key l):y∈putL key x l↔y=x\/y∈l/\key y≠key x:=by
 rw[(Gv h).mem_iff,aP,av,ax];constructor
 ·rintro(⟨h1,h2⟩|h)
  ·exact .inr ⟨h1,λe=>by rw[au e] at h2;cases h2⟩
  ·exact .inl h
 ·rintro(h|⟨h1,h2⟩)
  ·exact .inr h
  ·exact .inl ⟨h1,by rw[aG h2];rfl⟩
theorem DH {α:Type}{key:α->Str}{x:α}:∀{l:List α},Ri key l->Ri key (putL key x l)
 |[],_=>List.pairwise_singleton _ _
 |y::r,h=>by
  have h0:=h;rw[Ri,bE] at h;unfold putL
  by_cases c:key y=key x
  ·rw[aw c,Ri,bE];exact⟨λz hz=>by rw[<-c];exact h.1 z hz,h.2⟩
  ·rw[aj c]
   by_cases d:NB (key x) (key y)
   ·rw[aw d,Ri,bE];refine⟨λz hz=>?_,h0⟩;rcases aL.mp hz with rfl|hz
    ·exact d
    ·exact cw d (h.1 z hz)
   ·rw[aj d,Ri,bE];refine⟨λz hz=>?_,DH h.2⟩;rcases(CF h.2).mp hz with rfl|⟨hz,_⟩
    ·exact O0 d λe=>c e.symm
    ·exact h.1 z hz
theorem HS {α β:Type}{key:α->Str}{key':β->Str}{g:α->β}(e:∀a,key' (g a)=key a)(x:α):∀l:List α,(putL key x l).map g=putL key' (g x) (l.map g)
 |[]=>rfl
 |y::r=>by
  rw[aD];unfold putL;rw[e,e]
  by_cases c:key y=key x
  ·rw[aw c,aw c];rfl
  ·rw[aj c,aj c]
   by_cases d:NB (key x) (key y)
   ·rw[aw d,aw d];rfl
   ·rw[aj d,aj d,aD,HS e x r]
section
variable {P:Program}{w:World}{K:W.Frag}{mg:Str->Option Value}{base:Heap}{f C:Addr}{XC:Nat->Addr}{fd:FuncData}{PT PU:Addr}
structure Tb (PT PU:Addr) (H:Hp):Prop where
 ne:PT≠PU
 a:CT PT LQ LP H
 b:CT PU MQ MP H
theorem NZ {P U:Addr}{q q':Str}{lp lp':Pos}{H H':Hp}(ne:P≠U)(t:CT P q lp H)(u:CT U q' lp' H)(s:Co U H H'):CT P q lp H':=by
 rcases t with h|⟨c,h,h2⟩
 ·exact .inl (s _ _ ne h)
 ·exact .inr ⟨c,s _ _ ne h,s.get u h2 (by intro _ z;cases z)⟩
theorem Tb.same {H H':Hp}(t:Tb PT PU H)(s:AA H H'):Tb PT PU H':=⟨t.ne,t.a.same s,t.b.same s⟩
theorem Tb.l {H H':Hp}(t:Tb PT PU H)(s:Co PT H H')(x:CT PT LQ LP H'):Tb PT PU H':=⟨t.ne,x,NZ (Ne.symm t.ne) t.b t.a s⟩
theorem Tb.r {H H':Hp}(t:Tb PT PU H)(s:Co PU H H')(x:CT PU MQ MP H'):Tb PT PU H':=⟨t.ne,NZ t.ne t.a t.b s,x⟩
theorem Hw {U:Addr}{q:Str}{lp:Pos}{H H':Hp}(s:Co U H H')(t:CT U q lp H)(t':CT U q lp H'):St H H':=by
 obtain⟨ps,hp⟩:=t.some;obtain⟨ps',hp'⟩:=t'.some;refine⟨λb o n h=>s b o (λz=>?_) h,λb h=>?_⟩
 ·rw[z,hp] at h;exact n ps (aI h).symm
 ·cases e:H b with
  |none=>rfl
  |some o=>
   by_cases z:b=U
   ·rw[z,hp'] at h;cases h
   ·rw[s b o z e] at h;cases h
def HY (K:W.Frag):Sp:=λvs H Q _=>∃(h:Addr) (ag:Int) (k n:Addr) (qs:List Kq) (ps:List Pe),vs=[.ref h]/\HeadAt H h ag k qs n ps/\ps.length<64/\∀l H',AA H H'->H' l=some (.lst ((ps.filter λp=>p.e.isS).map λp=>V.ref p.a))->Q (.ref l) H'
theorem Qx (T:Txt K mg C XC)(F:Fun K "stems_in" "stems_in" Ek f fd):FnOk P w K mg base EL 1 f fd ["head"] (HY K):=by
 exists PR
 ·obtain⟨h,ag,k,n,qs,ps,rfl,_⟩:=h;rfl
 obtain⟨h,ag,k,n,qs,ps,rfl,hd,few,q⟩:=h;refine⟨_,(!Ag (!Au (@Ed _ ["named"] _ _ _ _ _ _ _ _ _ _ rfl (!Mt (!Aj Ak (pv 0) (!Ae) (λ_ _=>rfl))) (by decide +kernel) (λC s H fp=>⟨(@AS _ _ (0) _ (show(["named"]:List Str).Nodup by decide +kernel) rfl (by trivial) (by trivial)),(!EX (!Ar Bp (!Aj (FV (K:=K) (by rfl)) (pv 0) (!Ae) (λ_ _=>rfl)) (!Bm rfl T.c_STEM) (AC _))),(pv 0)⟩) (by intro _;rfl)))),?_⟩
 try dsimp only[AZ,Cx.nox,Cx.wish]
 refine⟨_,rfl,h,_,_,_,rfl,rfl,AJ.of hd.at_,Af (j:=2) rfl,n,rfl,⟨_,AJ.of hd.nm⟩,?_⟩;refine B2 (ps:=ps) (g:=λp=>V.ref p.a) (λp=>p.e.isS) (λp=>V.ref p.a) (JH hd.nm) (by omega) (λp hp H' R s' hR=>?_) (λp hp hs H' R s' hR=>⟨_,rfl,hR H' (AA.refl _)⟩) λl H7 n7 s7 h7=>q l H7 s7 h7
 obtain⟨a,t,e⟩:=p;have ha':=s'.get (hd.en _ hp).2;cases e with
 |st nm kp og t=>exact⟨_,rfl,a,_,_,_,rfl,rfl,AJ.of ha',Af (j:=1) rfl,rfl,_,rfl,hR⟩
 |sl nm sm' tn t=>exact⟨_,rfl,a,_,_,_,rfl,rfl,AJ.of ha',Af (j:=1) rfl,rfl,_,rfl,hR⟩
def EW (K:W.Frag)(PT:Addr):Sp:=λvs H Q _=>∃(h:Addr) (sm:Str) (ag:Int) (k n:Addr) (qs:List Kq) (ps:List Pe),vs=[.ref h,.str sm]/\HeadAt H h ag k qs n ps/\ps.length<64/\((ps.filter λp=>p.e.isSl sm).map λp=>p.e.turn).Nodup/\CT PT LQ LP H/\
 ∀(us:List Pe) l H',us.Perm (ps.filter λp=>p.e.isSl sm)->us.Pairwise (λx y=>x.e.turn<y.e.turn)->Co PT H H'->CT PT LQ LP H'->H l=none->H' l=some (.lst (us.map λp=>V.ref p.a))->Q (.ref l) H'
theorem Qk (T:Txt K mg C XC)(F:Fun K "seals_of" "seals_of" EA f fd)(LA:LamAt K mg base fd.code PT):FnOk P w K mg base EL 1 f fd ["head","stem"] (EW K PT):=by
 refine F.okC Le (λvs H Q E h=>?_) (λcdv A outer s H vs Q E hcd hr h=>?_)
 ·obtain⟨h,sm,ag,k,n,qs,ps,rfl,_⟩:=h;rfl
 subst hcd;obtain⟨h,sm,ag,k,n,qs,ps,rfl,hd,few,nd,tb,q⟩:=h;refine⟨_,(!Ai (@LF _ ["named","stem"] [none,some 1] (2) _ _ _ _ _ _ _ _ _ _ _ _ _ _ Le.nd rfl (by trivial) rfl (!Mt (!Aj Ak (pv 0) (!Ae) (λ_ _=>rfl))) (by rfl) rfl (by repeat (first|exact trivial|refine⟨rfl,?_⟩)) (by repeat (first|exact trivial|refine⟨λh=>(by first|exact⟨_,rfl⟩|cases h),?_⟩)) (λC s H fp=>⟨(@AS _ _ (0) _ (show(["named","stem"]:List Str).Nodup by decide +kernel) rfl (by trivial) (by trivial)),(!EX (@PW.pt _ _ _ (!E8 (!Ar Bp (!Aj (FV (K:=K) (by rfl)) (pv 0) (!Ae) (λ_ _=>rfl)) (!Bm rfl T.c_SEAL) (AC _)) (!EN (!Ar Bp (!Aj (FV (K:=K) (by rfl)) (pv 0) (!Ae) (λ_ _=>rfl)) (pv 1) (AC _)))))),(pv 0)⟩) (by intro _;rfl) (by rfl) (by trivial)) (!Ag (!Au (@U1 _ _ _ _ _ _ (3) _ _ _ _ _ _ _ _ _ _ (hr.mono (aq _)) ⟨λ_ _ _ _ _ _=>rfl,λ_=>rfl,λ_=>rfl,rfl,rfl,rfl,rfl,by decide,by decide⟩ LA (by decide) rfl rfl T.b_sorted (!Aa (pv 2) (!Ab)) (by rfl) (by rfl))))),?_⟩
 try dsimp only[AZ,Cx.nox,Cx.wish]
 refine⟨_,rfl,h,_,_,_,rfl,rfl,AJ.of hd.at_,Af (j:=2) rfl,n,rfl,⟨_,AJ.of hd.nm⟩,?_⟩;refine B2 (ps:=ps) (g:=λp=>V.ref p.a) (λp=>p.e.isSl sm) (λp=>V.ref p.a) (JH hd.nm) (by omega) (λp hp H' R s' hR=>?_) (λp hp hs H' R s' hR=>⟨_,rfl,hR H' (AA.refl _)⟩) λl H7 n7 s7 h7=>?_
 ·obtain⟨a,t,e⟩:=p;have ha':=s'.get (hd.en _ hp).2;cases e with
  |st nm kp og t=>exact⟨_,rfl,a,_,_,_,rfl,rfl,AJ.of ha',Af (j:=1) rfl,rfl,_,rfl,Av rfl hR⟩
  |sl nm sm' tn t=>exact⟨_,rfl,a,_,_,_,rfl,rfl,AJ.of ha',Af (j:=1) rfl,rfl,_,rfl,AX rfl ⟨_,rfl,a,_,_,_,rfl,rfl,AJ.of ha',Af (j:=2) rfl,_,rfl,rfl,_,rfl,by
    rw[EJ];exact hR⟩⟩
 have lf:=bf (λp:Pe=>p.e.isSl sm) ps;have sl_of:∀p∈ps.filter (λp=>p.e.isSl sm),p∈ps/\∃nm tn t,p.e=.sl nm sm tn t:=λp hp=>by
  obtain⟨h1,h2⟩:=av.mp hp;refine⟨h1,?_⟩;cases e:p.e with
  |st nm kp og t=>rw[e] at h2;cases h2
  |sl nm sm' tn t=>
   rw[e] at h2;rw[aE h2];exact⟨_,_,_,rfl⟩
 generalize ps.filter (λp=>p.e.isSl sm)=zs at h7 nd q lf sl_of;refine⟨_,rfl,l,zs.map λp=>(p.a,p.e.turn),rfl,AR.of (by rw[ao];exact h7),by rw[ae];omega,λt ht=>?_,by rw[ao];exact nd,tb.same s7,λus p H2 up us2 st tb2 np=>?_⟩
 ·obtain⟨p,hp,rfl⟩:=aa.mp ht;obtain⟨h1,nm,tn,t,e⟩:=sl_of p hp;refine⟨_,AJ.of (s7.get (hd.en _ h1).2),?_⟩;rw[e];rfl
 ·obtain⟨us',p1,rfl⟩:=ND up rfl;rw[ao];refine q us' p _ p1 (by rw[bp] at us2;exact us2) (((s7.t PT).trans st).trans ((Ah np _).t PT)) (tb2.same (Ah np _)) ?_ Ac;exact((s7.t PT).trans st).free tb2 np
def Fm (K:W.Frag)(PU:Addr):Sp:=λvs H Q _=>∃(n a:Addr) (nm:Str) (rs:List (Addr×Str)),vs=[.ref n,.ref a]/\H n=some (.tup (rs.map λp=>V.ref p.1))/\(∀p∈rs,∃r,H p.1=some (.tup (.str p.2::r)))/\(∃r,H a=some (.tup (.str nm::r)))/\Ri (λp=>p.2) rs/\rs.length<=60/\CT PU MQ MP H/\
 ∀n' H',Co PU H H'->CT PU MQ MP H'->H n'=none->H' n'=some (.tup ((putL (λp=>p.2) (a,nm) rs).map λp=>V.ref p.1))->Q (.ref n') H'
theorem OT (T:Txt K mg C XC)(F:Fun K "put_among" "put_among" DS f fd)(LA:LamAt K mg base fd.code PU):FnOk P w K mg base EL 1 f fd ["some","one"] (Fm K PU):=by
 refine F.okC JS (λvs H Q E h=>?_) (λcdv A outer s H vs Q E hcd hr h=>?_)
 ·obtain⟨n,a,nm,rs,rfl,_⟩:=h;rfl
 subst hcd;obtain⟨n,a,nm,rs,rfl,hn,hen,⟨ra,hra⟩,ri,few,tb,q⟩:=h;refine⟨_,(!Ai (@LF _ ["other","one"] [none,some 1] (2) _ _ _ _ _ _ _ _ _ _ _ _ _ _ JS.nd rfl (by trivial) rfl (!Mt (pv 0)) (by rfl) rfl (by repeat (first|exact trivial|refine⟨rfl,?_⟩)) (by repeat (first|exact trivial|refine⟨λh=>(by first|exact⟨_,rfl⟩|cases h),?_⟩)) (λC s H fp=>⟨(@AS _ _ (0) _ (show(["other","one"]:List Str).Nodup by decide +kernel) rfl (by trivial) (by trivial)),(!EX (!Ar NO (!Aj (FV (K:=K) (by rfl)) (pv 0) (!Ae) (λ_ _=>rfl)) (!Aj (FV (K:=K) (by rfl)) (pv 1) (!Ae) (λ_ _=>rfl)) (AC _))),(pv 0)⟩) (by intro _;rfl) (by rfl) (by trivial)) (!Ag (!Au (!EF II (by rfl) T.b_tuple Qw (!Aa (@Tg _ _ _ _ _ _ (0) _ _ _ _ _ _ _ _ _ _ (hr.mono (aq _)) ⟨λ_ _ _ _ _ _=>rfl,λ_=>rfl,λ_=>rfl,rfl,rfl,rfl,rfl,by decide,by decide⟩ LA (by decide) rfl rfl T.b_sorted (!Aa (!AV Ij (pv 2) (!BU (!Aa (pv 1) (!Ab)))) (!Ab)) (by rfl) (by rfl)) (!Ab)))))),?_⟩
 try dsimp only[AZ,Cx.nox,Cx.wish]
 refine⟨_,rfl,n,rfl,⟨_,AJ.of hn⟩,?_⟩;refine B2 (ps:=rs) (g:=λp=>V.ref p.1) (λp=>!decide (p.2=nm)) (λp=>V.ref p.1) (JH hn) (by omega) (λp hp H' R s' hR=>?_) (λp hp hs H' R s' hR=>⟨_,rfl,hR H' (AA.refl _)⟩) λl H7 n7 s7 h7=>?_
 ·obtain⟨r,hr'⟩:=hen p hp;refine⟨_,rfl,p.1,_,_,_,rfl,rfl,AJ.of (s'.get hr'),Af (j:=0) rfl,_,rfl,a,_,_,_,rfl,rfl,AJ.of (s'.get hra),Af (j:=0) rfl,rfl,_,rfl,?_⟩;rw[EJ];exact hR
 have lf:=bf (λp:Addr×Str=>!decide (p.2=nm)) rs;have pm:=Gv (x:=(a,nm)) ri;have pr:=DH (x:=(a,nm)) ri;have enf:∀p∈(rs.filter λp=>!decide (p.2=nm))++[(a,nm)],∃r,H p.1=some (.tup (.str p.2::r)):=λp hp=>by
  rcases aP.mp hp with hp|hp
  ·exact hen p (av.mp hp).1
  ·rw[ax.mp hp];exact⟨ra,hra⟩
 change (putL (λp=>p.2) (a,nm) rs).Perm ((rs.filter λp=>!decide (p.2=nm))++[(a,nm)]) at pm
 generalize (rs.filter λp=>!decide (p.2=nm))=zs at h7 lf pm enf;refine⟨_,rfl,_,rfl,D0,λp1 np1=>?_⟩;have s8:=Ah np1 (.lst [V.ref a]);have h8:(upd H7 p1 (.lst [V.ref a])) p1=some (.lst [V.ref a]):=Ac;generalize upd H7 p1 (.lst [V.ref a])=H8 at s8 h8;refine⟨l,p1,_,_,rfl,rfl,AR.of (s8.get h7),AR.of h8,small (by rw[ae];show _+1<=1000000;omega),λp2 np2=>?_⟩;have s9:=Ah np2 (.lst ((zs.map λp=>V.ref p.1)++[V.ref a]));have h9:(upd H8 p2 (.lst ((zs.map λp=>V.ref p.1)++[V.ref a]))) p2=some (.lst ((zs++[(a,nm)]).map λp=>V.ref p.1)):=by rw[Ac,aS];rfl
 generalize upd H8 p2 (.lst ((zs.map λp=>V.ref p.1)++[V.ref a]))=H9 at s9 h9;have s79:=(s7.trans s8).trans s9;refine⟨p2,zs++[(a,nm)],rfl,AR.of h9,by rw[aW];show _+1<64;omega,λt ht=>?_,?_,tb.same s79,λus p H2 up us2 st tb2 np=>?_⟩
 ·obtain⟨r,hr'⟩:=enf t ht;exact⟨_,AJ.of (s79.get hr'),rfl⟩
 ·rw[<-(pm.map λp=>p.2).nodup_iff];exact List.Pairwise.imp (λh=>Ke h) (bp.mpr pr)
 ·have eq:us=putL (λp=>p.2) (a,nm) rs:=RZ (key:=λp:Addr×Str=>p.2) (up.trans pm.symm) us2 pr;subst eq;have s10:=Ah np (.lst ((putL (λp=>p.2) (a,nm) rs).map λt=>V.ref t.1));have h10:(upd H2 p (.lst ((putL (λp=>p.2) (a,nm) rs).map λt=>V.ref t.1))) p=some (.lst ((putL (λp=>p.2) (a,nm) rs).map λt=>V.ref t.1)):=Ac;generalize upd H2 p (.lst ((putL (λp=>p.2) (a,nm) rs).map λt=>V.ref t.1))=H10 at s10 h10;refine⟨p,_,rfl,.inl ⟨AR.of h10,λnn nnn=>?_⟩⟩;have s11:=Ah nnn (.tup ((putL (λp=>p.2) (a,nm) rs).map λt=>V.ref t.1));have tb10:=tb2.same s10;have st10:Co PU H H10:=((s79.t PU).trans st).trans (s10.t PU);exact q nn _ (st10.trans (s11.t PU)) (tb10.same s11) (st10.free tb10 nnn) Ac
end
abbrev BH (p:Pe):Str:=p.e.nm
abbrev EO (q:Kq):Str:=q.2.1
def CL (nm:Str)(ns:List Str):Option Rf:=if DB (.str nm)=true then(if nm∈ns then some (.twice nm) else none) else some (.noName nm)
def DC (nm kp:Str)(ks ns:List Str):Option Rf:=match CL nm ns with
 |some r=>some r
 |none=>if kp∈ks then(if ns.length<24 then none else some .many) else some (.noName kp)
def Out (XC:Nat->Addr)(E:Value->Option Addr->Hp->Prop)(H:Hp)(r:Option Rf)(q:Prop):Prop:=match r with
 |none=>q
 |some r=>Ex XC E H r
theorem JW {α:Type}{key:α->Str}{x:α}:∀{l:List α},Ri key l->(∃y∈l,key y=key x)->putL key x l=l.map λy=>if key y=key x then x else y
 |[],_,⟨_,h,_⟩=>nomatch h
 |y::r,h,⟨z,hz,e⟩=>by
  rw[Ri,bE] at h;unfold putL;rw[aD]
  by_cases c:key y=key x
  ·rw[aw c,aw c]
   congr 1
   conv=>lhs;rw[<-eF r]
   exact aB λu hu=>(aj λe=>Ke (h.1 u hu) (by rw[c,e])).symm
  ·have hz':z∈r:=(aL.mp hz).resolve_left λq=>c (by rw[<-q];exact e)
   rw[aj c,aj c,aj λd=>Ke (cw d (h.1 z hz')) e.symm,JW h.2 ⟨z,hz',e⟩]
theorem Ri.nd {α:Type}{key:α->Str}{l:List α}(h:Ri key l):(l.map key).Nodup:=List.Pairwise.imp (λh=>Ke h) (bp.mpr h)
theorem Rk {α β:Type}{key:α->Str}{key':β->Str}{g:α->β}(e:∀a,key' (g a)=key a){l:List α}:Ri key' (l.map g)↔Ri key l:=by
 unfold Ri;rw[bp];simp only[e]
theorem B6 {α β:Type}{f:α->β}:∀{l:List α},(l.map f).Nodup->∀{x y:α},x∈l->y∈l->f x=f y->x=y
 |[],_,x,_,hx,_,_=>nomatch hx
 |a::l,nd,x,y,hx,hy,e=>by
  rw[aD,bo] at nd;rcases aL.mp hx with e1|h1
  ·rcases aL.mp hy with e2|h2
   ·rw[e1,e2]
   ·exact absurd (aa.mpr ⟨y,h2,by rw[<-e,e1]⟩) nd.1
  ·rcases aL.mp hy with e2|h2
   ·exact absurd (aa.mpr ⟨x,h1,by rw[e,e2]⟩) nd.1
   ·exact B6 nd.2 h1 h2 e
theorem GY {nm:Str}{ps:List Pe}:(Ii nm ps).isSome=true↔nm∈ps.map BH:=by
 unfold Ii;rw[List.find?_isSome];constructor
 ·rintro⟨p,hp,e⟩
  exact aa.mpr ⟨p,hp,aE e⟩
 ·intro h;obtain⟨p,hp,e⟩:=aa.mp h;exact⟨p,hp,au e⟩
theorem KW (zs:List Str):(zs.map V.str).all ER=true:=by
 rw[cI];exact bu.mpr λ_ _=>rfl
theorem MN (z:Str)(zs:List Str):Wn (V.str z) (zs.map V.str)=decide (z∈zs):=by
 unfold Wn;rw[List.any_map,bH,eB,bY];constructor
 ·rintro⟨y,hy,e⟩
  have e:(y == z)=true:=e;rw[bL] at e;rw[<-e];exact hy
 ·exact λh=>⟨z,h,beq_self_eq_true _⟩
section
variable {P:Program}{w:World}{K:W.Frag}{mg:Str->Option Value}{base:Heap}{f C:Addr}{XC:Nat->Addr}{fd:FuncData}{PT PU:Addr}
def B3 (K:W.Frag)(XC:Nat->Addr):Sp:=λvs H Q E=>∃(h:Addr) (nm:Str) (ag:Int) (k n:Addr) (qs:List Kq) (ps:List Pe),vs=[.ref h,.str nm]/\HeadAt H h ag k qs n ps/\nm.length<=1000/\∀H',AA H H'->Out XC E H' (CL nm (ps.map BH)) (Q .non H')
theorem JU (T:Txt K mg C XC)(F:Fun K "check_new_name" "check_new_name" BN f fd)(CZ:Def P w K mg base 2 "is_name" ["thing"] (Fw K))(AK:HJ P w K mg base 1 "NoName" (XC 0) "name" ["self","name"])(BJ:Def P w K mg base 1 "one_called" ["some","name"] (Di K))(GP:HJ P w K mg base 1 "Twice" (XC 1) "name" ["self","name"]):FnOk P w K mg base (Gk P w) 3 f fd ["head","name"] (B3 K XC):=by
 refine F.okE JK (λvs H Q E h=>?_) (λcdv A outer s H vs Q E hr h=>?_)
 ·obtain⟨h,nm,ag,k,n,qs,ps,rfl,_⟩:=h;rfl
 obtain⟨h,nm,ag,k,n,qs,ps,rfl,hd,ln,q⟩:=h;refine⟨_,(!Ai (!AL (!Dd (!CI (!AO CZ (by trivial) rfl (!Aa (pv 1) (!Ab))) (by intro _;rfl))) (!Ag (!Ca BS rfl AK (by trivial) rfl (!Aa (pv 1) (!Ab)))) (!Aw)) (!Ag (!AL (!Et (!V3 (!AO BJ (by trivial) rfl (!Aa (!Aj Ak (pv 0) (!Ae) (λ_ _=>rfl)) (!Aa (pv 1) (!Ab))))) (by first|exact Bl _ (by decide) (by decide)|rfl)) (!Ag (!Ca BS rfl GP (by trivial) rfl (!Aa (pv 1) (!Ab)))) (!Aw)))),?_⟩
 try dsimp only[AZ,Cx.nox,Cx.wish]
 refine⟨_,rfl,.str nm,rfl,ln,λH1 s1=>?_⟩;have q:=q H1 s1;have hd:=hd.st (AD s1);unfold CL at q;refine⟨_,rfl,?_⟩;cases nb:DB (.str nm) with
 |false=>
  rw[nb,aj ai] at q;exact AX rfl ⟨_,rfl,_,rfl,q⟩
 |true=>
  rw[nb,aw rfl] at q;refine Av rfl ?_;refine⟨_,rfl,h,_,_,_,rfl,rfl,AJ.of hd.at_,Af (j:=2) rfl,_,rfl,n,ps.map λp=>(p.a,p.e.nm),nm,rfl,by rw[ao];exact hd.nm,λp hp=>?_,?_⟩
  ·obtain⟨q,hq,rfl⟩:=aa.mp hp;exact(hd.en q hq).fst
  rw[Ud];cases e:Ii nm ps with
  |some p=>
   rw[aw (GY.mp (by rw[e];rfl))] at q;exact⟨_,rfl,AX rfl ⟨_,rfl,_,rfl,q⟩⟩
  |none=>
   rw[aj λz=>by have:=GY.mpr z;rw[e] at this;cases this] at q;exact⟨_,rfl,Av rfl q⟩
def EG (K:W.Frag)(XC:Nat->Addr):Sp:=λvs H Q E=>∃(h:Addr) (ag:Int) (k n:Addr) (qs:List Kq) (ps:List Pe),vs=[.ref h]/\HeadAt H h ag k qs n ps/\(ps.length<24->Q .non H)/\(24<=ps.length->Ex XC E H .many)
theorem Ni (T:Txt K mg C XC)(F:Fun K "check_room" "check_room" CN f fd):FnOk P w K mg base (Gk P w) 1 f fd ["head"] (EG K XC):=by
 refine F.okE Nu (λvs H Q E h=>?_) (λcdv A outer s H vs Q E hr h=>?_)
 ·obtain⟨h,ag,k,n,qs,ps,rfl,_⟩:=h;rfl
 obtain⟨h,ag,k,n,qs,ps,rfl,hd,q1,q2⟩:=h;refine⟨_,(!Ag (!AL (!Ar Yn (!AM Cj (by rfl) T.b_len Eo (!Aa (!Aj Ak (pv 0) (!Ae) (λ_ _=>rfl)) (!Ab))) (!Bm rfl T.c_MOST_NAMES) (AC _)) (!Ag (!Nx NM rfl T.x_TooMany T.q_TooMany)) (!Aw))),?_⟩
 try dsimp only[AZ,Cx.nox,Cx.wish]
 refine⟨_,rfl,h,_,_,_,rfl,rfl,AJ.of hd.at_,Af (j:=2) rfl,n,_,rfl,.inr (AJ.of hd.nm),_,_,rfl,rfl,_,rfl,Dh (λc=>?_) (λc=>?_)⟩
 ·have c':=aE c;rw[ae] at c';exact q2 (by omega)
 ·have c':=dec_false c;rw[ae] at c';exact q1 (by omega)
def CC (K:W.Frag)(XC:Nat->Addr):Sp:=λvs H Q E=>∃(h:Addr) (nm kp:Str) (ag:Int) (k n:Addr) (qs:List Kq) (ps:List Pe),vs=[.ref h,.str nm,.str kp]/\HeadAt H h ag k qs n ps/\nm.length<=1000/\∀H',AA H H'->Out XC E H' (DC nm kp (qs.map EO) (ps.map BH)) (Q .non H')
theorem JG (T:Txt K mg C XC)(F:Fun K "check_new_stem" "check_new_stem" BO f fd)(A4:BW P w K mg base 3 "check_new_name" ["head","name"] (B3 K XC))(E5:BW P w K mg base 3 "keeper_called" ["head","name"] (Eh K XC))(CU:BW P w K mg base 1 "check_room" ["head"] (EG K XC)):FnOk P w K mg base (Gk P w) 4 f fd ["head","name","keeper"] (CC K XC):=by
 refine F.okE JR (λvs H Q E h=>?_) (λcdv A outer s H vs Q E hr h=>?_)
 ·obtain⟨h,nm,kp,ag,k,n,qs,ps,rfl,_⟩:=h;rfl
 obtain⟨h,nm,kp,ag,k,n,qs,ps,rfl,hd,ln,q⟩:=h;refine⟨_,(!Ai (!A3 (!Bq A4 (by trivial) rfl AH (!Aa (pv 0) (!Aa (pv 1) (!Ab))))) (!Ai (!A3 (!Bq E5 (by trivial) rfl AH (!Aa (pv 0) (!Aa (pv 2) (!Ab))))) (!Ag (!A3 (!Bq CU (by trivial) rfl AH (!Aa (pv 0) (!Ab))))))),?_⟩
 try dsimp only[AZ,Cx.nox,Cx.wish]
 refine⟨_,rfl,_,rfl,h,nm,ag,k,n,qs,ps,rfl,hd,ln,λH1 s1=>?_⟩;have q:=q H1 s1;have hd:=hd.st (AD s1);unfold DC at q;cases e:CL nm (ps.map BH) with
 |some r=>rw[e] at q;exact q
 |none=>
  rw[e] at q;refine⟨_,rfl,_,rfl,h,kp,ag,k,n,qs,ps,rfl,hd,λm a=>?_,λm=>?_⟩
  ·rw[show(match(none:Option Rf) with|some r=>some r|none=>if kp∈qs.map EO then(if(ps.map BH).length<24 then none else some Rf.many) else some (.noName kp))=(if(ps.map BH).length<24 then none else some Rf.many) from aw m,ae] at q;refine⟨_,rfl,h,ag,k,n,qs,ps,rfl,hd,λlt=>?_,λle=>?_⟩
   ·rw[aw lt] at q;exact q
   ·rw[aj (by omega)] at q;exact q
  ·rw[show(match(none:Option Rf) with|some r=>some r|none=>if kp∈qs.map EO then(if(ps.map BH).length<24 then none else some Rf.many) else some (.noName kp))=some (.noName kp) from aj m] at q;exact q
def Cu (K:W.Frag)(PT PU:Addr):Sp:=λvs H Q _=>∃(h:Addr) (p:Pe) (ag:Int) (k n:Addr) (qs:List Kq) (ps:List Pe),vs=[.ref h,.ref p.a]/\HeadAt H h ag k qs n ps/\MW H p/\Ri BH ps/\ps.length<=60/\Tb PT PU H/\
 ∀h' n' H',St H H'->Tb PT PU H'->H h'=none->HeadAt H' h' ag k qs n' (putL BH p ps)->Q (.ref h') H'
theorem Nf (T:Txt K mg C XC)(F:Fun K "with_named" "with_named" CM f fd)(DG:Def P w K mg base 1 "put_among" ["some","one"] (Fm K PU)):FnOk P w K mg base EL 2 f fd ["head","named"] (Cu K PT PU):=by
 exists Nd
 ·obtain⟨h,p,ag,k,n,qs,ps,rfl,_⟩:=h;rfl
 obtain⟨h,p,ag,k,n,qs,ps,rfl,hd,ha,ri,few,tb,q⟩:=h;refine⟨_,(!Ag (!Au (!AF (!Aa (!Aj Ak (pv 0) (!Ae) (λ_ _=>rfl)) (!Aa (!Aj Ak (pv 0) (!Ae) (λ_ _=>rfl)) (!Aa (!AO DG (by trivial) rfl (!Aa (!Aj Ak (pv 0) (!Ae) (λ_ _=>rfl)) (!Aa (pv 1) (!Ab)))) (!Ab))))))),?_⟩
 try dsimp only[AZ,Cx.nox,Cx.wish]
 refine⟨_,rfl,h,_,_,_,rfl,rfl,AJ.of hd.at_,Af (j:=0) rfl,_,rfl,h,_,_,_,rfl,rfl,AJ.of hd.at_,Af (j:=1) rfl,_,rfl,h,_,_,_,rfl,rfl,AJ.of hd.at_,Af (j:=2) rfl,_,rfl,n,p.a,p.e.nm,ps.map λp=>(p.a,p.e.nm),rfl,by rw[ao];exact hd.nm,λr hr9=>?_,ha.fst,(Rk λ_=>rfl).mpr ri,by rw[ae];exact few,tb.b,λn' H1 st1 tb1 nn' hn'=>?_⟩
 ·obtain⟨r,hr8,rfl⟩:=aa.mp hr9;exact(hd.en r hr8).fst
 have S1:=Hw st1 tb.b tb1;have T1:=tb.r st1 tb1;refine⟨Hq,λh' nh'=>?_⟩;have s2:=Ah nh' (.tup [V.int ag,V.ref k,V.ref n']);have S2:=S1.trans (AD s2);refine q h' n' _ S2 (T1.same s2) (S1.there _ nh') ⟨Ac,S2.tup hd.kp,λq hq=>S2.tup (hd.ke q hq),s2.get ?_,λr hr=>?_⟩
 ·rw[hn',<-HS (key:=BH) (g:=λp=>(p.a,p.e.nm)) (λ_=>rfl) p ps,ao];rfl
 ·rcases(CF ri).mp hr with rfl|⟨hr,_⟩
  ·exact ha.sd S2.sd
  ·exact(hd.en r hr).sd S2.sd
def FH (K:W.Frag)(XC:Nat->Addr)(PT PU:Addr):Sp:=λvs H Q E=>∃(h:Addr) (nm:Str) (b:Int) (ag:Int) (k n:Addr) (qs:List Kq) (ps:List Pe),vs=[.ref h,.str nm,.int b]/\HeadAt H h ag k qs n ps/\Ri EO qs/\qs.length<=60/\Tb PT PU H/\
 ((putL id nm (qs.map EO)).length<=8->∀h' k' a H',St H H'->Tb PT PU H'->HeadAt H' h' ag k' (putL EO (a,nm,b) qs) n ps->Q (.ref h') H')/\(8<(putL id nm (qs.map EO)).length->∀H',St H H'->Tb PT PU H'->Ex XC E H' .many)
theorem MS (T:Txt K mg C XC)(F:Fun K "with_keeper" "with_keeper" Cq f fd)(DG:Def P w K mg base 1 "put_among" ["some","one"] (Fm K PU)):FnOk P w K mg base (Gk P w) 2 f fd ["head","name","bound"] (FH K XC PT PU):=by
 refine F.okE HF (λvs H Q E h=>?_) (λcdv A outer s H vs Q E hr h=>?_)
 ·obtain⟨h,nm,b,ag,k,n,qs,ps,rfl,_⟩:=h;rfl
 obtain⟨h,nm,b,ag,k,n,qs,ps,rfl,hd,ri,few,tb,q1,q2⟩:=h;refine⟨_,(!Ai (@AE _ _ (3) _ _ _ _ HF.nd rfl (by trivial) (!AO DG (by trivial) rfl (!Aa (!Aj Ak (pv 0) (!Ae) (λ_ _=>rfl)) (!Aa (!AF (!Aa (pv 1) (!Aa (pv 2) (!Ab)))) (!Ab)))) (by rfl) (by trivial)) (!Ai (!AL (!Ar RG (!AM Cj (by rfl) T.b_len Eo (!Aa (pv 3) (!Ab))) (!Bm rfl T.c_MOST_KEEPERS) (AC _)) (!Ag (!Nx NM rfl T.x_TooMany T.q_TooMany)) (!Aw)) (!Ag (!Au (!AF (!Aa (!Aj Ak (pv 0) (!Ae) (λ_ _=>rfl)) (!Aa (pv 3) (!Aa (!Aj Ak (pv 0) (!Ae) (λ_ _=>rfl)) (!Ab))))))))),?_⟩
 try dsimp only[AZ,Cx.nox,Cx.wish]
 refine⟨_,rfl,h,_,_,_,rfl,rfl,AJ.of hd.at_,Af (j:=1) rfl,_,rfl,_,rfl,Ef,λa na=>?_⟩;have s0:=Ah na (.tup [V.str nm,V.int b]);have ha:(upd H a (.tup [V.str nm,V.int b])) a=some (.tup [V.str nm,V.int b]):=Ac;have tb0:=tb.same s0;have hd0:=hd.st (AD s0);generalize upd H a (.tup [V.str nm,V.int b])=H0 at s0 ha tb0 hd0;refine⟨k,a,nm,qs.map λp=>(p.1,p.2.1),rfl,by rw[ao];exact hd0.kp,λr hr9=>?_,⟨_,ha⟩,(Rk (key':=λp:Addr×Str=>p.2) (key:=EO) λ_=>rfl).mpr ri,by rw[ae];exact few,tb0.b,λn' H1 st1 tb1 nn' hn'=>?_⟩
 ·obtain⟨r,hr8,rfl⟩:=aa.mp hr9;exact⟨_,hd0.ke r hr8⟩
 have S1:=Hw st1 tb0.b tb1;have T1:=tb0.r st1 tb1;have S01:=(AD s0).trans S1;have hd1:=hd0.st S1;have ha1:=S1.tup ha;rw[<-HS (key:=EO) (g:=λp:Kq=>(p.1,p.2.1)) (λ_=>rfl) (a,nm,b) qs,ao] at hn';have le:((putL EO (a,nm,b) qs).map ((λp:Addr×Str=>V.ref p.1)∘λp:Kq=>(p.1,p.2.1))).length=(putL id nm (qs.map EO)).length:=by
  rw[ae,<-HS (key:=EO) (key':=id) (g:=EO) (λ_=>rfl) (a,nm,b) qs,ae]
 refine⟨_,rfl,n',_,rfl,.inr (AJ.of hn'),_,_,rfl,rfl,_,rfl,Dh (λc=>?_) (λc=>?_)⟩
 ·have c':=aE c;rw[le] at c';exact q2 (by omega) H1 S01 T1
 ·have c':=dec_false c;rw[le] at c';refine⟨_,rfl,h,_,_,_,rfl,rfl,AJ.of hd1.at_,Af (j:=0) rfl,_,rfl,_,rfl,h,_,_,_,rfl,rfl,AJ.of hd1.at_,Af (j:=2) rfl,Hq,λh' nh'=>?_⟩;have s2:=Ah nh' (.tup [V.int ag,V.ref n',V.ref n]);have S2:=S01.trans (AD s2);refine q1 (by omega) h' n' a _ S2 (T1.same s2) ⟨Ac,s2.get hn',λq hq=>?_,S2.tup hd.nm,λr hr=>(hd.en r hr).sd S2.sd⟩;rcases(CF ri).mp hq with rfl|⟨hq,_⟩
  ·exact s2.get ha1
  ·exact S2.tup (hd.ke q hq)
def Ey (K:W.Frag):Sp:=λvs H Q _=>∃(h l:Addr) (zs:List Str) (ag:Int) (k n:Addr) (qs:List Kq) (ps:List Pe),vs=[.ref h,.ref l]/\HeadAt H h ag k qs n ps/\H l=some (.lst (zs.map V.str))/\ps.length<=60/\
 ∀h' n' H',AA H H'->HeadAt H' h' ag k qs n' (ps.filter λp=>!decide (p.e.nm∈zs))->Q (.ref h') H'
theorem K8 (T:Txt K mg C XC)(F:Fun K "without_named" "without_named" BZ f fd):FnOk P w K mg base EL 1 f fd ["head","names"] (Ey K):=by
 exists Km
 ·obtain⟨h,l,zs,ag,k,n,qs,ps,rfl,_⟩:=h;rfl
 obtain⟨h,l,zs,ag,k,n,qs,ps,rfl,hd,hl,few,q⟩:=h;have hu:=ES hr;refine⟨_,(!Ag (!Au (!AF (!Aa (!Aj Ak (pv 0) (!Ae) (λ_ _=>rfl)) (!Aa (!Aj Ak (pv 0) (!Ae) (λ_ _=>rfl)) (!Aa (!EF II (by rfl) T.b_tuple Qw (!Aa (@EH _ ["named","names"] [none,some 1] _ _ _ _ _ _ _ _ _ _ _ rfl (!Mt (!Aj Ak (pv 0) (!Ae) (λ_ _=>rfl))) (by rfl) rfl (by repeat (first|exact trivial|refine⟨rfl,?_⟩)) (by repeat (first|exact trivial|refine⟨λh=>(by first|exact⟨_,rfl⟩|cases h),?_⟩)) (λC s H fp=>⟨(@AS _ _ (0) _ (show(["named","names"]:List Str).Nodup by decide +kernel) rfl (by trivial) (by trivial)),(!EX (!Ar (Nt (K:=K) (by rfl)) (!Aj (FV (K:=K) (by rfl)) (pv 0) (!Ae) (λ_ _=>rfl)) (pv 1))),(pv 0)⟩) (by intro _;rfl)) (!Ab))) (!Ab))))))),?_⟩
 try dsimp only[AZ,Cx.nox,Cx.wish]
 refine⟨_,rfl,h,_,_,_,rfl,rfl,AJ.of hd.at_,Af (j:=0) rfl,_,rfl,h,_,_,_,rfl,rfl,AJ.of hd.at_,Af (j:=1) rfl,_,rfl,h,_,_,_,rfl,rfl,AJ.of hd.at_,Af (j:=2) rfl,n,rfl,⟨_,AJ.of hd.nm⟩,?_⟩;refine B2 (ps:=ps) (g:=λp=>V.ref p.a) (λp=>!decide (p.e.nm∈zs)) (λp=>V.ref p.a) (JH hd.nm) (by omega) (λp hp H' R s' hR=>?_) (λp hp hs H' R s' hR=>⟨_,rfl,hR H' (AA.refl _)⟩) λl7 H7 n7 s7 h7=>?_
 ·obtain⟨r,hr'⟩:=(hd.en p hp).fst;refine⟨_,rfl,p.a,_,_,_,rfl,rfl,AJ.of (s'.get hr'),Af (j:=0) rfl,_,rfl,l,_,rfl,.inl (AR.of (s'.get hl)),rfl,KW zs,_,rfl,?_⟩;rw[MN];exact hR
 refine⟨l7,_,rfl,.inl ⟨AR.of h7,λn' nn'=>?_⟩⟩;have s8:=Ah nn' (.tup ((ps.filter λp=>!decide (p.e.nm∈zs)).map λp=>V.ref p.a));have h8:(upd H7 n' (.tup ((ps.filter λp=>!decide (p.e.nm∈zs)).map λp=>V.ref p.a))) n'=some (.tup ((ps.filter λp=>!decide (p.e.nm∈zs)).map λp=>V.ref p.a)):=Ac;generalize upd H7 n' (.tup ((ps.filter λp=>!decide (p.e.nm∈zs)).map λp=>V.ref p.a))=H8 at s8 h8;refine⟨Hq,λh' nh'=>?_⟩;have s9:=Ah nh' (.tup [V.int ag,V.ref k,V.ref n']);have S:=(s7.trans s8).trans s9;exact q h' n' _ S ⟨Ac,S.get hd.kp,λq hq=>S.get (hd.ke q hq),s9.get h8,λr hr8=>(hd.en r (av.mp hr8).1).sd (AD S).sd⟩
def B5 (K:W.Frag):Sp:=λvs H Q _=>∃(h:Addr) (ag:Int) (k n:Addr) (qs:List Kq) (ps:List Pe),vs=[.ref h]/\HeadAt H h ag k qs n ps/\∀h' H',AA H H'->HeadAt H' h' (ag+1) k qs n ps->Q (.ref h') H'
theorem Pj (T:Txt K mg C XC)(F:Fun K "one_older" "one_older" DD f fd):FnOk P w K mg base EL 1 f fd ["head"] (B5 K):=by
 exists Oq
 ·obtain⟨h,ag,k,n,qs,ps,rfl,_⟩:=h;rfl
 obtain⟨h,ag,k,n,qs,ps,rfl,hd,q⟩:=h;refine⟨_,(!Ag (!Au (!AF (!Aa (!AV D4 (!Aj Ak (pv 0) (!Ae) (λ_ _=>rfl)) (!Ae)) (!Aa (!Aj Ak (pv 0) (!Ae) (λ_ _=>rfl)) (!Aa (!Aj Ak (pv 0) (!Ae) (λ_ _=>rfl)) (!Ab))))))),?_⟩
 try dsimp only[AZ,Cx.nox,Cx.wish]
 refine⟨_,rfl,h,_,_,_,rfl,rfl,AJ.of hd.at_,Af (j:=0) rfl,_,_,rfl,rfl,_,rfl,h,_,_,_,rfl,rfl,AJ.of hd.at_,Af (j:=1) rfl,_,rfl,h,_,_,_,rfl,rfl,AJ.of hd.at_,Af (j:=2) rfl,Hq,λh' nh'=>?_⟩;have s2:=Ah nh' (.tup [V.int (ag+1),V.ref k,V.ref n]);exact q h' _ s2 ⟨Ac,s2.get hd.kp,λq hq=>s2.get (hd.ke q hq),s2.get hd.nm,λr hr=>(hd.en r hr).sd (AD s2).sd⟩
def FB (K:W.Frag):Sp:=λvs H Q _=>∃(p:Pe) (o nm kp og:Str) (t:Option Str),vs=[.ref p.a,.str o]/\MW H p/\p.e=.st nm kp og t/\
 ∀a' H',AA H H'->MW H' ⟨a',p.t,.st nm kp o t⟩->Q (.ref a') H'
theorem LJ (T:Txt K mg C XC)(F:Fun K "with_origin" "with_origin" Cy f fd):FnOk P w K mg base EL 1 f fd ["stem","origin"] (FB K):=by
 exists Ms
 ·obtain⟨p,o,nm,kp,og,t,rfl,_⟩:=h;rfl
 obtain⟨⟨a,ta,e⟩,o,nm,kp,og,t,rfl,⟨hta,ha⟩,rfl,q⟩:=h;refine⟨_,(!Ag (!Au (!AV Mb (!DZ Ru (pv 0) (!FX) (!EI (!Ae))) (!AF (!Aa (pv 1) (!Aa (!Aj Ak (pv 0) (!Ae) (λ_ _=>rfl)) (!Ab))))))),?_⟩
 try dsimp only[AZ,Cx.nox,Cx.wish]
 refine⟨_,rfl,_,rfl,a,_,rfl,AJ.of ha,(λz=>absurd z.2 (show ¬(HT.Ea 5 5 (some 3)=5) by decide)),λp1 n1=>?_⟩;rw[M3 (by decide)];have s1:=Ah n1 (.tup [V.str nm,V.int 1,V.str kp]);have h1:(upd H p1 (.tup [V.str nm,V.int 1,V.str kp])) p1=some (.tup [V.str nm,V.int 1,V.str kp]):=Ac
 change Uk _ _ (upd H p1 (.tup [V.str nm,V.int 1,V.str kp])) _
 generalize upd H p1 (.tup [V.str nm,V.int 1,V.str kp])=H1 at s1 h1;refine⟨_,rfl,_,rfl,a,_,_,_,rfl,rfl,AJ.of (s1.get ha),Af (j:=4) rfl,Ef,λp2 n2=>?_⟩;have s2:=Ah n2 (.tup [V.str o,V.ref ta]);have h2:(upd H1 p2 (.tup [V.str o,V.ref ta])) p2=some (.tup [V.str o,V.ref ta]):=Ac;generalize upd H1 p2 (.tup [V.str o,V.ref ta])=H2 at s2 h2;refine⟨p1,p2,_,_,rfl,rfl,AJ.of (s2.get h1),AJ.of h2,TM,(λz=>by cases z),(λ_ z=>by cases z),λ_ _ p3 n3=>?_⟩;have s3:=Ah n3 (.tup ([V.str nm,V.int 1,V.str kp]++[V.str o,V.ref ta]));exact q p3 _ ((s1.trans s2).trans s3) ⟨s3.get (s2.get (s1.get hta)),Ac⟩
end
def Yz (s:Str):En->En
 | .sl nm _ n t=>.sl nm s n t
 | .st nm k o t=>.st nm k o t
def EV (s:Str)(D:List Str)(e:En):En:=if e.nm∈D then Yz s e else e
def P3 (e':En)(es:List En):List En:=es.map λx=>if x.nm=e'.nm then e' else x
def gr (s p og ogp:Str)(tn:Int):En->En
 | .st nm k o t=>if nm=s then .st nm k ogp t else if nm=p then .st nm k og t else .st nm k o t
 | .sl nm sm n t=>if sm=p/\n<=tn then .sl nm s n t else .sl nm sm n t
theorem X7 (s p og ogp:Str)(tn:Int)(e:En):(gr s p og ogp tn e).nm=e.nm:=by
 cases e with
 |st nm k o t=>
  show(if nm=s then En.st nm k ogp t else if nm=p then En.st nm k og t else En.st nm k o t).nm=nm
  split
  ·rfl
  ·split<;>rfl
 |sl nm sm n t=>
  show(if sm=p/\n<=tn then En.sl nm s n t else En.sl nm sm n t).nm=nm
  split<;>rfl
theorem Wf (nm k o:Str)(t:Option Str):(En.st nm k o t).nm=nm:=rfl
theorem Xw (nm k:Str)(n:Int)(t:Option Str):(En.sl nm k n t).nm=nm:=rfl
theorem WY (s:Str)(e:En):(Yz s e).nm=e.nm:=by cases e<;>rfl
theorem GO (s:Str)(D:List Str)(e:En):(EV s D e).nm=e.nm:=by
 unfold EV
 split
 ·exact WY _ _
 ·rfl
theorem RQ {p:Pe}{ps:List Pe}(ri:Ri BH ps)(ex:∃q∈ps,BH q=BH p):(putL BH p ps).map (·.e)=P3 p.e (ps.map (·.e)):=by
 rw[JW ri ex];unfold P3;rw[ao,ao];refine aB λq _=>?_
 show(if BH q=BH p then p else q).e=if q.e.nm=p.e.nm then p.e else q.e
 split<;>rfl
theorem VN {p:Pe}{ps:List Pe}(ri:Ri BH ps)(ex:∃q∈ps,BH q=BH p):(putL BH p ps).length=ps.length:=by rw[JW ri ex,ae]
theorem NR {es:List En}{s p nm:Str}{D:List Str}{n:Int}{t:Option Str}(nd:(es.map En.nm).Nodup)(h:En.sl nm p n t∈es):P3 (.sl nm s n t) (es.map (EV s D))=es.map (EV s (D++[nm])):=by
 unfold P3;rw[ao];refine aB λe he=>?_
 show(if(EV s D e).nm=nm then En.sl nm s n t else EV s D e)=EV s (D++[nm]) e;rw[GO]
 by_cases z:e.nm=nm
 ·have:=B6 nd he h z;subst this;rw[aw z];unfold EV;rw[aw (aN _ (by rw[z];exact aM))];rfl
 ·rw[aj z];unfold EV
  by_cases y:e.nm∈D
  ·rw[aw y,aw (cm _ y)]
  ·rw[aj y,aj λq=>(aP.mp q).elim y λq=>z (ax.mp q)]
theorem PK {es:List En}{s p og ogp k kp:Str}{tn:Int}{t tp:Option Str}{D:List Str}(nd:(es.map En.nm).Nodup)(hs:En.st s k og t∈es)(hp:En.st p kp ogp tp∈es)(hD:∀nm,nm∈D↔∃n t,En.sl nm p n t∈es/\n<=tn) :
  P3 (.st s k ogp t) (P3 (.st p kp og tp) (es.map (EV s D)))=es.map (gr s p og ogp tn):=by
 unfold P3;rw[ao,ao];refine aB λe he=>?_
 show(if(if(EV s D e).nm=p then En.st p kp og tp else EV s D e).nm=s then En.st s k ogp t else(if(EV s D e).nm=p then En.st p kp og tp else EV s D e))=gr s p og ogp tn e;rw[GO];cases e with
 |st nm k' o t'=>
  have nD:nm∉D:=λz=>by
   obtain⟨n,t2,h2,_⟩:=(hD nm).mp z;have:=B6 nd he h2 rfl;cases this
  have eh:EV s D (.st nm k' o t')=.st nm k' o t':=aj nD;rw[eh];show(if(if nm=p then En.st p kp og tp else En.st nm k' o t').nm=s then _ else _)=if nm=s then _ else if nm=p then _ else _
  by_cases zs:nm=s
  ·subst zs;have:=B6 nd he hs rfl;cases this;rw[aw rfl]
   by_cases zp:nm=p
   ·rw[aw zp];rw[aw (show(En.st p kp og tp).nm=nm from zp.symm)]
   ·rw[aj zp];exact aw rfl
  ·rw[aj zs]
   by_cases zp:nm=p
   ·subst zp;have:=B6 nd he hp rfl;cases this;simp only[Wf,if_true,if_neg zs]
   ·simp only[Wf,if_neg zs,if_neg zp];exact aj zp
 |sl nm sm n t'=>
  have zp:nm≠p:=λz=>by
   have:=B6 nd he hp z;cases this
  have zs:nm≠s:=λz=>by
   have:=B6 nd he hs z;cases this
  show(if(if nm=p then En.st p kp og tp else EV s D (.sl nm sm n t')).nm=s then _ else(if nm=p then En.st p kp og tp else EV s D (.sl nm sm n t')))=if sm=p/\n<=tn then _ else _;simp only[Xw,if_neg zp,GO,if_neg zs]
  by_cases c:sm=p/\n<=tn
  ·rw[aw c];show(if nm∈D then Yz s (En.sl nm sm n t') else En.sl nm sm n t')=_;rw[aw ((hD nm).mpr ⟨n,t',c.1▸he,c.2⟩)];rfl
  ·rw[aj c];refine aj (show ¬nm∈D from λz=>?_);obtain⟨n2,t2,h2,h3⟩:=(hD nm).mp z;have:=B6 nd he h2 rfl;cases this;exact c ⟨rfl,h3⟩
section
variable {P:Program}{w:World}{K:W.Frag}{mg:Str->Option Value}{base:Heap}{f C:Addr}{XC:Nat->Addr}{fd:FuncData}{PT PU:Addr}
theorem QT {nm:Str}{ps:List Pe}{p:Pe}{kp og:Str}{t:Option Str}(nd:(ps.map BH).Nodup)(h:p∈ps)(e:p.e=.st nm kp og t):fst nm ps=some p:=by
 have:(Ii nm ps).isSome=true:=GY.mpr (aa.mpr ⟨p,h,by show p.e.nm=nm;rw[e];rfl⟩);obtain⟨q,hq⟩:=cu.mp this;obtain⟨h1,h2⟩:=CH hq;have:=B6 nd h1 h (by show q.e.nm=p.e.nm;rw[h2,e];rfl);subst this;unfold fst;rw[hq];exact bI.mpr ⟨rfl,by rw[e];rfl⟩
theorem UE {nm:Str}{ps:List Pe}{p:Pe}{sm:Str}{tn:Int}{t:Option Str}(nd:(ps.map BH).Nodup)(h:p∈ps)(e:p.e=.sl nm sm tn t):U7 nm ps=some p:=by
 have:(Ii nm ps).isSome=true:=GY.mpr (aa.mpr ⟨p,h,by show p.e.nm=nm;rw[e];rfl⟩);obtain⟨q,hq⟩:=cu.mp this;obtain⟨h1,h2⟩:=CH hq;have:=B6 nd h1 h (by show q.e.nm=p.e.nm;rw[h2,e];rfl);subst this;unfold U7;rw[hq];exact bI.mpr ⟨rfl,by rw[e];rfl⟩
abbrev Tn (ps:List Pe):Prop:=∀sm,((ps.filter λp=>p.e.isSl sm).map λp=>p.e.turn).Nodup
def Jr (K:W.Frag)(PT PU:Addr):Sp:=λvs H Q _=>∃(h:Addr) (s:Str) (ag:Int) (k n:Addr) (qs:List Kq) (ps:List Pe) (p1 p2 p3:Pe) (k1 og p k3 ogp:Str) (tn:Int) (t1 t2 t3:Option Str),vs=[.ref h,.str s]/\HeadAt H h ag k qs n ps/\ps.length<=60/\Ri BH ps/\Tn ps/\Tb PT PU H/\
 p1∈ps/\p2∈ps/\p3∈ps/\p1.e=.st s k1 og t1/\p2.e=.sl og p tn t2/\p3.e=.st p k3 ogp t3/\
 ∀h' n' ps' H',St H H'->Tb PT PU H'->HeadAt H' h' ag k qs n' ps'->ps'.map (·.e)=(ps.map (·.e)).map (gr s p og ogp tn)->(∀q∈ps',∃r∈ps,q.t=r.t)->Q (.ref h') H'
theorem Rh (T:Txt K mg C XC)(F:Fun K "grafted" "grafted" Fn f fd)(AI:BW P w K mg base 4 "stem_called" ["head","name"] (Bw K XC))(Cz:BW P w K mg base 4 "seal_called" ["head","name"] (Eb K XC))(Ck:Def P w K mg base 1 "seals_of" ["head","stem"] (EW K PT))(A2:Def P w K mg base 2 "with_named" ["head","named"] (Cu K PT PU))(EK:Def P w K mg base 1 "with_origin" ["stem","origin"] (FB K)):FnOk P w K mg base EL 5 f fd ["head","stem"] (Jr K PT PU):=by
 exists Dt
 ·obtain⟨h,s,ag,k,n,qs,ps,p1,p2,p3,k1,og,p,k3,ogp,tn,t1,t2,t3,rfl,_⟩:=h;rfl
 obtain⟨h,sn,ag,k,n,qs,ps,p1,p2,p3,k1,og,p,k3,ogp,tn,t1,t2,t3,rfl,hd,few,ri,tns,tb,m1,m2,m3,e1,e2,e3,q⟩:=h;refine⟨_,(!Ai (@AE _ _ (2) _ _ _ _ Dt.nd rfl (by trivial) (!Bq AI (by trivial) rfl O2 (!Aa (pv 0) (!Aa (pv 1) (!Ab)))) (by rfl) (by trivial)) (!Ai (@AE _ _ (3) _ _ _ _ Dt.nd rfl (by trivial) (!Bq Cz (by trivial) rfl O2 (!Aa (pv 0) (!Aa (!Aj Ak (pv 2) (!Ae) (λ_ _=>rfl)) (!Ab)))) (by rfl) (by trivial)) (!Ai (@AE _ _ (4) _ _ _ _ Dt.nd rfl (by trivial) (!Bq AI (by trivial) rfl O2 (!Aa (pv 0) (!Aa (!Aj Ak (pv 3) (!Ae) (λ_ _=>rfl)) (!Ab)))) (by rfl) (by trivial)) (!Ai (!GB bR rfl (!B7 (!AO Ck (by trivial) rfl (!Aa (pv 0) (!Aa (!Aj Ak (pv 4) (!Ae) (λ_ _=>rfl)) (!Ab))))) (@AS _ _ (5) _ Dt.nd rfl (by trivial) (by trivial)) (!Ag (!AL (!Ar JQ (!Aj Ak (pv 5) (!Ae) (λ_ _=>rfl)) (!Aj Ak (pv 3) (!Ae) (λ_ _=>rfl)) (AC _)) (!Ag (@AE _ _ (0) _ _ _ _ Dt.nd rfl (by trivial) (!AO A2 (by trivial) rfl (!Aa (pv 0) (!Aa (!AF (!Aa (!Aj Ak (pv 5) (!Ae) (λ_ _=>rfl)) (!Aa (!Bm rfl T.c_SEAL) (!Aa (pv 1) (!Aa (!Aj Ak (pv 5) (!Ae) (λ_ _=>rfl)) (!Aa (!Aj Ak (pv 5) (!Ae) (λ_ _=>rfl)) (!Ab))))))) (!Ab)))) (by rfl) (by trivial))) (!Aw))) (by intro _;rfl)) (!Ai (@AE _ _ (0) _ _ _ _ Dt.nd rfl (by trivial) (!AO A2 (by trivial) rfl (!Aa (pv 0) (!Aa (!AO EK (by trivial) rfl (!Aa (pv 4) (!Aa (!Aj Ak (pv 3) (!Ae) (λ_ _=>rfl)) (!Ab)))) (!Ab)))) (by rfl) (by trivial)) (!Ag (!Au (!AO A2 (by trivial) rfl (!Aa (pv 0) (!Aa (!AO EK (by trivial) rfl (!Aa (pv 2) (!Aa (!Aj Ak (pv 4) (!Ae) (λ_ _=>rfl)) (!Ab)))) (!Ab))))))))))),?_⟩
 try dsimp only[AZ,Cx.nox,Cx.wish]
 have nd:=ri.nd;have nde:((ps.map (·.e)).map En.nm).Nodup:=by rw[ao];exact nd
 have y1:=(hd.en _ m1).2;have y2:=(hd.en _ m2).2;have y3:=(hd.en _ m3).2;rw[e1] at y1;rw[e2] at y2;rw[e3] at y3;have f1:=QT nd m1 e1;have f2:=UE nd m2 e2;have f3:=QT nd m3 e3;refine⟨_,rfl,_,rfl,h,sn,ag,k,n,qs,ps,rfl,hd,λp1' z=>?_,λz=>by rw[f1] at z;cases z⟩;rw[f1] at z;cases z;refine⟨_,rfl,_,rfl,p1.a,_,_,_,rfl,rfl,AJ.of y1,Af (j:=3) rfl,h,og,ag,k,n,qs,ps,rfl,hd,λp2' z=>?_,λz=>by rw[f2] at z;cases z⟩;rw[f2] at z;cases z;refine⟨_,rfl,_,rfl,p2.a,_,_,_,rfl,rfl,AJ.of y2,Af (j:=2) rfl,h,p,ag,k,n,qs,ps,rfl,hd,λp3' z=>?_,λz=>by rw[f3] at z;cases z⟩;rw[f3] at z;cases z;refine⟨_,rfl,_,rfl,p3.a,_,_,_,rfl,rfl,AJ.of y3,Af (j:=0) rfl,h,p,ag,k,n,qs,ps,rfl,hd,by omega,tns p,tb.a,λus l H1 up us2 st1 tb1 nl hl=>?_⟩;have S1:=Hw st1 tb.a tb1;have T1:=tb.l st1 tb1;have inps:∀q∈us,q∈ps/\∃nm n t,q.e=.sl nm p n t:=λq hq=>by
  obtain⟨g1,g2⟩:=av.mp (up.mem_iff.mp hq);refine⟨g1,?_⟩;cases e:q.e with
  |st nm kp og t=>rw[e] at g2;cases g2
  |sl nm sm' tn t=>
   rw[e] at g2;rw[aE g2];exact⟨_,_,_,rfl⟩
 have lps:∀{psi:List Pe} {D:List Str},psi.map (·.e)=(ps.map (·.e)).map (EV sn D)->psi.map BH=ps.map BH:=λ{psi D} z=>by
  have:=congrArg (List.map En.nm) z;rw[ao,ao,ao] at this;refine this.trans (aB λq _=>?_);exact GO _ _ _
 have exn:∀{psi:List Pe},psi.map BH=ps.map BH->∀{q:Pe},q∈ps->∃q'∈psi,BH q'=BH q:=λ{psi} z {q} hq=>by
  have:BH q∈psi.map BH:=by rw[z];exact aa.mpr ⟨q,hq,rfl⟩
  obtain⟨q',h1,h2⟩:=aa.mp this;exact⟨q',h1,h2⟩
 have rin:∀{psi:List Pe},psi.map BH=ps.map BH->Ri BH psi:=λ{psi} z=>by
  have:(ps.map BH).Pairwise NB:=bp.mpr ri;rw[<-z] at this;exact bp.mp this
 refine⟨l,rfl,⟨_,AR.of hl⟩,Gn (K:=K) (a:=l) (xs:=us.map λq=>V.ref q.a) (λi σ H2=>∃hi ni psi v,σ=[some (.ref hi),some (.str sn),some (.ref p1.a),some (.ref p2.a),some (.ref p3.a),v]/\St H1 H2/\Tb PT PU H2/\HeadAt H2 hi ag k qs ni psi/\psi.map (·.e)=(ps.map (·.e)).map (EV sn (((us.take i).filter λq=>decide (q.e.turn<=tn)).map λq=>q.e.nm))/\∀q∈psi,∃r∈ps,q.t=r.t)
  ⟨h,n,ps,none,rfl,.refl _,T1,hd.st S1,?_,λq hq=>⟨q,hq,rfl⟩⟩ (by rintro i σ H2 _ ⟨_,_,_,_,_,u,_⟩;exact AR.of (u.lst hl)) ?_ ?_⟩
 ·conv=>lhs;rw[<-eF (ps.map (·.e))]
  exact aB λe _=>rfl
 ·rintro i x σ H2 hi ⟨hh,nn,psi,v,rfl,u2,T2,hd2,ep,et⟩
  rw[aJ] at hi;obtain⟨⟨qa,qt,qe⟩,hq,rfl⟩:=bA.mp hi;obtain⟨qp,nm,n0,t0,ee⟩:=inps _ (aU hq);have ee:qe=.sl nm p n0 t0:=ee;subst ee;have u02:=S1.trans u2;obtain⟨zq,yq⟩:=(hd.en _ qp).sd u02.sd;have y2':=u02.tup y2;have tk:us.take (i+1)=us.take i++[⟨qa,qt,En.sl nm p n0 t0⟩]:=by rw[cf,hq];rfl
  have nme:=lps ep;refine⟨_,rfl,qa,_,_,_,rfl,rfl,AJ.of yq,Af (j:=3) rfl,_,rfl,p2.a,_,_,_,rfl,rfl,AJ.of y2',Af (j:=3) rfl,_,_,rfl,rfl,_,rfl,Dh (λc=>?_) (λc=>?_)⟩
  ·have c':=aE c;refine⟨_,rfl,_,rfl,qa,_,_,_,rfl,rfl,AJ.of yq,Af (j:=0) rfl,_,rfl,_,rfl,qa,_,_,_,rfl,rfl,AJ.of yq,Af (j:=3) rfl,_,rfl,qa,_,_,_,rfl,rfl,AJ.of yq,Af (j:=4) rfl,TM,λpn np=>?_⟩;have s3:=Ah np (.tup ((En.sl nm sn n0 t0).items qt));have h3:(upd H2 pn (.tup ((En.sl nm sn n0 t0).items qt))) pn=some (.tup ((En.sl nm sn n0 t0).items qt)):=Ac;have z3:=s3.get zq;have T3:=T2.same s3;have ri2:=rin nme;have ex2:∃q'∈psi,BH q'=BH ⟨pn,qt,En.sl nm sn n0 t0⟩:=exn (q:=⟨qa,qt,En.sl nm p n0 t0⟩) nme qp;refine⟨hh,⟨pn,qt,En.sl nm sn n0 t0⟩,ag,k,nn,qs,psi,rfl,hd2.st (AD s3),⟨z3,h3⟩,ri2,?_,T3,λh4 n4 H4 st4 tb4 nh4 hd4=>?_⟩
   ·have:=congrArg List.length nme;rw[ae,ae] at this;omega
   ·refine⟨h4,n4,_,_,rfl,(u2.trans (AD s3)).trans st4,tb4,hd4,?_,λq hq=>?_⟩
    ·rw[RQ ri2 ex2,ep,tk,cE,aS,NR nde (aa.mpr ⟨_,qp,rfl⟩)];rw[show List.filter (λq:Pe=>decide (q.e.turn<=tn)) [⟨qa,qt,En.sl nm p n0 t0⟩]=[⟨qa,qt,En.sl nm p n0 t0⟩] by rw[bC];exact aw (show decide (n0<=tn)=true from au c')];rfl
    ·rcases(CF ri2).mp hq with rfl|⟨hq,_⟩
     ·exact⟨_,qp,rfl⟩
     ·exact et q hq
  ·refine⟨hh,nn,psi,_,rfl,u2,T2,hd2,?_,et⟩;rw[ep,tk,cE];rw[show List.filter (λq:Pe=>decide (q.e.turn<=tn)) [⟨qa,qt,En.sl nm p n0 t0⟩]=[] by rw[bC];exact aj (show ¬decide (n0<=tn)=true from c),bz]
 ·rintro σ H2 ⟨hh,nn,psi,v,rfl,u2,T2,hd2,ep,et⟩
  rw[ae,dz] at ep;have u02:=S1.trans u2;have y2':=u02.tup y2;have nme:=lps ep;have hD:∀nm,nm∈((us.filter λq=>decide (q.e.turn<=tn)).map λq=>q.e.nm)↔∃n t,En.sl nm p n t∈ps.map (·.e)/\n<=tn:=λnm=>by
   constructor
   ·intro z;obtain⟨⟨qa,qt,qe⟩,hq,rfl⟩:=aa.mp z;obtain⟨g1,g2⟩:=av.mp hq;obtain⟨qp,nm,n0,t0,e⟩:=inps _ g1;have e:qe=En.sl nm p n0 t0:=e;subst e;exact⟨n0,t0,aa.mpr ⟨_,qp,rfl⟩,aE g2⟩
   ·rintro⟨n0,t0,z,le⟩
    obtain⟨⟨qa,qt,qe⟩,qp,e⟩:=aa.mp z;have e:qe=En.sl nm p n0 t0:=e;subst e;exact aa.mpr ⟨_,av.mpr ⟨up.mem_iff.mpr (av.mpr ⟨qp,au rfl⟩),au le⟩,rfl⟩
  have ln:psi.length<=60:=by
   have:=congrArg List.length nme;rw[ae,ae] at this;omega
  have ri2:=rin nme;refine⟨_,rfl,_,rfl,_,rfl,p2.a,_,_,_,rfl,rfl,AJ.of y2',Af (j:=0) rfl,p3,og,p,k3,ogp,t3,rfl,(hd.en _ m3).sd u02.sd,e3,λa4 H3 s3 en3=>?_⟩;have T3:=T2.same s3;have ex4:∃q'∈psi,BH q'=BH ⟨a4,p3.t,En.st p k3 og t3⟩:=by
   obtain⟨q',h1,h2⟩:=exn nme m3;exact⟨q',h1,by rw[h2];show p3.e.nm=_;rw[e3];rfl⟩
  refine⟨hh,⟨a4,p3.t,En.st p k3 og t3⟩,ag,k,nn,qs,psi,rfl,hd2.st (AD s3),en3,ri2,ln,T3,λh4 n4 H4 st4 T4 nh4 hd4=>?_⟩;have u4:=(u02.trans (AD s3)).trans st4;have nme4:(putL BH ⟨a4,p3.t,En.st p k3 og t3⟩ psi).map BH=ps.map BH:=by
   rw[<-nme,JW ri2 ex4,ao];refine aB λq _=>?_
   show BH (if BH q=BH ⟨a4,p3.t,En.st p k3 og t3⟩ then _ else q)=BH q
   split
   ·next z=>exact z.symm
   ·rfl
  have ri4:=rin nme4;refine⟨_,rfl,_,rfl,_,rfl,p3.a,_,_,_,rfl,rfl,AJ.of (u4.tup y3),Af (j:=3) rfl,p1,ogp,sn,k1,og,t1,rfl,(hd.en _ m1).sd u4.sd,e1,λa5 H5 s5 en5=>?_⟩;have T5:=T4.same s5;have ex5:∃q'∈putL BH ⟨a4,p3.t,En.st p k3 og t3⟩ psi,BH q'=BH ⟨a5,p1.t,En.st sn k1 ogp t1⟩:=by
   obtain⟨q',h1,h2⟩:=exn nme4 m1;exact⟨q',h1,by rw[h2];show p1.e.nm=_;rw[e1];rfl⟩
  refine⟨h4,⟨a5,p1.t,En.st sn k1 ogp t1⟩,ag,k,n4,qs,_,rfl,hd4.st (AD s5),en5,ri4,by rw[VN ri2 ex4];exact ln,T5,λh6 n6 H6 st6 tb6 nh6 hd6=>?_⟩;refine q h6 n6 _ H6 ((u4.trans (AD s5)).trans st6) tb6 hd6 ?_ λq hq=>?_
  ·rw[RQ ri4 ex5,RQ ri2 ex4,ep];exact PK nde (e1▸aa.mpr ⟨p1,m1,rfl⟩) (e3▸aa.mpr ⟨p3,m3,rfl⟩) hD
  ·rcases(CF ri4).mp hq with rfl|⟨hq,_⟩
   ·exact⟨_,m1,rfl⟩
   ·rcases(CF ri2).mp hq with rfl|⟨hq,_⟩
    ·exact⟨_,m3,rfl⟩
    ·exact et q hq
end
theorem N4:∀{p:Str} {l:List Str},PyProof.Rows.risingS p l=true->∀x∈l,¬x.cps.toList<p.cps.toList
 |p,y::r,h,x,hx=>by
  have h':=h;rw[PyProof.Rows.risingS,aX,PyProof.Rows.ltCps_eq] at h';have h1:¬y.cps.toList<p.cps.toList:=by simpa using h'.1
  rcases aL.mp hx with rfl|hx
  ·exact h1
  ·exact List.le_trans h1 (N4 h'.2 x hx)
theorem PV (xs:List V)(v:V):Jv (xs++[v]) (-1)=some v:=by
 unfold Jv We;rw[aj (by decide),aw (by rw[aW,bT];omega)];show(xs++[v])[((-1:Int)+((xs++[v]).length:Int)).toNat]?=some v;rw[aW,bT,show((-1:Int)+((xs.length+1:Nat):Int)).toNat=xs.length by omega];simp
theorem OQ:∀{l:List Str},PyProof.Rows.sortedS l=true->l.Nodup->l.Pairwise NB
 |[],_,_=>List.Pairwise.nil
 |x::l,h,nd=>by
  rw[bo] at nd;refine bE.mpr ⟨λy hy=>O0 (N4 (p:=x) h y hy) λe=>nd.1 (e▸hy),OQ ?_ nd.2⟩;cases l with
  |nil=>rfl
  |cons y r=>
   have h':=h;rw[PyProof.Rows.sortedS,PyProof.Rows.risingS,aX] at h';exact h'.2
theorem filter_tt {α:Type}(l:List α):l.filter (λ_=>true)=l:=bQ.mpr λ_ _=>rfl
def En.og:En->Str
 | .st _ _ og _=>og
 |_=>EM
def keepR (nm:Str)(ks:List Str):Option Rf:=if DB (.str nm)=true then(if(putL id nm ks).length<=8 then none else some .many) else some (.noName nm)
def Qm (fs:Option Pe)(sm nm:Str)(ns:List Str):Option Rf:=match fs with
 |none=>some (.noName sm)
 |some _=>match CL nm ns with
  |some r=>some r
  |none=>if ns.length<24 then none else some .many
def Jd (nm:Str)(p:Pe)(ps:List Pe):List Str:=if p.e.isS=true then(ps.filter λp=>p.e.isSl nm).map BH else[nm]
def Uc (ps:List Pe):List Str:=(ps.filter λp=>p.e.isS).map λp=>p.e.og
theorem KO {p:Pe}(h:p.e.isS=true):∃nm kp t,p.e=.st nm kp p.e.og t:=by
 obtain⟨a,t,e⟩:=p;cases e with
 |st nm kp og t=>exact⟨_,_,_,rfl⟩
 |sl _ _ _ _=>cases h
section
variable {P:Program}{w:World}{K:W.Frag}{mg:Str->Option Value}{base:Heap}{f C:Addr}{XC:Nat->Addr}{fd:FuncData}{PT PU:Addr}
def Fy (K:W.Frag)(XC:Nat->Addr)(PT PU:Addr):Sp:=λvs H Q E=>∃(h:Addr) (nm:Str) (b:Int) (ag:Int) (k n:Addr) (qs:List Kq) (ps:List Pe),vs=[.ref h,.str nm,.int b]/\HeadAt H h ag k qs n ps/\Ri EO qs/\qs.length<=8/\nm.length<=1000/\Tb PT PU H/\
 (∀r,keepR nm (qs.map EO)=some r->∀H',St H H'->Tb PT PU H'->Ex XC E H' r)/\(keepR nm (qs.map EO)=none->∀h' k' a H',St H H'->Tb PT PU H'->HeadAt H' h' (ag+1) k' (putL EO (a,nm,b) qs) n ps->Q (.ref h') H')
theorem ML (T:Txt K mg C XC)(F:Fun K "keeper_told" "keeper_told" Cp f fd)(AU:Def P w K mg base 1 "one_older" ["head"] (B5 K))(CZ:Def P w K mg base 2 "is_name" ["thing"] (Fw K))(AK:HJ P w K mg base 1 "NoName" (XC 0) "name" ["self","name"])(Gd:BW P w K mg base 2 "with_keeper" ["head","name","bound"] (FH K XC PT PU)):FnOk P w K mg base (Gk P w) 3 f fd ["head","name","bound"] (Fy K XC PT PU):=by
 refine F.okE Mw (λvs H Q E h=>?_) (λcdv A outer s H vs Q E hr h=>?_)
 ·obtain⟨h,nm,b,ag,k,n,qs,ps,rfl,_⟩:=h;rfl
 obtain⟨h,nm,b,ag,k,n,qs,ps,rfl,hd,ri,few,ln,tb,q1,q2⟩:=h;refine⟨_,(!Ai (!AL (!Dd (!CI (!AO CZ (by trivial) rfl (!Aa (pv 1) (!Ab))) (by intro _;rfl))) (!Ag (!Ca BS rfl AK (by trivial) rfl (!Aa (pv 1) (!Ab)))) (!Aw)) (!Ag (!Au (!AO AU (by trivial) rfl (!Aa (!Bq Gd (by trivial) rfl AH (!Aa (pv 0) (!Aa (pv 1) (!Aa (pv 2) (!Ab))))) (!Ab)))))),?_⟩
 try dsimp only[AZ,Cx.nox,Cx.wish]
 refine⟨_,rfl,.str nm,rfl,ln,λH1 s1=>⟨_,rfl,?_⟩⟩;have hd1:=hd.st (AD s1);have tb1:=tb.same s1;unfold keepR at q1 q2;cases nb:DB (.str nm) with
 |false=>
  rw[nb,aj ai] at q1;exact AX rfl ⟨_,rfl,_,rfl,q1 _ rfl H1 (AD s1) tb1⟩
 |true=>
  rw[nb,aw rfl] at q1 q2;refine Av rfl ⟨_,rfl,_,rfl,_,rfl,h,nm,b,ag,k,n,qs,ps,rfl,hd1,ri,by omega,tb1,λle h' k' a H2 S2 T2 hd2=>?_,λgt H2 S2 T2=>?_⟩
  ·exact⟨h',ag,k',n,_,ps,rfl,hd2,λh3 H3 s3 hd3=>q2 (aw le) h3 k' a H3 (((AD s1).trans S2).trans (AD s3)) (T2.same s3) hd3⟩
  ·exact q1 _ (aj (by omega)) H2 ((AD s1).trans S2) T2
def FQ (K:W.Frag)(XC:Nat->Addr)(PT PU:Addr):Sp:=λvs H Q E=>∃(h:Addr) (sm nm:Str) (ag:Int) (k n:Addr) (qs:List Kq) (ps:List Pe),vs=[.ref h,.str sm,.str nm]/\HeadAt H h ag k qs n ps/\Ri BH ps/\ps.length<=60/\nm.length<=1000/\Tb PT PU H/\
 (∀r,Qm (fst sm ps) sm nm (ps.map BH)=some r->∀H',St H H'->Tb PT PU H'->Ex XC E H' r)/\
 (∀p,fst sm ps=some p->Qm (fst sm ps) sm nm (ps.map BH)=none->∀h' n' a H',St H H'->Tb PT PU H'->HeadAt H' h' (ag+1) k qs n' (putL BH ⟨a,p.t,.sl nm sm (ag+1) p.e.tr⟩ ps)->Q (.ref h') H')
theorem L0 (T:Txt K mg C XC)(F:Fun K "stem_sealed" "stem_sealed" Cr f fd)(AI:BW P w K mg base 4 "stem_called" ["head","name"] (Bw K XC))(A4:BW P w K mg base 3 "check_new_name" ["head","name"] (B3 K XC))(CU:BW P w K mg base 1 "check_room" ["head"] (EG K XC))(AU:Def P w K mg base 1 "one_older" ["head"] (B5 K))(A2:Def P w K mg base 2 "with_named" ["head","named"] (Cu K PT PU)):FnOk P w K mg base (Gk P w) 5 f fd ["head","stem","name"] (FQ K XC PT PU):=by
 refine F.okE Ie (λvs H Q E h=>?_) (λcdv A outer s H vs Q E hr h=>?_)
 ·obtain⟨h,sm,nm,ag,k,n,qs,ps,rfl,_⟩:=h;rfl
 obtain⟨h,sm,nm,ag,k,n,qs,ps,rfl,hd,ri,few,ln,tb,q1,q2⟩:=h;refine⟨_,(!Ai (@AE _ _ (3) _ _ _ _ Ie.nd rfl (by trivial) (!Bq AI (by trivial) rfl AH (!Aa (pv 0) (!Aa (pv 1) (!Ab)))) (by rfl) (by trivial)) (!Ai (!A3 (!Bq A4 (by trivial) rfl AH (!Aa (pv 0) (!Aa (pv 2) (!Ab))))) (!Ai (!A3 (!Bq CU (by trivial) rfl AH (!Aa (pv 0) (!Ab)))) (!Ag (!Au (!AO AU (by trivial) rfl (!Aa (!AO A2 (by trivial) rfl (!Aa (pv 0) (!Aa (!AF (!Aa (pv 2) (!Aa (!Bm rfl T.c_SEAL) (!Aa (pv 1) (!Aa (!AV D4 (!Aj Ak (pv 0) (!Ae) (λ_ _=>rfl)) (!Ae)) (!Aa (!Aj Ak (pv 3) (!Ae) (λ_ _=>rfl)) (!Ab))))))) (!Ab)))) (!Ab)))))))),?_⟩
 try dsimp only[AZ,Cx.nox,Cx.wish]
 refine⟨_,rfl,_,rfl,h,sm,ag,k,n,qs,ps,rfl,hd,λp hp=>?_,λno=>q1 _ (by rw[no];rfl) H (.refl _) tb⟩;rw[hp] at q1 q2;obtain⟨mp,kp,og,t,ep⟩:=D7 hp;refine⟨_,rfl,_,rfl,h,nm,ag,k,n,qs,ps,rfl,hd,ln,λH1 s1=>?_⟩;have hd1:=hd.st (AD s1);have tb1:=tb.same s1;cases e:CL nm (ps.map BH) with
 |some r=>exact q1 r (by show(match CL nm (ps.map BH) with|some r=>some r|none=>_)=_;rw[e]) H1 (AD s1) tb1
 |none=>
  have er:Qm (some p) sm nm (ps.map BH)=if(ps.map BH).length<24 then none else some .many:=by
   show(match CL nm (ps.map BH) with|some r=>some r|none=>_)=_;rw[e]
  rw[er,ae] at q1 q2;refine⟨_,rfl,h,ag,k,n,qs,ps,rfl,hd1,λlt=>?_,λle=>q1 _ (aj (by omega)) H1 (AD s1) tb1⟩;have y:=hd1.en p mp;have y2:=y.2;rw[ep] at y2;refine⟨_,rfl,_,rfl,_,rfl,_,rfl,h,_,_,_,rfl,rfl,AJ.of hd1.at_,Af (j:=0) rfl,_,_,rfl,rfl,_,rfl,p.a,_,_,_,rfl,rfl,AJ.of y2,Af (j:=4) rfl,TM,λa na=>?_⟩;have s2:=Ah na (.tup ((En.sl nm sm (ag+1) p.e.tr).items p.t));have h2:(upd H1 a (.tup ((En.sl nm sm (ag+1) p.e.tr).items p.t))) a=some (.tup ((En.sl nm sm (ag+1) p.e.tr).items p.t)):=Ac;refine⟨h,⟨a,p.t,.sl nm sm (ag+1) p.e.tr⟩,ag,k,n,qs,ps,rfl,hd1.st (AD s2),⟨s2.get y.1,h2⟩,ri,few,tb1.same s2,λh3 n3 H3 S3 T3 nh3 hd3=>?_⟩;exact⟨h3,ag,k,n3,qs,_,rfl,hd3,λh4 H4 s4 hd4=>q2 p rfl (aw lt) h4 n3 a H4 ((((AD s1).trans (AD s2)).trans S3).trans (AD s4)) (T3.same s4) hd4⟩
def Ei (K:W.Frag)(XC:Nat->Addr)(PT PU:Addr):Sp:=λvs H Q E=>∃(h:Addr) (sm:Str) (ag:Int) (k n:Addr) (qs:List Kq) (ps:List Pe),vs=[.ref h,.str sm]/\HeadAt H h ag k qs n ps/\Ri BH ps/\Tn ps/\ps.length<=60/\Tb PT PU H/\
 (fst sm ps=none->∀H',St H H'->Tb PT PU H'->Ex XC E H' (.noName sm))/\(∀p,fst sm ps=some p->(∀s∈ps,s.e.isSl sm=false)->∀H',St H H'->Tb PT PU H'->Ex XC E H' (.bare sm))/\
 (∀p kp og t s,fst sm ps=some p->p.e=.st sm kp og t->s∈ps->s.e.isSl sm=true->(∀r∈ps,r.e.isSl sm=true->r.e.turn<=s.e.turn)->∀h' n' a H',St H H'->Tb PT PU H'->HeadAt H' h' (ag+1) k qs n' (putL BH ⟨a,s.t,.st sm kp og s.e.tr⟩ ps)->Q (.ref h') H')
theorem KA (T:Txt K mg C XC)(F:Fun K "stem_set_back" "stem_set_back" BY f fd)(AI:BW P w K mg base 4 "stem_called" ["head","name"] (Bw K XC))(Ck:Def P w K mg base 1 "seals_of" ["head","stem"] (EW K PT))(AU:Def P w K mg base 1 "one_older" ["head"] (B5 K))(DE:HJ P w K mg base 1 "Bare" (XC 2) "name" ["self","name"])(A2:Def P w K mg base 2 "with_named" ["head","named"] (Cu K PT PU)):FnOk P w K mg base (Gk P w) 5 f fd ["head","stem"] (Ei K XC PT PU):=by
 refine F.okE Eu (λvs H Q E h=>?_) (λcdv A outer s H vs Q E hr h=>?_)
 ·obtain⟨h,sm,ag,k,n,qs,ps,rfl,_⟩:=h;rfl
 obtain⟨h,sm,ag,k,n,qs,ps,rfl,hd,ri,tns,few,tb,q1,q2,q3⟩:=h;refine⟨_,(!Ai (@AE _ _ (2) _ _ _ _ Eu.nd rfl (by trivial) (!Bq AI (by trivial) rfl AH (!Aa (pv 0) (!Aa (pv 1) (!Ab)))) (by rfl) (by trivial)) (!Ai (@AE _ _ (3) _ _ _ _ Eu.nd rfl (by trivial) (!AO Ck (by trivial) rfl (!Aa (pv 0) (!Aa (pv 1) (!Ab)))) (by rfl) (by trivial)) (!Ai (!AL (!Ar Bp (!AM Cj (by rfl) T.b_len Eo (!Aa (pv 3) (!Ab))) (!Ae) (AC _)) (!Ag (!Ca BS rfl DE (by trivial) rfl (!Aa (pv 1) (!Ab)))) (!Aw)) (!Ag (!Au (!AO AU (by trivial) rfl (!Aa (!AO A2 (by trivial) rfl (!Aa (pv 0) (!Aa (!AV Mb (!DZ Ru (pv 2) (!FX) (!EI (!Ae))) (!AF (!Aa (!Aj Ak (!Aj AQ (pv 3) (!RB Pf (!Ae)) (λ_ _=>rfl)) (!Ae) (λ_ _=>rfl)) (!Ab)))) (!Ab)))) (!Ab)))))))),?_⟩
 try dsimp only[AZ,Cx.nox,Cx.wish]
 refine⟨_,rfl,_,rfl,h,sm,ag,k,n,qs,ps,rfl,hd,λp hp=>?_,λno=>q1 no H (.refl _) tb⟩;obtain⟨mp,kp,og,t,ep⟩:=D7 hp;refine⟨_,rfl,_,rfl,h,sm,ag,k,n,qs,ps,rfl,hd,by omega,tns sm,tb.a,λus l H1 up us2 st1 tb1 nl hl=>?_⟩;have S1:=Hw st1 tb.a tb1;have T1:=tb.l st1 tb1;have hd1:=hd.st S1;refine⟨_,rfl,l,_,rfl,.inl (AR.of hl),rfl,_,rfl,Dh (λc=>?_) (λc=>?_)⟩
 ·have c':=dec_true c;rw[ae] at c';have c0:us=[]:=fo.mp (by simpa using c');have no:ps.filter (λp=>p.e.isSl sm)=[]:=by
   have:=up.symm;rw[c0] at this;exact List.perm_nil.mp this
  exact⟨_,rfl,_,rfl,q2 p hp (λs hs=>bq.mpr λz=>by
   have:s∈ps.filter λp=>p.e.isSl sm:=av.mpr ⟨hs,z⟩
   rw[no] at this;cases this) H1 S1 T1⟩
 ·have c':=dec_false c;rw[ae] at c';have ne:us≠[]:=λz=>c' (by rw[z];rfl)
  obtain⟨ini,s,rfl⟩:∃ini s,us=ini++[s]:=⟨us.dropLast,us.getLast ne,(eL ne).symm⟩
  have ms:=av.mp (up.mem_iff.mp (aN ini (ax.mpr rfl:s∈[s])));have top:∀r∈ps,r.e.isSl sm=true->r.e.turn<=s.e.turn:=λr hr9 z=>by
   have:r∈ini++[s]:=up.mem_iff.mpr (av.mpr ⟨hr9,z⟩);rcases aP.mp this with h9|h9
   ·exact fw ((fH.mp us2).2.2 r h9 s (ax.mpr rfl))
   ·rw[ax.mp h9];exact fL _
  have y:=(hd1.en p mp).2;rw[ep] at y;have ys:=hd1.en s ms.1;have atl:Jv ((ini++[s]).map λp=>V.ref p.a) (-1)=some (V.ref s.a):=by
   rw[aS];exact PV _ _
  refine⟨_,rfl,_,rfl,_,rfl,p.a,_,rfl,AJ.of y,(λz=>absurd z.2 (show ¬(HT.Ea 5 5 (some 4)=5) by decide)),λp1 n1=>?_⟩;rw[M3 (by decide)];have s1:=Ah n1 (.tup [V.str sm,V.int 1,V.str kp,V.str og]);have h1:(upd H1 p1 (.tup [V.str sm,V.int 1,V.str kp,V.str og])) p1=some (.tup [V.str sm,V.int 1,V.str kp,V.str og]):=Ac
  change Uk _ _ (upd H1 p1 (.tup [V.str sm,V.int 1,V.str kp,V.str og])) _
  generalize upd H1 p1 (.tup [V.str sm,V.int 1,V.str kp,V.str og])=H2 at s1 h1;obtain⟨nm,tn,ts,es⟩:∃nm tn t,s.e=.sl nm sm tn t:=by
   have z:=ms.2;cases e:s.e with
   |st _ _ _ _=>rw[e] at z;cases z
   |sl nm sm' tn t=>rw[e] at z;rw[aE z];exact⟨_,_,_,rfl⟩
  have yz:=s1.get ys.2;rw[es] at yz;refine⟨_,rfl,_,rfl,l,_,_,_,rfl,rfl,AR.of (s1.get hl),atl,s.a,_,_,_,rfl,rfl,AJ.of yz,Af (j:=4) rfl,D0,λp2 n2=>?_⟩;have s2:=Ah n2 (.tup [V.ref s.t]);have h2:(upd H2 p2 (.tup [V.ref s.t])) p2=some (.tup [V.ref s.t]):=Ac;generalize upd H2 p2 (.tup [V.ref s.t])=H3 at s2 h2;refine⟨p1,p2,_,_,rfl,rfl,AJ.of (s2.get h1),AJ.of h2,TM,(λz=>by cases z),(λ_ z=>by cases z),λ_ _ p3 n3=>?_⟩;have s3:=Ah n3 (.tup ([V.str sm,V.int 1,V.str kp,V.str og]++[V.ref s.t]));have S3:=(S1.trans (AD s1)).trans ((AD s2).trans (AD s3));have T3:=((T1.same s1).same s2).same s3;refine⟨h,⟨p3,s.t,.st sm kp og s.e.tr⟩,ag,k,n,qs,ps,rfl,hd.st S3,⟨s3.get (s2.get (s1.get ys.1)),Ac⟩,ri,few,T3,λh4 n4 H4 S4 T4 nh4 hd4=>?_⟩;exact⟨h4,ag,k,n4,qs,_,rfl,hd4,λh5 H5 s5 hd5=>q3 p kp og t s hp ep ms.1 ms.2 top h5 n4 p3 H5 ((S3.trans S4).trans (AD s5)) (T4.same s5) hd5⟩
def B8 (K:W.Frag)(XC:Nat->Addr)(PT PU:Addr):Sp:=λvs H Q E=>∃(h:Addr) (sm:Str) (ag:Int) (k n:Addr) (qs:List Kq) (ps:List Pe),vs=[.ref h,.str sm]/\HeadAt H h ag k qs n ps/\Ri BH ps/\Tn ps/\ps.length<=60/\Tb PT PU H/\
 (fst sm ps=none->Ex XC E H (.noName sm))/\(∀p kp t,fst sm ps=some p->p.e=.st sm kp EM t->Ex XC E H (.bare sm))/\
 (∀p kp og t,fst sm ps=some p->p.e=.st sm kp og t->og≠EM->∃p2 p3 k3 pr ogp tn t2 t3,p2∈ps/\p3∈ps/\p2.e=.sl og pr tn t2/\p3.e=.st pr k3 ogp t3/\
  ∀h' n' ps' H',St H H'->Tb PT PU H'->HeadAt H' h' (ag+1) k qs n' ps'->ps'.map (·.e)=(ps.map (·.e)).map (gr sm pr og ogp tn)->(∀q∈ps',∃r∈ps,q.t=r.t)->Q (.ref h') H')
theorem Gi (T:Txt K mg C XC)(F:Fun K "stem_grafted_unbound" "stem_grafted_unbound" A6 f fd)(AU:Def P w K mg base 1 "one_older" ["head"] (B5 K))(DE:HJ P w K mg base 1 "Bare" (XC 2) "name" ["self","name"])(Kk:Def P w K mg base 5 "grafted" ["head","stem"] (Jr K PT PU))(AI:BW P w K mg base 4 "stem_called" ["head","name"] (Bw K XC)):FnOk P w K mg base (Gk P w) 6 f fd ["head","stem"] (B8 K XC PT PU):=by
 refine F.okE Gu (λvs H Q E h=>?_) (λcdv A outer s H vs Q E hr h=>?_)
 ·obtain⟨h,sm,ag,k,n,qs,ps,rfl,_⟩:=h;rfl
 obtain⟨h,sm,ag,k,n,qs,ps,rfl,hd,ri,tns,few,tb,q1,q2,q3⟩:=h;refine⟨_,(!Ai (!AL (!Ar Bp (!Aj Ak (!Bq AI (by trivial) rfl AH (!Aa (pv 0) (!Aa (pv 1) (!Ab)))) (!Ae) (λ_ _=>rfl)) (!Aq) (AC _)) (!Ag (!Ca BS rfl DE (by trivial) rfl (!Aa (pv 1) (!Ab)))) (!Aw)) (!Ag (!Au (!AO AU (by trivial) rfl (!Aa (!AO Kk (by trivial) rfl (!Aa (pv 0) (!Aa (pv 1) (!Ab)))) (!Ab)))))),?_⟩
 try dsimp only[AZ,Cx.nox,Cx.wish]
 refine⟨_,rfl,_,rfl,h,sm,ag,k,n,qs,ps,rfl,hd,λp hp=>?_,λno=>q1 no⟩;obtain⟨mp,kp,og,t,ep⟩:=D7 hp;have y:=(hd.en p mp).2;rw[ep] at y;refine⟨p.a,_,_,_,rfl,rfl,AJ.of y,Af (j:=3) rfl,rfl,_,rfl,?_⟩;rw[EJ];refine Dh (λc=>?_) (λc=>?_)
 ·have c':=dec_true c;subst c';exact⟨_,rfl,_,rfl,q2 p kp t hp ep⟩
 ·obtain⟨p2,p3,k3,pr,ogp,tn,t2,t3,m2,m3,e2,e3,q⟩:=q3 p kp og t hp ep (dec_false c);refine⟨_,rfl,_,rfl,h,sm,ag,k,n,qs,ps,p,p2,p3,kp,og,pr,k3,ogp,tn,t,t2,t3,rfl,hd,few,ri,tns,tb,mp,m2,m3,ep,e2,e3,λh' n' ps' H' S' T' hd' em et=>?_⟩;exact⟨h',ag,k,n',qs,ps',rfl,hd',λh5 H5 s5 hd5=>q h5 n' ps' H5 (S'.trans (AD s5)) (T'.same s5) hd5 em et⟩
def EZ (K:W.Frag)(XC:Nat->Addr)(PT PU:Addr):Sp:=λvs H Q E=>∃(h:Addr) (nm:Str) (ag:Int) (k n:Addr) (qs:List Kq) (ps:List Pe),vs=[.ref h,.str nm]/\HeadAt H h ag k qs n ps/\Ri BH ps/\Tn ps/\ps.length<=60/\Tb PT PU H/\
 (Ii nm ps=none->Ex XC E H (.noName nm))/\(∀p z,Ii nm ps=some p->z∈Jd nm p ps->z∈Uc ps->(∀y∈Jd nm p ps,y∈Uc ps->¬NB y z)->∀H',St H H'->Tb PT PU H'->Ex XC E H' (.grown z))/\
 (∀p,Ii nm ps=some p->(∀y∈Jd nm p ps,y∉Uc ps)->∀h' n' H',St H H'->Tb PT PU H'->HeadAt H' h' (ag+1) k qs n' (ps.filter λr=>!decide (r.e.nm=nm\/r.e.nm∈Jd nm p ps))->Q (.ref h') H')
theorem Lr (T:Txt K mg C XC)(F:Fun K "name_dropped" "name_dropped" B9 f fd)(BG:BW P w K mg base 3 "named_so" ["head","name"] (DU K XC))(AU:Def P w K mg base 1 "one_older" ["head"] (B5 K))(GL:HJ P w K mg base 1 "Grown" (XC 3) "name" ["self","name"])(E4:Def P w K mg base 1 "without_named" ["head","names"] (Ey K))(Jg:Def P w K mg base 1 "stems_in" ["head"] (HY K))(Ck:Def P w K mg base 1 "seals_of" ["head","stem"] (EW K PT)):FnOk P w K mg base (Gk P w) 4 f fd ["head","name"] (EZ K XC PT PU):=by
 refine F.okE B1 (λvs H Q E h=>?_) (λcdv A outer s H vs Q E hr h=>?_)
 ·obtain⟨h,nm,ag,k,n,qs,ps,rfl,_⟩:=h;rfl
 obtain⟨h,nm,ag,k,n,qs,ps,rfl,hd,ri,tns,few,tb,q1,q2,q3⟩:=h;refine⟨_,(!Ai (@AE _ _ (2) _ _ _ _ B1.nd rfl (by trivial) (!Bq BG (by trivial) rfl AH (!Aa (pv 0) (!Aa (pv 1) (!Ab)))) (by rfl) (by trivial)) (!Ai (@AE _ _ (3) _ _ _ _ B1.nd rfl (by trivial) (!BU (!Aa (pv 1) (!Ab))) (by rfl) (by trivial)) (!Ai (!AL (!Ar Bp (!Aj Ak (pv 2) (!Ae) (λ_ _=>rfl)) (!Bm rfl T.c_STEM) (AC _)) (!Ag (@Qz _ ["seal"] (3) _ _ _ _ _ _ _ _ _ _ _ _ _ B1.nd rfl (by trivial) rfl (!B7 (!AO Ck (by trivial) rfl (!Aa (pv 0) (!Aa (pv 1) (!Ab))))) (by decide +kernel) (λC s H fp=>⟨(@AS _ _ (0) _ (show(["seal"]:List Str).Nodup by decide +kernel) rfl (by trivial) (by trivial)),(!BR),(!Aj (FV (K:=K) (by rfl)) (pv 0) (!Ae) (λ_ _=>rfl))⟩) (by intro _;rfl) (by rfl) (by trivial))) (!Aw)) (!Ai (@AE _ _ (4) _ _ _ _ B1.nd rfl (by trivial) (@Ed _ ["stem"] _ _ _ _ _ _ _ _ _ _ rfl (!B7 (!AO Jg (by trivial) rfl (!Aa (pv 0) (!Ab)))) (by decide +kernel) (λC s H fp=>⟨(@AS _ _ (0) _ (show(["stem"]:List Str).Nodup by decide +kernel) rfl (by trivial) (by trivial)),(!BR),(!Aj (FV (K:=K) (by rfl)) (pv 0) (!Ae) (λ_ _=>rfl))⟩) (by intro _;rfl)) (by rfl) (by trivial)) (!Ai (@AE _ _ (5) _ _ _ _ B1.nd rfl (by trivial) (!AM (MA (K:=K) (by rfl)) (by rfl) T.b_sorted Fo (!Aa (@EH _ ["seal","origins"] [none,some 4] _ _ _ _ _ _ _ _ _ _ _ rfl (!B7 (pv 3)) (by rfl) rfl (by repeat (first|exact trivial|refine⟨rfl,?_⟩)) (by repeat (first|exact trivial|refine⟨λh=>(by first|exact⟨_,rfl⟩|cases h),?_⟩)) (λC s H fp=>⟨(@AS _ _ (0) _ (show(["seal","origins"]:List Str).Nodup by decide +kernel) rfl (by trivial) (by trivial)),(!EX (!Ar (Rc (K:=K) (by rfl)) (pv 0) (pv 1))),(pv 0)⟩) (by intro _;rfl)) (!Ab))) (by rfl) (by trivial)) (!Ai (!AL (!Ar RG (!AM Cj (by rfl) T.b_len Eo (!Aa (pv 5) (!Ab))) (!Ae) (AC _)) (!Ag (!Ca BS rfl GL (by trivial) rfl (!Aa (!Aj AQ (pv 5) (!Ae) (λ_ _=>rfl)) (!Ab)))) (!Aw)) (!Ag (!Au (!AO AU (by trivial) rfl (!Aa (!AO E4 (by trivial) rfl (!Aa (pv 0) (!Aa (!AV Ij (!BU (!Aa (pv 1) (!Ab))) (pv 3)) (!Ab)))) (!Ab))))))))))),?_⟩
 try dsimp only[AZ,Cx.nox,Cx.wish]
 refine⟨_,rfl,_,rfl,h,nm,ag,k,n,qs,ps,rfl,hd,λp hp=>?_,q1⟩;obtain⟨mp,np⟩:=CH hp;have nd:=ri.nd;refine⟨_,rfl,D0,λl0 nl0=>?_⟩;have s0:=Ah nl0 (.lst [V.str nm]);have h0:(upd H l0 (.lst [V.str nm])) l0=some (.lst ([nm].map V.str)):=Ac;generalize upd H l0 (.lst [V.str nm])=H0 at s0 h0;have hd0:=hd.st (AD s0);have tb0:=tb.same s0;dsimp only[BD];refine FT (λσ' H'=>∃(l:Addr) (zs:List Str),σ'=[some (.ref h),some (.str nm),some (.ref p.a),some (.ref l),none,none]/\St H H'/\Tb PT PU H'/\H' l=some (.lst (zs.map V.str))/\zs.Perm (Jd nm p ps)) (λN hN=>?_) ?_
 ·have y:=(hd0.en p mp).2;dsimp only[Xu];cases ee:p.e with
  |st nm' kp og t=>
   rw[ee] at y;refine⟨_,rfl,p.a,_,_,_,rfl,rfl,AJ.of y,Af (j:=1) rfl,rfl,_,rfl,AX rfl ?_⟩;refine⟨_,rfl,_,rfl,h,nm,ag,k,n,qs,ps,rfl,hd0,by omega,tns nm,tb0.a,λus l H1 up us2 st1 tb1 nl hl=>?_⟩;have S1:=Hw st1 tb0.a tb1;have T1:=tb0.l st1 tb1;refine⟨l,rfl,⟨_,AR.of hl⟩,?_⟩;have inp:∀r∈us,r∈ps:=λr hr9=>(av.mp (up.mem_iff.mp hr9)).1
   refine B2 (ps:=us) (g:=λr=>V.ref r.a) (λ_=>true) (λr=>V.str r.e.nm) (Cv (AR.of hl)) (by have:=up.length_eq;have:=bf (λp:Pe=>p.e.isSl nm) ps;omega) (λr hr9 H' R s' hR=>hR) (λr hr9 _ H' R s' hR=>?_) λl7 H7 n7 s7 h7=>?_
   ·obtain⟨w,hw⟩:=(hd0.en r (inp r hr9)).fst;exact⟨_,rfl,r.a,_,_,_,rfl,rfl,AJ.of (s'.get (S1.tup hw)),Af (j:=0) rfl,hR H' (AA.refl _)⟩
   ·rw[filter_tt] at h7;refine hN _ _ ⟨l7,us.map BH,rfl,((AD s0).trans S1).trans (AD s7),T1.same s7,by rw[h7,ao];rfl,?_⟩;unfold Jd;rw[aw (by rw[ee];rfl)];exact up.map _
  |sl nm' sm tn t=>
   rw[ee] at y;refine⟨_,rfl,p.a,_,_,_,rfl,rfl,AJ.of y,Af (j:=1) rfl,rfl,_,rfl,Av rfl ?_⟩;refine hN _ _ ⟨l0,[nm],rfl,AD s0,tb0,h0,?_⟩;unfold Jd;rw[aj (by rw[ee];exact ai)]
 rintro σ' H1 ⟨l,zs,rfl,S1,T1,hl,pz⟩
 have hd1:=hd.st S1;have zl:zs.length<=60:=by
  rw[pz.length_eq];unfold Jd
  split
  ·rw[ae];exact aV (bf _ _) few
  ·show 1<=60;decide
 have znd:zs.Nodup:=by
  rw[pz.nodup_iff];unfold Jd
  split
  ·exact nd.sublist (List.filter_sublist.map _)
  ·exact bo.mpr ⟨List.not_mem_nil,bW⟩
 refine⟨_,rfl,h,ag,k,n,qs,ps,rfl,hd1,by omega,λl2 H2 s2 h2=>?_⟩;refine⟨l2,rfl,⟨_,AR.of h2⟩,?_⟩;refine B2 (ps:=ps.filter λp=>p.e.isS) (g:=λr=>V.ref r.a) (λ_=>true) (λr=>V.str r.e.og) (Cv (AR.of h2)) (by have:=bf (λp:Pe=>p.e.isS) ps;omega) (λr hr9 H' R s' hR=>hR) (λr hr9 _ H' R s' hR=>?_) λl7 H7 n7 s7 h7=>?_
 ·obtain⟨m9,i9⟩:=av.mp hr9;obtain⟨nm9,kp9,t9,e9⟩:=KO i9;have y:=(hd1.en r m9).2;rw[e9] at y;exact⟨_,rfl,r.a,_,_,_,rfl,rfl,AJ.of (s'.get (s2.get y)),Af (j:=3) rfl,hR H' (AA.refl _)⟩
 rw[filter_tt] at h7;have h7':H7 l7=some (.lst ((Uc ps).map V.str)):=by rw[h7];unfold Uc;rw[ao];rfl
 have s27:=s2.trans s7;have hl7:=s27.get hl;refine⟨_,rfl,l,rfl,⟨_,AR.of hl7⟩,?_⟩;refine B2 (ps:=zs) (g:=V.str) (λz=>decide (z∈Uc ps)) V.str (Cv (AR.of hl7)) (by omega) (λz hz H' R s' hR=>?_) (λz hz _ H' R s' hR=>⟨_,rfl,hR H' (AA.refl _)⟩) λl8 H8 n8 s8 h8=>?_
 ·refine⟨_,rfl,_,rfl,l7,_,rfl,.inl (AR.of (s'.get h7')),rfl,KW _,_,rfl,?_⟩;rw[MN];exact hR
 have S8:=S1.trans (AD (s27.trans s8));have T8:=T1.same (s27.trans s8);have hl8:=s8.get hl7;have gl:=bf (λz=>decide (z∈Uc ps)) zs;refine⟨l8,_,rfl,AR.of h8,by omega,λts p9 tp so np9=>?_⟩;have s9:=Ah np9 (.lst (ts.map V.str));have h9:(upd H8 p9 (.lst (ts.map V.str))) p9=some (.lst (ts.map V.str)):=Ac;have hl9:=s9.get hl8;generalize upd H8 p9 (.lst (ts.map V.str))=H9 at s9 h9 hl9;have S9:=S8.trans (AD s9);have T9:=T8.same s9;have tsp:=OQ so (by rw[tp.nodup_iff];exact znd.filter _);have inG:∀y,y∈ts↔y∈Jd nm p ps/\y∈Uc ps:=λy=>by
  rw[tp.mem_iff,av,pz.mem_iff,bY]
 refine⟨_,rfl,p9,_,rfl,.inl (AR.of h9),_,_,rfl,rfl,_,rfl,Dh (λc=>?_) (λc=>?_)⟩
 ·cases ts with
  |nil=>exact absurd (aE c) (by show ¬((0:Int)<((0:Nat):Int));decide)
  |cons z ts=>
   refine⟨_,rfl,p9,_,_,_,rfl,rfl,AR.of h9,Af (j:=0) rfl,?_⟩;have hz:=(inG z).mp aM;refine⟨_,rfl,q2 p z hp hz.1 hz.2 (λy h1 h2 lt=>?_) H9 S9 T9⟩;rcases aL.mp ((inG y).mpr ⟨h1,h2⟩) with rfl|h3
   ·exact cH _ lt
   ·exact cH _ (cw lt ((bE.mp tsp).1 y h3))
 ·have t0:ts=[]:=by
   cases ts with
   |nil=>rfl
   |cons z ts=>exact absurd (au (by show(0:Int)<((ts.length+1:Nat):Int);omega)) (by simpa using c)
  subst t0;refine⟨_,rfl,_,rfl,D0,λpa npa=>?_⟩;have sa:=Ah npa (.lst [V.str nm]);have ha:(upd H9 pa (.lst [V.str nm])) pa=some (.lst [V.str nm]):=Ac;have hla:=sa.get hl9;generalize upd H9 pa (.lst [V.str nm])=Ha at sa ha hla;refine⟨_,rfl,pa,l,_,_,rfl,rfl,AR.of ha,AR.of hla,small (by rw[ae];show 1+zs.length<=1000000;omega),λpb npb=>?_⟩;have sb:=Ah npb (.lst ([V.str nm]++zs.map V.str));have hb:(upd Ha pb (.lst ([V.str nm]++zs.map V.str))) pb=some (.lst ((nm::zs).map V.str)):=Ac;generalize upd Ha pb (.lst ([V.str nm]++zs.map V.str))=Hb at sb hb;have sab:=sa.trans sb;have Sb:=S9.trans (AD sab);refine⟨h,pb,nm::zs,ag,k,n,qs,ps,rfl,hd.st Sb,hb,few,λh4 n4 H4 s4 hd4=>?_⟩;refine⟨h4,ag,k,n4,qs,_,rfl,hd4,λh5 H5 s5 hd5=>?_⟩;refine q3 p hp (λy h1 h2=>?_) h5 n4 H5 ((Sb.trans (AD s4)).trans (AD s5)) (((T9.same sab).same s4).same s5) ?_
  ·have:=(inG y).mpr ⟨h1,h2⟩;cases this
  ·have e:(λr:Pe=>!decide (r.e.nm=nm\/r.e.nm∈Jd nm p ps))=λr=>!decide (r.e.nm∈nm::zs):=by
    funext r
    congr 1
    rw[decide_eq_decide,aL,pz.mem_iff]
   rw[e];exact hd5
end
inductive De where
 |keeper (nm:Str) (b:Int)|stem (nm kp:Str)|sea (sm nm:Str)|grow (nm sl kp:Str)|write (sm:Str) (n:Int)|back (sm:Str)|graft (sm:Str)|drop (nm:Str)
def Bd (s:Str)(es:List En):Prop:=∃k o t,En.st s k o t∈es
def Cg (s:Str)(es:List En):Prop:=∃sm n t,En.sl s sm n t∈es
def Qq (s:Str)(es:List En):Prop:=∃nm n t,En.sl nm s n t∈es
theorem O3 {es:List En}{nm:Str}:nm∈es.map En.nm↔Bd nm es\/Cg nm es:=by
 constructor
 ·intro h;obtain⟨e,he,rfl⟩:=aa.mp h;cases e with
  |st nm k o t=>exact .inl ⟨_,_,_,he⟩
  |sl nm s n t=>exact .inr ⟨_,_,_,he⟩
 ·rintro(⟨_,_,_,h⟩|⟨_,_,_,h⟩)<;>exact aa.mpr ⟨_,h,rfl⟩
def Lh (nm:Str)(es:List En)(z:Str):Prop:=(Bd nm es/\∃n t,En.sl z nm n t∈es)\/(¬Bd nm es/\z=nm)
def E7 (nm:Str)(es:List En)(z:Str):Prop:=Lh nm es z/\∃s k t,En.st s k z t∈es
def Ku (q:Str->Prop)(z:Str):Prop:=q z/\∀y,q y->¬NB y z
theorem SQ {q:Str->Prop}{y z:Str}(hy:Ku q y)(hz:Ku q z):y=z:=cX λne=>(λh=>hy.2 z hz.1 (O0 h λe=>ne e)) (hz.2 y hy.1)
inductive Ref (ks:List Str) (es:List En):De->Option Rf->Prop where
 |keeper (nm b):Ref ks es (.keeper nm b) (if DB (.str nm)=true then(if nm∈ks\/ks.length<8 then none else some .many) else some (.noName nm))
 |stem (nm kp):Ref ks es (.stem nm kp) (DC nm kp ks (es.map En.nm))
 |sea0 (sm nm):¬Bd sm es->Ref ks es (.sea sm nm) (some (.noName sm))
 |sea1 (sm nm):Bd sm es->Ref ks es (.sea sm nm) (match CL nm (es.map En.nm) with|some r=>some r|none=>if(es.map En.nm).length<24 then none else some .many)
 |grow0 (nm sl kp r):CL nm (es.map En.nm)=some r->Ref ks es (.grow nm sl kp) (some r)
 |grow1 (nm sl kp):CL nm (es.map En.nm)=none->¬Cg sl es->Ref ks es (.grow nm sl kp) (some (.noName sl))
 |grow2 (nm sl kp):Cg sl es->Ref ks es (.grow nm sl kp) (DC nm kp ks (es.map En.nm))
 |write0 (sm n):¬Bd sm es->Ref ks es (.write sm n) (some (.noName sm))
 |write1 (sm n):Bd sm es->Ref ks es (.write sm n) none
 |back0 (sm):¬Bd sm es->Ref ks es (.back sm) (some (.noName sm))
 |back1 (sm):Bd sm es->¬Qq sm es->Ref ks es (.back sm) (some (.bare sm))
 |back2 (sm):Bd sm es->Qq sm es->Ref ks es (.back sm) none
 |graft0 (sm):¬Bd sm es->Ref ks es (.graft sm) (some (.noName sm))
 |graft1 (sm k t):En.st sm k EM t∈es->Ref ks es (.graft sm) (some (.bare sm))
 |graft2 (sm k o t):En.st sm k o t∈es->o≠EM->Ref ks es (.graft sm) none
 |drop0 (nm):nm∉es.map En.nm->Ref ks es (.drop nm) (some (.noName nm))
 |drop1 (nm z):nm∈es.map En.nm->Ku (E7 nm es) z->Ref ks es (.drop nm) (some (.grown z))
 |drop2 (nm):nm∈es.map En.nm->(∀z,¬E7 nm es z)->Ref ks es (.drop nm) none
structure Like (es es2:List En):Prop where
 st:∀s k o t,En.st s k o t∈es↔En.st s k o t∈es2
 sl:∀nm s t,(∃n,En.sl nm s n t∈es)↔∃n,En.sl nm s n t∈es2
 ln:es.length=es2.length
theorem Like.hasSt {es es2:List En}(l:Like es es2)(s:Str):Bd s es↔Bd s es2:=by unfold K71.Bd;simp only[l.st]
theorem Like.hasSl {es es2:List En}(l:Like es es2)(s:Str):Cg s es↔Cg s es2:=by
 constructor
 ·rintro⟨sm,n,t,h⟩
  obtain⟨n',h'⟩:=(l.sl _ _ _).mp ⟨n,h⟩;exact⟨_,_,_,h'⟩
 ·rintro⟨sm,n,t,h⟩
  obtain⟨n',h'⟩:=(l.sl _ _ _).mpr ⟨n,h⟩;exact⟨_,_,_,h'⟩
theorem Like.slOf {es es2:List En}(l:Like es es2)(nm s:Str):(∃n t,En.sl nm s n t∈es)↔∃n t,En.sl nm s n t∈es2:=by
 constructor
 ·rintro⟨n,t,h⟩
  obtain⟨n',h'⟩:=(l.sl _ _ _).mp ⟨n,h⟩;exact⟨_,_,h'⟩
 ·rintro⟨n,t,h⟩
  obtain⟨n',h'⟩:=(l.sl _ _ _).mpr ⟨n,h⟩;exact⟨_,_,h'⟩
theorem Like.hasOf {es es2:List En}(l:Like es es2)(s:Str):Qq s es↔Qq s es2:=by
 unfold K71.Qq;simp only[l.slOf]
theorem Like.nm {es es2:List En}(l:Like es es2)(nm:Str):nm∈es.map En.nm↔nm∈es2.map En.nm:=by rw[O3,O3,l.hasSt,l.hasSl]
theorem Like.newR {es es2:List En}(l:Like es es2)(nm:Str):CL nm (es.map En.nm)=CL nm (es2.map En.nm):=by
 unfold K71.CL;simp only[l.nm nm]
theorem Like.lnm {es es2:List En}(l:Like es es2):(es.map En.nm).length=(es2.map En.nm).length:=by rw[ae,ae,l.ln]
theorem Like.stuck {es es2:List En}(l:Like es es2)(nm z:Str):E7 nm es z↔E7 nm es2 z:=by
 unfold E7 Lh;simp only[l.st,l.hasSt nm,l.slOf]
theorem Like.least {es es2:List En}(l:Like es es2)(nm z:Str):Ku (E7 nm es) z↔Ku (E7 nm es2) z:=by
 unfold Ku;simp only[l.stuck]
theorem Mr {es es2:List En}(l:Like es es2){ks ks2:List Str}(lk:∀z,z∈ks↔z∈ks2)(nm kp:Str):DC nm kp ks (es.map En.nm)=DC nm kp ks2 (es2.map En.nm):=by
 unfold DC;rw[l.newR nm,l.lnm];simp only[lk kp]
theorem Ref.like {es es2:List En}(l:Like es es2){ks ks2:List Str}(lk:∀z,z∈ks↔z∈ks2)(ll:ks.length=ks2.length){d:De}{r:Option Rf}(h:Ref ks es d r):Ref ks2 es2 d r:=by
 cases h with
 |keeper nm b=>simp only[lk nm,ll];exact .keeper nm b
 |stem nm kp=>rw[Mr l lk];exact .stem nm kp
 |sea0 sm nm h=>exact .sea0 sm nm λz=>h ((l.hasSt _).mpr z)
 |sea1 sm nm h=>rw[l.newR,l.lnm];exact .sea1 sm nm ((l.hasSt _).mp h)
 |grow0 nm sl kp r h=>exact .grow0 nm sl kp r (by rw[<-l.newR];exact h)
 |grow1 nm sl kp h h2=>exact .grow1 nm sl kp (by rw[<-l.newR];exact h) λz=>h2 ((l.hasSl _).mpr z)
 |grow2 nm sl kp h=>rw[Mr l lk];exact .grow2 nm sl kp ((l.hasSl _).mp h)
 |write0 sm n h=>exact .write0 sm n λz=>h ((l.hasSt _).mpr z)
 |write1 sm n h=>exact .write1 sm n ((l.hasSt _).mp h)
 |back0 sm h=>exact .back0 sm λz=>h ((l.hasSt _).mpr z)
 |back1 sm h h2=>exact .back1 sm ((l.hasSt _).mp h) λz=>h2 ((l.hasOf _).mpr z)
 |back2 sm h h2=>exact .back2 sm ((l.hasSt _).mp h) ((l.hasOf _).mp h2)
 |graft0 sm h=>exact .graft0 sm λz=>h ((l.hasSt _).mpr z)
 |graft1 sm k t h=>exact .graft1 sm k t ((l.st _ _ _ _).mp h)
 |graft2 sm k o t h n=>exact .graft2 sm k o t ((l.st _ _ _ _).mp h) n
 |drop0 nm h=>exact .drop0 nm λz=>h ((l.nm _).mpr z)
 |drop1 nm z h h2=>exact .drop1 nm z ((l.nm _).mp h) ((l.least _ _).mp h2)
 |drop2 nm h h2=>exact .drop2 nm ((l.nm _).mp h) λz q=>h2 z ((l.stuck _ _).mpr q)
theorem GE {es:List En}(nd:(es.map En.nm).Nodup){s k o k' o':Str}{t t':Option Str}(h:En.st s k o t∈es)(h':En.st s k' o' t'∈es):k=k'/\o=o'/\t=t':=by
 have:=B6 nd h h' rfl;cases this;exact⟨rfl,rfl,rfl⟩
theorem QJ {es:List En}(nd:(es.map En.nm).Nodup){s k k':Str}{o o':Int}{t t':Option Str}(h:En.sl s k o t∈es)(h':En.sl s k' o' t'∈es):k=k'/\o=o'/\t=t':=by
 have:=B6 nd h h' rfl;cases this;exact⟨rfl,rfl,rfl⟩
theorem NL {es:List En}(nd:(es.map En.nm).Nodup){s:Str}(h:Bd s es)(h':Cg s es):False:=by
 obtain⟨_,_,_,h⟩:=h;obtain⟨_,_,_,h'⟩:=h';have:=B6 nd h h' rfl;cases this
theorem Ml {nm kp:Str}{ks ns:List Str}{r:Rf}(h:CL nm ns=some r):DC nm kp ks ns=some r:=by
 unfold DC;rw[h]
theorem U2 {nm kp:Str}{ks ns:List Str}(h:DC nm kp ks ns=none):CL nm ns=none:=by
 cases e:CL nm ns with
 |none=>rfl
 |some r=>rw[Ml e] at h;cases h
theorem Ref.one {es:List En}(nd:(es.map En.nm).Nodup){ks:List Str}{d:De}{r r':Option Rf}(h:Ref ks es d r)(h':Ref ks es d r'):r=r':=by
 cases h with
 |keeper nm b=>cases h';rfl
 |stem nm kp=>cases h';rfl
 |sea0 sm nm h=>cases h' with|sea0 _ _ _=>rfl|sea1 _ _ h2=>exact absurd h2 h
 |sea1 sm nm h=>cases h' with|sea0 _ _ h2=>exact absurd h h2|sea1 _ _ _=>rfl
 |grow0 nm sl kp r h=>cases h' with
  |grow0 _ _ _ r' h2=>rw[h] at h2;exact h2
  |grow1 _ _ _ h2 _=>rw[h] at h2;cases h2
  |grow2 _ _ _ h2=>exact(Ml h).symm
 |grow1 nm sl kp h h2=>cases h' with
  |grow0 _ _ _ r' h3=>rw[h] at h3;cases h3
  |grow1 _ _ _ _ _=>rfl
  |grow2 _ _ _ h3=>exact absurd h3 h2
 |grow2 nm sl kp h=>cases h' with
  |grow0 _ _ _ r' h3=>exact Ml h3
  |grow1 _ _ _ _ h3=>exact absurd h h3
  |grow2 _ _ _ h3=>rfl
 |write0 sm n h=>cases h' with|write0 _ _ _=>rfl|write1 _ _ h2=>exact absurd h2 h
 |write1 sm n h=>cases h' with|write0 _ _ h2=>exact absurd h h2|write1 _ _ _=>rfl
 |back0 sm h=>cases h' with|back0 _ _=>rfl|back1 _ h2 _=>exact absurd h2 h|back2 _ h2 _=>exact absurd h2 h
 |back1 sm h h2=>cases h' with|back0 _ h3=>exact absurd h h3|back1 _ _ _=>rfl|back2 _ _ h3=>exact absurd h3 h2
 |back2 sm h h2=>cases h' with|back0 _ h3=>exact absurd h h3|back1 _ _ h3=>exact absurd h2 h3|back2 _ _ _=>rfl
 |graft0 sm h=>cases h' with|graft0 _ _=>rfl|graft1 _ _ _ h2=>exact absurd ⟨_,_,_,h2⟩ h|graft2 _ _ _ _ h2 _=>exact absurd ⟨_,_,_,h2⟩ h
 |graft1 sm k t h=>cases h' with|graft0 _ h2=>exact absurd ⟨_,_,_,h⟩ h2|graft1 _ _ _ h2=>rfl|graft2 _ _ _ _ h2 n=>exact absurd (GE nd h h2).2.1.symm n
 |graft2 sm k o t h n=>cases h' with|graft0 _ h2=>exact absurd ⟨_,_,_,h⟩ h2|graft1 _ _ _ h2=>exact absurd (GE nd h h2).2.1 n|graft2 _ _ _ _ h2 _=>rfl
 |drop0 nm h=>cases h' with|drop0 _ _=>rfl|drop1 _ _ h2 _=>exact absurd h2 h|drop2 _ h2 _=>exact absurd h2 h
 |drop1 nm z h h2=>cases h' with|drop0 _ h3=>exact absurd h h3|drop1 _ y _ h3=>rw[SQ h2 h3]|drop2 _ _ h3=>exact absurd h2.1 (h3 z)
 |drop2 nm h h2=>cases h' with|drop0 _ h3=>exact absurd h h3|drop1 _ y _ h3=>exact absurd h3.1 (h2 y)|drop2 _ _ _=>rfl
def wr (s:Str)(t:Option Str):En->En
 | .st nm k o t0=>if nm=s then .st nm k o t else .st nm k o t0
 | .sl nm k o t0=>.sl nm k o t0
abbrev QX (n:Int):Str:=PySem.Str.ofString (toString n)
inductive Step (n:Int) (es es':List En):De->Prop where
 |keeper (nm b):es'.Perm es->Step n es es' (.keeper nm b)
 |stem (nm kp):es'.Perm (es++[.st nm kp EM none])->Step n es es' (.stem nm kp)
 |sea (sm nm k o t):En.st sm k o t∈es->es'.Perm (es++[.sl nm sm n t])->Step n es es' (.sea sm nm)
 |grow (nm sl kp sm m t):En.sl sl sm m t∈es->es'.Perm (es++[.st nm kp sl t])->Step n es es' (.grow nm sl kp)
 |write (sm i):es'.Perm (es.map (wr sm (some (QX i))))->Step n es es' (.write sm i)
 |back (sm nm m t):En.sl nm sm m t∈es->(∀nm' m' t',En.sl nm' sm m' t'∈es->m'<=m)->es'.Perm (es.map (wr sm t))->Step n es es' (.back sm)
 |graft (sm k o t p m t2 k3 o3 t3):En.st sm k o t∈es->En.sl o p m t2∈es->En.st p k3 o3 t3∈es->es'.Perm (es.map (gr sm p o o3 m))->Step n es es' (.graft sm)
 |drop (nm) (q:En->Bool):(∀e,q e=true↔¬(e.nm=nm\/Lh nm es e.nm))->es'.Perm (es.filter q)->Step n es es' (.drop nm)
def mt (φ:Int->Int):En->En
 | .st nm k o t=>.st nm k o t
 | .sl nm s n t=>.sl nm s (φ n) t
abbrev PQ (φ:Int->Int):Prop:=∀a b,a<b->φ a<φ b
theorem PQ.le {φ:Int->Int}(h:PQ φ)(a b:Int):φ a<=φ b↔a<=b:=by
 constructor
 ·intro z;rcases Int.lt_or_le b a with y|y
  ·have:=h b a y;omega
  ·exact y
 ·intro z;rcases Int.lt_or_eq_of_le z with y|y
  ·exact fw (h a b y)
  ·rw[y];exact fL _
theorem Qt (φ:Int->Int)(e:En):(mt φ e).nm=e.nm:=by cases e<;>rfl
theorem OC (φ:Int->Int)(es:List En):Like (es.map (mt φ)) es:=by
 refine⟨λs k o t=>⟨λh=>?_,λh=>aa.mpr ⟨_,h,rfl⟩⟩,λnm s t=>⟨λ⟨n,h⟩=>?_,λ⟨n,h⟩=>⟨φ n,aa.mpr ⟨_,h,rfl⟩⟩⟩,ae _⟩
 ·obtain⟨e,he,z⟩:=aa.mp h;cases e with
  |st=>cases z;exact he
  |sl=>cases z
 ·obtain⟨e,he,z⟩:=aa.mp h;cases e with
  |st=>cases z
  |sl=>cases z;exact⟨_,he⟩
theorem K3 {es es2:List En}(h:es.Perm es2):Like es es2:=⟨λ_ _ _ _=>h.mem_iff,λ_ _ _=>⟨λ⟨n,z⟩=>⟨n,h.mem_iff.mp z⟩,λ⟨n,z⟩=>⟨n,h.mem_iff.mpr z⟩⟩,h.length_eq⟩
theorem Like.trans {a b c:List En}(x:Like a b)(y:Like b c):Like a c:=⟨λs k o t=>(x.st s k o t).trans (y.st s k o t),λnm s t=>(x.sl nm s t).trans (y.sl nm s t),x.ln.trans y.ln⟩
theorem Wh (φ:Int->Int)(s:Str)(t:Option Str)(e:En):wr s t (mt φ e)=mt φ (wr s t e):=by
 cases e with
 |st nm k o t0=>
  show(if nm=s then En.st nm k o t else .st nm k o t0)=mt φ (if nm=s then En.st nm k o t else .st nm k o t0)
  split<;>rfl
 |sl=>rfl
theorem XO {φ:Int->Int}(h:PQ φ)(s p o o3:Str)(m:Int)(e:En):gr s p o o3 (φ m) (mt φ e)=mt φ (gr s p o o3 m e):=by
 cases e with
 |st nm k o' t=>
  show(if nm=s then En.st nm k o3 t else if nm=p then En.st nm k o t else En.st nm k o' t)=mt φ (if nm=s then En.st nm k o3 t else if nm=p then En.st nm k o t else En.st nm k o' t)
  split
  ·rfl
  ·split<;>rfl
 |sl nm sm n t=>
  show(if sm=p/\φ n<=φ m then En.sl nm s (φ n) t else En.sl nm sm (φ n) t)=mt φ (if sm=p/\n<=m then En.sl nm s n t else En.sl nm sm n t)
  by_cases c:sm=p/\n<=m
  ·rw[aw c,aw ⟨c.1,(h.le _ _).mpr c.2⟩];rfl
  ·rw[aj c,aj λy=>c ⟨y.1,(h.le _ _).mp y.2⟩];rfl
theorem K7 {φ:Int->Int}{es ms:List En}(hp:ms.Perm (es.map (mt φ))){nm s:Str}{n:Int}{t:Option Str}(h:En.sl nm s n t∈ms):∃m,n=φ m/\En.sl nm s m t∈es:=by
 obtain⟨e,he,z⟩:=aa.mp (hp.mem_iff.mp h);cases e with
 |st=>cases z
 |sl=>cases z;exact⟨_,rfl,he⟩
theorem Rb {φ:Int->Int}{es ms:List En}(hp:ms.Perm (es.map (mt φ))){s k o:Str}{t:Option Str}(h:En.st s k o t∈ms):En.st s k o t∈es:=by
 obtain⟨e,he,z⟩:=aa.mp (hp.mem_iff.mp h);cases e with
 |st=>cases z;exact he
 |sl=>cases z
theorem Step.sim {φ:Int->Int}(hm:PQ φ){n:Int}{es es' ms ms':List En}{d:De}(nd:(es.map En.nm).Nodup)(tn:∀nm s m t nm' s' t',En.sl nm s m t∈es->En.sl nm' s' m t'∈es->nm=nm')(hp:ms.Perm (es.map (mt φ)))(h:Step n es es' d)(h':Step (φ n) ms ms' d):ms'.Perm (es'.map (mt φ)):=by
 have lk:=(K3 hp).trans (OC φ es);cases h with
 |keeper nm b h=>cases h' with|keeper _ _ h'=>exact h'.trans (hp.trans (h.map _).symm)
 |stem nm kp h=>cases h' with
  |stem _ _ h'=>
   refine h'.trans ((hp.append_right _).trans (.trans ?_ (h.map _).symm));rw[aS];exact .refl _
 |sea sm nm k o t m h=>cases h' with
  |sea _ _ k' o' t' m' h'=>
   obtain⟨rfl,rfl,rfl⟩:=GE nd m (Rb hp m');refine h'.trans ((hp.append_right _).trans (.trans ?_ (h.map _).symm));rw[aS];exact .refl _
 |grow nm sl kp sm i t m h=>cases h' with
  |grow _ _ _ sm' i' t' m' h'=>
   obtain⟨j,rfl,m2⟩:=K7 hp m';obtain⟨rfl,rfl,rfl⟩:=QJ nd m m2;refine h'.trans ((hp.append_right _).trans (.trans ?_ (h.map _).symm));rw[aS];exact .refl _
 |write sm i h=>cases h' with
  |write _ _ h'=>
   refine h'.trans ((hp.map _).trans (.trans ?_ (h.map _).symm));rw[ao,ao];exact .of_eq (aB λe _=>Wh _ _ _ _)
 |back sm nm i t m top h=>cases h' with
  |back _ nm' i' t' m' top' h'=>
   obtain⟨j,rfl,m2⟩:=K7 hp m';have l1:=top nm' j t' m2;have l2:=(hm.le _ _).mp (top' nm (φ i) t (hp.mem_iff.mpr (aa.mpr ⟨_,m,rfl⟩)));have e:i=j:=by omega
   subst e;have:=tn _ _ _ _ _ _ _ m m2;subst this;obtain⟨_,_,rfl⟩:=QJ nd m m2;refine h'.trans ((hp.map _).trans (.trans ?_ (h.map _).symm));rw[ao,ao];exact .of_eq (aB λe _=>Wh _ _ _ _)
 |graft sm k o t p i t2 k3 o3 t3 m1 m2 m3 h=>cases h' with
  |graft _ k' o' t' p' i' t2' k3' o3' t3' m1' m2' m3' h'=>
   obtain⟨rfl,rfl,rfl⟩:=GE nd m1 (Rb hp m1');obtain⟨j,rfl,m4⟩:=K7 hp m2';obtain⟨rfl,rfl,rfl⟩:=QJ nd m2 m4;obtain⟨rfl,rfl,rfl⟩:=GE nd m3 (Rb hp m3');refine h'.trans ((hp.map _).trans (.trans ?_ (h.map _).symm));rw[ao,ao];exact .of_eq (aB λe _=>XO hm _ _ _ _ _ _)
 |drop nm q hq h=>cases h' with
  |drop _ q' hq' h'=>
   have e:∀e,q' (mt φ e)=q e:=λe=>by
    rw[bH,hq',hq,Qt];unfold Lh;rw[lk.hasSt,lk.slOf]
   refine h'.trans ((hp.filter _).trans (.trans ?_ (h.map _).symm));rw[cy];refine .of_eq ?_
   congr 1
   exact d6 λx _=>e x
structure Wl (ag:Int) (es:List En):Prop where
 nd:(es.map En.nm).Nodup
 og:∀nm k o t,En.st nm k o t∈es->o=EM\/Cg o es
 sm:∀nm s n t,En.sl nm s n t∈es->Bd s es/\n<=ag
 tn:∀nm s m t nm' s' t',En.sl nm s m t∈es->En.sl nm' s' m t'∈es->nm=nm'
 nb:∀e∈es,DB (.str e.nm)=true
 tr:∀e∈es,∀c,e.tr=some c->c.length<=400
 few:es.length<=24
theorem Wl.perm {ag:Int}{es es2:List En}(w:Wl ag es)(h:es2.Perm es):Wl ag es2:=by
 have l:=K3 h;exact⟨(h.map _).nodup_iff.mpr w.nd,λnm k o t z=>(w.og nm k o t (h.mem_iff.mp z)).imp id (l.hasSl _).mpr,λnm s n t z=>(w.sm nm s n t (h.mem_iff.mp z)).imp (l.hasSt _).mpr id,λnm s m t nm' s' t' z z'=>w.tn nm s m t nm' s' t' (h.mem_iff.mp z) (h.mem_iff.mp z'),λe he=>w.nb e (h.mem_iff.mp he),λe he=>w.tr e (h.mem_iff.mp he),by rw[h.length_eq];exact w.few⟩
theorem Wl.older {ag ag':Int}{es:List En}(w:Wl ag es)(h:ag<=ag'):Wl ag' es:=⟨w.nd,w.og,λnm s n t z=>(w.sm nm s n t z).imp id λy=>Int.le_trans y h,w.tn,w.nb,w.tr,w.few⟩
theorem FA {nm:Str}{ns:List Str}(h:CL nm ns=none):DB (.str nm)=true/\nm∉ns:=by
 unfold CL at h
 by_cases c:DB (.str nm)=true
 ·rw[aw c] at h
  by_cases d:nm∈ns
  ·rw[aw d] at h;cases h
  ·exact⟨c,d⟩
 ·rw[aj c] at h;cases h
theorem Gs {nm kp:Str}{ks ns:List Str}(h:DC nm kp ks ns=none):CL nm ns=none/\kp∈ks/\ns.length<24:=by
 have h0:=U2 h;unfold DC at h;rw[h0] at h
 change (if kp∈ks then(if ns.length<24 then none else some Rf.many) else some (.noName kp))=none at h
 by_cases c:kp∈ks
 ·rw[aw c] at h
  by_cases d:ns.length<24
  ·exact⟨h0,c,d⟩
  ·rw[aj d] at h;cases h
 ·rw[aj c] at h;cases h
theorem Wl.add {ag:Int}{es:List En}(w:Wl ag es){e:En}(hn:CL e.nm (es.map En.nm)=none)(few:es.length<24)(tr:∀c,e.tr=some c->c.length<=400)(hs:∀nm k o t,e=.st nm k o t->o=EM\/Cg o es)(hl:∀nm s n t,e=.sl nm s n t->Bd s es/\n=ag+1):Wl (ag+1) (es++[e]):=by
 obtain⟨nb,nn⟩:=FA hn;have up1:∀{s},Bd s es->Bd s (es++[e]):=λ⟨k,o,t,h⟩=>⟨k,o,t,cm _ h⟩
 have up2:∀{s},Cg s es->Cg s (es++[e]):=λ⟨k,o,t,h⟩=>⟨k,o,t,cm _ h⟩
 refine⟨?_,λnm k o t h=>?_,λnm s n t h=>?_,λnm s m t nm' s' t' h h'=>?_,λx hx=>?_,λx hx=>?_,by rw[aW,bT];omega⟩
 ·rw[aS,cY];refine⟨w.nd,by simp,λa ha b hb z=>?_⟩;rw[cD,ax] at hb;rw[z,hb] at ha;exact nn ha
 ·rcases aP.mp h with h|h
  ·exact(w.og nm k o t h).imp id up2
  ·exact(hs nm k o t (ax.mp h).symm).imp id up2
 ·rcases aP.mp h with h|h
  ·exact⟨up1 (w.sm nm s n t h).1,by have:=(w.sm nm s n t h).2;omega⟩
  ·obtain⟨h1,h2⟩:=hl nm s n t (ax.mp h).symm;exact⟨up1 h1,by omega⟩
 ·rcases aP.mp h with h|h
  ·rcases aP.mp h' with h'|h'
   ·exact w.tn nm s m t nm' s' t' h h'
   ·have h1:=(hl nm' s' m t' (ax.mp h').symm).2;have h2:=(w.sm nm s m t h).2;omega
  ·have h1:=(hl nm s m t (ax.mp h).symm).2;rcases aP.mp h' with h'|h'
   ·have h2:=(w.sm nm' s' m t' h').2;omega
   ·have:=(ax.mp h).trans (ax.mp h').symm;cases this;rfl
 ·rcases aP.mp hx with hx|hx
  ·exact w.nb x hx
  ·rw[ax.mp hx];exact nb
 ·rcases aP.mp hx with hx|hx
  ·exact w.tr x hx
  ·rw[ax.mp hx];exact tr
theorem Wl.map {ag:Int}{es:List En}(w:Wl ag es){g:En->En}(hs:∀nm k o t,En.st nm k o t∈es->∃o' t',g (.st nm k o t)=.st nm k o' t'/\(o'=EM\/Cg o' es)/\∀c,t'=some c->c.length<=400)(hl:∀nm s n t,En.sl nm s n t∈es->∃s',g (.sl nm s n t)=.sl nm s' n t/\Bd s' es):Wl ag (es.map g):=by
 have gn:∀e∈es,(g e).nm=e.nm:=λe he=>by
  cases e with
  |st nm k o t=>obtain⟨o',t',e,_⟩:=hs nm k o t he;rw[e];rfl
  |sl nm s n t=>obtain⟨s',e,_⟩:=hl nm s n t he;rw[e];rfl
 have up1:∀{s},Bd s es->Bd s (es.map g):=λ⟨k,o,t,h⟩=>by
  obtain⟨o',t',e,_⟩:=hs _ k o t h;exact⟨k,o',t',aa.mpr ⟨_,h,e⟩⟩
 have up2:∀{s},Cg s es->Cg s (es.map g):=λ⟨k,o,t,h⟩=>by
  obtain⟨s',e,_⟩:=hl _ k o t h;exact⟨s',o,t,aa.mpr ⟨_,h,e⟩⟩
 have bst:∀nm k o t,En.st nm k o t∈es.map g->(o=EM\/Cg o es)/\∀c,t=some c->c.length<=400:=λnm k o t h=>by
  obtain⟨e,he,z⟩:=aa.mp h;cases e with
  |st nm0 k0 o0 t0=>
   obtain⟨o',t',e,h1,h2⟩:=hs _ _ _ _ he;rw[e] at z;cases z;exact⟨h1,h2⟩
  |sl nm0 s0 n0 t0=>
   obtain⟨s',e,_⟩:=hl _ _ _ _ he;rw[e] at z;cases z
 have bsl:∀nm s n t,En.sl nm s n t∈es.map g->Bd s es/\∃s0,En.sl nm s0 n t∈es:=λnm s n t h=>by
  obtain⟨e,he,z⟩:=aa.mp h;cases e with
  |st nm0 k0 o0 t0=>
   obtain⟨o',t',e,_⟩:=hs _ _ _ _ he;rw[e] at z;cases z
  |sl nm0 s0 n0 t0=>
   obtain⟨s',e,h1⟩:=hl _ _ _ _ he;rw[e] at z;cases z;exact⟨h1,_,he⟩
 refine⟨?_,λnm k o t h=>(bst nm k o t h).1.imp id up2,λnm s n t h=>?_,λnm s m t nm' s' t' h h'=>?_,λx hx=>?_,λx hx c hc=>?_,by rw[ae];exact w.few⟩
 ·rw[ao,show es.map (En.nm∘g)=es.map En.nm from aB λe he=>gn e he];exact w.nd
 ·obtain⟨h1,s0,h2⟩:=bsl nm s n t h;exact⟨up1 h1,(w.sm _ _ _ _ h2).2⟩
 ·obtain⟨_,_,h1⟩:=bsl _ _ _ _ h;obtain⟨_,_,h2⟩:=bsl _ _ _ _ h';exact w.tn _ _ _ _ _ _ _ h1 h2
 ·obtain⟨e,he,rfl⟩:=aa.mp hx;rw[gn e he];exact w.nb e he
 ·cases x with
  |st nm k o t=>exact(bst nm k o t hx).2 c hc
  |sl nm s n t=>
   obtain⟨_,_,h2⟩:=bsl nm s n t hx;exact w.tr _ h2 c hc
def De.Ok:De->Prop
 | .write _ n=>0<=n/\n<60
 |_=>True
theorem VZ:∀n:Nat,n<60->(QX (n:Int)).length<=400:=by decide +kernel
theorem RP {n:Int}(h:0<=n/\n<60):(QX n).length<=400:=by
 have:=VZ n.toNat (by omega);rw[show((n.toNat:Nat):Int)=n by omega] at this;exact this
theorem Wl.wr {ag:Int}{es:List En}(w:Wl ag es)(s:Str){t:Option Str}(h:∀c,t=some c->c.length<=400):Wl ag (es.map (wr s t)):=by
 refine w.map (λnm k o t0 z=>?_) (λnm s n t z=>⟨s,rfl,(w.sm nm s n t z).1⟩)
 by_cases c:nm=s
 ·exact⟨o,t,aw c,w.og _ _ _ _ z,h⟩
 ·exact⟨o,t0,aj c,w.og _ _ _ _ z,λc hc=>w.tr _ z c hc⟩
theorem Wl.step {ag:Int}{es es':List En}{ks:List Str}{d:De}{r:Option Rf}(w:Wl ag es)(ok:d.Ok)(hr:Ref ks es d r)(e:r=none)(hs:Step (ag+1) es es' d):Wl (ag+1) es':=by
 have le:ag<=ag+1:=by omega
 have em:∀c,(none:Option Str)=some c->c.length<=400:=λc z=>by cases z
 cases hs with
 |keeper nm b h=>exact(w.older le).perm h
 |stem nm kp h=>
  cases hr;obtain⟨h1,h2,h3⟩:=Gs e;rw[ae] at h3;exact(w.add (e:=.st nm kp EM none) h1 h3 em (λ_ _ _ _ z=>by cases z;exact .inl rfl) (λ_ _ _ _ z=>by cases z)).perm h
 |sea sm nm k o t m h=>
  cases hr with
  |sea0 _ _ h2=>cases e
  |sea1 _ _ h2=>
   cases e1:CL nm (es.map En.nm) with
   |some r=>rw[e1] at e;cases e
   |none=>
    rw[e1] at e
    change (if(es.map En.nm).length<24 then none else some Rf.many)=none at e
    by_cases l:(es.map En.nm).length<24
    ·rw[ae] at l;exact(w.add (e:=.sl nm sm (ag+1) t) e1 l (λc hc=>w.tr _ m c hc) (λ_ _ _ _ z=>by cases z) (λ_ _ _ _ z=>by cases z;exact⟨h2,rfl⟩)).perm h
    ·rw[aj l] at e;cases e
 |grow nm sl kp sm i t m h=>
  cases hr with
  |grow0 _ _ _ r h2=>cases e
  |grow1 _ _ _ h2 h3=>cases e
  |grow2 _ _ _ h2=>
   obtain⟨h1,h2',h3⟩:=Gs e;rw[ae] at h3;exact(w.add (e:=.st nm kp sl t) h1 h3 (λc hc=>w.tr _ m c hc) (λ_ _ _ _ z=>by cases z;exact .inr h2) (λ_ _ _ _ z=>by cases z)).perm h
 |write sm i h=>exact((w.older le).wr sm λc hc=>by cases hc;exact RP ok).perm h
 |back sm nm i t m top h=>exact((w.older le).wr sm λc hc=>w.tr _ m c hc).perm h
 |graft sm k o t p i t2 k3 o3 t3 m1 m2 m3 h=>
  refine((w.older le).map (g:=gr sm p o o3 i) (λnm k' o' t' z=>?_) (λnm s n t' z=>?_)).perm h
  ·by_cases c:nm=sm
   ·exact⟨o3,t',aw c,w.og _ _ _ _ m3,λc hc=>w.tr _ z c hc⟩
   ·by_cases c2:nm=p
    ·exact⟨o,t',(aj c).trans (aw c2),.inr ⟨_,_,_,m2⟩,λc hc=>w.tr _ z c hc⟩
    ·exact⟨o',t',(aj c).trans (aj c2),w.og _ _ _ _ z,λc hc=>w.tr _ z c hc⟩
  ·by_cases c:s=p/\n<=i
   ·exact⟨sm,aw c,_,_,_,m1⟩
   ·exact⟨s,aj c,(w.sm _ _ _ _ z).1⟩
 |drop nm q hq h=>
  cases hr with
  |drop0 _ h2=>cases e
  |drop1 _ z h2 h3=>cases e
  |drop2 _ h2 h3=>
   have kst:∀{s},s≠nm->Bd s es->Bd s (es.filter q):=λ{s} n ⟨k,o,t,z⟩=>⟨k,o,t,av.mpr ⟨z,(hq _).mpr λy=>y.elim n λy=>by
    rcases y with⟨_,n',t',y⟩|⟨_,y⟩
    ·exact NL w.nd ⟨_,_,_,z⟩ ⟨_,_,_,y⟩
    ·exact n y⟩⟩
   refine Wl.perm ⟨(w.nd.sublist (List.filter_sublist.map _)),λnm' k o t z=>?_,λnm' s n t z=>?_,λa b m c a' b' c' z z'=>w.tn a b m c a' b' c' (av.mp z).1 (av.mp z').1,λx hx=>w.nb x (av.mp hx).1,λx hx=>w.tr x (av.mp hx).1,aV (bf _ _) w.few⟩ h
   ·have z1:=(av.mp z).1;rcases w.og _ _ _ _ z1 with y|y
    ·exact .inl y
    ·obtain⟨s2,n2,t2,y⟩:=y;refine .inr ⟨s2,n2,t2,av.mpr ⟨y,(hq _).mpr λx=>?_⟩⟩;rcases x with x|x
     ·have x:o=nm:=x
      by_cases c:Bd nm es
      ·exact NL w.nd c ⟨_,_,_,x▸y⟩
      ·exact h3 o ⟨.inr ⟨c,x⟩,_,_,_,z1⟩
     ·exact h3 o ⟨x,_,_,_,z1⟩
   ·obtain⟨z1,z2⟩:=av.mp z;obtain⟨h4,h5⟩:=w.sm _ _ _ _ z1;refine⟨kst (λc=>?_) h4,by omega⟩;subst c;exact(hq _).mp z2 (.inr (.inl ⟨h4,_,_,z1⟩))
abbrev SL:Str:=PySem.Str.ofString "/"
theorem Ub:PySem.Txt.split FS SL=[FS]:=by decide +kernel
theorem V6:∃a b,OV FS SL=[EM,a,b]:=⟨EM,FS,by decide +kernel⟩
theorem Vr:DB (.str FS)=true:=by decide +kernel
theorem U4 (t:Option Str)(c:Str):Ht (Eg t) [((.inr FS:Key),V.str c)]=Eg (some c):=by
 cases t with
 |none=>rfl
 |some d=>simp[Ht,putK,Eg]
theorem Ph (t:Option Str):(Eg t).length<=1:=by cases t<;>simp[Eg]
theorem Sa:ET (Eg none) (.inr FS)=none:=rfl
theorem Oc (c:Str):ET (Eg (some c)) (.inr FS)=some (.str c):=HN rfl
section
variable {P:Program}{w:World}{K:W.Frag}{mg:Str->Option Value}{base:Heap}{f C:Addr}{XC:Nat->Addr}{fd:FuncData}{PT PU:Addr}
def Fh (K:W.Frag):Sp:=λvs H Q _=>vs=[.str FS]/\∀H',AA H H'->Q (.str EM) H'
theorem OH (T:Txt K mg C XC)(F:Fun K "folder_of" "folder_of" DN f fd):FnOk P w K mg base EL 1 f fd ["path"] (Fh K):=by
 exists OW
 ·obtain⟨rfl,_⟩:=h;rfl
 obtain⟨rfl,q⟩:=h;refine⟨_,(!Ag (!Au (!Aj Ak (!Lf cG PySem.F.slot_str_rpartition PySem.F.type_str_rpartition Nq (pv 0) (!Aa (!Aq) (!Ab))) (!Ae) (λ_ _=>rfl)))),?_⟩
 try dsimp only[AZ,Cx.nox,Cx.wish]
 obtain⟨a,b,e⟩:=V6;refine⟨_,rfl,rfl,FS,SL,rfl,rfl,by decide +kernel,by decide +kernel,λp np=>?_⟩;rw[e];have s1:=Ah np (.tup ([EM,a,b].map V.str));exact⟨p,_,_,_,rfl,rfl,AJ.of Ac,Af (j:=0) rfl,q _ s1⟩
def Hv (K:W.Frag):Sp:=λvs H Q _=>vs=[.str FS]/\∀l H',AA H H'->H' l=some (.lst [.str FS])->Q (.ref l) H'
theorem P4 (T:Txt K mg C XC)(F:Fun K "steps_in" "steps_in" Er f fd)(CZ:Def P w K mg base 2 "is_name" ["thing"] (Fw K)):FnOk P w K mg base EL 3 f fd ["path"] (Hv K):=by
 exists Lb
 ·obtain⟨rfl,_⟩:=h;rfl
 obtain⟨rfl,q⟩:=h;have hu:=ES hr;refine⟨_,(!Ai (!AL (!Ar Bp (pv 0) (!Aq) (AC _)) (!Ag (!Au (!BU (!Ab)))) (!Aw)) (!Ai (@AE _ _ (1) _ _ _ _ Lb.nd rfl (by trivial) (!Lf cG PySem.F.slot_str_split PySem.F.type_str_split TK (pv 0) (!Aa (!Aq) (!Ab))) (by rfl) (by trivial)) (!Ai (!AL (@PW.pt _ _ _ (!LO (!Ar RG (!AM Cj (by rfl) T.b_len Eo (!Aa (pv 1) (!Ab))) (!Bm rfl T.c_MOST_STEPS) (AC _)) (!IQ (!Dd (!CI (!AM (Gq rfl) (by rfl) T.b_all KM (!Aa (@Ed _ ["step"] _ _ _ _ _ _ _ _ _ _ rfl (!B7 (pv 1)) (by decide +kernel) (λC s H fp=>⟨(@AS _ _ (0) _ (show(["step"]:List Str).Nodup by decide +kernel) rfl (by trivial) (by trivial)),(!BR),(!AO CZ (by trivial) rfl (!Aa (pv 0) (!Ab)))⟩) (by intro _;rfl)) (!Ab))) (by intro _;rfl)))))) (!Ag (!Gp)) (!Aw)) (!Ag (!Au (pv 1)))))),?_⟩
 try dsimp only[AZ,Cx.nox,Cx.wish]
 refine⟨_,rfl,rfl,_,rfl,Av (by decide +kernel) ?_⟩;refine⟨_,rfl,rfl,FS,SL,rfl,rfl,rfl,by decide +kernel,λp hp=>?_⟩;rw[Ub];have s1:=Ah hp (.lst ([FS].map V.str));have h1:(upd H p (.lst ([FS].map V.str))) p=some (.lst [V.str FS]):=Ac;generalize upd H p (.lst ([FS].map V.str))=H1 at s1 h1;refine⟨_,rfl,p,_,rfl,.inl (AR.of h1),_,_,rfl,rfl,_,rfl,Av (by decide) ?_⟩;refine⟨_,rfl,p,rfl,⟨_,AR.of h1⟩,?_⟩;refine comp_map (λ_=>.bl true) (Cv (AR.of h1)) (by decide) (λx H' R hx s' hR=>?_) λl H7 n7 s7 h7=>?_
 ·rw[ax.mp hx];exact⟨_,rfl,.str FS,rfl,(by show FS.length<=1000;decide +kernel),λH8 s8=>by rw[Vr];exact hR H8 s8⟩
 ·exact⟨l,[true],rfl,AR.of h7,_,rfl,Av rfl ⟨_,rfl,q p H7 (s1.trans s7) (s7.get h1)⟩⟩
def Fi (K:W.Frag):Sp:=λvs H Q _=>∃(d:Addr) (z:Str) (b:Bool) (t:Option Str),vs=[.ref d,.str z]/\H d=some (.dK (Eg t))/\((z=EM/\b=true)\/(z=FS/\b=false))/\Q (.bl b) H
theorem OX (T:Txt K mg C XC)(F:Fun K "is_folder" "is_folder" DJ f fd):FnOk P w K mg base EL 1 f fd ["tree","path"] (Fi K):=by
 exists Of
 ·obtain⟨d,z,b,t,rfl,_⟩:=h;rfl
 obtain⟨d,z,b,t,rfl,hd,hz,q⟩:=h;have hu:=ES hr;refine⟨_,(!Ag (!Au (!Wj (!Fg Bp (pv 1) (!Aq) (AC _)) (!KB (!Ob (!Od (!MV hu (pv 1) (pv 0)) (by first|exact Bl _ (by decide) (by decide)|rfl)) (!KB (!Od (!IR (!Bf hu (pv 0) (pv 1) (λ_ _=>rfl))) (by first|exact Bl _ (by decide) (by decide)|rfl)))))))),?_⟩
 try dsimp only[AZ,Cx.nox,Cx.wish]
 rcases hz with⟨rfl,rfl⟩|⟨rfl,rfl⟩
 ·exact⟨_,rfl,rfl,_,rfl,AX (au rfl) q⟩
 ·refine⟨_,rfl,rfl,_,rfl,Av (by decide +kernel) ?_⟩;have g:=Fj.k (k:=Sum.inr FS) hd;cases t with
  |none=>
   rw[Sa] at g;exact⟨_,rfl,_,rfl,d,_,rfl,g,_,rfl,Av rfl q⟩
  |some c=>
   rw[Oc] at g;exact⟨_,rfl,_,rfl,d,_,rfl,g,_,rfl,AX rfl ⟨_,rfl,_,rfl,d,_,rfl,g,q⟩⟩
def Gc (K:W.Frag)(XC:Nat->Addr):Sp:=λvs H Q E=>∃(d:Addr) (t:Option Str),vs=[.ref d,.str FS]/\H d=some (.dK (Eg t))/\(∀c,t=some c->Q (.str c) H)/\(t=none->∀dx,H dx=none->E (.ref (XC 5)) (some dx) (upd H dx (.xd [("path",.str FS)])))
theorem M7 (T:Txt K mg C XC)(F:Fun K "content_in" "content_in" CV f fd)(FY:HJ P w K mg base 1 "NoPath" (XC 5) "path" ["self","path"]):FnOk P w K mg base (Gk P w) 3 f fd ["tree","path"] (Gc K XC):=by
 refine F.okE Nn (λvs H Q E h=>?_) (λcdv A outer s H vs Q E hr h=>?_)
 ·obtain⟨d,t,rfl,_⟩:=h;rfl
 obtain⟨d,t,rfl,hd,q1,q2⟩:=h;have hu:=ES hr;refine⟨_,(!Ai (!AL (@PW.pt _ _ _ (!LO (!Et (!Ik hu (pv 1) (pv 0)) (by first|exact Bl _ (by decide) (by decide)|rfl)) (!IQ (!Et (!IR (!Bf hu (pv 0) (pv 1) (λ_ _=>rfl))) (by first|exact Bl _ (by decide) (by decide)|rfl))))) (!Ag (!Ca BS rfl FY (by trivial) rfl (!Aa (pv 1) (!Ab)))) (!Aw)) (!Ag (!Au (!Bf hu (pv 0) (pv 1) (λ_ _=>rfl))))),?_⟩
 try dsimp only[AZ,Cx.nox,Cx.wish]
 have g:=Fj.k (k:=Sum.inr FS) hd;cases t with
 |none=>
  rw[Sa] at g;exact⟨_,rfl,_,rfl,d,_,rfl,g,_,rfl,AX rfl (AX rfl ⟨_,rfl,_,rfl,q2 rfl⟩)⟩
 |some c=>
  rw[Oc] at g;exact⟨_,rfl,_,rfl,d,_,rfl,g,_,rfl,Av rfl ⟨_,rfl,_,rfl,d,_,rfl,g,_,rfl,Av rfl ⟨_,rfl,_,rfl,d,_,rfl,g,q1 c rfl⟩⟩⟩
def GJ (K:W.Frag):Sp:=λvs H Q _=>∃(d:Addr) (t:Option Str),vs=[.ref d,.str FS]/\H d=some (.dK (Eg t))/\∀H',AA H H'->Q .non H'
theorem OM (T:Txt K mg C XC)(F:Fun K "check_put" "check_put" DO f fd)(DM:Def P w K mg base 1 "is_folder" ["tree","path"] (Fi K))(IT:Def P w K mg base 3 "steps_in" ["path"] (Hv K))(DF:Def P w K mg base 1 "folder_of" ["path"] (Fh K)):FnOk P w K mg base EL 4 f fd ["tree","path"] (GJ K):=by
 exists N8
 ·obtain⟨d,t,rfl,_⟩:=h;rfl
 obtain⟨d,t,rfl,hd,q⟩:=h;refine⟨_,(!Ag (!AL (@PW.pt _ _ _ (!LO (!Ar Bp (!AM Cj (by rfl) T.b_len Eo (!Aa (!AO IT (by trivial) rfl (!Aa (pv 1) (!Ab))) (!Ab))) (!Ae) (AC _)) (!IQ (!Dd (!CI (!AO DM (by trivial) rfl (!Aa (pv 0) (!Aa (!AO DF (by trivial) rfl (!Aa (pv 1) (!Ab))) (!Ab)))) (by intro _;rfl)))))) (!Ag (!Gp)) (!Aw))),?_⟩
 try dsimp only[AZ,Cx.nox,Cx.wish]
 refine⟨_,rfl,rfl,λl H1 s1 h1=>?_⟩;refine⟨l,_,rfl,.inl (AR.of h1),rfl,_,rfl,Av rfl ?_⟩;refine⟨_,rfl,_,rfl,rfl,λH2 s2=>⟨d,EM,true,t,rfl,s2.get (s1.get hd),.inl ⟨rfl,rfl⟩,_,rfl,Av rfl (q H2 (s1.trans s2))⟩⟩
def FZ (K:W.Frag):Sp:=λvs H Q _=>∃(d l p:Addr) (t:Option Str) (c:Str),vs=[.ref d,.ref l]/\H d=some (.dK (Eg t))/\H l=some (.lst [.ref p])/\H p=some (.tup [.str FS,.str c])/\∀d' H',AA H H'->H d'=none->H' d'=some (.dK (Eg (some c)))->Q (.ref d') H'
theorem Na (T:Txt K mg C XC)(F:Fun K "with_paths" "with_paths" C1 f fd):FnOk P w K mg base EL 1 f fd ["tree","more"] (FZ K):=by
 exists IJ
 ·obtain⟨d,l,p,t,c,rfl,_⟩:=h;rfl
 obtain⟨d,l,p,t,c,rfl,hd,hl,hp,q⟩:=h;refine⟨_,(!Ai (@AE _ _ (2) _ _ _ _ IJ.nd rfl (by trivial) (!EF MI (by rfl) T.b_dict R0 (!Aa (pv 0) (!Ab))) (by rfl) (by trivial)) (!Ai (!A3 (!Lf fm PySem.F.slot_dict_update PySem.F.type_dict_update (Vx rfl) (pv 2) (!Aa (pv 1) (!Ab)))) (!Ag (!Au (pv 2))))),?_⟩
 try dsimp only[AZ,Cx.nox,Cx.wish]
 have tl:=Ph t;refine⟨_,rfl,d,_,rfl,hd,by omega,λd' nd'=>?_⟩;have s1:=Ah nd' (.dK (Eg t));refine⟨_,rfl,.inr (.inr (.inl ⟨rfl,.inl ⟨_,Ac⟩⟩)),_,rfl,d',l,[p],_,[((.inr FS:Key),V.str c)],rfl,rfl,Ac,AR.of (s1.get hl),rfl,(by show(Eg t).length+1<=1000;omega),(λi t' k v e1 e2=>?_),?_⟩
 ·cases i with
  |zero=>cases e1;cases e2;exact s1.get hp
  |succ i=>cases e1
 ·rw[U4];exact⟨_,rfl,q d' _ (Fv s1 nd' _) nd' Ac⟩
theorem Gh {H H2:Hp}{d:Addr}{o:Obj}{kvs:List (Key×V)}(h:H d=some (.dK kvs))(s:AA (upd H d (.frz o (.dK kvs))) H2):AA H (upd H2 d (.dK kvs)):=λb ob e=>by
 by_cases w:b=d
 ·rw[w] at e ⊢;rw[Ac,<-h];exact e
 ·rw[An w];exact s b ob (by rw[An w];exact e)
def E3 (K:W.Frag):Sp:=λvs H Q _=>∃(d:Addr) (t:Option Str),vs=[.ref d]/\H d=some (.dK (Eg t))/\(∀c,t=some c->c.length<=400)/\∀H',AA H H'->Q .non H'
theorem Lw (T:Txt K mg C XC)(F:Fun K "check_bounds" "check_bounds" Cd f fd)(DF:Def P w K mg base 1 "folder_of" ["path"] (Fh K)):FnOk P w K mg base EL 2 f fd ["tree"] (E3 K):=by
 exists G8
 ·obtain⟨d,t,rfl,_⟩:=h;rfl
 obtain⟨d,t,rfl,hd,hc,q⟩:=h;have hu:=ES hr;refine⟨_,(!Ai (@AE _ _ (1) _ _ _ _ G8.nd rfl (by trivial) (!JF (@Ed _ ["path"] _ _ _ _ _ _ _ _ _ _ rfl (!LB (pv 0)) (by decide +kernel) (λC s H fp=>⟨(@AS _ _ (0) _ (show(["path"]:List Str).Nodup by decide +kernel) rfl (by trivial) (by trivial)),(!BR),(!AO DF (by trivial) rfl (!Aa (pv 0) (!Ab)))⟩) (by intro _;rfl))) (by rfl) (by trivial)) (!Ai (!AL (@PW.pt _ _ _ (!LO (!Ar RG (!AM K1 (by rfl) T.b_len Eo (!Aa (pv 0) (!Ab))) (!Bm rfl T.c_MOST_TREE_ENTRIES) (AC _)) (!IQ (!Dd (!CI (!AM (Gq rfl) (by rfl) T.b_all KM (!Aa (@EH _ ["folder","folders"] [none,some 1] _ _ _ _ _ _ _ _ _ _ _ rfl (!B7 (pv 1)) (by rfl) rfl (by repeat (first|exact trivial|refine⟨rfl,?_⟩)) (by repeat (first|exact trivial|refine⟨λh=>(by first|exact⟨_,rfl⟩|cases h),?_⟩)) (λC s H fp=>⟨(@AS _ _ (0) _ (show(["folder","folders"]:List Str).Nodup by decide +kernel) rfl (by trivial) (by trivial)),(!BR),(!Fg JQ (@OA _ (K) _ _ _ _ _ _ _ _ _ _ _ rfl bO fj fi (N6 (K:=K) (by rfl)) (pv 1) (!Aa (pv 0) (!Ab)) (by rfl) (by rfl) (by rfl) (by rfl) (by rfl)) (!Bm rfl T.c_MOST_ENTRIES) (AC _))⟩) (by intro _;rfl)) (!Ab))) (by intro _;rfl)))))) (!Ag (!Gp)) (!Aw)) (!Ai (!AL (!Dd (!CI (!AM (Gq rfl) (by rfl) T.b_all KM (!Aa (!JF (@Ed _ ["path"] _ _ _ _ _ _ _ _ _ _ rfl (!LB (pv 0)) (by decide +kernel) (λC s H fp=>⟨(@AS _ _ (0) _ (show(["path"]:List Str).Nodup by decide +kernel) rfl (by trivial) (by trivial)),(!BR),(!Fg P5 (@OA _ (K) _ _ _ _ _ _ _ _ _ _ _ rfl cG PySem.F.slot_str_count PySem.F.type_str_count SF (pv 0) (!Aa (!Aq) (!Ab)) (by rfl) (by rfl) (by rfl) (by rfl) (by rfl)) (!Bm rfl T.c_MOST_TREE_DEEP) (AC _))⟩) (by intro _;rfl))) (!Ab))) (by intro _;rfl))) (!Ag (!Gp)) (!Aw)) (!Ag (!AL (!Dd (!CI (!AM (Gq rfl) (by rfl) T.b_all KM (!Aa (!JF (@Ed _ ["content"] _ _ _ _ _ _ _ _ _ _ rfl (!Vi (pv 0)) (by decide +kernel) (λC s H fp=>⟨(@AS _ _ (0) _ (show(["content"]:List Str).Nodup by decide +kernel) rfl (by trivial) (by trivial)),(!BR),(!Wj (!Od (!IR (pv 0)) (by first|exact Bl _ (by decide) (by decide)|rfl)) (!KB (!Fg JQ (!AM GV (by rfl) T.b_len Eo (!Aa (pv 0) (!Ab))) (!Bm rfl T.c_MOST_SIGNS) (AC _))))⟩) (by intro _;rfl))) (!Ab))) (by intro _;rfl))) (!Ag (!Gp)) (!Aw)))))),?_⟩
 try dsimp only[AZ,Cx.nox,Cx.wish]
 have nf:∀o u,H d≠some (.frz o u):=λo u z=>by rw[hd] at z;cases z
 have hl:(Eg t).length<=60:=by have:=Ph t;omega
 have key:∀kv∈Eg t,kV kv.1=V.str FS:=λkv h=>by
  cases t with
  |none=>cases h
  |some c=>rw[ax.mp h];rfl
 refine FT (λσ' H'=>∃l,σ'=[some (.ref d),some (.ref l)]/\AA H H'/\H' l=some (.lst ((Eg t).map λ_=>V.str EM))) (λN hN=>?_) ?_
 ·refine⟨_,rfl,d,_,rfl,hd,λo=>?_⟩;have hf:(upd H d (.frz o (.dK (Eg t)))) d=some (.frz o (.dK (Eg t))):=Ac;have th:∀H2,AA (upd H d (.frz o (.dK (Eg t)))) H2->AA H (upd H2 d (.dK (Eg t))):=λH2 s2=>Gh hd s2
  have fre:∀l,(upd H d (.frz o (.dK (Eg t)))) l=none->l≠d:=λl nl w=>by rw[w,hf] at nl;cases nl
  generalize upd H d (.frz o (.dK (Eg t)))=Hf at hf th fre;refine B2 (ps:=Eg t) (λ_=>true) (λ_=>V.str EM) (Iq hf) (by omega) (λr hr H' R s' hR=>hR) (λr hr _ H' R s' hR=>?_) λl H2 nl s2 hl2=>?_
  ·rw[key r hr];exact⟨_,rfl,rfl,λH3 s3=>hR H3 s3⟩
  ·rw[filter_tt] at hl2;refine⟨d,o,_,nf,s2.get hf,hN _ _ ⟨l,rfl,th H2 s2,?_⟩⟩;rw[An (fre l nl)];exact hl2
 rintro σ' H1 ⟨l,rfl,s1,hl1⟩
 have hd1:=s1.get hd;have tl:=Ph t;refine⟨_,rfl,d,_,rfl,hd1,_,_,rfl,rfl,_,rfl,Av (aG (by omega)) ?_⟩;refine⟨_,rfl,l,rfl,⟨_,AR.of hl1⟩,?_⟩;refine comp_map (λ_=>.bl true) (Cv (AR.of hl1)) (by rw[ae];omega) (λx H' R hx s' hR=>?_) λl7 H7 n7 s7 h7=>?_
 ·obtain⟨u,_,rfl⟩:=aa.mp hx;refine⟨_,rfl,.inl ⟨rfl,_,AR.of (s'.get hl1)⟩,_,rfl,l,_,_,rfl,rfl,AR.of (s'.get hl1),?_,rfl,_,_,rfl,rfl,?_⟩
  ·rw[cI];exact bu.mpr λ_ _=>rfl
  ·have:=List.countP_le_length (p:=λx=>KS x (V.str EM)) (l:=(Eg t).map λ_=>V.str EM);rw[ae] at this;have e:(V.bl (decide (((List.countP (λx=>KS x (V.str EM)) ((Eg t).map λ_=>V.str EM):Nat):Int)<=16)))=V.bl true:=by rw[au (by omega)]
   show R (V.bl (decide (((List.countP (λx=>KS x (V.str EM)) ((Eg t).map λ_=>V.str EM):Nat):Int)<=16))) H';rw[e];exact hR H' (AA.refl _)
 have all_t:∀{α:Type} (l:List α),(l.map λ_=>true).all id=true:=λl=>by rw[cI];exact bu.mpr λ_ _=>rfl
 rw[ao] at h7;have h7':H7 l7=some (.lst (((Eg t).map λ_=>true).map V.bl)):=by rw[h7,ao];rfl
 have e1:=all_t (Eg t);refine⟨l7,_,rfl,AR.of h7',_,rfl,Av (by rw[e1];rfl) ?_⟩;have s17:=s1.trans s7;have hd7:=s17.get hd;refine⟨_,rfl,d,_,rfl,hd7,λo=>?_⟩;have hf:(upd H7 d (.frz o (.dK (Eg t)))) d=some (.frz o (.dK (Eg t))):=Ac;have th:∀H2,AA (upd H7 d (.frz o (.dK (Eg t)))) H2->AA H7 (upd H2 d (.dK (Eg t))):=λH2 s2=>Gh hd7 s2
 have fre:∀l,(upd H7 d (.frz o (.dK (Eg t)))) l=none->l≠d:=λl nl w=>by rw[w,hf] at nl;cases nl
 generalize upd H7 d (.frz o (.dK (Eg t)))=Hf at hf th fre;refine B2 (ps:=Eg t) (λ_=>true) (λ_=>V.bl true) (Iq hf) (by omega) (λr hr H' R s' hR=>hR) (λr hr _ H' R s' hR=>?_) λl8 H8 n8 s8 h8=>?_
 ·rw[key r hr];refine⟨_,rfl,rfl,FS,SL,rfl,rfl,?_⟩;have e:PySem.Txt.count FS SL=0:=by decide +kernel
  rw[e];exact⟨_,_,rfl,rfl,hR H' (AA.refl _)⟩
 rw[filter_tt] at h8;have h8':H8 l8=some (.lst (((Eg t).map λ_=>true).map V.bl)):=by rw[h8,ao];rfl
 have s18:=s17.trans (th H8 s8);refine⟨d,o,_,nf,s8.get hf,l8,_,rfl,AR.of (by rw[An (fre l8 n8)];exact h8'),_,rfl,Av (by rw[e1];rfl) ?_⟩;have hd8:=s18.get hd;generalize upd H8 d (.dK (Eg t))=H8t at s18 hd8;refine⟨_,rfl,d,_,rfl,hd8,λo2=>?_⟩;have hf2:(upd H8t d (.frz o2 (.dK (Eg t)))) d=some (.frz o2 (.dK (Eg t))):=Ac;have th2:∀H2,AA (upd H8t d (.frz o2 (.dK (Eg t)))) H2->AA H8t (upd H2 d (.dK (Eg t))):=λH2 s2=>Gh hd8 s2
 have fre2:∀l,(upd H8t d (.frz o2 (.dK (Eg t)))) l=none->l≠d:=λl nl w=>by rw[w,hf2] at nl;cases nl
 generalize upd H8t d (.frz o2 (.dK (Eg t)))=Hg at hf2 th2 fre2;refine B2 (ps:=Eg t) (λ_=>true) (λ_=>V.bl true) (Ss hf2) (by omega) (λr hr H' R s' hR=>hR) (λr hr _ H' R s' hR=>?_) λl9 H9 n9 s9 h9=>?_
 ·cases t with
  |none=>cases hr
  |some c=>
   rw[ax.mp hr];have lc:=hc c rfl;refine⟨_,rfl,_,rfl,Av rfl ⟨_,rfl,c,rfl,small (by omega),_,_,rfl,rfl,?_⟩⟩;have e:V.bl (decide ((c.length:Int)<=400))=V.bl true:=by rw[au (by omega)]
   show R (V.bl (decide ((c.length:Int)<=400))) H';rw[e];exact hR H' (AA.refl _)
 rw[filter_tt] at h9;have h9':H9 l9=some (.lst (((Eg t).map λ_=>true).map V.bl)):=by rw[h9,ao];rfl
 refine⟨d,o2,_,nf,s9.get hf2,l9,_,rfl,AR.of (by rw[An (fre2 l9 n9)];exact h9'),_,rfl,Av (by rw[e1];rfl) ?_⟩;exact q _ (s18.trans (th2 H9 s9))
end
structure KH (x:Addr) (H H':Hp):Prop where
 at_:∃C dx fs,H x=some (.ins C dx fs)
 keep:∀b o,b≠x->(∀ps,o≠.tbl ps)->H b=some o->H' b=some o
 there:∀b,H' b=none->H b=none
theorem St.kh {x:Addr}{H H':Hp}(s:St H H')(at_:∃C dx fs,H x=some (.ins C dx fs)):KH x H H':=⟨at_,λb o _ n h=>s.keep b o n h,s.there⟩
theorem KH.trans {x:Addr}{H H1 H2:Hp}(a:KH x H H1)(b:KH x H1 H2):KH x H H2:=⟨a.at_,λc o e n h=>b.keep c o e n (a.keep c o e n h),λc h=>a.there c (b.there c h)⟩
theorem KH.upd {x:Addr}{H H1:Hp}(a:KH x H H1)(o:HO):KH x H (upd H1 x o):=by
 refine⟨a.at_,λc o' e n h=>by rw[An e];exact a.keep c o' e n h,λc h=>?_⟩
 by_cases z:c=x
 ·rw[z,Ac] at h;cases h
 ·rw[An z] at h;exact a.there c h
theorem KH.ne {x:Addr}{H H':Hp}(k:KH x H H'){b:Addr}{o:HO}(h:H b=some o)(n:∀C dx fs,o≠.ins C dx fs):b≠x:=λz=>by
 obtain⟨C,dx,fs,e⟩:=k.at_;rw[z,e] at h;exact n _ _ _ (aI h).symm
theorem KH.get {x:Addr}{H H':Hp}(k:KH x H H'){b:Addr}{o:HO}(h:H b=some o)(n:∀C dx fs,o≠.ins C dx fs)(n2:∀ps,o≠.tbl ps):H' b=some o:=k.keep b o (k.ne h n) n2 h
theorem KH.tup {x:Addr}{H H':Hp}(k:KH x H H'){b:Addr}{xs:List V}(h:H b=some (.tup xs)):H' b=some (.tup xs):=k.get h (λ_ _ _ z=>by cases z) λ_ z=>by cases z
theorem KH.lst {x:Addr}{H H':Hp}(k:KH x H H'){b:Addr}{xs:List V}(h:H b=some (.lst xs)):H' b=some (.lst xs):=k.get h (λ_ _ _ z=>by cases z) λ_ z=>by cases z
theorem KH.dk {x:Addr}{H H':Hp}(k:KH x H H'){b:Addr}{xs:List (Key×V)}(h:H b=some (.dK xs)):H' b=some (.dK xs):=k.get h (λ_ _ _ z=>by cases z) λ_ z=>by cases z
structure Kx (d:Addr) (H H':Hp):Prop where
 keep:∀b o,b≠d->H b=some o->H' b=some o
 there:∀b,H' b=none->H b=none
theorem NX {d:Addr}{H H':Hp}(s:AA H H'):Kx d H H':=⟨λb o _ h=>s b o h,λ_ h=>s.free h⟩
theorem Kx.trans {d:Addr}{H H1 H2:Hp}(a:Kx d H H1)(b:Kx d H1 H2):Kx d H H2:=⟨λc o n h=>b.keep c o n (a.keep c o n h),λc h=>a.there c (b.there c h)⟩
theorem Kx.upd {d:Addr}{H H1:Hp}{o0:HO}(a:Kx d H H1)(h:H d=some o0)(o:HO):Kx d H (upd H1 d o):=by
 refine⟨λb o' n h=>by rw[An n];exact a.keep b o' n h,λb hb=>?_⟩
 by_cases z:b=d
 ·rw[z,Ac] at hb;cases hb
 ·rw[An z] at hb;exact a.there b hb
structure Hs (C:Addr) (H:Hp) (x:Addr) (ag:Int) (qs:List Kq) (ps:List Pe):Prop where
 at_:∃dx h k n,H x=some (.ins C dx [("own_head",.ref h)])/\HeadAt H h ag k qs n ps
theorem Hs.ins {C:Addr}{H:Hp}{x:Addr}{ag:Int}{qs:List Kq}{ps:List Pe}(h:Hs C H x ag qs ps):∃C dx fs,H x=some (.ins C dx fs):=by
 obtain⟨dx,h,k,n,e,_⟩:=h.at_;exact⟨_,_,_,e⟩
theorem Hs.st {C:Addr}{H H':Hp}{x:Addr}{ag:Int}{qs:List Kq}{ps:List Pe}(h:Hs C H x ag qs ps)(s:St H H'):Hs C H' x ag qs ps:=by
 obtain⟨dx,h,k,n,e,hd⟩:=h.at_;exact⟨dx,h,k,n,s.keep _ _ (λ_ z=>by cases z) e,hd.st s⟩
theorem Hs.set {C:Addr}{H:Hp}{x dx h k n:Addr}{ag:Int}{qs:List Kq}{ps:List Pe}{fs:List (Str×V)}(hx:H x=some (.ins C dx fs))(hd:HeadAt H h ag k qs n ps):Hs C (upd H x (.ins C dx [("own_head",.ref h)])) x ag qs ps:=
 ⟨dx,h,k,n,Ac,hd.sd ⟨λb xs e=>by rw[An (C4 e hx (by intro z;cases z))];exact e,λb xs e=>by rw[An (C4 e hx (by intro z;cases z))];exact e⟩⟩
theorem UR {PT PU x:Addr}{H:Hp}{C dx:Addr}{fs:List (Str×V)}(t:Tb PT PU H)(hx:H x=some (.ins C dx fs))(fs':List (Str×V)):Tb PT PU (upd H x (.ins C dx fs')):=by
 have go:∀{U:Addr} {q:Str} {lp:Pos},CT U q lp H->CT U q lp (upd H x (.ins C dx fs')):=λ{U q lp} t=>by
  rcases t with h|⟨c,h,h2⟩
  ·exact .inl (by rw[An (C4 h hx (by intro z;cases z))];exact h)
  ·exact .inr ⟨c,by rw[An (C4 h hx (by intro z;cases z))];exact h,by rw[An (C4 h2 hx (by intro z;cases z))];exact h2⟩
 exact⟨t.ne,go t.a,go t.b⟩
section
variable {P:Program}{w:World}{K:W.Frag}{mg:Str->Option Value}{base:Heap}{f C:Addr}{XC:Nat->Addr}{fd:FuncData}{PT PU:Addr}
def Dq (K:W.Frag)(C:Addr):Sp:=λvs H Q _=>∃(x dx:Addr),vs=[.ref x]/\H x=some (.ins C dx [])/\∀H',Kx x H H'->Hs C H' x 0 [] []->Q .non H'
theorem Jl (T:Txt K mg C XC)(F:Fun K "__init__" "PlainHouse.__init__" BF f fd):FnOk P w K mg base EL 1 f fd ["self"] (Dq K C):=by
 exists Ju
 ·obtain⟨x,dx,rfl,_⟩:=h;rfl
 obtain⟨x,dx,rfl,hx,q⟩:=h;refine⟨_,(!Ag (!IW (pv 0) (!AF (!Aa (!Ae) (!Aa (!AF (!Ab)) (!Aa (!AF (!Ab)) (!Ab))))))),?_⟩
 try dsimp only[AZ,Cx.nox,Cx.wish]
 refine⟨SN,λp1 n1=>⟨SN,λp2 n2=>⟨Hq,λp3 n3=>?_⟩⟩⟩;have s1:=Ah n1 (.tup []);have h1:(upd H p1 (.tup [])) p1=some (.tup []):=Ac;generalize upd H p1 (.tup [])=H1 at s1 h1 n2 n3;have s2:=Ah n2 (.tup []);have h2:(upd H1 p2 (.tup [])) p2=some (.tup []):=Ac;generalize upd H1 p2 (.tup [])=H2 at s2 h2 n3;have s3:=Ah n3 (.tup [V.int 0,V.ref p1,V.ref p2]);have h3:(upd H2 p3 (.tup [V.int 0,V.ref p1,V.ref p2])) p3=some (.tup [V.int 0,V.ref p1,V.ref p2]):=Ac;generalize upd H2 p3 (.tup [V.int 0,V.ref p1,V.ref p2])=H3 at s3 h3;have S:=(s1.trans s2).trans s3;refine⟨_,rfl,x,C,dx,[],rfl,S.get hx,T.cl,T.n_own_head,(by show 0<1000;decide),?_⟩;refine q _ ((NX S:Kx x H H3).upd hx _) (Hs.set (h:=p3) (k:=p1) (n:=p2) (S.get hx) ⟨h3,s3.get (s2.get h1),(λ_ h=>nomatch h),s3.get h2,λ_ h=>nomatch h⟩)
def Bj (K:W.Frag)(C PT PU:Addr):Sp:=λvs H Q _=>∃(x sa t:Addr) (nm kp og:Str) (tr:Option Str) (ag:Int) (qs:List Kq) (ps:List Pe),vs=[.ref x,.ref sa,.ref t]/\Hs C H x ag qs ps/\H sa=some (.tup [.str nm,.int 1,.str kp,.str og])/\H t=some (.dK (Eg tr))/\(∀c,tr=some c->c.length<=400)/\Ri BH ps/\ps.length<=60/\Tb PT PU H/\
 ∀a H',KH x H H'->Tb PT PU H'->Hs C H' x (ag+1) qs (putL BH ⟨a,t,.st nm kp og tr⟩ ps)->Q .non H'
theorem G0 (T:Txt K mg C XC)(F:Fun K "put_tree" "PlainHouse.put_tree" Bb f fd)(FF:Def P w K mg base 2 "check_bounds" ["tree"] (E3 K))(AU:Def P w K mg base 1 "one_older" ["head"] (B5 K))(A2:Def P w K mg base 2 "with_named" ["head","named"] (Cu K PT PU)):FnOk P w K mg base EL 3 f fd ["self","stem","tree"] (Bj K C PT PU):=by
 exists GD
 ·obtain⟨x,sa,t,nm,kp,og,tr,ag,qs,ps,rfl,_⟩:=h;rfl
 obtain⟨x,sa,t,nm,kp,og,tr,ag,qs,ps,rfl,hs,hsa,ht,hc,ri,few,tb,q⟩:=h;refine⟨_,(!Ai (!A3 (!AO FF (by trivial) rfl (!Aa (pv 2) (!Ab)))) (!Ag (!IW (pv 0) (!AO AU (by trivial) rfl (!Aa (!AO A2 (by trivial) rfl (!Aa (!Ez (pv 0)) (!Aa (!AV Mb (pv 1) (!AF (!Aa (pv 2) (!Ab)))) (!Ab)))) (!Ab)))))),?_⟩
 try dsimp only[AZ,Cx.nox,Cx.wish]
 refine⟨_,rfl,t,tr,rfl,ht,hc,λH1 s1=>?_⟩;obtain⟨dx,h,k,n,hx,hd⟩:=(hs.st (AD s1)).at_;dsimp only;refine⟨_,rfl,x,C,dx,_,_,rfl,hx,T.cl,T.n_own_head,rfl,_,rfl,_,rfl,D0,λp2 n2=>?_⟩;have s2:=Ah n2 (.tup [V.ref t]);have h2:(upd H1 p2 (.tup [V.ref t])) p2=some (.tup [V.ref t]):=Ac;generalize upd H1 p2 (.tup [V.ref t])=H2 at s2 h2;have s12:=s1.trans s2;refine⟨sa,p2,_,_,rfl,rfl,AJ.of (s12.get hsa),AJ.of h2,TM,(λz=>by cases z),(λ_ z=>by cases z),λ_ _ p3 n3=>?_⟩;have s3:=Ah n3 (.tup ([V.str nm,V.int 1,V.str kp,V.str og]++[V.ref t]));have h3:(upd H2 p3 (.tup ([V.str nm,V.int 1,V.str kp,V.str og]++[V.ref t]))) p3=some (.tup ((En.st nm kp og tr).items t)):=Ac;generalize upd H2 p3 (.tup ([V.str nm,V.int 1,V.str kp,V.str og]++[V.ref t]))=H3 at s3 h3;have s13:=s12.trans s3;refine⟨h,⟨p3,t,.st nm kp og tr⟩,ag,k,n,qs,ps,rfl,hd.st (AD (s2.trans s3)),⟨s13.get ht,h3⟩,ri,few,tb.same s13,λh4 n4 H4 S4 T4 nh4 hd4=>?_⟩;refine⟨h4,ag,k,n4,qs,_,rfl,hd4,λh5 H5 s5 hd5=>?_⟩;have S15:=(AD (s2.trans s3)).trans (S4.trans (AD s5));have T5:=T4.same s5;have hx5:=S15.keep _ _ (λ_ z=>by cases z) hx;refine⟨_,rfl,x,C,dx,_,rfl,hx5,T.cl,T.n_own_head,(by show 1<1000;decide),?_⟩;exact q p3 _ (((((AD s1).trans S15).kh hs.ins)).upd _) (UR T5 hx5 _) (Hs.set hx5 hd5)
end
structure HI (ag:Int) (qs:List Kq) (ps:List Pe):Prop where
 rp:Ri BH ps
 rk:Ri EO qs
 k8:qs.length<=8
 wl:Wl ag (ps.map (·.e))
theorem HI.few {ag:Int}{qs:List Kq}{ps:List Pe}(h:HI ag qs ps):ps.length<=24:=by
 have:=h.wl.few;rw[ae] at this;exact this
theorem HI.tn {ag:Int}{qs:List Kq}{ps:List Pe}(h:HI ag qs ps):Tn ps:=λsm=>by
 have key:∀{l:List Pe},(∀p∈l,p∈ps)->(l.map BH).Nodup->((l.filter λp=>p.e.isSl sm).map λp=>p.e.turn).Nodup:=λ{l}=>by
  induction l with
  |nil=>intro _ _;exact bW
  |cons p l ih=>
   intro hin nd;rw[aD,bo] at nd;have ih:=ih (λq hq=>hin q (aK _ hq)) nd.2;rw[bC]
   split
   ·next c=>
    rw[aD,bo];refine⟨λz=>?_,ih⟩;obtain⟨q,hq,e⟩:=aa.mp z;obtain⟨h1,h2⟩:=av.mp hq;obtain⟨pa,pt,pe⟩:=p;obtain⟨qa,qt,qe⟩:=q;cases pe with
    |st=>cases c
    |sl nm s n t=>
     cases qe with
     |st=>cases h2
     |sl nm' s' n' t'=>
      have e:n'=n:=e;subst e;have:=h.wl.tn nm s n' t nm' s' t' (aa.mpr ⟨_,hin _ aM,rfl⟩) (aa.mpr ⟨_,hin _ (aK _ h1),rfl⟩);exact nd.1 (aa.mpr ⟨_,h1,this.symm⟩)
   ·exact ih
 exact key (λ_ h=>h) h.rp.nd
theorem Hu (ps:List Pe):(ps.map (·.e)).map En.nm=ps.map BH:=by rw[ao];rfl
theorem O6 {p:Pe}{ps:List Pe}(ri:Ri BH ps)(h:p.e.nm∉ps.map BH):((putL BH p ps).map (·.e)).Perm (ps.map (·.e)++[p.e]):=by
 refine((Gv ri).map _).trans ?_;rw[aS,bQ.mpr λq hq=>?_]
 ·exact .refl _
 ·rw[aG λe=>h (aa.mpr ⟨q,hq,e⟩)];rfl
theorem TB {ps:List Pe}{a t:Addr}{s k o:Str}{t0 t1:Option Str}(ri:Ri BH ps)(m:En.st s k o t0∈ps.map (·.e)):(putL BH ⟨a,t,.st s k o t1⟩ ps).map (·.e)=(ps.map (·.e)).map (wr s t1):=by
 obtain⟨q,hq,e⟩:=aa.mp m;rw[RQ ri ⟨q,hq,by show q.e.nm=s;rw[e];rfl⟩];unfold P3;refine aB λx hx=>?_
 have nd:((ps.map (·.e)).map En.nm).Nodup:=by rw[Hu];exact ri.nd
 cases x with
 |st nm k' o' t'=>
  show(if nm=s then _ else _)=if nm=s then En.st nm k' o' t1 else _
  by_cases c:nm=s
  ·rw[aw c,aw c];subst c;obtain⟨rfl,rfl,_⟩:=GE nd hx m;rfl
  ·rw[aj c,aj c]
 |sl nm s' n t'=>
  show(if nm=s then _ else _)=En.sl nm s' n t';exact aj λc:nm=s=>NL nd ⟨_,_,_,m⟩ ⟨s',n,t',by rw[<-c];exact hx⟩
theorem LG {nm:Str}{ps:List Pe}(ri:Ri BH ps):(fst nm ps=none->¬Bd nm (ps.map (·.e))):=λh ⟨k,o,t,z⟩=>by
 obtain⟨p,hp,e⟩:=aa.mp z;rw[QT ri.nd hp e] at h;cases h
theorem VW {nm:Str}{ps:List Pe}(ri:Ri BH ps):(U7 nm ps=none->¬Cg nm (ps.map (·.e))):=λh ⟨k,o,t,z⟩=>by
 obtain⟨p,hp,e⟩:=aa.mp z;rw[UE ri.nd hp e] at h;cases h
theorem LK {nm:Str}{ps:List Pe}{p:Pe}(h:fst nm ps=some p):∃k o,En.st nm k o p.e.tr∈ps.map (·.e)/\p∈ps/\p.e=.st nm k o p.e.tr:=by
 obtain⟨hp,k,o,t,e⟩:=D7 h;have e2:p.e=.st nm k o p.e.tr:=by rw[e];rfl
 exact⟨k,o,e2▸aa.mpr ⟨p,hp,rfl⟩,hp,e2⟩
theorem Wz {nm:Str}{ps:List Pe}{p:Pe}(h:U7 nm ps=some p):∃s n,En.sl nm s n p.e.tr∈ps.map (·.e)/\p∈ps/\p.e=.sl nm s n p.e.tr:=by
 obtain⟨hp,k,o,t,e⟩:=TQ h;have e2:p.e=.sl nm k o p.e.tr:=by rw[e];rfl
 exact⟨k,o,e2▸aa.mpr ⟨p,hp,rfl⟩,hp,e2⟩
def VQ (d:De)(ks ks':List Str):Prop:=match d with
 | .keeper nm _=>∀z,z∈ks'↔z=nm\/z∈ks
 |_=>ks'=ks
def IE (C PT PU:Addr)(XC:Nat->Addr)(x:Addr)(d:De)(H:Hp)(Q:V->Hp->Prop)(E:Value->Option Addr->Hp->Prop):Prop:=∃(ag:Int) (qs:List Kq) (ps:List Pe),Hs C H x ag qs ps/\HI ag qs ps/\d.Ok/\Tb PT PU H/\
 (∀r,Ref (qs.map EO) (ps.map (·.e)) d (some r)->∀H',St H H'->Tb PT PU H'->Ex XC E H' r)/\
 (Ref (qs.map EO) (ps.map (·.e)) d none->∀qs' ps' H',KH x H H'->Tb PT PU H'->Hs C H' x (ag+1) qs' ps'->HI (ag+1) qs' ps'->Step (ag+1) (ps.map (·.e)) (ps'.map (·.e)) d->VQ d (qs.map EO) (qs'.map EO)->(∀q∈ps',(∃p∈ps,q.t=p.t)\/H q.t=none)->Q .non H')
theorem G6 {C PT PU x:Addr} {d:De} {H:Hp} {Q:V->Hp->Prop} {ag:Int} {qs:List Kq} {ps:List Pe} (hi:HI ag qs ps) (ok:d.Ok) (ref:Ref (qs.map EO) (ps.map (·.e)) d none) (nk:∀nm b,d≠.keeper nm b)
  (q:Ref (qs.map EO) (ps.map (·.e)) d none->∀qs' ps' H',KH x H H'->Tb PT PU H'->Hs C H' x (ag+1) qs' ps'->HI (ag+1) qs' ps'->Step (ag+1) (ps.map (·.e)) (ps'.map (·.e)) d->VQ d (qs.map EO) (qs'.map EO)->(∀q∈ps',(∃p∈ps,q.t=p.t)\/H q.t=none)->Q .non H')
  {ps':List Pe} {H':Hp} (k:KH x H H') (t:Tb PT PU H') (h:Hs C H' x (ag+1) qs ps') (ri:Ri BH ps') (st:Step (ag+1) (ps.map (·.e)) (ps'.map (·.e)) d) (tr:∀q∈ps',(∃p∈ps,q.t=p.t)\/H q.t=none):Q .non H':=by
 refine q ref qs ps' H' k t h ⟨ri,hi.rk,hi.k8,hi.wl.step ok ref rfl st⟩ st ?_ tr;cases d with
 |keeper nm b=>exact absurd rfl (nk nm b)
 |_=>rfl
theorem Gj {H:Hp}{ps:List Pe}{p:Pe}(ri:Ri BH ps)(h:(∃q∈ps,p.t=q.t)\/H p.t=none):∀q∈putL BH p ps,(∃p∈ps,q.t=p.t)\/H q.t=none:=λq hq=>by
 rcases(CF ri).mp hq with rfl|⟨hq,_⟩
 ·exact h
 ·exact .inl ⟨q,hq,rfl⟩
section
variable {P:Program}{w:World}{K:W.Frag}{mg:Str->Option Value}{base:Heap}{f C:Addr}{XC:Nat->Addr}{fd:FuncData}{PT PU:Addr}
theorem Hs.kh {H H':Hp}{x:Addr}{ag:Int}{qs:List Kq}{ps:List Pe}(h:Hs C H x ag qs ps)(s:St H H'):KH x H H':=s.kh h.ins
def CK (K:W.Frag)(C PT PU:Addr):Sp:=λvs H Q _=>∃(x t:Addr) (sm kp og:Str) (t0 tr:Option Str) (p:Pe) (ag:Int) (qs:List Kq) (ps:List Pe),vs=[.ref x,.str sm,.ref t]/\Hs C H x ag qs ps/\fst sm ps=some p/\p.e=.st sm kp og t0/\H t=some (.dK (Eg tr))/\(∀c,tr=some c->c.length<=400)/\Ri BH ps/\ps.length<=60/\Tb PT PU H/\
 ∀a H',KH x H H'->Tb PT PU H'->Hs C H' x (ag+1) qs (putL BH ⟨a,t,.st sm kp og tr⟩ ps)->Q .non H'
theorem HD (T:Txt K mg C XC)(F:Fun K "change" "PlainHouse.change" Bo f fd)(AN:QM P w K mg base 3 C "put_tree" ["self","stem","tree"] (Bj K C PT PU))(AI:BW P w K mg base 4 "stem_called" ["head","name"] (Bw K XC)):FnOk P w K mg base EL 5 f fd ["self","stem","tree"] (CK K C PT PU):=by
 exists HX
 ·obtain⟨x,t,sm,kp,og,t0,tr,p,ag,qs,ps,rfl,_⟩:=h;rfl
 obtain⟨x,t,sm,kp,og,t0,tr,p,ag,qs,ps,rfl,hs,hf,ep,ht,hc,ri,few,tb,q⟩:=h;refine⟨_,(!Ag (!A3 (!OO (pv 0) T.cl AN (by trivial) (!Aa (!DZ Ru (!Bq AI (by trivial) rfl O2 (!Aa (!Ez (pv 0)) (!Aa (pv 1) (!Ab)))) (!FX) (!EI (!Ae))) (!Aa (pv 2) (!Ab)))))),?_⟩
 try dsimp only[AZ,Cx.nox,Cx.wish]
 obtain⟨dx,h,k,n,hx,hd⟩:=hs.at_;have y:=(hd.en p (D7 hf).1).2;rw[ep] at y;refine⟨_,rfl,x,dx,_,rfl,hx,rfl,_,rfl,x,C,dx,_,_,rfl,hx,T.cl,T.n_own_head,rfl,_,rfl,h,sm,ag,k,n,qs,ps,rfl,hd,λp' hp'=>?_,λz=>by rw[hf] at z;cases z⟩;rw[hf] at hp';cases hp';refine⟨_,rfl,p.a,_,rfl,AJ.of y,(λz=>absurd z.2 (show ¬(HT.Ea 5 5 (some 4)=5) by decide)),λp1 n1=>?_⟩;rw[M3 (by decide)];have s1:=Ah n1 (.tup [V.str sm,V.int 1,V.str kp,V.str og]);have h1:(upd H p1 (.tup [V.str sm,V.int 1,V.str kp,V.str og])) p1=some (.tup [V.str sm,V.int 1,V.str kp,V.str og]):=Ac;refine⟨_,rfl,x,p1,t,sm,kp,og,tr,ag,qs,ps,rfl,hs.st (AD s1),h1,s1.get ht,hc,ri,few,tb.same s1,λa H' k' t' h'=>?_⟩;exact q a H' ((hs.kh (AD s1)).trans k') t' h'
def BV (K:W.Frag)(C:Addr)(XC:Nat->Addr):Sp:=λvs H Q E=>∃(x:Addr) (nm:Str) (ag:Int) (qs:List Kq) (ps:List Pe),vs=[.ref x,.str nm]/\Hs C H x ag qs ps/\(∀p,Ii nm ps=some p->MW H p->Q (.ref p.t) H)/\(Ii nm ps=none->Ex XC E H (.noName nm))
theorem Hj (T:Txt K mg C XC)(F:Fun K "tree_of" "PlainHouse.tree_of" Bg f fd)(BG:BW P w K mg base 3 "named_so" ["head","name"] (DU K XC)):FnOk P w K mg base (Gk P w) 4 f fd ["self","name"] (BV K C XC):=by
 refine F.okE Hl (λvs H Q E h=>?_) (λcdv A outer s H vs Q E hr h=>?_)
 ·obtain⟨x,nm,ag,qs,ps,rfl,_⟩:=h;rfl
 obtain⟨x,nm,ag,qs,ps,rfl,hs,q1,q2⟩:=h;refine⟨_,(!Ag (!Au (!Aj Ak (!Bq BG (by trivial) rfl AH (!Aa (!Ez (pv 0)) (!Aa (pv 1) (!Ab)))) (!Ae) (λ_ _=>rfl)))),?_⟩
 try dsimp only[AZ,Cx.nox,Cx.wish]
 obtain⟨dx,h,k,n,hx,hd⟩:=hs.at_;refine⟨_,rfl,x,C,dx,_,_,rfl,hx,T.cl,T.n_own_head,rfl,_,rfl,h,nm,ag,k,n,qs,ps,rfl,hd,λp hp=>?_,q2⟩;have y:=hd.en p (CH hp).1;have y2:=y.2;cases ee:p.e with
 |st nm' kp og t=>
  rw[ee] at y2;exact⟨p.a,_,_,_,rfl,rfl,AJ.of y2,Af (j:=4) rfl,q1 p hp y⟩
 |sl nm' kp og t=>
  rw[ee] at y2;exact⟨p.a,_,_,_,rfl,rfl,AJ.of y2,Af (j:=4) rfl,q1 p hp y⟩
def BQ (K:W.Frag)(C:Addr)(XC:Nat->Addr):Sp:=λvs H Q E=>∃(x:Addr) (nm:Str) (ag:Int) (qs:List Kq) (ps:List Pe),vs=[.ref x,.str nm]/\Hs C H x ag qs ps/\(∀p,fst nm ps=some p->MW H p->Q (.ref p.t) H)/\(fst nm ps=none->Ex XC E H (.noName nm))
theorem FE (T:Txt K mg C XC)(F:Fun K "tree_of_stem" "PlainHouse.tree_of_stem" AY f fd)(AI:BW P w K mg base 4 "stem_called" ["head","name"] (Bw K XC)):FnOk P w K mg base (Gk P w) 5 f fd ["self","name"] (BQ K C XC):=by
 refine F.okE Fz (λvs H Q E h=>?_) (λcdv A outer s H vs Q E hr h=>?_)
 ·obtain⟨x,nm,ag,qs,ps,rfl,_⟩:=h;rfl
 obtain⟨x,nm,ag,qs,ps,rfl,hs,q1,q2⟩:=h;refine⟨_,(!Ag (!Au (!Aj Ak (!Bq AI (by trivial) rfl AH (!Aa (!Ez (pv 0)) (!Aa (pv 1) (!Ab)))) (!Ae) (λ_ _=>rfl)))),?_⟩
 try dsimp only[AZ,Cx.nox,Cx.wish]
 obtain⟨dx,h,k,n,hx,hd⟩:=hs.at_;refine⟨_,rfl,x,C,dx,_,_,rfl,hx,T.cl,T.n_own_head,rfl,_,rfl,h,nm,ag,k,n,qs,ps,rfl,hd,λp hp=>?_,q2⟩;have y:=hd.en p (D7 hp).1;have y2:=y.2;obtain⟨_,kp,og,t,ee⟩:=D7 hp;rw[ee] at y2;exact⟨p.a,_,_,_,rfl,rfl,AJ.of y2,Af (j:=4) rfl,q1 p hp y⟩
def CB (K:W.Frag)(C:Addr)(XC:Nat->Addr)(PT PU:Addr):Sp:=λvs H Q E=>∃(x t:Addr) (nm kp:Str),vs=[.ref x,.str nm,.str kp,.ref t]/\H t=some (.dK [])/\nm.length<=1000/\IE C PT PU XC x (.stem nm kp) H Q E
theorem Hn (T:Txt K mg C XC)(F:Fun K "take_in" "PlainHouse.take_in" Bh f fd)(BP:BW P w K mg base 4 "check_new_stem" ["head","name","keeper"] (CC K XC))(AN:QM P w K mg base 3 C "put_tree" ["self","stem","tree"] (Bj K C PT PU)):FnOk P w K mg base (Gk P w) 5 f fd ["self","name","keeper","tree"] (CB K C XC PT PU):=by
 refine F.okE Hm (λvs H Q E h=>?_) (λcdv A outer s H vs Q E hr h=>?_)
 ·obtain⟨x,t,nm,kp,rfl,_⟩:=h;rfl
 obtain⟨x,t,nm,kp,rfl,ht,ln,ag,qs,ps,hs,hi,ok,tb,q1,q2⟩:=h;refine⟨_,(!Ai (!A3 (!Bq BP (by trivial) rfl AH (!Aa (!Ez (pv 0)) (!Aa (pv 1) (!Aa (pv 2) (!Ab)))))) (!Ag (!A3 (!OO (pv 0) T.cl AN (by trivial) (!Aa (!AF (!Aa (pv 1) (!Aa (!Bm rfl T.c_STEM) (!Aa (pv 2) (!Aa (!Aq) (!Ab)))))) (!Aa (!EF MI (by rfl) T.b_dict R0 (!Aa (pv 3) (!Ab))) (!Ab))))))),?_⟩
 try dsimp only[AZ,Cx.nox,Cx.wish]
 obtain⟨dx,h,k,n,hx,hd⟩:=hs.at_;refine⟨_,rfl,x,C,dx,_,_,rfl,hx,T.cl,T.n_own_head,rfl,_,rfl,_,rfl,h,nm,kp,ag,k,n,qs,ps,rfl,hd,ln,λH1 s1=>?_⟩;have rf:Ref (qs.map EO) (ps.map (·.e)) (.stem nm kp) (DC nm kp (qs.map EO) (ps.map BH)):=by
  have:=Ref.stem (ks:=qs.map EO) (es:=ps.map (·.e)) nm kp;rw[Hu] at this;exact this
 cases er:DC nm kp (qs.map EO) (ps.map BH) with
 |some r=>
  rw[er] at rf;exact q1 r rf H1 (AD s1) (tb.same s1)
 |none=>
  rw[er] at rf;refine⟨_,rfl,x,dx,_,rfl,s1.get hx,rfl,_,rfl,_,rfl,OR,λp1 n1=>?_⟩;have s2:=Ah n1 (.tup [V.str nm,V.int 1,V.str kp,V.str EM]);have h2:(upd H1 p1 (.tup [V.str nm,V.int 1,V.str kp,V.str EM])) p1=some (.tup [V.str nm,V.int 1,V.str kp,V.str EM]):=Ac;generalize upd H1 p1 (.tup [V.str nm,V.int 1,V.str kp,V.str EM])=H2 at s2 h2;have s12:=s1.trans s2;refine⟨_,rfl,t,_,rfl,s12.get ht,by decide,λp3 n3=>?_⟩;have s3:=Ah n3 (.dK []);have h3:(upd H2 p3 (.dK [])) p3=some (.dK (Eg none)):=Ac;generalize upd H2 p3 (.dK [])=H3 at s3 h3;have s13:=s12.trans s3;have nH:H p3=none:=by
   cases z:H p3 with
   |none=>rfl
   |some o=>rw[s12.get z] at n3;cases n3
  refine⟨x,p1,p3,nm,kp,EM,none,ag,qs,ps,rfl,hs.st (AD s13),s3.get h2,h3,(λc z=>by cases z),hi.rp,by have:=hi.few;omega,tb.same s13,λa H' k' t' h'=>?_⟩;refine G6 hi ok rf (λ_ _ z=>by cases z) q2 ((hs.kh (AD s13)).trans k') t' h' (DH hi.rp) ?_ (Gj hi.rp (.inr nH));exact .stem nm kp (O6 (p:=⟨a,p3,.st nm kp EM none⟩) hi.rp (FA (Gs er).1).2)
theorem HH {x dx h h' k' n':Addr}{H H':Hp}{ag:Int}{qs:List Kq}{ps:List Pe}(hx:H x=some (.ins C dx [("own_head",.ref h)]))(S:St H H')(tb:Tb PT PU H')(hd:HeadAt H' h' ag k' qs n' ps) :
  KH x H (upd H' x (.ins C dx [("own_head",.ref h')]))/\Hs C (upd H' x (.ins C dx [("own_head",.ref h')])) x ag qs ps/\Tb PT PU (upd H' x (.ins C dx [("own_head",.ref h')])):=by
 have hx':=S.keep _ _ (λ_ z=>by cases z) hx;exact⟨(S.kh ⟨_,_,_,hx⟩).upd _,Hs.set hx' hd,UR tb hx' _⟩
theorem Sj {H:Hp}{ps ps':List Pe}(h:∀q∈ps',∃r∈ps,q.t=r.t):∀q∈ps',(∃p∈ps,q.t=p.t)\/H q.t=none:=λq hq=>.inl (h q hq)
def Dx (K:W.Frag)(C:Addr)(XC:Nat->Addr)(PT PU:Addr):Sp:=λvs H Q E=>∃(x:Addr) (nm kp:Str),vs=[.ref x,.str nm,.str kp]/\nm.length<=1000/\IE C PT PU XC x (.stem nm kp) H Q E
theorem IL (T:Txt K mg C XC)(F:Fun K "stem" "PlainHouse.stem" BE f fd)(CG:B4 P w K mg base 5 C "take_in" ["self","name","keeper","tree"] (CB K C XC PT PU)):FnOk P w K mg base (Gk P w) 6 f fd ["self","name","keeper"] (Dx K C XC PT PU):=by
 refine F.okE Jb (λvs H Q E h=>?_) (λcdv A outer s H vs Q E hr h=>?_)
 ·obtain⟨x,nm,kp,rfl,_⟩:=h;rfl
 obtain⟨x,nm,kp,rfl,ln,ag,qs,ps,hs,hi,ok,tb,q1,q2⟩:=h;refine⟨_,(!Ag (!A3 (!Dm (pv 0) T.cl CG (by trivial) AH (!Aa (pv 1) (!Aa (pv 2) (!Aa (!L3) (!Ab))))))),?_⟩
 try dsimp only[AZ,Cx.nox,Cx.wish]
 obtain⟨dx,h,k,n,hx,hd⟩:=hs.at_;refine⟨_,rfl,x,dx,_,rfl,hx,rfl,_,rfl,_,rfl,λt nt=>?_⟩;have s1:=Ah nt (.dK []);have h1:(upd H t (.dK [])) t=some (.dK []):=Ac;generalize upd H t (.dK [])=H1 at s1 h1;refine⟨x,t,nm,kp,rfl,h1,ln,ag,qs,ps,hs.st (AD s1),hi,ok,tb.same s1,λr hr9 H' S' T'=>q1 r hr9 H' ((AD s1).trans S') T',λrf qs' ps' H' k' t' h' i' st ks tr=>?_⟩;refine q2 rf qs' ps' H' ((hs.kh (AD s1)).trans k') t' h' i' st ks λq hq=>(tr q hq).imp id λz=>?_
 exact(AD s1).there _ z
def C9 (K:W.Frag)(C:Addr)(XC:Nat->Addr)(PT PU:Addr):Sp:=λvs H Q E=>∃(x:Addr) (sm:Str) (i:Int),vs=[.ref x,.str sm,.str FS,.str (QX i)]/\IE C PT PU XC x (.write sm i) H Q E
theorem Iw (T:Txt K mg C XC)(F:Fun K "write" "PlainHouse.write" Bs f fd)(BX:B4 P w K mg base 5 C "tree_of_stem" ["self","name"] (BQ K C XC))(HC:Def P w K mg base 4 "check_put" ["tree","path"] (GJ K))(DM:Def P w K mg base 1 "is_folder" ["tree","path"] (Fi K))(C7:QM P w K mg base 5 C "change" ["self","stem","tree"] (CK K C PT PU))(GW:Def P w K mg base 1 "with_paths" ["tree","more"] (FZ K)):FnOk P w K mg base (Gk P w) 6 f fd ["self","stem","path","content"] (C9 K C XC PT PU):=by
 refine F.okE Fd (λvs H Q E h=>?_) (λcdv A outer s H vs Q E hr h=>?_)
 ·obtain⟨x,sm,i,rfl,_⟩:=h;rfl
 obtain⟨x,sm,i,rfl,ag,qs,ps,hs,hi,ok,tb,q1,q2⟩:=h;refine⟨_,(!Ai (@AE _ _ (4) _ _ _ _ Fd.nd rfl (by trivial) (!Dm (pv 0) T.cl BX (by trivial) AH (!Aa (pv 1) (!Ab))) (by rfl) (by trivial)) (!Ai (!A3 (!AO HC (by trivial) rfl (!Aa (pv 4) (!Aa (pv 2) (!Ab))))) (!Ai (!AL (!CI (!AO DM (by trivial) rfl (!Aa (pv 4) (!Aa (pv 2) (!Ab)))) (by intro _;rfl)) (!Ag (!Gp)) (!Aw)) (!Ag (!A3 (!OO (pv 0) T.cl C7 (by trivial) (!Aa (pv 1) (!Aa (!AO GW (by trivial) rfl (!Aa (pv 4) (!Aa (!BU (!Aa (!AF (!Aa (pv 2) (!Aa (pv 3) (!Ab)))) (!Ab))) (!Ab)))) (!Ab))))))))),?_⟩
 try dsimp only[AZ,Cx.nox,Cx.wish]
 obtain⟨dx,h,k,n,hx,hd⟩:=hs.at_;refine⟨_,rfl,x,dx,_,rfl,hx,rfl,_,rfl,x,sm,ag,qs,ps,rfl,hs,λp hp en=>?_,λno=>q1 _ (.write0 sm i (LG hi.rp no)) H (.refl _) tb⟩;obtain⟨kp,og,m,mp,ep⟩:=LK hp;refine⟨_,rfl,_,rfl,p.t,p.e.tr,rfl,en.1,λH1 s1=>?_⟩;refine⟨_,rfl,_,rfl,p.t,FS,false,p.e.tr,rfl,s1.get en.1,.inr ⟨rfl,rfl⟩,_,rfl,Av rfl ?_⟩;refine⟨_,rfl,x,dx,_,rfl,s1.get hx,rfl,_,rfl,_,rfl,_,rfl,_,rfl,Ef,λp1 n1=>?_⟩;have s2:=Ah n1 (.tup [V.str FS,V.str (QX i)]);have h2:(upd H1 p1 (.tup [V.str FS,V.str (QX i)])) p1=some (.tup [V.str FS,V.str (QX i)]):=Ac;generalize upd H1 p1 (.tup [V.str FS,V.str (QX i)])=H2 at s2 h2;refine⟨D0,λp2 n2=>?_⟩;have s3:=Ah n2 (.lst [V.ref p1]);have h3:(upd H2 p2 (.lst [V.ref p1])) p2=some (.lst [V.ref p1]):=Ac;generalize upd H2 p2 (.lst [V.ref p1])=H3 at s3 h3;have s13:=(s1.trans s2).trans s3;refine⟨p.t,p2,p1,p.e.tr,QX i,rfl,s13.get en.1,h3,s3.get h2,λd' H4 s4 nd' hd'=>?_⟩;have s14:=s13.trans s4;refine⟨x,d',sm,kp,og,p.e.tr,some (QX i),p,ag,qs,ps,rfl,hs.st (AD s14),hp,ep,hd',(λc z=>by cases z;exact RP ok),hi.rp,by have:=hi.few;omega,tb.same s14,λa H' k' t' h'=>?_⟩;have st:Step (ag+1) (ps.map (·.e)) ((putL BH ⟨a,d',.st sm kp og (some (QX i))⟩ ps).map (·.e)) (.write sm i):=.write sm i (.of_eq (TB hi.rp m));exact G6 hi ok (.write1 sm i ⟨_,_,_,m⟩) (λ_ _ z=>by cases z) q2 ((hs.kh (AD s14)).trans k') t' h' (DH hi.rp) st (Gj hi.rp (.inr ((AD s13).there _ nd')))
def Dr (K:W.Frag)(C:Addr)(XC:Nat->Addr)(PT PU:Addr):Sp:=λvs H Q E=>∃(x:Addr) (sm nm:Str),vs=[.ref x,.str sm,.str nm]/\nm.length<=1000/\IE C PT PU XC x (.sea sm nm) H Q E
theorem I0 (T:Txt K mg C XC)(F:Fun K "seal" "PlainHouse.seal" Bz f fd)(Gf:BW P w K mg base 5 "stem_sealed" ["head","stem","name"] (FQ K XC PT PU)):FnOk P w K mg base (Gk P w) 6 f fd ["self","stem","name"] (Dr K C XC PT PU):=by
 refine F.okE IP (λvs H Q E h=>?_) (λcdv A outer s H vs Q E hr h=>?_)
 ·obtain⟨x,sm,nm,rfl,_⟩:=h;rfl
 obtain⟨x,sm,nm,rfl,ln,ag,qs,ps,hs,hi,ok,tb,q1,q2⟩:=h;refine⟨_,(!Ag (!IW (pv 0) (!Bq Gf (by trivial) rfl AH (!Aa (!Ez (pv 0)) (!Aa (pv 1) (!Aa (pv 2) (!Ab))))))),?_⟩
 try dsimp only[AZ,Cx.nox,Cx.wish]
 obtain⟨dx,h,k,n,hx,hd⟩:=hs.at_;have rf:Ref (qs.map EO) (ps.map (·.e)) (.sea sm nm) (Qm (fst sm ps) sm nm (ps.map BH)):=by
  cases e:fst sm ps with
  |none=>exact .sea0 sm nm (LG hi.rp e)
  |some p=>
   obtain⟨kp,og,m,mp,ep⟩:=LK e;have:=Ref.sea1 (ks:=qs.map EO) (es:=ps.map (·.e)) sm nm ⟨_,_,_,m⟩;rw[Hu] at this;exact this
 refine⟨_,rfl,x,C,dx,_,_,rfl,hx,T.cl,T.n_own_head,rfl,_,rfl,_,rfl,h,sm,nm,ag,k,n,qs,ps,rfl,hd,hi.rp,by have:=hi.few;omega,ln,tb,λr er H' S' T'=>?_,λp hp er h' n' a H' S' T' hd'=>?_⟩
 ·rw[er] at rf;exact q1 r rf H' S' T'
 ·rw[er] at rf;obtain⟨kp,og,m,mp,ep⟩:=LK hp;obtain⟨k2,hs2,tb2⟩:=HH hx S' T' hd';refine⟨_,rfl,x,C,dx,_,rfl,S'.keep _ _ (λ_ z=>by cases z) hx,T.cl,T.n_own_head,(by show 1<1000;decide),?_⟩;have nn:nm∉ps.map BH:=by
   rw[hp] at er;cases e1:CL nm (ps.map BH) with
   |some r=>
    have:Qm (some p) sm nm (ps.map BH)=some r:=by show(match CL nm (ps.map BH) with|some r=>some r|none=>_)=_;rw[e1]
    rw[this] at er;cases er
   |none=>exact(FA e1).2
  exact G6 hi ok rf (λ_ _ z=>by cases z) q2 k2 tb2 hs2 (DH hi.rp) (.sea sm nm kp og p.e.tr m (O6 (p:=⟨a,p.t,.sl nm sm (ag+1) p.e.tr⟩) hi.rp nn)) (Gj hi.rp (.inl ⟨p,mp,rfl⟩))
def Du (K:W.Frag)(C:Addr)(XC:Nat->Addr)(PT PU:Addr):Sp:=λvs H Q E=>∃(x:Addr) (nm sl kp:Str),vs=[.ref x,.str nm,.str sl,.str kp]/\nm.length<=1000/\IE C PT PU XC x (.grow nm sl kp) H Q E
theorem Jh (T:Txt K mg C XC)(F:Fun K "grow" "PlainHouse.grow" Bx f fd)(A4:BW P w K mg base 3 "check_new_name" ["head","name"] (B3 K XC))(BP:BW P w K mg base 4 "check_new_stem" ["head","name","keeper"] (CC K XC))(AN:QM P w K mg base 3 C "put_tree" ["self","stem","tree"] (Bj K C PT PU))(Cz:BW P w K mg base 4 "seal_called" ["head","name"] (Eb K XC)):FnOk P w K mg base (Gk P w) 5 f fd ["self","name","seal","keeper"] (Du K C XC PT PU):=by
 refine F.okE FN (λvs H Q E h=>?_) (λcdv A outer s H vs Q E hr h=>?_)
 ·obtain⟨x,nm,sl,kp,rfl,_⟩:=h;rfl
 obtain⟨x,nm,sl,kp,rfl,ln,ag,qs,ps,hs,hi,ok,tb,q1,q2⟩:=h;refine⟨_,(!Ai (!A3 (!Bq A4 (by trivial) rfl AH (!Aa (!Ez (pv 0)) (!Aa (pv 1) (!Ab))))) (!Ai (@AE _ _ (4) _ _ _ _ FN.nd rfl (by trivial) (!Aj Ak (!Bq Cz (by trivial) rfl AH (!Aa (!Ez (pv 0)) (!Aa (pv 2) (!Ab)))) (!Ae) (λ_ _=>rfl)) (by rfl) (by trivial)) (!Ai (!A3 (!Bq BP (by trivial) rfl AH (!Aa (!Ez (pv 0)) (!Aa (pv 1) (!Aa (pv 3) (!Ab)))))) (!Ag (!A3 (!OO (pv 0) T.cl AN (by trivial) (!Aa (!AF (!Aa (pv 1) (!Aa (!Bm rfl T.c_STEM) (!Aa (pv 3) (!Aa (pv 2) (!Ab)))))) (!Aa (pv 4) (!Ab))))))))),?_⟩
 try dsimp only[AZ,Cx.nox,Cx.wish]
 obtain⟨dx,h,k,n,hx,hd⟩:=hs.at_;refine⟨_,rfl,x,C,dx,_,_,rfl,hx,T.cl,T.n_own_head,rfl,_,rfl,h,nm,ag,k,n,qs,ps,rfl,hd,ln,λH1 s1=>?_⟩;cases er:CL nm (ps.map BH) with
 |some r=>exact q1 r (.grow0 nm sl kp r (by rw[Hu];exact er)) H1 (AD s1) (tb.same s1)
 |none=>
  refine⟨_,rfl,x,C,dx,_,_,rfl,s1.get hx,T.cl,T.n_own_head,rfl,_,rfl,h,sl,ag,k,n,qs,ps,rfl,hd.st (AD s1),λp hp=>?_,λno=>q1 _ (.grow1 nm sl kp (by rw[Hu];exact er) (VW hi.rp no)) H1 (AD s1) (tb.same s1)⟩;obtain⟨s,m0,m,mp,ep⟩:=Wz hp;have y:=(hd.st (AD s1)).en p mp;have y2:=y.2;rw[ep] at y2;refine⟨p.a,_,_,_,rfl,rfl,AJ.of y2,Af (j:=4) rfl,?_⟩;refine⟨_,rfl,x,C,dx,_,_,rfl,s1.get hx,T.cl,T.n_own_head,rfl,_,rfl,_,rfl,h,nm,kp,ag,k,n,qs,ps,rfl,hd.st (AD s1),ln,λH2 s2=>?_⟩;have s12:=s1.trans s2;have rf:Ref (qs.map EO) (ps.map (·.e)) (.grow nm sl kp) (DC nm kp (qs.map EO) (ps.map BH)):=by
   have:=Ref.grow2 (ks:=qs.map EO) (es:=ps.map (·.e)) nm sl kp ⟨_,_,_,m⟩;rw[Hu] at this;exact this
  cases es:DC nm kp (qs.map EO) (ps.map BH) with
  |some r=>
   rw[es] at rf;exact q1 r rf H2 (AD s12) (tb.same s12)
  |none=>
   rw[es] at rf;refine⟨_,rfl,x,dx,_,rfl,s12.get hx,rfl,_,rfl,_,rfl,_,rfl,OR,λp1 n1=>?_⟩;have s3:=Ah n1 (.tup [V.str nm,V.int 1,V.str kp,V.str sl]);have h3:(upd H2 p1 (.tup [V.str nm,V.int 1,V.str kp,V.str sl])) p1=some (.tup [V.str nm,V.int 1,V.str kp,V.str sl]):=Ac;generalize upd H2 p1 (.tup [V.str nm,V.int 1,V.str kp,V.str sl])=H3 at s3 h3;have s13:=s12.trans s3;refine⟨_,rfl,x,p1,p.t,nm,kp,sl,p.e.tr,ag,qs,ps,rfl,hs.st (AD s13),h3,(s2.trans s3).get y.1,(λc hc=>hi.wl.tr _ m c hc),hi.rp,by have:=hi.few;omega,tb.same s13,λa H' k' t' h'=>?_⟩;exact G6 hi ok rf (λ_ _ z=>by cases z) q2 ((hs.kh (AD s13)).trans k') t' h' (DH hi.rp) (.grow nm sl kp s m0 p.e.tr m (O6 (p:=⟨a,p.t,.st nm kp sl p.e.tr⟩) hi.rp (FA er).2)) (Gj hi.rp (.inl ⟨p,mp,rfl⟩))
theorem Ql {nm:Str}:∀{ks:List Str},Ri id ks->(putL id nm ks).length=if nm∈ks then ks.length else ks.length+1:=λ{ks} ri=>by
 rw[(Gv ri).length_eq,aW,bT]
 by_cases c:nm∈ks
 ·rw[aw c];have nd:ks.Nodup:=by have:=ri.nd;rw[eF] at this;exact this
  have:=(List.perm_cons_erase c).filter (λy=>!decide (id y=id nm));rw[this.length_eq,bC,aj (by rw[au rfl];exact ai),bQ.mpr λz hz=>?_]
  ·rw[List.length_erase_of_mem c];have:=List.length_pos_of_mem c;omega
  ·rw[show decide (id z=id nm)=false from aG λe:z=nm=>((List.Nodup.mem_erase_iff nd).mp hz).1 e];rfl
 ·rw[aj c,bQ.mpr λz hz=>?_];rw[show decide (id z=id nm)=false from aG λe:z=nm=>c (by rw[<-e];exact hz)];rfl
theorem Sl {nm:Str}{b:Int}{ks:List Str}{es:List En}(ri:Ri id ks)(k8:ks.length<=8):Ref ks es (.keeper nm b) (keepR nm ks):=by
 have:keepR nm ks=if DB (.str nm)=true then(if nm∈ks\/ks.length<8 then none else some .many) else some (.noName nm):=by
  unfold keepR;rw[Ql ri]
  by_cases c:nm∈ks
  ·rw[aw c,aw k8,aw (Or.inl c)]
  ·rw[aj c]
   by_cases d:ks.length<8
   ·rw[aw (show ks.length+1<=8 by omega),aw (Or.inr d)]
   ·rw[aj (show ¬ks.length+1<=8 by omega),aj (not_or.mpr ⟨c,d⟩)]
 rw[this];exact .keeper nm b
def CJ (K:W.Frag)(C:Addr)(XC:Nat->Addr)(PT PU:Addr):Sp:=λvs H Q E=>∃(x:Addr) (nm:Str) (b:Int),vs=[.ref x,.str nm,.int b]/\nm.length<=1000/\IE C PT PU XC x (.keeper nm b) H Q E
theorem HE (T:Txt K mg C XC)(F:Fun K "keeper" "PlainHouse.keeper" Bn f fd)(Ge:BW P w K mg base 3 "keeper_told" ["head","name","bound"] (Fy K XC PT PU)):FnOk P w K mg base (Gk P w) 4 f fd ["self","name","bound"] (CJ K C XC PT PU):=by
 refine F.okE HB (λvs H Q E h=>?_) (λcdv A outer s H vs Q E hr h=>?_)
 ·obtain⟨x,nm,b,rfl,_⟩:=h;rfl
 obtain⟨x,nm,b,rfl,ln,ag,qs,ps,hs,hi,ok,tb,q1,q2⟩:=h;refine⟨_,(!Ag (!IW (pv 0) (!Bq Ge (by trivial) rfl AH (!Aa (!Ez (pv 0)) (!Aa (pv 1) (!Aa (pv 2) (!Ab))))))),?_⟩
 try dsimp only[AZ,Cx.nox,Cx.wish]
 obtain⟨dx,h,k,n,hx,hd⟩:=hs.at_;have rik:Ri id (qs.map EO):=(Rk (key':=id) (key:=EO) λ_=>rfl).mpr hi.rk;have rf:=Sl (nm:=nm) (b:=b) (es:=ps.map (·.e)) rik (by rw[ae];exact hi.k8);refine⟨_,rfl,x,C,dx,_,_,rfl,hx,T.cl,T.n_own_head,rfl,_,rfl,_,rfl,h,nm,b,ag,k,n,qs,ps,rfl,hd,hi.rk,hi.k8,ln,tb,λr er H' S' T'=>?_,λer h' k' a H' S' T' hd'=>?_⟩
 ·rw[er] at rf;exact q1 r rf H' S' T'
 ·rw[er] at rf;obtain⟨k2,hs2,tb2⟩:=HH hx S' T' hd';refine⟨_,rfl,x,C,dx,_,rfl,S'.keep _ _ (λ_ z=>by cases z) hx,T.cl,T.n_own_head,(by show 1<1000;decide),?_⟩;have le:(putL id nm (qs.map EO)).length<=8:=by
   unfold keepR at er
   by_cases c:DB (.str nm)=true
   ·rw[aw c] at er
    by_cases d:(putL id nm (qs.map EO)).length<=8
    ·exact d
    ·rw[aj d] at er;cases er
   ·rw[aj c] at er;cases er
  rw[<-HS (key:=EO) (key':=id) (g:=EO) (λ_=>rfl) (a,nm,b) qs,ae] at le;refine q2 rf _ ps _ k2 tb2 hs2 ⟨hi.rp,DH hi.rk,le,hi.wl.older (by omega)⟩ (.keeper nm b (.refl _)) (λz=>?_) λq hq=>.inl ⟨q,hq,rfl⟩
  constructor
  ·intro hz;obtain⟨y,hy,rfl⟩:=aa.mp hz;rcases(CF hi.rk).mp hy with rfl|⟨hy,_⟩
   ·exact .inl rfl
   ·exact .inr (aa.mpr ⟨y,hy,rfl⟩)
  ·rintro(rfl|hz)
   ·exact aa.mpr ⟨_,(CF hi.rk).mpr (.inl rfl),rfl⟩
   ·obtain⟨y,hy,rfl⟩:=aa.mp hz
    by_cases c:EO y=nm
    ·exact aa.mpr ⟨_,(CF hi.rk).mpr (.inl rfl),c.symm⟩
    ·exact aa.mpr ⟨y,(CF hi.rk).mpr (.inr ⟨hy,c⟩),rfl⟩
theorem TF {sm:Str}{p:Pe}{ps:List Pe}(h:p.e.isSl sm=true)(m:p∈ps):∃nm n,En.sl nm sm n p.e.tr∈ps.map (·.e)/\p.e=.sl nm sm n p.e.tr:=by
 obtain⟨a,t,e⟩:=p;cases e with
 |st=>cases h
 |sl nm s n t=>
  have:s=sm:=aE h;subst this;exact⟨nm,n,aa.mpr ⟨_,m,rfl⟩,rfl⟩
theorem QW {sm nm:Str}{n:Int}{t:Option Str}{p:Pe}(e:p.e=.sl nm sm n t):p.e.isSl sm=true:=by rw[e];exact au rfl
def Dw (K:W.Frag)(C:Addr)(XC:Nat->Addr)(PT PU:Addr):Sp:=λvs H Q E=>∃(x:Addr) (sm:Str),vs=[.ref x,.str sm]/\IE C PT PU XC x (.back sm) H Q E
theorem Jc (T:Txt K mg C XC)(F:Fun K "back" "PlainHouse.back" BA f fd)(Fc:BW P w K mg base 5 "stem_set_back" ["head","stem"] (Ei K XC PT PU)):FnOk P w K mg base (Gk P w) 6 f fd ["self","stem"] (Dw K C XC PT PU):=by
 refine F.okE IX (λvs H Q E h=>?_) (λcdv A outer s H vs Q E hr h=>?_)
 ·obtain⟨x,sm,rfl,_⟩:=h;rfl
 obtain⟨x,sm,rfl,ag,qs,ps,hs,hi,ok,tb,q1,q2⟩:=h;refine⟨_,(!Ag (!IW (pv 0) (!Bq Fc (by trivial) rfl AH (!Aa (!Ez (pv 0)) (!Aa (pv 1) (!Ab)))))),?_⟩
 try dsimp only[AZ,Cx.nox,Cx.wish]
 obtain⟨dx,h,k,n,hx,hd⟩:=hs.at_;refine⟨_,rfl,x,C,dx,_,_,rfl,hx,T.cl,T.n_own_head,rfl,_,rfl,h,sm,ag,k,n,qs,ps,rfl,hd,hi.rp,hi.tn,by have:=hi.few;omega,tb,λno H' S' T'=>q1 _ (.back0 sm (LG hi.rp no)) H' S' T',λp hp no H' S' T'=>?_,λp kp og t s hp ep ms is top h' n' a H' S' T' hd'=>?_⟩
 ·obtain⟨kp,og,m,mp,ep⟩:=LK hp;refine q1 _ (.back1 sm ⟨_,_,_,m⟩ λ⟨nm,i,t,z⟩=>?_) H' S' T';obtain⟨q,hq,e⟩:=aa.mp z;have:=no q hq;rw[QW e] at this;cases this
 ·obtain⟨kp',og',m,mp,ep'⟩:=LK hp;have m2:En.st sm kp og t∈ps.map (·.e):=ep▸aa.mpr ⟨p,mp,rfl⟩;obtain⟨nm,i,z,es⟩:=TF is ms;obtain⟨k2,hs2,tb2⟩:=HH hx S' T' hd';refine⟨_,rfl,x,C,dx,_,rfl,S'.keep _ _ (λ_ z=>by cases z) hx,T.cl,T.n_own_head,(by show 1<1000;decide),?_⟩;refine G6 hi ok (.back2 sm ⟨_,_,_,m⟩ ⟨_,_,_,z⟩) (λ_ _ z=>by cases z) q2 k2 tb2 hs2 (DH hi.rp) (.back sm nm i s.e.tr z (λnm' m' t' z'=>?_) (.of_eq (TB hi.rp m2))) (Gj hi.rp (.inl ⟨s,ms,rfl⟩));obtain⟨q,hq,e⟩:=aa.mp z';have:=top q hq (QW e);rw[e,es] at this;exact this
def C8 (K:W.Frag)(C:Addr)(XC:Nat->Addr)(PT PU:Addr):Sp:=λvs H Q E=>∃(x:Addr) (sm:Str),vs=[.ref x,.str sm]/\IE C PT PU XC x (.graft sm) H Q E
theorem Iy (T:Txt K mg C XC)(F:Fun K "graft" "PlainHouse.graft" Bt f fd)(Ci:BW P w K mg base 6 "stem_grafted_unbound" ["head","stem"] (B8 K XC PT PU)):FnOk P w K mg base (Gk P w) 7 f fd ["self","stem"] (C8 K C XC PT PU):=by
 refine F.okE IB (λvs H Q E h=>?_) (λcdv A outer s H vs Q E hr h=>?_)
 ·obtain⟨x,sm,rfl,_⟩:=h;rfl
 obtain⟨x,sm,rfl,ag,qs,ps,hs,hi,ok,tb,q1,q2⟩:=h;refine⟨_,(!Ag (!IW (pv 0) (!Bq Ci (by trivial) rfl AH (!Aa (!Ez (pv 0)) (!Aa (pv 1) (!Ab)))))),?_⟩
 try dsimp only[AZ,Cx.nox,Cx.wish]
 obtain⟨dx,h,k,n,hx,hd⟩:=hs.at_;refine⟨_,rfl,x,C,dx,_,_,rfl,hx,T.cl,T.n_own_head,rfl,_,rfl,h,sm,ag,k,n,qs,ps,rfl,hd,hi.rp,hi.tn,by have:=hi.few;omega,tb,λno=>q1 _ (.graft0 sm (LG hi.rp no)) H (.refl _) tb,λp kp t hp ep=>?_,λp kp og t hp ep ne=>?_⟩
 ·exact q1 _ (.graft1 sm kp t (ep▸aa.mpr ⟨p,(D7 hp).1,rfl⟩)) H (.refl _) tb
 ·have m1:En.st sm kp og t∈ps.map (·.e):=ep▸aa.mpr ⟨p,(D7 hp).1,rfl⟩;obtain⟨pr,tn,t2,m2⟩:=(hi.wl.og _ _ _ _ m1).resolve_left ne;obtain⟨k3,o3,t3,m3⟩:=(hi.wl.sm _ _ _ _ m2).1;obtain⟨p2,mp2,e2⟩:=aa.mp m2;obtain⟨p3,mp3,e3⟩:=aa.mp m3;refine⟨p2,p3,k3,pr,o3,tn,t2,t3,mp2,mp3,e2,e3,λh' n' ps' H' S' T' hd' em et=>?_⟩;obtain⟨k2,hs2,tb2⟩:=HH hx S' T' hd';refine⟨_,rfl,x,C,dx,_,rfl,S'.keep _ _ (λ_ z=>by cases z) hx,T.cl,T.n_own_head,(by show 1<1000;decide),?_⟩;have nme:ps'.map BH=ps.map BH:=by
   rw[<-Hu,em,<-Hu,ao];exact aB λe _=>X7 _ _ _ _ _ e
  have ri':Ri BH ps':=by
   have:(ps.map BH).Pairwise NB:=bp.mpr hi.rp;rw[<-nme] at this;exact bp.mp this
  exact G6 hi ok (.graft2 sm kp og t m1 ne) (λ_ _ z=>by cases z) q2 k2 tb2 hs2 ri' (.graft sm kp og t pr tn t2 k3 o3 t3 m1 m2 m3 (.of_eq em)) (Sj et)
theorem Xi {nm:Str}{ps:List Pe}(h:Ii nm ps=none):nm∉(ps.map (·.e)).map En.nm:=λz=>by
 rw[Hu] at z;have:=GY.mpr z;rw[h] at this;cases this
theorem Pt {nm:Str}{ps:List Pe}{p:Pe}(ri:Ri BH ps)(h:Ii nm ps=some p)(z:Str):z∈Jd nm p ps↔Lh nm (ps.map (·.e)) z:=by
 obtain⟨mp,np⟩:=CH h;have nd:((ps.map (·.e)).map En.nm).Nodup:=by rw[Hu];exact ri.nd
 unfold Jd Lh
 by_cases c:p.e.isS=true
 ·have hst:Bd nm (ps.map (·.e)):=by
   obtain⟨nm',kp,t,e⟩:=KO c;have:nm'=nm:=by rw[<-np,e];rfl
   subst this;exact⟨kp,p.e.og,t,by rw[<-e];exact aa.mpr ⟨p,mp,rfl⟩⟩
  rw[aw c,aa];constructor
  ·rintro⟨q,hq,rfl⟩
   obtain⟨h1,h2⟩:=av.mp hq;obtain⟨nm',n,z,e⟩:=TF h2 h1;refine .inl ⟨hst,n,q.e.tr,?_⟩;have:BH q=nm':=by show q.e.nm=_;rw[e];rfl
   rw[this];exact z
  ·rintro(⟨_,n,t,h⟩|⟨h,_⟩)
   ·obtain⟨q,hq,e⟩:=aa.mp h;exact⟨q,av.mpr ⟨hq,QW e⟩,by show q.e.nm=z;rw[e];rfl⟩
   ·exact absurd hst h
 ·have hns:¬Bd nm (ps.map (·.e)):=λ⟨k,o,t,y⟩=>by
   have y2:p.e∈ps.map (·.e):=aa.mpr ⟨p,mp,rfl⟩;have:=B6 nd y y2 (by rw[np];rfl);rw[<-this] at c;exact c rfl
  rw[aj c,ax];constructor
  ·exact λh=>.inr ⟨hns,h⟩
  ·rintro(⟨h,_⟩|⟨_,h⟩)
   ·exact absurd h hns
   ·exact h
theorem VC {ps:List Pe}(z:Str):z∈Uc ps↔∃s k t,En.st s k z t∈ps.map (·.e):=by
 unfold Uc;rw[aa];constructor
 ·rintro⟨q,hq,rfl⟩
  obtain⟨h1,h2⟩:=av.mp hq;obtain⟨nm',kp,t,e⟩:=KO h2;exact⟨nm',kp,t,by rw[<-e];exact aa.mpr ⟨q,h1,rfl⟩⟩
 ·rintro⟨s,k,t,h⟩
  obtain⟨q,hq,e⟩:=aa.mp h;exact⟨q,av.mpr ⟨hq,by rw[e];rfl⟩,by rw[e];rfl⟩
def Dp (K:W.Frag)(C:Addr)(XC:Nat->Addr)(PT PU:Addr):Sp:=λvs H Q E=>∃(x:Addr) (nm:Str),vs=[.ref x,.str nm]/\IE C PT PU XC x (.drop nm) H Q E
theorem IV (T:Txt K mg C XC)(F:Fun K "drop" "PlainHouse.drop" BC f fd)(Fx:BW P w K mg base 4 "name_dropped" ["head","name"] (EZ K XC PT PU)):FnOk P w K mg base (Gk P w) 5 f fd ["self","name"] (Dp K C XC PT PU):=by
 refine F.okE Js (λvs H Q E h=>?_) (λcdv A outer s H vs Q E hr h=>?_)
 ·obtain⟨x,nm,rfl,_⟩:=h;rfl
 obtain⟨x,nm,rfl,ag,qs,ps,hs,hi,ok,tb,q1,q2⟩:=h;refine⟨_,(!Ag (!IW (pv 0) (!Bq Fx (by trivial) rfl AH (!Aa (!Ez (pv 0)) (!Aa (pv 1) (!Ab)))))),?_⟩
 try dsimp only[AZ,Cx.nox,Cx.wish]
 obtain⟨dx,h,k,n,hx,hd⟩:=hs.at_;have inn:∀{p},Ii nm ps=some p->nm∈(ps.map (·.e)).map En.nm:=λ{p} hp=>by
  rw[Hu];exact GY.mp (by rw[hp];rfl)
 have stk:∀{p},Ii nm ps=some p->∀z,E7 nm (ps.map (·.e)) z↔z∈Jd nm p ps/\z∈Uc ps:=λ{p} hp z=>by
  unfold E7;rw[Pt hi.rp hp,VC]
 refine⟨_,rfl,x,C,dx,_,_,rfl,hx,T.cl,T.n_own_head,rfl,_,rfl,h,nm,ag,k,n,qs,ps,rfl,hd,hi.rp,hi.tn,by have:=hi.few;omega,tb,λno=>q1 _ (.drop0 nm (Xi no)) H (.refl _) tb,λp z hp zg zo zl H' S' T'=>?_,λp hp fr h' n' H' S' T' hd'=>?_⟩
 ·exact q1 _ (.drop1 nm z (inn hp) ⟨(stk hp z).mpr ⟨zg,zo⟩,λy hy=>zl y ((stk hp y).mp hy).1 ((stk hp y).mp hy).2⟩) H' S' T'
 ·obtain⟨k2,hs2,tb2⟩:=HH hx S' T' hd';refine⟨_,rfl,x,C,dx,_,rfl,S'.keep _ _ (λ_ z=>by cases z) hx,T.cl,T.n_own_head,(by show 1<1000;decide),?_⟩;refine G6 hi ok (.drop2 nm (inn hp) λz hz=>fr z ((stk hp z).mp hz).1 ((stk hp z).mp hz).2) (λ_ _ z=>by cases z) q2 k2 tb2 hs2 (hi.rp.filter _) (.drop nm (λe=>!decide (e.nm=nm\/e.nm∈Jd nm p ps)) (λe=>?_) ?_) λq hq=>.inl ⟨q,(av.mp hq).1,rfl⟩
  ·rw[d8,cF,Pt hi.rp hp]
  ·rw[cy];exact .refl _
def Dv (K:W.Frag)(C:Addr)(XC:Nat->Addr):Sp:=λvs H Q E=>∃(x:Addr) (nm:Str) (ag:Int) (qs:List Kq) (ps:List Pe),vs=[.ref x,.str nm,.str FS]/\Hs C H x ag qs ps/\(Ii nm ps=none->Ex XC E H (.noName nm))/\
 (∀p,Ii nm ps=some p->p.e.tr=none->∀dx,H dx=none->E (.ref (XC 5)) (some dx) (upd H dx (.xd [("path",.str FS)])))/\(∀p c,Ii nm ps=some p->p.e.tr=some c->Q (.str c) H)
theorem Jj (T:Txt K mg C XC)(F:Fun K "read" "PlainHouse.read" BB f fd)(G5:BW P w K mg base 3 "content_in" ["tree","path"] (Gc K XC))(Bi:B4 P w K mg base 4 C "tree_of" ["self","name"] (BV K C XC)):FnOk P w K mg base (Gk P w) 5 f fd ["self","name","path"] (Dv K C XC):=by
 refine F.okE Ja (λvs H Q E h=>?_) (λcdv A outer s H vs Q E hr h=>?_)
 ·obtain⟨x,nm,ag,qs,ps,rfl,_⟩:=h;rfl
 obtain⟨x,nm,ag,qs,ps,rfl,hs,q1,q2,q3⟩:=h;refine⟨_,(!Ag (!Au (!Bq G5 (by trivial) rfl AH (!Aa (!Dm (pv 0) T.cl Bi (by trivial) AH (!Aa (pv 1) (!Ab))) (!Aa (pv 2) (!Ab)))))),?_⟩
 try dsimp only[AZ,Cx.nox,Cx.wish]
 obtain⟨dx,h,k,n,hx,hd⟩:=hs.at_;exact⟨_,rfl,x,dx,_,rfl,hx,rfl,_,rfl,x,nm,ag,qs,ps,rfl,hs,λp hp en=>⟨_,rfl,p.t,p.e.tr,rfl,en.1,λc e=>q3 p c hp e,λe=>q2 p hp e⟩,q1⟩
def Dc (K:W.Frag)(C:Addr)(XC:Nat->Addr):Sp:=λvs H Q E=>∃(x:Addr) (nm:Str) (ag:Int) (qs:List Kq) (ps:List Pe),vs=[.ref x,.str nm]/\Hs C H x ag qs ps/\(Ii nm ps=none->Ex XC E H (.noName nm))/\
 (∀p,Ii nm ps=some p->p.e.tr=none->∀l H',AA H H'->Q (.ref l) H')/\(∀p c,Ii nm ps=some p->p.e.tr=some c->∀l b H',AA H H'->H' l=some (.lst [.ref b])->H' b=some (.tup [.str FS,.int 1])->Q (.ref l) H')
theorem Iz (T:Txt K mg C XC)(F:Fun K "paths" "PlainHouse.paths" Br f fd)(Bi:B4 P w K mg base 4 C "tree_of" ["self","name"] (BV K C XC)):FnOk P w K mg base (Gk P w) 5 f fd ["self","name"] (Dc K C XC):=by
 refine F.okE Fe (λvs H Q E h=>?_) (λcdv A outer s H vs Q E hr h=>?_)
 ·obtain⟨x,nm,ag,qs,ps,rfl,_⟩:=h;rfl
 obtain⟨x,nm,ag,qs,ps,rfl,hs,q1,q2,q3⟩:=h;have hu:=ES hr;refine⟨_,(!Ai (@AE _ _ (2) _ _ _ _ Fe.nd rfl (by trivial) (!Dm (pv 0) T.cl Bi (by trivial) AH (!Aa (pv 1) (!Ab))) (by rfl) (by trivial)) (!Ag (!Au (@EH _ ["path","tree"] [none,some 2] _ _ _ _ _ _ _ _ _ _ _ rfl (!B7 (!AM (Rl rfl) (by rfl) T.b_sorted Fo (!Aa (pv 2) (!Ab)))) (by rfl) rfl (by repeat (first|exact trivial|refine⟨rfl,?_⟩)) (by repeat (first|exact trivial|refine⟨λh=>(by first|exact⟨_,rfl⟩|cases h),?_⟩)) (λC s H fp=>⟨(@AS _ _ (0) _ (show(["path","tree"]:List Str).Nodup by decide +kernel) rfl (by trivial) (by trivial)),(!BR),(!AF (!Aa (pv 0) (!Aa (!UH (!Et (!IR (!Bf hu (pv 1) (pv 0) (λ_ _=>rfl))) (by first|exact Bl _ (by decide) (by decide)|rfl)) (!Bm rfl T.c_FOLDER_ENTRY) (!Bm rfl T.c_FILE_ENTRY)) (!Ab))))⟩) (by intro _;rfl))))),?_⟩
 try dsimp only[AZ,Cx.nox,Cx.wish]
 obtain⟨dx,h,k,n,hx,hd⟩:=hs.at_;refine⟨_,rfl,x,dx,_,rfl,hx,rfl,_,rfl,x,nm,ag,qs,ps,rfl,hs,λp hp en=>?_,q1⟩;have ht:=en.1;have key:∀t:Option Str,(Eg t).map (·.1)=((Eg t).map λ_=>FS).map .inr:=λt=>by cases t<;>rfl
 have tl:=Ph p.e.tr;refine⟨_,rfl,p.t,_,_,rfl,ht,key _,by rw[ae];omega,λts p9 tp so np9=>?_⟩;have s9:=Ah np9 (.lst (ts.map V.str));have h9:(upd H p9 (.lst (ts.map V.str))) p9=some (.lst (ts.map V.str)):=Ac;generalize upd H p9 (.lst (ts.map V.str))=H9 at s9 h9;have ts1:ts=(Eg p.e.tr).map λ_=>FS:=by
  cases e:p.e.tr with
  |none=>rw[e] at tp;exact List.perm_nil.mp tp
  |some c=>rw[e] at tp;exact List.perm_singleton.mp tp
 subst ts1;refine⟨p9,rfl,⟨_,AR.of h9⟩,?_⟩;refine Fq (ps:=Eg p.e.tr) (g:=λ_=>V.str FS) (λ_=>true) (λr y H'=>∃b,y=V.ref b/\H' b=some (.tup [.str FS,.int 1])) ?_ ?_ (Cv (AR.of (by rw[ao] at h9;exact h9))) (by omega) (λr hr H' R s' hR=>hR H' (AA.refl _)) (λr hr _ H' R s' hR=>?_) λl2 H2 ys nl2 s2 hl2 ey hy=>?_
 ·rintro r y Ha Hb ⟨b,e,hb⟩ sab
  exact⟨b,e,sab.get hb⟩
 ·rintro r y Ha la us us' ⟨b,e,hb⟩ hla
  exact⟨b,e,by rw[An (C4 hb hla (by intro z;cases z))];exact hb⟩
 ·cases et:p.e.tr with
  |none=>rw[et] at hr;cases hr
  |some c=>
   rw[et] at ht;have g:=Fj.k (k:=Sum.inr FS) (s'.get (s9.get ht));rw[Oc] at g;refine⟨_,rfl,_,rfl,_,rfl,p.t,_,rfl,g,_,rfl,Av rfl ?_⟩;exact⟨Ef,λb nb=>hR _ _ (Ah nb _) ⟨b,rfl,Ac⟩⟩
 ·rw[filter_tt] at ey;cases et:p.e.tr with
  |none=>
   exact q2 p hp et l2 H2 (s9.trans s2)
  |some c=>
   rw[et] at ey;cases ys with
   |nil=>cases ey
   |cons y ys=>
    cases ys with
    |cons z ys=>have:=congrArg List.length ey;simp[Eg] at this
    |nil=>
     obtain⟨b,e,hb⟩:=hy y aM;rw[cD,e] at hl2;exact q3 p c hp et l2 b H2 (s9.trans s2) hl2 hb
end
abbrev W1:Str:=PySem.Str.ofString "keeper"
abbrev W2:Str:=PySem.Str.ofString "stem"
abbrev W3:Str:=PySem.Str.ofString "\x73eal"
abbrev W4:Str:=PySem.Str.ofString "grow"
abbrev W5:Str:=PySem.Str.ofString "write"
abbrev W6:Str:=PySem.Str.ofString "back"
abbrev W7:Str:=PySem.Str.ofString "graft"
abbrev W8:Str:=PySem.Str.ofString "drop"
def dV:De->List V
 | .keeper nm b=>[.str W1,.str nm,.int b]
 | .stem nm kp=>[.str W2,.str nm,.str kp]
 | .sea sm nm=>[.str W3,.str sm,.str nm]
 | .grow nm sl kp=>[.str W4,.str nm,.str sl,.str kp]
 | .write sm n=>[.str W5,.str sm,.int n]
 | .back sm=>[.str W6,.str sm]
 | .graft sm=>[.str W7,.str sm]
 | .drop nm=>[.str W8,.str nm]
def De.Sz:De->Prop
 | .keeper nm _=>nm.length<=1000
 | .stem nm _=>nm.length<=1000
 | .sea _ nm=>nm.length<=1000
 | .grow nm _ _=>nm.length<=1000
 | .drop nm=>nm.length<=1000
 |_=>True
def HZ:Option Rf->List V
 |none=>[.str (PySem.Str.ofString "ok")]
 |some (.noName z)=>[.str (PySem.Str.ofString "no name"),.str z]
 |some (.twice z)=>[.str (PySem.Str.ofString "twice"),.str z]
 |some (.bare z)=>[.str (PySem.Str.ofString "bare"),.str z]
 |some (.grown z)=>[.str (PySem.Str.ofString "grown"),.str z]
 |some .many=>[.str (PySem.Str.ofString "too many")]
def Rf.nm:Rf->Option Str
 | .noName z=>some z | .twice z=>some z | .bare z=>some z | .grown z=>some z | .many=>none
section
variable {P:Program}{w:World}{K:W.Frag}{mg:Str->Option Value}{base:Heap}{f C:Addr}{XC:Nat->Addr}{fd:FuncData}{PT PU:Addr}
def GN (K:W.Frag)(C:Addr)(XC:Nat->Addr)(PT PU:Addr):Sp:=λvs H Q E=>∃(x da:Addr) (d:De),vs=[.ref x,.ref da]/\H da=some (.tup (dV d))/\d.Sz/\IE C PT PU XC x d H Q E
theorem O7 (T:Txt K mg C XC)(F:Fun K "_law_done" "_law_done" DT f fd)(C6:B4 P w K mg base 4 C "keeper" ["self","name","bound"] (CJ K C XC PT PU))(D2:B4 P w K mg base 6 C "stem" ["self","name","keeper"] (Dx K C XC PT PU))(DX:B4 P w K mg base 6 C "seal" ["self","stem","name"] (Dr K C XC PT PU))(Ec:B4 P w K mg base 5 C "grow" ["self","name","seal","keeper"] (Du K C XC PT PU))(Dy:B4 P w K mg base 6 C "write" ["self","stem","path","content"] (C9 K C XC PT PU))(D1:B4 P w K mg base 6 C "back" ["self","stem"] (Dw K C XC PT PU))(Do:B4 P w K mg base 7 C "graft" ["self","stem"] (C8 K C XC PT PU))(D3:B4 P w K mg base 5 C "drop" ["self","name"] (Dp K C XC PT PU)):FnOk P w K mg base (Gk P w) 8 f fd ["_law_house","_law_deed_here"] (GN K C XC PT PU):=by
 refine F.okE O9 (λvs H Q E h=>?_) (λcdv A outer s H vs Q E hr h=>?_)
 ·obtain⟨x,da,d,rfl,_⟩:=h;rfl
 obtain⟨x,da,d,rfl,hda,sz,dq⟩:=h;refine⟨_,(!Ag (!AL (!Ar Bp (!Aj Ak (pv 1) (!Ae) (λ_ _=>rfl)) (!Aq) (AC _)) (!Ag (!A3 (!Dm (pv 0) T.cl C6 (by trivial) AH (!Aa (!Aj Ak (pv 1) (!Ae) (λ_ _=>rfl)) (!Aa (!Aj Ak (pv 1) (!Ae) (λ_ _=>rfl)) (!Ab)))))) (!Ag (!AL (!Ar Bp (!Aj Ak (pv 1) (!Ae) (λ_ _=>rfl)) (!Aq) (AC _)) (!Ag (!A3 (!Dm (pv 0) T.cl D2 (by trivial) AH (!Aa (!Aj Ak (pv 1) (!Ae) (λ_ _=>rfl)) (!Aa (!Aj Ak (pv 1) (!Ae) (λ_ _=>rfl)) (!Ab)))))) (!Ag (!AL (!Ar Bp (!Aj Ak (pv 1) (!Ae) (λ_ _=>rfl)) (!Aq) (AC _)) (!Ag (!A3 (!Dm (pv 0) T.cl DX (by trivial) AH (!Aa (!Aj Ak (pv 1) (!Ae) (λ_ _=>rfl)) (!Aa (!Aj Ak (pv 1) (!Ae) (λ_ _=>rfl)) (!Ab)))))) (!Ag (!AL (!Ar Bp (!Aj Ak (pv 1) (!Ae) (λ_ _=>rfl)) (!Aq) (AC _)) (!Ag (!A3 (!Dm (pv 0) T.cl Ec (by trivial) AH (!Aa (!Aj Ak (pv 1) (!Ae) (λ_ _=>rfl)) (!Aa (!Aj Ak (pv 1) (!Ae) (λ_ _=>rfl)) (!Aa (!Aj Ak (pv 1) (!Ae) (λ_ _=>rfl)) (!Ab))))))) (!Ag (!AL (!Ar Bp (!Aj Ak (pv 1) (!Ae) (λ_ _=>rfl)) (!Aq) (AC _)) (!Ag (!A3 (!Dm (pv 0) T.cl Dy (by trivial) AH (!Aa (!Aj Ak (pv 1) (!Ae) (λ_ _=>rfl)) (!Aa (!Aq) (!Aa (!EF NY (by rfl) T.b_str QF (!Aa (!Aj Ak (pv 1) (!Ae) (λ_ _=>rfl)) (!Ab))) (!Ab))))))) (!Ag (!AL (!Ar Bp (!Aj Ak (pv 1) (!Ae) (λ_ _=>rfl)) (!Aq) (AC _)) (!Ag (!A3 (!Dm (pv 0) T.cl D1 (by trivial) AH (!Aa (!Aj Ak (pv 1) (!Ae) (λ_ _=>rfl)) (!Ab))))) (!Ag (!AL (!Ar Bp (!Aj Ak (pv 1) (!Ae) (λ_ _=>rfl)) (!Aq) (AC _)) (!Ag (!A3 (!Dm (pv 0) T.cl Do (by trivial) AH (!Aa (!Aj Ak (pv 1) (!Ae) (λ_ _=>rfl)) (!Ab))))) (!Ag (!A3 (!Dm (pv 0) T.cl D3 (by trivial) AH (!Aa (!Aj Ak (pv 1) (!Ae) (λ_ _=>rfl)) (!Ab))))))))))))))))))),?_⟩
 try dsimp only[AZ,Cx.nox,Cx.wish]
 obtain⟨dx,h,k,n,hx,hd⟩:∃dx h k n,H x=some (.ins C dx [("own_head",.ref h)])/\True:=by
  obtain⟨ag,qs,ps,hs,_⟩:=dq;obtain⟨dx,h,k,n,hx,_⟩:=hs.at_;exact⟨dx,h,k,n,hx,trivial⟩
 cases d with
 |keeper nm b=>
  refine⟨_,rfl,da,_,_,_,rfl,rfl,AJ.of hda,Af (j:=0) rfl,rfl,_,rfl,AX (au rfl) ?_⟩;exact⟨_,rfl,x,dx,_,rfl,hx,rfl,_,rfl,da,_,_,_,rfl,rfl,AJ.of hda,Af (j:=1) rfl,_,rfl,da,_,_,_,rfl,rfl,AJ.of hda,Af (j:=2) rfl,x,nm,b,rfl,sz,dq⟩
 |stem nm kp=>
  refine⟨_,rfl,da,_,_,_,rfl,rfl,AJ.of hda,Af (j:=0) rfl,rfl,_,rfl,Av (by decide +kernel) ?_⟩;refine⟨_,rfl,da,_,_,_,rfl,rfl,AJ.of hda,Af (j:=0) rfl,rfl,_,rfl,AX (au rfl) ?_⟩;exact⟨_,rfl,x,dx,_,rfl,hx,rfl,_,rfl,da,_,_,_,rfl,rfl,AJ.of hda,Af (j:=1) rfl,_,rfl,da,_,_,_,rfl,rfl,AJ.of hda,Af (j:=2) rfl,x,nm,kp,rfl,sz,dq⟩
 |sea sm nm=>
  iterate 2 refine⟨_,rfl,da,_,_,_,rfl,rfl,AJ.of hda,Af (j:=0) rfl,rfl,_,rfl,Av (by decide +kernel) ?_⟩
  refine⟨_,rfl,da,_,_,_,rfl,rfl,AJ.of hda,Af (j:=0) rfl,rfl,_,rfl,AX (au rfl) ?_⟩;exact⟨_,rfl,x,dx,_,rfl,hx,rfl,_,rfl,da,_,_,_,rfl,rfl,AJ.of hda,Af (j:=1) rfl,_,rfl,da,_,_,_,rfl,rfl,AJ.of hda,Af (j:=2) rfl,x,sm,nm,rfl,sz,dq⟩
 |grow nm sl kp=>
  iterate 3 refine⟨_,rfl,da,_,_,_,rfl,rfl,AJ.of hda,Af (j:=0) rfl,rfl,_,rfl,Av (by decide +kernel) ?_⟩
  refine⟨_,rfl,da,_,_,_,rfl,rfl,AJ.of hda,Af (j:=0) rfl,rfl,_,rfl,AX (au rfl) ?_⟩;exact⟨_,rfl,x,dx,_,rfl,hx,rfl,_,rfl,da,_,_,_,rfl,rfl,AJ.of hda,Af (j:=1) rfl,_,rfl,da,_,_,_,rfl,rfl,AJ.of hda,Af (j:=2) rfl,_,rfl,da,_,_,_,rfl,rfl,AJ.of hda,Af (j:=3) rfl,x,nm,sl,kp,rfl,sz,dq⟩
 |write sm i=>
  iterate 4 refine⟨_,rfl,da,_,_,_,rfl,rfl,AJ.of hda,Af (j:=0) rfl,rfl,_,rfl,Av (by decide +kernel) ?_⟩
  refine⟨_,rfl,da,_,_,_,rfl,rfl,AJ.of hda,Af (j:=0) rfl,rfl,_,rfl,AX (au rfl) ?_⟩;have ok:0<=i/\i<60:=by obtain⟨_,_,_,_,_,ok,_⟩:=dq;exact ok
  exact⟨_,rfl,x,dx,_,rfl,hx,rfl,_,rfl,da,_,_,_,rfl,rfl,AJ.of hda,Af (j:=1) rfl,_,rfl,da,_,_,_,rfl,rfl,AJ.of hda,Af (j:=2) rfl,i,rfl,ok.1,by omega,x,sm,i,rfl,dq⟩
 |back sm=>
  iterate 5 refine⟨_,rfl,da,_,_,_,rfl,rfl,AJ.of hda,Af (j:=0) rfl,rfl,_,rfl,Av (by decide +kernel) ?_⟩
  refine⟨_,rfl,da,_,_,_,rfl,rfl,AJ.of hda,Af (j:=0) rfl,rfl,_,rfl,AX (au rfl) ?_⟩;exact⟨_,rfl,x,dx,_,rfl,hx,rfl,_,rfl,da,_,_,_,rfl,rfl,AJ.of hda,Af (j:=1) rfl,x,sm,rfl,dq⟩
 |graft sm=>
  iterate 6 refine⟨_,rfl,da,_,_,_,rfl,rfl,AJ.of hda,Af (j:=0) rfl,rfl,_,rfl,Av (by decide +kernel) ?_⟩
  refine⟨_,rfl,da,_,_,_,rfl,rfl,AJ.of hda,Af (j:=0) rfl,rfl,_,rfl,AX (au rfl) ?_⟩;exact⟨_,rfl,x,dx,_,rfl,hx,rfl,_,rfl,da,_,_,_,rfl,rfl,AJ.of hda,Af (j:=1) rfl,x,sm,rfl,dq⟩
 |drop nm=>
  iterate 7 refine⟨_,rfl,da,_,_,_,rfl,rfl,AJ.of hda,Af (j:=0) rfl,rfl,_,rfl,Av (by decide +kernel) ?_⟩
  exact⟨_,rfl,x,dx,_,rfl,hx,rfl,_,rfl,da,_,_,_,rfl,rfl,AJ.of hda,Af (j:=1) rfl,x,nm,rfl,dq⟩
theorem Hs.kh0 {H H':Hp}{x:Addr}{ag:Int}{qs:List Kq}{ps:List Pe}(_:Hs C H' x ag qs ps)(h:∃C dx fs,H x=some (.ins C dx fs))(s:St H H'):KH x H H':=s.kh h
theorem U9 (T:Txt K mg C XC){ts:Addr->TS}{D:Ends}{σ:L2.St}{i:Nat}{H0:Hp}(al:Rf->Prop)(hs:∀(r:Rf) (ea:Addr) (dxo:Option Addr) (H2:Hp),al r->St H0 H2->Tb PT PU H2->H2 ea=some (LU ea (XC r.no) dxo)->(∀z,r.nm=some z->∃dx,dxo=some dx/\H2 dx=some (.xd [("name",.str z)]))->ts ea D (σ.set i (some (.ref ea))) H2) :
  ∀r,al r->∀H',St H0 H'->Tb PT PU H'->Ex XC (λcls d H'=>W.exmOne K cls (.ref (XC 6))=some true/\∃C:Addr,cls=.ref C/\∀ea,H' ea=none->ts ea D (σ.set i (some (.ref ea))) (upd H' ea (LU ea C d))) H' r:=by
 intro r ha H1 S1 T1;have one:∀(j:Nat) (z:Str) (dx ea:Addr),r.no=j->r.nm=some z->H1 dx=none->(upd H1 dx (.xd [("name",.str z)])) ea=none->ts ea D (σ.set i (some (.ref ea))) (upd (upd H1 dx (.xd [("name",.str z)])) ea (LU ea (XC j) (some dx))):=λj z dx ea ej ez nd ne=>by
  subst ej;have s1:=Ah nd (.xd [("name",.str z)]);have s2:=Ah ne (LU ea (XC r.no) (some dx));have nea:ea≠dx:=λw=>by rw[w,Ac] at ne;cases ne
  refine hs r ea (some dx) _ ha (S1.trans (AD (s1.trans s2))) (T1.same (s1.trans s2)) Ac λz' e=>?_
  rw[ez] at e;cases e;exact⟨dx,rfl,by rw[An (Ne.symm nea),Ac]⟩
 cases r with
 |noName z=>exact λdx nd=>⟨T.m_NoName_StemError,_,rfl,λea ne=>one 0 z dx ea rfl rfl nd ne⟩
 |twice z=>exact λdx nd=>⟨T.m_Twice_StemError,_,rfl,λea ne=>one 1 z dx ea rfl rfl nd ne⟩
 |bare z=>exact λdx nd=>⟨T.m_Bare_StemError,_,rfl,λea ne=>one 2 z dx ea rfl rfl nd ne⟩
 |grown z=>exact λdx nd=>⟨T.m_Grown_StemError,_,rfl,λea ne=>one 3 z dx ea rfl rfl nd ne⟩
 |many=>
  refine⟨T.m_TooMany_StemError,_,rfl,λea ne=>?_⟩;have s2:=Ah ne (LU ea (XC 4) none);exact hs .many ea none _ ha (S1.trans (AD s2)) (T1.same s2) Ac λz' e=>by cases e
theorem kinds_of (T:Txt K mg C XC)(r:Rf):ExcCls K (XC r.no)/\(∀j,j<5->W.kitOne K (.ref (XC r.no)) (.ref (XC j))=some (decide (j=r.no)))/\W.kitOne K (.ref (XC r.no)) (.type "ValueError")=some true:=by
 cases r with
 |noName z=>exact⟨T.i_NoName.toExcCls,λj hj=>match j,hj with|0,_=>T.k_NoName_NoName|1,_=>T.k_NoName_Twice|2,_=>T.k_NoName_Bare|3,_=>T.k_NoName_Grown|4,_=>T.k_NoName_TooMany,T.k_NoName_ValueError⟩
 |twice z=>exact⟨T.i_Twice.toExcCls,λj hj=>match j,hj with|0,_=>T.k_Twice_NoName|1,_=>T.k_Twice_Twice|2,_=>T.k_Twice_Bare|3,_=>T.k_Twice_Grown|4,_=>T.k_Twice_TooMany,T.k_Twice_ValueError⟩
 |bare z=>exact⟨T.i_Bare.toExcCls,λj hj=>match j,hj with|0,_=>T.k_Bare_NoName|1,_=>T.k_Bare_Twice|2,_=>T.k_Bare_Bare|3,_=>T.k_Bare_Grown|4,_=>T.k_Bare_TooMany,T.k_Bare_ValueError⟩
 |grown z=>exact⟨T.i_Grown.toExcCls,λj hj=>match j,hj with|0,_=>T.k_Grown_NoName|1,_=>T.k_Grown_Twice|2,_=>T.k_Grown_Bare|3,_=>T.k_Grown_Grown|4,_=>T.k_Grown_TooMany,T.k_Grown_ValueError⟩
 |many=>exact⟨T.e_TooMany,λj hj=>match j,hj with|0,_=>T.k_TooMany_NoName|1,_=>T.k_TooMany_Twice|2,_=>T.k_TooMany_Bare|3,_=>T.k_TooMany_Grown|4,_=>T.k_TooMany_TooMany,T.k_TooMany_ValueError⟩
def G4 (K:W.Frag)(C:Addr)(PT PU:Addr):Sp:=λvs H Q _=>∃(x da:Addr) (d:De) (ag:Int) (qs:List Kq) (ps:List Pe),vs=[.ref x,.ref da]/\H da=some (.tup (dV d))/\d.Sz/\Hs C H x ag qs ps/\HI ag qs ps/\d.Ok/\Tb PT PU H/\
 (∀r,Ref (qs.map EO) (ps.map (·.e)) d (some r)->∀a H',St H H'->Tb PT PU H'->H' a=some (.tup (HZ (some r)))->Q (.ref a) H')/\
 (Ref (qs.map EO) (ps.map (·.e)) d none->∀qs' ps' a H',KH x H H'->Tb PT PU H'->Hs C H' x (ag+1) qs' ps'->HI (ag+1) qs' ps'->Step (ag+1) (ps.map (·.e)) (ps'.map (·.e)) d->VQ d (qs.map EO) (qs'.map EO)->(∀q∈ps',(∃p∈ps,q.t=p.t)\/H q.t=none)->H' a=some (.tup (HZ none))->Q (.ref a) H')
theorem O5 (T:Txt K mg C XC)(F:Fun K "_law_told" "_law_told" DQ f fd)(HK:BW P w K mg base 8 "_law_done" ["_law_house","_law_deed_here"] (GN K C XC PT PU)):FnOk P w K mg base EL 9 f fd ["_law_house","_law_deed_here"] (G4 K C PT PU):=by
 exists Fk
 ·obtain⟨x,da,d,ag,qs,ps,rfl,_⟩:=h;rfl
 obtain⟨x,da,d,ag,qs,ps,rfl,hda,sz,hs,hi,ok,tb,q1,q2⟩:=h;have hu:=ES hr;have hu9:=LS hr;refine⟨_,(!Ai (@SD _ _ _ _ _ _ _ _ _ _ _ (2) _ _ _ ⟨rfl,rfl⟩ T.x_StemError rfl Fk.nd rfl rfl (!Qp (!UT (!V2 HK (by trivial) rfl (!Aa (pv 0) (!Aa (pv 1) (!Ab)))))) (!Aw) (λea=>(!Ai (@AE _ _ (3) _ _ _ _ Fk.nd rfl (by trivial) (!BU (!Aa (!AM (Es (K:=K) (by rfl)) (by rfl) T.b_isinstance BK (!Aa (pv 2) (!Aa (!J4 rfl T.x_NoName) (!Ab)))) (!Aa (!AM (Es (K:=K) (by rfl)) (by rfl) T.b_isinstance BK (!Aa (pv 2) (!Aa (!J4 rfl T.x_Twice) (!Ab)))) (!Aa (!AM (Es (K:=K) (by rfl)) (by rfl) T.b_isinstance BK (!Aa (pv 2) (!Aa (!J4 rfl T.x_Bare) (!Ab)))) (!Aa (!AM (Es (K:=K) (by rfl)) (by rfl) T.b_isinstance BK (!Aa (pv 2) (!Aa (!J4 rfl T.x_Grown) (!Ab)))) (!Ab)))))) (by rfl) (by trivial)) (!Ai (@AE _ _ (3) _ _ _ _ Fk.nd rfl (by trivial) (!AV Ij (pv 3) (!BU (!Aa (!AM (Es (K:=K) (by rfl)) (by rfl) T.b_isinstance BK (!Aa (pv 2) (!Aa (!J4 rfl T.x_TooMany) (!Ab)))) (!Ab)))) (by rfl) (by trivial)) (!Ai (!AL (@PW.pt _ _ _ (!LO (!Ar NO (@OA _ (K) _ _ _ _ _ _ _ _ _ _ _ rfl bO fj fi (N6 (K:=K) (by rfl)) (pv 3) (!Aa (!Lk) (!Ab)) (by rfl) (by rfl) (by rfl) (by rfl) (by rfl)) (!Ae) (AC _)) (!IQ (!Dd (!CI (!AM (Es (K:=K) (by rfl)) (by rfl) T.b_isinstance BK (!Aa (pv 2) (!Aa (!Wg rfl T.b_ValueError Nh) (!Ab)))) (by intro _;rfl)))))) (!Ag (!Au (!AF (!Aa (!Aq) (!Ab))))) (!Aw)) (!Ai (!AL (!CI (!AM (Es (K:=K) (by rfl)) (by rfl) T.b_isinstance BK (!Aa (pv 2) (!Aa (!J4 rfl T.x_TooMany) (!Ab)))) (by intro _;rfl)) (!Ag (!Au (!AF (!Aa (!Aq) (!Ab))))) (!Aw)) (!Ag (!Au (!AF (!Aa (!Aj AQ (!BU (!Aa (!Aq) (!Aa (!Aq) (!Aa (!Aq) (!Aa (!Aq) (!Ab)))))) (@OA _ (K) _ _ _ _ _ _ _ _ _ _ _ rfl bO PySem.F.slot_list_index PySem.F.type_list_index (Sv (K:=K) (by rfl)) (pv 3) (!Aa (!Lk) (!Ab)) (by rfl) (by rfl) (by rfl) (by rfl) (by rfl)) (λ_ _=>rfl)) (!Aa (@Vd _ (K) (by rfl) _ _ _ _ (pv 2) rfl) (!Ab))))))))))) (by decide)) (!Ag (!Au (!AF (!Aa (!Aq) (!Ab)))))),?_⟩
 try dsimp only[AZ,Cx.nox,Cx.wish]
 refine⟨_,rfl,_,rfl,x,da,d,rfl,hda,sz,ag,qs,ps,hs,hi,ok,tb,U9 T (λr=>Ref (qs.map EO) (ps.map (·.e)) d (some r)) λr ea dxo H2 rf S2 T2 hea hz=>?_,λrf qs' ps' H' k' t' h' i' st ks tr=>?_⟩
 ·obtain⟨ec,kj,kv⟩:=kinds_of T r;have q1:=q1 r rf;dsimp only[VY];have one:∀j,j<5->W.kitOne K (Value.ref (XC r.no)) (Value.ref (XC j))=some (decide (j=r.no)):=kj;refine⟨_,rfl,ea,_,dxo,_,_,_,rfl,hea,ec,(λu h=>h),kj 0 (by decide),_,rfl,ea,_,dxo,_,_,_,rfl,hea,ec,(λu h=>h),kj 1 (by decide),_,rfl,ea,_,dxo,_,_,_,rfl,hea,ec,(λu h=>h),kj 2 (by decide),_,rfl,ea,_,dxo,_,_,_,rfl,hea,ec,(λu h=>h),kj 3 (by decide),OR,λl0 n0=>?_⟩;obtain⟨xs,exs⟩:∃xs,xs=[V.bl (decide (0=r.no)),V.bl (decide (1=r.no)),V.bl (decide (2=r.no)),V.bl (decide (3=r.no))]:=⟨_,rfl⟩
  rw[<-exs];have s0:=Ah n0 (.lst xs);have h0:(upd H2 l0 (.lst xs)) l0=some (.lst xs):=Ac;have hea0:=s0.get hea;generalize upd H2 l0 (.lst xs)=H3 at s0 h0 hea0;dsimp only[BD];refine⟨_,rfl,_,rfl,ea,_,dxo,_,_,_,rfl,hea0,ec,(λu h=>h),kj 4 (by decide),D0,λl1 n1=>?_⟩;have s1:=Ah n1 (.lst [V.bl (decide (4=r.no))]);have h1:(upd H3 l1 (.lst [V.bl (decide (4=r.no))])) l1=some (.lst [V.bl (decide (4=r.no))]):=Ac;generalize upd H3 l1 (.lst [V.bl (decide (4=r.no))])=H4 at s1 h1;refine⟨l0,l1,_,_,rfl,rfl,AR.of (s1.get h0),AR.of h1,small (by rw[exs];show 5<=1000000;decide),λl2 n2=>?_⟩;have s2:=Ah n2 (.lst (xs++[V.bl (decide (4=r.no))]));have h2:(upd H4 l2 (.lst (xs++[V.bl (decide (4=r.no))]))) l2=some (.lst (xs++[V.bl (decide (4=r.no))])):=Ac;generalize upd H4 l2 (.lst (xs++[V.bl (decide (4=r.no))]))=H5 at s2 h2;have s05:=(s0.trans s1).trans s2;have hea5:=s05.get hea;have S5:=S2.trans (AD s05);have T5:=T2.same s05;obtain⟨ys,eys⟩:∃ys,ys=xs++[V.bl (decide (4=r.no))]:=⟨_,rfl⟩
  rw[<-eys] at h2;have fl:ys.all ER=true:=by rw[eys,exs];rfl
  have cnt:ys.countP (λx=>KS x (V.bl true))=1:=by rw[eys,exs];cases r<;>rfl
  refine⟨_,rfl,.inl ⟨rfl,_,AR.of h2⟩,l2,_,_,rfl,rfl,AR.of h2,fl,rfl,?_⟩;rw[cnt];refine⟨rfl,_,rfl,Av rfl ?_⟩;refine⟨_,rfl,ea,_,dxo,_,_,_,rfl,hea5,ec,(λu h=>h),kv,_,rfl,Av rfl ?_⟩;dsimp only[UW];refine⟨_,rfl,ea,_,dxo,_,_,_,rfl,hea5,ec,(λu h=>h),kj 4 (by decide),_,rfl,Dh (λc=>?_) (λc=>?_)⟩
  ·have er:r=.many:=by cases r<;>first|rfl|(have c4:=aE c;cases c4)
   refine⟨D0,λa na=>?_⟩;have s6:=Ah na (.tup [V.str (PySem.Str.ofString "too many")]);exact q1 a _ (S5.trans (AD s6)) (T5.same s6) (by rw[er];exact Ac)
  ·obtain⟨z,ez⟩:∃z,r.nm=some z:=by cases r<;>first|exact⟨_,rfl⟩|exact absurd (au rfl) c
   obtain⟨dx,rfl,hdx⟩:=hz z ez;have hdx5:=s05.get hdx;obtain⟨ei,ef,wd,hw,hres⟩:ExiCls K (XC r.no)/\W.findIn K (.ref (XC r.no)) "name"=some none/\∃wd:Str,[V.str (PySem.Str.ofString "no name"),V.str (PySem.Str.ofString "twice"),V.str (PySem.Str.ofString "bare"),V.str (PySem.Str.ofString "grown")][r.no]?=some (V.str wd)/\HZ (some r)=[.str wd,.str z]:=by
    cases r with
    |noName y=>cases ez;exact⟨T.i_NoName,T.f_NoName,_,rfl,rfl⟩
    |twice y=>cases ez;exact⟨T.i_Twice,T.f_Twice,_,rfl,rfl⟩
    |bare y=>cases ez;exact⟨T.i_Bare,T.f_Bare,_,rfl,rfl⟩
    |grown y=>cases ez;exact⟨T.i_Grown,T.f_Grown,_,rfl,rfl⟩
    |many=>cases ez
   refine⟨OR,λl3 n3=>?_⟩;have s6:=Ah n3 (.lst [V.str (PySem.Str.ofString "no name"),V.str (PySem.Str.ofString "twice"),V.str (PySem.Str.ofString "bare"),V.str (PySem.Str.ofString "grown")]);have h6:(upd H5 l3 (.lst [V.str (PySem.Str.ofString "no name"),V.str (PySem.Str.ofString "twice"),V.str (PySem.Str.ofString "bare"),V.str (PySem.Str.ofString "grown")])) l3=some (.lst [V.str (PySem.Str.ofString "no name"),V.str (PySem.Str.ofString "twice"),V.str (PySem.Str.ofString "bare"),V.str (PySem.Str.ofString "grown")]):=Ac;generalize upd H5 l3 (.lst [V.str (PySem.Str.ofString "no name"),V.str (PySem.Str.ofString "twice"),V.str (PySem.Str.ofString "bare"),V.str (PySem.Str.ofString "grown")])=H6 at s6 h6;have h26:=s6.get h2;refine⟨_,rfl,.inl ⟨rfl,_,AR.of h26⟩,l2,_,_,r.no,rfl,rfl,AR.of h26,fl,rfl,by rw[eys,exs];show 5<=1000;decide,⟨V.bl true,by rw[eys,exs];cases r<;>rfl,rfl⟩,(λm y lt hy=>?_),?_⟩
   ·rw[eys,exs] at hy;cases r<;>(rcases m with _|_|_|_|m<;>first|(cases hy;rfl)|exact absurd lt (by simp[Rf.no])|(simp[Rf.no] at lt))
   ·refine⟨l3,_,_,_,rfl,rfl,AR.of h6,Af hw,?_⟩;refine⟨_,rfl,ea,XC r.no,dx,_,.str z,rfl,s6.get hea5,ei,ef,s6.get hdx5,rfl,Ef,λa na=>?_⟩;have s7:=Ah na (.tup [V.str wd,V.str z]);exact q1 a _ (S5.trans (AD (s6.trans s7))) ((T5.same s6).same s7) (by rw[hres];exact Ac)
 ·dsimp only[UW];refine⟨D0,λa na=>?_⟩;have s1:=Ah na (.tup [V.str (PySem.Str.ofString "ok")]);have hs1:=h'.st (AD s1);exact q2 rf qs' ps' a _ (k'.trans (hs1.kh0 (h'.ins) (AD s1))) (t'.same s1) hs1 i' st ks tr Ac
def GK (K:W.Frag)(C:Addr):Sp:=λvs H Q _=>∃(x:Addr) (nm:Str) (ag:Int) (qs:List Kq) (ps:List Pe),vs=[.ref x,.str nm]/\Hs C H x ag qs ps/\(Ii nm ps=none->∀H',AA H H'->Q (.str (PySem.Str.ofString "no name")) H')/\
 (∀p,Ii nm ps=some p->p.e.tr=none->∀H',AA H H'->Q .non H')/\(∀p c,Ii nm ps=some p->p.e.tr=some c->∀a l b H',AA H H'->H' a=some (.tup [.ref l,.str c])->H' l=some (.lst [.ref b])->H' b=some (.tup [.str FS,.int 1])->Q (.ref a) H')
theorem OZ (T:Txt K mg C XC)(F:Fun K "_law_read" "_law_read" DV f fd)(Ds:B4 P w K mg base 5 C "paths" ["self","name"] (Dc K C XC))(D6:B4 P w K mg base 5 C "read" ["self","name","path"] (Dv K C XC)):FnOk P w K mg base EL 6 f fd ["_law_house","_law_name"] (GK K C):=by
 exists JL
 ·obtain⟨x,nm,ag,qs,ps,rfl,_⟩:=h;rfl
 obtain⟨x,nm,ag,qs,ps,rfl,hs,q1,q2,q3⟩:=h;refine⟨_,(!Ai (!V0 ⟨rfl,rfl⟩ T.x_NoName T.x_NoPath rfl rfl (!Vp (!Qp (@VO _ _ _ (2) _ _ _ JL.nd rfl (by trivial) (!TU (!NV (!Qu (pv 0) T.cl Ds (by trivial) (!Aa (pv 1) (!Ab))) (!NV (!Qu (pv 0) T.cl D6 (by trivial) (!Aa (pv 1) (!Aa (!Aq) (!Ab)))) (!UL)))) (by rfl) (by trivial)))) (!Aw) (λe=>(!Ag (!Au (!Aq)))) (λe=>(!Ag (!Au (!Om))))) (!Ag (!Au (pv 2)))),?_⟩
 try dsimp only[AZ,Cx.nox,Cx.wish]
 obtain⟨dx,h,k,n,hx,hd⟩:=hs.at_;refine⟨_,rfl,x,dx,_,rfl,hx,rfl,_,rfl,x,nm,ag,qs,ps,rfl,hs,λno d nd=>?_,λp hp et l H1 s1=>?_,λp c hp et l b H1 s1 hl hb=>?_⟩
 ·exact⟨true,T.m_NoName_NoName,(λz=>by cases z),AX rfl (q1 no _ (Ah nd _))⟩
 ·refine⟨_,rfl,x,dx,_,rfl,s1.get hx,rfl,_,rfl,x,nm,ag,qs,ps,rfl,hs.st (AD s1),(λno=>by rw[hp] at no;cases no),(λp' hp' et' d nd=>?_),λp' c hp' et'=>?_⟩
  ·exact⟨false,T.m_NoPath_NoName,(λ_=>T.m_NoPath_NoPath),Av rfl (q2 p hp et _ (s1.trans (Ah nd _)))⟩
  ·rw[hp] at hp';cases hp';rw[et] at et';cases et'
 ·refine⟨_,rfl,x,dx,_,rfl,s1.get hx,rfl,_,rfl,x,nm,ag,qs,ps,rfl,hs.st (AD s1),(λno=>by rw[hp] at no;cases no),(λp' hp' et' d nd=>?_),λp' c' hp' et'=>?_⟩
  ·rw[hp] at hp';cases hp';rw[et] at et';cases et'
  ·rw[hp] at hp';cases hp';rw[et] at et';cases et';refine⟨Ef,λa na=>?_⟩;have s2:=Ah na (.tup [V.ref l,V.str c]);exact⟨_,rfl,q3 p c hp et a l b _ (s1.trans s2) Ac (s2.get hl) (s2.get hb)⟩
end
abbrev Rw:=Addr×En
def tV:Option Str->V
 |none=>.non
 |some c=>.str c
def Dz:En->List V
 | .st _ k o t=>[.int 1,.str k,.str o,tV t]
 | .sl _ s n t=>[.int 2,.str s,.int n,tV t]
theorem RS (e:En):∃n r,Dz e=.int n::r:=by cases e<;>exact⟨_,_,rfl⟩
abbrev Iv (rs:List Rw):List (Key×V):=rs.map λr=>((Sum.inr r.2.nm:Key),V.ref r.1)
theorem Kt {α:Type}{k:α->Key}{g:α->V}:∀{rs:List α},(rs.map k).Nodup->∀r∈rs,ET (rs.map λr=>(k r,g r)) (k r)=some (g r)
 |[],_,r,h=>nomatch h
 |x::rs,nd,r,h=>by
  rw[aD,bo] at nd;rw[aD];rcases aL.mp h with rfl|h
  ·exact HN rfl
  ·rw[HQ (λe=>nd.1 (aa.mpr ⟨r,h,Eq.symm e⟩))];exact Kt nd.2 r h
theorem QO {α:Type}{k:α->Key}{g:α->V}{z:Key}:∀{rs:List α},(∀r∈rs,k r≠z)->ET (rs.map λr=>(k r,g r)) z=none
 |[],_=>rfl
 |x::rs,h=>by
  rw[aD,HQ (h x aM)];exact QO λr hr=>h r (aK _ hr)
structure RowsAt (H:Hp) (d:Addr) (rs:List Rw):Prop where
 at_:H d=some (.dK (Iv rs))
 ls:∀r∈rs,H r.1=some (.lst (Dz r.2))
 nd:(rs.map λr=>r.2.nm).Nodup
 na:(rs.map (·.1)).Nodup
theorem OD {rs:List Rw}(h:(rs.map λr=>r.2.nm).Nodup):(rs.map λr=>(Sum.inr r.2.nm:Key)).Nodup:=bp.mpr ((bp.mp h).imp λh e=>h (cL e))
theorem RowsAt.get {H:Hp}{d:Addr}{rs:List Rw}(h:RowsAt H d rs){r:Rw}(m:r∈rs):Fj H d (.str r.2.nm) (some (.ref r.1)):=by
 have g:=Fj.k (k:=Sum.inr r.2.nm) h.at_;rw[show ET (Iv rs) (.inr r.2.nm)=some (.ref r.1) from Kt (k:=λr:Rw=>.inr r.2.nm) (g:=λr=>.ref r.1) (OD h.nd) r m] at g;exact g
theorem RowsAt.no {H:Hp}{d:Addr}{rs:List Rw}(h:RowsAt H d rs){nm:Str}(m:nm∉rs.map λr=>r.2.nm):Fj H d (.str nm) none:=by
 have g:=Fj.k (k:=Sum.inr nm) h.at_;rw[show ET (Iv rs) (.inr nm)=none from QO (k:=λr:Rw=>.inr r.2.nm) λr hr e=>m (aa.mpr ⟨r,hr,cL e⟩)] at g;exact g
theorem RowsAt.same {H H':Hp}{d:Addr}{rs:List Rw}(h:RowsAt H d rs)(s:AA H H'):RowsAt H' d rs:=⟨s.get h.at_,λr hr=>s.get (h.ls r hr),h.nd,h.na⟩
abbrev ents (rs:List Rw):List En:=rs.map (·.2)
theorem IG {rs:List Rw}{nm:Str}:nm∈(ents rs).map En.nm↔nm∈rs.map λr=>r.2.nm:=by rw[ao];exact Iff.rfl
theorem RowsAt.has {H:Hp}{d:Addr}{rs:List Rw}(_:RowsAt H d rs){nm:Str}(m:nm∈rs.map λr=>r.2.nm):∃r∈rs,r.2.nm=nm:=by
 obtain⟨r,hr,e⟩:=aa.mp m;exact⟨r,hr,e⟩
theorem RowsAt.ndE {H:Hp}{d:Addr}{rs:List Rw}(h:RowsAt H d rs):((ents rs).map En.nm).Nodup:=by rw[ao];exact h.nd
theorem RowsAt.isSt {H:Hp}{d:Addr}{rs:List Rw}(h:RowsAt H d rs){r:Rw}(m:r∈rs):Bd r.2.nm (ents rs)↔∃k o t,r.2=.st r.2.nm k o t:=by
 constructor
 ·rintro⟨k,o,t,z⟩
  have:=B6 h.ndE z (aa.mpr ⟨r,m,rfl⟩) rfl;exact⟨k,o,t,this.symm⟩
 ·rintro⟨k,o,t,e⟩
  exact⟨k,o,t,by rw[<-e];exact aa.mpr ⟨r,m,rfl⟩⟩
theorem RowsAt.isSl {H:Hp}{d:Addr}{rs:List Rw}(h:RowsAt H d rs){r:Rw}(m:r∈rs):Cg r.2.nm (ents rs)↔∃k o t,r.2=.sl r.2.nm k o t:=by
 constructor
 ·rintro⟨k,o,t,z⟩
  have:=B6 h.ndE z (aa.mpr ⟨r,m,rfl⟩) rfl;exact⟨k,o,t,this.symm⟩
 ·rintro⟨k,o,t,e⟩
  exact⟨k,o,t,by rw[<-e];exact aa.mpr ⟨r,m,rfl⟩⟩
section
variable {P:Program}{w:World}{K:W.Frag}{mg:Str->Option Value}{base:Heap}{f C:Addr}{XC:Nat->Addr}{fd:FuncData}{PT PU:Addr}
def Dk (K:W.Frag):Sp:=λvs H Q _=>∃z:Str,vs=[.str z]/\z.length<=1000/\∀H',AA H H'->Q (.bl (DB (.str z))) H'
theorem Lq (T:Txt K mg C XC)(F:Fun K "_law_is_name" "_law_is_name" Cf f fd):FnOk P w K mg base EL 1 f fd ["_law_name"] (Dk K):=by
 exists Hh
 ·obtain⟨z,rfl,_⟩:=h;rfl
 obtain⟨z,rfl,lz,q⟩:=h;have hu:=ES hr;refine⟨_,(!Ai (@AE _ _ (1) _ _ _ _ Hh.nd rfl (by trivial) (!Aq) (by rfl) (by trivial)) (!Ag (!Au (!Ob (!TN JQ JQ (!Ae) (!AM GV (by rfl) T.b_len Eo (!Aa (pv 0) (!Ab))) (!Ae) (by with_unfolding_all rfl)) (!KB (!Fg (WU hu) (@EH _ ["_law_sign","_law_signs"] [none,some 1] _ _ _ _ _ _ _ _ _ _ _ rfl (!QV (pv 0)) (by rfl) rfl (by repeat (first|exact trivial|refine⟨rfl,?_⟩)) (by repeat (first|exact trivial|refine⟨λh=>(by first|exact⟨_,rfl⟩|cases h),?_⟩)) (λC s H fp=>⟨(@AS _ _ (0) _ (show(["_law_sign","_law_signs"]:List Str).Nodup by decide +kernel) rfl (by trivial) (by trivial)),(!EX (!Ar OS (pv 0) (pv 1))),(pv 0)⟩) (by intro _;rfl)) (!BU (!Ab)) (AC _))))))),?_⟩
 try dsimp only[AZ,Cx.nox,Cx.wish]
 have zl:=Dl z;have hn:DB (.str z)=(decide ((1:Int)<=z.length)&&decide ((z.length:Int)<=8)&&DY LN z):=rfl;refine⟨_,rfl,z,rfl,small (by omega),_,_,rfl,rfl,_,rfl,Dh (λc=>?_) (λc=>?_)⟩
 ·rw[c] at hn;refine⟨_,_,rfl,rfl,_,rfl,Dh (λd=>?_) (λd=>?_)⟩
  ·rw[d] at hn;refine⟨_,rfl,z,rfl,?_⟩;refine B2 (ps:=C5 z) (λc=>!decide (c∈C5 LN)) (λc=>V.str ⟨#[c]⟩) L6 (aV (dC zl) (by omega)) (λx hx H' R s' hR=>?_) (λx hx _ H' R s' hR=>⟨_,rfl,hR H' (AA.refl _)⟩) λl H7 n7 s7 h7=>?_
   ·refine⟨_,rfl,_,rfl,_,_,rfl,rfl,_,rfl,?_⟩;have e:=fh LN x;have hR':R (!(!(Builtin.Str.occurrences LN ⟨#[x]⟩ 0 LN.length 1).isEmpty)) H':=by rw[e];exact hR
    exact hR'
   ·refine⟨SN,λp np=>?_⟩;have s8:=Ah np (.lst []);refine⟨l,p,_,_,rfl,rfl,AR.of (s8.get h7),AR.of Ac,?_,rfl,?_⟩
    ·rw[cI];exact bu.mpr λ_ _=>rfl
    ·have e:decide (((C5 z).filter λc=>!decide (c∈C5 LN)).map (λc=>V.str ⟨#[c]⟩)=[])=DB (.str z):=by
      rw[hn];unfold DY;rw[bH,bY,dQ,List.filter_eq_nil_iff,Bool.true_and,Bool.true_and,bu];exact⟨λh c hc=>by simpa using h c hc,λh c hc=>by rw[h c hc];exact ai⟩
     have q:=q _ (s7.trans s8);rw[<-e] at q;exact q
  ·rw[bq.mpr d] at hn;have q:=q H (.refl _);rw[hn] at q;exact q
 ·rw[bq.mpr c] at hn;have q:=q H (.refl _);rw[hn] at q;exact⟨_,rfl,q⟩
theorem JJ (a b:Int):decide (V.int a=V.int b)=decide (a=b):=by
 by_cases z:a=b
 ·rw[au z,au (by rw[z])]
 ·rw[aG z,aG λy=>z (V.int.inj y)]
def kdOf:En->Int
 | .st _ _ _ _=>1
 | .sl _ _ _ _=>2
theorem RowsAt.kd1 {H:Hp}{d:Addr}{rs:List Rw}(h:RowsAt H d rs){r:Rw}(m:r∈rs):kdOf r.2=1↔Bd r.2.nm (ents rs):=by
 rw[h.isSt m];obtain⟨a,e⟩:=r;cases e with
 |st=>exact⟨λ_=>⟨_,_,_,rfl⟩,λ_=>rfl⟩
 |sl=>exact⟨λz=>absurd (show(2:Int)=1 from z) (by decide),λ⟨_,_,_,z⟩=>by cases z⟩
theorem RowsAt.kd2 {H:Hp}{d:Addr}{rs:List Rw}(h:RowsAt H d rs){r:Rw}(m:r∈rs):kdOf r.2=2↔Cg r.2.nm (ents rs):=by
 rw[h.isSl m];obtain⟨a,e⟩:=r;cases e with
 |sl=>exact⟨λ_=>⟨_,_,_,rfl⟩,λ_=>rfl⟩
 |st=>exact⟨λz=>absurd (show(1:Int)=2 from z) (by decide),λ⟨_,_,_,z⟩=>by cases z⟩
theorem R1 (e:En):(Dz e)[0]?=some (.int (kdOf e)):=by cases e<;>rfl
def GA (K:W.Frag):Sp:=λvs H Q _=>∃(d:Addr) (nm:Str) (k:Int) (rs:List Rw),vs=[.ref d,.str nm,.int k]/\RowsAt H d rs/\(k=1\/k=2)/\(k=1->∀b,(b=true↔Bd nm (ents rs))->Q (.bl b) H)/\(k=2->∀b,(b=true↔Cg nm (ents rs))->Q (.bl b) H)
theorem Q7 (T:Txt K mg C XC)(F:Fun K "_law_is" "_law_is" Fp f fd):FnOk P w K mg base EL 1 f fd ["_law_rows","_law_name","_law_kind"] (GA K):=by
 exists Rv
 ·obtain⟨d,nm,k,rs,rfl,_⟩:=h;rfl
 obtain⟨d,nm,k,rs,rfl,hd,hk,q1,q2⟩:=h;have hu:=ES hr;refine⟨_,(!Ag (!Au (!Ob (!Od (!MV hu (pv 1) (pv 0)) (by first|exact Bl _ (by decide) (by decide)|rfl)) (!KB (!Fg Bp (!Aj AQ (!Bf hu (pv 0) (pv 1) (λ_ _=>rfl)) (!Ae) (λ_ _=>rfl)) (pv 2) (AC _)))))),?_⟩
 try dsimp only[AZ,Cx.nox,Cx.wish]
 by_cases m:nm∈rs.map λr=>r.2.nm
 ·obtain⟨r,hr',rfl⟩:=hd.has m;have g:=hd.get hr';have l:=hd.ls r hr';have fin:Q (.bl (decide (kdOf r.2=k))) H:=by
   rcases hk with rfl|rfl
   ·exact q1 rfl _ (by rw[bY];exact hd.kd1 hr')
   ·exact q2 rfl _ (by rw[bY];exact hd.kd2 hr')
  rw[<-JJ] at fin;exact⟨_,rfl,_,rfl,d,_,rfl,g,_,rfl,AX rfl ⟨_,rfl,_,rfl,d,_,rfl,g,r.1,_,_,_,rfl,rfl,AR.of l,Af (R1 _),_,rfl,rfl,fin⟩⟩
 ·have no1:¬Bd nm (ents rs):=λz=>m (IG.mp (O3.mpr (.inl z)))
  have no2:¬Cg nm (ents rs):=λz=>m (IG.mp (O3.mpr (.inr z)))
  have fin:Q (.bl false) H:=by
   rcases hk with rfl|rfl
   ·exact q1 rfl _ ⟨λz=>(ai z).elim,λz=>absurd z no1⟩
   ·exact q2 rfl _ ⟨λz=>(ai z).elim,λz=>absurd z no2⟩
  exact⟨_,rfl,_,rfl,d,_,rfl,hd.no m,_,rfl,Av rfl fin⟩
def Hz (K:W.Frag):Sp:=λvs H Q _=>∃(d:Addr) (nm:Str) (rs:List Rw),vs=[.ref d,.str nm]/\RowsAt H d rs/\nm.length<=1000/\∀a H',AA H H'->H' a=some (.tup (HZ (CL nm ((ents rs).map En.nm))))->Q (.ref a) H'
theorem Qs (T:Txt K mg C XC)(F:Fun K "_law_new" "_law_new" Ep f fd)(Cb:Def P w K mg base 1 "_law_is_name" ["_law_name"] (Dk K)):FnOk P w K mg base EL 2 f fd ["_law_rows","_law_name"] (Hz K):=by
 exists Po
 ·obtain⟨d,nm,rs,rfl,_⟩:=h;rfl
 obtain⟨d,nm,rs,rfl,hd,ln,q⟩:=h;have hu:=ES hr;refine⟨_,(!Ai (!AL (!Dd (!CI (!AO Cb (by trivial) rfl (!Aa (pv 1) (!Ab))) (by intro _;rfl))) (!Ag (!Au (!AF (!Aa (!Aq) (!Aa (pv 1) (!Ab)))))) (!Aw)) (!Ai (!AL (!Et (!MV hu (pv 1) (pv 0)) (by first|exact Bl _ (by decide) (by decide)|rfl)) (!Ag (!Au (!AF (!Aa (!Aq) (!Aa (pv 1) (!Ab)))))) (!Aw)) (!Ag (!Au (!AF (!Aa (!Aq) (!Ab))))))),?_⟩
 try dsimp only[AZ,Cx.nox,Cx.wish]
 refine⟨_,rfl,nm,rfl,ln,λH1 s1=>⟨_,rfl,?_⟩⟩;have hd1:=hd.same s1;cases nb:DB (.str nm) with
 |false=>
  have e:CL nm ((ents rs).map En.nm)=some (.noName nm):=aj (by rw[nb];exact ai);rw[e] at q;refine AX rfl ⟨_,rfl,Ef,λa na=>?_⟩;exact q a _ (s1.trans (Ah na _)) Ac
 |true=>
  refine Av rfl ?_
  by_cases m:nm∈rs.map λr=>r.2.nm
  ·have e:CL nm ((ents rs).map En.nm)=some (.twice nm):=(aw nb).trans (aw (IG.mpr m));rw[e] at q;obtain⟨r,hr',rfl⟩:=hd.has m;refine⟨_,rfl,_,rfl,d,_,rfl,hd1.get hr',_,rfl,AX rfl ⟨_,rfl,Ef,λa na=>?_⟩⟩;exact q a _ (s1.trans (Ah na _)) Ac
  ·have e:CL nm ((ents rs).map En.nm)=none:=(aw nb).trans (aj λz=>m (IG.mp z));rw[e] at q;refine⟨_,rfl,_,rfl,d,_,rfl,hd1.no m,_,rfl,Av rfl ⟨D0,λa na=>?_⟩⟩;exact q a _ (s1.trans (Ah na _)) Ac
theorem RO {α:Type}{T:Addr->α->Prop}:∀(ys:List (α×V)),(∀q∈ys,∃b,q.2=V.ref b/\T b q.1)->∃bs:List (Addr×α),bs.map (·.2)=ys.map (·.1)/\bs.map (λb=>V.ref b.1)=ys.map (·.2)/\∀b∈bs,T b.1 b.2
 |[],_=>⟨[],rfl,rfl,λ_ h=>nomatch h⟩
 |y::ys,h=>by
  obtain⟨bs,e1,e2,e3⟩:=RO ys λq hq=>h q (aK _ hq)
  obtain⟨b,e,t⟩:=h y aM;refine⟨(b,y.1)::bs,by rw[aD,aD,e1],by rw[aD,aD,e2,e],λc hc=>?_⟩;rcases aL.mp hc with rfl|hc
  ·exact t
  ·exact e3 c hc
theorem JB {es:List En}(nd:(es.map En.nm).Nodup)(tn:∀nm s m t nm' s' t',En.sl nm s m t∈es->En.sl nm' s' m t'∈es->nm=nm')(sm:Str):((es.filter λe=>e.isSl sm).map En.turn).Nodup:=by
 have key:∀{l:List En},(∀p∈l,p∈es)->(l.map En.nm).Nodup->((l.filter λp=>p.isSl sm).map En.turn).Nodup:=λ{l}=>by
  induction l with
  |nil=>intro _ _;exact bW
  |cons p l ih=>
   intro hin nd;rw[aD,bo] at nd;have ih:=ih (λq hq=>hin q (aK _ hq)) nd.2;rw[bC]
   split
   ·next c=>
    rw[aD,bo];refine⟨λz=>?_,ih⟩;obtain⟨q,hq,e⟩:=aa.mp z;obtain⟨h1,h2⟩:=av.mp hq;cases p with
    |st=>cases c
    |sl nm s n t=>
     cases q with
     |st=>cases h2
     |sl nm' s' n' t'=>
      have e:n'=n:=e;subst e;have:=tn nm s n' t nm' s' t' (hin _ aM) (hin _ (aK _ h1));exact nd.1 (aa.mpr ⟨_,h1,this.symm⟩)
   ·exact ih
 exact key (λ_ h=>h) nd
def Dg (K:W.Frag):Sp:=λvs H Q _=>∃(d:Addr) (sm:Str) (rs:List Rw),vs=[.ref d,.str sm]/\RowsAt H d rs/\rs.length<=24/\(((ents rs).filter λe=>e.isSl sm).map En.turn).Nodup/\
 ∀(bs:List (Addr×En)) l H',(bs.map (·.2)).Perm ((ents rs).filter λe=>e.isSl sm)->bs.Pairwise (λx y=>x.2.turn<y.2.turn)->AA H H'->H' l=some (.lst (bs.map λb=>V.ref b.1))->(∀b∈bs,H' b.1=some (.tup [.int b.2.turn,.str b.2.nm]))->Q (.ref l) H'
theorem M6 (T:Txt K mg C XC)(F:Fun K "_law_seals" "_law_seals" C2 f fd):FnOk P w K mg base EL 1 f fd ["_law_rows","_law_stem"] (Dg K):=by
 exists Ng
 ·obtain⟨d,sm,rs,rfl,_⟩:=h;rfl
 obtain⟨d,sm,rs,rfl,hd,few,tnd,q⟩:=h;have hu:=ES hr;refine⟨_,(!Ag (!Au (!AM (P9 (K:=K) (by rfl)) (by rfl) T.b_sorted Fo (!Aa (!JF (@EH _ ["_law_name","_law_stem","_law_rows"] [none,some 1,some 0] _ _ _ _ _ _ _ _ _ _ _ rfl (!LB (pv 0)) (by rfl) rfl (by repeat (first|exact trivial|refine⟨rfl,?_⟩)) (by repeat (first|exact trivial|refine⟨λh=>(by first|exact⟨_,rfl⟩|cases h),?_⟩)) (λC s H fp=>⟨(@AS _ _ (0) _ (show(["_law_name","_law_stem","_law_rows"]:List Str).Nodup by decide +kernel) rfl (by trivial) (by trivial)),(!EX (@PW.pt _ _ _ (!E8 (!Ar Bp (!Aj (FC (K:=K) (by rfl)) (!Bf hu (pv 2) (pv 0) (λ_ _=>rfl)) (!Ae) (λ_ _=>rfl)) (!Ae) (AC _)) (!EN (!Ar Bp (!Aj (FC (K:=K) (by rfl)) (!Bf hu (pv 2) (pv 0) (λ_ _=>rfl)) (!Ae) (λ_ _=>rfl)) (pv 1) (AC _)))))),(!AF (!Aa (!Aj (FC (K:=K) (by rfl)) (!Bf hu (pv 2) (pv 0) (λ_ _=>rfl)) (!Ae) (λ_ _=>rfl)) (!Aa (pv 0) (!Ab))))⟩) (by intro _;rfl))) (!Ab))))),?_⟩
 try dsimp only[AZ,Cx.nox,Cx.wish]
 have nf:∀o u,H d≠some (.frz o u):=λo u z=>by rw[hd.at_] at z;cases z
 refine⟨_,rfl,d,_,rfl,hd.at_,λo=>?_⟩;have hf:(upd H d (.frz o (.dK (Iv rs)))) d=some (.frz o (.dK (Iv rs))):=Ac;have hfl:∀r∈rs,(upd H d (.frz o (.dK (Iv rs)))) r.1=some (.lst (Dz r.2)):=λr hr=>by
  rw[An λw=>by have:=hd.ls r hr;rw[w,hd.at_] at this;cases this];exact hd.ls r hr
 have th:∀H2,AA (upd H d (.frz o (.dK (Iv rs)))) H2->AA H (upd H2 d (.dK (Iv rs))):=λH2 s2=>Gh hd.at_ s2
 have fre:∀l,(upd H d (.frz o (.dK (Iv rs)))) l=none->l≠d:=λl nl w=>by rw[w,hf] at nl;cases nl
 generalize upd H d (.frz o (.dK (Iv rs)))=Hf at hf hfl th fre;have it:=Iq hf;rw[ao] at it
 change JC _ _ (rs.map λr=>V.str r.2.nm) at it
 have gf:∀{H'},AA Hf H'->∀r∈rs,Fj H' d (.str r.2.nm) (some (.ref r.1)):=λ{H'} s' r hr=>by
  have g:=Fj.kf (k:=Sum.inr r.2.nm) (s'.get hf);rw[show ET (Iv rs) (.inr r.2.nm)=some (.ref r.1) from Kt (k:=λr:Rw=>.inr r.2.nm) (g:=λr=>.ref r.1) (OD hd.nd) r hr] at g;exact g
 refine Fq (ps:=rs) (λr=>r.2.isSl sm) (λr y H'=>∃b,y=V.ref b/\H' b=some (.tup [.int r.2.turn,.str r.2.nm])) ?_ ?_ it (by omega) (λr hr H' R s' hR=>?_) (λr hr hp H' R s' hR=>?_) λl H2 ys nl s2 hl ey hy=>?_
 ·rintro r y Ha Hb ⟨b,e,hb⟩ sab
  exact⟨b,e,sab.get hb⟩
 ·rintro r y Ha la us us' ⟨b,e,hb⟩ hla
  exact⟨b,e,by rw[An (C4 hb hla (by intro z;cases z))];exact hb⟩
 ·have g:=gf s' r hr;have hl:=s'.get (hfl r hr);have hR:=hR H' (.refl _);cases e:r.2 with
  |st nm kp og t=>
   rw[e] at hl g hR;exact⟨_,rfl,_,rfl,d,_,rfl,g,r.1,_,_,_,rfl,rfl,AR.of hl,Af (j:=0) rfl,rfl,_,rfl,Av (by decide) hR⟩
  |sl nm s n t=>
   rw[e] at hl g hR;refine⟨_,rfl,_,rfl,d,_,rfl,g,r.1,_,_,_,rfl,rfl,AR.of hl,Af (j:=0) rfl,rfl,_,rfl,AX (by decide) ⟨_,rfl,_,rfl,d,_,rfl,g,r.1,_,_,_,rfl,rfl,AR.of hl,Af (j:=1) rfl,_,rfl,rfl,_,rfl,?_⟩⟩;rw[EJ];exact hR
 ·have g:=gf s' r hr;have hl:=s'.get (hfl r hr);cases e:r.2 with
  |st nm kp og t=>rw[e] at hp;cases hp
  |sl nm s n t=>
   rw[e] at hl g;refine⟨_,rfl,_,rfl,d,_,rfl,g,r.1,_,_,_,rfl,rfl,AR.of hl,Af (j:=2) rfl,_,rfl,Ef,λb nb=>?_⟩;exact hR _ _ (Ah nb _) ⟨b,rfl,by rw[Ac,e];rfl⟩
 obtain⟨bs,e1,e2,e3⟩:=RO (T:=λb (r:Rw)=>H2 b=some (.tup [.int r.2.turn,.str r.2.nm])) ys hy;have hl':H2 l=some (.lst ((bs.map λb=>(b.1,b.2.2)).map λb=>V.ref b.1)):=by rw[hl,<-e2,ao];rfl
 have pe:((bs.map λb=>(b.1,b.2.2)).map (·.2))=(ents rs).filter λe=>e.isSl sm:=by
  rw[ao,show((λb:Addr×En=>b.2)∘λb:Addr×Rw=>(b.1,b.2.2))=(λr:Rw=>r.2)∘λb:Addr×Rw=>b.2 from rfl,<-ao,e1,ey];show _=List.filter _ (List.map _ rs);rw[cy];rfl
 have hb:∀b∈(bs.map λb=>(b.1,b.2.2)),H2 b.1=some (.tup [.int b.2.turn,.str b.2.nm]):=λb hb=>by
  obtain⟨x,hx,rfl⟩:=aa.mp hb;exact e3 x hx
 generalize (bs.map λb=>(b.1,b.2.2))=zs at hl' pe hb;have nel:=fre l nl;have neb:∀b∈zs,b.1≠d:=λb hb' w=>by have:=hb b hb';rw[w,s2.get hf] at this;cases this
 refine⟨d,o,_,nf,s2.get hf,l,zs.map λb=>(b.1,b.2.turn),rfl,AR.of (by rw[An nel,ao];exact hl'),?_,λt ht=>?_,?_,λus p up pw np=>?_⟩
 ·have:=congrArg List.length pe;rw[ae] at this;have:=bf (λe:En=>e.isSl sm) (ents rs);have e:(ents rs).length=rs.length:=ae _;rw[ae];omega
 ·obtain⟨b,hb',rfl⟩:=aa.mp ht;exact⟨_,AJ.of (by rw[An (neb b hb')];exact hb b hb')⟩
 ·rw[ao];have:(zs.map ((λt:Addr×Int=>t.2)∘λb:Addr×En=>(b.1,b.2.turn)))=(zs.map (·.2)).map En.turn:=by rw[ao];rfl
  rw[this,pe];exact tnd
 ·obtain⟨us',p1,rfl⟩:=ND up rfl;have S:=th H2 s2;have s3:=Ah np (.lst ((us'.map λb=>(b.1,b.2.turn)).map λt=>V.ref t.1));refine q us' p _ ((p1.map _).trans (.of_eq pe)) (by have pw:=pw;rw[bp] at pw;exact pw) (S.trans s3) (by rw[Ac,ao];rfl) λb hb'=>?_
  have hz:=p1.mem_iff.mp hb';exact s3.get (by rw[An (neb b hz)];exact hb b hz)
end
abbrev OK:Str:=PySem.Str.ofString "ok"
def IK:Option Rf->Tr
 |none=>.tup [.str OK]
 |some (.noName z)=>.tup [.str (PySem.Str.ofString "no name"),.str z]
 |some (.twice z)=>.tup [.str (PySem.Str.ofString "twice"),.str z]
 |some (.bare z)=>.tup [.str (PySem.Str.ofString "bare"),.str z]
 |some (.grown z)=>.tup [.str (PySem.Str.ofString "grown"),.str z]
 |some .many=>.tup [.str (PySem.Str.ofString "too many")]
theorem FU {H:Hp}{a:Addr}{r:Option Rf}(h:H a=some (.tup (HZ r))):Rep (λ_=>True) H (IK r) (.ref a):=by
 cases r with
 |none=>exact⟨a,_,rfl,h,_,_,rfl,rfl,rfl⟩
 |some r=>cases r<;>first|exact⟨a,_,rfl,h,_,_,rfl,rfl,_,_,rfl,rfl,rfl⟩|exact⟨a,_,rfl,h,_,_,rfl,rfl,rfl⟩
theorem OF (r:Option Rf):Nw OK (IK r)=r.isNone:=by
 cases r with
 |none=>decide +kernel
 |some r=>cases r<;>first|rfl|decide +kernel
abbrev QC (ks:List Str):List (Key×V):=ks.map λk=>((Sum.inr k:Key),V.bl true)
theorem UG {H:Hp}{d:Addr}{ks:List Str}(h:H d=some (.dK (QC ks)))(nm:Str)(nd:ks.Nodup):∃v,Fj H d (.str nm) v/\v.isSome=decide (nm∈ks):=by
 have g:=Fj.k (k:=Sum.inr nm) h
 by_cases m:nm∈ks
 ·rw[show ET (QC ks) (.inr nm)=some (.bl true) from Kt (k:=λk:Str=>.inr k) (g:=λ_=>.bl true) (bp.mpr (nd.imp λh e=>h (cL e))) nm m] at g;exact⟨_,g,(au m).symm⟩
 ·rw[show ET (QC ks) (.inr nm)=none from QO (k:=λk:Str=>.inr k) λr hr e=>m (by rw[<-cL e];exact hr)] at g;exact⟨_,g,(aG m).symm⟩
section
variable {P:Program}{w:World}{K:W.Frag}{mg:Str->Option Value}{base:Heap}{f C:Addr}{XC:Nat->Addr}{fd:FuncData}{PT PU:Addr}
def Made (w x1 x2 xl:Str)(ks:List Str)(es:List En)(r:Option Rf):Prop:=∃r2 r3 r4,
 ((w=W3/\¬Bd x1 es/\r2=some (.noName x1))\/(¬(w=W3/\¬Bd x1 es)/\r2=CL (if w=W3 then x2 else x1) (es.map En.nm)))/\
 ((r2=none/\w=W4/\¬Cg x2 es/\r3=some (.noName x2))\/(¬(r2=none/\w=W4/\¬Cg x2 es)/\r3=r2))/\
 ((r3=none/\w≠W3/\xl∉ks/\r4=some (.noName xl))\/(¬(r3=none/\w≠W3/\xl∉ks)/\r4=r3))/\
 ((r4=none/\es.length=24/\r=some .many)\/(¬(r4=none/\es.length=24)/\r=r4))
def Gw (K:W.Frag):Sp:=λvs H Q _=>∃(kd d da:Addr) (ks:List Str) (rs:List Rw) (xs:List V) (w x1 x2 xl:Str),vs=[.ref kd,.ref d,.ref da]/\H da=some (.tup xs)/\xs[0]?=some (.str w)/\xs[1]?=some (.str x1)/\xs[2]?=some (.str x2)/\Jv xs (-1)=some (.str xl)/\(if w=W3 then x2 else x1).length<=1000/\H kd=some (.dK (QC ks))/\ks.Nodup/\RowsAt H d rs/\rs.length<=24/\
 ∀r a H',Made w x1 x2 xl ks (ents rs) r->AA H H'->H' a=some (.tup (HZ r))->Q (.ref a) H'
theorem Oj (T:Txt K mg C XC)(F:Fun K "_law_made" "_law_made" DA f fd)(Jt:Def P w K mg base 2 "_law_new" ["_law_rows","_law_name"] (Hz K))(EC:Def P w K mg base 1 "_law_is" ["_law_rows","_law_name","_law_kind"] (GA K)):FnOk P w K mg base EL 3 f fd ["_law_keepers","_law_rows","_law_deed_here"] (Gw K):=by
 exists CO
 ·obtain⟨kd,d,da,ks,rs,xs,w,x1,x2,xl,rfl,_⟩:=h;rfl
 obtain⟨kd,d,da,ks,rs,xs,w,x1,x2,xl,rfl,hda,i0,i1,i2,il,l12,hk,nk,hd,few,q⟩:=h;have hu:=ES hr;have hu9:=LS hr;refine⟨_,(!Ai (@AE _ _ (3) _ _ _ _ CO.nd rfl (by trivial) (!AO Jt (by trivial) rfl (!Aa (pv 1) (!Aa (!Aj Ak (pv 2) (!AV D4 (!Ae) (!EF Ta (by rfl) T.b_int WQ (!Aa (!Fg Bp (!Aj Ak (pv 2) (!Ae) (λ_ _=>rfl)) (!Aq) (AC _)) (!Ab)))) (λ_ _=>rfl)) (!Ab)))) (by rfl) (by trivial)) (!Ai (!AL (@PW.pt _ _ _ (!E8 (!Ar Bp (!Aj Ak (pv 2) (!Ae) (λ_ _=>rfl)) (!Aq) (AC _)) (!EN (!Dd (!CI (!AO EC (by trivial) rfl (!Aa (pv 1) (!Aa (!Aj Ak (pv 2) (!Ae) (λ_ _=>rfl)) (!Aa (!Ae) (!Ab))))) (by intro _;rfl)))))) (!Ag (@AE _ _ (3) _ _ _ _ CO.nd rfl (by trivial) (!AF (!Aa (!Aq) (!Aa (!Aj Ak (pv 2) (!Ae) (λ_ _=>rfl)) (!Ab)))) (by rfl) (by trivial))) (!Aw)) (!Ai (!AL (@PW.pt _ _ _ (!E8 (!Ar (KI hu9) (pv 3) (!AF (!Aa (!Aq) (!Ab))) (AC _)) (!E8 (!Ar Bp (!Aj Ak (pv 2) (!Ae) (λ_ _=>rfl)) (!Aq) (AC _)) (!EN (!Dd (!CI (!AO EC (by trivial) rfl (!Aa (pv 1) (!Aa (!Aj Ak (pv 2) (!Ae) (λ_ _=>rfl)) (!Aa (!Ae) (!Ab))))) (by intro _;rfl))))))) (!Ag (@AE _ _ (3) _ _ _ _ CO.nd rfl (by trivial) (!AF (!Aa (!Aq) (!Aa (!Aj Ak (pv 2) (!Ae) (λ_ _=>rfl)) (!Ab)))) (by rfl) (by trivial))) (!Aw)) (!Ai (!AL (@PW.pt _ _ _ (!E8 (!Ar (KI hu9) (pv 3) (!AF (!Aa (!Aq) (!Ab))) (AC _)) (!E8 (!Ar NO (!Aj Ak (pv 2) (!Ae) (λ_ _=>rfl)) (!Aq) (AC _)) (!EN (!Et (!Ik hu (!Aj Ak (pv 2) (!RB Pf (!Ae)) (λ_ _=>rfl)) (pv 0)) (by first|exact Bl _ (by decide) (by decide)|rfl)))))) (!Ag (@AE _ _ (3) _ _ _ _ CO.nd rfl (by trivial) (!AF (!Aa (!Aq) (!Aa (!Aj Ak (pv 2) (!RB Pf (!Ae)) (λ_ _=>rfl)) (!Ab)))) (by rfl) (by trivial))) (!Aw)) (!Ai (!AL (@PW.pt _ _ _ (!E8 (!Ar (KI hu9) (pv 3) (!AF (!Aa (!Aq) (!Ab))) (AC _)) (!EN (!Ar Bp (!AM K1 (by rfl) T.b_len Eo (!Aa (pv 1) (!Ab))) (!Ae) (AC _))))) (!Ag (@AE _ _ (3) _ _ _ _ CO.nd rfl (by trivial) (!AF (!Aa (!Aq) (!Ab))) (by rfl) (by trivial))) (!Aw)) (!Ag (!Au (pv 3)))))))),?_⟩
 try dsimp only[AZ,Cx.nox,Cx.wish]
 have ix:Jv xs (1+(if decide (V.str w=V.str (PySem.Str.ofString "\x73eal"))=true then 1 else 0))=some (.str (if w=W3 then x2 else x1)):=by
  by_cases c:w=W3
  ·rw[aw (au (by rw[c])),aw c];exact Af (j:=2) i2
  ·rw[aj (by rw[aG λe=>c (V.str.inj e)];exact ai),aj c];exact Af (j:=1) i1
 refine⟨_,rfl,_,rfl,_,rfl,da,_,_,_,rfl,rfl,AJ.of hda,Af (j:=0) i0,rfl,.inr ⟨_,rfl,_,_,rfl,rfl,da,_,_,_,rfl,rfl,AJ.of hda,ix,?_⟩⟩;refine⟨d,_,rs,rfl,hd,l12,λa1 H1 s1 h1=>?_⟩;dsimp only[BD];refine FT (λσ' H'=>∃a r2,σ'=[some (.ref kd),some (.ref d),some (.ref da),some (.ref a)]/\AA H H'/\H' a=some (.tup (HZ r2))/\((w=W3/\¬Bd x1 (ents rs)/\r2=some (.noName x1))\/(¬(w=W3/\¬Bd x1 (ents rs))/\r2=CL (if w=W3 then x2 else x1) ((ents rs).map En.nm)))) (λN hN=>?_) ?_
 ·refine⟨_,rfl,da,_,_,_,rfl,rfl,AJ.of (s1.get hda),Af (j:=0) i0,rfl,_,rfl,Dh (λc=>?_) (λc=>?_)⟩
  ·have c':w=W3:=V.str.inj (aE c);refine⟨_,rfl,_,rfl,da,_,_,_,rfl,rfl,AJ.of (s1.get hda),Af (j:=1) i1,d,x1,1,rs,rfl,hd.same s1,.inl rfl,(λ_ b hb=>⟨_,rfl,?_⟩),λz=>absurd z (by decide)⟩;cases b with
   |true=>exact Av rfl (hN _ _ ⟨a1,_,rfl,s1,h1,.inr ⟨λz=>z.2 (hb.mp rfl),rfl⟩⟩)
   |false=>
    refine AX rfl ⟨_,rfl,da,_,_,_,rfl,rfl,AJ.of (s1.get hda),Af (j:=1) i1,Ef,λa na=>hN _ _ ⟨a,some (.noName x1),rfl,s1.trans (Ah na _),Ac,.inl ⟨c',λz=>?_,rfl⟩⟩⟩;have:=hb.mpr z;cases this
  ·exact Av rfl (hN _ _ ⟨a1,_,rfl,s1,h1,.inr ⟨λz=>c (au (by rw[z.1])),rfl⟩⟩)
 rintro σ' H2 ⟨a2,r2,rfl,s2,h2,m2⟩
 refine FT (λσ' H'=>∃a r3,σ'=[some (.ref kd),some (.ref d),some (.ref da),some (.ref a)]/\AA H H'/\H' a=some (.tup (HZ r3))/\((r2=none/\w=W4/\¬Cg x2 (ents rs)/\r3=some (.noName x2))\/(¬(r2=none/\w=W4/\¬Cg x2 (ents rs))/\r3=r2))) (λN hN=>?_) ?_
 ·refine⟨_,rfl,D0,λp np=>?_⟩;have s3:=Ah np (.tup [V.str OK]);have h3:(upd H2 p (.tup [V.str OK])) p=some (.tup [V.str OK]):=Ac
  change Uy _ _ (upd H2 p (.tup [V.str OK])) _
  generalize upd H2 p (.tup [V.str OK])=H3 at s3 h3;have s23:=s2.trans s3;have h23:=s3.get h2;refine⟨IK r2,OK,p,FU h23,rfl,h3,_,rfl,?_⟩;rw[OF];cases r2 with
  |some r=>exact Av rfl (Av rfl (hN _ _ ⟨a2,some r,rfl,s23,h23,.inr ⟨λz=>(by cases z.1),rfl⟩⟩))
  |none=>
   refine AX rfl ⟨_,rfl,da,_,_,_,rfl,rfl,AJ.of (s23.get hda),Af (j:=0) i0,rfl,_,rfl,Dh (λc=>?_) (λc=>?_)⟩
   ·have c':w=W4:=V.str.inj (aE c);refine⟨_,rfl,_,rfl,da,_,_,_,rfl,rfl,AJ.of (s23.get hda),Af (j:=2) i2,d,x2,2,rs,rfl,hd.same s23,.inr rfl,(λz=>absurd z (by decide)),(λ_ b hb=>⟨_,rfl,?_⟩)⟩;cases b with
    |true=>exact Av rfl (hN _ _ ⟨a2,none,rfl,s23,h23,.inr ⟨λz=>z.2.2 (hb.mp rfl),rfl⟩⟩)
    |false=>
     refine AX rfl ⟨_,rfl,da,_,_,_,rfl,rfl,AJ.of (s23.get hda),Af (j:=2) i2,Ef,λa na=>hN _ _ ⟨a,some (.noName x2),rfl,s23.trans (Ah na _),Ac,.inl ⟨rfl,c',λz=>?_,rfl⟩⟩⟩;have:=hb.mpr z;cases this
   ·exact Av rfl (hN _ _ ⟨a2,none,rfl,s23,h23,.inr ⟨λz=>c (au (by rw[z.2.1])),rfl⟩⟩)
 rintro σ' H3 ⟨a3,r3,rfl,s3,h3,m3⟩
 refine FT (λσ' H'=>∃a r4,σ'=[some (.ref kd),some (.ref d),some (.ref da),some (.ref a)]/\AA H H'/\H' a=some (.tup (HZ r4))/\((r3=none/\w≠W3/\xl∉ks/\r4=some (.noName xl))\/(¬(r3=none/\w≠W3/\xl∉ks)/\r4=r3))) (λN hN=>?_) ?_
 ·refine⟨_,rfl,D0,λp np=>?_⟩;have s4:=Ah np (.tup [V.str OK]);have h4:(upd H3 p (.tup [V.str OK])) p=some (.tup [V.str OK]):=Ac
  change Uy _ _ (upd H3 p (.tup [V.str OK])) _
  generalize upd H3 p (.tup [V.str OK])=H4 at s4 h4;have s34:=s3.trans s4;have h34:=s4.get h3;refine⟨IK r3,OK,p,FU h34,rfl,h4,_,rfl,?_⟩;rw[OF];cases r3 with
  |some r=>exact Av rfl (Av rfl (hN _ _ ⟨a3,some r,rfl,s34,h34,.inr ⟨λz=>(by cases z.1),rfl⟩⟩))
  |none=>
   refine AX rfl ⟨_,rfl,da,_,_,_,rfl,rfl,AJ.of (s34.get hda),Af (j:=0) i0,rfl,_,rfl,Dh (λc=>?_) (λc=>?_)⟩
   ·have c':w≠W3:=λe=>by
     rw[e] at c;exact absurd c (by decide +kernel)
    obtain⟨v,g,ev⟩:=UG (s34.get hk) xl nk;refine⟨_,rfl,_,rfl,da,_,_,_,rfl,rfl,AJ.of (s34.get hda),il,_,rfl,kd,v,rfl,g,_,rfl,?_⟩;rw[ev]
    by_cases m:xl∈ks
    ·rw[au m];exact Av rfl (hN _ _ ⟨a3,none,rfl,s34,h34,.inr ⟨λz=>z.2.2 m,rfl⟩⟩)
    ·rw[aG m];exact AX rfl ⟨_,rfl,_,rfl,da,_,_,_,rfl,rfl,AJ.of (s34.get hda),il,Ef,λa na=>hN _ _ ⟨a,some (.noName xl),rfl,s34.trans (Ah na _),Ac,.inl ⟨rfl,c',m,rfl⟩⟩⟩
   ·exact Av rfl (hN _ _ ⟨a3,none,rfl,s34,h34,.inr ⟨λz=>c (by rw[d8,aG λe=>z.2.1 (V.str.inj e)]),rfl⟩⟩)
 rintro σ' H4 ⟨a4,r4,rfl,s4,h4,m4⟩
 refine FT (λσ' H'=>∃a r,σ'=[some (.ref kd),some (.ref d),some (.ref da),some (.ref a)]/\AA H H'/\H' a=some (.tup (HZ r))/\((r4=none/\(ents rs).length=24/\r=some .many)\/(¬(r4=none/\(ents rs).length=24)/\r=r4))) (λN hN=>?_) ?_
 ·refine⟨_,rfl,D0,λp np=>?_⟩;have s5:=Ah np (.tup [V.str OK]);have h5:(upd H4 p (.tup [V.str OK])) p=some (.tup [V.str OK]):=Ac
  change Uy _ _ (upd H4 p (.tup [V.str OK])) _
  generalize upd H4 p (.tup [V.str OK])=H5 at s5 h5;have s45:=s4.trans s5;have h45:=s5.get h4;refine⟨IK r4,OK,p,FU h45,rfl,h5,_,rfl,?_⟩;rw[OF];cases r4 with
  |some r=>exact Av rfl (Av rfl (hN _ _ ⟨a4,some r,rfl,s45,h45,.inr ⟨λz=>(by cases z.1),rfl⟩⟩))
  |none=>
   refine AX rfl ⟨_,rfl,d,_,rfl,s45.get hd.at_,rfl,_,rfl,Dh (λc=>?_) (λc=>?_)⟩
   ·have c':=V.int.inj (aE c);rw[ae] at c';exact⟨D0,λa na=>hN _ _ ⟨a,some .many,rfl,s45.trans (Ah na _),Ac,.inl ⟨rfl,by rw[ae];omega,rfl⟩⟩⟩
   ·refine hN _ _ ⟨a4,none,rfl,s45,h45,.inr ⟨λz=>c (au ?_),rfl⟩⟩;have z2:=z.2;rw[ae] at z2 ⊢;rw[z2];rfl
 rintro σ' H5 ⟨a5,r5,rfl,s5,h5,m5⟩
 exact⟨_,rfl,q r5 a5 H5 ⟨r2,r3,r4,m2,m3,m4,m5⟩ s5 h5⟩
end
theorem TY (rs:List Rw)(z:Str):Lg (Iv rs) (.inr z)=Iv (rs.filter λr=>!decide (r.2.nm=z)):=by
 unfold Lg Iv;rw[cy]
 congr 1
 refine d6 λr _=>?_
 by_cases c:r.2.nm=z<;>simp[c]
theorem RowsAt.ne_d {H:Hp}{d:Addr}{rs:List Rw}(h:RowsAt H d rs){r:Rw}(m:r∈rs):r.1≠d:=λw=>by
 have:=h.ls r m;rw[w,h.at_] at this;cases this
theorem RowsAt.cut {H H':Hp}{d:Addr}{rs:List Rw}(h:RowsAt H d rs)(p:Rw->Bool)(k:Kx d H H')(at_:H' d=some (.dK (Iv (rs.filter p)))):RowsAt H' d (rs.filter p):=
 ⟨at_,λr hr=>k.keep _ _ (h.ne_d (av.mp hr).1) (h.ls r (av.mp hr).1),h.nd.sublist (List.filter_sublist.map _),h.na.sublist (List.filter_sublist.map _)⟩
section
variable {P:Program}{w:World}{K:W.Frag}{mg:Str->Option Value}{base:Heap}{f C:Addr}{XC:Nat->Addr}{fd:FuncData}{PT PU:Addr}
def G1 (K:W.Frag):Sp:=λvs H Q _=>∃(d:Addr) (nm:Str) (rs:List Rw) (m:Int),vs=[.ref d,.str nm]/\RowsAt H d rs/\Wl m (ents rs)/\
 (∀r a H',Ref [] (ents rs) (.drop nm) (some r)->AA H H'->H' a=some (.tup (HZ (some r)))->Q (.ref a) H')/\
 (∀rs' a H',Ref [] (ents rs) (.drop nm) none->(∀n,Step n (ents rs) (ents rs') (.drop nm))->Kx d H H'->RowsAt H' d rs'->(∀r∈rs',∃r0∈rs,r.1=r0.1)->H' a=some (.tup (HZ none))->Q (.ref a) H')
theorem N7 (T:Txt K mg C XC)(F:Fun K "_law_gone" "_law_gone" DP f fd)(Bu:Def P w K mg base 1 "_law_seals" ["_law_rows","_law_stem"] (Dg K)):FnOk P w K mg base EL 2 f fd ["_law_rows","_law_name"] (G1 K):=by
 exists C3
 ·obtain⟨d,nm,rs,m,rfl,_⟩:=h;rfl
 obtain⟨d,nm,rs,m,rfl,hd,wl,q1,q2⟩:=h;have hu:=ES hr;refine⟨_,(!Ai (!AL (!Et (!Ik hu (pv 1) (pv 0)) (by first|exact Bl _ (by decide) (by decide)|rfl)) (!Ag (!Au (!AF (!Aa (!Aq) (!Aa (pv 1) (!Ab)))))) (!Aw)) (!Ai (@AE _ _ (2) _ _ _ _ C3.nd rfl (by trivial) (!BU (!Aa (pv 1) (!Ab))) (by rfl) (by trivial)) (!Ai (!AL (!Ar Bp (!Aj AQ (!Bf hu (pv 0) (pv 1) (λ_ _=>rfl)) (!Ae) (λ_ _=>rfl)) (!Ae) (AC _)) (!Ag (@AE _ _ (2) _ _ _ _ C3.nd rfl (by trivial) (!AV Ij (pv 2) (@Ed _ ["_law_turn","_law_seal"] _ _ _ _ _ _ _ _ _ _ rfl (!B7 (!AO Bu (by trivial) rfl (!Aa (pv 0) (!Aa (pv 1) (!Ab))))) (by decide +kernel) (λC s H fp=>⟨(@VE _ (K) _ _ _ _ (2) (by rfl) rfl (!JI (@AS _ _ (0) _ (show(["_law_turn","_law_seal"]:List Str).Nodup by decide +kernel) rfl (by trivial) (by trivial)) (!JI (@AS _ _ (1) _ (show(["_law_turn","_law_seal"]:List Str).Nodup by decide +kernel) rfl (by trivial) (by trivial)) (!RW))) (by rfl) (by rfl)),(!BR),(pv 1)⟩) (by intro _;rfl))) (by rfl) (by trivial))) (!Aw)) (!Ai (!Um (@LF _ ["_law_other","_law_rows"] [none,some 0] (3) _ _ _ _ _ _ _ _ _ _ _ _ _ _ C3.nd rfl (by trivial) rfl (!LB (pv 0)) (by rfl) rfl (by repeat (first|exact trivial|refine⟨rfl,?_⟩)) (by repeat (first|exact trivial|refine⟨λh=>(by first|exact⟨_,rfl⟩|cases h),?_⟩)) (λC s H fp=>⟨(@AS _ _ (0) _ (show(["_law_other","_law_rows"]:List Str).Nodup by decide +kernel) rfl (by trivial) (by trivial)),(!EX (!Ar Bp (!Aj (FC (K:=K) (by rfl)) (!Bf hu (pv 1) (pv 0) (λ_ _=>rfl)) (!Ae) (λ_ _=>rfl)) (!Ae) (AC _))),(!Aj (FC (K:=K) (by rfl)) (!Bf hu (pv 1) (pv 0) (λ_ _=>rfl)) (!Ae) (λ_ _=>rfl))⟩) (by intro _;rfl) (by rfl) (by trivial))) (!Ai (!GB bR rfl (!B7 (!AM (MA (K:=K) (by rfl)) (by rfl) T.b_sorted Fo (!Aa (pv 2) (!Ab)))) (@AS _ _ (4) _ C3.nd rfl (by trivial) (by trivial)) (!Ag (!AL (!Ar KU (pv 4) (pv 3)) (!Ag (!Au (!AF (!Aa (!Aq) (!Aa (pv 4) (!Ab)))))) (!Aw))) (by intro _;rfl)) (!Ai (!GB bR rfl (!B7 (pv 2)) (@AS _ _ (4) _ C3.nd rfl (by trivial) (by trivial)) (!Ag (!A3 (!Us (pv 0) (pv 4) ⟨rfl,rfl,rfl,rfl⟩))) (by intro _;rfl)) (!Ag (!Au (!AF (!Aa (!Aq) (!Ab))))))))))),?_⟩
 try dsimp only[AZ,Cx.nox,Cx.wish]
 have few:rs.length<=24:=by have:=wl.few;rw[ae] at this;exact this
 by_cases mem:nm∈rs.map λr=>r.2.nm
 case neg=>
  refine⟨_,rfl,_,rfl,d,_,rfl,hd.no mem,_,rfl,AX rfl ⟨_,rfl,Ef,λa na=>?_⟩⟩;exact q1 _ a _ (.drop0 nm λz=>mem (IG.mp z)) (Ah na _) Ac
 obtain⟨r0,hr0,en0⟩:=hd.has mem;have g0:=hd.get hr0;rw[en0] at g0;refine⟨_,rfl,_,rfl,d,_,rfl,g0,_,rfl,Av rfl ?_⟩;refine⟨_,rfl,D0,λl0 nl0=>?_⟩;have s0:=Ah nl0 (.lst [V.str nm]);have h0:(upd H l0 (.lst [V.str nm])) l0=some (.lst [V.str nm]):=Ac;generalize upd H l0 (.lst [V.str nm])=H0 at s0 h0;dsimp only[BD];refine FT (λσ' H'=>∃(l:Addr) (zs:List Str),σ'=[some (.ref d),some (.str nm),some (.ref l),none,none]/\AA H H'/\H' l=some (.lst (zs.map V.str))/\zs.Nodup/\zs.length<=60/\∀z,z∈zs↔z=nm\/(Bd nm (ents rs)/\∃n t,En.sl z nm n t∈ents rs)) (λN hN=>?_) ?_
 ·have hd0:=hd.same s0;have g0:=s0.get (hd.ls r0 hr0);have gd:=hd0.get hr0;rw[en0] at gd;refine⟨_,rfl,_,rfl,d,_,rfl,gd,r0.1,_,_,_,rfl,rfl,AR.of g0,Af (R1 _),rfl,_,rfl,Dh (λc=>?_) (λc=>?_)⟩
  ·have hst:Bd nm (ents rs):=by
    have:=(hd.kd1 hr0).mp (V.int.inj (aE c));rw[en0] at this;exact this
   refine⟨_,rfl,_,rfl,_,rfl,d,nm,rs,rfl,hd0,few,JB wl.nd wl.tn nm,λbs l1 H1 pm pw s1 h1 hb=>⟨l1,rfl,⟨_,AR.of h1⟩,?_⟩⟩;have few2:bs.length<=24:=by
    have e1:=pm.length_eq;have e2:=bf (λe:En=>e.isSl nm) (ents rs);have e3:(ents rs).length=rs.length:=ae _;rw[ae] at e1;omega
   refine Sq (ps:=bs) (g:=λb=>b.1) (A:=λb=>V.int b.2.turn) (B:=λb=>V.str b.2.nm) (f:=λb=>V.str b.2.nm) (Cv (AR.of h1)) hb (by omega) rfl (by decide) (λb hb' H' R s' hR=>⟨_,rfl,hR H' (AA.refl _)⟩) λl9 H9 n9 s9 h9=>?_
   have s09:=s1.trans s9;refine⟨l0,l9,_,_,rfl,rfl,AR.of (s09.get h0),AR.of h9,small (by rw[ae];show 1+bs.length<=1000000;omega),λl2 n2=>?_⟩;have s2:=Ah n2 (.lst ([V.str nm]++bs.map λb=>V.str b.2.nm));have inB:∀z,z∈bs.map (λb=>b.2.nm)↔∃n t,En.sl z nm n t∈ents rs:=λz=>by
    constructor
    ·intro hz;obtain⟨b,hb',rfl⟩:=aa.mp hz;have hf:=pm.mem_iff.mp (aa.mpr ⟨b,hb',rfl⟩);obtain⟨f1,f2⟩:=av.mp hf;cases e:b.2 with
     |st=>rw[e] at f2;cases f2
     |sl nm' s n t=>
      rw[e] at f1 f2;have:s=nm:=aE f2;subst this;exact⟨n,t,f1⟩
    ·rintro⟨n,t,hz⟩
     have hf:=pm.mem_iff.mpr (av.mpr ⟨hz,au rfl⟩);obtain⟨b,hb',e⟩:=aa.mp hf;exact aa.mpr ⟨b,hb',by rw[e];rfl⟩
   refine hN _ _ ⟨l2,nm::bs.map (λb=>b.2.nm),rfl,(s0.trans s09).trans s2,by rw[Ac,aD,ao];rfl,bo.mpr ⟨λz=>?_,?_⟩,by rw[bg,ae];omega,λz=>?_⟩
   ·obtain⟨n,t,z⟩:=(inB nm).mp z;exact NL wl.nd hst ⟨_,_,_,z⟩
   ·have:(bs.map λb=>b.2.nm)=(bs.map (·.2)).map En.nm:=by rw[ao];rfl
    rw[this,(pm.map En.nm).nodup_iff];exact wl.nd.sublist (List.filter_sublist.map _)
   ·rw[aL,inB];exact⟨λh=>h.imp id λh=>⟨hst,h⟩,λh=>h.imp id λh=>h.2⟩
  ·have hns:¬Bd nm (ents rs):=λz=>c (au (by rw[(hd.kd1 hr0).mpr (by rw[en0];exact z)]))
   refine hN _ _ ⟨l0,[nm],rfl,s0,h0,bo.mpr ⟨List.not_mem_nil,bW⟩,by show 1<=60;decide,λz=>?_⟩;rw[ax];exact⟨.inl,λh=>h.elim id λh=>absurd h.1 hns⟩
 rintro σ' H1 ⟨l,zs,rfl,s1,h1,znd,zl,zm⟩
 have hd1:=hd.same s1;have nf:∀o u,H d≠some (.frz o u):=λo u z=>by rw[hd.at_] at z;cases z
 have ogm:∀z,z∈((ents rs).filter λe=>e.isS).map En.og↔∃s k t,En.st s k z t∈ents rs:=λz=>by
  rw[aa];constructor
  ·rintro⟨e,he,rfl⟩
   obtain⟨f1,f2⟩:=av.mp he;cases e with
   |st s k o t=>exact⟨_,_,_,f1⟩
   |sl=>cases f2
  ·rintro⟨s,k,t,h⟩
   exact⟨_,av.mpr ⟨h,rfl⟩,rfl⟩
 refine FT (t:=TJ _ _) (λσ' H'=>∃(lg:Addr),σ'=[some (.ref d),some (.str nm),some (.ref l),some (.ref lg),none]/\AA H1 H'/\H' lg=some (.lst ((((ents rs).filter λe=>e.isS).map En.og).map V.str))) (λN hN=>?_) ?_
 ·refine⟨_,rfl,d,_,rfl,hd1.at_,λo=>?_⟩;have hf:(upd H1 d (.frz o (.dK (Iv rs)))) d=some (.frz o (.dK (Iv rs))):=Ac;have hfl:∀r∈rs,(upd H1 d (.frz o (.dK (Iv rs)))) r.1=some (.lst (Dz r.2)):=λr hr=>by
   rw[An (hd1.ne_d hr)];exact hd1.ls r hr
  have th:∀H2,AA (upd H1 d (.frz o (.dK (Iv rs)))) H2->AA H1 (upd H2 d (.dK (Iv rs))):=λH2 s2=>Gh hd1.at_ s2
  have fre:∀l,(upd H1 d (.frz o (.dK (Iv rs)))) l=none->l≠d:=λl nl w=>by rw[w,hf] at nl;cases nl
  generalize upd H1 d (.frz o (.dK (Iv rs)))=Hf at hf hfl th fre;have it:=Iq hf;rw[ao] at it
  change JC _ _ (rs.map λr=>V.str r.2.nm) at it
  have gf:∀{H'},AA Hf H'->∀r∈rs,Fj H' d (.str r.2.nm) (some (.ref r.1)):=λ{H'} s' r hr=>by
   have g:=Fj.kf (k:=Sum.inr r.2.nm) (s'.get hf);rw[show ET (Iv rs) (.inr r.2.nm)=some (.ref r.1) from Kt (k:=λr:Rw=>.inr r.2.nm) (g:=λr=>.ref r.1) (OD hd.nd) r hr] at g;exact g
  refine B2 (ps:=rs) (λr=>r.2.isS) (λr=>V.str r.2.og) it (by omega) (λr hr H' R s' hR=>?_) (λr hr hp H' R s' hR=>?_) λl2 H2 nl s2 hl2=>?_
  ·have g:=gf s' r hr;have hl:=s'.get (hfl r hr);cases e:r.2 with
   |st nm kp og t=>
    rw[e] at hl g hR;exact⟨_,rfl,_,rfl,d,_,rfl,g,r.1,_,_,_,rfl,rfl,AR.of hl,Af (j:=0) rfl,rfl,_,rfl,hR⟩
   |sl nm kp og t=>
    rw[e] at hl g hR;exact⟨_,rfl,_,rfl,d,_,rfl,g,r.1,_,_,_,rfl,rfl,AR.of hl,Af (j:=0) rfl,rfl,_,rfl,hR⟩
  ·have g:=gf s' r hr;have hl:=s'.get (hfl r hr);cases e:r.2 with
   |sl nm kp og t=>rw[e] at hp;cases hp
   |st nm kp og t=>
    rw[e] at hl g hR;exact⟨_,rfl,_,rfl,d,_,rfl,g,r.1,_,_,_,rfl,rfl,AR.of hl,Af (j:=2) rfl,hR H' (AA.refl _)⟩
  ·refine⟨d,o,_,nf,s2.get hf,hN _ _ ⟨l2,rfl,th H2 s2,?_⟩⟩;rw[An (fre l2 nl),hl2];unfold ents;rw[cy,ao,ao];rfl
 rintro σ' H2 ⟨lg,rfl,s2,hg⟩
 generalize ((ents rs).filter λe=>e.isS).map En.og=OG at ogm hg;have s02:=s1.trans s2;have h2:=s2.get h1;refine⟨_,rfl,l,zs,rfl,AR.of h2,by omega,λts p tp so np=>?_⟩;have s3:=Ah np (.lst (ts.map V.str));have h3:(upd H2 p (.lst (ts.map V.str))) p=some (.lst (ts.map V.str)):=Ac;have hg3:=s3.get hg;have hl3:=s3.get h2;generalize upd H2 p (.lst (ts.map V.str))=H3 at s3 h3 hg3 hl3;have s03:=s02.trans s3;have tsp:=OQ so (by rw[tp.nodup_iff];exact znd);have inmem:nm∈(ents rs).map En.nm:=IG.mpr mem;have stk:∀z,E7 nm (ents rs) z↔z∈zs/\z∈OG:=λz=>by
  unfold E7 Lh;rw[zm,ogm];constructor
  ·rintro⟨h|h,h2⟩
   ·exact⟨.inr h,h2⟩
   ·exact⟨.inl h.2,h2⟩
  ·rintro⟨h|h,h2⟩
   ·subst h;refine⟨.inr ⟨λhst=>?_,rfl⟩,h2⟩;obtain⟨s,k,t,hz⟩:=h2;rcases wl.og _ _ _ _ hz with e|e
    ·obtain⟨_,_,_,hs2⟩:=hst;have:=wl.nb _ hs2;rw[show(En.st z _ _ _).nm=EM from e] at this;exact absurd this (by decide +kernel)
    ·exact NL wl.nd hst e
   ·exact⟨.inl h,h2⟩
 refine⟨p,rfl,⟨_,AR.of h3⟩,Gn (K:=K) (a:=p) (xs:=ts.map V.str) (λi σ H'=>H'=H3/\(∃v,σ=[some (.ref d),some (.str nm),some (.ref l),some (.ref lg),v])/\∀j y,j<i->ts[j]?=some y->y∉OG) ⟨rfl,⟨none,rfl⟩,λj y hj=>absurd hj (Nat.not_lt_zero _)⟩ (λi σ H' _ ⟨e,_⟩=>by rw[e];exact AR.of h3) ?_ ?_⟩
 ·rintro i x σ H' hi ⟨rfl,⟨v,rfl⟩,no⟩
  rw[aJ] at hi;obtain⟨y,hy,rfl⟩:=bA.mp hi;refine⟨_,rfl,_,rfl,lg,_,rfl,.inl (AR.of hg3),rfl,KW _,_,rfl,?_⟩;rw[MN];refine Dh (λc=>?_) (λc=>?_)
  ·have c':=aE c;refine⟨_,rfl,Ef,λa na=>?_⟩;have yz:y∈zs:=tp.mem_iff.mp (aU hy);refine q1 _ a _ (.drop1 nm y inmem ⟨(stk y).mpr ⟨yz,c'⟩,λu hu lt=>?_⟩) (s03.trans (Ah na _)) Ac;obtain⟨u1,u2⟩:=(stk u).mp hu;obtain⟨j,hj,ej⟩:=dM.mp (tp.mem_iff.mpr u1);have hi2:=aH.mp hy;obtain⟨hi3,ei⟩:=hi2;rcases Nat.lt_trichotomy j i with lj|ej2|gj
   ·exact no j u lj (by rw[ak hj,ej]) u2
   ·subst ej2;rw[<-ej,<-ei] at lt;exact cH _ lt
   ·have:=bJ.mp tsp i j hi3 hj gj;rw[ei,ej] at this;exact cH _ (cw lt this)
  ·refine⟨rfl,⟨_,rfl⟩,λj u lj hu=>?_⟩;rcases fe.mp lj with h|rfl
   ·exact no j u h hu
   ·rw[hy] at hu;cases hu;exact cz (bq.mpr c)
 ·rintro σ H' ⟨rfl,⟨v,rfl⟩,no⟩
  rw[ae] at no;have fr:∀z,¬E7 nm (ents rs) z:=λz hz=>by
   obtain⟨u1,u2⟩:=(stk z).mp hz;obtain⟨j,hj,ej⟩:=dM.mp (tp.mem_iff.mpr u1);exact no j z hj (by rw[ak hj,ej]) u2
  have hd3:=hd.same s03;have zin:∀z∈zs,z∈rs.map λr=>r.2.nm:=λz hz=>by
   rcases(zm z).mp hz with rfl|⟨_,n,t,h⟩
   ·exact mem
   ·exact IG.mp (aa.mpr ⟨_,h,rfl⟩)
  refine⟨_,rfl,l,rfl,⟨_,AR.of hl3⟩,Gn (K:=K) (a:=l) (xs:=zs.map V.str) (λi σ Hi=>(∃v,σ=[some (.ref d),some (.str nm),some (.ref l),some (.ref lg),v])/\Kx d H' Hi/\Hi d=some (.dK (Iv (rs.filter λr=>!decide (r.2.nm∈zs.take i))))) ⟨⟨v,rfl⟩,NX (.refl _),?_⟩ (λi σ Hi _ ⟨_,k,_⟩=>AR.of (k.keep _ _ (λz=>by rw[z,hd3.at_] at hl3;cases hl3) hl3)) ?_ ?_⟩
  ·rw[List.take_zero,bQ.mpr λ_ _=>by simp];exact hd3.at_
  ·rintro i x σ Hi hi ⟨⟨v,rfl⟩,k,hdi⟩
   rw[aJ] at hi;obtain⟨y,hy,rfl⟩:=bA.mp hi;obtain⟨hi3,ei⟩:=aH.mp hy;obtain⟨r,hr',er⟩:=hd.has (zin y (aU hy));have ny:y∉zs.take i:=λh=>by
    obtain⟨j,hj,ej⟩:=dM.mp h;rw[List.getElem_take] at ej;rw[ba] at hj;have:=bJ.mp znd j i (by omega) hi3 (by omega);exact this (by rw[ej,ei])
   have tk:zs.take (i+1)=zs.take i++[y]:=by rw[cf,hy];rfl
   have vl:ET (Iv (rs.filter λr=>!decide (r.2.nm∈zs.take i))) (.inr y)=some (.ref r.1):=by
    subst er;exact Kt (k:=λr:Rw=>.inr r.2.nm) (g:=λr=>.ref r.1) ((OD hd.nd).sublist (List.filter_sublist.map _)) r (av.mpr ⟨hr',by rw[aG ny];rfl⟩)
   refine⟨_,rfl,d,rfl,.inl ⟨_,.inl hdi⟩,_,rfl,_,.inr y,.ref r.1,hdi,rfl,vl,⟨_,rfl⟩,k.upd hd3.at_ _,?_⟩;rw[Ac,TY,List.filter_filter,tk]
   congr 3
   refine d6 λx _=>?_
   rw[bH];simp[not_or,and_comm]
  ·rintro σ Hi ⟨⟨v,rfl⟩,k,hdi⟩
   rw[ae,dz] at hdi;have hdc:=hd3.cut _ k hdi;refine⟨D0,λa na=>?_⟩;have s5:=Ah na (.tup [V.str OK]);refine q2 _ a _ (.drop2 nm inmem fr) (λn=>.drop nm (λe=>!decide (e.nm∈zs)) (λe=>?_) ?_) (((NX s03).trans k).trans (NX s5)) (hdc.same s5) (λr hr9=>⟨r,(av.mp hr9).1,rfl⟩) Ac
   ·rw[d8,cF,zm];unfold Lh;constructor
    ·intro h g;rcases g with g|g|g
     ·exact h (.inl g)
     ·exact h (.inr g)
     ·exact h (.inl g.2)
    ·intro h g;rcases g with g|g
     ·exact h (.inl g)
     ·exact h (.inr (.inl g))
   ·unfold ents;rw[cy];exact .refl _
end
theorem Vo {a b:En}(n:a.nm≠b.nm)(l:List En):P3 a (P3 b l)=P3 b (P3 a l):=by
 unfold P3;rw[ao,ao];refine aB λx _=>?_
 show(if(if x.nm=b.nm then b else x).nm=a.nm then a else(if x.nm=b.nm then b else x))=if(if x.nm=a.nm then a else x).nm=b.nm then b else(if x.nm=a.nm then a else x)
 by_cases c:x.nm=b.nm
 ·have d:x.nm≠a.nm:=λe=>n (by rw[<-e,c])
  rw[aw c,aj d,aw c,aj λe=>n e.symm]
 ·by_cases d:x.nm=a.nm
  ·rw[aj c,aw d,aj n]
  ·rw[aj c,aj d,aj c]
def Gm (e:En)(rs:List Rw):List Rw:=rs.map λx=>if x.2.nm=e.nm then(x.1,e) else x
theorem Ih (e:En)(rs:List Rw):ents (Gm e rs)=P3 e (ents rs):=by
 unfold Gm P3 ents;rw[ao,ao];refine aB λx _=>?_
 show(if x.2.nm=e.nm then(x.1,e) else x).2=if x.2.nm=e.nm then e else x.2
 split<;>rfl
theorem JN (e:En)(rs:List Rw):(Gm e rs).map (·.1)=rs.map (·.1):=by
 unfold Gm;rw[ao];refine aB λx _=>?_
 show(if x.2.nm=e.nm then(x.1,e) else x).1=x.1
 split<;>rfl
theorem Vj (e:En)(rs:List Rw):(Gm e rs).map (λr=>r.2.nm)=rs.map λr=>r.2.nm:=by
 unfold Gm;rw[ao];refine aB λx _=>?_
 show(if x.2.nm=e.nm then(x.1,e) else x).2.nm=x.2.nm
 split
 ·next h=>exact h.symm
 ·rfl
theorem RowsAt.set {H:Hp}{d:Addr}{rs:List Rw}(h:RowsAt H d rs){r:Rw}(m:r∈rs){e:En}(en:r.2.nm=e.nm):RowsAt (upd H r.1 (.lst (Dz e))) d (Gm e rs):=by
 refine⟨?_,λx hx=>?_,by rw[Vj];exact h.nd,by rw[JN];exact h.na⟩
 ·rw[An (Ne.symm (h.ne_d m)),h.at_]
  congr 2
  unfold Iv Gm;rw[ao];refine aB λx _=>?_
  show(Sum.inr x.2.nm,V.ref x.1)=((Sum.inr (if x.2.nm=e.nm then(x.1,e) else x).2.nm:Key),V.ref (if x.2.nm=e.nm then(x.1,e) else x).1)
  split
  ·next c=>rw[c]
  ·rfl
 ·obtain⟨y,hy,rfl⟩:=aa.mp hx
  by_cases c:y.2.nm=e.nm
  ·rw[aw c];have:y=r:=B6 (f:=λr:Rw=>r.2.nm) h.nd hy m (by rw[c,en]);rw[this];exact Ac
  ·rw[aj c];have:y.1≠r.1:=λz=>c (by rw[B6 (f:=λr:Rw=>r.1) h.na hy m z,en])
   rw[An this];exact h.ls y hy
structure Kl (as:List Addr) (H H':Hp):Prop where
 keep:∀b o,b∉as->H b=some o->H' b=some o
 there:∀b,H' b=none->H b=none
theorem R3 {as:List Addr}{H H':Hp}(s:AA H H'):Kl as H H':=⟨λb o _ h=>s b o h,λ_ h=>s.free h⟩
theorem Kl.trans {as:List Addr}{H H1 H2:Hp}(a:Kl as H H1)(b:Kl as H1 H2):Kl as H H2:=⟨λc o n h=>b.keep c o n (a.keep c o n h),λc h=>a.there c (b.there c h)⟩
theorem Kl.upd {as:List Addr}{H H1:Hp}{x:Addr}{o0:HO}(a:Kl as H H1)(m:x∈as)(h:H1 x=some o0)(o:HO):Kl as H (upd H1 x o):=by
 refine⟨λb o' n h=>by rw[An (λz:b=x=>n (by rw[z];exact m))];exact a.keep b o' n h,λb hb=>?_⟩
 by_cases z:b=x
 ·rw[z,Ac] at hb;cases hb
 ·rw[An z] at hb;exact a.there b hb
theorem RI {es:List En}{s p nm:Str}{D:List Str}{n:Int}{t:Option Str}{e:En}(nd:(es.map En.nm).Nodup)(h:En.sl nm p n t∈es)(m:e∈es.map (EV s D))(en:e.nm=nm):∃p',e=.sl nm p' n t:=by
 obtain⟨x,hx,rfl⟩:=aa.mp m;rw[GO] at en;have:=B6 nd hx h en;subst this;unfold EV
 split
 ·exact⟨s,rfl⟩
 ·exact⟨p,rfl⟩
theorem Os {es:List En}{s nm k o:Str}{D:List Str}{t:Option Str}{e:En}(nd:(es.map En.nm).Nodup)(h:En.st nm k o t∈es)(m:e∈es.map (EV s D))(en:e.nm=nm):e=.st nm k o t:=by
 obtain⟨x,hx,rfl⟩:=aa.mp m;rw[GO] at en;have:=B6 nd hx h en;subst this;unfold EV
 split<;>rfl
theorem QA {H:Hp}{d:Addr}{rs:List Rw}(h:RowsAt H d rs){nm:Str}(m:nm∈(ents rs).map En.nm):∃r∈rs,r.2.nm=nm:=h.has (IG.mp m)
section
variable {P:Program}{w:World}{K:W.Frag}{mg:Str->Option Value}{base:Heap}{f C:Addr}{XC:Nat->Addr}{fd:FuncData}{PT PU:Addr}
def Fb (K:W.Frag):Sp:=λvs H Q _=>∃(d:Addr) (sm k o:Str) (t:Option Str) (rs:List Rw) (m:Int),vs=[.ref d,.str sm]/\RowsAt H d rs/\Wl m (ents rs)/\En.st sm k o t∈ents rs/\
 (∀r a H',Ref [] (ents rs) (.graft sm) (some r)->AA H H'->H' a=some (.tup (HZ (some r)))->Q (.ref a) H')/\
 (∀rs' a H',Ref [] (ents rs) (.graft sm) none->(∀n,Step n (ents rs) (ents rs') (.graft sm))->Kl (rs.map (·.1)) H H'->RowsAt H' d rs'->rs'.map (·.1)=rs.map (·.1)->H' a=some (.tup (HZ none))->Q (.ref a) H')
theorem Lu (T:Txt K mg C XC)(F:Fun K "_law_grafted" "_law_grafted" Cc f fd)(Bu:Def P w K mg base 1 "_law_seals" ["_law_rows","_law_stem"] (Dg K)):FnOk P w K mg base EL 2 f fd ["_law_rows","_law_stem"] (Fb K):=by
 exists Cn
 ·obtain⟨d,sm,k,o,t,rs,m,rfl,_⟩:=h;rfl
 obtain⟨d,sm,k,o,t,rs,m,rfl,hd,wl,m1,q1,q2⟩:=h;have hu:=ES hr;refine⟨_,(!Ai (@AE _ _ (2) _ _ _ _ Cn.nd rfl (by trivial) (!Aj AQ (!Bf hu (pv 0) (pv 1) (λ_ _=>rfl)) (!Ae) (λ_ _=>rfl)) (by rfl) (by trivial)) (!Ai (!AL (!Ar Bp (pv 2) (!Aq) (AC _)) (!Ag (!Au (!AF (!Aa (!Aq) (!Aa (pv 1) (!Ab)))))) (!Aw)) (!Ai (@AE _ _ (3) _ _ _ _ Cn.nd rfl (by trivial) (!Aj AQ (!Bf hu (pv 0) (pv 2) (λ_ _=>rfl)) (!Ae) (λ_ _=>rfl)) (by rfl) (by trivial)) (!Ai (!GB bR rfl (!B7 (!AO Bu (by trivial) rfl (!Aa (pv 0) (!Aa (pv 3) (!Ab))))) (!TH rfl (!JI (@AS _ _ (4) _ Cn.nd rfl (by trivial) (by trivial)) (!JI (@AS _ _ (5) _ Cn.nd rfl (by trivial) (by trivial)) (!RW)))) (!Ag (!AL (!Ar JQ (pv 4) (!Aj AQ (!Bf hu (pv 0) (pv 2) (λ_ _=>rfl)) (!Ae) (λ_ _=>rfl)) (AC _)) (!Ag (!LR (pv 1) (!MB (!Bf hu (pv 0) (pv 5) (λ_ _=>rfl)) (!Ae) set_list (by intro _;rfl)))) (!Aw))) (by intro _;rfl)) (!Ai (!LR (!Aj AQ (!Bf hu (pv 0) (pv 3) (λ_ _=>rfl)) (!Ae) (λ_ _=>rfl)) (!MB (!Bf hu (pv 0) (pv 1) (λ_ _=>rfl)) (!Ae) set_list (by intro _;rfl))) (!Ai (!LR (pv 2) (!MB (!Bf hu (pv 0) (pv 3) (λ_ _=>rfl)) (!Ae) set_list (by intro _;rfl))) (!Ag (!Au (!AF (!Aa (!Aq) (!Ab))))))))))),?_⟩
 try dsimp only[AZ,Cx.nox,Cx.wish]
 have few:rs.length<=24:=by have:=wl.few;rw[ae] at this;exact this
 obtain⟨r1,hr1,e1⟩:=aa.mp m1;have g1:=hd.get hr1;have y1:=hd.ls r1 hr1;rw[e1] at g1 y1;refine⟨_,rfl,_,rfl,d,_,rfl,g1,r1.1,_,_,_,rfl,rfl,AR.of y1,Af (j:=2) rfl,?_⟩;dsimp only[BD];refine⟨_,rfl,rfl,_,rfl,?_⟩;rw[EJ];refine Dh (λc=>?_) (λc=>?_)
 ·have c':=aE c;subst c';refine⟨_,rfl,Ef,λa na=>?_⟩;exact q1 _ a _ (.graft1 sm k t m1) (Ah na _) Ac
 have ne:o≠EM:=cz (bq.mpr c);obtain⟨p,tn,t2,m2⟩:=(wl.og _ _ _ _ m1).resolve_left ne;obtain⟨k3,o3,t3,m3⟩:=(wl.sm _ _ _ _ m2).1;obtain⟨r2,hr2,e2⟩:=aa.mp m2;have g2:=hd.get hr2;have y2:=hd.ls r2 hr2;rw[e2] at g2 y2;refine⟨_,rfl,_,rfl,d,_,rfl,g2,r2.1,_,_,_,rfl,rfl,AR.of y2,Af (j:=1) rfl,?_⟩;dsimp only[BD];refine⟨_,rfl,_,rfl,d,p,rs,rfl,hd,few,JB wl.nd wl.tn p,λbs l H1 pm pw s1 h1 hb=>?_⟩;have inB:∀b∈bs,∃nm n t,b.2=.sl nm p n t/\En.sl nm p n t∈ents rs:=λb hb'=>by
  have hf:=pm.mem_iff.mp (aa.mpr ⟨b,hb',rfl⟩);obtain⟨f1,f2⟩:=av.mp hf;cases e:b.2 with
  |st=>rw[e] at f2;cases f2
  |sl nm' s n t=>
   rw[e] at f1 f2;have:s=p:=aE f2;subst this;exact⟨nm',n,t,rfl,f1⟩
 have hd1:=hd.same s1;have noA:∀{b:Addr} {o:HO},H1 b=some o->(∀n r,o≠.lst (.int n::r))->b∉rs.map (·.1):=λ{b o} h n z=>by
  obtain⟨r,hr',rfl⟩:=aa.mp z;rw[hd1.ls r hr'] at h;obtain⟨i,x,e⟩:=RS r.2;exact n i x (by rw[<-e];exact(aI h).symm)
 have nl:l∉rs.map (·.1):=noA h1 λn r z=>by
  cases bs with
  |nil=>cases z
  |cons=>cases z
 have nde:((ents rs).map En.nm).Nodup:=wl.nd;have lst_of:∀{rsi:List Rw} {D:List Str},ents rsi=(ents rs).map (EV sm D)->∀nm,nm∈(ents rs).map En.nm->nm∈(ents rsi).map En.nm:=λ{rsi D} e nm h=>by
  rw[e,ao,show(En.nm∘EV sm D)=En.nm from funext λx=>GO sm D x];exact h
 refine⟨l,rfl,⟨_,AR.of h1⟩,Gn (K:=K) (a:=l) (xs:=bs.map λb=>V.ref b.1) (λi σ Hi=>∃(rsi:List Rw) (v4 v5:Option V),σ=[some (.ref d),some (.str sm),some (.str o),some (.str p),v4,v5]/\Kl (rs.map (·.1)) H1 Hi/\RowsAt Hi d rsi/\rsi.map (·.1)=rs.map (·.1)/\ents rsi=(ents rs).map (EV sm (((bs.take i).filter λb=>decide (b.2.turn<=tn)).map λb=>b.2.nm))) ⟨rs,none,none,rfl,R3 (.refl _),hd1,rfl,?_⟩ (by rintro i σ Hi _ ⟨_,_,_,_,k,_⟩;exact AR.of (k.keep _ _ nl h1)) ?_ ?_⟩
 ·conv=>lhs;rw[<-eF (ents rs)]
  exact aB λe _=>rfl
 ·rintro i x σ Hi hi ⟨rsi,v4,v5,rfl,ki,hdi,ea,ee⟩
  rw[aJ] at hi;obtain⟨b,hb',rfl⟩:=bA.mp hi;obtain⟨nm,n,t0,eb,mb⟩:=inB b (aU hb');have yb:=ki.keep _ _ (noA (hb b (aU hb')) λ_ _ z=>by cases z) (hb b (aU hb'));have tk:bs.take (i+1)=bs.take i++[b]:=by rw[cf,hb'];rfl
  rw[eb] at yb;obtain⟨ro,hro,eo⟩:=QA hdi (lst_of ee o (aa.mpr ⟨_,m2,rfl⟩));have go:=hdi.get hro;have yo:=hdi.ls ro hro;obtain⟨p',ep'⟩:=RI nde m2 (by rw[<-ee];exact aa.mpr ⟨ro,hro,rfl⟩) eo;rw[eo] at go;rw[ep'] at yo;refine⟨b.1,_,rfl,AJ.of yb,rfl,_,_,rfl,_,_,rfl,rfl,?_⟩;refine⟨_,rfl,_,rfl,_,rfl,d,_,rfl,go,ro.1,_,_,_,rfl,rfl,AR.of yo,Af (j:=2) rfl,_,_,rfl,rfl,_,rfl,Dh (λc=>?_) (λc=>?_)⟩
  ·have c':n<=tn:=aE c;obtain⟨rb,hrb,erb⟩:=QA hdi (lst_of ee nm (aa.mpr ⟨_,mb,rfl⟩));have gb:=hdi.get hrb;have yb2:=hdi.ls rb hrb;obtain⟨p2,ep2⟩:=RI nde mb (by rw[<-ee];exact aa.mpr ⟨rb,hrb,rfl⟩) erb;rw[erb] at gb;rw[ep2] at yb2;refine⟨_,rfl,_,rfl,_,rfl,d,_,rfl,gb,rb.1,_,1,1,rfl,rfl,yb2,rfl,Gm (.sl nm sm n t0) rsi,_,_,rfl,ki.upd (by rw[<-ea];exact aa.mpr ⟨rb,hrb,rfl⟩) yb2 _,hdi.set (e:=.sl nm sm n t0) hrb (by rw[erb];rfl),by rw[JN];exact ea,?_⟩;rw[Ih,ee,tk,cE,aS,NR nde mb];rw[show List.filter (λb:Addr×En=>decide (b.2.turn<=tn)) [b]=[b] by rw[bC];exact aw (by rw[eb];exact c)];rw[cD,eb];rfl
  ·refine⟨rsi,_,_,rfl,ki,hdi,ea,?_⟩;rw[ee,tk,cE];rw[show List.filter (λb:Addr×En=>decide (b.2.turn<=tn)) [b]=[] by rw[bC];exact aj (by rw[eb];exact c),bz]
 ·rintro σ Hi ⟨rsi,v4,v5,rfl,ki,hdi,ea,ee⟩
  rw[ae,dz] at ee;have hD:∀nm,nm∈((bs.filter λb=>decide (b.2.turn<=tn)).map λb=>b.2.nm)↔∃n t,En.sl nm p n t∈ents rs/\n<=tn:=λnm=>by
   constructor
   ·intro z;obtain⟨b,hb',rfl⟩:=aa.mp z;obtain⟨g1,g2⟩:=av.mp hb';obtain⟨nm,n0,t0,e,mb⟩:=inB _ g1;rw[e] at g2 ⊢;exact⟨n0,t0,mb,aE g2⟩
   ·rintro⟨n0,t0,z,le⟩
    have hf:=pm.mem_iff.mpr (av.mpr ⟨z,au rfl⟩);obtain⟨b,hb',e⟩:=aa.mp hf;exact aa.mpr ⟨b,av.mpr ⟨hb',by rw[e];exact au le⟩,by rw[e];rfl⟩
  generalize ((bs.filter λb=>decide (b.2.turn<=tn)).map λb=>b.2.nm)=D at hD ee;obtain⟨rp,hrp,erp⟩:=QA hdi (lst_of ee p (aa.mpr ⟨_,m3,rfl⟩));have gp:=hdi.get hrp;have yp:=hdi.ls rp hrp;have ep:=Os nde m3 (by rw[<-ee];exact aa.mpr ⟨rp,hrp,rfl⟩) erp;rw[erp] at gp;rw[ep] at yp;obtain⟨rq,hrq,erq⟩:=QA hdi (lst_of ee sm (aa.mpr ⟨_,m1,rfl⟩));have gq:=hdi.get hrq;have yq:=hdi.ls rq hrq;have eq:=Os nde m1 (by rw[<-ee];exact aa.mpr ⟨rq,hrq,rfl⟩) erq;rw[erq] at gq;rw[eq] at yq;refine⟨_,rfl,_,rfl,d,_,rfl,gp,rp.1,_,_,_,rfl,rfl,AR.of yp,Af (j:=2) rfl,?_⟩;refine⟨_,rfl,_,rfl,d,_,rfl,gq,rq.1,_,2,2,rfl,rfl,yq,rfl,?_⟩;have hd5:RowsAt (upd Hi rq.1 (.lst (Dz (.st sm k o3 t)))) d (Gm (.st sm k o3 t) rsi):=hdi.set hrq (by rw[erq];rfl);have k5:Kl (rs.map (·.1)) H1 (upd Hi rq.1 (.lst (Dz (.st sm k o3 t)))):=ki.upd (by rw[<-ea];exact aa.mpr ⟨rq,hrq,rfl⟩) yq _;have ea5:(Gm (.st sm k o3 t) rsi).map (·.1)=rs.map (·.1):=by rw[JN];exact ea
  have ee5:=Ih (.st sm k o3 t) rsi;rw[ee] at ee5;dsimp only
  change VY _ _ _ _ (upd Hi rq.1 (.lst (Dz (.st sm k o3 t))))
  generalize upd Hi rq.1 (.lst (Dz (.st sm k o3 t)))=H5 at hd5 k5;generalize Gm (.st sm k o3 t) rsi=rs5 at hd5 ea5 ee5;have inp:p∈(ents rs5).map En.nm:=by
   rw[ee5];refine aa.mpr ⟨if p=sm then .st sm k o3 t else .st p k3 o3 t3,aa.mpr ⟨.st p k3 o3 t3,?_,rfl⟩,?_⟩
   ·rw[<-ee,<-ep];exact aa.mpr ⟨rp,hrp,rfl⟩
   ·split
    ·next c=>exact c.symm
    ·rfl
  obtain⟨r5,hr5,er5⟩:=QA hd5 inp;have g5:=hd5.get hr5;have y5:=hd5.ls r5 hr5;have e5:r5.2=.st p k3 o3 t3:=by
   have:r5.2∈ents rs5:=aa.mpr ⟨r5,hr5,rfl⟩;rw[ee5] at this;obtain⟨x,hx,ex⟩:=aa.mp this
   by_cases c:x.nm=(En.st sm k o3 t).nm
   ·rw[aw c] at ex;have ps:sm=p:=by rw[<-er5,<-ex];rfl
    subst ps;obtain⟨rfl,rfl,rfl⟩:=GE nde m1 m3;exact ex.symm
   ·rw[aj c] at ex;rw[<-ex];exact Os nde m3 hx (by rw[ex,er5])
  rw[er5] at g5;rw[e5] at y5;have hd6:RowsAt (upd H5 r5.1 (.lst (Dz (.st p k3 o t3)))) d (Gm (.st p k3 o t3) rs5):=hd5.set hr5 (by rw[er5];rfl);have k6:Kl (rs.map (·.1)) H1 (upd H5 r5.1 (.lst (Dz (.st p k3 o t3)))):=k5.upd (by rw[<-ea5];exact aa.mpr ⟨r5,hr5,rfl⟩) y5 _;have ea6:(Gm (.st p k3 o t3) rs5).map (·.1)=rs.map (·.1):=by rw[JN];exact ea5
  have ee6:=Ih (.st p k3 o t3) rs5;rw[ee5] at ee6;have fin:ents (Gm (.st p k3 o t3) rs5)=(ents rs).map (gr sm p o o3 tn):=by
   rw[ee6,<-PK nde m1 m3 hD]
   by_cases c:p=sm
   ·subst c;obtain⟨rfl,rfl,rfl⟩:=GE nde m1 m3;rfl
   ·exact Vo (show(En.st p k3 o t3).nm≠(En.st sm k o3 t).nm from c) _
  refine⟨_,rfl,_,rfl,_,rfl,d,_,rfl,g5,r5.1,_,2,2,rfl,rfl,y5,rfl,?_⟩;dsimp only
  change Tw _ _ _ (upd H5 r5.1 (.lst (Dz (.st p k3 o t3))))
  generalize upd H5 r5.1 (.lst (Dz (.st p k3 o t3)))=H6 at hd6 k6;generalize Gm (.st p k3 o t3) rs5=rs6 at hd6 ea6 fin;refine⟨D0,λa na=>?_⟩;have s7:=Ah na (.tup [V.str OK]);exact q2 rs6 a _ (.graft2 sm k o t m1 ne) (λn=>.graft sm k o t p tn t2 k3 o3 t3 m1 m2 m3 (.of_eq fin)) (((R3 s1).trans k6).trans (R3 s7)) (hd6.same s7) ea6 Ac
end
structure KD (kd d:Addr) (H H':Hp):Prop where
 keep:∀b o,b≠kd->b≠d->(∀n r,o≠.lst (.int n::r))->H b=some o->H' b=some o
 there:∀b,H' b=none->H b=none
theorem IH {kd d:Addr}{H H':Hp}(s:AA H H'):KD kd d H H':=⟨λb o _ _ _ h=>s b o h,λ_ h=>s.free h⟩
theorem KD.trans {kd d:Addr}{H H1 H2:Hp}(a:KD kd d H H1)(b:KD kd d H1 H2):KD kd d H H2:=⟨λc o n1 n2 n3 h=>b.keep c o n1 n2 n3 (a.keep c o n1 n2 n3 h),λc h=>a.there c (b.there c h)⟩
theorem Kx.kd1 {kd d:Addr}{H H':Hp}(k:Kx d H H'):KD kd d H H':=⟨λb o _ n _ h=>k.keep b o n h,k.there⟩
theorem Kx.kd2 {kd d:Addr}{H H':Hp}(k:Kx kd H H'):KD kd d H H':=⟨λb o n _ _ h=>k.keep b o n h,k.there⟩
theorem RowsAt.no_adr {H:Hp}{d:Addr}{rs:List Rw}(h:RowsAt H d rs){b:Addr}{o:HO}(e:H b=some o)(n:∀n r,o≠.lst (.int n::r)):b∉rs.map (·.1):=λz=>by
 obtain⟨r,hr,rfl⟩:=aa.mp z;rw[h.ls r hr] at e;obtain⟨i,x,e2⟩:=RS r.2;exact n i x (by rw[<-e2];exact(aI e).symm)
theorem Kl.kd {kd d:Addr}{H H':Hp}{rs:List Rw}(k:Kl (rs.map (·.1)) H H')(h:RowsAt H d rs):KD kd d H H':=⟨λb o _ _ n e=>k.keep b o (h.no_adr e n) e,k.there⟩
theorem VI (ks:List Str)(nm:Str):putK (QC ks) (.inr nm) (V.bl true)=QC (if nm∈ks then ks else ks++[nm]):=by
 unfold putK QC;have ea:(ks.map λk=>((Sum.inr k:Key),V.bl true)).any (λkv=>decide (kv.1=Sum.inr nm))=decide (nm∈ks):=by
  rw[bH,eB,bY];constructor
  ·rintro⟨x,hx,e⟩
   obtain⟨k,hk,rfl⟩:=aa.mp hx;rw[<-cL (aE e)];exact hk
  ·exact λh=>⟨_,aa.mpr ⟨nm,h,rfl⟩,au rfl⟩
 rw[ea]
 by_cases c:nm∈ks
 ·rw[aw (au c),aw c,ao];refine aB λk _=>?_
  show(if(Sum.inr k:Key)=Sum.inr nm then((Sum.inr k:Key),V.bl true) else(Sum.inr k,V.bl true))=_
  split<;>rfl
 ·rw[aj (by rw[aG c];exact ai),aj c,aS];rfl
theorem Vu {rs:List Rw}{e:En}{l:Addr}(h:e.nm∉rs.map λr=>r.2.nm):putK (Iv rs) (.inr e.nm) (V.ref l)=Iv (rs++[(l,e)]):=by
 unfold putK Iv;rw[aj,aS]
 ·rfl
 ·intro z;obtain⟨x,hx,ez⟩:=eB.mp z;obtain⟨r,hr,rfl⟩:=aa.mp hx;exact h (aa.mpr ⟨r,hr,cL (aE ez)⟩)
theorem RowsAt.more {H:Hp}{d l:Addr}{rs:List Rw}{e:En}(h:RowsAt H d rs)(hn:e.nm∉rs.map λr=>r.2.nm)(hl:H l=some (.lst (Dz e)))(nl:l∉rs.map (·.1)):RowsAt (upd H d (.dK (Iv (rs++[(l,e)])))) d (rs++[(l,e)]):=by
 have ne:l≠d:=λz=>by rw[z,h.at_] at hl;cases hl
 refine⟨Ac,λr hr=>?_,?_,?_⟩
 ·rcases aP.mp hr with hr|hr
  ·rw[An (h.ne_d hr)];exact h.ls r hr
  ·rw[ax.mp hr,An ne];exact hl
 ·rw[aS,cY];refine⟨h.nd,by simp,λa ha b hb z=>?_⟩;rw[cD,ax] at hb;exact hn (by rw[z,hb] at ha;exact ha)
 ·rw[aS,cY];refine⟨h.na,by simp,λa ha b hb z=>?_⟩;rw[cD,ax] at hb;exact nl (by rw[z,hb] at ha;exact ha)
def De.makes:De->Prop
 | .stem _ _=>True
 | .sea _ _=>True
 | .grow _ _ _=>True
 |_=>False
theorem Ref.any {ks:List Str}{es:List En}{d:De}{r:Option Rf}(h:Ref [] es d r)(n1:∀nm b,d≠.keeper nm b)(n2:¬d.makes):Ref ks es d r:=by
 cases h with
 |keeper nm b=>exact absurd rfl (n1 nm b)
 |stem nm kp=>exact absurd trivial n2
 |sea0 sm nm h=>exact absurd trivial n2
 |sea1 sm nm h=>exact absurd trivial n2
 |grow0 nm sl kp r h=>exact absurd trivial n2
 |grow1 nm sl kp h h2=>exact absurd trivial n2
 |grow2 nm sl kp h=>exact absurd trivial n2
 |write0 sm n h=>exact .write0 sm n h
 |write1 sm n h=>exact .write1 sm n h
 |back0 sm h=>exact .back0 sm h
 |back1 sm h h2=>exact .back1 sm h h2
 |back2 sm h h2=>exact .back2 sm h h2
 |graft0 sm h=>exact .graft0 sm h
 |graft1 sm k t h=>exact .graft1 sm k t h
 |graft2 sm k o t h n=>exact .graft2 sm k o t h n
 |drop0 nm h=>exact .drop0 nm h
 |drop1 nm z h h2=>exact .drop1 nm z h h2
 |drop2 nm h h2=>exact .drop2 nm h h2
theorem Yo:W3≠W4:=by decide +kernel
theorem Yu:W2≠W3:=by decide +kernel
theorem Zl:W2≠W4:=by decide +kernel
theorem S6 {nm kp:Str}{ks:List Str}{es:List En}{r:Option Rf}(few:es.length<=24)(h:Made W2 nm kp kp ks es r):Ref ks es (.stem nm kp) r:=by
 obtain⟨r2,r3,r4,h2,h3,h4,h5⟩:=h;have e2:r2=CL nm (es.map En.nm):=by
  rcases h2 with⟨h,_⟩|⟨_,h⟩
  ·exact absurd h Yu
  ·rw[h,aj Yu]
 have e3:r3=r2:=by
  rcases h3 with⟨_,h,_⟩|⟨_,h⟩
  ·exact absurd h Zl
  ·exact h
 have:r=DC nm kp ks (es.map En.nm):=by
  unfold DC;rw[e3] at h4;rw[<-e2];cases r2 with
  |some z=>
   have e4:r4=some z:=by rcases h4 with⟨h,_⟩|⟨_,h⟩;cases h;exact h
   subst e4;rcases h5 with⟨h,_⟩|⟨_,h⟩
   ·cases h
   ·exact h
  |none=>
   show r=if kp∈ks then(if(es.map En.nm).length<24 then none else some Rf.many) else some (.noName kp)
   by_cases c:kp∈ks
   ·rw[aw c,ae];have e4:r4=none:=by
     rcases h4 with⟨_,_,h,_⟩|⟨_,h⟩
     ·exact absurd c h
     ·exact h
    subst e4;rcases h5 with⟨_,l,h⟩|⟨l,h⟩
    ·rw[aj (by omega)];exact h
    ·rw[aw (by have:es.length≠24:=λz=>l ⟨rfl,z⟩;omega)];exact h
   ·rw[aj c];have e4:r4=some (.noName kp):=by
     rcases h4 with⟨_,_,_,h⟩|⟨h,_⟩
     ·exact h
     ·exact absurd ⟨rfl,Yu,c⟩ h
    subst e4;rcases h5 with⟨h,_⟩|⟨_,h⟩
    ·cases h
    ·exact h
 rw[this];exact .stem nm kp
theorem Ul {sm nm:Str}{ks:List Str}{es:List En}{r:Option Rf}(few:es.length<=24)(h:Made W3 sm nm nm ks es r):Ref ks es (.sea sm nm) r:=by
 obtain⟨r2,r3,r4,h2,h3,h4,h5⟩:=h;have e3:r3=r2:=by
  rcases h3 with⟨_,h,_⟩|⟨_,h⟩
  ·exact absurd h Yo
  ·exact h
 have e4:r4=r3:=by
  rcases h4 with⟨_,h,_⟩|⟨_,h⟩
  ·exact absurd rfl h
  ·exact h
 subst e3 e4;rcases h2 with⟨_,ns,rfl⟩|⟨c,e⟩
 ·have:r=some (.noName sm):=by
   rcases h5 with⟨h,_⟩|⟨_,h⟩
   ·cases h
   ·exact h
  rw[this];exact .sea0 sm nm ns
 ·have hst:Bd sm es:=cX λz=>c ⟨rfl,z⟩
  rw[aw rfl] at e;have:r=match CL nm (es.map En.nm) with|some r=>some r|none=>if(es.map En.nm).length<24 then none else some .many:=by
   rw[<-e,ae];cases r4 with
   |some z=>
    rcases h5 with⟨h,_⟩|⟨_,h⟩
    ·cases h
    ·exact h
   |none=>
    show r=if es.length<24 then none else some Rf.many;rcases h5 with⟨_,l,h⟩|⟨l,h⟩
    ·rw[aj (by omega)];exact h
    ·rw[aw (by have:es.length≠24:=λz=>l ⟨rfl,z⟩;omega)];exact h
  rw[this];exact .sea1 sm nm hst
theorem To {nm sl kp:Str}{ks:List Str}{es:List En}{r:Option Rf}(few:es.length<=24)(h:Made W4 nm sl kp ks es r):Ref ks es (.grow nm sl kp) r:=by
 obtain⟨r2,r3,r4,h2,h3,h4,h5⟩:=h;have e2:r2=CL nm (es.map En.nm):=by
  rcases h2 with⟨h,_⟩|⟨_,h⟩
  ·exact absurd h.symm Yo
  ·rw[h,aj (Ne.symm Yo)]
 have pass:∀z,r3=some z->r=some z:=λz e=>by
  subst e;have e4:r4=some z:=by rcases h4 with⟨h,_⟩|⟨_,h⟩;cases h;exact h
  subst e4;rcases h5 with⟨h,_⟩|⟨_,h⟩
  ·cases h
  ·exact h
 cases er:r2 with
 |some z=>
  have e3:r3=some z:=by
   rcases h3 with⟨h,_⟩|⟨_,h⟩
   ·rw[er] at h;cases h
   ·rw[h,er]
  rw[pass z e3];exact .grow0 nm sl kp z (by rw[<-e2,er])
 |none=>
  rcases h3 with⟨_,_,ns,e3⟩|⟨c,e3⟩
  ·rw[pass _ e3];exact .grow1 nm sl kp (by rw[<-e2,er]) ns
  ·have hsl:Cg sl es:=cX λz=>c ⟨er,rfl,z⟩
   have:r=DC nm kp ks (es.map En.nm):=by
    unfold DC;rw[<-e2,er];show r=if kp∈ks then(if(es.map En.nm).length<24 then none else some Rf.many) else some (.noName kp);rw[er] at e3;subst e3
    by_cases c:kp∈ks
    ·rw[aw c,ae];have e4:r4=none:=by
      rcases h4 with⟨_,_,h,_⟩|⟨_,h⟩
      ·exact absurd c h
      ·exact h
     subst e4;rcases h5 with⟨_,l,h⟩|⟨l,h⟩
     ·rw[aj (by omega)];exact h
     ·rw[aw (by have:es.length≠24:=λz=>l ⟨rfl,z⟩;omega)];exact h
    ·rw[aj c];have e4:r4=some (.noName kp):=by
      rcases h4 with⟨_,_,_,h⟩|⟨h,_⟩
      ·exact h
      ·exact absurd ⟨rfl,Ne.symm Yo,c⟩ h
     subst e4;rcases h5 with⟨h,_⟩|⟨_,h⟩
     ·cases h
     ·exact h
   rw[this];exact .grow2 nm sl kp hsl
theorem SM {d:De}{ks:List Str}{es:List En}(h:Ref ks es d none):(∀nm kp,d=.stem nm kp->nm∉es.map En.nm)/\(∀sm nm,d=.sea sm nm->Bd sm es/\nm∉es.map En.nm)/\(∀nm sl kp,d=.grow nm sl kp->Cg sl es/\nm∉es.map En.nm):=by
 have key:∀{r:Option Rf},Ref ks es d r->r=none->(∀nm kp,d=.stem nm kp->nm∉es.map En.nm)/\(∀sm nm,d=.sea sm nm->Bd sm es/\nm∉es.map En.nm)/\(∀nm sl kp,d=.grow nm sl kp->Cg sl es/\nm∉es.map En.nm):=λ{r} h e=>by
  cases h with
  |stem nm kp=>exact⟨λ_ _ z=>(by cases z;exact(FA (Gs e).1).2),λ_ _ z=>(by cases z),λ_ _ _ z=>(by cases z)⟩
  |sea1 sm nm hh=>
   refine⟨λ_ _ z=>(by cases z),λ_ _ z=>?_,λ_ _ _ z=>(by cases z)⟩;cases z;refine⟨hh,?_⟩;cases e1:CL nm (es.map En.nm) with
   |some r=>rw[e1] at e;cases e
   |none=>exact(FA e1).2
  |grow2 nm sl kp hh=>exact⟨λ_ _ z=>(by cases z),λ_ _ z=>(by cases z),λ_ _ _ z=>(by cases z;exact⟨hh,(FA (Gs e).1).2⟩)⟩
  |sea0 _ _ _=>cases e
  |grow0 _ _ _ _ _=>cases e
  |grow1 _ _ _ _ _=>cases e
  |_=>exact⟨λ_ _ z=>(by cases z),λ_ _ z=>(by cases z),λ_ _ _ z=>(by cases z)⟩
 exact key h rfl
def De.w:De->Str
 | .stem _ _=>W2
 | .sea _ _=>W3
 | .grow _ _ _=>W4
 |_=>W1
def De.x1:De->Str
 | .stem nm _=>nm
 | .sea sm _=>sm
 | .grow nm _ _=>nm
 |_=>W1
def De.x2:De->Str
 | .stem _ kp=>kp
 | .sea _ nm=>nm
 | .grow _ sl _=>sl
 |_=>W1
def De.xl:De->Str
 | .stem _ kp=>kp
 | .sea _ nm=>nm
 | .grow _ _ kp=>kp
 |_=>W1
theorem TV {de:De}(mk:de.makes):(dV de)[0]?=some (.str de.w)/\(dV de)[1]?=some (.str de.x1)/\(dV de)[2]?=some (.str de.x2)/\Jv (dV de) (-1)=some (.str de.xl)/\decide (V.str de.w=V.str W1)=false/\Wn (.str de.w) [.str W2,.str W3,.str W4]=true/\(de.Sz->(if de.w=W3 then de.x2 else de.x1).length<=1000)/\∀ks es r,es.length<=24->Made de.w de.x1 de.x2 de.xl ks es r->Ref ks es de r:=by
 cases de with
 |stem nm kp=>exact⟨rfl,rfl,rfl,rfl,(by show decide (V.str W2=V.str W1)=false;decide +kernel),(by show Wn (.str W2) _=true;decide +kernel),λh=>by show(if W2=W3 then kp else nm).length<=1000;rw[aj Yu];exact h,λ_ _ _ f h=>S6 f h⟩
 |sea sm nm=>exact⟨rfl,rfl,rfl,rfl,(by show decide (V.str W3=V.str W1)=false;decide +kernel),(by show Wn (.str W3) _=true;decide +kernel),λh=>by show(if W3=W3 then nm else sm).length<=1000;rw[aw rfl];exact h,λ_ _ _ f h=>Ul f h⟩
 |grow nm sl kp=>exact⟨rfl,rfl,rfl,rfl,(by show decide (V.str W4=V.str W1)=false;decide +kernel),(by show Wn (.str W4) _=true;decide +kernel),λh=>by show(if W4=W3 then sl else nm).length<=1000;rw[aj (Ne.symm Yo)];exact h,λ_ _ _ f h=>To f h⟩
 |_=>exact False.elim mk
section
variable {P:Program}{w:World}{K:W.Frag}{mg:Str->Option Value}{base:Heap}{f C:Addr}{XC:Nat->Addr}{fd:FuncData}{PT PU:Addr}
theorem Yg {es:List En}{s k o:Str}{t0 t1:Option Str}(nd:(es.map En.nm).Nodup)(m:En.st s k o t0∈es):P3 (.st s k o t1) es=es.map (wr s t1):=by
 unfold P3;refine aB λx hx=>?_
 cases x with
 |st nm k' o' t'=>
  show(if nm=s then _ else _)=if nm=s then En.st nm k' o' t1 else _
  by_cases c:nm=s
  ·rw[aw c,aw c];subst c;obtain⟨rfl,rfl,_⟩:=GE nd hx m;rfl
  ·rw[aj c,aj c]
 |sl nm s' n t'=>
  show(if nm=s then _ else _)=En.sl nm s' n t';exact aj λc:nm=s=>NL nd ⟨_,_,_,m⟩ ⟨s',n,t',by rw[<-c];exact hx⟩
theorem Uq {H:Hp}{d:Addr}{rs:List Rw}{r:Rw}{s k o:Str}{t:Option Str}(h:RowsAt H d rs)(m:r∈rs)(e:r.2=.st s k o t)(t1:Option Str):RowsAt (upd H r.1 (.lst (Dz (.st s k o t1)))) d (Gm (.st s k o t1) rs)/\ents (Gm (.st s k o t1) rs)=(ents rs).map (wr s t1)/\Kl (rs.map (·.1)) H (upd H r.1 (.lst (Dz (.st s k o t1)))):=by
 refine⟨h.set m (by rw[e];rfl),?_,(R3 (.refl _)).upd (aa.mpr ⟨r,m,rfl⟩) (h.ls r m) _⟩;rw[Ih];exact Yg h.ndE (by rw[<-e];exact aa.mpr ⟨r,m,rfl⟩)
theorem GS {H:Hp}{a:Addr}{r:Option Rf}{R:V->Hp->Prop}(h:H a=some (.tup (HZ r)))(q:∀H',AA H H'->R (.bl r.isNone) H'):∀p,H p=none->Uy (.ref a) (.ref p) (upd H p (.tup [.str OK])) R:=λp np=>⟨IK r,OK,p,FU ((Ah np _).get h),rfl,Ac,by rw[OF];exact q _ (Ah np _)⟩
theorem Oa {H:Hp}{d l:Addr}{rs:List Rw}{e:En}(h:RowsAt H d rs)(few:rs.length<=24)(hn:e.nm∉(ents rs).map En.nm)(nl:H l=none):QQ (upd H l (.lst (Dz e))) d (.str e.nm) (.ref l) (upd (upd H l (.lst (Dz e))) d (.dK (Iv (rs++[(l,e)]))))/\RowsAt (upd (upd H l (.lst (Dz e))) d (.dK (Iv (rs++[(l,e)])))) d (rs++[(l,e)])/\Kx d H (upd (upd H l (.lst (Dz e))) d (.dK (Iv (rs++[(l,e)])))):=by
 have s:=Ah nl (.lst (Dz e));have h1:=h.same s;have hn':e.nm∉rs.map λr=>r.2.nm:=λz=>hn (IG.mpr z)
 have p:=QQ.k (k:=Sum.inr e.nm) (v:=V.ref l) h1.at_ (small (by rw[ae];omega));rw[Vu hn'] at p;refine⟨p,h1.more hn' Ac λz=>?_,(NX s:Kx d H _).upd h.at_ _⟩;obtain⟨r,hr,e2⟩:=aa.mp z;have:=h.ls r hr;rw[e2,nl] at this;cases this
def HV (K:W.Frag):Sp:=λvs H Q _=>∃(kd d da:Addr) (ks:List Str) (rs:List Rw) (de:De) (n m:Int),vs=[.ref kd,.ref d,.ref da,.int n]/\H da=some (.tup (dV de))/\de.Sz/\de.Ok/\H kd=some (.dK (QC ks))/\ks.Nodup/\ks.length<=8/\RowsAt H d rs/\Wl m (ents rs)/\kd≠d/\
 (∀r a H',Ref ks (ents rs) de (some r)->AA H H'->H' a=some (.tup (HZ (some r)))->Q (.ref a) H')/\
 (∀ks' rs' a H',Ref ks (ents rs) de none->Step n (ents rs) (ents rs') de->VQ de ks ks'->KD kd d H H'->H' kd=some (.dK (QC ks'))->ks'.Nodup->ks'.length<=8->RowsAt H' d rs'->H' a=some (.tup (HZ none))->Q (.ref a) H')
theorem Qn (T:Txt K mg C XC)(F:Fun K "_law_due" "_law_due" Ej f fd)(HL:Def P w K mg base 3 "_law_made" ["_law_keepers","_law_rows","_law_deed_here"] (Gw K))(Ig:Def P w K mg base 2 "_law_gone" ["_law_rows","_law_name"] (G1 K))(EC:Def P w K mg base 1 "_law_is" ["_law_rows","_law_name","_law_kind"] (GA K))(Cb:Def P w K mg base 1 "_law_is_name" ["_law_name"] (Dk K))(FM:Def P w K mg base 2 "_law_grafted" ["_law_rows","_law_stem"] (Fb K))(Bu:Def P w K mg base 1 "_law_seals" ["_law_rows","_law_stem"] (Dg K)):FnOk P w K mg base EL 4 f fd ["_law_keepers","_law_rows","_law_deed_here","_law_turn"] (HV K):=by
 exists Ln
 ·obtain⟨kd,d,da,ks,rs,de,n,m,rfl,_⟩:=h;rfl
 obtain⟨kd,d,da,ks,rs,de,n,m,rfl,hda,sz,ok,hk,nk,k8,hd,wl,nkd,q1,q2⟩:=h;have hu:=ES hr;have hu9:=LS hr;refine⟨_,(!Ai (!AL (!Ar Bp (!Aj Ak (pv 2) (!Ae) (λ_ _=>rfl)) (!Aq) (AC _)) (!Ai (!AL (!Dd (!CI (!AO Cb (by trivial) rfl (!Aa (!Aj Ak (pv 2) (!Ae) (λ_ _=>rfl)) (!Ab))) (by intro _;rfl))) (!Ag (!Au (!AF (!Aa (!Aq) (!Aa (!Aj Ak (pv 2) (!Ae) (λ_ _=>rfl)) (!Ab)))))) (!Aw)) (!Ai (!AL (@PW.pt _ _ _ (!E8 (!Et (!Ik hu (!Aj Ak (pv 2) (!Ae) (λ_ _=>rfl)) (pv 0)) (by first|exact Bl _ (by decide) (by decide)|rfl)) (!EN (!Ar Bp (!AM K1 (by rfl) T.b_len Eo (!Aa (pv 0) (!Ab))) (!Ae) (AC _))))) (!Ag (!Au (!AF (!Aa (!Aq) (!Ab))))) (!Aw)) (!Ai (!Lz hu (pv 0) (!Aj Ak (pv 2) (!Ae) (λ_ _=>rfl)) (!Lk)) (!Ag (!Au (!AF (!Aa (!Aq) (!Ab)))))))) (!Aw)) (!Ai (!AL (!Ar KU (!Aj Ak (pv 2) (!Ae) (λ_ _=>rfl)) (!AF (!Aa (!Aq) (!Aa (!Aq) (!Aa (!Aq) (!Ab)))))) (!Ai (@AE _ _ (4) _ _ _ _ Ln.nd rfl (by trivial) (!AO HL (by trivial) rfl (!Aa (pv 0) (!Aa (pv 1) (!Aa (pv 2) (!Ab))))) (by rfl) (by trivial)) (!Ai (!AL (@PW.pt _ _ _ (!E8 (!Ar (KI hu9) (pv 4) (!AF (!Aa (!Aq) (!Ab))) (AC _)) (!EN (!Ar Bp (!Aj Ak (pv 2) (!Ae) (λ_ _=>rfl)) (!Aq) (AC _))))) (!Ag (!Lz hu (pv 1) (!Aj Ak (pv 2) (!Ae) (λ_ _=>rfl)) (!BU (!Aa (!Ae) (!Aa (!Aj Ak (pv 2) (!Ae) (λ_ _=>rfl)) (!Aa (!Aq) (!Aa (!Om) (!Ab)))))))) (!Ag (!AL (@PW.pt _ _ _ (!E8 (!Ar (KI hu9) (pv 4) (!AF (!Aa (!Aq) (!Ab))) (AC _)) (!EN (!Ar Bp (!Aj Ak (pv 2) (!Ae) (λ_ _=>rfl)) (!Aq) (AC _))))) (!Ag (!Lz hu (pv 1) (!Aj Ak (pv 2) (!Ae) (λ_ _=>rfl)) (!BU (!Aa (!Ae) (!Aa (!Aj Ak (pv 2) (!Ae) (λ_ _=>rfl)) (!Aa (!Aj Ak (pv 2) (!Ae) (λ_ _=>rfl)) (!Aa (!Aj AQ (!Bf hu (pv 1) (!Aj Ak (pv 2) (!Ae) (λ_ _=>rfl)) (λ_ _=>rfl)) (!Ae) (λ_ _=>rfl)) (!Ab)))))))) (!Ag (!AL (!Ar (KI hu9) (pv 4) (!AF (!Aa (!Aq) (!Ab))) (AC _)) (!Ag (!Lz hu (pv 1) (!Aj Ak (pv 2) (!Ae) (λ_ _=>rfl)) (!BU (!Aa (!Ae) (!Aa (!Aj Ak (pv 2) (!Ae) (λ_ _=>rfl)) (!Aa (pv 3) (!Aa (!Aj AQ (!Bf hu (pv 1) (!Aj Ak (pv 2) (!Ae) (λ_ _=>rfl)) (λ_ _=>rfl)) (!Ae) (λ_ _=>rfl)) (!Ab)))))))) (!Aw)))))) (!Ag (!Au (pv 4))))) (!Aw)) (!Ai (!AL (!Ar Bp (!Aj Ak (pv 2) (!Ae) (λ_ _=>rfl)) (!Aq) (AC _)) (!Ag (!Au (!AO Ig (by trivial) rfl (!Aa (pv 1) (!Aa (!Aj Ak (pv 2) (!Ae) (λ_ _=>rfl)) (!Ab)))))) (!Aw)) (!Ai (!AL (!Dd (!CI (!AO EC (by trivial) rfl (!Aa (pv 1) (!Aa (!Aj Ak (pv 2) (!Ae) (λ_ _=>rfl)) (!Aa (!Ae) (!Ab))))) (by intro _;rfl))) (!Ag (!Au (!AF (!Aa (!Aq) (!Aa (!Aj Ak (pv 2) (!Ae) (λ_ _=>rfl)) (!Ab)))))) (!Aw)) (!Ai (!AL (!Ar Bp (!Aj Ak (pv 2) (!Ae) (λ_ _=>rfl)) (!Aq) (AC _)) (!Ag (!LR (!EF NY (by rfl) T.b_str QF (!Aa (!Aj Ak (pv 2) (!Ae) (λ_ _=>rfl)) (!Ab))) (!MB (!Bf hu (pv 1) (!Aj Ak (pv 2) (!Ae) (λ_ _=>rfl)) (λ_ _=>rfl)) (!Ae) set_list (by intro _;rfl)))) (!Ag (!AL (!Ar Bp (!Aj Ak (pv 2) (!Ae) (λ_ _=>rfl)) (!Aq) (AC _)) (!Ag (!Au (!AO FM (by trivial) rfl (!Aa (pv 1) (!Aa (!Aj Ak (pv 2) (!Ae) (λ_ _=>rfl)) (!Ab)))))) (!Ag (!AL (!Ar (Ww hu) (!AO Bu (by trivial) rfl (!Aa (pv 1) (!Aa (!Aj Ak (pv 2) (!Ae) (λ_ _=>rfl)) (!Ab)))) (!BU (!Ab)) (AC _)) (!Ag (!Au (!AF (!Aa (!Aq) (!Aa (!Aj Ak (pv 2) (!Ae) (λ_ _=>rfl)) (!Ab)))))) (!Ag (!LR (!Aj AQ (!Bf hu (pv 1) (!Aj Ak (!Aj AQ (!AO Bu (by trivial) rfl (!Aa (pv 1) (!Aa (!Aj Ak (pv 2) (!Ae) (λ_ _=>rfl)) (!Ab)))) (!RB Pf (!Ae)) (λ_ _=>rfl)) (!Ae) (λ_ _=>rfl)) (λ_ _=>rfl)) (!Ae) (λ_ _=>rfl)) (!MB (!Bf hu (pv 1) (!Aj Ak (pv 2) (!Ae) (λ_ _=>rfl)) (λ_ _=>rfl)) (!Ae) set_list (by intro _;rfl))))))))) (!Ag (!Au (!AF (!Aa (!Aq) (!Ab)))))))))),?_⟩
 try dsimp only[AZ,Cx.nox,Cx.wish]
 have few:rs.length<=24:=by have:=wl.few;rw[ae] at this;exact this
 have few2:=wl.few
 by_cases mk:de.makes
 case pos=>
  obtain⟨i0,i1,i2,il,w1,win,l12,mref⟩:=TV mk;refine⟨_,rfl,da,_,_,_,rfl,rfl,AJ.of hda,Af (j:=0) i0,rfl,_,rfl,Av w1 ?_⟩;refine⟨_,rfl,da,_,_,_,rfl,rfl,AJ.of hda,Af (j:=0) i0,Hq,λp np=>?_⟩;have s0:=Ah np (.tup [V.str W2,V.str W3,V.str W4]);refine⟨p,_,rfl,.inr (AJ.of Ac),rfl,rfl,_,rfl,AX win ?_⟩;refine⟨_,rfl,_,rfl,_,rfl,kd,d,da,ks,rs,_,de.w,de.x1,de.x2,de.xl,rfl,s0.get hda,i0,i1,i2,il,l12 sz,s0.get hk,nk,hd.same s0,few,λr a H1 hm s1 h1=>?_⟩;have rf:=mref ks (ents rs) r few2 hm;have s01:=s0.trans s1;have hda1:=s01.get hda;have hd1:=hd.same s01;have hk1:=s01.get hk;dsimp only[BD];cases r with
  |some z=>
   refine⟨_,rfl,D0,GS h1 λH2 s2=>⟨_,rfl,Av rfl (Av rfl ?_)⟩⟩;have h2:=s2.get h1;refine⟨_,rfl,D0,GS h2 λH3 s3=>⟨_,rfl,Av rfl (Av rfl ?_)⟩⟩;have h3:=s3.get h2;refine⟨_,rfl,D0,GS h3 λH4 s4=>⟨_,rfl,Av rfl ?_⟩⟩;exact⟨_,rfl,q1 z a H4 rf (((s01.trans s2).trans s3).trans s4) (s4.get h3)⟩
  |none=>
   obtain⟨n1,n2,n3⟩:=SM rf;refine⟨_,rfl,D0,GS h1 λH2 s2=>⟨_,rfl,AX rfl ?_⟩⟩;have h2:=s2.get h1;have s02:=s01.trans s2;have hda2:=s02.get hda;have hd2:=hd.same s02;cases de with
   |stem nm kp=>
    refine⟨_,rfl,da,_,_,_,rfl,rfl,AJ.of hda2,Af (j:=0) rfl,rfl,_,rfl,AX (au rfl) ?_⟩;refine⟨_,rfl,da,_,_,_,rfl,rfl,AJ.of hda2,Af (j:=2) rfl,OR,λl nl=>?_⟩;obtain⟨p1,p2,p3⟩:=Oa (e:=.st nm kp EM none) hd2 few (n1 nm kp rfl) nl;have s3:=Ah nl (.lst (Dz (.st nm kp EM none)));refine⟨_,rfl,_,rfl,da,_,_,_,rfl,rfl,AJ.of (s3.get hda2),Af (j:=1) rfl,d,_,rfl,p1,_,rfl,?_⟩;exact q2 ks _ a _ rf (.stem nm kp (by unfold ents;rw[aS];exact .refl _)) rfl ((IH s02).trans p3.kd1) (p3.keep _ _ nkd (s02.get hk)) nk k8 p2 (p3.keep _ _ (λz=>by rw[z,hd2.at_] at h2;cases h2) h2)
   |sea sm nm=>
    obtain⟨⟨k,o,t,m1⟩,nn⟩:=n2 sm nm rfl;refine⟨_,rfl,da,_,_,_,rfl,rfl,AJ.of hda2,Af (j:=0) rfl,rfl,_,rfl,Av (by decide +kernel) ?_⟩;refine⟨_,rfl,D0,GS h2 λH3 s3=>⟨_,rfl,AX rfl ?_⟩⟩;refine⟨_,rfl,da,_,_,_,rfl,rfl,AJ.of (s3.get hda2),Af (j:=0) rfl,rfl,_,rfl,Av (by decide +kernel) ?_⟩;have h3:=s3.get h2;refine⟨_,rfl,D0,GS h3 λH4 s4=>⟨_,rfl,AX rfl ?_⟩⟩;have h4:=s4.get h3;have s04:=(s02.trans s3).trans s4;have hda4:=s04.get hda;have hd4:=hd.same s04;obtain⟨r1,hr1,e1⟩:=aa.mp m1;have g1:=hd4.get hr1;have y1:=hd4.ls r1 hr1;rw[e1] at g1 y1;refine⟨_,rfl,da,_,_,_,rfl,rfl,AJ.of hda4,Af (j:=1) rfl,_,rfl,_,rfl,_,rfl,da,_,_,_,rfl,rfl,AJ.of hda4,Af (j:=1) rfl,d,_,rfl,g1,r1.1,_,_,_,rfl,rfl,AR.of y1,Af (j:=3) rfl,OR,λl nl=>?_⟩;obtain⟨p1,p2,p3⟩:=Oa (e:=.sl nm sm n t) hd4 few nn nl;have s5:=Ah nl (.lst (Dz (.sl nm sm n t)));refine⟨_,rfl,_,rfl,da,_,_,_,rfl,rfl,AJ.of (s5.get hda4),Af (j:=2) rfl,d,_,rfl,p1,_,rfl,?_⟩;exact q2 ks _ a _ rf (.sea sm nm k o t m1 (by unfold ents;rw[aS];exact .refl _)) rfl ((IH s04).trans p3.kd1) (p3.keep _ _ nkd (s04.get hk)) nk k8 p2 (p3.keep _ _ (λz=>by rw[z,hd4.at_] at h4;cases h4) h4)
   |grow nm sl kp=>
    obtain⟨⟨sm,i,t,m1⟩,nn⟩:=n3 nm sl kp rfl;refine⟨_,rfl,da,_,_,_,rfl,rfl,AJ.of hda2,Af (j:=0) rfl,rfl,_,rfl,Av (by decide +kernel) ?_⟩;refine⟨_,rfl,D0,GS h2 λH3 s3=>⟨_,rfl,AX rfl ?_⟩⟩;refine⟨_,rfl,da,_,_,_,rfl,rfl,AJ.of (s3.get hda2),Af (j:=0) rfl,rfl,_,rfl,AX (au rfl) ?_⟩;have h4:=s3.get h2;have s04:=s02.trans s3;have hda4:=s04.get hda;have hd4:=hd.same s04;obtain⟨r1,hr1,e1⟩:=aa.mp m1;have g1:=hd4.get hr1;have y1:=hd4.ls r1 hr1;rw[e1] at g1 y1;refine⟨_,rfl,da,_,_,_,rfl,rfl,AJ.of hda4,Af (j:=3) rfl,_,rfl,da,_,_,_,rfl,rfl,AJ.of hda4,Af (j:=2) rfl,_,rfl,_,rfl,da,_,_,_,rfl,rfl,AJ.of hda4,Af (j:=2) rfl,d,_,rfl,g1,r1.1,_,_,_,rfl,rfl,AR.of y1,Af (j:=3) rfl,OR,λl nl=>?_⟩;obtain⟨p1,p2,p3⟩:=Oa (e:=.st nm kp sl t) hd4 few nn nl;have s5:=Ah nl (.lst (Dz (.st nm kp sl t)));refine⟨_,rfl,_,rfl,da,_,_,_,rfl,rfl,AJ.of (s5.get hda4),Af (j:=1) rfl,d,_,rfl,p1,_,rfl,?_⟩;exact q2 ks _ a _ rf (.grow nm sl kp sm i t m1 (by unfold ents;rw[aS];exact .refl _)) rfl ((IH s04).trans p3.kd1) (p3.keep _ _ nkd (s04.get hk)) nk k8 p2 (p3.keep _ _ (λz=>by rw[z,hd4.at_] at h4;cases h4) h4)
   |_=>exact False.elim mk
 cases de with
 |keeper nm b=>
  refine⟨_,rfl,da,_,_,_,rfl,rfl,AJ.of hda,Af (j:=0) rfl,rfl,_,rfl,AX (au rfl) ?_⟩;have rf:=Ref.keeper (ks:=ks) (es:=ents rs) nm b;refine⟨_,rfl,da,_,_,_,rfl,rfl,AJ.of hda,Af (j:=1) rfl,nm,rfl,sz,λH1 s1=>⟨_,rfl,?_⟩⟩;cases nb:DB (.str nm) with
  |false=>
   rw[nb,aj ai] at rf;exact AX rfl ⟨_,rfl,da,_,_,_,rfl,rfl,AJ.of (s1.get hda),Af (j:=1) rfl,Ef,λa na=>q1 _ a _ rf (s1.trans (Ah na _)) Ac⟩
  |true=>
   rw[nb,aw rfl] at rf;refine Av rfl ?_;obtain⟨v,g,ev⟩:=UG (s1.get hk) nm nk;have fin:∀H2,AA H H2->(nm∈ks\/ks.length<8)->Ws (VD 0) (X9 (WX K) (VD 2) (tC (.int 1))) (tC (.bl true)) { nx:=Tw (Uk (UQ (tC (.str OK)) Ug)) { nx:=λx H'=>Q V.non H',rt:=Q },rt:=Q } (L2.start ["_law_keepers","_law_rows","_law_deed_here","_law_turn","_law_found"] [.ref kd,.ref d,.ref da,.int n]) H2:=λH2 s2 c=>by
    rw[aw c] at rf;have p:=QQ.k (k:=Sum.inr nm) (v:=V.bl true) (s2.get hk) (small (by rw[ae];omega));rw[VI] at p;refine⟨_,rfl,_,rfl,da,_,_,_,rfl,rfl,AJ.of (s2.get hda),Af (j:=1) rfl,kd,_,rfl,p,?_⟩;have kx:=(NX s2:Kx kd H H2).upd hk (.dK (QC (if nm∈ks then ks else ks++[nm])));have hk3:(upd H2 kd (.dK (QC (if nm∈ks then ks else ks++[nm])))) kd=some (.dK (QC (if nm∈ks then ks else ks++[nm]))):=Ac;have hd3:RowsAt (upd H2 kd (.dK (QC (if nm∈ks then ks else ks++[nm])))) d rs:=by
     refine⟨by rw[An (Ne.symm nkd)];exact s2.get hd.at_,λr hr9=>?_,hd.nd,hd.na⟩;rw[An λz=>by have:=hd.ls r hr9;rw[z,hk] at this;cases this];exact s2.get (hd.ls r hr9)
    generalize upd H2 kd (.dK (QC (if nm∈ks then ks else ks++[nm])))=H3 at kx hk3 hd3;refine⟨D0,λa na=>?_⟩;have s4:=Ah na (.tup [V.str OK]);refine q2 _ rs a _ rf (.keeper nm b (.refl _)) (λz=>?_) (kx.kd2.trans (IH s4)) (s4.get hk3) ?_ ?_ (hd3.same s4) Ac
    ·by_cases e:nm∈ks
     ·rw[aw e];exact⟨.inr,λh=>h.elim (λh=>by rw[h];exact e) id⟩
     ·rw[aj e,aP,ax];exact or_comm
    ·by_cases e:nm∈ks
     ·rw[aw e];exact nk
     ·rw[aj e,cY];exact⟨nk,by simp,λa ha b hb z=>e (by rw[ax.mp hb] at z;rw[<-z];exact ha)⟩
    ·by_cases e:nm∈ks
     ·rw[aw e];exact k8
     ·rw[aj e,aW,bT];have:=c.resolve_left e;omega
   refine⟨_,rfl,da,_,_,_,rfl,rfl,AJ.of (s1.get hda),Af (j:=1) rfl,_,rfl,kd,v,rfl,g,_,rfl,?_⟩;rw[ev]
   by_cases c:nm∈ks
   ·rw[au c];exact Av rfl (Av rfl (fin H1 s1 (.inl c)))
   ·rw[aG c];refine AX rfl ⟨_,rfl,kd,_,rfl,s1.get hk,rfl,_,rfl,Dh (λl=>?_) (λl=>?_)⟩
    ·have l':=V.int.inj (aE l);rw[ae] at l';rw[aj (not_or.mpr ⟨c,by omega⟩)] at rf;exact⟨D0,λa na=>q1 _ a _ rf (s1.trans (Ah na _)) Ac⟩
    ·refine fin H1 s1 (.inr ?_);have:ks.length≠8:=λz=>l (au (by rw[ae,z];rfl))
     omega
 |stem nm kp=>exact False.elim (mk trivial)
 |sea sm nm=>exact False.elim (mk trivial)
 |grow nm sl kp=>exact False.elim (mk trivial)
 |drop nm=>
  refine⟨_,rfl,da,_,_,_,rfl,rfl,AJ.of hda,Af (j:=0) rfl,rfl,_,rfl,Av (by decide +kernel) ?_⟩;refine⟨_,rfl,da,_,_,_,rfl,rfl,AJ.of hda,Af (j:=0) rfl,Hq,λp np=>?_⟩;have s1:=Ah np (.tup [V.str W2,V.str W3,V.str W4]);have hda1:=s1.get hda;refine⟨p,_,rfl,.inr (AJ.of Ac),rfl,rfl,_,rfl,Av (by decide +kernel) ?_⟩;refine⟨_,rfl,da,_,_,_,rfl,rfl,AJ.of hda1,Af (j:=0) rfl,rfl,_,rfl,AX (au rfl) ?_⟩;refine⟨_,rfl,_,rfl,da,_,_,_,rfl,rfl,AJ.of hda1,Af (j:=1) rfl,d,nm,rs,m,rfl,hd.same s1,wl,λr a H' rf s' ha=>?_,λrs' a H' rf st k hd' _ ha=>?_⟩
  ·exact q1 r a H' (rf.any (λ_ _ z=>by cases z) id) (s1.trans s') ha
  ·refine q2 ks rs' a H' (rf.any (λ_ _ z=>by cases z) id) (st n) rfl ((IH s1).trans k.kd1) (k.keep _ _ nkd (s1.get hk)) nk k8 hd' ha
 |graft sm=>
  refine⟨_,rfl,da,_,_,_,rfl,rfl,AJ.of hda,Af (j:=0) rfl,rfl,_,rfl,Av (by decide +kernel) ?_⟩;refine⟨_,rfl,da,_,_,_,rfl,rfl,AJ.of hda,Af (j:=0) rfl,Hq,λp np=>?_⟩;have s1:=Ah np (.tup [V.str W2,V.str W3,V.str W4]);have hda1:=s1.get hda;have hd1:=hd.same s1;refine⟨p,_,rfl,.inr (AJ.of Ac),rfl,rfl,_,rfl,Av (by decide +kernel) ?_⟩;refine⟨_,rfl,da,_,_,_,rfl,rfl,AJ.of hda1,Af (j:=0) rfl,rfl,_,rfl,Av (by decide +kernel) ?_⟩;refine⟨_,rfl,_,rfl,da,_,_,_,rfl,rfl,AJ.of hda1,Af (j:=1) rfl,d,sm,1,rs,rfl,hd1,.inl rfl,(λ_ b hb=>⟨_,rfl,?_⟩),λz=>absurd z (by decide)⟩;cases b with
  |false=>
   refine AX rfl ⟨_,rfl,da,_,_,_,rfl,rfl,AJ.of hda1,Af (j:=1) rfl,Ef,λa na=>?_⟩;exact q1 _ a _ (.graft0 sm λz=>by have:=hb.mpr z;cases this) (s1.trans (Ah na _)) Ac
  |true=>
   obtain⟨k,o,t,m1⟩:=hb.mp rfl;refine Av rfl ?_;refine⟨_,rfl,da,_,_,_,rfl,rfl,AJ.of hda1,Af (j:=0) rfl,rfl,_,rfl,Av (by decide +kernel) ?_⟩;refine⟨_,rfl,da,_,_,_,rfl,rfl,AJ.of hda1,Af (j:=0) rfl,rfl,_,rfl,AX (au rfl) ?_⟩;refine⟨_,rfl,_,rfl,da,_,_,_,rfl,rfl,AJ.of hda1,Af (j:=1) rfl,d,sm,k,o,t,rs,m,rfl,hd1,wl,m1,λr a H' rf s' ha=>?_,λrs' a H' rf st kl hd' _ ha=>?_⟩
   ·exact q1 r a H' (rf.any (λ_ _ z=>by cases z) id) (s1.trans s') ha
   ·exact q2 ks rs' a H' (rf.any (λ_ _ z=>by cases z) id) (st n) rfl ((IH s1).trans (kl.kd hd1)) (kl.keep _ _ (hd1.no_adr (s1.get hk) λ_ _ z=>by cases z) (s1.get hk)) nk k8 hd' ha
 |write sm i=>
  refine⟨_,rfl,da,_,_,_,rfl,rfl,AJ.of hda,Af (j:=0) rfl,rfl,_,rfl,Av (by decide +kernel) ?_⟩;refine⟨_,rfl,da,_,_,_,rfl,rfl,AJ.of hda,Af (j:=0) rfl,Hq,λp np=>?_⟩;have s1:=Ah np (.tup [V.str W2,V.str W3,V.str W4]);have hda1:=s1.get hda;have hd1:=hd.same s1;have hk1:=s1.get hk;refine⟨p,_,rfl,.inr (AJ.of Ac),rfl,rfl,_,rfl,Av (by decide +kernel) ?_⟩;generalize upd H p (.tup [V.str W2,V.str W3,V.str W4])=H1 at s1 hda1 hd1 hk1;refine⟨_,rfl,da,_,_,_,rfl,rfl,AJ.of hda1,Af (j:=0) rfl,rfl,_,rfl,Av (by decide +kernel) ?_⟩;refine⟨_,rfl,_,rfl,da,_,_,_,rfl,rfl,AJ.of hda1,Af (j:=1) rfl,d,sm,1,rs,rfl,hd1,.inl rfl,(λ_ b hb=>⟨_,rfl,?_⟩),λz=>absurd z (by decide)⟩;cases b with
  |false=>
   refine AX rfl ⟨_,rfl,da,_,_,_,rfl,rfl,AJ.of hda1,Af (j:=1) rfl,Ef,λa na=>?_⟩;exact q1 _ a _ (.write0 sm i λz=>by have:=hb.mpr z;cases this) (s1.trans (Ah na _)) Ac
  |true=>
   obtain⟨k,o,t,m1⟩:=hb.mp rfl;refine Av rfl ?_;refine⟨_,rfl,da,_,_,_,rfl,rfl,AJ.of hda1,Af (j:=0) rfl,rfl,_,rfl,AX (au rfl) ?_⟩;obtain⟨r1,hr1,e1⟩:=aa.mp m1;have g1:=hd1.get hr1;have y1:=hd1.ls r1 hr1;rw[e1] at g1 y1;refine⟨_,rfl,da,_,_,_,rfl,rfl,AJ.of hda1,Af (j:=2) rfl,i,rfl,ok.1,(by have:=ok.2;omega),?_⟩;refine⟨_,rfl,_,rfl,da,_,_,_,rfl,rfl,AJ.of hda1,Af (j:=1) rfl,d,_,rfl,g1,r1.1,_,3,3,rfl,rfl,y1,rfl,?_⟩;obtain⟨hd6,ee,kl⟩:=Uq hd1 hr1 e1 (some (QX i));dsimp only
   change Tw _ _ _ (upd H1 r1.1 (.lst (Dz (.st sm k o (some (QX i))))))
   generalize upd H1 r1.1 (.lst (Dz (.st sm k o (some (QX i)))))=H6 at hd6 kl;generalize Gm (.st sm k o (some (QX i))) rs=rs6 at hd6 ee;refine⟨D0,λa na=>?_⟩;have s7:=Ah na (.tup [V.str OK]);exact q2 ks rs6 a _ (.write1 sm i ⟨_,_,_,m1⟩) (.write sm i (.of_eq ee)) rfl (((IH s1).trans (kl.kd hd1)).trans (IH s7)) (s7.get (kl.keep _ _ (hd1.no_adr hk1 λ_ _ z=>by cases z) hk1)) nk k8 (hd6.same s7) Ac
 |back sm=>
  refine⟨_,rfl,da,_,_,_,rfl,rfl,AJ.of hda,Af (j:=0) rfl,rfl,_,rfl,Av (by decide +kernel) ?_⟩;refine⟨_,rfl,da,_,_,_,rfl,rfl,AJ.of hda,Af (j:=0) rfl,Hq,λp np=>?_⟩;have s1:=Ah np (.tup [V.str W2,V.str W3,V.str W4]);have hda1:=s1.get hda;have hd1:=hd.same s1;have hk1:=s1.get hk;refine⟨p,_,rfl,.inr (AJ.of Ac),rfl,rfl,_,rfl,Av (by decide +kernel) ?_⟩;generalize upd H p (.tup [V.str W2,V.str W3,V.str W4])=H1 at s1 hda1 hd1 hk1;refine⟨_,rfl,da,_,_,_,rfl,rfl,AJ.of hda1,Af (j:=0) rfl,rfl,_,rfl,Av (by decide +kernel) ?_⟩;refine⟨_,rfl,_,rfl,da,_,_,_,rfl,rfl,AJ.of hda1,Af (j:=1) rfl,d,sm,1,rs,rfl,hd1,.inl rfl,(λ_ b hb=>⟨_,rfl,?_⟩),λz=>absurd z (by decide)⟩;cases b with
  |false=>
   refine AX rfl ⟨_,rfl,da,_,_,_,rfl,rfl,AJ.of hda1,Af (j:=1) rfl,Ef,λa na=>?_⟩;exact q1 _ a _ (.back0 sm λz=>by have:=hb.mpr z;cases this) (s1.trans (Ah na _)) Ac
  |true=>
   obtain⟨k,o,t,m1⟩:=hb.mp rfl;refine Av rfl ?_;refine⟨_,rfl,da,_,_,_,rfl,rfl,AJ.of hda1,Af (j:=0) rfl,rfl,_,rfl,Av (by decide +kernel) ?_⟩;refine⟨_,rfl,da,_,_,_,rfl,rfl,AJ.of hda1,Af (j:=0) rfl,rfl,_,rfl,Av (by decide +kernel) ?_⟩;refine⟨_,rfl,_,rfl,da,_,_,_,rfl,rfl,AJ.of hda1,Af (j:=1) rfl,d,sm,rs,rfl,hd1,few,JB wl.nd wl.tn sm,λbs l H2 pm pw s2 h2 hb2=>?_⟩;refine⟨SN,λp3 n3=>?_⟩;have s3:=Ah n3 (.lst []);refine⟨l,p3,_,rfl,rfl,AR.of (s3.get h2),AR.of Ac,_,rfl,?_⟩;have inF:∀{nm:Str} {i:Int} {t:Option Str},En.sl nm sm i t∈ents rs->∃b∈bs,b.2=.sl nm sm i t:=λ{nm i t} z=>by
    obtain⟨b,hb',e⟩:=aa.mp (pm.mem_iff.mpr (av.mpr ⟨z,au rfl⟩));exact⟨b,hb',e⟩
   have s13:=(s1.trans s2).trans s3;have hda3:=s13.get hda
   by_cases bn:bs=[]
   ·refine AX (au (by rw[bn];rfl)) ⟨_,rfl,da,_,_,_,rfl,rfl,AJ.of hda3,Af (j:=1) rfl,Ef,λa na=>?_⟩;refine q1 _ a _ (.back1 sm ⟨_,_,_,m1⟩ λ⟨nm,i,t,z⟩=>?_) (s13.trans (Ah na _)) Ac;obtain⟨b,hb',_⟩:=inF z;rw[bn] at hb';cases hb'
   refine Av (aG λz=>bn (dQ.mp z)) ?_;have hd3:=hd.same s13;have hk3:=s13.get hk;generalize upd H2 p3 (.lst [])=H3 at s3 s13 hda3 hd3 hk3;refine⟨_,rfl,_,rfl,_,rfl,da,_,_,_,rfl,rfl,AJ.of hda3,Af (j:=1) rfl,d,sm,rs,rfl,hd3,few,JB wl.nd wl.tn sm,λcs l4 H4 pm4 pw4 s4 h4 hb4=>?_⟩;have nec:cs≠[]:=λz=>by
    have e1:=pm4.length_eq;have e2:=pm.length_eq;rw[ae] at e1 e2;rw[z] at e1;exact bn (fo.mp (by rw[e2,<-e1];rfl))
   obtain⟨ini,b,rfl⟩:∃ini b,cs=ini++[b]:=⟨cs.dropLast,cs.getLast nec,(eL nec).symm⟩
   have mb:=pm4.mem_iff.mp (aa.mpr ⟨b,aN ini (ax.mpr rfl),rfl⟩);obtain⟨f1,f2⟩:=av.mp mb;obtain⟨nm,i,t1,eb⟩:∃nm i t1,b.2=.sl nm sm i t1:=by
    cases e:b.2 with
    |st=>rw[e] at f2;cases f2
    |sl nm s i t1=>
     rw[e] at f2;rw[aE f2];exact⟨_,_,_,rfl⟩
   rw[eb] at f1;have top:∀nm' m' t',En.sl nm' sm m' t'∈ents rs->m'<=i:=λnm' m' t' z=>by
    obtain⟨c,hc,ec⟩:=aa.mp (pm4.mem_iff.mpr (av.mpr ⟨z,au rfl⟩));rcases aP.mp hc with hc|hc
    ·have:=(fH.mp pw4).2.2 c hc b (ax.mpr rfl);rw[show c.2=_ from ec,eb] at this;exact fw this
    ·rw[ax.mp hc] at ec;rw[show b.2=_ from ec] at eb;cases eb;exact fL _
   have s14:=s13.trans s4;have hda4:=s14.get hda;have hd4:=hd.same s14;have hk4:=s14.get hk;have yb:=hb4 b (aN ini (ax.mpr rfl));rw[eb] at yb;obtain⟨rb,hrb,erb⟩:=aa.mp f1;have gb:=hd4.get hrb;have yrb:=hd4.ls rb hrb;rw[erb] at gb yrb;obtain⟨r1,hr1,e1⟩:=aa.mp m1;have g1:=hd4.get hr1;have y1:=hd4.ls r1 hr1;rw[e1] at g1 y1;have atl:Jv ((ini++[b]).map λb=>V.ref b.1) (-1)=some (V.ref b.1):=by
    rw[aS];exact PV _ _
   refine⟨_,rfl,l4,_,_,_,rfl,rfl,AR.of h4,atl,b.1,_,_,_,rfl,rfl,AJ.of yb,Af (j:=1) rfl,d,_,rfl,gb,rb.1,_,_,_,rfl,rfl,AR.of yrb,Af (j:=3) rfl,?_⟩;refine⟨_,rfl,_,rfl,da,_,_,_,rfl,rfl,AJ.of hda4,Af (j:=1) rfl,d,_,rfl,g1,r1.1,_,3,3,rfl,rfl,y1,rfl,?_⟩;obtain⟨hd6,ee,kl⟩:=Uq hd4 hr1 e1 t1;dsimp only
   change Tw _ _ _ (upd H4 r1.1 (.lst (Dz (.st sm k o t1))))
   generalize upd H4 r1.1 (.lst (Dz (.st sm k o t1)))=H6 at hd6 kl;generalize Gm (.st sm k o t1) rs=rs6 at hd6 ee;refine⟨D0,λa na=>?_⟩;have s7:=Ah na (.tup [V.str OK]);exact q2 ks rs6 a _ (.back2 sm ⟨_,_,_,m1⟩ ⟨_,_,_,f1⟩) (.back sm nm i t1 f1 top (.of_eq ee)) rfl (((IH s14).trans (kl.kd hd4)).trans (IH s7)) (s7.get (kl.keep _ _ (hd4.no_adr hk4 λ_ _ z=>by cases z) hk4)) nk k8 (hd6.same s7) Ac
end
theorem len_app (x y:Str):(x++y).length=x.length+y.length:=Str.length_append _ _
section
variable {P:Program}{w:World}{K:W.Frag}{mg:Str->Option Value}{base:Heap}{f:Addr}{XC:Nat->Addr}{fd:FuncData}
def FW (K:W.Frag):Sp:=λvs H Q _=>∃(c m:Int),vs=[.int c,.int m]/\0<=m/\m<=1000/\
 ∀(r:Addr) (H':Hp) (ns:List Int),AA H H'->H r=none->H' r=some (.lst (ns.map V.int))->ns.length=m.toNat->(∀x∈ns,0<=x/\x<60)->Q (.ref r) H'
theorem Pw (T:Txt K mg C XC)(F:Fun K "_law_row" "_law_row" EE f fd):FnOk P w K mg base EL 1 f fd ["_law_cell","_law_many"] (FW K):=by
 exists EY
 ·obtain⟨c,m,rfl,_⟩:=h;rfl
 obtain⟨c,m,rfl,hm0,hm1,q⟩:=h;refine⟨_,(!Ai (@AE _ _ (2) _ _ _ _ EY.nd rfl (by trivial) (!BU (!Ab)) (by rfl) (by trivial)) (!Ai (!GB bR rfl (!Kc rfl T.b_range (!Aa (pv 1) (!Ab))) (@AS _ _ (3) _ EY.nd rfl (by trivial) (by trivial)) (!Ag (!AL (!PJ JQ P5 (!Ae) (pv 0) (!AV WI (!Ae) (!Ae)) (by with_unfolding_all rfl)) (!Ai (@AE _ _ (4) _ _ _ _ EY.nd rfl (by trivial) (!AV CD (!AV D4 (!AV D4 (!AV LW (!AV CD (pv 0) (!Ae)) (!Ae)) (!AV LW (!AV LW (pv 3) (pv 3)) (!Ae))) (!Ae)) (!Ae)) (by rfl) (by trivial)) (!Ag (!A3 (!Lf bO dc cZ Iu (pv 2) (!Aa (!AV CD (!AV JD (!AV CD (!AV LW (pv 4) (!AV D4 (!AV CD (pv 4) (!Ae)) (!Ae))) (!Ae)) (!Ae)) (!Ae)) (!Ab)))))) (!Ai (!A3 (!Lf bO dc cZ Iu (pv 2) (!Aa (!AV CD (pv 0) (!Ae)) (!Ab)))) (!Ag (@AE _ _ (0) _ _ _ _ EY.nd rfl (by trivial) (!AV JD (pv 0) (!Ae)) (by rfl) (by trivial)))))) (by intro _;rfl)) (!Ag (!Au (pv 2))))),?_⟩
 try dsimp only[AZ,Cx.nox,Cx.wish]
 refine⟨SN,λg hg=>?_⟩;refine⟨_,rfl,m,rfl,by omega,by omega,NA (lo:=0) (n:=m.toNat) (λi σ H2=>∃(ns:List Int) (z:Int) (v u:Option V),σ=[some (.int z),some (.int m),some (.ref g),v,u]/\AA H H2/\H2 g=some (.lst (ns.map V.int))/\ns.length=i/\∀x∈ns,0<=x/\x<60)
  ⟨[],c,none,none,rfl,Ah hg _,Ac,rfl,λ_ h=>nomatch h⟩ ?_ ?_⟩
 ·rintro i σ H2 hi ⟨ns,z,v,u,rfl,s2,hg2,hl,hb⟩
  have app:∀x:Int,0<=x->x<60->∀(z:Int) (v u:Option V),∃(ns':List Int) (z':Int) (v' u':Option V),[some (.int z),some (.int m),some (.ref g),v,u]=[some (.int z'),some (.int m),some (.ref g),v',u']/\AA H (upd H2 g (.lst (ns.map V.int++[.int x])))/\(upd H2 g (.lst (ns.map V.int++[.int x]))) g=some (.lst (ns'.map V.int))/\ns'.length=i+1/\∀x∈ns',0<=x/\x<60:=λx h0 h1 z v u=>
   ⟨ns++[x],z,v,u,rfl,Fv s2 hg _,by rw[Ac,aS];rfl,by rw[aW,hl];rfl,λy hy=>by
    rcases aP.mp hy with hy|hy
    ·exact hb y hy
    ·rw[ax.mp hy];exact⟨h0,h1⟩⟩
  have few:(ns.map V.int).length<sizeLine:=Ir (by rw[ae];omega);refine⟨_,rfl,_,_,rfl,rfl,_,rfl,Dh (λc1=>?_) (λc1=>?_)⟩
  ·refine⟨_,_,rfl,rfl,⟨by decide,by decide,by decide⟩,_,_,rfl,rfl,_,rfl,Dh (λc2=>?_) (λc2=>?_)⟩
   ·refine⟨_,rfl,_,_,rfl,rfl,(by show(0:Int)<2147483629;decide),_,_,rfl,rfl,.inr ⟨by decide,by decide⟩,_,rfl,_,rfl,_,_,rfl,rfl,.inl ⟨by omega,by omega⟩,_,_,rfl,rfl,.inr ⟨by decide,by decide⟩,_,_,rfl,rfl,_,_,rfl,rfl,_,_,rfl,rfl,(by show(0:Int)<2147483647;decide),?_⟩;have b0:=br (z%2147483629*48271+(0+(i:Int))*(0+(i:Int))*69621+7) (show(2147483647:Int)≠0 by decide);have b1:=bc (z%2147483629*48271+(0+(i:Int))*(0+(i:Int))*69621+7) (show(0:Int)<2147483647 by decide);dsimp only;generalize (z%2147483629*48271+(0+(i:Int))*(0+(i:Int))*69621+7)%2147483647=y at b0 b1;refine⟨_,rfl,.inl ⟨rfl,_,AR.of hg2⟩,_,rfl,_,rfl,_,_,rfl,rfl,(by show(0:Int)<65521;decide),_,_,rfl,rfl,_,_,rfl,rfl,.inl ⟨by omega,by omega⟩,_,_,rfl,rfl,(by show(0:Int)<2147483629;decide),_,_,rfl,rfl,⟨by decide,by decide⟩,_,_,rfl,rfl,(by show(0:Int)<60;decide),g,_,_,rfl,rfl,hg2,few,?_⟩;exact app _ (br _ (by decide)) (bc _ (by decide)) _ _ _
   ·refine⟨_,rfl,.inl ⟨rfl,_,AR.of hg2⟩,_,rfl,_,_,rfl,rfl,(by show(0:Int)<60;decide),g,_,_,rfl,rfl,hg2,few,?_⟩;refine⟨_,rfl,_,_,rfl,rfl,⟨by decide,by decide⟩,?_⟩;exact app _ (br _ (by decide)) (bc _ (by decide)) _ _ _
  ·refine⟨_,rfl,Av rfl ?_⟩;refine⟨_,rfl,.inl ⟨rfl,_,AR.of hg2⟩,_,rfl,_,_,rfl,rfl,(by show(0:Int)<60;decide),g,_,_,rfl,rfl,hg2,few,?_⟩;refine⟨_,rfl,_,_,rfl,rfl,⟨by decide,by decide⟩,?_⟩;exact app _ (br _ (by decide)) (bc _ (by decide)) _ _ _
 ·rintro σ H2 ⟨ns,z,v,u,rfl,s2,hg2,hl,hb⟩
  exact⟨_,rfl,q g _ ns s2 hg hg2 hl hb⟩
theorem L5:(C5 LN).length=36:=by decide +kernel
theorem Ya:(C5 LN).Nodup:=by decide +kernel
def Wv (i:Int):Nat:=(C5 LN).getD (i%36).toNat 0
theorem VT {i j:Int}(h:Wv i=Wv j):i%36=j%36:=by
 have i0:=br i (show(36:Int)≠0 by decide);have i1:=bc i (show(0:Int)<36 by decide);have j0:=br j (show(36:Int)≠0 by decide);have j1:=bc j (show(0:Int)<36 by decide)
 by_cases e:(i%36).toNat=(j%36).toNat
 ·omega
 ·exact absurd h (FP Ya (by rw[L5];omega) (by rw[L5];omega) e)
theorem X2 (i:Int):Jv LN.cps.toList (i%36)=some (Wv i)/\Wv i∈C5 LN:=by
 have i0:=br i (show(36:Int)≠0 by decide);have i1:=bc i (show(0:Int)<36 by decide);have hk:(i%36).toNat<(C5 LN).length:=by rw[L5];omega
 have e:Wv i=(C5 LN)[(i%36).toNat]:=by
  show(C5 LN).getD (i%36).toNat 0=_;rw[List.getD_eq_getElem?_getD,ak hk];rfl
 have:=Af (xs:=C5 LN) (j:=(i%36).toNat) (ak hk);rw[show(((i%36).toNat:Nat):Int)=i%36 by omega] at this;exact⟨by rw[e];exact this,by rw[e];exact bB hk⟩
theorem Ur {z:Str}{i:Int}(h0:0<=i)(h1:i<(C5 z).length):∃c,Jv z.cps.toList i=some c/\c∈C5 z:=by
 have hk:i.toNat<(C5 z).length:=by omega
 have ek:((i.toNat:Nat):Int)=i:=by omega
 refine⟨(C5 z)[i.toNat],?_,bB hk⟩;have:=Af (xs:=C5 z) (j:=i.toNat) (ak hk);rw[ek] at this;exact this
theorem Vz (z:Str){i:Int}(h0:0<=i):∃n,C5 (PySem.Txt.slice z (some i) none)=(C5 z).drop n:=by
 have hz:=Dl z
 by_cases h:i<=z.length
 ·refine⟨i.toNat,?_⟩;show C5 (StrLaws.sliceText z (some i) none)=_;rw[StrLaws.sliceText_from ⟨h0,by rw[hz];exact h⟩];refine bj ?_;rw[bX];show(C5 z).length-i.toNat<=(((C5 z).length:Int)-i).toNat;omega
 ·refine⟨z.length,?_⟩;have e:PySem.Builtin.Str.strSliceIndices (some i) none 1 z.length=PySem.Builtin.Str.strSliceIndices (some (z.length:Int)) none 1 z.length:=by
   unfold PySem.Builtin.Str.strSliceIndices;have e1:(if i<0 then i+(z.length:Int) else i)=i:=aj (by omega);have e2:(if(z.length:Int)<0 then(z.length:Int)+(z.length:Int) else(z.length:Int))=z.length:=aj (by omega);simp only[e1,e2];have e3:max 0 (min i (z.length:Int))=max 0 (min (z.length:Int) z.length):=by omega
   rw[e3];simp only[if_pos (show(1:Int)>0 by decide)]
  show C5 (StrLaws.sliceText z (some i) none)=_;have e':StrLaws.sliceText z (some i) none=StrLaws.sliceText z (some (z.length:Int)) none:=by
   unfold StrLaws.sliceText;rw[e]
  rw[e',StrLaws.sliceText_from ⟨by omega,by rw[hz];omega⟩];refine bj ?_;rw[bX];show(C5 z).length-z.length<=(((C5 z).length:Int)-(z.length:Int)).toNat;omega
theorem Qb {M:List Nat}:∀(ys:List V),(∀y∈ys,∃c,y=.str ⟨#[c]⟩/\c∈M)->∃cs:List Nat,ys=(cs.map λc=>(⟨#[c]⟩:Str)).map V.str/\∀c∈cs,c∈M
 |[],_=>⟨[],rfl,λ_ h=>nomatch h⟩
 |y::ys,h=>by
  obtain⟨c,rfl,hc⟩:=h y aM;obtain⟨cs,rfl,hw⟩:=Qb ys λy hy=>h y (aK _ hy)
  refine⟨c::cs,rfl,λx hx=>?_⟩;rcases aL.mp hx with rfl|hx
  ·exact hc
  ·exact hw x hx
theorem SE (cs:List Nat):C5 (PySem.Txt.join EM (cs.map λc=>(⟨#[c]⟩:Str)))=cs:=by
 show C5 (PySem.Builtin.Str.glued EM _)=_;rw[StrLaws.glued_eq_join]
 induction cs with
 |nil=>rfl
 |cons c r ih=>
  cases r with
  |nil=>rfl
  |cons d r=>
   show C5 (⟨#[c]⟩++EM++PySem.Str.join EM (List.map _ (d::r)))=c::d::r;rw[GU,GU,ih];rfl
def Xs (z:Str):Prop:=C5 z≠[]/\z.length<=20/\∀c∈C5 z,c∈C5 LN
def Ga (K:W.Frag):Sp:=λvs H Q _=>∃(a:Addr) (ns:List Int) (m:Int),vs=[.ref a,.int m]/\H a=some (.lst (ns.map V.int))/\ns.length=10/\(∀x∈ns,0<=x/\x<60)/\0<=m/\m<=30/\
 ∀l H' (zs:List Str),AA H H'->H l=none->H' l=some (.lst (zs.map V.str))->zs.length=m.toNat->(∀z∈zs,Xs z)->zs.Nodup->Q (.ref l) H'
theorem Nv (T:Txt K mg C XC)(F:Fun K "_law_names" "_law_names" CS f fd):FnOk P w K mg base EL 1 f fd ["_law_row_here","_law_many"] (Ga K):=by
 exists BM
 ·obtain⟨a,ns,m,rfl,_⟩:=h;rfl
 obtain⟨a,ns,m,rfl,ha,ln,nb,hm0,hm1,q⟩:=h;refine⟨_,(!Ai (@AE _ _ (2) _ _ _ _ BM.nd rfl (by trivial) (!Aq) (by rfl) (by trivial)) (!Ai (@AE _ _ (3) _ _ _ _ BM.nd rfl (by trivial) (!Lf cG PySem.F.slot_str_join PySem.F.type_str_join (Vb rfl) (!Aq) (!Aa (@EH _ ["_law_k","_law_signs","_law_row_here"] [none,some 2,some 0] _ _ _ _ _ _ _ _ _ _ _ rfl (!Kc rfl T.b_range (!Aa (!Ae) (!Ab))) (by rfl) rfl (by repeat (first|exact trivial|refine⟨rfl,?_⟩)) (by repeat (first|exact trivial|refine⟨λh=>(by first|exact⟨_,rfl⟩|cases h),?_⟩)) (λC s H fp=>⟨(@AS _ _ (0) _ (show(["_law_k","_law_signs","_law_row_here"]:List Str).Nodup by decide +kernel) rfl (by trivial) (by trivial)),(!BR),(!Aj Ra (pv 1) (!AV CD (!Aj (FC (K:=K) (by rfl)) (pv 2) (pv 0) (λ_ _=>rfl)) (!Ae)) (λ_ _=>rfl))⟩) (by intro _;rfl)) (!Ab))) (by rfl) (by trivial)) (!Ai (@AE _ _ (4) _ _ _ _ BM.nd rfl (by trivial) (!AV CD (!Aj AQ (pv 0) (!Ae) (λ_ _=>rfl)) (!Ae)) (by rfl) (by trivial)) (!Ai (@AE _ _ (5) _ _ _ _ BM.nd rfl (by trivial) (!BU (!Ab)) (by rfl) (by trivial)) (!Ai (!GB bR rfl (!Kc rfl T.b_range (!Aa (pv 1) (!Ab))) (@AS _ _ (6) _ BM.nd rfl (by trivial) (by trivial)) (!Ai (@AE _ _ (7) _ _ _ _ BM.nd rfl (by trivial) (!AV Je (!DZ Q6 (pv 3) (!FX) (!EI (pv 4))) (!Aj Ra (pv 2) (!AV CD (!AV D4 (!Aj AQ (pv 0) (!Ae) (λ_ _=>rfl)) (pv 6)) (!Ae)) (λ_ _=>rfl))) (by rfl) (by trivial)) (!Ai (@AE _ _ (7) _ _ _ _ BM.nd rfl (by trivial) (!AV Je (pv 7) (!DZ Q6 (pv 3) (!EI (!AV D4 (pv 4) (!Ae))) (!FX))) (by rfl) (by trivial)) (!Ag (!A3 (!Lf bO dc cZ Iu (pv 5) (!Aa (!Aj AQ (!BU (!Aa (pv 7) (!Aa (!DZ Q6 (pv 7) (!FX) (!EI (!AV D4 (pv 4) (!Ae)))) (!Aa (!AV Je (pv 7) (!Aj Ra (pv 2) (pv 6) (λ_ _=>rfl))) (!Ab))))) (!AV CD (!AV D4 (!Aj AQ (pv 0) (!Ae) (λ_ _=>rfl)) (pv 6)) (!Ae)) (λ_ _=>rfl)) (!Ab))))))) (by intro _;rfl)) (!Ag (!Au (pv 5)))))))),?_⟩
 try dsimp only[AZ,Cx.nox,Cx.wish]
 have nn:∀k:Nat,k<10->0<=ns.getD k 0:=λk hk=>by
  have hk':k<ns.length:=by omega
  simp only[List.getD,List.getElem?_eq_getElem hk',Option.getD_some];exact(nb _ (bB hk')).1
 have A7:Jv (ns.map V.int) 7=some (.int (ns.getD 7 0)):=Gb (by decide) (by omega);have A8:Jv (ns.map V.int) 8=some (.int (ns.getD 8 0)):=Gb (by decide) (by omega);have A9:Jv (ns.map V.int) 9=some (.int (ns.getD 9 0)):=Gb (by decide) (by omega);refine⟨rfl,7,rfl,by decide,by decide,?_⟩;refine Ui (xs:=(List.range (7:Int).toNat).map λ(i:Nat)=>V.int (0+(i:Int))) (λ_ y _=>∃c,y=.str ⟨#[c]⟩/\c∈C5 LN) (λ_ _ _ _ h _=>h) (λ_ _ _ _ _ _ h _ _=>h) Rz (by rw[ae,List.length_range];decide) (λx H' R hx s' hR=>?_) λl H1 ys n1 s1 h1 l1 hy=>?_
 ·obtain⟨i,hi,rfl⟩:=aa.mp hx;have hi':i<7:=dJ.mp hi;obtain⟨c,hc,mc⟩:=Ur (z:=LN) (i:=ns.getD (0+(i:Int)).toNat 0%36) (br _ (by decide)) (by rw[L5];exact bc _ (by decide));refine⟨_,rfl,_,rfl,_,rfl,a,_,_,_,rfl,rfl,AR.of (s'.get ha),Gb (by omega) (by omega),_,_,rfl,rfl,(by show(0:Int)<36;decide),LN,_,c,rfl,rfl,small (by decide +kernel),hc,?_⟩;exact hR (.str ⟨#[c]⟩) H' (AA.refl _) (λ_ z=>by cases z) ⟨c,rfl,mc⟩
 obtain⟨cs,rfl,hcs⟩:=Qb ys λy hm=>by
  obtain⟨i,hi⟩:=fK hm;have il:=(aH.mp hi).1;exact(hy i _ y (ak (by omega)) hi).1
 have lcs:cs.length=7:=by
  rw[ae,ae,ae,List.length_range] at l1;exact l1
 have wl:(C5 (PySem.Txt.join EM (cs.map λc=>(⟨#[c]⟩:Str))))=cs:=SE cs;refine⟨l,EM,cs.map λc=>(⟨#[c]⟩:Str),rfl,rfl,AR.of h1,?_,?_⟩
 ·have e:((cs.map λc=>(⟨#[c]⟩:Str)).map (·.length)).sum=cs.length:=by
   rw[ao];have:((λz:Str=>z.length)∘λc=>(⟨#[c]⟩:Str))=λ_:Nat=>1:=rfl
   rw[this]
   clear this hcs h1 hy l1 wl lcs
   induction cs with
   |nil=>rfl
   |cons c cs ih=>rw[aD,List.sum_cons,ih,bg];omega
  rw[e,ae,lcs]
  decide +kernel
 dsimp only;have hwl:(PySem.Txt.join EM (cs.map λc=>(⟨#[c]⟩:Str))).length=7:=by rw[<-Dl,wl,lcs]
 have hwc:∀c∈C5 (PySem.Txt.join EM (cs.map λc=>(⟨#[c]⟩:Str))),c∈C5 LN:=by rw[wl];exact hcs
 generalize PySem.Txt.join EM (cs.map λc=>(⟨#[c]⟩:Str))=wd at hwl hwc;refine⟨_,rfl,a,_,_,_,rfl,rfl,AR.of (s1.get ha),A7,_,_,rfl,rfl,(by show(0:Int)<7;decide),?_⟩;have t0:=br (ns.getD 7 0) (show(7:Int)≠0 by decide);have t1:=bc (ns.getD 7 0) (show(0:Int)<7 by decide);dsimp only;generalize ns.getD 7 0%7=at_ at t0 t1;refine⟨SN,λg hg=>?_⟩;have hgH:H g=none:=s1.free hg;refine⟨_,rfl,m,rfl,by omega,by omega,NA (lo:=0) (n:=m.toNat) (λi σ H2=>∃(zs:List Str) (v u:Option V),σ=[some (.ref a),some (.int m),some (.str LN),some (.str wd),some (.int at_),some (.ref g),v,u]/\AA H H2/\H2 g=some (.lst (zs.map V.str))/\zs.length=i/\(∀z∈zs,Xs z)/\∀(j:Nat) z,zs[j]?=some z->(C5 z)[at_.toNat]?=some (Wv (ns.getD 8 0+(0+(j:Int)))))
  ⟨[],none,none,rfl,s1.trans (Ah hg _),Ac,rfl,(λ_ h=>nomatch h),(λj z h=>by simp at h)⟩ ?_ ?_⟩
 ·rintro i σ H2 hi ⟨zs,v,u,rfl,s2,hg2,hl,hb,hat⟩
  have ha2:=s2.get ha;obtain⟨hc,mc⟩:=X2 (ns.getD 8 0+(0+(i:Int)));generalize ec:Wv (ns.getD 8 0+(0+(i:Int)))=c at hc mc;obtain⟨d,hd,md⟩:=Ur (z:=LN) (i:=0+(i:Int)) (by omega) (by rw[L5];omega);have e1:=Wc wd t0;obtain⟨k,e2⟩:=Vz wd (i:=at_+1) (by omega);have lwd:=Dl wd;have l1:(PySem.Txt.slice wd none (some at_)).length<=7:=by rw[<-Dl,e1,ba];omega
  have l2:(PySem.Txt.slice wd (some (at_+1)) none).length<=7:=by rw[<-Dl,e2,bX];omega
  refine⟨_,rfl,_,rfl,_,rfl,wd,rfl,small (by omega),_,rfl,_,rfl,a,_,_,_,rfl,rfl,AR.of ha2,A8,_,rfl,_,_,rfl,rfl,_,_,rfl,rfl,(by show(0:Int)<36;decide),LN,_,c,rfl,rfl,small (by decide +kernel),hc,_,_,rfl,rfl,small (by show _+1<=1000000;omega),?_⟩;refine⟨_,rfl,_,rfl,_,rfl,_,_,rfl,rfl,_,rfl,wd,rfl,small (by omega),_,_,rfl,rfl,small (by rw[len_app];show _+1+_<=1000000;omega),?_⟩;have oc:C5 (PySem.Txt.slice wd none (some at_)++⟨#[c]⟩++PySem.Txt.slice wd (some (at_+1)) none)=(C5 wd).take at_.toNat++c::(C5 wd).drop k:=by
   rw[GU,GU,e1,e2,List.append_assoc];rfl
  have ol:(PySem.Txt.slice wd none (some at_)++⟨#[c]⟩++PySem.Txt.slice wd (some (at_+1)) none).length<=15:=by
   rw[len_app,len_app];show _+1+_<=15;omega
  dsimp only;generalize PySem.Txt.slice wd none (some at_)++⟨#[c]⟩++PySem.Txt.slice wd (some (at_+1)) none=one at oc ol;have on:Xs one:=⟨by rw[oc];simp,by omega,λx hx=>by
   rw[oc] at hx;rcases aP.mp hx with hx|hx
   ·exact hwc x (cj hx)
   ·rcases aL.mp hx with rfl|hx
    ·exact mc
    ·exact hwc x (fJ hx)⟩
  have e3:=Wc one (j:=at_+1) (by omega);have tn:Xs (PySem.Txt.slice one none (some (at_+1))):=⟨by
    rw[e3];have:=on.1;cases h:C5 one with
    |nil=>exact absurd h this
    |cons x l=>
     rw[show(at_+1).toNat=at_.toNat+1 by omega,List.take_succ_cons];simp,by rw[<-Dl,e3,ba,Dl];omega,λx hx=>by rw[e3] at hx;exact on.2.2 x (cj hx)⟩
  have pn:Xs (one++⟨#[d]⟩):=⟨by rw[GU];simp,by rw[len_app];show one.length+1<=20;omega,λx hx=>by
   rw[GU] at hx;rcases aP.mp hx with hx|hx
   ·exact on.2.2 x hx
   ·rw[ax.mp hx];exact md⟩
  have oat:(C5 one)[at_.toNat]?=some c:=by
   rw[oc,bS (by rw[ba];omega),ba,show at_.toNat-min at_.toNat (C5 wd).length=0 by omega];rfl
  have tat:(C5 (PySem.Txt.slice one none (some (at_+1))))[at_.toNat]?=some c:=by
   rw[e3,List.getElem?_take,aw (by omega)];exact oat
  have pat:(C5 (one++⟨#[d]⟩))[at_.toNat]?=some c:=by
   rw[GU,bV (aH.mp oat).1];exact oat
  refine⟨_,rfl,.inl ⟨rfl,_,AR.of hg2⟩,_,rfl,_,rfl,_,rfl,_,_,rfl,rfl,_,rfl,one,rfl,small (by omega),_,rfl,_,rfl,_,rfl,LN,_,d,rfl,rfl,small (by decide +kernel),hd,_,_,rfl,rfl,small (by show one.length+1<=1000000;omega),Hq,λp hp=>?_⟩;have s3:=Ah hp (.lst [V.str one,V.str (PySem.Txt.slice one none (some (at_+1))),V.str (one++⟨#[d]⟩)]);obtain⟨z,hz,hzn,hza⟩:∃z,Jv [V.str one,V.str (PySem.Txt.slice one none (some (at_+1))),V.str (one++⟨#[d]⟩)] ((ns.getD 9 0+(0+(i:Int)))%3)=some (.str z)/\Xs z/\(C5 z)[at_.toNat]?=some c:=by
   have r0:=br (ns.getD 9 0+(0+(i:Int))) (show(3:Int)≠0 by decide);have r1:=bc (ns.getD 9 0+(0+(i:Int))) (show(0:Int)<3 by decide);generalize (ns.getD 9 0+(0+(i:Int)))%3=r at r0 r1;have:r=0\/r=1\/r=2:=by omega
   rcases this with rfl|rfl|rfl
   ·exact⟨_,rfl,on,oat⟩
   ·exact⟨_,rfl,tn,tat⟩
   ·exact⟨_,rfl,pn,pat⟩
  refine⟨_,rfl,a,_,_,_,rfl,rfl,AR.of (s3.get ha2),A9,_,rfl,_,_,rfl,rfl,_,_,rfl,rfl,(by show(0:Int)<3;decide),p,_,_,_,rfl,rfl,AR.of Ac,hz,g,_,_,rfl,rfl,s3.get hg2,Ir (by rw[ae];omega),?_⟩;refine⟨zs++[z],_,_,rfl,Fv (s2.trans s3) hgH _,by rw[Ac,aS];rfl,by rw[aW,hl];rfl,λy hy=>?_,λj y hj=>?_⟩
  ·rcases aP.mp hy with hy|hy
   ·exact hb y hy
   ·rw[ax.mp hy];exact hzn
  ·by_cases hjl:j<zs.length
   ·rw[bV hjl] at hj;exact hat j y hj
   ·rw[bS (by omega)] at hj;have h0:j-zs.length=0:=by
     have:=(aH.mp hj).1;simp at this;omega
    rw[h0] at hj;cases hj;rw[show j=i by omega,ec];exact hza
 ·rintro σ H2 ⟨zs,v,u,rfl,s2,hg2,hl,hb,hat⟩
  refine⟨_,rfl,q g _ zs s2 hgH hg2 hl hb ?_⟩;refine bJ.mpr λi j hi hj hij e=>?_
  have e1:=hat i _ (ak hi);have e2:=hat j _ (ak hj);rw[e,e2] at e1;have:=VT (aI e1);have l30:zs.length<=30:=by omega
  omega
end
theorem OY {xs:List V}{n:Int}(h:(xs.length:Int)=n)(h0:0<n)(i:Int):∃v∈xs,Jv xs (i%n)=some v:=by
 have b0:=br i (show n≠0 by omega);have b1:=bc i h0;have hk:(i%n).toNat<xs.length:=by omega
 have:=Af (ak hk);rw[show(((i%n).toNat:Nat):Int)=i%n by omega] at this;exact⟨_,bB hk,this⟩
section
variable {P:Program}{w:World}{K:W.Frag}{mg:Str->Option Value}{base:Heap}{f C:Addr}{XC:Nat->Addr}{fd:FuncData}{PT PU:Addr}
def GF (K:W.Frag):Sp:=λvs H Q _=>∃(a an:Addr) (ns:List Int) (zs:List Str) (i:Nat),vs=[.ref a,.int (i:Int),.ref an]/\H a=some (.lst (ns.map V.int))/\ns.length=10/\(∀x∈ns,0<=x/\x<60)/\i+1<10/\H an=some (.lst (zs.map V.str))/\zs.length=26/\(∀z∈zs,z.length<=20)/\
 ∀z H',AA H H'->z.length<=20->Q (.str z) H'
theorem Ot (T:Txt K mg C XC)(F:Fun K "_law_some" "_law_some" DI f fd):FnOk P w K mg base EL 1 f fd ["_law_row_here","_law_at","_law_names_here"] (GF K):=by
 exists OB
 ·obtain⟨a,an,ns,zs,i,rfl,_⟩:=h;rfl
 obtain⟨a,an,ns,zs,i,rfl,ha,ln,nb,hi,han,lz,zb,q⟩:=h;refine⟨_,(!Ai (!AL (!Ar Bp (!AV CD (!Aj AQ (pv 0) (pv 1) (λ_ _=>rfl)) (!Ae)) (!Ae) (AC _)) (!Ag (!Au (!Aj AQ (!BU (!Aa (!Aq) (!Aa (!Aq) (!Aa (!Aq) (!Aa (!Aq) (!Ab)))))) (!AV CD (!Aj AQ (pv 0) (!AV D4 (pv 1) (!Ae)) (λ_ _=>rfl)) (!Ae)) (λ_ _=>rfl)))) (!Aw)) (!Ag (!Au (!Aj AQ (pv 2) (!AV CD (!AV D4 (!AV LW (!Aj AQ (pv 0) (pv 1) (λ_ _=>rfl)) (!Ae)) (!Aj AQ (pv 0) (!AV D4 (pv 1) (!Ae)) (λ_ _=>rfl))) (!Aj AQ (!BU (!Aa (!Ae) (!Aa (!Ae) (!Ab)))) (!AV CD (!AV JD (!Aj AQ (pv 0) (pv 1) (λ_ _=>rfl)) (!Ae)) (!Ae)) (λ_ _=>rfl))) (λ_ _=>rfl))))),?_⟩
 try dsimp only[AZ,Cx.nox,Cx.wish]
 have A0:Jv (ns.map V.int) (i:Int)=some (.int (ns.getD i 0)):=Gb (by omega) (by omega);have A1:Jv (ns.map V.int) ((i:Int)+1)=some (.int (ns.getD (i+1) 0)):=Gb (by omega) (by omega);have nn:∀k:Nat,k<10->0<=ns.getD k 0/\ns.getD k 0<60:=λk hk=>by
  have hk':k<ns.length:=by omega
  simp only[List.getD,List.getElem?_eq_getElem hk',Option.getD_some];exact nb _ (bB hk')
 refine⟨_,rfl,_,rfl,a,_,_,_,rfl,rfl,AR.of ha,A0,_,_,rfl,rfl,(by show(0:Int)<19;decide),rfl,_,rfl,Dh (λc=>?_) (λc=>?_)⟩
 ·refine⟨OR,λl nl=>?_⟩;have s1:=Ah nl (.lst [V.str EM,V.str (PySem.Str.ofString "A"),V.str (PySem.Str.ofString "a b"),V.str (PySem.Str.ofString "123456789")]);obtain⟨v,hv,ev⟩:=OY (xs:=[V.str EM,V.str (PySem.Str.ofString "A"),V.str (PySem.Str.ofString "a b"),V.str (PySem.Str.ofString "123456789")]) (n:=4) rfl (by decide) (ns.getD (i+1) 0);obtain⟨z,rfl,lz'⟩:∃z,v=.str z/\z.length<=20:=by
   simp only[List.mem_cons,List.not_mem_nil,or_false] at hv;rcases hv with rfl|rfl|rfl|rfl<;>exact⟨_,rfl,by decide +kernel⟩
  exact⟨_,rfl,_,rfl,_,_,rfl,rfl,a,_,_,_,rfl,rfl,AR.of (s1.get ha),A1,_,_,rfl,rfl,(by show(0:Int)<4;decide),l,_,_,_,rfl,rfl,AR.of Ac,ev,q z _ s1 lz'⟩
 ·refine⟨_,rfl,_,rfl,_,rfl,a,_,_,_,rfl,rfl,AR.of ha,A0,_,_,rfl,rfl,.inr ⟨by decide,by decide⟩,_,rfl,_,rfl,_,_,rfl,rfl,a,_,_,_,rfl,rfl,AR.of ha,A1,_,_,rfl,rfl,Ef,λl nl=>?_⟩;have s1:=Ah nl (.lst [V.int 6,V.int 26]);obtain⟨v,hv,ev⟩:=OY (xs:=[V.int 6,V.int 26]) (n:=2) rfl (by decide) (ns.getD i 0/19);obtain⟨m,rfl,m0,m1⟩:∃m:Int,v=.int m/\0<m/\m<=26:=by
   simp only[List.mem_cons,List.not_mem_nil,or_false] at hv;rcases hv with rfl|rfl<;>exact⟨_,rfl,by decide,by decide⟩
  have b0:=br (ns.getD i 0*60+ns.getD (i+1) 0) (show m≠0 by omega);have b1:=bc (ns.getD i 0*60+ns.getD (i+1) 0) m0;have hk:((ns.getD i 0*60+ns.getD (i+1) 0)%m).toNat<zs.length:=by omega
  have az:Jv (zs.map V.str) ((ns.getD i 0*60+ns.getD (i+1) 0)%m)=some (.str zs[((ns.getD i 0*60+ns.getD (i+1) 0)%m).toNat]):=by
   have:=Af (xs:=zs.map V.str) (j:=((ns.getD i 0*60+ns.getD (i+1) 0)%m).toNat) (v:=.str zs[((ns.getD i 0*60+ns.getD (i+1) 0)%m).toNat]) (by rw[aJ,ak hk];rfl);rw[show((((ns.getD i 0*60+ns.getD (i+1) 0)%m).toNat:Nat):Int)=(ns.getD i 0*60+ns.getD (i+1) 0)%m by omega] at this;exact this
  exact⟨_,rfl,_,rfl,a,_,_,_,rfl,rfl,AR.of (s1.get ha),A0,_,_,rfl,rfl,⟨by decide,by decide⟩,_,_,rfl,rfl,(by show(0:Int)<2;decide),l,_,_,_,rfl,rfl,AR.of Ac,ev,_,_,rfl,rfl,m0,an,_,_,_,rfl,rfl,AR.of (s1.get han),az,q _ _ s1 (zb _ (bB hk))⟩
theorem mod_lt {x n:Int}(h:0<n):0<=x%n/\x%n<n:=⟨br _ (by omega),bc _ h⟩
def GR (K:W.Frag):Sp:=λvs H Q _=>∃(an:Addr) (c:Int) (zs:List Str),vs=[.int c,.ref an]/\H an=some (.lst (zs.map V.str))/\zs.length=26/\(∀z∈zs,z.length<=20)/\
 ∀(de:De) a H',AA H H'->de.Sz->de.Ok->H' a=some (.tup (dV de))->Q (.ref a) H'
theorem Oz (T:Txt K mg C XC)(F:Fun K "_law_deed" "_law_deed" DL f fd)(Em:Def P w K mg base 1 "_law_row" ["_law_cell","_law_many"] (FW K))(EU:Def P w K mg base 1 "_law_some" ["_law_row_here","_law_at","_law_names_here"] (GF K)):FnOk P w K mg base EL 2 f fd ["_law_cell","_law_names_here"] (GR K):=by
 exists D8
 ·obtain⟨an,c,zs,rfl,_⟩:=h;rfl
 obtain⟨an,c,zs,rfl,han,lz,zb,q⟩:=h;refine⟨_,(!Ai (@AE _ _ (2) _ _ _ _ D8.nd rfl (by trivial) (!AO Em (by trivial) rfl (!Aa (pv 0) (!Aa (!Ae) (!Ab)))) (by rfl) (by trivial)) (!Ai (@AE _ _ (3) _ _ _ _ D8.nd rfl (by trivial) (!AV CD (!Aj AQ (pv 2) (!Ae) (λ_ _=>rfl)) (!Ae)) (by rfl) (by trivial)) (!Ai (@AE _ _ (4) _ _ _ _ D8.nd rfl (by trivial) (!AO EU (by trivial) rfl (!Aa (pv 2) (!Aa (!Ae) (!Aa (pv 1) (!Ab))))) (by rfl) (by trivial)) (!Ai (@AE _ _ (5) _ _ _ _ D8.nd rfl (by trivial) (!AO EU (by trivial) rfl (!Aa (pv 2) (!Aa (!Ae) (!Aa (pv 1) (!Ab))))) (by rfl) (by trivial)) (!Ai (!AL (!Ar Bp (pv 3) (!Ae) (AC _)) (!Ag (!Au (!AF (!Aa (!Aq) (!Aa (pv 4) (!Aa (!Aj AQ (pv 2) (!Ae) (λ_ _=>rfl)) (!Ab))))))) (!Aw)) (!Ai (!AL (!Ar Bp (pv 3) (!Ae) (AC _)) (!Ag (!Au (!AF (!Aa (!Aq) (!Aa (pv 4) (!Aa (pv 5) (!Ab))))))) (!Aw)) (!Ai (!AL (!Ar P5 (pv 3) (!Ae) (AC _)) (!Ag (!Au (!AF (!Aa (!Aq) (!Aa (pv 4) (!Aa (pv 5) (!Ab))))))) (!Aw)) (!Ai (!AL (!Ar P5 (pv 3) (!Ae) (AC _)) (!Ag (!Au (!AF (!Aa (!Aq) (!Aa (pv 4) (!Aa (pv 5) (!Aa (!AO EU (by trivial) rfl (!Aa (pv 2) (!Aa (!Ae) (!Aa (pv 1) (!Ab))))) (!Ab)))))))) (!Aw)) (!Ai (!AL (!Ar Bp (pv 3) (!Ae) (AC _)) (!Ag (!Au (!AF (!Aa (!Aq) (!Aa (pv 4) (!Aa (!Aj AQ (pv 2) (!Ae) (λ_ _=>rfl)) (!Ab))))))) (!Aw)) (!Ag (!Au (!AF (!Aa (!Aj AQ (!BU (!Aa (!Aq) (!Aa (!Aq) (!Aa (!Aq) (!Ab))))) (!AV WC (pv 3) (!Ae)) (λ_ _=>rfl)) (!Aa (pv 4) (!Ab))))))))))))))),?_⟩
 try dsimp only[AZ,Cx.nox,Cx.wish]
 refine⟨_,rfl,c,10,rfl,by decide,by decide,λr H1 ns s1 nr h1 ln nb=>?_⟩;have ln:ns.length=10:=ln;have han1:=s1.get han;have nn:∀k:Nat,k<10->0<=ns.getD k 0/\ns.getD k 0<60:=λk hk=>by
  have hk':k<ns.length:=by omega
  simp only[List.getD,List.getElem?_eq_getElem hk',Option.getD_some];exact nb _ (bB hk')
 have A0:Jv (ns.map V.int) 0=some (.int (ns.getD 0 0)):=Gb (by decide) (by omega);have A5:Jv (ns.map V.int) 5=some (.int (ns.getD 5 0)):=Gb (by decide) (by omega);have A7:Jv (ns.map V.int) 7=some (.int (ns.getD 7 0)):=Gb (by decide) (by omega);obtain⟨w0,w1⟩:=mod_lt (x:=ns.getD 0 0) (show(0:Int)<11 by decide);dsimp only[BD];refine⟨_,rfl,r,_,_,_,rfl,rfl,AR.of h1,A0,_,_,rfl,rfl,(by show(0:Int)<11;decide),?_⟩;dsimp only[BD];generalize ns.getD 0 0%11=way at w0 w1;refine⟨_,rfl,_,rfl,r,an,ns,zs,1,rfl,h1,ln,nb,by decide,han1,lz,zb,λone H2 s2 l2=>?_⟩;dsimp only[BD];refine⟨_,rfl,_,rfl,r,an,ns,zs,3,rfl,s2.get h1,ln,nb,by decide,s2.get han1,lz,zb,λother H3 s3 l3=>?_⟩;dsimp only[BD];have s13:=s2.trans s3;have s03:=s1.trans s13;have h3:=s13.get h1;have han3:=s13.get han1;refine⟨_,rfl,rfl,_,rfl,Dh (λc=>?_) (λc=>?_)⟩
 ·refine⟨_,rfl,_,rfl,r,_,_,_,rfl,rfl,AR.of h3,A5,Hq,λa na=>?_⟩;exact q (.keeper one (ns.getD 5 0)) a _ (s03.trans (Ah na _)) (by show one.length<=1000;omega) trivial Ac
 refine⟨_,rfl,rfl,_,rfl,Dh (λc2=>?_) (λc2=>?_)⟩
 ·refine⟨_,rfl,_,rfl,Hq,λa na=>?_⟩;exact q (.stem one other) a _ (s03.trans (Ah na _)) (by show one.length<=1000;omega) trivial Ac
 refine⟨_,rfl,_,_,rfl,rfl,_,rfl,Dh (λc3=>?_) (λc3=>?_)⟩
 ·refine⟨_,rfl,_,rfl,Hq,λa na=>?_⟩;exact q (.sea one other) a _ (s03.trans (Ah na _)) (by show other.length<=1000;omega) trivial Ac
 refine⟨_,rfl,_,_,rfl,rfl,_,rfl,Dh (λc4=>?_) (λc4=>?_)⟩
 ·refine⟨_,rfl,_,rfl,_,rfl,_,rfl,r,an,ns,zs,5,rfl,h3,ln,nb,by decide,han3,lz,zb,λthird H4 s4 l4=>?_⟩;refine⟨OR,λa na=>?_⟩;exact q (.grow one other third) a _ ((s03.trans s4).trans (Ah na _)) (by show one.length<=1000;omega) trivial Ac
 refine⟨_,rfl,rfl,_,rfl,Dh (λc5=>?_) (λc5=>?_)⟩
 ·refine⟨_,rfl,_,rfl,r,_,_,_,rfl,rfl,AR.of h3,A7,Hq,λa na=>?_⟩;exact q (.write one (ns.getD 7 0)) a _ (s03.trans (Ah na _)) trivial (nn 7 (by decide)) Ac
 have f3:¬way<5:=cz (bq.mpr c3);have f4:¬way<7:=cz (bq.mpr c4);have f5:way≠7:=λz=>c5 (au (by rw[z]))
 refine⟨Hq,λl nl=>?_⟩;have s4:=Ah nl (.lst [V.str W6,V.str W7,V.str W8]);have h4:(upd H3 l (.lst [V.str W6,V.str W7,V.str W8])) l=some (.lst [V.str W6,V.str W7,V.str W8]):=Ac;have hw:way=8\/way=9\/way=10:=by omega
 rcases hw with rfl|rfl|rfl
 ·exact⟨_,rfl,_,_,rfl,rfl,l,_,_,_,rfl,rfl,AR.of h4,Af (j:=0) rfl,_,rfl,Ef,λa na=>q (.back one) a _ ((s03.trans s4).trans (Ah na _)) trivial trivial Ac⟩
 ·exact⟨_,rfl,_,_,rfl,rfl,l,_,_,_,rfl,rfl,AR.of h4,Af (j:=1) rfl,_,rfl,Ef,λa na=>q (.graft one) a _ ((s03.trans s4).trans (Ah na _)) trivial trivial Ac⟩
 ·exact⟨_,rfl,_,_,rfl,rfl,l,_,_,_,rfl,rfl,AR.of h4,Af (j:=2) rfl,_,rfl,Ef,λa na=>q (.drop one) a _ ((s03.trans s4).trans (Ah na _)) (by show one.length<=1000;omega) trivial Ac⟩
end
theorem UB (e:En):(Dz e)[3]?=some (tV e.tr):=by cases e<;>rfl
theorem Wq (φ:Int->Int)(e:En):(mt φ e).tr=e.tr:=by cases e<;>rfl
theorem Td {φ:Int->Int}{ps:List Pe}{rs:List Rw}(hp:(ents rs).Perm ((ps.map (·.e)).map (mt φ)))(nm:Str):(nm∉rs.map (λr=>r.2.nm)->Ii nm ps=none)/\((ps.map BH).Nodup->∀r∈rs,r.2.nm=nm->∃p,Ii nm ps=some p/\p.e.tr=r.2.tr):=by
 constructor
 ·intro h;cases e:Ii nm ps with
  |none=>rfl
  |some p=>
   obtain⟨h1,h2⟩:=CH e;exact absurd (IG.mp (aa.mpr ⟨mt φ p.e,hp.mem_iff.mpr (aa.mpr ⟨p.e,aa.mpr ⟨p,h1,rfl⟩,rfl⟩),by rw[Qt];exact h2⟩)) h
 ·intro nd r hr en;obtain⟨e,he,em⟩:=aa.mp (hp.mem_iff.mp (aa.mpr ⟨r,hr,rfl⟩));obtain⟨p,hp',rfl⟩:=aa.mp he;have hn:p.e.nm=nm:=by rw[<-Qt φ,em];exact en
  obtain⟨q,hq⟩:=cu.mp (GY.mpr (aa.mpr ⟨p,hp',hn⟩:nm∈ps.map BH));obtain⟨q1,q2⟩:=CH hq;have:=B6 nd q1 hp' (by show q.e.nm=p.e.nm;rw[q2,hn]);subst this;exact⟨q,hq,by rw[<-Wq φ,em]⟩
theorem Qy {H:Hp}{a l b:Addr}{c:Str}(ha:H a=some (.tup [.ref l,.str c]))(hl:H l=some (.lst [.ref b]))(hb:H b=some (.tup [.str FS,.int 1])):Rep (λ_=>True) H (.tup [.lst [.tup [.str FS,.int 1]],.str c]) (.ref a):=
 ⟨a,_,rfl,ha,_,_,rfl,⟨l,_,rfl,trivial,hl,_,_,rfl,⟨b,_,rfl,hb,_,_,rfl,rfl,_,_,rfl,rfl,rfl⟩,rfl⟩,_,_,rfl,rfl,rfl⟩
section
variable {P:Program}{w:World}{K:W.Frag}{mg:Str->Option Value}{base:Heap}{f C:Addr}{XC:Nat->Addr}{fd:FuncData}{PT PU:Addr}
def Gg (K:W.Frag)(C:Addr):Sp:=λvs H Q _=>∃(x d an:Addr) (ag:Int) (qs:List Kq) (ps:List Pe) (rs:List Rw) (zs:List Str) (φ:Int->Int),vs=[.ref x,.ref d,.ref an]/\Hs C H x ag qs ps/\RowsAt H d rs/\H an=some (.lst (zs.map V.str))/\(ps.map BH).Nodup/\(ents rs).Perm ((ps.map (·.e)).map (mt φ))/\∀H',AA H H'->Q (.bl true) H'
theorem Nk (T:Txt K mg C XC)(F:Fun K "_law_right" "_law_right" CW f fd)(HR:Def P w K mg base 6 "_law_read" ["_law_house","_law_name"] (GK K C)):FnOk P w K mg base EL 7 f fd ["_law_house","_law_rows","_law_names_here"] (Gg K C):=by
 exists Df
 ·obtain⟨x,d,an,ag,qs,ps,rs,zs,φ,rfl,_⟩:=h;rfl
 obtain⟨x,d,an,ag,qs,ps,rs,zs,φ,rfl,hs,hd,han,nd,hp,q⟩:=h;have hu:=ES hr;have hu9:=LS hr;refine⟨_,(!Ai (!GB bR rfl (!B7 (pv 2)) (@AS _ _ (3) _ Df.nd rfl (by trivial) (by trivial)) (!Ai (@AE _ _ (4) _ _ _ _ Df.nd rfl (by trivial) (!Aq) (by rfl) (by trivial)) (!Ai (!AL (@PW.pt _ _ _ (!E8 (!Et (!MV hu (pv 3) (pv 1)) (by first|exact Bl _ (by decide) (by decide)|rfl)) (!EN (!Et (!IR (!Aj AQ (!Bf hu (pv 1) (pv 3) (λ_ _=>rfl)) (!Ae) (λ_ _=>rfl))) (by first|exact Bl _ (by decide) (by decide)|rfl))))) (!Ag (@AE _ _ (4) _ _ _ _ Df.nd rfl (by trivial) (!Om) (by rfl) (by trivial))) (!Ag (!AL (!Et (!MV hu (pv 3) (pv 1)) (by first|exact Bl _ (by decide) (by decide)|rfl)) (!Ag (@AE _ _ (4) _ _ _ _ Df.nd rfl (by trivial) (!AF (!Aa (!BU (!Aa (!AF (!Aa (!Aq) (!Aa (!Ae) (!Ab)))) (!Ab))) (!Aa (!Aj AQ (!Bf hu (pv 1) (pv 3) (λ_ _=>rfl)) (!Ae) (λ_ _=>rfl)) (!Ab)))) (by rfl) (by trivial))) (!Aw)))) (!Ag (!AL (!Ar (Tz hu9) (!AO HR (by trivial) rfl (!Aa (pv 0) (!Aa (pv 3) (!Ab)))) (pv 4) (AC _)) (!Ag (!Au (!Lk))) (!Aw))))) (by intro _;rfl)) (!Ag (!Au (!Lk)))),?_⟩
 try dsimp only[AZ,Cx.nox,Cx.wish]
 refine⟨_,rfl,an,rfl,⟨_,AR.of han⟩,Gn (K:=K) (a:=an) (xs:=zs.map V.str) (λi σ H'=>(∃v3 v4,σ=[some (.ref x),some (.ref d),some (.ref an),v3,v4])/\AA H H') ⟨⟨none,none,rfl⟩,.refl _⟩ (λi σ H' _ ⟨_,s'⟩=>AR.of (s'.get han)) ?_ ?_⟩
 ·rintro i y σ H1 hi ⟨⟨v3,v4,rfl⟩,s1⟩
  rw[aJ] at hi;obtain⟨z,hz,rfl⟩:=bA.mp hi;have hd1:=hd.same s1;have hs1:=hs.st (AD s1);obtain⟨rn,ry⟩:=Td hp z
  by_cases m:z∈rs.map λr=>r.2.nm
  ·obtain⟨r,hr',er⟩:=hd.has m;obtain⟨p,fp,pt⟩:=ry nd r hr' er;have g:=hd1.get hr';have l:=hd1.ls r hr';rw[er] at g;refine⟨_,rfl,_,rfl,d,_,rfl,g,_,rfl,AX rfl ?_⟩;refine⟨_,rfl,_,rfl,d,_,rfl,g,r.1,_,_,_,rfl,rfl,AR.of l,Af (UB _),?_⟩;cases et:r.2.tr with
   |none=>
    refine⟨_,rfl,AX rfl ?_⟩;refine⟨_,rfl,_,rfl,x,z,ag,qs,ps,rfl,hs1,(λno=>by rw[fp] at no;cases no),(λp' hp' et' H2 s2=>?_),λp' c hp' et'=>?_⟩
    ·exact⟨_,rfl,.non,(λ_=>True),(λ_=>True),by decide,rfl,rfl,_,rfl,Av rfl ⟨⟨_,_,rfl⟩,s1.trans s2⟩⟩
    ·rw[fp] at hp';cases hp';rw[pt,et] at et';cases et'
   |some c=>
    refine⟨_,rfl,Av rfl ?_⟩;have h3:(Dz r.2)[3]?=some (.str c):=by rw[UB,et];rfl
    refine⟨_,rfl,_,rfl,d,_,rfl,g,_,rfl,AX rfl ?_⟩;refine⟨Ef,λb nb=>?_⟩;have s2:=Ah nb (.tup [V.str FS,V.int 1]);have hb:(upd H1 b (.tup [V.str FS,V.int 1])) b=some (.tup [V.str FS,V.int 1]):=Ac;generalize upd H1 b (.tup [V.str FS,V.int 1])=H2 at s2 hb;refine⟨D0,λl2 nl=>?_⟩;have s3:=Ah nl (.lst [V.ref b]);have hl2:(upd H2 l2 (.lst [V.ref b])) l2=some (.lst [V.ref b]):=Ac;have hb3:=s3.get hb;have s23:=s2.trans s3;have hd3:=hd1.same s23;have l3:=s23.get l;have g3:=hd3.get hr';rw[er] at g3;generalize upd H2 l2 (.lst [V.ref b])=H3 at s3 hl2 hb3 s23 hd3 l3 g3;refine⟨_,rfl,_,rfl,d,_,rfl,g3,r.1,_,_,_,rfl,rfl,AR.of l3,Af h3,Ef,λt nt=>?_⟩;have s4:=Ah nt (.tup [V.ref l2,V.str c]);have ht:(upd H3 t (.tup [V.ref l2,V.str c])) t=some (.tup [V.ref l2,V.str c]):=Ac;have hl4:=s4.get hl2;have hb4:=s4.get hb3;generalize upd H3 t (.tup [V.ref l2,V.str c])=H4 at s4 ht hl4 hb4;have s14:=s1.trans (s23.trans s4);refine⟨_,rfl,_,rfl,x,z,ag,qs,ps,rfl,hs.st (AD s14),(λno=>by rw[fp] at no;cases no),(λp' hp' et'=>?_),λp' c' hp' et' a l5 b5 H5 s5 ha5 hl5 hb5=>?_⟩
    ·rw[fp] at hp';cases hp';rw[pt,et] at et';cases et'
    ·rw[fp] at hp';cases hp';rw[pt,et] at et';cases et';exact⟨_,rfl,_,(λ_=>True),(λ_=>True),by simp[Tr.dep,Tr.deps],Qy ha5 hl5 hb5,Qy (s5.get ht) (s5.get hl4) (s5.get hb4),_,rfl,Av rfl ⟨⟨_,_,rfl⟩,s14.trans s5⟩⟩
  ·have g:=hd1.no m;refine⟨_,rfl,_,rfl,d,_,rfl,g,_,rfl,Av rfl (Av rfl ?_)⟩;refine⟨_,rfl,_,rfl,d,_,rfl,g,_,rfl,Av rfl ?_⟩;have fn:=rn m;refine⟨_,rfl,_,rfl,x,z,ag,qs,ps,rfl,hs1,(λno H2 s2=>?_),(λp' hp'=>by rw[fn] at hp';cases hp'),λp' c hp'=>by rw[fn] at hp';cases hp'⟩;exact⟨_,rfl,.str _,(λ_=>True),(λ_=>True),by simp[Tr.dep],rfl,rfl,_,rfl,Av rfl ⟨⟨_,_,rfl⟩,s1.trans s2⟩⟩
 ·rintro σ H1 ⟨⟨v3,v4,rfl⟩,s1⟩
  exact q H1 s1
end
theorem XW {ag:Int}{es:List En}(w:Wl ag es){φ:Int->Int}(hm:PQ φ):Wl (φ ag) (es.map (mt φ)):=by
 have l:=OC φ es;refine⟨?_,λnm k o t h=>(w.og nm k o t ((l.st _ _ _ _).mp h)).imp id (l.hasSl _).mpr,λnm s n t h=>?_,λnm s m t nm' s' t' h h'=>?_,λe he=>?_,λe he c hc=>?_,by rw[ae];exact w.few⟩
 ·rw[ao,show(En.nm∘mt φ)=En.nm from funext (Qt φ)];exact w.nd
 ·obtain⟨n',rfl,h2⟩:=K7 (.refl _) h;exact⟨(l.hasSt _).mpr (w.sm _ _ _ _ h2).1,(hm.le _ _).mpr (w.sm _ _ _ _ h2).2⟩
 ·obtain⟨a,ea,h1⟩:=K7 (.refl _) h;obtain⟨b,eb,h2⟩:=K7 (.refl _) h';have:a=b:=by
   have h3:=(hm.le a b).mp (by omega);have h4:=(hm.le b a).mp (by omega);omega
  subst this;exact w.tn _ _ _ _ _ _ _ h1 h2
 ·obtain⟨x,hx,rfl⟩:=aa.mp he;rw[Qt];exact w.nb x hx
 ·obtain⟨x,hx,rfl⟩:=aa.mp he;rw[Wq] at hc;exact w.tr x hx c hc
def U8 (φ:Int->Int)(ag n:Int):Int->Int:=λt=>if t<=ag then φ t else n+(t-ag-1)
theorem Py {φ:Int->Int}{ag n:Int}(hm:PQ φ)(h:φ ag<n):PQ (U8 φ ag n):=λa b l=>by
 unfold U8
 by_cases c:b<=ag
 ·rw[aw c,aw (by omega)];exact hm a b l
 ·rw[aj c]
  by_cases d:a<=ag
  ·rw[aw d];have:=(hm.le a ag).mpr d;omega
  ·rw[aj d];omega
theorem UX (φ:Int->Int)(ag n:Int):U8 φ ag n (ag+1)=n:=by
 unfold U8;rw[aj (by omega)];omega
theorem WW {φ:Int->Int}{ag n:Int}{es:List En}(w:Wl ag es):es.map (mt (U8 φ ag n))=es.map (mt φ):=aB λe he=>by
 cases e with
 |st=>rfl
 |sl nm s t tr=>
  show En.sl nm s (U8 φ ag n t) tr=En.sl nm s (φ t) tr;rw[show U8 φ ag n t=φ t from aw (w.sm _ _ _ _ he).2]
theorem Hs.kd {C:Addr}{H H':Hp}{x kd d:Addr}{ag:Int}{qs:List Kq}{ps:List Pe}(h:Hs C H x ag qs ps)(k:KD kd d H H')(hk:∃kvs,H kd=some (.dK kvs))(hd:∃kvs,H d=some (.dK kvs))(ht:∀q∈ps,q.t≠kd/\q.t≠d):Hs C H' x ag qs ps:=by
 obtain⟨dx,hh,a,n,hx,hd'⟩:=h.at_;have ne:∀{b:Addr} {o:HO},H b=some o->(∀kvs,o≠.dK kvs)->b≠kd/\b≠d:=λ{b o} e n=>⟨λz=>by
  obtain⟨kvs,y⟩:=hk;rw[z,y] at e;exact n _ (aI e).symm,λz=>by
  obtain⟨kvs,y⟩:=hd;rw[z,y] at e;exact n _ (aI e).symm⟩
 have tp:∀{b:Addr} {xs:List V},H b=some (.tup xs)->H' b=some (.tup xs):=λ{b xs} e=>k.keep _ _ (ne e λ_ z=>by cases z).1 (ne e λ_ z=>by cases z).2 (λ_ _ z=>by cases z) e
 exact⟨dx,hh,a,n,k.keep _ _ (ne hx λ_ z=>by cases z).1 (ne hx λ_ z=>by cases z).2 (λ_ _ z=>by cases z) hx,tp hd'.at_,tp hd'.kp,λq hq=>tp (hd'.ke q hq),tp hd'.nm,λp hp=>⟨k.keep _ _ (ht p hp).1 (ht p hp).2 (λ_ _ z=>by cases z) (hd'.en p hp).1,tp (hd'.en p hp).2⟩⟩
theorem Tb.kd {PT PU kd d:Addr}{H H':Hp}(t:Tb PT PU H)(k:KD kd d H H')(hk:∃kvs,H kd=some (.dK kvs))(hd:∃kvs,H d=some (.dK kvs)):Tb PT PU H':=by
 have go:∀{U:Addr} {q:Str} {lp:Pos},CT U q lp H->CT U q lp H':=λ{U q lp} t=>by
  have ne:∀{b:Addr} {o:HO},H b=some o->(∀kvs,o≠.dK kvs)->b≠kd/\b≠d:=λ{b o} e n=>⟨λz=>by
   obtain⟨kvs,y⟩:=hk;rw[z,y] at e;exact n _ (aI e).symm,λz=>by
   obtain⟨kvs,y⟩:=hd;rw[z,y] at e;exact n _ (aI e).symm⟩
  rcases t with h|⟨c,h,h2⟩
  ·exact .inl (k.keep _ _ (ne h λ_ z=>by cases z).1 (ne h λ_ z=>by cases z).2 (λ_ _ z=>by cases z) h)
  ·exact .inr ⟨c,k.keep _ _ (ne h λ_ z=>by cases z).1 (ne h λ_ z=>by cases z).2 (λ_ _ z=>by cases z) h,k.keep _ _ (ne h2 λ_ z=>by cases z).1 (ne h2 λ_ z=>by cases z).2 (λ_ _ z=>by cases z) h2⟩
 exact⟨t.ne,go t.a,go t.b⟩
theorem RowsAt.kh {H H':Hp}{x d:Addr}{rs:List Rw}(h:RowsAt H d rs)(k:KH x H H'):RowsAt H' d rs:=⟨k.dk h.at_,λr hr=>k.lst (h.ls r hr),h.nd,h.na⟩
theorem Vv {ks qs:List Str}(nk:ks.Nodup)(nq:qs.Nodup)(h:∀z,z∈qs↔z∈ks):qs.length=ks.length:=((List.perm_ext_iff_of_nodup nq nk).mpr h).length_eq
def UO (y:V)(H:Hp):Prop:=∃b de,y=V.ref b/\H b=some (.tup (dV de))/\de.Sz/\de.Ok
theorem UO.same {y:V}{H H':Hp}(h:UO y H)(s:AA H H'):UO y H':=by
 obtain⟨b,de,e,hb,h1,h2⟩:=h;exact⟨b,de,e,s.get hb,h1,h2⟩
theorem UO.lst {y:V}{H:Hp}{la:Addr}{us us':List V}(h:UO y H)(hl:H la=some (.lst us)):UO y (upd H la (.lst us')):=by
 obtain⟨b,de,e,hb,h1,h2⟩:=h;exact⟨b,de,e,by rw[An (C4 hb hl (by intro z;cases z))];exact hb,h1,h2⟩
section
variable {P:Program}{w:World}{K:W.Frag}{mg:Str->Option Value}{base:Heap}{f C:Addr}{XC:Nat->Addr}{fd:FuncData}{PT PU:Addr}
def OP (K:W.Frag)(PT PU:Addr):Sp:=λvs H Q _=>∃(a:Addr) (ns:List Int),vs=[.ref a]/\AR K H a (ns.map V.int)/\ns.length<=63/\CT PT LQ LP H/\CT PU MQ MP H/\PT≠PU/\∀H',Q (.bl true) H'
theorem Xc (T:Txt K mg C XC)(F:Fun K "law" "law" JX f fd)(FI:Def P w K mg base 1 "_law_cell_at" ["_law_script","_law_k"] (E9 K))(GC:Def P w K mg base 1 "_law_names" ["_law_row_here","_law_many"] (Ga K))(D5:WL P w K mg base 1 C "PlainHouse" ["self"] (Dq K C))(Em:Def P w K mg base 1 "_law_row" ["_law_cell","_law_many"] (FW K))(IZ:Def P w K mg base 4 "_law_due" ["_law_keepers","_law_rows","_law_deed_here","_law_turn"] (HV K))(Hx:Def P w K mg base 2 "_law_deed" ["_law_cell","_law_names_here"] (GR K))(Hy:Def P w K mg base 9 "_law_told" ["_law_house","_law_deed_here"] (G4 K C PT PU))(GM:Def P w K mg base 7 "_law_right" ["_law_house","_law_rows","_law_names_here"] (Gg K C)):FnOk P w K mg base EL 10 f fd ["_law_script"] (OP K PT PU):=by
 exists E6
 ·obtain⟨a,ns,rfl,_⟩:=h;rfl
 obtain⟨a,ns,rfl,hS,hl,tbT,tbU,neTU,q⟩:=h;have hu:=ES hr;have hu9:=LS hr;refine⟨_,(!Ai (@AE _ _ (1) _ _ _ _ E6.nd rfl (by trivial) (!AO FI (by trivial) rfl (!Aa (pv 0) (!Aa (!Ae) (!Ab)))) (by rfl) (by trivial)) (!Ai (@AE _ _ (2) _ _ _ _ E6.nd rfl (by trivial) (!AO GC (by trivial) rfl (!Aa (!AO Em (by trivial) rfl (!Aa (pv 1) (!Aa (!Ae) (!Ab)))) (!Aa (!Ae) (!Ab)))) (by rfl) (by trivial)) (!Ai (@AE _ _ (3) _ _ _ _ E6.nd rfl (by trivial) (Vg D5 (by trivial) rfl) (by rfl) (by trivial)) (!Ai (@AE _ _ (4) _ _ _ _ E6.nd rfl (by trivial) (!L3) (by rfl) (by trivial)) (!Ai (@AE _ _ (5) _ _ _ _ E6.nd rfl (by trivial) (!L3) (by rfl) (by trivial)) (!Ai (@AE _ _ (6) _ _ _ _ E6.nd rfl (by trivial) (!Ae) (by rfl) (by trivial)) (!Ai (@Qz _ ["_law_name"] (7) _ _ _ _ _ _ _ _ _ _ _ _ _ E6.nd rfl (by trivial) rfl (!B7 (!DZ Ov (pv 2) (!FX) (!EI (!Aj AQ (!BU (!Aa (!Ae) (!Aa (!Ae) (!Ab)))) (!AV CD (!AV JD (pv 1) (!Ae)) (!Ae)) (λ_ _=>rfl))))) (by decide +kernel) (λC s H fp=>⟨(@AS _ _ (0) _ (show(["_law_name"]:List Str).Nodup by decide +kernel) rfl (by trivial) (by trivial)),(!BR),(!AF (!Aa (!Aq) (!Aa (pv 0) (!Aa (!Ae) (!Ab)))))⟩) (by intro _;rfl) (by rfl) (by trivial)) (!Ai (@AE _ _ (7) _ _ _ _ E6.nd rfl (by trivial) (!AV Ij (pv 7) (@EH _ ["_law_name","_law_names_here"] [none,some 2] _ _ _ _ _ _ _ _ _ _ _ rfl (!B7 (!DZ Ov (pv 2) (!FX) (!EI (!Aj AQ (!BU (!Aa (!Ae) (!Aa (!Ae) (!Ab)))) (!AV CD (!AV JD (pv 1) (!Ae)) (!Ae)) (λ_ _=>rfl))))) (by rfl) rfl (by repeat (first|exact trivial|refine⟨rfl,?_⟩)) (by repeat (first|exact trivial|refine⟨λh=>(by first|exact⟨_,rfl⟩|cases h),?_⟩)) (λC s H fp=>⟨(@AS _ _ (0) _ (show(["_law_name","_law_names_here"]:List Str).Nodup by decide +kernel) rfl (by trivial) (by trivial)),(!BR),(!AF (!Aa (!Aq) (!Aa (pv 0) (!Aa (!Aj (FC (K:=K) (by rfl)) (pv 1) (!Ae) (λ_ _=>rfl)) (!Ab)))))⟩) (by intro _;rfl))) (by rfl) (by trivial)) (!Ai (!GB bR rfl (!B7 (!AV Ij (pv 7) (@EH _ ["_law_one","_law_names_here"] [none,some 2] _ _ _ _ _ _ _ _ _ _ _ rfl (!B7 (!DZ Ov (pv 0) (!EI (!Ae)) (!EI (!Ae)))) (by rfl) rfl (by repeat (first|exact trivial|refine⟨rfl,?_⟩)) (by repeat (first|exact trivial|refine⟨λh=>(by first|exact⟨_,rfl⟩|cases h),?_⟩)) (λC s H fp=>⟨(@AS _ _ (0) _ (show(["_law_one","_law_names_here"]:List Str).Nodup by decide +kernel) rfl (by trivial) (by trivial)),(!BR),(!AO Hx (by trivial) rfl (!Aa (pv 0) (!Aa (pv 1) (!Ab))))⟩) (by intro _;rfl)))) (@AS _ _ (8) _ E6.nd rfl (by trivial) (by trivial)) (!Ai (@AE _ _ (9) _ _ _ _ E6.nd rfl (by trivial) (!AO IZ (by trivial) rfl (!Aa (pv 4) (!Aa (pv 5) (!Aa (pv 8) (!Aa (pv 6) (!Ab)))))) (by rfl) (by trivial)) (!Ai (@AE _ _ (6) _ _ _ _ E6.nd rfl (by trivial) (!AV D4 (pv 6) (!Ae)) (by rfl) (by trivial)) (!Ag (!AL (@PW.pt _ _ _ (!LO (!Ar (Tz hu9) (!AO Hy (by trivial) rfl (!Aa (pv 3) (!Aa (pv 8) (!Ab)))) (pv 9) (AC _)) (!IQ (!Dd (!CI (!AO GM (by trivial) rfl (!Aa (pv 3) (!Aa (pv 5) (!Aa (pv 2) (!Ab))))) (by intro _;rfl)))))) (!Ag (!Au (!Lk))) (!Aw))))) (by intro _;rfl)) (!Ag (!Au (!Lk)))))))))))),?_⟩
 try dsimp only[AZ,Cx.nox,Cx.wish]
 refine⟨_,rfl,a,ns,0,rfl,by decide,hS,λc1=>?_⟩;dsimp only[BD];refine⟨_,rfl,c1,10,rfl,by decide,by decide,λr H1 rs s1 n1 h1 l1 b1=>⟨r,rs,26,rfl,h1,by rw[l1];rfl,b1,by decide,by decide,λan H2 zs s2 n2 h2 lz nz ndz=>?_⟩⟩;have s12:=s1.trans s2;dsimp only[BD];refine λx dx nx ndx nxd=>⟨x,dx,rfl,Ac,λH3 k3 hs3=>⟨rfl,?_⟩⟩
 have s3:AA H2 H3:=λb o e=>by
  have n1:b≠x:=λz=>by rw[z,nx] at e;cases e
  have n2:b≠dx:=λz=>by rw[z,ndx] at e;cases e
  exact k3.keep b o n1 (by rw[An n1,An n2];exact e)
 have s13:=s12.trans s3;have tb3:Tb PT PU H3:=(⟨neTU,tbT,tbU⟩:Tb PT PU H).same s13;have han3:=s3.get h2;have hS3:=s13.seq hS;dsimp only[BD];refine λkd nkd=>?_
 have s4:=Ah nkd (.dK []);have hk4:(upd H3 kd (.dK [])) kd=some (.dK (QC [])):=Ac;generalize upd H3 kd (.dK [])=H4 at s4 hk4;dsimp only[BD];refine λd nd=>?_
 have nkdd:kd≠d:=λz=>by rw[<-z,hk4] at nd;cases nd
 have s5:=Ah nd (.dK []);have hd5:(upd H4 d (.dK [])) d=some (.dK (Iv [])):=Ac;have hk5:=s5.get hk4;generalize upd H4 d (.dK [])=H5 at s5 hd5 hk5;have s35:=s4.trans s5;have han5:=s35.get han3;have hS5:=s35.seq hS3;have hs5:=hs3.st (AD s35);have tb5:=tb3.same s35;dsimp only[BD];obtain⟨v,hv,ev⟩:=OY (xs:=[V.int 1,V.int 7]) (n:=2) rfl (by decide) (c1/3);obtain⟨n7,rfl,n70,n71⟩:∃m:Int,v=.int m/\0<m/\m<=7:=by
  simp only[List.mem_cons,List.not_mem_nil,or_false] at hv;rcases hv with rfl|rfl<;>exact⟨_,rfl,by decide,by decide⟩
 refine⟨_,rfl,Ef,λl nl=>?_⟩;have s6:=Ah nl (.lst [V.int 1,V.int 7]);refine⟨_,rfl,_,_,rfl,rfl,⟨by decide,by decide⟩,_,_,rfl,rfl,(by show(0:Int)<2;decide),l,_,_,_,rfl,rfl,AR.of Ac,ev,n7,rfl,an,_,rfl,AR.of (s6.get han5),λp np=>?_⟩;rw[M3 (by omega),<-dh];have s7:=Ah np (.lst ((zs.take n7.toNat).map V.str));have h7:(upd (upd H5 l (.lst [V.int 1,V.int 7])) p (.lst ((zs.take n7.toNat).map V.str))) p=some (.lst ((zs.take n7.toNat).map V.str)):=Ac;have s57:=s6.trans s7;generalize upd (upd H5 l (.lst [V.int 1,V.int 7])) p (.lst ((zs.take n7.toNat).map V.str))=H7 at s57 h7;have zb:∀z∈zs,z.length<=20:=λz hz=>(nz z hz).2.1
 refine⟨p,rfl,⟨_,AR.of h7⟩,?_⟩;refine Fq (ps:=zs.take n7.toNat) (g:=V.str) (λ_=>true) (λ_ y H'=>UO y H') (λ_ y Ha Hb h s=>h.same s) (λ_ y Ha la us us' h hl=>h.lst hl) (Cv (AR.of h7)) (by rw[ba];omega) (λr hr H' R s' hR=>hR H' (AA.refl _)) (λz hz _ H' R s' hR=>?_) λl8 H8 ys n8 s8 h8 ey hy=>?_
 ·have:=zb z (cj hz);exact⟨_,rfl,Hq,λb nb=>hR _ _ (Ah nb _) ⟨b,.keeper z 5,rfl,Ac,by show z.length<=1000;omega,trivial⟩⟩
 have s58:=s57.trans s8;have han8:=s58.get han5;have ly:ys.length<=26:=by
  have:=congrArg List.length ey;rw[filter_tt,ae,ba] at this;omega
 dsimp only[BD];obtain⟨v,hv,ev⟩:=OY (xs:=[V.int 1,V.int 20]) (n:=2) rfl (by decide) (c1/7);obtain⟨n20,rfl,n200,n201⟩:∃m:Int,v=.int m/\0<m/\m<=20:=by
  simp only[List.mem_cons,List.not_mem_nil,or_false] at hv;rcases hv with rfl|rfl<;>exact⟨_,rfl,by decide,by decide⟩
 refine⟨_,rfl,_,rfl,Ef,λl9 nl9=>?_⟩;have s9:=Ah nl9 (.lst [V.int 1,V.int 20]);refine⟨_,rfl,_,_,rfl,rfl,⟨by decide,by decide⟩,_,_,rfl,rfl,(by show(0:Int)<2;decide),l9,_,_,_,rfl,rfl,AR.of Ac,ev,n20,rfl,an,_,rfl,AR.of (s9.get han8),λpa npa=>?_⟩;rw[M3 (by omega),<-dh];have sa:=Ah npa (.lst ((zs.take n20.toNat).map V.str));have ha:(upd (upd H8 l9 (.lst [V.int 1,V.int 20])) pa (.lst ((zs.take n20.toNat).map V.str))) pa=some (.lst ((zs.take n20.toNat).map V.str)):=Ac;have s8a:=s9.trans sa;generalize upd (upd H8 l9 (.lst [V.int 1,V.int 20])) pa (.lst ((zs.take n20.toNat).map V.str))=Ha at s8a ha;have hana:=s8a.get han8;have z0:Jv (zs.map V.str) 0=some (.str (zs.getD 0 EM)):=Af (j:=0) (by
  have h0:0<zs.length:=by rw[lz];decide
  rw[aJ,ak h0];simp only[List.getD,List.getElem?_eq_getElem h0,Option.getD_some];rfl)
 refine⟨pa,rfl,⟨_,AR.of ha⟩,?_⟩;refine Fq (ps:=zs.take n20.toNat) (g:=V.str) (λ_=>true) (λ_ y H'=>UO y H') (λ_ y Ha Hb h s=>h.same s) (λ_ y Ha la us us' h hl=>h.lst hl) (Cv (AR.of ha)) (by rw[ba];omega) (λr hr H' R s' hR=>hR H' (AA.refl _)) (λz hz _ H' R s' hR=>?_) λlb Hb ys2 nb sb hb ey2 hy2=>?_
 ·have:=zb z (cj hz);exact⟨_,rfl,_,rfl,an,_,_,_,rfl,rfl,AR.of (s'.get hana),z0,Hq,λb nb=>hR _ _ (Ah nb _) ⟨b,.stem z (zs.getD 0 EM),rfl,Ac,by show z.length<=1000;omega,trivial⟩⟩
 have s8b:=s8a.trans sb;have ly2:ys2.length<=26:=by
  have:=congrArg List.length ey2;rw[filter_tt,ae,ba] at this;omega
 refine⟨l8,lb,_,_,rfl,rfl,AR.of (s8b.get h8),AR.of hb,small (by rw[ae,ae];omega),λlc nc=>?_⟩;have sc:=Ah nc (.lst ((ys.map (·.2))++ys2.map (·.2)));have hc:(upd Hb lc (.lst ((ys.map (·.2))++ys2.map (·.2)))) lc=some (.lst ((ys.map (·.2))++ys2.map (·.2))):=Ac;generalize upd Hb lc (.lst ((ys.map (·.2))++ys2.map (·.2)))=Hc at sc hc;have s8c:=s8b.trans sc;have s5c:=s58.trans s8c;have dl:∀y∈(ys.map (·.2))++ys2.map (·.2),UO y Hc:=λy hy9=>by
  rcases aP.mp hy9 with h|h
  ·obtain⟨q9,hq9,rfl⟩:=aa.mp h;exact(hy q9 hq9).same s8c
  ·obtain⟨q9,hq9,rfl⟩:=aa.mp h;exact(hy2 q9 hq9).same sc
 have ll:((ys.map (·.2))++ys2.map (·.2)).length<=52:=by rw[aW,ae,ae];omega
 generalize (ys.map (·.2))++ys2.map (·.2)=L1 at hc dl ll;have hSc:=s5c.seq hS5;have hanc:=s5c.get han5;dsimp only[BD];obtain⟨ms,em,lm,_⟩:=UZ ns (some 1) (some 31);refine⟨_,rfl,_,rfl,1,rfl,31,rfl,a,_,rfl,hSc,λpd npd=>?_⟩;rw[em];have sd:=Ah npd (.lst (ms.map V.int));have hd9:(upd Hc pd (.lst (ms.map V.int))) pd=some (.lst (ms.map V.int)):=Ac;generalize upd Hc pd (.lst (ms.map V.int))=Hd at sd hd9;have hand:=sd.get hanc;refine⟨pd,rfl,⟨_,AR.of hd9⟩,?_⟩;refine Fq (ps:=ms) (g:=V.int) (λ_=>true) (λ_ y H'=>UO y H') (λ_ y Ha Hb h s=>h.same s) (λ_ y Ha la us us' h hl=>h.lst hl) (Cv (AR.of hd9)) (by omega) (λr hr H' R s' hR=>hR H' (AA.refl _)) (λm hm _ H' R s' hR=>?_) λle He ys3 ne se he ey3 hy3=>?_
 ·exact⟨_,rfl,_,rfl,an,m,zs,rfl,s'.get hand,lz,zb,λde b H'' s2 sz ok hb=>hR (V.ref b) H'' s2 ⟨b,de,rfl,hb,sz,ok⟩⟩
 have ly3:ys3.length<=63:=by
  have:=congrArg List.length ey3;rw[filter_tt,ae] at this;omega
 have sce:=sd.trans se;refine⟨lc,le,_,_,rfl,rfl,AR.of (sce.get hc),AR.of he,small (by rw[ae];omega),λlf nf=>?_⟩;have sf:=Ah nf (.lst (L1++ys3.map (·.2)));have hf:(upd He lf (.lst (L1++ys3.map (·.2)))) lf=some (.lst (L1++ys3.map (·.2))):=Ac;generalize upd He lf (.lst (L1++ys3.map (·.2)))=Hf at sf hf;have scf:=sce.trans sf;have df:∀y∈L1++ys3.map (·.2),UO y Hf:=λy hy9=>by
  rcases aP.mp hy9 with h|h
  ·exact(dl y h).same scf
  ·obtain⟨q9,hq9,rfl⟩:=aa.mp h;exact(hy3 q9 hq9).same sf
 generalize L1++ys3.map (·.2)=L at hf df;have s5f:=s5c.trans scf;have hsf:=hs5.st (AD s5f);have tbf:=tb5.same s5f;have hkf:=s5f.get hk5;have hdf:=s5f.get hd5;have hanf:=s5f.get han5;refine⟨lf,rfl,⟨_,AR.of hf⟩,Gn (K:=K) (a:=lf) (xs:=L) (λi σ Hi=>∃(n:Int) (v7 v8 v9:Option V) (ag:Int) (qs:List Kq) (ps:List Pe) (ks:List Str) (rs:List Rw) (φ:Int->Int),σ=[some (.ref a),some (.int c1),some (.ref an),some (.ref x),some (.ref kd),some (.ref d),some (.int n),v7,v8,v9]/\
  (∀b xs,Hf b=some (.tup xs)->Hi b=some (.tup xs))/\Hi lf=some (.lst L)/\Hi an=some (.lst (zs.map V.str))/\Hs C Hi x ag qs ps/\HI ag qs ps/\Tb PT PU Hi/\Hi kd=some (.dK (QC ks))/\ks.Nodup/\ks.length<=8/\RowsAt Hi d rs/\(∀q∈ps,q.t≠kd/\q.t≠d)/\PQ φ/\φ ag<n/\(ents rs).Perm ((ps.map (·.e)).map (mt φ))/\∀z,z∈qs.map EO↔z∈ks)
  ⟨1,_,none,none,0,[],[],[],[],id,rfl,λ_ _ h=>h,hf,hanf,hsf,?_,tbf,hkf,bW,by decide,⟨hdf,(λ_ h=>nomatch h),bW,bW⟩,(λ_ h=>nomatch h),λ_ _ h=>h,by decide,.refl _,λ_=>Iff.rfl⟩ (by rintro i σ Hi _ ⟨_,_,_,_,_,_,_,_,_,_,_,_,h,_⟩;exact AR.of h) ?_ (λσ Hi _=>q Hi)⟩
 ·exact⟨List.Pairwise.nil,List.Pairwise.nil,by decide,⟨bW,(λ_ _ _ _ h=>nomatch h),(λ_ _ _ _ h=>nomatch h),(λ_ _ _ _ _ _ _ h=>nomatch h),(λ_ h=>nomatch h),(λ_ h=>nomatch h),by decide⟩⟩
 rintro i y σ Hi hi ⟨n,v7,v8,v9,ag,qs,ps,ks,rs,φ,rfl,kt,hl,han,hs,hI,tb,hk,nk,k8,hd,tr,hm,hn,hp,hq⟩
 obtain⟨b,de,rfl,hb0,sz,ok⟩:=df y (aU hi);have hb:=kt _ _ hb0;have lk:=(K3 hp).trans (OC φ (ps.map (·.e)));have wlR:Wl (φ ag) (ents rs):=(XW hI.wl hm).perm hp;have nq:(qs.map EO).Nodup:=hI.rk.nd;have lq:=Vv nk nq hq;have nL:∀(i:Int) r,HO.lst L≠.lst (.int i::r):=λi r z=>by
  cases z;obtain⟨_,_,e,_⟩:=df _ aM;cases e
 have nZ:∀(i:Int) r,HO.lst (zs.map V.str)≠.lst (.int i::r):=λi r z=>by
  cases zs with
  |nil=>cases z
  |cons=>cases z
 have neK:∀{b:Addr} {o:HO},Hi b=some o->(∀kvs,o≠.dK kvs)->b≠kd/\b≠d:=λ{b o} e n=>⟨λz=>by
  rw[z,hk] at e;exact n _ (aI e).symm,λz=>by
  rw[z,hd.at_] at e;exact n _ (aI e).symm⟩
 dsimp only[BD];refine⟨_,rfl,_,rfl,_,rfl,_,rfl,kd,d,b,ks,rs,de,n,φ ag,rfl,hb,sz,ok,hk,nk,k8,hd,wlR,nkdd,λr a1 H1 rf s1 h1=>?_,λks' rs' a1 H1 rf st kst kdd hk1 nk1 k81 hd1 h1=>?_⟩
 ·have rfh:=rf.like lk (λz=>(hq z).symm) lq.symm;dsimp only[BD];refine⟨_,rfl,_,_,rfl,rfl,?_⟩;dsimp only[BD];refine⟨_,rfl,_,rfl,x,b,de,ag,qs,ps,rfl,s1.get hb,sz,hs.st (AD s1),hI,ok,tb.same s1,λr2 rf2 a2 H2 S2 T2 h2=>?_,λrf2=>?_⟩
  ·have er:=Ref.one hI.wl.nd rfh rf2;cases er;have S:=(AD s1).trans S2;refine⟨_,rfl,IK (some r),(λ_=>True),(λ_=>True),by cases r<;>simp[IK,Tr.dep,Tr.deps],FU h2,FU (S2.tup h1),_,rfl,Av rfl ?_⟩;refine⟨_,rfl,_,rfl,_,rfl,x,d,an,ag,qs,ps,rs,zs,φ,rfl,hs.st S,⟨S.dk hd.at_,λr hr9=>S.lst (hd.ls r hr9),hd.nd,hd.na⟩,S.lst han,hI.rp.nd,hp,λH3 s3=>⟨_,rfl,Av rfl ?_⟩⟩;have S3:=S.trans (AD s3);exact⟨n+1,_,_,_,ag,qs,ps,ks,rs,φ,rfl,λb xs h=>S3.tup (kt b xs h),S3.lst hl,S3.lst han,hs.st S3,hI,T2.same s3,S3.dk hk,nk,k8,⟨S3.dk hd.at_,λr hr9=>S3.lst (hd.ls r hr9),hd.nd,hd.na⟩,tr,hm,by omega,hp,hq⟩
  ·have er:=Ref.one hI.wl.nd rfh rf2;cases er
 ·have rfh:=rf.like lk (λz=>(hq z).symm) lq.symm;have hs1:=hs.kd kdd ⟨_,hk⟩ ⟨_,hd.at_⟩ tr;have tb1:=tb.kd kdd ⟨_,hk⟩ ⟨_,hd.at_⟩;have tp1:∀{b:Addr} {xs:List V},Hi b=some (.tup xs)->H1 b=some (.tup xs):=λ{b xs} e=>kdd.keep _ _ (neK e λ_ z=>by cases z).1 (neK e λ_ z=>by cases z).2 (λ_ _ z=>by cases z) e
  have hl1:=kdd.keep _ _ (neK hl λ_ z=>by cases z).1 (neK hl λ_ z=>by cases z).2 nL hl;have han1:=kdd.keep _ _ (neK han λ_ z=>by cases z).1 (neK han λ_ z=>by cases z).2 nZ han;dsimp only[BD];refine⟨_,rfl,_,_,rfl,rfl,?_⟩;dsimp only[BD];refine⟨_,rfl,_,rfl,x,b,de,ag,qs,ps,rfl,tp1 hb,sz,hs1,hI,ok,tb1,λr2 rf2=>?_,λrf2 qs' ps' a2 H2 kh T2 hs2 hI2 st2 ks2 tr2 h2=>?_⟩
  ·have er:=Ref.one hI.wl.nd rfh rf2;cases er
  ·refine⟨_,rfl,IK none,(λ_=>True),(λ_=>True),by simp[IK,Tr.dep,Tr.deps],FU h2,FU (kh.tup h1),_,rfl,Av rfl ?_⟩;have hd2:=hd1.kh kh;have hp':(ents rs).Perm ((ps.map (·.e)).map (mt (U8 φ ag n))):=by rw[WW hI.wl];exact hp
   have sim:=Step.sim (Py hm hn) hI.wl.nd hI.wl.tn hp' st2 (by rw[UX];exact st);refine⟨_,rfl,_,rfl,_,rfl,x,d,an,ag+1,qs',ps',rs',zs,U8 φ ag n,rfl,hs2,hd2,kh.lst han1,hI2.rp.nd,sim,λH3 s3=>⟨_,rfl,Av rfl ?_⟩⟩;refine⟨n+1,_,_,_,ag+1,qs',ps',ks',rs',U8 φ ag n,rfl,λb xs h=>s3.get (kh.tup (tp1 (kt b xs h))),s3.get (kh.lst hl1),s3.get (kh.lst han1),hs2.st (AD s3),hI2,T2.same s3,s3.get (kh.dk hk1),nk1,k81,hd2.same s3,λq hq9=>?_,Py hm hn,by rw[UX];omega,sim,?_⟩
   ·rcases tr2 q hq9 with⟨p,hp9,e⟩|e
    ·rw[e];exact tr p hp9
    ·exact⟨λz=>(by rw[z,hk1] at e;cases e),λz=>(by rw[z,hd1.at_] at e;cases e)⟩
   ·cases de with
    |keeper nm b9=>
     intro z;have e1:z∈ks'↔z=nm\/z∈ks:=kst z;have e2:z∈qs'.map EO↔z=nm\/z∈qs.map EO:=ks2 z;rw[e1,e2,hq z]
    |_=>
     have e1:ks'=ks:=kst;have e2:qs'.map EO=qs.map EO:=ks2;rw[e1,e2];exact hq
end
theorem Zm {us:List Value}(h:us.length=0):us=[]:=by
 cases us with
 |nil=>rfl
 |cons _ _=>cases h
theorem U6 {us:List Value}(h:us.length=1):∃x0,us=[x0]:=by
 cases us with
 |nil=>cases h
 |cons a us=>
  cases Zm (dB h);exact⟨_,rfl⟩
theorem ln2 {us:List Value}(h:us.length=2):∃x0 x1,us=[x0,x1]:=by
 cases us with
 |nil=>cases h
 |cons a us=>
  obtain⟨_,rfl⟩:=U6 (dB h);exact⟨_,_,rfl⟩
theorem QD {us:List Value}(h:us.length=3):∃x0 x1 x2,us=[x0,x1,x2]:=by
 cases us with
 |nil=>cases h
 |cons a us=>
  obtain⟨_,_,rfl⟩:=ln2 (dB h);exact⟨_,_,_,rfl⟩
theorem Yr {us:List Value}(h:us.length=4):∃x0 x1 x2 x3,us=[x0,x1,x2,x3]:=by
 cases us with
 |nil=>cases h
 |cons a us=>
  obtain⟨_,_,_,rfl⟩:=QD (dB h);exact⟨_,_,_,_,rfl⟩
theorem all_mk {l:W.OpenLaw} {w:World} {K:W.Frag} {h:Heap} {mg:Str->Option Value} {fa:Addr} (X:K.In h) (G:h.Ns mainGlobals mg) (hfa:mg "law"=some (.ref fa))
  {PT:Addr} {PU:Addr}
  {f0:Addr} {od0 an0:Option Addr} {sl0:Array (Option Value)} {oc0 kV0 dc0 pm0 cd0 ct0:Value}
  {f1:Addr} {od1 an1:Option Addr} {sl1:Array (Option Value)} {oc1 kV1 dc1 pm1 cd1 ct1:Value}
  {f2:Addr} {od2 an2:Option Addr} {sl2:Array (Option Value)} {oc2 kV2 dc2 pm2 cd2 ct2:Value}
  {f3:Addr} {od3 an3:Option Addr} {sl3:Array (Option Value)} {oc3 kV3 dc3 pm3 cd3 ct3:Value}
  {f4:Addr} {od4 an4:Option Addr} {sl4:Array (Option Value)} {oc4 kV4 dc4 pm4 cd4 ct4:Value}
  {f5:Addr} {od5 an5:Option Addr} {sl5:Array (Option Value)} {oc5 kV5 dc5 pm5 cd5 ct5:Value}
  {f6:Addr} {od6 an6:Option Addr} {sl6:Array (Option Value)} {oc6 kV6 dc6 pm6 cd6 ct6:Value}
  {f7:Addr} {od7 an7:Option Addr} {sl7:Array (Option Value)} {oc7 kV7 dc7 pm7 cd7 ct7:Value}
  {f8:Addr} {od8 an8:Option Addr} {sl8:Array (Option Value)} {oc8 kV8 dc8 pm8 cd8 ct8:Value}
  {f9:Addr} {od9 an9:Option Addr} {sl9:Array (Option Value)} {oc9 kV9 dc9 pm9 cd9 ct9:Value}
  {f10:Addr} {od10 an10:Option Addr} {sl10:Array (Option Value)} {oc10 kV10 dc10 pm10 cd10 ct10:Value}
  {f11:Addr} {od11 an11:Option Addr} {sl11:Array (Option Value)} {oc11 kV11 dc11 pm11 cd11 ct11:Value}
  {f12:Addr} {od12 an12:Option Addr} {sl12:Array (Option Value)} {oc12 kV12 dc12 pm12 cd12 ct12:Value}
  {f13:Addr} {od13 an13:Option Addr} {sl13:Array (Option Value)} {oc13 kV13 dc13 pm13 ct13:Value}
  {cc13:Addr}
  {f14:Addr} {od14 an14:Option Addr} {sl14:Array (Option Value)} {oc14 kV14 dc14 pm14 cd14 ct14:Value}
  {f15:Addr} {od15 an15:Option Addr} {sl15:Array (Option Value)} {oc15 kV15 dc15 pm15 cd15 ct15:Value}
  {f16:Addr} {od16 an16:Option Addr} {sl16:Array (Option Value)} {oc16 kV16 dc16 pm16 cd16 ct16:Value}
  {f17:Addr} {od17 an17:Option Addr} {sl17:Array (Option Value)} {oc17 kV17 dc17 pm17 ct17:Value}
  {cc17:Addr}
  {f18:Addr} {od18 an18:Option Addr} {sl18:Array (Option Value)} {oc18 kV18 dc18 pm18 cd18 ct18:Value}
  {f19:Addr} {od19 an19:Option Addr} {sl19:Array (Option Value)} {oc19 kV19 dc19 pm19 cd19 ct19:Value}
  {f20:Addr} {od20 an20:Option Addr} {sl20:Array (Option Value)} {oc20 kV20 dc20 pm20 cd20 ct20:Value}
  {f21:Addr} {od21 an21:Option Addr} {sl21:Array (Option Value)} {oc21 kV21 dc21 pm21 cd21 ct21:Value}
  {f22:Addr} {od22 an22:Option Addr} {sl22:Array (Option Value)} {oc22 kV22 dc22 pm22 cd22 ct22:Value}
  {f23:Addr} {od23 an23:Option Addr} {sl23:Array (Option Value)} {oc23 kV23 dc23 pm23 cd23 ct23:Value}
  {f24:Addr} {od24 an24:Option Addr} {sl24:Array (Option Value)} {oc24 kV24 dc24 pm24 cd24 ct24:Value}
  {f25:Addr} {od25 an25:Option Addr} {sl25:Array (Option Value)} {oc25 kV25 dc25 pm25 cd25 ct25:Value}
  {f26:Addr} {od26 an26:Option Addr} {sl26:Array (Option Value)} {oc26 kV26 dc26 pm26 cd26 ct26:Value}
  {f27:Addr} {od27 an27:Option Addr} {sl27:Array (Option Value)} {oc27 kV27 dc27 pm27 cd27 ct27:Value}
  {f28:Addr} {od28 an28:Option Addr} {sl28:Array (Option Value)} {oc28 kV28 dc28 pm28 cd28 ct28:Value}
  {f29:Addr} {od29 an29:Option Addr} {sl29:Array (Option Value)} {oc29 kV29 dc29 pm29 cd29 ct29:Value}
  {f30:Addr} {od30 an30:Option Addr} {sl30:Array (Option Value)} {oc30 kV30 dc30 pm30 cd30 ct30:Value}
  {f31:Addr} {od31 an31:Option Addr} {sl31:Array (Option Value)} {oc31 kV31 dc31 pm31 cd31 ct31:Value}
  {f32:Addr} {od32 an32:Option Addr} {sl32:Array (Option Value)} {oc32 kV32 dc32 pm32 cd32 ct32:Value}
  {f33:Addr} {od33 an33:Option Addr} {sl33:Array (Option Value)} {oc33 kV33 dc33 pm33 cd33 ct33:Value}
  {f34:Addr} {od34 an34:Option Addr} {sl34:Array (Option Value)} {oc34 kV34 dc34 pm34 cd34 ct34:Value}
  {f35:Addr} {od35 an35:Option Addr} {sl35:Array (Option Value)} {oc35 kV35 dc35 pm35 cd35 ct35:Value}
  {f36:Addr} {od36 an36:Option Addr} {sl36:Array (Option Value)} {oc36 kV36 dc36 pm36 cd36 ct36:Value}
  {f37:Addr} {od37 an37:Option Addr} {sl37:Array (Option Value)} {oc37 kV37 dc37 pm37 cd37 ct37:Value}
  {f38:Addr} {od38 an38:Option Addr} {sl38:Array (Option Value)} {oc38 kV38 dc38 pm38 cd38 ct38:Value}
  {f39:Addr} {od39 an39:Option Addr} {sl39:Array (Option Value)} {oc39 kV39 dc39 pm39 cd39 ct39:Value}
  {f40:Addr} {od40 an40:Option Addr} {sl40:Array (Option Value)} {oc40 kV40 dc40 pm40 cd40 ct40:Value}
  {f41:Addr} {od41 an41:Option Addr} {sl41:Array (Option Value)} {oc41 kV41 dc41 pm41 cd41 ct41:Value}
  {f42:Addr} {od42 an42:Option Addr} {sl42:Array (Option Value)} {oc42 kV42 dc42 pm42 cd42 ct42:Value}
  {f43:Addr} {od43 an43:Option Addr} {sl43:Array (Option Value)} {oc43 kV43 dc43 pm43 cd43 ct43:Value}
  {f44:Addr} {od44 an44:Option Addr} {sl44:Array (Option Value)} {oc44 kV44 dc44 pm44 cd44 ct44:Value}
  {f45:Addr} {od45 an45:Option Addr} {sl45:Array (Option Value)} {oc45 kV45 dc45 pm45 cd45 ct45:Value}
  {f46:Addr} {od46 an46:Option Addr} {sl46:Array (Option Value)} {oc46 kV46 dc46 pm46 cd46 ct46:Value}
  {f47:Addr} {od47 an47:Option Addr} {sl47:Array (Option Value)} {oc47 kV47 dc47 pm47 cd47 ct47:Value}
  {f48:Addr} {od48 an48:Option Addr} {sl48:Array (Option Value)} {oc48 kV48 dc48 pm48 cd48 ct48:Value}
  {f49:Addr} {od49 an49:Option Addr} {sl49:Array (Option Value)} {oc49 kV49 dc49 pm49 cd49 ct49:Value}
  {f50:Addr} {od50 an50:Option Addr} {sl50:Array (Option Value)} {oc50 kV50 dc50 pm50 cd50 ct50:Value}
  {f51:Addr} {od51 an51:Option Addr} {sl51:Array (Option Value)} {oc51 kV51 dc51 pm51 cd51 ct51:Value}
  {f52:Addr} {od52 an52:Option Addr} {sl52:Array (Option Value)} {oc52 kV52 dc52 pm52 cd52 ct52:Value}
  {f53:Addr} {od53 an53:Option Addr} {sl53:Array (Option Value)} {oc53 kV53 dc53 pm53 cd53 ct53:Value}
  {f54:Addr} {od54 an54:Option Addr} {sl54:Array (Option Value)} {oc54 kV54 dc54 pm54 cd54 ct54:Value}
  {f55:Addr} {od55 an55:Option Addr} {sl55:Array (Option Value)} {oc55 kV55 dc55 pm55 cd55 ct55:Value}
  {f56:Addr} {od56 an56:Option Addr} {sl56:Array (Option Value)} {oc56 kV56 dc56 pm56 cd56 ct56:Value}
  {f57:Addr} {od57 an57:Option Addr} {sl57:Array (Option Value)} {oc57 kV57 dc57 pm57 cd57 ct57:Value}
  {f58:Addr} {od58 an58:Option Addr} {sl58:Array (Option Value)} {oc58 kV58 dc58 pm58 cd58 ct58:Value}
  {f59:Addr} {od59 an59:Option Addr} {sl59:Array (Option Value)} {oc59 kV59 dc59 pm59 cd59 ct59:Value}
  {f60:Addr} {od60 an60:Option Addr} {sl60:Array (Option Value)} {oc60 kV60 dc60 pm60 cd60 ct60:Value}
  {f61:Addr} {od61 an61:Option Addr} {sl61:Array (Option Value)} {oc61 kV61 dc61 pm61 cd61 ct61:Value}
  {f62:Addr} {od62 an62:Option Addr} {sl62:Array (Option Value)} {oc62 kV62 dc62 pm62 cd62 ct62:Value}
  {f63:Addr} {od63 an63:Option Addr} {sl63:Array (Option Value)} {oc63 kV63 dc63 pm63 cd63 ct63:Value}
  {f64:Addr} {od64 an64:Option Addr} {sl64:Array (Option Value)} {oc64 kV64 dc64 pm64 cd64 ct64:Value}
  {f65:Addr} {od65 an65:Option Addr} {sl65:Array (Option Value)} {oc65 kV65 dc65 pm65 cd65 ct65:Value}
  {f66:Addr} {od66 an66:Option Addr} {sl66:Array (Option Value)} {oc66 kV66 dc66 pm66 cd66 ct66:Value}
  {f67:Addr} {od67 an67:Option Addr} {sl67:Array (Option Value)} {oc67 kV67 dc67 pm67 cd67 ct67:Value}
  {f68:Addr} {od68 an68:Option Addr} {sl68:Array (Option Value)} {oc68 kV68 dc68 pm68 cd68 ct68:Value}
  {f69:Addr} {od69 an69:Option Addr} {sl69:Array (Option Value)} {oc69 kV69 dc69 pm69 cd69 ct69:Value}
  {C:Addr}
  {Ao:Addr}
  {Az:Addr}
  {AG:Addr}
  {AB:Addr}
  {Ap:Addr}
  {Ay:Addr}
  {As:Addr}
  {t_SIGNS:Tok}
  {t_MOST_SIGNS:Tok}
  {t_FILE_ENTRY:Tok}
  {t_FOLDER_ENTRY:Tok}
  {t_NAME_SIGNS:Tok}
  {t_MOST_NAME_SIGNS:Tok}
  {t_MOST_ENTRIES:Tok}
  {t_STEM:Tok}
  {t_SEAL:Tok}
  {t_MOST_KEEPERS:Tok}
  {t_MOST_NAMES:Tok}
  {t_MOST_STEPS:Tok}
  {t_MOST_TREE_ENTRIES:Tok}
  {t_MOST_TREE_DEEP:Tok}
  (a0:W.nsIn K mainGlobals "is_text"=some (some (.ref f0))) (l0:K.lookup f0=some ⟨oc0,od0,.func (W.fnOf "is_text" "is_text" (Am Fs) (Al Fs) (Ad Fs) .none kV0 dc0 pm0 an0 cd0 ct0),sl0⟩) (c0:W.codeIn K cd0 "is_text"=true) (k0:W.keepIn K (.ref f0)=true)
  (a1:W.findIn K (.ref Ao) "__init__"=some (some (.ref f1))) (i1:W.isFn K (.ref f1)=true) (l1:K.lookup f1=some ⟨oc1,od1,.func (W.fnOf "__init__" "NoName.__init__" (Am Cw) (Al Cw) (Ad Cw) .none kV1 dc1 pm1 an1 cd1 ct1),sl1⟩) (c1:W.codeIn K cd1 "NoName.__init__"=true) (k1:W.keepIn K (.ref f1)=true)
  (a2:W.findIn K (.ref Az) "__init__"=some (some (.ref f2))) (i2:W.isFn K (.ref f2)=true) (l2:K.lookup f2=some ⟨oc2,od2,.func (W.fnOf "__init__" "Twice.__init__" (Am CP) (Al CP) (Ad CP) .none kV2 dc2 pm2 an2 cd2 ct2),sl2⟩) (c2:W.codeIn K cd2 "Twice.__init__"=true) (k2:W.keepIn K (.ref f2)=true)
  (a3:W.findIn K (.ref AG) "__init__"=some (some (.ref f3))) (i3:W.isFn K (.ref f3)=true) (l3:K.lookup f3=some ⟨oc3,od3,.func (W.fnOf "__init__" "Bare.__init__" (Am DR) (Al DR) (Ad DR) .none kV3 dc3 pm3 an3 cd3 ct3),sl3⟩) (c3:W.codeIn K cd3 "Bare.__init__"=true) (k3:W.keepIn K (.ref f3)=true)
  (a4:W.findIn K (.ref AB) "__init__"=some (some (.ref f4))) (i4:W.isFn K (.ref f4)=true) (l4:K.lookup f4=some ⟨oc4,od4,.func (W.fnOf "__init__" "Grown.__init__" (Am CQ) (Al CQ) (Ad CQ) .none kV4 dc4 pm4 an4 cd4 ct4),sl4⟩) (c4:W.codeIn K cd4 "Grown.__init__"=true) (k4:W.keepIn K (.ref f4)=true)
  (a5:W.findIn K (.ref Ay) "__init__"=some (some (.ref f5))) (i5:W.isFn K (.ref f5)=true) (l5:K.lookup f5=some ⟨oc5,od5,.func (W.fnOf "__init__" "NoPath.__init__" (Am Cs) (Al Cs) (Ad Cs) .none kV5 dc5 pm5 an5 cd5 ct5),sl5⟩) (c5:W.codeIn K cd5 "NoPath.__init__"=true) (k5:W.keepIn K (.ref f5)=true)
  (a6:W.nsIn K mainGlobals "is_name"=some (some (.ref f6))) (l6:K.lookup f6=some ⟨oc6,od6,.func (W.fnOf "is_name" "is_name" (Am Ft) (Al Ft) (Ad Ft) .none kV6 dc6 pm6 an6 cd6 ct6),sl6⟩) (c6:W.codeIn K cd6 "is_name"=true) (k6:W.keepIn K (.ref f6)=true)
  (a7:W.nsIn K mainGlobals "one_called"=some (some (.ref f7))) (l7:K.lookup f7=some ⟨oc7,od7,.func (W.fnOf "one_called" "one_called" (Am CY) (Al CY) (Ad CY) .none kV7 dc7 pm7 an7 cd7 ct7),sl7⟩) (c7:W.codeIn K cd7 "one_called"=true) (k7:W.keepIn K (.ref f7)=true)
  (a8:W.nsIn K mainGlobals "keeper_called"=some (some (.ref f8))) (l8:K.lookup f8=some ⟨oc8,od8,.func (W.fnOf "keeper_called" "keeper_called" (Am B0) (Al B0) (Ad B0) .none kV8 dc8 pm8 an8 cd8 ct8),sl8⟩) (c8:W.codeIn K cd8 "keeper_called"=true) (k8:W.keepIn K (.ref f8)=true)
  (a9:W.nsIn K mainGlobals "named_so"=some (some (.ref f9))) (l9:K.lookup f9=some ⟨oc9,od9,.func (W.fnOf "named_so" "named_so" (Am ED) (Al ED) (Ad ED) .none kV9 dc9 pm9 an9 cd9 ct9),sl9⟩) (c9:W.codeIn K cd9 "named_so"=true) (k9:W.keepIn K (.ref f9)=true)
  (a10:W.nsIn K mainGlobals "stem_called"=some (some (.ref f10))) (l10:K.lookup f10=some ⟨oc10,od10,.func (W.fnOf "stem_called" "stem_called" (Am CA) (Al CA) (Ad CA) .none kV10 dc10 pm10 an10 cd10 ct10),sl10⟩) (c10:W.codeIn K cd10 "stem_called"=true) (k10:W.keepIn K (.ref f10)=true)
  (a11:W.nsIn K mainGlobals "seal_called"=some (some (.ref f11))) (l11:K.lookup f11=some ⟨oc11,od11,.func (W.fnOf "seal_called" "seal_called" (Am Ct) (Al Ct) (Ad Ct) .none kV11 dc11 pm11 an11 cd11 ct11),sl11⟩) (c11:W.codeIn K cd11 "seal_called"=true) (k11:W.keepIn K (.ref f11)=true)
  (a12:W.nsIn K mainGlobals "stems_in"=some (some (.ref f12))) (l12:K.lookup f12=some ⟨oc12,od12,.func (W.fnOf "stems_in" "stems_in" (Am Ek) (Al Ek) (Ad Ek) .none kV12 dc12 pm12 an12 cd12 ct12),sl12⟩) (c12:W.codeIn K cd12 "stems_in"=true) (k12:W.keepIn K (.ref f12)=true)
  (a13:W.nsIn K mainGlobals "seals_of"=some (some (.ref f13))) (l13:K.lookup f13=some ⟨oc13,od13,.func (W.fnOf "seals_of" "seals_of" (Am EA) (Al EA) (Ad EA) .none kV13 dc13 pm13 an13 (.ref cc13) ct13),sl13⟩) (c13:W.codeIn K (.ref cc13) "seals_of"=true) (k13:W.keepIn K (.ref f13)=true) (Vc:W.codeHdIn K cc13 PT=true) (WT:K.lookup PT=none)
  (a14:W.nsIn K mainGlobals "check_new_name"=some (some (.ref f14))) (l14:K.lookup f14=some ⟨oc14,od14,.func (W.fnOf "check_new_name" "check_new_name" (Am BN) (Al BN) (Ad BN) .none kV14 dc14 pm14 an14 cd14 ct14),sl14⟩) (c14:W.codeIn K cd14 "check_new_name"=true) (k14:W.keepIn K (.ref f14)=true)
  (a15:W.nsIn K mainGlobals "check_room"=some (some (.ref f15))) (l15:K.lookup f15=some ⟨oc15,od15,.func (W.fnOf "check_room" "check_room" (Am CN) (Al CN) (Ad CN) .none kV15 dc15 pm15 an15 cd15 ct15),sl15⟩) (c15:W.codeIn K cd15 "check_room"=true) (k15:W.keepIn K (.ref f15)=true)
  (a16:W.nsIn K mainGlobals "check_new_stem"=some (some (.ref f16))) (l16:K.lookup f16=some ⟨oc16,od16,.func (W.fnOf "check_new_stem" "check_new_stem" (Am BO) (Al BO) (Ad BO) .none kV16 dc16 pm16 an16 cd16 ct16),sl16⟩) (c16:W.codeIn K cd16 "check_new_stem"=true) (k16:W.keepIn K (.ref f16)=true)
  (a17:W.nsIn K mainGlobals "put_among"=some (some (.ref f17))) (l17:K.lookup f17=some ⟨oc17,od17,.func (W.fnOf "put_among" "put_among" (Am DS) (Al DS) (Ad DS) .none kV17 dc17 pm17 an17 (.ref cc17) ct17),sl17⟩) (c17:W.codeIn K (.ref cc17) "put_among"=true) (k17:W.keepIn K (.ref f17)=true) (Vy:W.codeHdIn K cc17 PU=true) (Xj:K.lookup PU=none)
  (a18:W.nsIn K mainGlobals "with_keeper"=some (some (.ref f18))) (l18:K.lookup f18=some ⟨oc18,od18,.func (W.fnOf "with_keeper" "with_keeper" (Am Cq) (Al Cq) (Ad Cq) .none kV18 dc18 pm18 an18 cd18 ct18),sl18⟩) (c18:W.codeIn K cd18 "with_keeper"=true) (k18:W.keepIn K (.ref f18)=true)
  (a19:W.nsIn K mainGlobals "with_named"=some (some (.ref f19))) (l19:K.lookup f19=some ⟨oc19,od19,.func (W.fnOf "with_named" "with_named" (Am CM) (Al CM) (Ad CM) .none kV19 dc19 pm19 an19 cd19 ct19),sl19⟩) (c19:W.codeIn K cd19 "with_named"=true) (k19:W.keepIn K (.ref f19)=true)
  (a20:W.nsIn K mainGlobals "without_named"=some (some (.ref f20))) (l20:K.lookup f20=some ⟨oc20,od20,.func (W.fnOf "without_named" "without_named" (Am BZ) (Al BZ) (Ad BZ) .none kV20 dc20 pm20 an20 cd20 ct20),sl20⟩) (c20:W.codeIn K cd20 "without_named"=true) (k20:W.keepIn K (.ref f20)=true)
  (a21:W.nsIn K mainGlobals "one_older"=some (some (.ref f21))) (l21:K.lookup f21=some ⟨oc21,od21,.func (W.fnOf "one_older" "one_older" (Am DD) (Al DD) (Ad DD) .none kV21 dc21 pm21 an21 cd21 ct21),sl21⟩) (c21:W.codeIn K cd21 "one_older"=true) (k21:W.keepIn K (.ref f21)=true)
  (a22:W.nsIn K mainGlobals "grafted"=some (some (.ref f22))) (l22:K.lookup f22=some ⟨oc22,od22,.func (W.fnOf "grafted" "grafted" (Am Fn) (Al Fn) (Ad Fn) .none kV22 dc22 pm22 an22 cd22 ct22),sl22⟩) (c22:W.codeIn K cd22 "grafted"=true) (k22:W.keepIn K (.ref f22)=true)
  (a23:W.nsIn K mainGlobals "with_origin"=some (some (.ref f23))) (l23:K.lookup f23=some ⟨oc23,od23,.func (W.fnOf "with_origin" "with_origin" (Am Cy) (Al Cy) (Ad Cy) .none kV23 dc23 pm23 an23 cd23 ct23),sl23⟩) (c23:W.codeIn K cd23 "with_origin"=true) (k23:W.keepIn K (.ref f23)=true)
  (a24:W.nsIn K mainGlobals "steps_in"=some (some (.ref f24))) (l24:K.lookup f24=some ⟨oc24,od24,.func (W.fnOf "steps_in" "steps_in" (Am Er) (Al Er) (Ad Er) .none kV24 dc24 pm24 an24 cd24 ct24),sl24⟩) (c24:W.codeIn K cd24 "steps_in"=true) (k24:W.keepIn K (.ref f24)=true)
  (a25:W.nsIn K mainGlobals "folder_of"=some (some (.ref f25))) (l25:K.lookup f25=some ⟨oc25,od25,.func (W.fnOf "folder_of" "folder_of" (Am DN) (Al DN) (Ad DN) .none kV25 dc25 pm25 an25 cd25 ct25),sl25⟩) (c25:W.codeIn K cd25 "folder_of"=true) (k25:W.keepIn K (.ref f25)=true)
  (a26:W.nsIn K mainGlobals "keeper_told"=some (some (.ref f26))) (l26:K.lookup f26=some ⟨oc26,od26,.func (W.fnOf "keeper_told" "keeper_told" (Am Cp) (Al Cp) (Ad Cp) .none kV26 dc26 pm26 an26 cd26 ct26),sl26⟩) (c26:W.codeIn K cd26 "keeper_told"=true) (k26:W.keepIn K (.ref f26)=true)
  (a27:W.nsIn K mainGlobals "stem_sealed"=some (some (.ref f27))) (l27:K.lookup f27=some ⟨oc27,od27,.func (W.fnOf "stem_sealed" "stem_sealed" (Am Cr) (Al Cr) (Ad Cr) .none kV27 dc27 pm27 an27 cd27 ct27),sl27⟩) (c27:W.codeIn K cd27 "stem_sealed"=true) (k27:W.keepIn K (.ref f27)=true)
  (a28:W.nsIn K mainGlobals "stem_set_back"=some (some (.ref f28))) (l28:K.lookup f28=some ⟨oc28,od28,.func (W.fnOf "stem_set_back" "stem_set_back" (Am BY) (Al BY) (Ad BY) .none kV28 dc28 pm28 an28 cd28 ct28),sl28⟩) (c28:W.codeIn K cd28 "stem_set_back"=true) (k28:W.keepIn K (.ref f28)=true)
  (a29:W.nsIn K mainGlobals "stem_grafted_unbound"=some (some (.ref f29))) (l29:K.lookup f29=some ⟨oc29,od29,.func (W.fnOf "stem_grafted_unbound" "stem_grafted_unbound" (Am A6) (Al A6) (Ad A6) .none kV29 dc29 pm29 an29 cd29 ct29),sl29⟩) (c29:W.codeIn K cd29 "stem_grafted_unbound"=true) (k29:W.keepIn K (.ref f29)=true)
  (a30:W.nsIn K mainGlobals "name_dropped"=some (some (.ref f30))) (l30:K.lookup f30=some ⟨oc30,od30,.func (W.fnOf "name_dropped" "name_dropped" (Am B9) (Al B9) (Ad B9) .none kV30 dc30 pm30 an30 cd30 ct30),sl30⟩) (c30:W.codeIn K cd30 "name_dropped"=true) (k30:W.keepIn K (.ref f30)=true)
  (a31:W.findIn K (.ref C) "__init__"=some (some (.ref f31))) (i31:W.isFn K (.ref f31)=true) (l31:K.lookup f31=some ⟨oc31,od31,.func (W.fnOf "__init__" "PlainHouse.__init__" (Am BF) (Al BF) (Ad BF) .none kV31 dc31 pm31 an31 cd31 ct31),sl31⟩) (c31:W.codeIn K cd31 "PlainHouse.__init__"=true) (k31:W.keepIn K (.ref f31)=true)
  (a32:W.findIn K (.ref C) "keeper"=some (some (.ref f32))) (i32:W.isFn K (.ref f32)=true) (l32:K.lookup f32=some ⟨oc32,od32,.func (W.fnOf "keeper" "PlainHouse.keeper" (Am Bn) (Al Bn) (Ad Bn) .none kV32 dc32 pm32 an32 cd32 ct32),sl32⟩) (c32:W.codeIn K cd32 "PlainHouse.keeper"=true) (k32:W.keepIn K (.ref f32)=true)
  (a33:W.findIn K (.ref C) "stem"=some (some (.ref f33))) (i33:W.isFn K (.ref f33)=true) (l33:K.lookup f33=some ⟨oc33,od33,.func (W.fnOf "stem" "PlainHouse.stem" (Am BE) (Al BE) (Ad BE) .none kV33 dc33 pm33 an33 cd33 ct33),sl33⟩) (c33:W.codeIn K cd33 "PlainHouse.stem"=true) (k33:W.keepIn K (.ref f33)=true)
  (a34:W.findIn K (.ref C) "take_in"=some (some (.ref f34))) (i34:W.isFn K (.ref f34)=true) (l34:K.lookup f34=some ⟨oc34,od34,.func (W.fnOf "take_in" "PlainHouse.take_in" (Am Bh) (Al Bh) (Ad Bh) .none kV34 dc34 pm34 an34 cd34 ct34),sl34⟩) (c34:W.codeIn K cd34 "PlainHouse.take_in"=true) (k34:W.keepIn K (.ref f34)=true)
  (a35:W.findIn K (.ref C) "write"=some (some (.ref f35))) (i35:W.isFn K (.ref f35)=true) (l35:K.lookup f35=some ⟨oc35,od35,.func (W.fnOf "write" "PlainHouse.write" (Am Bs) (Al Bs) (Ad Bs) .none kV35 dc35 pm35 an35 cd35 ct35),sl35⟩) (c35:W.codeIn K cd35 "PlainHouse.write"=true) (k35:W.keepIn K (.ref f35)=true)
  (a36:W.findIn K (.ref C) "seal"=some (some (.ref f36))) (i36:W.isFn K (.ref f36)=true) (l36:K.lookup f36=some ⟨oc36,od36,.func (W.fnOf "seal" "PlainHouse.seal" (Am Bz) (Al Bz) (Ad Bz) .none kV36 dc36 pm36 an36 cd36 ct36),sl36⟩) (c36:W.codeIn K cd36 "PlainHouse.seal"=true) (k36:W.keepIn K (.ref f36)=true)
  (a37:W.findIn K (.ref C) "grow"=some (some (.ref f37))) (i37:W.isFn K (.ref f37)=true) (l37:K.lookup f37=some ⟨oc37,od37,.func (W.fnOf "grow" "PlainHouse.grow" (Am Bx) (Al Bx) (Ad Bx) .none kV37 dc37 pm37 an37 cd37 ct37),sl37⟩) (c37:W.codeIn K cd37 "PlainHouse.grow"=true) (k37:W.keepIn K (.ref f37)=true)
  (a38:W.findIn K (.ref C) "back"=some (some (.ref f38))) (i38:W.isFn K (.ref f38)=true) (l38:K.lookup f38=some ⟨oc38,od38,.func (W.fnOf "back" "PlainHouse.back" (Am BA) (Al BA) (Ad BA) .none kV38 dc38 pm38 an38 cd38 ct38),sl38⟩) (c38:W.codeIn K cd38 "PlainHouse.back"=true) (k38:W.keepIn K (.ref f38)=true)
  (a39:W.findIn K (.ref C) "graft"=some (some (.ref f39))) (i39:W.isFn K (.ref f39)=true) (l39:K.lookup f39=some ⟨oc39,od39,.func (W.fnOf "graft" "PlainHouse.graft" (Am Bt) (Al Bt) (Ad Bt) .none kV39 dc39 pm39 an39 cd39 ct39),sl39⟩) (c39:W.codeIn K cd39 "PlainHouse.graft"=true) (k39:W.keepIn K (.ref f39)=true)
  (a40:W.findIn K (.ref C) "drop"=some (some (.ref f40))) (i40:W.isFn K (.ref f40)=true) (l40:K.lookup f40=some ⟨oc40,od40,.func (W.fnOf "drop" "PlainHouse.drop" (Am BC) (Al BC) (Ad BC) .none kV40 dc40 pm40 an40 cd40 ct40),sl40⟩) (c40:W.codeIn K cd40 "PlainHouse.drop"=true) (k40:W.keepIn K (.ref f40)=true)
  (a41:W.findIn K (.ref C) "read"=some (some (.ref f41))) (i41:W.isFn K (.ref f41)=true) (l41:K.lookup f41=some ⟨oc41,od41,.func (W.fnOf "read" "PlainHouse.read" (Am BB) (Al BB) (Ad BB) .none kV41 dc41 pm41 an41 cd41 ct41),sl41⟩) (c41:W.codeIn K cd41 "PlainHouse.read"=true) (k41:W.keepIn K (.ref f41)=true)
  (a42:W.findIn K (.ref C) "paths"=some (some (.ref f42))) (i42:W.isFn K (.ref f42)=true) (l42:K.lookup f42=some ⟨oc42,od42,.func (W.fnOf "paths" "PlainHouse.paths" (Am Br) (Al Br) (Ad Br) .none kV42 dc42 pm42 an42 cd42 ct42),sl42⟩) (c42:W.codeIn K cd42 "PlainHouse.paths"=true) (k42:W.keepIn K (.ref f42)=true)
  (a43:W.findIn K (.ref C) "tree_of"=some (some (.ref f43))) (i43:W.isFn K (.ref f43)=true) (l43:K.lookup f43=some ⟨oc43,od43,.func (W.fnOf "tree_of" "PlainHouse.tree_of" (Am Bg) (Al Bg) (Ad Bg) .none kV43 dc43 pm43 an43 cd43 ct43),sl43⟩) (c43:W.codeIn K cd43 "PlainHouse.tree_of"=true) (k43:W.keepIn K (.ref f43)=true)
  (a44:W.findIn K (.ref C) "tree_of_stem"=some (some (.ref f44))) (i44:W.isFn K (.ref f44)=true) (l44:K.lookup f44=some ⟨oc44,od44,.func (W.fnOf "tree_of_stem" "PlainHouse.tree_of_stem" (Am AY) (Al AY) (Ad AY) .none kV44 dc44 pm44 an44 cd44 ct44),sl44⟩) (c44:W.codeIn K cd44 "PlainHouse.tree_of_stem"=true) (k44:W.keepIn K (.ref f44)=true)
  (a45:W.findIn K (.ref C) "change"=some (some (.ref f45))) (i45:W.isFn K (.ref f45)=true) (l45:K.lookup f45=some ⟨oc45,od45,.func (W.fnOf "change" "PlainHouse.change" (Am Bo) (Al Bo) (Ad Bo) .none kV45 dc45 pm45 an45 cd45 ct45),sl45⟩) (c45:W.codeIn K cd45 "PlainHouse.change"=true) (k45:W.keepIn K (.ref f45)=true)
  (a46:W.findIn K (.ref C) "put_tree"=some (some (.ref f46))) (i46:W.isFn K (.ref f46)=true) (l46:K.lookup f46=some ⟨oc46,od46,.func (W.fnOf "put_tree" "PlainHouse.put_tree" (Am Bb) (Al Bb) (Ad Bb) .none kV46 dc46 pm46 an46 cd46 ct46),sl46⟩) (c46:W.codeIn K cd46 "PlainHouse.put_tree"=true) (k46:W.keepIn K (.ref f46)=true)
  (a47:W.nsIn K mainGlobals "is_folder"=some (some (.ref f47))) (l47:K.lookup f47=some ⟨oc47,od47,.func (W.fnOf "is_folder" "is_folder" (Am DJ) (Al DJ) (Ad DJ) .none kV47 dc47 pm47 an47 cd47 ct47),sl47⟩) (c47:W.codeIn K cd47 "is_folder"=true) (k47:W.keepIn K (.ref f47)=true)
  (a48:W.nsIn K mainGlobals "content_in"=some (some (.ref f48))) (l48:K.lookup f48=some ⟨oc48,od48,.func (W.fnOf "content_in" "content_in" (Am CV) (Al CV) (Ad CV) .none kV48 dc48 pm48 an48 cd48 ct48),sl48⟩) (c48:W.codeIn K cd48 "content_in"=true) (k48:W.keepIn K (.ref f48)=true)
  (a49:W.nsIn K mainGlobals "check_put"=some (some (.ref f49))) (l49:K.lookup f49=some ⟨oc49,od49,.func (W.fnOf "check_put" "check_put" (Am DO) (Al DO) (Ad DO) .none kV49 dc49 pm49 an49 cd49 ct49),sl49⟩) (c49:W.codeIn K cd49 "check_put"=true) (k49:W.keepIn K (.ref f49)=true)
  (a50:W.nsIn K mainGlobals "with_paths"=some (some (.ref f50))) (l50:K.lookup f50=some ⟨oc50,od50,.func (W.fnOf "with_paths" "with_paths" (Am C1) (Al C1) (Ad C1) .none kV50 dc50 pm50 an50 cd50 ct50),sl50⟩) (c50:W.codeIn K cd50 "with_paths"=true) (k50:W.keepIn K (.ref f50)=true)
  (a51:W.nsIn K mainGlobals "check_bounds"=some (some (.ref f51))) (l51:K.lookup f51=some ⟨oc51,od51,.func (W.fnOf "check_bounds" "check_bounds" (Am Cd) (Al Cd) (Ad Cd) .none kV51 dc51 pm51 an51 cd51 ct51),sl51⟩) (c51:W.codeIn K cd51 "check_bounds"=true) (k51:W.keepIn K (.ref f51)=true)
  (a52:W.nsIn K mainGlobals "_law_cell_at"=some (some (.ref f52))) (l52:K.lookup f52=some ⟨oc52,od52,.func (W.fnOf "_law_cell_at" "_law_cell_at" (Am Ce) (Al Ce) (Ad Ce) .none kV52 dc52 pm52 an52 cd52 ct52),sl52⟩) (c52:W.codeIn K cd52 "_law_cell_at"=true) (k52:W.keepIn K (.ref f52)=true)
  (a53:W.nsIn K mainGlobals "_law_row"=some (some (.ref f53))) (l53:K.lookup f53=some ⟨oc53,od53,.func (W.fnOf "_law_row" "_law_row" (Am EE) (Al EE) (Ad EE) .none kV53 dc53 pm53 an53 cd53 ct53),sl53⟩) (c53:W.codeIn K cd53 "_law_row"=true) (k53:W.keepIn K (.ref f53)=true)
  (a54:W.nsIn K mainGlobals "_law_names"=some (some (.ref f54))) (l54:K.lookup f54=some ⟨oc54,od54,.func (W.fnOf "_law_names" "_law_names" (Am CS) (Al CS) (Ad CS) .none kV54 dc54 pm54 an54 cd54 ct54),sl54⟩) (c54:W.codeIn K cd54 "_law_names"=true) (k54:W.keepIn K (.ref f54)=true)
  (a55:W.nsIn K mainGlobals "_law_some"=some (some (.ref f55))) (l55:K.lookup f55=some ⟨oc55,od55,.func (W.fnOf "_law_some" "_law_some" (Am DI) (Al DI) (Ad DI) .none kV55 dc55 pm55 an55 cd55 ct55),sl55⟩) (c55:W.codeIn K cd55 "_law_some"=true) (k55:W.keepIn K (.ref f55)=true)
  (a56:W.nsIn K mainGlobals "_law_deed"=some (some (.ref f56))) (l56:K.lookup f56=some ⟨oc56,od56,.func (W.fnOf "_law_deed" "_law_deed" (Am DL) (Al DL) (Ad DL) .none kV56 dc56 pm56 an56 cd56 ct56),sl56⟩) (c56:W.codeIn K cd56 "_law_deed"=true) (k56:W.keepIn K (.ref f56)=true)
  (a57:W.nsIn K mainGlobals "_law_done"=some (some (.ref f57))) (l57:K.lookup f57=some ⟨oc57,od57,.func (W.fnOf "_law_done" "_law_done" (Am DT) (Al DT) (Ad DT) .none kV57 dc57 pm57 an57 cd57 ct57),sl57⟩) (c57:W.codeIn K cd57 "_law_done"=true) (k57:W.keepIn K (.ref f57)=true)
  (a58:W.nsIn K mainGlobals "_law_told"=some (some (.ref f58))) (l58:K.lookup f58=some ⟨oc58,od58,.func (W.fnOf "_law_told" "_law_told" (Am DQ) (Al DQ) (Ad DQ) .none kV58 dc58 pm58 an58 cd58 ct58),sl58⟩) (c58:W.codeIn K cd58 "_law_told"=true) (k58:W.keepIn K (.ref f58)=true)
  (a59:W.nsIn K mainGlobals "_law_is_name"=some (some (.ref f59))) (l59:K.lookup f59=some ⟨oc59,od59,.func (W.fnOf "_law_is_name" "_law_is_name" (Am Cf) (Al Cf) (Ad Cf) .none kV59 dc59 pm59 an59 cd59 ct59),sl59⟩) (c59:W.codeIn K cd59 "_law_is_name"=true) (k59:W.keepIn K (.ref f59)=true)
  (a60:W.nsIn K mainGlobals "_law_is"=some (some (.ref f60))) (l60:K.lookup f60=some ⟨oc60,od60,.func (W.fnOf "_law_is" "_law_is" (Am Fp) (Al Fp) (Ad Fp) .none kV60 dc60 pm60 an60 cd60 ct60),sl60⟩) (c60:W.codeIn K cd60 "_law_is"=true) (k60:W.keepIn K (.ref f60)=true)
  (a61:W.nsIn K mainGlobals "_law_new"=some (some (.ref f61))) (l61:K.lookup f61=some ⟨oc61,od61,.func (W.fnOf "_law_new" "_law_new" (Am Ep) (Al Ep) (Ad Ep) .none kV61 dc61 pm61 an61 cd61 ct61),sl61⟩) (c61:W.codeIn K cd61 "_law_new"=true) (k61:W.keepIn K (.ref f61)=true)
  (a62:W.nsIn K mainGlobals "_law_made"=some (some (.ref f62))) (l62:K.lookup f62=some ⟨oc62,od62,.func (W.fnOf "_law_made" "_law_made" (Am DA) (Al DA) (Ad DA) .none kV62 dc62 pm62 an62 cd62 ct62),sl62⟩) (c62:W.codeIn K cd62 "_law_made"=true) (k62:W.keepIn K (.ref f62)=true)
  (a63:W.nsIn K mainGlobals "_law_seals"=some (some (.ref f63))) (l63:K.lookup f63=some ⟨oc63,od63,.func (W.fnOf "_law_seals" "_law_seals" (Am C2) (Al C2) (Ad C2) .none kV63 dc63 pm63 an63 cd63 ct63),sl63⟩) (c63:W.codeIn K cd63 "_law_seals"=true) (k63:W.keepIn K (.ref f63)=true)
  (a64:W.nsIn K mainGlobals "_law_gone"=some (some (.ref f64))) (l64:K.lookup f64=some ⟨oc64,od64,.func (W.fnOf "_law_gone" "_law_gone" (Am DP) (Al DP) (Ad DP) .none kV64 dc64 pm64 an64 cd64 ct64),sl64⟩) (c64:W.codeIn K cd64 "_law_gone"=true) (k64:W.keepIn K (.ref f64)=true)
  (a65:W.nsIn K mainGlobals "_law_grafted"=some (some (.ref f65))) (l65:K.lookup f65=some ⟨oc65,od65,.func (W.fnOf "_law_grafted" "_law_grafted" (Am Cc) (Al Cc) (Ad Cc) .none kV65 dc65 pm65 an65 cd65 ct65),sl65⟩) (c65:W.codeIn K cd65 "_law_grafted"=true) (k65:W.keepIn K (.ref f65)=true)
  (a66:W.nsIn K mainGlobals "_law_due"=some (some (.ref f66))) (l66:K.lookup f66=some ⟨oc66,od66,.func (W.fnOf "_law_due" "_law_due" (Am Ej) (Al Ej) (Ad Ej) .none kV66 dc66 pm66 an66 cd66 ct66),sl66⟩) (c66:W.codeIn K cd66 "_law_due"=true) (k66:W.keepIn K (.ref f66)=true)
  (a67:W.nsIn K mainGlobals "_law_read"=some (some (.ref f67))) (l67:K.lookup f67=some ⟨oc67,od67,.func (W.fnOf "_law_read" "_law_read" (Am DV) (Al DV) (Ad DV) .none kV67 dc67 pm67 an67 cd67 ct67),sl67⟩) (c67:W.codeIn K cd67 "_law_read"=true) (k67:W.keepIn K (.ref f67)=true)
  (a68:W.nsIn K mainGlobals "_law_right"=some (some (.ref f68))) (l68:K.lookup f68=some ⟨oc68,od68,.func (W.fnOf "_law_right" "_law_right" (Am CW) (Al CW) (Ad CW) .none kV68 dc68 pm68 an68 cd68 ct68),sl68⟩) (c68:W.codeIn K cd68 "_law_right"=true) (k68:W.keepIn K (.ref f68)=true)
  (a69:W.nsIn K mainGlobals "law"=some (some (.ref f69))) (l69:K.lookup f69=some ⟨oc69,od69,.func (W.fnOf "law" "law" (Am JX) (Al JX) (Ad JX) .none kV69 dc69 pm69 an69 cd69 ct69),sl69⟩) (c69:W.codeIn K cd69 "law"=true) (k69:W.keepIn K (.ref f69)=true)
  (aC:W.nsIn K mainGlobals "PlainHouse"=some (some (.ref C))) (pg:W.plainGet K C Str.empty=true) (hd:W.hasDictIn K C=true) (po:W.plainOver K C=true) (sa:W.findIn K (.ref C) "__setattr__"=some (some (.builtin "object.__setattr__"))) (mk:W.makesIn K C=true) (kc:W.keepIn K (.ref C)=true)
  (n_own_head:W.findIn K (.ref C) "own_head"=some none)
  (x_NoName:W.nsIn K mainGlobals "NoName"=some (some (.ref Ao)))
  (x_Twice:W.nsIn K mainGlobals "Twice"=some (some (.ref Az)))
  (x_Bare:W.nsIn K mainGlobals "Bare"=some (some (.ref AG)))
  (x_Grown:W.nsIn K mainGlobals "Grown"=some (some (.ref AB)))
  (x_TooMany:W.nsIn K mainGlobals "TooMany"=some (some (.ref Ap)))
  (x_NoPath:W.nsIn K mainGlobals "NoPath"=some (some (.ref Ay)))
  (x_StemError:W.nsIn K mainGlobals "StemError"=some (some (.ref As)))
  (q_TooMany:W.excIn K Ap [.type "ValueError",.type "Exception",.type "BaseException",.type "object"] "ValueError.__new__"=true)
  (m_NoName_StemError:W.exmOne K (.ref Ao) (.ref As)=some true)
  (m_Twice_StemError:W.exmOne K (.ref Az) (.ref As)=some true)
  (m_Bare_StemError:W.exmOne K (.ref AG) (.ref As)=some true)
  (m_Grown_StemError:W.exmOne K (.ref AB) (.ref As)=some true)
  (m_TooMany_StemError:W.exmOne K (.ref Ap) (.ref As)=some true)
  (m_NoName_NoName:W.exmOne K (.ref Ao) (.ref Ao)=some true)
  (m_NoPath_NoName:W.exmOne K (.ref Ay) (.ref Ao)=some false)
  (m_NoPath_NoPath:W.exmOne K (.ref Ay) (.ref Ay)=some true)
  (Pd:W.findIn K (.ref AG) "__getattribute__"=some (some (.builtin "BaseException.__getattribute__")))
  (Pb:W.findIn K (.ref AG) "__getattr__"=some none)
  (OI:W.findIn K (.ref AG) "__class__"=some (some (.builtin "object.__class__")))
  (Ol:W.specialIn K (.builtin "object.__class__") "__get__"=some (some (.builtin "getset_descriptor.__get__")))
  (Oe:W.takesIn K (.builtin "object.__class__")=some true)
  (Pl:W.mroIn K AG (.type "object")=some true)
  (OJ:W.mroIn K AG (.type "BaseException")=some true)
  (Me:W.findIn K (.ref AB) "__getattribute__"=some (some (.builtin "BaseException.__getattribute__")))
  (Mg:W.findIn K (.ref AB) "__getattr__"=some none)
  (Mi:W.findIn K (.ref AB) "__class__"=some (some (.builtin "object.__class__")))
  (Mv:W.specialIn K (.builtin "object.__class__") "__get__"=some (some (.builtin "getset_descriptor.__get__")))
  (MJ:W.takesIn K (.builtin "object.__class__")=some true)
  (Mj:W.mroIn K AB (.type "object")=some true)
  (Mp:W.mroIn K AB (.type "BaseException")=some true)
  (KG:W.findIn K (.ref Ao) "__getattribute__"=some (some (.builtin "BaseException.__getattribute__")))
  (Kz:W.findIn K (.ref Ao) "__getattr__"=some none)
  (Ks:W.findIn K (.ref Ao) "__class__"=some (some (.builtin "object.__class__")))
  (Kj:W.specialIn K (.builtin "object.__class__") "__get__"=some (some (.builtin "getset_descriptor.__get__")))
  (K6:W.takesIn K (.builtin "object.__class__")=some true)
  (Kf:W.mroIn K Ao (.type "object")=some true)
  (KP:W.mroIn K Ao (.type "BaseException")=some true)
  (J2:W.findIn K (.ref Ay) "__getattribute__"=some (some (.builtin "BaseException.__getattribute__")))
  (KJ:W.findIn K (.ref Ay) "__getattr__"=some none)
  (KN:W.findIn K (.ref Ay) "__class__"=some (some (.builtin "object.__class__")))
  (K5:W.specialIn K (.builtin "object.__class__") "__get__"=some (some (.builtin "getset_descriptor.__get__")))
  (KL:W.takesIn K (.builtin "object.__class__")=some true)
  (Kv:W.mroIn K Ay (.type "object")=some true)
  (KR:W.mroIn K Ay (.type "BaseException")=some true)
  (Jf:W.findIn K (.ref Ap) "__getattribute__"=some (some (.builtin "BaseException.__getattribute__")))
  (IS:W.findIn K (.ref Ap) "__getattr__"=some none)
  (Jp:W.findIn K (.ref Ap) "__class__"=some (some (.builtin "object.__class__")))
  (Ji:W.specialIn K (.builtin "object.__class__") "__get__"=some (some (.builtin "getset_descriptor.__get__")))
  (IM:W.takesIn K (.builtin "object.__class__")=some true)
  (Jk:W.mroIn K Ap (.type "object")=some true)
  (Jm:W.mroIn K Ap (.type "BaseException")=some true)
  (LM:W.findIn K (.ref Az) "__getattribute__"=some (some (.builtin "BaseException.__getattribute__")))
  (MU:W.findIn K (.ref Az) "__getattr__"=some none)
  (Mx:W.findIn K (.ref Az) "__class__"=some (some (.builtin "object.__class__")))
  (Mo:W.specialIn K (.builtin "object.__class__") "__get__"=some (some (.builtin "getset_descriptor.__get__")))
  (MC:W.takesIn K (.builtin "object.__class__")=some true)
  (My:W.mroIn K Az (.type "object")=some true)
  (Mm:W.mroIn K Az (.type "BaseException")=some true)
  (Ko:JV K Ao=true)
  (K0:SH K Ao=true)
  (Kg:W.findIn K (.ref Ao) "__setattr__"=some (some (.builtin "object.__setattr__")))
  (Ka:W.hasDictIn K Ao=true)
  (J3:W.keepIn K (.ref Ao)=true)
  (Kw:W.findIn K (.ref Ao) "name"=some none)
  (MY:JV K Az=true)
  (L9:SH K Az=true)
  (LL:W.findIn K (.ref Az) "__setattr__"=some (some (.builtin "object.__setattr__")))
  (MR:W.hasDictIn K Az=true)
  (Ma:W.keepIn K (.ref Az)=true)
  (LZ:W.findIn K (.ref Az) "name"=some none)
  (Pa:JV K AG=true)
  (OE:SH K AG=true)
  (ON:W.findIn K (.ref AG) "__setattr__"=some (some (.builtin "object.__setattr__")))
  (O8:W.hasDictIn K AG=true)
  (Pm:W.keepIn K (.ref AG)=true)
  (Oh:W.findIn K (.ref AG) "name"=some none)
  (Mu:JV K AB=true)
  (M0:SH K AB=true)
  (MZ:W.findIn K (.ref AB) "__setattr__"=some (some (.builtin "object.__setattr__")))
  (MT:W.hasDictIn K AB=true)
  (Mz:W.keepIn K (.ref AB)=true)
  (MF:W.findIn K (.ref AB) "name"=some none)
  (J1:JV K Ay=true)
  (KC:SH K Ay=true)
  (KE:W.findIn K (.ref Ay) "__setattr__"=some (some (.builtin "object.__setattr__")))
  (Kb:W.hasDictIn K Ay=true)
  (Kd:W.keepIn K (.ref Ay)=true)
  (Kn:W.findIn K (.ref Ay) "path"=some none)
  (k_NoName_NoName:W.kitOne K (.ref Ao) (.ref Ao)=some true)
  (k_NoName_Twice:W.kitOne K (.ref Ao) (.ref Az)=some false)
  (k_NoName_Bare:W.kitOne K (.ref Ao) (.ref AG)=some false)
  (k_NoName_Grown:W.kitOne K (.ref Ao) (.ref AB)=some false)
  (k_NoName_TooMany:W.kitOne K (.ref Ao) (.ref Ap)=some false)
  (k_NoName_ValueError:W.kitOne K (.ref Ao) (.type "ValueError")=some true)
  (k_Twice_NoName:W.kitOne K (.ref Az) (.ref Ao)=some false)
  (k_Twice_Twice:W.kitOne K (.ref Az) (.ref Az)=some true)
  (k_Twice_Bare:W.kitOne K (.ref Az) (.ref AG)=some false)
  (k_Twice_Grown:W.kitOne K (.ref Az) (.ref AB)=some false)
  (k_Twice_TooMany:W.kitOne K (.ref Az) (.ref Ap)=some false)
  (k_Twice_ValueError:W.kitOne K (.ref Az) (.type "ValueError")=some true)
  (k_Bare_NoName:W.kitOne K (.ref AG) (.ref Ao)=some false)
  (k_Bare_Twice:W.kitOne K (.ref AG) (.ref Az)=some false)
  (k_Bare_Bare:W.kitOne K (.ref AG) (.ref AG)=some true)
  (k_Bare_Grown:W.kitOne K (.ref AG) (.ref AB)=some false)
  (k_Bare_TooMany:W.kitOne K (.ref AG) (.ref Ap)=some false)
  (k_Bare_ValueError:W.kitOne K (.ref AG) (.type "ValueError")=some true)
  (k_Grown_NoName:W.kitOne K (.ref AB) (.ref Ao)=some false)
  (k_Grown_Twice:W.kitOne K (.ref AB) (.ref Az)=some false)
  (k_Grown_Bare:W.kitOne K (.ref AB) (.ref AG)=some false)
  (k_Grown_Grown:W.kitOne K (.ref AB) (.ref AB)=some true)
  (k_Grown_TooMany:W.kitOne K (.ref AB) (.ref Ap)=some false)
  (k_Grown_ValueError:W.kitOne K (.ref AB) (.type "ValueError")=some true)
  (k_TooMany_NoName:W.kitOne K (.ref Ap) (.ref Ao)=some false)
  (k_TooMany_Twice:W.kitOne K (.ref Ap) (.ref Az)=some false)
  (k_TooMany_Bare:W.kitOne K (.ref Ap) (.ref AG)=some false)
  (k_TooMany_Grown:W.kitOne K (.ref Ap) (.ref AB)=some false)
  (k_TooMany_TooMany:W.kitOne K (.ref Ap) (.ref Ap)=some true)
  (k_TooMany_ValueError:W.kitOne K (.ref Ap) (.type "ValueError")=some true)
  (Gx:W.nsIn K mainGlobals "ValueError"=some none)
  (Tx:W.nsIn K mainGlobals "all"=some none)
  (QH:W.nsIn K mainGlobals "dict"=some none)
  (U0:W.nsIn K mainGlobals "int"=some none)
  (G3:W.nsIn K mainGlobals "isinstance"=some none)
  (TZ:W.nsIn K mainGlobals "len"=some none)
  (OL:W.nsIn K mainGlobals "range"=some none)
  (ME:W.nsIn K mainGlobals "sorted"=some none)
  (UM:W.nsIn K mainGlobals "str"=some none)
  (Oi:W.nsIn K mainGlobals "tuple"=some none)
  (Og:W.nsIn K mainGlobals "SIGNS"=some (some (.str (PySem.Str.ofString " !\"#$&'()*+,-./0123456789:;<=>?@ABCDEFGHIJKLMNOPQRSTUVWXYZ[\\]^_`abcdefghijklmnopqrstuvwxyz{|}~") t_SIGNS)))
  (G2:W.nsIn K mainGlobals "MOST_SIGNS"=some (some (.int 400 t_MOST_SIGNS)))
  (Gy:W.nsIn K mainGlobals "FILE_ENTRY"=some (some (.int 1 t_FILE_ENTRY)))
  (FJ:W.nsIn K mainGlobals "FOLDER_ENTRY"=some (some (.int 2 t_FOLDER_ENTRY)))
  (GI:W.nsIn K mainGlobals "NAME_SIGNS"=some (some (.str (PySem.Str.ofString "0123456789abcdefghijklmnopqrstuvwxyz") t_NAME_SIGNS)))
  (DW:W.nsIn K mainGlobals "MOST_NAME_SIGNS"=some (some (.int 8 t_MOST_NAME_SIGNS)))
  (FD:W.nsIn K mainGlobals "MOST_ENTRIES"=some (some (.int 16 t_MOST_ENTRIES)))
  (RA:W.nsIn K mainGlobals "STEM"=some (some (.int 1 t_STEM)))
  (Q3:W.nsIn K mainGlobals "SEAL"=some (some (.int 2 t_SEAL)))
  (FK:W.nsIn K mainGlobals "MOST_KEEPERS"=some (some (.int 8 t_MOST_KEEPERS)))
  (GZ:W.nsIn K mainGlobals "MOST_NAMES"=some (some (.int 24 t_MOST_NAMES)))
  (GH:W.nsIn K mainGlobals "MOST_STEPS"=some (some (.int 8 t_MOST_STEPS)))
  (Da:W.nsIn K mainGlobals "MOST_TREE_ENTRIES"=some (some (.int 60 t_MOST_TREE_ENTRIES)))
  (Ew:W.nsIn K mainGlobals "MOST_TREE_DEEP"=some (some (.int 8 t_MOST_TREE_DEEP))) :
  ∃fd:FuncData,(∀(s:Shared) (v:Value),BindsTo s fd ⟨[v],[]⟩ [("_law_script",v)])/\(∀T∈[PT,PU],K.lookup T=none/\∃c,W.codeHdIn K c T=true)/\∀base:Heap,K.In base->base.Ns mainGlobals mg->QZ mg base->FnOk l.prog w K mg base EL 10 fa fd ["_law_script"] (OP K PT PU):=by
 have e:=hfa.symm.trans (W.mg_of X G a69);cases e;have T:Txt K mg C (λn=>match n with|0=>Ao|1=>Az|2=>AG|3=>AB|4=>Ap|5=>Ay|6=>As|_=>0):=⟨⟨pg,hd,po,sa⟩,n_own_head,W.mg_of X G x_NoName,W.mg_of X G x_Twice,W.mg_of X G x_Bare,W.mg_of X G x_Grown,W.mg_of X G x_TooMany,W.mg_of X G x_NoPath,W.mg_of X G x_StemError,q_TooMany,m_NoName_StemError,m_Twice_StemError,m_Bare_StemError,m_Grown_StemError,m_TooMany_StemError,m_NoName_NoName,m_NoPath_NoName,m_NoPath_NoPath,⟨Jf,IS,Jp,Ji,IM,Jk,Jm⟩,⟨⟨KG,Kz,Ks,Kj,K6,Kf,KP⟩,Kg,K0,Ka⟩,Kw,⟨⟨LM,MU,Mx,Mo,MC,My,Mm⟩,LL,L9,MR⟩,LZ,⟨⟨Pd,Pb,OI,Ol,Oe,Pl,OJ⟩,ON,OE,O8⟩,Oh,⟨⟨Me,Mg,Mi,Mv,MJ,Mj,Mp⟩,MZ,M0,MT⟩,MF,⟨⟨J2,KJ,KN,K5,KL,Kv,KR⟩,KE,KC,Kb⟩,Kn,k_NoName_NoName,k_NoName_Twice,k_NoName_Bare,k_NoName_Grown,k_NoName_TooMany,k_NoName_ValueError,k_Twice_NoName,k_Twice_Twice,k_Twice_Bare,k_Twice_Grown,k_Twice_TooMany,k_Twice_ValueError,k_Bare_NoName,k_Bare_Twice,k_Bare_Bare,k_Bare_Grown,k_Bare_TooMany,k_Bare_ValueError,k_Grown_NoName,k_Grown_Twice,k_Grown_Bare,k_Grown_Grown,k_Grown_TooMany,k_Grown_ValueError,k_TooMany_NoName,k_TooMany_Twice,k_TooMany_Bare,k_TooMany_Grown,k_TooMany_TooMany,k_TooMany_ValueError,W.mg_none_of X G Gx,W.mg_none_of X G Tx,W.mg_none_of X G QH,W.mg_none_of X G U0,W.mg_none_of X G G3,W.mg_none_of X G TZ,W.mg_none_of X G OL,W.mg_none_of X G ME,W.mg_none_of X G UM,W.mg_none_of X G Oi,⟨_,W.mg_of X G Og⟩,⟨_,W.mg_of X G G2⟩,⟨_,W.mg_of X G Gy⟩,⟨_,W.mg_of X G FJ⟩,⟨_,W.mg_of X G GI⟩,⟨_,W.mg_of X G DW⟩,⟨_,W.mg_of X G FD⟩,⟨_,W.mg_of X G RA⟩,⟨_,W.mg_of X G Q3⟩,⟨_,W.mg_of X G FK⟩,⟨_,W.mg_of X G GZ⟩,⟨_,W.mg_of X G GH⟩,⟨_,W.mg_of X G Da⟩,⟨_,W.mg_of X G Ew⟩⟩
 have F0:=Ax (st:=Fs) l0 c0 k0;have b0:=F0.binds (ps:=["thing","least","most"]) λ_ _ _ _ _ _ us hl=>by
  obtain⟨_,_,_,rfl⟩:=QD hl;rfl
 have F1:=Ax (st:=Cw) l1 c1 k1;have b1:=F1.binds (ps:=["self","name"]) λ_ _ _ _ _ _ us hl=>by
  obtain⟨_,_,rfl⟩:=ln2 hl;rfl
 have F2:=Ax (st:=CP) l2 c2 k2;have b2:=F2.binds (ps:=["self","name"]) λ_ _ _ _ _ _ us hl=>by
  obtain⟨_,_,rfl⟩:=ln2 hl;rfl
 have F3:=Ax (st:=DR) l3 c3 k3;have b3:=F3.binds (ps:=["self","name"]) λ_ _ _ _ _ _ us hl=>by
  obtain⟨_,_,rfl⟩:=ln2 hl;rfl
 have F4:=Ax (st:=CQ) l4 c4 k4;have b4:=F4.binds (ps:=["self","name"]) λ_ _ _ _ _ _ us hl=>by
  obtain⟨_,_,rfl⟩:=ln2 hl;rfl
 have F5:=Ax (st:=Cs) l5 c5 k5;have b5:=F5.binds (ps:=["self","path"]) λ_ _ _ _ _ _ us hl=>by
  obtain⟨_,_,rfl⟩:=ln2 hl;rfl
 have F6:=Ax (st:=Ft) l6 c6 k6;have b6:=F6.binds (ps:=["thing"]) λ_ _ _ _ _ _ us hl=>by
  obtain⟨_,rfl⟩:=U6 hl;rfl
 have F7:=Ax (st:=CY) l7 c7 k7;have b7:=F7.binds (ps:=["some","name"]) λ_ _ _ _ _ _ us hl=>by
  obtain⟨_,_,rfl⟩:=ln2 hl;rfl
 have F8:=Ax (st:=B0) l8 c8 k8;have b8:=F8.binds (ps:=["head","name"]) λ_ _ _ _ _ _ us hl=>by
  obtain⟨_,_,rfl⟩:=ln2 hl;rfl
 have F9:=Ax (st:=ED) l9 c9 k9;have b9:=F9.binds (ps:=["head","name"]) λ_ _ _ _ _ _ us hl=>by
  obtain⟨_,_,rfl⟩:=ln2 hl;rfl
 have F10:=Ax (st:=CA) l10 c10 k10;have b10:=F10.binds (ps:=["head","name"]) λ_ _ _ _ _ _ us hl=>by
  obtain⟨_,_,rfl⟩:=ln2 hl;rfl
 have F11:=Ax (st:=Ct) l11 c11 k11;have b11:=F11.binds (ps:=["head","name"]) λ_ _ _ _ _ _ us hl=>by
  obtain⟨_,_,rfl⟩:=ln2 hl;rfl
 have F12:=Ax (st:=Ek) l12 c12 k12;have b12:=F12.binds (ps:=["head"]) λ_ _ _ _ _ _ us hl=>by
  obtain⟨_,rfl⟩:=U6 hl;rfl
 have F13:=Ax (st:=EA) l13 c13 k13;have b13:=F13.binds (ps:=["head","stem"]) λ_ _ _ _ _ _ us hl=>by
  obtain⟨_,_,rfl⟩:=ln2 hl;rfl
 have F14:=Ax (st:=BN) l14 c14 k14;have b14:=F14.binds (ps:=["head","name"]) λ_ _ _ _ _ _ us hl=>by
  obtain⟨_,_,rfl⟩:=ln2 hl;rfl
 have F15:=Ax (st:=CN) l15 c15 k15;have b15:=F15.binds (ps:=["head"]) λ_ _ _ _ _ _ us hl=>by
  obtain⟨_,rfl⟩:=U6 hl;rfl
 have F16:=Ax (st:=BO) l16 c16 k16;have b16:=F16.binds (ps:=["head","name","keeper"]) λ_ _ _ _ _ _ us hl=>by
  obtain⟨_,_,_,rfl⟩:=QD hl;rfl
 have F17:=Ax (st:=DS) l17 c17 k17;have b17:=F17.binds (ps:=["some","one"]) λ_ _ _ _ _ _ us hl=>by
  obtain⟨_,_,rfl⟩:=ln2 hl;rfl
 have F18:=Ax (st:=Cq) l18 c18 k18;have b18:=F18.binds (ps:=["head","name","bound"]) λ_ _ _ _ _ _ us hl=>by
  obtain⟨_,_,_,rfl⟩:=QD hl;rfl
 have F19:=Ax (st:=CM) l19 c19 k19;have b19:=F19.binds (ps:=["head","named"]) λ_ _ _ _ _ _ us hl=>by
  obtain⟨_,_,rfl⟩:=ln2 hl;rfl
 have F20:=Ax (st:=BZ) l20 c20 k20;have b20:=F20.binds (ps:=["head","names"]) λ_ _ _ _ _ _ us hl=>by
  obtain⟨_,_,rfl⟩:=ln2 hl;rfl
 have F21:=Ax (st:=DD) l21 c21 k21;have b21:=F21.binds (ps:=["head"]) λ_ _ _ _ _ _ us hl=>by
  obtain⟨_,rfl⟩:=U6 hl;rfl
 have F22:=Ax (st:=Fn) l22 c22 k22;have b22:=F22.binds (ps:=["head","stem"]) λ_ _ _ _ _ _ us hl=>by
  obtain⟨_,_,rfl⟩:=ln2 hl;rfl
 have F23:=Ax (st:=Cy) l23 c23 k23;have b23:=F23.binds (ps:=["stem","origin"]) λ_ _ _ _ _ _ us hl=>by
  obtain⟨_,_,rfl⟩:=ln2 hl;rfl
 have F24:=Ax (st:=Er) l24 c24 k24;have b24:=F24.binds (ps:=["path"]) λ_ _ _ _ _ _ us hl=>by
  obtain⟨_,rfl⟩:=U6 hl;rfl
 have F25:=Ax (st:=DN) l25 c25 k25;have b25:=F25.binds (ps:=["path"]) λ_ _ _ _ _ _ us hl=>by
  obtain⟨_,rfl⟩:=U6 hl;rfl
 have F26:=Ax (st:=Cp) l26 c26 k26;have b26:=F26.binds (ps:=["head","name","bound"]) λ_ _ _ _ _ _ us hl=>by
  obtain⟨_,_,_,rfl⟩:=QD hl;rfl
 have F27:=Ax (st:=Cr) l27 c27 k27;have b27:=F27.binds (ps:=["head","stem","name"]) λ_ _ _ _ _ _ us hl=>by
  obtain⟨_,_,_,rfl⟩:=QD hl;rfl
 have F28:=Ax (st:=BY) l28 c28 k28;have b28:=F28.binds (ps:=["head","stem"]) λ_ _ _ _ _ _ us hl=>by
  obtain⟨_,_,rfl⟩:=ln2 hl;rfl
 have F29:=Ax (st:=A6) l29 c29 k29;have b29:=F29.binds (ps:=["head","stem"]) λ_ _ _ _ _ _ us hl=>by
  obtain⟨_,_,rfl⟩:=ln2 hl;rfl
 have F30:=Ax (st:=B9) l30 c30 k30;have b30:=F30.binds (ps:=["head","name"]) λ_ _ _ _ _ _ us hl=>by
  obtain⟨_,_,rfl⟩:=ln2 hl;rfl
 have F31:=Ax (st:=BF) l31 c31 k31;have b31:=F31.binds (ps:=["self"]) λ_ _ _ _ _ _ us hl=>by
  obtain⟨_,rfl⟩:=U6 hl;rfl
 have F32:=Ax (st:=Bn) l32 c32 k32;have b32:=F32.binds (ps:=["self","name","bound"]) λ_ _ _ _ _ _ us hl=>by
  obtain⟨_,_,_,rfl⟩:=QD hl;rfl
 have F33:=Ax (st:=BE) l33 c33 k33;have b33:=F33.binds (ps:=["self","name","keeper"]) λ_ _ _ _ _ _ us hl=>by
  obtain⟨_,_,_,rfl⟩:=QD hl;rfl
 have F34:=Ax (st:=Bh) l34 c34 k34;have b34:=F34.binds (ps:=["self","name","keeper","tree"]) λ_ _ _ _ _ _ us hl=>by
  obtain⟨_,_,_,_,rfl⟩:=Yr hl;rfl
 have F35:=Ax (st:=Bs) l35 c35 k35;have b35:=F35.binds (ps:=["self","stem","path","content"]) λ_ _ _ _ _ _ us hl=>by
  obtain⟨_,_,_,_,rfl⟩:=Yr hl;rfl
 have F36:=Ax (st:=Bz) l36 c36 k36;have b36:=F36.binds (ps:=["self","stem","name"]) λ_ _ _ _ _ _ us hl=>by
  obtain⟨_,_,_,rfl⟩:=QD hl;rfl
 have F37:=Ax (st:=Bx) l37 c37 k37;have b37:=F37.binds (ps:=["self","name","seal","keeper"]) λ_ _ _ _ _ _ us hl=>by
  obtain⟨_,_,_,_,rfl⟩:=Yr hl;rfl
 have F38:=Ax (st:=BA) l38 c38 k38;have b38:=F38.binds (ps:=["self","stem"]) λ_ _ _ _ _ _ us hl=>by
  obtain⟨_,_,rfl⟩:=ln2 hl;rfl
 have F39:=Ax (st:=Bt) l39 c39 k39;have b39:=F39.binds (ps:=["self","stem"]) λ_ _ _ _ _ _ us hl=>by
  obtain⟨_,_,rfl⟩:=ln2 hl;rfl
 have F40:=Ax (st:=BC) l40 c40 k40;have b40:=F40.binds (ps:=["self","name"]) λ_ _ _ _ _ _ us hl=>by
  obtain⟨_,_,rfl⟩:=ln2 hl;rfl
 have F41:=Ax (st:=BB) l41 c41 k41;have b41:=F41.binds (ps:=["self","name","path"]) λ_ _ _ _ _ _ us hl=>by
  obtain⟨_,_,_,rfl⟩:=QD hl;rfl
 have F42:=Ax (st:=Br) l42 c42 k42;have b42:=F42.binds (ps:=["self","name"]) λ_ _ _ _ _ _ us hl=>by
  obtain⟨_,_,rfl⟩:=ln2 hl;rfl
 have F43:=Ax (st:=Bg) l43 c43 k43;have b43:=F43.binds (ps:=["self","name"]) λ_ _ _ _ _ _ us hl=>by
  obtain⟨_,_,rfl⟩:=ln2 hl;rfl
 have F44:=Ax (st:=AY) l44 c44 k44;have b44:=F44.binds (ps:=["self","name"]) λ_ _ _ _ _ _ us hl=>by
  obtain⟨_,_,rfl⟩:=ln2 hl;rfl
 have F45:=Ax (st:=Bo) l45 c45 k45;have b45:=F45.binds (ps:=["self","stem","tree"]) λ_ _ _ _ _ _ us hl=>by
  obtain⟨_,_,_,rfl⟩:=QD hl;rfl
 have F46:=Ax (st:=Bb) l46 c46 k46;have b46:=F46.binds (ps:=["self","stem","tree"]) λ_ _ _ _ _ _ us hl=>by
  obtain⟨_,_,_,rfl⟩:=QD hl;rfl
 have F47:=Ax (st:=DJ) l47 c47 k47;have b47:=F47.binds (ps:=["tree","path"]) λ_ _ _ _ _ _ us hl=>by
  obtain⟨_,_,rfl⟩:=ln2 hl;rfl
 have F48:=Ax (st:=CV) l48 c48 k48;have b48:=F48.binds (ps:=["tree","path"]) λ_ _ _ _ _ _ us hl=>by
  obtain⟨_,_,rfl⟩:=ln2 hl;rfl
 have F49:=Ax (st:=DO) l49 c49 k49;have b49:=F49.binds (ps:=["tree","path"]) λ_ _ _ _ _ _ us hl=>by
  obtain⟨_,_,rfl⟩:=ln2 hl;rfl
 have F50:=Ax (st:=C1) l50 c50 k50;have b50:=F50.binds (ps:=["tree","more"]) λ_ _ _ _ _ _ us hl=>by
  obtain⟨_,_,rfl⟩:=ln2 hl;rfl
 have F51:=Ax (st:=Cd) l51 c51 k51;have b51:=F51.binds (ps:=["tree"]) λ_ _ _ _ _ _ us hl=>by
  obtain⟨_,rfl⟩:=U6 hl;rfl
 have F52:=Ax (st:=Ce) l52 c52 k52;have b52:=F52.binds (ps:=["_law_script","_law_k"]) λ_ _ _ _ _ _ us hl=>by
  obtain⟨_,_,rfl⟩:=ln2 hl;rfl
 have F53:=Ax (st:=EE) l53 c53 k53;have b53:=F53.binds (ps:=["_law_cell","_law_many"]) λ_ _ _ _ _ _ us hl=>by
  obtain⟨_,_,rfl⟩:=ln2 hl;rfl
 have F54:=Ax (st:=CS) l54 c54 k54;have b54:=F54.binds (ps:=["_law_row_here","_law_many"]) λ_ _ _ _ _ _ us hl=>by
  obtain⟨_,_,rfl⟩:=ln2 hl;rfl
 have F55:=Ax (st:=DI) l55 c55 k55;have b55:=F55.binds (ps:=["_law_row_here","_law_at","_law_names_here"]) λ_ _ _ _ _ _ us hl=>by
  obtain⟨_,_,_,rfl⟩:=QD hl;rfl
 have F56:=Ax (st:=DL) l56 c56 k56;have b56:=F56.binds (ps:=["_law_cell","_law_names_here"]) λ_ _ _ _ _ _ us hl=>by
  obtain⟨_,_,rfl⟩:=ln2 hl;rfl
 have F57:=Ax (st:=DT) l57 c57 k57;have b57:=F57.binds (ps:=["_law_house","_law_deed_here"]) λ_ _ _ _ _ _ us hl=>by
  obtain⟨_,_,rfl⟩:=ln2 hl;rfl
 have F58:=Ax (st:=DQ) l58 c58 k58;have b58:=F58.binds (ps:=["_law_house","_law_deed_here"]) λ_ _ _ _ _ _ us hl=>by
  obtain⟨_,_,rfl⟩:=ln2 hl;rfl
 have F59:=Ax (st:=Cf) l59 c59 k59;have b59:=F59.binds (ps:=["_law_name"]) λ_ _ _ _ _ _ us hl=>by
  obtain⟨_,rfl⟩:=U6 hl;rfl
 have F60:=Ax (st:=Fp) l60 c60 k60;have b60:=F60.binds (ps:=["_law_rows","_law_name","_law_kind"]) λ_ _ _ _ _ _ us hl=>by
  obtain⟨_,_,_,rfl⟩:=QD hl;rfl
 have F61:=Ax (st:=Ep) l61 c61 k61;have b61:=F61.binds (ps:=["_law_rows","_law_name"]) λ_ _ _ _ _ _ us hl=>by
  obtain⟨_,_,rfl⟩:=ln2 hl;rfl
 have F62:=Ax (st:=DA) l62 c62 k62;have b62:=F62.binds (ps:=["_law_keepers","_law_rows","_law_deed_here"]) λ_ _ _ _ _ _ us hl=>by
  obtain⟨_,_,_,rfl⟩:=QD hl;rfl
 have F63:=Ax (st:=C2) l63 c63 k63;have b63:=F63.binds (ps:=["_law_rows","_law_stem"]) λ_ _ _ _ _ _ us hl=>by
  obtain⟨_,_,rfl⟩:=ln2 hl;rfl
 have F64:=Ax (st:=DP) l64 c64 k64;have b64:=F64.binds (ps:=["_law_rows","_law_name"]) λ_ _ _ _ _ _ us hl=>by
  obtain⟨_,_,rfl⟩:=ln2 hl;rfl
 have F65:=Ax (st:=Cc) l65 c65 k65;have b65:=F65.binds (ps:=["_law_rows","_law_stem"]) λ_ _ _ _ _ _ us hl=>by
  obtain⟨_,_,rfl⟩:=ln2 hl;rfl
 have F66:=Ax (st:=Ej) l66 c66 k66;have b66:=F66.binds (ps:=["_law_keepers","_law_rows","_law_deed_here","_law_turn"]) λ_ _ _ _ _ _ us hl=>by
  obtain⟨_,_,_,_,rfl⟩:=Yr hl;rfl
 have F67:=Ax (st:=DV) l67 c67 k67;have b67:=F67.binds (ps:=["_law_house","_law_name"]) λ_ _ _ _ _ _ us hl=>by
  obtain⟨_,_,rfl⟩:=ln2 hl;rfl
 have F68:=Ax (st:=CW) l68 c68 k68;have b68:=F68.binds (ps:=["_law_house","_law_rows","_law_names_here"]) λ_ _ _ _ _ _ us hl=>by
  obtain⟨_,_,_,rfl⟩:=QD hl;rfl
 have F69:=Ax (st:=JX) l69 c69 k69;refine⟨W.fnOf "law" "law" (Am JX) (Al JX) (Ad JX) .none kV69 dc69 pm69 an69 cd69 ct69,λs v=>.of_eq rfl,λT hT=>by
  simp only[List.mem_cons,List.not_mem_nil,or_false] at hT;rcases hT with rfl|rfl
  ·exact⟨WT,_,Vc⟩
  ·exact⟨Xj,_,Vy⟩,λbase _ _ hBm=>?_⟩
 have KY:Def l.prog w K mg base 1 "is_text" ["thing","least","most"] (Jq K):=⟨_,_,Q4 T F0 ,W.mg_of X G a0,k0,b0⟩
 have AK:HJ l.prog w K mg base 1 "NoName" Ao "name" ["self","name"]:=⟨_,_,⟨Ko,a1,i1,J3⟩,LI T F1,W.mg_of X G x_NoName,b1⟩
 have GP:HJ l.prog w K mg base 1 "Twice" Az "name" ["self","name"]:=⟨_,_,⟨MY,a2,i2,Ma⟩,Np T F2,W.mg_of X G x_Twice,b2⟩
 have DE:HJ l.prog w K mg base 1 "Bare" AG "name" ["self","name"]:=⟨_,_,⟨Pa,a3,i3,Pm⟩,O4 T F3,W.mg_of X G x_Bare,b3⟩
 have GL:HJ l.prog w K mg base 1 "Grown" AB "name" ["self","name"]:=⟨_,_,⟨Mu,a4,i4,Mz⟩,Nc T F4,W.mg_of X G x_Grown,b4⟩
 have FY:HJ l.prog w K mg base 1 "NoPath" Ay "path" ["self","path"]:=⟨_,_,⟨J1,a5,i5,Kd⟩,Mn T F5,W.mg_of X G x_NoPath,b5⟩
 have BJ:Def l.prog w K mg base 1 "one_called" ["some","name"] (Di K):=⟨_,_,Nl T F7 ,W.mg_of X G a7,k7,b7⟩
 have Jg:Def l.prog w K mg base 1 "stems_in" ["head"] (HY K):=⟨_,_,Qx T F12 ,W.mg_of X G a12,k12,b12⟩
 have Ck:Def l.prog w K mg base 1 "seals_of" ["head","stem"] (EW K PT):=⟨_,_,Qk T F13 ⟨⟨cc13,rfl,Vc⟩,hBm⟩ ,W.mg_of X G a13,k13,b13⟩
 have CU:BW l.prog w K mg base 1 "check_room" ["head"] (EG K (λn=>match n with|0=>Ao|1=>Az|2=>AG|3=>AB|4=>Ap|5=>Ay|6=>As|_=>0)):=⟨_,_,Ni T F15 ,W.mg_of X G a15,k15,b15⟩
 have DG:Def l.prog w K mg base 1 "put_among" ["some","one"] (Fm K PU):=⟨_,_,OT T F17 ⟨⟨cc17,rfl,Vy⟩,hBm⟩ ,W.mg_of X G a17,k17,b17⟩
 have E4:Def l.prog w K mg base 1 "without_named" ["head","names"] (Ey K):=⟨_,_,K8 T F20 ,W.mg_of X G a20,k20,b20⟩
 have AU:Def l.prog w K mg base 1 "one_older" ["head"] (B5 K):=⟨_,_,Pj T F21 ,W.mg_of X G a21,k21,b21⟩
 have EK:Def l.prog w K mg base 1 "with_origin" ["stem","origin"] (FB K):=⟨_,_,LJ T F23 ,W.mg_of X G a23,k23,b23⟩
 have DF:Def l.prog w K mg base 1 "folder_of" ["path"] (Fh K):=⟨_,_,OH T F25 ,W.mg_of X G a25,k25,b25⟩
 have D5:WL l.prog w K mg base 1 C "PlainHouse" ["self"] (Dq K C):=⟨_,_,Jl T F31 ,⟨mk,a31,i31,kc⟩,W.mg_of X G aC,b31⟩
 have DM:Def l.prog w K mg base 1 "is_folder" ["tree","path"] (Fi K):=⟨_,_,OX T F47 ,W.mg_of X G a47,k47,b47⟩
 have GW:Def l.prog w K mg base 1 "with_paths" ["tree","more"] (FZ K):=⟨_,_,Na T F50 ,W.mg_of X G a50,k50,b50⟩
 have FI:Def l.prog w K mg base 1 "_law_cell_at" ["_law_script","_law_k"] (E9 K):=⟨_,_,Lp T F52 ,W.mg_of X G a52,k52,b52⟩
 have Em:Def l.prog w K mg base 1 "_law_row" ["_law_cell","_law_many"] (FW K):=⟨_,_,Pw T F53 ,W.mg_of X G a53,k53,b53⟩
 have GC:Def l.prog w K mg base 1 "_law_names" ["_law_row_here","_law_many"] (Ga K):=⟨_,_,Nv T F54 ,W.mg_of X G a54,k54,b54⟩
 have EU:Def l.prog w K mg base 1 "_law_some" ["_law_row_here","_law_at","_law_names_here"] (GF K):=⟨_,_,Ot T F55 ,W.mg_of X G a55,k55,b55⟩
 have Cb:Def l.prog w K mg base 1 "_law_is_name" ["_law_name"] (Dk K):=⟨_,_,Lq T F59 ,W.mg_of X G a59,k59,b59⟩
 have EC:Def l.prog w K mg base 1 "_law_is" ["_law_rows","_law_name","_law_kind"] (GA K):=⟨_,_,Q7 T F60 ,W.mg_of X G a60,k60,b60⟩
 have Bu:Def l.prog w K mg base 1 "_law_seals" ["_law_rows","_law_stem"] (Dg K):=⟨_,_,M6 T F63 ,W.mg_of X G a63,k63,b63⟩
 have CZ:Def l.prog w K mg base 2 "is_name" ["thing"] (Fw K):=⟨_,_,Rg T F6 KY,W.mg_of X G a6,k6,b6⟩
 have Gd:BW l.prog w K mg base 2 "with_keeper" ["head","name","bound"] (FH K (λn=>match n with|0=>Ao|1=>Az|2=>AG|3=>AB|4=>Ap|5=>Ay|6=>As|_=>0) PT PU):=⟨_,_,MS T F18 DG,W.mg_of X G a18,k18,b18⟩
 have A2:Def l.prog w K mg base 2 "with_named" ["head","named"] (Cu K PT PU):=⟨_,_,Nf T F19 DG,W.mg_of X G a19,k19,b19⟩
 have FF:Def l.prog w K mg base 2 "check_bounds" ["tree"] (E3 K):=⟨_,_,Lw T F51 DF,W.mg_of X G a51,k51,b51⟩
 have Hx:Def l.prog w K mg base 2 "_law_deed" ["_law_cell","_law_names_here"] (GR K):=⟨_,_,Oz T F56 Em EU,W.mg_of X G a56,k56,b56⟩
 have Jt:Def l.prog w K mg base 2 "_law_new" ["_law_rows","_law_name"] (Hz K):=⟨_,_,Qs T F61 Cb,W.mg_of X G a61,k61,b61⟩
 have Ig:Def l.prog w K mg base 2 "_law_gone" ["_law_rows","_law_name"] (G1 K):=⟨_,_,N7 T F64 Bu,W.mg_of X G a64,k64,b64⟩
 have FM:Def l.prog w K mg base 2 "_law_grafted" ["_law_rows","_law_stem"] (Fb K):=⟨_,_,Lu T F65 Bu,W.mg_of X G a65,k65,b65⟩
 have E5:BW l.prog w K mg base 3 "keeper_called" ["head","name"] (Eh K (λn=>match n with|0=>Ao|1=>Az|2=>AG|3=>AB|4=>Ap|5=>Ay|6=>As|_=>0)):=⟨_,_,J9 T F8 BJ AK,W.mg_of X G a8,k8,b8⟩
 have BG:BW l.prog w K mg base 3 "named_so" ["head","name"] (DU K (λn=>match n with|0=>Ao|1=>Az|2=>AG|3=>AB|4=>Ap|5=>Ay|6=>As|_=>0)):=⟨_,_,PL T F9 BJ AK,W.mg_of X G a9,k9,b9⟩
 have A4:BW l.prog w K mg base 3 "check_new_name" ["head","name"] (B3 K (λn=>match n with|0=>Ao|1=>Az|2=>AG|3=>AB|4=>Ap|5=>Ay|6=>As|_=>0)):=⟨_,_,JU T F14 CZ AK BJ GP,W.mg_of X G a14,k14,b14⟩
 have IT:Def l.prog w K mg base 3 "steps_in" ["path"] (Hv K):=⟨_,_,P4 T F24 CZ,W.mg_of X G a24,k24,b24⟩
 have Ge:BW l.prog w K mg base 3 "keeper_told" ["head","name","bound"] (Fy K (λn=>match n with|0=>Ao|1=>Az|2=>AG|3=>AB|4=>Ap|5=>Ay|6=>As|_=>0) PT PU):=⟨_,_,ML T F26 AU CZ AK Gd,W.mg_of X G a26,k26,b26⟩
 have AN:QM l.prog w K mg base 3 C "put_tree" ["self","stem","tree"] (Bj K C PT PU):=⟨_,_,G0 T F46 FF AU A2,⟨a46,i46,k46⟩,b46⟩
 have G5:BW l.prog w K mg base 3 "content_in" ["tree","path"] (Gc K (λn=>match n with|0=>Ao|1=>Az|2=>AG|3=>AB|4=>Ap|5=>Ay|6=>As|_=>0)):=⟨_,_,M7 T F48 FY,W.mg_of X G a48,k48,b48⟩
 have HL:Def l.prog w K mg base 3 "_law_made" ["_law_keepers","_law_rows","_law_deed_here"] (Gw K):=⟨_,_,Oj T F62 Jt EC,W.mg_of X G a62,k62,b62⟩
 have AI:BW l.prog w K mg base 4 "stem_called" ["head","name"] (Bw K (λn=>match n with|0=>Ao|1=>Az|2=>AG|3=>AB|4=>Ap|5=>Ay|6=>As|_=>0)):=⟨_,_,LY T F10 BG AK,W.mg_of X G a10,k10,b10⟩
 have Cz:BW l.prog w K mg base 4 "seal_called" ["head","name"] (Eb K (λn=>match n with|0=>Ao|1=>Az|2=>AG|3=>AB|4=>Ap|5=>Ay|6=>As|_=>0)):=⟨_,_,LV T F11 BG AK,W.mg_of X G a11,k11,b11⟩
 have BP:BW l.prog w K mg base 4 "check_new_stem" ["head","name","keeper"] (CC K (λn=>match n with|0=>Ao|1=>Az|2=>AG|3=>AB|4=>Ap|5=>Ay|6=>As|_=>0)):=⟨_,_,JG T F16 A4 E5 CU,W.mg_of X G a16,k16,b16⟩
 have Fx:BW l.prog w K mg base 4 "name_dropped" ["head","name"] (EZ K (λn=>match n with|0=>Ao|1=>Az|2=>AG|3=>AB|4=>Ap|5=>Ay|6=>As|_=>0) PT PU):=⟨_,_,Lr T F30 BG AU GL E4 Jg Ck,W.mg_of X G a30,k30,b30⟩
 have C6:B4 l.prog w K mg base 4 C "keeper" ["self","name","bound"] (CJ K C (λn=>match n with|0=>Ao|1=>Az|2=>AG|3=>AB|4=>Ap|5=>Ay|6=>As|_=>0) PT PU):=⟨_,_,HE T F32 Ge,⟨a32,i32,k32⟩,b32⟩
 have Bi:B4 l.prog w K mg base 4 C "tree_of" ["self","name"] (BV K C (λn=>match n with|0=>Ao|1=>Az|2=>AG|3=>AB|4=>Ap|5=>Ay|6=>As|_=>0)):=⟨_,_,Hj T F43 BG,⟨a43,i43,k43⟩,b43⟩
 have HC:Def l.prog w K mg base 4 "check_put" ["tree","path"] (GJ K):=⟨_,_,OM T F49 DM IT DF,W.mg_of X G a49,k49,b49⟩
 have IZ:Def l.prog w K mg base 4 "_law_due" ["_law_keepers","_law_rows","_law_deed_here","_law_turn"] (HV K):=⟨_,_,Qn T F66 HL Ig EC Cb FM Bu,W.mg_of X G a66,k66,b66⟩
 have Kk:Def l.prog w K mg base 5 "grafted" ["head","stem"] (Jr K PT PU):=⟨_,_,Rh T F22 AI Cz Ck A2 EK,W.mg_of X G a22,k22,b22⟩
 have Gf:BW l.prog w K mg base 5 "stem_sealed" ["head","stem","name"] (FQ K (λn=>match n with|0=>Ao|1=>Az|2=>AG|3=>AB|4=>Ap|5=>Ay|6=>As|_=>0) PT PU):=⟨_,_,L0 T F27 AI A4 CU AU A2,W.mg_of X G a27,k27,b27⟩
 have Fc:BW l.prog w K mg base 5 "stem_set_back" ["head","stem"] (Ei K (λn=>match n with|0=>Ao|1=>Az|2=>AG|3=>AB|4=>Ap|5=>Ay|6=>As|_=>0) PT PU):=⟨_,_,KA T F28 AI Ck AU DE A2,W.mg_of X G a28,k28,b28⟩
 have CG:B4 l.prog w K mg base 5 C "take_in" ["self","name","keeper","tree"] (CB K C (λn=>match n with|0=>Ao|1=>Az|2=>AG|3=>AB|4=>Ap|5=>Ay|6=>As|_=>0) PT PU):=⟨_,_,Hn T F34 BP AN,⟨a34,i34,k34⟩,b34⟩
 have Ec:B4 l.prog w K mg base 5 C "grow" ["self","name","seal","keeper"] (Du K C (λn=>match n with|0=>Ao|1=>Az|2=>AG|3=>AB|4=>Ap|5=>Ay|6=>As|_=>0) PT PU):=⟨_,_,Jh T F37 A4 BP AN Cz,⟨a37,i37,k37⟩,b37⟩
 have D3:B4 l.prog w K mg base 5 C "drop" ["self","name"] (Dp K C (λn=>match n with|0=>Ao|1=>Az|2=>AG|3=>AB|4=>Ap|5=>Ay|6=>As|_=>0) PT PU):=⟨_,_,IV T F40 Fx,⟨a40,i40,k40⟩,b40⟩
 have D6:B4 l.prog w K mg base 5 C "read" ["self","name","path"] (Dv K C (λn=>match n with|0=>Ao|1=>Az|2=>AG|3=>AB|4=>Ap|5=>Ay|6=>As|_=>0)):=⟨_,_,Jj T F41 G5 Bi,⟨a41,i41,k41⟩,b41⟩
 have Ds:B4 l.prog w K mg base 5 C "paths" ["self","name"] (Dc K C (λn=>match n with|0=>Ao|1=>Az|2=>AG|3=>AB|4=>Ap|5=>Ay|6=>As|_=>0)):=⟨_,_,Iz T F42 Bi,⟨a42,i42,k42⟩,b42⟩
 have BX:B4 l.prog w K mg base 5 C "tree_of_stem" ["self","name"] (BQ K C (λn=>match n with|0=>Ao|1=>Az|2=>AG|3=>AB|4=>Ap|5=>Ay|6=>As|_=>0)):=⟨_,_,FE T F44 AI,⟨a44,i44,k44⟩,b44⟩
 have C7:QM l.prog w K mg base 5 C "change" ["self","stem","tree"] (CK K C PT PU):=⟨_,_,HD T F45 AN AI,⟨a45,i45,k45⟩,b45⟩
 have Ci:BW l.prog w K mg base 6 "stem_grafted_unbound" ["head","stem"] (B8 K (λn=>match n with|0=>Ao|1=>Az|2=>AG|3=>AB|4=>Ap|5=>Ay|6=>As|_=>0) PT PU):=⟨_,_,Gi T F29 AU DE Kk AI,W.mg_of X G a29,k29,b29⟩
 have D2:B4 l.prog w K mg base 6 C "stem" ["self","name","keeper"] (Dx K C (λn=>match n with|0=>Ao|1=>Az|2=>AG|3=>AB|4=>Ap|5=>Ay|6=>As|_=>0) PT PU):=⟨_,_,IL T F33 CG,⟨a33,i33,k33⟩,b33⟩
 have Dy:B4 l.prog w K mg base 6 C "write" ["self","stem","path","content"] (C9 K C (λn=>match n with|0=>Ao|1=>Az|2=>AG|3=>AB|4=>Ap|5=>Ay|6=>As|_=>0) PT PU):=⟨_,_,Iw T F35 BX HC DM C7 GW,⟨a35,i35,k35⟩,b35⟩
 have DX:B4 l.prog w K mg base 6 C "seal" ["self","stem","name"] (Dr K C (λn=>match n with|0=>Ao|1=>Az|2=>AG|3=>AB|4=>Ap|5=>Ay|6=>As|_=>0) PT PU):=⟨_,_,I0 T F36 Gf,⟨a36,i36,k36⟩,b36⟩
 have D1:B4 l.prog w K mg base 6 C "back" ["self","stem"] (Dw K C (λn=>match n with|0=>Ao|1=>Az|2=>AG|3=>AB|4=>Ap|5=>Ay|6=>As|_=>0) PT PU):=⟨_,_,Jc T F38 Fc,⟨a38,i38,k38⟩,b38⟩
 have HR:Def l.prog w K mg base 6 "_law_read" ["_law_house","_law_name"] (GK K C):=⟨_,_,OZ T F67 Ds D6,W.mg_of X G a67,k67,b67⟩
 have Do:B4 l.prog w K mg base 7 C "graft" ["self","stem"] (C8 K C (λn=>match n with|0=>Ao|1=>Az|2=>AG|3=>AB|4=>Ap|5=>Ay|6=>As|_=>0) PT PU):=⟨_,_,Iy T F39 Ci,⟨a39,i39,k39⟩,b39⟩
 have GM:Def l.prog w K mg base 7 "_law_right" ["_law_house","_law_rows","_law_names_here"] (Gg K C):=⟨_,_,Nk T F68 HR,W.mg_of X G a68,k68,b68⟩
 have HK:BW l.prog w K mg base 8 "_law_done" ["_law_house","_law_deed_here"] (GN K C (λn=>match n with|0=>Ao|1=>Az|2=>AG|3=>AB|4=>Ap|5=>Ay|6=>As|_=>0) PT PU):=⟨_,_,O7 T F57 C6 D2 DX Ec Dy D1 Do D3,W.mg_of X G a57,k57,b57⟩
 have Hy:Def l.prog w K mg base 9 "_law_told" ["_law_house","_law_deed_here"] (G4 K C PT PU):=⟨_,_,O5 T F58 HK,W.mg_of X G a58,k58,b58⟩
 exact Xc T F69 FI GC D5 Em IZ Hx Hy GM
theorem walk {l:W.OpenLaw} {q:Program} {loose:List Str} {XP:(Str->Option Value)->Heap->Prop} {YP:World->Heap->Prop} {d:DefRec} {K:Params->W.Frag} {PT:Addr} {PU:Addr} (hn:l.most=some 63) (hdf:d.params.defaults=[]) (ne:PT≠PU)
  (hY:∀(w:World) (h:Heap),YP w h->(K w.params).In h) (hT:∀(w:World) (h:Heap),YP w h->∀T∈[PT,PU],h.get? T=some (W.tabObj #[]))
  (F:∀(w:World) (mg:Str->Option Value) (fa:Addr) (h:Heap),(K w.params).In h->h.Ns mainGlobals mg->mg d.name=some (.ref fa)->
   ∃fd:FuncData,(∀(s:Shared) (u:Value),BindsTo s fd ⟨[u],[]⟩ [("_law_script",u)])/\(∀T∈[PT,PU],(K w.params).lookup T=none/\∃c,W.codeHdIn (K w.params) c T=true)/\∀base:Heap,(K w.params).In base->base.Ns mainGlobals mg->QZ mg base->FnOk l.prog w (K w.params) mg base EL 10 fa fd ["_law_script"] (OP (K w.params) PT PU)) :
  W.WalkO q loose XP YP l.row.toRowW d [] (λf vs=>PySem.call f vs):=
 L2.Ut (n:=63) (k:=10) (x:="_law_script") (CX:=λ_=>EL) (sp:=λw=>OP (K w.params) PT PU) hn (by decide) hdf ⟨rfl,by decide,by decide⟩ hY hT F (λ_ _ a ns hl hO hS=>⟨a,ns,rfl,hS,hl,.inl (hO.1 _ (by simp)),.inl (hO.1 _ (by simp)),ne,λ_=>rfl⟩) λ_ _ _ _ _ z=>z
end K71
def PySem.W.Fast.tw15641715125113993005:Type:=PySem.Expr
theorem PySem.W.Fast.te15641715125113993005:PySem.Expr = PySem.W.Fast.tw15641715125113993005:=rfl
def PySem.W.Fast.tw90343872475197607:Type:=PySem.Params
theorem PySem.W.Fast.te90343872475197607:PySem.Params = PySem.W.Fast.tw90343872475197607:=rfl
open PySem PySem.W PyProof.Rows
set_option maxRecDepth 100000 in
set_option maxHeartbeats 0 in
theorem PySem.Challenge.cw_stemshelf_k71_plain_names_holds : PySem.Challenge.rw_stemshelf_k71_plain_names.Holds := by
 w_on;o_law;k_head;(case hw=>w_witness2)
 k_fill
 refine K71.walk (l:=PySem.Challenge.rw_stemshelf_k71_plain_names) rfl rfl (by decide) (λw h Y=>W.km_in_of Y) (λw h Y=>W.km_tabs_of Y) ?F
 case F=>
  intro w mg fa h KX G hmg
  refine' K71.all_mk KX G hmg ?a0 ?l0 ?c0 ?k0 ?a1 ?i1 ?l1 ?c1 ?k1 ?a2 ?i2 ?l2 ?c2 ?k2 ?a3 ?i3 ?l3 ?c3 ?k3 ?a4 ?i4 ?l4 ?c4 ?k4 ?a5 ?i5 ?l5 ?c5 ?k5 ?a6 ?l6 ?c6 ?k6 ?a7 ?l7 ?c7 ?k7 ?a8 ?l8 ?c8 ?k8 ?a9 ?l9 ?c9 ?k9 ?a10 ?l10 ?c10 ?k10 ?a11 ?l11 ?c11 ?k11 ?a12 ?l12 ?c12 ?k12 ?a13 ?l13 ?c13 ?k13 ?Vc ?WT ?a14 ?l14 ?c14 ?k14 ?a15 ?l15 ?c15 ?k15 ?a16 ?l16 ?c16 ?k16 ?a17 ?l17 ?c17 ?k17 ?Vy ?Xj ?a18 ?l18 ?c18 ?k18 ?a19 ?l19 ?c19 ?k19 ?a20 ?l20 ?c20 ?k20 ?a21 ?l21 ?c21 ?k21 ?a22 ?l22 ?c22 ?k22 ?a23 ?l23 ?c23 ?k23 ?a24 ?l24 ?c24 ?k24 ?a25 ?l25 ?c25 ?k25 ?a26 ?l26 ?c26 ?k26 ?a27 ?l27 ?c27 ?k27 ?a28 ?l28 ?c28 ?k28 ?a29 ?l29 ?c29 ?k29 ?a30 ?l30 ?c30 ?k30 ?a31 ?i31 ?l31 ?c31 ?k31 ?a32 ?i32 ?l32 ?c32 ?k32 ?a33 ?i33 ?l33 ?c33 ?k33 ?a34 ?i34 ?l34 ?c34 ?k34 ?a35 ?i35 ?l35 ?c35 ?k35 ?a36 ?i36 ?l36 ?c36 ?k36 ?a37 ?i37 ?l37 ?c37 ?k37 ?a38 ?i38 ?l38 ?c38 ?k38 ?a39 ?i39 ?l39 ?c39 ?k39 ?a40 ?i40 ?l40 ?c40 ?k40 ?a41 ?i41 ?l41 ?c41 ?k41 ?a42 ?i42 ?l42 ?c42 ?k42 ?a43 ?i43 ?l43 ?c43 ?k43 ?a44 ?i44 ?l44 ?c44 ?k44 ?a45 ?i45 ?l45 ?c45 ?k45 ?a46 ?i46 ?l46 ?c46 ?k46 ?a47 ?l47 ?c47 ?k47 ?a48 ?l48 ?c48 ?k48 ?a49 ?l49 ?c49 ?k49 ?a50 ?l50 ?c50 ?k50 ?a51 ?l51 ?c51 ?k51 ?a52 ?l52 ?c52 ?k52 ?a53 ?l53 ?c53 ?k53 ?a54 ?l54 ?c54 ?k54 ?a55 ?l55 ?c55 ?k55 ?a56 ?l56 ?c56 ?k56 ?a57 ?l57 ?c57 ?k57 ?a58 ?l58 ?c58 ?k58 ?a59 ?l59 ?c59 ?k59 ?a60 ?l60 ?c60 ?k60 ?a61 ?l61 ?c61 ?k61 ?a62 ?l62 ?c62 ?k62 ?a63 ?l63 ?c63 ?k63 ?a64 ?l64 ?c64 ?k64 ?a65 ?l65 ?c65 ?k65 ?a66 ?l66 ?c66 ?k66 ?a67 ?l67 ?c67 ?k67 ?a68 ?l68 ?c68 ?k68 ?a69 ?l69 ?c69 ?k69 ?aC ?pg ?hd ?po ?sa ?mk ?kc ?n_own_head ?x_NoName ?x_Twice ?x_Bare ?x_Grown ?x_TooMany ?x_NoPath ?x_StemError ?q_TooMany ?m_NoName_StemError ?m_Twice_StemError ?m_Bare_StemError ?m_Grown_StemError ?m_TooMany_StemError ?m_NoName_NoName ?m_NoPath_NoName ?m_NoPath_NoPath ?Pd ?Pb ?OI ?Ol ?Oe ?Pl ?OJ ?Me ?Mg ?Mi ?Mv ?MJ ?Mj ?Mp ?KG ?Kz ?Ks ?Kj ?K6 ?Kf ?KP ?J2 ?KJ ?KN ?K5 ?KL ?Kv ?KR ?Jf ?IS ?Jp ?Ji ?IM ?Jk ?Jm ?LM ?MU ?Mx ?Mo ?MC ?My ?Mm ?Ko ?K0 ?Kg ?Ka ?J3 ?Kw ?MY ?L9 ?LL ?MR ?Ma ?LZ ?Pa ?OE ?ON ?O8 ?Pm ?Oh ?Mu ?M0 ?MZ ?MT ?Mz ?MF ?J1 ?KC ?KE ?Kb ?Kd ?Kn ?k_NoName_NoName ?k_NoName_Twice ?k_NoName_Bare ?k_NoName_Grown ?k_NoName_TooMany ?k_NoName_ValueError ?k_Twice_NoName ?k_Twice_Twice ?k_Twice_Bare ?k_Twice_Grown ?k_Twice_TooMany ?k_Twice_ValueError ?k_Bare_NoName ?k_Bare_Twice ?k_Bare_Bare ?k_Bare_Grown ?k_Bare_TooMany ?k_Bare_ValueError ?k_Grown_NoName ?k_Grown_Twice ?k_Grown_Bare ?k_Grown_Grown ?k_Grown_TooMany ?k_Grown_ValueError ?k_TooMany_NoName ?k_TooMany_Twice ?k_TooMany_Bare ?k_TooMany_Grown ?k_TooMany_TooMany ?k_TooMany_ValueError ?Gx ?Tx ?QH ?U0 ?G3 ?TZ ?OL ?ME ?UM ?Oi ?Og ?G2 ?Gy ?FJ ?GI ?DW ?FD ?RA ?Q3 ?FK ?GZ ?GH ?Da ?Ew
  (case aC|x_NoName|x_Twice|x_Bare|x_Grown|x_TooMany|x_NoPath|x_StemError|a0|l0|c0|k0|a1|i1|l1|c1|k1|a2|i2|l2|c2|k2|a3|i3|l3|c3|k3|a4|i4|l4|c4|k4|a5|i5|l5|c5|k5|a6|l6|c6|k6|a7|l7|c7|k7|a8|l8|c8|k8|a9|l9|c9|k9|a10|l10|c10|k10|a11|l11|c11|k11|a12|l12|c12|k12|a13|l13|c13|k13=>k_is)
  (case Vc|WT=>kernel_rfl)
  (case a14|l14|c14|k14|a15|l15|c15|k15|a16|l16|c16|k16|a17|l17|c17|k17=>k_is)
  (case Vy|Xj=>kernel_rfl)
  (case a18|l18|c18|k18|a19|l19|c19|k19|a20|l20|c20|k20|a21|l21|c21|k21|a22|l22|c22|k22|a23|l23|c23|k23|a24|l24|c24|k24|a25|l25|c25|k25|a26|l26|c26|k26|a27|l27|c27|k27|a28|l28|c28|k28|a29|l29|c29|k29|a30|l30|c30|k30|a31|i31|l31|c31|k31|a32|i32|l32|c32|k32|a33|i33|l33|c33|k33|a34|i34|l34|c34|k34|a35|i35|l35|c35|k35|a36|i36|l36|c36|k36|a37|i37|l37|c37|k37|a38|i38|l38|c38|k38|a39|i39|l39|c39|k39|a40|i40|l40|c40|k40|a41|i41|l41|c41|k41|a42|i42|l42|c42|k42|a43|i43|l43|c43|k43|a44|i44|l44|c44|k44|a45|i45|l45|c45|k45|a46|i46|l46|c46|k46|a47|l47|c47|k47|a48|l48|c48|k48|a49|l49|c49|k49|a50|l50|c50|k50|a51|l51|c51|k51|a52|l52|c52|k52|a53|l53|c53|k53|a54|l54|c54|k54|a55|l55|c55|k55|a56|l56|c56|k56|a57|l57|c57|k57|a58|l58|c58|k58|a59|l59|c59|k59|a60|l60|c60|k60|a61|l61|c61|k61|a62|l62|c62|k62|a63|l63|c63|k63|a64|l64|c64|k64|a65|l65|c65|k65|a66|l66|c66|k66|a67|l67|c67|k67|a68|l68|c68|k68|a69|l69|c69|k69|pg|hd|po|sa|mk|kc|n_own_head=>k_is)
  (case q_TooMany=>k_exc)
  (case m_NoName_StemError|m_Twice_StemError|m_Bare_StemError|m_Grown_StemError|m_TooMany_StemError|m_NoName_NoName|m_NoPath_NoName|m_NoPath_NoPath=>kts_exm)
  (case Pd|Pb|OI|Ol|Oe|Pl|OJ|Me|Mg|Mi|Mv|MJ|Mj|Mp|KG|Kz|Ks|Kj|K6|Kf|KP|J2|KJ|KN|K5|KL|Kv|KR|Jf|IS|Jp|Ji|IM|Jk|Jm|LM|MU|Mx|Mo|MC|My|Mm=>k_is)
  (case Ko|K0=>kernel_rfl)
  (case Kg|Ka|J3|Kw=>k_is)
  (case MY|L9=>kernel_rfl)
  (case LL|MR|Ma|LZ=>k_is)
  (case Pa|OE=>kernel_rfl)
  (case ON|O8|Pm|Oh=>k_is)
  (case Mu|M0=>kernel_rfl)
  (case MZ|MT|Mz|MF=>k_is)
  (case J1|KC=>kernel_rfl)
  (case KE|Kb|Kd|Kn=>k_is)
  (case k_NoName_NoName|k_NoName_Twice|k_NoName_Bare|k_NoName_Grown|k_NoName_TooMany|k_NoName_ValueError|k_Twice_NoName|k_Twice_Twice|k_Twice_Bare|k_Twice_Grown|k_Twice_TooMany|k_Twice_ValueError|k_Bare_NoName|k_Bare_Twice|k_Bare_Bare|k_Bare_Grown|k_Bare_TooMany|k_Bare_ValueError|k_Grown_NoName|k_Grown_Twice|k_Grown_Bare|k_Grown_Grown|k_Grown_TooMany|k_Grown_ValueError|k_TooMany_NoName|k_TooMany_Twice|k_TooMany_Bare|k_TooMany_Grown|k_TooMany_TooMany|k_TooMany_ValueError=>kit_is)
  (case Gx|Tx|QH|U0|G3|TZ|OL|ME|UM|Oi|Og|G2|Gy|FJ|GI|DW|FD|RA|Q3|FK|GZ|GH|Da|Ew=>k_is)
