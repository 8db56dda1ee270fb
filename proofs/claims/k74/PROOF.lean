import PyProof.Rows.All
import Wide.All
import OpenK.AllK
import Wide.FinOn
import Lean
import PyProof.EqAt
import PyProof.EqKinds
import PyProof.TupleCall
import PySem.Challenge.RW_stemshelf_k74_deeds_done
set_option Elab.async false
set_option linter.all false
set_option maxRecDepth 100000
def ax:=@List.length_map
def ay:=@PySem.wpAny_bind
def az:=@PySem.Heap.get?_push_of_some
def aA:=@List.mem_map
def aB:=@List.mem_cons_of_mem
def aD:=@Nat.le_refl
def aE:=@decide_eq_true
def aF:=@if_neg
def aG:=@List.mem_singleton
def aH:=@PySem.wpAny_pure
def aI:=@if_pos
def aJ:=@Bool.false_ne_true
def aK:=@List.mem_cons_self
def aL:=@List.map_map
def aM:=@List.length_append
def aN:=@PySem.Heap.get?_push_size
def aO:=@List.mem_filter
def aP:=@PySem.Heap.lt_size
def aQ:=@List.getElem?_map
def aR:=@List.map_cons
def aS:=@decide_eq_false
def aU:=@List.getElem?_eq_getElem
def aV:=@List.mem_append_right
def aW:=@of_decide_eq_true
def aX:=@List.mem_cons
def aY:=@List.size_toArray
def aZ:=@List.map_congr_left
def ba:=@Bool.and_eq_true
def bc:=@Nat.lt_of_lt_of_le
def bf:=@PySem.wpAny_mono
def bg:=@Nat.ne_of_lt
def bh:=@List.getElem?_eq_some_iff
def bj:=@Nat.le_trans
def bp:=@List.length_filter_le
def bq:=@List.append_nil
def br:=@Option.some.inj
def bu:=@List.mem_append
def bw:=@List.length_cons
def bx:=@List.map_append
def bz:=@List.length_singleton
def bA:=@PySem.sizeLine_eq
def bB:=@Option.map_eq_some_iff
def bC:=@Nat.zero_le
def bD:=@List.mem_of_getElem?
def bE:=@List.filter_cons
def bF:=@List.take_of_length_le
def bG:=@Int.emod_lt_of_pos
def bH:=@PySem.Heap.get?_update_other
def bI:=@List.getElem?_eq_none
def bJ:=@List.pairwise_map
def bK:=@decide_eq_true_eq
def bL:=@PySem.wpAny_holding
def bM:=@PySem.F.plainAttrs_list
def bN:=@List.pairwise_cons
def bO:=@List.mem_append_left
def bP:=@PySem.W.kia_one
def bQ:=@Int.emod_nonneg
def bR:=@List.all_eq_true
def bS:=@PySem.mem_of_lookup
def bT:=@PySem.F.type_list_append
def bU:=@PySem.F.slot_list_append
def bV:=@List.nodup_cons
def bW:=@beq_iff_eq
def bX:=@PySem.Txt.slice_le
def bY:=@List.length_take
def bZ:=@PySem.wpAny_Call_Name_kw
def cf:=@PySem.F.plainAttrs_str
def cg:=@List.getElem?_append_right
def cj:=@beq_eq_false_iff_ne
def cm:=@Option.filter_eq_some_iff
def cn:=@List.getElem?_append_left
def cp:=@List.filter_append
def cq:=@Bool.eq_iff_iff
def cu:=@PySem.W.hideAll_get
def cw:=@List.filter_eq_self
def cx:=@PySem.Heap.get?_none_of_le
def cy:=@PySem.wpAny_truthy_bool
def cz:=@PySem.PassesOwn.never
def cA:=@List.length_drop
def cB:=@List.getElem_mem
def cD:=@PySem.Paired.length
def cE:=@PySem.Heap.size_push
def cF:=@Bool.eq_false_iff
def cG:=@Nat.lt_irrefl
def cH:=@PySem.Around.under_plainId
def cI:=@PySem.wpAny_call
def cJ:=@PySem.W.callWith_K
def cK:=@Nat.ne_of_gt
def cL:=@List.take_add_one
def cM:=@List.flatMap_cons
def cN:=@List.append_assoc
def cO:=@Int.toNat_natCast
def cP:=@PySem.codeAny_mono
def cQ:=@PySem.codeAny_builtin
def cR:=@PySem.wpAny_newObj_type
def cS:=@List.flatMap_append
def cT:=@PySem.codeAny_call_builtin
def cU:=@Option.isSome_iff_exists
def cW:=@List.of_mem_zip
def cX:=@decide_eq_true_iff
def cY:=@List.map_id
def cZ:=@Nat.succ.inj
def dc:=@List.nodup_nil
def df:=@PySem.wpAny_getItem_str_slice
def dg:=@decide_eq_decide
def dh:=@List.lookup_cons
def di:=@List.lt_trans
def du:=@List.mem_of_mem_drop
def dv:=@Nat.sub_self
def dw:=@List.map_nil
def dy:=@List.all_map
def dz:=@List.mem_filterMap
def dA:=@PySem.wpAny_passesOwn
def dB:=@PySem.SeqAt.EqAt.same
def dC:=@List.pairwise_iff_getElem
def dD:=@List.mem_of_find?_eq_some
def dE:=@Nat.lt_succ_of_lt
def dF:=@PySem.F.args_tuple_add_2
def dG:=@List.map_take
def dH:=@PySem.W.KasT.kasWp_bind
def dI:=@PySem.tupleKind_room_in1
def dJ:=@PySem.W.looks_findIn
def dM:=@PySem.F.entry_tuple_add
def dN:=@Nat.min_eq_right
def dO:=@List.take_length
def dP:=@List.any_eq_true
def dQ:=@Int.eq_ofNat_of_zero_le
def dR:=@Array.toList_inj
def dS:=@PySem.W.cellsFrom_some
def dU:=@PySem.F.slot_tuple_add
def dW:=@Nat.zero_add
def dX:=@Nat.sub_zero
def dY:=@List.getElem?_set_self
def dZ:=@PySem.wpAny_pyIter_list
def d2:=@PySem.wpAny_loadPart_at
def d3:=@PySem.Str.length_append
def d4:=@Nat.min_eq_left
def d5:=@List.take_left'
def d6:=@PySem.wpAny_standAt
def d7:=@PySem.plainId_quiet
def d9:=@PySem.W.methodCall_KW
def eo:=@PySem.F.type_str_join
def eu:=@PySem.F.slot_str_join
def eB:=@PySem.F.slot_dict_get
def eC:=@PySem.wpAny_execs_cons
def eD:=@List.take_zero
def eE:=@List.mem_range
def eF:=@List.lt_irrefl
def eG:=@List.getElem?_set_ne
def eH:=@List.dropLast_concat
def eI:=@PySem.W.plainGet_of
def eJ:=@List.filterMap_cons
def eK:=@PySem.Calls.callWith_builtin
def eL:=@Array.length_toList
def eM:=@PySem.wpAny_execs_nil
def eN:=@PySem.post_val_or_str
def eO:=@List.cons.inj
def eP:=@List.any_cons
def eQ:=@PySem.codeAny_handlers_test
def eS:=@PySem.StrLaws.strSub_toList
def eT:=@PySem.W.of_hideAll
def eU:=@PySem.W.Looks.here
def eV:=@Nat.le_of_lt
def eW:=@Nat.le_of_eq
def eX:=@List.take_sublist
def eY:=@List.set_set
def eZ:=@List.nodup_append
def e8:=@List.ext_getElem?
def fc:=@PyProof.Rows.slot_tuple_getitem
def fe:=@PySem.wpAny_handleBy_cons
def fg:=@PySem.W.Looks.ld
def fh:=@Nat.lt_succ_self
def fi:=@List.cons_append
def fj:=@PySem.wpAny_attempt
def fk:=@PyProof.Rows.subscriptTail_builtinR
def fm:=@Sum.inr.inj
def fq:=@Nat.le_succ
def fu:=@PySem.typeIs_str
def fv:=@PySem.call_meets
def fz:=@PySem.W.exm_one
def fA:=@List.nil_append
def fB:=@List.find?_some
def fD:=@List.find?_cons
def fE:=@List.dropLast_concat_getLast
def fF:=@PySem.Code.quiet_builtin
def fG:=@PyProof.Rows.callWith_type1
def fH:=@PySem.wpAny_typeOf
def fJ:=@PySem.concat_meets
def fK:=@PySem.F.excBase_ValueError
def fL:=@List.perm_append_singleton
def fM:=@List.find?_map
def fN:=@List.drop_zero
def fO:=@Array.perm_iff_toList_perm
def fP:=@Array.getElem?_eq_some_iff
def fQ:=@PySem.plainObj_wpAny_Assign_Attribute
def fR:=@PySem.noFill_tuple_add
def fS:=@List.map_drop
def fT:=@List.all_cons
def fU:=@decide_eq_false_iff_not
def fV:=@PySem.F.plain_list_iadd
def fW:=@PySem.F.plainAttrs_dict
def fX:=@PySem.F.args_dict_get_2
def fY:=@List.length_eq_zero_iff
def fZ:=@PyProof.Rows.listUpdate_at
def gb:=@PySem.W.funFrames_hide
def gc:=@PySem.F.entry_dict_get
def gd:=@List.length_pos_of_mem
def gf:=@List.drop_eq_nil_of_le
def gh:=@List.append_eq_nil_iff
def gi:=@PyProof.Rows.ltCps_eq
def gm:=@List.take_append_drop
def gp:=@List.lookup_cons_self
def gq:=@Array.getElem?_toList
def gs:=@Array.getElem?_modify
def gu:=@PySem.wpAny_newFunctionEnv_cells
def gv:=@PySem.wpAny_loadPart
def gw:=@PySem.wpAny_load
def gx:=@PySem.wpAny_Name
def gy:=@PySem.W.hideAll_none
def gz:=@List.mem_of_mem_take
def gA:=@List.dropLast_subset
def gB:=@PySem.Calls.Name_function_global
def gC:=@PySem.W.findObj_own
def gD:=@PySem.W.codeHd_of_K
def gE:=@List.take_succ_cons
def gF:=@List.length_take_le
def gG:=@PySem.wpAny_newList
def gH:=@PySem.seq_tuple_add
namespace L2
open PySem PySem.Spec PyProof.Rows
abbrev Key:=Sum Int Str
def Oe:Key->Value->Bool
 | .inl k,v=>Value.isInt k v
 | .inr x,v=>Value.isStrOf x v
def Zy (w:World):Key->Int
 | .inl k=>hashInt k
 | .inr x=>hashStr w x
theorem Ci:∀{k:Key} {v:Value},Oe k v=true->(∃i t,k=Sum.inl i/\v=Value.int i t)\/(∃x t,k=Sum.inr x/\v=Value.str x t)
 | .inl i,v,h=>by
  obtain⟨t,e⟩:=Value.isInt_shape (k:=i) (v:=v) h;exact .inl ⟨i,t,rfl,e⟩
 | .inr x,v,h=>by
  obtain⟨t,e⟩:=Value.isStrOf_shape (x:=x) (v:=v) h;exact .inr ⟨x,t,rfl,e⟩
theorem TZ (i:Int)(t:Tok):Oe (.inl i) (.int i t)=true:=by simp[Oe,Value.isInt]
theorem Tt (x:Str)(t:Tok):Oe (.inr x) (.str x t)=true:=by simp[Oe,Value.isStrOf]
theorem Yq (a b:Int):decide ((Sum.inl a:Key)=Sum.inl b)=(a == b):=by
 by_cases e:a=b
 ·subst e;simp
 ·have h:¬(Sum.inl a:Key)=Sum.inl b:=λq=>e (Sum.inl.inj q)
  rw[aS h];exact(cj.mpr e).symm
theorem XO (a b:Str):decide ((Sum.inr a:Key)=Sum.inr b)=decide (a=b):=by
 by_cases e:a=b
 ·subst e;simp
 ·have h:¬(Sum.inr a:Key)=Sum.inr b:=λq=>e (fm q)
  rw[aS h,aS e]
theorem Yk (a:Int)(b:Str):decide ((Sum.inl a:Key)=Sum.inr b)=false:=aS (λq=>nomatch q)
theorem Yp (a:Str)(b:Int):decide ((Sum.inr a:Key)=Sum.inl b)=false:=aS (λq=>nomatch q)
def Bs (prog:Program)(w:World):PySem.KeyKind prog w Key where
 is:=Oe
 hash:=Zy w
 inj:=λv a b ha hb=>by
  rcases Ci ha with⟨i,t,rfl,rfl⟩|⟨x,t,rfl,rfl⟩
  ·rcases Ci hb with⟨j,u,rfl,e⟩|⟨y,u,rfl,e⟩
   ·injection e with e1 _;rw[e1]
   ·exact nomatch e
  ·rcases Ci hb with⟨j,u,rfl,e⟩|⟨y,u,rfl,e⟩
   ·exact nomatch e
   ·injection e with e1 _;rw[e1]
 byValue:=λk v h=>by
  rcases Ci h with⟨i,t,rfl,rfl⟩|⟨x,t,rfl,rfl⟩<;>rfl
 pyHash:=λhv h=>by
  rcases Ci hv with⟨i,t,rfl,rfl⟩|⟨x,t,rfl,rfl⟩
  ·exact wpAny_pyHash_int h
  ·exact wpAny_pyHash_str h
 eqBool:=λhu hv h=>by
  rcases Ci hu with⟨i,t,rfl,rfl⟩|⟨x,t,rfl,rfl⟩
  ·rcases Ci hv with⟨j,u,rfl,rfl⟩|⟨y,u,rfl,rfl⟩
   ·rw[Yq] at h;exact wpAny_eqBool_int h
   ·rw[Yk] at h;exact SeqAt.EqAt.int_str i t y u _ _ _ _ h
  ·rcases Ci hv with⟨j,u,rfl,rfl⟩|⟨y,u,rfl,rfl⟩
   ·rw[Yp] at h;exact SeqAt.EqAt.str_int x t j u _ _ _ _ h
   ·rw[XO] at h;exact wpAny_eqBool_str h
 «strs»:=λk x t v h=>by
  rcases Ci h with⟨i,u,rfl,e⟩|⟨y,u,rfl,e⟩
  ·exact nomatch e
  ·injection e with e1 _
   subst e1;cases v<;>rfl
theorem QT (prog:Program)(w:World)(i:Int)(t:Tok):(Bs prog w).is (.inl i) (.int i t)=true:=TZ i t
theorem Qf (prog:Program)(w:World)(x:Str)(t:Tok):(Bs prog w).is (.inr x) (.str x t)=true:=Tt x t
inductive V where
 |non|bl (b:Bool)|int (i:Int)|str (x:Str)|byt (b:Array UInt8)|flt (b:UInt64)|ref (a:Addr)|ty (n:String)
 deriving DecidableEq
def RelV:V->Value->Prop
 | .non,u=>u=Value.none
 | .bl b,u=>u=Value.bool b
 | .int i,u=>∃t,u=Value.int i t
 | .str x,u=>∃t,u=Value.str x t
 | .byt b,u=>∃t,u=Value.bytes b t
 | .flt b,u=>∃t,u=Value.float b t
 | .ref a,u=>u=Value.ref a
 | .ty n,u=>u=Value.type n
abbrev Bd:List V->List Value->Prop:=Paired RelV
theorem Bd.length {xs:List V}{us:List Value}(r:Bd xs us):xs.length=us.length:=cD r
theorem Bd.get:∀{xs:List V} {us:List Value} {i:Nat} {x:V},Bd xs us->xs[i]?=some x->∃u,us[i]?=some u/\RelV x u
 |_,_,_,_,.nil,e=>by simp at e
 |_,_,0,_,.cons r _,e=>by simp at e;subst e;exact⟨_,rfl,r⟩
 |_,_,i+1,x,.cons _ t,e=>by
  obtain⟨u,h1,h2⟩:=Bd.get (i:=i) (x:=x) t (by simpa using e);exact⟨u,by simpa using h1,h2⟩
theorem Bd.append:∀{xs ys:List V} {us ws:List Value},Bd xs us->Bd ys ws->Bd (xs++ys) (us++ws)
 |_,_,_,_,.nil,s=>s
 |_,_,_,_,.cons r t,s=>.cons r (Bd.append t s)
theorem Bd.take:∀{xs:List V} {us:List Value} (n:Nat),Bd xs us->Bd (xs.take n) (us.take n)
 |_,_,0,_=>.nil
 |_,_,_+1,.nil=>.nil
 |_,_,n+1,.cons r t=>.cons r (Bd.take n t)
theorem Bd.drop:∀{xs:List V} {us:List Value} (n:Nat),Bd xs us->Bd (xs.drop n) (us.drop n)
 |_,_,0,r=>r
 |_,_,_+1,.nil=>.nil
 |_,_,n+1,.cons _ t=>Bd.drop n t
def Hq:Option V->Option Value->Prop
 |some v,some u=>RelV v u
 |none,none=>True
 |_,_=>False
def KV {κ:Type}:List (κ×V)->List (κ×Value)->Prop:=Paired λ(p:κ×V) (q:κ×Value)=>p.1=q.1/\RelV p.2 q.2
def kV:Key->V
 | .inl i=>.int i
 | .inr x=>.str x
inductive HO where
 |lst (xs:List V)
 |tup (xs:List V)
 |dK (kvs:List (Key×V))|dT (kvs:List (List Key×V))
 |set (S:Int->Bool) (n:Nat)
 |ins (C dx:Addr) (fs:List (Str×V))
 |own (x:Addr)
 |xd (fs:List (Str×V))
 |met (f x:Addr)
 |rng (lo hi:Int)
 |frz (o:Obj) (u:HO)
 |tbl (ps:Array Value)
 |ext (φ:Heap->Prop)
abbrev Hp:=Addr->Option HO
def upd (H:Hp)(a:Addr)(o:HO):Hp:=λb=>if b=a then some o else H b
theorem Ae {H:Hp}{a:Addr}{o:HO}:upd H a o a=some o:=by unfold upd;rw[aI rfl]
theorem Ax {H:Hp}{a b:Addr}{o:HO}(h:b≠a):upd H a o b=H b:=by unfold upd;rw[aF h]
theorem Ep {H:Hp}{a b:Addr}{o u:HO}(h:H a=some o)(h':H b=some u)(d:o≠u):a≠b:=by
 intro e;subst e;rw[h] at h';exact d (br h')
theorem B6 {H:Hp}{a b:Addr}{o:HO}(h:H a=some o)(h':H b=none):a≠b:=by
 intro e;subst e;rw[h] at h';cases h'
def ZP:List V->Bool
 |[.int _,_]=>true
 |_=>false
def NT (b:Bool)(h:Heap)(a:Addr)(items:Array Value):Prop:=∃o,h.get? a=some o/\o.cls=.type "tuple"/\∃n,o.data=.seq items n/\(b=false->o.dict=none)
theorem NT.is {b:Bool}{h:Heap}{a:Addr}{items:Array Value}(x:NT b h a items):IsTup h a items:=let⟨o,e,c,n,d,_⟩:=x;⟨o,e,c,n,d⟩
theorem NT.lt {b:Bool}{h:Heap}{a:Addr}{items:Array Value}(x:NT b h a items):a<h.objs.size:=x.is.lt
theorem NT.new {b:Bool}(h:Heap)(items:Array Value):NT b (h.push { cls:=.type "tuple",data:=.seq items }) h.objs.size items:=⟨_,aN _ rfl,rfl,_,rfl,λ_=>rfl⟩
section
variable (P:Program)(w:World)
def Bn (H:Hp)(h:Heap)(a:Addr):HO->Prop
 | .lst xs=>xs.length<=sizeLine/\∃(its:List Value) (n:Nat),Bd xs its/\h.get? a=some { cls:=.type "list",data:=.seq its.toArray n }
 | .tup xs=>xs.length<=sizeLine/\∃its:List Value,Bd xs its/\NT (ZP xs) h a its.toArray
 | .dK kvs=>kvs.length<=sizeLine/\(a == sysModules)=false/\∃vs,KV kvs vs/\h.DictOf (Bs P w) a vs
 | .dT kvs=>kvs.length<=sizeLine/\(a == sysModules)=false/\∃xs:List (List Key×Addr×Value),
   Paired (λ(p:List Key×V) (q:List Key×Addr×Value)=>p.1=q.1/\H q.2.1=some (.tup (p.1.map kV))/\RelV p.2 q.2.2) kvs xs/\
   ∃o es ep,h.get? a=some o/\o.ExactDict/\o.data=.dict es ep/\es.toList=xs.map (entryOfKey (tupleKind (Bs P w)))/\(xs.map (·.1)).Nodup
 | .set S n=>h.SetOf (intKind P w) a S n
 | .ins C dx fs=>H dx=some (.own a)/\fs.length<=1000/\dx≠a/\h.get? a=some (PySem.W.instObj C dx)/\
   ∃mA,h.Ns1 dx mA/\(∀f,Hq (fs.lookup f) (mA f))/\PySem.Within mA (fs.map (·.1))
 | .own _=>∃o,h.get? a=some o
 | .xd fs=>∃mA,h.Ns1 a mA/\∀f,Hq (fs.lookup f) (mA f)
 | .rng lo hi=>∃t u v,h.get? a=some { cls:=.type "range",data:=.fields #[.int lo t,.int hi u,.int 1 v] }
 | .frz o u=>h.get? a=some o/\Bn H h a u
 | .tbl ps=>h.get? a=some { cls:=.none,data:=.fields ps }
 | .met f x=>h.get? a=some (PySem.W.methodObj (.ref f) (.ref x))
 | .ext φ=>φ h/\(∃o,h.get? a=some o)/\∀h1 h2:Heap,φ h1->(∀o,h1.get? a=some o->h2.get? a=some o)->φ h2
def Iy (H:Hp)(h:Heap):Prop:=∀a o,H a=some o->Bn P w H h a o
end
section
variable {P:Program}{w:World}{H H':Hp}{h h':Heap}{a:Addr}{o:HO}
theorem Bn.lt (x:Bn P w H h a o):a<h.objs.size:=by
 cases o with
 |lst xs=>obtain⟨_,_,_,_,e⟩:=x;exact aP e
 |tup xs=>obtain⟨_,_,_,p⟩:=x;exact p.lt
 |dK kvs=>obtain⟨_,_,_,_,o,_,_,e,_⟩:=x;exact aP e
 |dT kvs=>obtain⟨_,_,_,_,o,_,_,e,_⟩:=x;exact aP e
 |set S n=>obtain⟨o,_,_,_,e,_⟩:=x;exact aP e
 |ins C dx fs=>obtain⟨_,_,_,e,_⟩:=x;exact aP e
 |own y=>obtain⟨_,e⟩:=x;exact aP e
 |xd fs=>obtain⟨_,⟨_,_,_,e,_⟩,_⟩:=x;exact aP e
 |rng lo hi=>obtain⟨_,_,_,e⟩:=x;exact aP e
 |frz ob u=>obtain⟨e,_⟩:=x;exact aP e
 |tbl ps=>exact aP (show h.get? a=some _ from x)
 |met f y=>exact aP (show h.get? a=some _ from x)
 |ext φ=>obtain⟨_,⟨_,e⟩,_⟩:=x;exact aP e
theorem Paired.mapP {α β:Type}{F G:α->β->Prop}:∀{l₁:List α} {l₂:List β},Paired F l₁ l₂->(∀a b,F a b->G a b)->Paired G l₁ l₂
 |_,_,.nil,_=>.nil
 |_,_,.cons r t,f=>.cons (f _ _ r) (Paired.mapP t f)
theorem Bn.stay (x:Bn P w H h a o) (k:∀b u,(b=a\/H b=some (.own a))->h.get? b=some u->h'.get? b=some u)
  (ho:∀b,H b=some (.own a)->H' b=some (.own a)) (ht:∀b xs,H b=some (.tup xs)->H' b=some (.tup xs)):Bn P w H' h' a o:=by
 induction o with
 |lst xs=>obtain⟨z,its,n,r,e⟩:=x;exact⟨z,its,n,r,k _ _ (.inl rfl) e⟩
 |tup xs=>obtain⟨z,its,r,ob,e,c⟩:=x;exact⟨z,its,r,ob,k _ _ (.inl rfl) e,c⟩
 |dK kvs=>obtain⟨z,y,vs,r,ob,es,ep,e,c⟩:=x;exact⟨z,y,vs,r,ob,es,ep,k _ _ (.inl rfl) e,c⟩
 |dT kvs=>
  obtain⟨z,y,xs,r,ob,es,ep,e,c⟩:=x;exact⟨z,y,xs,Paired.mapP r λp q z=>⟨z.1,ht _ _ z.2.1,z.2.2⟩,ob,es,ep,k _ _ (.inl rfl) e,c⟩
 |set S n=>obtain⟨ob,es,ep,t,e,c⟩:=x;exact⟨ob,es,ep,t,k _ _ (.inl rfl) e,c⟩
 |ins C dx fs=>
  obtain⟨d,z,ne,e,mA,⟨od,es,ep,e2,c⟩,r⟩:=x;exact⟨ho _ d,z,ne,k _ _ (.inl rfl) e,mA,⟨od,es,ep,k _ _ (.inr d) e2,c⟩,r⟩
 |own y=>obtain⟨ob,e⟩:=x;exact⟨ob,k _ _ (.inl rfl) e⟩
 |xd fs=>obtain⟨mA,⟨od,es,ep,e,c⟩,r⟩:=x;exact⟨mA,⟨od,es,ep,k _ _ (.inl rfl) e,c⟩,r⟩
 |rng lo hi=>obtain⟨t,u,v,e⟩:=x;exact⟨t,u,v,k _ _ (.inl rfl) e⟩
 |frz ob u ih=>obtain⟨e,q⟩:=x;exact⟨k _ _ (.inl rfl) e,ih q⟩
 |tbl ps=>
  have e:h.get? a=some { cls:=.none,data:=.fields ps }:=x;show h'.get? a=some { cls:=.none,data:=.fields ps };exact k a _ (.inl rfl) e
 |met f y=>
  have e:h.get? a=some (PySem.W.methodObj (.ref f) (.ref y)):=x;show h'.get? a=some (PySem.W.methodObj (.ref f) (.ref y));exact k a _ (.inl rfl) e
 |ext φ=>obtain⟨p,⟨o,e⟩,st⟩:=x;exact⟨st _ _ p λo q=>k _ _ (.inl rfl) q,⟨o,k _ _ (.inl rfl) e⟩,st⟩
theorem Iy.lt (x:Iy P w H h)(e:H a=some o):a<h.objs.size:=(x a o e).lt
theorem Iy.fresh (x:Iy P w H h)(e:h.objs.size<=a):H a=none:=by
 cases q:H a with
 |none=>rfl
 |some u=>exact absurd (bc (x.lt q) e) (cG _)
theorem Iy.kept (x:Iy P w H h)(k:∀b u,h.get? b=some u->h'.get? b=some u):Iy P w H h':=λa o e=>
 (x a o e).stay (λb u _ q=>k b u q) (λ_ q=>q) λ_ _ q=>q
theorem Iy.laid (x:Iy P w H h)(k:∀b u,h.get? b=some u->h'.get? b=some u)(hp:h.objs.size<=a)(new:Bn P w (upd H a o) h' a o):Iy P w (upd H a o) h':=λb u e=>by
 have hn:=x.fresh hp
 by_cases hb:b=a
 ·subst hb;rw[Ae] at e;cases e;exact new
 ·rw[Ax hb] at e;exact(x b u e).stay (λc v _ q=>k c v q) (λc q=>by rw[Ax (B6 q hn)];exact q) λc xs q=>by rw[Ax (B6 q hn)];exact q
end
def Rd (H:Hp)(a:Addr)(u:HO):Prop:=H a=some u\/∃o,H a=some (.frz o u)
theorem Rd.ok {P:Program}{w:World}{H:Hp}{h:Heap}{a:Addr}{u:HO}(r:Rd H a u)(x:Iy P w H h):Bn P w H h a u:=by
 rcases r with r|⟨o,r⟩
 ·exact x a u r
 ·obtain⟨_,q⟩:=x a _ r;exact q
def Zs:Option HO->Prop
 |some (.lst _)=>True
 |some (.dK _)=>True
 |some (.dT _)=>True
 |some (.set _ _)=>True
 |some (.ins _ _ _)=>True
 |some (.ext _)=>True
 |_=>False
section
variable {P:Program}{w:World}{H:Hp}{h h':Heap}{x e:Addr}{o':HO}
theorem Iy.write (ok:Iy P w H h) (mu:Zs (H x)) (he:e=x\/H e=some (.own x)) (k:∀b u,b≠e->h.get? b=some u->h'.get? b=some u) (heo:∃u,h'.get? e=some u)
  (new:Bn P w (upd H x o') h' x o'):Iy P w (upd H x o') h':=λb u q=>by
 have nown:∀c y,H c=some (.own y)->c≠x:=λc y r z=>by subst z;rw[r] at mu;exact mu
 have ntup:∀c xs,H c=some (.tup xs)->c≠x:=λc xs r z=>by subst z;rw[r] at mu;exact mu
 by_cases hb:b=x
 ·subst hb;rw[Ae] at q;cases q;exact new
 ·rw[Ax hb] at q
  by_cases hbe:b=e
  ·have q':H b=some (.own x):=by
    rcases he with z|z
    ·exact absurd (hbe.trans z) hb
    ·rw[hbe];exact z
   rw[q] at q';cases q';obtain⟨v,hv⟩:=heo;exact⟨v,by rw[hbe];exact hv⟩
  ·refine(ok b u q).stay (λc v hc r=>k c v ?_ r) (λc r=>by rw[Ax (nown c b r)];exact r) λc xs r=>by rw[Ax (ntup c xs r)];exact r
   rcases hc with rfl|hc
   ·exact hbe
   ·rintro rfl
    rcases he with z|z
    ·exact nown c b hc z
    ·rw[hc] at z;cases z;exact hb rfl
end
structure Un (fs ex:List Addr) (H H':Hp) (h h':Heap):Prop where
 keep:∀b o,h.get? b=some o->H b=none->b∉fs->b∉ex->h'.get? b=some o
 slot:∀b o,h.get? b=some o->H b=none->b∈fs->b∉ex->∃sl,h'.get? b=some { o with slots:=sl }
 free:∀b o,h.get? b=some o->H b=none->b∉ex->H' b=none
 there:∀b o,h.get? b=some o->b∉ex->∃o',h'.get? b=some o'
 tups:∀b xs,H b=some (.tup xs)->H' b=some (.tup xs)
 frzs:∀b o u,H b=some (.frz o u)->H' b=some (.frz o u)
 tbls:∀b ps,H b=some (.tbl ps)->∃more,H' b=some (.tbl (ps++more))
section
variable {fs fs' ex ex':List Addr}{H H1 H2:Hp}{h h1 h2 h':Heap}{a x e:Addr}{o:HO}
theorem Un.any (u:Un fs ex H H1 h h1){b:Addr}{ob:Obj}(q:h.get? b=some ob)(n:H b=none)(hx:b∉ex):∃sl,h1.get? b=some { ob with slots:=sl }:=by
 by_cases hb:b∈fs
 ·exact u.slot b ob q n hb hx
 ·exact⟨ob.slots,u.keep b ob q n hb hx⟩
theorem Un.kept (k:∀b u,h.get? b=some u->h'.get? b=some u):Un fs ex H H h h':=
 ⟨λb ob q _ _ _=>k b ob q,λb ob q _ _ _=>⟨ob.slots,k b ob q⟩,λ_ _ _ n _=>n,λb ob q _=>⟨ob,k b ob q⟩,λ_ _ q=>q,λ_ _ _ q=>q,λ_ ps q=>⟨#[],by rw[q];simp⟩⟩
theorem Un.refl:Un fs ex H H h h:=Un.kept λ_ _ q=>q
theorem Un.laid (k:∀b u,h.get? b=some u->h'.get? b=some u)(hp:h.objs.size<=a)(hn:H a=none):Un fs ex H (upd H a o) h h' where
 keep:=λb u q _ _ _=>k b u q
 slot:=λb u q _ _ _=>⟨u.slots,k b u q⟩
 free:=λb u q n _=>by rw[Ax (bg (bc (aP q) hp))];exact n
 there:=λb u q _=>⟨u,k b u q⟩
 tups:=λb xs q=>by rw[Ax (B6 q hn)];exact q
 frzs:=λb u xs q=>by rw[Ax (B6 q hn)];exact q
 tbls:=λb ps q=>⟨#[],by rw[Ax (B6 q hn),q];simp⟩
theorem Un.write (mu:Zs (H x))(he:e=x\/H e=some (.own x))(k:∀b u,b≠e->h.get? b=some u->h'.get? b=some u)(heo:∃u,h'.get? e=some u):Un fs ex H (upd H x o) h h':=by
 have hx:∀b,H b=none->b≠x:=λb n z=>by subst z;rw[n] at mu;exact mu
 have hb:∀b,H b=none->b≠e:=λb n z=>by
  subst z;rcases he with r|r
  ·exact hx b n r
  ·rw[n] at r;cases r
 have hm:∀b u,H b=some u->¬Zs (some u)->b≠x:=λb u q nm z=>by subst z;rw[q] at mu;exact nm mu
 refine⟨λb u q n _ _=>k b u (hb b n) q,λb u q n _ _=>⟨u.slots,k b u (hb b n) q⟩,λb u q n _=>by rw[Ax (hx b n)];exact n,λb u q _=>?_,
  λb xs q=>by rw[Ax (hm b _ q λz=>z)];exact q,λb u xs q=>by rw[Ax (hm b _ q λz=>z)];exact q,λb ps q=>⟨#[],by rw[Ax (hm b _ q λz=>z),q];simp⟩⟩
 by_cases hbe:b=e
 ·subst hbe;exact heo
 ·exact⟨u,k b u hbe q⟩
end
def Xl (h:Heap)(H:Hp):List Addr:=(List.range h.objs.size).filter λa=>(H a).isSome
def Pu (h:Heap)(H:Hp):Heap:=PySem.W.hideAll h (Xl h H)
theorem Uu (h:Heap)(H:Hp):(Pu h H).objs.size=h.objs.size:=PySem.W.hideAll_size _ _
theorem M9 {h:Heap}{H:Hp}{b:Addr}{o:Obj}(e:h.get? b=some o)(n:H b=none):(Pu h H).get? b=some o:=
 cu _ e λhm=>by
  have q:(H b).isSome=true:=(aO.mp hm).2;rw[n] at q;simp at q
theorem WV {h:Heap}{H:Hp}{b:Addr}{o:Obj}(e:(Pu h H).get? b=some o):h.get? b=some o/\H b=none:=by
 have e':h.get? b=some o:=eT (Xl h H) e;refine⟨e',?_⟩;cases q:H b with
 |none=>rfl
 |some x=>
  have hm:b∈Xl h H:=aO.mpr ⟨eE.mpr (aP e'),by simp[q]⟩;have z:(Pu h H).get? b=none:=gy (Xl h H) hm;rw[z] at e;cases e
def Wn (g h:Heap)(L:Addr):List (Addr×Obj):=(List.range h.objs.size).filterMap λa=>if a=L\/(g.get? a).isSome=true then none else(h.get? a).map λo=>(a,o)
def rest (g h:Heap)(L d:Addr):List (Addr×Obj):=(Wn g h L).filter λp=>decide (p.1≠d)
structure Mod (K:PySem.W.Frag) (mg:Str->Option Value) (base:Heap):Prop where
 kin:K.In base
 glob:base.Ns mainGlobals mg
 blt:∃mb,base.Ns builtinsNs mb/\∀x:Str,x≠"__name__"->mb x=bootBuiltins x
 nolimit:base.NoLimit
structure Cx where
 prog:Program
 w:World
 K:PySem.W.Frag
 mg:Str->Option Value
 base:Heap
 A:Around
 N:List Str
 s₀:Shared
 H₀:Hp
 env:Env
 outer:List Env
 stack:List Env
 ex:List Addr
 fn:Str->Bool
 calm:Bool
 pn:List (Addr×Obj)
 xe:Value->Shared->Prop
def GN (l:List Env):List Addr:=l.filterMap (·.frame)
abbrev Cx.fs (X:Cx):List Addr:=GN X.outer
def ZT (sc:Scope)(x:Str):Prop:=sc.names.lookup x=some .local\/sc.names.lookup x=some .cell\/sc.names.lookup x=some .free
def Loc (sc:Scope)(x:Str):Prop:=sc.names.lookup x=some .local\/sc.names.lookup x=some .cell
def Look (env:Env)(h:Heap)(m:Str->Option Value)(x:Str)(u:Value):Prop:=
 (env.kindOf x=some .local/\m x=some u)\/((env.kindOf x=some .cell\/env.kindOf x=some .free)/\∃c,env.cells.lookup x=some c/\h.IsCell c (some u))
structure Cx.Ok (X:Cx):Prop where
 mod:Mod X.K X.mg X.base
 kind:X.env.scope.kind=.function
 glob:X.env.globals=mainGlobals
 blt:X.env.builtins=builtinsNs
 above:X.s₀.heap.objs.size<=X.env.locals
 inj:∀x y c,X.env.cells.lookup x=some c->X.env.cells.lookup y=some c->x=y
 has:∀x,(X.env.kindOf x=some .cell\/X.env.kindOf x=some .free)->∃c,X.env.cells.lookup x=some c
 cab:∀x c,X.fn x=true->X.env.cells.lookup x=some c->X.s₀.heap.objs.size<=c
 hd:X.calm=true->X.A.handled=none
 frames:X.A.frames=some X.stack
 stk:X.stack=X.outer\/(X.stack=X.env::X.outer/\X.env.frame=some X.env.locals)
 exf:∀b∈X.ex,b≠X.env.locals/\∀x c,X.env.cells.lookup x=some c->c≠b
 bs:∀b o,X.base.get? b=some o->X.s₀.heap.get? b=some o/\X.H₀ b=none
 bsz:X.base.objs.size<=X.s₀.heap.objs.size
 noex:∀b o,X.base.get? b=some o->b∉X.ex
 exfs:∀b∈X.ex,b∉X.fs
 funs:X.s₀.heap.FunFrames X.base X.outer
 frf:∀b∈X.fs,X.H₀ b=none
structure Inv (X:Cx) (pins:List (Addr×Obj)) (σ:List (Option V)) (H:Hp) (s:Shared):Prop where
 ok:X.Ok
 os:s.os=X.s₀.os
 bare:AllBare s.gens
 base:Un X.fs X.ex X.H₀ H X.s₀.heap s.heap
 loc:∃m,s.heap.Ns X.env.locals m/\∀(i:Nat) (x:Str) (v:V),X.N[i]?=some x->σ[i]?=some (some v)->ZT X.env.scope x->∃u,RelV v u/\Look X.env s.heap m x u
 cell:∀x c,X.env.cells.lookup x=some c->∃v,s.heap.IsCell c v
 free:H X.env.locals=none
 freeC:∀x c,X.env.cells.lookup x=some c->H c=none
 pin:∀p∈X.pn++pins,s.heap.get? p.1=some p.2/\H p.1=none/\p.1≠X.env.locals/\p.1∉X.fs/\∀v,p.2.data≠.cell v
 hok:Iy X.prog X.w H s.heap
 len:σ.length=X.N.length
section
variable {X:Cx}{pins:List (Addr×Obj)}{σ:List (Option V)}{H H':Hp}{s:Shared}{h':Heap}
theorem Cx.Ok.nofr (ok:X.Ok){b:Addr}{o:Obj}(e:X.base.get? b=some o):b∉X.fs:=λhb=>by
 have:=(ok.funs.mem hb).1;rw[e] at this;cases this
theorem Inv.bs (I:Inv X pins σ H s):∀b o,X.base.get? b=some o->s.heap.get? b=some o/\H b=none:=λb o e=>
 ⟨I.base.keep b o (I.ok.bs b o e).1 (I.ok.bs b o e).2 (I.ok.nofr e) (I.ok.noex b o e),I.base.free b o (I.ok.bs b o e).1 (I.ok.bs b o e).2 (I.ok.noex b o e)⟩
theorem Inv.bk (I:Inv X pins σ H s):∀b o,X.base.get? b=some o->s.heap.get? b=some o:=λb o e=>(I.bs b o e).1
theorem Inv.mod (I:Inv X pins σ H s):Mod X.K X.mg X.base:=I.ok.mod
theorem Inv.kIn (I:Inv X pins σ H s):X.K.In s.heap:=I.ok.mod.kin.keeps I.bk
theorem Inv.nolimit (I:Inv X pins σ H s):s.heap.NoLimit:=I.ok.mod.nolimit.keeps I.bk
theorem Inv.lt (I:Inv X pins σ H s):X.env.locals<s.heap.objs.size:=let⟨_,hn,_⟩:=I.loc;hn.lt
theorem Inv.sz (I:Inv X pins σ H s):X.s₀.heap.objs.size<=s.heap.objs.size:=bj I.ok.above (eV I.lt)
theorem Inv.nofs (I:Inv X pins σ H s){a:Addr}(h:s.heap.objs.size<=a):a∉X.fs:=λhb=>by
 obtain⟨_,o,ho,_⟩:=I.ok.funs.mem hb;exact absurd (bc (aP ho) (bj I.sz h)) (cG _)
theorem Inv.cne (I:Inv X pins σ H s):∀x c,X.env.cells.lookup x=some c->c≠X.env.locals:=λx c e z=>by
 obtain⟨v,o,ho,hd⟩:=I.cell x c e;obtain⟨m,⟨o',es,ep,ho',hd',_⟩,_⟩:=I.loc;rw[z,ho'] at ho;cases ho;rw[hd'] at hd;cases hd
theorem Inv.funs (I:Inv X pins σ H s):s.heap.FunFrames X.base X.outer:=by
 have all:∀(l:List Env),(∀b∈GN l,b∈X.fs)->X.s₀.heap.FunFrames X.base l->s.heap.FunFrames X.base l:=by
  intro l
  induction l with
  |nil=>intro _ _;trivial
  |cons env r ih=>
   intro hs hl;obtain⟨hk,⟨L,o,hf,hn,ho,hd⟩,hr⟩:=hl;have hL:L∈X.fs:=hs L (by unfold GN;rw[eJ,hf];exact aK);obtain⟨sl,e⟩:=I.base.slot L o ho (I.ok.frf L hL) hL λz=>I.ok.exfs L z hL
   exact⟨hk,⟨L,_,hf,hn,e,hd⟩,ih (λb hb=>hs b (by unfold GN;rw[eJ,hf];exact aB _ hb)) hr⟩
 exact all X.outer (λ_ hb=>hb) I.ok.funs
theorem Inv.stack (I:Inv X pins σ H s):s.heap.FunFrames X.base X.stack:=by
 rcases I.ok.stk with e|⟨e,hf⟩
 ·rw[e];exact I.funs
 ·rw[e];obtain⟨m,hn,_⟩:=I.loc;refine .cons (by rw[I.ok.kind];decide) hf hn ?_ I.funs;exact cx (bj I.ok.bsz I.ok.above)
theorem Inv.stkSub (I:Inv X pins σ H s):∀b∈GN X.stack,b∈X.env.locals::X.fs:=λb hb=>by
 rcases I.ok.stk with e|⟨e,hf⟩
 ·rw[e] at hb;exact aB _ hb
 ·rw[e] at hb;unfold GN at hb;rw[eJ,hf] at hb;exact hb
theorem Inv.stkFree (I:Inv X pins σ H s):∀b∈GN X.stack,H b=none:=λb hb=>by
 rcases aX.mp (I.stkSub b hb) with e|hb
 ·rw[e];exact I.free
 ·obtain⟨_,o,ho,_⟩:=I.ok.funs.mem hb;exact I.base.free b o ho (I.ok.frf b hb) λz=>I.ok.exfs b z hb
theorem Inv.step {g':Array GenState} {t':Nat} {d':Drawn} {ch:List Addr} (I:Inv X pins σ H s)
  (hch:∀b∈ch,(b∈X.ex\/X.s₀.heap.objs.size<=b)/\b≠X.env.locals/\(∀x c,X.env.cells.lookup x=some c->c≠b)/\∀p∈X.pn++pins,p.1≠b)
  (keep:∀b o,b≠X.env.locals->b∉X.fs->b∉ch->s.heap.get? b=some o->H b=none->h'.get? b=some o)
  (slot:∀b o,b≠X.env.locals->b∈X.fs->b∉ch->s.heap.get? b=some o->H b=none->∃sl,h'.get? b=some { o with slots:=sl }) (free:∀b o,b∉ch->s.heap.get? b=some o->H b=none->H' b=none)
  (there:∀b o,b∉ch->s.heap.get? b=some o->∃o',h'.get? b=some o')
  (tups:∀b xs,H b=some (.tup xs)->H' b=some (.tup xs)) (frzs:∀b o u,H b=some (.frz o u)->H' b=some (.frz o u)) (tbls:∀b ps,H b=some (.tbl ps)->∃more,H' b=some (.tbl (ps++more)))
  (ns:∀m,s.heap.Ns X.env.locals m->h'.Ns X.env.locals m) (hok:Iy X.prog X.w H' h') (hg:AllBare g') :
  Inv X pins σ H' { s with heap:=h',gens:=g',drawn:=d',toks:=t' }:=by
 have neL:∀b o,X.s₀.heap.get? b=some o->b≠X.env.locals:=λb o e=>bg (bc (aP e) I.ok.above)
 have neC:∀b o,X.s₀.heap.get? b=some o->b∉X.ex->b∉ch:=λb o e hx hb=>by
  rcases(hch b hb).1 with z|z
  ·exact hx z
  ·exact absurd (bc (aP e) z) (cG _)
 have cellK:∀x c,X.env.cells.lookup x=some c->∀v,s.heap.IsCell c v->h'.IsCell c v:=λx c e v ⟨o,ho,hd⟩=>by
  have nch:c∉ch:=λz=>(hch c z).2.2.1 x c e rfl
  by_cases hc:c∈X.fs
  ·obtain⟨sl,q⟩:=slot c o (I.cne x c e) hc nch ho (I.freeC x c e);exact⟨_,q,hd⟩
  ·exact⟨o,keep c o (I.cne x c e) hc nch ho (I.freeC x c e),hd⟩
 refine⟨I.ok,I.os,hg,⟨λb o e n hb hx=>?_,λb o e n hb hx=>?_,λb o e n hx=>?_,λb o e hx=>?_,λb xs e=>tups b xs (I.base.tups b xs e),λb o xs e=>frzs b o xs (I.base.frzs b o xs e),λb ps e=>?_⟩,?_,λx c e=>?_,?_,λx c e=>?_,λp hp=>?_,hok,I.len⟩
 ·exact keep b o (neL b o e) hb (neC b o e hx) (I.base.keep b o e n hb hx) (I.base.free b o e n hx)
 ·obtain⟨sl,e1⟩:=I.base.slot b o e n hb hx;obtain⟨sl',e2⟩:=slot b _ (neL b o e) hb (neC b o e hx) e1 (I.base.free b o e n hx);exact⟨sl',e2⟩
 ·obtain⟨o',e1⟩:=I.base.there b o e hx;exact free b o' (neC b o e hx) e1 (I.base.free b o e n hx)
 ·obtain⟨o',e1⟩:=I.base.there b o e hx;exact there b o' (neC b o e hx) e1
 ·obtain⟨m1,e1⟩:=I.base.tbls b ps e;obtain⟨m2,e2⟩:=tbls b _ e1;exact⟨m1++m2,by rw[e2,Array.append_assoc]⟩
 ·obtain⟨m,hn,hl⟩:=I.loc;refine⟨m,ns m hn,λi x v e1 e2 e3=>?_⟩;obtain⟨u,r,l⟩:=hl i x v e1 e2 e3;refine⟨u,r,?_⟩;rcases l with l|⟨k,c,e,z⟩
  ·exact .inl l
  ·exact .inr ⟨k,c,e,cellK x c e _ z⟩
 ·obtain⟨v,z⟩:=I.cell x c e;exact⟨v,cellK x c e v z⟩
 ·obtain⟨m,⟨o,_,_,ho,_⟩,_⟩:=I.loc;exact free _ o (λz=>(hch _ z).2.1 rfl) ho I.free
 ·obtain⟨v,o,ho,hd⟩:=I.cell x c e;exact free c o (λz=>(hch c z).2.2.1 x c e rfl) ho (I.freeC x c e)
 ·obtain⟨e,n,ne,nf,d⟩:=I.pin p hp;have nch:p.1∉ch:=λz=>(hch p.1 z).2.2.2 p hp rfl
  exact⟨keep p.1 p.2 ne nf nch e n,free p.1 p.2 nch e n,ne,nf,d⟩
theorem Inv.un {t':Nat}(I:Inv X pins σ H s)(u:Un X.fs [] H H' s.heap h')(hok:Iy X.prog X.w H' h'):Inv X pins σ H' { s with heap:=h',toks:=t' }:=by
 obtain⟨m,⟨o,es,ep,ho,r⟩,_⟩:=id I.loc;obtain⟨sl,hL⟩:=u.any ho I.free (by simp);exact I.step (g':=s.gens) (d':=s.drawn) (ch:=[]) (λ_ z=>nomatch z) (λb o _ hb _ e n=>u.keep b o e n hb (by simp)) (λb o _ hb _ e n=>u.slot b o e n hb (by simp)) (λb o _ e n=>u.free b o e n (by simp)) (λb o _ e=>u.there b o e (by simp)) u.tups u.frzs u.tbls (λm' hm=>by
  obtain⟨o',es',ep',ho',r'⟩:=hm;rw[ho] at ho';cases ho';exact⟨_,es',ep',hL,r'⟩) hok I.bare
theorem Inv.call {g':Array GenState} {t':Nat} {d':Drawn} {ch:List Addr} (I:Inv X pins σ H s) (u:Un (GN X.stack) ch H H' s.heap h') (hok:Iy X.prog X.w H' h') (hg:AllBare g')
  (hch:∀b∈ch,(b∈X.ex\/X.s₀.heap.objs.size<=b)/\b≠X.env.locals/\(∀x c,X.env.cells.lookup x=some c->c≠b)/\∀p∈X.pn++pins,p.1≠b) :
  Inv X pins σ H' { s with heap:=h',gens:=g',drawn:=d',toks:=t' }:=by
 obtain⟨m,⟨o,es,ep,ho,r⟩,_⟩:=id I.loc;obtain⟨sl,hL⟩:=u.any ho I.free λz=>(hch _ z).2.1 rfl
 exact I.step (ch:=ch) hch (λb o hL hb hc e n=>u.keep b o e n (λz=>(aX.mp (I.stkSub b z)).elim hL hb) hc) (λb o _ _ hc e n=>u.any e n hc) (λb o hc e n=>u.free b o e n hc) (λb o hc e=>u.there b o e hc) u.tups u.frzs u.tbls (λm' hm=>by
  obtain⟨o',es',ep',ho',r'⟩:=hm;rw[ho] at ho';cases ho';exact⟨_,es',ep',hL,r'⟩) hok hg
theorem Inv.turned {t':Nat} {it:Addr} (I:Inv X pins σ H s) (k:∀b o,b≠it->s.heap.get? b=some o->h'.get? b=some o) (hn:H it=none) (hL:it≠X.env.locals)
  (h1:it∈X.ex\/X.s₀.heap.objs.size<=it) (h2:∀x c,X.env.cells.lookup x=some c->c≠it) (h3:∀p∈X.pn++pins,p.1≠it):Inv X pins σ H { s with heap:=h',toks:=t' }:=by
 have nit:∀b u,H b=some u->b≠it:=λb u e z=>by rw[z,hn] at e;cases e
 refine I.step (g':=s.gens) (d':=s.drawn) (ch:=[it]) (λb hb=>?_) (λb o _ _ hc e _=>k b o (λz=>hc (by simp[z])) e) (λb o _ _ hc e _=>⟨o.slots,k b o (λz=>hc (by simp[z])) e⟩) (λ_ _ _ _ n=>n)
  (λb o hc e=>⟨o,k b o (λz=>hc (by simp[z])) e⟩) (λ_ _ e=>e) (λ_ _ _ e=>e) (λb ps e=>⟨#[],by rw[e];simp⟩) (λm hm=>?_) (λb u e=>?_) I.bare
 ·have e:b=it:=by simpa using hb
  subst e;exact⟨h1,hL,h2,h3⟩
 ·obtain⟨o,es,ep,ho,r⟩:=hm;exact⟨o,es,ep,k _ o (Ne.symm hL) ho,r⟩
 ·refine(I.hok b u e).stay (λc v hc q=>k c v ?_ q) (λ_ q=>q) λ_ _ q=>q
  rcases hc with z|z
  ·rw[z];exact nit b u e
  ·exact nit c _ z
theorem Inv.tok (I:Inv X pins σ H s)(t:Nat):Inv X pins σ H { s with toks:=t }:=I.un (h':=s.heap) (t':=t) Un.refl I.hok
theorem Inv.kept {t':Nat}(I:Inv X pins σ H s)(k:∀b u,s.heap.get? b=some u->h'.get? b=some u):Inv X pins σ H { s with heap:=h',toks:=t' }:=I.un (Un.kept k) (I.hok.kept k)
theorem Inv.laid {a:Addr}{o:HO}{t':Nat}(I:Inv X pins σ H s)(k:∀b u,s.heap.get? b=some u->h'.get? b=some u)(hp:s.heap.objs.size<=a)(new:Bn X.prog X.w (upd H a o) h' a o) :
  Inv X pins σ (upd H a o) { s with heap:=h',toks:=t' }:=I.un (Un.laid k hp (I.hok.fresh hp)) (I.hok.laid k hp new)
theorem Inv.write {x e:Addr} {o:HO} {t':Nat} (I:Inv X pins σ H s) (mu:Zs (H x)) (he:e=x\/H e=some (.own x)) (k:∀b u,b≠e->s.heap.get? b=some u->h'.get? b=some u) (heo:∃u,h'.get? e=some u)
  (new:Bn X.prog X.w (upd H x o) h' x o):Inv X pins σ (upd H x o) { s with heap:=h',toks:=t' }:=I.un (Un.write mu he k heo) (I.hok.write mu he k heo new)
theorem Inv.pins_of {pins':List (Addr×Obj)}(I:Inv X pins σ H s)(h:∀p∈pins',s.heap.get? p.1=some p.2/\H p.1=none/\p.1≠X.env.locals/\p.1∉X.fs/\∀v,p.2.data≠.cell v):Inv X pins' σ H s:=
 ⟨I.ok,I.os,I.bare,I.base,I.loc,I.cell,I.free,I.freeC,λp hp=>(bu.mp hp).elim (λz=>I.pin p (bO _ z)) (h p),I.hok,I.len⟩
theorem ND {N:List Str}(hN:N.Nodup){i j:Nat}{x:Str}(a:N[i]?=some x)(b:N[j]?=some x):i=j:=by
 obtain⟨h1,e1⟩:=bh.mp a;obtain⟨h2,e2⟩:=bh.mp b;exact(List.getElem_inj hN).mp (e1.trans e2.symm)
theorem TF {M:Model} {A:Around} {E:Value->Shared->Prop} {i:Nat} {x:Str} {v:V} {u:Value} {Q:Unit->Shared->Prop} (I:Inv X pins σ H s) (hN:X.N.Nodup) (hi:X.N[i]?=some x) (hx:Loc X.env.scope x) (r:RelV v u)
  (h:∀s',Inv X pins (σ.set i (some v)) H s'->(∃a,Heap.SameBut a s.heap s'.heap/\(a=X.env.locals\/X.env.cells.lookup x=some a))->Q () s') (hf:X.fn x=true\/X.env.scope.names.lookup x=some .local:=by first|exact .inl rfl|exact .inr rfl|assumption):wpAny M A (storeName X.env x u) Q E s:=by
 obtain⟨m,hn,hl⟩:=id I.loc;have hcls:(X.env.scope.kind == .class||(X.env.scope.kind == .module&&X.env.locals != X.env.globals))=false:=by rw[I.ok.kind];rfl
 have hiσ:i<σ.length:=by rw[I.len];exact(bh.mp hi).1
 have cne:=I.cne;have tracked:∀{a:Addr} {h':Heap},(∃o,s.heap.get? a=some o/\H a=none)->Heap.SameBut a s.heap h'->Iy X.prog X.w H h':=λ{a h'} ha hs b ob e=>by
  obtain⟨_,_,hfree⟩:=ha;refine(I.hok b ob e).stay (λc w' hc q=>(hs.2 c ?_).trans q) (λ_ q=>q) λ_ _ q=>q
  rintro rfl
  rcases hc with rfl|hc
  ·rw[hfree] at e;cases e
  ·rw[hfree] at hc;cases hc
 rcases hx with hk|hk
 ·refine wpAny_storeName_local hk hn (λh' hn' hs=>?_) hcls;obtain⟨oL,_,_,hoL,_⟩:=id hn;refine h _ ⟨I.ok,I.os,I.bare,⟨λb o e n hb hx=>?_,λb o e n hb hx=>?_,I.base.free,λb o e hx=>?_,I.base.tups,I.base.frzs,I.base.tbls⟩,⟨_,hn',λj y v' e1 e2 e3=>?_⟩,λy c e=>?_,I.free,I.freeC,λp hp=>?_,tracked ⟨oL,hoL,I.free⟩ hs,by simpa using I.len⟩ ⟨_,hs,.inl rfl⟩
  ·exact(hs.2 b (bg (bc (aP e) I.ok.above))).trans (I.base.keep b o e n hb hx)
  ·obtain⟨sl,e1⟩:=I.base.slot b o e n hb hx;exact⟨sl,(hs.2 b (bg (bc (aP e) I.ok.above))).trans e1⟩
  ·obtain⟨o',e1⟩:=I.base.there b o e hx;exact⟨o',(hs.2 b (bg (bc (aP e) I.ok.above))).trans e1⟩
  ·by_cases hj:j=i
   ·subst hj;rw[hi] at e1;cases e1;rw[dY hiσ] at e2;cases e2;exact⟨u,r,.inl ⟨hk,by simp⟩⟩
   ·rw[eG (Ne.symm hj)] at e2;obtain⟨u',r',q⟩:=hl j y v' e1 e2 e3;refine⟨u',r',?_⟩;rcases q with⟨k,e⟩|⟨k,c,e,z⟩
    ·refine .inl ⟨k,?_⟩;have:y≠x:=λe=>hj (ND hN e1 (e▸hi))
     simp[this,e]
    ·exact .inr ⟨k,c,e,z.sameBut hs (cne y c e)⟩
  ·obtain⟨w',z⟩:=I.cell y c e;exact⟨w',z.sameBut hs (cne y c e)⟩
  ·obtain⟨e,n,ne,nf,d⟩:=I.pin p hp;exact⟨(hs.2 p.1 ne).trans e,n,ne,nf,d⟩
 ·have hfn:X.fn x=true:=by
   rcases hf with z|z
   ·exact z
   ·rw[z] at hk;cases hk
  obtain⟨c,hc⟩:=I.ok.has x (.inl hk);obtain⟨w',z⟩:=I.cell x c hc;refine wpAny_storeName_cell I.ok.kind hk hc z (λh' hc' hs=>?_);obtain⟨oc,hoc,hocd⟩:=id z;refine h { s with heap:=h' } ⟨I.ok,I.os,I.bare,⟨λb o e n hb hx=>?_,λb o e n hb hx=>?_,I.base.free,λb o e hx=>?_,I.base.tups,I.base.frzs,I.base.tbls⟩,⟨m,hn.sameBut hs (Ne.symm (cne x c hc)),λj y v' e1 e2 e3=>?_⟩,λy c' e=>?_,I.free,I.freeC,λp hp=>?_,tracked ⟨oc,hoc,I.freeC x c hc⟩ hs,by simpa using I.len⟩ ⟨c,hs,.inr hc⟩
  ·exact(hs.2 b (bg (bc (aP e) (I.ok.cab x c hfn hc)))).trans (I.base.keep b o e n hb hx)
  ·obtain⟨sl,e1⟩:=I.base.slot b o e n hb hx;exact⟨sl,(hs.2 b (bg (bc (aP e) (I.ok.cab x c hfn hc)))).trans e1⟩
  ·obtain⟨o',e1⟩:=I.base.there b o e hx;exact⟨o',(hs.2 b (bg (bc (aP e) (I.ok.cab x c hfn hc)))).trans e1⟩
  ·by_cases hj:j=i
   ·subst hj;rw[hi] at e1;cases e1;rw[dY hiσ] at e2;cases e2;exact⟨u,r,.inr ⟨.inl hk,c,hc,hc'⟩⟩
   ·rw[eG (Ne.symm hj)] at e2;obtain⟨u',r',q⟩:=hl j y v' e1 e2 e3;refine⟨u',r',?_⟩;rcases q with q|⟨k,c',e,z'⟩
    ·exact .inl q
    ·refine .inr ⟨k,c',e,z'.sameBut hs ?_⟩
     rintro rfl
     exact hj (ND hN e1 (I.ok.inj _ _ _ e hc▸hi))
  ·by_cases hcc:c'=c
   ·subst hcc;exact⟨_,hc'⟩
   ·obtain⟨w2,z2⟩:=I.cell y c' e;exact⟨w2,z2.sameBut hs hcc⟩
  ·obtain⟨e,n,ne,nf,d⟩:=I.pin p hp;refine⟨(hs.2 p.1 ?_).trans e,n,ne,nf,d⟩;intro q;rw[q,hoc] at e;have q':oc=p.2:=br e;exact d w' (by rw[<-q'];exact hocd)
theorem HP {M:Model} {A:Around} {E:Value->Shared->Prop} {i:Nat} {x:Str} {v:V} {u:Value} {Q:Unit->Shared->Prop} (I:Inv X pins σ H s) (hN:X.N.Nodup) (hi:X.N[i]?=some x) (hx:Loc X.env.scope x) (r:RelV v u)
  (h:∀s',Inv X pins (σ.set i (some v)) H s'->Q () s') (hf:X.fn x=true\/X.env.scope.names.lookup x=some .local:=by first|exact .inl rfl|exact .inr rfl|assumption):wpAny M A (storeName X.env x u) Q E s:=
 TF I hN hi hx r (λs' I' _=>h s' I') hf
theorem Inv.call' {s':Shared} {ch:List Addr} (I:Inv X pins σ H s) (ho:s'.os=s.os) (u:Un (GN X.stack) ch H H' s.heap s'.heap) (hok:Iy X.prog X.w H' s'.heap) (hg:AllBare s'.gens)
  (hch:∀b∈ch,(b∈X.ex\/X.s₀.heap.objs.size<=b)/\b≠X.env.locals/\(∀x c,X.env.cells.lookup x=some c->c≠b)/\∀p∈X.pn++pins,p.1≠b):Inv X pins σ H' s':=by
 obtain⟨h',g',d',t',o'⟩:=s';have e:o'=s.os:=ho;subst e;exact I.call (g':=g') (t':=t') (d':=d') u hok hg hch
end
abbrev XK:=Value->Option Addr->Hp->Prop
abbrev St:=List (Option V)
abbrev VK:=V->Hp->Prop
abbrev TE:=St->Hp->VK->Prop
abbrev TT:=St->Hp->(Bool->Hp->Prop)->Prop
abbrev TA:=St->Hp->(List V->Hp->Prop)->Prop
structure Ends where
 nx:St->Hp->Prop
 rt:VK
 bk:St->Hp->Prop:=λ_ _=>False
 ct:St->Hp->Prop:=λ_ _=>False
abbrev TS:=Ends->St->Hp->Prop
def EP (X:Cx)(pins:List (Addr×Obj))(σ:St)(Q:VK)(u:Value)(s':Shared):Prop:=∃v H',Inv X pins σ H' s'/\RelV v u/\Q v H'
def TP (X:Cx)(pins:List (Addr×Obj))(σ:St)(Q:Bool->Hp->Prop)(b:Bool)(s':Shared):Prop:=∃H',Inv X pins σ H' s'/\Q b H'
def AP (X:Cx)(pins:List (Addr×Obj))(σ:St)(Q:List V->Hp->Prop)(us:List Value)(s':Shared):Prop:=∃vs H',Inv X pins σ H' s'/\Bd vs us/\Q vs H'
def SP (X:Cx)(pins:List (Addr×Obj))(D:Ends)(f:Flow)(s':Shared):Prop:=
 match f with
 | .next=>∃σ' H',Inv X pins σ' H' s'/\D.nx σ' H'
 | .brk=>∃σ' H',Inv X pins σ' H' s'/\D.bk σ' H'
 | .cont=>∃σ' H',Inv X pins σ' H' s'/\D.ct σ' H'
 | .ret u=>∃v σ' H',Inv X pins σ' H' s'/\RelV v u/\D.rt v H'
def PE (X:Cx)(e:Expr)(t:TE):Prop:=
 ∀(pins:List (Addr×Obj)) (s:Shared) (σ:St) (H:Hp) (Q:VK),Inv X pins σ H s->t σ H Q->wpAny (model X.prog X.w) X.A (eval e X.env) (EP X pins σ Q) X.xe s
def PT (X:Cx)(e:Expr)(t:TT):Prop:=
 ∀(pins:List (Addr×Obj)) (s:Shared) (σ:St) (H:Hp) (Q:Bool->Hp->Prop),Inv X pins σ H s->t σ H Q->wpAny (model X.prog X.w) X.A (isTrue e X.env (eval e X.env)) (TP X pins σ Q) X.xe s
def PW (X:Cx)(e:Expr)(t:TT):Prop:=
 ∀(whole:Sem Value) (pins:List (Addr×Obj)) (s:Shared) (σ:St) (H:Hp) (Q:Bool->Hp->Prop),Inv X pins σ H s->t σ H Q->wpAny (model X.prog X.w) X.A (isTrue e X.env whole) (TP X pins σ Q) X.xe s
theorem PW.pt {X:Cx}{e:Expr}{t:TT}(h:PW X e t):PT X e t:=h _
def PA (X:Cx)(es:List Expr)(t:TA):Prop:=
 ∀(pos:Pos) (pins:List (Addr×Obj)) (s:Shared) (σ:St) (H:Hp) (Q:List V->Hp->Prop),Inv X pins σ H s->t σ H Q->wpAny (model X.prog X.w) X.A (spliced (backTo pos (starEach es X.env))) (AP X pins σ Q) X.xe s
def PS (X:Cx)(st:Stmt)(t:TS):Prop:=
 ∀(pins:List (Addr×Obj)) (s:Shared) (σ:St) (H:Hp) (D:Ends),Inv X pins σ H s->t D σ H->wpAny (model X.prog X.w) X.A (exec st X.env) (SP X pins D) X.xe s
def NG (X:Cx)(st:List Stmt)(t:TS):Prop:=
 ∀(pins:List (Addr×Obj)) (s:Shared) (σ:St) (H:Hp) (D:Ends),Inv X pins σ H s->t D σ H->wpAny (model X.prog X.w) X.A (execs st X.env) (SP X pins D) X.xe s
theorem Cq {α:Type}{t:Sem α}{Q Q':α->Shared->Prop}{M:Model}{A:Around}{E:Value->Shared->Prop}{s:Shared}(h:wpAny M A t Q E s)(hQ:∀a s,Q a s->Q' a s):wpAny M A t Q' E s:=bf h hQ λ_ _ x=>x
section
variable {X:Cx}
theorem bin {a b:Expr} {ta tb:TE} (ha:PE X a ta) (hb:PE X b tb) {pins:List (Addr×Obj)} {s:Shared} {σ:St} {H:Hp} {R:V->V->Hp->Prop} (I:Inv X pins σ H s) (h:ta σ H λx H1=>tb σ H1 λy H2=>R x y H2)
  {α:Type} {Q:α->Shared->Prop} {f:Value->Value->Sem α}
  (hf:∀v u s2 x y H2,Inv X pins σ H2 s2->RelV x v->RelV y u->R x y H2->wpAny (model X.prog X.w) X.A (f v u) Q X.xe s2) :
  wpAny (model X.prog X.w) X.A (eval a X.env) (λv s₁=>wpAny (model X.prog X.w) X.A (eval b X.env) (λu s₂=>wpAny (model X.prog X.w) X.A (f v u) Q X.xe s₂) X.xe s₁) X.xe s:=by
 refine Cq (ha pins s σ H _ I h) λv s1 ⟨x,H1,I1,r1,q1⟩=>?_
 refine Cq (hb pins s1 σ H1 _ I1 q1) λu s2 ⟨y,H2,I2,r2,q2⟩=>?_
 exact hf v u s2 x y H2 I2 r1 r2 q2
def IQ (i:Nat):TE:=λσ H Q=>∃v,σ[i]?=some (some v)/\Q v H
def tC (v:V):TE:=λ_ H Q=>Q v H
theorem XA {i:Nat}{x:Str}{pos:Pos}(hN:X.N[i]?=some x)(hv:ZT X.env.scope x)(hd:(x == ("__debug__":Str))=false:=by decide)(hcd:(x == ("__classdict__":Str))=false:=by decide):PE X (.Name x pos) (IQ i):=by
 intro pins s σ H Q I h;obtain⟨v,e,h⟩:=h;obtain⟨m,hn,hl⟩:=I.loc;obtain⟨u,r,l⟩:=hl i x v hN e hv;have fin:EP X pins σ Q u s:=⟨v,H,I,r,h⟩
 rcases l with⟨hk,hm⟩|⟨hk,c,hc,hcell⟩
 ·exact gx (wpAny_loadName_local I.ok.kind hk hn hm fin) hd
 ·rcases hk with hk|hk
  ·exact gx (wpAny_loadName_cell I.ok.kind hk hc hcell fin) hd
  ·exact gx (wpAny_loadName_free I.ok.kind hk hc hcell fin hcd) hd
theorem Ag {i j pos}:PE X (.Constant (.int i) j pos) (tC (.int i)):=λ_ _ _ H _ I h=>wpAny_Constant_int ⟨.int i,H,I.tok _,⟨_,rfl⟩,h⟩
theorem QZ {b j pos}:PE X (.Constant (.bool b) j pos) (tC (.bl b)):=λ_ _ _ H _ I h=>Constant_bool ⟨.bl b,H,I,rfl,h⟩
theorem Q4 {j pos}:PE X (.Constant .none j pos) (tC .non):=λ_ _ _ H _ I h=>Constant_none ⟨.non,H,I,rfl,h⟩
theorem Az {x j pos}:PE X (.Constant (.str x) j pos) (tC (.str x)):=λ_ _ _ H _ I h=>Calls.Constant_str ⟨.str x,H,I.tok _,⟨_,rfl⟩,h⟩
def Gl (X:Cx)(x:Str):Prop:=X.env.kindOf x=some .globalImplicit
theorem E6 {E:Value->Shared->Prop} {pins:List (Addr×Obj)} {s:Shared} {σ:St} {H:Hp} {x:Str} {u:Value} {pos:Pos} {Q:Value->Shared->Prop} (I:Inv X pins σ H s) (hg:Gl X x) (hm:X.mg x=some u) (h:Q u s)
  (hd:(x == ("__debug__":Str))=false:=by decide):wpAny (model X.prog X.w) X.A (eval (.Name x pos) X.env) Q E s:=
 gB I.ok.kind hg (Calls.loadGlobal_global (by rw[I.ok.glob];exact I.mod.glob.keeps I.bk) hm h) hd
theorem Kz {E:Value->Shared->Prop} {pins:List (Addr×Obj)} {s:Shared} {σ:St} {H:Hp} {x:Str} {u:Value} {pos:Pos} {Q:Value->Shared->Prop} (I:Inv X pins σ H s) (hg:Gl X x) (hm:X.mg x=none) (hv:bootBuiltins x=some u) (h:Q u s)
  (hn:x≠"__name__":=by decide) (hd:(x == ("__debug__":Str))=false:=by decide):wpAny (model X.prog X.w) X.A (eval (.Name x pos) X.env) Q E s:=by
 obtain⟨mb,h1,h2⟩:=I.mod.blt;exact gB I.ok.kind hg (Calls.loadGlobal_builtin (by rw[I.ok.glob];exact I.mod.glob.keeps I.bk) hm (by rw[I.ok.blt];exact h1.keeps I.bk) ((h2 x hn).trans hv) h) hd
theorem OP {x:Str}{v:V}{u:Value}{pos:Pos}(hg:Gl X x)(hm:X.mg x=some u)(r:RelV v u)(hd:(x == ("__debug__":Str))=false:=by decide):PE X (.Name x pos) (tC v):=
 λ_ _ _ H _ I h=>E6 I hg hm ⟨v,H,I,r,h⟩ hd
theorem W1 {x:Str}{v:V}{u:Value}{pos:Pos}(hg:Gl X x)(hm:X.mg x=none)(hv:bootBuiltins x=some u)(r:RelV v u)(hn:x≠"__name__":=by decide)(hd:(x == ("__debug__":Str))=false:=by decide):PE X (.Name x pos) (tC v):=
 λ_ _ _ H _ I h=>Kz I hg hm hv ⟨v,H,I,r,h⟩ hn hd
variable {a b:Expr}{ta tb:TE}{pos:Pos}
def PC (X:Cx)(op:CmpOp)(a b:Expr)(t:TE):Prop:=
 ∀(pins:List (Addr×Obj)) (s:Shared) (σ:St) (H:Hp) (Q:VK),Inv X pins σ H s->t σ H Q->
  wpAny (model X.prog X.w) X.A (eval a X.env) (λv s₁=>wpAny (model X.prog X.w) X.A (eval b X.env) (λu s₂=>wpAny (model X.prog X.w) X.A (compareOp op v u) (EP X pins σ Q) X.xe s₂) X.xe s₁) X.xe s
theorem CP (b:Expr){op:CmpOp}(h:op≠.In)(h2:op≠.NotIn):behindInMarks op b=false:=by
 have e1:(op == CmpOp.In)=false:=by cases op<;>first|rfl|exact absurd rfl h
 have e2:(op == CmpOp.NotIn)=false:=by cases op<;>first|rfl|exact absurd rfl h2
 cases b<;>simp[behindInMarks,e1,e2]
def ZE (ta:TE):TE:=λσ H Q=>ta σ H λx H1=>Q (.bl (decide (x=.non))) H1
def YZ (ta:TE):TE:=λσ H Q=>ta σ H λx H1=>Q (.bl (!decide (x=.non))) H1
theorem RelV.none_iff {x:V}{v:Value}(r:RelV x v):(v == Value.none)=decide (x=.non):=by
 cases x with
 |non=>cases r;rfl
 |bl _=>cases r;rfl
 |int _=>obtain⟨t,rfl⟩:=r;rfl
 |str _=>obtain⟨t,rfl⟩:=r;rfl
 |byt _=>obtain⟨t,rfl⟩:=r;rfl
 |flt _=>obtain⟨t,rfl⟩:=r;rfl
 |ref _=>cases r;rfl
 |ty _=>cases r;rfl
theorem KR {j pos'}(ha:PE X a ta):PC X .Is a (.Constant .none j pos') (ZE ta):=by
 intro pins s σ H Q I h;refine Cq (ha pins s σ H _ I h) λv s1 ⟨x,H1,I1,r1,q1⟩=>?_
 exact Constant_none (is_none_gen ⟨.bl _,H1,I1,by rw[r1.none_iff];rfl,q1⟩)
theorem WR {j pos'}(ha:PE X a ta):PC X .IsNot a (.Constant .none j pos') (YZ ta):=by
 intro pins s σ H Q I h;refine Cq (ha pins s σ H _ I h) λv s1 ⟨x,H1,I1,r1,q1⟩=>?_
 exact Constant_none (isnot_none_gen ⟨.bl _,H1,I1,by rw[r1.none_iff];rfl,q1⟩)
def tB (t:TE):TT:=λσ H Q=>t σ H λx H1=>∃c,x=.bl c/\Q c H1
theorem RZ {op:CmpOp}{t:TE}(h:PC X op a b t)(h1:behindInMarks op b=false:=by first|exact CP _ (by decide) (by decide)|rfl):PE X (.Compare a [op] [b] pos) t:=λpins s σ H Q I hw=>wpAny_Compare1 (h pins s σ H Q I hw) h1
theorem Ir {op:CmpOp}{t:TE}(h:PC X op a b t)(h1:behindInMarks op b=false:=by first|exact CP _ (by decide) (by decide)|rfl):PT X (.Compare a [op] [b] pos) (tB t):=by
 intro pins s σ H Q I hw;refine wpAny_isTrue_Compare1 (Cq (h pins s σ H _ I hw) λv s1 h1=>Cq h1 λu s2 h2=>Cq h2 λc s3 ⟨x,H1,I1,r1,q1⟩=>?_) h1;obtain⟨d,rfl,q⟩:=q1;cases r1;exact cy ⟨H1,I1,q⟩
theorem ER {e:Expr}{t:TE}(h:PE X e t)(he:∀whole,isTrue e X.env whole=(do let v <-whole;standAt e.pos;holding [v] (truthy v)):=by intro _;rfl):PT X e (tB t):=by
 intro pins s σ H Q I hw;refine isTrue_plain (Cq (h pins s σ H _ I hw) λv s1 ⟨x,H1,I1,r1,q1⟩=>?_) (he _);obtain⟨d,rfl,q⟩:=q1;cases r1;exact cy ⟨H1,I1,q⟩
variable {tA tB':TT}{rest:List Expr}
def ZX (t u:TT):TT:=λσ H Q=>t σ H λc H1=>if c=true then u σ H1 Q else Q false H1
def au (t u:TT):TT:=λσ H Q=>t σ H λc H1=>if c=true then Q true H1 else u σ H1 Q
def ZI (t:TT):TT:=λσ H Q=>t σ H λc H1=>Q (!c) H1
theorem SU (ha:PT X a tA):PW X (.BoolOp .And [a] pos) tA:=by
 intro wh pins s σ H Q I h;refine isTrue_and (Cq (ha pins s σ H Q I h) λc s1 e=>?_);cases c with
 |true=>exact isTrue_and_nil e
 |false=>exact e
theorem Jn (ha:PT X a tA):PW X (.BoolOp .Or [a] pos) tA:=by
 intro wh pins s σ H Q I h;refine isTrue_or (Cq (ha pins s σ H Q I h) λc s1 e=>?_);cases c with
 |false=>exact isTrue_or_nil e
 |true=>exact e
theorem VA (ha:PT X a tA)(hb:PW X (.BoolOp .And (b::rest) pos) tB'):PW X (.BoolOp .And (a::b::rest) pos) (ZX tA tB'):=by
 intro wh pins s σ H Q I h;refine isTrue_and (Cq (ha pins s σ H _ I h) λc s1 ⟨H1,I1,q1⟩=>?_);cases c with
 |true=>exact hb wh pins s1 σ H1 Q I1 q1
 |false=>exact⟨H1,I1,q1⟩
theorem LJ (ha:PT X a tA)(hb:PW X (.BoolOp .Or (b::rest) pos) tB'):PW X (.BoolOp .Or (a::b::rest) pos) (au tA tB'):=by
 intro wh pins s σ H Q I h;refine isTrue_or (Cq (ha pins s σ H _ I h) λc s1 ⟨H1,I1,q1⟩=>?_);cases c with
 |true=>exact⟨H1,I1,q1⟩
 |false=>exact hb wh pins s1 σ H1 Q I1 q1
theorem GG (ha:PT X a tA):PT X (.UnaryOp .Not a pos) (ZI tA):=by
 intro pins s σ H Q I h;exact isTrue_not (ha pins s σ H (λc H1=>Q (!c) H1) I h)
def Y7 (ta tb:TE):TE:=λσ H Q=>ta σ H λx H1=>∃c,x=.bl c/\if c=true then tb σ H1 Q else Q (.bl false) H1
def ZR (ta tb:TE):TE:=λσ H Q=>ta σ H λx H1=>∃c,x=.bl c/\if c=true then Q (.bl true) H1 else tb σ H1 Q
theorem Pt {op}{t:TE}(h:PE X a t):PE X (.BoolOp op [a] pos) t:=λpins s σ H Q I hw=>BoolOp_one (h pins s σ H Q I hw)
theorem VB (ha:PE X a ta)(hb:PE X (.BoolOp .And (b::rest) pos) tb):PE X (.BoolOp .And (a::b::rest) pos) (Y7 ta tb):=by
 intro pins s σ H Q I h;refine BoolOp_and (Cq (ha pins s σ H _ I h) λv s1 ⟨x,H1,I1,r1,q1⟩=>?_);obtain⟨c,rfl,q1⟩:=q1;cases r1;refine cy ?_;cases c with
 |true=>exact hb pins s1 σ H1 Q I1 q1
 |false=>exact⟨.bl false,H1,I1,rfl,q1⟩
theorem Xg (ha:PE X a ta)(hb:PE X (.BoolOp .Or (b::rest) pos) tb):PE X (.BoolOp .Or (a::b::rest) pos) (ZR ta tb):=by
 intro pins s σ H Q I h;refine BoolOp_or (Cq (ha pins s σ H _ I h) λv s1 ⟨x,H1,I1,r1,q1⟩=>?_);obtain⟨c,rfl,q1⟩:=q1;cases r1;refine cy ?_;cases c with
 |false=>exact hb pins s1 σ H1 Q I1 q1
 |true=>exact⟨.bl true,H1,I1,rfl,q1⟩
def aq (t:TT)(ta tb:TE):TE:=λσ H Q=>t σ H λc H1=>if c=true then ta σ H1 Q else tb σ H1 Q
theorem Vf {c:Expr}(hc:PT X c tA)(ha:PE X a ta)(hb:PE X b tb):PE X (.IfExp c a b pos) (aq tA ta tb):=by
 intro pins s σ H Q I h;refine wpAny_IfExp (Cq (hc pins s σ H _ I h) λd s1 ⟨H1,I1,q1⟩=>?_);cases d with
 |true=>exact ha pins s1 σ H1 Q I1 q1
 |false=>exact hb pins s1 σ H1 Q I1 q1
end
def A7 (K:PySem.W.Frag)(H:Hp)(a:Addr)(xs:List V):Prop:=
 Rd H a (.lst xs)\/
  ∃(o:Obj) (its:Array Value) (n:Nat),K.lookup a=some o/\o.cls=.type "list"/\o.dict=none/\o.data=.seq its n/\its.size<=sizeLine/\Bd xs its.toList
def AS (K:PySem.W.Frag)(H:Hp)(a:Addr)(xs:List V):Prop:=
 Rd H a (.tup xs)\/
  ∃(o:Obj) (its:Array Value) (n:Nat),K.lookup a=some o/\o.cls=.type "tuple"/\o.data=.seq its n/\its.size<=sizeLine/\Bd xs its.toList
def Zv:Value->Option V
 | .none=>some .non
 | .bool b=>some (.bl b)
 | .int i _=>some (.int i)
 | .str x _=>some (.str x)
 | .bytes b _=>some (.byt b)
 | .float b _=>some (.flt b)
 | .ref a=>some (.ref a)
 | .type n=>some (.ty n)
 |_=>none
theorem RelV.abs {x:V}{u:Value}(r:RelV x u):Zv u=some x:=by
 cases x with
 |non=>cases r;rfl
 |bl _=>cases r;rfl
 |int _=>obtain⟨t,rfl⟩:=r;rfl
 |str _=>obtain⟨t,rfl⟩:=r;rfl
 |byt _=>obtain⟨t,rfl⟩:=r;rfl
 |flt _=>obtain⟨t,rfl⟩:=r;rfl
 |ref _=>cases r;rfl
 |ty _=>cases r;rfl
theorem RelV.inj {x y:V}{u:Value}(r:RelV x u)(q:RelV y u):x=y:=br (r.abs.symm.trans q.abs)
theorem Bd.inj:∀{xs ys:List V} {us:List Value},Bd xs us->Bd ys us->xs=ys
 |_,_,_,.nil,.nil=>rfl
 |_,_,_,.cons r t,.cons r' t'=>by rw[r.inj r',Bd.inj t t']
section
variable {X:Cx}{pins:List (Addr×Obj)}{σ:St}{H:Hp}{s:Shared}{a:Addr}{xs ys:List V}
theorem A7.of {K:PySem.W.Frag}(h:H a=some (.lst xs)):A7 K H a xs:=.inl (.inl h)
theorem AS.of {K:PySem.W.Frag}(h:H a=some (.tup xs)):AS K H a xs:=.inl (.inl h)
theorem Inv.list (I:Inv X pins σ H s)(h:A7 X.K H a xs):∃its:List Value,Bd xs its/\PlainL s.heap a its.toArray/\xs.length<=sizeLine:=by
 rcases h with h|⟨o,its,n,hk,hc,hd,hs,hz,r⟩
 ·obtain⟨z,its,n,r,e⟩:=h.ok I.hok;exact⟨its,r,⟨_,n,e,rfl,rfl,rfl⟩,z⟩
 ·refine⟨its.toList,r,⟨o,n,I.kIn a o hk,hc,hd,by simpa using hs⟩,?_⟩;have e:=r.length;simp only[Array.length_toList] at e;omega
theorem Inv.tuple (I:Inv X pins σ H s)(h:AS X.K H a xs):∃its:List Value,Bd xs its/\IsTup s.heap a its.toArray/\xs.length<=sizeLine:=by
 rcases h with h|⟨o,its,n,hk,hc,hs,hz,r⟩
 ·obtain⟨z,its,r,p⟩:=h.ok I.hok;exact⟨its,r,p.is,z⟩
 ·refine⟨its.toList,r,⟨o,I.kIn a o hk,hc,n,by simpa using hs⟩,?_⟩;have e:=r.length;simp only[Array.length_toList] at e;omega
theorem Inv.list_inj (I:Inv X pins σ H s)(h:A7 X.K H a xs)(h':A7 X.K H a ys):xs=ys:=by
 obtain⟨its,r,⟨o,n,e,_,_,d⟩,_⟩:=I.list h;obtain⟨its',r',⟨o',n',e',_,_,d'⟩,_⟩:=I.list h';rw[e] at e';cases e';rw[d] at d';injection d' with d1 _
 have:its=its':=by simpa using congrArg Array.toList d1
 subst this;exact r.inj r'
theorem Inv.tuple_inj (I:Inv X pins σ H s)(h:AS X.K H a xs)(h':AS X.K H a ys):xs=ys:=by
 obtain⟨its,r,⟨o,e,_,n,d⟩,_⟩:=I.tuple h;obtain⟨its',r',⟨o',e',_,n',d'⟩,_⟩:=I.tuple h';rw[e] at e';cases e';rw[d] at d';injection d' with d1 _
 have:its=its':=by simpa using congrArg Array.toList d1
 subst this;exact r.inj r'
end
abbrev Cx.wish (X:Cx)(E:Value->Shared->Prop):Cx:={ X with xe:=E }
abbrev Cx.nox (X:Cx):Cx:=X.wish λ_ _=>False
theorem Cx.Ok.wish {X:Cx}(ok:X.Ok)(E:Value->Shared->Prop):(X.wish E).Ok:=
 ⟨ok.mod,ok.kind,ok.glob,ok.blt,ok.above,ok.inj,ok.has,ok.cab,ok.hd,ok.frames,ok.stk,ok.exf,ok.bs,ok.bsz,ok.noex,ok.exfs,ok.funs,ok.frf⟩
theorem Cx.Ok.unwish {X:Cx}{E:Value->Shared->Prop}(ok:(X.wish E).Ok):X.Ok:=
 ⟨ok.mod,ok.kind,ok.glob,ok.blt,ok.above,ok.inj,ok.has,ok.cab,ok.hd,ok.frames,ok.stk,ok.exf,ok.bs,ok.bsz,ok.noex,ok.exfs,ok.funs,ok.frf⟩
section
variable {X:Cx}{pins:List (Addr×Obj)}{σ:St}{H:Hp}{s:Shared}{E:Value->Shared->Prop}
theorem Inv.wish (I:Inv X pins σ H s)(E:Value->Shared->Prop):Inv (X.wish E) pins σ H s:=⟨I.ok.wish E,I.os,I.bare,I.base,I.loc,I.cell,I.free,I.freeC,I.pin,I.hok,I.len⟩
theorem Inv.unwish (I:Inv (X.wish E) pins σ H s):Inv X pins σ H s:=⟨I.ok.unwish,I.os,I.bare,I.base,I.loc,I.cell,I.free,I.freeC,I.pin,I.hok,I.len⟩
theorem SP.unwish {D:Ends}{f:Flow}{s':Shared}(h:SP (X.wish E) pins D f s'):SP X pins D f s':=by
 cases f with
 |next=>obtain⟨σ',H',I,q⟩:=h;exact⟨σ',H',I.unwish,q⟩
 |brk=>obtain⟨σ',H',I,q⟩:=h;exact⟨σ',H',I.unwish,q⟩
 |cont=>obtain⟨σ',H',I,q⟩:=h;exact⟨σ',H',I.unwish,q⟩
 |ret u=>obtain⟨v,σ',H',I,r,q⟩:=h;exact⟨v,σ',H',I.unwish,r,q⟩
theorem NG.nox {st:List Stmt}{t:TS}(h:NG X.nox st t):NG X st t:=λpins s σ H D I hw=>
 bf (h pins s σ H D (I.wish _) hw) (λ_ _ q=>q.unwish) λ_ _ z=>False.elim z
end
section
variable {X:Cx}{st:Stmt}{rest:List Stmt}{t u:TS}{e:Expr}{te:TE}{pos:Pos}
def YL:TS:=λD σ H=>D.nx σ H
def X5 (t u:TS):TS:=λD σ H=>t { D with nx:=u D } σ H
theorem AO:NG X [] YL:=λ_ _ σ H _ I h=>eM ⟨σ,H,I,h⟩
theorem Ah (h1:PS X st t)(h2:NG X rest u):NG X (st::rest) (X5 t u):=by
 intro pins s σ H D I h;refine eC (Cq (h1 pins s σ H { D with nx:=u D } I h) λf s1 q=>?_);cases f with
 |next=>
  obtain⟨σ',H',I',q⟩:=q;exact h2 pins s1 σ' H' D I' q
 |ret v=>exact q
 |brk=>exact q
 |cont=>exact q
theorem Ad (h1:PS X st t):NG X [st] t:=by
 intro pins s σ H D I h;refine eC (Cq (h1 pins s σ H D I h) λf s1 q=>?_);cases f with
 |next=>exact eM q
 |ret v=>exact q
 |brk=>exact q
 |cont=>exact q
theorem Inv.quiet {pins:List (Addr×Obj)}{σ:St}{H:Hp}{s:Shared}(I:Inv X pins σ H s):interactive X.env=false:=by simp[interactive,I.ok.kind]
def U4 (te:TE):TS:=λD σ H=>te σ H λ_ H1=>D.nx σ H1
theorem AA (he:PE X e te)(hs:swapsWith e none pos.line X.env=pure false:=by rfl):PS X (.Expr e pos) (U4 te):=by
 intro pins s σ H D I h;exact wpAny_Expr_any (Cq (he pins s σ H _ I h) λv s1 ⟨x,H1,I1,r1,q1⟩=>⟨σ,H1,I1,q1⟩) I.quiet hs
def TN (te:TE):TS:=λD σ H=>te σ H D.rt
theorem AG (he:PE X e te):PS X (.Return (some e) pos) (TN te):=by
 intro pins s σ H D I h;exact wpAny_Return_some (Cq (he pins s σ H _ I h) λv s1 ⟨x,H1,I1,r1,q1⟩=>⟨x,σ,H1,I1,r1,q1⟩)
def Y2 (c:TT)(t u:TS):TS:=λD σ H=>c σ H λb H1=>if b=true then t D σ H1 else u D σ H1
theorem AV {c:Expr}{a b:List Stmt}{tc:TT}(hc:PT X c tc)(ha:NG X a t)(hb:NG X b u):PS X (.If c a b pos) (Y2 tc t u):=by
 intro pins s σ H D I h;refine wpAny_If (Cq (hc pins s σ H _ I h) λd s1 ⟨H1,I1,q1⟩=>?_);cases d with
 |true=>exact ha pins s1 σ H1 D I1 q1
 |false=>exact hb pins s1 σ H1 D I1 q1
def Yg:TS:=λ_ _ _=>False
theorem QW:PS X st Yg:=λ_ _ _ _ _ _ h=>h.elim
end
abbrev TG:=V->St->Hp->(St->Hp->Prop)->Prop
abbrev Xm:=List V->St->Hp->(St->Hp->Prop)->Prop
def PG (X:Cx)(target:Expr)(t:TG):Prop:=
 ∀(pins:List (Addr×Obj)) (s:Shared) (σ:St) (H:Hp) (v:V) (u:Value) (Q:St->Hp->Prop),Inv X pins σ H s->RelV v u->t v σ H Q->
  wpAny (model X.prog X.w) X.A (assign target X.env u) (λ_ s'=>∃σ' H',Inv X pins σ' H' s'/\Q σ' H') X.xe s
def YR (X:Cx)(ts:List Expr)(t:Xm):Prop:=
 ∀(pins:List (Addr×Obj)) (s:Shared) (σ:St) (H:Hp) (vs:List V) (us:List Value) (Q:St->Hp->Prop),Inv X pins σ H s->Bd vs us->t vs σ H Q->
  wpAny (model X.prog X.w) X.A (assignInOrder ((assignEach ts X.env).map (·.2)) us) (λ_ s'=>∃σ' H',Inv X pins σ' H' s'/\Q σ' H') X.xe s
section
variable {X:Cx}{pos:Pos}
def CG (i:Nat):TG:=λv σ H Q=>Q (σ.set i (some v)) H
theorem Be {i:Nat}{x:Str}(hN:X.N.Nodup)(hi:X.N[i]?=some x)(hx:Loc X.env.scope x)(hf:X.fn x=true\/X.env.scope.names.lookup x=some .local:=by first|exact .inl rfl|exact .inr rfl|assumption):PG X (.Name x pos) (CG i):=by
 intro pins s σ H v u Q I r h;exact wpAny_assign_Name (HP I hN hi hx r (λs' I'=>⟨_,H,I',h⟩) hf)
def YE:Xm:=λvs σ H Q=>vs=[]/\Q σ H
def U5 (t:TG)(u:Xm):Xm:=λvs σ H Q=>∃v r,vs=v::r/\t v σ H λσ' H'=>u r σ' H' Q
theorem WL:YR X [] YE:=by
 intro pins s σ H vs us Q I r h;obtain⟨e,h⟩:=h;subst e;cases r;exact assignInOrder_nil ⟨σ,H,I,h⟩
theorem Qg {e:Expr} {es:List Expr} {t:TG} {u:Xm} (h1:PG X e t) (h2:YR X es u)
  (hs:(assignEach (e::es) X.env).map (·.2)=assign e X.env::(assignEach es X.env).map (·.2):=by rfl):YR X (e::es) (U5 t u):=by
 intro pins s σ H vs us Q I r h;obtain⟨v,vr,e1,h⟩:=h;subst e1;cases r with
 |cons r rr=>
  rw[hs];refine assignInOrder_cons (Cq (h1 pins s σ H _ _ _ I r h) λ_ s1 ⟨σ1,H1,I1,q1⟩=>?_);exact h2 pins s1 σ1 H1 _ _ Q I1 rr q1
def XE (K:PySem.W.Frag)(n:Nat)(t:Xm):TG:=λv σ H Q=>∃a xs,v=.ref a/\AS K H a xs/\xs.length=n/\t xs σ H Q
theorem Ye {es:List Expr} {k:Nat} {t:Xm} {n:Nat} (hc:X.calm=true) (h:YR X es t)
  (hn:(assignEach es X.env).length=n:=by rfl) (hst:(assignEach es X.env).findIdx? (·.1)=none:=by rfl):PG X (.Tuple es k pos) (XE X.K n t):=by
 intro pins s σ H v u Q I r hw;obtain⟨a,xs,e1,hq,hl,hw⟩:=hw;subst e1;cases r;obtain⟨its,rv,ht,hz⟩:=I.tuple hq;refine assign_Tuple_tuple (I.ok.hd hc) ht (by simp[hn,<-hl,rv.length]) hst λh' hx=>?_
 have I1:Inv X pins σ H { s with heap:=h' }:=I.kept (t':=s.toks) λb o e=>hx b o (bg (aP e)) e
 exact h pins _ σ H xs _ Q I1 (by simpa using rv) hw
def Wu (te:TE)(g:TG):TS:=λD σ H=>te σ H λx H1=>g x σ H1 D.nx
theorem AK {i:Nat}{x:Str}{e:Expr}{te:TE}{pos':Pos}(hN:X.N.Nodup)(hi:X.N[i]?=some x)(hx:Loc X.env.scope x)(he:PE X e te)(hs:swapsWith e (some (.Name x pos')) pos.line X.env=pure false:=by rfl)(hf:X.fn x=true\/X.env.scope.names.lookup x=some .local:=by first|exact .inl rfl|exact .inr rfl|assumption) :
  PS X (.Assign [.Name x pos'] e pos) (Wu te (CG i)):=by
 intro pins s σ H D I h;refine wpAny_Assign_Name (Cq (he pins s σ H _ I h) λv s1 ⟨y,H1,I1,r1,q1⟩=>?_) hs;exact HP I1 hN hi hx r1 (λs2 I2=>⟨_,H1,I2,q1⟩) hf
end
structure It where
 go:Nat->Hp->Prop
 yld:Nat->Hp->V->Hp->Prop
 stop:Nat->Hp->Prop
def NJ (X:Cx)(pins:List (Addr×Obj))(H:Hp)(b:Addr):Prop:=
 H b=none/\b≠X.env.locals/\b∉X.fs/\(b∈X.ex\/X.s₀.heap.objs.size<=b)/\(∀x c,X.env.cells.lookup x=some c->c≠b)/\∀p∈X.pn++pins,p.1≠b
theorem Inv.fpOk {X:Cx}{pins:List (Addr×Obj)}{σ:St}{H H':Hp}{s:Shared}{b:Addr}(I:Inv X pins σ H s)(hb:s.heap.objs.size<=b)(hn:H' b=none):NJ X pins H' b:=by
 refine⟨hn,cK (bc I.lt hb),I.nofs hb,.inr (bj I.sz hb),λx c e z=>?_,λp hp z=>?_⟩
 ·obtain⟨v,q⟩:=I.cell x c e;exact absurd (bc q.lt (by rw[z];exact hb)) (cG _)
 ·exact absurd (bc (aP (I.pin p hp).1) (by rw[z];exact hb)) (cG _)
structure Turn (P:Program) (w:World) (K:PySem.W.Frag) (tg:Expr) (J:It) (fp:List Addr) (it:Addr) (tn:Nat->Heap->Prop):Prop where
 mem:it∈fp
 obj:∀i h,tn i h->∀b∈fp,∃o,h.get? b=some o/\∀v,o.data≠.cell v
 keep:∀i h h',tn i h->(∀b∈fp,∀o,h.get? b=some o->h'.get? b=some o)->tn i h'
 item:∀(X:Cx),X.prog=P->X.w=w->X.K=K->X.calm=true->∀(i:Nat) (pins:List (Addr×Obj)) (s:Shared) (σ:St) (H:Hp) (E:Value->Shared->Prop),Inv X pins σ H s->(∀b∈fp,NJ X pins H b)->tn i s.heap->J.go i H->
  wpAny (model P w) X.A (pyNext (.ref it)) (λr s1=>∃u,r=some u/\
   wpAny (model P w) X.A (letOwnedTupleGo tg (.ref it) u) (λ_ s2=>∃x H',Inv X pins σ H' s2/\RelV x u/\J.yld i H x H'/\tn (i+1) s2.heap/\∀b∈fp,H' b=none) E s1) E s
 done:∀(X:Cx),X.prog=P->X.w=w->X.K=K->X.calm=true->∀(i:Nat) (pins:List (Addr×Obj)) (s:Shared) (σ:St) (H:Hp) (E:Value->Shared->Prop),Inv X pins σ H s->(∀b∈fp,NJ X pins H b)->tn i s.heap->J.stop i H->
  wpAny (model P w) X.A (pyNext (.ref it)) (λr s1=>r=none/\Inv X pins σ H s1) E s
 self:∀(A:Around) (i:Nat) (s:Shared) (Q:Value->Shared->Prop) (E:Value->Shared->Prop),tn i s.heap->Q (.ref it) s->wpAny (model P w) A (pyIter (.ref it)) Q E s
abbrev TI:=St->Hp->(It->Hp->Prop)->Prop
def aa (X:Cx)(pins:List (Addr×Obj))(σ:St)(tg:Expr)(R:It->Hp->Prop)(itv:Value)(s2:Shared):Prop:=
 ∃(it:Addr) (fp:List Addr) (tn:Nat->Heap->Prop) (J:It) (H':Hp),itv=.ref it/\Inv X pins σ H' s2/\Turn X.prog X.w X.K tg J fp it tn/\tn 0 s2.heap/\(∀b∈fp,NJ X pins H' b)/\R J H'
def PI (X:Cx)(tg iter:Expr)(wi:TI):Prop:=
 ∀(pins:List (Addr×Obj)) (s:Shared) (σ:St) (H:Hp) (R:It->Hp->Prop),Inv X pins σ H s->wi σ H R->
  wpAny (model X.prog X.w) X.A (eval iter X.env) (λv s1=>wpAny (model X.prog X.w) X.A (pyIter v) (aa X pins σ tg R) X.xe s1) X.xe s
theorem MR {M:Model} {A:Around} {E:Value->Shared->Prop} {s:Shared} {tg:Expr} {it:Addr} {u:Value} {o:Obj} {n:String} {vs:Array Value} {Q:Unit->Shared->Prop} (ho:s.heap.get? it=some o) (hc:o.cls=.type n) (hd:o.data=.fields vs)
  (hn:["enumerate","zip","dict_itemiterator","dict_reverseitemiterator","odict_iterator","itertools.zip_longest","itertools.pairwise"].contains n=false) (hQ:Q () s):wpAny M A (letOwnedTupleGo tg (.ref it) u) Q E s:=by
 unfold letOwnedTupleGo;cases tg<;>first
  |exact aH hQ
  |(cases u<;>first
    |exact aH hQ
    |(refine ay (gw ho ?_)
      rw[hc,hd];show wpAny M A (if(["enumerate","zip","dict_itemiterator","dict_reverseitemiterator","odict_iterator","itertools.zip_longest","itertools.pairwise"].contains n&&vs[0]? == some (rawInt _))=true then _ else _) Q E s;rw[aF (by intro h;rw[hn,Bool.false_and] at h;cases h)];exact aH hQ))
def YA (K:PySem.W.Frag)(a:Addr):It:=
 ⟨λi H=>∃xs x,A7 K H a xs/\xs[i]?=some x,λi H x H'=>H'=H/\∀xs,A7 K H a xs->xs[i]?=some x,λi H=>∃xs,A7 K H a xs/\xs.length<=i⟩
def Yz (K:PySem.W.Frag)(a:Addr):It:=
 ⟨λi H=>∃xs x,AS K H a xs/\xs[i]?=some x,λi H x H'=>H'=H/\∀xs,AS K H a xs->xs[i]?=some x,λi H=>∃xs,AS K H a xs/\xs.length<=i⟩
def Yn (lo:Int)(n:Nat):It:=⟨λi _=>i<n,λi H x H'=>H'=H/\x=.int (lo+i),λi _=>n<=i⟩
theorem Tz {P:Program}{w:World}{K:PySem.W.Frag}{tg:Expr}(a it:Addr):Turn P w K tg (YA K a) [it] it (λi h=>h.IsListIter it a i) where
 mem:=by simp
 obj:=λi h st b hb=>by
  have e:b=it:=by simpa using hb
  subst e;obtain⟨o,e,c,d⟩:=st;exact⟨o,e,λv z=>by rw[d] at z;cases z⟩
 keep:=λi h h' st k=>st.at λo e=>k it (by simp) o e
 item:=by
  intro X hP hw hK hc i pins s σ H E I hf st hg;subst hP hw hK;obtain⟨xs,x,hq,hx⟩:=hg;obtain⟨its,rv,p,hz⟩:=I.list hq;obtain⟨u,hu,ru⟩:=rv.get hx;obtain⟨f0,f1,f2,f3,f4,f5⟩:=hf it (by simp);refine wpAny_pyNext_list_item st p.isList (x:=u) (by simpa using hu) λh' st' sb=>?_
  have I1:Inv X pins σ H { s with heap:=h' }:=I.turned (t':=s.toks) (λb o hb e=>(sb.2 b hb).trans e) f0 f1 f3 f4 f5;obtain⟨o,e,c,d⟩:=id st';exact⟨u,rfl,MR (s:={ s with heap:=h' }) e c d (by decide) ⟨x,H,I1,ru,⟨rfl,λys hy=>by rw[I.list_inj hy hq];exact hx⟩,st',λb hb=>(hf b hb).1⟩⟩
 done:=by
  intro X hP hw hK hc i pins s σ H E I hf st hg;subst hP hw hK;obtain⟨xs,hq,hx⟩:=hg;obtain⟨its,rv,p,hz⟩:=I.list hq;obtain⟨f0,f1,f2,f3,f4,f5⟩:=hf it (by simp);have hl:=rv.length;exact wpAny_pyNext_list_end (I.ok.hd hc) st p.isList (by simp;omega) λh' eb=>⟨rfl,I.turned (t':=s.toks) (λb o hb e=>eb b o hb e) f0 f1 f3 f4 f5⟩
 self:=λ_ _ _ _ _ st h=>wpAny_pyIter_listiter st h
theorem RL {P:Program}{w:World}{K:PySem.W.Frag}{tg:Expr}(a it:Addr):Turn P w K tg (Yz K a) [it] it (λi h=>h.IsTupleIter it a i) where
 mem:=by simp
 obj:=λi h st b hb=>by
  have e:b=it:=by simpa using hb
  subst e;obtain⟨o,e,c,d⟩:=st;exact⟨o,e,λv z=>by rw[d] at z;cases z⟩
 keep:=λi h h' st k=>st.at λo e=>k it (by simp) o e
 item:=by
  intro X hP hw hK hc i pins s σ H E I hf st hg;subst hP hw hK;obtain⟨xs,x,hq,hx⟩:=hg;obtain⟨its,rv,p,hz⟩:=I.tuple hq;obtain⟨u,hu,ru⟩:=rv.get hx;obtain⟨f0,f1,f2,f3,f4,f5⟩:=hf it (by simp);refine wpAny_pyNext_tuple_item st (show s.heap.IsTuple a its.toArray from p) (x:=u) (by simpa using hu) λh' st' sb=>?_
  have I1:Inv X pins σ H { s with heap:=h' }:=I.turned (t':=s.toks) (λb o hb e=>(sb.2 b hb).trans e) f0 f1 f3 f4 f5;obtain⟨o,e,c,d⟩:=id st';exact⟨u,rfl,MR (s:={ s with heap:=h' }) e c d (by decide) ⟨x,H,I1,ru,⟨rfl,λys hy=>by rw[I.tuple_inj hy hq];exact hx⟩,st',λb hb=>(hf b hb).1⟩⟩
 done:=by
  intro X hP hw hK hc i pins s σ H E I hf st hg;subst hP hw hK;obtain⟨xs,hq,hx⟩:=hg;obtain⟨its,rv,p,hz⟩:=I.tuple hq;obtain⟨f0,f1,f2,f3,f4,f5⟩:=hf it (by simp);have hl:=rv.length;exact wpAny_pyNext_tuple_end (I.ok.hd hc) st (show s.heap.IsTuple a its.toArray from p) (by simp;omega) λh' eb=>⟨rfl,I.turned (t':=s.toks) (λb o hb e=>eb b o hb e) f0 f1 f3 f4 f5⟩
 self:=λ_ _ _ _ _ st h=>wpAny_pyIter_tupleiter st h
theorem RO {P:Program}{w:World}{K:PySem.W.Frag}{tg:Expr}(it:Addr)(lo:Int)(n:Nat):Turn P w K tg (Yn lo n) [it] it (λi h=>IsRangeIter h it (lo+(i:Nat)*1) ((n:Int)-(i:Nat)) 1) where
 mem:=by simp
 obj:=λi h st b hb=>by
  have e:b=it:=by simpa using hb
  subst e;exact⟨_,st,λv z=>by
   have z':Data.fields _=Data.cell v:=z;cases z'⟩
 keep:=λi h h' st k=>k it (by simp) _ st
 item:=by
  intro X hP hw hK hc i pins s σ H E I hf st hg;subst hP hw hK;obtain⟨f0,f1,f2,f3,f4,f5⟩:=hf it (by simp);have W:=Walks.range (prog:=X.prog) (w:=X.w) (I.ok.hd hc) it lo 1 n;refine W.item i s _ _ hg st λv h' tk hv st' kk=>?_
  obtain⟨t,rfl⟩:=hv;have I1:Inv X pins σ H { s with heap:=h',toks:=tk }:=I.turned (λb o hb e=>kk b o (by simpa using hb) e) f0 f1 f3 f4 f5;refine⟨_,rfl,MR (s:={ s with heap:=h',toks:=tk }) (n:="range_iterator") st' rfl rfl (by decide) ⟨.int (lo+i),H,I1,⟨t,?_⟩,⟨rfl,rfl⟩,st',λb hb=>(hf b hb).1⟩⟩;rw[Int.mul_one]
 done:=by
  intro X hP hw hK hc i pins s σ H E I hf st hg;subst hP hw hK;obtain⟨f0,f1,f2,f3,f4,f5⟩:=hf it (by simp);exact wpAny_pyNext_range_end (I.ok.hd hc) st (by have:n<=i:=hg;omega) λh' eb=>⟨rfl,I.turned (t':=s.toks) (λb o hb e=>eb b o hb e) f0 f1 f3 f4 f5⟩
 self:=λ_ _ _ _ _ st h=>wpAny_pyIter_rangeiter st h
section
variable {X:Cx}{tg:Expr}
def Zd (K:PySem.W.Frag)(tl:TE):TI:=λσ H R=>tl σ H λx H1=>∃a,x=.ref a/\(∃xs,A7 K H1 a xs)/\R (YA K a) H1
def Z3 (K:PySem.W.Frag)(tl:TE):TI:=λσ H R=>tl σ H λx H1=>∃a,x=.ref a/\(∃xs,AS K H1 a xs)/\R (Yz K a) H1
theorem DV {l:Expr}{tl:TE}(hl:PE X l tl):PI X tg l (Zd X.K tl):=by
 intro pins s σ H R I h;refine Cq (hl pins s σ H _ I h) λv s1 ⟨x,H1,I1,r1,q1⟩=>?_
 obtain⟨a,e,⟨xs,hq⟩,q⟩:=q1;subst e;cases r1;obtain⟨its,rv,p,hz⟩:=I1.list hq;refine dZ p.isList ?_;refine⟨s1.heap.objs.size,[s1.heap.objs.size],_,_,H1,rfl,I1.kept (t':=s1.toks) λb o e=>az _ e,Tz a _,⟨_,aN _ rfl,rfl,rfl⟩,λb hb=>?_,q⟩;have e:b=s1.heap.objs.size:=by simpa using hb
 subst e;exact I1.fpOk (aD _) (I1.hok.fresh (aD _))
theorem Mz {l:Expr}{tl:TE}(hl:PE X l tl):PI X tg l (Z3 X.K tl):=by
 intro pins s σ H R I h;refine Cq (hl pins s σ H _ I h) λv s1 ⟨x,H1,I1,r1,q1⟩=>?_
 obtain⟨a,e,⟨xs,hq⟩,q⟩:=q1;subst e;cases r1;obtain⟨its,rv,p,hz⟩:=I1.tuple hq;refine wpAny_pyIter_tuple (show s1.heap.IsTuple a its.toArray from p) ?_;refine⟨s1.heap.objs.size,[s1.heap.objs.size],_,_,H1,rfl,I1.kept (t':=s1.toks) λb o e=>az _ e,RL a _,⟨_,aN _ rfl,rfl,rfl⟩,λb hb=>?_,q⟩;have e:b=s1.heap.objs.size:=by simpa using hb
 subst e;exact I1.fpOk (aD _) (I1.hok.fresh (aD _))
theorem Vt {pins:List (Addr×Obj)} {σ:St} {H:Hp} {s:Shared} {R:It->Hp->Prop} {E:Value->Shared->Prop} {lo hi:Int} {t u v:Tok} {tk:Nat} (I:Inv X pins σ H s) (h1:-(2^62)<=lo) (h2:lo<2^62) (h3:-(2^62)<=hi) (h4:hi<2^62)
  (q:R (Yn lo (hi-lo).toNat) H):wpAny (model X.prog X.w) X.A (pyIter (.ref s.heap.objs.size)) (aa X pins σ tg R) E { s with heap:=s.heap.push { cls:=.type "range",data:=.fields #[.int lo t,.int hi u,.int 1 v] },toks:=tk }:=by
 refine wpAny_pyIter_range (IsRange.new ..) (small_one h1 h2 h3 h4) ?_;have I1:Inv X pins σ H { s with heap:=s.heap.push { cls:=.type "range",data:=.fields #[.int lo t,.int hi u,.int 1 v] },toks:=tk }:=I.kept λb o e=>az _ e
 refine⟨(s.heap.push { cls:=.type "range",data:=.fields #[.int lo t,.int hi u,.int 1 v] }).objs.size,[(s.heap.push { cls:=.type "range",data:=.fields #[.int lo t,.int hi u,.int 1 v] }).objs.size],_,_,H,rfl,
  I1.kept (t':=tk) λb o e=>az _ e,RO _ lo (hi-lo).toNat,?_,λb hb=>?_,q⟩
 ·have e1:lo+((0:Nat):Int)*1=lo:=by simp
  have e2:(((hi-lo).toNat:Nat):Int)-((0:Nat):Int)=Builtin.Range.rangeSize lo hi 1:=by rw[rangeSize_one];split<;>omega
  show IsRangeIter _ _ (lo+((0:Nat):Int)*1) ((((hi-lo).toNat:Nat):Int)-((0:Nat):Int)) 1;rw[e1,e2];exact aN _ rfl
 ·have e:b=(s.heap.push { cls:=.type "range",data:=.fields #[.int lo t,.int hi u,.int 1 v] }).objs.size:=by simpa using hb
  subst e;exact I1.fpOk (aD _) (I1.hok.fresh (aD _))
def Zb (ta:TA):TI:=λσ H R=>ta σ H λvs H1=>∃j:Int,vs=[.int j]/\-(2^62)<=j/\j<2^62/\R (Yn 0 j.toNat) H1
theorem Ly {a:Expr}{ta:TA}{p pos:Pos}(hg:Gl X "range")(hm:X.mg "range"=none)(ha:PA X [a] ta)(hs:starEach [a] X.env=[(false,eval a X.env)]:=by rfl):PI X tg (.Call (.Name "range" p) [a] [] pos) (Zb ta):=by
 intro pins s σ H R I h;refine Call_ (Kz I hg hm boot_range (fG (Cq (ha pos pins s σ H _ I h) λus s1 ⟨vs,H1,I1,r1,q1⟩=>?_) hs rfl));obtain⟨j,e,q1,q2,q⟩:=q1;subst e;cases r1 with
 |cons r rr=>
  cases rr;obtain⟨t,rfl⟩:=r;exact call_range_1 (Vt I1 (by omega) (by omega) q1 q2 (by simpa using q))
def Zw (wi:TI)(g:TG)(tb:TS):TS:=λD σ H=>wi σ H λJ H1=>∃W:Nat->Nat->St->Hp->Prop,(∃m,W 0 m σ H1)/\∀i m σ H,W i m σ H->
 (J.stop i H/\D.nx σ H)\/(J.go i H/\∃N:St->Hp->Prop,(∀σ' H',N σ' H'->∃m',m'<m/\W (i+1) m' σ' H')/\∀x H',J.yld i H x H'->g x σ H' λσ2 H2=>tb { D with nx:=N,ct:=N,bk:=D.nx } σ2 H2)
def Mu (fp:List Addr)(h:Heap):List (Addr×Obj):=fp.filterMap λb=>(h.get? b).map λo=>(b,o)
theorem Hl {fp:List Addr}{h:Heap}{b:Addr}{o:Obj}(hb:b∈fp)(e:h.get? b=some o):(b,o)∈Mu fp h:=dz.mpr ⟨b,hb,by rw[e];rfl⟩
theorem SZ {fp:List Addr}{h:Heap}{p:Addr×Obj}(hp:p∈Mu fp h):p.1∈fp/\h.get? p.1=some p.2:=by
 obtain⟨b,hb,e⟩:=dz.mp hp;cases q:h.get? b with
 |none=>rw[q] at e;cases e
 |some o=>
  rw[q] at e;have e':(b,o)=p:=br e;subst e';exact⟨hb,q⟩
theorem Inv.pinned {pins:List (Addr×Obj)}{σ:St}{H:Hp}{s:Shared}{fp:List Addr}(I:Inv X pins σ H s)(hf:∀b∈fp,NJ X pins H b)(ho:∀b∈fp,∃o,s.heap.get? b=some o/\∀v,o.data≠.cell v):Inv X (pins++Mu fp s.heap) σ H s:=
 I.pins_of λp hp=>(bu.mp hp).elim (λz=>I.pin p (aV _ z)) λz=>by
  obtain⟨hb,e⟩:=SZ z;obtain⟨f0,f1,f2,_⟩:=hf p.1 hb;obtain⟨o,e',d⟩:=ho p.1 hb;rw[e] at e';cases e';exact⟨e,f0,f1,f2,d⟩
theorem Inv.unpinned {pins pl:List (Addr×Obj)}{σ:St}{H:Hp}{s:Shared}(I:Inv X (pins++pl) σ H s):Inv X pins σ H s:=I.pins_of λp hp=>I.pin p (aV _ (bO _ hp))
theorem HA {iter:Expr} {body:List Stmt} {wi:TI} {g:TG} {tb:TS} {pos:Pos} (hp:PassesOwn (model X.prog X.w) X.A X.env X.xe) (hc:X.calm=true) (hi:PI X tg iter wi) (hg:PG X tg g) (hb:NG X body tb)
  (hs:∀x,foldedSetIterable iter X.env x=pure x:=by intro _;rfl):PS X (.For tg iter body [] pos) (Zw wi g tb):=by
 intro pins s σ H D I h;refine wpAny_For (Cq (hi pins s σ H _ I h) λv s1 h1=>Cq h1 λitv s2 h2=>?_) hs;obtain⟨it,fp,tn,J,H2,e,I2,T,st2,f2,W,⟨m0,w0⟩,turn⟩:=h2;subst e;have stat:∀{H':Hp},(∀b∈fp,H' b=none)->∀b∈fp,NJ X pins H' b:=λhn b hb=>⟨hn b hb,(f2 b hb).2⟩
 refine codeAny_forLoop_any (λn s'=>∃i σ' H',Inv X pins σ' H' s'/\tn i s'.heap/\(∀b∈fp,H' b=none)/\W i n σ' H') ?_ m0 ⟨0,σ,H2,I2,st2,λb hb=>(f2 b hb).1,w0⟩
 rintro n s3 ⟨i,σ3,H3,I3,st3,fr3,w3⟩
 rcases turn i n σ3 H3 w3 with⟨stop,qn⟩|⟨go,N,hN,step⟩
 ·refine dA hp (Cq (T.done X rfl rfl rfl hc i pins s3 σ3 H3 X.xe I3 (stat fr3) st3 stop) λr s4 ⟨hr,I4⟩=>?_);subst hr;exact eM ⟨σ3,H3,I4,qn⟩
 ·refine dA hp (Cq (T.item X rfl rfl rfl hc i pins s3 σ3 H3 X.xe I3 (stat fr3) st3 go) λr s4 ⟨u,hr,h4⟩=>?_);subst hr;refine dA hp (Cq h4 λ_ s5 z9=>?_);obtain⟨x,H5,I5,r5,y5,st5,fr5⟩:=z9;have I5':=I5.pinned (stat fr5) (T.obj _ _ st5);refine dA hp (Cq (hg _ s5 σ3 H5 x u _ I5' r5 (step x H5 y5)) λ_ s6 ⟨σ6,H6,I6,q6⟩=>?_);refine dA hp (Cq (hb _ s6 σ6 H6 _ I6 q6) λf s7 q7=>?_);have again:∀{σ7:St} {H7:Hp},Inv X (pins++Mu fp s5.heap) σ7 H7 s7->N σ7 H7->∃m,m<n/\∃i σ' H',Inv X pins σ' H' s7/\tn i s7.heap/\(∀b∈fp,H' b=none)/\W i m σ' H':=λ{σ7 H7} I7 n7=>by
   obtain⟨m',hm,w7⟩:=hN σ7 H7 n7;refine⟨m',hm,i+1,σ7,H7,I7.unpinned,T.keep _ _ _ st5 λb hb o e=>(I7.pin (b,o) (aV _ (aV _ (Hl hb e)))).1,λb hb=>?_,w7⟩;obtain⟨o,e,d⟩:=T.obj _ _ st5 b hb;exact(I7.pin (b,o) (aV _ (aV _ (Hl hb e)))).2.1
  cases f with
  |next=>obtain⟨σ7,H7,I7,n7⟩:=q7;exact again I7 n7
  |cont=>obtain⟨σ7,H7,I7,n7⟩:=q7;exact again I7 n7
  |brk=>obtain⟨σ7,H7,I7,q7⟩:=q7;exact⟨σ7,H7,I7.unpinned,q7⟩
  |ret v=>obtain⟨x7,σ7,H7,I7,r7,q7⟩:=q7;exact⟨x7,σ7,H7,I7.unpinned,r7,q7⟩
end
theorem HV {K:PySem.W.Frag} {a:Addr} {xs:List V} {g:TG} {tb:TS} {D:Ends} {σ:St} {H:Hp} (Pv:Nat->St->Hp->Prop) (h0:Pv 0 σ H) (hl:∀i σ H,i<=xs.length->Pv i σ H->A7 K H a xs)
  (hs:∀i x σ H,xs[i]?=some x->Pv i σ H->g x σ H λσ2 H2=>tb { D with nx:=Pv (i+1),ct:=Pv (i+1),bk:=D.nx } σ2 H2) (hd:∀σ H,Pv xs.length σ H->D.nx σ H) :
  ∃W:Nat->Nat->St->Hp->Prop,(∃m,W 0 m σ H)/\∀i m σ H,W i m σ H->
   ((YA K a).stop i H/\D.nx σ H)\/((YA K a).go i H/\∃N:St->Hp->Prop,(∀σ' H',N σ' H'->∃m',m'<m/\W (i+1) m' σ' H')/\∀x H',(YA K a).yld i H x H'->g x σ H' λσ2 H2=>tb { D with nx:=N,ct:=N,bk:=D.nx } σ2 H2):=by
 refine⟨λi m σ H=>m=xs.length-i/\i<=xs.length/\Pv i σ H,⟨xs.length,by simp,bC _,h0⟩,?_⟩
 rintro i m σ H ⟨rfl,hi,p⟩
 have q:=hl i σ H hi p
 by_cases hlt:i<xs.length
 ·refine .inr ⟨⟨xs,xs[i],q,by simp[hlt]⟩,Pv (i+1),λσ' H' p'=>⟨xs.length-(i+1),by omega,rfl,hlt,p'⟩,λx H' y=>?_⟩;obtain⟨e,y⟩:=y;subst e;exact hs i x σ _ (y xs q) p
 ·have e:i=xs.length:=by omega
  subst e;exact .inl ⟨⟨xs,q,aD _⟩,hd σ H p⟩
theorem WQ {K:PySem.W.Frag} {a:Addr} {xs:List V} {g:TG} {tb:TS} {D:Ends} {σ:St} {H:Hp} (Pv:Nat->St->Hp->Prop) (h0:Pv 0 σ H) (hl:∀i σ H,i<=xs.length->Pv i σ H->AS K H a xs)
  (hs:∀i x σ H,xs[i]?=some x->Pv i σ H->g x σ H λσ2 H2=>tb { D with nx:=Pv (i+1),ct:=Pv (i+1),bk:=D.nx } σ2 H2) (hd:∀σ H,Pv xs.length σ H->D.nx σ H) :
  ∃W:Nat->Nat->St->Hp->Prop,(∃m,W 0 m σ H)/\∀i m σ H,W i m σ H->
   ((Yz K a).stop i H/\D.nx σ H)\/((Yz K a).go i H/\∃N:St->Hp->Prop,(∀σ' H',N σ' H'->∃m',m'<m/\W (i+1) m' σ' H')/\∀x H',(Yz K a).yld i H x H'->g x σ H' λσ2 H2=>tb { D with nx:=N,ct:=N,bk:=D.nx } σ2 H2):=by
 refine⟨λi m σ H=>m=xs.length-i/\i<=xs.length/\Pv i σ H,⟨xs.length,by simp,bC _,h0⟩,?_⟩
 rintro i m σ H ⟨rfl,hi,p⟩
 have q:=hl i σ H hi p
 by_cases hlt:i<xs.length
 ·refine .inr ⟨⟨xs,xs[i],q,by simp[hlt]⟩,Pv (i+1),λσ' H' p'=>⟨xs.length-(i+1),by omega,rfl,hlt,p'⟩,λx H' y=>?_⟩;obtain⟨e,y⟩:=y;subst e;exact hs i x σ _ (y xs q) p
 ·have e:i=xs.length:=by omega
  subst e;exact .inl ⟨⟨xs,q,aD _⟩,hd σ H p⟩
theorem OE {lo:Int} {n:Nat} {g:TG} {tb:TS} {D:Ends} {σ:St} {H:Hp} (Pv:Nat->St->Hp->Prop) (h0:Pv 0 σ H)
  (hs:∀i σ H,i<n->Pv i σ H->g (.int (lo+i)) σ H λσ2 H2=>tb { D with nx:=Pv (i+1),ct:=Pv (i+1),bk:=D.nx } σ2 H2) (hd:∀σ H,Pv n σ H->D.nx σ H) :
  ∃W:Nat->Nat->St->Hp->Prop,(∃m,W 0 m σ H)/\∀i m σ H,W i m σ H->
   ((Yn lo n).stop i H/\D.nx σ H)\/((Yn lo n).go i H/\∃N:St->Hp->Prop,(∀σ' H',N σ' H'->∃m',m'<m/\W (i+1) m' σ' H')/\∀x H',(Yn lo n).yld i H x H'->g x σ H' λσ2 H2=>tb { D with nx:=N,ct:=N,bk:=D.nx } σ2 H2):=by
 refine⟨λi m σ H=>m=n-i/\i<=n/\Pv i σ H,⟨n,by simp,bC _,h0⟩,?_⟩
 rintro i m σ H ⟨rfl,hi,p⟩
 by_cases hlt:i<n
 ·refine .inr ⟨hlt,Pv (i+1),λσ' H' p'=>⟨n-(i+1),by omega,rfl,hlt,p'⟩,λx H' y=>?_⟩;obtain⟨e,y⟩:=y;subst e y;exact hs i σ _ hlt p
 ·have e:i=n:=by omega
  subst e;exact .inl ⟨aD _,hd σ H p⟩
abbrev R2:=V->V->Hp->VK->Prop
def JS (X:Cx)(f:Value->Value->Sem Value)(r:R2):Prop:=
 ∀(pins:List (Addr×Obj)) (s:Shared) (σ:St) (H:Hp) (x y:V) (v u:Value) (Q:VK),Inv X pins σ H s->RelV x v->RelV y u->r x y H Q->
  wpAny (model X.prog X.w) X.A (f v u) (EP X pins σ Q) X.xe s
def Z1 (X:Cx)(f:Value->Sem Value)(r:V->Hp->VK->Prop):Prop:=
 ∀(pins:List (Addr×Obj)) (s:Shared) (σ:St) (H:Hp) (x:V) (v:Value) (Q:VK),Inv X pins σ H s->RelV x v->r x H Q->
  wpAny (model X.prog X.w) X.A (f v) (EP X pins σ Q) X.xe s
def GR (X:Cx)(f:Value)(r:List V->Hp->VK->Prop):Prop:=
 ∀(pins:List (Addr×Obj)) (s:Shared) (σ:St) (H:Hp) (xs:List V) (us:List Value) (Q:VK),Inv X pins σ H s->Bd xs us->r xs H Q->
  wpAny (model X.prog X.w) X.A (call f us) (EP X pins σ Q) X.xe s
def YC (r:R2)(ta tb:TE):TE:=λσ H Q=>ta σ H λx H1=>tb σ H1 λy H2=>r x y H2 Q
def ak (r:V->Hp->VK->Prop)(ta:TE):TE:=λσ H Q=>ta σ H λx H1=>r x H1 Q
def rI (C:Int->Int->Prop)(g:Int->Int->V):R2:=λx y H Q=>∃i j,x=.int i/\y=.int j/\C i j/\Q (g i j) H
def XI (g:Int->Int->V):R2:=λx y H Q=>∃i j,x=.int i/\y=.int j/\Q (g i j) H
def rU (g:Int->V):V->Hp->VK->Prop:=λx H Q=>∃i,x=.int i/\Q (g i) H
section
variable {X:Cx}{a b c:Expr}{ta tb tc:TE}{pos:Pos}
theorem XM (ha:PE X a ta) (hb:PE X b tb) {pins:List (Addr×Obj)} {s:Shared} {σ:St} {H:Hp} {R:V->V->Hp->Prop} (I:Inv X pins σ H s)
  (h:ta σ H λx H1=>tb σ H1 λy H2=>R x y H2) {Q:Value->Shared->Prop} {f:Value->Value->Sem Value}
  (hf:∀v u s2 x y H2,Inv X pins σ H2 s2->RelV x v->RelV y u->R x y H2->wpAny (model X.prog X.w) X.A (f v u) Q X.xe s2) :
  wpAny (model X.prog X.w) X.A (eval a X.env) (λv s₁=>wpAny (model X.prog X.w) X.A (eval b X.env) (λu s₂=>wpAny (model X.prog X.w) X.A (f v u) Q X.xe s₂) X.xe s₁) X.xe s:=by
 refine Cq (ha pins s σ H _ I h) λv s1 ⟨x,H1,I1,r1,q1⟩=>?_
 refine Cq (hb pins s1 σ H1 _ I1 q1) λu s2 ⟨y,H2,I2,r2,q2⟩=>?_
 exact hf v u s2 x y H2 I2 r1 r2 q2
theorem AY {op:Operator}{r:R2}(ho:JS X (binaryOp op) r)(ha:PE X a ta)(hb:PE X b tb):PE X (.BinOp a op b pos) (YC r ta tb):=by
 intro pins s σ H Q I h;exact wpAny_BinOp (XM ha hb I h λv u s2 x y H2 I2 rx ry q=>ho pins s2 σ H2 x y v u Q I2 rx ry q)
theorem YF {op:UnaryOp}{r:V->Hp->VK->Prop}(ho:Z1 X (unaryOp op) r)(ha:PE X a ta):PE X (.UnaryOp op a pos) (ak r ta):=by
 intro pins s σ H Q I h;exact UnaryOp_ (Cq (ha pins s σ H _ I h) λv s1 ⟨x,H1,I1,r1,q1⟩=>ho pins s1 σ H1 x v Q I1 r1 q1)
theorem Zo {f:Value->Value->Sem Value} {C:Int->Int->Prop} {g:Int->Int->Int}
  (rule:∀(i j:Int) (t u:Tok) (s:Shared) (Q:Value->Shared->Prop) (E:Value->Shared->Prop),C i j->Q (.int (g i j) s.toks) { s with toks:=s.toks+1 }->wpAny (model X.prog X.w) X.A (f (.int i t) (.int j u)) Q E s) :
  JS X f (rI C λi j=>.int (g i j)):=by
 intro pins s σ H x y v u Q I rx ry h;obtain⟨i,j,rfl,rfl,hc,q⟩:=h;obtain⟨t,rfl⟩:=rx;obtain⟨t',rfl⟩:=ry;exact rule i j t t' s _ _ hc ⟨.int (g i j),H,I.tok _,⟨_,rfl⟩,q⟩
theorem ZC {f:Value->Value->Sem Value} {g:Int->Int->Int}
  (rule:∀(i j:Int) (t u:Tok) (s:Shared) (Q:Value->Shared->Prop) (E:Value->Shared->Prop),Q (.int (g i j) s.toks) { s with toks:=s.toks+1 }->wpAny (model X.prog X.w) X.A (f (.int i t) (.int j u)) Q E s) :
  JS X f (XI λi j=>.int (g i j)):=by
 intro pins s σ H x y v u Q I rx ry h;obtain⟨i,j,rfl,rfl,q⟩:=h;obtain⟨t,rfl⟩:=rx;obtain⟨t',rfl⟩:=ry;exact rule i j t t' s _ _ ⟨.int (g i j),H,I.tok _,⟨_,rfl⟩,q⟩
theorem Wp {f:Value->Value->Sem Value} {g:Int->Int->Bool}
  (rule:∀(i j:Int) (t u:Tok) (s:Shared) (Q:Value->Shared->Prop) (E:Value->Shared->Prop),Q (.bool (g i j)) s->wpAny (model X.prog X.w) X.A (f (.int i t) (.int j u)) Q E s) :
  JS X f (XI λi j=>.bl (g i j)):=by
 intro pins s σ H x y v u Q I rx ry h;obtain⟨i,j,rfl,rfl,q⟩:=h;obtain⟨t,rfl⟩:=rx;obtain⟨t',rfl⟩:=ry;exact rule i j t t' s _ _ ⟨.bl (g i j),H,I,rfl,q⟩
def ZQ (i j:Int):Prop:=0<j/\j<1073741824
def ZJ (i j:Int):Prop:=0<=j/\j<=1000000/\i.natAbs<2^64
def XT (i j:Int):Prop:=(-(2^64)<i/\i<2^64)\/(-(2^64)<j/\j<2^64)
theorem XT.ok {i j:Int}(h:XT i j):IntMulOk i j:=by
 rcases h with⟨h1,h2⟩|⟨h1,h2⟩
 ·exact .of_left (intBits_le_64 h1 h2)
 ·exact .of_right (intBits_le_64 h1 h2)
theorem Dq:JS X (binaryOp .Add) (XI λi j=>.int (i+j)):=ZC λ_ _ _ _ _ _ _ q=>add_int q
theorem Jc:JS X (binaryOp .Mult) (rI XT λi j=>.int (i*j)):=Zo λ_ _ _ _ _ _ _ hc q=>mul_int q hc.ok
theorem Kb:JS X (binaryOp .FloorDiv) (rI ZQ λi j=>.int (i/j)):=Zo λi j _ _ _ _ _ hc q=>by
 have h1:(0:Int)<j:=hc.1;have h2:j<1073741824:=hc.2;exact floordiv_int (by omega) (by rw[Int.fdiv_eq_ediv_of_nonneg i (by omega)];exact q) (.inl (PyProof.noPylong_small (by omega)))
theorem DX:JS X (binaryOp .Mod) (rI (λ_ j=>0<j) λi j=>.int (i%j)):=Zo λi j _ _ _ _ _ hc q=>by
 have h1:(0:Int)<j:=hc;exact mod_int' (by omega) (by rw[Int.fmod_eq_emod_of_nonneg i (by omega)];exact q)
theorem XH:JS X (binaryOp .Pow) (rI ZJ λi j=>.int (i^j.toNat)):=Zo λ_ _ _ _ _ _ _ hc q=>pow_int_small hc.1 hc.2.1 hc.2.2 q
theorem ao {f:Value->Sem Value} {g:Int->Int}
  (rule:∀(i:Int) (t:Tok) (s:Shared) (Q:Value->Shared->Prop) (E:Value->Shared->Prop),Q (.int (g i) s.toks) { s with toks:=s.toks+1 }->wpAny (model X.prog X.w) X.A (f (.int i t)) Q E s) :
  Z1 X f (rU λi=>.int (g i)):=by
 intro pins s σ H x v Q I rx h;obtain⟨i,rfl,q⟩:=h;obtain⟨t,rfl⟩:=rx;exact rule i t s _ _ ⟨.int (g i),H,I.tok _,⟨_,rfl⟩,q⟩
theorem XD:Z1 X (unaryOp .USub) (rU λi=>.int (-i)):=ao λ_ _ _ _ _ q=>neg_int q
end
def RY:V->V->Bool
 | .non,.non=>true | .non,.int _=>true | .int _,.non=>true | .non,.bl _=>true | .bl _,.non=>true | .non,.str _=>true | .str _,.non=>true
 | .int _,.int _=>true | .bl _,.bl _=>true | .str _,.str _=>true | .byt _,.byt _=>true
 | .int _,.str _=>true | .str _,.int _=>true | .bl _,.str _=>true | .str _,.bl _=>true
 |_,_=>false
def aj:R2:=λx y H Q=>RY x y=true/\Q (.bl (decide (x=y))) H
def aw:R2:=λx y H Q=>RY x y=true/\Q (.bl (!decide (x=y))) H
theorem PD {i j:Int}:decide (V.int i=V.int j)=(i == j):=by
 rw[cq];simp
theorem Vl {i j:Bool}:decide (V.bl i=V.bl j)=(i == j):=by
 rw[cq];simp
theorem FI {i j:Str}:decide (V.str i=V.str j)=(i == j):=by
 rw[cq];simp
theorem So {i j:Array UInt8}:decide (V.byt i=V.byt j)=(i.toList == j.toList):=by
 rw[cq];cases i;cases j;simp
section
variable {X:Cx}{a b c:Expr}{ta tb tc:TE}{pos:Pos}
theorem Bp {pins:List (Addr×Obj)}{σ:St}{H:Hp}{s:Shared}{Q:VK}{k k':Bool}(I:Inv X pins σ H s)(q:Q (.bl k) H)(e:k=k'):EP X pins σ Q (.bool k') s:=by
 subst e;exact⟨.bl k,H,I,rfl,q⟩
theorem Bh:JS X (compareOp .Eq) aj:=by
 intro pins s σ H x y v u Q I rx ry h;obtain⟨hs,q⟩:=h;cases x with
 |non=>
  cases rx;cases y with
  |non=>cases ry;exact PySem.EqNone.eq_none_none (Bp I q (by simp))
  |bl j=>cases ry;exact PySem.EqNone.eq_none_bool (Bp I q (by simp))
  |int j=>obtain⟨t',rfl⟩:=ry;exact PySem.EqNone.eq_none_int (Bp I q (by simp))
  |str j=>obtain⟨t',rfl⟩:=ry;exact PySem.EqNone.eq_none_str (Bp I q (by simp))
  |_=>exact absurd (show false=true from hs) aJ
 |bl i=>
  cases rx;cases y with
  |non=>cases ry;exact PySem.EqNone.eq_bool_none (Bp I q (by simp))
  |bl j=>cases ry;exact eq_bool (Bp I q Vl)
  |str j=>obtain⟨t',rfl⟩:=ry;exact PySem.EqMixed.eq_bool_str (Bp I q (by simp))
  |_=>exact absurd (show false=true from hs) aJ
 |int i=>
  obtain⟨t,rfl⟩:=rx;cases y with
  |non=>cases ry;exact PySem.EqNone.eq_int_none (Bp I q (by simp))
  |int j=>obtain⟨t',rfl⟩:=ry;exact eq_int (Bp I q PD)
  |str j=>obtain⟨t',rfl⟩:=ry;exact PySem.EqMixed.eq_int_str (Bp I q (by simp))
  |_=>exact absurd (show false=true from hs) aJ
 |str i=>
  obtain⟨t,rfl⟩:=rx;cases y with
  |non=>cases ry;exact PySem.EqNone.eq_str_none (Bp I q (by simp))
  |bl j=>cases ry;exact PySem.EqMixed.eq_str_bool (Bp I q (by simp))
  |int j=>obtain⟨t',rfl⟩:=ry;exact PySem.EqMixed.eq_str_int (Bp I q (by simp))
  |str j=>obtain⟨t',rfl⟩:=ry;exact eq_str (Bp I q FI)
  |_=>exact absurd (show false=true from hs) aJ
 |byt i=>
  obtain⟨t,rfl⟩:=rx;cases y with
  |byt j=>obtain⟨t',rfl⟩:=ry;exact PySem.W.eq_bytes (Bp I q So)
  |_=>exact absurd (show false=true from hs) aJ
 |_=>cases y<;>exact absurd (show false=true from hs) aJ
theorem M0:JS X (compareOp .NotEq) aw:=by
 intro pins s σ H x y v u Q I rx ry h;obtain⟨hs,q⟩:=h;cases x with
 |non=>
  cases rx;cases y with
  |non=>cases ry;exact PySem.EqNone.ne_none_none (Bp I q (by simp))
  |bl j=>cases ry;exact PySem.EqNone.ne_none_bool (Bp I q (by simp))
  |int j=>obtain⟨t',rfl⟩:=ry;exact PySem.EqNone.ne_none_int (Bp I q (by simp))
  |str j=>obtain⟨t',rfl⟩:=ry;exact PySem.EqNone.ne_none_str (Bp I q (by simp))
  |_=>exact absurd (show false=true from hs) aJ
 |bl i=>
  cases rx;cases y with
  |non=>cases ry;exact PySem.EqNone.ne_bool_none (Bp I q (by simp))
  |bl j=>cases ry;exact ne_bool (Bp I q (congrArg not Vl))
  |str j=>obtain⟨t',rfl⟩:=ry;exact PySem.EqMixed.ne_bool_str (Bp I q (by simp))
  |_=>exact absurd (show false=true from hs) aJ
 |int i=>
  obtain⟨t,rfl⟩:=rx;cases y with
  |non=>cases ry;exact PySem.EqNone.ne_int_none (Bp I q (by simp))
  |int j=>obtain⟨t',rfl⟩:=ry;exact ne_int (Bp I q (congrArg not PD))
  |str j=>obtain⟨t',rfl⟩:=ry;exact PySem.EqMixed.ne_int_str (Bp I q (by simp))
  |_=>exact absurd (show false=true from hs) aJ
 |str i=>
  obtain⟨t,rfl⟩:=rx;cases y with
  |non=>cases ry;exact PySem.EqNone.ne_str_none (Bp I q (by simp))
  |bl j=>cases ry;exact PySem.EqMixed.ne_str_bool (Bp I q (by simp))
  |int j=>obtain⟨t',rfl⟩:=ry;exact PySem.EqMixed.ne_str_int (Bp I q (by simp))
  |str j=>obtain⟨t',rfl⟩:=ry;exact ne_str (Bp I q (congrArg not FI))
  |_=>exact absurd (show false=true from hs) aJ
 |byt i=>
  obtain⟨t,rfl⟩:=rx;cases y with
  |byt j=>obtain⟨t',rfl⟩:=ry;exact PySem.W.ne_bytes (Bp I q (congrArg not So))
  |_=>exact absurd (show false=true from hs) aJ
 |_=>cases y<;>exact absurd (show false=true from hs) aJ
theorem Xi:JS X (compareOp .Lt) (XI λi j=>.bl (decide (i<j))):=Wp λ_ _ _ _ _ _ _ q=>lt_int q
theorem Oj:JS X (compareOp .LtE) (XI λi j=>.bl (decide (i<=j))):=Wp λ_ _ _ _ _ _ _ q=>le_int q
theorem SD:JS X (compareOp .Gt) (XI λi j=>.bl (decide (j<i))):=Wp λ_ _ _ _ _ _ _ q=>gt_int q
theorem Y0:JS X (compareOp .GtE) (XI λi j=>.bl (decide (j<=i))):=Wp λ_ _ _ _ _ _ _ q=>ge_int q
theorem Oz:JS X (compareOp .In) (λx y H Q=>∃i j,x=.str i/\y=.str j/\Q (.bl (!(Builtin.Str.occurrences j i 0 j.length 1).isEmpty)) H):=by
 intro pins s σ H x y v u Q I rx ry h;obtain⟨i,j,rfl,rfl,q⟩:=h;obtain⟨t,rfl⟩:=rx;obtain⟨t',rfl⟩:=ry;exact in_str (Bp I q rfl)
theorem AI (b:Expr){op:CmpOp}(h:op≠.In:=by decide)(h2:op≠.NotIn:=by decide):behindInMarks op b=false:=by
 have e1:(op == CmpOp.In)=false:=by cases op<;>first|rfl|exact absurd rfl h
 have e2:(op == CmpOp.NotIn)=false:=by cases op<;>first|rfl|exact absurd rfl h2
 cases b<;>simp[behindInMarks,e1,e2]
theorem Ht {op:CmpOp}{r:R2}(ho:JS X (compareOp op) r)(ha:PE X a ta)(hb:PE X b tb)(hm:behindInMarks op b=false):PE X (.Compare a [op] [b] pos) (YC r ta tb):=by
 intro pins s σ H Q I h;exact wpAny_Compare1 (XM ha hb I h λv u s2 x y H2 I2 rx ry q=>ho pins s2 σ H2 x y v u Q I2 rx ry q) hm
def W9 (t:TE):TT:=λσ H Q=>t σ H λx H'=>∃k,x=.bl k/\Q k H'
theorem AD {op:CmpOp}{r:R2}(ho:JS X (compareOp op) r)(ha:PE X a ta)(hb:PE X b tb)(hm:behindInMarks op b=false):PT X (.Compare a [op] [b] pos) (W9 (YC r ta tb)):=by
 intro pins s σ H Q I h;refine wpAny_isTrue_Compare1 (Cq (ha pins s σ H _ I h) λv s1 ⟨x,H1,I1,r1,q1⟩=>Cq (hb pins s1 σ H1 _ I1 q1) λu s2 ⟨y,H2,I2,r2,q2⟩=>
  Cq (ho pins s2 σ H2 x y v u _ I2 r1 r2 q2) λc s3 ⟨z,H3,I3,r3,k,e,q3⟩=>?_) hm
 subst e;cases r3;exact cy ⟨H3,I3,q3⟩
def Xw (r r':R2)(ta tb tc:TE):TE:=λσ H Q=>ta σ H λx H1=>tb σ H1 λy H2=>r x y H2 λz H3=>∃k,z=.bl k/\
 (if k=true then tc σ H3 λw' H4=>r' y w' H4 Q else Q (.bl false) H3)
theorem Qp {op op':CmpOp} {r r':R2} (ho:JS X (compareOp op) r) (ho':JS X (compareOp op') r') (ha:PE X a ta) (hb:PE X b tb) (hc:PE X c tc)
  (hm:lastMarks [op,op'] [b,c]=false:=by with_unfolding_all rfl):PT X (.Compare a [op,op'] [b,c] pos) (W9 (Xw r r' ta tb tc)):=by
 intro pins s σ H Q I h;refine isTrue_chain (Cq (ha pins s σ H _ I h) λv s1 ⟨x,H1,I1,r1,q1⟩=>test_link (Cq (hb pins s1 σ H1 _ I1 q1) λu s2 ⟨y,H2,I2,r2,q2⟩=>
  Cq (ho pins s2 σ H2 x y v u _ I2 r1 r2 q2) λd s3 ⟨z,H3,I3,r3,k,e,q3⟩=>?_)) hm
 subst e;cases r3;refine cy ?_;cases k with
 |false=>
  obtain⟨k',e',q'⟩:=q3;cases e';exact ite_ff ⟨H3,I3,q'⟩
 |true=>
  refine ite_tt (test_last (Cq (hc pins s3 σ H3 _ I3 q3) λw' s4 ⟨z',H4,I4,r4,q4⟩=>Cq (ho' pins s4 σ H4 y z' u w' _ I4 r2 r4 q4) λd' s5 z9=>?_));obtain⟨z2,H5,I5,r5,k2,e2,q5⟩:=z9;subst e2;cases r5;exact cy ⟨H5,I5,q5⟩
theorem M7:(sizeLine:Nat)<2^63:=by rw[bA];decide
theorem Gj:JS X (binaryOp .Add) (λx y H Q=>∃i j,x=.str i/\y=.str j/\i.length+j.length<=sizeLine/\Q (.str (i++j)) H):=by
 intro pins s σ H x y v u Q I rx ry h;obtain⟨i,j,rfl,rfl,hz,q⟩:=h;obtain⟨t,rfl⟩:=rx;obtain⟨t',rfl⟩:=ry;exact add_str (λt' tk=>⟨.str (i++j),H,I.tok _,⟨_,rfl⟩,q⟩) hz
theorem vals1 {x:V}{us:List Value}(r:Bd [x] us):∃u,us=[u]/\RelV x u:=by
 cases r with
 |cons r1 r2=>cases r2;exact⟨_,rfl,r1⟩
theorem vals2 {x y:V}{us:List Value}(r:Bd [x,y] us):∃u w',us=[u,w']/\RelV x u/\RelV y w':=by
 cases r with
 |cons r1 r2=>
  cases r2 with
  |cons r3 r4=>cases r4;exact⟨_,_,rfl,r1,r3⟩
end
structure ObjM (h:Heap) (x dx C:Addr) (mA:Str->Option Value):Prop where
 obj:h.get? x=some (PySem.W.instObj C dx)
 ns:h.Ns1 dx mA
 ne:dx≠x
theorem OB {h:Heap}{dx:Addr}{mA:Str->Option Value}(n:h.Ns1 dx mA):∃od,h.get? dx=some od/\∀name,PySem.W.lookIn name od=some (mA name):=by
 obtain⟨o,es,ep,ho,hd,hk,_,hm⟩:=n;refine⟨o,ho,λname=>?_⟩;have e:=hm name;unfold nsFind findBy at e;rw[<-Array.find?_toList] at e;unfold PySem.W.lookIn;rw[hd];dsimp only
 split
 ·rename_i y q
  rw[q] at e;exact congrArg some e
 ·rename_i q
  rw[q] at e;have a:es.toList.any (·.refKey)=false:=by
   rw[List.any_eq_false];intro y hy;obtain⟨z,t,hkey⟩:=hk y (Array.mem_toList_iff.mp hy);simp[DictEntry.refKey,hkey]
  have a':¬es.toList.any (·.refKey)=true:=by rw[a];exact aJ
  rw[aF a'];exact congrArg some e
theorem ObjM.look {h:Heap}{x dx C:Addr}{mA:Str->Option Value}(I:ObjM h x dx C mA):∃od,PySem.W.InstAt h x (PySem.W.instObj C dx) C (some od)/\∀name,PySem.W.lookIn name od=some (mA name):=
 let⟨od,ho,hl⟩:=OB I.ns
 ⟨od,⟨I.obj,rfl,rfl,ho⟩,hl⟩
section
variable {prog:Program}{w:World}{A:Around}{E:Value->Shared->Prop}{s:Shared}{K:PySem.W.Frag}{x dx C f:Addr}{mA:Str->Option Value}{name:Str}{v:Value}
theorem get_map {expr:Bool} {Q:Value->Shared->Prop} (X:K.In s.heap) (I:ObjM s.heap x dx C mA) (hg:PySem.W.plainGet K C name=true) (hh:PySem.W.hasDictIn K C=true)
  (ha:PySem.W.findIn K (.ref C) name=some none) (hv:mA name=some v) (hv':PySem.W.handedIn v=true) (h:Q v { s with toks:=s.toks+1 }) :
  wpAny (model prog w) A (getAttr (.ref x) name expr) Q E s:=by
 obtain⟨od,J,hl⟩:=I.look;exact PySem.W.get_value X J (eI hg).1 (gC hh ha rfl (by rw[hl,hv])) hv' h
theorem U0 {pl:Sem Bool} {Q:Value×List Value->Shared->Prop} (X:K.In s.heap) (I:ObjM s.heap x dx C mA) (hg:PySem.W.plainGet K C name=true)
  (hf:PySem.W.findIn K (.ref C) name=some (some (.ref f))) (ht:PySem.W.isFn K (.ref f)=true) (hv:mA name=none) (h:Q (.ref f,[.ref x]) s) :
  wpAny (model prog w) A (getMethod (.ref x) name pl) Q E s:=by
 obtain⟨od,J,hl⟩:=I.look;exact PySem.W.method_fn X J (eI hg).1 (eI hg).2 hf (bW.mp ht) (by show(PySem.W.lookIn name od).map (·.isSome)=some false;rw[hl,hv];rfl) h
theorem Wq {ns:List Str} {Q:Unit->Shared->Prop} (X:K.In s.heap) (I:ObjM s.heap x dx C mA)
  (hs:PySem.W.findIn K (.ref C) "__setattr__"=some (some (.builtin "object.__setattr__"))) (hp:PySem.W.plainOver K C=true) (ht:PySem.W.takerIn K C name=some none) (hh:PySem.W.hasDictIn K C=true)
  (hw:PySem.Within mA ns) (hsz:ns.length<=sizeLine)
  (h:∀h',ObjM h' x dx C (λy=>if y=name then some v else mA y)->Heap.SameBut dx s.heap h'->Q () { s with heap:=h',toks:=s.toks+2 }) :
  wpAny (model prog w) A (setAttr (.ref x) name v) Q E s:=by
 obtain⟨od,J,hl⟩:=I.look;refine PySem.W.set_plain X J hs (PySem.W.osa_open (s:={ s with toks:=s.toks+1 }) (r:=none) X J hp ht λb=>?_);obtain⟨cd,hc,hd'⟩:=PySem.W.any_some hh;have hx:s.heap.get? x=some ⟨.ref C,some dx,.plain,#[]⟩:=I.obj;refine ay (aH (ay (ay (gv hx (ay (PySem.W.Looks.here (s:={ s with toks:=s.toks+1 }) (PySem.W.looks_clsIn X hc) ?_))))));rw[hd'];refine aH (a:=some dx) (ay (aH (ay ?_)));refine wpAny_nsSet1 (s:={ s with toks:=s.toks+1 }) I.ns λh' hn2 hs2=>?_
 obtain⟨oD,esD,epD,hoD,hdD,hcD⟩:=hn2.count (PySem.Within.cons name v hw);refine ay (wpAny_lookBehind hoD (by rw[hdD];exact pastItsLine_dict (bj hcD (by rw[bw];omega))) ?_);exact aH (h _ ⟨(hs2.2 _ (Ne.symm I.ne)).trans I.obj,hn2,I.ne⟩ hs2)
theorem VO {R:Result->Shared->Prop} {vs:List Value} {kw:List (Str×Value)} (X:K.In s.heap) (hm:PySem.W.makesIn K C=true)
  (hi:PySem.W.findIn K (.ref C) "__init__"=some (some (.ref f))) (hf:PySem.W.typeIn K (.ref f)=some (.type "function"))
  (h:codeAny (model prog w) (A.under (.builtin "type.__call__" ⟨.ref C::vs,kw⟩)) (.call (.ref f) ⟨.ref (s.heap.objs.size+1)::vs,kw⟩) (PySem.W.InitBack (s.heap.objs.size+1) R)
   { s with heap:=(s.heap.push PySem.W.emptyDict).push (PySem.W.instObj C s.heap.objs.size) }) :
  codeAny (model prog w) A (.call (.ref C) ⟨vs,kw⟩) R s:=by
 obtain⟨hh,g,d,t,os⟩:=s;exact PySem.W.make_core (PySem.W.makes_of X hm) (PySem.W.looks_findIn X hi) (λself=>PySem.W.bind_fn X self hf) (.inl rfl) h
end
def IL (f:Str)(v:V):List (Str×V)->List (Str×V)
 |[]=>[(f,v)]
 |(g,x)::r=>if g=f then(g,v)::r else(g,x)::IL f v r
theorem LM (f g:Str)(v:V):∀fs:List (Str×V),(IL f v fs).lookup g=if g=f then some v else fs.lookup g
 |[]=>by
  show List.lookup g [(f,v)]=_
  by_cases h:g=f
  ·have hb:(g == f)=true:=bW.mpr h;simp only[List.lookup,hb,if_pos h]
  ·have hb:(g == f)=false:=cj.mpr h;simp only[List.lookup,hb,if_neg h]
 |(k,x)::r=>by
  have ih:=LM f g v r;rw[show IL f v ((k,x)::r)=(if k=f then(k,v)::r else(k,x)::IL f v r) from rfl]
  by_cases hk:k=f
  ·rw[aI hk]
   by_cases h:g=k
   ·have hb:(g == k)=true:=bW.mpr h;simp only[List.lookup,hb,if_pos (h.trans hk)]
   ·have hb:(g == k)=false:=cj.mpr h;simp only[List.lookup,hb,if_neg (λe:g=f=>h (e.trans hk.symm))]
  ·rw[aF hk]
   by_cases h:g=k
   ·have hb:(g == k)=true:=bW.mpr h;simp only[List.lookup,hb,if_neg (λe:g=f=>hk (h.symm.trans e))]
   ·have hb:(g == k)=false:=cj.mpr h;simp only[List.lookup,hb];exact ih
theorem KI (f:Str)(v:V):∀fs:List (Str×V),f∈(IL f v fs).map (·.1)/\∀g,g∈fs.map (·.1)->g∈(IL f v fs).map (·.1)
 |[]=>⟨by simp[IL],λg h=>by simp at h⟩
 |(k,x)::r=>by
  obtain⟨i1,i2⟩:=KI f v r;rw[show IL f v ((k,x)::r)=(if k=f then(k,v)::r else(k,x)::IL f v r) from rfl]
  by_cases hk:k=f
  ·rw[aI hk];subst hk;exact⟨by simp,λg h=>by simpa using h⟩
  ·rw[aF hk];refine⟨?_,λg h=>?_⟩
   ·rw[aR];exact aB _ i1
   ·rw[aR] at h ⊢;rcases aX.mp h with e|e
    ·exact aX.mpr (.inl e)
    ·exact aB _ (i2 g e)
theorem LD (f:Str)(v:V):∀fs:List (Str×V),(IL f v fs).length<=fs.length+1
 |[]=>by simp[IL]
 |(k,x)::r=>by
  have ih:=LD f v r;rw[show IL f v ((k,x)::r)=(if k=f then(k,v)::r else(k,x)::IL f v r) from rfl]
  by_cases hk:k=f
  ·rw[aI hk,bw,bw];omega
  ·rw[aF hk,bw,bw];omega
theorem Hq.some_of {v:V}{o:Option Value}(r:Hq (some v) o):∃u,o=some u/\RelV v u:=by
 cases o with
 |none=>exact(show False from r).elim
 |some u=>exact⟨u,rfl,r⟩
theorem Hq.none_of {o:Option Value}(r:Hq none o):o=none:=by
 cases o with
 |none=>rfl
 |some u=>exact(show False from r).elim
theorem Oi {v:V}{u:Value}(r:RelV v u):PySem.W.handedIn u=true:=by
 cases v with
 |non=>cases(show u=Value.none from r);rfl
 |bl b=>cases(show u=Value.bool b from r);rfl
 |int i=>obtain⟨t,e⟩:=(show ∃t,u=Value.int i t from r);cases e;rfl
 |str x=>obtain⟨t,e⟩:=(show ∃t,u=Value.str x t from r);cases e;rfl
 |byt b=>obtain⟨t,e⟩:=(show ∃t,u=Value.bytes b t from r);cases e;rfl
 |flt b=>obtain⟨t,e⟩:=(show ∃t,u=Value.float b t from r);cases e;rfl
 |ref a=>cases(show u=Value.ref a from r);rfl
 |ty n=>cases(show u=Value.type n from r);rfl
section
variable {P:Program}{w:World}{H H':Hp}{h h':Heap}{a C dx:Addr}{fs fs':List (Str×V)}
theorem L7 (hok:Iy P w H h)(e:H a=some (.ins C dx fs)):∃mA,ObjM h a dx C mA/\(∀f,Hq (fs.lookup f) (mA f))/\PySem.Within mA (fs.map (·.1))/\fs.length<=1000/\H dx=some (.own a):=by
 obtain⟨d,z,ne,ob,mA,n,r,q⟩:=(show Bn P w H h a (.ins C dx fs) from hok a _ e)
 exact⟨mA,⟨ob,n,ne⟩,r,q,z,d⟩
end
structure Cls (K:PySem.W.Frag) (C:Addr):Prop where
 pg:PySem.W.plainGet K C Str.empty=true
 hd:PySem.W.hasDictIn K C=true
 po:PySem.W.plainOver K C=true
 sa:PySem.W.findIn K (.ref C) "__setattr__"=some (some (.builtin "object.__setattr__"))
theorem Cls.get {K:PySem.W.Frag}{C:Addr}(c:Cls K C)(f:Str):PySem.W.plainGet K C f=true:=c.pg
def JP (K:PySem.W.Frag)(C:Addr)(f:Str):Prop:=PySem.W.findIn K (.ref C) f=some none
theorem JP.taker {K:PySem.W.Frag}{C:Addr}{f:Str}(n:JP K C f):PySem.W.takerIn K C f=some none:=by
 unfold PySem.W.takerIn;rw[show PySem.W.findIn K (.ref C) f=some none from n];rfl
structure Meth (K:PySem.W.Frag) (C:Addr) (m:Str) (f:Addr):Prop where
 at_:PySem.W.findIn K (.ref C) m=some (some (.ref f))
 fn:PySem.W.isFn K (.ref f)=true
 kp:PySem.W.keepIn K (.ref f)=true
section
variable {X:Cx}{pins:List (Addr×Obj)}{σ:St}{H:Hp}{s:Shared}{a C dx:Addr}{fs:List (Str×V)}{f:Str}{v:V}{A:Around}{E:Value->Shared->Prop}
theorem Re {b:Bool} {Q:Value->Shared->Prop} (I:Inv X pins σ H s) (e:H a=some (.ins C dx fs)) (c:Cls X.K C) (n:JP X.K C f) (l:fs.lookup f=some v)
  (h:∀u s',Inv X pins σ H s'->RelV v u->Q u s'):wpAny (model X.prog X.w) A (getAttr (.ref a) f b) Q E s:=by
 obtain⟨mA,O,r,_,_,_⟩:=L7 I.hok e;obtain⟨u,hu,ru⟩:=Hq.some_of (v:=v) (o:=mA f) (by rw[<-l];exact r f);exact get_map I.kIn O (c.get f) c.hd n hu (Oi ru) (h u _ (I.tok _) ru)
theorem Jj {m:Str} {g:Addr} {pl:Sem Bool} {Q:Value×List Value->Shared->Prop} (I:Inv X pins σ H s) (e:H a=some (.ins C dx fs)) (c:Cls X.K C) (k:Meth X.K C m g) (l:fs.lookup m=none)
  (h:Q (.ref g,[.ref a]) s):wpAny (model X.prog X.w) A (getMethod (.ref a) m pl) Q E s:=by
 obtain⟨mA,O,r,_,_,_⟩:=L7 I.hok e;have hn:mA m=none:=Hq.none_of (by rw[<-l];exact r m);exact U0 I.kIn O (c.get m) k.at_ k.fn hn h
theorem RA {y:V} {u:Value} {Q:Unit->Shared->Prop} (I:Inv X pins σ H s) (e:H a=some (.ins C dx fs)) (c:Cls X.K C) (n:JP X.K C f) (hl:fs.length<1000) (ry:RelV y u)
  (h:∀s',Inv X pins σ (upd H a (.ins C dx (IL f y fs))) s'->Q () s'):wpAny (model X.prog X.w) A (setAttr (.ref a) f u) Q E s:=by
 obtain⟨mA,O,r,wi,_,ho⟩:=L7 I.hok e;have hz:(fs.map (·.1)).length<=sizeLine:=by rw[ax,bA];omega
 refine Wq I.kIn O c.sa c.po n.taker c.hd wi hz λh' O' sb=>h _ ?_
 have hd:∃o,h'.get? dx=some o:=let⟨o,_,_,e',_⟩:=O'.ns;⟨o,e'⟩;refine I.write (x:=a) (e:=dx) (by rw[e];exact True.intro) (.inr ho) (λb q hb z=>(sb.2 b hb).trans z) hd ?_;refine⟨by rw[Ax O.ne];exact ho,?_,O.ne,O'.obj,_,O'.ns,λg=>?_,λg hg=>?_⟩
 ·have:=LD f y fs;omega
 ·show Hq ((IL f y fs).lookup g) (if g=f then some u else mA g);rw[LM]
  by_cases q:g=f
  ·rw[aI q,aI q];exact ry
  ·rw[aF q,aF q];exact r g
 ·by_cases q:g=f
  ·rw[q];exact(KI f y fs).1
  ·refine(KI f y fs).2 g (wi g λz=>hg ?_);show(if g=f then some u else mA g)=none;rw[aF q];exact z
theorem Inv.made (I:Inv X pins σ H s):Inv X pins σ (upd (upd H s.heap.objs.size (.own (s.heap.objs.size+1))) (s.heap.objs.size+1) (.ins C s.heap.objs.size []))
  { s with heap:=(s.heap.push PySem.W.emptyDict).push (PySem.W.instObj C s.heap.objs.size) }:=by
 have e1:(s.heap.push PySem.W.emptyDict).get? s.heap.objs.size=some PySem.W.emptyDict:=aN s.heap rfl;have e2:((s.heap.push PySem.W.emptyDict).push (PySem.W.instObj C s.heap.objs.size)).get? (s.heap.objs.size+1)=some (PySem.W.instObj C s.heap.objs.size):=by
  have:=aN (s.heap.push PySem.W.emptyDict) (o:=PySem.W.instObj C s.heap.objs.size) rfl
  rwa [cE] at this
 have e3:(s.heap.push PySem.W.emptyDict).Ns s.heap.objs.size (λ_=>none):=⟨PySem.W.emptyDict,#[],_,e1,rfl,(λe he=>absurd he (by simp)),λ_=>rfl⟩
 have I1:=I.laid (a:=s.heap.objs.size) (o:=.own (s.heap.objs.size+1)) (h':=s.heap.push PySem.W.emptyDict) (t':=s.toks) (λb u q=>az _ q) (aD _) ⟨_,e1⟩;refine I1.laid (a:=s.heap.objs.size+1) (o:=.ins C s.heap.objs.size []) (t':=s.toks) (λb u q=>az _ q) (eW (cE _ _)) ?_;have ne:s.heap.objs.size≠s.heap.objs.size+1:=bg (fh _);refine⟨by rw[Ax ne,Ae],bC _,ne,e2,λ_=>none,(Heap.Ns1.of_empty e3).at λo q=>az _ q,λ_=>True.intro,λy hy=>absurd rfl hy⟩
theorem SH {prog:Program} {w:World} {env:Env} {e:Expr} {f:Str} {pos:Pos} {s:Shared} {Q:Value->Shared->Prop} (hb:attributeBase e f env (eval e env)=eval e env)
  (h:wpAny (model prog w) A (eval e env) (λo s₁=>wpAny (model prog w) A (getAttr o f true) Q E s₁) E s):wpAny (model prog w) A (eval (.Attribute e f pos) env) Q E s:=
 Attribute_any_ h (by rw[arm_eval_Attribute,hb])
end
def ZK (K:PySem.W.Frag)(ta:TE)(f:Str):TE:=λσ H Q=>ta σ H λx H1=>∃a C dx fs v,x=.ref a/\H1 a=some (.ins C dx fs)/\Cls K C/\JP K C f/\fs.lookup f=some v/\Q v H1
def Z2 (K:PySem.W.Frag)(ta tv:TE)(f:Str):TS:=λD σ H=>tv σ H λy H1=>ta σ H1 λx H2=>∃a C dx fs,x=.ref a/\H2 a=some (.ins C dx fs)/\Cls K C/\JP K C f/\fs.length<1000/\
 D.nx σ (upd H2 a (.ins C dx (IL f y fs)))
section
variable {X:Cx}{o e value:Expr}{f:Str}{pos pos' tpos:Pos}{ta tv:TE}
theorem EL (he:PE X e ta)(hb:attributeBase e f X.env (eval e X.env)=eval e X.env):PE X (.Attribute e f pos) (ZK X.K ta f):=by
 intro pins s σ H Q I h;refine SH hb (Cq (he pins s σ H _ I h) λu s1 z9=>?_);obtain⟨x,H1,I1,rx,a,C,dx,fs,v,ex,ea,c,n,l,q⟩:=z9;subst ex;obtain rfl:u=Value.ref a:=rx;exact Re I1 ea c n l λu' s2 I2 ru=>⟨v,H1,I2,ru,q⟩
theorem Jv (ha:PE X o ta)(hv:PE X value tv)(hs:swapsWith value (some (.Attribute o f pos')) pos.line X.env=pure false):PS X (.Assign [.Attribute o f pos'] value pos) (Z2 X.K ta tv f):=by
 intro pins s σ H D I h;refine fQ (Cq (hv pins s σ H _ I h) λu s1 ⟨y,H1,I1,ry,q⟩=>Cq (ha pins s1 σ H1 _ I1 q) λov s2 z9=>?_) hs;obtain⟨x,H2,I2,rx,a,C,dx,fs,ex,ea,c,n,l,q2⟩:=z9;subst ex;obtain rfl:ov=Value.ref a:=rx;exact RA I2 ea c n l ry λs3 I3=>⟨σ,_,I3,q2⟩
theorem Xb {pl:Sem Bool} {m:Str} {apos:Pos} {args:List Expr} {pins:List (Addr×Obj)} {s:Shared} {σ:St} {H:Hp} {Q:Value->Shared->Prop} {te:TE} (he:PE X e te) (I:Inv X pins σ H s)
  (h:te σ H λx H1=>∃a C dx fs g,x=.ref a/\H1 a=some (.ins C dx fs)/\Cls X.K C/\Meth X.K C m g/\fs.lookup m=none/\
   ∀s1,Inv X pins σ H1 s1->wpAny (model X.prog X.w) X.A (callWith pos (.ref g) [.ref a] (backTo pos (starEach args X.env)) (backToKw pos (keywordEach [] X.env))) Q X.xe s1)
  (ht:eval (.Call (.Attribute e m apos) args [] pos) X.env=(do
   let ov <-eval e X.env
   standAt apos.atName
   let(f,first) <-holding [ov] (getMethod ov m pl)
   callWith pos f first (backTo pos (starEach args X.env)) (backToKw pos (keywordEach [] X.env)))) :
  wpAny (model X.prog X.w) X.A (eval (.Call (.Attribute e m apos) args [] pos) X.env) Q X.xe s:=by
 refine d9 (pl:=pl) (Cq (he pins s σ H _ I h) λu s1 z9=>?_) ht;obtain⟨x,H1,I1,rx,a,C,dx,fs,g,ex,ea,c,k,l,q⟩:=z9;subst ex;obtain rfl:u=Value.ref a:=rx;exact Jj I1 ea c k l (q s1 I1)
end
section
variable {X:Cx}{pins:List (Addr×Obj)}{σ:St}{H:Hp}{s:Shared}{A:Around}{E:Value->Shared->Prop}{Q:Value->Shared->Prop}{c:Value}{b:Bool}
inductive TyOf (K:PySem.W.Frag) (H:Hp):V->Value->Prop where
 |non:TyOf K H .non (.type "NoneType")
 |bl (x:Bool):TyOf K H (.bl x) (.type "bool")
 |int (i:Int):TyOf K H (.int i) (.type "int")
 |str (x:Str):TyOf K H (.str x) (.type "str")
 |flt (x:UInt64):TyOf K H (.flt x) (.type "float")
 |lst {a:Addr} {xs:List V} (e:H a=some (.lst xs)):TyOf K H (.ref a) (.type "list")
 |frz {a:Addr} {o:Obj} {xs:List V} (e:H a=some (.frz o (.lst xs))):TyOf K H (.ref a) (.type "list")
 |tup {a:Addr} {xs:List V} (e:H a=some (.tup xs)):TyOf K H (.ref a) (.type "tuple")
 |dK {a:Addr} {kvs:List (Key×V)} (e:H a=some (.dK kvs)):TyOf K H (.ref a) (.type "dict")
 |dT {a:Addr} {kvs:List (List Key×V)} (e:H a=some (.dT kvs)):TyOf K H (.ref a) (.type "dict")
 |ins {a C dx:Addr} {fs:List (Str×V)} (e:H a=some (.ins C dx fs)) (cl:Cls K C) (ha:PySem.W.findIn K (.ref C) "__class__"=some (some (.builtin "object.__class__")))
   (hn:PySem.W.specialIn K (.builtin "object.__class__") "__get__"=some (some (.builtin "getset_descriptor.__get__"))) (htk:PySem.W.takesIn K (.builtin "object.__class__")=some true)
   (hm:PySem.W.mroIn K C (.type "object")=some true):TyOf K H (.ref a) (.ref C)
theorem Te {x:V}{u t:Value}(I:Inv X pins σ H s)(rx:RelV x u)(ty:TyOf X.K H x t)(e:PySem.W.kitOne X.K t c=some b)(h:∀tk,Q (.bool b) { s with toks:=tk }) :
  wpAny (model X.prog X.w) A (call (.builtin "isinstance") [u,c]) Q E s:=by
 cases ty with
 |non=>cases(show u=Value.none from rx);exact bP PySem.W.kitx_none I.kIn True.intro e (λz=>nomatch z) h
 |bl y=>cases(show u=Value.bool y from rx);exact bP PySem.W.kitx_bool I.kIn True.intro e (λz=>nomatch z) h
 |int i=>obtain⟨t,q⟩:=(show ∃t,u=Value.int i t from rx);cases q;exact bP PySem.W.kitx_int I.kIn True.intro e (λz=>nomatch z) h
 |str y=>obtain⟨t,q⟩:=(show ∃t,u=Value.str y t from rx);cases q;exact bP PySem.W.kitx_str I.kIn True.intro e (λz=>nomatch z) h
 |flt y=>obtain⟨t,q⟩:=(show ∃t,u=Value.float y t from rx);cases q;exact bP PySem.W.kitx_float I.kIn True.intro e (λz=>nomatch z) h
 |@lst a xs ea=>
  cases(show u=Value.ref a from rx);obtain⟨_,_,n,_,h1⟩:=(show Bn X.prog X.w H s.heap a (.lst xs) from I.hok a _ ea)
  exact bP PySem.W.kitx_list I.kIn ⟨_,h1,rfl⟩ e (λz=>nomatch z) h
 |@frz a ob xs ea=>
  cases(show u=Value.ref a from rx);obtain⟨_,_,_,n,_,h1⟩:=(show Bn X.prog X.w H s.heap a (.frz ob (.lst xs)) from I.hok a _ ea)
  exact bP PySem.W.kitx_list I.kIn ⟨_,h1,rfl⟩ e (λz=>nomatch z) h
 |@tup a xs ea=>
  cases(show u=Value.ref a from rx);obtain⟨_,_,_,p⟩:=(show Bn X.prog X.w H s.heap a (.tup xs) from I.hok a _ ea)
  obtain⟨o,h1,h2,_⟩:=p;exact bP PySem.W.kitx_tuple I.kIn ⟨o,h1,h2⟩ e (λz=>nomatch z) h
 |@dK a kvs ea=>
  cases(show u=Value.ref a from rx);obtain⟨_,_,vs,_,p⟩:=(show Bn X.prog X.w H s.heap a (.dK kvs) from I.hok a _ ea)
  obtain⟨o,es,ep,h1,h2,_⟩:=p;exact bP PySem.W.kitx_dict I.kIn ⟨o,h1,h2.1⟩ e (λz=>nomatch z) h
 |@dT a kvs ea=>
  cases(show u=Value.ref a from rx);obtain⟨_,_,xs,_,o,es,ep,h1,h2,_⟩:=(show Bn X.prog X.w H s.heap a (.dT kvs) from I.hok a _ ea)
  exact bP PySem.W.kitx_dict I.kIn ⟨o,h1,h2.1⟩ e (λz=>nomatch z) h
 |@ins a C dx fs ea cl ha hn htk hm=>
  cases(show u=Value.ref a from rx);obtain⟨mA,O,_⟩:=L7 I.hok ea;obtain⟨od,J,_⟩:=O.look;exact bP (PySem.W.kitx_own (cl.get _) cl.hd ha hn htk hm) I.kIn J e (λz=>nomatch z) h
end
structure Room (k:Nat) (A:Around):Prop where
 hd:A.handled=none
 dp:A.depth+3*k+5<recursionLimit
 un:A.units+16*k+200<cLine
theorem Room.mono {j k:Nat}{A:Around}(r:Room k A)(h:j<=k):Room j A:=⟨r.hd,by have:=r.dp;omega,by have:=r.un;omega⟩
theorem Room.deeper {k:Nat}{A:Around}(r:Room (k+1) A)(env:Env):Room k (A.deeper env):=
 ⟨r.hd,by have:=r.dp;show A.depth+1+3*k+5<_;omega,by have:=r.un;show A.units+3+16*k+200<_;omega⟩
theorem Rw {A:Around}{C:Addr}{us:List Value}{kw:List (Str×Value)}:(A.under (.builtin "type.__call__" ⟨.ref C::us,kw⟩)).depth=A.depth+1:=by
 first|rfl|simp[Around.under,Code.weight,Code.isCreation,Code.isGuard,Code.isCaller,Code.frames,Code.isFrame,guardIds]
theorem Q7 {A:Around}{C:Addr}{us:List Value}{kw:List (Str×Value)}:(A.under (.builtin "type.__call__" ⟨.ref C::us,kw⟩)).units=A.units+1:=by
 first|rfl|simp[Around.under,Code.cUnits,Code.frames,Code.isFrame]
theorem Room.make {k:Nat}{A:Around}(r:Room (k+1) A)(C:Addr)(us:List Value)(kw:List (Str×Value)):Room k (A.under (.builtin "type.__call__" ⟨.ref C::us,kw⟩)):=
 ⟨r.hd,by have:=r.dp;rw[Rw];omega,by have:=r.un;rw[Q7];omega⟩
theorem Room.depth {k:Nat}{A:Around}(r:Room k A):A.depth<recursionLimit:=by have:=r.dp;omega
theorem Room.units {k:Nat}{A:Around}(r:Room k A):A.units+64<cLine:=by have:=r.un;omega
def K2:TA:=λ_ H Q=>Q [] H
def Fy (ta:TE)(tr:TA):TA:=λσ H Q=>ta σ H λx H1=>tr σ H1 λxs H2=>Q (x::xs) H2
section
variable {X:Cx}{e:Expr}{es:List Expr}{te:TE}{t:TA}{pos:Pos}
theorem Ab:PA X [] K2:=λ_ _ _ _ H Q I h=>Calls.spliced_nil ⟨[],H,I,.nil,h⟩
theorem Aa (ha:PE X e te)(hr:PA X es t)(hs:starEach (e::es) X.env=(false,eval e X.env)::starEach es X.env:=by rfl):PA X (e::es) (Fy te t):=by
 intro pos pins s σ H Q I h;rw[hs];show wpAny _ _ (spliced ((false,eval e X.env)::backTo pos (starEach es X.env))) _ _ s;refine Calls.spliced_cons (Cq (ha pins s σ H _ I h) λu s1 ⟨x,H1,I1,r1,q1⟩=>?_);exact Cq (hr pos pins s1 σ H1 _ I1 q1) λus s2 ⟨xs,H2,I2,r2,q2⟩=>⟨x::xs,H2,I2,.cons r1 r2,q2⟩
def X9 (t:TA):TE:=λσ H Q=>t σ H λxs H1=>xs.length<=sizeLine/\∀p,H1 p=none->Q (.ref p) (upd H1 p (.tup xs))
def Ys (t:TA):TE:=λσ H Q=>t σ H λxs H1=>xs.length<=sizeLine/\∀p,H1 p=none->Q (.ref p) (upd H1 p (.lst xs))
theorem Bo {x1}(h:PA X es t):PE X (.Tuple es x1 pos) (X9 t):=by
 intro pins s σ H Q I hq;refine wpAny_Tuple_spliced (Cq (h pos pins s σ H _ I hq) λus s1 ⟨xs,H1,I1,r,z,q⟩=>⟨by rw[<-r.length];exact z,?_⟩);have hf:H1 s1.heap.objs.size=none:=I1.hok.fresh (aD _);refine⟨.ref s1.heap.objs.size,upd H1 s1.heap.objs.size (.tup xs),I1.laid (t':=s1.toks) (λb u e=>az _ e) (aD _) ?_,rfl,q _ hf⟩;exact⟨z,us,r,⟨_,aN _ rfl,rfl,_,rfl,λ_=>rfl⟩⟩
theorem B7 (h:PA X es t):PE X (.List es pos) (Ys t):=by
 intro pins s σ H Q I hq;refine wpAny_List_spliced (Cq (h pos pins s σ H _ I hq) λus s1 ⟨xs,H1,I1,r,z,q⟩=>⟨by rw[<-r.length];exact z,?_⟩);have hf:H1 s1.heap.objs.size=none:=I1.hok.fresh (aD _);refine⟨.ref s1.heap.objs.size,upd H1 s1.heap.objs.size (.lst xs),I1.laid (t':=s1.toks) (λb u e=>az _ e) (aD _) ?_,rfl,q _ hf⟩;exact⟨z,us,0,r,aN _ rfl⟩
end
abbrev Sp:=List V->Hp->VK->XK->Prop
abbrev SE:=List Env->Hp->Shared->XK->Value->Shared->Prop
structure Env0 (P:Program) (w:World) (K:PySem.W.Frag) (mg:Str->Option Value) (base:Heap) (A:Around) (outer:List Env) (s:Shared) (H:Hp):Prop where
 frames:A.frames=some outer
 mod:Mod K mg base
 bs:∀b o,base.get? b=some o->s.heap.get? b=some o/\H b=none
 bsz:base.objs.size<=s.heap.objs.size
 funs:s.heap.FunFrames base outer
 frf:∀b∈GN outer,H b=none
 hok:Iy P w H s.heap
 bare:AllBare s.gens
def CE (outer:List Env)(P:Program)(w:World)(H:Hp)(s:Shared)(Q:VK)(u:Value)(s':Shared):Prop:=
 ∃v H',s'.os=s.os/\AllBare s'.gens/\Un (GN outer) [] H H' s.heap s'.heap/\Iy P w H' s'.heap/\RelV v u/\Q v H'
def CR (CX:SE)(outer:List Env)(P:Program)(w:World)(H:Hp)(s:Shared)(Q:VK)(E:XK)(r:Result)(s':Shared):Prop:=
 match r with
 | .ok (.ret u)=>CE outer P w H s Q u s'
 | .ok _=>False
 | .error e=>CX outer H s E e s'
structure FnOk (P:Program) (w:World) (K:PySem.W.Frag) (mg:Str->Option Value) (base:Heap) (CX:SE) (k:Nat) (f:Addr) (fd:FuncData) (ps:List Str) (sp:Sp):Prop where
 len:∀vs H Q E,sp vs H Q E->vs.length=ps.length
 run:∀(A:Around) (outer:List Env) (s:Shared) (H:Hp) (args:Args) (us:List Value) (vs:List V) (Q:VK) (E:XK),Room k A->Env0 P w K mg base A outer s H->BindsTo s fd args (ps.zip us)->Bd vs us->sp vs H Q E->
  codeAny (model P w) A (.call (.ref f) args) (CR CX outer P w H s Q E) s
theorem Env0.make {P:Program}{w:World}{K:PySem.W.Frag}{mg:Str->Option Value}{base:Heap}{A:Around}{outer:List Env}{s:Shared}{H:Hp}(e:Env0 P w K mg base A outer s H)(C:Addr)(us:List Value)(kw:List (Str×Value)) :
  Env0 P w K mg base (A.under (.builtin "type.__call__" ⟨.ref C::us,kw⟩)) outer s H:=⟨by first|exact e.frames|(simpa [Around.under,Code.envs,Code.isFrame,pushEnvs] using e.frames),e.mod,e.bs,e.bsz,e.funs,e.frf,e.hok,e.bare⟩
section
variable {X:Cx}{pins:List (Addr×Obj)}{σ:St}{H:Hp}{s s':Shared}
theorem Inv.env0 (I:Inv X pins σ H s):Env0 X.prog X.w X.K X.mg X.base X.A X.stack s H:=
 ⟨I.ok.frames,I.ok.mod,I.bs,bj I.ok.bsz I.sz,I.stack,I.stkFree,I.hok,I.bare⟩
theorem Inv.after {Q:VK}{u:Value}(I:Inv X pins σ H s)(h:CE X.stack X.prog X.w H s Q u s'):EP X pins σ Q u s':=by
 obtain⟨v,H',os,bare,un,hok,r,q⟩:=h;obtain⟨hh,g,d,t,os'⟩:=s';obtain rfl:os'=s.os:=os;exact⟨v,H',I.call (h':=hh) (g':=g) (d':=d) (t':=t) (ch:=[]) un hok bare (λb z=>absurd z (by simp)),r,q⟩
end
def Ny (sp:Sp)(dvs:List V)(E:XK)(t:TA):TE:=λσ H Q=>t σ H λvs H1=>sp (vs++dvs) H1 Q E
def Si (C:Addr)(m:Str)(sp:Sp)(dvs:List V)(E:XK)(ta:TE)(t:TA):TE:=λσ H Q=>ta σ H λx H1=>∃a dx fs,x=.ref a/\H1 a=some (.ins C dx fs)/\fs.lookup m=none/\
 t σ H1 λvs H2=>sp (x::(vs++dvs)) H2 Q E
def W7 (C:Addr)(sp:Sp)(dvs:List V)(E:XK)(t:TA):TE:=λσ H Q=>t σ H λvs H1=>∀x dx,H1 x=none->H1 dx=none->dx≠x->
 sp (.ref x::(vs++dvs)) (upd (upd H1 dx (.own x)) x (.ins C dx [])) (λv H2=>v=.non/\Q (.ref x) H2) E
def Binds (K:PySem.W.Frag)(fd:FuncData)(ps:List Str)(ds:List Value):Prop:=
 ∀(s:Shared) (us:List Value),K.In s.heap->(us++ds).length=ps.length->BindsTo s fd ⟨us,[]⟩ (ps.zip (us++ds))
theorem Binds.all {K:PySem.W.Frag}{fd:FuncData}{ps:List Str}(h:∀us:List Value,us.length=ps.length->bindArgs fd ⟨us,[]⟩=pure (ps.zip us)):Binds K fd ps []:=λs us _ hl=>by
 rw[bq] at hl ⊢;exact .of_eq (h us hl)
def FW (CX:SE)(X:Cx)(E:XK):Prop:=∀(pins:List (Addr×Obj)) (σ:St) (H:Hp) (s:Shared) (e:Value) (s':Shared),Inv X pins σ H s->CX X.stack H s E e s'->X.xe e s'
section
variable {X:Cx}{CX:SE}{k:Nat}{f C:Addr}{fd:FuncData}{ps:List Str}{sp:Sp}{dvs:List V}{ds:List Value}{E:XK}{x m:Str}{p pos apos:Pos}{e o:Expr}{es:List Expr}{ta:TE}{t:TA}
theorem U7 {pins:List (Addr×Obj)} {σ:St} {H:Hp} {s:Shared} {Q:VK} {us:List Value} {vs:List V} (F:FnOk X.prog X.w X.K X.mg X.base CX k f fd ps sp) (hr:Room k X.A) (hb:Binds X.K fd ps ds) (hd:Bd dvs ds) (hx:FW CX X E)
  (I:Inv X pins σ H s) (r:Bd vs us) (h:sp (vs++dvs) H Q E):wpAny (model X.prog X.w) X.A (call (.ref f) us) (EP X pins σ Q) X.xe s:=by
 have r2:Bd (vs++dvs) (us++ds):=r.append hd;have hl:(us++ds).length=ps.length:=by rw[<-r2.length];exact F.len _ _ _ _ h
 refine cI (cP (F.run X.A X.stack s H ⟨us,[]⟩ (us++ds) (vs++dvs) Q E hr I.env0 (hb s us I.kIn hl) r2 h) λr s' hq=>?_);cases r with
 |error e=>exact hx pins σ H s e s' I hq
 |ok fl=>
  cases fl with
  |ret u=>exact I.after hq
  |next=>exact False.elim hq
  |brk=>exact False.elim hq
  |cont=>exact False.elim hq
theorem SK (F:FnOk X.prog X.w X.K X.mg X.base CX k f fd ps sp) (hr:Room k X.A) (hg:Gl X x) (hm:X.mg x=some (.ref f)) (hk:PySem.W.keepIn X.K (.ref f)=true) (hb:Binds X.K fd ps ds) (hd:Bd dvs ds) (hx:FW CX X E)
  (ha:PA X (e::es) t) (hdb:(x == ("__debug__":Str))=false:=by decide) (he:starEach (e::es) X.env=(false,eval e X.env)::starEach es X.env:=by rfl) (hpl:(backTo pos (starEach es X.env)).any (·.1)=false:=by rfl) :
  PE X (.Call (.Name x p) (e::es) [] pos) (Ny sp dvs E t):=by
 intro pins s σ H Q I h;refine bZ (E6 I hg hm ?_ hdb);refine cJ (h₀:=X.base) I.ok.mod.kin hk (Cq (ha pos pins s σ H _ I h) λus s1 ⟨vs,H1,I1,r,q⟩=>⟨I1.kIn,?_⟩) he hpl;exact U7 F hr hb hd hx I1 r q
theorem WO {pl:Sem Bool} (he:PE X o ta) (c:Cls X.K C) (hm:Meth X.K C m f) (F:FnOk X.prog X.w X.K X.mg X.base CX k f fd ps sp) (hr:Room k X.A) (hb:Binds X.K fd ps ds) (hd:Bd dvs ds) (hx:FW CX X E) (ha:PA X (e::es) t)
  (hst:starEach (e::es) X.env=(false,eval e X.env)::starEach es X.env:=by rfl) (hpl:(backTo pos (starEach es X.env)).any (·.1)=false:=by rfl)
  (ht:eval (.Call (.Attribute o m apos) (e::es) [] pos) X.env=(do
   let ov <-eval o X.env
   standAt apos.atName
   let(f,first) <-holding [ov] (getMethod ov m pl)
   callWith pos f first (backTo pos (starEach (e::es) X.env)) (backToKw pos (keywordEach [] X.env))):=by rfl) :
  PE X (.Call (.Attribute o m apos) (e::es) [] pos) (Si C m sp dvs E ta t):=by
 intro pins s σ H Q I h;refine d9 (pl:=pl) (Cq (he pins s σ H _ I h) λu s1 z9=>?_) ht;obtain⟨x,H1,I1,rx,a,dx,fs,ex,ea,l,q⟩:=z9;subst ex;obtain rfl:u=Value.ref a:=rx;refine Jj I1 ea c hm l ?_;refine cJ (first:=[.ref a]) (h₀:=X.base) I.ok.mod.kin hm.kp (Cq (ha pos pins s1 σ H1 _ I1 q) λus s2 ⟨vs,H2,I2,r,q2⟩=>⟨I2.kIn,?_⟩) hst hpl;exact U7 (us:=.ref a::us) (vs:=.ref a::vs) F hr hb hd hx I2 (.cons rfl r) q2
structure Mk (K:PySem.W.Frag) (C f:Addr):Prop where
 makes:PySem.W.makesIn K C=true
 init:PySem.W.findIn K (.ref C) "__init__"=some (some (.ref f))
 fn:PySem.W.isFn K (.ref f)=true
 kp:PySem.W.keepIn K (.ref C)=true
theorem VD {pins:List (Addr×Obj)} {σ:St} {H:Hp} {s:Shared} {Q:VK} {us:List Value} {vs:List V} (M:Mk X.K C f) (F:FnOk X.prog X.w X.K X.mg X.base CX k f fd ps sp) (hr:Room (k+1) X.A) (hb:Binds X.K fd ps ds) (hd:Bd dvs ds)
  (hx:FW CX X E) (I:Inv X pins σ H s) (r:Bd vs us)
  (h:∀x dx,H x=none->H dx=none->dx≠x->sp (.ref x::(vs++dvs)) (upd (upd H dx (.own x)) x (.ins C dx [])) (λv H2=>v=.non/\Q (.ref x) H2) E) :
  wpAny (model X.prog X.w) X.A (call (.ref C) us) (EP X pins σ Q) X.xe s:=by
 have hq:=h (s.heap.objs.size+1) s.heap.objs.size (I.hok.fresh (fq _)) (I.hok.fresh (aD _)) (bg (fh _));have I2:=Inv.made (C:=C) I;have r2:Bd (V.ref (s.heap.objs.size+1)::(vs++dvs)) (Value.ref (s.heap.objs.size+1)::(us++ds)):=.cons rfl (r.append hd);have hl:(Value.ref (s.heap.objs.size+1)::us++ds).length=ps.length:=by
  have e:=r2.length;rw[F.len _ _ _ _ hq] at e;exact e.symm
 refine cI (VO (f:=f) I.kIn M.makes M.init (bW.mp M.fn) (cP (F.run _ X.stack _ _ ⟨Value.ref (s.heap.objs.size+1)::us,[]⟩ (Value.ref (s.heap.objs.size+1)::(us++ds)) _ _ E (hr.make C us [])
  (I2.env0.make C us []) (hb _ (Value.ref (s.heap.objs.size+1)::us) I2.kIn hl) r2 hq) λr s' hq'=>?_))
 cases r with
 |error e=>exact hx pins σ _ _ e s' I2 hq'
 |ok fl=>
  cases fl with
  |ret u=>
   obtain⟨v,H',I3,rv,ev,q3⟩:=I2.after hq';subst ev;exact⟨rv,⟨V.ref (s.heap.objs.size+1),H',I3,rfl,q3⟩⟩
  |next=>exact False.elim hq'
  |brk=>exact False.elim hq'
  |cont=>exact False.elim hq'
theorem UI (M:Mk X.K C f) (F:FnOk X.prog X.w X.K X.mg X.base CX k f fd ps sp) (hr:Room (k+1) X.A) (hg:Gl X x) (hm:X.mg x=some (.ref C)) (hb:Binds X.K fd ps ds) (hd:Bd dvs ds) (hx:FW CX X E)
  (hdb:(x == ("__debug__":Str))=false:=by decide):PE X (.Call (.Name x p) [] [] pos) (W7 C sp dvs E K2):=by
 intro pins s σ H Q I h;refine bZ (E6 I hg hm ?_ hdb);exact PySem.W.callWith_K0 I.kIn M.kp (VD (us:=[]) M F hr hb hd hx I .nil h)
end
structure FnScope (N P:List Str) (sc:Scope):Prop where
 kind:sc.kind=.function
 co:sc.isCoroutine=false
 gen:sc.isGenerator=false
 nd:N.Nodup
 pre:N.take P.length=P
 par:∀x∈P,sc.names.lookup x=some .local\/sc.names.lookup x=some .cell
 nofree:∀y∈sc.names,y.2≠.free
theorem Ot {kindOf:Str->Option NameKind}{x:Str}:∀{binds:List (Str×Value)} {m:Str->Option Value},(∀v,(x,v)∉binds)->bindL kindOf binds m x=m x
 |[],_,_=>rfl
 |(n,v)::r,m,h=>by
  unfold bindL;rw[Ot λw hw=>h w (aB _ hw)]
  split
  ·have:x≠n:=by rintro rfl;exact h v aK
   simp[this]
  ·rfl
theorem Oa {kindOf:Str->Option NameKind}{x:Str}:∀{binds:List (Str×Value)} {m:Str->Option Value},(∀v,(x,v)∉binds)->bindC kindOf binds m x=m x
 |[],_,_=>rfl
 |(n,v)::r,m,h=>by
  unfold bindC;rw[Oa λw hw=>h w (aB _ hw)]
  split
  ·rfl
  ·have:x≠n:=by rintro rfl;exact h v aK
   simp[this]
theorem OG {kindOf:Str->Option NameKind}{x:Str}{v:Value}:∀{P:List Str} {vs:List Value} {i:Nat} {m:Str->Option Value},P.Nodup->P[i]?=some x->vs[i]?=some v->kindOf x=some .local->
  bindL kindOf (P.zip vs) m x=some v
 |[],_,_,_,_,h,_,_=>by simp at h
 |_::_,[],_,_,_,_,h,_=>by simp at h
 |p::P,w::vs,0,m,nd,h1,h2,hk=>by
  simp at h1 h2;subst h1;subst h2;show bindL kindOf ((p,w)::P.zip vs) m p=_;unfold bindL;rw[Ot λv hv=>(bV.mp nd).1 (cW hv).1,aI hk];simp
 |p::P,w::vs,i+1,m,nd,h1,h2,hk=>by
  show bindL kindOf ((p,w)::P.zip vs) m x=_;unfold bindL;exact OG (i:=i) (bV.mp nd).2 (by simpa using h1) (by simpa using h2) hk
theorem Oc {kindOf:Str->Option NameKind}{x:Str}{v:Value}:∀{P:List Str} {vs:List Value} {i:Nat} {m:Str->Option Value},P.Nodup->P[i]?=some x->vs[i]?=some v->kindOf x≠some .local->
  bindC kindOf (P.zip vs) m x=some v
 |[],_,_,_,_,h,_,_=>by simp at h
 |_::_,[],_,_,_,_,h,_=>by simp at h
 |p::P,w::vs,0,m,nd,h1,h2,hk=>by
  simp at h1 h2;subst h1;subst h2;show bindC kindOf ((p,w)::P.zip vs) m p=_;unfold bindC;rw[Oa λv hv=>(bV.mp nd).1 (cW hv).1,aF hk];simp
 |p::P,w::vs,i+1,m,nd,h1,h2,hk=>by
  show bindC kindOf ((p,w)::P.zip vs) m x=_;unfold bindC;exact Oc (i:=i) (bV.mp nd).2 (by simpa using h1) (by simpa using h2) hk
def start (N:List Str)(vs:List V):St:=vs.map some++List.replicate (N.length-vs.length) none
def A4 (CX:SE)(P:Program)(w:World)(K:PySem.W.Frag)(mg:Str->Option Value)(base:Heap)(N:List Str)(qual:Str)(scope:Scope)(f:Addr)(cd:Value)(A:Around)(outer:List Env)(s:Shared)(H:Hp)(E:XK):Cx where
 prog:=P
 w:=w
 K:=K
 mg:=mg
 base:=base
 A:=A.deeper (envOfC qual scope s.heap.objs.size f cd)
 N:=N
 s₀:=s
 H₀:=H
 env:=envOfC qual scope s.heap.objs.size f cd
 outer:=outer
 stack:=envOfC qual scope s.heap.objs.size f cd::outer
 ex:=[]
 calm:=true
 fn:=λ_=>true
 pn:=[]
 xe:=λe s'=>wpAny (model P w) (A.deeper (envOfC qual scope s.heap.objs.size f cd)) (leaving (envOfC qual scope s.heap.objs.size f cd) e) (λ_ s''=>CX outer H s E e s'') (λe' s''=>CX outer H s E e' s'') s'
theorem Q0 {sc:Scope}{n:Nat}{x:Str}(h:sc.names.lookup x=some .cell):∃c,(cellsFrom n sc.names []).lookup x=some c:=by
 have q:=dS sc.names n [] (.inl h);exact cU.mp q
theorem Ol {CX:SE} {P:Program} {w:World} {K:PySem.W.Frag} {mg:Str->Option Value} {base:Heap} {N ps:List Str} {qual:Str} {scope:Scope} {f:Addr} {cd:Value} {A:Around} {outer:List Env} {s s1:Shared} {H:Hp} {E:XK} {us:List Value} {vs:List V}
  (S:FnScope N ps scope) (hd:A.handled=none) (e0:Env0 P w K mg base A outer s H) (hl:vs.length=ps.length) (r:Bd vs us)
  (x:InCallC s s.heap.objs.size (bindL (envOfC qual scope s.heap.objs.size f cd).kindOf (ps.zip us) λ_=>none) (cellsFrom (s.heap.objs.size+1) scope.names []) (bindC (envOfC qual scope s.heap.objs.size f cd).kindOf (ps.zip us) λ_=>none) s1) :
  Inv (A4 CX P w K mg base N qual scope f cd A outer s H E) [] (start N vs) H s1:=by
 have hpl:ps.length<=N.length:=by have:=congrArg List.length S.pre;rw[bY] at this;omega
 obtain⟨h1,tk,rfl,hk⟩:=x.done;have noA:∀b:Addr,b∉(A4 CX P w K mg base N qual scope f cd A outer s H E).ex:=λb z=>absurd (show b∈([]:List Addr) from z) (by simp)
 refine⟨⟨e0.mod,S.kind,rfl,rfl,aD _,λy z c h1 h2=>?_,λy hy=>?_,λy c _ h=>?_,λ_=>hd,Around.frames_deeper e0.frames,.inr ⟨rfl,rfl⟩,λb z=>absurd z (noA b),e0.bs,e0.bsz,λb _ _=>noA b,λb z=>absurd z (noA b),e0.funs,e0.frf⟩,
  rfl,e0.bare,Un.kept hk,⟨_,x.toInCall.ns,λi y v h1 h2 h3=>?_⟩,λy c h=>⟨_,x.cell y c h⟩,e0.hok.fresh (aD _),λy c h=>?_,λp hp=>absurd (show p∈([]:List (Addr×Obj)) from hp) (by simp),e0.hok.kept hk,?_⟩
 ·exact name_of_addr x.apart (bS h1) (bS h2)
 ·have hy:scope.names.lookup y=some .cell\/scope.names.lookup y=some .free:=hy;rcases hy with hy|hy
  ·exact Q0 hy
  ·exact absurd rfl (S.nofree _ (bS hy))
 ·exact eV (x.above y c (bS h))
 ·have hi:i<vs.length:=by
   unfold start at h2
   by_cases hi:i<vs.length
   ·exact hi
   ·rw[cg (by simpa using hi)] at h2;rw[List.getElem?_replicate] at h2
    split at h2<;>cases h2
  have ha:vs[i]?=some v:=by
   unfold start at h2;rw[cn (by simpa using hi),aQ] at h2;cases e:vs[i]? with
   |none=>rw[e] at h2;cases h2
   |some a=>rw[e] at h2;cases h2;rfl
  obtain⟨u,hu,rv⟩:=r.get ha;have hp:ps[i]?=some y:=by
   rw[<-S.pre,List.getElem?_take_of_lt (by omega)];exact h1
  have ndP:ps.Nodup:=by rw[<-S.pre];exact S.nd.sublist (eX _ _)
  refine⟨u,rv,?_⟩;rcases S.par y (bD hp) with k|k
  ·exact .inl ⟨k,OG ndP hp hu k⟩
  ·obtain⟨c,e⟩:=Q0 (n:=s.heap.objs.size+1) k;refine .inr ⟨.inl k,c,e,?_⟩;have q:=x.cell y c e;rw[Oc ndP hp hu (by show scope.names.lookup y≠_;rw[k];decide)] at q;exact q
 ·exact e0.hok.fresh (eV (x.above y c (bS h)))
 ·unfold start;show _=N.length;rw[aM,ax,List.length_replicate];omega
theorem VM {CX:SE} {P:Program} {w:World} {K:PySem.W.Frag} {mg:Str->Option Value} {base:Heap} {k:Nat} {f:Addr} {name qual:Str} {params:Arguments} {body:List Stmt} {scope:Scope} {dV kV doc pm cdv ct oc:Value} {an od:Option Addr}
  {osl:Array (Option Value)} {N ps:List Str} {sp:Sp} (lk:K.lookup f=some ⟨oc,od,.func (PySem.W.fnOf name qual params body scope dV kV doc pm an cdv ct),osl⟩) (hcd:PySem.W.codeIn K cdv qual=true) (S:FnScope N ps scope)
  (len:∀vs H Q E,sp vs H Q E->vs.length=ps.length)
  (hbody:∀(A:Around) (outer:List Env) (s:Shared) (H:Hp) (vs:List V) (Q:VK) (E:XK),Room k (A.deeper (envOfC qual scope s.heap.objs.size f cdv))->sp vs H Q E->
   ∃t,NG (A4 CX P w K mg base N qual scope f cdv A outer s H E) body t/\t { nx:=λ_ H'=>Q .non H',rt:=Q } (start N vs) H) :
  FnOk P w K mg base CX (k+1) f (PySem.W.fnOf name qual params body scope dV kV doc pm an cdv ct) ps sp:=by
 refine⟨len,λA outer s H args us vs Q E hr e0 hb r hsp=>?_⟩;have hl:=len _ _ _ _ hsp;have KX:K.In s.heap:=e0.mod.kin.keeps λb o e=>(e0.bs b o e).1
 have lim:s.heap.NoLimit:=e0.mod.nolimit.keeps λb o e=>(e0.bs b o e).1
 have hkind:∀y∈ps.zip us,scope.names.lookup y.1=some .local\/(scope.names.lookup y.1=some .cell/\((cellsFrom (s.heap.objs.size+1) scope.names []).lookup y.1).isSome=true):=λ⟨n,v⟩ hy=>by
  rcases S.par n (cW hy).1 with q|q
  ·exact .inl q
  ·exact .inr ⟨q,dS _ _ _ (.inl q)⟩
 refine codeAny_call_function hr.depth (KX _ _ lk) rfl S.co S.gen rfl (PySem.W.codeRec_of KX hcd) (hb _ _ _ _ ?_);refine gu S.kind hkind λenv he s1 x=>?_
 subst he;refine⟨lim.keeps x.toInCall.keep,codeAny_func ?_⟩;obtain⟨t,ht,hq⟩:=hbody A outer s H vs Q E (hr.deeper _) hsp;have I:Inv (A4 CX P w K mg base N qual scope f cdv A outer s H E) [] (start N vs) H s1:=Ol S hr.hd e0 hl r x;refine bf (ht [] s1 (start N vs) H _ I hq) (λfl s' hs=>?_) λe s' hs=>hs
 have fin:∀{σ':St} {H':Hp} {v:V} {u:Value},Inv (A4 CX P w K mg base N qual scope f cdv A outer s H E) [] σ' H' s'->RelV v u->Q v H'->CE outer P w H s Q u s':=
  λ{σ' H' v u} J rv q=>⟨v,H',J.os,J.bare,J.base,J.hok,rv,q⟩
 cases fl with
 |ret u=>
  obtain⟨v,σ',H',J,rv,q⟩:=hs;exact fin J rv q
 |next=>
  obtain⟨σ',H',J,q⟩:=hs;exact fin (v:=V.non) (u:=Value.none) J rfl q
 |brk=>
  obtain⟨_,_,_,q⟩:=hs;exact False.elim q
 |cont=>
  obtain⟨_,_,_,q⟩:=hs;exact False.elim q
section
variable {X:Cx}{x:Str}{p pos:Pos}{e:Expr}{es:List Expr}{t:TA}{id T:String}{r:List V->Hp->VK->Prop}
def Z7 (r:List V->Hp->VK->Prop)(t:TA):TE:=λσ H Q=>t σ H λvs H1=>r vs H1 Q
theorem A0 (hc:GR X (.builtin id) r) (hg:Gl X x) (hm:X.mg x=none) (hv:bootBuiltins x=some (.builtin id)) (ha:PA X (e::es) t) (hn:x≠"__name__":=by decide) (hdb:(x == ("__debug__":Str))=false:=by decide)
  (he:starEach (e::es) X.env=(false,eval e X.env)::starEach es X.env:=by rfl) (hpl:(backTo pos (starEach es X.env)).any (·.1)=false:=by rfl):PE X (.Call (.Name x p) (e::es) [] pos) (Z7 r t):=by
 intro pins s σ H Q I h;refine bZ (Kz I hg hm hv ?_ hn hdb);exact PyProof.Rows.callWith_builtin1 (Cq (ha pos pins s σ H _ I h) λus s1 ⟨vs,H1,I1,r1,q1⟩=>hc pins s1 σ H1 vs us Q I1 r1 q1) he hpl
theorem GL (hc:GR X (.type T) r) (hg:Gl X x) (hm:X.mg x=none) (hv:bootBuiltins x=some (.type T)) (ha:PA X (e::es) t) (hn:x≠"__name__":=by decide) (hdb:(x == ("__debug__":Str))=false:=by decide)
  (he:starEach (e::es) X.env=(false,eval e X.env)::starEach es X.env:=by rfl) (hpl:(backTo pos (starEach es X.env)).any (·.1)=false:=by rfl):PE X (.Call (.Name x p) (e::es) [] pos) (Z7 r t):=by
 intro pins s σ H Q I h;refine bZ (Kz I hg hm hv ?_ hn hdb);exact fG (Cq (ha pos pins s σ H _ I h) λus s1 ⟨vs,H1,I1,r1,q1⟩=>hc pins s1 σ H1 vs us Q I1 r1 q1) he hpl
end
end L2
namespace HT
open PySem PyProof.Rows
section
variable {prog:Program}{w:World}{A:Around}{E:Value->Shared->Prop}{s:Shared}
theorem WZ {t b:Addr} {vs ws:List Value} {Q:Value->Shared->Prop} (ht:IsTup s.heap t vs.toArray) (hb:IsTup s.heap b ws.toArray) (hv:vs≠[])
  (h1:ws=[]->Q (.ref t) s) (h2:ws≠[]->Q (.ref s.heap.objs.size) { s with heap:=s.heap.push { cls:=.type "tuple",data:=.seq (vs++ws).toArray } })
  (hsz:vs.length+ws.length<=sizeLine):wpAny (model prog w) A (binaryOp .Add (.ref t) (.ref b)) Q E s:=by
 obtain⟨⟨cls,dd,data,sl⟩,ho,hc,n,hd⟩:=id ht;obtain⟨⟨cls2,dd2,data2,sl2⟩,ho2,hc2,n2,hd2⟩:=id hb;simp only at hc hd hc2 hd2;subst hc hd hc2 hd2;have e:vs.toArray++ws.toArray=(vs++ws).toArray:=by simp
 by_cases hw:ws=[]
 ·exact fJ ⟨_,ho,rfl⟩ ⟨_,ho2,rfl⟩ fR gH dU dM (dF _ _)
   (tuple_addW1 t b vs.toArray ws.toArray n n2 dd dd2 sl sl2 (by simpa using hv) (by simp[hw])) ⟨ho,ho2,h1 hw⟩
 ·refine fJ ⟨_,ho,rfl⟩ ⟨_,ho2,rfl⟩ fR gH dU dM (dF _ _)
   (tuple_addW2 t b vs.toArray ws.toArray n n2 dd dd2 sl sl2 (by simpa using hv) (by simpa using hw) (by rw[aY,aY];exact hsz)) ⟨ho,ho2,?_⟩
  rw[e];exact h2 hw
def EH (n d:Nat):Option Int->Nat
 |none=>d
 |some v=>if v<0 then(v+(n:Int)).toNat else min v.toNat n
theorem Qm (n d:Nat):EH n d none=d:=rfl
theorem Mc (n d k:Nat):EH n d (some (k:Int))=min k n:=by
 show(if(k:Int)<0 then((k:Int)+(n:Int)).toNat else min (k:Int).toNat n)=min k n;rw[aF (by omega),cO]
theorem XQ (n d:Nat)(hd:d<=n)(o:Option Int):EH n d o<=n:=by
 cases o with
 |none=>exact hd
 |some v=>
  show(if v<0 then(v+(n:Int)).toNat else min v.toNat n)<=n
  by_cases hv:v<0
  ·rw[aI hv];omega
  ·rw[aF hv];exact Nat.min_le_right _ _
theorem Sv (v:Int)(n d:Nat):(if v<0 then max (v+(n:Int)) 0 else min v (n:Int))=((EH n d (some v):Nat):Int):=by
 show(if v<0 then max (v+(n:Int)) 0 else min v (n:Int))=(((if v<0 then(v+(n:Int)).toNat else min v.toNat n):Nat):Int)
 by_cases hv:v<0
 ·simp only[if_pos hv];omega
 ·simp only[if_neg hv];omega
theorem Q9 (lo hi:Option Int)(n:Nat):Builtin.Slice.sliceAdjust lo hi 1 (n:Int)=(((EH n 0 lo:Nat):Int),((EH n n hi:Nat):Int)):=by
 have h1:¬((1:Int)<0):=by omega
 unfold Builtin.Slice.sliceAdjust;simp only[h1,if_false];refine Prod.ext ?_ ?_
 ·cases lo with
  |none=>rfl
  |some v=>exact Sv v n 0
 ·cases hi with
  |none=>rfl
  |some v=>exact Sv v n n
theorem Rl (i j:Nat):Builtin.Slice.slicePlaces (i:Int) (j:Int) 1=j-i:=by
 unfold Builtin.Slice.slicePlaces;have h1:(1:Int)>0:=by omega
 simp only[h1,if_true,Int.ediv_one]
 split<;>omega
theorem NC {v:Value}{o:Option Int}{Q:Option Int->Shared->Prop}(p:IsPart v o)(h:Q o s):wpAny (model prog w) A (Builtin.Slice.slicePartIndex v) Q E s:=by
 cases p with
 |none=>exact slicePart_none h
 |int i t=>exact slicePart_int h
theorem KM {sl:Addr} {vl vu:Value} {lo hi:Option Int} {n:Nat} {Q:Int×Int×Nat->Shared->Prop} (hs:s.heap.IsSliceOf sl vl vu .none) (pl:IsPart vl lo) (pu:IsPart vu hi)
  (h:Q (((EH n 0 lo:Nat):Int),1,EH n n hi-EH n 0 lo) s):wpAny (model prog w) A (Builtin.Slice.sliceApplied (.ref sl) (pure (n:Int))) Q E s:=by
 obtain⟨os,hos,hcs,hds⟩:=id hs;unfold Builtin.Slice.sliceApplied Builtin.Slice.sliceFields;refine ay (ay (wpAny_field hos hds (x:=vl) rfl (ay (wpAny_field hos hds (x:=vu) rfl (ay (wpAny_field hos hds (x:=.none) rfl (aH ?_)))))));refine ay (slicePart_none ?_);show wpAny _ _ (if((1:Int) == 0)=true then _ else _) _ _ s;rw[aF (by decide)];refine ay (NC pl (ay (NC pu (ay (aH ?_)))));show wpAny _ _ (match Builtin.Slice.sliceAdjust lo hi 1 (n:Int) with|(lo,hi)=>pure (lo,(1:Int),Builtin.Slice.slicePlaces lo hi 1)) _ _ s;rw[Q9 lo hi n];show wpAny _ _ (pure (((EH n 0 lo:Nat):Int),(1:Int),Builtin.Slice.slicePlaces ((EH n 0 lo:Nat):Int) ((EH n n hi:Nat):Int) 1)) _ _ s;rw[Rl];exact aH h
theorem UD (xs:Array Value)(i k:Nat):((List.range k).filterMap λ(m:Nat)=>xs[((i:Int)+(m:Int)*1).toNat]?).toArray=((xs.toList.drop i).take k).toArray:=by
 have e:(λ(m:Nat)=>xs[((i:Int)+(m:Int)*1).toNat]?)=λm=>xs[i+m]?:=by
  funext m
  have:((i:Int)+(m:Int)*1).toNat=i+m:=by omega
  rw[this]
 rw[e];have:=pick_run xs i k;rw[List.filterMap_map] at this;have e2:((λx=>xs[x]?)∘λx=>i+x)=λm=>xs[i+m]?:=rfl
 rw[e2] at this;rw[this]
theorem JV {t sl:Addr} {items:Array Value} {vl vu:Value} {lo hi:Option Int} {Q:Value->Shared->Prop} (ht:IsTup s.heap t items) (hs:s.heap.IsSliceOf sl vl vu .none) (pl:IsPart vl lo) (pu:IsPart vu hi)
  (hw:¬(EH items.size 0 lo=0/\EH items.size items.size hi=items.size))
  (h:Q (.ref s.heap.objs.size) { s with heap:=s.heap.push { cls:=.type "tuple",data:=.seq ((items.toList.drop (EH items.size 0 lo)).take (EH items.size items.size hi-EH items.size 0 lo)).toArray } })
  (hsz:items.size<=sizeLine):wpAny (model prog w) A (getItem (.ref t) (.ref sl)) Q E s:=by
 have htake:sizeOk (.seq ((items.toList.drop (EH items.size 0 lo)).take (EH items.size items.size hi-EH items.size 0 lo)).toArray):=by
  show((items.toList.drop (EH items.size 0 lo)).take (EH items.size items.size hi-EH items.size 0 lo)).toArray.size<=sizeLine;rw[aY,bY,cA,eL];omega
 have hj:EH items.size items.size hi<=items.size:=XQ _ _ (aD _) hi;obtain⟨os,hos,hcs,hds⟩:=id hs;have hTs:s.TypeIs (.ref sl) "slice":=⟨os,hos,hcs⟩
 unfold getItem
 try with_reducible refine bL ?_
 first|refine ay (aH ?_)|skip
 refine ay (wpAny_sequenceKey ht.typeIs (by decide) ?_);refine ay (wpAny_callSpecial?_slot (name:=Str.ofString "__getitem__") ht.typeIs fc
  (wpAny_call_entry fc ht.typeIs entry_tuple_getitem ?_ (args_tuple_getitem _ _)))
 show wpAny _ _ (Builtin.Tuple.tupleItemsOf (.ref t) >>= _) _ _ s;refine ay (tupleItemsOf_ ht ?_);refine ay (fH hTs ?_);rw[aI (by decide)];refine ay (KM hs pl pu ?_);have hno:¬((((EH items.size 0 lo:Nat):Int) == 0&&(1:Int) == 1&&(EH items.size items.size hi-EH items.size 0 lo) == items.size)=true):=by
  intro q;rw[ba,ba] at q;have q1:((EH items.size 0 lo:Nat):Int)=0:=eq_of_beq q.1.1;have q2:EH items.size items.size hi-EH items.size 0 lo=items.size:=eq_of_beq q.2;exact hw ⟨by omega,by omega⟩
 show wpAny _ _ (if(((EH items.size 0 lo:Nat):Int) == 0&&(1:Int) == 1&&(EH items.size items.size hi-EH items.size 0 lo) == items.size)=true then _ else _) _ _ s;rw[aF hno,UD]
 first
  |exact ay (m:=Builtin.Tuple.tupleExact _) (cR (aH ⟨_,rfl,aH h⟩) htake)
  |exact ay (m:=Builtin.Tuple.tupleExact _) (cR (ay (aH (aH ⟨_,rfl,aH h⟩))) htake)
  |exact ay (ay (m:=Builtin.Tuple.tupleExact _) (cR (aH (aH ⟨_,rfl,aH h⟩)) htake))
  |exact ay (ay (m:=Builtin.Tuple.tupleExact _) (cR (aH ⟨_,rfl,aH h⟩) htake))
end
end HT
namespace L2
open PySem PySem.Spec PyProof.Rows
abbrev TO:=St->Hp->(Option Int->Hp->Prop)->Prop
def PO (X:Cx)(e:Option Expr)(t:TO):Prop:=
 ∀(pins:List (Addr×Obj)) (s:Shared) (σ:St) (H:Hp) (Q:Option Int->Hp->Prop),Inv X pins σ H s->t σ H Q->
  wpAny (model X.prog X.w) X.A (evalPart e X.env) (λu s'=>∃o H',Inv X pins σ H' s'/\IsPart u o/\Q o H') X.xe s
def Wk:TO:=λ_ H Q=>Q none H
def YT (t:TE):TO:=λσ H Q=>t σ H λx H1=>∃i,x=.int i/\Q (some i) H1
section
variable {X:Cx}{e:Expr}{te:TE}{lo hi:Option Expr}{tl th:TO}{pos p2:Pos}
theorem G6:PO X none Wk:=by
 intro pins s σ H Q I h;rw[evalPart_none];exact aH ⟨none,H,I,.none,h⟩
theorem FG (h:PE X e te):PO X (some e) (YT te):=by
 intro pins s σ H Q I hw;rw[evalPart_some];refine Cq (h pins s σ H _ I hw) λu s1 ⟨x,H1,I1,r1,q1⟩=>?_
 obtain⟨i,rfl,q⟩:=q1;obtain⟨t,rfl⟩:=r1;exact⟨some i,H1,I1,.int i t,q⟩
def Zr (X:Cx)(r:V->Option Int->Option Int->Hp->VK->Prop):Prop:=
 ∀(pins:List (Addr×Obj)) (s:Shared) (σ:St) (H:Hp) (x:V) (v vl vu:Value) (lo hi:Option Int) (sl:Addr) (Q:VK),Inv X pins σ H s->RelV x v->s.heap.IsSliceOf sl vl vu .none->IsPart vl lo->IsPart vu hi->r x lo hi H Q->
  ∃T id,typeLookup (.type T) "__getitem__"=pure (some (.builtin id))/\s.TypeIs v T/\wpAny (model X.prog X.w) X.A (getItem v (.ref sl)) (EP X pins σ Q) X.xe s
def ai (r:V->Option Int->Option Int->Hp->VK->Prop)(te:TE)(tl th:TO):TE:=λσ H Q=>te σ H λx H1=>tl σ H1 λl H2=>th σ H2 λu H3=>r x l u H3 Q
theorem Fk {r:V->Option Int->Option Int->Hp->VK->Prop}(hr:Zr X r)(he:PE X e te)(hl:PO X lo tl)(hu:PO X hi th):PE X (.Subscript e (.Slice lo hi none p2) pos) (ai r te tl th):=by
 intro pins s σ H Q I h;refine Subscript_ (Cq (he pins s σ H _ I h) λv s1 ⟨x,H1,I1,r1,q1⟩=>?_);refine wpAny_Slice (Cq (hl pins s1 σ H1 _ I1 q1) λvl s2 ⟨l,H2,I2,pl,q2⟩=>Cq (hu pins s2 σ H2 _ I2 q2) λvu s3 ⟨u,H3,I3,pu,q3⟩=>?_);rw[evalPart_none];refine aH ?_;have I4:Inv X pins σ H3 { s3 with heap:=s3.heap.push { cls:=.type "slice",data:=.fields #[vl,vu,.none] } }:=I3.kept (t':=s3.toks) λb ob q=>az _ q
 obtain⟨T,id,hT,ht,hg⟩:=hr pins { s3 with heap:=s3.heap.push { cls:=.type "slice",data:=.fields #[vl,vu,.none] } } σ H3 x v vl vu l u s3.heap.objs.size Q I4 r1 (Heap.IsSliceOf.new ..) pl pu q3;show wpAny (model X.prog X.w) X.A (subscriptTail e (.Slice lo hi none p2) v (.ref s3.heap.objs.size)) (EP X pins σ Q) X.xe { s3 with heap:=s3.heap.push { cls:=.type "slice",data:=.fields #[vl,vu,.none] } };exact tail_any (ops:=[.ref s3.heap.objs.size,v]) ht hT hg (by with_unfolding_all rfl)
def JG (xs:List V)(lo hi:Option Int):List V:=(xs.drop (HT.EH xs.length 0 lo)).take (HT.EH xs.length xs.length hi-HT.EH xs.length 0 lo)
theorem LO (xs:List V)(lo hi:Option Int):(JG xs lo hi).length<=xs.length:=by
 unfold JG;rw[bY,cA];omega
def ZS (K:PySem.W.Frag):V->Option Int->Option Int->Hp->VK->Prop:=λx lo hi H Q=>∃a xs,x=.ref a/\AS K H a xs/\
 ¬(HT.EH xs.length 0 lo=0/\HT.EH xs.length xs.length hi=xs.length)/\∀p,H p=none->Q (.ref p) (upd H p (.tup (JG xs lo hi)))
theorem RH:Zr X (ZS X.K):=by
 intro pins s σ H x v vl vu lo hi sl Q I rx hs pl pu h;obtain⟨a,xs,rfl,hx,hw,q⟩:=h;cases rx;obtain⟨its,r,ht,hz⟩:=I.tuple hx;have hlen:its.toArray.size=xs.length:=by rw[aY];exact r.length.symm
 refine⟨"tuple",_,PyProof.Rows.slot_tuple_getitem.lookup,ht.typeIs,?_⟩;refine HT.JV ht hs pl pu (by rw[hlen];exact hw) ?_ (by rw[hlen];exact hz);rw[hlen];refine⟨.ref s.heap.objs.size,_,I.laid (t':=s.toks) (o:=.tup (JG xs lo hi)) (λb ob q=>az _ q) (aD _) ?_,rfl,q _ (I.hok.fresh (aD _))⟩;exact⟨bj (LO xs lo hi) hz,_,(r.drop (HT.EH xs.length 0 lo)).take (HT.EH xs.length xs.length hi-HT.EH xs.length 0 lo),NT.new _ _⟩
def Zl (K:PySem.W.Frag):R2:=λx y H Q=>∃a b xs ys,x=.ref a/\y=.ref b/\AS K H a xs/\AS K H b ys/\xs≠[]/\xs.length+ys.length<=sizeLine/\
 (ys=[]->Q (.ref a) H)/\(ys≠[]->∀p,H p=none->Q (.ref p) (upd H p (.tup (xs++ys))))
theorem Bd.nil_iff {xs:List V}{us:List Value}(r:Bd xs us):us=[]↔xs=[]:=by
 cases r with
 |nil=>simp
 |cons _ _=>simp
theorem WX:JS X (binaryOp .Add) (Zl X.K):=by
 intro pins s σ H x y v u Q I rx ry h;obtain⟨a,b,xs,ys,rfl,rfl,ha,hb,hx,hz,q1,q2⟩:=h;cases rx;cases ry;obtain⟨its,r1,p1,_⟩:=I.tuple ha;obtain⟨its2,r2,p2,_⟩:=I.tuple hb;refine HT.WZ p1 p2 (λz=>hx (r1.nil_iff.mp z)) (λz=>⟨.ref a,H,I,rfl,q1 (r2.nil_iff.mp z)⟩) (λz=>?_) (by rw[<-r1.length,<-r2.length];exact hz);refine⟨.ref s.heap.objs.size,_,I.laid (t':=s.toks) (o:=.tup (xs++ys)) (λb ob q=>az _ q) (aD _) ?_,rfl,q2 (λw=>z (r2.nil_iff.mpr w)) _ (I.hok.fresh (aD _))⟩;exact⟨by rw[aM];exact hz,_,r1.append r2,NT.new _ _⟩
end
def Yc (n:Nat)(i:Int):Option Nat:=if 0<=i then(if i<n then some i.toNat else none) else if -(n:Int)<=i then some (i+n).toNat else none
def RN {α:Type}(xs:List α)(i:Int):Option α:=(Yc xs.length i).bind λj=>xs[j]?
theorem WS {n:Nat}{i:Int}{j:Nat}(h:Yc n i=some j):seqIndex? i n=some j/\j<n/\-(n:Int)<=i/\i<n:=by
 unfold Yc at h
 by_cases h0:0<=i
 ·rw[aI h0] at h
  by_cases h1:i<n
  ·rw[aI h1] at h;have e:i.toNat=j:=br h;exact⟨by rw[seqIndex_of h0 h1,e],by omega,by omega,h1⟩
  ·rw[aF h1] at h;cases h
 ·rw[aF h0] at h
  by_cases h1:-(n:Int)<=i
  ·rw[aI h1] at h;have e:(i+n).toNat=j:=br h;exact⟨by rw[seqIndex_neg (by omega) h1,e],by omega,h1,by omega⟩
  ·rw[aF h1] at h;cases h
theorem Po {α:Type}{xs:List α}{i:Int}{v:α}(h:RN xs i=some v):∃j,seqIndex? i xs.length=some j/\xs[j]?=some v/\j<xs.length/\-(xs.length:Int)<=i/\i<xs.length:=by
 unfold RN at h;cases e:Yc xs.length i with
 |none=>rw[e] at h;cases h
 |some j=>
  rw[e] at h;obtain⟨h1,h2,h3,h4⟩:=WS e;exact⟨j,h1,h,h2,h3,h4⟩
theorem Af {α:Type}{xs:List α}{j:Nat}{v:α}(h:xs[j]?=some v):RN xs (j:Int)=some v:=by
 have hj:j<xs.length:=(bh.mp h).1;have e:Yc xs.length (j:Int)=some j:=by
  unfold Yc;rw[aI (by omega),aI (by omega)];simp
 unfold RN;rw[e];exact h
def Wy (b:Expr):Prop:=∀o i,subscripted b false o i=operate [o,i] (getItem o i)
def YB (X:Cx)(r:R2):Prop:=
 ∀(value slice:Expr) (pins:List (Addr×Obj)) (s:Shared) (σ:St) (H:Hp) (x y:V) (v u:Value) (Q:VK),Inv X pins σ H s->RelV x v->RelV y u->r x y H Q->
  subscripted slice false v u=operate [v,u] (getItem v u)->wpAny (model X.prog X.w) X.A (subscriptTail value slice v u) (EP X pins σ Q) X.xe s
def V5 (X:Cx)(id:String)(r:V->List V->Hp->VK->Prop):Prop:=
 ∀(pins:List (Addr×Obj)) (s:Shared) (σ:St) (H:Hp) (x:V) (xs:List V) (v:Value) (us:List Value) (Q:VK),Inv X pins σ H s->RelV x v->Bd xs us->r x xs H Q->
  wpAny (model X.prog X.w) X.A (call (.builtin id) (v::us)) (EP X pins σ Q) X.xe s
section
variable {X:Cx}{a b:Expr}{ta tb:TE}{pos:Pos}
theorem Ao {r:R2}(hr:YB X r)(ha:PE X a ta)(hb:PE X b tb)(hs:Wy b):PE X (.Subscript a b pos) (YC r ta tb):=by
 intro pins s σ H Q I h;exact Subscript_ (XM ha hb I h λv u s2 x y H2 I2 rx ry q=>hr a b pins s2 σ H2 x y v u Q I2 rx ry q (hs _ _))
def YV (K:PySem.W.Frag):R2:=λx y H Q=>∃p xs i v,x=.ref p/\y=.int i/\A7 K H p xs/\RN xs i=some v/\Q v H
def Zk (K:PySem.W.Frag):R2:=λx y H Q=>∃p xs i v,x=.ref p/\y=.int i/\AS K H p xs/\RN xs i=some v/\Q v H
def ZA:R2:=λx y H Q=>∃z i c,x=.str z/\y=.int i/\z.length<=sizeLine/\RN z.cps.toList i=some c/\Q (.str ⟨#[c]⟩) H
theorem Bx:YB X (YV X.K):=by
 intro value slice pins s σ H x y v u Q I rx ry h hs;obtain⟨p,xs,i,z,rfl,rfl,hq,he,q⟩:=h;cases rx;obtain⟨t,rfl⟩:=ry;obtain⟨its,r,pl,hz⟩:=I.list hq;obtain⟨j,h1,h2,h3,h4,h5⟩:=Po he;obtain⟨w,ew,rw'⟩:=r.get h2;have hl:=r.length;have hn:=M7;have fin:EP X pins σ Q w s:=⟨z,H,I,rw',q⟩
 by_cases h0:0<=i
 ·have hj:i.toNat=j:=by
   rw[seqIndex_of h0 h5] at h1;exact br h1
  exact item_listR pl.isList h0 (by omega) (by rw[hj];simpa using ew) fin hs
 ·have hj:(i+(its.toArray.size:Int)).toNat=j:=by
   rw[seqIndex_neg (by omega) h4] at h1;rw[aY,<-hl];exact br h1
  exact fk (x:=w) pl.isList.typeIs slot_list_getitem.lookup
   (wpAny_getItem_list_neg (Q:=λr s'=>r=w/\EP X pins σ Q r s') pl.isList (by omega) (by rw[aY]<;>omega) (by omega) (by rw[hj];simpa using ew) ⟨rfl,fin⟩) hs
theorem An:YB X (Zk X.K):=by
 intro value slice pins s σ H x y v u Q I rx ry h hs;obtain⟨p,xs,i,z,rfl,rfl,hq,he,q⟩:=h;cases rx;obtain⟨t,rfl⟩:=ry;obtain⟨its,r,pl,hz⟩:=I.tuple hq;obtain⟨j,h1,h2,h3,h4,h5⟩:=Po he;obtain⟨w,ew,rw'⟩:=r.get h2;have hl:=r.length;have hn:=M7;have fin:EP X pins σ Q w s:=⟨z,H,I,rw',q⟩
 exact fk (x:=w) pl.typeIs slot_tuple_getitem.lookup
  (getItem_tuple (j:=j) (Q:=λr s'=>r=w/\EP X pins σ Q r s') pl (by omega) (by omega) (by rw[aY,<-hl];exact h1) (by simpa using ew) ⟨rfl,fin⟩) hs
theorem Xs:YB X ZA:=by
 intro value slice pins s σ H x y v u Q I rx ry h hs;obtain⟨z,i,c,rfl,rfl,hz,he,q⟩:=h;obtain⟨t,rfl⟩:=rx;obtain⟨t',rfl⟩:=ry;obtain⟨j,h1,h2,h3,h4,h5⟩:=Po he;have hl:z.cps.toList.length=z.length:=by simp[Str.length]
 rw[hl] at h1 h4 h5;have hn:=M7;exact tail_any (fu s z t) slot_str_getitem.lookup (getItem_str (c:=c) (by
  have e1:decide (i < -(2^63:Int))=false:=aS (by omega);have e2:decide (i≥2^63)=false:=aS (by omega);rw[e1,e2,Bool.or_false]) (by rw[h1];simpa using h2) ⟨.str ⟨#[c]⟩,H,I.tok _,⟨_,rfl⟩,q⟩) hs
theorem O8 (lo hi:Option Int)(n:Nat):(sliceBounds lo hi none n).1=((HT.EH n 0 lo:Nat):Int)/\(sliceBounds lo hi none n).2.1=((HT.EH n n hi:Nat):Int)/\(sliceBounds lo hi none n).2.2=1:=by
 refine⟨?_,?_,rfl⟩
 ·cases lo with
  |none=>simp[sliceBounds,HT.EH]
  |some i=>
   simp only[sliceBounds,HT.EH,Option.getD_none,show(1:Int)>0 by decide,if_true]
   by_cases h:i<0
   ·simp only[h,if_true]<;>omega
   ·simp only[h,if_false]<;>omega
 ·cases hi with
  |none=>simp[sliceBounds,HT.EH]
  |some i=>
   simp only[sliceBounds,HT.EH,Option.getD_none,show(1:Int)>0 by decide,if_true]
   by_cases h:i<0
   ·simp only[h,if_true]<;>omega
   ·simp only[h,if_false]<;>omega
theorem N6 (its:List Value)(lo hi:Option Int):slicePick its.toArray lo hi none=((its.drop (HT.EH its.length 0 lo)).take (HT.EH its.length its.length hi-HT.EH its.length 0 lo)).toArray:=by
 obtain⟨h1,h2,h3⟩:=O8 lo hi its.toArray.size;unfold slicePick;rw[h1,h2,h3];simp only[sliceRange_one,pick_run,List.size_toArray]<;>rfl
def ZY (K:PySem.W.Frag):V->Option Int->Option Int->Hp->VK->Prop:=λx lo hi H Q=>∃a xs,x=.ref a/\A7 K H a xs/\∀p,H p=none->Q (.ref p) (upd H p (.lst (JG xs lo hi)))
theorem PN:Zr X (ZY X.K):=by
 intro pins s σ H x v vl vu lo hi sl Q I rx hs pl pu h;obtain⟨a,xs,rfl,hx,q⟩:=h;cases rx;obtain⟨its,r,ht,hz⟩:=I.list hx;have hlen:=r.length;refine⟨"list",_,slot_list_getitem.lookup,ht.isList.typeIs,?_⟩;refine wpAny_getItem_list_slice ht.isList hs pl pu .none (by simp) ?_ (by rw[aY]<;>omega);rw[N6,<-hlen];refine⟨.ref s.heap.objs.size,_,I.laid (t':=s.toks) (o:=.lst (JG xs lo hi)) (λb ob q=>az _ q) (aD _) ?_,rfl,q _ (I.hok.fresh (aD _))⟩;exact⟨bj (LO xs lo hi) hz,_,0,(r.drop (HT.EH xs.length 0 lo)).take (HT.EH xs.length xs.length hi-HT.EH xs.length 0 lo),aN _ rfl⟩
def GI:V->Bool
 | .non=>true
 | .bl _=>true
 | .int _=>true
 | .str _=>true
 |_=>false
def P6:V->V->Bool
 | .non,.non=>true
 | .bl a,.bl b=>a == b
 | .bl a,.int b=>(if a then 1 else 0) == b
 | .int a,.bl b=>a == (if b then 1 else 0)
 | .int a,.int b=>a == b
 | .str a,.str b=>a == b
 |_,_=>false
theorem Pm {A:Around}{s:Shared}{y x:V}{u v:Value}(ry:RelV y u)(rx:RelV x v)(fy:GI y=true)(fx:GI x=true):SeqAt.EqAt A s u v (P6 y x):=by
 cases y with
 |non=>
  cases ry;cases x with
  |non=>cases rx;exact dB _
  |bl b=>cases rx;exact SeqAt.EqAt.none_bool b
  |int b=>obtain⟨t,rfl⟩:=rx;exact SeqAt.EqAt.none_int b t
  |str b=>obtain⟨t,rfl⟩:=rx;exact SeqAt.EqAt.none_str b t
  |_=>exact absurd (show false=true from fx) aJ
 |bl a=>
  cases ry;cases x with
  |non=>cases rx;exact SeqAt.EqAt.bool_none a
  |bl b=>cases rx;exact SeqAt.EqAt.bool_bool a b
  |int b=>obtain⟨t,rfl⟩:=rx;exact SeqAt.EqAt.bool_int a b t
  |str b=>obtain⟨t,rfl⟩:=rx;exact SeqAt.EqAt.bool_str a b t
  |_=>exact absurd (show false=true from fx) aJ
 |int a=>
  obtain⟨t',rfl⟩:=ry;cases x with
  |non=>cases rx;exact SeqAt.EqAt.int_none a t'
  |bl b=>cases rx;exact SeqAt.EqAt.int_bool a t' b
  |int b=>obtain⟨t,rfl⟩:=rx;exact SeqAt.EqAt.int_int a t' b t
  |str b=>obtain⟨t,rfl⟩:=rx;exact SeqAt.EqAt.int_str a t' b t
  |_=>exact absurd (show false=true from fx) aJ
 |str a=>
  obtain⟨t',rfl⟩:=ry;cases x with
  |non=>cases rx;exact SeqAt.EqAt.str_none a t'
  |bl b=>cases rx;exact SeqAt.EqAt.str_bool a t' b
  |int b=>obtain⟨t,rfl⟩:=rx;exact SeqAt.EqAt.str_int a t' b t
  |str b=>obtain⟨t,rfl⟩:=rx;exact SeqAt.EqAt.str_str a t' b t
  |_=>exact absurd (show false=true from fx) aJ
 |_=>exact absurd (show false=true from fy) aJ
def R1 (x:V)(u:Value):Bool:=match u with
 | .none=>P6 .non x
 | .bool b=>P6 (.bl b) x
 | .int i _=>P6 (.int i) x
 | .str z _=>P6 (.str z) x
 |_=>false
theorem UB {x y:V}{u:Value}(r:RelV y u)(f:GI y=true):R1 x u=P6 y x:=by
 cases y with
 |non=>cases r;rfl
 |bl b=>cases r;rfl
 |int i=>obtain⟨t,rfl⟩:=r;rfl
 |str z=>obtain⟨t,rfl⟩:=r;rfl
 |_=>exact absurd (show false=true from f) aJ
theorem JT {x:V}:∀{xs:List V} {us:List Value},Bd xs us->xs.all GI=true->us.any (R1 x)=xs.any λy=>P6 y x
 |_,_,.nil,_=>rfl
 |y::xs,u::us,.cons r t,f=>by
  rw[fT,ba] at f;rw[eP,eP,UB r f.1,JT t f.2]
theorem HZ {A:Around}{s:Shared}{x:V}{v:Value}(rx:RelV x v)(fx:GI x=true):∀{xs:List V} {us:List Value},Bd xs us->xs.all GI=true->∀u∈us,SeqAt.EqAt A s u v (R1 x u)
 |_,_,.nil,_=>λu hu=>by cases hu
 |y::xs,u::us,.cons r t,f=>λu' hu=>by
  rw[fT,ba] at f;rcases aX.mp hu with rfl|hu
  ·rw[UB r f.1];exact Pm r rx f.1 fx
  ·exact HZ rx fx t f.2 u' hu
def Zt (x:V)(xs:List V):Bool:=xs.any λy=>P6 y x
def Zp (K:PySem.W.Frag)(neg:Bool):R2:=λx y H Q=>∃p xs,y=.ref p/\(A7 K H p xs\/AS K H p xs)/\GI x=true/\xs.all GI=true/\Q (.bl (if neg then !Zt x xs else Zt x xs)) H
theorem Li:JS X (compareOp .In) (Zp X.K false):=by
 intro pins s σ H x y v u Q I rx ry h;obtain⟨p,xs,rfl,hq,fx,fs,q⟩:=h;cases ry;rcases hq with hq|hq
 ·obtain⟨its,r,pl,hz⟩:=I.list hq;refine SeqAt.in_listAt (R1 x) pl.isList (λw hw=>HZ rx fx r fs w (by simpa using hw)) ⟨.bl _,H,I,rfl,?_⟩;rw[show its.toArray.any (R1 x)=its.any (R1 x) by simp,JT r fs];exact q
 ·obtain⟨its,r,pl,hz⟩:=I.tuple hq;refine SeqAt.in_tupleAt (R1 x) pl (λw hw=>HZ rx fx r fs w (by simpa using hw)) ⟨.bl _,H,I,rfl,?_⟩;rw[show its.toArray.any (R1 x)=its.any (R1 x) by simp,JT r fs];exact q
theorem P0:JS X (compareOp .NotIn) (Zp X.K true):=by
 intro pins s σ H x y v u Q I rx ry h;obtain⟨p,xs,rfl,hq,fx,fs,q⟩:=h;cases ry;rcases hq with hq|hq
 ·obtain⟨its,r,pl,hz⟩:=I.list hq;refine SeqAt.notIn_listAt (R1 x) pl.isList (λw hw=>HZ rx fx r fs w (by simpa using hw)) ⟨.bl _,H,I,rfl,?_⟩;rw[show its.toArray.any (R1 x)=its.any (R1 x) by simp,JT r fs];exact q
 ·obtain⟨its,r,pl,hz⟩:=I.tuple hq;refine SeqAt.notIn_tupleAt (R1 x) pl (λw hw=>HZ rx fx r fs w (by simpa using hw)) ⟨.bl _,H,I,rfl,?_⟩;rw[show its.toArray.any (R1 x)=its.any (R1 x) by simp,JT r fs];exact q
theorem B9:GR X (.builtin "len") (λxs H Q=>∃p ys,xs=[.ref p]/\(A7 X.K H p ys\/AS X.K H p ys)/\Q (.int ys.length) H):=by
 intro pins s σ H xs us Q I r h;obtain⟨p,ys,rfl,hq,q⟩:=h;obtain⟨u,rfl,rx⟩:=vals1 r;cases rx;have hn:=M7;rcases hq with hq|hq
 ·obtain⟨its,r',pl,hz⟩:=I.list hq;have hlen:=r'.length;exact Calls.call_len_list pl.isList (by simp only[List.size_toArray]<;>omega) ⟨.int ys.length,H,I.tok _,⟨s.toks+1,by rw[aY,hlen]⟩,q⟩
 ·obtain⟨its,r',pl,hz⟩:=I.tuple hq;have hlen:=r'.length;exact len_tuple pl (by simp only[List.size_toArray]<;>omega) ⟨.int ys.length,H,I.tok _,⟨s.toks+1,by rw[aY,hlen]⟩,q⟩
theorem Hh:GR X (.builtin "len") (λxs H Q=>∃z,xs=[.str z]/\z.length<=sizeLine/\Q (.int z.length) H):=by
 intro pins s σ H xs us Q I r h;obtain⟨z,rfl,hz,q⟩:=h;obtain⟨u,rfl,t,rfl⟩:=vals1 r;have hn:=M7;exact len_str (by omega) ⟨.int z.length,H,I.tok _,⟨_,rfl⟩,q⟩
theorem Ja:GR X (.type "tuple") (λxs H Q=>∃p ys,xs=[.ref p]/\((A7 X.K H p ys/\∀l,H l=none->Q (.ref l) (upd H l (.tup ys)))\/(AS X.K H p ys/\Q (.ref p) H))):=by
 intro pins s σ H xs us Q I r h;obtain⟨p,ys,rfl,h⟩:=h;obtain⟨u,rfl,rx⟩:=vals1 r;cases rx;rcases h with⟨hq,q⟩|⟨hq,q⟩
 ·obtain⟨its,r',pl,hz⟩:=I.list hq;have hlen:=r'.length;refine call_tuple_list pl.isList (λh' kp=>?_) (by simp only[List.size_toArray]<;>omega);have I1:Inv X pins σ H { s with heap:=h' }:=I.kept (t':=s.toks) kp;have I2:Inv X pins σ (upd H h'.objs.size (.tup ys)) { s with heap:=h'.push { cls:=.type "tuple",data:=.seq its.toArray } }:=
   I1.laid (t':=s.toks) (λb o e=>az _ e) (aD _) (show Bn X.prog X.w _ _ _ (.tup ys) from⟨hz,its,r',NT.new _ _⟩)
  exact⟨.ref h'.objs.size,_,I2,rfl,q _ (I1.hok.fresh (aD _))⟩
 ·obtain⟨its,r',pl,hz⟩:=I.tuple hq;exact call_tuple_same pl ⟨.ref p,H,I,rfl,q⟩
def Z6 (K:PySem.W.Frag)(T:String)(x:V)(H:Hp):Prop:=match x with
 | .str _=>T="str"
 | .int _=>T="int"
 | .ref p=>(T="list"/\∃xs,A7 K H p xs)\/(T="tuple"/\∃o,K.lookup p=some o/\o.cls=.type "tuple"/\o.dict=none)\/
   (T="dict"/\((∃kvs,H p=some (.dK kvs))\/∃kvs,H p=some (.dT kvs)))\/(T="set"/\∃S n,H p=some (.set S n))
 |_=>False
theorem VT {pins:List (Addr×Obj)}{σ:St}{H:Hp}{s:Shared}{T:String}{x:V}{v:Value}(I:Inv X pins σ H s)(r:RelV x v)(ty:Z6 X.K T x H) :
  s.TypeIs v T/\∀a,v=.ref a->∃ob,s.heap.get? a=some ob/\ob.dict=none:=by
 cases x with
 |str z=>
  obtain⟨t,rfl⟩:=r;cases(show T="str" from ty);exact⟨fu s z t,λ_ e=>nomatch e⟩
 |int i=>
  obtain⟨t,rfl⟩:=r;cases(show T="int" from ty);exact⟨typeIs_int s i t,λ_ e=>nomatch e⟩
 |ref p=>
  cases r;rcases ty with⟨rfl,xs,hq⟩|⟨rfl,o,hk,hc,hd⟩|⟨rfl,hk⟩|⟨rfl,S,n,hk⟩
  ·obtain⟨its,_,pl,_⟩:=I.list hq;refine⟨pl.isList.typeIs,λa e=>?_⟩;cases e;obtain⟨o,n,e,c,hd,_⟩:=pl;exact⟨o,e,hd⟩
  ·refine⟨⟨o,I.kIn p o hk,hc⟩,λa e=>?_⟩;cases e;exact⟨o,I.kIn _ o hk,hd⟩
  ·have z:∃o,s.heap.get? p=some o/\o.ExactDict:=by
    rcases hk with⟨kvs,hk⟩|⟨kvs,hk⟩
    ·obtain⟨_,_,_,_,o,_,_,e,ex,_⟩:=I.hok p _ hk;exact⟨o,e,ex⟩
    ·obtain⟨_,_,_,_,o,_,_,e,ex,_⟩:=I.hok p _ hk;exact⟨o,e,ex⟩
   obtain⟨o,e,ex⟩:=z;refine⟨⟨o,e,ex.1⟩,λa e2=>?_⟩;cases e2;exact⟨o,e,ex.2.1⟩
  ·obtain⟨o,_,_,_,e,ex,_⟩:=I.hok p _ hk;refine⟨⟨o,e,ex.1⟩,λa e2=>?_⟩;cases e2;exact⟨o,e,ex.2.1⟩
 |_=>exact False.elim ty
def Z8 (K:PySem.W.Frag)(T:String)(r:V->List V->Hp->VK->Prop)(to:TE)(t:TA):TE:=λσ H Q=>to σ H λx H1=>Z6 K T x H1/\t σ H1 λxs H2=>r x xs H2 Q
variable {o e:Expr}{es:List Expr}{to:TE}{t:TA}{name:Str}{apos cpos:Pos}{T id:String}{r:V->List V->Hp->VK->Prop}
theorem Gu (pa:PlainAttrs T) (slot:Slot T name id) (hty:typeOf (.builtin id)=pure (.type "method_descriptor")) (hm:V5 X id r) (ho:PE X o to) (ha:PA X (e::es) t)
  (hbase:attributeBase o name X.env (eval o X.env)=eval o X.env:=by rfl)
  (hfew:((backTo cpos (starEach (e::es) X.env)).all (λx=>!x.1)&&(backToKw cpos (keywordEach [] X.env)).all (λx=>x.1.isSome)
   && decide ((e::es).length+([]:List Keyword).length+(if([]:List Keyword).isEmpty then 0 else 1)<30))=true:=by rfl)
  (hline:(apos.endLine == cpos.line)=true:=by rfl) (hs:starEach (e::es) X.env=(false,eval e X.env)::starEach es X.env:=by rfl) (hplain:(backTo cpos (starEach es X.env)).any (·.1)=false:=by rfl) :
  PE X (.Call (.Attribute o name apos) (e::es) [] cpos) (Z8 X.K T r to t):=by
 intro pins s σ H Q I h;refine wpAny_Call_method_late hbase hfew hline rfl (Cq (ho pins s σ H _ I h) λv s1 z9=>?_);obtain⟨x,H1,I1,r1,ty,q1⟩:=z9;obtain⟨h1,h2⟩:=VT I1 r1 ty;refine⟨T,id,pa,slot,hty,h1,h2,?_⟩;have hA:=ha cpos pins s1 σ H1 _ I1 q1;rw[hs] at hA ⊢;refine eK (by show(false||(backTo cpos (starEach es X.env)).any (·.1))=false;rw[hplain]<;>rfl) (Calls.evalArgs_plain ?_);exact Cq hA λus s2 ⟨vs,H2,I2,r2,q2⟩=>hm pins s2 σ H2 x vs v us Q I2 r1 r2 q2
end
def av (X:Cx)(id:String)(r:V->List V->Hp->VK->Prop):Prop:=
 ∀(pins:List (Addr×Obj)) (s:Shared) (σ:St) (H:Hp) (x:V) (xs:List V) (v:Value) (us:List Value) (Q:VK),Inv X pins σ H s->RelV x v->Bd xs us->r x xs H Q->
  wpAny (model X.prog X.w) X.A (call (.builtin id) (v::us)) (EP X pins σ Q) X.xe s
theorem Bd.one:∀{x:V} {us:List Value},Bd [x] us->∃u,us=[u]/\RelV x u
 |_,_,.cons r .nil=>⟨_,rfl,r⟩
section
variable {X:Cx}{pins:List (Addr×Obj)}{σ:St}{H:Hp}{s:Shared}{l b:Addr}{xs ys zs:List V}
theorem Inv.lset {its its':List Value} {n:Nat} {f:Array Value->Array Value} {t':Nat} (I:Inv X pins σ H s) (hH:H l=some (.lst xs))
  (e:s.heap.get? l=some { cls:=.type "list",data:=.seq its.toArray n }) (hf:f its.toArray=its'.toArray) (hv:Bd ys its') (hz:ys.length<=sizeLine) :
  Inv X pins σ (upd H l (.lst ys)) { s with heap:=s.heap.update l (Obj.mapSeq f),toks:=t' }:=by
 have q:=PySem.IsL.update e f;rw[hf] at q;refine I.write (x:=l) (e:=l) (by rw[hH];exact trivial) (.inl rfl) (λb' u hb hu=>(bH s.heap (Obj.mapSeq f) (Ne.symm hb)).trans hu) ⟨_,q⟩ ?_;exact⟨hz,its',_,hv,q⟩
theorem Inv.lnew {its:List Value}{t':Nat}(I:Inv X pins σ H s)(hv:Bd ys its)(hz:ys.length<=sizeLine) :
  Inv X pins σ (upd H s.heap.objs.size (.lst ys)) { s with heap:=s.heap.push { cls:=.type "list",data:=.seq its.toArray },toks:=t' }:=
 I.laid (λ_ _ q=>az _ q) (aD _) ⟨hz,its,0,hv,aN _ rfl⟩
theorem Inv.fresh (I:Inv X pins σ H s):H s.heap.objs.size=none:=I.hok.fresh (aD _)
theorem Inv.lstM (I:Inv X pins σ H s)(hH:H l=some (.lst xs)):xs.length<=sizeLine/\∃(its:List Value) (n:Nat),Bd xs its/\xs.length=its.length/\s.heap.get? l=some { cls:=.type "list",data:=.seq its.toArray n }:=by
 obtain⟨z,its,n,r,e⟩:=I.hok l _ hH;exact⟨z,its,n,r,r.length,e⟩
end
section
variable {X:Cx}
def Wa:V->List V->Hp->VK->Prop:=λx vs H Q=>∃l xs y,x=.ref l/\vs=[y]/\H l=some (.lst xs)/\xs.length<sizeLine/\Q .non (upd H l (.lst (xs++[y])))
theorem Ec:av X "list.append" Wa:=by
 intro pins s σ H x vs v us Q I rx rv h;obtain⟨l,xs,y,rfl,rfl,hH,hz,q⟩:=h;cases rx;obtain⟨u,rfl,ru⟩:=rv.one;obtain⟨z,its,n,r,hl,e⟩:=I.lstM hH;refine fv F.slot_list_append ⟨_,e,rfl⟩ F.entry_list_append (F.args_list_append_2 _ _) (PySem.list_append l its.toArray n u (by rw[aY];omega)) ⟨e,?_⟩;refine⟨.non,_,I.lset (its':=its++[u]) hH e (by simp) (r.append (.cons ru .nil)) ?_,rfl,q⟩;rw[aM,bz];omega
end
end L2
namespace Att
open PySem PySem.W PySem.Calls PyProof.Rows
theorem LS {P:Params}{h:Heap}:∀(ns:List Int) (vs:List Value),WellAll P h vs (ns.map WData.int)->IntsAre vs ns:=by
 intro ns
 induction ns with
 |nil=>
  intro vs w;rw[dw] at w;cases w;exact .nil
 |cons n ns ih=>
  intro vs w;rw[aR] at w;cases w with
  |cons a b=>
   cases a;exact .cons _ _ (ih _ b)
theorem Ug {l:OpenLaw} {n:Nat} (hn:l.most=some n) {P:Params} {h:Heap} {args:List WData} {vals:List Value}
  (hpre:l.row.toRowW.claim.pre args=true) (hwl:WellAll P h vals args) :
  ∃a vs ns,vals=[Value.ref a]/\args=[WData.list (ns.map WData.int)]/\h.get? a=some { cls:=.type "list",data:=.seq vs.toArray }/\IntsAre vs ns/\ns.length<=n:=by
 have hsh:WShape.hasAll [] args [.list .int]=true:=(pre_splitW hpre).1;have hc:l.pre.holds [] { args:=args }=true:=(pre_splitW hpre).2;obtain⟨d,r,rfl,h1,h2⟩:=hasAllW_cons hsh;obtain rfl:=hasAllW_nil h2;obtain⟨xs,rfl,h3⟩:=hasW_list h1;obtain⟨ns,rfl⟩:=items_int h3;have hlen:ns.length<=n:=by
  unfold OpenLaw.pre at hc;have h4:(WTm.not (.lt (.lit (.int (n:Int))) (.len (.arg 0)))).holds [] { args:=[.list (ns.map .int)] }=true:=by
   have h4:=(holds_andW hc).1;rw[hn] at h4;exact h4
  have h5:=condW_of h4 (w_not (w_lt w_lit (w_len_list (w_arg rfl))));rw[ax] at h5;refine Nat.le_of_not_lt λq=>?_
  have q':(n:Int)<((ns.length:Nat):Int):=by omega
  first
   |(rw[aE q'] at h5;exact absurd h5 (by decide))
   |(simp at h5;omega)
 cases hwl with
 |cons w1 w2=>
  cases w2;cases w1 with
  |list ho hall=>exact⟨_,_,ns,rfl,rfl,ho,LS ns _ hall,hlen⟩
theorem Uq (l:OpenLaw)(args:List WData):l.row.toRowW.claim.post args (.bool true) args=true:=
 postW_of (r:=l.row.toRowW) (X:=(true == true))
  (show WShape.has [] (.bool true) .bool=true by first|rfl|decide|simp[WShape.has,WShape.arms,WShape.armsAll])
  (show(WTm.eq .res (.lit (.bool true))).value [] { args:=args,res:=some (.bool true),after:=args }=some (.bool (true == true)) from w_eq_bool (w_res rfl) w_lit) rfl
theorem QK {l:OpenLaw} {n:Nat} {q:Program} {loose:List Str} {XP:(Str->Option Value)->Heap->Prop} {YP:World->Heap->Prop} {d:DefRec}
  (hn:l.most=some n) (hdf:d.params.defaults=[])
  (call:∀(w:World) (s₀ s₁:Shared) (mg mb:Str->Option Value) (fa:Addr) (o:Obj) (pm cd doc:Value) (a:Addr) (vs:List Value) (ns:List Int),
   Ground q loose [] XP w s₀ mg mb s₁.heap->YP w s₁.heap->
   s₁.heap.get? fa=some o->o.data=.func (docDef d.name d.params d.body d.scope pm cd doc)->s₁.heap.CodeRec cd d.name->mg d.name=some (.ref fa)->
   s₁.heap.get? a=some { cls:=.type "list",data:=.seq vs.toArray }->IntsAre vs ns->ns.length<=n->s₁.gens = #[]->
   codeAny (model l.prog w) callerA (.call (.ref fa) ⟨[.ref a],[]⟩) (λr s'=>r=.ok (.ret (.bool true))/\OldK s₁.heap s'.heap/\s'.os=s₁.os/\AllBare s'.gens) s₁) :
  WalkO q loose XP YP l.row.toRowW d [] (λf vs=>PySem.call f vs):=by
 intro w s₀ s₁ mg mb G Y fa o pm cd doc dV kV ho hd hcd hD hmg hg args vals as hpre hlay hrd hwl hlo;obtain rfl:dV=.none:=Dflts.none hD hdf;obtain rfl:kV=.none:=Dflts.noKw hD;obtain⟨a,vs,ns,rfl,rfl,hobj,hints,hlen⟩:=Ug hn hpre hwl;refine enter_call (cP (call w s₀ s₁ mg mb fa o pm cd doc a vs ns G Y ho (fd_plain hd) hcd hmg hobj hints hlen hg) λr s' hq=>?_);obtain⟨rfl,h2,h3,h4⟩:=hq;exact⟨.inl ⟨.bool true,.bool true,[],rfl,λ_=>rfl,.bool true,Uq l _,λ_=>⟨List.Pairwise.nil,λ_ hm=>(nomatch hm)⟩⟩,h2,h3,h4⟩
end Att
namespace L2
open PySem PySem.Spec PyProof.Rows
theorem Lv:∀{vs:List Value} {ns:List Int},IntsAre vs ns->Bd (ns.map V.int) vs
 |_,_,.nil=>.nil
 |_,_,.cons n t h=>.cons ⟨t,rfl⟩ (Lv h)
def inClass (s:Stmt)(j:Nat):Stmt:=match s with
 | .ClassDef _ _ _ body _ _ _ _ _ _ _=>body.getD j (.Pass ⟨0,0,0,0⟩)
 |_=>.Pass ⟨0,0,0,0⟩
def Av (s:Stmt):Arguments:=match s with
 | .FunctionDef _ a _ _ _ _ _ _ _ _=>a
 |_=>{ posonlyargs:=[],args:=[],vararg:=none,kwonlyargs:=[],kw_defaults:=[],kwarg:=none,defaults:=[] }
def Ar (s:Stmt):List Stmt:=match s with
 | .FunctionDef _ _ b _ _ _ _ _ _ _=>b
 |_=>[]
def Ac (s:Stmt):Scope:=match s with
 | .FunctionDef _ _ _ _ _ _ sc _ _ _=>sc
 |_=>{ kind:=.function,names:=[],isGenerator:=false,isCoroutine:=false }
abbrev FL:SE:=λ_ _ _ _ _ _=>False
abbrev E0:XK:=λ_ _ _=>False
theorem Vc {X:Cx}:FW FL X E0:=λ_ _ _ _ _ _ _ h=>h.elim
structure Fun (K:PySem.W.Frag) (x qual:Str) (st:Stmt) (f:Addr) (fd:FuncData):Prop where
 ex:∃(oc:Value) (od:Option Addr) (kV doc pm:Value) (an:Option Addr) (cdv ct:Value) (osl:Array (Option Value)),
  fd=PySem.W.fnOf x qual (Av st) (Ar st) (Ac st) .none kV doc pm an cdv ct/\K.lookup f=some ⟨oc,od,.func fd,osl⟩/\PySem.W.codeIn K cdv qual=true
 kp:PySem.W.keepIn K (.ref f)=true
section
variable {P:Program}{w:World}{K:PySem.W.Frag}{mg:Str->Option Value}{base:Heap}
theorem Fun.ok {x qual:Str} {st:Stmt} {f:Addr} {fd:FuncData} {N ps:List Str} {k:Nat} {sp:Sp} (F:Fun K x qual st f fd) (S:FnScope N ps (Ac st)) (len:∀vs H Q E,sp vs H Q E->vs.length=ps.length)
  (hbody:∀(cdv:Value) (A:Around) (outer:List Env) (s:Shared) (H:Hp) (vs:List V) (Q:VK) (E:XK),Room k (A.deeper (envOfC qual (Ac st) s.heap.objs.size f cdv))->sp vs H Q E->
   ∃t,NG (A4 FL P w K mg base N qual (Ac st) f cdv A outer s H E).nox (Ar st) t/\t { nx:=λ_ H'=>Q .non H',rt:=Q } (start N vs) H):FnOk P w K mg base FL (k+1) f fd ps sp:=by
 obtain⟨oc,od,kV,doc,pm,an,cdv,ct,osl,rfl,lk,hcd⟩:=F.ex;refine VM lk hcd S len λA outer s H vs Q E hr hsp=>?_
 obtain⟨t,h,q⟩:=hbody cdv A outer s H vs Q E hr hsp;exact⟨t,h.nox,q⟩
theorem Fun.binds {x qual:Str} {st:Stmt} {f:Addr} {fd:FuncData} {ps:List Str} (F:Fun K x qual st f fd)
  (h:∀(kV doc pm:Value) (an:Option Addr) (cdv ct:Value) (us:List Value),us.length=ps.length->bindArgs (PySem.W.fnOf x qual (Av st) (Ar st) (Ac st) .none kV doc pm an cdv ct) ⟨us,[]⟩=pure (ps.zip us)):Binds K fd ps []:=by
 obtain⟨oc,od,kV,doc,pm,an,cdv,ct,osl,rfl,lk,hcd⟩:=F.ex;exact .all (h kV doc pm an cdv ct)
theorem AE {x qual:Str} {st:Stmt} {f:Addr} {oc:Value} {od an:Option Addr} {osl:Array (Option Value)} {kV doc pm cdv ct:Value} (l:K.lookup f=some ⟨oc,od,.func (PySem.W.fnOf x qual (Av st) (Ar st) (Ac st) .none kV doc pm an cdv ct),osl⟩)
  (c:PySem.W.codeIn K cdv qual=true) (k:PySem.W.keepIn K (.ref f)=true):Fun K x qual st f (PySem.W.fnOf x qual (Av st) (Ar st) (Ac st) .none kV doc pm an cdv ct):=⟨⟨oc,od,kV,doc,pm,an,cdv,ct,osl,rfl,l,c⟩,k⟩
end
theorem Gw {A:Around}{k:Nat}(hr:Room k A):A.units+1<cLine:=Nat.lt_of_le_of_lt (Nat.add_le_add_left (by decide:1<=64) _) hr.units
section
variable {X:Cx}
theorem pv (i:Nat) {x:Str} {pos:Pos} (hN:X.N[i]?=some x:=by rfl) (hv:ZT X.env.scope x:=by first|exact Or.inl rfl|exact Or.inr (Or.inl rfl)|exact Or.inr (Or.inr rfl)) (hd:(x == ("__debug__":Str))=false:=by decide)
  (hcd:(x == ("__classdict__":Str))=false:=by decide):PE X (.Name x pos) (IQ i):=XA hN hv hd hcd
end
theorem HL {c A B:Prop}[Decidable c](h1:c->A)(h2:¬c->B):if c then A else B:=by
 by_cases h:c
 ·rw[aI h];exact h1 h
 ·rw[aF h];exact h2 h
def AJ (H H':Hp):Prop:=∀b o,H b=some o->H' b=some o
theorem AJ.refl (H:Hp):AJ H H:=λ_ _ h=>h
theorem AJ.trans {H H1 H2:Hp}(a:AJ H H1)(b:AJ H1 H2):AJ H H2:=λc o h=>b c o (a c o h)
theorem AJ.free {H H':Hp}(e:AJ H H'){l:Addr}(h:H' l=Option.none):H l=Option.none:=by
 cases q:H l with
 |none=>rfl
 |some o=>
  rw[e l o q] at h;cases h
theorem AJ.seq {K:PySem.W.Frag}{H H':Hp}{a:Addr}{xs:List V}(e:AJ H H')(h:A7 K H a xs):A7 K H' a xs:=by
 rcases h with(h|⟨o,h⟩)|h
 ·exact .inl (.inl (e _ _ h))
 ·exact .inl (.inr ⟨o,e _ _ h⟩)
 ·exact .inr h
end L2
set_option maxHeartbeats 1000000
namespace L2
open PySem PySem.Spec PyProof.Rows
section
variable {prog:Program}{w:World}{A:Around}{env:Env}{elt target iter:Expr}{ifs:List Expr}{scope:Scope}{pos:Pos}{it acc:Value}
abbrev WT (env:Env)(ifs:List Expr):Sem Bool:=forIn ifs true λc r=>(if r=true then(do let ok <-isTrue c env (eval c env);pure (ForInStep.yield ok)) else pure (ForInStep.yield r))
abbrev SA (prog:Program)(w:World)(A:Around)(env:Env)(elt target:Expr)(ifs:List Expr)(it acc:Value)(Ee:Value->Shared->Prop)(over on:Shared->Prop):Shared->Prop:=
 wpAny (model prog w) A (pyNext it) (fun|none,s1=>over s1|some v,s1=>wpAny (model prog w) A (letOwnedTupleGo target it v) (λ_ s2=>wpAny (model prog w) A (assign target env v) (λ_ s3=>wpAny (model prog w) A (WT env ifs) (λok s4=>
  if ok=true then wpAny (model prog w) A (eval elt env) (λx s5=>wpAny (model prog w) A (call (.builtin "list.append") [acc,x]) (λ_=>on) (λ_ _=>False) s5) Ee s4 else on s4) Ee s3) Ee s2) (λ_ _=>False) s1) (λ_ _=>False)
theorem QJ {R:Result->Shared->Prop} {Ee:Value->Shared->Prop} (I:Nat->Shared->Prop) (hE:∀x s,Ee x s->notedBy (model prog w) A env (λx s=>R (.error x) s) x s)
  (turn:∀n s,I n s->SA prog w A env elt target ifs it acc Ee (R (.ok .next)) (λs'=>∃m,m<n/\I m s') s) (n:Nat) {s:Shared} (h:I n s) :
  codeAny (model prog w) A (.compLoop (.ListComp elt [⟨target,iter,ifs,0⟩] scope pos) 0 it acc env) R s:=by
 have none':∀{Z:Value->Shared->Prop} (x:Value) (s:Shared),False->Z x s:=λ_ _ z=>z.elim
 refine codeAny_loop rfl I (λk s1 h1=>?_) n h
 change wpAny _ A ((compTurn (.ListComp elt [⟨target,iter,ifs,0⟩] scope pos) 0 it acc env).onRaise (λx=>do noteFrame x env;theTreesLotGoes x)) _ _ s1
 refine wpAny_noted ?_;rw[compTurn_list];refine ay (d6 (ay (bf (turn k s1 h1) (λr s2 h2=>?_) none')))
 match r,h2 with
 |none,h2=>exact aH h2
 |some v,h2=>
  refine ay (bf h2 (λ_ s3 h3=>ay (bf h3 (λ_ s4 h4=>ay (bf h4 (λok s5 h5=>?_) hE)) hE)) none')
  match ok,h5 with
  |false,h5=>exact aH ⟨rfl,h5⟩
  |true,h5=>exact ay (ay (bf h5 (λx s6 h6=>ay (bf h6 (λ_ s7 h7=>aH (aH ⟨rfl,h7⟩)) none')) hE))
theorem RJ {R:Result->Shared->Prop}(I:Nat->Shared->Prop)(turn:∀n s,I n s->SA prog w A env elt target ifs it acc (λ_ _=>False) (R (.ok .next)) (λs'=>∃m,m<n/\I m s') s)(n:Nat){s:Shared}(h:I n s) :
  codeAny (model prog w) A (.compLoop (.ListComp elt [⟨target,iter,ifs,0⟩] scope pos) 0 it acc env) R s:=QJ I (λ_ _ z=>z.elim) turn n h
end
def Sa (X:Cx)(ifs:List Expr)(t:TT):Prop:=
 ∀(pins:List (Addr×Obj)) (s:Shared) (σ:St) (H:Hp) (Q:Bool->Hp->Prop),Inv X pins σ H s->t σ H Q->
  wpAny (model X.prog X.w) X.A (forIn ifs true λc r=>if r=true then do let ok <-isTrue c X.env (eval c X.env);pure (ForInStep.yield ok) else pure (ForInStep.yield r)) (TP X pins σ Q) X.xe s
def X6:TT:=λ_ H Q=>Q true H
theorem Dw {X:Cx}:Sa X [] X6:=λ_ _ _ H _ I h=>wpAny_tests_nil ⟨H,I,h⟩
theorem Gp {X:Cx}{c:Expr}{t:TT}(h:PT X c t):Sa X [c] t:=λpins s σ H Q I q=>wpAny_tests_one (h pins s σ H Q I q)
def Ce (X:Cx)(scope:Scope)(cl:List (Str×Addr))(N:List Str)(C:Addr)(s:Shared)(H:Hp)(fp:List Addr):Cx:=
 { prog:=X.prog,w:=X.w,K:=X.K,mg:=X.mg,base:=X.base,A:=X.A,N:=N,s₀:=s,H₀:=H,env:=compEnvC scope cl C X.env,outer:=X.stack,stack:=X.stack,ex:=fp,fn:=λ_=>false,calm:=X.calm,pn:=[],xe:=λ_ _=>False }
def stC (fr:List (Option Nat))(σ:St):St:=fr.map λo=>o.bind λi=>(σ[i]?).bind id
def Jt (fr:List (Option Nat))(g:TG)(tt:TT)(te:TE)(σ:St)(Q:VK)(J:It)(H1:Hp):Prop:=∀l,H1 l=none->∃W:Nat->Nat->St->Hp->Prop,(∃m,W 0 m (stC fr σ) (upd H1 l (.lst [])))/\∀i m σ H,W i m σ H->
 (J.stop i H/\Q (.ref l) H)\/(J.go i H/\∀x H',J.yld i H x H'->g x σ H' λσ2 H2=>tt σ2 H2 λb H3=>if b=true then te σ2 H3 λv H4=>∃xs,H4 l=some (.lst xs)/\xs.length<sizeLine/\∃m',m'<m/\W (i+1) m' σ2 (upd H4 l (.lst (xs++[v])))
  else ∃m',m'<m/\W (i+1) m' σ2 H3)
def Ou (fr:List (Option Nat))(wi:TI)(g:TG)(tt:TT)(te:TE):TE:=λσ H Q=>wi σ H (Jt fr g tt te σ Q)
def IK (XN:List Str)(xs sc:Scope)(N:List Str)(fr:List (Option Nat)):Bool:=
 decide (sc.kind=.function)&&decide (fr.length=N.length)&&(sc.names.all λy=>!decide (y.2=.cell))&&(sc.names.all λy=>!decide (y.2=.local)||decide (sc.names.lookup y.1=some .local)) &&
 (sc.names.all λy=>!decide (y.2=.free)||(decide (xs.names.lookup y.1=some .cell)||decide (xs.names.lookup y.1=some .free))) &&
 ((N.zip fr).all λp=>match p.2 with|none=>true|some i=>decide (XN[i]?=some p.1)&&decide (sc.names.lookup p.1=some .free))
def Rc (cells:List (Str×Addr)):List (Str×Addr)->Prop
 |[]=>True
 |p::r=>cells.lookup p.1=some p.2/\Rc cells r
theorem Rc.get {cells:List (Str×Addr)}:∀{cl:List (Str×Addr)},Rc cells cl->∀{x:Str} {c:Addr},cl.lookup x=some c->cells.lookup x=some c
 |[],_,_,_,h=>by cases h
 |(y,d)::r,k,x,c,h=>by
  rw[dh] at h;cases e:x == y with
  |true=>
   rw[e] at h;cases h;rw[eq_of_beq e];exact k.1
  |false=>
   rw[e] at h;exact Rc.get k.2 h
def Kt (cl:List (Str×Addr)):List (Str×NameKind)->Prop
 |[]=>True
 |p::r=>(p.2=.free->∃c,cl.lookup p.1=some c)/\Kt cl r
theorem Kt.get {cl:List (Str×Addr)}:∀{ns:List (Str×NameKind)},Kt cl ns->∀y∈ns,y.2=.free->∃c,cl.lookup y.1=some c
 |[],_,_,h=>by cases h
 |p::r,k,y,h=>by
  rcases aX.mp h with rfl|h
  ·exact k.1
  ·exact Kt.get k.2 y h
theorem Ho {env:Env}:∀{names:List (Str×NameKind)} {x:Str} {k:NameKind},(names.map λ(n,k)=>if(k == NameKind.free&&env.scope.kind == .function&&env.kindOf n == some .cell) then(n,NameKind.cell) else(n,k)).lookup x=some k->
  names.lookup x=some k\/(k=.cell/\names.lookup x=some .free)
 |[],_,_,h=>by cases h
 |(n,k0)::r,x,k,h=>by
  have ih:=@Ho env r x k
  by_cases hc:(k0 == NameKind.free&&env.scope.kind == .function&&env.kindOf n == some .cell)=true
  ·simp only[List.map_cons,if_pos hc,List.lookup_cons] at h;rw[dh];cases e:x == n with
   |true=>
    rw[e] at h;cases h;simp only[Bool.and_eq_true] at hc;have:k0=.free:=by simpa using hc.1.1
    exact .inr ⟨rfl,by rw[this]⟩
   |false=>rw[e] at h;exact ih h
  ·simp only[List.map_cons,if_neg hc,List.lookup_cons] at h;rw[dh];cases e:x == n with
   |true=>rw[e] at h;exact .inl h
   |false=>rw[e] at h;exact ih h
theorem JY {env:Env}:∀{names:List (Str×NameKind)} {x:Str},names.lookup x=some .free->
  (names.map λ(n,k)=>if(k == NameKind.free&&env.scope.kind == .function&&env.kindOf n == some .cell) then(n,NameKind.cell) else(n,k)).lookup x=some .cell\/
  (names.map λ(n,k)=>if(k == NameKind.free&&env.scope.kind == .function&&env.kindOf n == some .cell) then(n,NameKind.cell) else(n,k)).lookup x=some .free
 |[],_,h=>by cases h
 |(n,k0)::r,x,h=>by
  have ih:=@JY env r x;rw[dh] at h
  by_cases hc:(k0 == NameKind.free&&env.scope.kind == .function&&env.kindOf n == some .cell)=true
  ·simp only[List.map_cons,if_pos hc,List.lookup_cons];cases e:x == n with
   |true=>exact .inl rfl
   |false=>rw[e] at h;exact ih h
  ·simp only[List.map_cons,if_neg hc,List.lookup_cons];cases e:x == n with
   |true=>rw[e] at h;exact .inr h
   |false=>rw[e] at h;exact ih h
section
variable {X:Cx}
theorem OC (N:List Str) (fr:List (Option Nat)) {elt tg iter:Expr} {ifs:List Expr} {scope:Scope} {pos fpos:Pos} {wi:TI} {g:TG} {tt:TT} {te:TE} {cl:List (Str×Addr)}
  (hc:X.calm=true) (hi:PI X tg iter wi) (hchk:IK X.N X.env.scope scope N fr=true) (hclos:closureFor scope X.env=pure cl) (hcl:Rc X.env.cells cl) (hall:Kt cl scope.names)
  (hb:∀(C:Addr) (s:Shared) (H:Hp) (fp:List Addr),PG (Ce X scope cl N C s H fp) tg g/\Sa (Ce X scope cl N C s H fp) ifs tt/\PE (Ce X scope cl N C s H fp) elt te)
  (hs:∀x,foldedSetIterable iter X.env x=pure x) {pins:List (Addr×Obj)} {s:Shared} {σ:St} {H:Hp} {Q:VK} {use:Option (Value->Sem Unit)} {Qc:Value->Shared->Prop} (I:Inv X pins σ H s) (h:Ou fr wi g tt te σ H Q)
  (hfin:∀(l:Addr) (H':Hp) (s':Shared) (C:Addr),Inv X pins σ H' s'->NJ X pins H' C->(∃m,s'.heap.Ns C m)->Q (.ref l) H'->compPost (model X.prog X.w) X.A X.xe use Qc (.ref l) C (.ok .next) s') :
  wpAny (model X.prog X.w) X.A (comprehension (.ListComp elt [⟨tg,iter,ifs,0⟩] scope pos) scope X.env fpos (newList []) (firstAsync [⟨tg,iter,ifs,0⟩]) (firstIter [⟨tg,iter,ifs,0⟩] X.env) use) Qc X.xe s:=by
 simp only[IK,Bool.and_eq_true,decide_eq_true_eq,List.all_eq_true,Bool.or_eq_true,Bool.not_eq_true',decide_eq_false_iff_not] at hchk;obtain⟨⟨⟨⟨⟨hkind,hlen⟩,hcell⟩,hnames⟩,hfree⟩,hfr⟩:=hchk;have hnames':∀x∈scope.names,x.2=.local->scope.names.lookup x.1=some .local:=λy hy e=>(hnames y hy).resolve_left λz=>z e
 have hcell':∀x∈scope.names,x.2≠.cell:=λy hy=>hcell y hy
 refine wpAny_comprehension_free (use:=use) rfl hs hclos hkind hnames' (Cq (hi pins s σ H _ I h) λv s1 h1=>Cq h1 λitv s2 h2=>?_);obtain⟨it,fp,tn,J,H2,e,I2,T,st2,f2,hQ⟩:=h2;subst e;refine cR (hd:=by size_fits) (wpAny_newFunctionEnv hcell' (by intro y hy;simp at hy) (λh₁ hns hsb=>?_) hkind);dsimp only at hns hsb ⊢;obtain⟨W,⟨m0,w0⟩,turn⟩:=hQ s2.heap.objs.size I2.fresh;have I3:Inv X pins σ (upd H2 s2.heap.objs.size (.lst [])) { s2 with heap:=s2.heap.push { cls:=.type "list",data:=.seq ([]:List Value).toArray },toks:=s2.toks }:=I2.lnew (its:=[]) .nil (bC _);generalize hh3:s2.heap.push { cls:=.type "list",dict:=none,data:=.seq ([]:List Value).toArray }=h3 at hns hsb ⊢;rw[show s2.heap.push { cls:=.type "list",data:=.seq ([]:List Value).toArray }=h3 from hh3] at I3;generalize hH3:upd H2 s2.heap.objs.size (.lst [])=H3 at I3 w0;generalize hl:s2.heap.objs.size=l at turn hH3 ⊢;have hl3:l<h3.objs.size:=by rw[<-hh3,<-hl,cE];exact fh _
 generalize hs3:({ s2 with heap:=h3,toks:=s2.toks }:Shared)=s3 at I3;have es3:s3.heap=h3:=by rw[<-hs3]
 have eos:s3.os=s2.os:=by rw[<-hs3]
 have egens:s3.gens=s2.gens:=by rw[<-hs3]
 generalize hC:h3.objs.size=C at hns hsb ⊢;have old:∀b o,h3.get? b=some o->h₁.get? b=some o:=λb o e=>
  hsb.extBut b o (by rw[<-hC];exact bg (aP e)) (az _ e)
 have f3:∀b∈fp,NJ X pins H3 b:=λb hb=>by
  obtain⟨g0,g1⟩:=f2 b hb;refine⟨?_,g1⟩;rw[<-hH3];have:b≠l:=by
   obtain⟨o,e,_⟩:=T.obj _ _ st2 b hb;rw[<-hl];exact bg (aP e)
  rw[Ax this];exact g0
 have st3:tn 0 h₁:=T.keep _ _ _ st2 λb hb o e=>old b o (by rw[<-hh3];exact az _ e)
 have ok:(Ce X scope cl N C s3 H3 fp).Ok:=by
  refine⟨I3.ok.mod,?_,I3.ok.glob,I3.ok.blt,?_,λx y c e1 e2=>I3.ok.inj x y c (hcl.get e1) (hcl.get e2),λx hx=>?_,λx c hx=>(by cases hx),I3.ok.hd,I3.ok.frames,.inl rfl,λb hb=>?_,λb o e=>?_,?_,λb o e hb=>?_,λb hb hb2=>?_,?_,λb hb=>?_⟩
  ·exact hkind
  ·show s3.heap.objs.size<=C;rw[es3,hC];exact aD _
  ·have hx':(relabel scope X.env).names.lookup x=some .cell\/(relabel scope X.env).names.lookup x=some .free:=hx;have:scope.names.lookup x=some .free:=by
    rcases hx' with z|z
    ·rcases Ho z with q|⟨_,q⟩
     ·exact absurd rfl (hcell' _ (bS q))
     ·exact q
    ·rcases Ho z with q|⟨q,_⟩
     ·exact q
     ·cases q
   exact hall.get _ (bS this) rfl
  ·obtain⟨g0,g1,g2,g3,g4,g5⟩:=f3 b hb;obtain⟨o,e,_⟩:=T.obj _ _ st2 b hb;refine⟨?_,λx c e=>g4 x c (hcl.get e)⟩;show b≠C;rw[<-hC];exact bg (aP (by rw[<-hh3];exact az _ e))
  ·have q:=I3.bs b o e;exact q
  ·show X.base.objs.size<=s3.heap.objs.size;exact bj I3.ok.bsz I3.sz
  ·obtain⟨g0,g1,g2,g3,g4,g5⟩:=f3 b hb;rcases g3 with z|z
   ·exact I3.ok.noex b o e z
   ·exact absurd (bc (aP e) (bj I3.ok.bsz z)) (cG _)
  ·obtain⟨g0,g1,g2,g3,g4,g5⟩:=f3 b hb;rcases aX.mp (I3.stkSub b hb2) with z|z
   ·exact g1 z
   ·exact g2 z
  ·show s3.heap.FunFrames X.base X.stack;exact I3.stack
  ·exact I3.stkFree b hb
 have I4:Inv (Ce X scope cl N C s3 H3 fp) [] (stC fr σ) H3 { s2 with heap:=h₁,toks:=s2.toks+([]:List (Str×Value)).length }:=by
  have hk3:∀b o,s3.heap.get? b=some o->h₁.get? b=some o:=λb o e=>old b o (by rw[<-es3];exact e)
  refine⟨ok,eos.symm▸rfl,egens▸I3.bare,Un.kept hk3,⟨_,hns,λi x v e1 e2 e3=>?_⟩,λx c e=>?_,?_,λx c e=>I3.freeC x c (hcl.get e),λp hp=>(by cases hp),I3.hok.kept hk3,?_⟩
  ·
   have e1':N[i]?=some x:=e1;have e2':(fr[i]?).map (λo=>o.bind λi=>(σ[i]?).bind id)=some (some v):=by
    have:(stC fr σ)[i]?=some (some v):=e2;rw[stC,aQ] at this;exact this
   cases q:fr[i]? with
   |none=>rw[q] at e2';cases e2'
   |some o=>
    rw[q] at e2';cases o with
    |none=>cases e2'
    |some j=>
     have e2'':(σ[j]?).bind id=some v:=br e2';obtain⟨p1,p2⟩:X.N[j]?=some x/\scope.names.lookup x=some .free:=by
      have hz:(x,some j)∈N.zip fr:=by
       have:(N.zip fr)[i]?=some (x,some j):=by
        rw[List.getElem?_zip_eq_some];exact⟨e1',q⟩
       exact bD this
      have:=hfr _ hz;simpa using this
     have hv:X.env.scope.names.lookup x=some .cell\/X.env.scope.names.lookup x=some .free:=by
      rcases hfree _ (bS p2) with z|z
      ·exact absurd rfl z
      ·simpa using z
     have e3':σ[j]?=some (some v):=by
      cases q3:σ[j]? with
      |none=>rw[q3] at e2'';cases e2''
      |some w'=>rw[q3] at e2'';have:w'=some v:=e2'';rw[this]
     obtain⟨m,hn,hl'⟩:=I3.loc;obtain⟨u,ru,lk⟩:=hl' j x v p1 e3' (.inr hv);refine⟨u,ru,.inr ⟨JY p2,?_⟩⟩;rcases lk with⟨lk,_⟩|⟨_,c,ec,cc⟩
     ·have lk':X.env.scope.names.lookup x=some .local:=lk;rcases hv with z|z<;>(rw[z] at lk';cases lk')
     ·obtain⟨c',ec'⟩:=hall.get _ (bS p2) rfl;have:=hcl.get ec';rw[ec] at this;cases this;obtain⟨o,ho,hd⟩:=cc;exact⟨c,ec',o,hk3 _ _ ho,hd⟩
  ·obtain⟨v,o,ho,hd⟩:=I3.cell x c (hcl.get e);exact⟨v,o,hk3 _ _ ho,hd⟩
  ·show H3 C=none;exact I3.hok.fresh (by rw[es3,hC];exact aD _)
  ·show(stC fr σ).length=N.length;rw[stC,ax];exact hlen
 obtain⟨hg,ht,he⟩:=hb C s3 H3 fp;have fpc:∀{H':Hp},(∀b∈fp,H' b=none)->∀b∈fp,NJ (Ce X scope cl N C s3 H3 fp) [] H' b:=λhn b hb=>by
  obtain⟨q1,q2⟩:=ok.exf b hb;exact⟨hn b hb,q1,ok.exfs b hb,.inl hb,q2,λp hp=>by cases hp⟩
 have fin:∀(σ':St) (H':Hp) (s':Shared),Inv (Ce X scope cl N C s3 H3 fp) [] σ' H' s'->Q (.ref l) H'->compPost (model X.prog X.w) X.A X.xe use Qc (.ref l) C (.ok .next) s':=λσ' H' s' I' q=>by
  obtain⟨m,hn,_⟩:=I'.loc;have nC:∀b o,s3.heap.get? b=some o->b≠C:=λb o e=>by
   rw[<-hC,<-es3];exact bg (aP e)
  have fC:H' C=none:=I'.free;have u:=I'.base;refine hfin l H' s' C ?_ (I3.fpOk (by rw[es3,hC];exact aD _) fC) ⟨m,hn⟩ q;refine I3.call' (s':=s') (ch:=fp) I'.os ⟨λb o e n hb hx=>u.keep b o e n hb hx,λb o e n hb hx=>u.slot b o e n hb hx,u.free,λb o e hx=>u.there b o e hx,u.tups,u.frzs,u.tbls⟩ (λb o e=>I'.hok b o e) I'.bare λb hb=>?_
  obtain⟨g0,g1,g2,g3,g4,g5⟩:=f3 b hb;exact⟨g3,g1,g4,g5⟩
 have loop:codeAny (model X.prog X.w) X.A (.compLoop (.ListComp elt [⟨tg,iter,ifs,0⟩] scope pos) 0 (.ref it) (.ref l) (compEnvC scope cl C X.env)) (compPost (model X.prog X.w) X.A X.xe use Qc (.ref l) C)
   { s2 with heap:=h₁,toks:=s2.toks+([]:List (Str×Value)).length }:=by
  refine RJ (λn s'=>∃i σ' H',Inv (Ce X scope cl N C s3 H3 fp) [] σ' H' s'/\tn i s'.heap/\(∀b∈fp,H' b=none)/\W i n σ' H') ?_ m0 ⟨0,_,H3,I4,st3,λb hb=>(f3 b hb).1,w0⟩
  rintro n s5 ⟨i,σ5,H5,I5,st5,fr5,w5⟩
  rcases turn i n σ5 H5 w5 with⟨stop,qn⟩|⟨go,step⟩
  ·refine Cq (T.done (Ce X scope cl N C s3 H3 fp) rfl rfl rfl hc i [] s5 σ5 H5 (λ_ _=>False) I5 (fpc fr5) st5 stop) λr s6 ⟨hr,I6⟩=>?_
   subst hr;exact fin σ5 H5 s6 I6 qn
  ·refine Cq (T.item (Ce X scope cl N C s3 H3 fp) rfl rfl rfl hc i [] s5 σ5 H5 (λ_ _=>False) I5 (fpc fr5) st5 go) λr s6 ⟨u,hr,h6⟩=>?_
   subst hr;refine Cq h6 λ_ s7 z9=>?_
   obtain⟨x,H7,I7,r7,y7,st7,fr7⟩:=z9;have I7':=I7.pinned (fpc fr7) (T.obj _ _ st7);refine Cq (hg _ s7 σ5 H7 x u _ I7' r7 (step x H7 y7)) λ_ s8 ⟨σ8,H8,I8,q8⟩=>?_
   have again:∀{σ9:St} {H9:Hp} {s9:Shared},Inv (Ce X scope cl N C s3 H3 fp) ([]++Mu fp s7.heap) σ9 H9 s9->(∃m',m'<n/\W (i+1) m' σ9 H9)->∃m,m<n/\∃i σ' H',Inv (Ce X scope cl N C s3 H3 fp) [] σ' H' s9/\tn i s9.heap/\(∀b∈fp,H' b=none)/\W i m σ' H':=λ{σ9 H9 s9} I9 n9=>by
    obtain⟨m',hm,w9⟩:=n9;refine⟨m',hm,i+1,σ9,H9,I9.unpinned,T.keep _ _ _ st7 λb hb o e=>(I9.pin (b,o) (aV _ (aV _ (Hl hb e)))).1,λb hb=>?_,w9⟩;obtain⟨o,e,d⟩:=T.obj _ _ st7 b hb;exact(I9.pin (b,o) (aV _ (aV _ (Hl hb e)))).2.1
   refine Cq (ht _ s8 σ8 H8 _ I8 q8) λok s9 ⟨H9,I9,q9⟩=>?_
   cases ok with
   |false=>
    rw[aF aJ] at q9 ⊢;exact again I9 q9
   |true=>
    rw[aI rfl] at q9 ⊢;refine Cq (he _ s9 σ8 H9 _ I9 q9) λy sa ⟨vy,Ha,Ia,ry,qa⟩=>?_
    obtain⟨xs,hla,hsz,n9⟩:=qa;refine Cq (Ec _ sa σ8 Ha (.ref l) [vy] (.ref l) [y] (λ_ Hb=>∃m',m'<n/\W (i+1) m' σ8 Hb) Ia rfl (.cons ry .nil) ⟨l,xs,vy,rfl,rfl,hla,hsz,n9⟩) λ_ sb ⟨_,Hb,Ib,_,qb⟩=>?_
    exact again Ib qb
 show codeAny (model X.prog X.w) X.A (.compStart (.ListComp elt [⟨tg,iter,ifs,0⟩] scope pos) 0 (.ref it) (.ref l) (compEnvC scope cl C X.env)) (compPost (model X.prog X.w) X.A X.xe use Qc (.ref l) C) { s2 with heap:=h₁,toks:=s2.toks+([]:List (Str×Value)).length };exact codeAny_compStart_list loop (T.self _ 0 _ _ _ st3 loop)
theorem Gx (N:List Str) (fr:List (Option Nat)) {elt tg iter:Expr} {ifs:List Expr} {scope:Scope} {pos:Pos} {wi:TI} {g:TG} {tt:TT} {te:TE} {cl:List (Str×Addr)}
  (hc:X.calm=true) (hi:PI X tg iter wi) (hchk:IK X.N X.env.scope scope N fr=true) (hclos:closureFor scope X.env=pure cl) (hcl:Rc X.env.cells cl) (hall:Kt cl scope.names)
  (hb:∀(C:Addr) (s:Shared) (H:Hp) (fp:List Addr),PG (Ce X scope cl N C s H fp) tg g/\Sa (Ce X scope cl N C s H fp) ifs tt/\PE (Ce X scope cl N C s H fp) elt te)
  (hs:∀x,foldedSetIterable iter X.env x=pure x:=by intro _;rfl) :
  PE X (.ListComp elt [⟨tg,iter,ifs,0⟩] scope pos) (Ou fr wi g tt te):=by
 intro pins s σ H Q I h;rw[eval_ListComp];refine OC N fr hc hi hchk hclos hcl hall hb hs I h λl H' s' C I' fC ⟨m,hn⟩ q=>?_
 refine⟨m,hn,λh'' hs''=>⟨.ref l,H',?_,rfl,q⟩⟩;obtain⟨f0,f1,f2,f3,f4,f5⟩:=fC;exact I'.turned (t':=s'.toks) (λb o hb e=>(hs''.2 b hb).trans e) f0 f1 f3 f4 f5
theorem PL (N:List Str) (fr:List (Option Nat)) {i:Nat} {x:Str} {elt tg iter:Expr} {ifs:List Expr} {scope:Scope} {cpos pos pos':Pos} {wi:TI} {g:TG} {tt:TT} {te:TE} {cl:List (Str×Addr)}
  (hN:X.N.Nodup) (hi':X.N[i]?=some x) (hx:Loc X.env.scope x)
  (hc:X.calm=true) (hi:PI X tg iter wi) (hchk:IK X.N X.env.scope scope N fr=true) (hclos:closureFor scope X.env=pure cl) (hcl:Rc X.env.cells cl) (hall:Kt cl scope.names)
  (hb:∀(C:Addr) (s:Shared) (H:Hp) (fp:List Addr),PG (Ce X scope cl N C s H fp) tg g/\Sa (Ce X scope cl N C s H fp) ifs tt/\PE (Ce X scope cl N C s H fp) elt te)
  (hs:∀x,foldedSetIterable iter X.env x=pure x:=by intro _;rfl)
  (hsw:swapsWith (.ListComp elt [⟨tg,iter,ifs,0⟩] scope cpos) (some (.Name x pos')) pos.line X.env=pure true:=by rfl)
  (hf:X.fn x=true\/X.env.scope.names.lookup x=some .local:=by first|exact .inl rfl|exact .inr rfl|assumption) :
  PS X (.Assign [.Name x pos'] (.ListComp elt [⟨tg,iter,ifs,0⟩] scope cpos) pos) (Wu (Ou fr wi g tt te) (CG i)):=by
 intro pins s σ H D I h;rw[exec_Assign_arm];refine ay (d6 ?_);rw[show swapsWithSole [.Name x pos'] (.ListComp elt [⟨tg,iter,ifs,0⟩] scope cpos) pos.line X.env=pure true from hsw];refine ay (aH ?_);rw[aI rfl,arm_evalThenUse_ListComp];refine ay (ay ?_);have h1:Ou fr wi g tt te σ H λv H1=>D.nx (σ.set i (some v)) H1:=h
 refine OC (use:=some _) N fr hc hi hchk hclos hcl hall hb hs I h1 λl H' s' C I' fC ⟨m,hn⟩ q=>?_
 obtain⟨f0,f1,f2,f3,f4,f5⟩:=fC;obtain⟨o,es,ep,ho,hd,hk,hm⟩:=hn;have Ip:Inv X (pins++[(C,o)]) σ H' s':=I'.pins_of λp hp=>(bu.mp hp).elim (λz=>I'.pin p (aV _ z)) λz=>by
  rw[aG.mp z];exact⟨ho,f0,f1,f2,λv e=>by rw[hd] at e;cases e⟩
 show wpAny _ _ (assignAll (.ref l) [assign (.Name x pos') X.env]) _ _ _;rw[assignAll.eq_2];refine wpAny_assign_Name (HP Ip hN hi' hx (v:=.ref l) rfl (λs2 I2=>?_) hf);have ho2:=(I2.pin (C,o) (aV _ (aV _ (List.mem_singleton_self _)))).1;refine⟨m,⟨o,es,ep,ho2,hd,hk,hm⟩,λh' hs'=>aH (aH ⟨_,H',?_,q⟩)⟩;exact I2.unpinned.turned (t':=s2.toks) (λb o hb e=>(hs'.2 b hb).trans e) f0 f1 f3 f4 f5
def Ke (sc:Scope):Bool:=
 decide (sc.kind=.function)&&(sc.names.all λy=>!decide (y.2=.cell))&&(sc.names.all λy=>!decide (y.2=.local)||decide (sc.names.lookup y.1=some .local))&&(sc.names.all λy=>!decide (y.2=.free))
theorem Fi (N:List Str) {elt tg iter:Expr} {ifs:List Expr} {scope:Scope} {pos:Pos} {wi:TI} {g:TG} {tt:TT} {te:TE}
  (hc:X.calm=true) (hi:PI X tg iter wi) (hchk:Ke scope=true)
  (hb:∀(C:Addr) (s:Shared) (H:Hp) (fp:List Addr),PG (Ce X scope [] N C s H fp) tg g/\Sa (Ce X scope [] N C s H fp) ifs tt/\PE (Ce X scope [] N C s H fp) elt te)
  (hs:∀x,foldedSetIterable iter X.env x=pure x:=by intro _;rfl) :
  PE X (.ListComp elt [⟨tg,iter,ifs,0⟩] scope pos) (Ou (N.map λ_=>none) wi g tt te):=by
 simp only[Ke,Bool.and_eq_true,decide_eq_true_eq,List.all_eq_true,Bool.or_eq_true,Bool.not_eq_true',decide_eq_false_iff_not] at hchk;obtain⟨⟨⟨hkind,hcell⟩,hnames⟩,hfree⟩:=hchk;refine Gx (cl:=[]) N (N.map λ_=>none) hc hi ?_ (closureFor_none λx hx=>hfree x hx) trivial ?_ hb hs
 ·simp only[IK,Bool.and_eq_true,decide_eq_true_eq,List.all_eq_true,Bool.or_eq_true,Bool.not_eq_true',decide_eq_false_iff_not];refine⟨⟨⟨⟨⟨hkind,by simp⟩,hcell⟩,hnames⟩,λy hy=>.inl (hfree y hy)⟩,λp hp=>?_⟩;have:p.2∈N.map λ_=>(none:Option Nat):=(cW hp).2
  obtain⟨_,_,e⟩:=aA.mp this;rw[<-e]
 ·have:∀ns:List (Str×NameKind),(∀y∈ns,y.2≠.free)->Kt [] ns:=by
   intro ns
   induction ns with
   |nil=>intro _;exact trivial
   |cons p r ih=>intro h;exact⟨λe=>absurd e (h p aK),ih λy hy=>h y (aB _ hy)⟩
  exact this _ λy hy=>hfree y hy
theorem VG (N:List Str) {i:Nat} {x:Str} {elt tg iter:Expr} {ifs:List Expr} {scope:Scope} {cpos pos pos':Pos} {wi:TI} {g:TG} {tt:TT} {te:TE}
  (hN:X.N.Nodup) (hi':X.N[i]?=some x) (hx:Loc X.env.scope x)
  (hc:X.calm=true) (hi:PI X tg iter wi) (hchk:Ke scope=true)
  (hb:∀(C:Addr) (s:Shared) (H:Hp) (fp:List Addr),PG (Ce X scope [] N C s H fp) tg g/\Sa (Ce X scope [] N C s H fp) ifs tt/\PE (Ce X scope [] N C s H fp) elt te)
  (hs:∀x,foldedSetIterable iter X.env x=pure x:=by intro _;rfl)
  (hsw:swapsWith (.ListComp elt [⟨tg,iter,ifs,0⟩] scope cpos) (some (.Name x pos')) pos.line X.env=pure true:=by rfl)
  (hf:X.fn x=true\/X.env.scope.names.lookup x=some .local:=by first|exact .inl rfl|exact .inr rfl|assumption) :
  PS X (.Assign [.Name x pos'] (.ListComp elt [⟨tg,iter,ifs,0⟩] scope cpos) pos) (Wu (Ou (N.map λ_=>none) wi g tt te) (CG i)):=by
 simp only[Ke,Bool.and_eq_true,decide_eq_true_eq,List.all_eq_true,Bool.or_eq_true,Bool.not_eq_true',decide_eq_false_iff_not] at hchk;obtain⟨⟨⟨hkind,hcell⟩,hnames⟩,hfree⟩:=hchk;refine PL (cl:=[]) N (N.map λ_=>none) hN hi' hx hc hi ?_ (closureFor_none λx hx=>hfree x hx) trivial ?_ hb hs hsw hf
 ·simp only[IK,Bool.and_eq_true,decide_eq_true_eq,List.all_eq_true,Bool.or_eq_true,Bool.not_eq_true',decide_eq_false_iff_not];refine⟨⟨⟨⟨⟨hkind,by simp⟩,hcell⟩,hnames⟩,λy hy=>.inl (hfree y hy)⟩,λp hp=>?_⟩;have:p.2∈N.map λ_=>(none:Option Nat):=(cW hp).2
  obtain⟨_,_,e⟩:=aA.mp this;rw[<-e]
 ·have:∀ns:List (Str×NameKind),(∀y∈ns,y.2≠.free)->Kt [] ns:=by
   intro ns
   induction ns with
   |nil=>intro _;exact trivial
   |cons p r ih=>intro h;exact⟨λe=>absurd e (h p aK),ih λy hy=>h y (aB _ hy)⟩
  exact this _ λy hy=>hfree y hy
end
def Def (P:Program)(w:World)(K:PySem.W.Frag)(mg:Str->Option Value)(base:Heap)(k:Nat)(x:Str)(ps:List Str)(sp:Sp):Prop:=
 ∃(f:Addr) (fd:FuncData),FnOk P w K mg base FL k f fd ps sp/\mg x=some (.ref f)/\PySem.W.keepIn K (.ref f)=true/\Binds K fd ps []
section
variable {X:Cx}{k:Nat}{x:Str}{ps:List Str}{sp:Sp}{e:Expr}{es:List Expr}{t:TA}{p pos:Pos}
theorem AW (D:Def X.prog X.w X.K X.mg X.base k x ps sp) (hr:Room k X.A) (hg:Gl X x) (ha:PA X (e::es) t)
  (hdb:(x == ("__debug__":Str))=false:=by decide) (he:starEach (e::es) X.env=(false,eval e X.env)::starEach es X.env:=by rfl) (hpl:(backTo pos (starEach es X.env)).any (·.1)=false:=by rfl) :
  PE X (.Call (.Name x p) (e::es) [] pos) (Ny sp [] E0 t):=by
 obtain⟨f,fd,F,hm,hk,hb⟩:=D;exact SK F hr hg hm hk hb .nil Vc ha hdb he hpl
end
section
variable {X:Cx}
theorem Bv {x:Str}{i:Int}{pos:Pos}(hg:Gl X x)(hm:∃t,X.mg x=some (.int i t))(hd:(x == ("__debug__":Str))=false:=by decide):PE X (.Name x pos) (tC (.int i)):=by
 obtain⟨t,hm⟩:=hm;exact OP hg hm ⟨_,rfl⟩ hd
theorem YK {x:Str}{T:String}{pos:Pos}(hg:Gl X x)(hm:X.mg x=none)(hv:bootBuiltins x=some (.type T))(hn:x≠"__name__":=by decide)(hd:(x == ("__debug__":Str))=false:=by decide):PE X (.Name x pos) (tC (.ty T)):=W1 hg hm hv rfl hn hd
theorem QV {x z:Str}{pos:Pos}(hg:Gl X x)(hm:∃t,X.mg x=some (.str z t))(hd:(x == ("__debug__":Str))=false:=by decide):PE X (.Name x pos) (tC (.str z)):=by
 obtain⟨t,hm⟩:=hm;exact OP hg hm ⟨_,rfl⟩ hd
end
theorem Cf:bootBuiltins "isinstance"=some (.builtin "isinstance"):=by decide +kernel
theorem Lj:bootBuiltins "all"=some (.builtin "all"):=by decide +kernel
theorem IE:bootBuiltins "sorted"=some (.builtin "sorted"):=by decide +kernel
theorem EI:bootBuiltins "len"=some (.builtin "len"):=by decide +kernel
theorem XZ:bootBuiltins "str"=some (.type "str"):=by decide +kernel
theorem QQ:bootBuiltins "tuple"=some (.type "tuple"):=by decide +kernel
theorem PM:bootBuiltins "dict"=some (.type "dict"):=by decide +kernel
theorem Xv {t c:String}{b:Bool}(h:(if(Value.type t == Value.type c)=true then some true else if PySem.W.kitMeta c=true then(fastBuiltinMro t).map (·.contains (.type c)) else none)=some b)(K:PySem.W.Frag) :
  PySem.W.kitOne K (.type t) (.type c)=some b:=h
section
variable {X:Cx}
def ZM (K:PySem.W.Frag):List V->Hp->VK->Prop:=λxs H Q=>∃x c t b,xs=[x,.ty c]/\TyOf K H x t/\PySem.W.kitOne K t (.type c)=some b/\Q (.bl b) H
theorem Qv:GR X (.builtin "isinstance") (ZM X.K):=by
 intro pins s σ H xs us Q I r h;obtain⟨x,c,t,b,rfl,ty,e,q⟩:=h;obtain⟨u,v,rfl,ru,rv⟩:=vals2 r;have ev:v=Value.type c:=rv;subst ev;exact Te I ru ty e λtk=>⟨.bl b,H,I.tok _,rfl,q⟩
end
def Vv:V->Bool
 | .non=>true
 | .int _=>true
 | .str _=>true
 |_=>false
theorem pure_eq {x y:V}(hx:Vv x=true)(hy:Vv y=true):P6 x y=decide (x=y):=by
 cases x<;>first|exact absurd (show false=true from hx) aJ|skip
 all_goals (cases y<;>first|exact absurd (show false=true from hy) aJ|skip)
 ·rfl
 ·rfl
 ·rfl
 ·rfl
 ·exact PD.symm
 ·rfl
 ·rfl
 ·rfl
 ·exact FI.symm
theorem LF:∀{bs:List Bool} {us:List Value},Bd (bs.map V.bl) us->LSm.BoolsAre us bs
 |[],_,.nil=>.nil
 |b::bs,_,.cons r t=>by
  have e:_=Value.bool b:=r;subst e;exact .cons b (LF t)
section
variable {prog:Program}{w:World}{A:Around}{E:Value->Shared->Prop}{s:Shared}{l:Addr}{vs:List Value}
theorem Uw {bs:List Bool} {Q:Value->Shared->Prop} (hh:A.handled=none) (hl:s.heap.IsList l vs.toArray) (hb:LSm.BoolsAre vs bs)
  (h:∀h' tk,(∀b o,s.heap.get? b=some o->h'.get? b=some o)->Q (.bool (bs.all id)) { s with heap:=h',toks:=tk }):wpAny (model prog w) A (call (.builtin "all") [.ref l]) Q E s:=by
 have below:l<s.heap.objs.size:=(λ⟨_,e,_⟩=>aP e:s.heap.IsList l vs.toArray->_) hl;have whole:((List.range vs.toArray.size).all λi=>(bs[i]?).getD true)=bs.all id:=by rw[aY,hb.length,LSm.range_all]
 exact call_all_walk (dZ hl ⟨s.heap.objs.size,[s.heap.objs.size,l],[s.heap.objs.size],vs.toArray.size,_,_,λi=>(bs[i]?).getD true,rfl,Walks.list (A:=A.in1) hh _ l (bg below) vs.toArray,⟨⟨_,aN _ rfl,rfl,rfl⟩,hl.push _⟩,
  (λi v s' Q' E' hP hQ=>by
   obtain⟨b,hg,hv⟩:=hb.get i v (by simpa using hP);have hQ':Q' b s':=by simpa [hg] using hQ
   subst hv;exact cy hQ'),
  λh' tk hk=>whole▸h h' tk (LSm.kept_iter hk)⟩)
end
section
variable {X:Cx}
theorem GK (hc:X.calm=true):GR X (.builtin "all") (λxs H Q=>∃(a:Addr) (bs:List Bool),xs=[.ref a]/\A7 X.K H a (bs.map V.bl)/\Q (.bl (bs.all id)) H):=by
 intro pins s σ H xs us Q I r h;obtain⟨a,bs,rfl,h1,q⟩:=h;obtain⟨u,rfl,ru⟩:=vals1 r;cases ru;obtain⟨its,r1,p1,_⟩:=I.list h1;exact Uw (I.ok.hd hc) p1.isList (LF r1) λh' tk hk=>⟨.bl _,H,I.kept hk,rfl,q⟩
def UM (K:PySem.W.Frag):R2:=λx y H Q=>∃l b xs zs,x=.ref l/\y=.ref b/\A7 K H l xs/\A7 K H b zs/\xs.length+zs.length<=sizeLine/\∀p,H p=none->Q (.ref p) (upd H p (.lst (xs++zs)))
theorem GC:JS X (binaryOp .Add) (UM X.K):=by
 intro pins s σ H x y v u Q I rx ry h;obtain⟨l,b,xs,zs,rfl,rfl,h1,h2,hz,q⟩:=h;cases rx;cases ry;obtain⟨its,r,p1,_⟩:=I.list h1;obtain⟨its2,r2,p2,_⟩:=I.list h2;have l1:=r.length;have l2:=r2.length;obtain⟨⟨cls,dd,data,sl⟩,ho,hc,n,hd⟩:=id p1.isList;obtain⟨⟨cls2,dd2,data2,sl2⟩,ho2,hc2,n2,hd2⟩:=id p2.isList;simp only at hc hd hc2 hd2;subst hc hd hc2 hd2;have e:its.toArray++its2.toArray=(its++its2).toArray:=by simp
 refine fJ ⟨_,ho,rfl⟩ ⟨_,ho2,rfl⟩ noFill_list_add seq_list_add PySem.F.slot_list_add PySem.F.entry_list_add (PySem.F.args_list_add_2 _ _) (list_addW l b its.toArray its2.toArray n n2 dd dd2 sl sl2 (by rw[aY,aY];omega)) ⟨ho,ho2,?_⟩;rw[e];exact⟨.ref _,_,I.lnew (t':=s.toks) (r.append r2) (by rw[aM];omega),rfl,q _ I.fresh⟩
end
theorem Ai {H:Hp}{p:Addr}(h:H p=none)(o:HO):AJ H (upd H p o):=λb u q=>by rw[Ax (B6 q h)];exact q
theorem Fo {H H':Hp}{p:Addr}(s:AJ H H')(h:H p=none)(o:HO):AJ H (upd H' p o):=λb u q=>by rw[Ax (B6 q h)];exact s b u q
theorem AJ.get {H H':Hp}{a:Addr}{o:HO}(s:AJ H H')(h:H a=some o):H' a=some o:=s a o h
theorem J0:1000000<=sizeLine:=by decide
theorem small {n:Nat}(h:n<=1000000):n<=sizeLine:=bj h J0
theorem E8 {n:Nat}(h:n<1000000):n<sizeLine:=bc h J0
theorem Xt {xs:List V}{i:Int}(h:0<=i):JG xs (some i) none=xs.drop i.toNat:=by
 unfold JG;rw[show i=((i.toNat:Nat):Int) by omega,HT.Mc,HT.Qm,cO]
 by_cases hl:i.toNat<=xs.length
 ·rw[d4 hl,bF (by rw[cA];exact aD _)]
 ·rw[dN (by omega),gf (aD _),gf (by omega),List.take_nil]
theorem Ra {xs:List V}{j:Int}(h:0<=j):JG xs none (some j)=xs.take j.toNat:=by
 unfold JG;rw[show j=((j.toNat:Nat):Int) by omega,HT.Mc,HT.Qm,cO,fN,dX]
 by_cases hl:j.toNat<=xs.length
 ·rw[d4 hl]
 ·rw[dN (by omega),bF (aD _),bF (by omega)]
theorem VX {xs:List V}{i j:Int}(hi:0<=i)(hj:0<=j):JG xs (some i) (some j)=(xs.drop i.toNat).take (j.toNat-i.toNat):=by
 unfold JG;rw[show i=((i.toNat:Nat):Int) by omega,show j=((j.toNat:Nat):Int) by omega,HT.Mc,HT.Mc,cO,cO];generalize i.toNat=a;generalize j.toNat=b;apply e8;intro k;rw[List.getElem?_take,List.getElem?_take,List.getElem?_drop,List.getElem?_drop]
 by_cases ha:a<=xs.length
 ·rw[d4 ha]
  by_cases hb:b<=xs.length
  ·rw[d4 hb]
  ·rw[dN (by omega)]
   by_cases h1:k<xs.length-a
   ·rw[aI h1,aI (by omega)]
   ·rw[aF h1]
    split
    ·rw[bI (by omega)]
    ·rfl
 ·rw[dN (show xs.length<=a by omega)];rw[bI (by omega),bI (by omega)]
  split<;>split<;>rfl
theorem Vm (ns:List Int)(lo hi:Option Int):∃ms:List Int,JG (ns.map V.int) lo hi=ms.map V.int/\ms.length<=ns.length/\∀x∈ms,x∈ns:=by
 refine⟨(ns.drop (HT.EH (ns.map V.int).length 0 lo)).take (HT.EH (ns.map V.int).length (ns.map V.int).length hi-HT.EH (ns.map V.int).length 0 lo),?_,?_,λx hx=>du (gz hx)⟩
 ·unfold JG;rw[dG,fS]
 ·rw[bY,cA];omega
theorem Ay {c:Bool}{A B:Prop}(h:c=false)(b:B):if c=true then A else B:=by
 subst h;rw[aF aJ];exact b
theorem AU {c:Bool}{A B:Prop}(h:c=true)(b:A):if c=true then A else B:=by
 subst h;rw[aI rfl];exact b
theorem dec_true {c:Prop}[Decidable c](h:decide c=true):c:=aW h
theorem dec_false {c:Prop}[Decidable c](h:¬decide c=true):¬c:=λz=>h (aE z)
def Kd (J:It)(H:Hp)(xs:List V):Prop:=∀H',AJ H H'->∀i:Nat,(i<xs.length->J.go i H')/\(∀x H'',J.yld i H' x H''->H''=H'/\(i<xs.length->xs[i]?=some x))/\(xs.length<=i->J.stop i H')
theorem EN {K:PySem.W.Frag}{a:Addr}{H:Hp}{xs:List V}(h:A7 K H a xs):Kd (YA K a) H xs:=λH' s i=>
 ⟨λhi=>⟨xs,xs[i],s.seq h,by simp[hi]⟩,λx H'' y=>⟨y.1,λ_=>y.2 xs (s.seq h)⟩,λhi=>⟨xs,s.seq h,hi⟩⟩
theorem Rq {lo:Int}{n:Nat}{H:Hp}:Kd (Yn lo n) H ((List.range n).map λ(i:Nat)=>V.int (lo+(i:Int))):=λH' s i=>
 ⟨λhi=>(by simpa using hi:i<n),λx H'' y=>⟨y.1,λhi=>by
  have hi':i<n:=by simpa using hi
  rw[aQ,List.getElem?_range hi',y.2];rfl⟩,λhi=>(by simpa using hi:n<=i)⟩
theorem comp_map {J:It} {xs:List V} {fr:List (Option Nat)} {k:Nat} {te:TE} {Q:VK} {σ:St} {H:Hp} (f:V->V) (hJ:Kd J H xs) (hn:xs.length<=1000000)
  (helt:∀(x:V) (H':Hp) (R:VK),x∈xs->AJ H H'->(∀H'',AJ H' H''->R (f x) H'')->te ((stC fr σ).set k (some x)) H' R)
  (hQ:∀l H',H l=none->AJ H H'->H' l=some (.lst (xs.map f))->Q (.ref l) H') :
  Jt fr (CG k) X6 te σ Q J H:=by
 intro l hl;refine⟨λi m σ' H'=>m=xs.length-i/\i<=xs.length/\(∀y,σ'.set k y=(stC fr σ).set k y)/\AJ H H'/\H' l=some (.lst ((xs.take i).map f)),⟨xs.length,by simp,bC _,λ_=>rfl,Ai hl _,by rw[Ae,eD,dw]⟩,?_⟩
 rintro i m σ' H' ⟨rfl,hi,hσ,hs,hl'⟩
 obtain⟨h1,h2,h3⟩:=hJ H' hs i
 by_cases hlt:i<xs.length
 ·refine .inr ⟨h1 hlt,λx H'' y=>?_⟩;obtain⟨rfl,hx⟩:=h2 x H'' y;have hx:=hx hlt;show te (σ'.set k (some x)) H'' _;rw[hσ];refine helt x H'' _ (bD hx) hs λH4 s4=>?_
  refine⟨_,s4.get hl',E8 (by rw[ax,bY];omega),xs.length-(i+1),by omega,rfl,hlt,λy=>by rw[eY],Fo (hs.trans s4) hl _,?_⟩;rw[Ae,cL,hx];simp
 ·have e:i=xs.length:=by omega
  subst e;exact .inl ⟨h3 (aD _),hQ l H' hl hs (by rw[hl',bF (aD _)])⟩
section
variable {X:Cx}{K:PySem.W.Frag}
theorem Qo (h:X.K=K):YB X (YV K):=by subst h;exact Bx
theorem GB (h:X.K=K):YB X (Zk K):=by subst h;exact An
end
def Ok (H:Hp):V->Prop
 | .non=>True
 | .bl _=>True
 | .int _=>True
 | .str z=>z.length<=1000
 | .ref a=>(∃xs,H a=some (.lst xs))\/∃xs,H a=some (.tup xs)
 |_=>False
def L8 (H:Hp):V->String
 | .non=>"NoneType"
 | .bl _=>"bool"
 | .int _=>"int"
 | .str _=>"str"
 | .ref a=>match H a with
  |some (.lst _)=>"list"
  |some (.tup _)=>"tuple"
  |_=>"?"
 |_=>"?"
theorem Ok.ty {H:Hp}{v:V}(h:Ok H v)(K:PySem.W.Frag):TyOf K H v (.type (L8 H v)):=by
 cases v with
 |non=>exact .non
 |bl b=>exact .bl b
 |int i=>exact .int i
 |str z=>exact .str z
 |ref a=>
  rcases h with⟨xs,e⟩|⟨xs,e⟩
  ·have q:L8 H (.ref a)="list":=by simp only[L8,e]
   rw[q];exact .lst e
  ·have q:L8 H (.ref a)="tuple":=by simp only[L8,e]
   rw[q];exact .tup e
 |_=>exact h.elim
def isA (t c:String):Bool:=t == c||(t == "bool"&&c == "int")
theorem WY {t c:String}(K:PySem.W.Frag)(ht:t∈["NoneType","bool","int","str","list","tuple"])(hc:c∈["bool","int","str","list","tuple"]):PySem.W.kitOne K (.type t) (.type c)=some (isA t c):=by
 have all:∀t∈["NoneType","bool","int","str","list","tuple"],∀c∈["bool","int","str","list","tuple"],(if(Value.type t == Value.type c)=true then some true else if PySem.W.kitMeta c=true then(fastBuiltinMro t).map (·.contains (.type c)) else none)=some (isA t c):=by decide +kernel
 exact Xv (all t ht c hc) K
theorem Ok.tyMem {H:Hp}{v:V}(h:Ok H v):L8 H v∈["NoneType","bool","int","str","list","tuple"]:=by
 cases v with
 |ref a=>
  rcases h with⟨xs,e⟩|⟨xs,e⟩
  ·simp only[L8,e];decide
  ·simp only[L8,e];decide
 |byt _=>exact h.elim
 |flt _=>exact h.elim
 |ty _=>exact h.elim
 |_=>simp only[L8];decide
theorem Ok.kit {H:Hp}{v:V}(h:Ok H v)(K:PySem.W.Frag){c:String}(hc:c∈["bool","int","str","list","tuple"]:=by decide):PySem.W.kitOne K (.type (L8 H v)) (.type c)=some (isA (L8 H v) c):=WY K h.tyMem hc
theorem Wh {H:Hp}{a:Addr}{xs:List V}(e:H a=some (.lst xs)):L8 H (.ref a)="list":=by simp only[L8,e]
theorem WA {H:Hp}{a:Addr}{xs:List V}(e:H a=some (.tup xs)):L8 H (.ref a)="tuple":=by simp only[L8,e]
theorem Ok.elim {H:Hp} {v:V} (ok:Ok H v) {C:Prop} (c1:v=.non->L8 H v="NoneType"->C) (c2:∀b,v=.bl b->L8 H v="bool"->C) (c3:∀i,v=.int i->L8 H v="int"->C) (c4:∀z,v=.str z->z.length<=1000->L8 H v="str"->C)
  (c5:∀a xs,v=.ref a->H a=some (.lst xs)->L8 H v="list"->C) (c6:∀a xs,v=.ref a->H a=some (.tup xs)->L8 H v="tuple"->C):C:=by
 cases v with
 |non=>exact c1 rfl rfl
 |bl b=>exact c2 b rfl rfl
 |int i=>exact c3 i rfl rfl
 |str z=>exact c4 z rfl ok rfl
 |ref a=>
  rcases ok with⟨xs,e⟩|⟨xs,e⟩
  ·exact c5 a xs rfl e (Wh e)
  ·exact c6 a xs rfl e (WA e)
 |_=>exact(show False from ok).elim
theorem XG {H:Hp}{v:V}(ok:Ok H v)(h:isA (L8 H v) "str"=true):∃z,v=.str z/\z.length<=1000:=by
 refine ok.elim (λ_ e=>?_) (λ_ _ e=>?_) (λ_ _ e=>?_) (λz e1 e2 _=>⟨z,e1,e2⟩) (λ_ _ _ _ e=>?_) (λ_ _ _ _ e=>?_)
 all_goals (rw[e] at h;exact absurd h (by decide))
def Zu (x:Str):It:=⟨λi _=>i<x.cps.size,λi H v H'=>H'=H/\∃c,x.cps[i]?=some c/\v=.str ⟨#[c]⟩,λi _=>x.cps.size<=i⟩
theorem R5 {P:Program}{w:World}{K:PySem.W.Frag}{tg:Expr}(it:Addr)(x:Str)(t:Tok):Turn P w K tg (Zu x) [it] it (λi h=>h.IsStrIter it "str_ascii_iterator" x t i) where
 mem:=by simp
 obj:=λi h st b hb=>by
  have e:b=it:=by simpa using hb
  subst e;obtain⟨o,e,c,d⟩:=st;exact⟨o,e,λv z=>by rw[d] at z;cases z⟩
 keep:=λi h h' st k=>by
  obtain⟨o,e,c,d⟩:=st;exact⟨o,k it (by simp) o e,c,d⟩
 item:=by
  intro X hP hw hK hc i pins s σ H E I hf st hg;subst hP hw hK;have hg':i<x.cps.size:=hg;obtain⟨f0,f1,f2,f3,f4,f5⟩:=hf it (by simp);refine wpAny_pyNext_ascii_item st (c:=x.cps[i]) (by simp[hg']) λh' st' sb=>?_
  have I1:Inv X pins σ H { s with heap:=h',toks:=s.toks+1 }:=I.turned (λb o hb e=>(sb.2 b hb).trans e) f0 f1 f3 f4 f5;obtain⟨o,e,c,d⟩:=id st';exact⟨_,rfl,MR (s:={ s with heap:=h',toks:=s.toks+1 }) e c d (by decide) ⟨.str ⟨#[x.cps[i]]⟩,H,I1,⟨_,rfl⟩,⟨rfl,_,by simp[hg'],rfl⟩,st',λb hb=>(hf b hb).1⟩⟩
 done:=by
  intro X hP hw hK hc i pins s σ H E I hf st hg;subst hP hw hK;have hg':x.cps.size<=i:=hg;obtain⟨f0,f1,f2,f3,f4,f5⟩:=hf it (by simp);exact wpAny_pyNext_ascii_end (I.ok.hd hc) st (by simp[hg']) λh' eb=>⟨rfl,I.turned (t':=s.toks) (λb o hb e=>eb b o hb e) f0 f1 f3 f4 f5⟩
 self:=λ_ _ _ _ _ st h=>wpAny_pyIter_striter_ascii st h
theorem Ut {P:Program}{w:World}{K:PySem.W.Frag}{tg:Expr}(it:Addr)(x:Str)(t:Tok):Turn P w K tg (Zu x) [it] it (λi h=>h.IsStrIter it "str_iterator" x t i) where
 mem:=by simp
 obj:=λi h st b hb=>by
  have e:b=it:=by simpa using hb
  subst e;obtain⟨o,e,c,d⟩:=st;exact⟨o,e,λv z=>by rw[d] at z;cases z⟩
 keep:=λi h h' st k=>by
  obtain⟨o,e,c,d⟩:=st;exact⟨o,k it (by simp) o e,c,d⟩
 item:=by
  intro X hP hw hK hc i pins s σ H E I hf st hg;subst hP hw hK;have hg':i<x.cps.size:=hg;obtain⟨f0,f1,f2,f3,f4,f5⟩:=hf it (by simp);refine wpAny_pyNext_wide_item st (c:=x.cps[i]) (by simp[hg']) λh' st' sb=>?_
  have I1:Inv X pins σ H { s with heap:=h',toks:=s.toks+1 }:=I.turned (λb o hb e=>(sb.2 b hb).trans e) f0 f1 f3 f4 f5;obtain⟨o,e,c,d⟩:=id st';exact⟨_,rfl,MR (s:={ s with heap:=h',toks:=s.toks+1 }) e c d (by decide) ⟨.str ⟨#[x.cps[i]]⟩,H,I1,⟨_,rfl⟩,⟨rfl,_,by simp[hg'],rfl⟩,st',λb hb=>(hf b hb).1⟩⟩
 done:=by
  intro X hP hw hK hc i pins s σ H E I hf st hg;subst hP hw hK;have hg':x.cps.size<=i:=hg;obtain⟨f0,f1,f2,f3,f4,f5⟩:=hf it (by simp);exact wpAny_pyNext_wide_end (I.ok.hd hc) st (by simp[hg']) λh' eb=>⟨rfl,I.turned (t':=s.toks) (λb o hb e=>eb b o hb e) f0 f1 f3 f4 f5⟩
 self:=λ_ _ _ _ _ st h=>wpAny_pyIter_striter_wide st h
section
variable {X:Cx}{tg:Expr}
def ZV (tl:TE):TI:=λσ H R=>tl σ H λx H1=>∃z,x=.str z/\R (Zu z) H1
theorem Vo {l:Expr}{tl:TE}(hl:PE X l tl):PI X tg l (ZV tl):=by
 intro pins s σ H R I h;refine Cq (hl pins s σ H _ I h) λv s1 ⟨x,H1,I1,r1,q1⟩=>?_
 obtain⟨z,e,q⟩:=q1;subst e;obtain⟨t,rfl⟩:=r1;have fp:∀b∈[s1.heap.objs.size],NJ X pins H1 b:=λb hb=>by
  have e:b=s1.heap.objs.size:=by simpa using hb
  subst e;exact I1.fpOk (aD _) (I1.hok.fresh (aD _))
 cases ha:z.cps.all (· < 128)
 ·exact wpAny_pyIter_wide ha ⟨s1.heap.objs.size,[s1.heap.objs.size],_,_,H1,rfl,I1.kept (t':=s1.toks) (λb o e=>az _ e),Ut _ z t,⟨_,aN _ rfl,rfl,rfl⟩,fp,q⟩
 ·exact wpAny_pyIter_ascii ha ⟨s1.heap.objs.size,[s1.heap.objs.size],_,_,H1,rfl,I1.kept (t':=s1.toks) (λb o e=>az _ e),R5 _ z t,⟨_,aN _ rfl,rfl,rfl⟩,fp,q⟩
end
theorem QR {x:Str}{H:Hp}:Kd (Zu x) H (x.cps.toList.map λc=>V.str ⟨#[c]⟩):=λH' s i=>
 ⟨λhi=>(by simpa using hi:i<x.cps.size),λv H'' y=>⟨y.1,λhi=>by
  obtain⟨_,c,hc,e⟩:=y;rw[aQ,gq,hc,e];rfl⟩,λhi=>(by simpa using hi:x.cps.size<=i)⟩
section
variable {X:Cx}
def ZD:V->Option Int->Option Int->Hp->VK->Prop:=λx lo hi H Q=>∃z:Str,x=.str z/\z.length<=sizeLine/\Q (.str (PySem.Txt.slice z lo hi)) H
theorem UZ:Zr X ZD:=by
 intro pins s σ H x v vl vu lo hi sl Q I rx hs pl pu h;obtain⟨z,rfl,hz,q⟩:=h;obtain⟨t,rfl⟩:=rx;refine⟨"str",_,slot_str_getitem.lookup,fu _ _ _,?_⟩;cases pl with
 |none=>
  cases pu with
  |none=>exact df (l:=none) (u:=none) (st:=none) hs rfl (eN ⟨bj (bX z _ _) hz,λt' k=>⟨.str _,H,I.tok k,⟨_,rfl⟩,q⟩⟩)
  |int j tj=>exact df (l:=none) (u:=some (j,tj)) (st:=none) hs rfl (eN ⟨bj (bX z _ _) hz,λt' k=>⟨.str _,H,I.tok k,⟨_,rfl⟩,q⟩⟩)
 |int i ti=>
  cases pu with
  |none=>exact df (l:=some (i,ti)) (u:=none) (st:=none) hs rfl (eN ⟨bj (bX z _ _) hz,λt' k=>⟨.str _,H,I.tok k,⟨_,rfl⟩,q⟩⟩)
  |int j tj=>exact df (l:=some (i,ti)) (u:=some (j,tj)) (st:=none) hs rfl (eN ⟨bj (bX z _ _) hz,λt' k=>⟨.str _,H,I.tok k,⟨_,rfl⟩,q⟩⟩)
theorem Ro {ys:List Str}:∀{us:List Value},Bd (ys.map V.str) us->StrsAre us ys:=by
 induction ys with
 |nil=>intro us r;rw[dw] at r;cases r;exact .nil
 |cons n ns ih=>
  intro us r;rw[aR] at r;cases r with
  |cons r1 r2=>
   obtain⟨t,e⟩:=r1;subst e;exact .cons n t (ih r2)
def rJoin (K:PySem.W.Frag):V->List V->Hp->VK->Prop:=λx vs H Q=>∃(a:Addr) (z:Str) (ys:List Str),x=.str z/\vs=[.ref a]/\A7 K H a (ys.map V.str)/\(ys.map (·.length)).sum+ys.length*z.length<=16777216/\Q (.str (PySem.Txt.join z ys)) H
theorem O0 (_:X.calm=true):V5 X "str.join" (rJoin X.K):=by
 intro pins s σ H x vs v us Q I rx rv h;obtain⟨a,z,ys,rfl,rfl,hq,hz,q⟩:=h;obtain⟨tk,rfl⟩:=rx;obtain⟨y,rfl,ry⟩:=rv.one;cases ry;obtain⟨its,r1,p1,_⟩:=I.list hq;exact join_list p1.isList (Ro (by simpa using r1)) hz λt' k=>⟨.str _,H,I.tok k,⟨_,rfl⟩,q⟩
end
end L2
namespace L2
open PySem PySem.Spec PyProof.Rows PySem.Builtin.Str
abbrev Bj (z:Str):List Nat:=z.cps.toList
theorem Cp (z:Str):(Bj z).length=z.length:=by simp[Str.length]
theorem IJ {x y:Str}(h:Bj x=Bj y):x=y:=by
 obtain⟨a⟩:=x;obtain⟨b⟩:=y;have:a=b:=dR.mp h;rw[this]
theorem IH (a y:Str):Bj (a++y)=Bj a++Bj y:=by
 show(a.cps++y.cps).toList=_;simp
end L2
namespace L2
open PySem PySem.Spec PyProof.Rows
theorem Vn {J:It} {xs:List V} {fr:List (Option Nat)} {k:Nat} {te:TE} {Q:VK} {σ:St} {H:Hp} (P:V->V->Hp->Prop) (hP:∀x y H1 H2,P x y H1->AJ H1 H2->P x y H2)
  (hU:∀x y H1 l us us',P x y H1->H1 l=some (.lst us)->y≠.ref l->P x y (upd H1 l (.lst us'))) (hJ:Kd J H xs) (hn:xs.length<=1000000)
  (helt:∀(x:V) (H':Hp) (R:VK),x∈xs->AJ H H'->(∀y H'',AJ H' H''->(∀a,y=.ref a->H' a=none)->P x y H''->R y H'')->te ((stC fr σ).set k (some x)) H' R)
  (hQ:∀l H' (ys:List V),H l=none->AJ H H'->H' l=some (.lst ys)->ys.length=xs.length->(∀(i:Nat) x y,xs[i]?=some x->ys[i]?=some y->P x y H'/\y≠.ref l)->Q (.ref l) H') :
  Jt fr (CG k) X6 te σ Q J H:=by
 intro l hl;refine⟨λi m σ' H'=>m=xs.length-i/\i<=xs.length/\(∀y,σ'.set k y=(stC fr σ).set k y)/\AJ H H'/\∃ys:List V,H' l=some (.lst ys)/\ys.length=i/\(∀(i:Nat) x y,xs[i]?=some x->ys[i]?=some y->P x y H'/\y≠.ref l),
  ⟨xs.length,by simp,bC _,λ_=>rfl,Ai hl _,[],Ae,rfl,λi x y _ h=>by simp at h⟩,?_⟩
 rintro i m σ' H' ⟨rfl,hi,hσ,hs,ys,hl',hlen,hp⟩
 obtain⟨h1,h2,h3⟩:=hJ H' hs i
 by_cases hlt:i<xs.length
 ·refine .inr ⟨h1 hlt,λx H'' y=>?_⟩;obtain⟨rfl,hx⟩:=h2 x H'' y;have hx:=hx hlt;show te (σ'.set k (some x)) H'' _;rw[hσ];refine helt x H'' _ (bD hx) hs λy H4 s4 fy py=>?_
  have yl:y≠.ref l:=λz=>by rw[fy l z] at hl';cases hl'
  refine⟨_,s4.get hl',E8 (by omega),xs.length-(i+1),by omega,rfl,hlt,λy=>by rw[eY],Fo (hs.trans s4) hl _,ys++[y],Ae,by rw[aM,hlen];rfl,λj x' y' hx' hy'=>?_⟩
  by_cases hj:j<ys.length
  ·rw[cn hj] at hy';obtain⟨q1,q2⟩:=hp j x' y' hx' hy';exact⟨hU _ _ _ _ _ _ (hP _ _ _ _ q1 s4) (s4.get hl') q2,q2⟩
  ·rw[cg (by omega)] at hy'
   by_cases hj2:j=ys.length
   ·subst hj2;rw[dv] at hy';cases(br hy':y=y');rw[hlen] at hx';cases(br (hx.symm.trans hx'):x=x');exact⟨hU _ _ _ _ _ _ py (s4.get hl') yl,yl⟩
   ·rw[bI (by simp;omega)] at hy';cases hy'
 ·have e:i=xs.length:=by omega
  subst e;exact .inl ⟨h3 (aD _),hQ l H' ys hl hs hl' hlen hp⟩
theorem V4 {X:Cx}{K:PySem.W.Frag}{pos:Pos}{es:List Expr}{k:Nat}{t:Xm}{n:Nat}(hK:X.K=K)(hc:X.calm=true)(h:YR X es t)(hn:(assignEach es X.env).length=n:=by rfl)(hs:(assignEach es X.env).findIdx? (·.1)=none:=by rfl):PG X (.Tuple es k pos) (XE K n t):=by
 subst hK;exact Ye hc h hn hs
section
variable {κ:Type}[DecidableEq κ]
def L0 (kvs:List (κ×V))(k:κ):Option V:=(kvs.find? λkv=>decide (kv.1=k)).map (·.2)
def putK (kvs:List (κ×V))(k:κ)(v:V):List (κ×V):=
 if(kvs.any λkv=>decide (kv.1=k))=true then kvs.map (λkv=>if kv.1=k then(kv.1,v) else kv) else kvs++[(k,v)]
theorem MT {p:κ×V}{r:List (κ×V)}{k:κ}(e:p.1=k):L0 (p::r) k=some p.2:=by simp[L0,List.find?_cons,e]
theorem Np {p:κ×V}{r:List (κ×V)}{k:κ}(e:¬p.1=k):L0 (p::r) k=L0 r k:=by simp[L0,List.find?_cons,e]
theorem Qz (kvs:List (κ×V))(k:κ)(v:V):(putK kvs k v).length<=kvs.length+1:=by
 unfold putK
 split
 ·rw[ax];omega
 ·rw[aM,bw,List.length_nil];omega
theorem Hq.isSome_eq {o:Option V}{u:Option Value}(r:Hq o u):o.isSome=u.isSome:=by
 cases o with
 |none=>cases u with
  |none=>rfl
  |some _=>exact(show False from r).elim
 |some _=>cases u with
  |none=>exact(show False from r).elim
  |some _=>rfl
theorem Hq.getD {o:Option V}{u:Option Value}{d:V}{d':Value}(r:Hq o u)(rd:RelV d d'):RelV (o.getD d) (u.getD d'):=by
 cases o with
 |none=>cases u with
  |none=>exact rd
  |some _=>exact(show False from r).elim
 |some _=>cases u with
  |none=>exact(show False from r).elim
  |some _=>exact r
theorem KV.val {kvs:List (κ×V)}{vs:List (κ×Value)}(r:KV kvs vs)(k:κ):Hq (L0 kvs k) (valueAt vs k):=by
 unfold KV at r
 induction r with
 |nil=>exact True.intro
 |@cons p q ps qs h t ih=>
  obtain⟨h1,h2⟩:=h
  by_cases e:p.1=k
  ·have e':q.1=k:=h1.symm.trans e;have b:valueAt (q::qs) k=some q.2:=by simp[valueAt,List.find?_cons,e']
   rw[MT e,b];exact h2
  ·have e':¬q.1=k:=λz=>e (h1.trans z)
   have b:valueAt (q::qs) k=valueAt qs k:=by simp[valueAt,List.find?_cons,e']
   rw[Np e,b];exact ih
theorem KV.any {kvs:List (κ×V)}{vs:List (κ×Value)}(r:KV kvs vs)(k:κ):(kvs.any λkv=>decide (kv.1=k))=vs.any λkv=>decide (kv.1=k):=by
 unfold KV at r
 induction r with
 |nil=>rfl
 |cons h t ih=>rw[eP,eP,ih,h.1]
theorem KV.repl {kvs:List (κ×V)}{vs:List (κ×Value)}(r:KV kvs vs)(k:κ){y:V}{u:Value}(ry:RelV y u) :
  KV (kvs.map λkv=>if kv.1=k then(kv.1,y) else kv) (vs.map λkv=>if kv.1=k then(kv.1,u) else kv):=by
 unfold KV at r ⊢
 induction r with
 |nil=>exact .nil
 |@cons p q ps qs h t ih=>
  rw[aR,aR];refine .cons ?_ ih;obtain⟨h1,h2⟩:=h
  by_cases e:p.1=k
  ·rw[aI e,aI (h1.symm.trans e)];exact⟨h1,ry⟩
  ·rw[aF e,aF (λz=>e (h1.trans z))];exact⟨h1,h2⟩
theorem KV.put {kvs:List (κ×V)}{vs:List (κ×Value)}(r:KV kvs vs)(k:κ){y:V}{u:Value}(ry:RelV y u):KV (putK kvs k y) (stored vs k u):=by
 unfold putK stored;rw[r.any k]
 by_cases e:(vs.any λkv=>decide (kv.1=k))=true
 ·rw[aI e,aI e];exact r.repl k ry
 ·rw[aF e,aF e];exact Paired.snoc r ⟨rfl,ry⟩
theorem KV.keys {kvs:List (κ×V)}{vs:List (κ×Value)}(r:KV kvs vs):kvs.map (·.1)=vs.map (·.1):=by
 unfold KV at r
 induction r with
 |nil=>rfl
 |cons h t ih=>rw[aR,aR,ih,h.1]
theorem KV.length {kvs:List (κ×V)}{vs:List (κ×Value)}(r:KV kvs vs):kvs.length=vs.length:=cD r
end
theorem Ni {P:Program}{w:World}{k:Key}{u:Value}(r:RelV (kV k) u):(Bs P w).is k u=true:=by
 cases k with
 |inl i=>obtain⟨t,e⟩:=(show ∃t,u=Value.int i t from r);subst e;exact QT P w i t
 |inr x=>obtain⟨t,e⟩:=(show ∃t,u=Value.str x t from r);subst e;exact Qf P w x t
theorem Oq {P:Program}{w:World}:∀{ks:List Key} {us:List Value},Bd (ks.map kV) us->ItemsAre (Bs P w) ks us
 |[],_,r=>by rw[dw] at r;cases r;exact .nil
 |k::ks,_,r=>by
  rw[aR] at r;cases r with
  |cons h t=>exact .cons (Ni h) (Oq t)
abbrev KT (H:Hp):List (List Key×V)->List (List Key×Addr×Value)->Prop:=Paired λp q=>p.1=q.1/\H q.2.1=some (.tup (p.1.map kV))/\RelV p.2 q.2.2
theorem KT.val {H:Hp}{kvs:List (List Key×V)}{xs:List (List Key×Addr×Value)}(r:KT H kvs xs)(k:List Key):Hq (L0 kvs k) ((atKey xs k).map (·.2)):=by
 induction r with
 |nil=>exact True.intro
 |@cons p q ps qs h t ih=>
  obtain⟨h1,_,h2⟩:=h
  by_cases e:p.1=k
  ·have e':q.1=k:=h1.symm.trans e;have b:atKey (q::qs) k=some q.2:=by simp[atKey,List.find?_cons,e']
   rw[MT e,b];exact h2
  ·have e':¬q.1=k:=λz=>e (h1.trans z)
   have b:atKey (q::qs) k=atKey qs k:=by simp[atKey,List.find?_cons,e']
   rw[Np e,b];exact ih
section
variable {P:Program}{w:World}{H:Hp}{h:Heap}{a:Addr}
theorem Xe {u:HO}(ok:Iy P w H h)(e:Rd H a u):Bn P w H h a u:=e.ok ok
theorem LG {kvs:List (Key×V)}(ok:Iy P w H h)(e:Rd H a (.dK kvs)):kvs.length<=sizeLine/\(a == sysModules)=false/\∃vs,KV kvs vs/\h.DictOf (Bs P w) a vs:=
 show Bn P w H h a (.dK kvs) from Xe ok e
theorem Xj {kvs:List (Key×V)}(ok:Iy P w H h)(e:H a=some (.dK kvs)):kvs.length<=sizeLine/\(a == sysModules)=false/\∃vs,KV kvs vs/\h.DictOf (Bs P w) a vs:=LG ok (.inl e)
theorem Nm {ks:List Key}(ok:Iy P w H h)(e:H a=some (.tup (ks.map kV))):(tupleKind (Bs P w)).is h ks a:=by
 obtain⟨_,its,r,o,h1,h2,n,h3⟩:=(show Bn P w H h a (.tup (ks.map kV)) from ok a _ e)
 exact⟨o,its.toArray,n,h1,h2,h3.1,by simpa using Oq r⟩
theorem On {kvs:List (List Key×V)}(ok:Iy P w H h)(e:Rd H a (.dT kvs)):kvs.length<=sizeLine/\(a == sysModules)=false/\
  ∃xs,KT H kvs xs/\h.DictOfH (tupleKind (Bs P w)) a xs:=by
 obtain⟨z,y,xs,r,o,es,ep,h1,h2,h3,h4,h5⟩:=(show Bn P w H h a (.dT kvs) from Xe ok e)
 refine⟨z,y,xs,r,o,es,ep,h1,h2,h3,h4,λx hx=>?_,h5⟩;have all:∀{l:List (List Key×V)} {m:List (List Key×Addr×Value)},KT H l m->∀x∈m,(tupleKind (Bs P w)).is h x.1 x.2.1:=by
  intro l m q
  induction q with
  |nil=>intro x hx;exact nomatch hx
  |@cons p q ps qs hq t ih=>
   intro x hx;rcases aX.mp hx with e|hx
   ·subst e;exact Nm ok (by rw[<-hq.1];exact hq.2.1)
   ·exact ih x hx
 exact all r x hx
end
def IC (H:Hp)(a:Addr)(y:V)(r:Option V):Prop:=
 (∃kvs k,Rd H a (.dK kvs)/\y=kV k/\r=L0 kvs k)\/∃kvs k b,Rd H a (.dT kvs)/\y=.ref b/\H b=some (.tup (k.map kV))/\r=L0 kvs k
theorem IC.k {H:Hp}{a:Addr}{kvs:List (Key×V)}{k:Key}(e:H a=some (.dK kvs)):IC H a (kV k) (L0 kvs k):=.inl ⟨kvs,k,.inl e,rfl,rfl⟩
section
variable {X:Cx}{pins:List (Addr×Obj)}{σ:St}{H:Hp}{s:Shared}{a:Addr}{y v:V}{u r:Value}{o:Option V}{A:Around}{E:Value->Shared->Prop}
theorem Inv.big (I:Inv X pins σ H s):sysModules<s.heap.objs.size:=by
 have h:mainGlobals<s.heap.objs.size:=(I.mod.glob.keeps I.bk).lt;exact Nat.lt_trans (by decide) h
theorem TU {Q:Value->Shared->Prop}(hu:A.units+1<cLine)(I:Inv X pins σ H s)(g:IC H a y (some v))(ry:RelV y u)(h:∀w' s',Inv X pins σ H s'->RelV v w'->Q w' s') :
  wpAny (model X.prog X.w) A (getItem (.ref a) u) Q E s:=by
 rcases g with⟨kvs,k,e,ey,l⟩|⟨kvs,k,b,e,ey,eb,l⟩
 ·subst ey;obtain⟨z,hd,vs,rel,dd⟩:=LG I.hok e;obtain⟨w',hw,rw'⟩:=Hq.some_of (v:=v) (o:=valueAt vs k) (by rw[l];exact rel.val k);exact wpAny_getItem_of (Ni ry) dd.mapOf hw (h w' _ (I.tok _) rw')
 ·subst ey;cases(show u=Value.ref b from ry);obtain⟨z,hd,xs,rel,dd⟩:=On I.hok e;obtain⟨w',hw,rw'⟩:=Hq.some_of (v:=v) (o:=(atKey xs k).map (·.2)) (by rw[l];exact rel.val k);obtain⟨p,hp,hp2⟩:=bB.mp hw;refine wpAny_getItem_heap (dI hu) (Nm I.hok eb) dd hp ?_;rw[hp2];exact h w' _ (I.tok _) rw'
theorem ZW {Q:Value->Shared->Prop}(hu:A.units+1<cLine)(I:Inv X pins σ H s)(g:IC H a y o)(ry:RelV y u)(h:∀s',Inv X pins σ H s'->Q (.bool o.isSome) s') :
  wpAny (model X.prog X.w) A (compareOp .In u (.ref a)) Q E s:=by
 rcases g with⟨kvs,k,e,ey,l⟩|⟨kvs,k,b,e,ey,eb,l⟩
 ·subst ey;obtain⟨z,hd,vs,rel,dd⟩:=LG I.hok e;refine wpAny_in_of (Ni ry) hd dd.mapOf ?_;rw[<-(rel.val k).isSome_eq,<-l];exact h _ (I.tok _)
 ·subst ey;cases(show u=Value.ref b from ry);obtain⟨z,hd,xs,rel,dd⟩:=On I.hok e;refine wpAny_in_heap (dI hu) (Nm I.hok eb) hd dd ?_;have q:=(rel.val k).isSome_eq;rw[Option.isSome_map] at q;rw[<-q,<-l];exact h _ (I.tok _)
theorem Wr {Q:Value->Shared->Prop}(hu:A.units+1<cLine)(I:Inv X pins σ H s)(g:IC H a y o)(ry:RelV y u)(h:∀s',Inv X pins σ H s'->Q (.bool (!o.isSome)) s') :
  wpAny (model X.prog X.w) A (compareOp .NotIn u (.ref a)) Q E s:=by
 rcases g with⟨kvs,k,e,ey,l⟩|⟨kvs,k,b,e,ey,eb,l⟩
 ·subst ey;obtain⟨z,hd,vs,rel,dd⟩:=LG I.hok e;refine wpAny_notIn_of (Ni ry) hd dd.mapOf ?_;rw[<-(rel.val k).isSome_eq,<-l];exact h _ (I.tok _)
 ·subst ey;cases(show u=Value.ref b from ry);obtain⟨z,hd,xs,rel,dd⟩:=On I.hok e;refine wpAny_notIn_heap (dI hu) (Nm I.hok eb) hd dd ?_;have q:=(rel.val k).isSome_eq;rw[Option.isSome_map] at q;rw[<-q,<-l];exact h _ (I.tok _)
theorem Rj {P:Program}{w:World}{H':Hp}{h':Heap}{kvs:List (Key×V)}{vs:List (Key×Value)}(z:kvs.length<=sizeLine)(hd:(a == sysModules)=false)(rel:KV kvs vs)(dd:h'.DictOf (Bs P w) a vs) :
  Bn P w H' h' a (.dK kvs):=⟨z,hd,vs,rel,dd⟩
end
section
variable {X:Cx}{pins:List (Addr×Obj)}{σ:St}{H:Hp}{s:Shared}{a:Addr}{kvs:List (Key×V)}{k:Key}{u:Value}{A:Around}{E:Value->Shared->Prop}
theorem Zh {Q:Value->Shared->Prop}(I:Inv X pins σ H s)(e:Rd H a (.dK kvs))(h:∀t s',Inv X pins σ H s'->Q (.int kvs.length t) s'):wpAny (model X.prog X.w) A (call (.builtin "len") [.ref a]) Q E s:=by
 obtain⟨z,hd,vs,rel,dd⟩:=LG I.hok e;refine call_len_dict hd dd (by rw[<-rel.length];rw[bA] at z;omega) ?_;rw[<-rel.length];exact h _ _ (I.tok _)
end
def Zm (i:Expr):Prop:=∀ov iv,subscripted i false ov iv=operate [ov,iv] (getItem ov iv)
theorem Wj {prog:Program} {w:World} {A:Around} {E:Value->Shared->Prop} {s:Shared} {env:Env} {value slice:Expr} {pos:Pos} {T id:String} {Q:Value->Shared->Prop}
  (hl:typeLookup (.type T) "__getitem__"=pure (some (.builtin id))) (hs:Zm slice)
  (h:wpAny (model prog w) A (eval value env) (λo s₁=>wpAny (model prog w) A (eval slice env) (λi s₂=>s₂.TypeIs o T/\wpAny (model prog w) A (getItem o i) Q E s₂) E s₁) E s) :
  wpAny (model prog w) A (eval (.Subscript value slice pos) env) Q E s:=by
 refine Subscript_ (bf h (λo s₁ h₁=>bf h₁ (λi s₂ h₂=>?_) λ_ _ x=>x) λ_ _ x=>x);obtain⟨hT,h₂⟩:=h₂;unfold subscriptTail;refine ay ?_;rw[getitemInPython_of_ne hT.not_modules];refine ay (wpAny_specialOf hT hl ?_);have fin:wpAny (model prog w) A (subscripted slice false o i) (λr s₃=>wpAny (model prog w) A (letTemporaryGo value o r >>= λ_=>pure r) Q E s₃) E s₂:=by
  rw[hs o i];exact wpAny_operating (bf h₂ (λr s₃ h₃=>ay (wpAny_letTemporaryGo (aH h₃))) λ_ _ x=>x)
 first
  |exact aH (ay fin)
  |exact ay (aH (ay fin))
  |exact ay fin
theorem QO {X:Cx}{pins:List (Addr×Obj)}{σ:St}{H:Hp}{s:Shared}{a:Addr}{y:V}{o:Option V}(I:Inv X pins σ H s)(g:IC H a y o):s.TypeIs (.ref a) "dict":=by
 rcases g with⟨kvs,k,e,_,_⟩|⟨kvs,k,b,e,_,_,_⟩
 ·obtain⟨_,_,vs,_,dd⟩:=LG I.hok e;exact dd.typeIs
 ·obtain⟨_,_,xs,_,dd⟩:=On I.hok e;exact dd.typeIs
def Y9 (td ty:TE):TE:=λσ H Q=>td σ H λx H1=>ty σ H1 λy H2=>∃a v,x=.ref a/\IC H2 a y (some v)/\Q v H2
def Z0 (ty td:TE):TE:=λσ H Q=>ty σ H λy H1=>td σ H1 λx H2=>∃a o,x=.ref a/\IC H2 a y o/\Q (.bl o.isSome) H2
def WG (ty td:TE):TE:=λσ H Q=>ty σ H λy H1=>td σ H1 λx H2=>∃a o,x=.ref a/\IC H2 a y o/\Q (.bl (!o.isSome)) H2
section
variable {X:Cx}{o i e value:Expr}{pos pos' tpos:Pos}{td ty tv:TE}
theorem IF (hu:X.A.units+1<cLine)(ho:PE X o td)(hi:PE X i ty)(hs:Zm i):PE X (.Subscript o i pos) (Y9 td ty):=by
 intro pins s σ H Q I h;refine Wj PySem.F.slot_dict_getitem.lookup hs (Cq (ho pins s σ H _ I h) λu s1 ⟨x,H1,I1,rx,q1⟩=>Cq (hi pins s1 σ H1 _ I1 q1) λiv s2 z9=>?_);obtain⟨y,H2,I2,ry,a,v,ex,g,q2⟩:=z9;subst ex;obtain rfl:u=Value.ref a:=rx;exact⟨QO I2 g,TU hu I2 g ry λw' s3 I3 rw'=>⟨v,H2,I3,rw',q2⟩⟩
theorem VY (hu:X.A.units+1<cLine)(hi:PE X i ty)(ho:PE X o td):PC X .In i o (Z0 ty td):=by
 intro pins s σ H Q I h;refine Cq (hi pins s σ H _ I h) λiv s1 ⟨y,H1,I1,ry,q1⟩=>Cq (ho pins s1 σ H1 _ I1 q1) λu s2 z9=>?_
 obtain⟨x,H2,I2,rx,a,ov,ex,g,q2⟩:=z9;subst ex;obtain rfl:u=Value.ref a:=rx;exact ZW hu I2 g ry λs3 I3=>⟨.bl ov.isSome,H2,I3,rfl,q2⟩
theorem Om (hu:X.A.units+1<cLine)(hi:PE X i ty)(ho:PE X o td):PC X .NotIn i o (WG ty td):=by
 intro pins s σ H Q I h;refine Cq (hi pins s σ H _ I h) λiv s1 ⟨y,H1,I1,ry,q1⟩=>Cq (ho pins s1 σ H1 _ I1 q1) λu s2 z9=>?_
 obtain⟨x,H2,I2,rx,a,ov,ex,g,q2⟩:=z9;subst ex;obtain rfl:u=Value.ref a:=rx;exact Wr hu I2 g ry λs3 I3=>⟨.bl (!ov.isSome),H2,I3,rfl,q2⟩
end
theorem UF {P:Program}{w:World}{H:Hp}(h:Heap)(hb:sysModules<h.objs.size):Bn P w H (h.push { cls:=.type "dict",data:=.dict #[] }) h.objs.size (.dK []):=
 ⟨bC _,cj.mpr (Ne.symm (bg hb)),[],.nil,Heap.DictOf.new h⟩
def X8:TE:=λ_ H Q=>∀p,H p=none->Q (.ref p) (upd H p (.dK []))
section
variable {X:Cx}{pos:Pos}
theorem UQ:PE X (.Dict [] [] pos) X8:=λpins s σ H Q I h=>
 wpAny_Dict_empty ⟨.ref s.heap.objs.size,_,I.laid (a:=s.heap.objs.size) (o:=.dK []) (t':=s.toks) (λ_ _ q=>az _ q) (aD _) (UF s.heap I.big),rfl,h _ (I.hok.fresh (aD _))⟩
end
def G4 (kvs more:List (Key×V)):List (Key×V):=more.foldl (λacc kv=>putK acc kv.1 kv.2) kvs
theorem KV.merge:∀{more:List (Key×V)} {rs:List (Key×Value)} {kvs:List (Key×V)} {vs:List (Key×Value)},KV more rs->KV kvs vs->KV (G4 kvs more) (merged vs rs):=by
 intro more rs kvs vs r;unfold KV at r
 induction r generalizing kvs vs with
 |nil=>intro q;exact q
 |@cons p q ps qs h t ih=>
  intro r0;have e:KV (putK kvs p.1 p.2) (stored vs q.1 q.2):=by
   have:=r0.put p.1 h.2;rw[<-h.1];exact this
  exact ih e
theorem IW:∀(more kvs:List (Key×V)),(G4 kvs more).length<=kvs.length+more.length
 |[],kvs=>by show kvs.length<=kvs.length+0;omega
 |p::r,kvs=>by
  have h1:=IW r (putK kvs p.1 p.2);have h2:=Qz kvs p.1 p.2;show(G4 (putK kvs p.1 p.2) r).length<=_;rw[bw];omega
structure M1 (X:Cx) (o:Expr) (m:Str) (apos:Pos) (e:Expr) (cpos:Pos):Prop where
 base:attributeBase o m X.env (eval o X.env)=eval o X.env
 few:((backTo cpos (starEach [e] X.env)).all (λx=>!x.1)&&(backToKw cpos (keywordEach [] X.env)).all (λx=>x.1.isSome)
  && decide (([e]:List Expr).length+([]:List Keyword).length+(if([]:List Keyword).isEmpty then 0 else 1)<30))=true
 line:(apos.endLine == cpos.line)=true
 trees:backTo cpos (starEach [e] X.env)=[(false,eval e X.env)]
def af (H:Hp)(a:Addr):Prop:=(∃kvs,Rd H a (.dK kvs))\/∃kvs,Rd H a (.dT kvs)
theorem Yi {X:Cx}{pins:List (Addr×Obj)}{σ:St}{H:Hp}{s:Shared}{a:Addr}(I:Inv X pins σ H s)(d:af H a) :
  s.TypeIs (.ref a) "dict"/\(∀b,Value.ref a=.ref b->∃ob,s.heap.get? b=some ob/\ob.dict=none)/\(a == sysModules)=false:=by
 rcases d with⟨kvs,e⟩|⟨kvs,e⟩
 ·obtain⟨_,hd,vs,_,dd⟩:=LG I.hok e;refine⟨dd.typeIs,λb q=>?_,hd⟩;cases q;obtain⟨ob,_,_,h1,h2,_⟩:=dd;exact⟨ob,h1,h2.2.1⟩
 ·obtain⟨_,hd,xs,_,dd⟩:=On I.hok e;refine⟨dd.typeIs,λb q=>?_,hd⟩;cases q;obtain⟨ob,_,_,h1,h2,_⟩:=dd;exact⟨ob,h1,h2.2.1⟩
section
variable {X:Cx}{pins:List (Addr×Obj)}{σ:St}{H:Hp}{s:Shared}{a:Addr}{y d:V}{u r:Value}{o:Option V}{A:Around}{E:Value->Shared->Prop}
theorem Yf {Q:Value->Shared->Prop}(hu:A.units+1<cLine)(I:Inv X pins σ H s)(g:IC H a y o)(ry:RelV y u)(h:∀w' s',Inv X pins σ H s'->RelV (o.getD .non) w'->Q w' s') :
  wpAny (model X.prog X.w) A (call (.builtin "dict.get") [.ref a,u]) Q E s:=by
 rcases g with⟨kvs,k,e,ey,l⟩|⟨kvs,k,b,e,ey,eb,l⟩
 ·subst ey;obtain⟨z,hd,vs,rel,dd⟩:=LG I.hok e;refine call_meetsIn eB dd.typeIs gc (fX _ _) (meets_dict_get (Bs X.prog X.w) a (Ni ry) hd) ⟨_,dd.mapOf,h _ _ (I.tok _) ?_⟩;rw[l];exact(rel.val k).getD rfl
 ·subst ey;cases(show u=Value.ref b from ry);obtain⟨z,hd,xs,rel,dd⟩:=On I.hok e;refine call_meetsIn eB dd.typeIs gc (fX _ _) (meetsH_dict_get (tupleKind (Bs X.prog X.w)) a b hd) ⟨dI hu,k,xs,Nm I.hok eb,dd,h _ _ (I.tok _) ?_⟩;rw[l];exact(rel.val k).getD rfl
end
def XW (td ty:TE):TE:=λσ H Q=>td σ H λx H1=>∃a,x=.ref a/\af H1 a/\ty σ H1 λy H2=>∃o,IC H2 a y o/\Q (o.getD .non) H2
section
variable {X:Cx}{o e f:Expr}{apos cpos:Pos}{td ty tx:TE}
theorem VN (hu:X.A.units+1<cLine)(ho:PE X o td)(he:PE X e ty)(m:M1 X o "get" apos e cpos):PE X (.Call (.Attribute o "get" apos) [e] [] cpos) (XW td ty):=by
 intro pins s σ H Q I h;refine wpAny_Call_method m.base m.few m.line fW eB PySem.F.type_dict_get (Cq (ho pins s σ H _ I h) λu s1 z9=>?_);obtain⟨x,H1,I1,rx,a,ex,d,q1⟩:=z9;subst ex;obtain rfl:u=Value.ref a:=rx;obtain⟨t1,t2,_⟩:=Yi I1 d;refine⟨t1,t2,?_⟩;rw[m.trees];refine eK rfl (Calls.evalArgs_plain (Calls.spliced_cons (Cq (he pins s1 σ H1 _ I1 q1) λiv s2 ⟨y,H2,I2,ry,ov,g,q2⟩=>Calls.spliced_nil ?_)));exact Yf hu I2 g ry λw' s3 I3 rw'=>⟨_,H2,I3,rw',q2⟩
end
section
variable {X:Cx}
def Yv (K:PySem.W.Frag):R2:=λx y H Q=>∃a b xs ys,x=.ref a/\y=.ref b/\AS K H a xs/\AS K H b ys/\xs.length+ys.length<=sizeLine/\
 (xs=[]->Q (.ref b) H)/\(xs≠[]->ys=[]->Q (.ref a) H)/\(xs≠[]->ys≠[]->∀p,H p=none->Q (.ref p) (upd H p (.tup (xs++ys))))
theorem NA:JS X (binaryOp .Add) (Yv X.K):=by
 intro pins s σ H x y v u Q I rx ry h;obtain⟨a,b,xs,ys,rfl,rfl,ha,hb,hz,q0,q1,q2⟩:=h
 by_cases hx:xs=[]
 ·subst hx;cases rx;cases ry;obtain⟨its,r1,p1,_⟩:=I.tuple ha;obtain⟨its2,r2,p2,_⟩:=I.tuple hb;cases r1;obtain⟨⟨cls,dd,data,sl⟩,ho,hc,n,hd⟩:=id p1;obtain⟨⟨cls2,dd2,data2,sl2⟩,ho2,hc2,n2,hd2⟩:=id p2;simp only at hc hd hc2 hd2;subst hc hd hc2 hd2;exact fJ ⟨_,ho,rfl⟩ ⟨_,ho2,rfl⟩ fR gH dU dM (dF _ _) (tuple_addW0 a b _ _ n n2 dd dd2 sl sl2 rfl) ⟨ho,ho2,.ref b,H,I,rfl,q0 rfl⟩
 ·exact WX pins s σ H _ _ v u Q I rx ry ⟨a,b,xs,ys,rfl,rfl,ha,hb,hx,hz,q1 hx,q2 hx⟩
end
inductive Tr where
 |non
 |bl (b:Bool)
 |int (i:Int)
 |str (z:Str)
 |tup (ts:List Tr)
 |lst (ts:List Tr)
mutual
def Rep (F:Addr->Prop)(H:Hp):Tr->V->Prop
 | .non,v=>v=.non
 | .bl b,v=>v=.bl b
 | .int i,v=>v=.int i
 | .str z,v=>v=.str z
 | .tup ts,v=>∃a vs,v=.ref a/\H a=some (.tup vs)/\Ft F H ts vs
 | .lst ts,v=>∃a vs,v=.ref a/\F a/\H a=some (.lst vs)/\Ft F H ts vs
def Ft (F:Addr->Prop)(H:Hp):List Tr->List V->Prop
 |[],vs=>vs=[]
 |t::ts,vs=>∃v us,vs=v::us/\Rep F H t v/\Ft F H ts us
end
mutual
def Tr.dep:Tr->Nat
 | .tup ts=>1+Tr.deps ts
 | .lst ts=>1+Tr.deps ts
 |_=>1
def Tr.deps:List Tr->Nat
 |[]=>0
 |t::ts=>max (Tr.dep t) (Tr.deps ts)
end
mutual
theorem Rep.same {F:Addr->Prop}{H H':Hp}(s:AJ H H'):∀(t:Tr) (v:V),Rep F H t v->Rep F H' t v
 | .non,_,h=>h
 | .bl _,_,h=>h
 | .int _,_,h=>h
 | .str _,_,h=>h
 | .tup ts,_,⟨a,vs,e,ha,hr⟩=>⟨a,vs,e,s.get ha,Ft.same s ts vs hr⟩
 | .lst ts,_,⟨a,vs,e,fa,ha,hr⟩=>⟨a,vs,e,fa,s.get ha,Ft.same s ts vs hr⟩
theorem Ft.same {F:Addr->Prop}{H H':Hp}(s:AJ H H'):∀(ts:List Tr) (vs:List V),Ft F H ts vs->Ft F H' ts vs
 |[],_,h=>h
 |t::ts,_,⟨v,us,e,h1,h2⟩=>⟨v,us,e,Rep.same s t v h1,Ft.same s ts us h2⟩
end
theorem Ft.len {F:Addr->Prop}{H:Hp}:∀(ts:List Tr) (vs:List V),Ft F H ts vs->vs.length=ts.length
 |[],_,h=>by rw[show _=[] from h];rfl
 |t::ts,_,⟨v,us,e,_,h2⟩=>by rw[e,bw,bw,Ft.len ts us h2]
section
variable {X:Cx}{pins:List (Addr×Obj)}{σ:St}{H:Hp}{s:Shared}{F G:Addr->Prop}
mutual
theorem Xx (I:Inv X pins σ H s):∀(t:Tr) (A:Around) (v u:V) (vv uu:Value),A.units+t.dep<cLine->Rep F H t v->Rep G H t u->RelV v vv->RelV u uu->SeqAt.EqAt A s vv uu true
 | .non,A,v,u,vv,uu,_,h1,h2,r1,r2=>by
  rw[show v=V.non from h1] at r1;rw[show u=V.non from h2] at r2;cases r1;cases r2;exact dB _
 | .bl b,A,v,u,vv,uu,_,h1,h2,r1,r2=>by
  rw[show v=V.bl b from h1] at r1;rw[show u=V.bl b from h2] at r2;cases r1;cases r2;exact dB _
 | .int i,A,v,u,vv,uu,_,h1,h2,r1,r2=>by
  have:=Pm (A:=A) (s:=s) r1 r2 (by rw[show v=V.int i from h1];rfl) (by rw[show u=V.int i from h2];rfl);rw[show v=V.int i from h1,show u=V.int i from h2] at this;have e:P6 (V.int i) (V.int i)=true:=by rw[pure_eq rfl rfl];simp
  rw[e] at this;exact this
 | .str z,A,v,u,vv,uu,_,h1,h2,r1,r2=>by
  have:=Pm (A:=A) (s:=s) r1 r2 (by rw[show v=V.str z from h1];rfl) (by rw[show u=V.str z from h2];rfl);rw[show v=V.str z from h1,show u=V.str z from h2] at this;have e:P6 (V.str z) (V.str z)=true:=by rw[pure_eq rfl rfl];simp
  rw[e] at this;exact this
 | .tup ts,A,v,u,vv,uu,hA,⟨a,vs,e1,ha,hr1⟩,⟨b,us,e2,hb,hr2⟩,r1,r2=>by
  subst e1 e2;cases r1;cases r2
  by_cases hab:a=b
  ·subst hab;exact dB _
  have hA':A.units+(1+Tr.deps ts)<cLine:=hA;obtain⟨its,rv1,p1,_⟩:=I.tuple (AS.of (K:=X.K) ha);obtain⟨its2,rv2,p2,_⟩:=I.tuple (AS.of (K:=X.K) hb);have l1:=rv1.length.symm.trans (Ft.len ts vs hr1);have l2:=rv2.length.symm.trans (Ft.len ts us hr2);have q:=SeqAt.RcAt.tuples (A:=A) (s:=s) (e:=λ_=>true) p1 p2 (by omega) (λj g1 g2=>J8 I ts A.in1 vs us its its2 (by show A.units+1+Tr.deps ts<cLine;omega) hr1 hr2 rv1 rv2 j (by simpa using g1) (by simpa using g2));have e:((List.range (min its.toArray.size its2.toArray.size)).all (λ_=>true)&&its.toArray.size == its2.toArray.size)=true:=by
   simp[l1,l2]
  rw[e] at q;exact SeqAt.EqAt.of_refs hab q
 | .lst ts,A,v,u,vv,uu,hA,⟨a,vs,e1,_,ha,hr1⟩,⟨b,us,e2,_,hb,hr2⟩,r1,r2=>by
  subst e1 e2;cases r1;cases r2
  by_cases hab:a=b
  ·subst hab;exact dB _
  have hA':A.units+(1+Tr.deps ts)<cLine:=hA;obtain⟨its,rv1,p1,_⟩:=I.list (A7.of (K:=X.K) ha);obtain⟨its2,rv2,p2,_⟩:=I.list (A7.of (K:=X.K) hb);have l1:=rv1.length.symm.trans (Ft.len ts vs hr1);have l2:=rv2.length.symm.trans (Ft.len ts us hr2);have q:=SeqAt.RcAt.lists (A:=A) (s:=s) (e:=λ_=>true) p1.isList p2.isList (by simp[l1,l2]) (by omega) (λj g1 g2=>J8 I ts A.in1 vs us its its2 (by show A.units+1+Tr.deps ts<cLine;omega) hr1 hr2 rv1 rv2 j (by simpa using g1) (by simpa using g2));have e:((List.range its.toArray.size).all (λ_=>true))=true:=by simp
  rw[e] at q;exact SeqAt.EqAt.of_refs hab q
theorem J8 (I:Inv X pins σ H s):∀(ts:List Tr) (A:Around) (vs us:List V) (its its2:List Value),A.units+Tr.deps ts<cLine->Ft F H ts vs->Ft G H ts us->Bd vs its->Bd us its2->∀(j:Nat) (g1:j<its.length) (g2:j<its2.length),SeqAt.EqAt A s its[j] its2[j] true
 |[],A,vs,us,its,its2,_,h1,h2,r1,r2=>λj g1 g2=>by
  rw[show vs=[] from h1] at r1;cases r1;simp at g1
 |t::ts,A,vs,us,its,its2,hA,⟨v,vr,e1,a1,b1⟩,⟨u,ur,e2,a2,b2⟩,r1,r2=>by
  subst e1 e2;have hA':A.units+max (Tr.dep t) (Tr.deps ts)<cLine:=hA;cases r1 with
  |cons p1 q1=>
   cases r2 with
   |cons p2 q2=>
    intro j g1 g2;cases j with
    |zero=>exact Xx I t A v u _ _ (by omega) a1 a2 p1 p2
    |succ j=>exact J8 I ts A vr ur _ _ (by omega) b1 b2 q1 q2 j (by simpa using g1) (by simpa using g2)
end
end
section
variable {X:Cx}
def ZL:R2:=λx y H Q=>∃t F G,t.dep<=100/\Rep F H t x/\Rep G H t y/\Q (.bl false) H
theorem U9 (hu:X.A.units+150<cLine):JS X (compareOp .NotEq) ZL:=by
 intro pins s σ H x y v u Q I rx ry h;obtain⟨t,F,G,hd,h1,h2,q⟩:=h;have RY:∀z:V,Vv z=true\/(∃b,z=.bl b)->x=z->y=z->wpAny (model X.prog X.w) X.A (compareOp .NotEq v u) (EP X pins σ Q) X.xe s:=λz hz e1 e2=>by
  refine M0 pins s σ H x y v u Q I rx ry ⟨?_,?_⟩
  ·subst e1 e2;rcases hz with hz|⟨b,rfl⟩
   ·cases y<;>first|rfl|exact absurd (show false=true from hz) aJ
   ·rfl
  ·rw[e1,e2];simpa using q
 cases t with
 |non=>exact RY _ (.inl rfl) h1 h2
 |bl b=>exact RY _ (.inr ⟨b,rfl⟩) h1 h2
 |int i=>exact RY (.int i) (.inl rfl) h1 h2
 |str z=>exact RY (.str z) (.inl rfl) h1 h2
 |tup ts=>
  obtain⟨a,vs,rfl,ha,hr1⟩:=h1;obtain⟨b,us,rfl,hb,hr2⟩:=h2;cases rx;cases ry;have hd':1+Tr.deps ts<=100:=hd;obtain⟨its,rv1,p1,_⟩:=I.tuple (AS.of (K:=X.K) ha);obtain⟨its2,rv2,p2,_⟩:=I.tuple (AS.of (K:=X.K) hb);have l1:=rv1.length.symm.trans (Ft.len ts vs hr1);have l2:=rv2.length.symm.trans (Ft.len ts us hr2);have q2:=SeqAt.RcNeAt.tuples (A:=X.A) (s:=s) (e:=λ_=>true) p1 p2 (by omega) (λj g1 g2=>J8 I ts X.A.in1 vs us its its2 (by show X.A.units+1+Tr.deps ts<cLine;omega) hr1 hr2 rv1 rv2 j (by simpa using g1) (by simpa using g2));have e:(!((List.range (min its.toArray.size its2.toArray.size)).all (λ_=>true)&&its.toArray.size == its2.toArray.size))=false:=by
   simp[l1,l2]
  rw[e] at q2;exact q2 _ _ _ _ ⟨.bl _,H,I,rfl,q⟩
 |lst ts=>
  obtain⟨a,vs,rfl,_,ha,hr1⟩:=h1;obtain⟨b,us,rfl,_,hb,hr2⟩:=h2;cases rx;cases ry;have hd':1+Tr.deps ts<=100:=hd;obtain⟨its,rv1,p1,_⟩:=I.list (A7.of (K:=X.K) ha);obtain⟨its2,rv2,p2,_⟩:=I.list (A7.of (K:=X.K) hb);have l1:=rv1.length.symm.trans (Ft.len ts vs hr1);have l2:=rv2.length.symm.trans (Ft.len ts us hr2);have q2:=SeqAt.RcNeAt.lists (A:=X.A) (s:=s) (e:=λ_=>true) p1.isList p2.isList (by simp[l1,l2]) (by omega) (λj g1 g2=>J8 I ts X.A.in1 vs us its its2 (by show X.A.units+1+Tr.deps ts<cLine;omega) hr1 hr2 rv1 rv2 j (by simpa using g1) (by simpa using g2));have e:(!(List.range its.toArray.size).all (λ_=>true))=false:=by simp
  rw[e] at q2;exact q2 _ _ _ _ ⟨.bl _,H,I,rfl,q⟩
end
theorem JZ {K:PySem.W.Frag}{a:Addr}{H:Hp}{xs:List V}(h:H a=some (.tup xs)):Kd (Yz K a) H xs:=λH' s i=>
 ⟨λhi=>⟨xs,xs[i],AS.of (s.get h),by simp[hi]⟩,λx H'' y=>⟨y.1,λ_=>y.2 xs (AS.of (s.get h))⟩,λhi=>⟨xs,AS.of (s.get h),hi⟩⟩
theorem RV {A:Around}{k:Nat}(hr:Room k A):A.units+150<cLine:=by have:=hr.un;omega
def Yw (P:Program)(w:World)(K:PySem.W.Frag)(mg:Str->Option Value)(base:Heap)(k:Nat)(C:Addr)(x:Str)(ps:List Str)(sp:Sp):Prop:=
 ∃(f:Addr) (fd:FuncData),FnOk P w K mg base FL k f fd ps sp/\Mk K C f/\mg x=some (.ref C)/\Binds K fd ps []
def S6 (d:Addr)(o:Obj)(kvs:List (Key×V)):It:=
 ⟨λi H=>H d=some (.frz o (.dK kvs))/\i<kvs.length,λi H x H'=>H'=H/\∃k v,kvs[i]?=some (k,v)/\x=kV k,λi H=>H d=some (.frz o (.dK kvs))/\kvs.length<=i⟩
theorem Qi {P:Program}{w:World}{k:Key}{u:Value}(h:(Bs P w).is k u=true):RelV (kV k) u:=by
 rcases Ci h with⟨i,t,rfl,rfl⟩|⟨x,t,rfl,rfl⟩
 ·exact⟨t,rfl⟩
 ·exact⟨t,rfl⟩
theorem Lh {X:Cx}{pins:List (Addr×Obj)}{σ:St}{H:Hp}{s:Shared}{d:Addr}{o:Obj}{kvs:List (Key×V)}{es:Array DictEntry}{ep:Nat}(I:Inv X pins σ H s)(h:H d=some (.frz o (.dK kvs)))(he:o.data=.dict es ep) :
  (d == sysModules)=false/\∃vs,KV kvs vs/\s.heap.DictAt (Bs X.prog X.w) d vs ep:=by
 obtain⟨ho,_,hs,vs,r,o',es',ep',ho',h1,h2,h3⟩:=I.hok d _ h;rw[ho] at ho';cases ho';rw[he] at h2;injection h2 with e1 e2
 subst e1 e2;exact⟨hs,vs,r,o,es,ho,h1,he,h3⟩
theorem Ur {P:Program}{w:World}{K:PySem.W.Frag}{tg:Expr}(d it:Addr)(o:Obj)(kvs:List (Key×V))(es:Array DictEntry)(ep:Nat)(he:o.data=.dict es ep):Turn P w K tg (S6 d o kvs) [it] it (λi h=>h.IsKeyIter it d i kvs.length ep) where
 mem:=by simp
 obj:=λi h st b hb=>by
  have e:b=it:=by simpa using hb
  subst e;obtain⟨o,e,c,d⟩:=st;exact⟨o,e,λv z=>by rw[d] at z;cases z⟩
 keep:=λi h h' st k=>st.at λo e=>k it (by simp) o e
 item:=by
  intro X hP hw hK hc i pins s σ H E I hf st hg;subst hP hw hK;obtain⟨hq,hi⟩:=hg;obtain⟨_,vs,r,hat⟩:=Lh I hq he;have hl:kvs.length=vs.length:=cD r;obtain⟨f0,f1,f2,f3,f4,f5⟩:=hf it (by simp);have ek:kvs[i]?=some kvs[i]:=aU hi;have ev:vs[i]?=some vs[i]:=aU (by omega);have rk:=r.keys;have e1:kvs[i].1=(vs[i]'(by omega)).1:=by
   have:=congrArg (λl=>l[i]?) rk;simp only[List.getElem?_map,ek,ev,Option.map_some] at this;exact br this
  rw[hl] at st;refine wpAny_pyNext_dict_item (k:=(vs[i]'(by omega)).1) (v:=(vs[i]'(by omega)).2) st hat ev λkey h' hkey st' sb=>?_
  have I1:Inv X pins σ H { s with heap:=h' }:=I.turned (t':=s.toks) (λb o hb e=>(sb.2 b hb).trans e) f0 f1 f3 f4 f5;rw[<-hl] at st';obtain⟨o2,e,c,dd⟩:=id st';exact⟨key,rfl,MR (s:={ s with heap:=h' }) e c dd (by decide) ⟨kV kvs[i].1,H,I1,Qi (by rw[e1];exact hkey),⟨rfl,kvs[i].1,kvs[i].2,ek,rfl⟩,st',λb hb=>(hf b hb).1⟩⟩
 done:=by
  intro X hP hw hK hc i pins s σ H E I hf st hg;subst hP hw hK;obtain⟨hq,hi⟩:=hg;obtain⟨_,vs,r,hat⟩:=Lh I hq he;have hl:kvs.length=vs.length:=cD r;obtain⟨f0,f1,f2,f3,f4,f5⟩:=hf it (by simp);rw[hl] at st;exact wpAny_pyNext_dict_end (I.ok.hd hc) st hat (bI (by omega)) λh' eb=>⟨rfl,I.turned (t':=s.toks) (λb o hb e=>eb b o hb e) f0 f1 f3 f4 f5⟩
 self:=λ_ _ _ _ _ st h=>wpAny_pyIter_keyiter st h
theorem Inv.freeze {X:Cx}{pins:List (Addr×Obj)}{σ:St}{H:Hp}{s:Shared}{d:Addr}{o:Obj}{kvs:List (Key×V)}(I:Inv X pins σ H s)(h:H d=some (.dK kvs))(ho:s.heap.get? d=some o):Inv X pins σ (upd H d (.frz o (.dK kvs))) s:=by
 have nd:∀b,H b=none->upd H d (.frz o (.dK kvs)) b=none:=λb hb=>by
  rw[Ax (λz=>by rw[z,h] at hb;cases hb)];exact hb
 refine⟨I.ok,I.os,I.bare,⟨I.base.keep,I.base.slot,λb ob e1 e2 e3=>nd b (I.base.free b ob e1 e2 e3),I.base.there,λb xs e=>?_,λb o2 u e=>?_,λb ps e=>?_⟩,I.loc,I.cell,nd _ I.free,λx c e=>nd c (I.freeC x c e),λp hp=>?_,λb u e=>?_,I.len⟩
 ·have:=I.base.tups b xs e;rw[Ax (Ep this h (by intro z;cases z))];exact this
 ·have:=I.base.frzs b o2 u e;rw[Ax (Ep this h (by intro z;cases z))];exact this
 ·obtain⟨more,q⟩:=I.base.tbls b ps e;exact⟨more,by rw[Ax (Ep q h (by intro z;cases z))];exact q⟩
 ·obtain⟨p1,p2,p3⟩:=I.pin p hp;exact⟨p1,nd _ p2,p3⟩
 ·by_cases hb:b=d
  ·subst hb;rw[Ae] at e;cases e;exact⟨ho,(I.hok b _ h).stay (λc v _ r=>r) (λc r=>by rw[Ax (Ep r h (by intro z;cases z))];exact r) λc xs r=>by rw[Ax (Ep r h (by intro z;cases z))];exact r⟩
  ·rw[Ax hb] at e;exact(I.hok b u e).stay (λc v _ r=>r) (λc r=>by rw[Ax (Ep r h (by intro z;cases z))];exact r) λc xs r=>by rw[Ax (Ep r h (by intro z;cases z))];exact r
section
variable {X:Cx}{tg:Expr}
def Y8 (tl:TE):TI:=λσ H R=>tl σ H λx H1=>∃d kvs,x=.ref d/\H1 d=some (.dK kvs)/\∀o,R (S6 d o kvs) (upd H1 d (.frz o (.dK kvs)))
theorem L9 {l:Expr}{tl:TE}(hl:PE X l tl):PI X tg l (Y8 tl):=by
 intro pins s σ H R I h;refine Cq (hl pins s σ H _ I h) λv s1 ⟨x,H1,I1,r1,q1⟩=>?_
 obtain⟨d,kvs,e,hq,q⟩:=q1;subst e;cases r1;obtain⟨_,_,vs,r,o,es,ep,ho,_,he,_⟩:=I1.hok d _ hq;have I2:=I1.freeze hq ho;obtain⟨hs,vs,r,hat⟩:=Lh I2 Ae he;have hl:kvs.length=vs.length:=cD r;refine wpAny_pyIter_dict hs hat ?_;refine⟨s1.heap.objs.size,[s1.heap.objs.size],_,_,_,rfl,I2.kept (t':=s1.toks) λb o e=>az _ e,Ur d _ o kvs es ep he,⟨_,aN _ rfl,rfl,by rw[hl];rfl⟩,λb hb=>?_,q o⟩;have e:b=s1.heap.objs.size:=by simpa using hb
 subst e;exact I2.fpOk (aD _) (I2.hok.fresh (aD _))
end
theorem VR {d:Addr} {o:Obj} {kvs:List (Key×V)} {g:TG} {tb:TS} {D:Ends} {σ:St} {H:Hp} (Pv:Nat->St->Hp->Prop) (h0:Pv 0 σ H) (hl:∀(i:Nat) (σ:St) (H:Hp),i<=kvs.length->Pv i σ H->H d=some (.frz o (.dK kvs)))
  (turn:∀(i:Nat) (k:Key) (v:V) (σ:St) (H:Hp),kvs[i]?=some (k,v)->Pv i σ H->g (kV k) σ H λσ2 H2=>tb { nx:=Pv (i+1),rt:=D.rt,bk:=D.nx,ct:=Pv (i+1) } σ2 H2)
  (done:∀(σ:St) (H:Hp),Pv kvs.length σ H->D.nx σ H) :
  ∃W:Nat->Nat->St->Hp->Prop,(∃m,W 0 m σ H)/\∀i m σ H,W i m σ H->
   ((S6 d o kvs).stop i H/\D.nx σ H)\/((S6 d o kvs).go i H/\∃N:St->Hp->Prop,(∀σ' H',N σ' H'->∃m',m'<m/\W (i+1) m' σ' H')/\∀x H',(S6 d o kvs).yld i H x H'->g x σ H' λσ2 H2=>tb { D with nx:=N,ct:=N,bk:=D.nx } σ2 H2):=by
 refine⟨λi m σ H=>m=kvs.length-i/\i<=kvs.length/\Pv i σ H,⟨_,rfl,bC _,h0⟩,?_⟩
 rintro i m σ H ⟨rfl,hi,hp⟩
 by_cases hlt:i<kvs.length
 ·refine .inr ⟨⟨hl i σ H hi hp,hlt⟩,Pv (i+1),λσ' H' hn=>⟨kvs.length-(i+1),by omega,rfl,hlt,hn⟩,?_⟩
  rintro x H' ⟨rfl,k,v,e,rfl⟩
  exact turn i k v σ _ e hp
 ·have e:i=kvs.length:=by omega
  subst e;exact .inl ⟨⟨hl _ σ H hi hp,aD _⟩,done σ H hp⟩
theorem IC.kf {H:Hp}{a:Addr}{o:Obj}{kvs:List (Key×V)}{k:Key}(e:H a=some (.frz o (.dK kvs))):IC H a (kV k) (L0 kvs k):=.inl ⟨kvs,k,.inr ⟨o,e⟩,rfl,rfl⟩
theorem Inv.thaw {X:Cx}{pins:List (Addr×Obj)}{σ:St}{H:Hp}{s:Shared}{d:Addr}{o:Obj}{kvs:List (Key×V)}(I:Inv X pins σ H s)(h:H d=some (.frz o (.dK kvs)))(nf:∀o u,X.H₀ d≠some (.frz o u)):Inv X pins σ (upd H d (.dK kvs)) s:=by
 have nd:∀b,H b=none->upd H d (.dK kvs) b=none:=λb hb=>by
  rw[Ax (λz=>by rw[z,h] at hb;cases hb)];exact hb
 refine⟨I.ok,I.os,I.bare,⟨I.base.keep,I.base.slot,λb ob e1 e2 e3=>nd b (I.base.free b ob e1 e2 e3),I.base.there,λb xs e=>?_,λb o2 u e=>?_,λb ps e=>?_⟩,I.loc,I.cell,nd _ I.free,λx c e=>nd c (I.freeC x c e),λp hp=>?_,λb u e=>?_,I.len⟩
 ·have:=I.base.tups b xs e;rw[Ax (Ep this h (by intro z;cases z))];exact this
 ·have:=I.base.frzs b o2 u e;rw[Ax (λz=>nf o2 u (by rw[<-z];exact e))];exact this
 ·obtain⟨more,q⟩:=I.base.tbls b ps e;exact⟨more,by rw[Ax (Ep q h (by intro z;cases z))];exact q⟩
 ·obtain⟨p1,p2,p3⟩:=I.pin p hp;exact⟨p1,nd _ p2,p3⟩
 ·by_cases hb:b=d
  ·subst hb;rw[Ae] at e;cases e;obtain⟨_,q⟩:=I.hok b _ h;exact Bn.stay (o:=.dK kvs) q (λc v _ r=>r) (λc r=>by rw[Ax (Ep r h (by intro z;cases z))];exact r) λc xs r=>by rw[Ax (Ep r h (by intro z;cases z))];exact r
  ·rw[Ax hb] at e;exact(I.hok b u e).stay (λc v _ r=>r) (λc r=>by rw[Ax (Ep r h (by intro z;cases z))];exact r) λc xs r=>by rw[Ax (Ep r h (by intro z;cases z))];exact r
section
variable {X:Cx}
def IX (X:Cx)(D:Ends):Ends where
 nx:=λσ H=>∃d o kvs,(∀o u,X.H₀ d≠some (.frz o u))/\H d=some (.frz o (.dK kvs))/\D.nx σ (upd H d (.dK kvs))
 rt:=λv H=>∃d o kvs,(∀o u,X.H₀ d≠some (.frz o u))/\H d=some (.frz o (.dK kvs))/\D.rt v (upd H d (.dK kvs))
def YY (X:Cx)(tl:TE)(g:TG)(tb:TS):TS:=λD σ H=>tl σ H λx H1=>∃d kvs,x=.ref d/\H1 d=some (.dK kvs)/\∀o,∃W:Nat->Nat->St->Hp->Prop,(∃m,W 0 m σ (upd H1 d (.frz o (.dK kvs))))/\∀i m σ H,W i m σ H->
 ((S6 d o kvs).stop i H/\(IX X D).nx σ H)\/((S6 d o kvs).go i H/\∃N:St->Hp->Prop,(∀σ' H',N σ' H'->∃m',m'<m/\W (i+1) m' σ' H')/\∀x H',(S6 d o kvs).yld i H x H'->g x σ H' λσ2 H2=>tb { IX X D with nx:=N,ct:=N,bk:=(IX X D).nx } σ2 H2)
theorem WI {tg l:Expr} {body:List Stmt} {tl:TE} {g:TG} {tb:TS} {pos:Pos} (hp:PassesOwn (model X.prog X.w) X.A X.env X.xe) (hc:X.calm=true) (hl:PE X l tl) (hg:PG X tg g) (hb:NG X body tb)
  (hs:∀x,foldedSetIterable l X.env x=pure x:=by intro _;rfl):PS X (.For tg l body [] pos) (YY X tl g tb):=by
 intro pins s σ H D I h;refine Cq (HA (pos:=pos) hp hc (L9 hl) hg hb hs pins s σ H (IX X D) I h) λf s' q=>?_
 cases f with
 |next=>
  obtain⟨σ',H',I',d,o,kvs,nf,hd,q⟩:=q;exact⟨σ',_,I'.thaw hd nf,q⟩
 |brk=>obtain⟨σ',H',I',q⟩:=q;exact False.elim q
 |cont=>obtain⟨σ',H',I',q⟩:=q;exact False.elim q
 |ret v=>
  obtain⟨x,σ',H',I',r,d,o,kvs,nf,hd,q⟩:=q;exact⟨x,σ',_,I'.thaw hd nf,r,q⟩
theorem TV {d:Addr} {o:Obj} {kvs:List (Key×V)} {g:TG} {tb:TS} {D:Ends} {σ:St} {H:Hp} (nf:∀o u,X.H₀ d≠some (.frz o u)) (Pv:Nat->St->Hp->Prop) (h0:Pv 0 σ H) (hl:∀(i:Nat) (σ:St) (H:Hp),i<=kvs.length->Pv i σ H->H d=some (.frz o (.dK kvs)))
  (turn:∀(i:Nat) (k:Key) (v:V) (σ:St) (H:Hp),kvs[i]?=some (k,v)->Pv i σ H->g (kV k) σ H λσ2 H2=>tb { nx:=Pv (i+1),rt:=(IX X D).rt,bk:=(IX X D).nx,ct:=Pv (i+1) } σ2 H2)
  (done:∀(σ:St) (H:Hp),Pv kvs.length σ H->D.nx σ (upd H d (.dK kvs))) :
  ∃W:Nat->Nat->St->Hp->Prop,(∃m,W 0 m σ H)/\∀i m σ H,W i m σ H->
   ((S6 d o kvs).stop i H/\(IX X D).nx σ H)\/((S6 d o kvs).go i H/\∃N:St->Hp->Prop,(∀σ' H',N σ' H'->∃m',m'<m/\W (i+1) m' σ' H')/\∀x H',(S6 d o kvs).yld i H x H'->g x σ H' λσ2 H2=>tb { IX X D with nx:=N,ct:=N,bk:=(IX X D).nx } σ2 H2):=
 VR (D:=IX X D) Pv h0 hl turn λσ H p=>⟨d,o,kvs,nf,hl _ σ H (aD _) p,done σ H p⟩
end
theorem SQ {t u:TS}{D:Ends}{σ:St}{H:Hp}(M:St->Hp->Prop)(h1:∀N:St->Hp->Prop,(∀σ' H',M σ' H'->N σ' H')->t { D with nx:=N } σ H)(h2:∀σ' H',M σ' H'->u D σ' H'):X5 t u D σ H:=h1 (u D) h2
end L2
namespace L2
section
open PySem
open Sem (wp wp_bind' wp_mono)
def Nr (o:Obj):Prop:=∃vs,o.data=.fields vs/\vs[2]?=some .none
def DictAt (h:Heap)(e:Addr)(d:Option Addr):Prop:=∃o,h.objs[e]?=some o/\o.dict=d/\Nr o
def DK {α:Type}(t:Sem α):Prop:=∀(M:Model) (Γ:Ctx) (Q:α->Pos->Shared->Prop) (E:Value->Pos->Shared->Prop) (p:Pos) (s:Shared) (e:Addr) (d:Option Addr),wp M Γ t Q E p s->DictAt s.heap e d->
 wp M Γ t (λa p s'=>Q a p s'/\DictAt s'.heap e d) (λv p s'=>E v p s'/\DictAt s'.heap e d) p s
variable {α β:Type}
theorem B1 (a:α):DK (pure a:Sem α):=λ_ _ _ _ _ _ _ _ h j=>⟨h,j⟩
theorem DR (w:String):DK (PySem.unsupported w:Sem α):=λ_ _ _ _ _ _ _ _ h _=>False.elim h
theorem Bk {m:Sem α}{f:α->Sem β}(h1:DK m)(h2:∀a,DK (f a)):DK (m >>= f):=by
 intro M Γ Q E p s e d h j;rw[wp_bind'] at h ⊢;exact wp_mono M Γ m (λa p' s' q=>h2 a M Γ Q E p' s' e d q.1 q.2) (λ_ _ _ q=>q) p s (h1 M Γ _ E p s e d h j)
theorem O6 (a:Addr):DK (load a):=λM Γ Q E p s e d ⟨o,q,h⟩ j=>⟨o,q,h,j⟩
theorem Nk:DK stack:=λM Γ Q E p s e d h j=>⟨h,j⟩
theorem QI (o:Obj):DK (alloc o):=λM Γ Q E p s e d h ⟨o1,q,hd⟩=>⟨h,o1,by
 show(s.heap.objs.push o)[e]?=some o1;have hlt:e<s.heap.objs.size:=(fP.mp q).1;rw[Array.getElem?_push,aF (bg hlt)];exact q,hd⟩
theorem Oh (a:Addr){f:Obj->Obj}(hf:∀o,(f o).dict=o.dict/\(Nr o->Nr (f o))):DK (update a f):=λM Γ Q E p s e d ⟨q0,h⟩ ⟨o1,q,hd,h2⟩=>⟨q0,h,by
 by_cases ea:a=e
 ·subst ea;refine⟨f o1,?_,by rw[(hf o1).1];exact hd,(hf o1).2 h2⟩;show(s.heap.objs.modify a f)[a]?=some (f o1);rw[gs,aI rfl,q];rfl
 ·refine⟨o1,?_,hd,h2⟩;show(s.heap.objs.modify a f)[e]?=some o1;rw[gs,aF ea];exact q⟩
theorem HY {c:Prop}[Decidable c]{t u:Sem α}(h1:DK t)(h2:DK u):DK (if c then t else u):=by
 split
 ·exact h1
 ·exact h2
theorem MB {i:Nat}(hi:i≠2)(x:Value)(o:Obj):(Obj.mapFields (·.setIfInBounds i x) o).dict=o.dict/\(Nr o->Nr (Obj.mapFields (·.setIfInBounds i x) o)):=by
 constructor
 ·unfold Obj.mapFields
  split<;>rfl
 ·rintro⟨vs,h1,h2⟩
  obtain⟨c,d,dt,sl⟩:=o;dsimp only at h1;subst h1;exact⟨_,rfl,by rw[Array.getElem?_setIfInBounds_ne hi];exact h2⟩
theorem QX (v:Value):DK (fieldsOf v):=by
 unfold fieldsOf
 split
 ·refine Bk (O6 _) λo=>?_
  split
  ·exact B1 _
  ·exact DR _
 ·exact DR _
theorem Kf (v:Value)(i:Nat):DK (field v i):=by
 unfold field;refine Bk (QX v) λvs=>?_
 split
 ·exact B1 _
 ·exact DR _
theorem Io (v:Value){i:Nat}(hi:i≠2)(x:Value):DK (setField v i x):=by
 unfold setField updateField
 split
 ·refine Bk (O6 _) λo=>?_
  split
  ·exact HY (Oh _ (MB hi x)) (DR _)
  ·exact DR _
 ·exact DR _
theorem Pk (ty:String)(vs:List Value):DK (newFields ty vs):=by
 unfold newFields newObj newObjAsIs;dsimp only
 split
 ·exact Bk (DR _) λ_=>Bk (QI _) λ_=>B1 _
 ·exact Bk (QI _) λ_=>B1 _
theorem Qt (a b c d e:Value)(l:List Value):DK (EntryCells.newEntry a b c d e l):=Pk _ _
theorem OV:DK frameEnvs:=Bk Nk λ_=>B1 _
theorem QH (env:Env)(outer:List Env):DK (behindIsImport env outer):=by
 unfold behindIsImport;refine HY (B1 _) ?_;refine HY (B1 _) ?_;exact Bk (Kf _ _) λ_=>B1 _
theorem QD (env:Env)(i:Bool)(outer:List Env):DK (keptBack env i outer):=by
 unfold keptBack
 split
 ·refine HY (B1 _) ?_;refine Bk (Bk Nk λ_=>B1 _) λ_=>B1 _
 ·exact B1 _
theorem Qa:∀l:List Env,DK (readyFrames l)
 |[]=>B1 _
 |env::outer=>by
  unfold readyFrames
  split
  ·refine Bk (O6 _) λo=>?_
   refine HY (B1 _) ?_;refine Bk (QH _ _) λ_=>Bk (QD _ _ _) λ_=>Bk (Oh _ λ_=>⟨rfl,λh=>h⟩) λ_=>Qa outer
  ·exact DR _
theorem RB (env:Env):DK (frameOf env):=by
 unfold frameOf;refine Bk OV λl=>?_
 refine Bk ?_ λr=>?_
 ·unfold frameObject
  split
  ·exact B1 _
  ·exact Bk (Qa _) λ_=>B1 _
 ·split
  ·exact B1 _
  ·exact DR _
theorem NN (f:Addr)(b:Bool):DK (entryPlaceOf f b):=by
 unfold entryPlaceOf;refine Bk Nk λl=>?_
 split<;>exact B1 _
theorem G9 (e:Value)(f:Option Addr):DK (setFlight e f):=by
 unfold setFlight;exact Bk (Kf _ _) λ_=>HY (Io _ (by decide) _) (B1 _)
theorem Kc (e:Value)(env:Env):DK (noteFrame e env):=by
 unfold noteFrame
 split
 ·rename_i fa _
  refine Bk (Kf _ _) λhead=>?_
  have rest:DK (do setField e 1 (<-EntryCells.newEntry head (<-frameOf env) .none (rawInt fa) .none (<-entryPlaceOf fa (head != .none)))):=
   Bk (RB _) λ_=>Bk (NN _ _) λ_=>Bk (Qt _ _ _ _ _ _) λ_=>Io _ (by decide) _
  refine HY ?_ rest;refine Bk (Kf _ _) λ_=>?_
  refine HY (B1 _) ?_;exact Bk (Io _ (by decide) _) λ_=>rest
 ·exact DR _
theorem Jd (env:Env)(e:Value):DK (leaving env e):=Bk (Kc _ _) λ_=>G9 _ _
theorem DK.also {t:Sem α}(k:DK t){M:Model}{A:Around}{Q:α->Shared->Prop}{E:Value->Shared->Prop}{s:Shared}{e:Addr}{d:Option Addr}(j:DictAt s.heap e d)(h:wpAny M A t (λa s'=>DictAt s'.heap e d->Q a s') E s):wpAny M A t Q E s:=λΓ p hΓ=>
 wp_mono M Γ t (λ_ _ _ q=>q.1 q.2) (λ_ _ _ q=>q.1) p s (k M Γ _ _ p s e d (h Γ p hΓ) j)
theorem Sl {h:Heap}{e:Addr}{o:Obj}(q:h.get? e=some o)(f:Nr o):DictAt h e o.dict:=by
 unfold Heap.get? at q
 split at q
 ·cases q
 ·exact⟨o,q,rfl,f⟩
theorem DictAt.get {h:Heap}{e:Addr}{d:Option Addr}{o:Obj}(j:DictAt h e d)(q:h.get? e=some o):o.dict=d/\Nr o:=by
 obtain⟨o1,e1,h1⟩:=j;unfold Heap.get? at q;rw[e1] at q
 split at q
 ·cases q
 ·cases q;exact h1
end
end L2
namespace L2
open PySem PySem.Spec PyProof.Rows
theorem Bn.get {P:Program}{w:World}{H:Hp}{h:Heap}{a:Addr}{o:HO}(x:Bn P w H h a o):∃ob,h.get? a=some ob:=by
 cases o with
 |lst xs=>obtain⟨_,_,_,_,e⟩:=x;exact⟨_,e⟩
 |tup xs=>obtain⟨_,_,_,ob,e,_⟩:=x;exact⟨_,e⟩
 |dK kvs=>obtain⟨_,_,_,_,o,_,_,e,_⟩:=x;exact⟨_,e⟩
 |dT kvs=>obtain⟨_,_,_,_,o,_,_,e,_⟩:=x;exact⟨_,e⟩
 |set S n=>obtain⟨o,_,_,_,e,_⟩:=x;exact⟨_,e⟩
 |ins C dx fs=>obtain⟨_,_,_,e,_⟩:=x;exact⟨_,e⟩
 |own y=>obtain⟨_,e⟩:=x;exact⟨_,e⟩
 |xd fs=>obtain⟨_,⟨_,_,_,e,_⟩,_⟩:=x;exact⟨_,e⟩
 |rng lo hi=>obtain⟨_,_,_,e⟩:=x;exact⟨_,e⟩
 |frz ob u=>obtain⟨e,_⟩:=x;exact⟨_,e⟩
 |tbl ps=>exact⟨_,x⟩
 |met f y=>exact⟨_,x⟩
 |ext φ=>obtain⟨_,e,_⟩:=x;exact e
structure Fly (P:Program) (w:World) (outer:List Env) (H:Hp) (s:Shared) (ea:Addr) (cls:Value) (H':Hp) (B:Heap) (a0:Value) (s':Shared):Prop where
 os:s'.os=s.os
 bare:AllBare s'.gens
 un:Un (GN outer) [] H H' s.heap s'.heap
 hok:Iy P w H' B
 fl:Heap.FlyingW B outer ea cls a0 s'.heap
 kp:∀b o,s.heap.get? b=some o->H b=none->b∉GN outer->B.get? b=some o
 th:∀b o,s.heap.get? b=some o->b∉GN outer->∃o',B.get? b=some o'
 dj:∃d,DictAt s'.heap ea d
section
variable {P:Program}{w:World}{outer:List Env}{H H':Hp}{s s':Shared}{ea:Addr}{cls a0:Value}{B h' base:Heap}
theorem Fly.stay (F:Fly P w outer H s ea cls H' B a0 s')(hl:s.heap.FunFrames base outer)(hn:∀b∈GN outer,H b=none)(sB:B.StaysIn h')(up:s'.heap.UpToSlots h'):Un (GN outer) [] H H' s.heap h':=by
 have sl:∀b o,s.heap.get? b=some o->b∈GN outer->∃sl,h'.get? b=some { o with slots:=sl }:=λb o q hb=>by
  obtain⟨z,e⟩:=F.un.slot b o q (hn b hb) hb (by simp);obtain⟨_,o',ho',hd⟩:=hl.mem hb;rw[q] at ho';cases ho';exact up b { o with slots:=z } e hd
 refine⟨λb o q n hb _=>sB b o (F.kp b o q n hb),λb o q _ hb _=>sl b o q hb,F.un.free,λb o q _=>?_,F.un.tups,F.un.frzs,F.un.tbls⟩
 by_cases hb:b∈GN outer
 ·obtain⟨z,e⟩:=sl b o q hb;exact⟨_,e⟩
 ·obtain⟨o',e⟩:=F.th b o q hb;exact⟨o',sB b o' e⟩
theorem Fly.free (F:Fly P w outer H s ea cls H' B a0 s'):H' ea=none:=by
 cases e:H' ea with
 |none=>rfl
 |some u=>
  obtain⟨ob,q⟩:=(F.hok ea u e).get;rw[F.fl.2.1] at q;cases q
end
section
variable {X:Cx}{pins:List (Addr×Obj)}{σ:St}{H H':Hp}{s s':Shared}{ea:Addr}{cls a0:Value}{B h':Heap}
theorem Inv.landed (I:Inv X pins σ H s)(F:Fly X.prog X.w X.stack H s ea cls H' B a0 s')(sB:B.StaysIn h')(up:s'.heap.UpToSlots h'):Inv X pins σ H' { s' with heap:=h' }:=
 I.call' (s':={ s' with heap:=h' }) (ch:=[]) F.os (F.stay I.stack I.stkFree sB up) (F.hok.kept sB) F.bare (λb z=>nomatch z)
theorem Inv.hid (I:Inv X pins σ H s):Iy X.prog X.w H (PySem.W.hideAll s.heap (GN X.stack)):=λb u e=>by
 refine(I.hok b u e).stay (λc v hc q=>cu _ q λz=>?_) (λ_ q=>q) λ_ _ q=>q
 have:=I.stkFree c z;rcases hc with rfl|hc
 ·rw[e] at this;cases this
 ·rw[hc] at this;cases this
theorem Inv.hidFrames (I:Inv X pins σ H s):s.heap.FunFrames (PySem.W.hideAll s.heap (GN X.stack)) X.stack:=
 gb I.stack λenv he a ha=>dz.mpr ⟨env,he,ha⟩
theorem Inv.made1 {h1:Heap}{vs:List Value}{l:List Env}{t':Nat}(I:Inv X pins σ H s)(hx:Heap.MadeExcOf s.heap h1 ea cls vs)(fl:Heap.FlyingW (PySem.W.hideAll s.heap (GN X.stack)) l ea cls a0 h')(up:h1.UpToSlots h') :
  Un (GN X.stack) [] H H s.heap h':=by
 have sl:∀b o,s.heap.get? b=some o->b∈GN X.stack->∃sl,h'.get? b=some { o with slots:=sl }:=λb o q hb=>by
  obtain⟨_,o',ho',hd⟩:=I.stack.mem hb;rw[q] at ho';cases ho';exact up b _ (hx.keeps b o q) hd
 refine⟨λb o q _ hb _=>fl.1 b o (cu _ q hb),λb o q _ hb _=>sl b o q hb,λb o _ n _=>n,λb o q _=>?_,λ_ _ e=>e,λ_ _ _ e=>e,λb ps e=>⟨#[],by rw[e];simp⟩⟩
 by_cases hb:b∈GN X.stack
 ·obtain⟨z,e⟩:=sl b o q hb;exact⟨_,e⟩
 ·exact⟨o,fl.1 b o (cu _ q hb)⟩
end
def Z4 (X:Cx)(E:XK):Prop:=∀(pins:List (Addr×Obj)) (σ:St) (H:Hp) (s:Shared) (cls:Value) (h1:Heap) (ea:Addr) (vs:List Value),Inv X pins σ H s->Heap.MadeExcOf s.heap h1 ea cls vs->E cls none H->X.xe (.ref ea) { s with heap:=h1 }
abbrev QU:List Value:=[.type "ValueError",.type "Exception",.type "BaseException",.type "object"]
theorem V9 {K:PySem.W.Frag}{h:Heap}{C:Addr}(Kh:K.In h)(q:PySem.W.excIn K C QU "ValueError.__new__"=true) :
  ∃bm N nm qn bs hd sn sub ab col dd k0 k1 k2 k3 k5 mN,h.get? C=some (excClassObj nm qn C N bs bm hd sn sub ab col dd k0 k1 k2 k3 k5 "ValueError.__new__")/\h.Ns N mN/\mN "__init__"=none/\OwnTail h QU bm:=by
 unfold PySem.W.excIn at q
 split at q
 ·rename_i dx ck slots found
  split at q
  ·rename_i C0 tl p0 p1 p2 p3 made p5 em es
   rw[ba,ba,ba,ba,ba] at q;obtain⟨⟨⟨⟨⟨z1,z2⟩,z3⟩,z4⟩,z5⟩,z6⟩:=q;have y1:C0=C:=bW.mp z1;have y2:made="ValueError.__new__":=bW.mp z2;have y3:ck.hasDel=false:=by simpa using z3
   subst y1 y2;obtain⟨nm,bs,mro,ns,qn,hd,sn,sub,ab,col,del⟩:=ck;simp only at em y3 z5 z6;subst em y3;have es':slots = #[p0,p1,p2,p3,some (.builtin "ValueError.__new__"),p5]:=by
    obtain⟨l⟩:=slots;simp only at es;rw[es]
   subst es';exact⟨tl,ns,nm,qn,bs,hd,sn,sub,ab,col,dx,p0,p1,p2,p3,p5,_,Kh _ _ found,.of_isNs (PySem.W.isNs_of_in Kh z5),PySem.W.nsMap_none_of_in Kh z5 (bW.mp z6),PySem.W.tail_of_in Kh z4⟩
  ·cases q
 ·cases q
section
variable {X:Cx}{E:XK}{x:Str}{C:Addr}{np cpos pos:Pos}
theorem GV (R:Z4 X E)(hc:X.calm=true)(hm:X.mg x=some (.ref C))(hq:PySem.W.excIn X.K C QU "ValueError.__new__"=true)(hg:Gl X x)(hd:(x == ("__debug__":Str))=false:=by decide) :
  PS X (.Raise (some (.Call (.Name x np) [] [] cpos)) none pos) (λ_ _ H=>E (.ref C) none H):=by
 intro pins s σ H D I h;obtain⟨tl,N,nm,q,bs,hdct,sn,sub,ab,col,dd,k0,k1,k2,k3,k5,mN,hC,hN,hni,T⟩:=V9 I.kIn hq;refine wpAny_Raise_call_subT (C:=C) (nm:=nm) (q:=q) (N:=N) (bs:=bs) (bm:=tl) (hdct:=hdct) (sn:=sn) (sub:=sub) (ab:=ab) (col:=col) (dd:=dd) (k0:=k0) (k1:=k1) (k2:=k2) (k3:=k3) (k5:=k5)
  fK (mN:=mN) (T.hasType PySem.F.excBase_ValueError.hasBase) (I.ok.hd hc) rfl hni (E6 I hg hm ⟨rfl,?_⟩ hd)
 exact evalArgs_empty ⟨rfl,bC _,hC,hN,T,λh' e hx=>R pins σ H s (.ref C) h' e [] I hx h⟩
end
abbrev XS:=Value->St->Hp->Prop
abbrev TX:=Ends->XS->St->Hp->Prop
def XP (X:Cx)(pins:List (Addr×Obj))(Ex:XS)(e:Value)(s':Shared):Prop:=
 ∃(ea:Addr) (cls:Value) (σ':St) (H1 H':Hp) (s1:Shared) (B:Heap) (a0:Value),e=.ref ea/\Inv X pins σ' H1 s1/\Fly X.prog X.w X.stack H1 s1 ea cls H' B a0 s'/\Ex cls σ' H'
def ae (X:Cx)(st:List Stmt)(t:TX):Prop:=
 ∀(pins:List (Addr×Obj)) (s:Shared) (σ:St) (H:Hp) (D:Ends) (Ex:XS),Inv X pins σ H s->t D Ex σ H->wpAny (model X.prog X.w) X.A (execs st X.env) (SP X pins D) (XP X pins Ex) s
def Cx.held (X:Cx)(e:Value):Cx:={ X with A:=X.A.mark (some e),calm:=false,xe:=λ_ _=>False }
section
variable {X:Cx}{pins:List (Addr×Obj)}{σ:St}{H:Hp}{s:Shared}{e:Value}
theorem Inv.held (I:Inv X pins σ H s)(e:Value):Inv (X.held e) pins σ H s:=
 ⟨⟨I.ok.mod,I.ok.kind,I.ok.glob,I.ok.blt,I.ok.above,I.ok.inj,I.ok.has,I.ok.cab,(λz=>nomatch z),I.ok.frames,I.ok.stk,I.ok.exf,I.ok.bs,I.ok.bsz,I.ok.noex,I.ok.exfs,I.ok.funs,I.ok.frf⟩,I.os,I.bare,I.base,I.loc,I.cell,I.free,I.freeC,I.pin,I.hok,I.len⟩
theorem Inv.unheld (J:Inv X pins σ H s){σ':St}{H':Hp}{s':Shared}(I:Inv (X.held e) pins σ' H' s'):Inv X pins σ' H' s':=
 ⟨J.ok,I.os,I.bare,I.base,I.loc,I.cell,I.free,I.freeC,I.pin,I.hok,I.len⟩
theorem SP.unheld (J:Inv X pins σ H s){D:Ends}{f:Flow}{s':Shared}(h:SP (X.held e) pins D f s'):SP X pins D f s':=by
 cases f with
 |next=>obtain⟨σ',H',I,q⟩:=h;exact⟨σ',H',J.unheld I,q⟩
 |brk=>obtain⟨σ',H',I,q⟩:=h;exact⟨σ',H',J.unheld I,q⟩
 |cont=>obtain⟨σ',H',I,q⟩:=h;exact⟨σ',H',J.unheld I,q⟩
 |ret u=>obtain⟨v,σ',H',I,r,q⟩:=h;exact⟨v,σ',H',J.unheld I,r,q⟩
end
section
variable {X:Cx}{x:Str}{c:Value}{body orelse suite:List Stmt}{b₀:Stmt}{np hpos pos:Pos}
def ZO (K:PySem.W.Frag)(c:Value)(tb:TX)(te ts:TS):TS:=λD σ H=>tb { D with nx:=te D } (λcls σ' H'=>PySem.W.exmOne K cls c=some true/\ts D σ' H') σ H
theorem Yu {tb:TX} {te ts:TS} (hst:X.stack=X.env::X.outer/\X.env.frame=some X.env.locals) (hm:X.mg x=some c) (hg:Gl X x) (hb:ae X body tb) (he:NG X orelse te) (hs:∀e,NG (X.held e) (b₀::suite) ts)
  (hd:(x == ("__debug__":Str))=false:=by decide):PS X (.Try body [.ExceptHandler (some (.Name x np)) none (b₀::suite) hpos] orelse [] pos) (ZO X.K c tb te ts):=by
 intro pins s σ H D I h;refine wpAny_Try_except (bf (hb pins s σ H _ _ I h) (λf s1 q=>?_) λe s1 q=>?_)
 ·cases f with
  |next=>
   obtain⟨σ',H',I',q⟩:=q;exact he pins s1 σ' H' D I' q
  |ret v=>exact q
  |brk=>exact q
  |cont=>exact q
 ·obtain⟨ea,cls,σ',H1,H',s2,B,a0,rfl,I2,F,hx,q⟩:=q;have hfr:=I.ok.frames;have fl:=F.fl;rw[hst.1] at hfr fl;refine wpAny_looks_onW hfr hst.2 fl λh4 held4 up4=>?_
  refine wpAny_landsW held4 λh5 fl5 up5=>?_
  have J5:=I2.landed F fl5.1 (up4.trans up5);refine fe (eQ (E6 (J5.held (.ref ea)) hg hm ?_ hd)) (by intro z;cases z);obtain⟨ob,hob,hcls⟩:=fl5.there;have LT:PySem.W.Looks (model X.prog X.w) h5 (typeOf (.ref ea)) cls:=by
   subst hcls;exact(fg hob).andThen .now
  refine(fz J5.kIn LT hx).here ?_;refine codeAny_handlers_suite (lands_againW fl5 λh6 fl6 up6=>?_);have J6:=I2.landed F fl6.1 ((up4.trans up5).trans up6);exact bf (hs (.ref ea) pins _ σ' H' D (J6.held (.ref ea)) q) (λf s7 z=>z.unheld J6) λ_ _ z=>False.elim z
end
mutual
theorem ME {F:Addr->Prop}{H H':Hp}(k:∀c o,H c=some o->((∃xs,o=.lst xs)\/∃xs,o=.tup xs)->H' c=some o):∀(t:Tr) (v:V),Rep F H t v->Rep F H' t v
 | .non,_,h=>h
 | .bl _,_,h=>h
 | .int _,_,h=>h
 | .str _,_,h=>h
 | .tup ts,_,⟨a,vs,e,ha,hr⟩=>⟨a,vs,e,k a _ ha (.inr ⟨vs,rfl⟩),Lz k ts vs hr⟩
 | .lst ts,_,⟨a,vs,e,fa,ha,hr⟩=>⟨a,vs,e,fa,k a _ ha (.inl ⟨vs,rfl⟩),Lz k ts vs hr⟩
theorem Lz {F:Addr->Prop}{H H':Hp}(k:∀c o,H c=some o->((∃xs,o=.lst xs)\/∃xs,o=.tup xs)->H' c=some o):∀(ts:List Tr) (vs:List V),Ft F H ts vs->Ft F H' ts vs
 |[],_,h=>h
 |t::ts,_,⟨v,us,e,h1,h2⟩=>⟨v,us,e,ME k t v h1,Lz k ts us h2⟩
end
theorem Kn {α:Type}{f:α->Tr}{m:Nat}:∀{xs:List α},(∀x∈xs,(f x).dep<=m)->Tr.deps (xs.map f)<=m
 |[],_=>bC _
 |x::xs,h=>Nat.max_le.mpr ⟨h x aK,Kn λy hy=>h y (aB _ hy)⟩
theorem Mg {F:Addr->Prop}{H:Hp}:∀{ts:List Tr} {vs:List V},vs.length=ts.length->(∀(i:Nat) t v,ts[i]?=some t->vs[i]?=some v->Rep F H t v)->Ft F H ts vs
 |[],[],_,_=>rfl
 |[],_::_,h,_=>by simp at h
 |_::_,[],h,_=>by simp at h
 |t::ts,v::vs,h,k=>⟨v,vs,rfl,k 0 t v rfl rfl,Mg (by simpa using h) λi t' v' h1 h2=>k (i+1) t' v' (by simpa using h1) (by simpa using h2)⟩
theorem Rn {X:Cx} {K:PySem.W.Frag} {T:String} {name:Str} {id:String} {r:V->List V->Hp->VK->Prop} {o e:Expr} {es:List Expr} {to:TE} {t:TA} {apos cpos:Pos} (hK:X.K=K) (pa:PlainAttrs T) (slot:Slot T name id) (hty:typeOf (.builtin id)=pure (.type "method_descriptor")) (hm:V5 X id r) (ho:PE X o to) (ha:PA X (e::es) t)
  (hbase:attributeBase o name X.env (eval o X.env)=eval o X.env:=by rfl)
  (hfew:((backTo cpos (starEach (e::es) X.env)).all (λx=>!x.1)&&(backToKw cpos (keywordEach [] X.env)).all (λx=>x.1.isSome)
   && decide ((e::es).length+([]:List Keyword).length+(if([]:List Keyword).isEmpty then 0 else 1)<30))=true:=by rfl)
  (hline:(apos.endLine == cpos.line)=true:=by rfl) (hs:starEach (e::es) X.env=(false,eval e X.env)::starEach es X.env:=by rfl) (hplain:(backTo cpos (starEach es X.env)).any (·.1)=false:=by rfl) :
  PE X (.Call (.Attribute o name apos) (e::es) [] cpos) (Z8 K T r to t):=by
 subst hK;exact Gu pa slot hty hm ho ha hbase hfew hline hs hplain
end L2
namespace L2
section
open PySem PySem.Calls PyProof.Rows PySem.W Builtin Builtin.ObjectAttr Builtin.Getset_descriptor
section
variable {prog:Program}{w:World}{A:Around}{E:Value->Shared->Prop}{K:Frag}{e D:Addr}
structure IsExc (h:Heap) (e D:Addr):Prop where
 ob:∃o,h.get? e=some o/\o.cls=.ref D/\∃vs,o.data=.fields vs
theorem IsExc.ty {h:Heap}(z:IsExc h e D){M:Model}:Looks M h (typeOf (.ref e)) (.ref D):=by
 obtain⟨o,q,c,_⟩:=z.ob;rw[<-c];exact(Looks.ld q).andThen .now
theorem TM {tp:Value}{s:Shared}{R:Result->Shared->Prop}(k:K.In s.heap)(z:IsExc s.heap e D)(hm:mroIn K D (.type "object")=some true)(q:R (.ok (.ret (.ref D))) s) :
  codeAny (model prog w) A (.call (.builtin "getset_descriptor.__get__") ⟨[.builtin "object.__class__",.ref e,tp],[]⟩) R s:=by
 obtain⟨h1,g1,d1,t1,o1⟩:=s;have T0:=z.ty (M:=model prog w);have T1:=looks_mroIn (M:=model prog w) k hm;have slot:=KF.slot_gs;refine cT slot.plain KF.entry_gs (slot.check _ _ _ _ _ _ _ _ KF.type_class (KF.args_gs _ _ _) ?_);simp only[Builtin.«getset_descriptor.__get__»,descrGet,dga_obj];refine ay (aH ?_);dsimp only[descrGetter,descrCheckInstance,descrNameAndClass,isInstance];rw[show descrOwnerAndName "object.__class__"=("object","__class__") from KF.owner_class]
 repeat lk
 refine⟨fF (id:="object.__class__") _ (by decide +kernel),cQ KF.entry_class ?_⟩;simp only[Builtin.«object.__class__»,shownTypeOf]
 repeat lk
 exact q
theorem Ve {h:Heap} {M:Model} (k:K.In h) (ha:findIn K (.ref D) "__class__"=some (some (.builtin "object.__class__")))
  (hn:specialIn K (.builtin "object.__class__") "__get__"=some (some (.builtin "getset_descriptor.__get__"))) (ht:takesIn K (.builtin "object.__class__")=some true) :
  Looks M h (find (.ref e) (.ref D) "__class__") (.bind (.builtin "getset_descriptor.__get__") (.builtin "object.__class__")):=
 (dJ k ha).andThen ((show Looks M h (getOf (some (.builtin "object.__class__"))) (some (.builtin "getset_descriptor.__get__")) from looks_specialIn k hn).andThen
  ((show Looks M h (dataDescriptor? (some (.builtin "object.__class__")) (some (.builtin "getset_descriptor.__get__"))) (some (.builtin "getset_descriptor.__get__",.builtin "object.__class__")) from(looks_takesIn k ht).andThen .now).andThen (Looks.tag .now)))
theorem Ow {nv:Value}{s:Shared}{Q:Unit->Shared->Prop}{M:Model}(k:K.In s.heap)(z:IsExc s.heap e D)(hb:mroIn K D (.type "BaseException")=some true)(q:Q () s) :
  wpAny M A (checkBuiltinCall "BaseException.__getattribute__" ⟨[.ref e,nv],[]⟩) Q E s:=by
 obtain⟨h1,g1,d1,t1,o1⟩:=s;have b1:builtinKind "BaseException.__getattribute__"=some .slot:=by decide +kernel
 have b2:splitId "BaseException.__getattribute__"=some ("BaseException","__getattribute__"):=by decide +kernel
 have b3:=F.args_bexc_ga (.ref e) nv;have T:Looks M h1 (isInstance (.ref e) (.type "BaseException")) true:=z.ty.andThen (looks_mroIn k hb);simp only[checkBuiltinCall,b1,b2];refine ay (T.at ?_);rw[aF (by decide)]
 repeat wp_step
 exact q
theorem Uh {tk:Tok} {s:Shared} {Q:Fin->Shared->Prop} (k:K.In s.heap) (z:IsExc s.heap e D) (ha:findIn K (.ref D) "__class__"=some (some (.builtin "object.__class__")))
  (hn:specialIn K (.builtin "object.__class__") "__get__"=some (some (.builtin "getset_descriptor.__get__"))) (ht:takesIn K (.builtin "object.__class__")=some true) (hm:mroIn K D (.type "object")=some true) (q:Q (.done (.ret (.ref D))) s) :
  wpAny (model prog w) A (Builtin.«object.__getattribute__» ⟨[.ref e,.str "__class__" tk],[]⟩) Q E s:=by
 obtain⟨h1,g1,d1,t1,o1⟩:=s;have T0:=z.ty (M:=model prog w);have T1:=Ve (e:=e) (M:=model prog w) k ha hn ht;have s0:slotArgs "__getattribute__" 1 ⟨[.ref e,.str "__class__" tk],[]⟩=pure (Value.ref e,[Value.str "__class__" tk]):=by kernel_rfl
 have s1:attrName (.str "__class__" tk)=pure "__class__":=by kernel_rfl
 simp only[Builtin.«object.__getattribute__»,s0];refine ay (aH ?_);dsimp only;rw[s1];refine ay (aH (ay (T0.at (ay (T1.at ?_)))));dsimp only;unfold bindTo;dsimp only;refine ay (cI (TM (s:=⟨h1,g1,d1,t1,o1⟩) k z hm ?_));exact aH q
theorem Tf {s:Shared} {Q:Option Value->Shared->Prop} (k:K.In s.heap) (z:IsExc s.heap e D) (hga:findIn K (.ref D) "__getattribute__"=some (some (.builtin "BaseException.__getattribute__"))) (hgg:findIn K (.ref D) "__getattr__"=some none)
  (ha:findIn K (.ref D) "__class__"=some (some (.builtin "object.__class__"))) (hn:specialIn K (.builtin "object.__class__") "__get__"=some (some (.builtin "getset_descriptor.__get__"))) (ht:takesIn K (.builtin "object.__class__")=some true)
  (hm:mroIn K D (.type "object")=some true) (hb:mroIn K D (.type "BaseException")=some true) (q:Q (some (.ref D)) { s with toks:=s.toks+1 }) :
  wpAny (model prog w) A (getAttr? (.ref e) "__class__") Q E s:=by
 obtain⟨h1,g1,d1,t1,o1⟩:=s;have T0:=z.ty (M:=model prog w);have T1:=dJ (M:=model prog w) k hga;have T2:=dJ (M:=model prog w) k hgg;have B:=F.excAttr_ValueError.ga.bind (.ref e);simp only[getAttr?,getAttrBy?,getAttrBy];refine ay (wpAny_mkText (ay (fj (bL (ay (T0.at (ay (T1.at ?_))))))));have n0:(onTheHeap (Value.ref D)&&Value.builtin "BaseException.__getattribute__" == Value.builtin "object.__getattribute__")=false:=by
  have:(Value.builtin "BaseException.__getattribute__" == Value.builtin "object.__getattribute__")=false:=by decide +kernel
  rw[this];rfl
 dsimp only;rw[aF (by rw[n0];decide)];unfold getAttrByItsOwn hookBefore;rw[aI (by rfl)];refine ay (T2.at (ay (fj (bL ?_))));unfold callGetattribute boundAndCalled;rw[aF (by decide),B];refine ay (aH ?_);dsimp only;refine cI (cT F.excAttr_ValueError.ga.plain F.entry_bexc_ga ?_);refine Ow (s:=⟨h1,g1,d1,t1+1,o1⟩) k ⟨z.ob⟩ hb (Uh (s:=⟨h1,g1,d1,t1+1,o1⟩) k ⟨z.ob⟩ ha hn ht hm ?_);dsimp only;exact handed_on rfl (aH q)
structure ExcCls (K:Frag) (D:Addr):Prop where
 ga:findIn K (.ref D) "__getattribute__"=some (some (.builtin "BaseException.__getattribute__"))
 gg:findIn K (.ref D) "__getattr__"=some none
 cl:findIn K (.ref D) "__class__"=some (some (.builtin "object.__class__"))
 sp:specialIn K (.builtin "object.__class__") "__get__"=some (some (.builtin "getset_descriptor.__get__"))
 tk:takesIn K (.builtin "object.__class__")=some true
 mo:mroIn K D (.type "object")=some true
 mb:mroIn K D (.type "BaseException")=some true
theorem ExcCls.there (c:ExcCls K D):∃o,K.lookup D=some o/\∃cd,o.data=.cls cd:=by
 obtain⟨cd,h,_⟩:=Option.bind_eq_some_iff.mp c.mo;unfold clsIn at h
 split at h
 ·rename_i o d' cd' sl' ho
  exact⟨_,ho,_,rfl⟩
 ·cases h
theorem ExcCls.kit (c:ExcCls K D):KitX K (.ref e) (.ref D) (λh=>IsExc h e D) where
 ty:=λ_ _ _ z=>z.ty
 it:=λM h k _=>by
  obtain⟨⟨oc,od,oda,os⟩,h1,cd,h2⟩:=c.there;dsimp only at h2;subst h2;intro A1 Q1 E1 s1 st q;unfold isType loadHead;exact ay (gv (st _ _ (k _ _ h1)) (aH q))
 ne:=λh tp dd its n sl k ht=>by
  obtain⟨o,h1,cd,h2⟩:=c.there;cases q:(Value.ref D == Value.ref tp) with
  |false=>rfl
  |true=>
   cases Value.ref.inj (bW.mp q);rw[k _ _ h1] at ht;cases ht;cases h2
 ca:=λk z q=>Tf k z c.ga c.gg c.cl c.sp c.tk c.mo c.mb q
end
end
open PySem PySem.Spec PyProof.Rows
theorem IsExc.stays {h1 h2:Heap}{e D:Addr}(z:IsExc h1 e D)(k:∀o,h1.get? e=some o->h2.get? e=some o):IsExc h2 e D:=by
 obtain⟨o,q,r⟩:=z.ob;exact⟨o,k o q,r⟩
section
variable {X:Cx}{pins:List (Addr×Obj)}{σ:St}{H:Hp}{s:Shared}
theorem Inv.know {e:Addr} {o:HO} (I:Inv X pins σ H s) (n0:e∉X.ex->X.s₀.heap.get? e=none) (nl:e≠X.env.locals) (nc:∀x c,X.env.cells.lookup x=some c->c≠e) (np:∀p∈X.pn++pins,p.1≠e) (hn:H e=none)
  (ho:Bn X.prog X.w (upd H e o) s.heap e o):Inv X pins σ (upd H e o) s:=by
 have up:∀{b:Addr} {u:HO},H b=some u->upd H e o b=some u:=λ{b u} q=>by rw[Ax (B6 q hn)];exact q
 refine⟨I.ok,I.os,I.bare,⟨I.base.keep,I.base.slot,λb ob q n x=>?_,I.base.there,λb xs q=>up (I.base.tups b xs q),λb ob u q=>up (I.base.frzs b ob u q),λb ps q=>?_⟩,I.loc,I.cell,?_,λx c q=>?_,λp hp=>?_,λb u q=>?_,I.len⟩
 ·rw[Ax (λz=>by subst z;rw[n0 x] at q;cases q)];exact I.base.free b ob q n x
 ·obtain⟨more,z⟩:=I.base.tbls b ps q;exact⟨more,up z⟩
 ·rw[Ax nl.symm];exact I.free
 ·rw[Ax (nc x c q)];exact I.freeC x c q
 ·obtain⟨h1,h2,h3⟩:=I.pin p hp;exact⟨h1,by rw[Ax (np p hp)];exact h2,h3⟩
 ·by_cases hb:b=e
  ·subst hb;rw[Ae] at q;cases q;exact ho
  ·rw[Ax hb] at q;exact(I.hok b u q).stay (λc v _ z=>z) (λ_ z=>up z) λ_ _ z=>up z
theorem Me {M:Model} {A:Around} {E:Value->Shared->Prop} {i:Nat} {x:Str} {pos:Pos} {Q:Unit->Shared->Prop} (I:Inv X pins σ H s) (hN:X.N.Nodup) (hi:X.N[i]?=some x) (hk:X.env.kindOf x=some .local)
  (h:∀s',Inv X pins (σ.set i none) H s'->Q () s'):wpAny M A (do bindName X.env x .none;unbindBehindTheSuite X.env x pos) Q E s:=by
 obtain⟨m,hn,hl⟩:=id I.loc;have hc:(X.env.scope.kind == .class||(X.env.scope.kind == .module&&X.env.locals != X.env.globals))=false:=by rw[I.ok.kind];rfl
 have hiσ:i<σ.length:=by rw[I.len];exact(bh.mp hi).1
 obtain⟨oL,_,_,hoL,_⟩:=id hn;refine wpAny_nameGoes_keeps hk hn hc λh' v hn' hs=>?_
 have apart:∀b o,X.s₀.heap.get? b=some o->b≠X.env.locals:=λb o q=>bg (bc (aP q) I.ok.above)
 refine h _ ⟨I.ok,I.os,I.bare,⟨λb o q n hb hx=>(hs.2 b (apart b o q)).trans (I.base.keep b o q n hb hx),λb o q n hb hx=>?_,I.base.free,λb o q hx=>?_,I.base.tups,I.base.frzs,I.base.tbls⟩,
  ⟨_,hn',λj y v' e1 e2 e3=>?_⟩,λy c q=>?_,I.free,I.freeC,λp hp=>?_,λb u q=>?_,by simpa using I.len⟩
 ·obtain⟨sl,z⟩:=I.base.slot b o q n hb hx;exact⟨sl,(hs.2 b (apart b o q)).trans z⟩
 ·obtain⟨o',z⟩:=I.base.there b o q hx;exact⟨o',(hs.2 b (apart b o q)).trans z⟩
 ·by_cases hj:j=i
  ·subst hj;rw[dY hiσ] at e2;cases e2
  ·rw[eG (Ne.symm hj)] at e2;obtain⟨u',r',q⟩:=hl j y v' e1 e2 e3;refine⟨u',r',?_⟩;rcases q with⟨k,z⟩|⟨k,c,z,z2⟩
   ·have ny:y≠x:=λt=>hj (ND hN e1 (t▸hi))
    exact .inl ⟨k,by simp[ny,z]⟩
   ·exact .inr ⟨k,c,z,z2.sameBut hs (I.cne y c z)⟩
 ·obtain⟨w',z⟩:=I.cell y c q;exact⟨w',z.sameBut hs (I.cne y c q)⟩
 ·obtain⟨q,n,ne,nf,d⟩:=I.pin p hp;exact⟨(hs.2 p.1 ne).trans q,n,ne,nf,d⟩
 ·have nb:∀{c:Addr} {v':HO},H c=some v'->c≠X.env.locals:=λ{c v'} z=>B6 z I.free
  refine(I.hok b u q).stay (λc w' hc z=>(hs.2 c ?_).trans z) (λ_ z=>z) λ_ _ z=>z
  rcases hc with rfl|hc
  ·exact nb q
  ·exact nb hc
theorem Inv.flown {H':Hp}{s':Shared}{ea:Addr}{cls a0:Value}{B:Heap}(I:Inv X pins σ H s)(F:Fly X.prog X.w X.stack H s ea cls H' B a0 s'):s.heap.get? ea=none:=by
 cases q:s.heap.get? ea with
 |none=>rfl
 |some o=>
  by_cases hb:ea∈GN X.stack
  ·obtain⟨z,e⟩:=F.un.slot ea o q (I.stkFree ea hb) hb (by simp);obtain⟨_,o',ho',hd⟩:=I.stack.mem hb;rw[q] at ho';cases ho';obtain⟨_,_,_,oe,vs,_,_,_,he,_,hv,_⟩:=F.fl;rw[he] at e;cases e;exact absurd hv (hd vs)
  ·obtain⟨o',e⟩:=F.th ea o q hb;rw[F.fl.2.1] at e;cases e
end
theorem Jp {X:Cx}{x:Str}{C:Addr}{pos:Pos}(hg:Gl X x)(hm:X.mg x=some (.ref C))(hd:(x == ("__debug__":Str))=false:=by decide):PE X (.Name x pos) (tC (.ref C)):=OP (v:=.ref C) hg hm rfl hd
end L2
namespace L2
end L2
namespace L2
section
open PySem PySem.Calls PyProof.Rows PySem.W
structure IsExcD (h:Heap) (e D:Addr) (d:Option Addr):Prop where
 is:IsExc h e D
 dj:∃o,h.get? e=some o/\o.dict=d/\Nr o
theorem IsExcD.stays {h1 h2:Heap}{e D:Addr}{d:Option Addr}(z:IsExcD h1 e D d)(k:∀o,h1.get? e=some o->h2.get? e=some o):IsExcD h2 e D d:=by
 obtain⟨a,o,q,hd⟩:=z;exact⟨a.stays k,o,k o q,hd⟩
end
section
open PySem PySem.Spec PyProof.Rows
def Ie (e D:Addr)(d:Option Addr):HO:=.ext λh=>IsExcD h e D d
variable {X:Cx}{pins:List (Addr×Obj)}{σ:St}{H:Hp}{s:Shared}
theorem Inv.knowD {H':Hp}{s':Shared}{ea C:Addr}{a0:Value}{B h':Heap}{d:Option Addr}(I:Inv X pins σ H s)(F:Fly X.prog X.w X.stack H s ea (.ref C) H' B a0 s')(J:Inv X pins σ H' { s' with heap:=h' })(T:h'.TracedW B ea (.ref C) a0)(dj:DictAt h' ea d):Inv X pins σ (upd H' ea (Ie ea C d)) { s' with heap:=h' }:=by
 have n:=I.flown F;obtain⟨m,hn,_⟩:=id I.loc;obtain⟨oL,_,_,hoL,_⟩:=id hn;obtain⟨oe,vs,_,_,_,he,⟨hc,_⟩,hv,_⟩:=T;have ise:IsExcD h' ea C d:=⟨⟨oe,he,hc,vs,hv⟩,oe,he,dj.get he⟩
 refine J.know (λx=>?_) (λz=>?_) (λx c q z=>?_) (λp hp z=>?_) F.free ⟨ise,⟨oe,he⟩,λh1 h2 z k=>z.stays k⟩
 ·cases q:X.s₀.heap.get? ea with
  |none=>rfl
  |some o=>
   obtain⟨o',z⟩:=I.base.there ea o q x;rw[n] at z;cases z
 ·rw[<-z,n] at hoL;cases hoL
 ·obtain⟨w',oc,e,_⟩:=I.cell x c q;rw[z,n] at e;cases e
 ·have:=(I.pin p hp).1;rw[z,n] at this;cases this
variable {x n:Str}{c:Value}{body orelse suite:List Stmt}{b₀:Stmt}{np hpos pos:Pos}{i:Nat}
end
end L2
namespace L2
open PySem PySem.Spec PyProof.Rows
end L2
namespace L2
section
open PySem PySem.Calls PyProof.Rows PySem.W Builtin Builtin.ObjectAttr
def RX:List Value->Bool
 | .ref _::r=>RX r
 |l=>l == QU
theorem Ov (self:Value):∀{l:List Value},RX l=true->refuseLoop self "__setattr__" l=pure ()
 |[],e=>by cases e
 | .ref a::r,e=>by rw[refuseLoop_ref];exact Ov self (l:=r) e
 | .type n::r,e=>by
  have:(Value.type n::r)=QU:=bW.mp e;rw[this];exact PySem.F.store_ValueError.passes self
 | .none::_,e | .bool _::_,e | .int _ _::_,e | .float _ _::_,e | .str _ _::_,e | .builtin _::_,e | .notImplemented::_,e | .ellipsis::_,e=>by cases e
def To (K:Frag)(C:Addr):Bool:=(clsIn K C).any λcd=>RX cd.mro
section
variable {prog:Program}{w:World}{A:Around}{E:Value->Shared->Prop}{s:Shared}{K:Frag}{x C:Addr}{vs:Array Value}{name:Str}{v:Value}
structure ExiCls (K:Frag) (C:Addr):Prop extends ExcCls K C where
 sa:findIn K (.ref C) "__setattr__"=some (some (.builtin "object.__setattr__"))
 ve:To K C=true
 hd:hasDictIn K C=true
theorem Vb (hx:s.heap.get? x=some ⟨.ref C,none,.fields vs,#[]⟩):InstAt s.heap x ⟨.ref C,none,.fields vs,#[]⟩ C none:=⟨hx,rfl,rfl,trivial⟩
theorem TK {Q:Unit->Shared->Prop} (X:K.In s.heap) (c:ExiCls K C) (hn:findIn K (.ref C) name=some none) (hx:s.heap.get? x=some ⟨.ref C,none,.fields vs,#[]⟩)
  (h:∀h',h'.get? x=some ⟨.ref C,some s.heap.objs.size,.fields vs,#[]⟩->h'.Ns1 s.heap.objs.size (λy=>if y=name then some v else none)->(∀b o,b≠x->s.heap.get? b=some o->h'.get? b=some o)->Q () { s with heap:=h',toks:=s.toks+2 }) :
  wpAny (model prog w) A (setAttr (.ref x) name v) Q E s:=by
 have I:=Vb hx;obtain⟨cd,hc,hm⟩:=any_some c.ve;obtain⟨cd2,hc2,hdd⟩:=any_some c.hd;rw[hc] at hc2;cases hc2;refine set_plain X I c.sa ?_;have inObj:Looks (model prog w) s.heap (isInstance (.ref x) (.type "object")) true:=I.type.andThen (looks_mroIn X c.mo);have G:=PySem.F.store_ValueError;refine cT G.slot.plain G.entry (@check_slot (model prog w) _ _ { s with toks:=s.toks+1 } "object.__setattr__" "object" "__setattr__" (.ref x) [.str name s.toks,v] [] _ G.kind G.split inObj (G.args (.ref x) (.str name s.toks) v) ?_);rw[osa_eq,refuse_eq];have own:Looks (model prog w) s.heap (mroOf (.ref C)) cd.mro:=(looks_clsIn X hc).andThen .now;refine ay (ay (eU (s:={ s with toks:=s.toks+1 }) I.type (ay (eU (s:={ s with toks:=s.toks+1 }) own ?_))));rw[Ov _ hm];refine aH (ay (eU (s:={ s with toks:=s.toks+1 }) I.type (ay (eU (s:={ s with toks:=s.toks+1 }) (dJ X hn) (ay (aH ?_))))));dsimp only;refine ay (aH (ay (ay (gv hx (ay (eU (s:={ s with toks:=s.toks+1 }) (looks_clsIn X hc) ?_))))));rw[hdd];refine ay (wpAny_alloc ?_);have n0:s.heap.get? s.heap.objs.size=none:=cx (aD _);have nx:s.heap.objs.size≠x:=λz=>by rw[z,hx] at n0;cases n0
 have hx1:=az { cls:=.type "dict",data:=.dict #[] } hx;refine ay (wpAny_update hx1 ?_);have hx2:=Heap.get?_update_self (λo:Obj=>{ o with dict:=some s.heap.objs.size }) hx1 rfl;have hd2:((s.heap.push { cls:=.type "dict",data:=.dict #[] }).update x (λo:Obj=>{ o with dict:=some s.heap.objs.size })).get? s.heap.objs.size=some { cls:=.type "dict",data:=.dict #[] }:=by
  rw[bH _ _ (Ne.symm nx)];exact aN _ rfl
 have ns0:((s.heap.push { cls:=.type "dict",data:=.dict #[] }).update x (λo:Obj=>{ o with dict:=some s.heap.objs.size })).Ns1 s.heap.objs.size (λ_=>none):=⟨_,_,_,hd2,rfl,(λe he=>by simp at he),(by simp[UniqKeys]),λ_=>rfl⟩
 have keep:∀b o,b≠x->s.heap.get? b=some o->((s.heap.push { cls:=.type "dict",data:=.dict #[] }).update x (λo:Obj=>{ o with dict:=some s.heap.objs.size })).get? b=some o:=λb o nb q=>by
  rw[bH _ _ (Ne.symm nb)];exact az _ q
 generalize (s.heap.push { cls:=.type "dict",data:=.dict #[] }).update x (λo:Obj=>{ o with dict:=some s.heap.objs.size })=h1 at hx2 hd2 ns0 keep;refine aH (a:=some s.heap.objs.size) (ay (aH (ay ?_)));refine wpAny_nsSet1 (s:={ s with heap:=h1,toks:=s.toks+1 }) ns0 λh2 ns2 but=>?_
 obtain⟨oD,esD,epD,hoD,hdD,hcD⟩:=ns2.count (PySem.Within.cons (ns:=[]) name v λ_ z=>absurd rfl z);refine ay (wpAny_lookBehind hoD (by rw[hdD];exact pastItsLine_dict (bj hcD (by rw[bA];show 1<=_;decide))) ?_);refine aH (h h2 ((but.2 x (Ne.symm nx)).trans hx2) ns2 λb o nb q=>(but.2 b λz=>?_).trans (keep b o nb q));rw[z,n0] at q;cases q
end
def JU (K:Frag)(C:Addr):Bool:=(K.lookup C).any λo=>match o with
 |⟨.type t,_,.cls cd,sl⟩=>t == "type" && !cd.hasDel&&(match cd.mro with | .ref D::tl=>D == C&&tailIn K QU tl|_=>false)&&(match sl.toList with|[_,_,_,_,some (.builtin n),_]=>n == "ValueError.__new__"|_=>false)
 |_=>false
theorem SO {h:Heap}{K:Frag}{C:Addr}(X:K.In h)(q:JU K C=true) :
  ∃tl N nm qn bs hd sn sub ab col dd k0 k1 k2 k3 k5,h.get? C=some (excClassObj nm qn C N bs tl hd sn sub ab col dd k0 k1 k2 k3 k5 "ValueError.__new__")/\OwnTail h QU tl:=by
 obtain⟨o,found,z⟩:=any_some q
 split at z
 ·rename_i t dx ck sl
  rw[ba,ba,ba] at z;obtain⟨⟨⟨z1,z2⟩,z3⟩,z4⟩:=z;have y1:t="type":=bW.mp z1;have y2:ck.hasDel=false:=by simpa using z2
  split at z3
  ·rename_i D tl em
   rw[ba] at z3;have y3:D=C:=bW.mp z3.1
   split at z4
   ·rename_i p0 p1 p2 p3 made p5 es
    have y4:made="ValueError.__new__":=bW.mp z4;subst y1 y3 y4;obtain⟨nm,bs,mro,ns,qn,hd,sn,sub,ab,col,del⟩:=ck;simp only at em y2;subst em y2;obtain⟨l⟩:=sl;simp only at es;subst es;exact⟨tl,ns,nm,qn,bs,hd,sn,sub,ab,col,dx,p0,p1,p2,p3,p5,X _ _ found,tail_of_in X z3.2⟩
   ·cases z4
  ·cases z3
 ·cases z
section
variable {prog:Program}{w:World}{A:Around}{E:Value->Shared->Prop}{s:Shared}{K:Frag}{C f:Addr}{us:List Value}
def EK (C t:Addr)(d:Option Addr):Obj:=⟨.ref C,d,.fields #[.ref t,.none,.none,.none,.bool false,.none],#[]⟩
theorem Uy {Q:Value->Shared->Prop} (X:K.In s.heap) (hq:JU K C=true) (hi:findIn K (.ref C) "__init__"=some (some (.ref f))) (hf:typeIn K (.ref f)=some (.type "function")) (hl:us.length<=sizeLine)
  (h:∀h1,(∀b o,s.heap.get? b=some o->h1.get? b=some o)->h1.get? (s.heap.objs.size+1)=some (EK C s.heap.objs.size none)->h1.objs.size=s.heap.objs.size+2->
   wpAny (model prog w) (A.under (.builtin "type.__call__" ⟨.ref C::us,[]⟩)) (call (.ref f) (.ref (s.heap.objs.size+1)::us)) (λr s'=>r=.none/\Q (.ref (s.heap.objs.size+1)) s') E { s with heap:=h1 }) :
  wpAny (model prog w) A (call (.ref C) us) Q E s:=by
 obtain⟨tl,N,nm,qn,bs,hd,sn,sub,ab,col,dd,k0,k1,k2,k3,k5,oc,T⟩:=SO X hq;obtain⟨hp,g,d,t,os⟩:=s;have G:=fK;have l1:=tc_lookup;have l2:=tc_bind (.ref C);have hT:(⟨hp,g,d,t,os⟩:Shared).TypeIs (.ref C) "type":=⟨_,oc,rfl⟩
 refine cI (codeAny_of_tree ?_);show wpAny _ _ (callAny (.ref C) _) _ _ _
 repeat (any_goals (first|assumption|(with_reducible refine d2 oc ?_)|wp_step))
 refine⟨rfl,codeAny_call_builtin_at (fF _ (by decide +kernel)) entry_typeCall (wpAny_check_type_call_sub oc ?_)⟩
 change K.In hp at X
 change hp.get? C=_ at oc
 change OwnTail hp QU tl at T
 dsimp only at h;generalize eA:A.under (Code.builtin "type.__call__" { pos:=[Value.ref C]++us })=A1;have h:∀h1,(∀b o,hp.get? b=some o->h1.get? b=some o)->h1.get? (hp.objs.size+1)=some (EK C hp.objs.size none)->h1.objs.size=hp.objs.size+2->wpAny (model prog w) A1 (call (.ref f) (.ref (hp.objs.size+1)::us)) (λr s'=>r=.none/\Q (.ref (hp.objs.size+1)) s') E ⟨h1,g,d,t,os⟩:=by
  rw[<-eA];exact h
 show wpAny (model prog w) A1 (Builtin.«type.__call__» ⟨.ref C::us,[]⟩) _ _ ⟨hp,g,d,t,os⟩
 repeat (first|(with_reducible refine d2 oc ?_)|(with_reducible refine wpAny_madeBy_exc oc ?_)|wp_step)
 refine codeAny_call_builtin_code (fF _ G.quiet) (wpAny_check_new_subT G T oc (codeAny_exc_new_subT G T oc ?_ hl));show wpAny _ _ _ _ _ _;have k1:∀b o,hp.get? b=some o->((hp.push { cls:=.type "tuple",data:=.seq us.toArray }).push (EK C hp.objs.size none)).get? b=some o:=λb o q=>az _ (az _ q)
 have z1:((hp.push { cls:=.type "tuple",data:=.seq us.toArray }).push (EK C hp.objs.size none)).objs.size=hp.objs.size+2:=by rw[cE,cE]
 have e1:((hp.push { cls:=.type "tuple",data:=.seq us.toArray }).push (EK C hp.objs.size none)).get? (hp.objs.size+1)=some (EK C hp.objs.size none):=by
  have:=aN (hp.push { cls:=.type "tuple",data:=.seq us.toArray }) (o:=EK C hp.objs.size none) rfl;rw[cE] at this;exact this
 change wpAny (model prog w) A1 _ _ _ ⟨(hp.push { cls:=.type "tuple",data:=.seq us.toArray }).push (EK C hp.objs.size none),g,d,t,os⟩
 generalize (hp.push { cls:=.type "tuple",data:=.seq us.toArray }).push (EK C hp.objs.size none)=h1 at k1 z1 e1;have I:InstAt h1 (hp.objs.size+1) (EK C hp.objs.size none) C none:=⟨e1,rfl,rfl,trivial⟩
 have X1:K.In h1:=λb o q=>k1 b o (X b o q)
 have cC:(Value.ref C::tl).contains (.ref C)=true:=by simp
 refine ay (ay (eU (s:=⟨h1,g,d,t,os⟩) I.type ?_));refine wpAny_isSubtype_exc (k1 _ _ oc) ?_;rw[cC];refine ay (bL (special_fn (s:=⟨h1,g,d,t,os⟩) X1 I hi hf (bf (h h1 k1 e1 z1) (λr s' q=>?_) λ_ _ q=>q)));obtain⟨rfl,q⟩:=q;exact aH q
end
end
section
open PySem PySem.Spec PyProof.Rows
def HJ (x C:Addr)(d:Option Addr):HO:=.ext λh=>∃t,h.get? x=some (EK C t d)
theorem Sm {P:Program}{w:World}{H:Hp}{h:Heap}{x C t:Addr}{d:Option Addr}(e:h.get? x=some (EK C t d)):Bn P w H h x (HJ x C d):=⟨⟨t,e⟩,⟨_,e⟩,λ_ _ ⟨t,z⟩ k=>⟨t,k _ z⟩⟩
variable {X:Cx}{pins:List (Addr×Obj)}{σ:St}{H:Hp}{s:Shared}
theorem Qe {A:Around} {E:Value->Shared->Prop} {Q:Unit->Shared->Prop} {e C:Addr} {f:Str} {y:V} {u:Value} (I:Inv X pins σ H s) (he:H e=some (HJ e C none)) (c:ExiCls X.K C) (n:PySem.W.findIn X.K (.ref C) f=some none) (ry:RelV y u)
  (h:∀dx s',H dx=none->Inv X pins σ (upd (upd H e (HJ e C (some dx))) dx (.xd [(f,y)])) s'->Q () s'):wpAny (model X.prog X.w) A (setAttr (.ref e) f u) Q E s:=by
 obtain⟨⟨t,ob⟩,_,_⟩:Bn X.prog X.w H s.heap e (HJ e C none):=I.hok e _ he;refine TK I.kIn c n ob λh1 ob1 ns1 k1=>?_
 have hf:H s.heap.objs.size=none:=I.hok.fresh (aD _);have n0:s.heap.get? s.heap.objs.size=none:=cx (aD _);have ne:s.heap.objs.size≠e:=λz=>by rw[z,ob] at n0;cases n0
 have J:=I.write (x:=e) (e:=e) (o:=HJ e C (some s.heap.objs.size)) (h':=h1) (t':=s.toks+2) (by rw[he];trivial) (.inl rfl) (λb o nb q=>k1 b o nb q) ⟨_,ob1⟩ (Sm ob1);obtain⟨m,hn,_⟩:=id I.loc;obtain⟨oL,_,_,hoL,_⟩:=id hn;refine h s.heap.objs.size _ hf (J.know (λx=>?_) (λz=>?_) (λx c q z=>?_) (λp hp z=>?_) (by rw[Ax ne];exact hf) ⟨_,ns1,λg=>?_⟩)
 ·cases q:X.s₀.heap.get? s.heap.objs.size with
  |none=>rfl
  |some o=>
   obtain⟨o',z⟩:=I.base.there _ o q x;rw[n0] at z;cases z
 ·rw[<-z,n0] at hoL;cases hoL
 ·obtain⟨w',oc,e1,_⟩:=I.cell x c q;rw[z,n0] at e1;cases e1
 ·have:=(I.pin p hp).1;rw[z,n0] at this;cases this
 ·by_cases eg:g=f
  ·subst eg;rw[aI rfl,gp];exact ry
  ·rw[aF eg,dh,show(g == f)=false from cj.mpr eg]
   trivial
def YG (K:PySem.W.Frag)(ta tv:TE)(f:Str):TS:=λD σ H=>tv σ H λy H1=>ta σ H1 λx H2=>∃e C,x=.ref e/\H2 e=some (HJ e C none)/\ExiCls K C/\PySem.W.findIn K (.ref C) f=some none/\
 ∀dx,H2 dx=none->D.nx σ (upd (upd H2 e (HJ e C (some dx))) dx (.xd [(f,y)]))
theorem Kg {o value:Expr}{f:Str}{pos pos':Pos}{ta tv:TE}(ha:PE X o ta)(hv:PE X value tv)(hs:swapsWith value (some (.Attribute o f pos')) pos.line X.env=pure false):PS X (.Assign [.Attribute o f pos'] value pos) (YG X.K ta tv f):=by
 intro pins s σ H D I h;refine fQ (Cq (hv pins s σ H _ I h) λu s1 ⟨y,H1,I1,ry,q⟩=>Cq (ha pins s1 σ H1 _ I1 q) λov s2 z9=>?_) hs;obtain⟨x,H2,I2,rx,e,C,ex,he,c,n,q2⟩:=z9;subst ex;obtain rfl:ov=Value.ref e:=rx;exact Qe I2 he c n ry λdx s3 hd I3=>⟨σ,_,I3,q2 dx hd⟩
structure MkX (K:PySem.W.Frag) (C f:Addr):Prop where
 ex:JU K C=true
 init:PySem.W.findIn K (.ref C) "__init__"=some (some (.ref f))
 fn:PySem.W.isFn K (.ref f)=true
 kp:PySem.W.keepIn K (.ref C)=true
theorem WN {CX:SE} {k:Nat} {f C:Addr} {fd:FuncData} {ps:List Str} {sp:Sp} {Q:VK} {us:List Value} {vs:List V} (M:MkX X.K C f) (F:FnOk X.prog X.w X.K X.mg X.base CX k f fd ps sp) (hr:Room (k+1) X.A) (hb:Binds X.K fd ps []) (hx:FW CX X E0) (hl:us.length<=sizeLine)
  (I:Inv X pins σ H s) (r:Bd vs us) (hq:sp (.ref (s.heap.objs.size+1)::vs) (upd H (s.heap.objs.size+1) (HJ (s.heap.objs.size+1) C none)) (λv H2=>v=.non/\Q (.ref (s.heap.objs.size+1)) H2) E0):wpAny (model X.prog X.w) X.A (call (.ref C) us) (EP X pins σ Q) X.xe s:=by
 refine Uy I.kIn M.ex M.init (bW.mp M.fn) hl λh1 k1 e1 z1=>?_
 have I2:=I.laid (a:=s.heap.objs.size+1) (o:=HJ (s.heap.objs.size+1) C none) (h':=h1) (t':=s.toks) k1 (fq _) (Sm e1);have r2:Bd (V.ref (s.heap.objs.size+1)::vs) (Value.ref (s.heap.objs.size+1)::us):=.cons rfl r;have hn:(Value.ref (s.heap.objs.size+1)::us).length=ps.length:=r2.length.symm.trans (F.len _ _ _ _ hq);have hb':=hb { s with heap:=h1 } (Value.ref (s.heap.objs.size+1)::us) I2.kIn (by rw[bq];exact hn);rw[bq] at hb';refine cI (cP (F.run _ X.stack _ _ ⟨Value.ref (s.heap.objs.size+1)::us,[]⟩ (Value.ref (s.heap.objs.size+1)::us) _ _ _ (hr.make C us []) (I2.env0.make C us []) hb' r2 hq) λr s' z=>?_)
 match r,z with
 | .error e,z=>exact hx pins σ _ _ e s' I2 z
 | .ok (.ret u),z=>
  obtain⟨v,H',I3,rv,ev,q3⟩:=I2.after z;subst ev;exact⟨rv,⟨V.ref (s.heap.objs.size+1),H',I3,rfl,q3⟩⟩
theorem Ul {M:Model} {A:Around} {E:Value->Shared->Prop} {K:PySem.W.Frag} {env:Env} {y:Sem Value} {Q:Flow->Shared->Prop} {s:Shared} (hh:A.handled=none)
  (h:wpAny M A y (λv s1=>∃e C t d,v=.ref e/\K.In s1.heap/\JU K C=true/\s1.heap.get? e=some (EK C t d)/\E (.ref e) s1) E s):wpAny M A (raiseStmt env (some y) none) Q E s:=by
 unfold raiseStmt;refine ay (bf h (λv s1 z=>?_) λ_ _ z=>z);obtain⟨e,C,t,d,rfl,k,hq,he,hE⟩:=z;obtain⟨tl,N,nm,qn,bs,hd,sn,sub,ab,col,dd,k0,k1,k2,k3,k5,oc,T⟩:=SO k hq;obtain⟨hp,g,dr,tk,os⟩:=s1
 change hp.get? e=some ⟨.ref C,d,.fields #[.ref t,.none,.none,.none,.bool false,.none],#[]⟩ at he
 have inB:(Value.ref C::tl).contains (.type "BaseException")=true:=by rw[List.contains_cons,T.hasType PySem.F.excBase_ValueError.hasBase,Bool.or_true]
 repeat (first|(with_reducible refine d2 he ?_)|(with_reducible refine d2 oc ?_)|((with_reducible refine wpAny_isSubtype_exc oc ?_);rw[inB])|wp_step)
 exact wpAny_raiseNew_none hh hE
end
section
open PySem PySem.Spec PyProof.Rows
def del (H:Hp)(e:Addr):Hp:=λb=>if b=e then none else H b
theorem Fg {H:Hp}{e:Addr}:del H e e=none:=by unfold del;rw[aI rfl]
theorem JA {H:Hp}{b e:Addr}(h:b≠e):del H e b=H b:=by unfold del;rw[aF h]
def Fj (P:Program)(w:World):SE:=λouter H s E e s'=>∃(ea:Addr) (cls:Value) (H':Hp) (B:Heap) (a0:Value) (d:Option Addr),e=.ref ea/\Fly P w outer H s ea cls H' B a0 s'/\DictAt s'.heap ea d/\E cls d H'
section
variable {P:Program}{w:World}{K:PySem.W.Frag}{mg:Str->Option Value}{base:Heap}{N:List Str}{qual:Str}{scope:Scope}{f:Addr}{cd:Value}{A:Around}{outer:List Env}{s:Shared}{H:Hp}{E:XK}
theorem FR {CX:SE}{pins:List (Addr×Obj)}{σ:St}{H1:Hp}{s1:Shared}(I:Inv (A4 CX P w K mg base N qual scope f cd A outer s H E) pins σ H1 s1){b:Addr}{o:Obj}(q:s.heap.get? b=some o)(hb:b∉GN outer) :
  b∉GN (envOfC qual scope s.heap.objs.size f cd::outer):=λz=>by
 rcases aX.mp (I.stkSub b z) with e|e
 ·have h1:s.heap.objs.size<=b:=by rw[e];exact I.ok.above
  exact absurd (bc (aP q) h1) (cG _)
 ·exact hb e
theorem Am:FW (Fj P w) (A4 (Fj P w) P w K mg base N qual scope f cd A outer s H E) E:=by
 intro pins σ H1 s1 e s2 I h;obtain⟨ea,cls,H',B,a0,d,rfl,F,dj,q⟩:=h;have hfr:=I.ok.frames;refine(Jd _ _).also dj (wpAny_leaves_onW (L:=s.heap.objs.size) hfr rfl F.fl λh' fl' up dj'=>?_);have un:=F.stay I.stack I.stkFree fl'.1 up;have J:=I.call' (s':={ s2 with heap:=h' }) (ch:=[]) F.os un (F.hok.kept fl'.1) F.bare (λb z=>nomatch z);refine⟨ea,cls,H',B,a0,d,rfl,⟨J.os,F.bare,J.base,F.hok,fl',λb o e n hb=>?_,λb o e hb=>?_,⟨_,dj'⟩⟩,dj',q⟩
 ·exact F.kp b o (I.base.keep b o e n hb (by intro z;cases z)) (I.base.free b o e n (by intro z;cases z)) (FR I e hb)
 ·obtain⟨o1,e1⟩:=I.base.there b o e (by intro z;cases z);exact F.th b o1 e1 (FR I e hb)
theorem TR {pins:List (Addr×Obj)}{σ:St}{H1:Hp}{s1:Shared}{ea C:Addr}{d:Option Addr}(I:Inv (A4 (Fj P w) P w K mg base N qual scope f cd A outer s H E) pins σ H1 s1)(he:H1 ea=some (HJ ea C d))(hn:s.heap.objs.size<=ea)(q:E (.ref C) d (del H1 ea)) :
  (A4 (Fj P w) P w K mg base N qual scope f cd A outer s H E).xe (.ref ea) s1:=by
 have hfr:=I.ok.frames;obtain⟨⟨t,ob⟩,_,_⟩:Bn P w H1 s1.heap ea (HJ ea C d):=I.hok ea _ he;have nf:ea∉GN (envOfC qual scope s.heap.objs.size f cd::outer):=λz=>by
  have:=I.stkFree ea z;rw[he] at this;cases this
 have nofs:s.heap.get? ea=none:=cx hn;have hid:∀{b:Addr} {o:Obj},s1.heap.get? b=some o->b≠ea->b∉GN (envOfC qual scope s.heap.objs.size f cd::outer)->(PySem.W.hideAll s1.heap (ea::GN (envOfC qual scope s.heap.objs.size f cd::outer))).get? b=some o:=λe n1 n2=>cu _ e λz=>(aX.mp z).elim n1 n2
 have ff:s1.heap.FunFrames (PySem.W.hideAll s1.heap (ea::GN (envOfC qual scope s.heap.objs.size f cd::outer))) (envOfC qual scope s.heap.objs.size f cd::outer):=gb I.stack λenv he a ha=>aB _ (dz.mpr ⟨env,he,ha⟩)
 have hen:(PySem.W.hideAll s1.heap (ea::GN (envOfC qual scope s.heap.objs.size f cd::outer))).get? ea=none:=gy _ aK;refine(Jd _ _).also (Sl ob ⟨_,rfl,rfl⟩) (wpAny_leaving_firstW (base:=PySem.W.hideAll s1.heap (ea::GN (envOfC qual scope s.heap.objs.size f cd::outer))) (a0:=.ref t) hfr ff rfl ob (λb o e=>eT _ e) hen rfl rfl rfl λh' hL dj=>?_);obtain⟨k1,⟨_,_,k2⟩,k3,k4⟩:=hL;generalize PySem.W.hideAll s1.heap (ea::GN (envOfC qual scope s.heap.objs.size f cd::outer))=B at hid ff hen k1 k2 k3;have nt:∀{b:Addr} {u:HO},H1 b=some u->(∀φ,u≠.ext φ)->del H1 ea b=some u:=λ{b u} e n=>by
  rw[JA (λz=>by rw[z,he] at e;cases e;exact n _ rfl)];exact e
 have sl:∀b o,s1.heap.get? b=some o->b∈GN (envOfC qual scope s.heap.objs.size f cd::outer)->∃z,h'.get? b=some { o with slots:=z }:=λb o e hb=>by
  obtain⟨_,o',ho',hd⟩:=I.stack.mem hb;rw[e] at ho';cases ho';exact k4 b o e hd
 have un:Un (GN (envOfC qual scope s.heap.objs.size f cd::outer)) [] H1 (del H1 ea) s1.heap h':=by
  refine⟨λb o e n hb _=>k1 b o (hid e (λz=>by rw[z,he] at n;cases n) hb),λb o e _ hb _=>sl b o e hb,λb o _ n _=>?_,λb o e _=>?_,λb xs e=>nt e (by intro _ z;cases z),λb o u e=>nt e (by intro _ z;cases z),λb ps e=>⟨#[],by rw[nt e (by intro _ z;cases z)];simp⟩⟩
  ·unfold del;split
   ·rfl
   ·exact n
  ·by_cases z:b=ea
   ·rw[z];obtain⟨oe,_,_,_,_,e1,_⟩:=k3;exact⟨_,e1⟩
   ·by_cases hb:b∈GN (envOfC qual scope s.heap.objs.size f cd::outer)
    ·obtain⟨z,e1⟩:=sl b o e hb;exact⟨_,e1⟩
    ·exact⟨o,k1 b o (hid e z hb)⟩
 have hok:Iy P w (del H1 ea) B:=λb u e=>by
  have nb:b≠ea:=λz=>by rw[z,Fg] at e;cases e
  rw[JA nb] at e;refine(I.hok b u e).stay (λc v hc z=>hid z (λy=>?_) λy=>?_) (λc z=>nt z (by intro _ z;cases z)) λc xs z=>nt z (by intro _ z;cases z)
  ·rcases hc with rfl|hc
   ·exact nb y
   ·rw[y,he] at hc;cases hc
  ·have:=I.stkFree c y;rcases hc with rfl|hc
   ·rw[e] at this;cases this
   ·rw[hc] at this;cases this
 have J:=I.call' (s':={ s1 with heap:=h' }) (ch:=[]) rfl un (hok.kept k1) I.bare (λb z=>nomatch z);refine⟨ea,_,del H1 ea,B,.ref t,d,rfl,⟨J.os,I.bare,J.base,hok,⟨k1,hen,k2,k3⟩,λb o e n hb=>?_,λb o e hb=>?_,⟨_,dj⟩⟩,dj,q⟩
 ·exact hid (I.base.keep b o e n hb (by intro z;cases z)) (λz=>by rw[z,nofs] at e;cases e) (FR I e hb)
 ·obtain⟨o1,e1⟩:=I.base.there b o e (by intro z;cases z);exact⟨o1,hid e1 (λz=>by rw[z,nofs] at e;cases e) (FR I e hb)⟩
end
end
section
open PySem PySem.Spec PyProof.Rows
def YM (X:Cx)(E:XK):Prop:=∀(pins:List (Addr×Obj)) (σ:St) (H:Hp) (s:Shared) (ea C:Addr) (d:Option Addr),Inv X pins σ H s->H ea=some (HJ ea C d)->X.s₀.heap.objs.size<=ea->E (.ref C) d (del H ea)->X.xe (.ref ea) s
theorem Bi {P:Program}{w:World}{K:PySem.W.Frag}{mg:Str->Option Value}{base:Heap}{N:List Str}{qual:Str}{scope:Scope}{f:Addr}{cd:Value}{A:Around}{outer:List Env}{s:Shared}{H:Hp}{E:XK}:YM (A4 (Fj P w) P w K mg base N qual scope f cd A outer s H E) E:=
 λ_ _ _ _ _ _ _ I he hn q=>TR I he hn q
theorem G1 {P:Program}{w:World}{X:Cx}:FW (Fj P w) X E0:=λ_ _ _ _ _ _ _ ⟨_,_,_,_,_,_,_,_,_,z⟩=>False.elim z
def K0 (C:Addr)(f:Str):Sp:=λvs H Q _=>∃e y,vs=[.ref e,y]/\H e=some (HJ e C none)/\∀dx,H dx=none->Q .non (upd (upd H e (HJ e C (some dx))) dx (.xd [(f,y)]))
def Gq (P:Program)(w:World)(K:PySem.W.Frag)(mg:Str->Option Value)(base:Heap)(k:Nat)(x:Str)(C:Addr)(f:Str)(ps:List Str):Prop:=
 ∃(fI:Addr) (fd:FuncData),MkX K C fI/\FnOk P w K mg base FL k fI fd ps (K0 C f)/\mg x=some (.ref C)/\Binds K fd ps []
def Wv (C:Addr)(f:Str)(E:XK)(t:TA):TS:=λ_ σ H=>t σ H λvs H1=>∃y,vs=[y]/\∀dx,H1 dx=none->E (.ref C) (some dx) (upd H1 dx (.xd [(f,y)]))
variable {X:Cx}{E:XK}{x:Str}{C:Addr}{f:Str}{ps:List Str}{k:Nat}{e:Expr}{t:TA}{np cpos pos:Pos}
theorem By (R:YM X E)(hc:X.calm=true)(D:Gq X.prog X.w X.K X.mg X.base k x C f ps)(hr:Room (k+1) X.A)(hg:Gl X x)(ha:PA X [e] t)(hdb:(x == ("__debug__":Str))=false:=by decide)(he:starEach [e] X.env=[(false,eval e X.env)]:=by rfl) :
  PS X (.Raise (some (.Call (.Name x np) [e] [] cpos)) none pos) (Wv C f E t):=by
 intro pins s σ H Dn I h;obtain⟨fI,fd,M,F,hm,hb⟩:=D;rw[arm_exec_Raise];refine ay (d6 (Ul (K:=X.K) (I.ok.hd hc) (ay ?_)));refine bZ (E6 I hg hm ?_ hdb);refine cJ (h₀:=X.base) I.ok.mod.kin M.kp (Cq (ha cpos pins s σ H _ I h) λus s1 ⟨vs,H1,I1,r,y,ev,q⟩=>⟨I1.kIn,?_⟩) he rfl;subst ev;have hl2:us.length<=sizeLine:=by rw[<-r.length,bA];show 1<=_;decide
 have h1:=I1.hok.fresh (fq s1.heap.objs.size);refine Cq (WN (Q:=λv H2=>v=.ref (s1.heap.objs.size+1)/\∃dx,H2 (s1.heap.objs.size+1)=some (HJ (s1.heap.objs.size+1) C (some dx))/\E (.ref C) (some dx) (del H2 (s1.heap.objs.size+1))) M F hr hb Vc hl2 I1 r ⟨_,y,rfl,Ae,λdx hd=>⟨rfl,rfl,dx,?_,?_⟩⟩) λv s2 z=>?_
 ·have nd:s1.heap.objs.size+1≠dx:=λz=>by rw[<-z,Ae] at hd;cases hd
  rw[Ax nd,Ae]
 ·have nd:dx≠s1.heap.objs.size+1:=λz=>by rw[z,Ae] at hd;cases hd
  rw[Ax nd] at hd;have eq:del (upd (upd (upd H1 (s1.heap.objs.size+1) (HJ (s1.heap.objs.size+1) C none)) (s1.heap.objs.size+1) (HJ (s1.heap.objs.size+1) C (some dx))) dx (.xd [(f,y)])) (s1.heap.objs.size+1)=upd H1 dx (.xd [(f,y)]):=by
   funext b
   by_cases e1:b=s1.heap.objs.size+1
   ·rw[e1,Fg,Ax (Ne.symm nd)];exact h1.symm
   ·rw[JA e1]
    by_cases e2:b=dx
    ·rw[e2,Ae,Ae]
    ·rw[Ax e2,Ax e1,Ax e1,Ax e2]
  rw[eq];exact q dx hd
 ·obtain⟨v',H2,I2,rv,ev,dx,h2,q2⟩:=z;subst ev;obtain rfl:v=.ref (s1.heap.objs.size+1):=rv;obtain⟨⟨t2,ob⟩,_,_⟩:Bn X.prog X.w H2 s2.heap (s1.heap.objs.size+1) (HJ (s1.heap.objs.size+1) C (some dx)):=I2.hok _ _ h2;refine ay (d6 (aH ⟨_,C,t2,some dx,rfl,I2.kIn,M.ex,ob,R pins σ H2 s2 _ C _ I2 h2 ?_ q2⟩));obtain⟨m,⟨oL,_,_,hoL,_⟩,_⟩:=id I1.loc;exact eV (Nat.lt_of_le_of_lt I1.ok.above (dE (aP hoL)))
def Bu (P:Program)(w:World)(K:PySem.W.Frag)(mg:Str->Option Value)(base:Heap)(k:Nat)(x:Str)(ps:List Str)(sp:Sp):Prop:=
 ∃(f:Addr) (fd:FuncData),FnOk P w K mg base (Fj P w) k f fd ps sp/\mg x=some (.ref f)/\PySem.W.keepIn K (.ref f)=true/\Binds K fd ps []
theorem Fun.okE {P:Program} {w:World} {K:PySem.W.Frag} {mg:Str->Option Value} {base:Heap} {x qual:Str} {st:Stmt} {f:Addr} {fd:FuncData} {N ps:List Str} {k:Nat} {sp:Sp} (F:Fun K x qual st f fd) (S:FnScope N ps (Ac st)) (len:∀vs H Q E,sp vs H Q E->vs.length=ps.length)
  (hbody:∀(cdv:Value) (A:Around) (outer:List Env) (s:Shared) (H:Hp) (vs:List V) (Q:VK) (E:XK),Room k (A.deeper (envOfC qual (Ac st) s.heap.objs.size f cdv))->sp vs H Q E->
   ∃t,NG (A4 (Fj P w) P w K mg base N qual (Ac st) f cdv A outer s H E) (Ar st) t/\t { nx:=λ_ H'=>Q .non H',rt:=Q } (start N vs) H):FnOk P w K mg base (Fj P w) (k+1) f fd ps sp:=by
 obtain⟨oc,od,kV,doc,pm,an,cdv,ct,osl,rfl,lk,hcd⟩:=F.ex;exact VM lk hcd S len λA outer s H vs Q E hr hsp=>hbody cdv A outer s H vs Q E hr hsp
end
section
open PySem PySem.Spec PyProof.Rows
variable {X:Cx}{k:Nat}{x:Str}{ps:List Str}{sp:Sp}{E:XK}{e:Expr}{es:List Expr}{t:TA}{p pos:Pos}
theorem Ba (D:Bu X.prog X.w X.K X.mg X.base k x ps sp) (hr:Room k X.A) (hg:Gl X x) (hx:FW (Fj X.prog X.w) X E) (ha:PA X (e::es) t)
  (hdb:(x == ("__debug__":Str))=false:=by decide) (he:starEach (e::es) X.env=(false,eval e X.env)::starEach es X.env:=by rfl) (hpl:(backTo pos (starEach es X.env)).any (·.1)=false:=by rfl) :
  PE X (.Call (.Name x p) (e::es) [] pos) (Ny sp [] E t):=by
 obtain⟨f,fd,F,hm,hk,hb⟩:=D;exact SK F hr hg hm hk hb .nil hx ha hdb he hpl
abbrev YU:=Value->Option Addr->St->Hp->Prop
abbrev SB:=Ends->YU->St->Hp->Prop
def Zf (X:Cx)(pins:List (Addr×Obj))(Ex:YU)(e:Value)(s':Shared):Prop:=
 ∃(ea:Addr) (cls:Value) (σ':St) (H1 H':Hp) (s1:Shared) (B:Heap) (a0:Value) (d:Option Addr),e=.ref ea/\Inv X pins σ' H1 s1/\Fly X.prog X.w X.stack H1 s1 ea cls H' B a0 s'/\DictAt s'.heap ea d/\Ex cls d σ' H'
def YX (X:Cx)(st:Stmt)(t:SB):Prop:=
 ∀(pins:List (Addr×Obj)) (s:Shared) (σ:St) (H:Hp) (D:Ends) (Ex:YU),Inv X pins σ H s->t D Ex σ H->wpAny (model X.prog X.w) X.A (exec st X.env) (SP X pins D) (Zf X pins Ex) s
def Ru (X:Cx)(st:List Stmt)(t:SB):Prop:=
 ∀(pins:List (Addr×Obj)) (s:Shared) (σ:St) (H:Hp) (D:Ends) (Ex:YU),Inv X pins σ H s->t D Ex σ H->wpAny (model X.prog X.w) X.A (execs st X.env) (SP X pins D) (Zf X pins Ex) s
def VC (X:Cx)(e:Expr)(t:(Value->Option Addr->Hp->Prop)->TE):Prop:=
 ∀(pins:List (Addr×Obj)) (s:Shared) (σ:St) (H:Hp) (Q:VK) (Ex:Value->Option Addr->Hp->Prop),Inv X pins σ H s->t Ex σ H Q->wpAny (model X.prog X.w) X.A (eval e X.env) (EP X pins σ Q) (Zf X pins λcls d σ' H'=>σ'=σ/\Ex cls d H') s
theorem UG {pins:List (Addr×Obj)}{σ:St}{Ex:YU}{v:Value}{s:Shared}(h:Zf X pins (λcls d σ' H'=>σ'=σ/\Ex cls d σ H') v s):Zf X pins Ex v s:=by
 obtain⟨ea,cls,σ',H1,H',s1,B,a0,d,h1,h2,h3,h4,h5,h6⟩:=h;subst h5;exact⟨ea,cls,_,H1,H',s1,B,a0,d,h1,h2,h3,h4,h6⟩
def Ze (i:Nat)(te:(Value->Option Addr->Hp->Prop)->TE):SB:=λD Ex σ H=>te (λcls d H'=>Ex cls d σ H') σ H λx H1=>D.nx (σ.set i (some x)) H1
theorem Wb {i:Nat} {y:Str} {te:(Value->Option Addr->Hp->Prop)->TE} {pos':Pos} (hN:X.N.Nodup) (hi:X.N[i]?=some y) (hy:Loc X.env.scope y) (he:VC X e te) (hs:swapsWith e (some (.Name y pos')) pos.line X.env=pure false:=by rfl)
  (hf:X.fn y=true\/X.env.scope.names.lookup y=some .local:=by first|exact .inl rfl|exact .inr rfl|assumption):YX X (.Assign [.Name y pos'] e pos) (Ze i te):=by
 intro pins s σ H D Ex I h;refine wpAny_Assign_Name (bf (he pins s σ H _ _ I h) (λv s1 ⟨y,H1,I1,r1,q1⟩=>?_) λ_ _ z=>UG z) hs;exact HP I1 hN hi hy r1 (λs2 I2=>⟨_,H1,I2,q1⟩) hf
def XJ (te:(Value->Option Addr->Hp->Prop)->TE):SB:=λD Ex σ H=>te (λcls d H'=>Ex cls d σ H') σ H λ_ H1=>D.nx σ H1
theorem MA {te:(Value->Option Addr->Hp->Prop)->TE}(he:VC X e te)(hs:swapsWith e none pos.line X.env=pure false:=by rfl):YX X (.Expr e pos) (XJ te):=by
 intro pins s σ H D Ex I h;exact wpAny_Expr_any (bf (he pins s σ H _ _ I h) (λv s1 ⟨x,H1,I1,r1,q1⟩=>⟨σ,H1,I1,q1⟩) λ_ _ z=>UG z) I.quiet hs
theorem JW {st:Stmt}{u:SB}(h1:YX X st u):Ru X [st] u:=by
 intro pins s σ H D Ex I h;refine eC (Cq (h1 pins s σ H D Ex I h) λf s1 q=>?_);cases f with
 |next=>exact eM q
 |ret v=>exact q
 |brk=>exact q
 |cont=>exact q
theorem Sn (D:Bu X.prog X.w X.K X.mg X.base k x ps sp) (hr:Room k X.A) (hg:Gl X x) (ha:PA X.nox (e::es) t)
  (hdb:(x == ("__debug__":Str))=false:=by decide) (he:starEach (e::es) X.env=(false,eval e X.env)::starEach es X.env:=by rfl) (hpl:(backTo pos (starEach es X.env)).any (·.1)=false:=by rfl) :
  VC X (.Call (.Name x p) (e::es) [] pos) (λEx=>Ny sp [] (λcls d H'=>Ex cls d H') t):=by
 obtain⟨f,fd,F,hm,hk,hb⟩:=D;intro pins s σ H Q Ex I h;refine bZ (E6 I hg hm ?_ hdb);refine cJ (h₀:=X.base) I.ok.mod.kin hk (bf (ha pos pins s σ H _ (I.wish _) h) (λus s1 ⟨vs,H1,I1,r,q⟩=>⟨I1.kIn,?_⟩) λ_ _ z=>False.elim z) he hpl;have J:=I1.unwish;have q':sp vs H1 Q λcls d H'=>Ex cls d H':=by rw[<-bq vs];exact q
 have hl:us.length=ps.length:=by rw[<-r.length];exact F.len _ _ _ _ q'
 have hb':=hb s1 us J.kIn (by rw[bq];exact hl);rw[bq] at hb';refine cI (cP (F.run X.A X.stack s1 H1 ⟨us,[]⟩ us vs Q _ hr J.env0 hb' r q') λr s' z=>?_)
 match r,z with
 | .error e,⟨ea,cls,H',B,a0,d,he,Fl,dj,q⟩=>exact⟨ea,cls,σ,H1,H',s1,B,a0,d,he,J,Fl,dj,rfl,q⟩
 | .ok (.ret u),z=>exact J.after z
end
section
open PySem PySem.Calls PyProof.Rows PySem.W Builtin Builtin.ObjectAttr Builtin.Getset_descriptor
variable {prog:Program}{w:World}{A:Around}{E:Value->Shared->Prop}{K:Frag}{e D:Addr}{oe od:Obj}{name:Str}{v:Value}{s:Shared}
theorem T7 {tk:Tok}{Q:Fin->Shared->Prop}(k:K.In s.heap)(I:InstAt s.heap e oe D (some od))(hf:findObj K D (some od) name=some (.value v))(q:Q (.done (.ret v)) s) :
  wpAny (model prog w) A (Builtin.«object.__getattribute__» ⟨[.ref e,.str name tk],[]⟩) Q E s:=by
 have T0:=I.type (M:=model prog w);have T1:=looks_find (M:=model prog w) k I hf;have s0:slotArgs "__getattribute__" 1 ⟨[.ref e,.str name tk],[]⟩=pure (Value.ref e,[Value.str name tk]):=by kernel_rfl
 have s1:attrName (.str name tk)=pure name:=by kernel_rfl
 simp only[Builtin.«object.__getattribute__»,s0];refine ay (aH ?_);dsimp only;rw[s1];refine ay (aH (ay (T0.here (ay (T1.here ?_)))));exact aH q
theorem WB {expr:Bool}{Q:Value->Shared->Prop}(k:K.In s.heap)(I:InstAt s.heap e oe D (some od))(z:IsExc s.heap e D)(c:ExcCls K D)(hf:findObj K D (some od) name=some (.value v))(hh:handedIn v=true)(q:Q v { s with toks:=s.toks+1 }) :
  wpAny (model prog w) A (getAttr (.ref e) name expr) Q E s:=by
 obtain⟨h1,g1,d1,t1,o1⟩:=s;have T0:=I.type (M:=model prog w);have T1:=dJ (M:=model prog w) k c.ga;have T2:=dJ (M:=model prog w) k c.gg;have B:=F.excAttr_ValueError.ga.bind (.ref e);unfold getAttr getAttrBy;refine ay (wpAny_mkText (bL (ay (T0.at (ay (T1.at ?_))))));have n0:(onTheHeap (Value.ref D)&&Value.builtin "BaseException.__getattribute__" == Value.builtin "object.__getattribute__")=false:=by
  have:(Value.builtin "BaseException.__getattribute__" == Value.builtin "object.__getattribute__")=false:=by decide +kernel
  rw[this];rfl
 dsimp only;rw[aF (by rw[n0];decide)];unfold getAttrByItsOwn hookBefore;rw[aI (by rfl)];refine ay (T2.at (ay (fj (bL ?_))));unfold callGetattribute boundAndCalled;rw[aF (by cases expr<;>decide),B];refine ay (aH ?_);dsimp only;refine cI (cT F.excAttr_ValueError.ga.plain F.entry_bexc_ga ?_);refine Ow (s:=⟨h1,g1,d1,t1+1,o1⟩) k z c.mb (T7 (s:=⟨h1,g1,d1,t1+1,o1⟩) k I hf ?_);dsimp only;exact handed_on hh q
end
section
open PySem PySem.Spec PyProof.Rows
variable {X:Cx}{pins:List (Addr×Obj)}{σ:St}{H:Hp}{s:Shared}
def UV (K:PySem.W.Frag)(ta:TE)(f:Str):TE:=λσ H Q=>ta σ H λx H1=>∃e D dx fs v,x=.ref e/\H1 e=some (Ie e D (some dx))/\ExiCls K D/\PySem.W.findIn K (.ref D) f=some none/\H1 dx=some (.xd fs)/\fs.lookup f=some v/\Q v H1
theorem J2 {K:PySem.W.Frag}(hK:X.K=K){o:Expr}{f:Str}{pos:Pos}{ta:TE}(he:PE X o ta)(hb:attributeBase o f X.env (eval o X.env)=eval o X.env):PE X (.Attribute o f pos) (UV K ta f):=by
 subst hK;intro pins s σ H Q I h;refine SH hb (Cq (he pins s σ H _ I h) λu s1 z9=>?_);obtain⟨x,H1,I1,rx,e,D,dx,fs,v,ex,ee,c,n,hd,l,q⟩:=z9;subst ex;obtain rfl:u=Value.ref e:=rx;obtain⟨⟨z,oe,q1,hde,_⟩,_,_⟩:Bn X.prog X.w H1 s1.heap e (Ie e D (some dx)):=I1.hok e _ ee;obtain⟨mA,ns,r⟩:Bn X.prog X.w H1 s1.heap dx (.xd fs):=I1.hok dx _ hd;obtain⟨od,ho,hl⟩:=OB ns;obtain⟨u,hu,ru⟩:=Hq.some_of (v:=v) (o:=mA f) (by rw[<-l];exact r f);obtain⟨oe2,q2,hc,vs,hv⟩:=id z.ob;rw[q1] at q2;cases q2;have inst:PySem.W.InstAt s1.heap e oe D (some od):=⟨q1,hc,by unfold PySem.W.notCls;rw[hv],by rw[hde];exact ho⟩
 exact WB I1.kIn inst z c.toExcCls (gC c.hd n rfl (by rw[hl,hu])) (Oi ru) ⟨v,H1,I1.tok _,ru,q⟩
end
end L2
namespace L2
open PySem PySem.Calls PySem.Spec PyProof.Rows PySem.Builtin.Str
section
variable {prog:Program}{w:World}{A:Around}{E:Value->Shared->Prop}{s:Shared}{x y:Str}{t u:Tok}{Q:Value->Shared->Prop}
theorem TJ (hz:x.length+2<=sizeLine):(PySem.Txt.split x y).length<=sizeLine:=by
 have:=StrLaws.occ_length_le x y 0 x.length (x.length+1);unfold PySem.Txt.split
 split
 ·show 1<=sizeLine;decide
 ·split
  ·show 1<=sizeLine;decide
  ·rw[length_partsBetween];omega
theorem TQ (hy:(y.length == 0)=false) (hz:x.length+2<=sizeLine)
  (h:∀(l:List (Str×Tok)) (k:Nat),l.map (·.1)=PySem.Txt.split x y->Q (.ref s.heap.objs.size) { s with heap:=s.heap.push { cls:=.type "list",data:=.seq (strValues l).toArray },toks:=k }) :
  wpAny (model prog w) A (call (.builtin "str.split") [.str x t,.str y u]) Q E s:=by
 have go:∀{S:PySem.Spec},Meets (Builtin.«str.split» ⟨[.str x t,.str y u],[]⟩) S->S A (wants Q E) s->wpAny (model prog w) A (call (.builtin "str.split") [.str x t,.str y u]) Q E s:=
  λg z=>fv F.slot_str_split (fu _ _ _) F.entry_str_split (F.args_str_split_2 _ _) g z
 by_cases c1:(decide (x.length<y.length)||decide (strKind x<strKind y))=true
 ·exact go (meets_str_split_cannot_occur x y t u c1) (h [(x,t)] s.toks (by unfold PySem.Txt.split;rw[aI c1];rfl))
 have c1':=cF.mpr c1
 by_cases c2:(occurrences x y 0 x.length (x.length+1)).isEmpty=true
 ·exact go (meets_str_split_not_found x y t u c1' hy c2) (h [(x,t)] s.toks (by unfold PySem.Txt.split;rw[aF c1,aI c2];rfl))
 have few:(partsBetween x (occurrences x y 0 x.length (x.length+1)) y.length).length<=sizeLine:=by
  have:=StrLaws.occ_length_le x y 0 x.length (x.length+1);rw[length_partsBetween];omega
 refine go (meets_str_split_sep x y t u c1' hy (cF.mpr c2) (by omega) few) ?_;have z:=h (numbered s.toks (partsBetween x (occurrences x y 0 x.length (x.length+1)) y.length)) (s.toks+(partsBetween x (occurrences x y 0 x.length (x.length+1)) y.length).length) (by unfold PySem.Txt.split;rw[aF c1,aF c2];exact numbered_texts _ _);rw[<-strsFrom_eq] at z;exact z
end
section
variable {X:Cx}
def Yd:V->List V->Hp->VK->Prop:=λx vs H Q=>∃z y,x=.str z/\vs=[.str y]/\(y.length == 0)=false/\z.length+2<=16777216/\∀p,H p=none->Q (.ref p) (upd H p (.lst ((PySem.Txt.split z y).map V.str)))
theorem Of:∀(l:List (Str×Tok)),Bd ((l.map (·.1)).map V.str) (strValues l)
 |[]=>.nil
 |(z,t)::l=>.cons ⟨t,rfl⟩ (Of l)
theorem Vp:V5 X "str.split" Yd:=by
 intro pins s σ H x vs v us Q I rx rv h;obtain⟨z,y,rfl,rfl,hy,hz,q⟩:=h;obtain⟨tk,rfl⟩:=rx;obtain⟨y',rfl,ry⟩:=rv.one;obtain⟨tk2,rfl⟩:=ry;refine TQ hy (by rw[bA];exact hz) λl k e=>?_
 refine⟨.ref s.heap.objs.size,_,I.laid (λb o e=>az _ e) (aD _) (show Bn X.prog X.w _ _ _ (.lst ((PySem.Txt.split z y).map V.str)) from⟨?_,strValues l,0,?_,aN _ rfl⟩),rfl,q _ I.fresh⟩
 ·rw[ax];exact TJ (by rw[bA];exact hz)
 ·rw[<-e];exact Of l
def V8:V->List V->Hp->VK->Prop:=λx vs H Q=>∃z y,x=.str z/\vs=[.str y]/\Q (.bl (PySem.Txt.startswith z y)) H
theorem N7:V5 X "str.startswith" V8:=by
 intro pins s σ H x vs v us Q I rx rv h;obtain⟨z,y,rfl,rfl,q⟩:=h;obtain⟨tk,rfl⟩:=rx;obtain⟨y',rfl,ry⟩:=rv.one;obtain⟨tk2,rfl⟩:=ry;exact SC.startswith ⟨.bl _,H,I,rfl,q⟩
end
end L2
namespace L2
open PySem PySem.Spec PyProof.Rows
end L2
namespace L2
section
open PySem PySem.Spec PyProof.Rows
structure HeldS (X:Cx) (e:Addr) (oe:Obj):Prop where
 hd:X.A.handled=some (.ref e)
 at_:X.s₀.heap.get? e=some oe
 free:X.H₀ e=none
 nfs:e∉X.fs
 nex:e∉X.ex
 fl:Nr oe
structure NowH (h:Heap) (e:Addr) (oe:Obj):Prop where
 at_:h.get? e=some oe
 fl:Nr oe
theorem HeldS.now {X:Cx}{e:Addr}{oe:Obj}(h:HeldS X e oe){pins:List (Addr×Obj)}{σ:St}{H:Hp}{s:Shared}(I:Inv X pins σ H s):NowH s.heap e oe:=⟨I.base.keep e oe h.at_ h.free h.nfs h.nex,h.fl⟩
end
section
open PySem PySem.Spec PyProof.Rows
structure RoomH (k:Nat) (A:Around):Prop where
 dp:A.depth+3*k+5<recursionLimit
 un:A.units+16*k+200<cLine
theorem Room.h {k:Nat}{A:Around}(r:Room k A):RoomH k A:=⟨r.dp,r.un⟩
theorem RoomH.deeper {k:Nat}{A:Around}(r:RoomH (k+1) A)(env:Env):RoomH k (A.deeper env):=
 ⟨by have:=r.dp;show A.depth+1+3*k+5<_;omega,by have:=r.un;show A.units+3+16*k+200<_;omega⟩
theorem RoomH.mark {k:Nat}{A:Around}(r:RoomH k A)(e:Option Value):RoomH k (A.mark e):=⟨r.dp,r.un⟩
theorem RoomH.depth {k:Nat}{A:Around}(r:RoomH k A):A.depth<recursionLimit:=by have:=r.dp;omega
def Yj (P:Program)(w:World)(K:PySem.W.Frag)(mg:Str->Option Value)(base:Heap)(N:List Str)(qual:Str)(scope:Scope)(f:Addr)(cd:Value)(A:Around)(outer:List Env)(s:Shared)(H:Hp):Cx:=
 { A4 FL P w K mg base N qual scope f cd A outer s H E0 with calm:=false,xe:=λ_ _=>False }
variable {X:Cx}{k:Nat}{x:Str}{ps:List Str}{sp:Sp}{e:Expr}{es:List Expr}{t:TA}{p pos:Pos}
end
end L2
namespace L2
section
open PySem PySem.Calls PyProof.Rows
variable {prog:Program}{w:World}{A:Around}{E:Value->Shared->Prop}{s:Shared}
def SN (Q:Value->Shared->Prop)(vs:List Value)(s1:Shared):Prop:=∃ss,StrsAre vs ss/\vs.length<64/\
 ∀h' p (out:List Value) ss' c,StrsAre out ss'->ss'.Perm ss->sortedS ss'=true->s1.heap.objs.size<=p->(∀b o,s1.heap.get? b=some o->h'.get? b=some o)->
  h'.get? p=some (seqObj "list" out.toArray c)->Q (.ref p) { s1 with heap:=h' }
theorem IY {x:Value}{Q:Value->Shared->Prop}(hc:wpAny (model prog w) A.in1 (collect x) (SN Q) E s):wpAny (model prog w) A (call (.builtin "sorted") [x]) Q E s:=by
 refine Calls.call_function_entry kind_sorted plain_sorted entry_sorted (args_sorted1 x) ?_;unfold Builtin.«sorted»;refine ay (m:=checkCount "sorted" 1 1 _) (aH (ay (bf hc (λvs s1 z=>?_) λ_ _ e=>e)));obtain⟨ss,hS,few,q⟩:=z;refine ay (gG ?_);have there:(s1.heap.push (seqObj "list" vs.toArray 0)).get? s1.heap.objs.size=some (seqObj "list" vs.toArray 0):=aN _ rfl;refine ay (bL (wpAny_call_entry slot_list_sort ⟨_,there,rfl⟩ entry_list_sort (list_sort_treeK strKind_oneLt there hS.keysOf (λv₁ v₂ rest e=>keyKind_strs (by rw[<-e];exact hS)) few λst' pm so=>⟨_,rfl,?_⟩) (args_list_sort _)));obtain⟨ss',y1,y2,y3⟩:=sorted_out_str hS pm so;obtain⟨c,hp⟩:=sortedHeap_at (out:=(arrOf st').map (·.2)) there;refine aH ⟨_,rfl,q _ _ ((arrOf st').map (·.2)).toList ss' c y1 y2 y3 (aD _) (λb o e=>?_) (by rw[Array.toArray_toList];exact hp)⟩;have lt:=aP e;show Heap.get? _ b=some o;rw[sortedHeap_old (bg lt) (by rw[cE];exact dE lt)];exact az _ e
def Xq (S:Addr)(Q:List Value->Shared->Prop)(r:Result)(s':Shared):Prop:=∃acc c,r=.ok (.ret (.ref S))/\s'.heap.get? S=some { cls:=.type "list",dict:=none,data:=.seq acc c,slots:=#[] }/\Q acc.toList s'
theorem Qy {x:Value} {Q:List Value->Shared->Prop} (h:wpAny (model prog w) A.in1 (Builtin.List.listExtendWith (.ref s.heap.objs.size) x (.ref s.heap.objs.size))
   (λfin s'=>match fin with | .done f=>Xq s.heap.objs.size Q (.ok f) s' | .again c'=>c'.quiet=true/\codeAny (model prog w) A c' (Xq s.heap.objs.size Q) s') (λe s'=>Xq s.heap.objs.size Q (.error e) s')
   { s with heap:=s.heap.push { cls:=.type "list",data:=.seq #[] } }):wpAny (model prog w) A (collect x) Q E s:=by
 unfold collect;refine ay (wpAny_runValue (cQ PySem.F.entry_proto_collect ?_));rw[cH PySem.F.plain_proto_collect _];refine ay (cR (aH ⟨d7 fV _,cQ PySem.F.entry_list_iadd ?_⟩));rw[cH fV _];refine bf h (λfin s' z=>?_) (λe s' z=>?_)
 ·cases fin with
  |done f=>
   obtain⟨acc,c,e,hS,q⟩:=z;cases e;exact ay (gw hS (aH q))
  |again c'=>
   refine⟨z.1,cP z.2 λr s2 z2=>?_⟩;obtain⟨acc,c,rfl,hS,q⟩:=z2;exact ay (gw hS (aH q))
 ·obtain⟨acc,c,e,_⟩:=z;cases e
theorem QS {T:String} {r d:Addr} {n:Nat} {P:Nat->Value->Prop} {OK:Heap->Prop} {Q:List Value->Shared->Prop} (S:PySem.W.KdlSrc prog w T r d n P OK) (hh:A.handled=none) (ok:OK s.heap) (hn:n<=sizeLine)
  (q:∀h' tk (vs:List Value),(∀b o,s.heap.get? b=some o->h'.get? b=some o)->vs.length=n->(∀j v,vs[j]?=some v->P j v)->Q vs { s with heap:=h',toks:=tk }):wpAny (model prog w) A (collect (.ref r)) Q E s:=by
 obtain⟨lr,ld⟩:=S.there _ ok;refine Qy (PySem.W.kdl_extend S hh (S.keep _ _ ok λb _ o e=>az _ e) s.heap.objs.size (cK lr) (cK ld) (.ref s.heap.objs.size) 0 (aN _ rfl) (λh' tk acc c k hS it=>?_) hn);refine⟨acc,c,rfl,hS,q h' tk acc.toList (λb o e=>k b o (bg (aP e)) (az _ e)) (by rw[eL];exact it.1) λj v e=>it.2 j v (by rw[<-gq];exact e)⟩
end
end L2
namespace L2
end L2
namespace L2
end L2
namespace L2
end L2
namespace L2
section
open PySem PySem.Calls PyProof.Rows
variable {X:Cx}{pins:List (Addr×Obj)}{σ:St}{H:Hp}{s:Shared}
theorem Inv.drew {d':Drawn}(I:Inv X pins σ H s):Inv X pins σ H { s with drawn:=d' }:=⟨I.ok,I.os,I.bare,I.base,I.loc,I.cell,I.free,I.freeC,I.pin,I.hok,I.len⟩
theorem Kr:∀{ss:List Str} {its:List Value},Bd (ss.map V.str) its->StrsAre its ss
 |[],_,.nil=>.nil
 |x::r,_,.cons h t=>by
  obtain⟨k,rfl⟩:=h;exact .cons x k (Kr t)
theorem Kv:∀{ss:List Str} {its:List Value},StrsAre its ss->Bd (ss.map V.str) its
 |_,_,.nil=>.nil
 |_,_,.cons x t h=>.cons ⟨t,rfl⟩ (Kv h)
theorem Sg:∀{us:List Value} {ss:List Str},us.length=ss.length->(∀(j:Nat) (v:Value),us[j]?=some v->∃k t,v=.str k t/\ss[j]?=some k)->StrsAre us ss
 |[],[],_,_=>.nil
 |[],_::_,h,_=>nomatch h
 |_::_,[],h,_=>nomatch h
 |u::us,k::ss,h,f=>by
  obtain⟨k',t,rfl,e⟩:=f 0 u rfl;cases e;exact .cons _ t (Sg (cZ h) λj v e=>f (j+1) v e)
theorem SV:∀{kvs:List (Key×V)} {vs:List (Key×Value)},KV kvs vs->vs.map (·.1)=kvs.map (·.1)
 |_,_,.nil=>rfl
 |_,_,.cons h t=>by rw[aR,aR,SV t,h.1]
def Q8 (H:Hp)(ks:List Str)(Q:VK):Prop:=∀ts p,ts.Perm ks->sortedS ts=true->H p=none->Q (.ref p) (upd H p (.lst (ts.map V.str)))
theorem Qj {Q:VK}{ks:List Str}{d':Drawn}{tk:Nat}{h1:Heap}{vs:List Value}{ss:List Str}(I:Inv X pins σ H s)(k:∀b o,s.heap.get? b=some o->h1.get? b=some o)(hs:StrsAre vs ss)(pm:ss.Perm ks)(few:ks.length<64)(q:Q8 H ks Q) :
  SN (EP X pins σ Q) vs { s with heap:=h1,drawn:=d',toks:=tk }:=by
 have I1:Inv X pins σ H { s with heap:=h1,drawn:=d',toks:=tk }:=(I.drew (d':=d')).kept (t':=tk) k;refine⟨ss,hs,by rw[hs.length,pm.length_eq];exact few,λh' p out ss' c ho pe so lp k' e=>⟨.ref p,_,I1.laid (t':=tk) k' lp (?_:Bn X.prog X.w _ h' p (.lst (ss'.map V.str))),rfl,q ss' p (pe.trans pm) so (I1.hok.fresh lp)⟩⟩;refine⟨?_,out,c,Kv ho,e⟩;rw[ax,pe.length_eq,pm.length_eq,bA];omega
def X4 (K:PySem.W.Frag):List V->Hp->VK->Prop:=λxs H Q=>∃(a:Addr) (ss:List Str),xs=[.ref a]/\A7 K H a (ss.map V.str)/\ss.length<64/\Q8 H ss Q
theorem RM {K:PySem.W.Frag}(hK:X.K=K):GR X (.builtin "sorted") (X4 K):=by
 subst hK;intro pins s σ H xs us Q I r h;obtain⟨a,ss,rfl,h1,few,q⟩:=h;obtain⟨u,rfl,ru⟩:=vals1 r;cases ru;obtain⟨its,r1,p1,_⟩:=I.list h1;have hs:=Kr r1;refine IY (collect_list p1.isList ?_ (by rw[hs.length,bA];omega));exact Qj (d':=s.drawn) (tk:=s.toks) I (λb o e=>(bH _ _ (cK (aP e))).trans (az _ e)) hs (List.Perm.refl _) few q
def Yo:List V->Hp->VK->Prop:=λxs H Q=>∃(d:Addr) (kvs:List (Key×V)) (ss:List Str),xs=[.ref d]/\H d=some (.dK kvs)/\kvs.map (·.1)=ss.map .inr/\ss.length<64/\Q8 H ss Q
theorem RP (hc:X.calm=true):GR X (.builtin "sorted") Yo:=by
 intro pins s σ H xs us Q I r h;obtain⟨d,kvs,ss,rfl,h1,hk,few,q⟩:=h;obtain⟨u,rfl,ru⟩:=vals1 r;cases ru;obtain⟨_,lo,vs,rv,o,es,ep,ho,h2,h3,h4⟩:Bn X.prog X.w H s.heap d (.dK kvs):=I.hok d _ h1;have D:s.heap.DictAt (Bs X.prog X.w) d vs ep:=⟨o,es,ho,h2,h3,h4⟩
 have ln:vs.length=ss.length:=by
  have:=congrArg List.length hk;rw[ax,ax] at this;rw[<-this];exact rv.length.symm
 refine IY (QS (PySem.W.kdl_dict (knd:=Bs X.prog X.w) (kvs:=vs) (ep:=ep) lo) (by simpa using I.ok.hd hc) D (by rw[ln,bA];omega) λh' tk us k lu it=>?_);have hs:StrsAre us ss:=by
  refine Sg (by rw[lu,ln]) λj v e=>?_
  obtain⟨ky,x,e1,e2⟩:=it j v e;have e3:(kvs.map (·.1))[j]?=some ky:=by rw[<-SV rv,aQ,e1];rfl
  rw[hk,aQ] at e3;cases z:ss[j]? with
  |none=>rw[z] at e3;cases e3
  |some y=>
   rw[z] at e3;injection e3 with e3
   subst e3;obtain⟨t,rfl⟩:=Qi e2;exact⟨_,t,rfl,rfl⟩
 exact Qj (d':=s.drawn) I k hs (List.Perm.refl _) few q
end
end L2
namespace L2
open PySem
end L2
namespace L2
open PySem PySem.Spec PyProof.Rows
section
variable {X:Cx}{e:Expr}{es:List Expr}{pos:Pos}
theorem Ua {t:TE}(h:PE X.nox e t):VC X e (λ_=>t):=λpins s σ H Q Ex I q=>
 bf (h pins s σ H Q (I.wish _) q) (λ_ _ ⟨v,H',I',r,q'⟩=>⟨v,H',I'.unwish,r,q'⟩) λ_ _ z=>False.elim z
end
end L2
namespace L2
end L2
namespace L2
end L2
namespace L2
section
open PySem PySem.Calls PyProof.Rows
variable {prog:Program}{w:World}{A:Around}{E:Value->Shared->Prop}{I S:Addr}{fp wr:List Addr}{n:Nat}{P:Nat->Value->Prop}{St:Nat->Heap->Prop}{bt:Nat->Nat->Bool}{d:Value}{R:Result->Shared->Prop}
theorem Qn {M:Model} {A:Around} {E:Value->Shared->Prop} {s:Shared} {pos:Pos} {id:String} {args:List (Bool×Sem Value)} {kws:List (Option Str×Sem Value)} {Q:Value->Shared->Prop} (hp:args.any (·.1)=false) (hk:kws.any (·.1.isNone)=false)
  (h:wpAny M A (evalArgs (.builtin id) true args kws) (λz sz=>wpAny M A (call (.builtin id) z.pos z.kw) Q E sz) E s):wpAny M A (callWith pos (.builtin id) [] args kws) Q E s:=by
 unfold callWith;refine ay (bL (bf h (λz sz hz=>ay (d6 ?_)) λ_ _ y=>y));simp only[hp,hk,Bool.or_false];refine ay (aH (ay (bf hz (λv sv hv=>ay (bL (wpAny_point (aH hv)))) λ_ _ y=>y)))
end
end L2
namespace L2
section
open PySem PySem.Calls PyProof.Rows
variable {prog:Program}{w:World}{A:Around}{E:Value->Shared->Prop}{s:Shared}
theorem Kl:entryFor table "dict.update.loop"=some Builtin.«dict.update.loop»:=entryFor_of_tree (by kernel_rfl)
theorem Fe:plainId "dict.update.loop"=true:=by decide +kernel
theorem Ub:typeLookup (.type "list") "keys"=pure none:=by rw[typeLookup_type,builtinLookup_eq_fast];kernel_rfl
theorem Ku {a:Addr} {xs:Array Value} {k:Nat} {sl:Array (Option Value)} {Q:Option Value->Shared->Prop} (hx:s.heap.get? a=some { cls:=.type "list",dict:=none,data:=.seq xs k,slots:=sl }) (hA:A.handled=none)
  (h:∀h' tk,(∀b o,s.heap.get? b=some o->h'.get? b=some o)->Q none { s with heap:=h',toks:=tk }):wpAny (model prog w) A (getAttr? (.ref a) "keys") Q E s:=by
 obtain⟨hp,g,d,tk,os⟩:=s;have hT:∀tk',(⟨hp,g,d,tk',os⟩:Shared).TypeIs (.ref a) "list":=λ_=>⟨_,hx,rfl⟩
 have f1:=sub_AttributeError;have f3:=F.slot_list_getattribute.lookup;have f4:=F.slot_list_getattribute.bind (.ref a);have f5:=am_list_getattr_none;unfold getAttr? getAttrBy? getAttrBy
 repeat (any_goals (first|assumption|exact hT _|((with_reducible show wpAny _ _ (call (Value.builtin "list.__getattribute__") _ _) _ _ _);refine fv F.slot_list_getattribute (hT _) am_entry_list_getattribute (F.args_list_getattribute_2 _ _) (meets_getattribute_miss_list a xs k sl "keys" _ Ub (by decide +kernel) (by decide +kernel)) ⟨hx,hA,λh' tk' e hx'=>?_⟩)|wp_step))
 obtain⟨t',u',he⟩:=hx'.there;show wpAny _ _ (getattributeRaised _ _ _ _ _ _ _) _ _ _;unfold getattributeRaised
 repeat (any_goals (first|assumption|wp_step))
 exact h _ _ λb o e=>hx'.keeps b o e
theorem pair_items {t:Addr}{k v:Value}{Q:List Value->Shared->Prop}(ht:IsTup s.heap t #[k,v])(h:Q [k,v] s):wpAny (model prog w) A (Builtin.Dict.pairItems (.ref t)) Q E s:=by
 obtain⟨o,ho,hc,n,hd⟩:=ht;have hT:s.TypeIs (.ref t) "tuple":=⟨o,ho,hc⟩
 unfold Builtin.Dict.pairItems;refine ay (fH hT ?_);rw[aI (by decide)];refine ay (m:=seqItems? (.ref t)) ?_;unfold seqItems?;refine ay (gw ho ?_);rw[hd];exact aH (aH h)
theorem Uc {R:Result->Shared->Prop} {I d:Addr} {fp:List Addr} {vs:List Value} {St:Nat->Heap->Prop} {D:Nat->Heap->Prop} {h0:Heap} (W:Walks prog w A.in1 I fp [I] vs.length (λi v=>vs[i]?=some v) St) (nd:d∉fp)
  (hI:h0.get? I=none) (hd0:h0.get? d=none) (keep:∀i h h',D i h->(∀o,h.get? d=some o->h'.get? d=some o)->D i h')
  (pr:∀i v,vs[i]?=some v->∃t x y,v=.ref t/\IsTup h0 t #[x,y]/\∀(s:Shared) (Q:Unit->Shared->Prop) (E:Value->Shared->Prop),(∀b o,h0.get? b=some o->s.heap.get? b=some o)->D i s.heap->(∀h' tk,D (i+1) h'->Heap.SameBut d s.heap h'->Q () { s with heap:=h',toks:=tk })->wpAny (model prog w) A.in1 (dictSet d x y) Q E s) :
  ∀(k i:Nat) (s:Shared),vs.length-i=k->i<=vs.length->(∀b o,h0.get? b=some o->s.heap.get? b=some o)->St i s.heap->D i s.heap->
   (∀h' tk,(∀b o,b∉[d,I]->s.heap.get? b=some o->h'.get? b=some o)->D vs.length h'->R (.ok (.ret .none)) { s with heap:=h',toks:=tk })->codeAny (model prog w) A (.builtin "dict.update.loop" ⟨[.ref d,.ref I,rawInt i,.none],[]⟩) R s:=by
 have nI:d∉[I]:=λz=>nd (W.sub _ z)
 intro k
 induction k with
 |zero=>
  intro i s hk hi old st T q;have e:i=vs.length:=by omega
  subst e;refine cQ Kl ?_;rw[cH Fe _];refine ay (m:=pyNext (.ref I)) (W.done s _ _ st λh' tk k'=>?_);refine ay (m:=Builtin.Dict.addKeywords d []) (aH (aH ?_));exact q h' tk (λb o n e=>k' b o (λz=>n (aB _ z)) e) (keep _ _ _ T λo e=>k' d o nI e)
 |succ k ih=>
  intro i s hk hi old st T q;have lt:i<vs.length:=by omega
  refine cQ Kl ?_;rw[cH Fe _];refine ay (m:=pyNext (.ref I)) (W.item i s _ _ lt st λv h' tk hv st' k'=>?_);obtain⟨t,x,y,rfl,ht,step⟩:=pr i v hv;have old':∀b o,h0.get? b=some o->h'.get? b=some o:=λb o e=>k' b o (λz=>by rw[aG.mp z,hI] at e;cases e) (old b o e)
  refine ay (bL (ay (wpAny_tryCatch (pair_items (s:={ s with heap:=h',toks:=tk }) (ht.keeps old') ?_))));refine bL (step _ _ _ old' (keep _ _ _ T λo e=>k' d o nI e) λh2 tk2 T2 sb=>?_);refine aH ⟨d7 Fe _,ih (i+1) _ (by omega) lt (λb o e=>?_) (W.frame _ _ _ st' λb hb o e=>?_) T2 λh3 tk3 k3 T3=>?_⟩
  ·rw[sb.2 b (λz=>by rw[z,hd0] at e;cases e)];exact old' b o e
  ·rw[sb.2 b (λz=>nd (z▸hb))];exact e
  ·refine q h3 tk3 (λb o n e=>k3 b o n ?_) T3;rw[sb.2 b (λz=>n (by simp[z]))];exact k' b o (λz=>n (aB _ z)) e
theorem SY {l:Addr} {vs:List Value} {D:Nat->Heap->Prop} {Q:Value->Shared->Prop} (hh:A.handled=none) (hl:∃n sl,s.heap.get? l=some { cls:=.type "list",dict:=none,data:=.seq vs.toArray n,slots:=sl })
  (keep:∀i h h',D i h->(∀o,h.get? s.heap.objs.size=some o->h'.get? s.heap.objs.size=some o)->D i h')
  (d0:∀h:Heap,h.get? s.heap.objs.size=some { cls:=.type "dict",data:=.dict #[] }->D 0 h)
  (pr:∀i v,vs[i]?=some v->∃t x y,v=.ref t/\IsTup s.heap t #[x,y]/\∀(s1:Shared) (Q:Unit->Shared->Prop) (E:Value->Shared->Prop),(∀b o,s.heap.get? b=some o->s1.heap.get? b=some o)->D i s1.heap->(∀h' tk,D (i+1) h'->Heap.SameBut s.heap.objs.size s1.heap h'->Q () { s1 with heap:=h',toks:=tk })->wpAny (model prog w) A.in1.in1 (dictSet s.heap.objs.size x y) Q E s1)
  (q:∀h' tk,(∀b o,s.heap.get? b=some o->h'.get? b=some o)->D vs.length h'->Q (.ref s.heap.objs.size) { s with heap:=h',toks:=tk }):wpAny (model prog w) A (call (.type "dict") [.ref l]) Q E s:=by
 obtain⟨n,sl,el⟩:=hl;have lt:l<s.heap.objs.size:=aP el;refine callType_codes (Q₁:=λobj s₁=>obj=.ref s.heap.objs.size/\s₁={ s with heap:=s.heap.push { cls:=.type "dict",data:=.dict #[] } }) PySem.F.kt_called_dict (PySem.F.kt_typeCall_dict_1 _) PySem.F.entry_dict_init (kt_code_dict_new _ ⟨rfl,rfl⟩) ?_
 rintro obj s₁ ⟨rfl,rfl⟩
 have hS:(s.heap.push { cls:=.type "dict",data:=.dict #[] }).get? s.heap.objs.size=some { cls:=.type "dict",data:=.dict #[] }:=aN _ rfl;have hT:Shared.TypeIs { s with heap:=s.heap.push { cls:=.type "dict",data:=.dict #[] } } (.ref s.heap.objs.size) "dict":=⟨_,hS,rfl⟩
 have el':=az ({ cls:=.type "dict",data:=.dict #[] }:Obj) el;refine⟨hT,PySem.F.args_dict_init_2 _ _,?_⟩;unfold Builtin.«dict.__init__»;refine ay ?_;unfold Builtin.Dict.selfAndRest;refine ay (wpAny_notOrdered_dict hT ?_);show wpAny _ _ (pure (s.heap.objs.size,[Value.ref l])) _ _ _;refine aH ?_;show wpAny _ _ (Builtin.Dict.updateFrom "dict.__init__" s.heap.objs.size (.ref l) [] .none) _ _ _;unfold Builtin.Dict.updateFrom;refine ay (fH (T:="list") ⟨_,el',rfl⟩ ?_);rw[aI (by decide)];refine ay (Ku (s:={ s with heap:=s.heap.push { cls:=.type "dict",data:=.dict #[] } }) el' (by simp[hh]) λh1 tk1 k1=>?_);rw[aI (show(none:Option Value).isNone=true from rfl)];refine ay (wpAny_rule ?_);have el1:=k1 _ _ el';have l1:h1.IsList l vs.toArray:=⟨_,el1,rfl,_,rfl⟩
 refine ay (dZ (s:={ s with heap:=h1,toks:=tk1 }) l1 ?_);have g1:s.heap.objs.size+1<=h1.objs.size:=aP (k1 _ _ hS);have nI:l≠h1.objs.size:=bg (bc lt (Nat.le_of_succ_le g1));have W:=Walks.list (prog:=prog) (w:=w) (A:=A.in1.in1) (by simp[hh]) h1.objs.size l nI vs.toArray;have W2:Walks prog w A.in1.in1 h1.objs.size [h1.objs.size,l] [h1.objs.size] vs.length (λi v=>vs[i]?=some v) (λi h=>h.IsListIter h1.objs.size l i/\h.IsList l vs.toArray):=by
  simpa only [List.size_toArray,List.getElem?_toArray] using W
 have old1:∀b o,s.heap.get? b=some o->h1.get? b=some o:=λb o e=>k1 b o (az _ e)
 refine aH ⟨d7 Fe _,Uc (h0:=s.heap) (D:=D) W2 ?_ (cx (by omega)) (cx (aD _)) keep pr vs.length 0 _ (by omega) (bC _) (λb o e=>az _ (old1 b o e)) ⟨⟨_,aN _ rfl,rfl,rfl⟩,l1.push _⟩ (d0 _ (az _ (k1 _ _ hS))) λh' tk k' T=>⟨rfl,q h' tk (λb o e=>k' b o (λz=>?_) (az _ (old1 b o e))) T⟩⟩
 ·simp only[List.mem_cons,List.not_mem_nil,or_false,not_or];exact⟨bg (by omega),cK lt⟩
 ·have lb:=aP e;simp only[List.mem_cons,List.not_mem_nil,or_false] at z;rcases z with rfl|rfl
  ·exact absurd lb (cG _)
  ·exact absurd lb (Nat.not_lt.mpr (Nat.le_of_succ_le g1))
open PySem.Spec
theorem O9:∀{ps:List Addr} {its:List Value},Bd (ps.map V.ref) its->∀(i:Nat) v,its[i]?=some v->∃t,ps[i]?=some t/\v=.ref t
 |[],_,.nil,i,v,e=>by simp at e
 |t::ps,_,.cons r h,0,v,e=>⟨t,rfl,by cases r;simpa using e.symm⟩
 |t::ps,_,.cons r h,i+1,v,e=>by
  obtain⟨t',a,b⟩:=O9 h i v (by simpa using e);exact⟨t',by simpa using a,b⟩
theorem JD {α β:Type}{F:α->β->Prop}:∀{l:List α} {m:List β},Paired F l m->∀{y:β},y∈m->∃x,x∈l/\F x y
 |_,_,.nil,_,h=>nomatch h
 |_,_,.cons r t,y,h=>by
  rcases aX.mp h with rfl|h
  ·exact⟨_,aK,r⟩
  ·obtain⟨x,a,b⟩:=JD t h;exact⟨x,aB _ a,b⟩
end
end L2
namespace L2
section
open PySem PySem.W PyProof.Rows
variable {n:Nat}{lt:Nat->Nat->Bool}{cmp:Nat->Nat->(Bool->Shared->Prop)->Shared->Prop}{s:Shared}
structure Ordr (n:Nat) (lt:Nat->Nat->Bool) (cmp:Nat->Nat->(Bool->Shared->Prop)->Shared->Prop) (s:Shared):Prop where
 ask:∀(i j:Nat) (C:Bool->Shared->Prop),i<n->j<n->i≠j->C (lt i j) s->cmp i j C s
 tr:∀i j k,i<n->j<n->k<n->lt i j=true->lt j k=true->lt i k=true
 tot:∀i j,i<n->j<n->i≠j->lt i j=false->lt j i=true
def MM (n:Nat)(p:Array Nat):Prop:=p.size=n/\p.toList.Perm (List.range n)
theorem MM.lo {p:Array Nat}(h:MM n p){i:Nat}(hi:i<n):p.getD i 0<n:=by
 have hs:i<p.size:=by rw[h.1];exact hi
 have e:p.getD i 0=p[i]:=by simp[Array.getD,hs]
 rw[e];exact eE.mp (h.2.mem_iff.mp (by simp))
theorem MM.ne {p:Array Nat}(h:MM n p){i j:Nat}(hi:i<n)(hj:j<n)(hij:i≠j):p.getD i 0≠p.getD j 0:=by
 have hs:i<p.size:=by rw[h.1];exact hi
 have ht:j<p.size:=by rw[h.1];exact hj
 have nd:p.toList.Nodup:=h.2.nodup_iff.mpr List.nodup_range;have e1:p.getD i 0=p.toList[i]'(by simpa using hs):=by simp[Array.getD,hs]
 have e2:p.getD j 0=p.toList[j]'(by simpa using ht):=by simp[Array.getD,ht]
 rw[e1,e2];intro z;have pw:=dC.mp nd;rcases Nat.lt_or_gt_of_ne hij with g|g
 ·exact pw i j (by simpa using hs) (by simpa using ht) g z
 ·exact pw j i (by simpa using ht) (by simpa using hs) g z.symm
def JN (lt:Nat->Nat->Bool)(p:Array Nat)(k:Nat):Prop:=∀i j,i<j->j<k->lt (p.getD i 0) (p.getD j 0)=true
def X2 (lt:Nat->Nat->Bool)(p:Array Nat)(k:Nat):Prop:=∀i j,i<j->j<k->lt (p.getD j 0) (p.getD i 0)=true
theorem Rz (O:Ordr n lt cmp s){p:Array Nat}(hp:MM n p){G:Nat->Shared->Prop}:∀(f m:Nat),1<=m->m+f<=n->JN lt p m->
  (∀m',m<=m'->m'<=m+f->JN lt p m'->(m'=m+f\/lt (p.getD m' 0) (p.getD (m'-1) 0)=true)->G m' s)->(kas_asc p f m).kasWp cmp G s
 |0,m,_,_,up,h=>h m (aD _) (aD _) up (.inl rfl)
 |f+1,m,h1,h2,up,h=>by
  refine O.ask _ _ _ (hp.lo (by omega)) (hp.lo (by omega)) (hp.ne (by omega) (by omega) (by omega)) ?_;cases hl:lt (p.getD m 0) (p.getD (m-1) 0) with
  |true=>exact h m (aD _) (by omega) up (.inr hl)
  |false=>
   have hl':=O.tot _ _ (hp.lo (by omega)) (hp.lo (by omega)) (hp.ne (by omega) (by omega) (by omega)) hl;show(kas_asc p f (m+1)).kasWp cmp G s;refine Rz O hp f (m+1) (by omega) (by omega) (λi j hij hj=>?_) λm' a b c d=>h m' (by omega) (by omega) c (d.imp (by omega) id)
   by_cases e:j=m
   ·subst e
    by_cases e2:i=j-1
    ·rw[e2];exact hl'
    ·exact O.tr _ _ _ (hp.lo (by omega)) (hp.lo (by omega)) (hp.lo (by omega)) (up i (j-1) (by omega) (by omega)) hl'
   ·exact up i j hij (by omega)
theorem Sh (O:Ordr n lt cmp s){p:Array Nat}(hp:MM n p){G:Array Nat×Nat×Nat->Shared->Prop}:∀(f m:Nat),1<=m->m+f<=n->X2 lt p m->
  (∀m',m<=m'->m'<=m+f->X2 lt p m'->G (p,m',0) s)->(kas_desc f p m 0).kasWp cmp G s
 |0,m,_,_,dn,h=>h m (aD _) (aD _) dn
 |f+1,m,h1,h2,dn,h=>by
  refine O.ask _ _ _ (hp.lo (by omega)) (hp.lo (by omega)) (hp.ne (by omega) (by omega) (by omega)) ?_;cases hl:lt (p.getD m 0) (p.getD (m-1) 0) with
  |true=>
   show(kas_desc f p (m+1) 0).kasWp cmp G s;refine Sh O hp f (m+1) (by omega) (by omega) (λi j hij hj=>?_) λm' a b c=>h m' (by omega) (by omega) c
   by_cases e:j=m
   ·subst e
    by_cases e2:i=j-1
    ·rw[e2];exact hl
    ·exact O.tr _ _ _ (hp.lo (by omega)) (hp.lo (by omega)) (hp.lo (by omega)) hl (dn i (j-1) (by omega) (by omega))
   ·exact dn i j hij (by omega)
  |false=>
   have hl':=O.tot _ _ (hp.lo (by omega)) (hp.lo (by omega)) (hp.ne (by omega) (by omega) (by omega)) hl;refine O.ask _ _ _ (hp.lo (by omega)) (hp.lo (by omega)) (hp.ne (by omega) (by omega) (by omega)) ?_;rw[hl'];exact h m (aD _) (by omega) dn
theorem FT (p:Array Nat)(i:Nat):p.getD i 0=(p[i]?).getD 0:=by
 by_cases h:i<p.size
 ·simp[Array.getD,h]
 ·simp[Array.getD,h]
theorem UO {p:Array Nat}{m:Nat}(hm:m<=p.size)(k:Nat):(kas_rev p 0 m).getD k 0=if k<m then p.getD (m-1-k) 0 else p.getD k 0:=by
 rw[FT];unfold kas_rev;rw[getElem?_mirror_all hm]
 by_cases h:k<m
 ·rw[aI ⟨bC _,h⟩,aI h,FT,dW]
 ·rw[aF (λz=>h z.2),aF h,FT]
theorem Wg {p:Array Nat}(hp:MM n p)(m:Nat):MM n (kas_rev p 0 m):=⟨(mirror_size ..).trans hp.1,(fO.mp (mirror_perm ..)).trans hp.2⟩
theorem Vd (O:Ordr n lt cmp s) {p:Array Nat} (hp:MM n p) {m:Nat} (h1:1<=m) (hm:m<=n) (dn:X2 lt p m) {G:Nat×Array Nat->Shared->Prop}
  (h:∀m' p',MM n p'->JN lt p' m'->1<=m'->m'<=n->G (m',p') s):(kas_tail3 m n p).kasWp cmp G s:=by
 unfold kas_tail3;rw[dH];have hr:=Wg hp m;refine Rz O hr (n-m) m h1 (by omega) (λi j hij hj=>?_) λm' a b c _=>h m' _ hr c (by omega) (by omega)
 rw[UO (by rw[hp.1];exact hm),UO (by rw[hp.1];exact hm),aI (by omega),aI hj];exact dn _ _ (by omega) (by omega)
theorem UA (O:Ordr n lt cmp s) (hn:1<=n) {p:Array Nat} (hp:MM n p) {G:Nat×Array Nat->Shared->Prop}
  (h:∀m' p',MM n p'->JN lt p' m'->1<=m'->m'<=n->G (m',p') s):(kas_count n p).kasWp cmp G s:=by
 unfold kas_count;rw[dH];refine Rz O hp (n-1) 1 (aD _) (by omega) (λi j hij hj=>by omega) λm a b up d=>?_
 by_cases e:m=n
 ·subst e;rw[aI (by simp)];exact h _ _ hp up a (aD _)
 ·rw[aF (by simpa using e)]
  by_cases g:m>1
  ·rw[aI g];refine O.ask _ _ _ (hp.lo (by omega)) (hp.lo (by omega)) (hp.ne (by omega) (by omega) (by omega)) ?_;rw[up 0 (m-1) (by omega) (by omega)];exact h _ _ hp up a (by omega)
  ·rw[aF g];have e1:m=1:=by omega
   subst e1;have hl:=d.resolve_left (by omega);unfold kas_descPart;rw[dH];refine Sh O hp (n-(1+1)) (1+1) (by omega) (by omega) (λi j hij hj=>?_) λm' a' b' dn=>?_
   ·obtain⟨rfl,rfl⟩:i=0/\j=1:=by omega
    exact hl
   ·rw[aF (by simp)];exact Vd O hp (by omega) (by omega) dn h
theorem NB (O:Ordr n lt cmp s) {p:Array Nat} (hp:MM n p) {k:Nat} (hk:k<n) (up:JN lt p k) {G:Nat->Shared->Prop}
  (h:∀l,l<=k->(∀i,i<l->lt (p.getD i 0) (p.getD k 0)=true)->(∀i,l<=i->i<k->lt (p.getD k 0) (p.getD i 0)=true)->G l s) :
  ∀(f l r:Nat),l<=r->r<=k->r-l<=f->(∀i,i<l->lt (p.getD i 0) (p.getD k 0)=true)->(∀i,r<=i->i<k->lt (p.getD k 0) (p.getD i 0)=true)->(kas_place p k f l r).kasWp cmp G s
 |0,l,r,h1,h2,h3,a,b=>h l (by omega) a λi hi=>b i (by omega)
 |f+1,l,r,h1,h2,h3,a,b=>by
  unfold kas_place
  by_cases g:l≥r
  ·rw[aI g];exact h l (by omega) a λi hi=>b i (by omega)
  ·rw[aF g];refine O.ask _ _ _ (hp.lo hk) (hp.lo (by omega)) (hp.ne hk (by omega) (by omega)) ?_;cases hl:lt (p.getD k 0) (p.getD ((l+r)/2) 0) with
   |true=>
    show(kas_place p k f l ((l+r)/2)).kasWp cmp G s;refine NB O hp hk up h f l ((l+r)/2) (by omega) (by omega) (by omega) a λi hi hik=>?_
    by_cases e:i=(l+r)/2
    ·rw[e];exact hl
    ·exact O.tr _ _ _ (hp.lo hk) (hp.lo (by omega)) (hp.lo (by omega)) hl (up _ _ (by omega) hik)
   |false=>
    have hl':=O.tot _ _ (hp.lo hk) (hp.lo (by omega)) (hp.ne hk (by omega) (by omega)) hl;show(kas_place p k f ((l+r)/2+1) r).kasWp cmp G s;refine NB O hp hk up h f ((l+r)/2+1) r (by omega) (by omega) (by omega) (λi hi=>?_) b
    by_cases e:i=(l+r)/2
    ·rw[e];exact hl'
    ·exact O.tr _ _ _ (hp.lo (by omega)) (hp.lo (by omega)) (hp.lo hk) (up _ _ (by omega) (by omega)) hl'
theorem Vg {p:Array Nat}{k l:Nat}(hk:k<p.size)(hl:l<=k)(i:Nat):(bubble p k (k-l)).getD i 0=if i=l then p.getD k 0 else if l<i/\i<=k then p.getD (i-1) 0 else p.getD i 0:=by
 rw[FT,getElem?_bubble hk _ (by omega),show k-(k-l)=l by omega]
 by_cases h:i=l
 ·rw[aI h,aI h,FT]
 ·rw[aF h,aF h]
  by_cases g:l<i/\i<=k
  ·rw[aI g,aI g,FT]
  ·rw[aF g,aF g,FT]
theorem UE (O:Ordr n lt cmp s){G:Array Nat->Shared->Prop}(h:∀p,MM n p->JN lt p n->G p s):∀(f:Nat) (p:Array Nat) (k:Nat),k+f=n->MM n p->JN lt p k->(kas_bin f p k).kasWp cmp G s
 |0,p,k,e,hp,up=>h p hp (by rw[<-e];exact up)
 |f+1,p,k,e,hp,up=>by
  unfold kas_bin;rw[dH];refine NB O hp (by omega) up (λl hl a b=>?_) k 0 k (bC _) (aD _) (by omega) (λi hi=>by omega) (λi h1 h2=>by omega);have hs:k<p.size:=by rw[hp.1];omega
  refine UE O h f _ (k+1) (by omega) ⟨(bubble_size ..).trans hp.1,(fO.mp (bubble_perm ..)).trans hp.2⟩ λi j hij hj=>?_
  rw[Vg hs hl,Vg hs hl]
  by_cases i1:i=l
  ·rw[aI i1,aF (by omega),aI (by omega)];exact b _ (by omega) (by omega)
  ·rw[aF i1]
   by_cases j1:j=l
   ·rw[aF (by omega),aI j1];exact a _ (by omega)
   ·rw[aF j1]
    by_cases i2:l<i/\i<=k
    ·rw[aI i2,aI (by omega)];exact up _ _ (by omega) (by omega)
    ·rw[aF i2]
     by_cases j2:l<j/\j<=k
     ·rw[aI j2];exact up _ _ (by omega) (by omega)
     ·rw[aF j2];exact up _ _ (by omega) (by omega)
theorem Wz (O:Ordr n lt cmp s)(hn:1<=n){G:Array Nat->Shared->Prop}(h:∀p,MM n p->JN lt p n->G p s):(kas_sort n).kasWp cmp G s:=by
 unfold kas_sort;rw[dH];refine UA O hn ⟨by simp,by simp⟩ λm p hp up h1 h2=>?_
 by_cases e:m<n
 ·rw[aI e];exact UE O h _ _ _ (by omega) hp (by rw[show max m 1=m by omega];exact up)
 ·rw[aF e];obtain rfl:m=n:=by omega
  exact h p hp up
end
end L2
namespace L2
section
open PySem PySem.W PySem.Calls PyProof.Rows
variable {prog:Program}{w:World}{A:Around}{E:Value->Shared->Prop}{s:Shared}
def IZ (vs:List Value)(p:Array Nat):List Value:=p.toList.map λi=>vs.getD i Value.none
theorem QL (vs:List Value):IZ vs (List.range vs.length).toArray=vs:=by
 unfold IZ;refine e8 λi=>?_
 rw[aQ]
 by_cases h:i<vs.length
 ·simp[h]
 ·simp[h]
end
end L2
namespace L2
end L2
namespace L2
end L2
namespace L2
end L2
namespace L2
end L2
namespace L2
end L2
namespace L2
end L2
namespace L2
end L2
namespace L2
end L2
namespace L2
open PySem PySem.Spec PyProof.Rows
end L2
namespace L2
end L2
namespace L2
section
open PySem PySem.Builtin.Str
def CS (c:Nat):List Nat->List Nat
 |[]=>[]
 |x::l=>if x=c then 0::(CS c l).map (· + 1) else(CS c l).map (· + 1)
def NZ (c:Nat):List Str->Str->List Nat
 |[],t=>Bj t
 |w::ws,t=>Bj w++c::NZ c ws t
theorem GM {c:Nat}:∀{l:List Nat},c∉l->CS c l=[]
 |[],_=>rfl
 |x::l,h=>by
  have h1:x≠c:=λe=>h (by rw[e];exact aK)
  show(if x=c then _ else _)=_;rw[aF h1,GM λz=>h (aB _ z)];rfl
theorem Mi {c:Nat}{r:List Nat}:∀{l:List Nat},c∉l->CS c (l++c::r)=l.length::(CS c r).map (· + (l.length+1))
 |[],_=>by
  show(if c=c then _ else _)=_;rw[aI rfl];rfl
 |x::l,h=>by
  have h1:x≠c:=λe=>h (by rw[e];exact aK)
  show(if x=c then _ else(CS c (l++c::r)).map (· + 1))=_;rw[aF h1,Mi (l:=l) λz=>h (aB _ z),aR,aL];show(l.length+1)::_=(l.length+1)::_;rfl
theorem Ig (c:Nat):∀(l:List Nat) (a:Nat),(CS c l).map (· + a)=(List.range' a l.length).filter λi=>decide (l[i-a]?=some c)
 |[],a=>rfl
 |x::l,a=>by
  have ih:=Ig c l (a+1);have e:(List.range' (a+1) l.length).filter (λi=>decide ((x::l)[i-a]?=some c))=(List.range' (a+1) l.length).filter λi=>decide (l[i-(a+1)]?=some c):=by
   refine List.filter_congr λi hi=>?_
   have:=(List.mem_range'_1.mp hi).1;have e1:i-a=(i-(a+1))+1:=by omega
   rw[e1,List.getElem?_cons_succ]
  show _=(List.range' a (l.length+1)).filter _;rw[List.range'_succ,bE,e,<-ih];have e0:(decide ((x::l)[a-a]?=some c))=decide (x=c):=by
   rw[dv,List.getElem?_cons_zero]
   by_cases h:x=c
   ·rw[h];simp
   ·rw[aS h,aS λq=>h (br q)]
  rw[e0];have e2:∀m:List Nat,(m.map (· + 1)).map (· + a)=m.map (· + (a+1)):=λm=>by
   rw[aL];exact aZ λk _=>by show k+1+a=k+(a+1);omega
  by_cases h:x=c
  ·rw[aE h,aI rfl];show((if x=c then 0::(CS c l).map (· + 1) else _).map (· + a))=_;rw[aI h,aR,e2,dW]
  ·rw[aS h,aF aJ];show((if x=c then _ else(CS c l).map (· + 1)).map (· + a))=_;rw[aF h,e2]
theorem OO {x:Str}{c i:Nat}:(i+(⟨#[c]⟩:Str).length<=x.length/\subAt x ⟨#[c]⟩ i=true)↔(Bj x)[i]?=some c:=StrLaws.subAt_one x c i
theorem L6 (x:Str)(c limit:Nat):∀(l:List Nat) (st:Array Nat×Nat),l.Pairwise (· < ·)->(∀i∈l,st.snd<=i)->
  (forIn l st (StrLaws.occBody x ⟨#[c]⟩ x.length limit)).run.fst.toList=st.fst.toList++(l.filter λi=>decide ((Bj x)[i]?=some c)).take (limit-st.fst.size)
 |[],st,_,_=>by simp[Id.run,pure,forIn]
 |a::l,st,hp,hs=>by
  rw[List.forIn_cons];unfold StrLaws.occBody;obtain⟨h1,h2⟩:=bN.mp hp
  by_cases h:(Bj x)[a]?=some c
  ·have g:=OO.mpr h
   by_cases hl:st.fst.size<limit
   ·rw[aI ⟨⟨⟨hl,hs a aK⟩,g.1⟩,g.2⟩];have ih:=L6 x c limit l (st.fst.push a,a+(⟨#[c]⟩:Str).length) h2 (λi hi=>by have:=h1 i hi;show a+1<=i;omega);refine ih.trans ?_;rw[Array.toList_push,Array.size_push,cN,bE,aI (aE h)];have e:limit-st.fst.size=(limit-(st.fst.size+1))+1:=by omega
    rw[e,gE];rfl
   ·rw[aF λq=>hl q.1.1.1];have ih:=L6 x c limit l st h2 (λi hi=>hs i (aB _ hi));refine ih.trans ?_;have e:limit-st.fst.size=0:=by omega
    rw[e,eD,eD]
  ·rw[aF λq=>h (OO.mp ⟨q.1.2,q.2⟩)];have ih:=L6 x c limit l st h2 (λi hi=>hs i (aB _ hi));refine ih.trans ?_;rw[bE,aF (by rw[aS h];exact aJ)]
theorem SF (x:Str)(c limit:Nat):occurrences x ⟨#[c]⟩ 0 x.length limit=(CS c (Bj x)).take limit:=by
 rw[StrLaws.occ_eq];have h:=L6 x c limit (List.range' 0 (x.length+1-0)) (#[],0) List.pairwise_lt_range' (λi _=>bC i);refine h.trans ?_;have e:=Ig c (Bj x) 0;have e1:(CS c (Bj x)).map (· + 0)=CS c (Bj x):=by
  have:(λk:Nat=>k+0)=id:=rfl;rw[this,cY]
 rw[e1,Cp] at e;rw[e];show[]++List.take (limit-0) _=_;rw[fA,dX,dX,List.range'_concat,cp];have e2:List.filter (λi=>decide ((Bj x)[i]?=some c)) [0+1*x.length]=[]:=by
  rw[bE,aF,List.filter_nil];rw[bI (by rw[Cp];omega)];simp
 rw[e2,bq];rfl
theorem Pl (c:Nat):∀(ws:List Str) (t:Str),ws.length<=(NZ c ws t).length
 |[],_=>bC _
 |w::ws,t=>by
  have:=Pl c ws t;show ws.length+1<=(Bj w++c::NZ c ws t).length;rw[aM,bw];omega
theorem PP {c:Nat}:∀{ws:List Str} {t:Str},(∀w∈ws,c∉Bj w)->∃r,CS c (NZ c ws t)=r++(CS c (Bj t)).map (· + ((NZ c ws t).length-(Bj t).length))/\r.length=ws.length
 |[],t,_=>⟨[],by
   show CS c (Bj t)=[]++(CS c (Bj t)).map (· + ((Bj t).length-(Bj t).length));rw[dv,fA];exact(cY _).symm,rfl⟩
 |w::ws,t,h=>by
  obtain⟨r,e,l⟩:=PP (ws:=ws) (t:=t) λy hy=>h y (aB _ hy)
  refine⟨(Bj w).length::r.map (· + ((Bj w).length+1)),?_,by rw[bw,ax,l];rfl⟩;show CS c (Bj w++c::NZ c ws t)=_;rw[Mi (h w aK),e,bx,fi,aL]
  congr 2
  refine aZ λk _=>?_
  have g:∀(ws:List Str),(Bj t).length<=(NZ c ws t).length:=λws=>by
   induction ws with
   |nil=>exact aD _
   |cons y ys ih=>
    show _<=(Bj y++c::NZ c ys t).length;rw[aM,bw];omega
  have:=g ws;show k+((NZ c ws t).length-(Bj t).length)+((Bj w).length+1)=k+((Bj w++c::NZ c ws t).length-(Bj t).length);rw[aM,bw];omega
theorem Od {c:Nat}{x:Str}{t:Str}:∀(ws:List Str) (pre:List Nat),Bj x=pre++NZ c ws t->(∀w∈ws,c∉Bj w)->
  StrLaws.partsFrom x 1 pre.length (((CS c (NZ c ws t)).take ws.length).map (· + pre.length))=ws++[t]
 |[],pre,h,_=>by
  rw[List.length_nil,eD];show[strSub x pre.length x.length]=[t]
  congr 1
  refine IJ ?_;show(strSub x pre.length x.length).cps.toList=_;rw[eS];have hx:x.cps.toList=pre++Bj t:=h;have hl:x.length=pre.length+(Bj t).length:=by rw[<-Cp,h,aM];rfl
  rw[hx,List.drop_left',bF (by rw[hl];omega)];rfl
 |w::ws,pre,h,hf=>by
  have hw:=hf w aK;have ih:=Od (x:=x) (t:=t) ws (pre++Bj w++[c]) (by rw[h];show pre++(Bj w++c::NZ c ws t)=_;simp) λy hy=>hf y (aB _ hy)
  show StrLaws.partsFrom x 1 pre.length (((CS c (Bj w++c::NZ c ws t)).take (ws.length+1)).map (· + pre.length))=w::(ws++[t]);rw[Mi hw,gE,aR,<-dG,aL];show strSub x pre.length ((Bj w).length+pre.length)::StrLaws.partsFrom x 1 ((Bj w).length+pre.length+1) _=_
  congr 1
  ·refine IJ ?_;show(strSub x pre.length _).cps.toList=_;rw[eS];have hx:x.cps.toList=pre++(Bj w++c::NZ c ws t):=h;rw[hx,List.drop_left',Nat.add_sub_cancel,d5]
   ·rfl
   ·rfl
  ·rw[<-ih];have el:(pre++Bj w++[c]).length=(Bj w).length+pre.length+1:=by simp;omega
   rw[el]
   congr 1
   refine aZ λk _=>?_
   show k+((Bj w).length+1)+pre.length=k+((Bj w).length+pre.length+1);omega
theorem UU (c:Nat):(⟨#[c]⟩:Str).length=1:=rfl
theorem XR {c:Nat}{x t:Str}{ws:List Str}(h:Bj x=NZ c ws t)(hf:∀w∈ws,c∉Bj w){l:List Nat}(hl:l=(CS c (Bj x)).take ws.length):partsBetween x l 1=ws++[t]:=by
 have:=Od (x:=x) (t:=t) ws [] h hf;rw[StrLaws.partsBetween_eq,hl,h];have e:∀l:List Nat,l.map (· + ([]:List Nat).length)=l:=λl=>cY l
 rw[e] at this;exact this
theorem Yr {x:Str}{c:Nat}(h:(decide (x.length<(⟨#[c]⟩:Str).length)||decide (strKind x<strKind ⟨#[c]⟩))=true):c∉Bj x:=by
 rw[Bool.or_eq_true,bK,bK] at h;rcases h with h|h
 ·intro hm;have:0<(Bj x).length:=gd hm;rw[Cp] at this;rw[UU] at h;omega
 ·exact StrLaws.kind_free x c h
theorem U8 {c:Nat}{x t:Str}{ws:List Str}(h:Bj x=NZ c ws t)(hn:c∉Bj x):ws=[]/\x=t:=by
 cases ws with
 |nil=>exact⟨rfl,IJ h⟩
 |cons w ws=>
  rw[h] at hn;exact absurd (show c∈Bj w++c::NZ c ws t by simp) hn
theorem Tp {c:Nat}{x t:Str}{ws:List Str}(h:Bj x=NZ c ws t)(hf:∀w∈ws,c∉Bj w)(ht:c∉Bj t):PySem.Txt.split x ⟨#[c]⟩=ws++[t]:=by
 obtain⟨r,e,l⟩:=PP (c:=c) (ws:=ws) (t:=t) hf;rw[GM ht,dw,bq] at e;have hw:=Pl c ws t;rw[<-h,Cp] at hw;have ho:occurrences x ⟨#[c]⟩ 0 x.length (x.length+1)=(CS c (Bj x)).take ws.length:=by
  rw[SF,h,e,bF (by omega),bF (by omega)]
 unfold PySem.Txt.split
 split
 ·rename_i hc
  obtain⟨rfl,rfl⟩:=U8 h (Yr hc);rfl
 ·split
  ·rename_i he
   rw[ho,h,e,List.isEmpty_iff] at he;cases ws with
   |nil=>rw[show x=t from IJ h];rfl
   |cons w ws=>
    cases r with
    |nil=>cases l
    |cons a r=>cases he
  ·rw[ho];exact XR h hf rfl
end
end L2
namespace L2
end L2
namespace L2
section
open PySem PySem.W PySem.Calls PyProof.Rows
variable {prog:Program}{w:World}{A:Around}{E:Value->Shared->Prop}{s:Shared}{a kS:Addr}{vs ks:List Value}{P:PySem.Fin->Shared->Prop}
def ZZ (a b:Addr)(h h':Heap):Prop:=∀c o,c≠a->c≠b->h.get? c=some o->h'.get? c=some o
theorem QC {st:SortSt} {keys:Array Value} {e e1:Nat} {out:List Value} (hk:s.heap.get? kS=some (seqObj "list" keys e)) (ha:s.heap.get? a=some (seqObj "list" #[] e1)) (ne:kS≠a) (zk:keys.size<=sizeLine) (hout:(arrOf st).map (·.2)=out.toArray) (zo:out.length<=sizeLine) (hf:failedOf st=none)
  (h:∀h' c,ZZ a kS s.heap h'->h'.get? a=some (seqObj "list" out.toArray c)->P (.done (.ret .none)) { s with heap:=h' }):wpAny (model prog w) A (ksk_tail a false e1 (.ref kS) st) P E s:=by
 have a1:(s.heap.update kS (Obj.mapSeq λ_=>(#[]:Array Value))).get? a=some (seqObj "list" #[] e1):=(bH _ _ ne).trans ha;unfold ksk_tail;dsimp only;refine ay (fZ hk rfl ?_ zk (bC _));refine ay (wpAny_letGo (ay (seqEpoch_at a1 rfl (ay (fZ a1 rfl ?_ (bC _) ?_)))))
 ·rw[hf];simp only[bne_self_eq_false,Bool.false_eq_true,if_false];refine aH ?_;rw[hout];refine h _ _ (λc o h1 h2 q=>?_) (get?_update_seq a1 λ_=>out.toArray);exact(bH _ _ (Ne.symm h1)).trans ((bH _ _ (Ne.symm h2)).trans q)
 ·rw[aF aJ,hout,aY];exact Nat.le_succ_of_le zo
theorem Wf {lt:Nat->Nat->Bool} {e e1:Nat} (hk:s.heap.get? kS=some (seqObj "list" ks.toArray e)) (ha:s.heap.get? a=some (seqObj "list" #[] e1)) (ne:kS≠a) (hl:ks.length=vs.length) (few:vs.length<64)
  (kind:2<=vs.length->wpAny (model prog w) A (keyKind' ks.toArray) (λκ s'=>s'=s/\Ordr vs.length lt (kas_ask prog w A κ ks) s') (λ_ _=>False) s)
  (h:∀p h' c,MM vs.length p->JN lt p vs.length->ZZ a kS s.heap h'->h'.get? a=some (seqObj "list" (IZ vs p).toArray c)->P (.done (.ret .none)) { s with heap:=h' }) :
  wpAny (model prog w) A (ksk_end a false vs.toArray e1 (.ref kS) ks.toArray) P E s:=by
 have zk:ks.toArray.size<=sizeLine:=by rw[aY,bA];omega
 unfold ksk_end;dsimp only;rw[aF aJ,aF aJ]
 by_cases h2:vs.toArray.size<2
 ·rw[aI h2,aI h2];refine ay (aH ?_);rw[StateT.run_pure];refine ay (aH ?_);dsimp only;rw[aY] at h2;refine QC (out:=vs) hk ha ne zk ?_ (by rw[bA];omega) rfl λh' c k hc=>h (List.range vs.length).toArray h' c ⟨by simp,by simp⟩ (λi j hij hj=>by omega) k (by rw[QL];exact hc)
  show(ks.toArray.zip vs.toArray).map (·.2)=vs.toArray;apply dR.mp;simp;exact List.map_snd_zip (by omega)
 ·rw[aF h2,aF h2];rw[aY] at h2;refine ay (bf (kind (by omega)) (λκ s' hs'=>?_) λ_ _ z=>z.elim);obtain⟨rfl,O⟩:=hs';refine ay (bf (kat_run (E:=E) (Q:=λst' s2=>s2=s'/\∃p,MM vs.length p/\JN lt p vs.length/\(arrOf st').map (·.2)=(IZ vs p).toArray/\failedOf st'=none) (G:=λp s2=>s2=s'/\MM vs.length p/\JN lt p vs.length) hl (by omega) few
   (λp st' s2 _ ea ef hg=>⟨hg.1,p,hg.2.1,hg.2.2,kat_snds hl ea,ef⟩) (Wz O (by omega) λp hp up=>⟨rfl,hp,up⟩)) (λr s2 hr=>?_) λ_ _ z=>z)
  obtain⟨⟨⟩,st'⟩:=r;obtain⟨rfl,p,hp,up,ea,ef⟩:=hr;dsimp only;refine QC hk ha ne zk ea ?_ ef λh' c k hc=>h p h' c hp up k hc
  unfold IZ;rw[ax,eL,hp.1,bA];omega
def SW (prog:Program)(w:World)(A:Around)(f:Value)(vs:List Value)(Ky:Nat->Value->Prop)(s:Shared)(a:Addr):Prop:=∀(i:Nat) (v:Value),vs[i]?=some v->∀(h:Heap) (tk:Nat),(∀b o,b≠a->s.heap.get? b=some o->h.get? b=some o)->
 wpAny (model prog w) A (call f [v]) (λk s'=>Ky i k/\∃h' tk',s'={ s with heap:=h',toks:=tk' }/\∀b o,h.get? b=some o->h'.get? b=some o) (λ_ _=>False) { s with heap:=h,toks:=tk }
theorem Vz {f:Value} {lt:Nat->Nat->Bool} {Ky:Nat->Value->Prop} {e1:Nat} (hk:s.heap.get? kS=some (seqObj "list" #[] 0)) (ha:s.heap.get? a=some (seqObj "list" #[] e1)) (ne:kS≠a) (few:vs.length<64)
  (turn:SW prog w A f vs Ky s kS)
  (kind:∀(ks:List Value) (h':Heap) (tk:Nat),ks.length=vs.length->(∀i k,ks[i]?=some k->Ky i k)->(∀b o,b≠kS->s.heap.get? b=some o->h'.get? b=some o)->2<=vs.length->
   wpAny (model prog w) A (keyKind' ks.toArray) (λκ s'=>s'={ s with heap:=h',toks:=tk }/\Ordr vs.length lt (kas_ask prog w A κ ks) s') (λ_ _=>False) { s with heap:=h',toks:=tk })
  (h:∀p h' tk c,MM vs.length p->JN lt p vs.length->ZZ a kS s.heap h'->h'.get? a=some (seqObj "list" (IZ vs p).toArray c)->P (.done (.ret .none)) { s with heap:=h',toks:=tk }) :
  wpAny (model prog w) A (ksk_rest a f false vs.toArray e1 (.ref kS)) P E s:=by
 unfold ksk_rest;refine ay (wpAny_rule ?_);rw[List.forIn_toArray];refine ay (ksk_fold (λi s'=>∃h' tk ks e,s'={ s with heap:=h',toks:=tk }/\(∀b o,b≠kS->s.heap.get? b=some o->h'.get? b=some o)/\h'.get? kS=some (seqObj "list" (List.toArray ks) e)/\ks.length=i/\∀j k,ks[j]?=some k->Ky j k) vs 0 s ⟨s.heap,s.toks,[],0,rfl,λ_ _ _ q=>q,hk,rfl,λj k q=>by simp at q⟩ ?_ ?_)
 ·rintro j x s' hx ⟨h',tk,ks,e,rfl,k1,k2,hl,hK⟩
  rw[dW] at hl ⊢;have hj:j<vs.length:=(bh.mp hx).1;refine ay (fj (bf (turn j x hx h' tk k1) (λv s2 hv=>?_) λ_ _ z=>z.elim));obtain⟨ky,h2,tk2,rfl,k3⟩:=hv;dsimp only;refine ay (fZ (k3 _ _ k2) rfl ?_ (by rw[aY,bA];omega) (by rw[Array.size_push,aY,bA];omega));obtain⟨c9,e9⟩:∃c9,(h2.update kS (Obj.mapSeq (·.push v))).get? kS=some (seqObj "list" (ks.toArray.push v) c9):=⟨_,get?_update_seq (k3 _ _ k2) (·.push v)⟩
  refine aH ⟨rfl,_,tk2,ks++[v],c9,rfl,λb o nb q=>(bH _ _ (Ne.symm nb)).trans (k3 b o (k1 b o nb q)),?_,by rw[aM,hl];rfl,λi k q=>?_⟩
  ·rw[e9,List.push_toArray]
  ·by_cases hi:i<ks.length
   ·rw[cn hi] at q;exact hK i k q
   ·rw[cg (by omega)] at q;have hi2:i-ks.length=0:=by
     have:=(bh.mp q).1;simp at this;omega
    rw[hi2] at q;cases q;rw[show i=j by omega];exact ky
 ·rintro s' ⟨h',tk,ks,e,rfl,k1,k2,hl,hK⟩
  rw[dW] at hl;refine ay (listItems_at k2 rfl ?_);refine Wf (s:={ s with heap:=h',toks:=tk }) k2 (k1 _ _ (Ne.symm ne) ha) ne hl few (kind ks h' tk hl hK k1) λp h3 c hp up k3 hc=>h p h3 tk c hp up (λb o n1 n2 q=>k3 b o n1 n2 (k1 b o n2 q)) hc
theorem UH {f:Value} {lt:Nat->Nat->Bool} {Ky:Nat->Value->Prop} {n:Nat} (ho:s.heap.get? a=some (seqObj "list" vs.toArray n)) (few:vs.length<64)
  (turn:SW prog w A f vs Ky s a)
  (kind:∀(ks:List Value) (h':Heap) (tk:Nat),ks.length=vs.length->(∀i k,ks[i]?=some k->Ky i k)->(∀b o,b≠a->s.heap.get? b=some o->h'.get? b=some o)->2<=vs.length->
   wpAny (model prog w) A (keyKind' ks.toArray) (λκ s'=>s'={ s with heap:=h',toks:=tk }/\Ordr vs.length lt (kas_ask prog w A κ ks) s') (λ_ _=>False) { s with heap:=h',toks:=tk })
  (h:∀p h' tk c,MM vs.length p->JN lt p vs.length->(∀b o,b≠a->s.heap.get? b=some o->h'.get? b=some o)->h'.get? a=some (seqObj "list" (IZ vs p).toArray c)->P (.done (.ret .none)) { s with heap:=h',toks:=tk }) :
  wpAny (model prog w) A (ksk_tree a f false) P E s:=by
 have ha:a<s.heap.objs.size:=aP ho;unfold ksk_tree;refine ay (listItems_at ho rfl (ay (fZ ho rfl ?_ (by rw[aY,bA];omega) (bC _))));obtain⟨e1,h1⟩:∃e,(s.heap.update a (Obj.mapSeq λ_=>#[])).get? a=some (seqObj "list" #[] e):=⟨_,get?_update_seq ho (λ_=>#[])⟩
 refine ay (seqEpoch_at h1 rfl (ay (wpAny_newTuple (ay (gG (bL ?_) (bC _))) (by show vs.length<=_;rw[bA];omega))));have old:∀b o,b≠a->s.heap.get? b=some o->(((s.heap.update a (Obj.mapSeq λ_=>#[])).push (seqObj "tuple" vs.toArray 0)).push (seqObj "list" #[] 0)).get? b=some o:=λb o nb e=>
  az _ (az _ ((bH _ _ (Ne.symm nb)).trans e))
 have sz:((s.heap.update a (Obj.mapSeq λ_=>#[])).push (seqObj "tuple" vs.toArray 0)).objs.size=s.heap.objs.size+1:=by rw[cE,Heap.size_update]
 have hk:(((s.heap.update a (Obj.mapSeq λ_=>#[])).push (seqObj "tuple" vs.toArray 0)).push (seqObj "list" #[] 0)).get? ((s.heap.update a (Obj.mapSeq λ_=>#[])).push (seqObj "tuple" vs.toArray 0)).objs.size=some (seqObj "list" #[] 0):=aN _ rfl;have h2:(((s.heap.update a (Obj.mapSeq λ_=>#[])).push (seqObj "tuple" vs.toArray 0)).push (seqObj "list" #[] 0)).get? a=some (seqObj "list" #[] e1):=az _ (az _ h1);rw[sz] at hk;show wpAny (model prog w) A (ksk_rest a f false vs.toArray e1 (.ref ((s.heap.update a (Obj.mapSeq λ_=>#[])).push (seqObj "tuple" vs.toArray 0)).objs.size)) P E { s with heap:=((s.heap.update a (Obj.mapSeq λ_=>#[])).push (seqObj "tuple" vs.toArray 0)).push (seqObj "list" #[] 0) };rw[sz];generalize ((s.heap.update a (Obj.mapSeq λ_=>#[])).push (seqObj "tuple" vs.toArray 0)).push (seqObj "list" #[] 0)=h0 at old hk h2;have nk:∀b o,s.heap.get? b=some o->b≠s.heap.objs.size+1:=λb o q=>bg (dE (aP q))
 refine Vz (s:={ s with heap:=h0 }) (Ky:=Ky) (lt:=lt) hk h2 (cK (dE ha)) few (λi v hv h3 tk k3=>?_) (λks h3 tk hl hK k3 l2=>?_) λp h3 tk c hp up k3 hc=>?_
 ·exact turn i v hv h3 tk λb o nb q=>k3 b o (nk b o q) (old b o nb q)
 ·exact kind ks h3 tk hl hK (λb o nb q=>k3 b o (nk b o q) (old b o nb q)) l2
 ·exact h p h3 tk c hp up (λb o nb q=>k3 b o nb (nk b o q) (old b o nb q)) hc
theorem M5 {l f:Addr} {lt:Nat->Nat->Bool} {Ky:Nat->Value->Prop} {Q:Value->Shared->Prop} (hl:s.heap.IsList l vs.toArray) (few:vs.length<64)
  (turn:∀(i:Nat) (v:Value),vs[i]?=some v->∀(h:Heap) (tk:Nat),(∀b o,s.heap.get? b=some o->h.get? b=some o)->
   wpAny (model prog w) A.in1.in1 (call (.ref f) [v]) (λk s'=>Ky i k/\∃h' tk',s'={ s with heap:=h',toks:=tk' }/\∀b o,h.get? b=some o->h'.get? b=some o) (λ_ _=>False) { s with heap:=h,toks:=tk })
  (kind:∀(ks:List Value) (h':Heap) (tk:Nat),ks.length=vs.length->(∀i k,ks[i]?=some k->Ky i k)->(∀b o,s.heap.get? b=some o->h'.get? b=some o)->2<=vs.length->
   wpAny (model prog w) A.in1.in1 (keyKind' ks.toArray) (λκ s'=>s'={ s with heap:=h',toks:=tk }/\Ordr vs.length lt (kas_ask prog w A.in1.in1 κ ks) s') (λ_ _=>False) { s with heap:=h',toks:=tk })
  (q:∀h' tk p idx c,MM vs.length idx->JN lt idx vs.length->s.heap.objs.size<=p->(∀b o,s.heap.get? b=some o->h'.get? b=some o)->h'.get? p=some (seqObj "list" (IZ vs idx).toArray c)->Q (.ref p) { s with heap:=h',toks:=tk }) :
  wpAny (model prog w) A (call (.builtin "sorted") [.ref l] [(Str.ofString "key",.ref f)]) Q E s:=by
 refine call_function_entry_kw kind_sorted plain_sorted entry_sorted (ksk_s1 _ _) ?_;unfold Builtin.«sorted»;refine ay (m:=checkCount "sorted" 1 1 _) (aH (ay (collect_list hl ?_ (by rw[bA];omega))));refine ay (gG ?_ (by rw[bA];omega));have old:∀b o,s.heap.get? b=some o->((s.heap.push (seqObj "list" #[] 0)).update s.heap.objs.size (Obj.mapSeq λx=>x++vs.toArray)).get? b=some o:=λb o e=>(bH _ _ (cK (aP e))).trans (az _ e)
 have hsz:s.heap.objs.size<=((s.heap.push (seqObj "list" #[] 0)).update s.heap.objs.size (Obj.mapSeq λx=>x++vs.toArray)).objs.size:=by rw[Heap.size_update,cE];exact fq _
 generalize (s.heap.push (seqObj "list" #[] 0)).update s.heap.objs.size (Obj.mapSeq λx=>x++vs.toArray)=h1 at old hsz ⊢;have there:(h1.push (seqObj "list" vs.toArray 0)).get? h1.objs.size=some (seqObj "list" vs.toArray 0):=aN _ rfl;have old2:∀b o,s.heap.get? b=some o->b≠h1.objs.size/\(h1.push (seqObj "list" vs.toArray 0)).get? b=some o:=λb o e=>⟨bg (bc (aP e) hsz),az _ (old b o e)⟩
 generalize h1.push (seqObj "list" vs.toArray 0)=h2 at there old2 ⊢;refine ay (bL (wpAny_call_entry_kw (s:={ s with heap:=h2 }) slot_list_sort ⟨_,there,rfl⟩ entry_list_sort ?_ (ksk_l1 _ _)));rw[ksk_t1];refine UH (s:={ s with heap:=h2 }) (lt:=lt) (Ky:=Ky) there few (λi v hv h3 tk k3=>?_) (λks h3 tk hl hK k3 l2=>?_) λp h3 tk c hp up k3 hc=>?_
 ·exact turn i v hv h3 tk λb o e=>k3 b o (old2 b o e).1 (old2 b o e).2
 ·exact kind ks h3 tk hl hK (λb o e=>k3 b o (old2 b o e).1 (old2 b o e).2) l2
 ·refine⟨_,rfl,?_⟩;exact aH ⟨_,rfl,q h3 tk _ p c hp up hsz (λb o e=>k3 b o (old2 b o e).1 (old2 b o e).2) hc⟩
end
end L2
namespace L2
section
open PySem PySem.W PySem.Calls PyProof.Rows
variable {prog:Program}{w:World}{A:Around}{s:Shared}
abbrev Rp (qual:Str)(params:Arguments)(body:Expr)(scope:Scope)(cl:List (Str×Addr))(pm cv ctv:Value):Obj:={ cls:=.type "function",data:=.func (kla_fn "<lambda>" qual params body scope cl pm cv ctv) }
theorem P9 {f a c':Addr} {qual x:Str} {params:Arguments} {scope:Scope} {pm ctv:Value} {j:Nat} {p1 p2 p3:Pos} {items:Array Value} {v:Value} (ho:s.heap.get? f=some (Rp qual params (.Subscript (.Name x p1) (.Constant (.int j) 0 p2) p3) scope [] pm (.ref c') ctv)) (hcd:s.heap.CodeRec (.ref c') qual) (nl:s.heap.NoLimit) (room:A.depth<recursionLimit)
  (hb:∀u,bindArgs (kla_fn "<lambda>" qual params (.Subscript (.Name x p1) (.Constant (.int j) 0 p2) p3) scope [] pm (.ref c') ctv) ⟨[u],[]⟩=pure [(x,u)]) (hx:scope.names.lookup x=some .local) (hk:scope.kind=.function) (hco:scope.isCoroutine=false) (hge:scope.isGenerator=false) (hce:∀y∈scope.names,y.2≠.cell)
  (hd:(x == ("__debug__":Str))=false) (hj:j<1000) (ht:IsTup s.heap a items) (hi:items[j]?=some v) :
  wpAny (model prog w) A (call (.ref f) [.ref a]) (λk s'=>k=v/\∃h' tk',s'={ s with heap:=h',toks:=tk' }/\∀b o,s.heap.get? b=some o->h'.get? b=some o) (λ_ _=>False) s:=by
 refine cI (kla_callFunE room ho rfl hco hge rfl hcd ?_);rw[hb];refine aH (wpAny_newFunctionEnv hce (λy hy=>by rw[aG.mp hy];exact hx) (λh₁ hns hsb=>⟨nl.fresh _ hsb,?_⟩) hk);have k1:∀b o,s.heap.get? b=some o->h₁.get? b=some o:=λb o e=>hsb.extBut b o (bg (aP e)) (az _ e)
 show codeAny _ _ (.expr _ (envX qual scope s.heap.objs.size f (.ref c') [])) _ _;have hv:[(x,Value.ref a)].reverse.lookup x=some (.ref a):=by simp
 have ht':=ht.keeps k1;have l1:j<items.size:=(fP.mp hi).1;refine kla_codeExpr (Subscript_ (gx (wpAny_loadName_local (v:=.ref a) (m:=λy=>[(x,Value.ref a)].reverse.lookup y) hk hx hns hv ?_) hd));refine wpAny_Constant_int ?_;exact fk (x:=v) ht'.typeIs slot_tuple_getitem.lookup (getItem_tuple (j:=j) ht' (by omega) (by omega) (by rw[seqIndex_of (by omega) (by omega)];simp) hi ⟨rfl,rfl,_,_,rfl,k1⟩)
end
end L2
namespace L2
section
open PySem PySem.Spec PyProof.Rows
variable {X:Cx}{pins:List (Addr×Obj)}{σ:St}{H:Hp}{s:Shared}
def SJ (c:Addr)(qual:Str):HO:=.ext λh=>h.CodeRec (.ref c) qual
theorem U6 {P:Program}{w:World}{h:Heap}{c:Addr}{qual:Str}(e:h.CodeRec (.ref c) qual):Bn P w H h c (SJ c qual):=by
 obtain⟨c2,o,vs,t,e1,e2,e3⟩:=id e;cases e1;exact⟨e,⟨o,e2⟩,λh1 h2 ⟨c3,o3,vs3,t3,z1,z2,z3⟩ k=>by cases z1;exact⟨_,o3,vs3,t3,rfl,k o3 z2,z3⟩⟩
def DS (P:Addr)(qual:Str)(pos:Pos)(H:Hp):Prop:=H P=some (.tbl #[])\/∃c,H P=some (.tbl #[rawInt pos.line,rawInt pos.col,.ref c])/\H c=some (SJ c qual)
def C7 (P:Addr)(H H':Hp):Prop:=∀b o,b≠P->H b=some o->H' b=some o
theorem C7.refl (P:Addr)(H:Hp):C7 P H H:=λ_ _ _ h=>h
theorem C7.trans {P:Addr}{H H1 H2:Hp}(a:C7 P H H1)(b:C7 P H1 H2):C7 P H H2:=λc o n h=>b c o n (a c o n h)
theorem AJ.t {H H':Hp}(a:AJ H H')(P:Addr):C7 P H H':=λb o _ h=>a b o h
theorem DS.some {P:Addr}{qual:Str}{pos:Pos}{H:Hp}(t:DS P qual pos H):∃ps,H P=some (.tbl ps):=by
 rcases t with h|⟨c,h,_⟩
 ·exact⟨_,h⟩
 ·exact⟨_,h⟩
theorem DS.same {P:Addr}{qual:Str}{pos:Pos}{H H':Hp}(t:DS P qual pos H)(e:AJ H H'):DS P qual pos H':=by
 rcases t with h|⟨c,h,h2⟩
 ·exact .inl (e _ _ h)
 ·exact .inr ⟨c,e _ _ h,e _ _ h2⟩
theorem C7.free {P:Addr}{qual:Str}{pos:Pos}{H H':Hp}(e:C7 P H H')(t:DS P qual pos H'){l:Addr}(h:H' l=none):H l=none:=by
 cases q:H l with
 |none=>rfl
 |some o=>
  by_cases z:l=P
  ·obtain⟨ps,hp⟩:=t.some;rw[z,hp] at h;cases h
  ·rw[e l o z q] at h;cases h
theorem C7.get {P:Addr}{qual:Str}{pos:Pos}{H H':Hp}(e:C7 P H H')(t:DS P qual pos H){b:Addr}{o:HO}(h:H b=some o)(n:∀ps,o≠.tbl ps):H' b=some o:=by
 refine e b o (λz=>?_) h;obtain⟨ps,hp⟩:=t.some;rw[z,hp] at h;exact n ps (br h).symm
theorem C7.sqT {P:Addr}{qual:Str}{pos:Pos}{K:PySem.W.Frag}{H H':Hp}{a:Addr}{xs:List V}(e:C7 P H H')(t:DS P qual pos H)(h:AS K H a xs):AS K H' a xs:=by
 rcases h with(h|⟨o,h⟩)|h
 ·exact .inl (.inl (e.get t h (by intro _ z;cases z)))
 ·exact .inl (.inr ⟨o,e.get t h (by intro _ z;cases z)⟩)
 ·exact .inr h
theorem C7.sqL {P:Addr}{qual:Str}{pos:Pos}{K:PySem.W.Frag}{H H':Hp}{a:Addr}{xs:List V}(e:C7 P H H')(t:DS P qual pos H)(h:A7 K H a xs):A7 K H' a xs:=by
 rcases h with(h|⟨o,h⟩)|h
 ·exact .inl (.inl (e.get t h (by intro _ z;cases z)))
 ·exact .inl (.inr ⟨o,e.get t h (by intro _ z;cases z)⟩)
 ·exact .inr h
theorem Inv.tabled {P:Addr}{ps more:Array Value}{h':Heap}{t':Nat}(I:Inv X pins σ H s)(hP:H P=some (.tbl ps))(k:∀b o,b≠P->s.heap.get? b=some o->h'.get? b=some o)(hP':h'.get? P=some { cls:=.none,data:=.fields (ps++more) }) :
  Inv X pins σ (upd H P (.tbl (ps++more))) { s with heap:=h',toks:=t' }:=by
 have nP:∀b,H b=none->b≠P:=λb e z=>by rw[z,hP] at e;cases e
 have nt:∀{b:Addr} {u:HO},H b=some u->(∀ps,u≠.tbl ps)->upd H P (.tbl (ps++more)) b=some u:=λ{b u} e n=>by
  rw[Ax λz=>by rw[z,hP] at e;exact n _ (br e).symm];exact e
 refine I.step (g':=s.gens) (d':=s.drawn) (ch:=[]) (λ_ z=>nomatch z) (λb o _ _ _ e n=>k b o (nP b n) e) (λb o _ _ _ e n=>⟨o.slots,k b o (nP b n) e⟩) (λb o _ _ n=>by rw[Ax (nP b n)];exact n) (λb o _ e=>?_)
  (λb xs e=>nt e (by intro _ z;cases z)) (λb o u e=>nt e (by intro _ z;cases z)) (λb qs e=>?_) (λm hm=>?_) (λb u e=>?_) I.bare
 ·by_cases z:b=P
  ·exact⟨_,by rw[z];exact hP'⟩
  ·exact⟨o,k b o z e⟩
 ·by_cases z:b=P
  ·rw[z,hP] at e;cases e;exact⟨more,by rw[z,Ae]⟩
  ·exact⟨#[],by rw[Ax z,e];simp⟩
 ·obtain⟨o,es,ep,ho,r⟩:=hm;exact⟨o,es,ep,k _ o (nP _ I.free) ho,r⟩
 ·by_cases z:b=P
  ·rw[z,Ae] at e;cases e;rw[z];exact hP'
  ·rw[Ax z] at e;refine(I.hok b u e).stay (λc v hc q=>k c v ?_ q) (λc q=>nt q (by intro _ z;cases z)) λc xs q=>nt q (by intro _ z;cases z)
   rcases hc with rfl|hc
   ·exact z
   ·intro y;rw[y,hP] at hc;cases hc
theorem Lk {α:Type}:∀{ts:List (Addr×α)} {its:List Value},Bd (ts.map λt=>V.ref t.1) its->its=ts.map λt=>Value.ref t.1
 |[],_,.nil=>rfl
 |t::ts,_,.cons r h=>by
  cases r;rw[aR,Lk h]
theorem Jh {α:Type}:∀(ts:List (Addr×α)),Bd (ts.map λt=>V.ref t.1) (ts.map λt=>Value.ref t.1)
 |[]=>.nil
 |t::ts=>.cons rfl (Jh ts)
theorem Vi {α:Type}(d:α)(ts:List (Addr×α)){idx:Array Nat}{lt:Nat->Nat->Bool}{R:α->α->Prop}(hp:MM ts.length idx)(up:JN lt idx ts.length)(hR:∀i j,i<ts.length->j<ts.length->lt i j=true->R (ts.getD i (0,d)).2 (ts.getD j (0,d)).2) :
  ∃us:List (Addr×α),us.Perm ts/\IZ (ts.map λt=>Value.ref t.1) idx=us.map (λt=>Value.ref t.1)/\us.Pairwise λx y=>R x.2 y.2:=by
 have lt':∀i∈idx.toList,i<ts.length:=λi hi=>eE.mp (hp.2.mem_iff.mp hi)
 refine⟨idx.toList.map λi=>ts.getD i (0,d),?_,?_,?_⟩
 ·have h3:=hp.2.map λi=>ts.getD i (0,d)
  have e3:(List.range ts.length).map (λi=>ts.getD i (0,d))=ts:=by
   refine e8 λi=>?_
   rw[aQ]
   by_cases hi:i<ts.length
   ·simp[hi]
   ·simp[hi]
  rw[e3] at h3;exact h3
 ·unfold IZ;rw[aL];refine aZ λi hi=>?_
  have hl:=lt' i hi;simp[hl]
 ·rw[dC];intro i j hi hj hij;have hi':i<idx.size:=by simpa using hi
  have hj':j<idx.size:=by simpa using hj
  have h4:=up i j hij (by rw[<-hp.1];exact hj');have e5:idx.getD i 0=idx[i]:=by simp[Array.getD,hi']
  have e6:idx.getD j 0=idx[j]:=by simp[Array.getD,hj']
  rw[e5,e6] at h4;simp only[List.getElem_map,Array.getElem_toList];exact hR _ _ (lt' _ (by simp)) (lt' _ (by simp)) h4
theorem MZ {α:Type}{d:α}{l:List α}(nd:l.Nodup){i j:Nat}(hi:i<l.length)(hj:j<l.length)(hij:i≠j):l.getD i d≠l.getD j d:=by
 have e1:l.getD i d=l[i]:=by simp[hi]
 have e2:l.getD j d=l[j]:=by simp[hj]
 rw[e1,e2];have pw:=dC.mp nd;intro z;rcases Nat.lt_or_gt_of_ne hij with q|q
 ·exact pw i j hi hj q z
 ·exact pw j i hj hi q z.symm
theorem QA:∀{ks:List Value} {kz:List Int},ks.length=kz.length->(∀(i:Nat) k,ks[i]?=some k->∃t,k=.int (kz.getD i 0) t)->IntsAre ks kz
 |[],[],_,_=>.nil
 |[],_::_,h,_=>by cases h
 |_::_,[],h,_=>by cases h
 |k::ks,z::kz,h,hk=>by
  obtain⟨t,e⟩:=hk 0 k rfl;rw[show k=Value.int z t from e];exact .cons z t (QA (by simpa using h) λi k' q=>by
   have:=hk (i+1) k' (by simpa using q);simpa using this)
theorem Tv {prog:Program}{w:World}{A:Around}{ks:List Value}{kz:List Int}(nd:kz.Nodup)(hl:ks.length=kz.length)(hk:∀(i:Nat) k,ks[i]?=some k->∃t,k=.int (kz.getD i 0) t) :
  Ordr ks.length (λi j=>decide (kz.getD i 0<kz.getD j 0)) (PySem.W.kas_ask prog w A oneType' ks) s:=by
 refine⟨λi j C hi hj hij hC=>?_,λi j k _ _ _ h1 h2=>?_,λi j hi hj hij h1=>?_⟩
 ·obtain⟨t,e⟩:=hk i _ (aU hi);obtain⟨u,e'⟩:=hk j _ (aU hj);unfold PySem.W.kas_ask;rw[show ks.getD i Value.none=.int (kz.getD i 0) t by rw[<-e];simp[hi],show ks.getD j Value.none=.int (kz.getD j 0) u by rw[<-e'];simp[hj]];exact PySem.W.kat_lt_int hC
 ·rw[bK] at *;omega
 ·rw[fU] at h1;rw[bK];have:=MZ (d:=0) nd (by omega:i<kz.length) (by omega:j<kz.length) hij;omega
end
end L2
namespace L2
section
open PySem PySem.Spec PyProof.Rows PySem.Calls
variable {X:Cx}
structure LamAt (K:PySem.W.Frag) (mg:Str->Option Value) (base:Heap) (cdv:Value) (P:Addr):Prop where
 code:∃c,cdv=.ref c/\PySem.W.codeHdIn K c P=true
 bm:∃bm ob,mg "__builtins__"=some (.ref bm)/\bm≠builtinsNs/\bm≠mainGlobals/\base.get? bm=some ob/\ob.cls=.type "module"/\ob.dict=some builtinsNs/\ob.data=.plain
structure LamTx (x:Str) (params:Arguments) (scope:Scope):Prop where
 bind:∀(qual:Str) (body:Expr) (pm cv ctv u:Value),bindArgs (PySem.W.kla_fn "<lambda>" qual params body scope [] pm cv ctv) ⟨[u],[]⟩=pure [(x,u)]
 dflt:∀env,defaultsOf params env=([],[])
 clos:∀env,closureFor scope env=pure []
 loc:scope.names.lookup x=some .local
 kind:scope.kind=.function
 co:scope.isCoroutine=false
 ge:scope.isGenerator=false
 ce:∀y∈scope.names,y.2≠.cell
 db:(x == ("__debug__":Str))=false
theorem Qb {params:Arguments} {body:Expr} {scope:Scope} {cl:List (Str×Addr)} {lp:Pos} {P:Addr} {pins:List (Addr×Obj)} {σ:St} {H:Hp} {s:Shared} {Q:Value->Shared->Prop} {E:Value->Shared->Prop} (dfl:∀env,defaultsOf params env=([],[])) (hcl:closureFor scope X.env=pure cl) (at_:LamAt X.K X.mg X.base X.env.code P) (I:Inv X pins σ H s) (tb:DS P (X.env.qual++"<lambda>") lp H)
  (h:∀f c' pm ctv H2 s2,Inv X pins σ H2 s2->C7 P H H2->DS P (X.env.qual++"<lambda>") lp H2->s2.heap.get? f=some (Rp (X.env.qual++"<lambda>") params body scope cl pm (.ref c') ctv)->s2.heap.CodeRec (.ref c') (X.env.qual++"<lambda>")->Q (.ref f) s2) :
  wpAny (model X.prog X.w) X.A (eval (.Lambda params body scope lp) X.env) Q E s:=by
 obtain⟨⟨c,hc,hcd⟩,bm,ob,b1,b2,b3,b4,b5,b6,b7⟩:=at_;have C:=gD I.kIn hcd;have hg:s.heap.Ns mainGlobals X.mg:=I.mod.glob.keeps I.bk;have atP:∀{ps:Array Value},H P=some (.tbl ps)->s.heap.get? P=some (PySem.W.tabObj ps):=λ{ps} e=>I.hok P _ e
 have hgP:∀{ps:Array Value},H P=some (.tbl ps)->mainGlobals≠P:=λ{ps} e q=>by
  obtain⟨o,es,ep,e1,hd,_⟩:=hg;rw[q,atP e] at e1;cases e1;cases hd
 have bb:∀{ps:Array Value},H P=some (.tbl ps)->s.heap.BuiltinsAt X.mg P:=λ{ps} e=>⟨bm,ob,b1,b2,b3,(λq=>by
  have e1:=I.bk _ _ b4;rw[q,atP e] at e1;cases e1;cases b5),I.bk _ _ b4,b5,b6,b7⟩
 refine PySem.W.kla_eval (dfl _) ?_;rcases tb with e|⟨c',e,e2⟩
 ·refine PySem.W.kla_makeFunction (ps:=#[]) (mg:=X.mg) hcl I.ok.glob hg hc C (atP e) trivial rfl (hgP e) (bb e) λc' ctv h' tk hx hge hlt hrec htb=>?_
  have k1:∀b o,b≠P->s.heap.get? b=some o->(h'.push (PySem.W.kla_obj "<lambda>" (X.env.qual++"<lambda>") params body scope cl ((X.mg "__name__").getD .none) c' ctv)).get? b=some o:=λb o nb q=>az _ (hx b o nb q)
  have I2:=I.tabled (t':=tk) (more:=#[rawInt lp.line,rawInt lp.col,.ref c']) e k1 (az _ htb);have hr2:(h'.push (PySem.W.kla_obj "<lambda>" (X.env.qual++"<lambda>") params body scope cl ((X.mg "__name__").getD .none) c' ctv)).CodeRec (.ref c') (X.env.qual++"<lambda>"):=by
   obtain⟨c2,o,vs,t,z1,z2,z3⟩:=hrec;exact⟨c2,o,vs,t,z1,az _ z2,z3⟩
  have n0:s.heap.get? c'=none:=cx hge;have nP:c'≠P:=λz=>by rw[z,atP e] at n0;cases n0
  have nH:H c'=none:=I.hok.fresh hge;have n2:upd H P (.tbl (#[] ++ #[rawInt lp.line,rawInt lp.col,.ref c'])) c'=none:=by rw[Ax nP];exact nH
  obtain⟨m,hn,_⟩:=id I.loc;obtain⟨oL,_,_,hoL,_⟩:=id hn;have I3:=I2.know (e:=c') (o:=SJ c' (X.env.qual++"<lambda>")) (λxx=>by
   cases q:X.s₀.heap.get? c' with
   |none=>rfl
   |some o=>
    obtain⟨o',z⟩:=I.base.there c' o q xx;rw[n0] at z;cases z) (λz=>by rw[<-z,n0] at hoL;cases hoL) (λx c q z=>by
    obtain⟨w',oc,e1,_⟩:=I.cell x c q;rw[z,n0] at e1;cases e1) (λp hp z=>by
    have:=(I.pin p hp).1;rw[z,n0] at this;cases this) n2 (U6 hr2)
  refine h _ c' _ ctv _ _ I3 (λb o nb q=>?_) (.inr ⟨c',?_,Ae⟩) (aN _ rfl) hr2
  ·rw[Ax (λz=>by rw[z,nH] at q;cases q),Ax nb];exact q
  ·rw[Ax (Ne.symm nP),Ae];rfl
 ·obtain⟨hr,_,_⟩:Bn X.prog X.w H s.heap c' (SJ c' (X.env.qual++"<lambda>")):=I.hok c' _ e2;refine PySem.W.kla_makeFunctionHit (cv:=.ref c') (mg:=X.mg) hcl I.ok.glob hg hc C (atP e) ?_ ?_ (bb e) λctv h' tk k hsz=>?_
  ·exact(TriplesOk_snoc lp.line lp.col (.ref c') [] trivial:TriplesOk ([]++[rawInt lp.line,rawInt lp.col,.ref c']))
  ·exact(codeAmong_snoc (pos:=lp) (c:=.ref c') [] trivial rfl:codeAmong lp ([]++[rawInt lp.line,rawInt lp.col,.ref c'])=some (.ref c'))
  ·have k1:∀b o,s.heap.get? b=some o->(h'.push (Rp (X.env.qual++"<lambda>") params body scope cl ((X.mg "__name__").getD .none) (.ref c') ctv)).get? b=some o:=λb o q=>az _ (k b o q)
   refine h _ c' _ ctv H _ (I.kept (t':=tk) k1) (.refl P H) (.inr ⟨c',e,e2⟩) (aN _ rfl) ?_;obtain⟨c2,o,vs,t,z1,z2,z3⟩:=hr;exact⟨c2,o,vs,t,z1,k1 _ _ z2,z3⟩
end
end L2
namespace L2
section
open PySem PySem.Spec PyProof.Rows PySem.Calls
variable {X:Cx}
def Xu (K:PySem.W.Frag)(P:Addr)(qual:Str)(lp:Pos)(j:Nat)(ta:TA):TE:=λσ H Q=>ta σ H λvs H1=>∃(a:Addr) (ts:List (Addr×Int)),vs=[.ref a]/\A7 K H1 a (ts.map λt=>V.ref t.1)/\ts.length<64/\(∀t∈ts,∃xs,AS K H1 t.1 xs/\xs[j]?=some (.int t.2))/\(ts.map (·.2)).Nodup/\DS P qual lp H1/\
 ∀(us:List (Addr×Int)) p H2,us.Perm ts->us.Pairwise (λx y=>x.2<y.2)->C7 P H1 H2->DS P qual lp H2->H2 p=none->Q (.ref p) (upd H2 p (.lst (us.map λt=>V.ref t.1)))
theorem VL {e:Expr} {ta:TA} {x:Str} {params:Arguments} {scope:Scope} {j:Nat} {P:Addr} {k:Nat} {p pos kp lp p1 p2 p3:Pos} {qual:Str} (hr:Room k X.A) (L:LamTx x params scope) (at_:LamAt X.K X.mg X.base X.env.code P) (hj:j<1000) (hq:X.env.qual++"<lambda>"=qual) (hg:Gl X "sorted") (hm:X.mg "sorted"=none) (ha:PA X [e] ta)
  (he:backTo pos (starEach [e] X.env)=(false,eval e X.env)::backTo pos (starEach [] X.env):=by rfl)
  (hpl:(backTo pos (starEach [e] X.env)).any (·.1)=false:=by rfl) :
  PE X (.Call (.Name "sorted" p) [e] [⟨some "key",.Lambda params (.Subscript (.Name x p1) (.Constant (.int j) 0 p2) p3) scope lp,kp⟩] pos) (Xu X.K P qual lp j ta):=by
 subst hq;intro pins s σ H Q I h;refine bZ (Kz I hg hm IE (Qn hpl rfl ?_));have hsp:=ha pos pins s σ H _ I h;rw[he] at hsp ⊢;refine evalArgs_kwB rfl (Cq hsp λus s1 ⟨vs,H1,I1,r1,q1⟩=>?_);obtain⟨a,ts,rfl,hl,few,ht,nd,tb,q⟩:=q1;obtain⟨u,rfl,ru⟩:=vals1 r1;cases ru;refine kws_cons (Qb L.dflt (L.clos _) at_ I1 tb λf c' pm ctv H2 s2 I2 st tb2 hf hcr=>kws_nil ?_);obtain⟨its,rv,p1',hz⟩:=I2.list (st.sqL tb hl);have ei:=Lk rv;have li:its.length=ts.length:=by rw[ei,ax]
 have gk:∀i,i<ts.length->(ts.map (·.2)).getD i 0=(ts.getD i (0,0)).2:=λi hi=>by simp[hi]
 refine M5 (vs:=its) (Ky:=λi k=>∃t,k=Value.int ((ts.map (·.2)).getD i 0) t) (lt:=λi j=>decide ((ts.map (·.2)).getD i 0<(ts.map (·.2)).getD j 0)) p1'.isList (by rw[li];exact few) (λi v hv h' tk k=>?_) (λks h' tk hlk hK k l2=>?_) λh' tk pp idx c hp up lp' k hc=>?_
 ·have il:i<ts.length:=by rw[<-li];exact(bh.mp hv).1
  have ev:v=.ref (ts[i]).1:=by
   rw[ei,aQ,aU il] at hv;exact(br hv).symm
  subst ev;obtain⟨xs,hx,hxj⟩:=ht _ (cB il);obtain⟨ys,r2,hy,_⟩:=I2.tuple (st.sqT tb hx);obtain⟨y,hyj,ry⟩:=r2.get hxj;obtain⟨t,rfl⟩:=ry;have cr:h'.CodeRec (.ref c') (X.env.qual++"<lambda>"):=by
   obtain⟨c2,o,vs,t,z1,z2,z3⟩:=hcr;exact⟨c2,o,vs,t,z1,k _ _ z2,z3⟩
  refine bf (P9 (s:={ s2 with heap:=h',toks:=tk }) (A:=X.A.in1.in1) (items:=ys.toArray) (j:=j) (v:=.int (ts[i]).2 t) (k _ _ hf) cr (I2.nolimit.keeps k) hr.depth (λu=>L.bind _ _ _ _ _ u) L.loc L.kind L.co L.ge L.ce L.db hj (hy.keeps k) (by simpa using hyj)) (λkv s' z=>?_) λ_ _ z=>z
  obtain⟨rfl,h3,tk3,rfl,k3⟩:=z;exact⟨⟨t,by rw[gk i il];simp[il]⟩,h3,tk3,rfl,k3⟩
 ·have hl2:ks.length=(ts.map (·.2)).length:=by rw[hlk,li,ax]
  rw[ksk_kind (kz:=ts.map (·.2)) (by simpa using QA hl2 hK) (by rw[aY];omega)];refine aH ⟨rfl,?_⟩;have:=Tv (prog:=X.prog) (w:=X.w) (A:=X.A.in1.in1) (s:={ s2 with heap:=h',toks:=tk }) nd hl2 hK;rw[hlk] at this;exact this
 ·rw[li] at hp up;obtain⟨us,u1,u2,u3⟩:=Vi (0:Int) ts (R:=λa b=>a<b) hp up λi j hi hj hlt=>by
   rw[bK,gk i hi,gk j hj] at hlt;exact hlt
  rw[ei,u2] at hc;refine⟨.ref pp,_,I2.laid (t':=tk) (o:=.lst (us.map λt=>V.ref t.1)) k lp' ?_,rfl,q us pp H2 u1 u3 st tb2 (I2.hok.fresh lp')⟩;refine⟨?_,_,c,Jh us,hc⟩;rw[ax,u1.length_eq,bA];omega
end
end L2
namespace L2
section
open PySem PySem.Spec PyProof.Rows
def Rx (mg:Str->Option Value)(base:Heap):Prop:=∃bm ob,mg "__builtins__"=some (.ref bm)/\bm≠builtinsNs/\bm≠mainGlobals/\base.get? bm=some ob/\ob.cls=.type "module"/\ob.dict=some builtinsNs/\ob.data=.plain
def Vs (Ts:List Addr)(H:Hp):Prop:=(∀P∈Ts,H P=some (.tbl #[]))/\∀b,H b=none\/(∃o xs,H b=some (.frz o (.lst xs)))\/(b∈Ts/\H b=some (.tbl #[]))
def EF (own:Hp)(Ts:List Addr):Hp:=λb=>if b∈Ts then some (.tbl #[]) else own b
theorem Th {P:Program} {w:World} {K:PySem.W.Frag} {mg mb:Str->Option Value} {CX:SE} {k:Nat} {fa a:Addr} {fd:FuncData} {x:Str} {sp:Sp} {s₁:Shared} {vs:List Value} {ns:List Int} {Ts:List Addr}
  (KX:K.In s₁.heap) (hns:s₁.heap.Ns mainGlobals mg) (hb:s₁.heap.Ns builtinsNs mb) (hbb:∀x:Str,x≠"__name__"->mb x=bootBuiltins x) (hlim:s₁.heap.NoLimit) (hbm:Rx mg s₁.heap) (hg:s₁.gens = #[])
  (tabs:∀T∈Ts,s₁.heap.get? T=some (PySem.W.tabObj #[])/\K.lookup T=none/\∃c,PySem.W.codeHdIn K c T=true)
  (ha:s₁.heap.get? a=some { cls:=.type "list",data:=.seq vs.toArray }) (hi:IntsAre vs ns) (hl:ns.length<=sizeLine) (hr:Room k callerA)
  (F:∀base:Heap,K.In base->base.Ns mainGlobals mg->Rx mg base->FnOk P w K mg base CX k fa fd [x] sp) (hbind:∀(s:Shared) (u:Value),BindsTo s fd ⟨[u],[]⟩ [(x,u)])
  (hsp:∀H:Hp,Vs Ts H->A7 K H a (ns.map V.int)->sp [.ref a] H (λv _=>v=.bl true) λ_ _ _=>False)
  (hCX:∀H e s',CX [] H s₁ (λ_ _ _=>False) e s'->False) :
  codeAny (model P w) callerA (.call (.ref fa) ⟨[.ref a],[]⟩) (λr s'=>r=.ok (.ret (.bool true))/\OldK s₁.heap s'.heap/\s'.os=s₁.os/\AllBare s'.gens) s₁:=by
 have aT:a∉Ts:=λz=>by
  have:=(tabs a z).1;rw[ha] at this;cases this
 have core:∀own:Hp,(∀b,own b=none\/∃o xs,own b=some (.frz o (.lst xs)))->A7 K own a (ns.map V.int)->Iy P w own s₁.heap->(∀b,own b≠none->b=a)->(own a≠none->K.lookup a=none)->
   codeAny (model P w) callerA (.call (.ref fa) ⟨[.ref a],[]⟩) (λr s'=>r=.ok (.ret (.bool true))/\OldK s₁.heap s'.heap/\s'.os=s₁.os/\AllBare s'.gens) s₁:=by
  intro own hO hS hok hA hK;have inT:∀{b},b∈Ts->EF own Ts b=some (.tbl #[]):=λ{b} h=>aI h
  have notT:∀{b},b∉Ts->EF own Ts b=own b:=λ{b} h=>aF h
  have only:Vs Ts (EF own Ts):=⟨λT hT=>inT hT,λb=>by
   by_cases z:b∈Ts
   ·exact .inr (.inr ⟨z,inT z⟩)
   ·rw[notT z];exact(hO b).imp id .inl⟩
  have hok':Iy P w (EF own Ts) s₁.heap:=λb u e=>by
   by_cases z:b∈Ts
   ·rw[inT z] at e;cases e;exact(tabs b z).1
   ·rw[notT z] at e;rcases hO b with q|⟨o,xs,q⟩
    ·rw[q] at e;cases e
    ·rw[q] at e;cases e;obtain⟨e1,e2⟩:=hok b _ q;exact⟨e1,e2⟩
  have free:∀{b:Addr} {o:Obj},s₁.heap.get? b=some o->o.cls≠.none->b≠a->EF own Ts b=none:=λ{b o} e hc na=>by
   have z:b∉Ts:=λz=>by
    have:=(tabs b z).1;rw[e] at this;cases this;exact hc rfl
   rw[notT z];cases q:own b with
   |none=>rfl
   |some u=>exact absurd (hA b (by rw[q];simp)) na
  have freeN:∀{b:Addr} {o:Obj} {es:Array DictEntry} {ep:Nat},s₁.heap.get? b=some o->o.data=.dict es ep->EF own Ts b=none:=λ{b o es ep} e d=>by
   have z:b∉Ts:=λz=>by
    have:=(tabs b z).1;rw[e] at this;cases this;cases d
   rw[notT z];cases q:own b with
   |none=>rfl
   |some u=>
    have:=hA b (by rw[q];simp);subst this;rw[ha] at e;cases e;cases d
  have nsK:∀{b:Addr} {m:Str->Option Value},s₁.heap.Ns b m->(Pu s₁.heap (EF own Ts)).Ns b m:=λ{b m} ⟨o,es,ep,e,d,r⟩=>⟨o,es,ep,M9 e (freeN e d),d,r⟩
  have hKb:K.In (Pu s₁.heap (EF own Ts)):=λb o e=>M9 (KX b o e) (by
   have z:b∉Ts:=λz=>by rw[(tabs b z).2.1] at e;cases e
   rw[notT z];cases q:own b with
   |none=>rfl
   |some u=>
    have e':b=a:=hA b (by rw[q];simp);subst e';rw[hK (by rw[q];simp)] at e;cases e)
  have hM:Mod K mg (Pu s₁.heap (EF own Ts)):=⟨hKb,nsK hns,⟨mb,nsK hb,hbb⟩,let⟨mc,h1,h2⟩:=hlim;⟨mc,nsK h1,h2⟩⟩
  have hB:Rx mg (Pu s₁.heap (EF own Ts)):=by
   obtain⟨bm,ob,b1,b2,b3,b4,b5,b6⟩:=hbm;refine⟨bm,ob,b1,b2,b3,M9 b4 (free b4 (by rw[b5];intro z;cases z) λz=>?_),b5,b6⟩;rw[z,ha] at b4;cases b4;exact absurd b5 (by intro y;injection y with y;exact absurd y (by decide))
  have e0:Env0 P w K mg (Pu s₁.heap (EF own Ts)) callerA [] s₁ (EF own Ts):=⟨rfl,hM,λb o e=>WV e,eW (Uu _ _),trivial,λb hb=>absurd (show b∈([]:List Addr) from hb) (by simp),hok',.of_eq hg⟩
  have hS':A7 K (EF own Ts) a (ns.map V.int):=by
   rcases hS with(h|⟨o,h⟩)|h
   ·exact .inl (.inl (by rw[notT aT];exact h))
   ·exact .inl (.inr ⟨o,by rw[notT aT];exact h⟩)
   ·exact .inr h
  refine cP ((F _ hKb (nsK hns) hB).run callerA [] s₁ (EF own Ts) ⟨[.ref a],[]⟩ [.ref a] [.ref a] _ _ hr e0 (hbind s₁ (.ref a)) (.cons rfl .nil) (hsp _ only hS')) λr s' h=>?_
  match r,h with
  | .error e,h=>exact(hCX _ e s' h).elim
  | .ok (.ret u),h=>
   obtain⟨v,H',os,bare,un,hok2,r',q⟩:=h;have q':v=.bl true:=q;subst q';obtain rfl:u=Value.bool true:=r';refine⟨rfl,⟨λb o e=>?_,λb o e=>?_⟩,os,bare⟩
   ·rcases only.2 b with z|⟨ob,xs,z⟩|⟨zT,z⟩
    ·exact .inl (un.keep b o e z (by intro y;exact absurd (show b∈([]:List Addr) from y) (by simp)) (by simp))
    ·obtain⟨e1,_⟩:=hok' b _ z;obtain⟨e2,_⟩:=hok2 b _ (un.frzs b ob _ z);rw[e] at e1;cases e1;exact .inl e2
    ·obtain⟨t1,_,c,t3⟩:=tabs b zT;obtain⟨more,m1⟩:=un.tbls b _ z;have m2:s'.heap.get? b=some { cls:=.none,data:=.fields (#[]++more) }:=hok2 b _ m1;rw[e] at t1;cases t1;exact .inr (.inl ⟨((gD KX t3).tab e).isCodeTable,rfl,#[],more,rfl,m2⟩)
   ·exact un.there b o e (by simp)
 cases hk:K.lookup a with
 |some o=>
  have e:=KX a o hk;rw[ha] at e;cases e;refine core (λ_=>none) (λ_=>.inl rfl) (.inr ⟨_,vs.toArray,_,hk,rfl,rfl,rfl,by rw[aY,hi.length];exact hl,by simpa using Lv hi⟩) (λb u z=>by cases(show(none:Option HO)=some u from z)) (λb z=>absurd rfl z) λz=>absurd rfl z
 |none=>
  refine core (λb=>if b=a then some (.frz { cls:=.type "list",data:=.seq vs.toArray } (.lst (ns.map V.int))) else none) (λb=>?_) (.inl (.inr ⟨{ cls:=.type "list",data:=.seq vs.toArray },aI rfl⟩)) (λb u z=>?_) (λb z=>?_) λ_=>hk
  ·by_cases hb:b=a
   ·exact .inr ⟨_,_,aI hb⟩
   ·exact .inl (aF hb)
  ·by_cases hb:b=a
   ·cases(aI hb).symm.trans z;subst hb;exact⟨ha,by rw[ax];exact hl,vs,_,Lv hi,ha⟩
   ·cases(aF hb).symm.trans z
  ·by_cases hb:b=a
   ·exact hb
   ·exact absurd (aF hb) z
theorem UC {l:PySem.W.OpenLaw} {n k:Nat} {q:Program} {loose:List Str} {XP:(Str->Option Value)->Heap->Prop} {YP:World->Heap->Prop} {d:DefRec} {K:Params->PySem.W.Frag} {CX:World->SE} {sp:World->Sp} {x:Str} {Ts:List Addr}
  (hn:l.most=some n) (hn2:n<=sizeLine) (hdf:d.params.defaults=[]) (hr:Room k callerA)
  (hY:∀(w:World) (h:Heap),YP w h->(K w.params).In h) (hT:∀(w:World) (h:Heap),YP w h->∀T∈Ts,h.get? T=some (PySem.W.tabObj #[]))
  (F:∀(w:World) (mg:Str->Option Value) (fa:Addr) (h:Heap),(K w.params).In h->h.Ns mainGlobals mg->mg d.name=some (.ref fa)->
   ∃fd:FuncData,(∀(s:Shared) (u:Value),BindsTo s fd ⟨[u],[]⟩ [(x,u)])/\(∀T∈Ts,(K w.params).lookup T=none/\∃c,PySem.W.codeHdIn (K w.params) c T=true)/\
    ∀base:Heap,(K w.params).In base->base.Ns mainGlobals mg->Rx mg base->FnOk l.prog w (K w.params) mg base (CX w) k fa fd [x] (sp w))
  (hsp:∀(w:World) (H:Hp) (a:Addr) (ns:List Int),ns.length<=n->Vs Ts H->A7 (K w.params) H a (ns.map V.int)->sp w [.ref a] H (λv _=>v=.bl true) λ_ _ _=>False)
  (hCX:∀(w:World) (H:Hp) (s:Shared) (e:Value) (s':Shared),CX w [] H s (λ_ _ _=>False) e s'->False) :
  PySem.W.WalkO q loose XP YP l.row.toRowW d [] (λf vs=>PySem.call f vs):=by
 refine Att.QK hn hdf λw s₀ s₁ mg mb fa o pm cd doc a vs ns G Y ho hd hcd hmg hobj hints hlen hg=>?_
 have KX:=hY w _ Y;obtain⟨fd,hb,ht,hF⟩:=F w mg fa _ KX G.T.g hmg;have bm:Rx mg s₁.heap:=by
  obtain⟨bm,ob,b1,b2,b3,b4,b5,b6⟩:=G.T.bmain;refine⟨bm,ob,b1,b2,λz=>?_,b3,b4,b5,b6⟩;obtain⟨o,es,ep,e,hd,_⟩:=G.T.g;rw[z,e] at b3;cases b3;rw[hd] at b6;cases b6
 exact Th KX G.T.g G.T.b G.T.builtins G.T.nolimit bm hg (λT h=>⟨hT w _ Y T h,ht T h⟩) hobj hints (bj hlen hn2) hr hF hb (λH hO hS=>hsp w H a ns hlen hO hS) λH e s'=>hCX w H s₁ e s'
theorem Fun.okC {P:Program} {w:World} {K:PySem.W.Frag} {mg:Str->Option Value} {base:Heap} {x qual:Str} {st:Stmt} {f:Addr} {fd:FuncData} {N ps:List Str} {k:Nat} {sp:Sp} (F:Fun K x qual st f fd) (S:FnScope N ps (Ac st)) (len:∀vs H Q E,sp vs H Q E->vs.length=ps.length)
  (hbody:∀(cdv:Value) (A:Around) (outer:List Env) (s:Shared) (H:Hp) (vs:List V) (Q:VK) (E:XK),fd.code=cdv->Room k (A.deeper (PyProof.Rows.envOfC qual (Ac st) s.heap.objs.size f cdv))->sp vs H Q E->
   ∃t,NG (A4 FL P w K mg base N qual (Ac st) f cdv A outer s H E).nox (Ar st) t/\t { nx:=λ_ H'=>Q .non H',rt:=Q } (start N vs) H):FnOk P w K mg base FL (k+1) f fd ps sp:=by
 obtain⟨oc,od,kV,doc,pm,an,cdv,ct,osl,rfl,lk,hcd⟩:=F.ex;refine VM lk hcd S len λA outer s H vs Q E hr hsp=>?_
 obtain⟨t,h,q⟩:=hbody cdv A outer s H vs Q E rfl hr hsp;exact⟨t,h.nox,q⟩
end
end L2
namespace L2
end L2
namespace L2
section
open PySem
variable {α:Type}
theorem KC {J:It} {ps:List α} {g:α->V} {fr:List (Option Nat)} {k:Nat} {tt:TT} {te:TE} {Q:VK} {σ:St} {H:Hp} (p:α->Bool) (P:α->V->Hp->Prop) (hP:∀x y H1 H2,P x y H1->AJ H1 H2->P x y H2)
  (hU:∀x y H1 l us us',P x y H1->H1 l=some (.lst us)->P x y (upd H1 l (.lst us'))) (hJ:Kd J H (ps.map g)) (hn:ps.length<=1000000)
  (htest:∀x∈ps,∀(H':Hp) (R:Bool->Hp->Prop),AJ H H'->(∀H'',AJ H' H''->R (p x) H'')->tt ((stC fr σ).set k (some (g x))) H' R)
  (helt:∀x∈ps,p x=true->∀(H':Hp) (R:VK),AJ H H'->(∀y H'',AJ H' H''->P x y H''->R y H'')->te ((stC fr σ).set k (some (g x))) H' R)
  (hQ:∀l H' (ys:List (α×V)),H l=none->AJ H H'->H' l=some (.lst (ys.map (·.2)))->ys.map (·.1)=ps.filter p->(∀q∈ys,P q.1 q.2 H')->Q (.ref l) H'):Jt fr (CG k) tt te σ Q J H:=by
 intro l hl;refine⟨λi m σ' H'=>m=ps.length-i/\i<=ps.length/\(∀y,σ'.set k y=(stC fr σ).set k y)/\AJ H H'/\∃ys:List (α×V),H' l=some (.lst (ys.map (·.2)))/\ys.map (·.1)=(ps.take i).filter p/\∀q∈ys,P q.1 q.2 H',
  ⟨ps.length,by simp,bC _,λ_=>rfl,Ai hl _,[],by rw[Ae];rfl,rfl,λ_ h=>nomatch h⟩,?_⟩
 rintro i m σ' H' ⟨rfl,hi,hσ,hs,ys,hl',e1,hys⟩
 obtain⟨h1,h2,h3⟩:=hJ H' hs i;rw[ax] at h1 h2 h3
 by_cases hlt:i<ps.length
 ·refine .inr ⟨h1 hlt,λx H'' y=>?_⟩;obtain⟨rfl,hx⟩:=h2 x H'' y;have hx:=hx hlt;rw[aQ,aU hlt] at hx;cases hx;have hm:ps[i]∈ps:=cB hlt;have et:(ps.take (i+1)).filter p=(ps.take i).filter p++(if p ps[i]=true then[ps[i]] else[]):=by
   rw[cL,aU hlt,cp];cases q:p ps[i]<;>simp[q]
  have le:ys.length<=i:=by
   have a:=congrArg List.length e1;have b:=bp p (ps.take i);rw[ax] at a;rw[bY] at b;omega
  show tt (σ'.set k (some (g ps[i]))) H'' _;rw[hσ];refine htest _ hm H'' _ hs λH0 s0=>?_
  have hs0:=hs.trans s0;refine HL (λc=>?_) (λc=>?_)
  ·refine helt _ hm c H0 _ hs0 λv H4 s4' hv=>?_
   have s4:=s0.trans s4';have hl4:=s4.get hl';refine⟨_,hl4,E8 (by rw[ax];omega),ps.length-(i+1),by omega,rfl,hlt,λy=>by rw[eY],Fo (hs.trans s4) hl _,ys++[(ps[i],v)],?_,?_,λq hq=>?_⟩
   ·rw[Ae,bx];rfl
   ·rw[et,aI c,bx,e1];rfl
   ·rcases bu.mp hq with h|h
    ·exact hU _ _ _ _ _ _ (hP _ _ _ _ (hys q h) s4) hl4
    ·rw[aG.mp h];exact hU _ _ _ _ _ _ hv hl4
  ·exact⟨ps.length-(i+1),by omega,rfl,hlt,λy=>by rw[eY],hs0,ys,s0.get hl',by rw[et,aF c,bq];exact e1,λq hq=>hP _ _ _ _ (hys q hq) s0⟩
 ·have e:i=ps.length:=by omega
  subst e;exact .inl ⟨h3 (aD _),hQ l H' ys hl hs hl' (by rw[e1,bF (aD _)]) hys⟩
theorem WK {ys:List (α×V)}{f:α->V}(h:∀q∈ys,q.2=f q.1):ys.map (·.2)=(ys.map (·.1)).map f:=by
 rw[aL];exact aZ λq hq=>h q hq
theorem Td {J:It} {ps:List α} {g:α->V} {fr:List (Option Nat)} {k:Nat} {tt:TT} {te:TE} {Q:VK} {σ:St} {H:Hp} (p:α->Bool) (f:α->V) (hJ:Kd J H (ps.map g)) (hn:ps.length<=1000000)
  (htest:∀x∈ps,∀(H':Hp) (R:Bool->Hp->Prop),AJ H H'->(∀H'',AJ H' H''->R (p x) H'')->tt ((stC fr σ).set k (some (g x))) H' R)
  (helt:∀x∈ps,p x=true->∀(H':Hp) (R:VK),AJ H H'->(∀H'',AJ H' H''->R (f x) H'')->te ((stC fr σ).set k (some (g x))) H' R)
  (hQ:∀l H',H l=none->AJ H H'->H' l=some (.lst ((ps.filter p).map f))->Q (.ref l) H'):Jt fr (CG k) tt te σ Q J H:=by
 refine KC p (λx y _=>y=f x) (λ_ _ _ _ h _=>h) (λ_ _ _ _ _ _ h _=>h) hJ hn htest (λx hx hp H' R s' hR=>helt x hx hp H' R s' λH'' s''=>hR _ H'' s'' rfl) λl H' ys nl s' h' e hq=>hQ l H' nl s' ?_
 rw[<-e,<-WK hq];exact h'
theorem Cv {J:It} {ps:List α} {g:α->V} {fr:List (Option Nat)} {k:Nat} {tt:TT} {te:TE} {Q:VK} {σ:St} {H:Hp} (p:α->Bool) (f:α->V) (hJ:Kd J H (ps.map g)) (hn:ps.length<=1000000)
  (htest:∀x∈ps,∀(H':Hp) (R:Bool->Hp->Prop),AJ H H'->R (p x) H'->tt ((stC fr σ).set k (some (g x))) H' R)
  (helt:∀x∈ps,p x=true->∀(H':Hp) (R:VK),AJ H H'->(∀H'',AJ H' H''->R (f x) H'')->te ((stC fr σ).set k (some (g x))) H' R)
  (hQ:∀l H',H l=none->AJ H H'->H' l=some (.lst ((ps.filter p).map f))->Q (.ref l) H'):Jt fr (CG k) tt te σ Q J H:=
 Td p f hJ hn (λx hx H' R s' hR=>htest x hx H' R s' (hR H' (AJ.refl _))) helt hQ
end
end L2
namespace L2
section
open PySem
variable {X:Cx}{K:PySem.W.Frag}
theorem RW (h:X.K=K):JS X (compareOp .In) (Zp K false):=by subst h;exact Li
theorem NO (h:X.K=K):JS X (compareOp .NotIn) (Zp K true):=by subst h;exact P0
end
end L2
namespace L2
end L2
namespace L2
end L2
namespace L2
end L2
namespace L2
section
open PySem PySem.W PySem.Calls PyProof.Rows
variable {s:Shared}
abbrev NH (a b:Str):Prop:=a.cps.toList<b.cps.toList
theorem Px {a b:Str}(h:¬NH a b)(ne:a≠b):NH b a:=by
 rcases Classical.em (NH b a) with z|z
 ·exact z
 ·exact absurd (show a=b by
   cases a;cases b;exact congrArg Str.mk (dR.mp (List.le_antisymm (List.not_lt.mp z) (List.not_lt.mp h)))) ne
theorem Qs:∀{ks:List Value} {kz:List Str},ks.length=kz.length->(∀(i:Nat) k,ks[i]?=some k->∃t,k=.str (kz.getD i ⟨#[]⟩) t)->StrsAre ks kz
 |[],[],_,_=>.nil
 |[],_::_,h,_=>by cases h
 |_::_,[],h,_=>by cases h
 |k::ks,z::kz,h,hk=>by
  obtain⟨t,e⟩:=hk 0 k rfl;rw[show k=Value.str z t from e];exact .cons z t (Qs (by simpa using h) λi k' q=>by
   have:=hk (i+1) k' (by simpa using q);simpa using this)
theorem TC {ks:List Value}{kz:List Str}(h:StrsAre ks kz)(h2:2<=ks.length):keyKind' ks.toArray=pure oneType':=by
 match ks,h,h2 with
 |_::_::_,h,_=>exact keyKind_strs h
theorem Tu {prog:Program}{w:World}{A:Around}{ks:List Value}{kz:List Str}(nd:kz.Nodup)(hl:ks.length=kz.length)(hk:∀(i:Nat) k,ks[i]?=some k->∃t,k=.str (kz.getD i ⟨#[]⟩) t) :
  Ordr ks.length (λi j=>decide (NH (kz.getD i ⟨#[]⟩) (kz.getD j ⟨#[]⟩))) (PySem.W.kas_ask prog w A oneType' ks) s:=by
 refine⟨λi j C hi hj hij hC=>?_,λi j k _ _ _ h1 h2=>?_,λi j hi hj hij h1=>?_⟩
 ·obtain⟨t,e⟩:=hk i _ (aU hi);obtain⟨u,e'⟩:=hk j _ (aU hj);unfold PySem.W.kas_ask;rw[show ks.getD i Value.none=.str (kz.getD i ⟨#[]⟩) t by rw[<-e];simp[hi],show ks.getD j Value.none=.str (kz.getD j ⟨#[]⟩) u by rw[<-e'];simp[hj]];exact PySem.W.kas_lt_str hC
 ·rw[bK] at *;exact di h1 h2
 ·exact aE (Px (of_decide_eq_false h1) (MZ nd (by omega) (by omega) hij))
end
end L2
namespace L2
section
open PySem PySem.Spec PyProof.Rows PySem.Calls
variable {X:Cx}
def Wi (K:PySem.W.Frag)(P:Addr)(qual:Str)(lp:Pos)(j:Nat)(ta:TA):TE:=λσ H Q=>ta σ H λvs H1=>∃(a:Addr) (ts:List (Addr×Str)),vs=[.ref a]/\A7 K H1 a (ts.map λt=>V.ref t.1)/\ts.length<64/\(∀t∈ts,∃xs,AS K H1 t.1 xs/\xs[j]?=some (.str t.2))/\(ts.map (·.2)).Nodup/\DS P qual lp H1/\
 ∀(us:List (Addr×Str)) p H2,us.Perm ts->us.Pairwise (λx y=>NH x.2 y.2)->C7 P H1 H2->DS P qual lp H2->H2 p=none->Q (.ref p) (upd H2 p (.lst (us.map λt=>V.ref t.1)))
theorem Ui {e:Expr} {ta:TA} {x:Str} {params:Arguments} {scope:Scope} {j:Nat} {P:Addr} {k:Nat} {p pos kp lp p1 p2 p3:Pos} {qual:Str} (hr:Room k X.A) (L:LamTx x params scope) (at_:LamAt X.K X.mg X.base X.env.code P) (hj:j<1000) (hq:X.env.qual++"<lambda>"=qual) (hg:Gl X "sorted") (hm:X.mg "sorted"=none) (ha:PA X [e] ta)
  (he:backTo pos (starEach [e] X.env)=(false,eval e X.env)::backTo pos (starEach [] X.env):=by rfl)
  (hpl:(backTo pos (starEach [e] X.env)).any (·.1)=false:=by rfl) :
  PE X (.Call (.Name "sorted" p) [e] [⟨some "key",.Lambda params (.Subscript (.Name x p1) (.Constant (.int j) 0 p2) p3) scope lp,kp⟩] pos) (Wi X.K P qual lp j ta):=by
 subst hq;intro pins s σ H Q I h;refine bZ (Kz I hg hm IE (Qn hpl rfl ?_));have hsp:=ha pos pins s σ H _ I h;rw[he] at hsp ⊢;refine evalArgs_kwB rfl (Cq hsp λus s1 ⟨vs,H1,I1,r1,q1⟩=>?_);obtain⟨a,ts,rfl,hl,few,ht,nd,tb,q⟩:=q1;obtain⟨u,rfl,ru⟩:=vals1 r1;cases ru;refine kws_cons (Qb L.dflt (L.clos _) at_ I1 tb λf c' pm ctv H2 s2 I2 st tb2 hf hcr=>kws_nil ?_);obtain⟨its,rv,p1',hz⟩:=I2.list (st.sqL tb hl);have ei:=Lk rv;have li:its.length=ts.length:=by rw[ei,ax]
 have gk:∀i,i<ts.length->(ts.map (·.2)).getD i ⟨#[]⟩=(ts.getD i (0,⟨#[]⟩)).2:=λi hi=>by simp[hi]
 refine M5 (vs:=its) (Ky:=λi k=>∃t,k=Value.str ((ts.map (·.2)).getD i ⟨#[]⟩) t) (lt:=λi j=>decide (NH ((ts.map (·.2)).getD i ⟨#[]⟩) ((ts.map (·.2)).getD j ⟨#[]⟩))) p1'.isList (by rw[li];exact few) (λi v hv h' tk k=>?_) (λks h' tk hlk hK k l2=>?_) λh' tk pp idx c hp up lp' k hc=>?_
 ·have il:i<ts.length:=by rw[<-li];exact(bh.mp hv).1
  have ev:v=.ref (ts[i]).1:=by
   rw[ei,aQ,aU il] at hv;exact(br hv).symm
  subst ev;obtain⟨xs,hx,hxj⟩:=ht _ (cB il);obtain⟨ys,r2,hy,_⟩:=I2.tuple (st.sqT tb hx);obtain⟨y,hyj,ry⟩:=r2.get hxj;obtain⟨t,rfl⟩:=ry;have cr:h'.CodeRec (.ref c') (X.env.qual++"<lambda>"):=by
   obtain⟨c2,o,vs,t,z1,z2,z3⟩:=hcr;exact⟨c2,o,vs,t,z1,k _ _ z2,z3⟩
  refine bf (P9 (s:={ s2 with heap:=h',toks:=tk }) (A:=X.A.in1.in1) (items:=ys.toArray) (j:=j) (v:=.str (ts[i]).2 t) (k _ _ hf) cr (I2.nolimit.keeps k) hr.depth (λu=>L.bind _ _ _ _ _ u) L.loc L.kind L.co L.ge L.ce L.db hj (hy.keeps k) (by simpa using hyj)) (λkv s' z=>?_) λ_ _ z=>z
  obtain⟨rfl,h3,tk3,rfl,k3⟩:=z;exact⟨⟨t,by rw[gk i il];simp[il]⟩,h3,tk3,rfl,k3⟩
 ·have hl2:ks.length=(ts.map (·.2)).length:=by rw[hlk,li,ax]
  rw[TC (Qs hl2 hK) (by omega)];refine aH ⟨rfl,?_⟩;have:=Tu (prog:=X.prog) (w:=X.w) (A:=X.A.in1.in1) (s:={ s2 with heap:=h',toks:=tk }) nd hl2 hK;rw[hlk] at this;exact this
 ·rw[li] at hp up;obtain⟨us,u1,u2,u3⟩:=Vi (⟨#[]⟩:Str) ts (R:=NH) hp up λi j hi hj hlt=>by
   rw[bK,gk i hi,gk j hj] at hlt;exact hlt
  rw[ei,u2] at hc;refine⟨.ref pp,_,I2.laid (t':=tk) (o:=.lst (us.map λt=>V.ref t.1)) k lp' ?_,rfl,q us pp H2 u1 u3 st tb2 (I2.hok.fresh lp')⟩;refine⟨?_,_,c,Jh us,hc⟩;rw[ax,u1.length_eq,bA];omega
end
end L2
namespace L2
end L2
namespace L2
section
open PySem PySem.Calls PyProof.Rows PySem.Spec
def Yl (K:PySem.W.Frag):List V->Hp->VK->Prop:=λxs H Q=>∃(a:Addr) (ps:List Addr) (kvs:List (Key×V)),xs=[.ref a]/\A7 K H a (ps.map V.ref)/\ps.length=kvs.length/\kvs.length<=100000/\(kvs.map (·.1)).Nodup/\
 (∀(i:Nat) t k v,ps[i]?=some t->kvs[i]?=some (k,v)->H t=some (.tup [kV k,v]))/\∀d,H d=none->Q (.ref d) (upd H d (.dK kvs))
abbrev ZU (p:Key×V)(q:Key×Value×Value):Prop:=p.1=q.1/\RelV (kV p.1) q.2.1/\RelV p.2 q.2.2
theorem Lq {X:Cx}{pins:List (Addr×Obj)}{σ:St}{H:Hp}{s:Shared}(I:Inv X pins σ H s):∀(ps:List Addr) (kvs:List (Key×V)),ps.length=kvs.length->(∀(i:Nat) t k v,ps[i]?=some t->kvs[i]?=some (k,v)->H t=some (.tup [kV k,v]))->
  ∃xs:List (Key×Value×Value),Paired ZU kvs xs/\∀(i:Nat) t,ps[i]?=some t->∃q,xs[i]?=some q/\IsTup s.heap t #[q.2.1,q.2.2]
 |[],[],_,_=>⟨[],.nil,λi t h=>by simp at h⟩
 |[],_::_,h,_=>by cases h
 |_::_,[],h,_=>by cases h
 |t::ps,(k,v)::kvs,ln,hp=>by
  obtain⟨xs,r,a⟩:=Lq I ps kvs (by simpa using ln) λi t k v e1 e2=>hp (i+1) t k v (by simpa using e1) (by simpa using e2)
  obtain⟨_,its,rv,it⟩:=(show Bn X.prog X.w H s.heap t (.tup [kV k,v]) from I.hok t _ (hp 0 t k v rfl rfl))
  cases rv with
  |@cons _ wk _ _ ra rb=>
   cases rb with
   |@cons _ wv _ _ rb rc=>
    cases rc;refine⟨(k,wk,wv)::xs,.cons ⟨rfl,ra,rb⟩ r,λi t' e=>?_⟩;cases i with
    |zero=>simp only[List.getElem?_cons_zero,Option.some.injEq] at e;subst e;exact⟨_,rfl,it.is⟩
    |succ i=>exact a i t' (by simpa using e)
theorem Xk {kvs:List (Key×V)}{xs:List (Key×Value×Value)}(h:Paired ZU kvs xs):KV kvs (xs.map λq=>(q.1,q.2.2)):=by
 induction h with
 |nil=>exact .nil
 |cons r _ ih=>exact .cons ⟨r.1,r.2.2⟩ ih
theorem Ws {kvs:List (Key×V)}{xs:List (Key×Value×Value)}(h:Paired ZU kvs xs):xs.map (·.1)=kvs.map (·.1):=by
 induction h with
 |nil=>rfl
 |cons r _ ih=>rw[aR,aR,ih,r.1]
theorem Rb {X:Cx}{K:PySem.W.Frag}(hK:X.K=K)(hc:X.calm=true):GR X (.type "dict") (Yl K):=by
 subst hK;intro pins s σ H xs us Q I r h;obtain⟨a,ps,kvs,rfl,h1,ln,hz,nd,hp,q⟩:=h;obtain⟨u,rfl,ru⟩:=vals1 r;cases ru;obtain⟨its,r1,⟨o1,n1,e1,c1,d1,s1⟩,_⟩:=I.list h1;obtain⟨xs,rx,tx⟩:=Lq I ps kvs ln hp;have lx:xs.length=kvs.length:=(cD rx).symm;have ndx:(xs.map (·.1)).Nodup:=by rw[Ws rx];exact nd
 have li:its.length=ps.length:=by have:=r1.length;rw[ax] at this;exact this.symm
 obtain⟨c,dd,da,sl⟩:=o1;simp only at c1 d1 s1;subst c1 d1 s1;refine SY (A:=X.A) (I.ok.hd hc) ⟨n1,_,e1⟩ (D:=λi h=>h.DictOf (Bs X.prog X.w) s.heap.objs.size ((xs.take i).map λq:Key×Value×Value=>(q.1,q.2.2))) (λi h h' ⟨o,es,ep,z1,z2⟩ k=>⟨o,es,ep,k o z1,z2⟩) (λh e=>?_) (λi v e=>?_) λh' tk k' z=>?_
 ·obtain⟨o,es,ep,z1,z2⟩:=(Heap.DictOf.new (knd:=Bs X.prog X.w) s.heap)
  have e2:(s.heap.push { cls:=.type "dict",data:=.dict #[] }).get? s.heap.objs.size=some { cls:=.type "dict",data:=.dict #[] }:=aN _ rfl;rw[e2] at z1;cases z1;exact⟨_,es,ep,e,z2⟩
 ·obtain⟨t,et,rfl⟩:=O9 r1 i v e;obtain⟨⟨k,wk,wv⟩,eq,ht⟩:=tx i t et;refine⟨t,wk,wv,rfl,ht,λs2 Q2 E2 old hm hQ=>?_⟩;have rk:RelV (kV k) wk:=by
   obtain⟨p,_,e1,e2,_⟩:=JD rx (bD eq);rw[e1] at e2;exact e2
  have ts:xs.take (i+1)=xs.take i++[(k,wk,wv)]:=by rw[cL,eq];rfl
  have no:valueAt ((xs.take i).map λq:Key×Value×Value=>(q.1,q.2.2)) k=none:=by
   unfold valueAt;rw[Option.map_eq_none_iff,List.find?_eq_none];intro x hx z;have e:=aW z;obtain⟨y,hy,rfl⟩:=aA.mp hx;have:=ndx.sublist ((eX (i+1) xs).map _);rw[ts,bx,eZ] at this;exact this.2.2 _ (aA.mpr ⟨y,hy,rfl⟩) k (by simp) e
  refine wpAny_dictSet_pairs (hsz:=?_) (k:=k) (Ni rk) hm λh' hm' sb=>hQ _ _ ?_ sb
  ·rw[stored_absent no] at hm';rw[ts,bx];exact hm'
  ·rw[ax,bY,bA];omega
 ·have hb:=I.big;rw[li,ln,<-lx,dO] at z;refine⟨.ref s.heap.objs.size,_,I.laid (o:=.dK kvs) k' (aD _) (Rj (by rw[bA];omega) ?_ (Xk rx) z),rfl,q _ I.fresh⟩;rw[cj];exact cK hb
end
end L2
namespace L2
end L2
namespace L2
open PySem
end L2
namespace L2
end L2
namespace L2
end L2
namespace L2
end L2
namespace L2
end L2
namespace L2
end L2
namespace L2
end L2
namespace L2
end L2
namespace L2
end L2
namespace L2
open PySem PySem.Spec PyProof.Rows
section
variable {P:Program}{w:World}{K:PySem.W.Frag}{mg:Str->Option Value}{base:Heap}{N:List Str}{qual:Str}{scope:Scope}{f:Addr}{cd:Value}{A:Around}{outer:List Env}{s:Shared}{H:Hp}{E:XK}
theorem GO:Z4 (A4 (Fj P w) P w K mg base N qual scope f cd A outer s H E) E:=by
 intro pins σ H1 s1 cls h1 ea vs I hx q;have hfr:=I.ok.frames;obtain⟨t0,ob,_⟩:=hx.there;refine(Jd _ _).also (s:={ s1 with heap:=h1 }) (Sl ob ⟨_,rfl,rfl⟩) (wpAny_leaves_madeW (base:=PySem.W.hideAll s1.heap (GN (envOfC qual scope s.heap.objs.size f cd::outer))) (h:=s1.heap) (L:=s.heap.objs.size) hfr rfl (λb o e=>eT _ e) I.hidFrames hx λh' t fl' _ _ up dj'=>?_);have un:=I.made1 (t':=s1.toks) hx fl' up;have J:=I.call' (s':={ s1 with heap:=h' }) (ch:=[]) rfl un (I.hid.kept fl'.1) I.bare (λb z=>nomatch z);refine⟨ea,cls,H1,_,_,none,rfl,⟨J.os,I.bare,J.base,I.hid,fl',λb o e n hb=>?_,λb o e hb=>?_,⟨_,dj'⟩⟩,dj',q⟩
 ·exact cu _ (I.base.keep b o e n hb (by intro z;cases z)) (FR I e hb)
 ·obtain⟨o1,e1⟩:=I.base.there b o e (by intro z;cases z);exact⟨o1,cu _ e1 (FR I e hb)⟩
end
section
variable {X:Cx}
def Ii (z y:Str):List Str:=match PySem.Builtin.Str.lastOccurrence z y 0 z.length with
 |some i=>[PySem.Builtin.Str.strSub z 0 i,y,PySem.Builtin.Str.strSub z (i+y.length) z.length]
 |none=>[PySem.Str.empty,PySem.Str.empty,z]
def XY:V->List V->Hp->VK->Prop:=λx vs H Q=>∃z y,x=.str z/\vs=[.str y]/\(y.length == 0)=false/\z.length<=100000/\∀p,H p=none->Q (.ref p) (upd H p (.tup ((Ii z y).map V.str)))
theorem N1:V5 X "str.rpartition" XY:=by
 intro pins s σ H x vs v us Q I rx rv h;obtain⟨z,y,rfl,rfl,hy,hz,q⟩:=h;obtain⟨tk,rfl⟩:=rx;obtain⟨y',rfl,ry⟩:=rv.one;obtain⟨tk2,rfl⟩:=ry;refine fv F.slot_str_rpartition (fu _ _ _) F.entry_str_rpartition (F.args_str_rpartition_2 _ _) (meets_str_rpartition z y tk tk2 hy (small (by omega))) ?_;show EP X pins σ Q _ _;refine⟨.ref s.heap.objs.size,upd H s.heap.objs.size (.tup ((Ii z y).map V.str)),?_,rfl,q _ I.fresh⟩;unfold Ii;cases PySem.Builtin.Str.lastOccurrence z y 0 z.length with
 |none=>exact I.laid (λb o e=>az _ e) (aD _) ⟨by show 3<=sizeLine;decide,_,.cons ⟨_,rfl⟩ (.cons ⟨_,rfl⟩ (.cons ⟨_,rfl⟩ .nil)),⟨_,aN _ rfl,rfl,_,rfl,λ_=>rfl⟩⟩
 |some i=>exact I.laid (λb o e=>az _ e) (aD _) ⟨by show 3<=sizeLine;decide,_,.cons ⟨_,rfl⟩ (.cons ⟨_,rfl⟩ (.cons ⟨_,rfl⟩ .nil)),⟨_,aN _ rfl,rfl,_,rfl,λ_=>rfl⟩⟩
end
end L2
namespace L2
section
open PySem PySem.Spec PyProof.Rows
def AL (P:Program)(w:World)(K:PySem.W.Frag)(mg:Str->Option Value)(base:Heap)(k:Nat)(C:Addr)(m:Str)(ps:List Str)(sp:Sp):Prop:=
 ∃(f:Addr) (fd:FuncData),FnOk P w K mg base (Fj P w) k f fd ps sp/\Meth K C m f/\Binds K fd ps []
variable {X:Cx}{k:Nat}{x m:Str}{C:Addr}{ps:List Str}{sp:Sp}{E:XK}{e o:Expr}{es:List Expr}{t:TA}{ta:TE}{p pos apos:Pos}
theorem AH {pl:Sem Bool} (ho:PE X o ta) (c:Cls X.K C) (D:AL X.prog X.w X.K X.mg X.base k C m ps sp) (hr:Room k X.A) (hx:FW (Fj X.prog X.w) X E) (ha:PA X (e::es) t)
  (hst:starEach (e::es) X.env=(false,eval e X.env)::starEach es X.env:=by rfl) (hpl:(backTo pos (starEach es X.env)).any (·.1)=false:=by rfl)
  (ht:eval (.Call (.Attribute o m apos) (e::es) [] pos) X.env=(do
   let ov <-eval o X.env
   standAt apos.atName
   let(f,first) <-holding [ov] (getMethod ov m pl)
   callWith pos f first (backTo pos (starEach (e::es) X.env)) (backToKw pos (keywordEach [] X.env))):=by rfl) :
  PE X (.Call (.Attribute o m apos) (e::es) [] pos) (Si C m sp [] E ta t):=by
 obtain⟨f,fd,F,hm,hb⟩:=D;exact WO ho c hm F hr hb .nil hx ha hst hpl ht
theorem U2 {pl:Sem Bool} (ho:PE X.nox o ta) (c:Cls X.K C) (D:AL X.prog X.w X.K X.mg X.base k C m ps sp) (hr:Room k X.A) (ha:PA X.nox (e::es) t)
  (hst:starEach (e::es) X.env=(false,eval e X.env)::starEach es X.env:=by rfl) (hpl:(backTo pos (starEach es X.env)).any (·.1)=false:=by rfl)
  (ht:eval (.Call (.Attribute o m apos) (e::es) [] pos) X.env=(do
   let ov <-eval o X.env
   standAt apos.atName
   let(f,first) <-holding [ov] (getMethod ov m pl)
   callWith pos f first (backTo pos (starEach (e::es) X.env)) (backToKw pos (keywordEach [] X.env))):=by rfl) :
  VC X (.Call (.Attribute o m apos) (e::es) [] pos) (λEx=>Si C m sp [] (λcls d H'=>Ex cls d H') ta t):=by
 obtain⟨f,fd,F,hm,hb⟩:=D;intro pins s σ H Q Ex I h;refine d9 (pl:=pl) (bf (ho pins s σ H _ (I.wish _) h) (λu s1 z9=>?_) λ_ _ z=>False.elim z) ht;obtain⟨x,H1,I1,rx,a,dx,fs,ex,ea,l,q⟩:=z9;subst ex;obtain rfl:u=Value.ref a:=rx;refine Jj I1.unwish ea c hm l ?_;refine cJ (first:=[.ref a]) (h₀:=X.base) I.ok.mod.kin hm.kp (bf (ha pos pins s1 σ H1 _ I1 q) (λus s2 ⟨vs,H2,I2,r,q2⟩=>⟨I2.kIn,?_⟩) λ_ _ z=>False.elim z) hst hpl;have J:=I2.unwish;have q':sp (.ref a::vs) H2 Q λcls d H'=>Ex cls d H':=by
  have:sp (.ref a::(vs++[])) H2 Q λcls d H'=>Ex cls d H':=q2
  rw[bq] at this;exact this
 have r':Bd (V.ref a::vs) (Value.ref a::us):=.cons rfl r;have hl:(Value.ref a::us).length=ps.length:=by rw[<-r'.length];exact F.len _ _ _ _ q'
 have hb':=hb s2 (Value.ref a::us) J.kIn (by rw[bq];exact hl);rw[bq] at hb';refine cI (cP (F.run X.A X.stack s2 H2 ⟨Value.ref a::us,[]⟩ (Value.ref a::us) (V.ref a::vs) Q _ hr J.env0 hb' r' q') λr s' z=>?_)
 match r,z with
 | .error e,⟨ea,cls,H',B,a0,d,he,Fl,dj,q⟩=>exact⟨ea,cls,σ,H2,H',s2,B,a0,d,he,J,Fl,dj,rfl,q⟩
 | .ok (.ret u),z=>exact J.after z
theorem Ww {b:List Stmt}{tb:SB}(h:Ru X b tb):ae X b (λD Ex=>tb D λcls _ σ' H'=>Ex cls σ' H'):=λpins s σ H D Ex I q=>
 bf (h pins s σ H D _ I q) (λ_ _ z=>z) (by rintro _ _ ⟨ea,cls,σ',H1,H',s1,B,a0,_,h1,h2,h3,_,q⟩;exact⟨ea,cls,σ',H1,H',s1,B,a0,h1,h2,h3,q⟩)
def ZF (tc:TT)(t u:SB):SB:=λD Ex σ H=>tc σ H λb H1=>if b=true then t D Ex σ H1 else u D Ex σ H1
theorem X0 {c:Expr}{a b:List Stmt}{tc:TT}{t u:SB}(hc:PT X.nox c tc)(ha:Ru X a t)(hb:Ru X b u):YX X (.If c a b pos) (ZF tc t u):=by
 intro pins s σ H D Ex I h;refine wpAny_If (bf (hc pins s σ H _ (I.wish _) h) (λd s1 ⟨H1,I1,q1⟩=>?_) λ_ _ z=>False.elim z);cases d with
 |true=>exact ha pins s1 σ H1 D Ex I1.unwish q1
 |false=>exact hb pins s1 σ H1 D Ex I1.unwish q1
def YI (t u:SB):SB:=λD Ex=>t { D with nx:=u D Ex } Ex
theorem S7 {st:Stmt}{rest:List Stmt}{t u:SB}(h1:YX X st t)(h2:Ru X rest u):Ru X (st::rest) (YI t u):=by
 intro pins s σ H D Ex I h;refine eC (bf (h1 pins s σ H _ _ I h) (λf s1 q=>?_) λ_ _ z=>z);cases f with
 |next=>
  obtain⟨σ',H',I',q'⟩:=q;exact h2 pins s1 σ' H' D Ex I' q'
 |ret v=>exact q
 |brk=>exact q
 |cont=>exact q
end
end L2
namespace L2
noncomputable instance trDec:DecidableEq Tr:=λa b=>Classical.propDecidable (a=b)
end L2
namespace L2
end L2
namespace L2
end L2
namespace L2
end L2
namespace L2
section
open PySem PySem.Spec PyProof.Rows
variable {X:Cx}{pins:List (Addr×Obj)}{σ:St}{H:Hp}{s:Shared}
variable {x1 x2 n:Str}{c1 c2:Value}{body orelse su1 su2:List Stmt}{b1 b2:Stmt}{np1 np2 hp1 hp2 pos:Pos}{i:Nat}
def R3 (i:Nat)(D:Ends):Ends:={ nx:=λσ H=>D.nx (σ.set i none) H,rt:=D.rt,bk:=λσ H=>D.bk (σ.set i none) H,ct:=λσ H=>D.ct (σ.set i none) H }
end
section
open PySem PySem.Spec PyProof.Rows
variable {X:Cx}
theorem Ta:GR X (.builtin "len") (λxs H Q=>∃d kvs,xs=[V.ref d]/\H d=some (.dK kvs)/\Q (.int kvs.length) H):=by
 rintro pins s σ H xs us Q I r ⟨d,kvs,rfl,hd,q⟩
 obtain⟨_,rfl,ru⟩:=vals1 r;cases ru;exact Zh I (.inl hd) λt _ I'=>⟨.int kvs.length,H,I',⟨t,rfl⟩,q⟩
end
end L2
namespace L2
open PySem
end L2
namespace L2
open PySem PySem.Spec PyProof.Rows
variable {X:Cx}
variable {X:Cx}
def VU (X:Cx)(t:TE):TE:=λσ H Q=>t σ H λx H'=>∃d o kvs,(∀o u,X.H₀ d≠some (.frz o u))/\H' d=some (.frz o (.dK kvs))/\Q x (upd H' d (.dK kvs))
theorem Ka {e:Expr}{t:TE}(h:PE X e t):PE X e (VU X t):=by
 intro pins s σ H Q I q;refine Cq (h pins s σ H _ I q) λv s' z9=>?_
 obtain⟨x,H',I',r,d,o,kvs,nf,hd,q⟩:=z9;exact⟨x,_,I'.thaw hd nf,r,q⟩
theorem Up {d:Addr}{o:Obj}{H:Hp}{kvs:List (Key×V)}(h:H d=some (.frz o (.dK kvs))):Kd (S6 d o kvs) H (kvs.map λp=>kV p.1):=by
 intro H' s i;refine⟨λhi=>⟨s.get h,by rw[ax] at hi;exact hi⟩,?_,λhi=>⟨s.get h,by rw[ax] at hi;exact hi⟩⟩
 rintro x H'' ⟨rfl,k,v,e,rfl⟩
 exact⟨rfl,λ_=>by rw[aQ,e];rfl⟩
end L2
namespace L2
section
open PySem PySem.Calls PyProof.Rows
variable {prog:Program}{w:World}{A:Around}{E:Value->Shared->Prop}{s:Shared}
theorem VW {R:Result->Shared->Prop} {I d:Addr} {fp:List Addr} {vs:List Value} {St:Nat->Heap->Prop} {D:Nat->Heap->Prop} {h0:Heap} (W:Walks prog w A.in1 I fp [I] vs.length (λi v=>vs[i]?=some v) St) (nd:d∉fp)
  (hI:h0.get? I=none) (keep:∀i h h',D i h->(∀o,h.get? d=some o->h'.get? d=some o)->D i h')
  (pr:∀i v,vs[i]?=some v->∃t x y,v=.ref t/\t≠d/\IsTup h0 t #[x,y]/\∀(s:Shared) (Q:Unit->Shared->Prop) (E:Value->Shared->Prop),D i s.heap->(∀h' tk,D (i+1) h'->Heap.SameBut d s.heap h'->Q () { s with heap:=h',toks:=tk })->wpAny (model prog w) A.in1 (dictSet d x y) Q E s) :
  ∀(k i:Nat) (s:Shared),vs.length-i=k->i<=vs.length->(∀b o,b≠d->h0.get? b=some o->s.heap.get? b=some o)->St i s.heap->D i s.heap->
   (∀h' tk,(∀b o,b∉[d,I]->s.heap.get? b=some o->h'.get? b=some o)->D vs.length h'->R (.ok (.ret .none)) { s with heap:=h',toks:=tk })->codeAny (model prog w) A (.builtin "dict.update.loop" ⟨[.ref d,.ref I,rawInt i,.none],[]⟩) R s:=by
 have nI:d∉[I]:=λz=>nd (W.sub _ z)
 intro k
 induction k with
 |zero=>
  intro i s hk hi old st T q;have e:i=vs.length:=by omega
  subst e;refine cQ Kl ?_;rw[cH Fe _];refine ay (m:=pyNext (.ref I)) (W.done s _ _ st λh' tk k'=>?_);refine ay (m:=Builtin.Dict.addKeywords d []) (aH (aH ?_));exact q h' tk (λb o n e=>k' b o (λz=>n (aB _ z)) e) (keep _ _ _ T λo e=>k' d o nI e)
 |succ k ih=>
  intro i s hk hi old st T q;have lt:i<vs.length:=by omega
  refine cQ Kl ?_;rw[cH Fe _];refine ay (m:=pyNext (.ref I)) (W.item i s _ _ lt st λv h' tk hv st' k'=>?_);obtain⟨t,x,y,rfl,ntd,⟨ot,ht1,ht2⟩,step⟩:=pr i v hv;have old':∀b o,b≠d->h0.get? b=some o->h'.get? b=some o:=λb o n e=>k' b o (λz=>by rw[aG.mp z,hI] at e;cases e) (old b o n e)
  refine ay (bL (ay (wpAny_tryCatch (pair_items (s:={ s with heap:=h',toks:=tk }) ⟨ot,old' t ot ntd ht1,ht2⟩ ?_))));refine bL (step _ _ _ (keep _ _ _ T λo e=>k' d o nI e) λh2 tk2 T2 sb=>?_);refine aH ⟨d7 Fe _,ih (i+1) _ (by omega) lt (λb o n e=>?_) (W.frame _ _ _ st' λb hb o e=>?_) T2 λh3 tk3 k3 T3=>?_⟩
  ·rw[sb.2 b n];exact old' b o n e
  ·rw[sb.2 b (λz=>nd (z▸hb))];exact e
  ·refine q h3 tk3 (λb o n e=>k3 b o n ?_) T3;rw[sb.2 b (λz=>n (by simp[z]))];exact k' b o (λz=>n (aB _ z)) e
theorem U1 {l d:Addr} {od:Obj} {vs:List Value} {D:Nat->Heap->Prop} {Q:Value->Shared->Prop} (hh:A.handled=none) (hl:∃n sl,s.heap.get? l=some { cls:=.type "list",dict:=none,data:=.seq vs.toArray n,slots:=sl })
  (hd:s.heap.get? d=some od) (hc:od.cls=.type "dict") (keep:∀i h h',D i h->(∀o,h.get? d=some o->h'.get? d=some o)->D i h') (d0:D 0 s.heap)
  (pr:∀i v,vs[i]?=some v->∃t x y,v=.ref t/\t≠d/\IsTup s.heap t #[x,y]/\∀(s1:Shared) (Q:Unit->Shared->Prop) (E:Value->Shared->Prop),D i s1.heap->(∀h' tk,D (i+1) h'->Heap.SameBut d s1.heap h'->Q () { s1 with heap:=h',toks:=tk })->wpAny (model prog w) A.in1 (dictSet d x y) Q E s1)
  (q:∀h' tk,(∀b o,b≠d->s.heap.get? b=some o->h'.get? b=some o)->D vs.length h'->Q .none { s with heap:=h',toks:=tk }):wpAny (model prog w) A (call (.builtin "dict.update") [.ref d,.ref l]) Q E s:=by
 obtain⟨n,sl,el⟩:=hl;have hT:s.TypeIs (.ref d) "dict":=⟨_,hd,hc⟩
 have ndl:d≠l:=λz=>by
  rw[z,el] at hd;cases hd;exact absurd (Value.type.inj hc) (by decide)
 refine cI (cT PySem.F.slot_dict_update.plain PySem.F.entry_dict_update (PySem.F.slot_dict_update.check _ _ _ _ _ _ _ _ hT (PySem.F.args_dict_update_2 _ _) ?_));unfold Builtin.«dict.update»;refine ay ?_;unfold Builtin.Dict.selfAndRest;refine ay (wpAny_notOrdered_dict hT ?_);show wpAny _ _ (pure (d,[Value.ref l])) _ _ _;refine aH ?_;show wpAny _ _ (Builtin.Dict.updateFrom "dict.update" d (.ref l) [] .none) _ _ _;unfold Builtin.Dict.updateFrom;refine ay (fH (T:="list") ⟨_,el,rfl⟩ ?_);rw[aI (by decide)];refine ay (Ku el (by simp[hh]) λh1 tk1 k1=>?_);rw[aI (show(none:Option Value).isNone=true from rfl)];refine ay (wpAny_rule ?_);have el1:=k1 _ _ el;have l1:h1.IsList l vs.toArray:=⟨_,el1,rfl,_,rfl⟩
 refine ay (dZ (s:={ s with heap:=h1,toks:=tk1 }) l1 ?_);have nI:l≠h1.objs.size:=bg (aP el1);have ndI:d≠h1.objs.size:=bg (aP (k1 _ _ hd));have W:=Walks.list (prog:=prog) (w:=w) (A:=A.in1) (by simp[hh]) h1.objs.size l nI vs.toArray;have W2:Walks prog w A.in1 h1.objs.size [h1.objs.size,l] [h1.objs.size] vs.length (λi v=>vs[i]?=some v) (λi h=>h.IsListIter h1.objs.size l i/\h.IsList l vs.toArray):=by
  simpa only [List.size_toArray,List.getElem?_toArray] using W
 have nIs:s.heap.get? h1.objs.size=none:=by
  cases e:s.heap.get? h1.objs.size with
  |none=>rfl
  |some o=>exact absurd (aP (k1 _ _ e)) (cG _)
 refine aH ⟨d7 Fe _,VW (h0:=s.heap) (D:=D) W2 ?_ nIs keep pr vs.length 0 _ (by omega) (bC _) (λb o n e=>az _ (k1 b o e)) ⟨⟨_,aN _ rfl,rfl,rfl⟩,l1.push _⟩ (keep _ _ _ d0 λo e=>az _ (k1 _ _ e)) λh' tk k' T=>q h' tk (λb o n e=>k' b o (λz=>?_) (az _ (k1 b o e))) T⟩
 ·simp only[List.mem_cons,List.not_mem_nil,or_false,not_or];exact⟨ndI,ndl⟩
 ·simp only[List.mem_cons,List.not_mem_nil,or_false] at z;rcases z with rfl|rfl
  ·exact n rfl
  ·rw[nIs] at e;cases e
end
section
open PySem PySem.Calls PySem.Spec PyProof.Rows
variable {X:Cx}
theorem Nt:GR X (.type "dict") (λxs H Q=>∃d kvs,xs=[V.ref d]/\H d=some (.dK kvs)/\kvs.length<=1000/\∀p,H p=none->Q (.ref p) (upd H p (.dK kvs))):=by
 rintro pins s σ H xs us Q I r ⟨d,kvs,rfl,hd,hl,q⟩
 obtain⟨_,rfl,ru⟩:=vals1 r;cases ru;obtain⟨z,hs,vs,rv,dd⟩:=Xj I.hok hd;have hb:=I.big;refine kt_call_dict hs dd (by rw[<-rv.length];exact small (by omega)) λh' dn sb=>?_
 refine⟨.ref s.heap.objs.size,_,I.laid (t':=s.toks) (o:=.dK kvs) (λb o e=>?_) (aD _) (Rj (small (by omega)) ?_ rv dn),rfl,q _ I.fresh⟩
 ·rw[sb.2 b (bg (aP e))];exact az _ e
 ·rw[cj];exact cK hb
def Za (K:PySem.W.Frag):V->List V->Hp->VK->Prop:=λx vs H Q=>∃(d a:Addr) (ps:List Addr) (kvs more:List (Key×V)),x=.ref d/\vs=[.ref a]/\H d=some (.dK kvs)/\A7 K H a (ps.map V.ref)/\ps.length=more.length/\kvs.length+more.length<=1000/\
 (∀(i:Nat) t k v,ps[i]?=some t->more[i]?=some (k,v)->H t=some (.tup [kV k,v]))/\Q .non (upd H d (.dK (G4 kvs more)))
theorem W3 (hc:X.calm=true):V5 X "dict.update" (Za X.K):=by
 intro pins s σ H x vs v us Q I rx rv h;obtain⟨d,a,ps,kvs,more,rfl,rfl,hd,h1,ln,hz,hp,q⟩:=h;cases rx;obtain⟨y',rfl,ry⟩:=rv.one;cases ry;obtain⟨_,hs,va,ra,dda⟩:=Xj I.hok hd;obtain⟨its,r1,⟨o1,n1,e1,c1,d1,s1⟩,_⟩:=I.list h1;obtain⟨xs,rx,tx⟩:=Lq I ps more ln hp;have lx:xs.length=more.length:=(cD rx).symm;have li:its.length=ps.length:=by have:=r1.length;rw[ax] at this;exact this.symm
 have lva:=ra.length;obtain⟨c,dd,da,sl⟩:=o1;simp only at c1 d1 s1;subst c1 d1 s1;obtain⟨od,esd,epd,hod,hcd,hdd⟩:=id dda;have sh:∀i,(merged va ((xs.take i).map λq:Key×Value×Value=>(q.1,q.2.2))).length<=va.length+xs.length:=λi=>by
  refine bj (merged_length_le _ _) ?_;rw[ax];have:=gF i xs;have:=(eX i xs).length_le;omega
 refine U1 (A:=X.A) (I.ok.hd hc) ⟨n1,_,e1⟩ hod hcd.1 (D:=λi h=>h.DictOf (Bs X.prog X.w) d (merged va ((xs.take i).map λq:Key×Value×Value=>(q.1,q.2.2)))) (λi h h' ⟨o,es,ep,z1,z2⟩ k=>⟨o,es,ep,k o z1,z2⟩) (by simpa [merged] using dda) (λi v e=>?_) λh' tk k' z=>?_
 ·obtain⟨t,et,rfl⟩:=O9 r1 i v e;obtain⟨⟨k,wk,wv⟩,eq,ht⟩:=tx i t et;refine⟨t,wk,wv,rfl,λz=>?_,ht,λs2 Q2 E2 hm hQ=>?_⟩
  ·obtain⟨ot,g1,g2,_⟩:=ht;rw[z,hod] at g1;cases g1;rw[hcd.1] at g2;exact absurd (Value.type.inj g2) (by decide)
  have rk:RelV (kV k) wk:=by
   obtain⟨p,_,e1,e2,_⟩:=JD rx (bD eq);rw[e1] at e2;exact e2
  refine wpAny_dictSet_pairs (hsz:=?_) (k:=k) (Ni rk) hm λh' hm' sb=>hQ _ _ ?_ sb
  ·have e3:merged va ((xs.take (i+1)).map λq:Key×Value×Value=>(q.1,q.2.2))=stored (merged va ((xs.take i).map λq:Key×Value×Value=>(q.1,q.2.2))) k wv:=by
    rw[dG,dG];exact merged_take_succ va (xs.map λq:Key×Value×Value=>(q.1,q.2.2)) i (k,wv) (by rw[aQ,eq];rfl)
   show Heap.DictOf _ _ _ _;rw[e3];exact hm'
  ·have:=sh i;rw[bA];omega
 ·rw[li,ln,<-lx,dO] at z;refine⟨.non,upd H d (.dK (G4 kvs more)),?_,rfl,q⟩;have z':h'.DictOf (Bs X.prog X.w) d (merged va (xs.map λq:Key×Value×Value=>(q.1,q.2.2))):=z;obtain⟨oz,ez,pz,hz1,_⟩:=id z';exact(I.write (x:=d) (e:=d) (o:=.dK (G4 kvs more)) (h':=h') (t':=tk) (by rw[hd];trivial) (.inl rfl) (λb o nb q=>k' b o nb q) ⟨_,hz1⟩ (Rj (small (by have:=IW more kvs;omega)) hs (KV.merge (Xk rx) ra) z'))
def Y1:V->List V->Hp->VK->Prop:=λx vs H Q=>∃z y,x=.str z/\vs=[.str y]/\Q (.int (PySem.Txt.count z y)) H
theorem Uo:V5 X "str.count" Y1:=by
 intro pins s σ H x vs v us Q I rx rv h;obtain⟨z,y,rfl,rfl,q⟩:=h;obtain⟨tk,rfl⟩:=rx;obtain⟨y',rfl,ry⟩:=rv.one;obtain⟨tk2,rfl⟩:=ry;exact SC.count ⟨.int _,H,I.tok (s.toks+1),⟨_,rfl⟩,q⟩
def Zq:Value->V
 | .bool b=>.bl b
 | .int i _=>.int i
 | .str z _=>.str z
 |_=>.non
theorem VE {x:V}{v:Value}(r:RelV x v)(f:GI x=true):Zq v=x:=by
 cases x with
 |non=>cases r;rfl
 |bl b=>cases r;rfl
 |int i=>obtain⟨t,rfl⟩:=r;rfl
 |str z=>obtain⟨t,rfl⟩:=r;rfl
 |_=>exact absurd (show false=true from f) aJ
theorem Sq:∀{xs:List V} {its:List Value},Bd xs its->xs.all GI=true->its.map Zq=xs
 |_,_,.nil,_=>rfl
 |_,_,.cons r h,f=>by
  rw[fT,ba] at f;rw[aR,VE r f.1,Sq h f.2]
theorem P8:∀{xs:List V} {its:List Value},Bd xs its->∀{u:Value},u∈its->∃x∈xs,RelV x u
 |_,_,.nil,_,h=>nomatch h
 |_,_,.cons r h,u,hu=>by
  rcases aX.mp hu with rfl|hu
  ·exact⟨_,aK,r⟩
  ·obtain⟨x,hx,rx⟩:=P8 h hu;exact⟨x,aB _ hx,rx⟩
def YO (K:PySem.W.Frag):V->List V->Hp->VK->Prop:=λx vs H Q=>∃(l:Addr) (xs:List V) (y:V),x=.ref l/\vs=[y]/\A7 K H l xs/\xs.all GI=true/\GI y=true/\Q (.int (xs.countP λx=>P6 x y:Nat)) H
theorem TL {K:PySem.W.Frag}(hK:X.K=K):V5 X "list.count" (YO K):=by
 subst hK;intro pins s σ H x vs v us Q I rx rv h;obtain⟨l,xs,y,rfl,rfl,hl,fx,fy,q⟩:=h;cases rx;obtain⟨u,rfl,ru⟩:=rv.one;obtain⟨its,r,⟨o1,n1,e1,c1,d1,s1⟩,_⟩:=I.list hl;obtain⟨c,dd,da,sl⟩:=o1;simp only at c1 d1 s1;subst c1 d1 s1;refine fv F.slot_list_count ⟨_,e1,rfl⟩ F.entry_list_count (F.args_list_count_2 _ _) (SeqAt.list_countAt l its.toArray n1 _ sl u λz=>P6 (Zq z) y) ⟨e1,λz hz=>?_,?_⟩
 ·obtain⟨a,ha,ra⟩:=P8 r (by simpa using hz);have fa:=bR.mp fx a ha;rw[VE ra fa];exact Pm ra ru fa fy
 ·refine⟨.int _,H,I.tok _,⟨_,rfl⟩,?_⟩;have e:its.countP (λz=>P6 (Zq z) y)=xs.countP λx=>P6 x y:=by
   conv=>rhs;rw[<-Sq r fx,List.countP_map]
   rfl
  rw[e];exact q
end
section
open PySem PySem.Spec PyProof.Rows
def Zn (d:Addr)(o:Obj)(kvs:List (Key×V)):It:=
 ⟨λi H=>H d=some (.frz o (.dK kvs))/\i<kvs.length,λi H x H'=>H'=H/\∃k v,kvs[i]?=some (k,v)/\x=v,λi H=>H d=some (.frz o (.dK kvs))/\kvs.length<=i⟩
theorem YW {kvs:List (Key×V)}{vs:List (Key×Value)}(r:KV kvs vs):∀{i:Nat} {p:Key×V} {q:Key×Value},kvs[i]?=some p->vs[i]?=some q->RelV p.2 q.2:=by
 induction r with
 |nil=>intro i p q h _;simp at h
 |cons h _ ih=>
  intro i p q h1 h2;cases i with
  |zero=>
   simp only[List.getElem?_cons_zero,Option.some.injEq] at h1 h2;subst h1 h2;exact h.2
  |succ i=>exact ih (by simpa using h1) (by simpa using h2)
theorem TY {P:Program}{w:World}{K:PySem.W.Frag}{tg:Expr}(d it:Addr)(o:Obj)(kvs:List (Key×V))(es:Array DictEntry)(ep:Nat)(he:o.data=.dict es ep):Turn P w K tg (Zn d o kvs) [it] it (λi h=>h.IsValIter it d i kvs.length ep) where
 mem:=by simp
 obj:=λi h st b hb=>by
  have e:b=it:=by simpa using hb
  subst e;obtain⟨o,e,c,d⟩:=st;exact⟨o,e,λv z=>by rw[d] at z;cases z⟩
 keep:=λi h h' ⟨o,e,r⟩ k=>⟨o,k it (by simp) o e,r⟩
 item:=by
  intro X hP hw hK hc i pins s σ H E I hf st hg;subst hP hw hK;obtain⟨hq,hi⟩:=hg;obtain⟨_,vs,r,hat⟩:=Lh I hq he;have hl:kvs.length=vs.length:=cD r;obtain⟨f0,f1,f2,f3,f4,f5⟩:=hf it (by simp);have ek:kvs[i]?=some kvs[i]:=aU hi;have ev:vs[i]?=some vs[i]:=aU (by omega);rw[hl] at st;refine wpAny_pyNext_values_item (k:=(vs[i]'(by omega)).1) (v:=(vs[i]'(by omega)).2) st hat ev λh' st' sb=>?_
  have I1:Inv X pins σ H { s with heap:=h' }:=I.turned (t':=s.toks) (λb o hb e=>(sb.2 b hb).trans e) f0 f1 f3 f4 f5;rw[<-hl] at st';obtain⟨o2,e,c,dd⟩:=id st';exact⟨_,rfl,MR (s:={ s with heap:=h' }) e c dd (by decide) ⟨kvs[i].2,H,I1,YW r ek ev,⟨rfl,kvs[i].1,kvs[i].2,ek,rfl⟩,st',λb hb=>(hf b hb).1⟩⟩
 done:=by
  intro X hP hw hK hc i pins s σ H E I hf st hg;subst hP hw hK;obtain⟨hq,hi⟩:=hg;obtain⟨_,vs,r,hat⟩:=Lh I hq he;have hl:kvs.length=vs.length:=cD r;obtain⟨f0,f1,f2,f3,f4,f5⟩:=hf it (by simp);rw[hl] at st;exact wpAny_pyNext_values_end (I.ok.hd hc) st hat (bI (by omega)) λh' eb=>⟨rfl,I.turned (t':=s.toks) (λb o hb e=>eb b o hb e) f0 f1 f3 f4 f5⟩
 self:=λ_ _ _ _ _ st h=>wpAny_pyIter_valiter st h
variable {X:Cx}{tg:Expr}
def Y3 (tl:TE):TI:=λσ H R=>tl σ H λx H1=>∃d kvs,x=.ref d/\H1 d=some (.dK kvs)/\∀o,R (Zn d o kvs) (upd H1 d (.frz o (.dK kvs)))
theorem WW {l:Expr}{tl:TE}{apos cpos:Pos}(hl:PE X l tl)(hbase:attributeBase l "values" X.env (eval l X.env)=eval l X.env:=by rfl)(hline:(apos.endLine == cpos.line)=true:=by rfl):PI X tg (.Call (.Attribute l "values" apos) [] [] cpos) (Y3 tl):=by
 intro pins s σ H R I h;refine wpAny_Call_method0_late hbase hline (Cq (hl pins s σ H _ I h) λv s1 ⟨x,H1,I1,r1,q1⟩=>?_);obtain⟨d,kvs,e,hq,q⟩:=q1;subst e;obtain⟨t1,t2⟩:=VT (T:="dict") I1 r1 (.inr (.inr (.inl ⟨rfl,.inl ⟨kvs,hq⟩⟩)));cases r1;obtain⟨_,_,vs,r,o,es,ep,ho,_,he,_⟩:=I1.hok d _ hq;have I2:=I1.freeze hq ho;obtain⟨hs,vs,r,hat⟩:=Lh I2 Ae he;have hl:kvs.length=vs.length:=cD r;refine⟨"dict","dict.values",F.plainAttrs_dict,F.slot_dict_values,F.type_dict_values,t1,t2,eK rfl (PySem.evalArgs_none ?_)⟩;refine call_meetsIn F.slot_dict_values t1 F.entry_dict_values (F.args_dict_values_1 _) (meets_dict_values (Bs X.prog X.w) d hs) ⟨⟨vs,hat.dictOf⟩,?_⟩;have kp:∀b ob,s1.heap.get? b=some ob->(s1.heap.push { cls:=.type "dict_values",data:=.fields #[.ref d] }).get? b=some ob:=λb ob e=>az _ e
 have I3:Inv X pins σ _ { s1 with heap:=s1.heap.push { cls:=.type "dict_values",data:=.fields #[.ref d] } }:=I2.kept (t':=s1.toks) kp;refine wpAny_pyIter_values (s:={ s1 with heap:=s1.heap.push { cls:=.type "dict_values",data:=.fields #[.ref d] } }) (v:=s1.heap.objs.size) (knd:=Bs X.prog X.w) (kvs:=vs) (ep:=ep) ⟨_,aN _ rfl,rfl,rfl⟩ (hat.push _) ?_;refine⟨_,[_],_,_,_,rfl,I3.kept (t':=s1.toks) λb o e=>az _ e,TY d _ o kvs es ep he,⟨_,aN _ rfl,rfl,by rw[hl];rfl⟩,λb hb=>?_,q o⟩;have e:=aG.mp hb;subst e;exact I3.fpOk (aD _) (I3.hok.fresh (aD _))
theorem Uj {d:Addr}{o:Obj}{H:Hp}{kvs:List (Key×V)}(h:H d=some (.frz o (.dK kvs))):Kd (Zn d o kvs) H (kvs.map λp=>p.2):=by
 intro H' s i;refine⟨λhi=>⟨s.get h,by rw[ax] at hi;exact hi⟩,?_,λhi=>⟨s.get h,by rw[ax] at hi;exact hi⟩⟩
 rintro x H'' ⟨rfl,k,v,e,rfl⟩
 exact⟨rfl,λ_=>by rw[aQ,e];rfl⟩
end
end L2
namespace L2
open PySem
theorem Sx {X:Cx}{k:Nat}{C:Addr}{x:Str}{ps:List Str}{sp:Sp}{p pos:Pos}(D:Yw X.prog X.w X.K X.mg X.base k C x ps sp)(hr:Room (k+1) X.A)(hg:Gl X x)(hdb:(x == ("__debug__":Str))=false:=by decide):PE X (.Call (.Name x p) [] [] pos) (W7 C sp [] E0 K2):=by
 obtain⟨f,fd,F,M,hm,hb⟩:=D;exact UI M F hr hg hm hb .nil Vc hdb
end L2
namespace L2
section
open PySem PySem.Spec PyProof.Rows
variable {X:Cx}{x n:Str}{c:Value}{body orelse su:List Stmt}{b1:Stmt}{np hp pos:Pos}{i:Nat}
abbrev TH:=Addr->Addr->Option Addr->Ends->St->Hp->Prop
structure PHs (X:Cx) (hs:List ExceptHandler) (th:TH):Prop where
 go:∀{pins:List (Addr×Obj)} {D:Ends} {s1 s2:Shared} {ea C:Addr} {σ':St} {H1 H':Hp} {B:Heap} {a0:Value} {d:Option Addr} {h5:Heap},Inv X pins σ' H1 s2->Fly X.prog X.w X.stack H1 s2 ea (.ref C) H' B a0 s1->B.FlyingW (X.env::X.outer) ea (.ref C) a0 h5->s1.heap.UpToSlots h5->DictAt h5 ea d->th ea C d D σ' H'->wpAny (model X.prog X.w) X.A (handleBy (.ref ea) X.env hs) (SP X pins D) X.xe { s1 with heap:=h5 }
def Rk (K:PySem.W.Frag)(c:Value)(i:Nat)(t:Addr->TS)(th:TH):TH:=λea C d D σ H=>∃b:Bool,PySem.W.exmOne K (.ref C) c=some b/\(b=true->t ea (R3 i D) (σ.set i (some (.ref ea))) (upd H ea (Ie ea C d)))/\(b=false->th ea C d D σ H)
def VF (K:PySem.W.Frag)(c:Value)(t:TS):TH:=λea C d D σ H=>PySem.W.exmOne K (.ref C) c=some true/\t D σ H
theorem WU {t:TS}(hm:X.mg x=some c)(hg:Gl X x)(hs:∀e,NG (X.held e) (b1::su) t)(hd:(x == ("__debug__":Str))=false:=by decide):PHs X [.ExceptHandler (some (.Name x np)) none (b1::su) hp] (VF X.K c t):=by
 refine⟨λ{pins D s1 s2 ea C σ' H1 H' B a0 d h5} I2 F fl5 up dj h=>?_⟩;obtain⟨hx,q⟩:=h;have J5:=I2.landed F fl5.1 up;obtain⟨ob,hob,hcls⟩:=fl5.there;have LT:PySem.W.Looks (model X.prog X.w) h5 (typeOf (.ref ea)) (.ref C):=by
  rw[<-hcls];exact(fg hob).andThen .now
 refine fe (eQ (E6 (J5.held (.ref ea)) hg hm ?_ hd)) (by intro z;cases z);refine(fz J5.kIn LT hx).here ?_;refine codeAny_handlers_suite (lands_againW fl5 λh6 fl6 up6=>?_);have J6:=I2.landed F fl6.1 (up.trans up6);exact bf (hs (.ref ea) pins _ σ' H' D (J6.held (.ref ea)) q) (λf s7 z=>z.unheld J6) λ_ _ z=>False.elim z
theorem Oo {hs:List ExceptHandler}{th:TH}{t:Addr->TS}(hm:X.mg x=some c)(hg:Gl X x)(hN:X.N.Nodup)(hi:X.N[i]?=some n)(hk:X.env.scope.names.lookup n=some .local)(ht:∀ea:Addr,NG (X.held (.ref ea)) (b1::su) (t ea))(hr:PHs X hs th)(hd:(x == ("__debug__":Str))=false:=by decide):PHs X (.ExceptHandler (some (.Name x np)) (some n) (b1::su) hp::hs) (Rk X.K c i t th):=by
 refine⟨λ{pins D s1 s2 ea C σ' H1 H' B a0 d h5} I2 F fl5 up dj5 h=>?_⟩;obtain⟨b,hx,q1,q2⟩:=h;have J5:=I2.landed F fl5.1 up;obtain⟨ob,hob,hcls⟩:=fl5.there;have LT:PySem.W.Looks (model X.prog X.w) h5 (typeOf (.ref ea)) (.ref C):=by
  rw[<-hcls];exact(fg hob).andThen .now
 refine fe (eQ (E6 (J5.held (.ref ea)) hg hm ?_ hd)) (by intro z;cases z);refine(fz J5.kIn LT hx).here ?_;cases b with
 |true=>
  refine codeAny_handlers_suite_as ((G9 _ _).also dj5 (lands_againW fl5 λh6 fl6 up6 dj6=>?_));have J6:=I2.landed F fl6.1 (up.trans up6);have J7:=I2.knowD F J6 fl6.2.2.2 dj6;refine HP (v:=.ref ea) J7 hN hi (.inl hk) rfl (λs8 I8=>?_) (.inr hk);refine bf (ht ea pins s8 _ _ _ (I8.held (.ref ea)) (q1 rfl)) (λf s9 z=>?_) λ_ _ z=>False.elim z
  have z':=z.unheld J7;cases f with
  |next=>
   obtain⟨σ9,H9,I9,q9⟩:=z';exact Me I9 hN hi hk λs10 I10=>⟨_,_,I10,q9⟩
  |brk=>
   obtain⟨σ9,H9,I9,q9⟩:=z';exact Me I9 hN hi hk λs10 I10=>⟨_,_,I10,q9⟩
  |cont=>
   obtain⟨σ9,H9,I9,q9⟩:=z';exact Me I9 hN hi hk λs10 I10=>⟨_,_,I10,q9⟩
  |ret u=>
   obtain⟨v,σ9,H9,I9,r9,q9⟩:=z';exact Me I9 hN hi hk λs10 I10=>⟨v,_,_,I10,r9,q9⟩
 |false=>exact hr.go I2 F fl5 up dj5 (q2 rfl)
def YJ (tb:SB)(te:TS)(th:TH):TS:=λD σ H=>tb { D with nx:=te D } (λcls d σ' H'=>∃C:Addr,cls=.ref C/\∀ea,H' ea=none->th ea C d D σ' H') σ H
theorem Wm {hs:List ExceptHandler}{tb:SB}{te:TS}{th:TH}(hst:X.stack=X.env::X.outer/\X.env.frame=some X.env.locals)(hb:Ru X body tb)(he:NG X orelse te)(hh:PHs X hs th)(hne:hs≠[]:=by intro z;cases z):PS X (.Try body hs orelse [] pos) (YJ tb te th):=by
 intro pins s σ H D I h;cases hs with
 |nil=>exact absurd rfl hne
 |cons h0 hs=>
 refine wpAny_Try_except (bf (hb pins s σ H _ _ I h) (λf s1 q=>?_) λe s1 q=>?_)
 ·cases f with
  |next=>
   obtain⟨σ',H',I',q⟩:=q;exact he pins s1 σ' H' D I' q
  |ret v=>exact q
  |brk=>exact q
  |cont=>exact q
 ·obtain⟨ea,cls,σ',H1,H',s2,B,a0,d,rfl,I2,F,dj,C,hC,q⟩:=q;subst hC;have hfr:=I.ok.frames;have fl:=F.fl;rw[hst.1] at hfr fl;refine(Kc _ _).also dj (wpAny_looks_onW hfr hst.2 fl λh4 held4 up4 dj4=>?_);refine(G9 _ _).also dj4 (wpAny_landsW held4 λh5 fl5 up5 dj5=>?_);exact @PHs.go X _ _ hh pins D s1 s2 ea C σ' H1 H' B a0 d h5 I2 F fl5 (up4.trans up5) dj5 (q ea F.free)
end
end L2
namespace L2
section
open PySem PySem.Spec PyProof.Rows
def YH (o:Obj)(D:Addr):Prop:=o.cls=.ref D/\∃vs,o.data=.fields vs
structure FnOkX (P:Program) (w:World) (K:PySem.W.Frag) (mg:Str->Option Value) (base:Heap) (k:Nat) (f:Addr) (fd:FuncData) (ps:List Str) (sp:Addr->Addr->Sp):Prop where
 len:∀eh D vs H Q E,sp eh D vs H Q E->vs.length=ps.length
 run:∀(A:Around) (outer:List Env) (s:Shared) (H:Hp) (args:Args) (us:List Value) (vs:List V) (Q:VK) (E:XK) (eh:Addr) (oh:Obj) (D:Addr),RoomH k A->Env0 P w K mg base A outer s H->A.handled=some (.ref eh)->s.heap.get? eh=some oh->H eh=none->eh∉GN outer->Nr oh->YH oh D->BindsTo s fd args (ps.zip us)->Bd vs us->sp eh D vs H Q E->
  codeAny (model P w) A (.call (.ref f) args) (CR FL outer P w H s Q E) s
theorem X7 {P:Program} {w:World} {K:PySem.W.Frag} {mg:Str->Option Value} {base:Heap} {k:Nat} {f:Addr} {name qual:Str} {params:Arguments} {body:List Stmt} {scope:Scope} {dV kV doc pm cdv ct oc:Value} {an od:Option Addr}
  {osl:Array (Option Value)} {N ps:List Str} {sp:Addr->Addr->Sp} (lk:K.lookup f=some ⟨oc,od,.func (PySem.W.fnOf name qual params body scope dV kV doc pm an cdv ct),osl⟩) (hcd:PySem.W.codeIn K cdv qual=true) (S:FnScope N ps scope)
  (len:∀eh D vs H Q E,sp eh D vs H Q E->vs.length=ps.length)
  (hbody:∀(A:Around) (outer:List Env) (s:Shared) (H:Hp) (vs:List V) (Q:VK) (E:XK) (eh:Addr) (oh:Obj) (D:Addr),RoomH k (A.deeper (envOfC qual scope s.heap.objs.size f cdv))->HeldS (Yj P w K mg base N qual scope f cdv A outer s H) eh oh->YH oh D->sp eh D vs H Q E->
   ∃t,NG (Yj P w K mg base N qual scope f cdv A outer s H) body t/\t { nx:=λ_ H'=>Q .non H',rt:=Q } (start N vs) H) :
  FnOkX P w K mg base (k+1) f (PySem.W.fnOf name qual params body scope dV kV doc pm an cdv ct) ps sp:=by
 refine⟨len,λA outer s H args us vs Q E eh oh D hr e0 hhd hat hfr hnf hfl hxi hb r hsp=>?_⟩;have hl:=len _ _ _ _ _ _ hsp;have KX:K.In s.heap:=e0.mod.kin.keeps λb o e=>(e0.bs b o e).1
 have lim:s.heap.NoLimit:=e0.mod.nolimit.keeps λb o e=>(e0.bs b o e).1
 have hkind:∀y∈ps.zip us,scope.names.lookup y.1=some .local\/(scope.names.lookup y.1=some .cell/\((cellsFrom (s.heap.objs.size+1) scope.names []).lookup y.1).isSome=true):=λ⟨n,v⟩ hy=>by
  rcases S.par n (cW hy).1 with q|q
  ·exact .inl q
  ·exact .inr ⟨q,dS _ _ _ (.inl q)⟩
 refine codeAny_call_function hr.depth (KX _ _ lk) rfl S.co S.gen rfl (PySem.W.codeRec_of KX hcd) (hb _ _ _ _ ?_);refine gu S.kind hkind λenv he s1 x=>?_
 subst he;refine⟨lim.keeps x.toInCall.keep,codeAny_func ?_⟩;have hS:HeldS (Yj P w K mg base N qual scope f cdv A outer s H) eh oh:=⟨hhd,hat,hfr,hnf,(λz=>nomatch z),hfl⟩
 obtain⟨t,ht,hq⟩:=hbody A outer s H vs Q E eh oh D (hr.deeper _) hS hxi hsp;have e0':Env0 P w K mg base { A with handled:=none } outer s H:=⟨e0.frames,e0.mod,e0.bs,e0.bsz,e0.funs,e0.frf,e0.hok,e0.bare⟩
 have I0:Inv (A4 FL P w K mg base N qual scope f cdv { A with handled:=none } outer s H E) [] (start N vs) H s1:=Ol S rfl e0' hl r x;have I:Inv (Yj P w K mg base N qual scope f cdv A outer s H) [] (start N vs) H s1:=
  ⟨⟨I0.ok.mod,I0.ok.kind,I0.ok.glob,I0.ok.blt,I0.ok.above,I0.ok.inj,I0.ok.has,I0.ok.cab,(λz=>nomatch z),I0.ok.frames,I0.ok.stk,I0.ok.exf,I0.ok.bs,I0.ok.bsz,I0.ok.noex,I0.ok.exfs,I0.ok.funs,I0.ok.frf⟩,I0.os,I0.bare,I0.base,I0.loc,I0.cell,I0.free,I0.freeC,I0.pin,I0.hok,I0.len⟩
 refine bf (ht [] s1 (start N vs) H _ I hq) (λfl s' hs=>?_) λe s' hs=>False.elim hs
 have fin:∀{σ':St} {H':Hp} {v:V} {u:Value},Inv (Yj P w K mg base N qual scope f cdv A outer s H) [] σ' H' s'->RelV v u->Q v H'->CE outer P w H s Q u s':=
  λ{σ' H' v u} J rv q=>⟨v,H',J.os,J.bare,J.base,J.hok,rv,q⟩
 cases fl with
 |ret u=>
  obtain⟨v,σ',H',J,rv,q⟩:=hs;exact fin J rv q
 |next=>
  obtain⟨σ',H',J,q⟩:=hs;exact fin (v:=V.non) (u:=Value.none) J rfl q
 |brk=>
  obtain⟨_,_,_,q⟩:=hs;exact False.elim q
 |cont=>
  obtain⟨_,_,_,q⟩:=hs;exact False.elim q
theorem Fun.okHX {P:Program} {w:World} {K:PySem.W.Frag} {mg:Str->Option Value} {base:Heap} {x qual:Str} {st:Stmt} {f:Addr} {fd:FuncData} {N ps:List Str} {k:Nat} {sp:Addr->Addr->Sp} (F:Fun K x qual st f fd) (S:FnScope N ps (Ac st)) (len:∀eh D vs H Q E,sp eh D vs H Q E->vs.length=ps.length)
  (hbody:∀(cdv:Value) (A:Around) (outer:List Env) (s:Shared) (H:Hp) (vs:List V) (Q:VK) (E:XK) (eh:Addr) (oh:Obj) (D:Addr),RoomH k (A.deeper (envOfC qual (Ac st) s.heap.objs.size f cdv))->HeldS (Yj P w K mg base N qual (Ac st) f cdv A outer s H) eh oh->YH oh D->sp eh D vs H Q E->
   ∃t,NG (Yj P w K mg base N qual (Ac st) f cdv A outer s H) (Ar st) t/\t { nx:=λ_ H'=>Q .non H',rt:=Q } (start N vs) H):FnOkX P w K mg base (k+1) f fd ps sp:=by
 obtain⟨oc,od,kV,doc,pm,an,cdv,ct,osl,rfl,lk,hcd⟩:=F.ex;exact X7 lk hcd S len λA outer s H vs Q E eh oh D hr hS hx hsp=>hbody cdv A outer s H vs Q E eh oh D hr hS hx hsp
def VJ (P:Program)(w:World)(K:PySem.W.Frag)(mg:Str->Option Value)(base:Heap)(k:Nat)(x:Str)(ps:List Str)(sp:Addr->Addr->Sp):Prop:=
 ∃(f:Addr) (fd:FuncData),FnOkX P w K mg base k f fd ps sp/\mg x=some (.ref f)/\PySem.W.keepIn K (.ref f)=true/\Binds K fd ps []
variable {X:Cx}{k:Nat}{x:Str}{ps:List Str}{sp:Addr->Addr->Sp}{e:Expr}{es:List Expr}{t:TA}{p pos:Pos}
def MV (sp:Addr->Addr->Sp)(eh:Addr)(t:TA):TE:=λσ H Q=>t σ H λvs H1=>∃D d,H1 eh=some (Ie eh D d)/\sp eh D (vs++[]) (del H1 eh) (λv H2=>H2 eh=none->Q v (upd H2 eh (Ie eh D d))) E0
theorem IG {eh:Addr} (hh:X.A.handled=some (.ref eh)) (D:VJ X.prog X.w X.K X.mg X.base k x ps sp) (hr:RoomH k X.A) (hg:Gl X x) (ha:PA X (e::es) t)
  (hdb:(x == ("__debug__":Str))=false:=by decide) (he:starEach (e::es) X.env=(false,eval e X.env)::starEach es X.env:=by rfl) (hpl:(backTo pos (starEach es X.env)).any (·.1)=false:=by rfl) :
  PE X (.Call (.Name x p) (e::es) [] pos) (MV sp eh t):=by
 obtain⟨f,fd,F,hm,hk,hb⟩:=D;intro pins s σ H Q I h;refine bZ (E6 I hg hm ?_ hdb);refine cJ (h₀:=X.base) I.ok.mod.kin hk (Cq (ha pos pins s σ H _ I h) λus s1 ⟨vs,H1,I1,r,D,d,hx,q⟩=>⟨I1.kIn,?_⟩) he hpl;rw[bq] at q;have hl:us.length=ps.length:=by rw[<-r.length];exact F.len _ _ _ _ _ _ q
 have hb':=hb s1 us I1.kIn (by rw[bq];exact hl);rw[bq] at hb';obtain⟨isx,⟨ob,hob⟩,st⟩:Bn X.prog X.w H1 s1.heap eh (Ie eh D d):=I1.hok eh _ hx;obtain⟨_,o2,ho2,hd2,f2⟩:=id isx;have xi:YH ob D:=by
  obtain⟨⟨o3,ho3,hc3,vs3,hv3⟩,_⟩:=id isx;rw[hob] at ho3;cases ho3;exact⟨hc3,vs3,hv3⟩
 rw[hob] at ho2;cases ho2;have nst:eh∉GN X.stack:=λz=>by
  have:=I1.stkFree eh z;rw[hx] at this;cases this
 have nt:∀{b:Addr} {u:HO},H1 b=some u->(∀φ,u≠.ext φ)->del H1 eh b=some u:=λ{b u} e n=>by
  rw[JA (λz=>by rw[z,hx] at e;cases e;exact n _ rfl)];exact e
 have e0:=I1.env0;have hok:Iy X.prog X.w (del H1 eh) s1.heap:=λb u e=>by
  have nb:b≠eh:=λz=>by rw[z,Fg] at e;cases e
  rw[JA nb] at e;exact(I1.hok b u e).stay (λc v _ z=>z) (λc z=>nt z (by intro _ z;cases z)) λc xs z=>nt z (by intro _ z;cases z)
 have dn:∀{b:Addr},H1 b=none->del H1 eh b=none:=λ{b} h=>by
  unfold del;split
  ·rfl
  ·exact h
 have e0':Env0 X.prog X.w X.K X.mg X.base X.A X.stack s1 (del H1 eh):=⟨e0.frames,e0.mod,λb o z=>⟨(e0.bs b o z).1,dn (e0.bs b o z).2⟩,e0.bsz,e0.funs,λb z=>dn (e0.frf b z),hok,e0.bare⟩
 refine cI (cP (F.run X.A X.stack s1 (del H1 eh) ⟨us,[]⟩ us vs _ E0 eh ob D hr e0' hh hob Fg nst f2 xi hb' r q) λr s' z=>?_)
 match r,z with
 | .error e,z=>exact False.elim z
 | .ok (.ret u),⟨v,H2,os,bare,un,hok2,rv,q2⟩=>
  have k2:s'.heap.get? eh=some ob:=un.keep eh ob hob Fg nst (by intro z;cases z);have n2:H2 eh=none:=un.free eh ob hob Fg (by intro z;cases z);have up:∀{b:Addr} {u:HO},H2 b=some u->upd H2 eh (Ie eh D d) b=some u:=λ{b u} e=>by rw[Ax (B6 e n2)];exact e
  have un2:Un (GN X.stack) [] H1 (upd H2 eh (Ie eh D d)) s1.heap s'.heap:=
   ⟨λb o a n=>un.keep b o a (dn n),λb o a n=>un.slot b o a (dn n),λb o a n c=>by
    rw[Ax (λz=>by rw[z,hx] at n;cases n)];exact un.free b o a (dn n) c,un.there,λb xs e=>up (un.tups b xs (nt e (by intro _ z;cases z))),λb o u e=>up (un.frzs b o u (nt e (by intro _ z;cases z))),λb ps e=>by
    obtain⟨more,z⟩:=un.tbls b ps (nt e (by intro _ z;cases z));exact⟨more,up z⟩⟩
  have hok3:Iy X.prog X.w (upd H2 eh (Ie eh D d)) s'.heap:=λb u e=>by
   by_cases nb:b=eh
   ·subst nb;rw[Ae] at e;cases e;exact⟨isx.stays λo a=>by rw[hob] at a;cases a;exact k2,⟨ob,k2⟩,λ_ _ z k=>z.stays k⟩
   ·rw[Ax nb] at e;exact(hok2 b u e).stay (λc v _ z=>z) (λc z=>up z) λc xs z=>up z
  exact⟨v,_,I1.call' (ch:=[]) os un2 hok3 bare (λb z=>nomatch z),rv,q2 n2⟩
def Y4 (K:PySem.W.Frag)(eh D:Addr):List V->Hp->VK->Prop:=λxs H Q=>∃(c:V) (cv:Value) (b:Bool),xs=[.ref eh,c]/\ExcCls K D/\(∀u,RelV c u->u=cv)/\PySem.W.kitOne K (.ref D) cv=some b/\Q (.bl b) H
theorem ES {K:PySem.W.Frag}{eh D:Addr}{oh:Obj}(hK:X.K=K)(hS:HeldS X eh oh)(hx:YH oh D):GR X (.builtin "isinstance") (Y4 K eh D):=by
 subst hK;intro pins s σ H xs us Q I r h;obtain⟨c,cv,b,rfl,hc,hv,hk,q⟩:=h;obtain⟨u,v,rfl,ru,rv⟩:=vals2 r;cases(show u=Value.ref eh from ru);cases hv v rv;exact bP hc.kit I.kIn ⟨oh,(hS.now I).at_,hx.1,hx.2⟩ hk (λz=>nomatch z) λtk=>⟨.bl b,H,I.tok _,rfl,q⟩
def W5:R2:=λx y H Q=>∃z,y=.str z/\((∃w,x=.str w/\Q (.bl (w == z)) H)\/∃a xs,x=.ref a/\H a=some (.lst xs)/\Q (.bl false) H)
theorem WC (hu9:X.A.units+150<cLine):JS X (compareOp .Eq) W5:=by
 intro pins s σ H x y v u Q I rx ry h;have hu:X.A.units<cLine:=by omega
 obtain⟨z,rfl,h⟩:=h;obtain⟨t2,rfl⟩:=ry;rcases h with⟨w,rfl,q⟩|⟨a,xs,rfl,ha,q⟩
 ·obtain⟨t1,rfl⟩:=rx;exact SeqAt.RcAt.str_str w t1 z t2 _ _ _ _ ⟨.bl _,H,I,rfl,q⟩
 ·cases rx;obtain⟨its,_,p,_⟩:=I.list (A7.of (K:=X.K) ha);exact SeqAt.RcAt.list_str z t2 p.isList hu _ _ _ _ ⟨.bl _,H,I,rfl,q⟩
end
end L2
set_option maxHeartbeats 4000000
namespace K74
local macro_rules | `(!$x) => do
  let (f, a) ← match x with | `($f:ident $a*) => pure (f, a) | `($f:ident) => pure (f, #[]) | _ => Lean.Macro.throwUnsupported
  let some (n, m, t) := ([([`Ab, `AO, `Dw, `G6, `WL], 1, 0, ""), ([`QW, `UQ], 2, 0, ""), ([`ER, `Ad, `Q4, `Gp, `FG, `Ka, `JW, `Ua, `Ww], 3, 0, ""), ([`GG, `Jn, `QZ, `AG, `Vo, `Ag, `Mz, `SU, `B7, `DV, `Az, `L9], 4, 0, ""), ([`AA, `MA], 4, 2, "r"), ([`QV, `Bv, `Jp], 4, 3, "d"), ([`YK], 4, 5, "dd"), ([`Ah, `Pt, `KR, `WR, `Bo, `VY, `Om, `S7], 5, 0, ""), ([`EL], 5, 2, "f"), ([`Aa, `Qg], 5, 3, "r"), ([`Ir, `YF, `RZ, `IF], 6, 0, ""), ([`WW], 6, 3, "rr"), ([`Ly], 6, 4, "r"), ([`LJ, `VB, `Ao, `VA, `Xg, `VN], 7, 0, ""), ([`GV], 7, 6, "fd"), ([`AV, `HA, `AY, `WI, `Vf, `X0], 8, 0, ""), ([`Kg, `Jv], 8, 3, "f"), ([`Ht, `AD], 8, 4, "f"), ([`A0, `GL], 9, 9, "ddrr"), ([`Fk], 10, 0, ""), ([`AW, `Sn], 10, 7, "drr"), ([`Ba], 11, 8, "drr"), ([`Qp], 12, 0, ""), ([`By], 12, 8, "dr"), ([`Gu], 12, 11, "rrrrr"), ([`Yu], 13, 7, "d"), ([`U2], 14, 8, "rrr"), ([`AH], 15, 9, "rrr")] : List (List Lean.Name × Nat × Nat × String)).findSome? (λ(l, n) => if l.contains f.getId then some n else none) | Lean.Macro.throwUnsupported
  let u ← `(_)
  let us := Array.replicate n u
  let mut p := #[]
  for c in t.toList.drop (t.length + a.size - m) do
    let v ← if c == 'r' then `(by rfl) else if c == 'd' then `(by decide) else if c == 'f' then `(rfl) else `(by trivial)
    p := p.push v
  `(@$f $us* $a* $p*)
set_option hygiene false
local macro_rules | `(tactic| exists $t) => `(tactic| refine F.ok $t (fun vs H Q E h => ?_) (fun cdv A outer s H vs Q E hr h => ?_))
set_option hygiene true
local macro_rules | `(tactic| trivial) => `(tactic| first | exact .inl rfl | exact .inr rfl | assumption | exact ⟨rfl, rfl, rfl, by decide +kernel, rfl, by decide +kernel, by decide +kernel⟩ | exact L2.Room.mono (by assumption) (by decide))
open PySem L2
theorem S0 : 0 <= sizeLine := small (by decide)
theorem Pn : 1 <= sizeLine := small (by decide)
theorem Dt : 2 <= sizeLine := small (by decide)
theorem LU : 3 <= sizeLine := small (by decide)
theorem Tj : 4 <= sizeLine := small (by decide)
theorem RG : 5 <= sizeLine := small (by decide)
theorem XU : 6 <= sizeLine := small (by decide)
theorem ZH : 8 <= sizeLine := small (by decide)
theorem YS : 12 <= sizeLine := small (by decide)
def top (i:Nat):Stmt:=PySem.Challenge.pw_stemshelf_k74_deeds_done.main.body.getD i (.Pass ⟨0,0,0,0⟩)
abbrev Do:Stmt:=inClass (top 4) 0
theorem Ng:FnScope ["self","name"] ["self","name"] (Ac Do):=by trivial
abbrev Dy:Stmt:=inClass (top 5) 0
theorem N3:FnScope ["self","name"] ["self","name"] (Ac Dy):=by trivial
abbrev Ej:Stmt:=inClass (top 6) 0
theorem OR:FnScope ["self","name"] ["self","name"] (Ac Ej):=by trivial
abbrev DF:Stmt:=inClass (top 7) 0
theorem NY:FnScope ["self","name"] ["self","name"] (Ac DF):=by trivial
abbrev Dm:Stmt:=inClass (top 9) 0
theorem M8:FnScope ["self","path"] ["self","path"] (Ac Dm):=by trivial
abbrev FO:Stmt:=top 12
theorem RE:FnScope ["thing","least","most"] ["thing","least","most"] (Ac FO):=by trivial
abbrev Lc:Stmt:=top 14
theorem Se:FnScope ["house","deed","word"] ["house","deed"] (Ac Lc):=by trivial
abbrev FJ:Stmt:=top 22
theorem R9:FnScope ["thing"] ["thing"] (Ac FJ):=by trivial
abbrev DE:Stmt:=top 28
theorem IV:FnScope ["some","name","one"] ["some","name"] (Ac DE):=by trivial
abbrev Cr:Stmt:=top 29
theorem GT:FnScope ["head","name","keeper"] ["head","name"] (Ac Cr):=by trivial
abbrev EZ:Stmt:=top 30
theorem LH:FnScope ["head","name","named"] ["head","name"] (Ac EZ):=by trivial
abbrev C8:Stmt:=top 31
theorem HX:FnScope ["head","name","stem"] ["head","name"] (Ac C8):=by trivial
abbrev Di:Stmt:=top 32
theorem Ik:FnScope ["head","name","seal"] ["head","name"] (Ac Di):=by trivial
abbrev ET:Stmt:=top 33
theorem QE:FnScope ["head"] ["head"] (Ac ET):=by trivial
abbrev EO:Stmt:=top 34
theorem LI:FnScope ["head","stem","seals"] ["head","stem"] (Ac EO):=by trivial
abbrev Cm:Stmt:=top 35
theorem JX:FnScope ["head","name"] ["head","name"] (Ac Cm):=by trivial
abbrev DG:Stmt:=top 36
theorem N0:FnScope ["head"] ["head"] (Ac DG):=by trivial
abbrev Cj:Stmt:=top 37
theorem Kj:FnScope ["head","name","keeper"] ["head","name","keeper"] (Ac Cj):=by trivial
abbrev El:Stmt:=top 38
theorem Km:FnScope ["some","one","others"] ["some","one"] (Ac El):=by trivial
abbrev Dd:Stmt:=top 39
theorem Ij:FnScope ["head","name","bound","keepers"] ["head","name","bound"] (Ac Dd):=by trivial
abbrev DI:Stmt:=top 40
theorem NK:FnScope ["head","named"] ["head","named"] (Ac DI):=by trivial
abbrev Cs:Stmt:=top 41
theorem KP:FnScope ["head","names"] ["head","names"] (Ac Cs):=by trivial
abbrev D5:Stmt:=top 42
theorem Pa:FnScope ["head"] ["head"] (Ac D5):=by trivial
abbrev FM:Stmt:=top 44
theorem DZ:FnScope ["head","stem","graft","origin","parent","seal"] ["head","stem"] (Ac FM):=by trivial
abbrev Dk:Stmt:=top 45
theorem Nv:FnScope ["stem","origin"] ["stem","origin"] (Ac Dk):=by trivial
abbrev EV:Stmt:=top 48
theorem LR:FnScope ["path","steps"] ["path"] (Ac EV):=by trivial
abbrev DD:Stmt:=top 49
theorem NQ:FnScope ["path","other"] ["path","other"] (Ac DD):=by trivial
abbrev FN:Stmt:=top 50
theorem Ry:FnScope ["folder","name"] ["folder","name"] (Ac FN):=by trivial
abbrev Ef:Stmt:=top 51
theorem Pc:FnScope ["path"] ["path"] (Ac Ef):=by trivial
abbrev Dl:Stmt:=top 55
theorem Nn:FnScope ["head","name","bound"] ["head","name","bound"] (Ac Dl):=by trivial
abbrev Dj:Stmt:=top 56
theorem HU:FnScope ["head","stem","name","named"] ["head","stem","name"] (Ac Dj):=by trivial
abbrev Ct:Stmt:=top 57
theorem EW:FnScope ["head","stem","named","seals"] ["head","stem"] (Ac Ct):=by trivial
abbrev Bg:Stmt:=top 58
theorem GS:FnScope ["head","stem"] ["head","stem"] (Ac Bg):=by trivial
abbrev CO:Stmt:=top 59
theorem Cu:FnScope ["head","name","named","seals","origins","grown"] ["head","name"] (Ac CO):=by trivial
abbrev B2:Stmt:=inClass (top 61) 0
theorem Jx:FnScope ["self"] ["self"] (Ac B2):=by trivial
abbrev BF:Stmt:=inClass (top 61) 1
theorem Ic:FnScope ["self","name","bound"] ["self","name","bound"] (Ac BF):=by trivial
abbrev BW:Stmt:=inClass (top 61) 2
theorem Js:FnScope ["self","name","keeper"] ["self","name","keeper"] (Ac BW):=by trivial
abbrev Bq:Stmt:=inClass (top 61) 3
theorem HM:FnScope ["self","name","keeper","tree"] ["self","name","keeper","tree"] (Ac Bq):=by trivial
abbrev BG:Stmt:=inClass (top 61) 4
theorem Fd:FnScope ["self","stem","path","tree"] ["self","stem","path"] (Ac BG):=by trivial
abbrev BK:Stmt:=inClass (top 61) 5
theorem Fz:FnScope ["self","stem","path","content","tree"] ["self","stem","path","content"] (Ac BK):=by trivial
abbrev BA:Stmt:=inClass (top 61) 6
theorem Ff:FnScope ["self","stem","path","at","many","text","content"] ["self","stem","path","at","many","text"] (Ac BA):=by trivial
abbrev BH:Stmt:=inClass (top 61) 7
theorem Fm:FnScope ["self","stem","path","tree"] ["self","stem","path"] (Ac BH):=by trivial
abbrev B0:Stmt:=inClass (top 61) 8
theorem Gg:FnScope ["self","stem","path","to","tree"] ["self","stem","path","to"] (Ac B0):=by trivial
abbrev BY:Stmt:=inClass (top 61) 9
theorem DY:FnScope ["self","stem","to","name","path","tree","source"] ["self","stem","to","name","path"] (Ac BY):=by trivial
abbrev B3:Stmt:=inClass (top 61) 10
theorem JC:FnScope ["self","stem","name"] ["self","stem","name"] (Ac B3):=by trivial
abbrev BS:Stmt:=inClass (top 61) 11
theorem Gf:FnScope ["self","name","seal","keeper","tree"] ["self","name","seal","keeper"] (Ac BS):=by trivial
abbrev BU:Stmt:=inClass (top 61) 12
theorem JB:FnScope ["self","stem"] ["self","stem"] (Ac BU):=by trivial
abbrev BL:Stmt:=inClass (top 61) 13
theorem IS:FnScope ["self","stem"] ["self","stem"] (Ac BL):=by trivial
abbrev BX:Stmt:=inClass (top 61) 14
theorem JQ:FnScope ["self","name"] ["self","name"] (Ac BX):=by trivial
abbrev BZ:Stmt:=inClass (top 61) 15
theorem Ju:FnScope ["self","name","path"] ["self","name","path"] (Ac BZ):=by trivial
abbrev BM:Stmt:=inClass (top 61) 16
theorem Fx:FnScope ["self","name","tree"] ["self","name"] (Ac BM):=by trivial
abbrev Br:Stmt:=inClass (top 61) 17
theorem HH:FnScope ["self","name"] ["self","name"] (Ac Br):=by trivial
abbrev A9:Stmt:=inClass (top 61) 18
theorem Ga:FnScope ["self","name"] ["self","name"] (Ac A9):=by trivial
abbrev BD:Stmt:=inClass (top 61) 19
theorem ID:FnScope ["self","stem","tree"] ["self","stem","tree"] (Ac BD):=by trivial
abbrev Bl:Stmt:=inClass (top 61) 20
theorem G2:FnScope ["self","stem","tree"] ["self","stem","tree"] (Ac Bl):=by trivial
abbrev Eo:Stmt:=top 62
theorem OY:FnScope ["tree","path"] ["tree","path"] (Ac Eo):=by trivial
abbrev DJ:Stmt:=top 63
theorem NI:FnScope ["tree","path"] ["tree","path"] (Ac DJ):=by trivial
abbrev Ek:Stmt:=top 64
theorem OQ:FnScope ["tree","path"] ["tree","path"] (Ac Ek):=by trivial
abbrev DH:Stmt:=top 65
theorem NW:FnScope ["tree","path"] ["tree","path"] (Ac DH):=by trivial
abbrev Dc:Stmt:=top 66
theorem Na:FnScope ["tree","path"] ["tree","path"] (Ac Dc):=by trivial
abbrev DM:Stmt:=top 67
theorem IU:FnScope ["tree","more","other"] ["tree","more"] (Ac DM):=by trivial
abbrev CN:Stmt:=top 68
theorem LW:FnScope ["tree","path"] ["tree","path"] (Ac CN):=by trivial
abbrev FQ:Stmt:=top 69
theorem G5:FnScope ["tree","path","to","found","other","steps"] ["tree","path","to"] (Ac FQ):=by trivial
abbrev CM:Stmt:=top 70
theorem HB:FnScope ["tree","folders"] ["tree"] (Ac CM):=by trivial
abbrev EX:Stmt:=top 73
theorem Fc:FnScope ["_law_cell","_law_many","_law_found","_law_k","_law_number_here"] ["_law_cell","_law_many"] (Ac EX):=by trivial
abbrev Ei:Stmt:=top 74
theorem O7:FnScope ["_law_row_here","_law_at","_law_names"] ["_law_row_here","_law_at","_law_names"] (Ac Ei):=by trivial
abbrev Eg:Stmt:=top 75
theorem Ey:FnScope ["_law_row_here","_law_at","_law_names","_law_many","_law_some","_law_k","_law_number_here"] ["_law_row_here","_law_at","_law_names"] (Ac Eg):=by trivial
abbrev Da:Stmt:=top 76
theorem EA:FnScope ["_law_row_here","_law_at","_law_number_here","_law_digit"] ["_law_row_here","_law_at"] (Ac Da):=by trivial
abbrev Er:Stmt:=top 77
theorem Hv:FnScope ["_law_row_here","_law_at","_law_signs","_law_many"] ["_law_row_here","_law_at"] (Ac Er):=by trivial
abbrev Es:Stmt:=top 78
theorem CC:FnScope ["_law_cell","_law_names","_law_row_here","_law_words","_law_word_here","_law_one","_law_path_here","_law_to","_law_other"] ["_law_cell","_law_names"] (Ac Es):=by trivial
abbrev FK:Stmt:=top 79
theorem R0:FnScope ["_law_house","_law_deed_here"] ["_law_house","_law_deed_here"] (Ac FK):=by trivial
abbrev Eb:Stmt:=top 80
theorem Ko:FnScope ["_law_e","_law_kinds"] ["_law_e"] (Ac Eb):=by trivial
abbrev Em:Stmt:=top 81
theorem C5:FnScope ["_law_house","_law_deed_here","_law_by_done","_law_e"] ["_law_house","_law_deed_here","_law_by_done"] (Ac Em):=by trivial
abbrev Df:Stmt:=top 82
theorem Ez:FnScope ["_law_house","_law_names","_law_found","_law_name","_law_rows"] ["_law_house","_law_names"] (Ac Df):=by trivial
abbrev Kk:Stmt:=top 83
theorem Iw:FnScope ["_law_script","_law_names","_law_houses","_law_house","_law_cell","_law_deed_here","_law_one","_law_other"] ["_law_script"] (Ac Kk):=by trivial
structure Txt (K:W.Frag) (mg:Str->Option Value) (C:Addr) (XC:Nat->Addr):Prop where
 cl:Cls K C
 n_own_head:JP K C "own_head"
 x_NoName:mg "NoName"=some (.ref (XC 0))
 x_Twice:mg "Twice"=some (.ref (XC 1))
 x_Bare:mg "Bare"=some (.ref (XC 2))
 x_Grown:mg "Grown"=some (.ref (XC 3))
 x_TooMany:mg "TooMany"=some (.ref (XC 4))
 x_NoPath:mg "NoPath"=some (.ref (XC 5))
 x_StemError:mg "StemError"=some (.ref (XC 6))
 x_OverBound:mg "OverBound"=some (.ref (XC 7))
 q_TooMany:W.excIn K (XC 4) [.type "ValueError",.type "Exception",.type "BaseException",.type "object"] "ValueError.__new__"=true
 m_NoPath_NoPath:W.exmOne K (.ref (XC 5)) (.ref (XC 5))=some true
 m_NoPath_TooMany:W.exmOne K (.ref (XC 5)) (.ref (XC 4))=some false
 m_NoPath_NoName:W.exmOne K (.ref (XC 5)) (.ref (XC 0))=some false
 m_NoPath_Twice:W.exmOne K (.ref (XC 5)) (.ref (XC 1))=some false
 m_NoPath_Bare:W.exmOne K (.ref (XC 5)) (.ref (XC 2))=some false
 m_NoPath_Grown:W.exmOne K (.ref (XC 5)) (.ref (XC 3))=some false
 m_TooMany_NoPath:W.exmOne K (.ref (XC 4)) (.ref (XC 5))=some false
 m_TooMany_TooMany:W.exmOne K (.ref (XC 4)) (.ref (XC 4))=some true
 m_TooMany_NoName:W.exmOne K (.ref (XC 4)) (.ref (XC 0))=some false
 m_TooMany_Twice:W.exmOne K (.ref (XC 4)) (.ref (XC 1))=some false
 m_TooMany_Bare:W.exmOne K (.ref (XC 4)) (.ref (XC 2))=some false
 m_TooMany_Grown:W.exmOne K (.ref (XC 4)) (.ref (XC 3))=some false
 m_NoName_NoPath:W.exmOne K (.ref (XC 0)) (.ref (XC 5))=some false
 m_NoName_TooMany:W.exmOne K (.ref (XC 0)) (.ref (XC 4))=some false
 m_NoName_NoName:W.exmOne K (.ref (XC 0)) (.ref (XC 0))=some true
 m_NoName_Twice:W.exmOne K (.ref (XC 0)) (.ref (XC 1))=some false
 m_NoName_Bare:W.exmOne K (.ref (XC 0)) (.ref (XC 2))=some false
 m_NoName_Grown:W.exmOne K (.ref (XC 0)) (.ref (XC 3))=some false
 m_Twice_NoPath:W.exmOne K (.ref (XC 1)) (.ref (XC 5))=some false
 m_Twice_TooMany:W.exmOne K (.ref (XC 1)) (.ref (XC 4))=some false
 m_Twice_NoName:W.exmOne K (.ref (XC 1)) (.ref (XC 0))=some false
 m_Twice_Twice:W.exmOne K (.ref (XC 1)) (.ref (XC 1))=some true
 m_Twice_Bare:W.exmOne K (.ref (XC 1)) (.ref (XC 2))=some false
 m_Twice_Grown:W.exmOne K (.ref (XC 1)) (.ref (XC 3))=some false
 m_Bare_NoPath:W.exmOne K (.ref (XC 2)) (.ref (XC 5))=some false
 m_Bare_TooMany:W.exmOne K (.ref (XC 2)) (.ref (XC 4))=some false
 m_Bare_NoName:W.exmOne K (.ref (XC 2)) (.ref (XC 0))=some false
 m_Bare_Twice:W.exmOne K (.ref (XC 2)) (.ref (XC 1))=some false
 m_Bare_Bare:W.exmOne K (.ref (XC 2)) (.ref (XC 2))=some true
 m_Bare_Grown:W.exmOne K (.ref (XC 2)) (.ref (XC 3))=some false
 m_Grown_NoPath:W.exmOne K (.ref (XC 3)) (.ref (XC 5))=some false
 m_Grown_TooMany:W.exmOne K (.ref (XC 3)) (.ref (XC 4))=some false
 m_Grown_NoName:W.exmOne K (.ref (XC 3)) (.ref (XC 0))=some false
 m_Grown_Twice:W.exmOne K (.ref (XC 3)) (.ref (XC 1))=some false
 m_Grown_Bare:W.exmOne K (.ref (XC 3)) (.ref (XC 2))=some false
 m_Grown_Grown:W.exmOne K (.ref (XC 3)) (.ref (XC 3))=some true
 e_TooMany:ExcCls K (XC 4)
 i_NoName:ExiCls K (XC 0)
 f_NoName:W.findIn K (.ref (XC 0)) "name"=some none
 i_Twice:ExiCls K (XC 1)
 f_Twice:W.findIn K (.ref (XC 1)) "name"=some none
 i_Bare:ExiCls K (XC 2)
 f_Bare:W.findIn K (.ref (XC 2)) "name"=some none
 i_Grown:ExiCls K (XC 3)
 f_Grown:W.findIn K (.ref (XC 3)) "name"=some none
 i_NoPath:ExiCls K (XC 5)
 f_NoPath:W.findIn K (.ref (XC 5)) "path"=some none
 k_NoName_NoName:W.kitOne K (.ref (XC 0)) (.ref (XC 0))=some true
 k_NoName_NoPath:W.kitOne K (.ref (XC 0)) (.ref (XC 5))=some false
 k_NoName_Twice:W.kitOne K (.ref (XC 0)) (.ref (XC 1))=some false
 k_NoName_Bare:W.kitOne K (.ref (XC 0)) (.ref (XC 2))=some false
 k_NoName_Grown:W.kitOne K (.ref (XC 0)) (.ref (XC 3))=some false
 k_NoName_TooMany:W.kitOne K (.ref (XC 0)) (.ref (XC 4))=some false
 k_NoName_OverBound:W.kitOne K (.ref (XC 0)) (.ref (XC 7))=some false
 k_NoPath_NoName:W.kitOne K (.ref (XC 5)) (.ref (XC 0))=some false
 k_NoPath_NoPath:W.kitOne K (.ref (XC 5)) (.ref (XC 5))=some true
 k_NoPath_Twice:W.kitOne K (.ref (XC 5)) (.ref (XC 1))=some false
 k_NoPath_Bare:W.kitOne K (.ref (XC 5)) (.ref (XC 2))=some false
 k_NoPath_Grown:W.kitOne K (.ref (XC 5)) (.ref (XC 3))=some false
 k_NoPath_TooMany:W.kitOne K (.ref (XC 5)) (.ref (XC 4))=some false
 k_NoPath_OverBound:W.kitOne K (.ref (XC 5)) (.ref (XC 7))=some false
 k_Twice_NoName:W.kitOne K (.ref (XC 1)) (.ref (XC 0))=some false
 k_Twice_NoPath:W.kitOne K (.ref (XC 1)) (.ref (XC 5))=some false
 k_Twice_Twice:W.kitOne K (.ref (XC 1)) (.ref (XC 1))=some true
 k_Twice_Bare:W.kitOne K (.ref (XC 1)) (.ref (XC 2))=some false
 k_Twice_Grown:W.kitOne K (.ref (XC 1)) (.ref (XC 3))=some false
 k_Twice_TooMany:W.kitOne K (.ref (XC 1)) (.ref (XC 4))=some false
 k_Twice_OverBound:W.kitOne K (.ref (XC 1)) (.ref (XC 7))=some false
 k_Bare_NoName:W.kitOne K (.ref (XC 2)) (.ref (XC 0))=some false
 k_Bare_NoPath:W.kitOne K (.ref (XC 2)) (.ref (XC 5))=some false
 k_Bare_Twice:W.kitOne K (.ref (XC 2)) (.ref (XC 1))=some false
 k_Bare_Bare:W.kitOne K (.ref (XC 2)) (.ref (XC 2))=some true
 k_Bare_Grown:W.kitOne K (.ref (XC 2)) (.ref (XC 3))=some false
 k_Bare_TooMany:W.kitOne K (.ref (XC 2)) (.ref (XC 4))=some false
 k_Bare_OverBound:W.kitOne K (.ref (XC 2)) (.ref (XC 7))=some false
 k_Grown_NoName:W.kitOne K (.ref (XC 3)) (.ref (XC 0))=some false
 k_Grown_NoPath:W.kitOne K (.ref (XC 3)) (.ref (XC 5))=some false
 k_Grown_Twice:W.kitOne K (.ref (XC 3)) (.ref (XC 1))=some false
 k_Grown_Bare:W.kitOne K (.ref (XC 3)) (.ref (XC 2))=some false
 k_Grown_Grown:W.kitOne K (.ref (XC 3)) (.ref (XC 3))=some true
 k_Grown_TooMany:W.kitOne K (.ref (XC 3)) (.ref (XC 4))=some false
 k_Grown_OverBound:W.kitOne K (.ref (XC 3)) (.ref (XC 7))=some false
 k_TooMany_NoName:W.kitOne K (.ref (XC 4)) (.ref (XC 0))=some false
 k_TooMany_NoPath:W.kitOne K (.ref (XC 4)) (.ref (XC 5))=some false
 k_TooMany_Twice:W.kitOne K (.ref (XC 4)) (.ref (XC 1))=some false
 k_TooMany_Bare:W.kitOne K (.ref (XC 4)) (.ref (XC 2))=some false
 k_TooMany_Grown:W.kitOne K (.ref (XC 4)) (.ref (XC 3))=some false
 k_TooMany_TooMany:W.kitOne K (.ref (XC 4)) (.ref (XC 4))=some true
 k_TooMany_OverBound:W.kitOne K (.ref (XC 4)) (.ref (XC 7))=some false
 b_all:mg "all"=none
 b_dict:mg "dict"=none
 b_isinstance:mg "isinstance"=none
 b_len:mg "len"=none
 b_range:mg "range"=none
 b_sorted:mg "sorted"=none
 b_str:mg "str"=none
 b_tuple:mg "tuple"=none
 c_SIGNS:∃t,mg "SIGNS"=some (.str (PySem.Str.ofString " !\"#$&'()*+,-./0123456789:;<=>?@ABCDEFGHIJKLMNOPQRSTUVWXYZ[\\]^_`abcdefghijklmnopqrstuvwxyz{|}~") t)
 c_MOST_SIGNS:∃t,mg "MOST_SIGNS"=some (.int 400 t)
 c_FILE_ENTRY:∃t,mg "FILE_ENTRY"=some (.int 1 t)
 c_FOLDER_ENTRY:∃t,mg "FOLDER_ENTRY"=some (.int 2 t)
 c_NAME_SIGNS:∃t,mg "NAME_SIGNS"=some (.str (PySem.Str.ofString "0123456789abcdefghijklmnopqrstuvwxyz") t)
 c_MOST_NAME_SIGNS:∃t,mg "MOST_NAME_SIGNS"=some (.int 8 t)
 c_MOST_ENTRIES:∃t,mg "MOST_ENTRIES"=some (.int 16 t)
 c_STEM:∃t,mg "STEM"=some (.int 1 t)
 c_SEAL:∃t,mg "SEAL"=some (.int 2 t)
 c_MOST_KEEPERS:∃t,mg "MOST_KEEPERS"=some (.int 8 t)
 c_MOST_NAMES:∃t,mg "MOST_NAMES"=some (.int 24 t)
 c_MOST_STEPS:∃t,mg "MOST_STEPS"=some (.int 8 t)
 c_MOST_TREE_ENTRIES:∃t,mg "MOST_TREE_ENTRIES"=some (.int 60 t)
 c_MOST_TREE_DEEP:∃t,mg "MOST_TREE_DEEP"=some (.int 8 t)
abbrev EM:Str:=PySem.Str.ofString ""
abbrev SG:Str:=PySem.Str.ofString " !\"#$&'()*+,-./0123456789:;<=>?@ABCDEFGHIJKLMNOPQRSTUVWXYZ[\\]^_`abcdefghijklmnopqrstuvwxyz{|}~"
section
variable {P:Program}{w:World}{K:W.Frag}{mg:Str->Option Value}{base:Heap}{f C:Addr}{XC:Nat->Addr}{fd:FuncData}
def ED (t:Str)(z:Str):Bool:=(Bj z).all λc=>decide (c∈Bj t)
def LK (a b:Int):V->Bool
 | .str z=>decide (a<=(z.length:Int))&&decide ((z.length:Int)<=b)&&ED SG z
 |_=>false
theorem UN {H:Hp}{v:V}{a b:Int}(h:isA (L8 H v) "str"=false):LK a b v=false:=by
 cases v with
 |str z=>exact absurd (show isA "str" "str"=false from h) (by decide)
 |_=>rfl
def JM (K:W.Frag):Sp:=λvs H Q _=>∃v a b,vs=[v,.int a,.int b]/\Ok H v/\∀H',AJ H H'->Q (.bl (LK a b v)) H'
theorem Og (t z:Str):((Bj z).map λc=>V.str ⟨#[c]⟩).map (λv=>match v with|V.str y=>V.bl (!(Builtin.Str.occurrences t y 0 t.length 1).isEmpty)|_=>V.non)=((Bj z).map λc=>decide (c∈Bj t)).map V.bl:=by
 rw[aL,aL];refine aZ λc _=>?_
 show V.bl (!(Builtin.Str.occurrences t ⟨#[c]⟩ 0 t.length 1).isEmpty)=V.bl (decide (c∈Bj t));rw[PySem.StrLaws.found_one]
theorem RS (T:Txt K mg C XC)(F:Fun K "is_text" "is_text" FO f fd):FnOk P w K mg base FL 1 f fd ["thing","least","most"] (JM K):=by
 exists RE
 ·obtain⟨v,a,b,rfl,_⟩:=h;rfl
 obtain⟨v,a,b,rfl,ok,q⟩:=h;refine⟨_,(!Ah (!AV (@PW.pt _ _ _ (!LJ (!GG (!ER (!A0 Qv (by rfl) T.b_isinstance Cf (!Aa (pv 0) (!Aa (!YK rfl T.b_str XZ) (!Ab)))) (by intro _;rfl))) (!Jn (!GG (!Qp Oj Oj (pv 1) (!A0 Hh (by rfl) T.b_len EI (!Aa (pv 0) (!Ab))) (pv 2) (by with_unfolding_all rfl)))))) (!Ad (!AG (!QZ))) (!AO)) (!Ad (!AG (!A0 (GK rfl) (by rfl) T.b_all Lj (!Aa (@Fi _ ["sign"] _ _ _ _ _ _ _ _ _ _ rfl (!Vo (pv 0)) (by decide +kernel) (λC s H fp=>⟨(@Be _ _ (0) _ (show(["sign"]:List Str).Nodup by decide +kernel) rfl (by trivial) (by trivial)),(!Dw),(!Ht Oz (pv 0) (!QV rfl T.c_SIGNS))⟩) (by intro _;rfl)) (!Ab)))))),?_⟩;refine⟨_,rfl,_,_,_,_,rfl,ok.ty K,ok.kit K,_,rfl,?_⟩;cases hw:isA (L8 H v) "str" with
 |false=>
  refine AU rfl ?_;have:=q H (AJ.refl _);rw[UN hw] at this;exact this
 |true=>
  refine Ay rfl ?_;obtain⟨z,rfl,hz⟩:=XG ok hw;have zl:=Cp z;refine⟨_,rfl,_,rfl,_,rfl,small (by omega),_,_,rfl,rfl,_,rfl,?_⟩;refine HL (λc=>?_) (λc=>?_)
  ·refine⟨_,rfl,_,_,rfl,rfl,_,rfl,?_⟩;refine HL (λd=>?_) (λd=>?_)
   ·have d':decide ((z.length:Int)<=b)=false:=by simpa using d
    have e:LK a b (.str z)=false:=by show(decide (a<=(z.length:Int))&&decide ((z.length:Int)<=b)&&ED SG z)=_;rw[d',Bool.and_false];rfl
    have:=q H (AJ.refl _);rw[e] at this;exact this
   ·have d':decide ((z.length:Int)<=b)=true:=by simpa using d
    refine⟨_,rfl,z,rfl,?_⟩;refine comp_map (λv=>match v with | .str y=>.bl (!(Builtin.Str.occurrences SG y 0 SG.length 1).isEmpty)|_=>.non) QR (by rw[ax];exact bj (eW zl) (by omega)) (λx H' R hx s' hR=>?_) λl H7 n7 s7 h7=>?_
    ·obtain⟨u,_,rfl⟩:=aA.mp hx;exact⟨_,rfl,_,_,rfl,rfl,hR H' (AJ.refl _)⟩
    rw[Og] at h7;refine⟨l,_,rfl,A7.of h7,?_⟩;have e:LK a b (.str z)=((Bj z).map λc=>decide (c∈Bj SG)).all id:=by
     show(decide (a<=(z.length:Int))&&decide ((z.length:Int)<=b)&&ED SG z)=_;unfold ED;rw[c,d',dy];rfl
    have:=q H7 s7;rw[e] at this;exact this
  ·have c':decide (a<=(z.length:Int))=false:=cF.mpr c;have e:LK a b (.str z)=false:=by show(decide (a<=(z.length:Int))&&decide ((z.length:Int)<=b)&&ED SG z)=_;rw[c',Bool.false_and];rfl
   have:=q H (AJ.refl _);rw[e] at this;exact⟨_,rfl,this⟩
abbrev NS:Str:=PySem.Str.ofString "0123456789abcdefghijklmnopqrstuvwxyz"
abbrev LN:Str:=PySem.Str.ofString "abcdefghijklmnopqrstuvwxyz0123456789"
theorem VQ:(∀c∈Bj NS,c∈Bj LN)/\∀c∈Bj LN,c∈Bj NS/\c∈Bj SG:=by decide +kernel
def C6:V->Bool
 | .str z=>decide ((1:Int)<=z.length)&&decide ((z.length:Int)<=8)&&ED LN z
 |_=>false
theorem Tx (z:Str):(ED SG z&&ED NS z)=ED LN z:=by
 unfold ED;rw[cq,ba,bR,bR,bR];simp only[decide_eq_true_eq];exact⟨λh c hc=>VQ.1 c (h.2 c hc),λh=>⟨λc hc=>(VQ.2 c (h c hc)).2,λc hc=>(VQ.2 c (h c hc)).1⟩⟩
theorem Us (v:V):C6 v=match v with | .str z=>LK 1 8 v&&ED NS z|_=>false:=by
 cases v with
 |str z=>
  show(decide ((1:Int)<=z.length)&&decide ((z.length:Int)<=8)&&ED LN z)=((decide ((1:Int)<=(z.length:Int))&&decide ((z.length:Int)<=8)&&ED SG z)&&ED NS z);rw[<-Tx z];simp only[Bool.and_assoc]
 |_=>rfl
def Gd (K:W.Frag):Sp:=λvs H Q _=>∃v,vs=[v]/\Ok H v/\∀H',AJ H H'->Q (.bl (C6 v)) H'
theorem Rg (T:Txt K mg C XC)(F:Fun K "is_name" "is_name" FJ f fd)(KJ:Def P w K mg base 1 "is_text" ["thing","least","most"] (JM K)):FnOk P w K mg base FL 2 f fd ["thing"] (Gd K):=by
 exists R9
 ·obtain⟨v,rfl,_⟩:=h;rfl
 obtain⟨v,rfl,ok,q⟩:=h;refine⟨_,(!Ad (!AG (!VB (!AW KJ (by trivial) rfl (!Aa (pv 0) (!Aa (!Ag) (!Aa (!Bv rfl T.c_MOST_NAME_SIGNS) (!Ab))))) (!Pt (!A0 (GK rfl) (by rfl) T.b_all Lj (!Aa (@Fi _ ["sign"] _ _ _ _ _ _ _ _ _ _ rfl (!Vo (pv 0)) (by decide +kernel) (λC s H fp=>⟨(@Be _ _ (0) _ (show(["sign"]:List Str).Nodup by decide +kernel) rfl (by trivial) (by trivial)),(!Dw),(!Ht Oz (pv 0) (!QV rfl T.c_NAME_SIGNS))⟩) (by intro _;rfl)) (!Ab))))))),?_⟩;refine⟨_,rfl,v,1,8,rfl,ok,λH1 s1=>⟨_,rfl,?_⟩⟩;have en:=Us v;refine HL (λc=>?_) (λc=>?_)
 ·cases v with
  |str z=>
   have hz:z.length<=1000:=ok;have zl:=Cp z;refine⟨_,rfl,z,rfl,?_⟩;refine comp_map (λv=>match v with | .str y=>.bl (!(Builtin.Str.occurrences NS y 0 NS.length 1).isEmpty)|_=>.non) QR (by rw[ax];exact bj (eW zl) (by omega)) (λx H' R hx s' hR=>?_) λl H7 n7 s7 h7=>?_
   ·obtain⟨u,_,rfl⟩:=aA.mp hx;exact⟨_,rfl,_,_,rfl,rfl,hR H' (AJ.refl _)⟩
   rw[Og] at h7;refine⟨l,_,rfl,A7.of h7,?_⟩;have e:C6 (.str z)=((Bj z).map λc=>decide (c∈Bj NS)).all id:=by
    rw[en];show(LK 1 8 (.str z)&&ED NS z)=_;rw[c];unfold ED;rw[dy];rfl
   have:=q H7 (s1.trans s7);rw[e] at this;exact this
  |_=>exact absurd (show false=true from c) aJ
 ·have e:C6 v=false:=by
   rw[en];cases v with
   |str z=>show(LK 1 8 (.str z)&&ED NS z)=false;rw[cF.mpr c];rfl
   |_=>rfl
  have:=q H1 s1;rw[e] at this;exact this
end
section
open PySem.Builtin.Str
theorem OI {c:Nat}{r:List Nat}:∀(l:List Nat),CS c (l++r)=CS c l++(CS c r).map (· + l.length)
 |[]=>by
  show CS c r=[]++(CS c r).map (λk=>k+0);rw[fA];exact(cY _).symm
 |x::l=>by
  have e:CS c (x::l++r)=if x=c then 0::(CS c (l++r)).map (· + 1) else(CS c (l++r)).map (· + 1):=rfl;have e':CS c (x::l)=if x=c then 0::(CS c l).map (· + 1) else(CS c l).map (· + 1):=rfl;have em:(CS c (l++r)).map (· + 1)=(CS c l).map (· + 1)++(CS c r).map (· + (x::l).length):=by
   rw[OI l,bx,aL]
   congr 1
  rw[e,e',em]
  split<;>rfl
theorem last_run (x:Str)(c:Nat)(n:Nat):∀(l:List Nat) (st:Option Nat),(forIn l st λi r=>(if i+(⟨#[c]⟩:Str).length<=x.length/\subAt x ⟨#[c]⟩ i=true then pure (ForInStep.yield (some i)) else pure (ForInStep.yield r):Id (ForInStep (Option Nat)))).run=((l.filter λi=>decide ((Bj x)[i]?=some c)).getLast?).or st
 |[],st=>by simp[Id.run,pure,forIn]
 |a::l,st=>by
  rw[List.forIn_cons]
  by_cases h:(Bj x)[a]?=some c
  ·rw[aI (OO.mpr h)];refine(last_run x c n l (some a)).trans ?_;rw[bE,aI (aE h),List.getLast?_cons];cases(l.filter λi=>decide ((Bj x)[i]?=some c)).getLast?<;>rfl
  ·rw[aF λq=>h (OO.mp q)];refine(last_run x c n l st).trans ?_;rw[bE,aF (by rw[aS h];exact aJ)]
theorem last_pos (x:Str)(c:Nat):lastOccurrence x ⟨#[c]⟩ 0 x.length=(CS c (Bj x)).getLast?:=by
 have h:=last_run x c 0 (List.range' 0 (x.length+1-0)) none;have e:=Ig c (Bj x) 0;have e1:(CS c (Bj x)).map (· + 0)=CS c (Bj x):=by
  have:(λk:Nat=>k+0)=id:=rfl;rw[this,cY]
 rw[e1,Cp] at e;rw[e];have e2:List.filter (λi=>decide ((Bj x)[i]?=some c)) (List.range' 0 (x.length+1-0))=List.filter (λi=>decide ((Bj x)[i-0]?=some c)) (List.range' 0 x.length):=by
  rw[dX,List.range'_concat,cp,bE,aF,List.filter_nil,bq]
  ·rfl
  ·rw[bI (by rw[Cp];omega)];simp
 rw[e2,Option.or_none] at h;rw[<-h];unfold lastOccurrence;simp only[Std.Legacy.Range.forIn_eq_forIn_range',Std.Legacy.Range.size,Nat.sub_zero,Nat.add_sub_cancel,Nat.div_one,Bool.and_eq_true,decide_eq_true_eq];rfl
theorem Vq {c:Nat}{x w n:Str}(h:Bj x=Bj w++c::Bj n)(hn:c∉Bj n):∃a b,Ii x ⟨#[c]⟩=[w,a,b]:=by
 have hl:lastOccurrence x ⟨#[c]⟩ 0 x.length=some (Bj w).length:=by
  rw[last_pos,h,OI];have:CS c (c::Bj n)=[0]:=by
   show(if c=c then 0::(CS c (Bj n)).map (· + 1) else _)=_;rw[aI rfl,GM hn];rfl
  rw[this,List.getLast?_append];show(some (0+(Bj w).length)).or _=_;rw[dW];rfl
 unfold Ii;rw[hl];refine⟨⟨#[c]⟩,strSub x ((Bj w).length+1) x.length,?_⟩;show[strSub x 0 (Bj w).length,⟨#[c]⟩,strSub x ((Bj w).length+1) x.length]=_
 congr 1
 refine IJ ?_;show(strSub x 0 _).cps.toList=_;have hx:x.cps.toList=Bj w++c::Bj n:=h;rw[eS,fN,dX,hx,d5];rfl
theorem VV {c:Nat}{x:Str}(hx:c∉Bj x):∃a b,Ii x ⟨#[c]⟩=[PySem.Str.empty,a,b]:=by
 unfold Ii;rw[last_pos,GM hx];exact⟨_,_,rfl⟩
end
abbrev SL:Str:=PySem.Str.ofString "/"
theorem UP:SL=⟨#[47]⟩:=rfl
theorem U3:Bj SL=[47]:=rfl
theorem RQ (x y:Str):PySem.Txt.startswith x y=true↔∃r,Bj x=Bj y++r:=by
 unfold PySem.Txt.startswith;rw[StrLaws.subAt_eq,ba,bK,bW,fN];have hy:=Cp y;have hx:=Cp x;constructor
 ·rintro⟨_,h⟩
  refine⟨(Bj x).drop y.length,?_⟩;have h':List.take y.length (Bj x)=Bj y:=h;rw[<-h'];exact(gm _ _).symm
 ·rintro⟨r,h⟩
  have h':x.cps.toList=Bj y++r:=h;refine⟨by rw[<-hx,<-hy,h,aM];omega,?_⟩;rw[h',<-hy,d5];rfl
def jn (P:List Str):Str:=PySem.Txt.join SL P
def fl (P:List Str):List Nat:=P.flatMap λs=>Bj s++[47]
theorem OM:∀(P:List Str) (s:Str),NZ 47 P s=fl P++Bj s
 |[],_=>rfl
 |w::P,s=>by
  show Bj w++47::NZ 47 P s=_;rw[OM P s];unfold fl;rw[cM];simp
theorem EU (P:List Str)(s:Str):Bj (jn (P++[s]))=fl P++Bj s:=by
 show Bj (PySem.Builtin.Str.glued SL (P++[s]))=_;rw[StrLaws.glued_eq_join]
 induction P with
 |nil=>rfl
 |cons w P ih=>
  obtain⟨y,r,e⟩:∃y r,P++[s]=y::r:=by cases P<;>exact⟨_,_,rfl⟩
  rw[fi,e];show Bj (w++SL++PySem.Str.join SL (y::r))=_;rw[IH,IH,<-e,ih,U3];unfold fl;rw[cM];simp
theorem DU {α:Type}{P:List α}(h:P≠[]):∃I s,P=I++[s]:=⟨P.dropLast,P.getLast h,(fE h).symm⟩
def VP (P:List Str):Prop:=∀s∈P,C6 (.str s)=true
theorem Dz {s:Str}(h:C6 (.str s)=true):47∉Bj s/\Bj s≠[]/\s.length<=8:=by
 have h':(decide ((1:Int)<=s.length)&&decide ((s.length:Int)<=8)&&ED LN s)=true:=h;rw[ba,ba,bK,bK] at h';obtain⟨⟨h1,h2⟩,h3⟩:=h';unfold ED at h3;rw[bR] at h3;refine⟨λz=>absurd (aW (h3 47 z)) (by decide +kernel),λz=>?_,by omega⟩;have:=Cp s;rw[z] at this;have:s.length=0:=this.symm;omega
theorem Mo {P:List Str}(h:P≠[])(v:VP P):jn P≠EM:=λe=>by
 obtain⟨I,s,rfl⟩:=DU h;have:=congrArg Bj e;rw[EU] at this;exact(Dz (v s (aV _ (aG.mpr rfl)))).2.1 (gh.mp this).2
theorem MH {P:List Str}(h:P≠[])(v:VP P):PySem.Txt.split (jn P) SL=P:=by
 obtain⟨I,s,rfl⟩:=DU h;rw[UP];refine Tp (by rw[OM];exact EU I s) (λw hw=>(Dz (v w (bO _ hw))).1) (Dz (v s (aV _ (aG.mpr rfl)))).1
theorem K4 {P Q:List Str}(vP:VP P)(vQ:VP Q)(e:jn P=jn Q):P=Q:=by
 by_cases hP:P=[]
 ·subst hP
  by_cases hQ:Q=[]
  ·exact hQ.symm
  ·exact absurd e.symm (Mo hQ vQ)
 ·by_cases hQ:Q=[]
  ·subst hQ;exact absurd e (Mo hP vP)
  ·rw[<-MH hP vP,e,MH hQ vQ]
theorem Sj {x y:Str}(h:Bj x=Bj y):x=y:=IJ h
theorem V7 {I:List Str}{s:Str}(v:VP (I++[s])):∃a b,Ii (jn (I++[s])) SL=[jn I,a,b]:=by
 have hs:=(Dz (v s (aV _ (aG.mpr rfl)))).1;rw[UP]
 by_cases h:I=[]
 ·subst h;refine VV ?_;rw[EU];exact hs
 ·obtain⟨J,t,rfl⟩:=DU h;refine Vq (n:=s) ?_ hs;rw[EU,EU];unfold fl;rw[cS];simp
theorem UY {I:List Str}{s:Str}(v:VP (I++[s])):PySem.Txt.count (jn (I++[s])) SL=(I.length:Int):=by
 obtain⟨r,e,l⟩:=PP (c:=47) (ws:=I) (t:=s) λw hw=>(Dz (v w (bO _ hw))).1
 rw[GM (Dz (v s (aV _ (aG.mpr rfl)))).1,dw,bq,OM,<-EU] at e;unfold PySem.Txt.count;rw[UP,SF,e,bF,l];have h1:=Pl 47 I s;rw[OM,<-EU,Cp] at h1;omega
theorem Va:∀{O P:List Str} {s:Str} {r:List Nat},VP O->VP (P++[s])->fl P++Bj s=fl O++r->∃R,P=O++R
 |[],P,_,_,_,_,_=>⟨P,rfl⟩
 |o::O,[],s,r,vO,vP,e=>by
  have hs:=(Dz (vP s (aG.mpr rfl))).1;refine absurd ?_ hs;have e:Bj s=fl (o::O)++r:=e;rw[e];unfold fl;rw[cM];simp
 |o::O,p::P,s,r,vO,vP,e=>by
  have ho:=(Dz (vO o aK)).1;have hp:=(Dz (vP p aK)).1;have e:Bj p++47::(fl P++Bj s)=Bj o++47::(fl O++r):=by
   have e2:=e;unfold fl at e2;rw[cM,cM] at e2;simpa [fl] using e2
  have key:∀{a b x y:List Nat},47∉a->47∉b->a++47::x=b++47::y->a=b/\x=y:=λ{a}=>by
   induction a with
   |nil=>
    intro b x y _ hb e;cases b with
    |nil=>exact⟨rfl,(eO e).2⟩
    |cons c b=>exact absurd (by rw[(eO e).1];exact aK) hb
   |cons c a ih=>
    intro b x y ha hb e;cases b with
    |nil=>exact absurd (by rw[<-(eO e).1];exact aK) ha
    |cons d b=>
     obtain⟨e1,e2⟩:=eO e;obtain⟨i1,i2⟩:=ih (λz=>ha (aB _ z)) (λz=>hb (aB _ z)) e2;exact⟨by rw[e1,i1],i2⟩
  obtain⟨k1,k2⟩:=key hp ho e;have:p=o:=Sj k1;subst this;obtain⟨R,hR⟩:=Va (λx hx=>vO x (aB _ hx)) (λx hx=>vP x (aB _ hx)) k2;exact⟨R,by rw[hR];rfl⟩
theorem OD {O:List Str}(h:O≠[]):Bj (jn O++SL)=fl O:=by
 obtain⟨I,s,rfl⟩:=DU h;rw[IH,EU,U3];unfold fl;rw[cS];simp
def HK (P O:List Str):Bool:=decide (P.length>O.length)&&decide (P.take O.length=O)
theorem T6 {P O:List Str}(vP:VP P)(vO:VP O)(h:O≠[]):PySem.Txt.startswith (jn P) (jn O++SL)=HK P O:=by
 rw[cq,RQ];unfold HK;rw[ba,cX,cX,OD h];constructor
 ·rintro⟨r,e⟩
  by_cases hP:P=[]
  ·subst hP;have:Bj (jn [])=[]:=rfl;rw[this] at e;obtain⟨I,s,rfl⟩:=DU h;have:=congrArg List.length e;unfold fl at this;rw[cS] at this;simp at this
  ·obtain⟨I,s,rfl⟩:=DU hP;rw[EU] at e;obtain⟨R,rfl⟩:=Va vO vP e;refine⟨by simp,?_⟩;rw[cN,d5];rfl
 ·rintro⟨l,e⟩
  have hd:P=O++P.drop O.length:=by
   have:=gm O.length P;rw[e] at this;exact this.symm
  have hne:P.drop O.length≠[]:=λz=>by
   have:=congrArg List.length z;rw[cA] at this;have:P.length-O.length=0:=this;omega
  obtain⟨I,s,e2⟩:=DU hne;rw[e2,<-cN] at hd;rw[hd,EU];refine⟨fl I++Bj s,?_⟩;unfold fl;rw[cS,cN]
theorem XF {A B:List Str}(hA:A≠[])(hB:B≠[]):(jn A++SL)++jn B=jn (A++B):=by
 obtain⟨I,s,rfl⟩:=DU hB;refine Sj ?_;rw[IH,OD hA,EU,show A++(I++[s])=(A++I)++[s] from(cN _ _ _).symm,EU];unfold fl;rw[cS,cN]
theorem Mt:∀{P:List Str},VP P->(jn P).length<=9*P.length:=λ{P} v=>by
 by_cases h:P=[]
 ·subst h;exact aD _
 ·obtain⟨I,s,rfl⟩:=DU h;rw[<-Cp,EU,aM];have l1:∀(I:List Str),VP I->(fl I).length<=9*I.length:=λI=>by
   induction I with
   |nil=>intro _;exact aD _
   |cons w I ih=>
    intro v;have h1:=ih λx hx=>v x (aB _ hx)
    have h2:=(Dz (v w aK)).2.2;unfold fl at h1 ⊢;rw[cM,aM,aM,Cp];simp only[List.length_cons,List.length_nil];omega
  have h1:=l1 I λx hx=>v x (bO _ hx)
  have h2:=(Dz (v s (aV _ (aG.mpr rfl)))).2.2;rw[Cp,aM,bz];omega
abbrev Bt:=List (List Str×Option Str)
def cV:Option Str->V
 |none=>.non
 |some c=>.str c
abbrev Zz (p:List Str×Option Str):Key×V:=(.inr (jn p.1),cV p.2)
def CI (t:Bt):List (Key×V):=t.map Zz
inductive En where
 |st (nm kp og:Str) (t:Bt)
 |sl (nm sm:Str) (tn:Int) (t:Bt)
def En.nm:En->Str
 | .st nm _ _ _=>nm
 | .sl nm _ _ _=>nm
def En.tr:En->Bt
 | .st _ _ _ t=>t
 | .sl _ _ _ t=>t
def En.turn:En->Int
 | .sl _ _ tn _=>tn
 |_=>0
def En.isS:En->Bool
 | .st _ _ _ _=>true
 |_=>false
def En.isSl (sm:Str):En->Bool
 | .sl _ s _ _=>decide (s=sm)
 |_=>false
def En.items (ta:Addr):En->List V
 | .st nm kp og _=>[.str nm,.int 1,.str kp,.str og,.ref ta]
 | .sl nm sm tn _=>[.str nm,.int 2,.str sm,.int tn,.ref ta]
structure Pe where
 a:Addr
 t:Addr
 e:En
structure St (H H':Hp):Prop where
 keep:∀b o,(∀ps,o≠.tbl ps)->H b=some o->H' b=some o
 there:∀b,H' b=none->H b=none
theorem St.refl (H:Hp):St H H:=⟨λ_ _ _ h=>h,λ_ h=>h⟩
theorem St.trans {H H1 H2:Hp}(a:St H H1)(b:St H1 H2):St H H2:=⟨λc o n h=>b.keep c o n (a.keep c o n h),λc h=>a.there c (b.there c h)⟩
theorem AC {H H':Hp}(s:AJ H H'):St H H':=⟨λb o _ h=>s b o h,λ_ h=>s.free h⟩
theorem St.tup {H H':Hp}(s:St H H'){b:Addr}{xs:List V}(h:H b=some (.tup xs)):H' b=some (.tup xs):=s.keep b _ (by intro _ z;cases z) h
theorem St.lst {H H':Hp}(s:St H H'){b:Addr}{xs:List V}(h:H b=some (.lst xs)):H' b=some (.lst xs):=s.keep b _ (by intro _ z;cases z) h
theorem St.dk {H H':Hp}(s:St H H'){b:Addr}{xs:List (Key×V)}(h:H b=some (.dK xs)):H' b=some (.dK xs):=s.keep b _ (by intro _ z;cases z) h
def Nw (H:Hp)(p:Pe):Prop:=H p.t=some (.dK (CI p.e.tr))/\H p.a=some (.tup (p.e.items p.t))
def Sd (H H':Hp):Prop:=(∀b xs,H b=some (.tup xs)->H' b=some (.tup xs))/\∀b kvs,H b=some (.dK kvs)->H' b=some (.dK kvs)
theorem St.sd {H H':Hp}(s:St H H'):Sd H H':=⟨λ_ _ h=>s.tup h,λ_ _ h=>s.dk h⟩
theorem Nw.sd {H H':Hp}{p:Pe}(h:Nw H p)(k:Sd H H'):Nw H' p:=⟨k.2 _ _ h.1,k.1 _ _ h.2⟩
theorem Nw.fst {H:Hp}{p:Pe}(h:Nw H p):∃r,H p.a=some (.tup (.str p.e.nm::r)):=by
 obtain⟨a,t,e⟩:=p;cases e<;>exact⟨_,h.2⟩
abbrev Kq:=Addr×Str×Int
structure HeadAt (H:Hp) (h:Addr) (ag:Int) (k:Addr) (qs:List Kq) (n:Addr) (ps:List Pe):Prop where
 at_:H h=some (.tup [.int ag,.ref k,.ref n])
 kp:H k=some (.tup (qs.map λq=>V.ref q.1))
 ke:∀q∈qs,H q.1=some (.tup [.str q.2.1,.int q.2.2])
 nm:H n=some (.tup (ps.map λp=>V.ref p.a))
 en:∀p∈ps,Nw H p
theorem HeadAt.sd {H H':Hp}{h:Addr}{ag:Int}{k n:Addr}{qs:List Kq}{ps:List Pe}(x:HeadAt H h ag k qs n ps)(g:Sd H H'):HeadAt H' h ag k qs n ps:=
 ⟨g.1 _ _ x.at_,g.1 _ _ x.kp,λq hq=>g.1 _ _ (x.ke q hq),g.1 _ _ x.nm,λp hp=>(x.en p hp).sd g⟩
theorem HeadAt.st {H H':Hp}{h:Addr}{ag:Int}{k n:Addr}{qs:List Kq}{ps:List Pe}(x:HeadAt H h ag k qs n ps)(g:St H H'):HeadAt H' h ag k qs n ps:=x.sd g.sd
inductive Rf where
 |noName (z:Str)|twice (z:Str)|bare (z:Str)|grown (z:Str)|many|noPath (z:Str)
def Rf.no:Rf->Nat
 | .noName _=>0 | .twice _=>1 | .bare _=>2 | .grown _=>3 | .many=>4 | .noPath _=>5
def Ex (XC:Nat->Addr)(E:Value->Option Addr->Hp->Prop)(H:Hp):Rf->Prop
 | .noName z=>∀dx,H dx=none->E (.ref (XC 0)) (some dx) (upd H dx (.xd [("name",.str z)]))
 | .twice z=>∀dx,H dx=none->E (.ref (XC 1)) (some dx) (upd H dx (.xd [("name",.str z)]))
 | .bare z=>∀dx,H dx=none->E (.ref (XC 2)) (some dx) (upd H dx (.xd [("name",.str z)]))
 | .grown z=>∀dx,H dx=none->E (.ref (XC 3)) (some dx) (upd H dx (.xd [("name",.str z)]))
 | .many=>E (.ref (XC 4)) none H
 | .noPath z=>∀dx,H dx=none->E (.ref (XC 5)) (some dx) (upd H dx (.xd [("path",.str z)]))
theorem FI (a b:Str):decide (V.str a=V.str b)=decide (a=b):=by
 by_cases z:a=b
 ·rw[aE z,aE (by rw[z])]
 ·rw[aS z,aS λy=>z (V.str.inj y)]
def HN (nm:Str)(ps:List Pe):Option Pe:=ps.find? λp=>decide (p.e.nm=nm)
theorem CK {nm:Str}{ps:List Pe}{p:Pe}(h:HN nm ps=some p):p∈ps/\p.e.nm=nm:=⟨dD h,aW (fB (p:=λp:Pe=>decide (p.e.nm=nm)) h)⟩
section
variable {P:Program}{w:World}{K:W.Frag}{mg:Str->Option Value}{base:Heap}{f C:Addr}{XC:Nat->Addr}{fd:FuncData}{PT PU:Addr}
theorem MI (T:Txt K mg C XC)(F:Fun K "__init__" "NoName.__init__" Do f fd):FnOk P w K mg base FL 1 f fd ["self","name"] (K0 (XC 0) "name"):=by
 exists Ng
 ·obtain⟨e,y,rfl,_⟩:=h;rfl
 obtain⟨e,y,rfl,he,q⟩:=h;refine⟨_,(!Ad (!Kg (pv 0) (pv 1))),?_⟩;exact⟨_,rfl,_,rfl,e,XC 0,rfl,he,T.i_NoName,T.f_NoName,q⟩
theorem NR (T:Txt K mg C XC)(F:Fun K "__init__" "Twice.__init__" Dy f fd):FnOk P w K mg base FL 1 f fd ["self","name"] (K0 (XC 1) "name"):=by
 exists N3
 ·obtain⟨e,y,rfl,_⟩:=h;rfl
 obtain⟨e,y,rfl,he,q⟩:=h;refine⟨_,(!Ad (!Kg (pv 0) (pv 1))),?_⟩;exact⟨_,rfl,_,rfl,e,XC 1,rfl,he,T.i_Twice,T.f_Twice,q⟩
theorem Pp (T:Txt K mg C XC)(F:Fun K "__init__" "Bare.__init__" Ej f fd):FnOk P w K mg base FL 1 f fd ["self","name"] (K0 (XC 2) "name"):=by
 exists OR
 ·obtain⟨e,y,rfl,_⟩:=h;rfl
 obtain⟨e,y,rfl,he,q⟩:=h;refine⟨_,(!Ad (!Kg (pv 0) (pv 1))),?_⟩;exact⟨_,rfl,_,rfl,e,XC 2,rfl,he,T.i_Bare,T.f_Bare,q⟩
theorem NU (T:Txt K mg C XC)(F:Fun K "__init__" "Grown.__init__" DF f fd):FnOk P w K mg base FL 1 f fd ["self","name"] (K0 (XC 3) "name"):=by
 exists NY
 ·obtain⟨e,y,rfl,_⟩:=h;rfl
 obtain⟨e,y,rfl,he,q⟩:=h;refine⟨_,(!Ad (!Kg (pv 0) (pv 1))),?_⟩;exact⟨_,rfl,_,rfl,e,XC 3,rfl,he,T.i_Grown,T.f_Grown,q⟩
theorem Nb (T:Txt K mg C XC)(F:Fun K "__init__" "NoPath.__init__" Dm f fd):FnOk P w K mg base FL 1 f fd ["self","path"] (K0 (XC 5) "path"):=by
 exists M8
 ·obtain⟨e,y,rfl,_⟩:=h;rfl
 obtain⟨e,y,rfl,he,q⟩:=h;refine⟨_,(!Ad (!Kg (pv 0) (pv 1))),?_⟩;exact⟨_,rfl,_,rfl,e,XC 5,rfl,he,T.i_NoPath,T.f_NoPath,q⟩
def Pf (nm:Str)(rs:List (Addr×Str)):V:=match rs.find? λr=>decide (r.2=nm) with
 |some r=>.ref r.1
 |none=>.non
def DQ (K:W.Frag):Sp:=λvs H Q _=>∃(n:Addr) (rs:List (Addr×Str)) (nm:Str),vs=[.ref n,.str nm]/\H n=some (.tup (rs.map λp=>V.ref p.1))/\(∀p∈rs,∃r,H p.1=some (.tup (.str p.2::r)))/\Q (Pf nm rs) H
theorem OL {α:Type}{p:α->Bool}{l:List α}{i:Nat}(no:∀j x,j<i->l[j]?=some x->p x=false):l.find? p=(l.drop i).find? p:=by
 induction i generalizing l with
 |zero=>rfl
 |succ i ih=>
  cases l with
  |nil=>rfl
  |cons x l=>
   rw[fD,no 0 x (Nat.succ_pos _) rfl,List.drop_succ_cons];exact ih λj y hj hy=>no (j+1) y (Nat.succ_lt_succ hj) hy
theorem NX (T:Txt K mg C XC)(F:Fun K "one_called" "one_called" DE f fd):FnOk P w K mg base FL 1 f fd ["some","name"] (DQ K):=by
 exists IV
 ·obtain⟨n,rs,nm,rfl,_⟩:=h;rfl
 obtain⟨n,rs,nm,rfl,hn,he,q⟩:=h;refine⟨_,(!Ah (!HA cz rfl (!Mz (pv 0)) (@Be _ _ (2) _ IV.nd rfl (by trivial) (by trivial)) (!Ad (!AV (!AD Bh (!Ao An (pv 2) (!Ag) (λ_ _=>rfl)) (pv 1) (AI _)) (!Ad (!AG (pv 2))) (!AO))) (by intro _;rfl)) (!Ad (!AG (!Q4)))),?_⟩
 try dsimp only[A4,Cx.nox,Cx.wish]
 refine⟨_,rfl,n,rfl,⟨_,AS.of hn⟩,WQ (K:=K) (a:=n) (xs:=rs.map λp=>V.ref p.1) (λi σ H2=>H2=H/\(∃v,σ=[some (.ref n),some (.str nm),v])/\∀j x,j<i->rs[j]?=some x->decide (x.2=nm)=false) ⟨rfl,⟨none,rfl⟩,λj q hj=>absurd hj (Nat.not_lt_zero _)⟩ (λi σ H2 _ ⟨e,_⟩=>by rw[e];exact AS.of hn) ?_ ?_⟩
 ·rintro i x σ H2 hi ⟨rfl,⟨v,rfl⟩,no⟩
  rw[aQ] at hi;obtain⟨q',hq,rfl⟩:=bB.mp hi;have hm:=bD hq;obtain⟨r,hr1⟩:=he q' hm;refine⟨_,rfl,q'.1,_,_,_,rfl,rfl,AS.of hr1,Af (j:=0) rfl,_,rfl,rfl,_,rfl,?_⟩;rw[FI];refine HL (λc=>?_) (λc=>?_)
  ·have e:Pf nm rs=.ref q'.1:=by
    unfold Pf;rw[OL no,List.drop_eq_getElem_cons (bh.mp hq).1,(bh.mp hq).2,fD,c]
   rw[e] at q;exact⟨_,rfl,q⟩
  ·refine⟨rfl,⟨_,rfl⟩,λj q2 hj hq2=>?_⟩;rcases Nat.lt_succ_iff_lt_or_eq.mp hj with h|rfl
   ·exact no j q2 h hq2
   ·rw[hq] at hq2;cases hq2;exact cF.mpr c
 ·rintro σ H2 ⟨rfl,⟨v,rfl⟩,no⟩
  rw[ax] at no;have e:Pf nm rs=.non:=by
   unfold Pf;rw[OL no,List.drop_length];rfl
  rw[e] at q;exact q
theorem Vy {nm:Str}(ps:List Pe):Pf nm (ps.map λp=>(p.a,p.e.nm))=match HN nm ps with|some p=>.ref p.a|none=>.non:=by
 unfold Pf HN;rw[fM];show(match Option.map _ (ps.find? λp=>decide (p.e.nm=nm)) with|some (r:Addr×Str)=>V.ref r.1|none=>V.non)=_;cases ps.find? λp=>decide (p.e.nm=nm)<;>rfl
theorem Zc {nm:Str}(qs:List Kq):Pf nm (qs.map λq=>(q.1,q.2.1))=match qs.find? λq=>decide (q.2.1=nm) with|some p=>.ref p.1|none=>.non:=by
 unfold Pf;rw[fM];show(match Option.map _ (qs.find? λp=>decide (p.2.1=nm)) with|some (r:Addr×Str)=>V.ref r.1|none=>V.non)=_;cases qs.find? λp=>decide (p.2.1=nm)<;>rfl
def EY (K:W.Frag)(XC:Nat->Addr):Sp:=λvs H Q E=>∃(h:Addr) (nm:Str) (ag:Int) (k n:Addr) (qs:List Kq) (ps:List Pe),vs=[.ref h,.str nm]/\HeadAt H h ag k qs n ps/\(nm∈qs.map (·.2.1)->∀a,Q (.ref a) H)/\(nm∉qs.map (·.2.1)->Ex XC E H (.noName nm))
theorem LB (T:Txt K mg C XC)(F:Fun K "keeper_called" "keeper_called" Cr f fd)(Cb:Def P w K mg base 1 "one_called" ["some","name"] (DQ K))(AQ:Gq P w K mg base 1 "NoName" (XC 0) "name" ["self","name"]):FnOk P w K mg base (Fj P w) 3 f fd ["head","name"] (EY K XC):=by
 refine F.okE GT (λvs H Q E h=>?_) (λcdv A outer s H vs Q E hr h=>?_)
 ·obtain⟨h,nm,ag,k,n,qs,ps,rfl,_⟩:=h;rfl
 obtain⟨h,nm,ag,k,n,qs,ps,rfl,hd,q1,q2⟩:=h;refine⟨_,(!Ah (@AK _ _ (2) _ _ _ _ GT.nd rfl (by trivial) (!AW Cb (by trivial) rfl (!Aa (!Ao An (pv 0) (!Ag) (λ_ _=>rfl)) (!Aa (pv 1) (!Ab)))) (by rfl) (by trivial)) (!Ah (!AV (!Ir (!KR (pv 2)) (by first|exact CP _ (by decide) (by decide)|rfl)) (!Ad (!By Bi rfl AQ (by trivial) rfl (!Aa (pv 1) (!Ab)))) (!AO)) (!Ad (!AG (pv 2))))),?_⟩
 try dsimp only[A4,Cx.nox,Cx.wish]
 refine⟨_,rfl,h,_,_,_,rfl,rfl,AS.of hd.at_,Af (j:=1) rfl,_,rfl,k,qs.map λq=>(q.1,q.2.1),nm,rfl,by rw[aL];exact hd.kp,λp hp=>?_,?_⟩
 ·obtain⟨q,hq,rfl⟩:=aA.mp hp;exact⟨_,hd.ke q hq⟩
 rw[Zc];cases e:qs.find? λq=>decide (q.2.1=nm) with
 |some p=>
  have m:nm∈qs.map (·.2.1):=aA.mpr ⟨p,dD e,aW (fB (p:=λq:Kq=>decide (q.2.1=nm)) e)⟩;exact⟨_,rfl,_,rfl,Ay (aS λe=>by cases e) ⟨_,rfl,q1 m p.1⟩⟩
 |none=>
  have m:nm∉qs.map (·.2.1):=λz=>by
   obtain⟨p,hp,ep⟩:=aA.mp z;exact List.find?_eq_none.mp e p hp (aE ep)
  exact⟨_,rfl,_,rfl,AU rfl ⟨_,rfl,_,rfl,q2 m⟩⟩
def D7 (K:W.Frag)(XC:Nat->Addr):Sp:=λvs H Q E=>∃(h:Addr) (nm:Str) (ag:Int) (k n:Addr) (qs:List Kq) (ps:List Pe),vs=[.ref h,.str nm]/\HeadAt H h ag k qs n ps/\(∀p,HN nm ps=some p->Q (.ref p.a) H)/\(HN nm ps=none->Ex XC E H (.noName nm))
theorem QF (T:Txt K mg C XC)(F:Fun K "named_so" "named_so" EZ f fd)(Cb:Def P w K mg base 1 "one_called" ["some","name"] (DQ K))(AQ:Gq P w K mg base 1 "NoName" (XC 0) "name" ["self","name"]):FnOk P w K mg base (Fj P w) 3 f fd ["head","name"] (D7 K XC):=by
 refine F.okE LH (λvs H Q E h=>?_) (λcdv A outer s H vs Q E hr h=>?_)
 ·obtain⟨h,nm,ag,k,n,qs,ps,rfl,_⟩:=h;rfl
 obtain⟨h,nm,ag,k,n,qs,ps,rfl,hd,q1,q2⟩:=h;refine⟨_,(!Ah (@AK _ _ (2) _ _ _ _ LH.nd rfl (by trivial) (!AW Cb (by trivial) rfl (!Aa (!Ao An (pv 0) (!Ag) (λ_ _=>rfl)) (!Aa (pv 1) (!Ab)))) (by rfl) (by trivial)) (!Ah (!AV (!Ir (!KR (pv 2)) (by first|exact CP _ (by decide) (by decide)|rfl)) (!Ad (!By Bi rfl AQ (by trivial) rfl (!Aa (pv 1) (!Ab)))) (!AO)) (!Ad (!AG (pv 2))))),?_⟩
 try dsimp only[A4,Cx.nox,Cx.wish]
 refine⟨_,rfl,h,_,_,_,rfl,rfl,AS.of hd.at_,Af (j:=2) rfl,_,rfl,n,ps.map λp=>(p.a,p.e.nm),nm,rfl,by rw[aL];exact hd.nm,λp hp=>?_,?_⟩
 ·obtain⟨q,hq,rfl⟩:=aA.mp hp;exact(hd.en q hq).fst
 rw[Vy];cases e:HN nm ps with
 |some p=>exact⟨_,rfl,_,rfl,Ay (aS λe=>by cases e) ⟨_,rfl,q1 p e⟩⟩
 |none=>exact⟨_,rfl,_,rfl,AU rfl ⟨_,rfl,_,rfl,q2 e⟩⟩
def fst (nm:Str)(ps:List Pe):Option Pe:=(HN nm ps).filter λp=>p.e.isS
def V1 (nm:Str)(ps:List Pe):Option Pe:=(HN nm ps).filter λp=>!p.e.isS
theorem EB {nm:Str}{ps:List Pe}{p:Pe}(h:fst nm ps=some p):p∈ps/\∃kp og t,p.e=.st nm kp og t:=by
 obtain⟨h1,h2⟩:=cm.mp h;obtain⟨h3,h4⟩:=CK h1;refine⟨h3,?_⟩;obtain⟨a,t,e⟩:=p;cases e with
 |st nm kp og t=>subst h4;exact⟨_,_,_,rfl⟩
 |sl _ _ _ _=>cases h2
theorem Ux {nm:Str}{ps:List Pe}{p:Pe}(h:V1 nm ps=some p):p∈ps/\∃sm tn t,p.e=.sl nm sm tn t:=by
 obtain⟨h1,h2⟩:=cm.mp h;obtain⟨h3,h4⟩:=CK h1;refine⟨h3,?_⟩;obtain⟨a,t,e⟩:=p;cases e with
 |sl nm sm tn t=>subst h4;exact⟨_,_,_,rfl⟩
 |st _ _ _ _=>cases h2
def BP (K:W.Frag)(XC:Nat->Addr):Sp:=λvs H Q E=>∃(h:Addr) (nm:Str) (ag:Int) (k n:Addr) (qs:List Kq) (ps:List Pe),vs=[.ref h,.str nm]/\HeadAt H h ag k qs n ps/\(∀p,fst nm ps=some p->Q (.ref p.a) H)/\(fst nm ps=none->Ex XC E H (.noName nm))
theorem MN (T:Txt K mg C XC)(F:Fun K "stem_called" "stem_called" C8 f fd)(B8:Bu P w K mg base 3 "named_so" ["head","name"] (D7 K XC))(AQ:Gq P w K mg base 1 "NoName" (XC 0) "name" ["self","name"]):FnOk P w K mg base (Fj P w) 4 f fd ["head","name"] (BP K XC):=by
 refine F.okE HX (λvs H Q E h=>?_) (λcdv A outer s H vs Q E hr h=>?_)
 ·obtain⟨h,nm,ag,k,n,qs,ps,rfl,_⟩:=h;rfl
 obtain⟨h,nm,ag,k,n,qs,ps,rfl,hd,q1,q2⟩:=h;refine⟨_,(!Ah (@AK _ _ (2) _ _ _ _ HX.nd rfl (by trivial) (!Ba B8 (by trivial) rfl Am (!Aa (pv 0) (!Aa (pv 1) (!Ab)))) (by rfl) (by trivial)) (!Ah (!AV (!AD M0 (!Ao An (pv 2) (!Ag) (λ_ _=>rfl)) (!Bv rfl T.c_STEM) (AI _)) (!Ad (!By Bi rfl AQ (by trivial) rfl (!Aa (pv 1) (!Ab)))) (!AO)) (!Ad (!AG (pv 2))))),?_⟩
 try dsimp only[A4,Cx.nox,Cx.wish]
 refine⟨_,rfl,_,rfl,h,nm,ag,k,n,qs,ps,rfl,hd,λp hp=>?_,λno=>q2 (by unfold fst;rw[no];rfl)⟩;have ha:=(hd.en p (CK hp).1).2;cases ee:p.e with
 |st nm' kp og t=>
  rw[ee] at ha;exact⟨_,rfl,p.a,_,_,_,rfl,rfl,AS.of ha,Af (j:=1) rfl,rfl,_,rfl,Ay rfl ⟨_,rfl,q1 p (by unfold fst;rw[hp];exact cm.mpr ⟨rfl,by rw[ee];rfl⟩)⟩⟩
 |sl nm' sm tn t=>
  rw[ee] at ha;exact⟨_,rfl,p.a,_,_,_,rfl,rfl,AS.of ha,Af (j:=1) rfl,rfl,_,rfl,AU rfl ⟨_,rfl,_,rfl,q2 (by unfold fst;rw[hp];show Option.filter _ (some p)=none;rw[Option.filter_some,aF (by rw[ee];exact aJ)])⟩⟩
def Et (K:W.Frag)(XC:Nat->Addr):Sp:=λvs H Q E=>∃(h:Addr) (nm:Str) (ag:Int) (k n:Addr) (qs:List Kq) (ps:List Pe),vs=[.ref h,.str nm]/\HeadAt H h ag k qs n ps/\(∀p,V1 nm ps=some p->Q (.ref p.a) H)/\(V1 nm ps=none->Ex XC E H (.noName nm))
theorem My (T:Txt K mg C XC)(F:Fun K "seal_called" "seal_called" Di f fd)(B8:Bu P w K mg base 3 "named_so" ["head","name"] (D7 K XC))(AQ:Gq P w K mg base 1 "NoName" (XC 0) "name" ["self","name"]):FnOk P w K mg base (Fj P w) 4 f fd ["head","name"] (Et K XC):=by
 refine F.okE Ik (λvs H Q E h=>?_) (λcdv A outer s H vs Q E hr h=>?_)
 ·obtain⟨h,nm,ag,k,n,qs,ps,rfl,_⟩:=h;rfl
 obtain⟨h,nm,ag,k,n,qs,ps,rfl,hd,q1,q2⟩:=h;refine⟨_,(!Ah (@AK _ _ (2) _ _ _ _ Ik.nd rfl (by trivial) (!Ba B8 (by trivial) rfl Am (!Aa (pv 0) (!Aa (pv 1) (!Ab)))) (by rfl) (by trivial)) (!Ah (!AV (!AD M0 (!Ao An (pv 2) (!Ag) (λ_ _=>rfl)) (!Bv rfl T.c_SEAL) (AI _)) (!Ad (!By Bi rfl AQ (by trivial) rfl (!Aa (pv 1) (!Ab)))) (!AO)) (!Ad (!AG (pv 2))))),?_⟩
 try dsimp only[A4,Cx.nox,Cx.wish]
 refine⟨_,rfl,_,rfl,h,nm,ag,k,n,qs,ps,rfl,hd,λp hp=>?_,λno=>q2 (by unfold V1;rw[no];rfl)⟩;have ha:=(hd.en p (CK hp).1).2;cases ee:p.e with
 |sl nm' kp og t=>
  rw[ee] at ha;exact⟨_,rfl,p.a,_,_,_,rfl,rfl,AS.of ha,Af (j:=1) rfl,rfl,_,rfl,Ay rfl ⟨_,rfl,q1 p (by unfold V1;rw[hp];exact cm.mpr ⟨rfl,by rw[ee];rfl⟩)⟩⟩
 |st nm' sm tn t=>
  rw[ee] at ha;exact⟨_,rfl,p.a,_,_,_,rfl,rfl,AS.of ha,Af (j:=1) rfl,rfl,_,rfl,AU rfl ⟨_,rfl,_,rfl,q2 (by unfold V1;rw[hp];show Option.filter _ (some p)=none;rw[Option.filter_some,aF (by rw[ee];exact aJ)])⟩⟩
end
abbrev LQ:Str:=PySem.Str.ofString "seals_of"++PySem.Str.ofString ".<locals>."++PySem.Str.ofString "<lambda>"
abbrev LP:Pos:=⟨112,29,112,49⟩
abbrev MQ:Str:=PySem.Str.ofString "put_among"++PySem.Str.ofString ".<locals>."++PySem.Str.ofString "<lambda>"
abbrev MP:Pos:=⟨127,44,127,66⟩
theorem Tw {α β:Type}{f:α->β}{us vs:List β}(h:us.Perm vs):∀{qs:List α},vs=qs.map f->∃us':List α,us'.Perm qs/\us'.map f=us:=by
 induction h with
 |nil=>intro qs e;exact⟨[],by rw[List.map_eq_nil_iff.mp e.symm],rfl⟩
 |cons x _ ih=>
  intro qs e;cases qs with
  |nil=>cases e
  |cons q qs=>
   rw[aR] at e;injection e with e1 e2
   obtain⟨us',h1,h2⟩:=ih e2;exact⟨q::us',h1.cons q,by rw[aR,h2,e1]⟩
 |swap x y l=>
  intro qs e;cases qs with
  |nil=>cases e
  |cons q qs=>
   cases qs with
   |nil=>cases e
   |cons q' qs=>
    rw[aR,aR] at e;injection e with e1 e2
    injection e2 with e2 e3
    exact⟨q'::q::qs,List.Perm.swap _ _ _,by rw[aR,aR,e1,e2,e3]⟩
 |trans _ _ ih1 ih2=>
  intro qs e;obtain⟨a,h1,h2⟩:=ih2 e;obtain⟨b,h3,h4⟩:=ih1 h2.symm;exact⟨b,h3.trans h1,h4⟩
theorem Ma {α:Type}{key:α->Str}:∀{l1 l2:List α},l1.Perm l2->l1.Pairwise (λx y=>NH (key x) (key y))->l2.Pairwise (λx y=>NH (key x) (key y))->l1=l2
 |[],l2,h,_,_=>(List.nil_perm.mp h).symm
 |a::r1,[],h,_,_=>by have:=h.length_eq;cases this
 |a::r1,b::r2,h,p1,p2=>by
  rw[bN] at p1 p2;rcases Classical.em (a=b) with e|e
  ·subst e;rw[Ma (List.Perm.cons_inv h) p1.2 p2.2]
  ·have ha:a∈b::r2:=h.mem_iff.mp aK;have hb:b∈a::r1:=h.mem_iff.mpr aK;have h1:=(aX.mp ha).resolve_left e;have h2:=(aX.mp hb).resolve_left λz=>e z.symm
   exact absurd (di (p1.1 b h2) (p2.1 a h1)) (eF _)
theorem KL {a b:Str}(h:NH a b):a≠b:=λe=>by subst e;exact eF _ h
def putL {α:Type}(key:α->Str)(x:α):List α->List α
 |[]=>[x]
 |y::r=>if key y=key x then x::r else if NH (key x) (key y) then x::y::r else y::putL key x r
abbrev Ri {α:Type}(key:α->Str)(l:List α):Prop:=l.Pairwise λx y=>NH (key x) (key y)
theorem GJ {α:Type}{key:α->Str}{x:α}:∀{l:List α},Ri key l->(putL key x l).Perm ((l.filter λy=>!decide (key y=key x))++[x])
 |[],_=>.refl _
 |y::r,h=>by
  rw[Ri,bN] at h;unfold putL
  by_cases c:key y=key x
  ·rw[aI c,bE,aF (by rw[aE c];exact aJ),cw.mpr λz hz=>by
    rw[aS λe=>KL (h.1 z hz) (by rw[c,e])];rfl]
   exact(fL _ _).symm
  ·rw[aF c]
   by_cases d:NH (key x) (key y)
   ·rw[aI d,cw.mpr λz hz=>?_]
    ·exact(fL _ _).symm
    ·rcases aX.mp hz with rfl|hz
     ·rw[aS c];rfl
     ·rw[aS λe=>KL (di d (h.1 z hz)) e.symm];rfl
   ·rw[aF d,bE,aI (by rw[aS c];rfl)];exact(GJ h.2).cons _
theorem Dx {α:Type}{key:α->Str}{x y:α}{l:List α}(h:Ri key l):y∈putL key x l↔y=x\/y∈l/\key y≠key x:=by
 rw[(GJ h).mem_iff,bu,aO,aG];constructor
 ·rintro(⟨h1,h2⟩|h)
  ·exact .inr ⟨h1,λe=>by rw[aE e] at h2;cases h2⟩
  ·exact .inl h
 ·rintro(h|⟨h1,h2⟩)
  ·exact .inr h
  ·exact .inl ⟨h1,by rw[aS h2];rfl⟩
theorem D6 {α:Type}{key:α->Str}{x:α}:∀{l:List α},Ri key l->Ri key (putL key x l)
 |[],_=>List.pairwise_singleton _ _
 |y::r,h=>by
  have h0:=h;rw[Ri,bN] at h;unfold putL
  by_cases c:key y=key x
  ·rw[aI c,Ri,bN];exact⟨λz hz=>by rw[<-c];exact h.1 z hz,h.2⟩
  ·rw[aF c]
   by_cases d:NH (key x) (key y)
   ·rw[aI d,Ri,bN];refine⟨λz hz=>?_,h0⟩;rcases aX.mp hz with rfl|hz
    ·exact d
    ·exact di d (h.1 z hz)
   ·rw[aF d,Ri,bN];refine⟨λz hz=>?_,D6 h.2⟩;rcases(Dx h.2).mp hz with rfl|⟨hz,_⟩
    ·exact Px d λe=>c e.symm
    ·exact h.1 z hz
theorem IA {α β:Type}{key:α->Str}{key':β->Str}{g:α->β}(e:∀a,key' (g a)=key a)(x:α):∀l:List α,(putL key x l).map g=putL key' (g x) (l.map g)
 |[]=>rfl
 |y::r=>by
  rw[aR];unfold putL;rw[e,e]
  by_cases c:key y=key x
  ·rw[aI c,aI c];rfl
  ·rw[aF c,aF c]
   by_cases d:NH (key x) (key y)
   ·rw[aI d,aI d];rfl
   ·rw[aF d,aF d,aR,IA e x r]
section
variable {P:Program}{w:World}{K:W.Frag}{mg:Str->Option Value}{base:Heap}{f C:Addr}{XC:Nat->Addr}{fd:FuncData}{PT PU:Addr}
structure Tb (PT PU:Addr) (H:Hp):Prop where
 ne:PT≠PU
 a:DS PT LQ LP H
 b:DS PU MQ MP H
theorem Os {P U:Addr}{q q':Str}{lp lp':Pos}{H H':Hp}(ne:P≠U)(t:DS P q lp H)(u:DS U q' lp' H)(s:C7 U H H'):DS P q lp H':=by
 rcases t with h|⟨c,h,h2⟩
 ·exact .inl (s _ _ ne h)
 ·exact .inr ⟨c,s _ _ ne h,s.get u h2 (by intro _ z;cases z)⟩
theorem Tb.same {H H':Hp}(t:Tb PT PU H)(s:AJ H H'):Tb PT PU H':=⟨t.ne,t.a.same s,t.b.same s⟩
theorem Tb.l {H H':Hp}(t:Tb PT PU H)(s:C7 PT H H')(x:DS PT LQ LP H'):Tb PT PU H':=⟨t.ne,x,Os (Ne.symm t.ne) t.b t.a s⟩
theorem Tb.r {H H':Hp}(t:Tb PT PU H)(s:C7 PU H H')(x:DS PU MQ MP H'):Tb PT PU H':=⟨t.ne,Os t.ne t.a t.b s,x⟩
theorem Iv {U:Addr}{q:Str}{lp:Pos}{H H':Hp}(s:C7 U H H')(t:DS U q lp H)(t':DS U q lp H'):St H H':=by
 obtain⟨ps,hp⟩:=t.some;obtain⟨ps',hp'⟩:=t'.some;refine⟨λb o n h=>s b o (λz=>?_) h,λb h=>?_⟩
 ·rw[z,hp] at h;exact n ps (br h).symm
 ·cases e:H b with
  |none=>rfl
  |some o=>
   by_cases z:b=U
   ·rw[z,hp'] at h;cases h
   ·rw[s b o z e] at h;cases h
def Iz (K:W.Frag):Sp:=λvs H Q _=>∃(h:Addr) (ag:Int) (k n:Addr) (qs:List Kq) (ps:List Pe),vs=[.ref h]/\HeadAt H h ag k qs n ps/\ps.length<64/\∀l H',AJ H H'->H' l=some (.lst ((ps.filter λp=>p.e.isS).map λp=>V.ref p.a))->Q (.ref l) H'
theorem QM (T:Txt K mg C XC)(F:Fun K "stems_in" "stems_in" ET f fd):FnOk P w K mg base FL 1 f fd ["head"] (Iz K):=by
 exists QE
 ·obtain⟨h,ag,k,n,qs,ps,rfl,_⟩:=h;rfl
 obtain⟨h,ag,k,n,qs,ps,rfl,hd,few,q⟩:=h;refine⟨_,(!Ad (!AG (@Fi _ ["named"] _ _ _ _ _ _ _ _ _ _ rfl (!Mz (!Ao An (pv 0) (!Ag) (λ_ _=>rfl))) (by decide +kernel) (λC s H fp=>⟨(@Be _ _ (0) _ (show(["named"]:List Str).Nodup by decide +kernel) rfl (by trivial) (by trivial)),(!Gp (!AD Bh (!Ao (GB (K:=K) (by rfl)) (pv 0) (!Ag) (λ_ _=>rfl)) (!Bv rfl T.c_STEM) (AI _))),(pv 0)⟩) (by intro _;rfl)))),?_⟩
 try dsimp only[A4,Cx.nox,Cx.wish]
 refine⟨_,rfl,h,_,_,_,rfl,rfl,AS.of hd.at_,Af (j:=2) rfl,n,rfl,⟨_,AS.of hd.nm⟩,?_⟩;refine Cv (ps:=ps) (g:=λp=>V.ref p.a) (λp=>p.e.isS) (λp=>V.ref p.a) (JZ hd.nm) (by omega) (λp hp H' R s' hR=>?_) (λp hp hs H' R s' hR=>⟨_,rfl,hR H' (AJ.refl _)⟩) λl H7 n7 s7 h7=>q l H7 s7 h7
 obtain⟨a,t,e⟩:=p;have ha':=s'.get (hd.en _ hp).2;cases e with
 |st nm kp og t=>exact⟨_,rfl,a,_,_,_,rfl,rfl,AS.of ha',Af (j:=1) rfl,rfl,_,rfl,hR⟩
 |sl nm sm' tn t=>exact⟨_,rfl,a,_,_,_,rfl,rfl,AS.of ha',Af (j:=1) rfl,rfl,_,rfl,hR⟩
def Fh (K:W.Frag)(PT:Addr):Sp:=λvs H Q _=>∃(h:Addr) (sm:Str) (ag:Int) (k n:Addr) (qs:List Kq) (ps:List Pe),vs=[.ref h,.str sm]/\HeadAt H h ag k qs n ps/\ps.length<64/\((ps.filter λp=>p.e.isSl sm).map λp=>p.e.turn).Nodup/\DS PT LQ LP H/\
 ∀(us:List Pe) l H',us.Perm (ps.filter λp=>p.e.isSl sm)->us.Pairwise (λx y=>x.e.turn<y.e.turn)->C7 PT H H'->DS PT LQ LP H'->H l=none->H' l=some (.lst (us.map λp=>V.ref p.a))->Q (.ref l) H'
theorem P7 (T:Txt K mg C XC)(F:Fun K "seals_of" "seals_of" EO f fd)(LA:LamAt K mg base fd.code PT):FnOk P w K mg base FL 1 f fd ["head","stem"] (Fh K PT):=by
 refine F.okC LI (λvs H Q E h=>?_) (λcdv A outer s H vs Q E hcd hr h=>?_)
 ·obtain⟨h,sm,ag,k,n,qs,ps,rfl,_⟩:=h;rfl
 subst hcd;obtain⟨h,sm,ag,k,n,qs,ps,rfl,hd,few,nd,tb,q⟩:=h;refine⟨_,(!Ah (@PL _ ["named","stem"] [none,some 1] (2) _ _ _ _ _ _ _ _ _ _ _ _ _ _ LI.nd rfl (by trivial) rfl (!Mz (!Ao An (pv 0) (!Ag) (λ_ _=>rfl))) (by rfl) rfl (by repeat (first|exact trivial|refine⟨rfl,?_⟩)) (by repeat (first|exact trivial|refine⟨λh=>(by first|exact⟨_,rfl⟩|cases h),?_⟩)) (λC s H fp=>⟨(@Be _ _ (0) _ (show(["named","stem"]:List Str).Nodup by decide +kernel) rfl (by trivial) (by trivial)),(!Gp (@PW.pt _ _ _ (!VA (!AD Bh (!Ao (GB (K:=K) (by rfl)) (pv 0) (!Ag) (λ_ _=>rfl)) (!Bv rfl T.c_SEAL) (AI _)) (!SU (!AD Bh (!Ao (GB (K:=K) (by rfl)) (pv 0) (!Ag) (λ_ _=>rfl)) (pv 1) (AI _)))))),(pv 0)⟩) (by intro _;rfl) (by rfl) (by trivial)) (!Ad (!AG (@VL _ _ _ _ _ _ (3) _ _ _ _ _ _ _ _ _ _ (hr.mono (aD _)) ⟨λ_ _ _ _ _ _=>rfl,λ_=>rfl,λ_=>rfl,rfl,rfl,rfl,rfl,by decide,by decide⟩ LA (by decide) rfl rfl T.b_sorted (!Aa (pv 2) (!Ab)) (by rfl) (by rfl))))),?_⟩
 try dsimp only[A4,Cx.nox,Cx.wish]
 refine⟨_,rfl,h,_,_,_,rfl,rfl,AS.of hd.at_,Af (j:=2) rfl,n,rfl,⟨_,AS.of hd.nm⟩,?_⟩;refine Cv (ps:=ps) (g:=λp=>V.ref p.a) (λp=>p.e.isSl sm) (λp=>V.ref p.a) (JZ hd.nm) (by omega) (λp hp H' R s' hR=>?_) (λp hp hs H' R s' hR=>⟨_,rfl,hR H' (AJ.refl _)⟩) λl H7 n7 s7 h7=>?_
 ·obtain⟨a,t,e⟩:=p;have ha':=s'.get (hd.en _ hp).2;cases e with
  |st nm kp og t=>exact⟨_,rfl,a,_,_,_,rfl,rfl,AS.of ha',Af (j:=1) rfl,rfl,_,rfl,Ay rfl hR⟩
  |sl nm sm' tn t=>exact⟨_,rfl,a,_,_,_,rfl,rfl,AS.of ha',Af (j:=1) rfl,rfl,_,rfl,AU rfl ⟨_,rfl,a,_,_,_,rfl,rfl,AS.of ha',Af (j:=2) rfl,_,rfl,rfl,_,rfl,by
    rw[FI];exact hR⟩⟩
 have lf:=bp (λp:Pe=>p.e.isSl sm) ps;have sl_of:∀p∈ps.filter (λp=>p.e.isSl sm),p∈ps/\∃nm tn t,p.e=.sl nm sm tn t:=λp hp=>by
  obtain⟨h1,h2⟩:=aO.mp hp;refine⟨h1,?_⟩;cases e:p.e with
  |st nm kp og t=>rw[e] at h2;cases h2
  |sl nm sm' tn t=>
   rw[e] at h2;rw[aW h2];exact⟨_,_,_,rfl⟩
 generalize ps.filter (λp=>p.e.isSl sm)=zs at h7 nd q lf sl_of;refine⟨_,rfl,l,zs.map λp=>(p.a,p.e.turn),rfl,A7.of (by rw[aL];exact h7),by rw[ax];omega,λt ht=>?_,by rw[aL];exact nd,tb.same s7,λus p H2 up us2 st tb2 np=>?_⟩
 ·obtain⟨p,hp,rfl⟩:=aA.mp ht;obtain⟨h1,nm,tn,t,e⟩:=sl_of p hp;refine⟨_,AS.of (s7.get (hd.en _ h1).2),?_⟩;rw[e];rfl
 ·obtain⟨us',p1,rfl⟩:=Tw up rfl;rw[aL];refine q us' p _ p1 (by rw[bJ] at us2;exact us2) (((s7.t PT).trans st).trans ((Ai np _).t PT)) (tb2.same (Ai np _)) ?_ Ae;exact((s7.t PT).trans st).free tb2 np
def FH (K:W.Frag)(PU:Addr):Sp:=λvs H Q _=>∃(n a:Addr) (nm:Str) (rs:List (Addr×Str)),vs=[.ref n,.ref a]/\H n=some (.tup (rs.map λp=>V.ref p.1))/\(∀p∈rs,∃r,H p.1=some (.tup (.str p.2::r)))/\(∃r,H a=some (.tup (.str nm::r)))/\Ri (λp=>p.2) rs/\rs.length<=60/\DS PU MQ MP H/\
 ∀n' H',C7 PU H H'->DS PU MQ MP H'->H n'=none->H' n'=some (.tup ((putL (λp=>p.2) (a,nm) rs).map λp=>V.ref p.1))->Q (.ref n') H'
theorem OZ (T:Txt K mg C XC)(F:Fun K "put_among" "put_among" El f fd)(LA:LamAt K mg base fd.code PU):FnOk P w K mg base FL 1 f fd ["some","one"] (FH K PU):=by
 refine F.okC Km (λvs H Q E h=>?_) (λcdv A outer s H vs Q E hcd hr h=>?_)
 ·obtain⟨n,a,nm,rs,rfl,_⟩:=h;rfl
 subst hcd;obtain⟨n,a,nm,rs,rfl,hn,hen,⟨ra,hra⟩,ri,few,tb,q⟩:=h;refine⟨_,(!Ah (@PL _ ["other","one"] [none,some 1] (2) _ _ _ _ _ _ _ _ _ _ _ _ _ _ Km.nd rfl (by trivial) rfl (!Mz (pv 0)) (by rfl) rfl (by repeat (first|exact trivial|refine⟨rfl,?_⟩)) (by repeat (first|exact trivial|refine⟨λh=>(by first|exact⟨_,rfl⟩|cases h),?_⟩)) (λC s H fp=>⟨(@Be _ _ (0) _ (show(["other","one"]:List Str).Nodup by decide +kernel) rfl (by trivial) (by trivial)),(!Gp (!AD M0 (!Ao (GB (K:=K) (by rfl)) (pv 0) (!Ag) (λ_ _=>rfl)) (!Ao (GB (K:=K) (by rfl)) (pv 1) (!Ag) (λ_ _=>rfl)) (AI _))),(pv 0)⟩) (by intro _;rfl) (by rfl) (by trivial)) (!Ad (!AG (!GL Ja (by rfl) T.b_tuple QQ (!Aa (@Ui _ _ _ _ _ _ (0) _ _ _ _ _ _ _ _ _ _ (hr.mono (aD _)) ⟨λ_ _ _ _ _ _=>rfl,λ_=>rfl,λ_=>rfl,rfl,rfl,rfl,rfl,by decide,by decide⟩ LA (by decide) rfl rfl T.b_sorted (!Aa (!AY GC (pv 2) (!B7 (!Aa (pv 1) (!Ab)))) (!Ab)) (by rfl) (by rfl)) (!Ab)))))),?_⟩
 try dsimp only[A4,Cx.nox,Cx.wish]
 refine⟨_,rfl,n,rfl,⟨_,AS.of hn⟩,?_⟩;refine Cv (ps:=rs) (g:=λp=>V.ref p.1) (λp=>!decide (p.2=nm)) (λp=>V.ref p.1) (JZ hn) (by omega) (λp hp H' R s' hR=>?_) (λp hp hs H' R s' hR=>⟨_,rfl,hR H' (AJ.refl _)⟩) λl H7 n7 s7 h7=>?_
 ·obtain⟨r,hr'⟩:=hen p hp;refine⟨_,rfl,p.1,_,_,_,rfl,rfl,AS.of (s'.get hr'),Af (j:=0) rfl,_,rfl,a,_,_,_,rfl,rfl,AS.of (s'.get hra),Af (j:=0) rfl,rfl,_,rfl,?_⟩;rw[FI];exact hR
 have lf:=bp (λp:Addr×Str=>!decide (p.2=nm)) rs;have pm:=GJ (x:=(a,nm)) ri;have pr:=D6 (x:=(a,nm)) ri;have enf:∀p∈(rs.filter λp=>!decide (p.2=nm))++[(a,nm)],∃r,H p.1=some (.tup (.str p.2::r)):=λp hp=>by
  rcases bu.mp hp with hp|hp
  ·exact hen p (aO.mp hp).1
  ·rw[aG.mp hp];exact⟨ra,hra⟩
 change (putL (λp=>p.2) (a,nm) rs).Perm ((rs.filter λp=>!decide (p.2=nm))++[(a,nm)]) at pm
 generalize (rs.filter λp=>!decide (p.2=nm))=zs at h7 lf pm enf;refine⟨_,rfl,_,rfl,Pn,λp1 np1=>?_⟩;have s8:=Ai np1 (.lst [V.ref a]);have h8:(upd H7 p1 (.lst [V.ref a])) p1=some (.lst [V.ref a]):=Ae;generalize upd H7 p1 (.lst [V.ref a])=H8 at s8 h8;refine⟨l,p1,_,_,rfl,rfl,A7.of (s8.get h7),A7.of h8,small (by rw[ax];show _+1<=1000000;omega),λp2 np2=>?_⟩;have s9:=Ai np2 (.lst ((zs.map λp=>V.ref p.1)++[V.ref a]));have h9:(upd H8 p2 (.lst ((zs.map λp=>V.ref p.1)++[V.ref a]))) p2=some (.lst ((zs++[(a,nm)]).map λp=>V.ref p.1)):=by rw[Ae,bx];rfl
 generalize upd H8 p2 (.lst ((zs.map λp=>V.ref p.1)++[V.ref a]))=H9 at s9 h9;have s79:=(s7.trans s8).trans s9;refine⟨p2,zs++[(a,nm)],rfl,A7.of h9,by rw[aM];show _+1<64;omega,λt ht=>?_,?_,tb.same s79,λus p H2 up us2 st tb2 np=>?_⟩
 ·obtain⟨r,hr'⟩:=enf t ht;exact⟨_,AS.of (s79.get hr'),rfl⟩
 ·rw[<-(pm.map λp=>p.2).nodup_iff];exact List.Pairwise.imp (λh=>KL h) (bJ.mpr pr)
 ·have eq:us=putL (λp=>p.2) (a,nm) rs:=Ma (key:=λp:Addr×Str=>p.2) (up.trans pm.symm) us2 pr;subst eq;have s10:=Ai np (.lst ((putL (λp=>p.2) (a,nm) rs).map λt=>V.ref t.1));have h10:(upd H2 p (.lst ((putL (λp=>p.2) (a,nm) rs).map λt=>V.ref t.1))) p=some (.lst ((putL (λp=>p.2) (a,nm) rs).map λt=>V.ref t.1)):=Ae;generalize upd H2 p (.lst ((putL (λp=>p.2) (a,nm) rs).map λt=>V.ref t.1))=H10 at s10 h10;refine⟨p,_,rfl,.inl ⟨A7.of h10,λnn nnn=>?_⟩⟩;have s11:=Ai nnn (.tup ((putL (λp=>p.2) (a,nm) rs).map λt=>V.ref t.1));have tb10:=tb2.same s10;have st10:C7 PU H H10:=((s79.t PU).trans st).trans (s10.t PU);exact q nn _ (st10.trans (s11.t PU)) (tb10.same s11) (st10.free tb10 nnn) Ae
end
abbrev Cg (p:Pe):Str:=p.e.nm
abbrev CT (q:Kq):Str:=q.2.1
def FC (nm:Str)(ns:List Str):Option Rf:=if C6 (.str nm)=true then(if nm∈ns then some (.twice nm) else none) else some (.noName nm)
def Gs (nm kp:Str)(ks ns:List Str):Option Rf:=match FC nm ns with
 |some r=>some r
 |none=>if kp∈ks then(if ns.length<24 then none else some .many) else some (.noName kp)
def Out (XC:Nat->Addr)(E:Value->Option Addr->Hp->Prop)(H:Hp)(r:Option Rf)(q:Prop):Prop:=match r with
 |none=>q
 |some r=>Ex XC E H r
theorem J4 {α:Type}{key:α->Str}{x:α}:∀{l:List α},Ri key l->(∃y∈l,key y=key x)->putL key x l=l.map λy=>if key y=key x then x else y
 |[],_,⟨_,h,_⟩=>nomatch h
 |y::r,h,⟨z,hz,e⟩=>by
  rw[Ri,bN] at h;unfold putL;rw[aR]
  by_cases c:key y=key x
  ·rw[aI c,aI c]
   congr 1
   conv=>lhs;rw[<-cY r]
   exact aZ λu hu=>(aF λe=>KL (h.1 u hu) (by rw[c,e])).symm
  ·have hz':z∈r:=(aX.mp hz).resolve_left λq=>c (by rw[<-q];exact e)
   rw[aF c,aF c,aF λd=>KL (di d (h.1 z hz')) e.symm,J4 h.2 ⟨z,hz',e⟩]
theorem Ri.nd {α:Type}{key:α->Str}{l:List α}(h:Ri key l):(l.map key).Nodup:=List.Pairwise.imp (λh=>KL h) (bJ.mpr h)
theorem RT {α β:Type}{key:α->Str}{key':β->Str}{g:α->β}(e:∀a,key' (g a)=key a){l:List α}:Ri key' (l.map g)↔Ri key l:=by
 unfold Ri;rw[bJ];simp only[e]
theorem D1 {α β:Type}{f:α->β}:∀{l:List α},(l.map f).Nodup->∀{x y:α},x∈l->y∈l->f x=f y->x=y
 |[],_,x,_,hx,_,_=>nomatch hx
 |a::l,nd,x,y,hx,hy,e=>by
  rw[aR,bV] at nd;rcases aX.mp hx with e1|h1
  ·rcases aX.mp hy with e2|h2
   ·rw[e1,e2]
   ·exact absurd (aA.mpr ⟨y,h2,by rw[<-e,e1]⟩) nd.1
  ·rcases aX.mp hy with e2|h2
   ·exact absurd (aA.mpr ⟨x,h1,by rw[e,e2]⟩) nd.1
   ·exact D1 nd.2 h1 h2 e
theorem GY {nm:Str}{ps:List Pe}:(HN nm ps).isSome=true↔nm∈ps.map Cg:=by
 unfold HN;rw[List.find?_isSome];constructor
 ·rintro⟨p,hp,e⟩
  exact aA.mpr ⟨p,hp,aW e⟩
 ·intro h;obtain⟨p,hp,e⟩:=aA.mp h;exact⟨p,hp,aE e⟩
theorem OA (zs:List Str):(zs.map V.str).all GI=true:=by
 rw[dy];exact bR.mpr λ_ _=>rfl
theorem Qh (z:Str)(zs:List Str):Zt (V.str z) (zs.map V.str)=decide (z∈zs):=by
 unfold Zt;rw[List.any_map,cq,dP,cX];constructor
 ·rintro⟨y,hy,e⟩
  have e:(y == z)=true:=e;rw[bW] at e;rw[<-e];exact hy
 ·exact λh=>⟨z,h,beq_self_eq_true _⟩
section
variable {P:Program}{w:World}{K:W.Frag}{mg:Str->Option Value}{base:Heap}{f C:Addr}{XC:Nat->Addr}{fd:FuncData}{PT PU:Addr}
def Cw (K:W.Frag)(XC:Nat->Addr):Sp:=λvs H Q E=>∃(h:Addr) (nm:Str) (ag:Int) (k n:Addr) (qs:List Kq) (ps:List Pe),vs=[.ref h,.str nm]/\HeadAt H h ag k qs n ps/\nm.length<=1000/\∀H',AJ H H'->Out XC E H' (FC nm (ps.map Cg)) (Q .non H')
theorem J1 (T:Txt K mg C XC)(F:Fun K "check_new_name" "check_new_name" Cm f fd)(DB:Def P w K mg base 2 "is_name" ["thing"] (Gd K))(AQ:Gq P w K mg base 1 "NoName" (XC 0) "name" ["self","name"])(Cb:Def P w K mg base 1 "one_called" ["some","name"] (DQ K))(DC:Gq P w K mg base 1 "Twice" (XC 1) "name" ["self","name"]):FnOk P w K mg base (Fj P w) 3 f fd ["head","name"] (Cw K XC):=by
 refine F.okE JX (λvs H Q E h=>?_) (λcdv A outer s H vs Q E hr h=>?_)
 ·obtain⟨h,nm,ag,k,n,qs,ps,rfl,_⟩:=h;rfl
 obtain⟨h,nm,ag,k,n,qs,ps,rfl,hd,ln,q⟩:=h;refine⟨_,(!Ah (!AV (!GG (!ER (!AW DB (by trivial) rfl (!Aa (pv 1) (!Ab))) (by intro _;rfl))) (!Ad (!By Bi rfl AQ (by trivial) rfl (!Aa (pv 1) (!Ab)))) (!AO)) (!Ad (!AV (!Ir (!WR (!AW Cb (by trivial) rfl (!Aa (!Ao An (pv 0) (!Ag) (λ_ _=>rfl)) (!Aa (pv 1) (!Ab))))) (by first|exact CP _ (by decide) (by decide)|rfl)) (!Ad (!By Bi rfl DC (by trivial) rfl (!Aa (pv 1) (!Ab)))) (!AO)))),?_⟩
 try dsimp only[A4,Cx.nox,Cx.wish]
 refine⟨_,rfl,.str nm,rfl,ln,λH1 s1=>?_⟩;have q:=q H1 s1;have hd:=hd.st (AC s1);unfold FC at q;refine⟨_,rfl,?_⟩;cases nb:C6 (.str nm) with
 |false=>
  rw[nb,aF aJ] at q;exact AU rfl ⟨_,rfl,_,rfl,q⟩
 |true=>
  rw[nb,aI rfl] at q;refine Ay rfl ?_;refine⟨_,rfl,h,_,_,_,rfl,rfl,AS.of hd.at_,Af (j:=2) rfl,_,rfl,n,ps.map λp=>(p.a,p.e.nm),nm,rfl,by rw[aL];exact hd.nm,λp hp=>?_,?_⟩
  ·obtain⟨q,hq,rfl⟩:=aA.mp hp;exact(hd.en q hq).fst
  rw[Vy];cases e:HN nm ps with
  |some p=>
   rw[aI (GY.mp (by rw[e];rfl))] at q;exact⟨_,rfl,AU rfl ⟨_,rfl,_,rfl,q⟩⟩
  |none=>
   rw[aF λz=>by have:=GY.mpr z;rw[e] at this;cases this] at q;exact⟨_,rfl,Ay rfl q⟩
def Fb (K:W.Frag)(XC:Nat->Addr):Sp:=λvs H Q E=>∃(h:Addr) (ag:Int) (k n:Addr) (qs:List Kq) (ps:List Pe),vs=[.ref h]/\HeadAt H h ag k qs n ps/\(ps.length<24->Q .non H)/\(24<=ps.length->Ex XC E H .many)
theorem N2 (T:Txt K mg C XC)(F:Fun K "check_room" "check_room" DG f fd):FnOk P w K mg base (Fj P w) 1 f fd ["head"] (Fb K XC):=by
 refine F.okE N0 (λvs H Q E h=>?_) (λcdv A outer s H vs Q E hr h=>?_)
 ·obtain⟨h,ag,k,n,qs,ps,rfl,_⟩:=h;rfl
 obtain⟨h,ag,k,n,qs,ps,rfl,hd,q1,q2⟩:=h;refine⟨_,(!Ad (!AV (!AD Y0 (!A0 B9 (by rfl) T.b_len EI (!Aa (!Ao An (pv 0) (!Ag) (λ_ _=>rfl)) (!Ab))) (!Bv rfl T.c_MOST_NAMES) (AI _)) (!Ad (!GV GO rfl T.x_TooMany T.q_TooMany)) (!AO))),?_⟩
 try dsimp only[A4,Cx.nox,Cx.wish]
 refine⟨_,rfl,h,_,_,_,rfl,rfl,AS.of hd.at_,Af (j:=2) rfl,n,_,rfl,.inr (AS.of hd.nm),_,_,rfl,rfl,_,rfl,HL (λc=>?_) (λc=>?_)⟩
 ·have c':=aW c;rw[ax] at c';exact q2 (by omega)
 ·have c':=dec_false c;rw[ax] at c';exact q1 (by omega)
def Ds (K:W.Frag)(XC:Nat->Addr):Sp:=λvs H Q E=>∃(h:Addr) (nm kp:Str) (ag:Int) (k n:Addr) (qs:List Kq) (ps:List Pe),vs=[.ref h,.str nm,.str kp]/\HeadAt H h ag k qs n ps/\nm.length<=1000/\∀H',AJ H H'->Out XC E H' (Gs nm kp (qs.map CT) (ps.map Cg)) (Q .non H')
theorem J3 (T:Txt K mg C XC)(F:Fun K "check_new_stem" "check_new_stem" Cj f fd)(Bf:Bu P w K mg base 3 "check_new_name" ["head","name"] (Cw K XC))(Fw:Bu P w K mg base 3 "keeper_called" ["head","name"] (EY K XC))(DA:Bu P w K mg base 1 "check_room" ["head"] (Fb K XC)):FnOk P w K mg base (Fj P w) 4 f fd ["head","name","keeper"] (Ds K XC):=by
 refine F.okE Kj (λvs H Q E h=>?_) (λcdv A outer s H vs Q E hr h=>?_)
 ·obtain⟨h,nm,kp,ag,k,n,qs,ps,rfl,_⟩:=h;rfl
 obtain⟨h,nm,kp,ag,k,n,qs,ps,rfl,hd,ln,q⟩:=h;refine⟨_,(!Ah (!AA (!Ba Bf (by trivial) rfl Am (!Aa (pv 0) (!Aa (pv 1) (!Ab))))) (!Ah (!AA (!Ba Fw (by trivial) rfl Am (!Aa (pv 0) (!Aa (pv 2) (!Ab))))) (!Ad (!AA (!Ba DA (by trivial) rfl Am (!Aa (pv 0) (!Ab))))))),?_⟩
 try dsimp only[A4,Cx.nox,Cx.wish]
 refine⟨_,rfl,_,rfl,h,nm,ag,k,n,qs,ps,rfl,hd,ln,λH1 s1=>?_⟩;have q:=q H1 s1;have hd:=hd.st (AC s1);unfold Gs at q;cases e:FC nm (ps.map Cg) with
 |some r=>rw[e] at q;exact q
 |none=>
  rw[e] at q;refine⟨_,rfl,_,rfl,h,kp,ag,k,n,qs,ps,rfl,hd,λm a=>?_,λm=>?_⟩
  ·rw[show(match(none:Option Rf) with|some r=>some r|none=>if kp∈qs.map CT then(if(ps.map Cg).length<24 then none else some Rf.many) else some (.noName kp))=(if(ps.map Cg).length<24 then none else some Rf.many) from aI m,ax] at q;refine⟨_,rfl,h,ag,k,n,qs,ps,rfl,hd,λlt=>?_,λle=>?_⟩
   ·rw[aI lt] at q;exact q
   ·rw[aF (by omega)] at q;exact q
  ·rw[show(match(none:Option Rf) with|some r=>some r|none=>if kp∈qs.map CT then(if(ps.map Cg).length<24 then none else some Rf.many) else some (.noName kp))=some (.noName kp) from aF m] at q;exact q
def Dg (K:W.Frag)(PT PU:Addr):Sp:=λvs H Q _=>∃(h:Addr) (p:Pe) (ag:Int) (k n:Addr) (qs:List Kq) (ps:List Pe),vs=[.ref h,.ref p.a]/\HeadAt H h ag k qs n ps/\Nw H p/\Ri Cg ps/\ps.length<=60/\Tb PT PU H/\
 ∀h' n' H',St H H'->Tb PT PU H'->H h'=none->HeadAt H' h' ag k qs n' (putL Cg p ps)->Q (.ref h') H'
theorem N5 (T:Txt K mg C XC)(F:Fun K "with_named" "with_named" DI f fd)(D9:Def P w K mg base 1 "put_among" ["some","one"] (FH K PU)):FnOk P w K mg base FL 2 f fd ["head","named"] (Dg K PT PU):=by
 exists NK
 ·obtain⟨h,p,ag,k,n,qs,ps,rfl,_⟩:=h;rfl
 obtain⟨h,p,ag,k,n,qs,ps,rfl,hd,ha,ri,few,tb,q⟩:=h;refine⟨_,(!Ad (!AG (!Bo (!Aa (!Ao An (pv 0) (!Ag) (λ_ _=>rfl)) (!Aa (!Ao An (pv 0) (!Ag) (λ_ _=>rfl)) (!Aa (!AW D9 (by trivial) rfl (!Aa (!Ao An (pv 0) (!Ag) (λ_ _=>rfl)) (!Aa (pv 1) (!Ab)))) (!Ab))))))),?_⟩
 try dsimp only[A4,Cx.nox,Cx.wish]
 refine⟨_,rfl,h,_,_,_,rfl,rfl,AS.of hd.at_,Af (j:=0) rfl,_,rfl,h,_,_,_,rfl,rfl,AS.of hd.at_,Af (j:=1) rfl,_,rfl,h,_,_,_,rfl,rfl,AS.of hd.at_,Af (j:=2) rfl,_,rfl,n,p.a,p.e.nm,ps.map λp=>(p.a,p.e.nm),rfl,by rw[aL];exact hd.nm,λr hr9=>?_,ha.fst,(RT λ_=>rfl).mpr ri,by rw[ax];exact few,tb.b,λn' H1 st1 tb1 nn' hn'=>?_⟩
 ·obtain⟨r,hr8,rfl⟩:=aA.mp hr9;exact(hd.en r hr8).fst
 have S1:=Iv st1 tb.b tb1;have T1:=tb.r st1 tb1;refine⟨LU,λh' nh'=>?_⟩;have s2:=Ai nh' (.tup [V.int ag,V.ref k,V.ref n']);have S2:=S1.trans (AC s2);refine q h' n' _ S2 (T1.same s2) (S1.there _ nh') ⟨Ae,S2.tup hd.kp,λq hq=>S2.tup (hd.ke q hq),s2.get ?_,λr hr=>?_⟩
 ·rw[hn',<-IA (key:=Cg) (g:=λp=>(p.a,p.e.nm)) (λ_=>rfl) p ps,aL];rfl
 ·rcases(Dx ri).mp hr with rfl|⟨hr,_⟩
  ·exact ha.sd S2.sd
  ·exact(hd.en r hr).sd S2.sd
def Ge (K:W.Frag)(XC:Nat->Addr)(PT PU:Addr):Sp:=λvs H Q E=>∃(h:Addr) (nm:Str) (b:Int) (ag:Int) (k n:Addr) (qs:List Kq) (ps:List Pe),vs=[.ref h,.str nm,.int b]/\HeadAt H h ag k qs n ps/\Ri CT qs/\qs.length<=60/\Tb PT PU H/\
 ((putL id nm (qs.map CT)).length<=8->∀h' k' a H',St H H'->Tb PT PU H'->HeadAt H' h' ag k' (putL CT (a,nm,b) qs) n ps->Q (.ref h') H')/\(8<(putL id nm (qs.map CT)).length->∀H',St H H'->Tb PT PU H'->Ex XC E H' .many)
theorem Mm (T:Txt K mg C XC)(F:Fun K "with_keeper" "with_keeper" Dd f fd)(D9:Def P w K mg base 1 "put_among" ["some","one"] (FH K PU)):FnOk P w K mg base (Fj P w) 2 f fd ["head","name","bound"] (Ge K XC PT PU):=by
 refine F.okE Ij (λvs H Q E h=>?_) (λcdv A outer s H vs Q E hr h=>?_)
 ·obtain⟨h,nm,b,ag,k,n,qs,ps,rfl,_⟩:=h;rfl
 obtain⟨h,nm,b,ag,k,n,qs,ps,rfl,hd,ri,few,tb,q1,q2⟩:=h;refine⟨_,(!Ah (@AK _ _ (3) _ _ _ _ Ij.nd rfl (by trivial) (!AW D9 (by trivial) rfl (!Aa (!Ao An (pv 0) (!Ag) (λ_ _=>rfl)) (!Aa (!Bo (!Aa (pv 1) (!Aa (pv 2) (!Ab)))) (!Ab)))) (by rfl) (by trivial)) (!Ah (!AV (!AD SD (!A0 B9 (by rfl) T.b_len EI (!Aa (pv 3) (!Ab))) (!Bv rfl T.c_MOST_KEEPERS) (AI _)) (!Ad (!GV GO rfl T.x_TooMany T.q_TooMany)) (!AO)) (!Ad (!AG (!Bo (!Aa (!Ao An (pv 0) (!Ag) (λ_ _=>rfl)) (!Aa (pv 3) (!Aa (!Ao An (pv 0) (!Ag) (λ_ _=>rfl)) (!Ab))))))))),?_⟩
 try dsimp only[A4,Cx.nox,Cx.wish]
 refine⟨_,rfl,h,_,_,_,rfl,rfl,AS.of hd.at_,Af (j:=1) rfl,_,rfl,_,rfl,Dt,λa na=>?_⟩;have s0:=Ai na (.tup [V.str nm,V.int b]);have ha:(upd H a (.tup [V.str nm,V.int b])) a=some (.tup [V.str nm,V.int b]):=Ae;have tb0:=tb.same s0;have hd0:=hd.st (AC s0);generalize upd H a (.tup [V.str nm,V.int b])=H0 at s0 ha tb0 hd0;refine⟨k,a,nm,qs.map λp=>(p.1,p.2.1),rfl,by rw[aL];exact hd0.kp,λr hr9=>?_,⟨_,ha⟩,(RT (key':=λp:Addr×Str=>p.2) (key:=CT) λ_=>rfl).mpr ri,by rw[ax];exact few,tb0.b,λn' H1 st1 tb1 nn' hn'=>?_⟩
 ·obtain⟨r,hr8,rfl⟩:=aA.mp hr9;exact⟨_,hd0.ke r hr8⟩
 have S1:=Iv st1 tb0.b tb1;have T1:=tb0.r st1 tb1;have S01:=(AC s0).trans S1;have hd1:=hd0.st S1;have ha1:=S1.tup ha;rw[<-IA (key:=CT) (g:=λp:Kq=>(p.1,p.2.1)) (λ_=>rfl) (a,nm,b) qs,aL] at hn';have le:((putL CT (a,nm,b) qs).map ((λp:Addr×Str=>V.ref p.1)∘λp:Kq=>(p.1,p.2.1))).length=(putL id nm (qs.map CT)).length:=by
  rw[ax,<-IA (key:=CT) (key':=id) (g:=CT) (λ_=>rfl) (a,nm,b) qs,ax]
 refine⟨_,rfl,n',_,rfl,.inr (AS.of hn'),_,_,rfl,rfl,_,rfl,HL (λc=>?_) (λc=>?_)⟩
 ·have c':=aW c;rw[le] at c';exact q2 (by omega) H1 S01 T1
 ·have c':=dec_false c;rw[le] at c';refine⟨_,rfl,h,_,_,_,rfl,rfl,AS.of hd1.at_,Af (j:=0) rfl,_,rfl,_,rfl,h,_,_,_,rfl,rfl,AS.of hd1.at_,Af (j:=2) rfl,LU,λh' nh'=>?_⟩;have s2:=Ai nh' (.tup [V.int ag,V.ref n',V.ref n]);have S2:=S01.trans (AC s2);refine q1 (by omega) h' n' a _ S2 (T1.same s2) ⟨Ae,s2.get hn',λq hq=>?_,S2.tup hd.nm,λr hr=>(hd.en r hr).sd S2.sd⟩;rcases(Dx ri).mp hq with rfl|⟨hq,_⟩
  ·exact s2.get ha1
  ·exact S2.tup (hd.ke q hq)
def EJ (K:W.Frag):Sp:=λvs H Q _=>∃(h l:Addr) (zs:List Str) (ag:Int) (k n:Addr) (qs:List Kq) (ps:List Pe),vs=[.ref h,.ref l]/\HeadAt H h ag k qs n ps/\H l=some (.lst (zs.map V.str))/\ps.length<=60/\
 ∀h' n' H',AJ H H'->HeadAt H' h' ag k qs n' (ps.filter λp=>!decide (p.e.nm∈zs))->Q (.ref h') H'
theorem K6 (T:Txt K mg C XC)(F:Fun K "without_named" "without_named" Cs f fd):FnOk P w K mg base FL 1 f fd ["head","names"] (EJ K):=by
 exists KP
 ·obtain⟨h,l,zs,ag,k,n,qs,ps,rfl,_⟩:=h;rfl
 obtain⟨h,l,zs,ag,k,n,qs,ps,rfl,hd,hl,few,q⟩:=h;have hu:=Gw hr;refine⟨_,(!Ad (!AG (!Bo (!Aa (!Ao An (pv 0) (!Ag) (λ_ _=>rfl)) (!Aa (!Ao An (pv 0) (!Ag) (λ_ _=>rfl)) (!Aa (!GL Ja (by rfl) T.b_tuple QQ (!Aa (@Gx _ ["named","names"] [none,some 1] _ _ _ _ _ _ _ _ _ _ _ rfl (!Mz (!Ao An (pv 0) (!Ag) (λ_ _=>rfl))) (by rfl) rfl (by repeat (first|exact trivial|refine⟨rfl,?_⟩)) (by repeat (first|exact trivial|refine⟨λh=>(by first|exact⟨_,rfl⟩|cases h),?_⟩)) (λC s H fp=>⟨(@Be _ _ (0) _ (show(["named","names"]:List Str).Nodup by decide +kernel) rfl (by trivial) (by trivial)),(!Gp (!AD (NO (K:=K) (by rfl)) (!Ao (GB (K:=K) (by rfl)) (pv 0) (!Ag) (λ_ _=>rfl)) (pv 1))),(pv 0)⟩) (by intro _;rfl)) (!Ab))) (!Ab))))))),?_⟩
 try dsimp only[A4,Cx.nox,Cx.wish]
 refine⟨_,rfl,h,_,_,_,rfl,rfl,AS.of hd.at_,Af (j:=0) rfl,_,rfl,h,_,_,_,rfl,rfl,AS.of hd.at_,Af (j:=1) rfl,_,rfl,h,_,_,_,rfl,rfl,AS.of hd.at_,Af (j:=2) rfl,n,rfl,⟨_,AS.of hd.nm⟩,?_⟩;refine Cv (ps:=ps) (g:=λp=>V.ref p.a) (λp=>!decide (p.e.nm∈zs)) (λp=>V.ref p.a) (JZ hd.nm) (by omega) (λp hp H' R s' hR=>?_) (λp hp hs H' R s' hR=>⟨_,rfl,hR H' (AJ.refl _)⟩) λl7 H7 n7 s7 h7=>?_
 ·obtain⟨r,hr'⟩:=(hd.en p hp).fst;refine⟨_,rfl,p.a,_,_,_,rfl,rfl,AS.of (s'.get hr'),Af (j:=0) rfl,_,rfl,l,_,rfl,.inl (A7.of (s'.get hl)),rfl,OA zs,_,rfl,?_⟩;rw[Qh];exact hR
 refine⟨l7,_,rfl,.inl ⟨A7.of h7,λn' nn'=>?_⟩⟩;have s8:=Ai nn' (.tup ((ps.filter λp=>!decide (p.e.nm∈zs)).map λp=>V.ref p.a));have h8:(upd H7 n' (.tup ((ps.filter λp=>!decide (p.e.nm∈zs)).map λp=>V.ref p.a))) n'=some (.tup ((ps.filter λp=>!decide (p.e.nm∈zs)).map λp=>V.ref p.a)):=Ae;generalize upd H7 n' (.tup ((ps.filter λp=>!decide (p.e.nm∈zs)).map λp=>V.ref p.a))=H8 at s8 h8;refine⟨LU,λh' nh'=>?_⟩;have s9:=Ai nh' (.tup [V.int ag,V.ref k,V.ref n']);have S:=(s7.trans s8).trans s9;exact q h' n' _ S ⟨Ae,S.get hd.kp,λq hq=>S.get (hd.ke q hq),s9.get h8,λr hr8=>(hd.en r (aO.mp hr8).1).sd (AC S).sd⟩
def CA (K:W.Frag):Sp:=λvs H Q _=>∃(h:Addr) (ag:Int) (k n:Addr) (qs:List Kq) (ps:List Pe),vs=[.ref h]/\HeadAt H h ag k qs n ps/\∀h' H',AJ H H'->HeadAt H' h' (ag+1) k qs n ps->Q (.ref h') H'
theorem Pg (T:Txt K mg C XC)(F:Fun K "one_older" "one_older" D5 f fd):FnOk P w K mg base FL 1 f fd ["head"] (CA K):=by
 exists Pa
 ·obtain⟨h,ag,k,n,qs,ps,rfl,_⟩:=h;rfl
 obtain⟨h,ag,k,n,qs,ps,rfl,hd,q⟩:=h;refine⟨_,(!Ad (!AG (!Bo (!Aa (!AY Dq (!Ao An (pv 0) (!Ag) (λ_ _=>rfl)) (!Ag)) (!Aa (!Ao An (pv 0) (!Ag) (λ_ _=>rfl)) (!Aa (!Ao An (pv 0) (!Ag) (λ_ _=>rfl)) (!Ab))))))),?_⟩
 try dsimp only[A4,Cx.nox,Cx.wish]
 refine⟨_,rfl,h,_,_,_,rfl,rfl,AS.of hd.at_,Af (j:=0) rfl,_,_,rfl,rfl,_,rfl,h,_,_,_,rfl,rfl,AS.of hd.at_,Af (j:=1) rfl,_,rfl,h,_,_,_,rfl,rfl,AS.of hd.at_,Af (j:=2) rfl,LU,λh' nh'=>?_⟩;have s2:=Ai nh' (.tup [V.int (ag+1),V.ref k,V.ref n]);exact q h' _ s2 ⟨Ae,s2.get hd.kp,λq hq=>s2.get (hd.ke q hq),s2.get hd.nm,λr hr=>(hd.en r hr).sd (AC s2).sd⟩
def Gk (K:W.Frag):Sp:=λvs H Q _=>∃(p:Pe) (o nm kp og:Str) (t:Bt),vs=[.ref p.a,.str o]/\Nw H p/\p.e=.st nm kp og t/\
 ∀a' H',AJ H H'->Nw H' ⟨a',p.t,.st nm kp o t⟩->Q (.ref a') H'
theorem M6 (T:Txt K mg C XC)(F:Fun K "with_origin" "with_origin" Dk f fd):FnOk P w K mg base FL 1 f fd ["stem","origin"] (Gk K):=by
 exists Nv
 ·obtain⟨p,o,nm,kp,og,t,rfl,_⟩:=h;rfl
 obtain⟨⟨a,ta,e⟩,o,nm,kp,og,t,rfl,⟨hta,ha⟩,rfl,q⟩:=h;refine⟨_,(!Ad (!AG (!AY NA (!Fk RH (pv 0) (!G6) (!FG (!Ag))) (!Bo (!Aa (pv 1) (!Aa (!Ao An (pv 0) (!Ag) (λ_ _=>rfl)) (!Ab))))))),?_⟩
 try dsimp only[A4,Cx.nox,Cx.wish]
 refine⟨_,rfl,_,rfl,a,_,rfl,AS.of ha,(λz=>absurd z.2 (show ¬(HT.EH 5 5 (some 3)=5) by decide)),λp1 n1=>?_⟩;rw[Ra (by decide)];have s1:=Ai n1 (.tup [V.str nm,V.int 1,V.str kp]);have h1:(upd H p1 (.tup [V.str nm,V.int 1,V.str kp])) p1=some (.tup [V.str nm,V.int 1,V.str kp]):=Ae
 change X9 _ _ (upd H p1 (.tup [V.str nm,V.int 1,V.str kp])) _
 generalize upd H p1 (.tup [V.str nm,V.int 1,V.str kp])=H1 at s1 h1;refine⟨_,rfl,_,rfl,a,_,_,_,rfl,rfl,AS.of (s1.get ha),Af (j:=4) rfl,Dt,λp2 n2=>?_⟩;have s2:=Ai n2 (.tup [V.str o,V.ref ta]);have h2:(upd H1 p2 (.tup [V.str o,V.ref ta])) p2=some (.tup [V.str o,V.ref ta]):=Ae;generalize upd H1 p2 (.tup [V.str o,V.ref ta])=H2 at s2 h2;refine⟨p1,p2,_,_,rfl,rfl,AS.of (s2.get h1),AS.of h2,RG,(λz=>by cases z),(λ_ z=>by cases z),λ_ _ p3 n3=>?_⟩;have s3:=Ai n3 (.tup ([V.str nm,V.int 1,V.str kp]++[V.str o,V.ref ta]));exact q p3 _ ((s1.trans s2).trans s3) ⟨s3.get (s2.get (s1.get hta)),Ae⟩
end
def ZN (s:Str):En->En
 | .sl nm _ n t=>.sl nm s n t
 | .st nm k o t=>.st nm k o t
def G7 (s:Str)(D:List Str)(e:En):En:=if e.nm∈D then ZN s e else e
def Xo (e':En)(es:List En):List En:=es.map λx=>if x.nm=e'.nm then e' else x
def gr (s p og ogp:Str)(tn:Int):En->En
 | .st nm k o t=>if nm=s then .st nm k ogp t else if nm=p then .st nm k og t else .st nm k o t
 | .sl nm sm n t=>if sm=p/\n<=tn then .sl nm s n t else .sl nm sm n t
theorem Zi (s p og ogp:Str)(tn:Int)(e:En):(gr s p og ogp tn e).nm=e.nm:=by
 cases e with
 |st nm k o t=>
  show(if nm=s then En.st nm k ogp t else if nm=p then En.st nm k og t else En.st nm k o t).nm=nm
  split
  ·rfl
  ·split<;>rfl
 |sl nm sm n t=>
  show(if sm=p/\n<=tn then En.sl nm s n t else En.sl nm sm n t).nm=nm
  split<;>rfl
theorem Xa (nm k o:Str)(t:Bt):(En.st nm k o t).nm=nm:=rfl
theorem Y5 (nm k:Str)(n:Int)(t:Bt):(En.sl nm k n t).nm=nm:=rfl
theorem Xy (s:Str)(e:En):(ZN s e).nm=e.nm:=by cases e<;>rfl
theorem Mb (s:Str)(D:List Str)(e:En):(G7 s D e).nm=e.nm:=by
 unfold G7
 split
 ·exact Xy _ _
 ·rfl
theorem Ss {p:Pe}{ps:List Pe}(ri:Ri Cg ps)(ex:∃q∈ps,Cg q=Cg p):(putL Cg p ps).map (·.e)=Xo p.e (ps.map (·.e)):=by
 rw[J4 ri ex];unfold Xo;rw[aL,aL];refine aZ λq _=>?_
 show(if Cg q=Cg p then p else q).e=if q.e.nm=p.e.nm then p.e else q.e
 split<;>rfl
theorem V3 {p:Pe}{ps:List Pe}(ri:Ri Cg ps)(ex:∃q∈ps,Cg q=Cg p):(putL Cg p ps).length=ps.length:=by rw[J4 ri ex,ax]
theorem Ud {es:List En}{s p nm:Str}{D:List Str}{n:Int}{t:Bt}(nd:(es.map En.nm).Nodup)(h:En.sl nm p n t∈es):Xo (.sl nm s n t) (es.map (G7 s D))=es.map (G7 s (D++[nm])):=by
 unfold Xo;rw[aL];refine aZ λe he=>?_
 show(if(G7 s D e).nm=nm then En.sl nm s n t else G7 s D e)=G7 s (D++[nm]) e;rw[Mb]
 by_cases z:e.nm=nm
 ·have:=D1 nd he h z;subst this;rw[aI z];unfold G7;rw[aI (aV _ (by rw[z];exact aK))];rfl
 ·rw[aF z];unfold G7
  by_cases y:e.nm∈D
  ·rw[aI y,aI (bO _ y)]
  ·rw[aF y,aF λq=>(bu.mp q).elim y λq=>z (aG.mp q)]
theorem Uz {es:List En}{s p og ogp k kp:Str}{tn:Int}{t tp:Bt}{D:List Str}(nd:(es.map En.nm).Nodup)(hs:En.st s k og t∈es)(hp:En.st p kp ogp tp∈es)(hD:∀nm,nm∈D↔∃n t,En.sl nm p n t∈es/\n<=tn) :
  Xo (.st s k ogp t) (Xo (.st p kp og tp) (es.map (G7 s D)))=es.map (gr s p og ogp tn):=by
 unfold Xo;rw[aL,aL];refine aZ λe he=>?_
 show(if(if(G7 s D e).nm=p then En.st p kp og tp else G7 s D e).nm=s then En.st s k ogp t else(if(G7 s D e).nm=p then En.st p kp og tp else G7 s D e))=gr s p og ogp tn e;rw[Mb];cases e with
 |st nm k' o t'=>
  have nD:nm∉D:=λz=>by
   obtain⟨n,t2,h2,_⟩:=(hD nm).mp z;have:=D1 nd he h2 rfl;cases this
  have eh:G7 s D (.st nm k' o t')=.st nm k' o t':=aF nD;rw[eh];show(if(if nm=p then En.st p kp og tp else En.st nm k' o t').nm=s then _ else _)=if nm=s then _ else if nm=p then _ else _
  by_cases zs:nm=s
  ·subst zs;have:=D1 nd he hs rfl;cases this;rw[aI rfl]
   by_cases zp:nm=p
   ·rw[aI zp];rw[aI (show(En.st p kp og tp).nm=nm from zp.symm)]
   ·rw[aF zp];exact aI rfl
  ·rw[aF zs]
   by_cases zp:nm=p
   ·subst zp;have:=D1 nd he hp rfl;cases this;simp only[Xa,if_true,if_neg zs]
   ·simp only[Xa,if_neg zs,if_neg zp];exact aF zp
 |sl nm sm n t'=>
  have zp:nm≠p:=λz=>by
   have:=D1 nd he hp z;cases this
  have zs:nm≠s:=λz=>by
   have:=D1 nd he hs z;cases this
  show(if(if nm=p then En.st p kp og tp else G7 s D (.sl nm sm n t')).nm=s then _ else(if nm=p then En.st p kp og tp else G7 s D (.sl nm sm n t')))=if sm=p/\n<=tn then _ else _;simp only[Y5,if_neg zp,Mb,if_neg zs]
  by_cases c:sm=p/\n<=tn
  ·rw[aI c];show(if nm∈D then ZN s (En.sl nm sm n t') else En.sl nm sm n t')=_;rw[aI ((hD nm).mpr ⟨n,t',c.1▸he,c.2⟩)];rfl
  ·rw[aF c];refine aF (show ¬nm∈D from λz=>?_);obtain⟨n2,t2,h2,h3⟩:=(hD nm).mp z;have:=D1 nd he h2 rfl;cases this;exact c ⟨rfl,h3⟩
section
variable {P:Program}{w:World}{K:W.Frag}{mg:Str->Option Value}{base:Heap}{f C:Addr}{XC:Nat->Addr}{fd:FuncData}{PT PU:Addr}
theorem Rt {nm:Str}{ps:List Pe}{p:Pe}{kp og:Str}{t:Bt}(nd:(ps.map Cg).Nodup)(h:p∈ps)(e:p.e=.st nm kp og t):fst nm ps=some p:=by
 have:(HN nm ps).isSome=true:=GY.mpr (aA.mpr ⟨p,h,by show p.e.nm=nm;rw[e];rfl⟩);obtain⟨q,hq⟩:=cU.mp this;obtain⟨h1,h2⟩:=CK hq;have:=D1 nd h1 h (by show q.e.nm=p.e.nm;rw[h2,e];rfl);subst this;unfold fst;rw[hq];exact cm.mpr ⟨rfl,by rw[e];rfl⟩
theorem UJ {nm:Str}{ps:List Pe}{p:Pe}{sm:Str}{tn:Int}{t:Bt}(nd:(ps.map Cg).Nodup)(h:p∈ps)(e:p.e=.sl nm sm tn t):V1 nm ps=some p:=by
 have:(HN nm ps).isSome=true:=GY.mpr (aA.mpr ⟨p,h,by show p.e.nm=nm;rw[e];rfl⟩);obtain⟨q,hq⟩:=cU.mp this;obtain⟨h1,h2⟩:=CK hq;have:=D1 nd h1 h (by show q.e.nm=p.e.nm;rw[h2,e];rfl);subst this;unfold V1;rw[hq];exact cm.mpr ⟨rfl,by rw[e];rfl⟩
abbrev Tn (ps:List Pe):Prop:=∀sm,((ps.filter λp=>p.e.isSl sm).map λp=>p.e.turn).Nodup
def Jl (K:W.Frag)(PT PU:Addr):Sp:=λvs H Q _=>∃(h:Addr) (s:Str) (ag:Int) (k n:Addr) (qs:List Kq) (ps:List Pe) (p1 p2 p3:Pe) (k1 og p k3 ogp:Str) (tn:Int) (t1 t2 t3:Bt),vs=[.ref h,.str s]/\HeadAt H h ag k qs n ps/\ps.length<=60/\Ri Cg ps/\Tn ps/\Tb PT PU H/\
 p1∈ps/\p2∈ps/\p3∈ps/\p1.e=.st s k1 og t1/\p2.e=.sl og p tn t2/\p3.e=.st p k3 ogp t3/\
 ∀h' n' ps' H',St H H'->Tb PT PU H'->HeadAt H' h' ag k qs n' ps'->ps'.map (·.e)=(ps.map (·.e)).map (gr s p og ogp tn)->(∀q∈ps',∃r∈ps,q.t=r.t)->Q (.ref h') H'
theorem Q6 (T:Txt K mg C XC)(F:Fun K "grafted" "grafted" FM f fd)(AM:Bu P w K mg base 4 "stem_called" ["head","name"] (BP K XC))(Dh:Bu P w K mg base 4 "seal_called" ["head","name"] (Et K XC))(CY:Def P w K mg base 1 "seals_of" ["head","stem"] (Fh K PT))(Bb:Def P w K mg base 2 "with_named" ["head","named"] (Dg K PT PU))(E5:Def P w K mg base 1 "with_origin" ["stem","origin"] (Gk K)):FnOk P w K mg base FL 5 f fd ["head","stem"] (Jl K PT PU):=by
 exists DZ
 ·obtain⟨h,s,ag,k,n,qs,ps,p1,p2,p3,k1,og,p,k3,ogp,tn,t1,t2,t3,rfl,_⟩:=h;rfl
 obtain⟨h,sn,ag,k,n,qs,ps,p1,p2,p3,k1,og,p,k3,ogp,tn,t1,t2,t3,rfl,hd,few,ri,tns,tb,m1,m2,m3,e1,e2,e3,q⟩:=h;refine⟨_,(!Ah (@AK _ _ (2) _ _ _ _ DZ.nd rfl (by trivial) (!Ba AM (by trivial) rfl G1 (!Aa (pv 0) (!Aa (pv 1) (!Ab)))) (by rfl) (by trivial)) (!Ah (@AK _ _ (3) _ _ _ _ DZ.nd rfl (by trivial) (!Ba Dh (by trivial) rfl G1 (!Aa (pv 0) (!Aa (!Ao An (pv 2) (!Ag) (λ_ _=>rfl)) (!Ab)))) (by rfl) (by trivial)) (!Ah (@AK _ _ (4) _ _ _ _ DZ.nd rfl (by trivial) (!Ba AM (by trivial) rfl G1 (!Aa (pv 0) (!Aa (!Ao An (pv 3) (!Ag) (λ_ _=>rfl)) (!Ab)))) (by rfl) (by trivial)) (!Ah (!HA cz rfl (!DV (!AW CY (by trivial) rfl (!Aa (pv 0) (!Aa (!Ao An (pv 4) (!Ag) (λ_ _=>rfl)) (!Ab))))) (@Be _ _ (5) _ DZ.nd rfl (by trivial) (by trivial)) (!Ad (!AV (!AD Oj (!Ao An (pv 5) (!Ag) (λ_ _=>rfl)) (!Ao An (pv 3) (!Ag) (λ_ _=>rfl)) (AI _)) (!Ad (@AK _ _ (0) _ _ _ _ DZ.nd rfl (by trivial) (!AW Bb (by trivial) rfl (!Aa (pv 0) (!Aa (!Bo (!Aa (!Ao An (pv 5) (!Ag) (λ_ _=>rfl)) (!Aa (!Bv rfl T.c_SEAL) (!Aa (pv 1) (!Aa (!Ao An (pv 5) (!Ag) (λ_ _=>rfl)) (!Aa (!Ao An (pv 5) (!Ag) (λ_ _=>rfl)) (!Ab))))))) (!Ab)))) (by rfl) (by trivial))) (!AO))) (by intro _;rfl)) (!Ah (@AK _ _ (0) _ _ _ _ DZ.nd rfl (by trivial) (!AW Bb (by trivial) rfl (!Aa (pv 0) (!Aa (!AW E5 (by trivial) rfl (!Aa (pv 4) (!Aa (!Ao An (pv 3) (!Ag) (λ_ _=>rfl)) (!Ab)))) (!Ab)))) (by rfl) (by trivial)) (!Ad (!AG (!AW Bb (by trivial) rfl (!Aa (pv 0) (!Aa (!AW E5 (by trivial) rfl (!Aa (pv 2) (!Aa (!Ao An (pv 4) (!Ag) (λ_ _=>rfl)) (!Ab)))) (!Ab))))))))))),?_⟩
 try dsimp only[A4,Cx.nox,Cx.wish]
 have nd:=ri.nd;have nde:((ps.map (·.e)).map En.nm).Nodup:=by rw[aL];exact nd
 have y1:=(hd.en _ m1).2;have y2:=(hd.en _ m2).2;have y3:=(hd.en _ m3).2;rw[e1] at y1;rw[e2] at y2;rw[e3] at y3;have f1:=Rt nd m1 e1;have f2:=UJ nd m2 e2;have f3:=Rt nd m3 e3;refine⟨_,rfl,_,rfl,h,sn,ag,k,n,qs,ps,rfl,hd,λp1' z=>?_,λz=>by rw[f1] at z;cases z⟩;rw[f1] at z;cases z;refine⟨_,rfl,_,rfl,p1.a,_,_,_,rfl,rfl,AS.of y1,Af (j:=3) rfl,h,og,ag,k,n,qs,ps,rfl,hd,λp2' z=>?_,λz=>by rw[f2] at z;cases z⟩;rw[f2] at z;cases z;refine⟨_,rfl,_,rfl,p2.a,_,_,_,rfl,rfl,AS.of y2,Af (j:=2) rfl,h,p,ag,k,n,qs,ps,rfl,hd,λp3' z=>?_,λz=>by rw[f3] at z;cases z⟩;rw[f3] at z;cases z;refine⟨_,rfl,_,rfl,p3.a,_,_,_,rfl,rfl,AS.of y3,Af (j:=0) rfl,h,p,ag,k,n,qs,ps,rfl,hd,by omega,tns p,tb.a,λus l H1 up us2 st1 tb1 nl hl=>?_⟩;have S1:=Iv st1 tb.a tb1;have T1:=tb.l st1 tb1;have inps:∀q∈us,q∈ps/\∃nm n t,q.e=.sl nm p n t:=λq hq=>by
  obtain⟨g1,g2⟩:=aO.mp (up.mem_iff.mp hq);refine⟨g1,?_⟩;cases e:q.e with
  |st nm kp og t=>rw[e] at g2;cases g2
  |sl nm sm' tn t=>
   rw[e] at g2;rw[aW g2];exact⟨_,_,_,rfl⟩
 have lps:∀{psi:List Pe} {D:List Str},psi.map (·.e)=(ps.map (·.e)).map (G7 sn D)->psi.map Cg=ps.map Cg:=λ{psi D} z=>by
  have:=congrArg (List.map En.nm) z;rw[aL,aL,aL] at this;refine this.trans (aZ λq _=>?_);exact Mb _ _ _
 have exn:∀{psi:List Pe},psi.map Cg=ps.map Cg->∀{q:Pe},q∈ps->∃q'∈psi,Cg q'=Cg q:=λ{psi} z {q} hq=>by
  have:Cg q∈psi.map Cg:=by rw[z];exact aA.mpr ⟨q,hq,rfl⟩
  obtain⟨q',h1,h2⟩:=aA.mp this;exact⟨q',h1,h2⟩
 have rin:∀{psi:List Pe},psi.map Cg=ps.map Cg->Ri Cg psi:=λ{psi} z=>by
  have:(ps.map Cg).Pairwise NH:=bJ.mpr ri;rw[<-z] at this;exact bJ.mp this
 refine⟨l,rfl,⟨_,A7.of hl⟩,HV (K:=K) (a:=l) (xs:=us.map λq=>V.ref q.a) (λi σ H2=>∃hi ni psi v,σ=[some (.ref hi),some (.str sn),some (.ref p1.a),some (.ref p2.a),some (.ref p3.a),v]/\St H1 H2/\Tb PT PU H2/\HeadAt H2 hi ag k qs ni psi/\psi.map (·.e)=(ps.map (·.e)).map (G7 sn (((us.take i).filter λq=>decide (q.e.turn<=tn)).map λq=>q.e.nm))/\∀q∈psi,∃r∈ps,q.t=r.t)
  ⟨h,n,ps,none,rfl,.refl _,T1,hd.st S1,?_,λq hq=>⟨q,hq,rfl⟩⟩ (by rintro i σ H2 _ ⟨_,_,_,_,_,u,_⟩;exact A7.of (u.lst hl)) ?_ ?_⟩
 ·conv=>lhs;rw[<-cY (ps.map (·.e))]
  exact aZ λe _=>rfl
 ·rintro i x σ H2 hi ⟨hh,nn,psi,v,rfl,u2,T2,hd2,ep,et⟩
  rw[aQ] at hi;obtain⟨⟨qa,qt,qe⟩,hq,rfl⟩:=bB.mp hi;obtain⟨qp,nm,n0,t0,ee⟩:=inps _ (bD hq);have ee:qe=.sl nm p n0 t0:=ee;subst ee;have u02:=S1.trans u2;obtain⟨zq,yq⟩:=(hd.en _ qp).sd u02.sd;have y2':=u02.tup y2;have tk:us.take (i+1)=us.take i++[⟨qa,qt,En.sl nm p n0 t0⟩]:=by rw[cL,hq];rfl
  have nme:=lps ep;refine⟨_,rfl,qa,_,_,_,rfl,rfl,AS.of yq,Af (j:=3) rfl,_,rfl,p2.a,_,_,_,rfl,rfl,AS.of y2',Af (j:=3) rfl,_,_,rfl,rfl,_,rfl,HL (λc=>?_) (λc=>?_)⟩
  ·have c':=aW c;refine⟨_,rfl,_,rfl,qa,_,_,_,rfl,rfl,AS.of yq,Af (j:=0) rfl,_,rfl,_,rfl,qa,_,_,_,rfl,rfl,AS.of yq,Af (j:=3) rfl,_,rfl,qa,_,_,_,rfl,rfl,AS.of yq,Af (j:=4) rfl,RG,λpn np=>?_⟩;have s3:=Ai np (.tup ((En.sl nm sn n0 t0).items qt));have h3:(upd H2 pn (.tup ((En.sl nm sn n0 t0).items qt))) pn=some (.tup ((En.sl nm sn n0 t0).items qt)):=Ae;have z3:=s3.get zq;have T3:=T2.same s3;have ri2:=rin nme;have ex2:∃q'∈psi,Cg q'=Cg ⟨pn,qt,En.sl nm sn n0 t0⟩:=exn (q:=⟨qa,qt,En.sl nm p n0 t0⟩) nme qp;refine⟨hh,⟨pn,qt,En.sl nm sn n0 t0⟩,ag,k,nn,qs,psi,rfl,hd2.st (AC s3),⟨z3,h3⟩,ri2,?_,T3,λh4 n4 H4 st4 tb4 nh4 hd4=>?_⟩
   ·have:=congrArg List.length nme;rw[ax,ax] at this;omega
   ·refine⟨h4,n4,_,_,rfl,(u2.trans (AC s3)).trans st4,tb4,hd4,?_,λq hq=>?_⟩
    ·rw[Ss ri2 ex2,ep,tk,cp,bx,Ud nde (aA.mpr ⟨_,qp,rfl⟩)];rw[show List.filter (λq:Pe=>decide (q.e.turn<=tn)) [⟨qa,qt,En.sl nm p n0 t0⟩]=[⟨qa,qt,En.sl nm p n0 t0⟩] by rw[bE];exact aI (show decide (n0<=tn)=true from aE c')];rfl
    ·rcases(Dx ri2).mp hq with rfl|⟨hq,_⟩
     ·exact⟨_,qp,rfl⟩
     ·exact et q hq
  ·refine⟨hh,nn,psi,_,rfl,u2,T2,hd2,?_,et⟩;rw[ep,tk,cp];rw[show List.filter (λq:Pe=>decide (q.e.turn<=tn)) [⟨qa,qt,En.sl nm p n0 t0⟩]=[] by rw[bE];exact aF (show ¬decide (n0<=tn)=true from c),bq]
 ·rintro σ H2 ⟨hh,nn,psi,v,rfl,u2,T2,hd2,ep,et⟩
  rw[ax,dO] at ep;have u02:=S1.trans u2;have y2':=u02.tup y2;have nme:=lps ep;have hD:∀nm,nm∈((us.filter λq=>decide (q.e.turn<=tn)).map λq=>q.e.nm)↔∃n t,En.sl nm p n t∈ps.map (·.e)/\n<=tn:=λnm=>by
   constructor
   ·intro z;obtain⟨⟨qa,qt,qe⟩,hq,rfl⟩:=aA.mp z;obtain⟨g1,g2⟩:=aO.mp hq;obtain⟨qp,nm,n0,t0,e⟩:=inps _ g1;have e:qe=En.sl nm p n0 t0:=e;subst e;exact⟨n0,t0,aA.mpr ⟨_,qp,rfl⟩,aW g2⟩
   ·rintro⟨n0,t0,z,le⟩
    obtain⟨⟨qa,qt,qe⟩,qp,e⟩:=aA.mp z;have e:qe=En.sl nm p n0 t0:=e;subst e;exact aA.mpr ⟨_,aO.mpr ⟨up.mem_iff.mpr (aO.mpr ⟨qp,aE rfl⟩),aE le⟩,rfl⟩
  have ln:psi.length<=60:=by
   have:=congrArg List.length nme;rw[ax,ax] at this;omega
  have ri2:=rin nme;refine⟨_,rfl,_,rfl,_,rfl,p2.a,_,_,_,rfl,rfl,AS.of y2',Af (j:=0) rfl,p3,og,p,k3,ogp,t3,rfl,(hd.en _ m3).sd u02.sd,e3,λa4 H3 s3 en3=>?_⟩;have T3:=T2.same s3;have ex4:∃q'∈psi,Cg q'=Cg ⟨a4,p3.t,En.st p k3 og t3⟩:=by
   obtain⟨q',h1,h2⟩:=exn nme m3;exact⟨q',h1,by rw[h2];show p3.e.nm=_;rw[e3];rfl⟩
  refine⟨hh,⟨a4,p3.t,En.st p k3 og t3⟩,ag,k,nn,qs,psi,rfl,hd2.st (AC s3),en3,ri2,ln,T3,λh4 n4 H4 st4 T4 nh4 hd4=>?_⟩;have u4:=(u02.trans (AC s3)).trans st4;have nme4:(putL Cg ⟨a4,p3.t,En.st p k3 og t3⟩ psi).map Cg=ps.map Cg:=by
   rw[<-nme,J4 ri2 ex4,aL];refine aZ λq _=>?_
   show Cg (if Cg q=Cg ⟨a4,p3.t,En.st p k3 og t3⟩ then _ else q)=Cg q
   split
   ·next z=>exact z.symm
   ·rfl
  have ri4:=rin nme4;refine⟨_,rfl,_,rfl,_,rfl,p3.a,_,_,_,rfl,rfl,AS.of (u4.tup y3),Af (j:=3) rfl,p1,ogp,sn,k1,og,t1,rfl,(hd.en _ m1).sd u4.sd,e1,λa5 H5 s5 en5=>?_⟩;have T5:=T4.same s5;have ex5:∃q'∈putL Cg ⟨a4,p3.t,En.st p k3 og t3⟩ psi,Cg q'=Cg ⟨a5,p1.t,En.st sn k1 ogp t1⟩:=by
   obtain⟨q',h1,h2⟩:=exn nme4 m1;exact⟨q',h1,by rw[h2];show p1.e.nm=_;rw[e1];rfl⟩
  refine⟨h4,⟨a5,p1.t,En.st sn k1 ogp t1⟩,ag,k,n4,qs,_,rfl,hd4.st (AC s5),en5,ri4,by rw[V3 ri2 ex4];exact ln,T5,λh6 n6 H6 st6 tb6 nh6 hd6=>?_⟩;refine q h6 n6 _ H6 ((u4.trans (AC s5)).trans st6) tb6 hd6 ?_ λq hq=>?_
  ·rw[Ss ri4 ex5,Ss ri2 ex4,ep];exact Uz nde (e1▸aA.mpr ⟨p1,m1,rfl⟩) (e3▸aA.mpr ⟨p3,m3,rfl⟩) hD
  ·rcases(Dx ri4).mp hq with rfl|⟨hq,_⟩
   ·exact⟨_,m1,rfl⟩
   ·rcases(Dx ri2).mp hq with rfl|⟨hq,_⟩
    ·exact⟨_,m3,rfl⟩
    ·exact et q hq
end
theorem OJ:∀{p:Str} {l:List Str},PyProof.Rows.risingS p l=true->∀x∈l,¬x.cps.toList<p.cps.toList
 |p,y::r,h,x,hx=>by
  have h':=h;rw[PyProof.Rows.risingS,ba,gi] at h';have h1:¬y.cps.toList<p.cps.toList:=by simpa using h'.1
  rcases aX.mp hx with rfl|hx
  ·exact h1
  ·exact List.le_trans h1 (OJ h'.2 x hx)
theorem VI (xs:List V)(v:V):RN (xs++[v]) (-1)=some v:=by
 unfold RN Yc;rw[aF (by decide),aI (by rw[aM,bz];omega)];show(xs++[v])[((-1:Int)+((xs++[v]).length:Int)).toNat]?=some v;rw[aM,bz,show((-1:Int)+((xs.length+1:Nat):Int)).toNat=xs.length by omega];simp
theorem Su:∀{l:List Str},PyProof.Rows.sortedS l=true->l.Nodup->l.Pairwise NH
 |[],_,_=>List.Pairwise.nil
 |x::l,h,nd=>by
  rw[bV] at nd;refine bN.mpr ⟨λy hy=>Px (OJ (p:=x) h y hy) λe=>nd.1 (e▸hy),Su ?_ nd.2⟩;cases l with
  |nil=>rfl
  |cons y r=>
   have h':=h;rw[PyProof.Rows.sortedS,PyProof.Rows.risingS,ba] at h';exact h'.2
theorem filter_tt {α:Type}(l:List α):l.filter (λ_=>true)=l:=cw.mpr λ_ _=>rfl
def En.og:En->Str
 | .st _ _ og _=>og
 |_=>EM
def keepR (nm:Str)(ks:List Str):Option Rf:=if C6 (.str nm)=true then(if(putL id nm ks).length<=8 then none else some .many) else some (.noName nm)
def QG (fs:Option Pe)(sm nm:Str)(ns:List Str):Option Rf:=match fs with
 |none=>some (.noName sm)
 |some _=>match FC nm ns with
  |some r=>some r
  |none=>if ns.length<24 then none else some .many
def Jm (nm:Str)(p:Pe)(ps:List Pe):List Str:=if p.e.isS=true then(ps.filter λp=>p.e.isSl nm).map Cg else[nm]
def Vu (ps:List Pe):List Str:=(ps.filter λp=>p.e.isS).map λp=>p.e.og
theorem Ld {p:Pe}(h:p.e.isS=true):∃nm kp t,p.e=.st nm kp p.e.og t:=by
 obtain⟨a,t,e⟩:=p;cases e with
 |st nm kp og t=>exact⟨_,_,_,rfl⟩
 |sl _ _ _ _=>cases h
section
variable {P:Program}{w:World}{K:W.Frag}{mg:Str->Option Value}{base:Heap}{f C:Addr}{XC:Nat->Addr}{fd:FuncData}{PT PU:Addr}
def FS (K:W.Frag)(XC:Nat->Addr)(PT PU:Addr):Sp:=λvs H Q E=>∃(h:Addr) (nm:Str) (b:Int) (ag:Int) (k n:Addr) (qs:List Kq) (ps:List Pe),vs=[.ref h,.str nm,.int b]/\HeadAt H h ag k qs n ps/\Ri CT qs/\qs.length<=8/\nm.length<=1000/\Tb PT PU H/\
 (∀r,keepR nm (qs.map CT)=some r->∀H',St H H'->Tb PT PU H'->Ex XC E H' r)/\(keepR nm (qs.map CT)=none->∀h' k' a H',St H H'->Tb PT PU H'->HeadAt H' h' (ag+1) k' (putL CT (a,nm,b) qs) n ps->Q (.ref h') H')
theorem ML (T:Txt K mg C XC)(F:Fun K "keeper_told" "keeper_told" Dl f fd)(A3:Def P w K mg base 1 "one_older" ["head"] (CA K))(DB:Def P w K mg base 2 "is_name" ["thing"] (Gd K))(AQ:Gq P w K mg base 1 "NoName" (XC 0) "name" ["self","name"])(GD:Bu P w K mg base 2 "with_keeper" ["head","name","bound"] (Ge K XC PT PU)):FnOk P w K mg base (Fj P w) 3 f fd ["head","name","bound"] (FS K XC PT PU):=by
 refine F.okE Nn (λvs H Q E h=>?_) (λcdv A outer s H vs Q E hr h=>?_)
 ·obtain⟨h,nm,b,ag,k,n,qs,ps,rfl,_⟩:=h;rfl
 obtain⟨h,nm,b,ag,k,n,qs,ps,rfl,hd,ri,few,ln,tb,q1,q2⟩:=h;refine⟨_,(!Ah (!AV (!GG (!ER (!AW DB (by trivial) rfl (!Aa (pv 1) (!Ab))) (by intro _;rfl))) (!Ad (!By Bi rfl AQ (by trivial) rfl (!Aa (pv 1) (!Ab)))) (!AO)) (!Ad (!AG (!AW A3 (by trivial) rfl (!Aa (!Ba GD (by trivial) rfl Am (!Aa (pv 0) (!Aa (pv 1) (!Aa (pv 2) (!Ab))))) (!Ab)))))),?_⟩
 try dsimp only[A4,Cx.nox,Cx.wish]
 refine⟨_,rfl,.str nm,rfl,ln,λH1 s1=>⟨_,rfl,?_⟩⟩;have hd1:=hd.st (AC s1);have tb1:=tb.same s1;unfold keepR at q1 q2;cases nb:C6 (.str nm) with
 |false=>
  rw[nb,aF aJ] at q1;exact AU rfl ⟨_,rfl,_,rfl,q1 _ rfl H1 (AC s1) tb1⟩
 |true=>
  rw[nb,aI rfl] at q1 q2;refine Ay rfl ⟨_,rfl,_,rfl,_,rfl,h,nm,b,ag,k,n,qs,ps,rfl,hd1,ri,by omega,tb1,λle h' k' a H2 S2 T2 hd2=>?_,λgt H2 S2 T2=>?_⟩
  ·exact⟨h',ag,k',n,_,ps,rfl,hd2,λh3 H3 s3 hd3=>q2 (aI le) h3 k' a H3 (((AC s1).trans S2).trans (AC s3)) (T2.same s3) hd3⟩
  ·exact q1 _ (aF (by omega)) H2 ((AC s1).trans S2) T2
def Gc (K:W.Frag)(XC:Nat->Addr)(PT PU:Addr):Sp:=λvs H Q E=>∃(h:Addr) (sm nm:Str) (ag:Int) (k n:Addr) (qs:List Kq) (ps:List Pe),vs=[.ref h,.str sm,.str nm]/\HeadAt H h ag k qs n ps/\Ri Cg ps/\ps.length<=60/\nm.length<=1000/\Tb PT PU H/\
 (∀r,QG (fst sm ps) sm nm (ps.map Cg)=some r->∀H',St H H'->Tb PT PU H'->Ex XC E H' r)/\
 (∀p,fst sm ps=some p->QG (fst sm ps) sm nm (ps.map Cg)=none->∀h' n' a H',St H H'->Tb PT PU H'->HeadAt H' h' (ag+1) k qs n' (putL Cg ⟨a,p.t,.sl nm sm (ag+1) p.e.tr⟩ ps)->Q (.ref h') H')
theorem MS (T:Txt K mg C XC)(F:Fun K "stem_sealed" "stem_sealed" Dj f fd)(AM:Bu P w K mg base 4 "stem_called" ["head","name"] (BP K XC))(Bf:Bu P w K mg base 3 "check_new_name" ["head","name"] (Cw K XC))(DA:Bu P w K mg base 1 "check_room" ["head"] (Fb K XC))(A3:Def P w K mg base 1 "one_older" ["head"] (CA K))(Bb:Def P w K mg base 2 "with_named" ["head","named"] (Dg K PT PU)):FnOk P w K mg base (Fj P w) 5 f fd ["head","stem","name"] (Gc K XC PT PU):=by
 refine F.okE HU (λvs H Q E h=>?_) (λcdv A outer s H vs Q E hr h=>?_)
 ·obtain⟨h,sm,nm,ag,k,n,qs,ps,rfl,_⟩:=h;rfl
 obtain⟨h,sm,nm,ag,k,n,qs,ps,rfl,hd,ri,few,ln,tb,q1,q2⟩:=h;refine⟨_,(!Ah (@AK _ _ (3) _ _ _ _ HU.nd rfl (by trivial) (!Ba AM (by trivial) rfl Am (!Aa (pv 0) (!Aa (pv 1) (!Ab)))) (by rfl) (by trivial)) (!Ah (!AA (!Ba Bf (by trivial) rfl Am (!Aa (pv 0) (!Aa (pv 2) (!Ab))))) (!Ah (!AA (!Ba DA (by trivial) rfl Am (!Aa (pv 0) (!Ab)))) (!Ad (!AG (!AW A3 (by trivial) rfl (!Aa (!AW Bb (by trivial) rfl (!Aa (pv 0) (!Aa (!Bo (!Aa (pv 2) (!Aa (!Bv rfl T.c_SEAL) (!Aa (pv 1) (!Aa (!AY Dq (!Ao An (pv 0) (!Ag) (λ_ _=>rfl)) (!Ag)) (!Aa (!Ao An (pv 3) (!Ag) (λ_ _=>rfl)) (!Ab))))))) (!Ab)))) (!Ab)))))))),?_⟩
 try dsimp only[A4,Cx.nox,Cx.wish]
 refine⟨_,rfl,_,rfl,h,sm,ag,k,n,qs,ps,rfl,hd,λp hp=>?_,λno=>q1 _ (by rw[no];rfl) H (.refl _) tb⟩;rw[hp] at q1 q2;obtain⟨mp,kp,og,t,ep⟩:=EB hp;refine⟨_,rfl,_,rfl,h,nm,ag,k,n,qs,ps,rfl,hd,ln,λH1 s1=>?_⟩;have hd1:=hd.st (AC s1);have tb1:=tb.same s1;cases e:FC nm (ps.map Cg) with
 |some r=>exact q1 r (by show(match FC nm (ps.map Cg) with|some r=>some r|none=>_)=_;rw[e]) H1 (AC s1) tb1
 |none=>
  have er:QG (some p) sm nm (ps.map Cg)=if(ps.map Cg).length<24 then none else some .many:=by
   show(match FC nm (ps.map Cg) with|some r=>some r|none=>_)=_;rw[e]
  rw[er,ax] at q1 q2;refine⟨_,rfl,h,ag,k,n,qs,ps,rfl,hd1,λlt=>?_,λle=>q1 _ (aF (by omega)) H1 (AC s1) tb1⟩;have y:=hd1.en p mp;have y2:=y.2;rw[ep] at y2;refine⟨_,rfl,_,rfl,_,rfl,_,rfl,h,_,_,_,rfl,rfl,AS.of hd1.at_,Af (j:=0) rfl,_,_,rfl,rfl,_,rfl,p.a,_,_,_,rfl,rfl,AS.of y2,Af (j:=4) rfl,RG,λa na=>?_⟩;have s2:=Ai na (.tup ((En.sl nm sm (ag+1) p.e.tr).items p.t));have h2:(upd H1 a (.tup ((En.sl nm sm (ag+1) p.e.tr).items p.t))) a=some (.tup ((En.sl nm sm (ag+1) p.e.tr).items p.t)):=Ae;refine⟨h,⟨a,p.t,.sl nm sm (ag+1) p.e.tr⟩,ag,k,n,qs,ps,rfl,hd1.st (AC s2),⟨s2.get y.1,h2⟩,ri,few,tb1.same s2,λh3 n3 H3 S3 T3 nh3 hd3=>?_⟩;exact⟨h3,ag,k,n3,qs,_,rfl,hd3,λh4 H4 s4 hd4=>q2 p rfl (aI lt) h4 n3 a H4 ((((AC s1).trans (AC s2)).trans S3).trans (AC s4)) (T3.same s4) hd4⟩
def E4 (K:W.Frag)(XC:Nat->Addr)(PT PU:Addr):Sp:=λvs H Q E=>∃(h:Addr) (sm:Str) (ag:Int) (k n:Addr) (qs:List Kq) (ps:List Pe),vs=[.ref h,.str sm]/\HeadAt H h ag k qs n ps/\Ri Cg ps/\Tn ps/\ps.length<=60/\Tb PT PU H/\
 (fst sm ps=none->∀H',St H H'->Tb PT PU H'->Ex XC E H' (.noName sm))/\(∀p,fst sm ps=some p->(∀s∈ps,s.e.isSl sm=false)->∀H',St H H'->Tb PT PU H'->Ex XC E H' (.bare sm))/\
 (∀p kp og t s,fst sm ps=some p->p.e=.st sm kp og t->s∈ps->s.e.isSl sm=true->(∀r∈ps,r.e.isSl sm=true->r.e.turn<=s.e.turn)->∀h' n' a H',St H H'->Tb PT PU H'->HeadAt H' h' (ag+1) k qs n' (putL Cg ⟨a,s.t,.st sm kp og s.e.tr⟩ ps)->Q (.ref h') H')
theorem K7 (T:Txt K mg C XC)(F:Fun K "stem_set_back" "stem_set_back" Ct f fd)(AM:Bu P w K mg base 4 "stem_called" ["head","name"] (BP K XC))(CY:Def P w K mg base 1 "seals_of" ["head","stem"] (Fh K PT))(A3:Def P w K mg base 1 "one_older" ["head"] (CA K))(D8:Gq P w K mg base 1 "Bare" (XC 2) "name" ["self","name"])(Bb:Def P w K mg base 2 "with_named" ["head","named"] (Dg K PT PU)):FnOk P w K mg base (Fj P w) 5 f fd ["head","stem"] (E4 K XC PT PU):=by
 refine F.okE EW (λvs H Q E h=>?_) (λcdv A outer s H vs Q E hr h=>?_)
 ·obtain⟨h,sm,ag,k,n,qs,ps,rfl,_⟩:=h;rfl
 obtain⟨h,sm,ag,k,n,qs,ps,rfl,hd,ri,tns,few,tb,q1,q2,q3⟩:=h;refine⟨_,(!Ah (@AK _ _ (2) _ _ _ _ EW.nd rfl (by trivial) (!Ba AM (by trivial) rfl Am (!Aa (pv 0) (!Aa (pv 1) (!Ab)))) (by rfl) (by trivial)) (!Ah (@AK _ _ (3) _ _ _ _ EW.nd rfl (by trivial) (!AW CY (by trivial) rfl (!Aa (pv 0) (!Aa (pv 1) (!Ab)))) (by rfl) (by trivial)) (!Ah (!AV (!AD Bh (!A0 B9 (by rfl) T.b_len EI (!Aa (pv 3) (!Ab))) (!Ag) (AI _)) (!Ad (!By Bi rfl D8 (by trivial) rfl (!Aa (pv 1) (!Ab)))) (!AO)) (!Ad (!AG (!AW A3 (by trivial) rfl (!Aa (!AW Bb (by trivial) rfl (!Aa (pv 0) (!Aa (!AY NA (!Fk RH (pv 2) (!G6) (!FG (!Ag))) (!Bo (!Aa (!Ao An (!Ao Bx (pv 3) (!YF XD (!Ag)) (λ_ _=>rfl)) (!Ag) (λ_ _=>rfl)) (!Ab)))) (!Ab)))) (!Ab)))))))),?_⟩
 try dsimp only[A4,Cx.nox,Cx.wish]
 refine⟨_,rfl,_,rfl,h,sm,ag,k,n,qs,ps,rfl,hd,λp hp=>?_,λno=>q1 no H (.refl _) tb⟩;obtain⟨mp,kp,og,t,ep⟩:=EB hp;refine⟨_,rfl,_,rfl,h,sm,ag,k,n,qs,ps,rfl,hd,by omega,tns sm,tb.a,λus l H1 up us2 st1 tb1 nl hl=>?_⟩;have S1:=Iv st1 tb.a tb1;have T1:=tb.l st1 tb1;have hd1:=hd.st S1;refine⟨_,rfl,l,_,rfl,.inl (A7.of hl),rfl,_,rfl,HL (λc=>?_) (λc=>?_)⟩
 ·have c':=dec_true c;rw[ax] at c';have c0:us=[]:=fY.mp (by simpa using c');have no:ps.filter (λp=>p.e.isSl sm)=[]:=by
   have:=up.symm;rw[c0] at this;exact List.perm_nil.mp this
  exact⟨_,rfl,_,rfl,q2 p hp (λs hs=>cF.mpr λz=>by
   have:s∈ps.filter λp=>p.e.isSl sm:=aO.mpr ⟨hs,z⟩
   rw[no] at this;cases this) H1 S1 T1⟩
 ·have c':=dec_false c;rw[ax] at c';have ne:us≠[]:=λz=>c' (by rw[z];rfl)
  obtain⟨ini,s,rfl⟩:∃ini s,us=ini++[s]:=⟨us.dropLast,us.getLast ne,(fE ne).symm⟩
  have ms:=aO.mp (up.mem_iff.mp (aV ini (aG.mpr rfl:s∈[s])));have top:∀r∈ps,r.e.isSl sm=true->r.e.turn<=s.e.turn:=λr hr9 z=>by
   have:r∈ini++[s]:=up.mem_iff.mpr (aO.mpr ⟨hr9,z⟩);rcases bu.mp this with h9|h9
   ·exact Int.le_of_lt ((List.pairwise_append.mp us2).2.2 r h9 s (aG.mpr rfl))
   ·rw[aG.mp h9];exact Int.le_refl _
  have y:=(hd1.en p mp).2;rw[ep] at y;have ys:=hd1.en s ms.1;have atl:RN ((ini++[s]).map λp=>V.ref p.a) (-1)=some (V.ref s.a):=by
   rw[bx];exact VI _ _
  refine⟨_,rfl,_,rfl,_,rfl,p.a,_,rfl,AS.of y,(λz=>absurd z.2 (show ¬(HT.EH 5 5 (some 4)=5) by decide)),λp1 n1=>?_⟩;rw[Ra (by decide)];have s1:=Ai n1 (.tup [V.str sm,V.int 1,V.str kp,V.str og]);have h1:(upd H1 p1 (.tup [V.str sm,V.int 1,V.str kp,V.str og])) p1=some (.tup [V.str sm,V.int 1,V.str kp,V.str og]):=Ae
  change X9 _ _ (upd H1 p1 (.tup [V.str sm,V.int 1,V.str kp,V.str og])) _
  generalize upd H1 p1 (.tup [V.str sm,V.int 1,V.str kp,V.str og])=H2 at s1 h1;obtain⟨nm,tn,ts,es⟩:∃nm tn t,s.e=.sl nm sm tn t:=by
   have z:=ms.2;cases e:s.e with
   |st _ _ _ _=>rw[e] at z;cases z
   |sl nm sm' tn t=>rw[e] at z;rw[aW z];exact⟨_,_,_,rfl⟩
  have yz:=s1.get ys.2;rw[es] at yz;refine⟨_,rfl,_,rfl,l,_,_,_,rfl,rfl,A7.of (s1.get hl),atl,s.a,_,_,_,rfl,rfl,AS.of yz,Af (j:=4) rfl,Pn,λp2 n2=>?_⟩;have s2:=Ai n2 (.tup [V.ref s.t]);have h2:(upd H2 p2 (.tup [V.ref s.t])) p2=some (.tup [V.ref s.t]):=Ae;generalize upd H2 p2 (.tup [V.ref s.t])=H3 at s2 h2;refine⟨p1,p2,_,_,rfl,rfl,AS.of (s2.get h1),AS.of h2,RG,(λz=>by cases z),(λ_ z=>by cases z),λ_ _ p3 n3=>?_⟩;have s3:=Ai n3 (.tup ([V.str sm,V.int 1,V.str kp,V.str og]++[V.ref s.t]));have S3:=(S1.trans (AC s1)).trans ((AC s2).trans (AC s3));have T3:=((T1.same s1).same s2).same s3;refine⟨h,⟨p3,s.t,.st sm kp og s.e.tr⟩,ag,k,n,qs,ps,rfl,hd.st S3,⟨s3.get (s2.get (s1.get ys.1)),Ae⟩,ri,few,T3,λh4 n4 H4 S4 T4 nh4 hd4=>?_⟩;exact⟨h4,ag,k,n4,qs,_,rfl,hd4,λh5 H5 s5 hd5=>q3 p kp og t s hp ep ms.1 ms.2 top h5 n4 p3 H5 ((S3.trans S4).trans (AC s5)) (T4.same s5) hd5⟩
def CL (K:W.Frag)(XC:Nat->Addr)(PT PU:Addr):Sp:=λvs H Q E=>∃(h:Addr) (sm:Str) (ag:Int) (k n:Addr) (qs:List Kq) (ps:List Pe),vs=[.ref h,.str sm]/\HeadAt H h ag k qs n ps/\Ri Cg ps/\Tn ps/\ps.length<=60/\Tb PT PU H/\
 (fst sm ps=none->Ex XC E H (.noName sm))/\(∀p kp t,fst sm ps=some p->p.e=.st sm kp EM t->Ex XC E H (.bare sm))/\
 (∀p kp og t,fst sm ps=some p->p.e=.st sm kp og t->og≠EM->∃p2 p3 k3 pr ogp tn t2 t3,p2∈ps/\p3∈ps/\p2.e=.sl og pr tn t2/\p3.e=.st pr k3 ogp t3/\
  ∀h' n' ps' H',St H H'->Tb PT PU H'->HeadAt H' h' (ag+1) k qs n' ps'->ps'.map (·.e)=(ps.map (·.e)).map (gr sm pr og ogp tn)->(∀q∈ps',∃r∈ps,q.t=r.t)->Q (.ref h') H')
theorem GP (T:Txt K mg C XC)(F:Fun K "stem_grafted_unbound" "stem_grafted_unbound" Bg f fd)(A3:Def P w K mg base 1 "one_older" ["head"] (CA K))(D8:Gq P w K mg base 1 "Bare" (XC 2) "name" ["self","name"])(KS:Def P w K mg base 5 "grafted" ["head","stem"] (Jl K PT PU))(AM:Bu P w K mg base 4 "stem_called" ["head","name"] (BP K XC)):FnOk P w K mg base (Fj P w) 6 f fd ["head","stem"] (CL K XC PT PU):=by
 refine F.okE GS (λvs H Q E h=>?_) (λcdv A outer s H vs Q E hr h=>?_)
 ·obtain⟨h,sm,ag,k,n,qs,ps,rfl,_⟩:=h;rfl
 obtain⟨h,sm,ag,k,n,qs,ps,rfl,hd,ri,tns,few,tb,q1,q2,q3⟩:=h;refine⟨_,(!Ah (!AV (!AD Bh (!Ao An (!Ba AM (by trivial) rfl Am (!Aa (pv 0) (!Aa (pv 1) (!Ab)))) (!Ag) (λ_ _=>rfl)) (!Az) (AI _)) (!Ad (!By Bi rfl D8 (by trivial) rfl (!Aa (pv 1) (!Ab)))) (!AO)) (!Ad (!AG (!AW A3 (by trivial) rfl (!Aa (!AW KS (by trivial) rfl (!Aa (pv 0) (!Aa (pv 1) (!Ab)))) (!Ab)))))),?_⟩
 try dsimp only[A4,Cx.nox,Cx.wish]
 refine⟨_,rfl,_,rfl,h,sm,ag,k,n,qs,ps,rfl,hd,λp hp=>?_,λno=>q1 no⟩;obtain⟨mp,kp,og,t,ep⟩:=EB hp;have y:=(hd.en p mp).2;rw[ep] at y;refine⟨p.a,_,_,_,rfl,rfl,AS.of y,Af (j:=3) rfl,rfl,_,rfl,?_⟩;rw[FI];refine HL (λc=>?_) (λc=>?_)
 ·have c':=dec_true c;subst c';exact⟨_,rfl,_,rfl,q2 p kp t hp ep⟩
 ·obtain⟨p2,p3,k3,pr,ogp,tn,t2,t3,m2,m3,e2,e3,q⟩:=q3 p kp og t hp ep (dec_false c);refine⟨_,rfl,_,rfl,h,sm,ag,k,n,qs,ps,p,p2,p3,kp,og,pr,k3,ogp,tn,t,t2,t3,rfl,hd,few,ri,tns,tb,mp,m2,m3,ep,e2,e3,λh' n' ps' H' S' T' hd' em et=>?_⟩;exact⟨h',ag,k,n',qs,ps',rfl,hd',λh5 H5 s5 hd5=>q h5 n' ps' H5 (S'.trans (AC s5)) (T'.same s5) hd5 em et⟩
def Fp (K:W.Frag)(XC:Nat->Addr)(PT PU:Addr):Sp:=λvs H Q E=>∃(h:Addr) (nm:Str) (ag:Int) (k n:Addr) (qs:List Kq) (ps:List Pe),vs=[.ref h,.str nm]/\HeadAt H h ag k qs n ps/\Ri Cg ps/\Tn ps/\ps.length<=60/\Tb PT PU H/\
 (HN nm ps=none->Ex XC E H (.noName nm))/\(∀p z,HN nm ps=some p->z∈Jm nm p ps->z∈Vu ps->(∀y∈Jm nm p ps,y∈Vu ps->¬NH y z)->∀H',St H H'->Tb PT PU H'->Ex XC E H' (.grown z))/\
 (∀p,HN nm ps=some p->(∀y∈Jm nm p ps,y∉Vu ps)->∀h' n' H',St H H'->Tb PT PU H'->HeadAt H' h' (ag+1) k qs n' (ps.filter λr=>!decide (r.e.nm=nm\/r.e.nm∈Jm nm p ps))->Q (.ref h') H')
theorem LV (T:Txt K mg C XC)(F:Fun K "name_dropped" "name_dropped" CO f fd)(B8:Bu P w K mg base 3 "named_so" ["head","name"] (D7 K XC))(A3:Def P w K mg base 1 "one_older" ["head"] (CA K))(Hx:Gq P w K mg base 1 "Grown" (XC 3) "name" ["self","name"])(Fs:Def P w K mg base 1 "without_named" ["head","names"] (EJ K))(Jw:Def P w K mg base 1 "stems_in" ["head"] (Iz K))(CY:Def P w K mg base 1 "seals_of" ["head","stem"] (Fh K PT)):FnOk P w K mg base (Fj P w) 4 f fd ["head","name"] (Fp K XC PT PU):=by
 refine F.okE Cu (λvs H Q E h=>?_) (λcdv A outer s H vs Q E hr h=>?_)
 ·obtain⟨h,nm,ag,k,n,qs,ps,rfl,_⟩:=h;rfl
 obtain⟨h,nm,ag,k,n,qs,ps,rfl,hd,ri,tns,few,tb,q1,q2,q3⟩:=h;refine⟨_,(!Ah (@AK _ _ (2) _ _ _ _ Cu.nd rfl (by trivial) (!Ba B8 (by trivial) rfl Am (!Aa (pv 0) (!Aa (pv 1) (!Ab)))) (by rfl) (by trivial)) (!Ah (@AK _ _ (3) _ _ _ _ Cu.nd rfl (by trivial) (!B7 (!Aa (pv 1) (!Ab))) (by rfl) (by trivial)) (!Ah (!AV (!AD Bh (!Ao An (pv 2) (!Ag) (λ_ _=>rfl)) (!Bv rfl T.c_STEM) (AI _)) (!Ad (@VG _ ["seal"] (3) _ _ _ _ _ _ _ _ _ _ _ _ _ Cu.nd rfl (by trivial) rfl (!DV (!AW CY (by trivial) rfl (!Aa (pv 0) (!Aa (pv 1) (!Ab))))) (by decide +kernel) (λC s H fp=>⟨(@Be _ _ (0) _ (show(["seal"]:List Str).Nodup by decide +kernel) rfl (by trivial) (by trivial)),(!Dw),(!Ao (GB (K:=K) (by rfl)) (pv 0) (!Ag) (λ_ _=>rfl))⟩) (by intro _;rfl) (by rfl) (by trivial))) (!AO)) (!Ah (@AK _ _ (4) _ _ _ _ Cu.nd rfl (by trivial) (@Fi _ ["stem"] _ _ _ _ _ _ _ _ _ _ rfl (!DV (!AW Jw (by trivial) rfl (!Aa (pv 0) (!Ab)))) (by decide +kernel) (λC s H fp=>⟨(@Be _ _ (0) _ (show(["stem"]:List Str).Nodup by decide +kernel) rfl (by trivial) (by trivial)),(!Dw),(!Ao (GB (K:=K) (by rfl)) (pv 0) (!Ag) (λ_ _=>rfl))⟩) (by intro _;rfl)) (by rfl) (by trivial)) (!Ah (@AK _ _ (5) _ _ _ _ Cu.nd rfl (by trivial) (!A0 (RM (K:=K) (by rfl)) (by rfl) T.b_sorted IE (!Aa (@Gx _ ["seal","origins"] [none,some 4] _ _ _ _ _ _ _ _ _ _ _ rfl (!DV (pv 3)) (by rfl) rfl (by repeat (first|exact trivial|refine⟨rfl,?_⟩)) (by repeat (first|exact trivial|refine⟨λh=>(by first|exact⟨_,rfl⟩|cases h),?_⟩)) (λC s H fp=>⟨(@Be _ _ (0) _ (show(["seal","origins"]:List Str).Nodup by decide +kernel) rfl (by trivial) (by trivial)),(!Gp (!AD (RW (K:=K) (by rfl)) (pv 0) (pv 1))),(pv 0)⟩) (by intro _;rfl)) (!Ab))) (by rfl) (by trivial)) (!Ah (!AV (!AD SD (!A0 B9 (by rfl) T.b_len EI (!Aa (pv 5) (!Ab))) (!Ag) (AI _)) (!Ad (!By Bi rfl Hx (by trivial) rfl (!Aa (!Ao Bx (pv 5) (!Ag) (λ_ _=>rfl)) (!Ab)))) (!AO)) (!Ad (!AG (!AW A3 (by trivial) rfl (!Aa (!AW Fs (by trivial) rfl (!Aa (pv 0) (!Aa (!AY GC (!B7 (!Aa (pv 1) (!Ab))) (pv 3)) (!Ab)))) (!Ab))))))))))),?_⟩
 try dsimp only[A4,Cx.nox,Cx.wish]
 refine⟨_,rfl,_,rfl,h,nm,ag,k,n,qs,ps,rfl,hd,λp hp=>?_,q1⟩;obtain⟨mp,np⟩:=CK hp;have nd:=ri.nd;refine⟨_,rfl,Pn,λl0 nl0=>?_⟩;have s0:=Ai nl0 (.lst [V.str nm]);have h0:(upd H l0 (.lst [V.str nm])) l0=some (.lst ([nm].map V.str)):=Ae;generalize upd H l0 (.lst [V.str nm])=H0 at s0 h0;have hd0:=hd.st (AC s0);have tb0:=tb.same s0;dsimp only[CG];refine SQ (λσ' H'=>∃(l:Addr) (zs:List Str),σ'=[some (.ref h),some (.str nm),some (.ref p.a),some (.ref l),none,none]/\St H H'/\Tb PT PU H'/\H' l=some (.lst (zs.map V.str))/\zs.Perm (Jm nm p ps)) (λN hN=>?_) ?_
 ·have y:=(hd0.en p mp).2;dsimp only[Y2];cases ee:p.e with
  |st nm' kp og t=>
   rw[ee] at y;refine⟨_,rfl,p.a,_,_,_,rfl,rfl,AS.of y,Af (j:=1) rfl,rfl,_,rfl,AU rfl ?_⟩;refine⟨_,rfl,_,rfl,h,nm,ag,k,n,qs,ps,rfl,hd0,by omega,tns nm,tb0.a,λus l H1 up us2 st1 tb1 nl hl=>?_⟩;have S1:=Iv st1 tb0.a tb1;have T1:=tb0.l st1 tb1;refine⟨l,rfl,⟨_,A7.of hl⟩,?_⟩;have inp:∀r∈us,r∈ps:=λr hr9=>(aO.mp (up.mem_iff.mp hr9)).1
   refine Cv (ps:=us) (g:=λr=>V.ref r.a) (λ_=>true) (λr=>V.str r.e.nm) (EN (A7.of hl)) (by have:=up.length_eq;have:=bp (λp:Pe=>p.e.isSl nm) ps;omega) (λr hr9 H' R s' hR=>hR) (λr hr9 _ H' R s' hR=>?_) λl7 H7 n7 s7 h7=>?_
   ·obtain⟨w,hw⟩:=(hd0.en r (inp r hr9)).fst;exact⟨_,rfl,r.a,_,_,_,rfl,rfl,AS.of (s'.get (S1.tup hw)),Af (j:=0) rfl,hR H' (AJ.refl _)⟩
   ·rw[filter_tt] at h7;refine hN _ _ ⟨l7,us.map Cg,rfl,((AC s0).trans S1).trans (AC s7),T1.same s7,by rw[h7,aL];rfl,?_⟩;unfold Jm;rw[aI (by rw[ee];rfl)];exact up.map _
  |sl nm' sm tn t=>
   rw[ee] at y;refine⟨_,rfl,p.a,_,_,_,rfl,rfl,AS.of y,Af (j:=1) rfl,rfl,_,rfl,Ay rfl ?_⟩;refine hN _ _ ⟨l0,[nm],rfl,AC s0,tb0,h0,?_⟩;unfold Jm;rw[aF (by rw[ee];exact aJ)]
 rintro σ' H1 ⟨l,zs,rfl,S1,T1,hl,pz⟩
 have hd1:=hd.st S1;have zl:zs.length<=60:=by
  rw[pz.length_eq];unfold Jm
  split
  ·rw[ax];exact bj (bp _ _) few
  ·show 1<=60;decide
 have znd:zs.Nodup:=by
  rw[pz.nodup_iff];unfold Jm
  split
  ·exact nd.sublist (List.filter_sublist.map _)
  ·exact bV.mpr ⟨List.not_mem_nil,dc⟩
 refine⟨_,rfl,h,ag,k,n,qs,ps,rfl,hd1,by omega,λl2 H2 s2 h2=>?_⟩;refine⟨l2,rfl,⟨_,A7.of h2⟩,?_⟩;refine Cv (ps:=ps.filter λp=>p.e.isS) (g:=λr=>V.ref r.a) (λ_=>true) (λr=>V.str r.e.og) (EN (A7.of h2)) (by have:=bp (λp:Pe=>p.e.isS) ps;omega) (λr hr9 H' R s' hR=>hR) (λr hr9 _ H' R s' hR=>?_) λl7 H7 n7 s7 h7=>?_
 ·obtain⟨m9,i9⟩:=aO.mp hr9;obtain⟨nm9,kp9,t9,e9⟩:=Ld i9;have y:=(hd1.en r m9).2;rw[e9] at y;exact⟨_,rfl,r.a,_,_,_,rfl,rfl,AS.of (s'.get (s2.get y)),Af (j:=3) rfl,hR H' (AJ.refl _)⟩
 rw[filter_tt] at h7;have h7':H7 l7=some (.lst ((Vu ps).map V.str)):=by rw[h7];unfold Vu;rw[aL];rfl
 have s27:=s2.trans s7;have hl7:=s27.get hl;refine⟨_,rfl,l,rfl,⟨_,A7.of hl7⟩,?_⟩;refine Cv (ps:=zs) (g:=V.str) (λz=>decide (z∈Vu ps)) V.str (EN (A7.of hl7)) (by omega) (λz hz H' R s' hR=>?_) (λz hz _ H' R s' hR=>⟨_,rfl,hR H' (AJ.refl _)⟩) λl8 H8 n8 s8 h8=>?_
 ·refine⟨_,rfl,_,rfl,l7,_,rfl,.inl (A7.of (s'.get h7')),rfl,OA _,_,rfl,?_⟩;rw[Qh];exact hR
 have S8:=S1.trans (AC (s27.trans s8));have T8:=T1.same (s27.trans s8);have hl8:=s8.get hl7;have gl:=bp (λz=>decide (z∈Vu ps)) zs;refine⟨l8,_,rfl,A7.of h8,by omega,λts p9 tp so np9=>?_⟩;have s9:=Ai np9 (.lst (ts.map V.str));have h9:(upd H8 p9 (.lst (ts.map V.str))) p9=some (.lst (ts.map V.str)):=Ae;have hl9:=s9.get hl8;generalize upd H8 p9 (.lst (ts.map V.str))=H9 at s9 h9 hl9;have S9:=S8.trans (AC s9);have T9:=T8.same s9;have tsp:=Su so (by rw[tp.nodup_iff];exact znd.filter _);have inG:∀y,y∈ts↔y∈Jm nm p ps/\y∈Vu ps:=λy=>by
  rw[tp.mem_iff,aO,pz.mem_iff,cX]
 refine⟨_,rfl,p9,_,rfl,.inl (A7.of h9),_,_,rfl,rfl,_,rfl,HL (λc=>?_) (λc=>?_)⟩
 ·cases ts with
  |nil=>exact absurd (aW c) (by show ¬((0:Int)<((0:Nat):Int));decide)
  |cons z ts=>
   refine⟨_,rfl,p9,_,_,_,rfl,rfl,A7.of h9,Af (j:=0) rfl,?_⟩;have hz:=(inG z).mp aK;refine⟨_,rfl,q2 p z hp hz.1 hz.2 (λy h1 h2 lt=>?_) H9 S9 T9⟩;rcases aX.mp ((inG y).mpr ⟨h1,h2⟩) with rfl|h3
   ·exact eF _ lt
   ·exact eF _ (di lt ((bN.mp tsp).1 y h3))
 ·have t0:ts=[]:=by
   cases ts with
   |nil=>rfl
   |cons z ts=>exact absurd (aE (by show(0:Int)<((ts.length+1:Nat):Int);omega)) (by simpa using c)
  subst t0;refine⟨_,rfl,_,rfl,Pn,λpa npa=>?_⟩;have sa:=Ai npa (.lst [V.str nm]);have ha:(upd H9 pa (.lst [V.str nm])) pa=some (.lst [V.str nm]):=Ae;have hla:=sa.get hl9;generalize upd H9 pa (.lst [V.str nm])=Ha at sa ha hla;refine⟨_,rfl,pa,l,_,_,rfl,rfl,A7.of ha,A7.of hla,small (by rw[ax];show 1+zs.length<=1000000;omega),λpb npb=>?_⟩;have sb:=Ai npb (.lst ([V.str nm]++zs.map V.str));have hb:(upd Ha pb (.lst ([V.str nm]++zs.map V.str))) pb=some (.lst ((nm::zs).map V.str)):=Ae;generalize upd Ha pb (.lst ([V.str nm]++zs.map V.str))=Hb at sb hb;have sab:=sa.trans sb;have Sb:=S9.trans (AC sab);refine⟨h,pb,nm::zs,ag,k,n,qs,ps,rfl,hd.st Sb,hb,few,λh4 n4 H4 s4 hd4=>?_⟩;refine⟨h4,ag,k,n4,qs,_,rfl,hd4,λh5 H5 s5 hd5=>?_⟩;refine q3 p hp (λy h1 h2=>?_) h5 n4 H5 ((Sb.trans (AC s4)).trans (AC s5)) (((T9.same sab).same s4).same s5) ?_
  ·have:=(inG y).mpr ⟨h1,h2⟩;cases this
  ·have e:(λr:Pe=>!decide (r.e.nm=nm\/r.e.nm∈Jm nm p ps))=λr=>!decide (r.e.nm∈nm::zs):=by
    funext r
    congr 1
    rw[dg,aX,pz.mem_iff]
   rw[e];exact hd5
end
structure TrV (t:Bt):Prop where
 nd:(t.map (·.1)).Nodup
 vp:∀p∈t,VP p.1/\p.1≠[]
 deep:∀p∈t,p.1.length<=16
 few:t.length<=200
def lk (t:Bt)(P:List Str):Option (Option Str):=(t.find? λp=>decide (p.1=P)).map (·.2)
theorem SM (p:List Str×Option Str)(t:Bt)(P:List Str):lk (p::t) P=if p.1=P then some p.2 else lk t P:=by
 unfold lk;rw[fD]
 by_cases c:p.1=P
 ·rw[aE c,aI c];rfl
 ·rw[aS c,aF c]
theorem Rm:∀{t:Bt} (_:∀p∈t,VP p.1) {P:List Str} (_:VP P),L0 (CI t) (.inr (jn P))=(lk t P).map cV
 |[],_,_,_=>rfl
 |p::t,h,P,vP=>by
  rw[SM]
  by_cases c:p.1=P
  ·rw[aI c];exact MT (by show(Sum.inr (jn p.1):Key)=_;rw[c])
  ·rw[aF c];refine(Np (show(Sum.inr (jn p.1):Key)≠.inr (jn P) from λe=>c (K4 (h p aK) vP (fm e)))).trans ?_;exact Rm (λq hq=>h q (aB _ hq)) vP
theorem Vr {t:Bt}{P:List Str}{v:Option Str}(h:lk t P=some v):(P,v)∈t:=by
 unfold lk at h;obtain⟨p,hp,e⟩:=bB.mp h;have h2:=aW (fB (p:=λp:List Str×Option Str=>decide (p.1=P)) hp);have:p=(P,v):=Prod.ext h2 e;rw[<-this];exact dD hp
def RF (t:Bt)(P:List Str):Bool:=decide (P=[])||decide (lk t P=some none)
def HG (t:Bt)(p:List Str×Option Str):Bt:=if(t.any λq=>decide (q.1=p.1))=true then t.map (λq=>if q.1=p.1 then(q.1,p.2) else q) else t++[p]
def EG (t more:Bt):Bt:=more.foldl HG t
def HF (t:Bt)(P:List Str):Bt:=t.filter λp=>!decide (p.1=P) && !HK p.1 P
def LZ (t:Bt)(P to:List Str):Bt:=(to,(lk t P).getD none)::(t.filter λp=>HK p.1 P).map λp=>(to++p.1.drop P.length,p.2)
theorem W4 {t:Bt}{p:List Str×Option Str}(h:∀q∈t,VP q.1)(hp:VP p.1):putK (CI t) (.inr (jn p.1)) (cV p.2)=CI (HG t p):=by
 have inj:∀q∈t,((Sum.inr (jn q.1):Key)=.inr (jn p.1))↔q.1=p.1:=λq hq=>⟨λe=>K4 (h q hq) hp (fm e),λe=>by rw[e]⟩
 unfold putK HG;have ea:(CI t).any (λkv=>decide (kv.1=Sum.inr (jn p.1)))=t.any λq=>decide (q.1=p.1):=by
  unfold CI;rw[List.any_map,cq,dP,dP];constructor
  ·rintro⟨q,hq,e⟩
   exact⟨q,hq,aE ((inj q hq).mp (aW e))⟩
  ·rintro⟨q,hq,e⟩
   exact⟨q,hq,aE ((inj q hq).mpr (aW e))⟩
 rw[ea]
 by_cases c:(t.any λq=>decide (q.1=p.1))=true
 ·rw[aI c,aI c];unfold CI;rw[aL,aL];refine aZ λq hq=>?_
  show(if(Sum.inr (jn q.1):Key)=.inr (jn p.1) then((Sum.inr (jn q.1):Key),cV p.2) else(Sum.inr (jn q.1),cV q.2))=Zz (if q.1=p.1 then(q.1,p.2) else q)
  by_cases d:q.1=p.1
  ·rw[aI ((inj q hq).mpr d),aI d]
  ·rw[aF (λe=>d ((inj q hq).mp e)),aF d]
 ·rw[aF c,aF c];unfold CI;rw[bx];rfl
theorem QB {t:Bt}{p q:List Str×Option Str}(h:q∈HG t p):q.1=p.1\/q∈t:=by
 unfold HG at h
 split at h
 ·obtain⟨x,hx,e⟩:=aA.mp h
  by_cases c:x.1=p.1
  ·rw[aI c] at e;exact .inl (by rw[<-e];exact c)
  ·rw[aF c] at e;exact .inr (e▸hx)
 ·rcases bu.mp h with h|h
  ·exact .inr h
  ·exact .inl (by rw[aG.mp h])
theorem Oy:∀{more t:Bt},(∀q∈t,VP q.1)->(∀q∈more,VP q.1)->G4 (CI t) (CI more)=CI (EG t more)
 |[],_,_,_=>rfl
 |p::more,t,h,hm=>by
  have h1:=hm p aK;have:G4 (CI t) (CI (p::more))=G4 (putK (CI t) (.inr (jn p.1)) (cV p.2)) (CI more):=rfl;rw[this,W4 h h1];refine Oy (λq hq=>?_) λq hq=>hm q (aB _ hq)
  rcases QB hq with e|hq
  ·rw[e];exact h1
  ·exact h q hq
theorem Lx:∀{more t:Bt} {q:List Str×Option Str},q∈EG t more->(∃p∈more,q.1=p.1)\/q∈t
 |[],_,_,h=>.inr h
 |p::more,t,q,h=>by
  rcases Lx (more:=more) (t:=HG t p) h with⟨x,hx,e⟩|h
  ·exact .inl ⟨x,aB _ hx,e⟩
  ·rcases QB h with e|h
   ·exact .inl ⟨p,aK,e⟩
   ·exact .inr h
theorem Um (t:Bt)(p:List Str×Option Str):(HG t p).map (·.1)=t.map (·.1)\/((HG t p).map (·.1)=t.map (·.1)++[p.1]/\p.1∉t.map (·.1)):=by
 unfold HG
 split
 ·refine .inl ?_;rw[aL];refine aZ λq _=>?_
  show(if q.1=p.1 then(q.1,p.2) else q).1=q.1
  split<;>rfl
 ·next c=>
  refine .inr ⟨by rw[bx];rfl,λz=>?_⟩;obtain⟨q,hq,e⟩:=aA.mp z;exact c (dP.mpr ⟨q,hq,aE e⟩)
theorem Wo {t:Bt}{p:List Str×Option Str}(h:(t.map (·.1)).Nodup):((HG t p).map (·.1)).Nodup:=by
 rcases Um t p with e|⟨e,n⟩
 ·rw[e];exact h
 ·rw[e,eZ];exact⟨h,by simp,λa ha b hb z=>n (by rw[aG.mp hb] at z;rw[<-z];exact ha)⟩
theorem QN:∀{more t:Bt},(t.map (·.1)).Nodup->((EG t more).map (·.1)).Nodup
 |[],_,h=>h
 |p::more,t,h=>QN (more:=more) (t:=HG t p) (Wo h)
theorem UW (t:Bt)(p:List Str×Option Str):(HG t p).length<=t.length+1:=by
 unfold HG
 split
 ·rw[ax];omega
 ·rw[aM];exact aD _
theorem OF:∀(more t:Bt),(EG t more).length<=t.length+more.length
 |[],_=>aD _
 |p::more,t=>by
  have h1:=OF more (HG t p);have h2:=UW t p;show(EG (HG t p) more).length<=t.length+(more.length+1);omega
section
variable {P:Program}{w:World}{K:W.Frag}{mg:Str->Option Value}{base:Heap}{f C:Addr}{XC:Nat->Addr}{fd:FuncData}{PT PU:Addr}
def FF (K:W.Frag):Sp:=λvs H Q _=>∃(I:List Str) (s:Str),vs=[.str (jn (I++[s]))]/\VP (I++[s])/\I.length<=20/\∀H',AJ H H'->Q (.str (jn I)) H'
theorem Pb (T:Txt K mg C XC)(F:Fun K "folder_of" "folder_of" Ef f fd):FnOk P w K mg base FL 1 f fd ["path"] (FF K):=by
 exists Pc
 ·obtain⟨I,s,rfl,_⟩:=h;rfl
 obtain⟨I,st,rfl,vp,ln,q⟩:=h;refine⟨_,(!Ad (!AG (!Ao An (!Gu cf PySem.F.slot_str_rpartition PySem.F.type_str_rpartition N1 (pv 0) (!Aa (!Az) (!Ab))) (!Ag) (λ_ _=>rfl)))),?_⟩
 try dsimp only[A4,Cx.nox,Cx.wish]
 obtain⟨a,b,e⟩:=V7 vp;have l1:=Mt vp;rw[aM,bz] at l1;refine⟨_,rfl,rfl,jn (I++[st]),SL,rfl,rfl,by decide +kernel,by omega,λp np=>?_⟩;rw[e];have s1:=Ai np (.tup ([jn I,a,b].map V.str));exact⟨p,_,_,_,rfl,rfl,AS.of Ae,Af (j:=0) rfl,q _ s1⟩
def GA (K:W.Frag):Sp:=λvs H Q _=>∃P:List Str,vs=[.str (jn P)]/\VP P/\P.length<=8/\∀l H',AJ H H'->H' l=some (.lst (P.map V.str))->Q (.ref l) H'
theorem Qr (T:Txt K mg C XC)(F:Fun K "steps_in" "steps_in" EV f fd)(DB:Def P w K mg base 2 "is_name" ["thing"] (Gd K)):FnOk P w K mg base FL 3 f fd ["path"] (GA K):=by
 exists LR
 ·obtain⟨P,rfl,_⟩:=h;rfl
 obtain⟨P,rfl,vp,l8,q⟩:=h;have hu:=Gw hr;refine⟨_,(!Ah (!AV (!AD Bh (pv 0) (!Az) (AI _)) (!Ad (!AG (!B7 (!Ab)))) (!AO)) (!Ah (@AK _ _ (1) _ _ _ _ LR.nd rfl (by trivial) (!Gu cf PySem.F.slot_str_split PySem.F.type_str_split Vp (pv 0) (!Aa (!Az) (!Ab))) (by rfl) (by trivial)) (!Ah (!AV (@PW.pt _ _ _ (!LJ (!AD SD (!A0 B9 (by rfl) T.b_len EI (!Aa (pv 1) (!Ab))) (!Bv rfl T.c_MOST_STEPS) (AI _)) (!Jn (!GG (!ER (!A0 (GK rfl) (by rfl) T.b_all Lj (!Aa (@Fi _ ["step"] _ _ _ _ _ _ _ _ _ _ rfl (!DV (pv 1)) (by decide +kernel) (λC s H fp=>⟨(@Be _ _ (0) _ (show(["step"]:List Str).Nodup by decide +kernel) rfl (by trivial) (by trivial)),(!Dw),(!AW DB (by trivial) rfl (!Aa (pv 0) (!Ab)))⟩) (by intro _;rfl)) (!Ab))) (by intro _;rfl)))))) (!Ad (!QW)) (!AO)) (!Ad (!AG (pv 1)))))),?_⟩
 try dsimp only[A4,Cx.nox,Cx.wish]
 have l1:=Mt vp
 by_cases e:P=[]
 ·subst e;refine⟨_,rfl,rfl,_,rfl,AU (aE rfl) ⟨S0,λl hl=>q l _ (Ai hl _) Ae⟩⟩
 refine⟨_,rfl,rfl,_,rfl,Ay (aS λz=>Mo e vp (V.str.inj z)) ?_⟩;refine⟨_,rfl,rfl,jn P,SL,rfl,rfl,rfl,by omega,λp hp=>?_⟩;rw[MH e vp];have s1:=Ai hp (.lst (P.map V.str));have h1:(upd H p (.lst (P.map V.str))) p=some (.lst (P.map V.str)):=Ae;generalize upd H p (.lst (P.map V.str))=H1 at s1 h1;refine⟨_,rfl,p,_,rfl,.inl (A7.of h1),_,_,rfl,rfl,_,rfl,Ay (aS (by rw[ax];omega)) ?_⟩;refine⟨_,rfl,p,rfl,⟨_,A7.of h1⟩,?_⟩;refine Cv (ps:=P) (g:=V.str) (λ_=>true) (λ_=>V.bl true) (EN (A7.of h1)) (by omega) (λr hr H' R s' hR=>hR) (λz hz _ H' R s' hR=>?_) λl H7 n7 s7 h7=>?_
 ·exact⟨_,rfl,.str z,rfl,(by have:=(Dz (vp z hz)).2.2;show z.length<=1000;omega),λH8 s8=>by rw[vp z hz];exact hR H8 s8⟩
 ·rw[filter_tt] at h7;have e1:(P.map λ_=>true).all id=true:=by rw[dy];exact bR.mpr λ_ _=>rfl
  exact⟨l,P.map λ_=>true,rfl,A7.of (by rw[h7,aL];rfl),_,rfl,Ay (by rw[e1];rfl) ⟨_,rfl,q p H7 (s1.trans s7) (s7.get h1)⟩⟩
def DT (K:W.Frag):Sp:=λvs H Q _=>∃(A B:List Str),vs=[.str (jn A),.str (jn B)]/\VP A/\VP B/\A.length<=30/\B.length<=30/\Q (.bl (HK A B)) H
theorem NL (T:Txt K mg C XC)(F:Fun K "is_beneath" "is_beneath" DD f fd):FnOk P w K mg base FL 1 f fd ["path","other"] (DT K):=by
 exists NQ
 ·obtain⟨A,B,rfl,_⟩:=h;rfl
 obtain⟨A,B,rfl,vA,vB,lA,lB,q⟩:=h;refine⟨_,(!Ah (!AV (!AD Bh (pv 1) (!Az) (AI _)) (!Ad (!AG (!Ht M0 (pv 0) (!Az) (AI _)))) (!AO)) (!Ad (!AG (!Gu cf PySem.F.slot_str_startswith PySem.F.type_str_startswith N7 (pv 0) (!Aa (!AY Gj (pv 1) (!Az)) (!Ab)))))),?_⟩
 try dsimp only[A4,Cx.nox,Cx.wish]
 by_cases e:B=[]
 ·subst e;refine⟨_,rfl,rfl,_,rfl,AU (aE rfl) ⟨_,rfl,rfl,?_⟩⟩;have:V.bl (!decide (V.str (jn A)=V.str EM))=V.bl (HK A []):=by
   unfold HK
   by_cases c:A=[]
   ·subst c;rfl
   ·rw[aS λz=>Mo c vA (V.str.inj z),aE (show A.take ([]:List Str).length=[] from rfl),aE (show A.length>([]:List Str).length from List.length_pos_iff.mpr c)];rfl
  rw[<-this] at q;exact q
 ·refine⟨_,rfl,rfl,_,rfl,Ay (aS λz=>Mo e vB (V.str.inj z)) ?_⟩;rw[<-T6 vA vB e] at q;have l1:=Mt vB;exact⟨_,rfl,rfl,_,rfl,_,_,rfl,rfl,small (by show(jn B).length+1<=1000000;omega),_,_,rfl,rfl,q⟩
def Je (K:W.Frag):Sp:=λvs H Q _=>∃(A B:List Str),vs=[.str (jn A),.str (jn B)]/\VP A/\VP B/\A≠[]/\B≠[]/\A.length<=30/\B.length<=30/\Q (.str (jn (A++B))) H
theorem R8 (T:Txt K mg C XC)(F:Fun K "path_to" "path_to" FN f fd):FnOk P w K mg base FL 1 f fd ["folder","name"] (Je K):=by
 exists Ry
 ·obtain⟨A,B,rfl,_⟩:=h;rfl
 obtain⟨A,B,rfl,vA,vB,nA,nB,lA,lB,q⟩:=h;refine⟨_,(!Ah (!AV (!AD Bh (pv 0) (!Az) (AI _)) (!Ad (!AG (pv 1))) (!AO)) (!Ad (!AG (!AY Gj (!AY Gj (pv 0) (!Az)) (pv 1))))),?_⟩
 try dsimp only[A4,Cx.nox,Cx.wish]
 have l1:=Mt vA;have l2:=Mt vB;rw[<-XF nA nB] at q;have e:(jn A++SL).length=(jn A).length+1:=d3 _ _;refine⟨_,rfl,rfl,_,rfl,Ay (aS λz=>Mo nA vA (V.str.inj z)) ?_⟩;exact⟨_,rfl,_,_,rfl,rfl,small (by show(jn A).length+1<=1000000;omega),_,rfl,_,_,rfl,rfl,small (by rw[e];omega),q⟩
theorem La {H:Hp}{d:Addr}{t:Bt}(h:H d=some (.dK (CI t)))(v:∀p∈t,VP p.1){P:List Str}(vP:VP P):IC H d (.str (jn P)) ((lk t P).map cV):=by
 have g:=IC.k (k:=Sum.inr (jn P)) h;rw[Rm v vP] at g;exact g
theorem TrV.v {t:Bt}(h:TrV t):∀p∈t,VP p.1:=λp hp=>(h.vp p hp).1
def FB (K:W.Frag):Sp:=λvs H Q _=>∃(d:Addr) (P:List Str) (t:Bt),vs=[.ref d,.str (jn P)]/\H d=some (.dK (CI t))/\(∀p∈t,VP p.1)/\VP P/\Q (.bl (RF t P)) H
theorem Pw (T:Txt K mg C XC)(F:Fun K "is_folder" "is_folder" Eo f fd):FnOk P w K mg base FL 1 f fd ["tree","path"] (FB K):=by
 exists OY
 ·obtain⟨d,P,t,rfl,_⟩:=h;rfl
 obtain⟨d,P,t,rfl,hd,v,vP,q⟩:=h;have hu:=Gw hr;refine⟨_,(!Ad (!AG (!Xg (!Ht Bh (pv 1) (!Az) (AI _)) (!Pt (!VB (!RZ (!VY hu (pv 1) (pv 0)) (by first|exact CP _ (by decide) (by decide)|rfl)) (!Pt (!RZ (!KR (!IF hu (pv 0) (pv 1) (λ_ _=>rfl))) (by first|exact CP _ (by decide) (by decide)|rfl)))))))),?_⟩
 try dsimp only[A4,Cx.nox,Cx.wish]
 by_cases e:P=[]
 ·subst e;exact⟨_,rfl,rfl,_,rfl,AU (aE rfl) q⟩
 ·refine⟨_,rfl,rfl,_,rfl,Ay (aS λz=>Mo e vP (V.str.inj z)) ?_⟩;have g:=La hd v vP;unfold RF at q;rw[aS e,Bool.false_or] at q;cases el:lk t P with
  |none=>
   rw[el] at g q;exact⟨_,rfl,_,rfl,d,_,rfl,g,_,rfl,Ay rfl q⟩
  |some c=>
   rw[el] at g q;refine⟨_,rfl,_,rfl,d,_,rfl,g,_,rfl,AU rfl ⟨_,rfl,_,rfl,d,_,rfl,g,?_⟩⟩;cases c with
   |none=>exact q
   |some c=>exact q
def E9 (K:W.Frag)(XC:Nat->Addr):Sp:=λvs H Q E=>∃(d:Addr) (P:List Str) (t:Bt),vs=[.ref d,.str (jn P)]/\H d=some (.dK (CI t))/\(∀p∈t,VP p.1)/\VP P/\(∀c,lk t P=some (some c)->Q (.str c) H)/\((∀c,lk t P≠some (some c))->Ex XC E H (.noPath (jn P)))
theorem NV (T:Txt K mg C XC)(F:Fun K "content_in" "content_in" DJ f fd)(A2:Gq P w K mg base 1 "NoPath" (XC 5) "path" ["self","path"]):FnOk P w K mg base (Fj P w) 3 f fd ["tree","path"] (E9 K XC):=by
 refine F.okE NI (λvs H Q E h=>?_) (λcdv A outer s H vs Q E hr h=>?_)
 ·obtain⟨d,P,t,rfl,_⟩:=h;rfl
 obtain⟨d,P,t,rfl,hd,v,vP,q1,q2⟩:=h;have hu:=Gw hr;refine⟨_,(!Ah (!AV (@PW.pt _ _ _ (!LJ (!Ir (!Om hu (pv 1) (pv 0)) (by first|exact CP _ (by decide) (by decide)|rfl)) (!Jn (!Ir (!KR (!IF hu (pv 0) (pv 1) (λ_ _=>rfl))) (by first|exact CP _ (by decide) (by decide)|rfl))))) (!Ad (!By Bi rfl A2 (by trivial) rfl (!Aa (pv 1) (!Ab)))) (!AO)) (!Ad (!AG (!IF hu (pv 0) (pv 1) (λ_ _=>rfl))))),?_⟩
 try dsimp only[A4,Cx.nox,Cx.wish]
 have g:=La hd v vP;cases el:lk t P with
 |none=>
  rw[el] at g;exact⟨_,rfl,_,rfl,d,_,rfl,g,_,rfl,AU rfl (AU rfl ⟨_,rfl,_,rfl,q2 λc z=>by rw[el] at z;cases z⟩)⟩
 |some c=>
  rw[el] at g;cases c with
  |none=>
   exact⟨_,rfl,_,rfl,d,_,rfl,g,_,rfl,Ay rfl ⟨_,rfl,_,rfl,d,_,rfl,g,_,rfl,AU rfl ⟨_,rfl,_,rfl,q2 λc z=>by rw[el] at z;cases z⟩⟩⟩
  |some c=>
   exact⟨_,rfl,_,rfl,d,_,rfl,g,_,rfl,Ay rfl ⟨_,rfl,_,rfl,d,_,rfl,g,_,rfl,Ay rfl ⟨_,rfl,_,rfl,d,_,rfl,g,q1 c el⟩⟩⟩
def IT (t:Bt)(P:List Str):Prop:=P≠[]/\RF t P.dropLast=true
def FD (K:W.Frag)(XC:Nat->Addr):Sp:=λvs H Q E=>∃(d:Addr) (P:List Str) (t:Bt),vs=[.ref d,.str (jn P)]/\H d=some (.dK (CI t))/\(∀p∈t,VP p.1)/\VP P/\P.length<=8/\(IT t P->∀H',AJ H H'->Q .non H')/\(¬IT t P->∀H',AJ H H'->Ex XC E H' (.noPath (jn P)))
theorem PH (T:Txt K mg C XC)(F:Fun K "check_put" "check_put" Ek f fd)(A2:Gq P w K mg base 1 "NoPath" (XC 5) "path" ["self","path"])(Ed:Def P w K mg base 1 "is_folder" ["tree","path"] (FB K))(D0:Def P w K mg base 3 "steps_in" ["path"] (GA K))(Ea:Def P w K mg base 1 "folder_of" ["path"] (FF K)):FnOk P w K mg base (Fj P w) 4 f fd ["tree","path"] (FD K XC):=by
 refine F.okE OQ (λvs H Q E h=>?_) (λcdv A outer s H vs Q E hr h=>?_)
 ·obtain⟨d,P,t,rfl,_⟩:=h;rfl
 obtain⟨d,P,t,rfl,hd,v,vP,l8,q1,q2⟩:=h;refine⟨_,(!Ad (!AV (@PW.pt _ _ _ (!LJ (!AD Bh (!A0 B9 (by rfl) T.b_len EI (!Aa (!AW D0 (by trivial) rfl (!Aa (pv 1) (!Ab))) (!Ab))) (!Ag) (AI _)) (!Jn (!GG (!ER (!AW Ed (by trivial) rfl (!Aa (pv 0) (!Aa (!AW Ea (by trivial) rfl (!Aa (pv 1) (!Ab))) (!Ab)))) (by intro _;rfl)))))) (!Ad (!By Bi rfl A2 (by trivial) rfl (!Aa (pv 1) (!Ab)))) (!AO))),?_⟩
 try dsimp only[A4,Cx.nox,Cx.wish]
 refine⟨_,rfl,P,rfl,vP,l8,λl H1 s1 h1=>?_⟩;refine⟨l,_,rfl,.inl (A7.of h1),rfl,_,rfl,HL (λc=>?_) (λc=>?_)⟩
 ·have e:P=[]:=by
   have:=V.int.inj (aW c);rw[ax] at this;exact fY.mp (by omega)
  exact⟨_,rfl,_,rfl,q2 (λz=>z.1 e) H1 s1⟩
 ·have e:P≠[]:=λe=>c (aE (by rw[e];rfl))
  obtain⟨I,st,rfl⟩:=DU e;rw[aM,bz] at l8;refine⟨_,rfl,_,rfl,I,st,rfl,vP,by omega,λH2 s2=>⟨d,I,t,rfl,s2.get (s1.get hd),v,λx hx=>vP x (bO _ hx),_,rfl,?_⟩⟩;cases b:RF t I with
  |true=>exact Ay rfl (q1 ⟨e,by rw[eH];exact b⟩ H2 (s1.trans s2))
  |false=>exact AU rfl ⟨_,rfl,_,rfl,q2 (λz=>by have:=z.2;rw[eH,b] at this;cases this) H2 (s1.trans s2)⟩
def C9 (K:W.Frag)(XC:Nat->Addr):Sp:=λvs H Q E=>∃(d:Addr) (P:List Str) (t:Bt),vs=[.ref d,.str (jn P)]/\H d=some (.dK (CI t))/\(∀p∈t,VP p.1)/\VP P/\P.length<=8/\(IT t P->lk t P=none->∀H',AJ H H'->Q .non H')/\(IT t P->lk t P≠none->∀H',AJ H H'->Ex XC E H' (.twice (jn P)))/\(¬IT t P->∀H',AJ H H'->Ex XC E H' (.noPath (jn P)))
theorem N4 (T:Txt K mg C XC)(F:Fun K "check_free" "check_free" DH f fd)(Eh:Bu P w K mg base 4 "check_put" ["tree","path"] (FD K XC))(DC:Gq P w K mg base 1 "Twice" (XC 1) "name" ["self","name"]):FnOk P w K mg base (Fj P w) 5 f fd ["tree","path"] (C9 K XC):=by
 refine F.okE NW (λvs H Q E h=>?_) (λcdv A outer s H vs Q E hr h=>?_)
 ·obtain⟨d,P,t,rfl,_⟩:=h;rfl
 obtain⟨d,P,t,rfl,hd,v,vP,l8,q1,q2,q3⟩:=h;have hu:=Gw hr;refine⟨_,(!Ah (!AA (!Ba Eh (by trivial) rfl Am (!Aa (pv 0) (!Aa (pv 1) (!Ab))))) (!Ad (!AV (!Ir (!VY hu (pv 1) (pv 0)) (by first|exact CP _ (by decide) (by decide)|rfl)) (!Ad (!By Bi rfl DC (by trivial) rfl (!Aa (pv 1) (!Ab)))) (!AO)))),?_⟩
 try dsimp only[A4,Cx.nox,Cx.wish]
 refine⟨_,rfl,_,rfl,d,P,t,rfl,hd,v,vP,l8,λpk H1 s1=>?_,q3⟩;have g:=La (s1.get hd) v vP;cases el:lk t P with
 |none=>
  rw[el] at g;exact⟨_,rfl,_,rfl,d,_,rfl,g,_,rfl,Ay rfl (q1 pk el H1 s1)⟩
 |some c=>
  rw[el] at g;exact⟨_,rfl,_,rfl,d,_,rfl,g,_,rfl,AU rfl ⟨_,rfl,_,rfl,q2 pk (by rw[el];intro z;cases z) H1 s1⟩⟩
def Du (K:W.Frag)(XC:Nat->Addr):Sp:=λvs H Q E=>∃(d:Addr) (P:List Str) (t:Bt),vs=[.ref d,.str (jn P)]/\H d=some (.dK (CI t))/\(∀p∈t,VP p.1)/\VP P/\(lk t P≠none->Q .non H)/\(lk t P=none->Ex XC E H (.noPath (jn P)))
theorem MU (T:Txt K mg C XC)(F:Fun K "check_there" "check_there" Dc f fd)(A2:Gq P w K mg base 1 "NoPath" (XC 5) "path" ["self","path"]):FnOk P w K mg base (Fj P w) 3 f fd ["tree","path"] (Du K XC):=by
 refine F.okE Na (λvs H Q E h=>?_) (λcdv A outer s H vs Q E hr h=>?_)
 ·obtain⟨d,P,t,rfl,_⟩:=h;rfl
 obtain⟨d,P,t,rfl,hd,v,vP,q1,q2⟩:=h;have hu:=Gw hr;refine⟨_,(!Ad (!AV (!Ir (!Om hu (pv 1) (pv 0)) (by first|exact CP _ (by decide) (by decide)|rfl)) (!Ad (!By Bi rfl A2 (by trivial) rfl (!Aa (pv 1) (!Ab)))) (!AO))),?_⟩
 try dsimp only[A4,Cx.nox,Cx.wish]
 have g:=La hd v vP;cases el:lk t P with
 |none=>
  rw[el] at g;exact⟨_,rfl,_,rfl,d,_,rfl,g,_,rfl,AU rfl ⟨_,rfl,_,rfl,q2 el⟩⟩
 |some c=>
  rw[el] at g;exact⟨_,rfl,_,rfl,d,_,rfl,g,_,rfl,Ay rfl (q1 (by rw[el];intro z;cases z))⟩
def V0 (H:Hp)(ts:List Addr)(more:Bt):Prop:=ts.length=more.length/\∀(i:Nat) a p,ts[i]?=some a->more[i]?=some p->H a=some (.tup [.str (jn p.1),cV p.2])
def CF (K:W.Frag):Sp:=λvs H Q _=>∃(d l:Addr) (t more:Bt) (ts:List Addr),vs=[.ref d,.ref l]/\H d=some (.dK (CI t))/\H l=some (.lst (ts.map V.ref))/\V0 H ts more/\(∀p∈t,VP p.1)/\(∀p∈more,VP p.1)/\t.length<=200/\more.length<=200/\∀d' H',AJ H H'->H d'=none->H' d'=some (.dK (CI (EG t more)))->Q (.ref d') H'
theorem N8 (T:Txt K mg C XC)(F:Fun K "with_paths" "with_paths" DM f fd):FnOk P w K mg base FL 1 f fd ["tree","more"] (CF K):=by
 exists IU
 ·obtain⟨d,l,t,more,ts,rfl,_⟩:=h;rfl
 obtain⟨d,l,t,more,ts,rfl,hd,hl,hp,v1,v2,l1,l2,q⟩:=h;refine⟨_,(!Ah (@AK _ _ (2) _ _ _ _ IU.nd rfl (by trivial) (!GL Nt (by rfl) T.b_dict PM (!Aa (pv 0) (!Ab))) (by rfl) (by trivial)) (!Ah (!AA (!Gu fW PySem.F.slot_dict_update PySem.F.type_dict_update (W3 rfl) (pv 2) (!Aa (pv 1) (!Ab)))) (!Ad (!AG (pv 2))))),?_⟩
 try dsimp only[A4,Cx.nox,Cx.wish]
 have tl:(CI t).length=t.length:=ax _;have ml:(CI more).length=more.length:=ax _;refine⟨_,rfl,d,_,rfl,hd,by omega,λd' nd'=>?_⟩;have s1:=Ai nd' (.dK (CI t));refine⟨_,rfl,.inr (.inr (.inl ⟨rfl,.inl ⟨_,Ae⟩⟩)),_,rfl,d',l,ts,_,CI more,rfl,rfl,Ae,A7.of (s1.get hl),by rw[ml];exact hp.1,(by omega),(λi t' k v e1 e2=>?_),?_⟩
 ·unfold CI at e2;rw[aQ] at e2;obtain⟨p,e3,e4⟩:=bB.mp e2;cases e4;exact s1.get (hp.2 i t' p e1 e3)
 ·rw[Oy v1 v2];exact⟨_,rfl,q d' _ (Fo s1 nd' _) nd' Ae⟩
end
theorem SI:∀{t:Bt},(t.map (·.1)).Nodup->∀{p:List Str×Option Str},p∈t->lk t p.1=some p.2
 |[],_,_,h=>nomatch h
 |x::t,nd,p,h=>by
  rw[aR,bV] at nd;rw[SM];rcases aX.mp h with rfl|h
  ·exact aI rfl
  ·rw[aF λe=>nd.1 (aA.mpr ⟨p,h,Eq.symm e⟩)];exact SI nd.2 h
theorem Yy {t:Bt}(nd:(t.map (·.1)).Nodup)(v:∀p∈t,VP p.1):((CI t).map (·.1)).Nodup:=by
 unfold CI;rw[aL];have key:∀{t:Bt},(∀p∈t,VP p.1)->(t.map (·.1)).Nodup->(t.map ((λkv:Key×V=>kv.1)∘Zz)).Nodup:=λ{t}=>by
  induction t with
  |nil=>intro _ _;exact dc
  |cons p t ih=>
   intro v nd;rw[aR,bV] at nd ⊢;refine⟨λz=>?_,ih (λq hq=>v q (aB _ hq)) nd.2⟩;obtain⟨q,hq,e⟩:=aA.mp z;have:=K4 (v q (aB _ hq)) (v p aK) (fm e);exact nd.1 (aA.mpr ⟨q,hq,this⟩)
 exact key v nd
theorem II {H H2:Hp}{d:Addr}{o:Obj}{kvs:List (Key×V)}(h:H d=some (.dK kvs))(s:AJ (upd H d (.frz o (.dK kvs))) H2):AJ H (upd H2 d (.dK kvs)):=λb ob e=>by
 by_cases w:b=d
 ·rw[w] at e ⊢;rw[Ae,<-h];exact e
 ·rw[Ax w];exact s b ob (by rw[Ax w];exact e)
theorem Pi {α:Type}{T:Addr->α->Prop}:∀(ys:List (α×V)),(∀q∈ys,∃b,q.2=V.ref b/\T b q.1)->∃bs:List (Addr×α),bs.map (·.2)=ys.map (·.1)/\bs.map (λb=>V.ref b.1)=ys.map (·.2)/\∀b∈bs,T b.1 b.2
 |[],_=>⟨[],rfl,rfl,λ_ h=>nomatch h⟩
 |y::ys,h=>by
  obtain⟨bs,e1,e2,e3⟩:=Pi ys λq hq=>h q (aB _ hq)
  obtain⟨b,e,t⟩:=h y aK;refine⟨(b,y.1)::bs,by rw[aR,aR,e1],by rw[aR,aR,e2,e],λc hc=>?_⟩;rcases aX.mp hc with rfl|hc
  ·exact t
  ·exact e3 c hc
theorem R6 {A B:List Str}(vA:VP A)(vB:VP B):decide (V.str (jn A)=V.str (jn B))=decide (A=B):=by
 rw[FI,dg];exact⟨K4 vA vB,λe=>by rw[e]⟩
structure Kx (d:Addr) (H H':Hp):Prop where
 keep:∀b o,b≠d->H b=some o->H' b=some o
 there:∀b,H' b=none->H b=none
theorem Mv {d:Addr}{H H':Hp}(s:AJ H H'):Kx d H H':=⟨λb o _ h=>s b o h,λ_ h=>s.free h⟩
theorem Kx.trans {d:Addr}{H H1 H2:Hp}(a:Kx d H H1)(b:Kx d H1 H2):Kx d H H2:=⟨λc o n h=>b.keep c o n (a.keep c o n h),λc h=>a.there c (b.there c h)⟩
theorem Kx.upd {d:Addr}{H H1:Hp}{o0:HO}(a:Kx d H H1)(h:H d=some o0)(o:HO):Kx d H (upd H1 d o):=by
 refine⟨λb o' n h=>by rw[Ax n];exact a.keep b o' n h,λb hb=>?_⟩
 by_cases z:b=d
 ·rw[z,Ae] at hb;cases hb
 ·rw[Ax z] at hb;exact a.there b hb
theorem VH {d:Addr}{o:Obj}{H:Hp}{t:Bt}(h:H d=some (.frz o (.dK (CI t)))):Kd (S6 d o (CI t)) H (t.map λp=>V.str (jn p.1)):=by
 have it:=Up h;unfold CI at it ⊢;rw[aL] at it;exact it
theorem Sk {H:Hp}{d:Addr}{o:Obj}{t:Bt}(h:H d=some (.frz o (.dK (CI t))))(v:∀p∈t,VP p.1){P:List Str}(vP:VP P):IC H d (.str (jn P)) ((lk t P).map cV):=by
 have g:=IC.kf (k:=Sum.inr (jn P)) h;rw[Rm v vP] at g;exact g
section
variable {P:Program}{w:World}{K:W.Frag}{mg:Str->Option Value}{base:Heap}{f C:Addr}{XC:Nat->Addr}{fd:FuncData}{PT PU:Addr}
def DW (K:W.Frag):Sp:=λvs H Q _=>∃(d:Addr) (t:Bt) (P:List Str),vs=[.ref d,.str (jn P)]/\H d=some (.dK (CI t))/\TrV t/\VP P/\P.length<=30/\∀d' H',AJ H H'->H d'=none->H' d'=some (.dK (CI (HF t P)))->Q (.ref d') H'
theorem LY (T:Txt K mg C XC)(F:Fun K "without_path" "without_path" CN f fd)(Cc:Def P w K mg base 1 "is_beneath" ["path","other"] (DT K)):FnOk P w K mg base FL 2 f fd ["tree","path"] (DW K):=by
 exists LW
 ·obtain⟨d,t,P,rfl,_⟩:=h;rfl
 obtain⟨d,t,P,rfl,hd,tv,vP,lP,q⟩:=h;have hu:=Gw hr;refine⟨_,(!Ad (!AG (!GL (Rb (K:=K) (by rfl) rfl) (by rfl) T.b_dict PM (!Aa (!Ka (@Gx _ ["other","tree","path"] [none,some 0,some 1] _ _ _ _ _ _ _ _ _ _ _ rfl (!L9 (pv 0)) (by rfl) rfl (by repeat (first|exact trivial|refine⟨rfl,?_⟩)) (by repeat (first|exact trivial|refine⟨λh=>(by first|exact⟨_,rfl⟩|cases h),?_⟩)) (λC s H fp=>⟨(@Be _ _ (0) _ (show(["other","tree","path"]:List Str).Nodup by decide +kernel) rfl (by trivial) (by trivial)),(!Gp (@PW.pt _ _ _ (!VA (!AD M0 (pv 0) (pv 2) (AI _)) (!SU (!GG (!ER (!AW Cc (by trivial) rfl (!Aa (pv 0) (!Aa (pv 2) (!Ab)))) (by intro _;rfl))))))),(!Bo (!Aa (pv 0) (!Aa (!IF hu (pv 1) (pv 0) (λ_ _=>rfl)) (!Ab))))⟩) (by intro _;rfl))) (!Ab))))),?_⟩
 try dsimp only[A4,Cx.nox,Cx.wish]
 have nf:∀o u,H d≠some (.frz o u):=λo u z=>by rw[hd] at z;cases z
 refine⟨_,rfl,d,_,rfl,hd,λo=>?_⟩;have hf:(upd H d (.frz o (.dK (CI t)))) d=some (.frz o (.dK (CI t))):=Ae;have th:∀H2,AJ (upd H d (.frz o (.dK (CI t)))) H2->AJ H (upd H2 d (.dK (CI t))):=λH2 s2=>II hd s2
 have fre:∀l,(upd H d (.frz o (.dK (CI t)))) l=none->l≠d:=λl nl w=>by rw[w,hf] at nl;cases nl
 generalize upd H d (.frz o (.dK (CI t)))=Hf at hf th fre;refine KC (ps:=t) (λp=>!decide (p.1=P) && !HK p.1 P) (λp y H'=>∃b,y=V.ref b/\H' b=some (.tup [.str (jn p.1),cV p.2])) ?_ ?_ (VH hf) (by have:=tv.few;omega) (λp hp H' R s' hR=>?_) (λp hp _ H' R s' hR=>?_) λl H2 ys nl s2 hl ey hy=>?_
 ·rintro r y Ha Hb ⟨b,e,hb⟩ sab
  exact⟨b,e,sab.get hb⟩
 ·rintro r y Ha la us us' ⟨b,e,hb⟩ hla
  exact⟨b,e,by rw[Ax (Ep hb hla (by intro z;cases z))];exact hb⟩
 ·have vp:=(tv.vp p hp).1;have hR:=hR H' (.refl _);refine⟨_,rfl,_,rfl,rfl,_,rfl,?_⟩;rw[R6 vp vP];cases c:decide (p.1=P) with
  |true=>
   rw[c] at hR;exact Ay rfl hR
  |false=>
   rw[c] at hR;exact AU rfl ⟨_,rfl,_,rfl,p.1,P,rfl,vp,vP,by have:=tv.deep p hp;omega,lP,_,rfl,hR⟩
 ·have vp:=(tv.vp p hp).1;have g:=Sk (s'.get hf) tv.v vp;rw[SI tv.nd hp] at g;exact⟨_,rfl,_,rfl,_,rfl,d,_,rfl,g,Dt,λb nb=>hR _ _ (Ai nb _) ⟨b,rfl,Ae⟩⟩
 obtain⟨bs,e1,e2,e3⟩:=Pi (T:=λb (p:List Str×Option Str)=>H2 b=some (.tup [.str (jn p.1),cV p.2])) ys hy;have ec:bs.map (·.2)=HF t P:=by rw[e1,ey];rfl
 have nel:=fre l nl;have neb:∀b∈bs,b.1≠d:=λb hb w=>by have:=e3 b hb;rw[w,s2.get hf] at this;cases this
 have lc:(HF t P).length<=200:=bj (bp _ _) tv.few;have lb:bs.length=(HF t P).length:=by rw[<-ec,ax]
 have subt:∀p∈HF t P,p∈t:=λp hp=>(aO.mp hp).1
 refine⟨d,o,_,nf,s2.get hf,l,bs.map (·.1),CI (HF t P),rfl,A7.of (by rw[Ax nel,aL,hl,<-e2];rfl),?_,?_,Yy (tv.nd.sublist (List.filter_sublist.map _)) λp hp=>tv.v p (subt p hp),λi a k v e4 e5=>?_,λd' nd'=>?_⟩
 ·unfold CI;rw[ax,ax,lb]
 ·unfold CI;rw[ax];omega
 ·rw[aQ] at e4;obtain⟨b,e6,rfl⟩:=bB.mp e4;have e7:(HF t P)[i]?=some b.2:=by rw[<-ec,aQ,e6];rfl
  unfold CI at e5;rw[aQ,e7] at e5;cases e5;have hb:=bD e6;rw[Ax (neb b hb)];exact e3 b hb
 ·have S:=(th H2 s2).trans (Ai nd' (.dK (CI (HF t P))));refine q d' _ S ?_ Ae;exact(AC (th H2 s2)).there _ nd'
theorem Rr:∀{R:List Str},VP R->(R.map (·.length)).sum<=8*R.length
 |[],_=>aD _
 |x::R,v=>by
  have h1:=Rr (R:=R) λy hy=>v y (aB _ hy)
  have h2:=(Dz (v x aK)).2.2;rw[aR,List.sum_cons,bw];omega
def FV (K:W.Frag):Sp:=λvs H Q _=>∃(d:Addr) (t:Bt) (P to:List Str),vs=[.ref d,.str (jn P),.str (jn to)]/\H d=some (.dK (CI t))/\TrV t/\(∀p∈t,p.1.length<=8)/\VP P/\P.length<=8/\VP to/\to≠[]/\to.length<=8/\∀l (ts:List Addr) H',AJ H H'->H l=none->H' l=some (.lst (ts.map V.ref))->V0 H' ts (LZ t P to)->Q (.ref l) H'
theorem RR (T:Txt K mg C XC)(F:Fun K "carried" "carried" FQ f fd)(Cc:Def P w K mg base 1 "is_beneath" ["path","other"] (DT K))(D0:Def P w K mg base 3 "steps_in" ["path"] (GA K))(KZ:Def P w K mg base 1 "path_to" ["folder","name"] (Je K)):FnOk P w K mg base FL 4 f fd ["tree","path","to"] (FV K):=by
 exists G5
 ·obtain⟨d,t,P,to,rfl,_⟩:=h;rfl
 obtain⟨d,t,P,to,rfl,hd,tv,t8,vP,lP,vto,nto,lto,q⟩:=h;have hu:=Gw hr;refine⟨_,(!Ah (@AK _ _ (3) _ _ _ _ G5.nd rfl (by trivial) (!B7 (!Aa (!Bo (!Aa (pv 2) (!Aa (!VN hu (pv 0) (pv 1) ⟨rfl,rfl,rfl,rfl⟩) (!Ab)))) (!Ab))) (by rfl) (by trivial)) (!Ah (!WI cz rfl (pv 0) (@Be _ _ (4) _ G5.nd rfl (by trivial) (by trivial)) (!Ad (!AV (!ER (!AW Cc (by trivial) rfl (!Aa (pv 4) (!Aa (pv 1) (!Ab)))) (by intro _;rfl)) (!Ah (@AK _ _ (5) _ _ _ _ G5.nd rfl (by trivial) (!Fk PN (!AW D0 (by trivial) rfl (!Aa (pv 4) (!Ab))) (!FG (!A0 B9 (by rfl) T.b_len EI (!Aa (!AW D0 (by trivial) rfl (!Aa (pv 1) (!Ab))) (!Ab)))) (!G6)) (by rfl) (by trivial)) (!Ad (!AA (!Gu bM bU bT Ec (pv 3) (!Aa (!Bo (!Aa (!AW KZ (by trivial) rfl (!Aa (pv 2) (!Aa (!Gu cf eu eo (O0 rfl) (!Az) (!Aa (pv 5) (!Ab))) (!Ab)))) (!Aa (!IF hu (pv 0) (pv 4) (λ_ _=>rfl)) (!Ab)))) (!Ab)))))) (!AO))) (by intro _;rfl)) (!Ad (!AG (pv 3))))),?_⟩
 try dsimp only[A4,Cx.nox,Cx.wish]
 have nf:∀o u,H d≠some (.frz o u):=λo u z=>by rw[hd] at z;cases z
 have g:=La hd tv.v vP;have eg:((lk t P).map cV).getD .non=cV ((lk t P).getD none):=by cases lk t P<;>rfl
 refine⟨_,rfl,_,rfl,d,rfl,.inl ⟨_,.inl hd⟩,_,rfl,_,g,Dt,λb0 nb0=>?_⟩;rw[eg];have s1:=Ai nb0 (.tup [V.str (jn to),cV ((lk t P).getD none)]);have h1:(upd H b0 (.tup [V.str (jn to),cV ((lk t P).getD none)])) b0=some (.tup [V.str (jn to),cV ((lk t P).getD none)]):=Ae;generalize upd H b0 (.tup [V.str (jn to),cV ((lk t P).getD none)])=H1 at s1 h1;refine⟨Pn,λl nl=>?_⟩;have s2:=Ai nl (.lst [V.ref b0]);have h2:(upd H1 l (.lst [V.ref b0])) l=some (.lst ([b0].map V.ref)):=Ae;have hb2:=s2.get h1;generalize upd H1 l (.lst [V.ref b0])=H2 at s2 h2 hb2;have s12:=s1.trans s2;have nlH:H l=none:=(AC s1).there _ nl;dsimp only[CG];have hd2:=s12.get hd;refine⟨_,rfl,d,_,rfl,hd2,λo=>?_⟩;have hf:(upd H2 d (.frz o (.dK (CI t)))) d=some (.frz o (.dK (CI t))):=Ae;have kf:∀{b:Addr} {u:HO},H2 b=some u->b≠d->(upd H2 d (.frz o (.dK (CI t)))) b=some u:=λ{b u} e n=>by rw[Ax n];exact e
 have nld:l≠d:=λz=>by rw[z,hd2] at h2;cases h2
 have hlf:=kf h2 nld;have hbf:=kf hb2 λz=>by rw[z,hd2] at hb2;cases hb2
 have th:∀H3,Kx l (upd H2 d (.frz o (.dK (CI t)))) H3->AJ H (upd H3 d (.dK (CI t))):=λH3 k b u e=>by
  by_cases z:b=d
  ·rw[z] at e ⊢;rw[Ae,<-hd];exact e
  ·rw[Ax z];exact k.keep b u (λy=>by rw[y,nlH] at e;cases e) (kf (s12.get e) z)
 generalize upd H2 d (.frz o (.dK (CI t)))=Hf at hf hlf hbf th;refine TV (d:=d) (o:=o) (kvs:=CI t) nf (λi σ Hi=>∃(ts:List Addr) (v4 v5:Option V),σ=[some (.ref d),some (.str (jn P)),some (.str (jn to)),some (.ref l),v4,v5]/\Kx l Hf Hi/\Hi l=some (.lst (ts.map V.ref))/\V0 Hi ts ((to,(lk t P).getD none)::((t.take i).filter λp=>HK p.1 P).map λp=>(to++p.1.drop P.length,p.2)))
  ⟨[b0],none,none,rfl,Mv (.refl _),hlf,rfl,λi a p e1 e2=>?_⟩ (by rintro i σ Hi _ ⟨_,_,_,_,k,_⟩;exact k.keep _ _ (Ne.symm nld) hf) ?_ ?_
 ·cases i with
  |zero=>cases e1;cases e2;exact hbf
  |succ i=>cases e1
 ·rintro i k v σ Hi ei ⟨ts,v4,v5,rfl,kx,hl,pr⟩
  unfold CI at ei;rw[aQ] at ei;obtain⟨p,ep,ek⟩:=bB.mp ei;cases ek;have hp:=bD ep;have vp:=(tv.vp p hp).1;have p8:=t8 p hp;have tk:t.take (i+1)=t.take i++[p]:=by rw[cL,ep];rfl
  refine⟨_,rfl,_,rfl,p.1,P,rfl,vp,vP,by omega,by omega,_,rfl,HL (λc=>?_) (λc=>?_)⟩
  ·refine⟨_,rfl,p.1,rfl,vp,p8,λl1 H5 s5 h5=>⟨_,rfl,P,rfl,vP,lP,λl2 H6 s6 h6=>⟨l2,_,rfl,.inl (A7.of h6),_,rfl,l1,_,rfl,A7.of (s6.get h5),λl3 n3=>?_⟩⟩⟩;rw[Xt (by omega),ax,cO,<-fS];have hbn:P.length<p.1.length:=by
    have c':=c;unfold HK at c';rw[ba,bK] at c';exact c'.1
   obtain⟨R,eR⟩:∃R,R=p.1.drop P.length:=⟨_,rfl⟩
   have nR:R≠[]:=λz=>by
    have:=congrArg List.length eR;rw[z,cA] at this;have:0=p.1.length-P.length:=this;omega
   have vR:VP R:=λx hx=>vp x (du (eR▸hx))
   have lR:R.length<=8:=by rw[eR,cA];omega
   rw[<-eR];have s7:=Ai n3 (.lst (R.map V.str));have h7:(upd H6 l3 (.lst (R.map V.str))) l3=some (.lst (R.map V.str)):=Ae;generalize upd H6 l3 (.lst (R.map V.str))=H7 at s7 h7;have s57:=(s5.trans s6).trans s7;have hl7:=s57.get hl;have sn:=Rr vR;have fd7:=s57.get (kx.keep _ _ (Ne.symm nld) hf);have g7:=Sk fd7 tv.v vp;rw[SI tv.nd hp] at g7;refine⟨_,rfl,.inl ⟨rfl,_,A7.of hl7⟩,_,rfl,rfl,_,rfl,l3,SL,R,rfl,rfl,A7.of h7,by show _+R.length*1<=_;omega,to,R,rfl,vto,vR,nto,nR,by omega,by omega,_,rfl,_,rfl,d,_,rfl,g7,Dt,λb nb=>?_⟩;have s8:=Ai nb (.tup [V.str (jn (to++R)),cV p.2]);have h8:(upd H7 b (.tup [V.str (jn (to++R)),cV p.2])) b=some (.tup [V.str (jn (to++R)),cV p.2]):=Ae;have hl8:=s8.get hl7;have lt:ts.length<=201:=by
    have h1:=pr.1;have h2:=tv.few;have h3:=bp (λp:List Str×Option Str=>HK p.1 P) (t.take i);have h4:=gF i t;have h5:(t.take i).length<=t.length:=by rw[bY];omega
    rw[bw,ax] at h1;omega
   refine⟨l,_,_,rfl,rfl,hl8,E8 (by rw[ax];omega),?_⟩;refine⟨ts++[b],_,_,rfl,((kx.trans (Mv (s57.trans s8))).upd hlf _),by rw[Ae,bx];rfl,?_⟩;rw[tk,cp,show List.filter (λp:List Str×Option Str=>HK p.1 P) [p]=[p] by rw[bE];exact aI c,bx,<-fi];refine⟨by rw[aM,aM,pr.1];rfl,λj a x e1 e2=>?_⟩;have na:∀{a:Addr} {xs:List V} {H9:Hp} {u:HO},(upd H7 b (.tup [V.str (jn (to++R)),cV p.2])) a=some (.tup xs)->(upd (upd H7 b (.tup [V.str (jn (to++R)),cV p.2])) l u) a=some (.tup xs):=λ{a xs H9 u} e=>by
    rw[Ax λz=>by rw[z,hl8] at e;cases e];exact e
   rcases Nat.lt_trichotomy j ts.length with lj|ej|gj
   ·rw[cn lj] at e1;rw[cn (by rw[<-pr.1];exact lj)] at e2;exact na (H9:=H) ((s57.trans s8).get (pr.2 j a x e1 e2))
   ·subst ej;rw[cg (aD _),dv] at e1;rw[cg (by rw[pr.1];exact aD _),pr.1,dv] at e2;cases e1;cases e2;show _=some (HO.tup [V.str (jn (to++p.1.drop P.length)),cV p.2]);rw[<-eR];exact na (H9:=H) h8
   ·rw[bI (by rw[aM,bz];omega)] at e1;cases e1
  ·refine⟨ts,_,_,rfl,kx,hl,?_⟩;rw[tk,cp,show List.filter (λp:List Str×Option Str=>HK p.1 P) [p]=[] by rw[bE];exact aF c,bq];exact pr
 ·rintro σ Hi ⟨ts,v4,v5,rfl,kx,hl,pr⟩
  rw[show(CI t).length=t.length from ax _,dO] at pr;refine⟨_,rfl,q l ts _ (th Hi kx) nlH (by rw[Ax nld];exact hl) ⟨pr.1,λi a p e1 e2=>?_⟩⟩;have:=pr.2 i a p e1 e2;rw[Ax λz=>by rw[z,kx.keep _ _ (Ne.symm nld) hf] at this;cases this];exact this
end
def W8 (t:Bt)(I:List Str):Nat:=t.countP λp=>decide (p.1.dropLast=I)
structure BOk (t:Bt):Prop where
 few:t.length<=60
 fld:∀p∈t,W8 t p.1.dropLast<=16
 deep:∀p∈t,p.1.length<=8
 ct:∀p∈t,∀c,p.2=some c->c.length<=400
section
variable {P:Program}{w:World}{K:W.Frag}{mg:Str->Option Value}{base:Heap}{f C:Addr}{XC:Nat->Addr}{fd:FuncData}{PT PU:Addr}
theorem Gi {α:Type}(l:List α):l.filter (λ_=>true)=l:=cw.mpr λ_ _=>rfl
theorem Lm {α:Type}(l:List α)(p:α->Bool):(l.map p).all id=true↔∀x∈l,p x=true:=by
 rw[dy,bR];exact Iff.rfl
def Fq (K:W.Frag)(XC:Nat->Addr):Sp:=λvs H Q E=>∃(d:Addr) (t:Bt),vs=[.ref d]/\H d=some (.dK (CI t))/\TrV t/\(∀p∈t,∀c,p.2=some c->c.length<=1000000)/\(BOk t->∀H',AJ H H'->Q .non H')/\(¬BOk t->∀H',AJ H H'->Ex XC E H' .many)
theorem L1 (T:Txt K mg C XC)(F:Fun K "check_bounds" "check_bounds" CM f fd)(Ea:Def P w K mg base 1 "folder_of" ["path"] (FF K)):FnOk P w K mg base (Fj P w) 2 f fd ["tree"] (Fq K XC):=by
 refine F.okE HB (λvs H Q E h=>?_) (λcdv A outer s H vs Q E hr h=>?_)
 ·obtain⟨d,t,rfl,_⟩:=h;rfl
 obtain⟨d,t,rfl,hd,tv,hc,q1,q2⟩:=h;have hu:=Gw hr;refine⟨_,(!Ah (@AK _ _ (1) _ _ _ _ HB.nd rfl (by trivial) (!Ka (@Fi _ ["path"] _ _ _ _ _ _ _ _ _ _ rfl (!L9 (pv 0)) (by decide +kernel) (λC s H fp=>⟨(@Be _ _ (0) _ (show(["path"]:List Str).Nodup by decide +kernel) rfl (by trivial) (by trivial)),(!Dw),(!AW Ea (by trivial) rfl (!Aa (pv 0) (!Ab)))⟩) (by intro _;rfl))) (by rfl) (by trivial)) (!Ah (!AV (@PW.pt _ _ _ (!LJ (!AD SD (!A0 Ta (by rfl) T.b_len EI (!Aa (pv 0) (!Ab))) (!Bv rfl T.c_MOST_TREE_ENTRIES) (AI _)) (!Jn (!GG (!ER (!A0 (GK rfl) (by rfl) T.b_all Lj (!Aa (@Gx _ ["folder","folders"] [none,some 1] _ _ _ _ _ _ _ _ _ _ _ rfl (!DV (pv 1)) (by rfl) rfl (by repeat (first|exact trivial|refine⟨rfl,?_⟩)) (by repeat (first|exact trivial|refine⟨λh=>(by first|exact⟨_,rfl⟩|cases h),?_⟩)) (λC s H fp=>⟨(@Be _ _ (0) _ (show(["folder","folders"]:List Str).Nodup by decide +kernel) rfl (by trivial) (by trivial)),(!Dw),(!Ht Oj (@Rn _ (K) _ _ _ _ _ _ _ _ _ _ _ rfl bM PySem.F.slot_list_count PySem.F.type_list_count (TL (K:=K) (by rfl)) (pv 1) (!Aa (pv 0) (!Ab)) (by rfl) (by rfl) (by rfl) (by rfl) (by rfl)) (!Bv rfl T.c_MOST_ENTRIES) (AI _))⟩) (by intro _;rfl)) (!Ab))) (by intro _;rfl)))))) (!Ad (!GV GO rfl T.x_TooMany T.q_TooMany)) (!AO)) (!Ah (!AV (!GG (!ER (!A0 (GK rfl) (by rfl) T.b_all Lj (!Aa (!Ka (@Fi _ ["path"] _ _ _ _ _ _ _ _ _ _ rfl (!L9 (pv 0)) (by decide +kernel) (λC s H fp=>⟨(@Be _ _ (0) _ (show(["path"]:List Str).Nodup by decide +kernel) rfl (by trivial) (by trivial)),(!Dw),(!Ht Xi (@Rn _ (K) _ _ _ _ _ _ _ _ _ _ _ rfl cf PySem.F.slot_str_count PySem.F.type_str_count Uo (pv 0) (!Aa (!Az) (!Ab)) (by rfl) (by rfl) (by rfl) (by rfl) (by rfl)) (!Bv rfl T.c_MOST_TREE_DEEP) (AI _))⟩) (by intro _;rfl))) (!Ab))) (by intro _;rfl))) (!Ad (!GV GO rfl T.x_TooMany T.q_TooMany)) (!AO)) (!Ad (!AV (!GG (!ER (!A0 (GK rfl) (by rfl) T.b_all Lj (!Aa (!Ka (@Fi _ ["content"] _ _ _ _ _ _ _ _ _ _ rfl (!WW (pv 0)) (by decide +kernel) (λC s H fp=>⟨(@Be _ _ (0) _ (show(["content"]:List Str).Nodup by decide +kernel) rfl (by trivial) (by trivial)),(!Dw),(!Xg (!RZ (!KR (pv 0)) (by first|exact CP _ (by decide) (by decide)|rfl)) (!Pt (!Ht Oj (!A0 Hh (by rfl) T.b_len EI (!Aa (pv 0) (!Ab))) (!Bv rfl T.c_MOST_SIGNS) (AI _))))⟩) (by intro _;rfl))) (!Ab))) (by intro _;rfl))) (!Ad (!GV GO rfl T.x_TooMany T.q_TooMany)) (!AO)))))),?_⟩
 try dsimp only[A4,Cx.nox,Cx.wish]
 have nf:∀o u,H d≠some (.frz o u):=λo u z=>by rw[hd] at z;cases z
 have t2:=tv.few;have tl:(CI t).length=t.length:=ax _;have fl:∀p∈t,jn p.1.dropLast≠jn p.1\/True:=λ_ _=>.inr trivial
 refine SQ (t:=Wu (VU _ _) _) (λσ' H'=>∃l,σ'=[some (.ref d),some (.ref l)]/\AJ H H'/\H' l=some (.lst (t.map λp=>V.str (jn p.1.dropLast)))) (λN hN=>?_) ?_
 ·refine⟨_,rfl,d,_,rfl,hd,λo=>?_⟩;have hf:(upd H d (.frz o (.dK (CI t)))) d=some (.frz o (.dK (CI t))):=Ae;have th:∀H2,AJ (upd H d (.frz o (.dK (CI t)))) H2->AJ H (upd H2 d (.dK (CI t))):=λH2 s2=>II hd s2
  have fre:∀l,(upd H d (.frz o (.dK (CI t)))) l=none->l≠d:=λl nl w=>by rw[w,hf] at nl;cases nl
  generalize upd H d (.frz o (.dK (CI t)))=Hf at hf th fre;refine Cv (ps:=t) (λ_=>true) (λp=>V.str (jn p.1.dropLast)) (VH hf) (by omega) (λr hr H' R s' hR=>hR) (λp hp _ H' R s' hR=>?_) λl H2 nl s2 hl2=>?_
  ·obtain⟨I,st,e⟩:=DU (tv.vp p hp).2;have v:=(tv.vp p hp).1;have dp:=tv.deep p hp;rw[e] at v dp hR ⊢;rw[aM,bz] at dp;rw[eH] at hR;exact⟨_,rfl,I,st,rfl,v,by omega,λH3 s3=>hR H3 s3⟩
  ·rw[Gi] at hl2;refine⟨d,o,_,nf,s2.get hf,hN _ _ ⟨l,rfl,th H2 s2,?_⟩⟩;rw[Ax (fre l nl)];exact hl2
 rintro σ' H1 ⟨l,rfl,s1,hl1⟩
 have hd1:=s1.get hd;refine⟨_,rfl,d,_,rfl,hd1,_,_,rfl,rfl,_,rfl,HL (λc=>?_) (λc=>?_)⟩
 ·have c':=aW c;rw[tl] at c';exact q2 (λb=>by have:=b.few;omega) H1 s1
 have c60:t.length<=60:=by
  have:=of_decide_eq_false (cF.mpr c);rw[tl] at this;omega
 refine⟨_,rfl,l,rfl,⟨_,A7.of hl1⟩,?_⟩;refine Cv (ps:=t) (g:=λp=>V.str (jn p.1.dropLast)) (λ_=>true) (λp=>V.bl (decide (W8 t p.1.dropLast<=16))) (EN (A7.of hl1)) (by omega) (λr hr H' R s' hR=>hR) (λp hp _ H' R s' hR=>?_) λl7 H7 n7 s7 h7=>?_
 ·refine⟨_,rfl,.inl ⟨rfl,_,A7.of (s'.get hl1)⟩,_,rfl,l,_,_,rfl,rfl,A7.of (s'.get hl1),?_,rfl,_,_,rfl,rfl,?_⟩
  ·rw[dy];exact bR.mpr λ_ _=>rfl
  ·have e:List.countP (λx=>P6 x (V.str (jn p.1.dropLast))) (t.map λp=>V.str (jn p.1.dropLast))=W8 t p.1.dropLast:=by
    rw[List.countP_map];unfold W8;refine List.countP_congr λq hq=>?_
    show(jn q.1.dropLast == jn p.1.dropLast)=true↔decide (q.1.dropLast=p.1.dropLast)=true;rw[bW,cX];exact⟨λz=>K4 (λx hx=>(tv.vp q hq).1 x (gA _ hx)) (λx hx=>(tv.vp p hp).1 x (gA _ hx)) z,λz=>by rw[z]⟩
   have e2:V.bl (decide (((List.countP (λx=>P6 x (V.str (jn p.1.dropLast))) (t.map λp=>V.str (jn p.1.dropLast)):Nat):Int)<=16))=V.bl (decide (W8 t p.1.dropLast<=16)):=by
    rw[e]
    congr 1
    rw[dg];omega
   show R (V.bl (decide (((List.countP (λx=>P6 x (V.str (jn p.1.dropLast))) (t.map λp=>V.str (jn p.1.dropLast)):Nat):Int)<=16))) H';rw[e2];exact hR H' (.refl _)
 rw[Gi] at h7;have h7':H7 l7=some (.lst ((t.map λp=>decide (W8 t p.1.dropLast<=16)).map V.bl)):=by rw[h7,aL];rfl
 have s17:=s1.trans s7;refine⟨l7,_,rfl,A7.of h7',_,rfl,?_⟩;cases a1:(t.map λp=>decide (W8 t p.1.dropLast<=16)).all id with
 |false=>
  refine AU rfl (q2 (λb=>?_) H7 s17);rw[(Lm t _).mpr λp hp=>aE (b.fld p hp)] at a1;cases a1
 |true=>
  have f16:∀p∈t,W8 t p.1.dropLast<=16:=λp hp=>aW ((Lm t _).mp a1 p hp)
  refine Ay rfl ?_;have hd7:=s17.get hd;refine⟨_,rfl,d,_,rfl,hd7,λo=>?_⟩;have hf:(upd H7 d (.frz o (.dK (CI t)))) d=some (.frz o (.dK (CI t))):=Ae;have th:∀H2,AJ (upd H7 d (.frz o (.dK (CI t)))) H2->AJ H7 (upd H2 d (.dK (CI t))):=λH2 s2=>II hd7 s2
  have fre:∀l,(upd H7 d (.frz o (.dK (CI t)))) l=none->l≠d:=λl nl w=>by rw[w,hf] at nl;cases nl
  generalize upd H7 d (.frz o (.dK (CI t)))=Hf at hf th fre;refine Cv (ps:=t) (λ_=>true) (λp=>V.bl (decide (p.1.length<=8))) (VH hf) (by omega) (λr hr H' R s' hR=>hR) (λp hp _ H' R s' hR=>?_) λl8 H8 n8 s8 h8=>?_
  ·obtain⟨I,st,e⟩:=DU (tv.vp p hp).2;have v:=(tv.vp p hp).1;rw[e] at v hR ⊢;refine⟨_,rfl,rfl,jn (I++[st]),SL,rfl,rfl,?_⟩;rw[UY v];refine⟨_,_,rfl,rfl,?_⟩;have e2:V.bl (decide ((I.length:Int)<8))=V.bl (decide ((I++[st]).length<=8)):=by
    congr 1
    rw[dg,aM,bz];omega
   show R (V.bl (decide ((I.length:Int)<8))) H';rw[e2];exact hR H' (.refl _)
  rw[Gi] at h8;have h8':H8 l8=some (.lst ((t.map λp=>decide (p.1.length<=8)).map V.bl)):=by rw[h8,aL];rfl
  have s18:=s17.trans (th H8 s8);refine⟨d,o,_,nf,s8.get hf,l8,_,rfl,A7.of (by rw[Ax (fre l8 n8)];exact h8'),_,rfl,?_⟩;cases a2:(t.map λp=>decide (p.1.length<=8)).all id with
  |false=>
   refine AU rfl (q2 (λb=>?_) _ s18);rw[(Lm t _).mpr λp hp=>aE (b.deep p hp)] at a2;cases a2
  |true=>
   have d8:∀p∈t,p.1.length<=8:=λp hp=>aW ((Lm t _).mp a2 p hp)
   refine Ay rfl ?_;have hd8:=s18.get hd;generalize upd H8 d (.dK (CI t))=H8t at s18 hd8;refine⟨_,rfl,d,_,rfl,hd8,λo2=>?_⟩;have hf2:(upd H8t d (.frz o2 (.dK (CI t)))) d=some (.frz o2 (.dK (CI t))):=Ae;have th2:∀H2,AJ (upd H8t d (.frz o2 (.dK (CI t)))) H2->AJ H8t (upd H2 d (.dK (CI t))):=λH2 s2=>II hd8 s2
   have fre2:∀l,(upd H8t d (.frz o2 (.dK (CI t)))) l=none->l≠d:=λl nl w=>by rw[w,hf2] at nl;cases nl
   generalize upd H8t d (.frz o2 (.dK (CI t)))=Hg at hf2 th2 fre2;have it:=Uj hf2;unfold CI at it;rw[aL] at it
   change Kd (Zn d o2 (CI t)) Hg (t.map λp=>cV p.2) at it
   refine Cv (ps:=t) (λ_=>true) (λp=>V.bl (match p.2 with|none=>true|some c=>decide (c.length<=400))) it (by omega) (λr hr H' R s' hR=>hR) (λp hp _ H' R s' hR=>?_) λl9 H9 n9 s9 h9=>?_
   ·cases e:p.2 with
    |none=>
     rw[e] at hR;exact⟨_,rfl,_,rfl,AU rfl (hR H' (.refl _))⟩
    |some c=>
     have lc:=hc p hp c e;rw[e] at hR;refine⟨_,rfl,_,rfl,Ay rfl ⟨_,rfl,c,rfl,small (by omega),_,_,rfl,rfl,?_⟩⟩;have e2:V.bl (decide ((c.length:Int)<=400))=V.bl (decide (c.length<=400)):=by
      congr 1
      rw[dg];omega
     show R (V.bl (decide ((c.length:Int)<=400))) H';rw[e2];exact hR H' (.refl _)
   rw[Gi] at h9;have h9':H9 l9=some (.lst ((t.map λp=>(match p.2 with|none=>true|some c=>decide (c.length<=400):Bool)).map V.bl)):=by rw[h9,aL];rfl
   have s19:=s18.trans (th2 H9 s9);refine⟨d,o2,_,nf,s9.get hf2,l9,_,rfl,A7.of (by rw[Ax (fre2 l9 n9)];exact h9'),_,rfl,?_⟩;cases a3:(t.map λp=>(match p.2 with|none=>true|some c=>decide (c.length<=400):Bool)).all id with
   |false=>
    refine AU rfl (q2 (λb=>?_) _ s19);rw[(Lm t _).mpr λp hp=>by
     cases e:p.2 with
     |none=>rfl
     |some c=>exact aE (b.ct p hp c e)] at a3
    cases a3
   |true=>
    refine Ay rfl (q1 ⟨c60,f16,d8,λp hp c e=>?_⟩ _ s19);have:=(Lm t _).mp a3 p hp;rw[e] at this;exact aW this
end
inductive De where
 |keeper (nm:Str) (b:Int)|stem (nm kp:Str)|sea (sm nm:Str)|grow (nm sl kp:Str)|tree (sm:Str) (src:Option Str) (f:Bt->Bt->Rf ⊕ Bt)|back (sm:Str)|graft (sm:Str)|drop (nm:Str)
def CH (s:Str)(es:List En):Prop:=∃k o t,En.st s k o t∈es
def Gy (s:Str)(es:List En):Prop:=∃sm n t,En.sl s sm n t∈es
def Xc (s:Str)(es:List En):Prop:=∃nm n t,En.sl nm s n t∈es
def Sr (nm:Str)(es:List En)(z:Str):Prop:=(CH nm es/\∃n t,En.sl z nm n t∈es)\/(¬CH nm es/\z=nm)
def PY (nm:Str)(es:List En)(z:Str):Prop:=Sr nm es z/\∃s k t,En.st s k z t∈es
def R7 (q:Str->Prop)(z:Str):Prop:=q z/\∀y,q y->¬NH y z
theorem Tq {q:Str->Prop}{y z:Str}(hy:R7 q y)(hz:R7 q z):y=z:=Classical.byContradiction λne=>(λh=>hy.2 z hz.1 (Px h λe=>ne e)) (hz.2 y hy.1)
def Ks (es:List En)(src:Option Str)(ts:Bt):Prop:=match src with
 |none=>ts=[]
 |some nm=>∃e∈es,e.nm=nm/\e.tr=ts
inductive Ref (ks:List Str) (es:List En):De->Option Rf->Prop where
 |keeper (nm b):Ref ks es (.keeper nm b) (if C6 (.str nm)=true then(if nm∈ks\/ks.length<8 then none else some .many) else some (.noName nm))
 |stem (nm kp):Ref ks es (.stem nm kp) (Gs nm kp ks (es.map En.nm))
 |sea0 (sm nm):¬CH sm es->Ref ks es (.sea sm nm) (some (.noName sm))
 |sea1 (sm nm):CH sm es->Ref ks es (.sea sm nm) (match FC nm (es.map En.nm) with|some r=>some r|none=>if(es.map En.nm).length<24 then none else some .many)
 |grow0 (nm sl kp r):FC nm (es.map En.nm)=some r->Ref ks es (.grow nm sl kp) (some r)
 |grow1 (nm sl kp):FC nm (es.map En.nm)=none->¬Gy sl es->Ref ks es (.grow nm sl kp) (some (.noName sl))
 |grow2 (nm sl kp):Gy sl es->Ref ks es (.grow nm sl kp) (Gs nm kp ks (es.map En.nm))
 |tree0 (sm src f):¬CH sm es->Ref ks es (.tree sm src f) (some (.noName sm))
 |tree1 (sm nm f):CH sm es->nm∉es.map En.nm->Ref ks es (.tree sm (some nm) f) (some (.noName nm))
 |tree2 (sm src f k o t ts r):En.st sm k o t∈es->Ks es src ts->f t ts=.inl r->Ref ks es (.tree sm src f) (some r)
 |tree3 (sm src f k o t ts t'):En.st sm k o t∈es->Ks es src ts->f t ts=.inr t'->¬BOk t'->Ref ks es (.tree sm src f) (some .many)
 |tree4 (sm src f k o t ts t'):En.st sm k o t∈es->Ks es src ts->f t ts=.inr t'->BOk t'->Ref ks es (.tree sm src f) none
 |back0 (sm):¬CH sm es->Ref ks es (.back sm) (some (.noName sm))
 |back1 (sm):CH sm es->¬Xc sm es->Ref ks es (.back sm) (some (.bare sm))
 |back2 (sm):CH sm es->Xc sm es->Ref ks es (.back sm) none
 |graft0 (sm):¬CH sm es->Ref ks es (.graft sm) (some (.noName sm))
 |graft1 (sm k t):En.st sm k EM t∈es->Ref ks es (.graft sm) (some (.bare sm))
 |graft2 (sm k o t):En.st sm k o t∈es->o≠EM->Ref ks es (.graft sm) none
 |drop0 (nm):nm∉es.map En.nm->Ref ks es (.drop nm) (some (.noName nm))
 |drop1 (nm z):nm∈es.map En.nm->R7 (PY nm es) z->Ref ks es (.drop nm) (some (.grown z))
 |drop2 (nm):nm∈es.map En.nm->(∀z,¬PY nm es z)->Ref ks es (.drop nm) none
theorem CD {es:List En}(nd:(es.map En.nm).Nodup){s k o k' o':Str}{t t':Bt}(h:En.st s k o t∈es)(h':En.st s k' o' t'∈es):k=k'/\o=o'/\t=t':=by
 have:=D1 nd h h' rfl;cases this;exact⟨rfl,rfl,rfl⟩
theorem Q5 {es:List En}(nd:(es.map En.nm).Nodup){s k k':Str}{o o':Int}{t t':Bt}(h:En.sl s k o t∈es)(h':En.sl s k' o' t'∈es):k=k'/\o=o'/\t=t':=by
 have:=D1 nd h h' rfl;cases this;exact⟨rfl,rfl,rfl⟩
theorem UT {es:List En}(nd:(es.map En.nm).Nodup){s:Str}(h:CH s es)(h':Gy s es):False:=by
 obtain⟨_,_,_,h⟩:=h;obtain⟨_,_,_,h'⟩:=h';have:=D1 nd h h' rfl;cases this
theorem Nf {nm kp:Str}{ks ns:List Str}{r:Rf}(h:FC nm ns=some r):Gs nm kp ks ns=some r:=by
 unfold Gs;rw[h]
theorem UL {nm kp:Str}{ks ns:List Str}(h:Gs nm kp ks ns=none):FC nm ns=none:=by
 cases e:FC nm ns with
 |none=>rfl
 |some r=>rw[Nf e] at h;cases h
theorem KU {es:List En}{nm:Str}{ts:Bt}(h:Ks es (some nm) ts):nm∈es.map En.nm:=by
 obtain⟨e,he,en,_⟩:=h;exact aA.mpr ⟨e,he,en⟩
theorem FA {es:List En}(nd:(es.map En.nm).Nodup){src:Option Str}{ts ts':Bt}(h:Ks es src ts)(h':Ks es src ts'):ts=ts':=by
 cases src with
 |none=>rw[show ts=[] from h,show ts'=[] from h']
 |some nm=>
  obtain⟨e,he,en,et⟩:=h;obtain⟨e',he',en',et'⟩:=h';rw[<-et,<-et',D1 nd he he' (by rw[en,en'])]
theorem Ref.one {es:List En}(nd:(es.map En.nm).Nodup){ks:List Str}{d:De}{r r':Option Rf}(h:Ref ks es d r)(h':Ref ks es d r'):r=r':=by
 cases h with
 |keeper nm b=>cases h';rfl
 |stem nm kp=>cases h';rfl
 |sea0 sm nm h=>cases h' with|sea0 _ _ _=>rfl|sea1 _ _ h2=>exact absurd h2 h
 |sea1 sm nm h=>cases h' with|sea0 _ _ h2=>exact absurd h h2|sea1 _ _ _=>rfl
 |grow0 nm sl kp r h=>cases h' with
  |grow0 _ _ _ r' h2=>rw[h] at h2;exact h2
  |grow1 _ _ _ h2 _=>rw[h] at h2;cases h2
  |grow2 _ _ _ h2=>exact(Nf h).symm
 |grow1 nm sl kp h h2=>cases h' with
  |grow0 _ _ _ r' h3=>rw[h] at h3;cases h3
  |grow1 _ _ _ _ _=>rfl
  |grow2 _ _ _ h3=>exact absurd h3 h2
 |grow2 nm sl kp h=>cases h' with
  |grow0 _ _ _ r' h3=>exact Nf h3
  |grow1 _ _ _ _ h3=>exact absurd h h3
  |grow2 _ _ _ h3=>rfl
 |tree0 sm src f h=>cases h' with|tree0 _ _ _ _=>rfl|tree1 _ _ _ h2 _=>exact absurd h2 h|tree2 _ _ _ k o t _ _ m=>exact absurd ⟨k,o,t,m⟩ h|tree3 _ _ _ k o t _ _ m=>exact absurd ⟨k,o,t,m⟩ h|tree4 _ _ _ k o t _ _ m=>exact absurd ⟨k,o,t,m⟩ h
 |tree1 sm nm f h n=>cases h' with|tree0 _ _ _ h2=>exact absurd h h2|tree1 _ _ _ _ _=>rfl|tree2 _ _ _ _ _ _ _ _ _ s=>exact absurd (KU s) n|tree3 _ _ _ _ _ _ _ _ _ s=>exact absurd (KU s) n|tree4 _ _ _ _ _ _ _ _ _ s=>exact absurd (KU s) n
 |tree2 sm src f k o t ts r m s e=>cases h' with
  |tree0 _ _ _ h2=>exact absurd ⟨k,o,t,m⟩ h2
  |tree1 _ _ _ _ n=>exact absurd (KU s) n
  |tree2 _ _ _ k' o' t' ts' r' m' s' e'=>obtain⟨_,_,rfl⟩:=CD nd m m';rw[FA nd s s',e'] at e;cases e;rfl
  |tree3 _ _ _ k' o' t' ts' r' m' s' e' _=>obtain⟨_,_,rfl⟩:=CD nd m m';rw[FA nd s s',e'] at e;cases e
  |tree4 _ _ _ k' o' t' ts' r' m' s' e' _=>obtain⟨_,_,rfl⟩:=CD nd m m';rw[FA nd s s',e'] at e;cases e
 |tree3 sm src f k o t ts t2 m s e b=>cases h' with
  |tree0 _ _ _ h2=>exact absurd ⟨k,o,t,m⟩ h2
  |tree1 _ _ _ _ n=>exact absurd (KU s) n
  |tree2 _ _ _ k' o' t' ts' r' m' s' e'=>obtain⟨_,_,rfl⟩:=CD nd m m';rw[FA nd s s',e'] at e;cases e
  |tree3 _ _ _ k' o' t' ts' r' m' s' e' _=>rfl
  |tree4 _ _ _ k' o' t' ts' r' m' s' e' b'=>obtain⟨_,_,rfl⟩:=CD nd m m';rw[FA nd s s',e'] at e;cases e;exact absurd b' b
 |tree4 sm src f k o t ts t2 m s e b=>cases h' with
  |tree0 _ _ _ h2=>exact absurd ⟨k,o,t,m⟩ h2
  |tree1 _ _ _ _ n=>exact absurd (KU s) n
  |tree2 _ _ _ k' o' t' ts' r' m' s' e'=>obtain⟨_,_,rfl⟩:=CD nd m m';rw[FA nd s s',e'] at e;cases e
  |tree3 _ _ _ k' o' t' ts' r' m' s' e' b'=>obtain⟨_,_,rfl⟩:=CD nd m m';rw[FA nd s s',e'] at e;cases e;exact absurd b b'
  |tree4 _ _ _ k' o' t' ts' r' m' s' e' _=>rfl
 |back0 sm h=>cases h' with|back0 _ _=>rfl|back1 _ h2 _=>exact absurd h2 h|back2 _ h2 _=>exact absurd h2 h
 |back1 sm h h2=>cases h' with|back0 _ h3=>exact absurd h h3|back1 _ _ _=>rfl|back2 _ _ h3=>exact absurd h3 h2
 |back2 sm h h2=>cases h' with|back0 _ h3=>exact absurd h h3|back1 _ _ h3=>exact absurd h2 h3|back2 _ _ _=>rfl
 |graft0 sm h=>cases h' with|graft0 _ _=>rfl|graft1 _ _ _ h2=>exact absurd ⟨_,_,_,h2⟩ h|graft2 _ _ _ _ h2 _=>exact absurd ⟨_,_,_,h2⟩ h
 |graft1 sm k t h=>cases h' with|graft0 _ h2=>exact absurd ⟨_,_,_,h⟩ h2|graft1 _ _ _ h2=>rfl|graft2 _ _ _ _ h2 n=>exact absurd (CD nd h h2).2.1.symm n
 |graft2 sm k o t h n=>cases h' with|graft0 _ h2=>exact absurd ⟨_,_,_,h⟩ h2|graft1 _ _ _ h2=>exact absurd (CD nd h h2).2.1 n|graft2 _ _ _ _ h2 _=>rfl
 |drop0 nm h=>cases h' with|drop0 _ _=>rfl|drop1 _ _ h2 _=>exact absurd h2 h|drop2 _ h2 _=>exact absurd h2 h
 |drop1 nm z h h2=>cases h' with|drop0 _ h3=>exact absurd h h3|drop1 _ y _ h3=>rw[Tq h2 h3]|drop2 _ _ h3=>exact absurd h2.1 (h3 z)
 |drop2 nm h h2=>cases h' with|drop0 _ h3=>exact absurd h h3|drop1 _ y _ h3=>exact absurd h3.1 (h2 y)|drop2 _ _ _=>rfl
def wr (s:Str)(t:Bt):En->En
 | .st nm k o t0=>if nm=s then .st nm k o t else .st nm k o t0
 | .sl nm k o t0=>.sl nm k o t0
inductive Step (n:Int) (es es':List En):De->Prop where
 |keeper (nm b):es'.Perm es->Step n es es' (.keeper nm b)
 |stem (nm kp):es'.Perm (es++[.st nm kp EM []])->Step n es es' (.stem nm kp)
 |sea (sm nm k o t):En.st sm k o t∈es->es'.Perm (es++[.sl nm sm n t])->Step n es es' (.sea sm nm)
 |grow (nm sl kp sm m t):En.sl sl sm m t∈es->es'.Perm (es++[.st nm kp sl t])->Step n es es' (.grow nm sl kp)
 |tree (sm src f k o t ts t'):En.st sm k o t∈es->Ks es src ts->f t ts=.inr t'->es'.Perm (es.map (wr sm t'))->Step n es es' (.tree sm src f)
 |back (sm nm m t):En.sl nm sm m t∈es->(∀nm' m' t',En.sl nm' sm m' t'∈es->m'<=m)->es'.Perm (es.map (wr sm t))->Step n es es' (.back sm)
 |graft (sm k o t p m t2 k3 o3 t3):En.st sm k o t∈es->En.sl o p m t2∈es->En.st p k3 o3 t3∈es->es'.Perm (es.map (gr sm p o o3 m))->Step n es es' (.graft sm)
 |drop (nm) (q:En->Bool):(∀e,q e=true↔¬(e.nm=nm\/Sr nm es e.nm))->es'.Perm (es.filter q)->Step n es es' (.drop nm)
theorem Step.one {n:Int}{es e1 e2:List En}{d:De}(nd:(es.map En.nm).Nodup)(tn:∀nm s m t nm' s' t',En.sl nm s m t∈es->En.sl nm' s' m t'∈es->nm=nm')(h:Step n es e1 d)(h':Step n es e2 d):e1.Perm e2:=by
 cases h with
 |keeper nm b h=>cases h' with|keeper _ _ h'=>exact h.trans h'.symm
 |stem nm kp h=>cases h' with|stem _ _ h'=>exact h.trans h'.symm
 |sea sm nm k o t m h=>cases h' with
  |sea _ _ k' o' t' m' h'=>
   obtain⟨rfl,rfl,rfl⟩:=CD nd m m';exact h.trans h'.symm
 |grow nm sl kp sm i t m h=>cases h' with
  |grow _ _ _ sm' i' t' m' h'=>
   obtain⟨rfl,rfl,rfl⟩:=Q5 nd m m';exact h.trans h'.symm
 |tree sm src f k o t ts t1 m s e h=>cases h' with
  |tree _ _ _ k' o' t' ts' t2 m' s' e' h'=>
   obtain⟨_,_,rfl⟩:=CD nd m m';rw[FA nd s s',e'] at e;cases e;exact h.trans h'.symm
 |back sm nm i t m top h=>cases h' with
  |back _ nm' i' t' m' top' h'=>
   have l1:=top nm' i' t' m';have l2:=top' nm i t m;have e:i=i':=by omega
   subst e;have:=tn _ _ _ _ _ _ _ m m';subst this;obtain⟨_,_,rfl⟩:=Q5 nd m m';exact h.trans h'.symm
 |graft sm k o t p i t2 k3 o3 t3 m1 m2 m3 h=>cases h' with
  |graft _ k' o' t' p' i' t2' k3' o3' t3' m1' m2' m3' h'=>
   obtain⟨rfl,rfl,rfl⟩:=CD nd m1 m1';obtain⟨rfl,rfl,rfl⟩:=Q5 nd m2 m2';obtain⟨rfl,rfl,rfl⟩:=CD nd m3 m3';exact h.trans h'.symm
 |drop nm q hq h=>cases h' with
  |drop _ q' hq' h'=>
   have:q=q':=funext λe=>by rw[cq,hq,hq']
   subst this;exact h.trans h'.symm
structure TrOk (t:Bt):Prop where
 v:TrV t
 b:BOk t
structure Wl (ag:Int) (es:List En):Prop where
 nd:(es.map En.nm).Nodup
 og:∀nm k o t,En.st nm k o t∈es->o=EM\/Gy o es
 sm:∀nm s n t,En.sl nm s n t∈es->CH s es/\n<=ag
 tn:∀nm s m t nm' s' t',En.sl nm s m t∈es->En.sl nm' s' m t'∈es->nm=nm'
 nb:∀e∈es,C6 (.str e.nm)=true
 tr:∀e∈es,TrOk e.tr
 few:es.length<=24
theorem Wl.perm {ag:Int}{es es2:List En}(w:Wl ag es)(h:es2.Perm es):Wl ag es2:=by
 have up1:∀{s},CH s es->CH s es2:=λ⟨k,o,t,z⟩=>⟨k,o,t,h.mem_iff.mpr z⟩
 have up2:∀{s},Gy s es->Gy s es2:=λ⟨k,o,t,z⟩=>⟨k,o,t,h.mem_iff.mpr z⟩
 exact⟨(h.map _).nodup_iff.mpr w.nd,λnm k o t z=>(w.og nm k o t (h.mem_iff.mp z)).imp id up2,λnm s n t z=>(w.sm nm s n t (h.mem_iff.mp z)).imp up1 id,λnm s m t nm' s' t' z z'=>w.tn nm s m t nm' s' t' (h.mem_iff.mp z) (h.mem_iff.mp z'),λe he=>w.nb e (h.mem_iff.mp he),λe he=>w.tr e (h.mem_iff.mp he),by rw[h.length_eq];exact w.few⟩
theorem Wl.older {ag ag':Int}{es:List En}(w:Wl ag es)(h:ag<=ag'):Wl ag' es:=⟨w.nd,w.og,λnm s n t z=>(w.sm nm s n t z).imp id λy=>Int.le_trans y h,w.tn,w.nb,w.tr,w.few⟩
theorem Ki {nm:Str}{ns:List Str}(h:FC nm ns=none):C6 (.str nm)=true/\nm∉ns:=by
 unfold FC at h
 by_cases c:C6 (.str nm)=true
 ·rw[aI c] at h
  by_cases d:nm∈ns
  ·rw[aI d] at h;cases h
  ·exact⟨c,d⟩
 ·rw[aF c] at h;cases h
theorem Lg {nm kp:Str}{ks ns:List Str}(h:Gs nm kp ks ns=none):FC nm ns=none/\kp∈ks/\ns.length<24:=by
 have h0:=UL h;unfold Gs at h;rw[h0] at h
 change (if kp∈ks then(if ns.length<24 then none else some Rf.many) else some (.noName kp))=none at h
 by_cases c:kp∈ks
 ·rw[aI c] at h
  by_cases d:ns.length<24
  ·exact⟨h0,c,d⟩
  ·rw[aF d] at h;cases h
 ·rw[aF c] at h;cases h
theorem Wl.add {ag:Int}{es:List En}(w:Wl ag es){e:En}(hn:FC e.nm (es.map En.nm)=none)(few:es.length<24)(tr:TrOk e.tr)(hs:∀nm k o t,e=.st nm k o t->o=EM\/Gy o es)(hl:∀nm s n t,e=.sl nm s n t->CH s es/\n=ag+1):Wl (ag+1) (es++[e]):=by
 obtain⟨nb,nn⟩:=Ki hn;have up1:∀{s},CH s es->CH s (es++[e]):=λ⟨k,o,t,h⟩=>⟨k,o,t,bO _ h⟩
 have up2:∀{s},Gy s es->Gy s (es++[e]):=λ⟨k,o,t,h⟩=>⟨k,o,t,bO _ h⟩
 refine⟨?_,λnm k o t h=>?_,λnm s n t h=>?_,λnm s m t nm' s' t' h h'=>?_,λx hx=>?_,λx hx=>?_,by rw[aM,bz];omega⟩
 ·rw[bx,eZ];refine⟨w.nd,by simp,λa ha b hb z=>?_⟩;rw[List.map_singleton,aG] at hb;rw[z,hb] at ha;exact nn ha
 ·rcases bu.mp h with h|h
  ·exact(w.og nm k o t h).imp id up2
  ·exact(hs nm k o t (aG.mp h).symm).imp id up2
 ·rcases bu.mp h with h|h
  ·exact⟨up1 (w.sm nm s n t h).1,by have:=(w.sm nm s n t h).2;omega⟩
  ·obtain⟨h1,h2⟩:=hl nm s n t (aG.mp h).symm;exact⟨up1 h1,by omega⟩
 ·rcases bu.mp h with h|h
  ·rcases bu.mp h' with h'|h'
   ·exact w.tn nm s m t nm' s' t' h h'
   ·have h1:=(hl nm' s' m t' (aG.mp h').symm).2;have h2:=(w.sm nm s m t h).2;omega
  ·have h1:=(hl nm s m t (aG.mp h).symm).2;rcases bu.mp h' with h'|h'
   ·have h2:=(w.sm nm' s' m t' h').2;omega
   ·have:=(aG.mp h).trans (aG.mp h').symm;cases this;rfl
 ·rcases bu.mp hx with hx|hx
  ·exact w.nb x hx
  ·rw[aG.mp hx];exact nb
 ·rcases bu.mp hx with hx|hx
  ·exact w.tr x hx
  ·rw[aG.mp hx];exact tr
theorem Wl.map {ag:Int}{es:List En}(w:Wl ag es){g:En->En}(hs:∀nm k o t,En.st nm k o t∈es->∃o' t',g (.st nm k o t)=.st nm k o' t'/\(o'=EM\/Gy o' es)/\TrOk t')(hl:∀nm s n t,En.sl nm s n t∈es->∃s',g (.sl nm s n t)=.sl nm s' n t/\CH s' es):Wl ag (es.map g):=by
 have gn:∀e∈es,(g e).nm=e.nm:=λe he=>by
  cases e with
  |st nm k o t=>obtain⟨o',t',e,_⟩:=hs nm k o t he;rw[e];rfl
  |sl nm s n t=>obtain⟨s',e,_⟩:=hl nm s n t he;rw[e];rfl
 have up1:∀{s},CH s es->CH s (es.map g):=λ⟨k,o,t,h⟩=>by
  obtain⟨o',t',e,_⟩:=hs _ k o t h;exact⟨k,o',t',aA.mpr ⟨_,h,e⟩⟩
 have up2:∀{s},Gy s es->Gy s (es.map g):=λ⟨k,o,t,h⟩=>by
  obtain⟨s',e,_⟩:=hl _ k o t h;exact⟨s',o,t,aA.mpr ⟨_,h,e⟩⟩
 have bst:∀nm k o t,En.st nm k o t∈es.map g->(o=EM\/Gy o es)/\TrOk t:=λnm k o t h=>by
  obtain⟨e,he,z⟩:=aA.mp h;cases e with
  |st nm0 k0 o0 t0=>
   obtain⟨o',t',e,h1,h2⟩:=hs _ _ _ _ he;rw[e] at z;cases z;exact⟨h1,h2⟩
  |sl nm0 s0 n0 t0=>
   obtain⟨s',e,_⟩:=hl _ _ _ _ he;rw[e] at z;cases z
 have bsl:∀nm s n t,En.sl nm s n t∈es.map g->CH s es/\∃s0,En.sl nm s0 n t∈es:=λnm s n t h=>by
  obtain⟨e,he,z⟩:=aA.mp h;cases e with
  |st nm0 k0 o0 t0=>
   obtain⟨o',t',e,_⟩:=hs _ _ _ _ he;rw[e] at z;cases z
  |sl nm0 s0 n0 t0=>
   obtain⟨s',e,h1⟩:=hl _ _ _ _ he;rw[e] at z;cases z;exact⟨h1,_,he⟩
 refine⟨?_,λnm k o t h=>(bst nm k o t h).1.imp id up2,λnm s n t h=>?_,λnm s m t nm' s' t' h h'=>?_,λx hx=>?_,λx hx=>?_,by rw[ax];exact w.few⟩
 ·rw[aL,show es.map (En.nm∘g)=es.map En.nm from aZ λe he=>gn e he];exact w.nd
 ·obtain⟨h1,s0,h2⟩:=bsl nm s n t h;exact⟨up1 h1,(w.sm _ _ _ _ h2).2⟩
 ·obtain⟨_,_,h1⟩:=bsl _ _ _ _ h;obtain⟨_,_,h2⟩:=bsl _ _ _ _ h';exact w.tn _ _ _ _ _ _ _ h1 h2
 ·obtain⟨e,he,rfl⟩:=aA.mp hx;rw[gn e he];exact w.nb e he
 ·cases x with
  |st nm k o t=>exact(bst nm k o t hx).2
  |sl nm s n t=>
   obtain⟨_,_,h2⟩:=bsl nm s n t hx;have:=w.tr _ h2;exact this
def De.Ok:De->Prop
 | .tree _ _ f=>∀t ts t',TrOk t->(ts=[]\/TrOk ts)->f t ts=.inr t'->TrV t'
 |_=>True
theorem Wl.wr {ag:Int}{es:List En}(w:Wl ag es)(s:Str){t:Bt}(h:TrOk t):Wl ag (es.map (wr s t)):=by
 refine w.map (λnm k o t0 z=>?_) (λnm s n t z=>⟨s,rfl,(w.sm nm s n t z).1⟩)
 by_cases c:nm=s
 ·exact⟨o,t,aI c,w.og _ _ _ _ z,h⟩
 ·exact⟨o,t0,aF c,w.og _ _ _ _ z,w.tr _ z⟩
theorem Wl.step {ag:Int}{es es':List En}{ks:List Str}{d:De}{r:Option Rf}(w:Wl ag es)(ok:d.Ok)(hr:Ref ks es d r)(e:r=none)(hs:Step (ag+1) es es' d):Wl (ag+1) es':=by
 have le:ag<=ag+1:=by omega
 have em:TrOk []:=⟨⟨dc,(λ_ h=>nomatch h),(λ_ h=>nomatch h),by decide⟩,⟨by decide,(λ_ h=>nomatch h),(λ_ h=>nomatch h),λ_ h=>nomatch h⟩⟩
 cases hs with
 |keeper nm b h=>exact(w.older le).perm h
 |stem nm kp h=>
  cases hr;obtain⟨h1,h2,h3⟩:=Lg e;rw[ax] at h3;exact(w.add (e:=.st nm kp EM []) h1 h3 em (λ_ _ _ _ z=>by cases z;exact .inl rfl) (λ_ _ _ _ z=>by cases z)).perm h
 |sea sm nm k o t m h=>
  cases hr with
  |sea0 _ _ h2=>cases e
  |sea1 _ _ h2=>
   cases e1:FC nm (es.map En.nm) with
   |some r=>rw[e1] at e;cases e
   |none=>
    rw[e1] at e
    change (if(es.map En.nm).length<24 then none else some Rf.many)=none at e
    by_cases l:(es.map En.nm).length<24
    ·rw[ax] at l;exact(w.add (e:=.sl nm sm (ag+1) t) e1 l (by have:=w.tr _ m;exact this) (λ_ _ _ _ z=>by cases z) (λ_ _ _ _ z=>by cases z;exact⟨h2,rfl⟩)).perm h
    ·rw[aF l] at e;cases e
 |grow nm sl kp sm i t m h=>
  cases hr with
  |grow0 _ _ _ r h2=>cases e
  |grow1 _ _ _ h2 h3=>cases e
  |grow2 _ _ _ h2=>
   obtain⟨h1,h2',h3⟩:=Lg e;rw[ax] at h3;exact(w.add (e:=.st nm kp sl t) h1 h3 (by have:=w.tr _ m;exact this) (λ_ _ _ _ z=>by cases z;exact .inr h2) (λ_ _ _ _ z=>by cases z)).perm h
 |tree sm src f k o t ts t1 m s e1 h=>
  have ft:TrV t1:=by
   refine ok t ts t1 (w.tr _ m) ?_ e1;cases src with
   |none=>exact .inl s
   |some nm=>
    obtain⟨x,hx,_,rfl⟩:=s;exact .inr (w.tr x hx)
  have fb:BOk t1:=by
   cases hr with
   |tree0 _ _ _ _=>cases e
   |tree1 _ _ _ _ _=>cases e
   |tree2 _ _ _ _ _ _ _ _ _ _ _=>cases e
   |tree3 _ _ _ _ _ _ _ _ _ _ _ _=>cases e
   |tree4 _ _ _ k' o' t' ts' t2 m' s' e' b=>
    obtain⟨_,_,rfl⟩:=CD w.nd m m';rw[FA w.nd s s',e'] at e1;cases e1;exact b
  exact((w.older le).wr sm ⟨ft,fb⟩).perm h
 |back sm nm i t m top h=>exact((w.older le).wr sm (w.tr _ m)).perm h
 |graft sm k o t p i t2 k3 o3 t3 m1 m2 m3 h=>
  refine((w.older le).map (g:=gr sm p o o3 i) (λnm k' o' t' z=>?_) (λnm s n t' z=>?_)).perm h
  ·by_cases c:nm=sm
   ·exact⟨o3,t',aI c,w.og _ _ _ _ m3,w.tr _ z⟩
   ·by_cases c2:nm=p
    ·exact⟨o,t',(aF c).trans (aI c2),.inr ⟨_,_,_,m2⟩,w.tr _ z⟩
    ·exact⟨o',t',(aF c).trans (aF c2),w.og _ _ _ _ z,w.tr _ z⟩
  ·by_cases c:s=p/\n<=i
   ·exact⟨sm,aI c,_,_,_,m1⟩
   ·exact⟨s,aF c,(w.sm _ _ _ _ z).1⟩
 |drop nm q hq h=>
  cases hr with
  |drop0 _ h2=>cases e
  |drop1 _ z h2 h3=>cases e
  |drop2 _ h2 h3=>
   have kst:∀{s},s≠nm->CH s es->CH s (es.filter q):=λ{s} n ⟨k,o,t,z⟩=>⟨k,o,t,aO.mpr ⟨z,(hq _).mpr λy=>y.elim n λy=>by
    rcases y with⟨_,n',t',y⟩|⟨_,y⟩
    ·exact UT w.nd ⟨_,_,_,z⟩ ⟨_,_,_,y⟩
    ·exact n y⟩⟩
   refine Wl.perm ⟨(w.nd.sublist (List.filter_sublist.map _)),λnm' k o t z=>?_,λnm' s n t z=>?_,λa b m c a' b' c' z z'=>w.tn a b m c a' b' c' (aO.mp z).1 (aO.mp z').1,λx hx=>w.nb x (aO.mp hx).1,λx hx=>w.tr x (aO.mp hx).1,bj (bp _ _) w.few⟩ h
   ·have z1:=(aO.mp z).1;rcases w.og _ _ _ _ z1 with y|y
    ·exact .inl y
    ·obtain⟨s2,n2,t2,y⟩:=y;refine .inr ⟨s2,n2,t2,aO.mpr ⟨y,(hq _).mpr λx=>?_⟩⟩;rcases x with x|x
     ·have x:o=nm:=x
      by_cases c:CH nm es
      ·exact UT w.nd c ⟨_,_,_,x▸y⟩
      ·exact h3 o ⟨.inr ⟨c,x⟩,_,_,_,z1⟩
     ·exact h3 o ⟨x,_,_,_,z1⟩
   ·obtain⟨z1,z2⟩:=aO.mp z;obtain⟨h4,h5⟩:=w.sm _ _ _ _ z1;refine⟨kst (λc=>?_) h4,by omega⟩;subst c;exact(hq _).mp z2 (.inr (.inl ⟨h4,_,_,z1⟩))
structure KH (x:Addr) (H H':Hp):Prop where
 at_:∃C dx fs,H x=some (.ins C dx fs)
 keep:∀b o,b≠x->(∀ps,o≠.tbl ps)->H b=some o->H' b=some o
 there:∀b,H' b=none->H b=none
theorem St.kh {x:Addr}{H H':Hp}(s:St H H')(at_:∃C dx fs,H x=some (.ins C dx fs)):KH x H H':=⟨at_,λb o _ n h=>s.keep b o n h,s.there⟩
theorem KH.trans {x:Addr}{H H1 H2:Hp}(a:KH x H H1)(b:KH x H1 H2):KH x H H2:=⟨a.at_,λc o e n h=>b.keep c o e n (a.keep c o e n h),λc h=>a.there c (b.there c h)⟩
theorem KH.upd {x:Addr}{H H1:Hp}(a:KH x H H1)(o:HO):KH x H (upd H1 x o):=by
 refine⟨a.at_,λc o' e n h=>by rw[Ax e];exact a.keep c o' e n h,λc h=>?_⟩
 by_cases z:c=x
 ·rw[z,Ae] at h;cases h
 ·rw[Ax z] at h;exact a.there c h
theorem KH.ne {x:Addr}{H H':Hp}(k:KH x H H'){b:Addr}{o:HO}(h:H b=some o)(n:∀C dx fs,o≠.ins C dx fs):b≠x:=λz=>by
 obtain⟨C,dx,fs,e⟩:=k.at_;rw[z,e] at h;exact n _ _ _ (br h).symm
theorem KH.get {x:Addr}{H H':Hp}(k:KH x H H'){b:Addr}{o:HO}(h:H b=some o)(n:∀C dx fs,o≠.ins C dx fs)(n2:∀ps,o≠.tbl ps):H' b=some o:=k.keep b o (k.ne h n) n2 h
theorem KH.tup {x:Addr}{H H':Hp}(k:KH x H H'){b:Addr}{xs:List V}(h:H b=some (.tup xs)):H' b=some (.tup xs):=k.get h (λ_ _ _ z=>by cases z) λ_ z=>by cases z
theorem KH.lst {x:Addr}{H H':Hp}(k:KH x H H'){b:Addr}{xs:List V}(h:H b=some (.lst xs)):H' b=some (.lst xs):=k.get h (λ_ _ _ z=>by cases z) λ_ z=>by cases z
theorem KH.dk {x:Addr}{H H':Hp}(k:KH x H H'){b:Addr}{xs:List (Key×V)}(h:H b=some (.dK xs)):H' b=some (.dK xs):=k.get h (λ_ _ _ z=>by cases z) λ_ z=>by cases z
theorem KH.sd {x:Addr}{H H':Hp}(k:KH x H H'):Sd H H':=⟨λ_ _ h=>k.tup h,λ_ _ h=>k.dk h⟩
structure Hs (C:Addr) (H:Hp) (x:Addr) (ag:Int) (qs:List Kq) (ps:List Pe):Prop where
 at_:∃dx h k n,H x=some (.ins C dx [("own_head",.ref h)])/\HeadAt H h ag k qs n ps
theorem Hs.ins {C:Addr}{H:Hp}{x:Addr}{ag:Int}{qs:List Kq}{ps:List Pe}(h:Hs C H x ag qs ps):∃C dx fs,H x=some (.ins C dx fs):=by
 obtain⟨dx,h,k,n,e,_⟩:=h.at_;exact⟨_,_,_,e⟩
theorem Hs.st {C:Addr}{H H':Hp}{x:Addr}{ag:Int}{qs:List Kq}{ps:List Pe}(h:Hs C H x ag qs ps)(s:St H H'):Hs C H' x ag qs ps:=by
 obtain⟨dx,h,k,n,e,hd⟩:=h.at_;exact⟨dx,h,k,n,s.keep _ _ (λ_ z=>by cases z) e,hd.st s⟩
theorem Hs.set {C:Addr}{H:Hp}{x dx h k n:Addr}{ag:Int}{qs:List Kq}{ps:List Pe}{fs:List (Str×V)}(hx:H x=some (.ins C dx fs))(hd:HeadAt H h ag k qs n ps):Hs C (upd H x (.ins C dx [("own_head",.ref h)])) x ag qs ps:=
 ⟨dx,h,k,n,Ae,hd.sd ⟨λb xs e=>by rw[Ax (Ep e hx (by intro z;cases z))];exact e,λb xs e=>by rw[Ax (Ep e hx (by intro z;cases z))];exact e⟩⟩
theorem Vw {PT PU x:Addr}{H:Hp}{C dx:Addr}{fs:List (Str×V)}(t:Tb PT PU H)(hx:H x=some (.ins C dx fs))(fs':List (Str×V)):Tb PT PU (upd H x (.ins C dx fs')):=by
 have go:∀{U:Addr} {q:Str} {lp:Pos},DS U q lp H->DS U q lp (upd H x (.ins C dx fs')):=λ{U q lp} t=>by
  rcases t with h|⟨c,h,h2⟩
  ·exact .inl (by rw[Ax (Ep h hx (by intro z;cases z))];exact h)
  ·exact .inr ⟨c,by rw[Ax (Ep h hx (by intro z;cases z))];exact h,by rw[Ax (Ep h2 hx (by intro z;cases z))];exact h2⟩
 exact⟨t.ne,go t.a,go t.b⟩
section
variable {P:Program}{w:World}{K:W.Frag}{mg:Str->Option Value}{base:Heap}{f C:Addr}{XC:Nat->Addr}{fd:FuncData}{PT PU:Addr}
def D3 (K:W.Frag)(C:Addr):Sp:=λvs H Q _=>∃(x dx:Addr),vs=[.ref x]/\H x=some (.ins C dx [])/\∀H',Kx x H H'->Hs C H' x 0 [] []->Q .non H'
theorem Jb (T:Txt K mg C XC)(F:Fun K "__init__" "PlainHouse.__init__" B2 f fd):FnOk P w K mg base FL 1 f fd ["self"] (D3 K C):=by
 exists Jx
 ·obtain⟨x,dx,rfl,_⟩:=h;rfl
 obtain⟨x,dx,rfl,hx,q⟩:=h;refine⟨_,(!Ad (!Jv (pv 0) (!Bo (!Aa (!Ag) (!Aa (!Bo (!Ab)) (!Aa (!Bo (!Ab)) (!Ab))))))),?_⟩
 try dsimp only[A4,Cx.nox,Cx.wish]
 refine⟨S0,λp1 n1=>⟨S0,λp2 n2=>⟨LU,λp3 n3=>?_⟩⟩⟩;have s1:=Ai n1 (.tup []);have h1:(upd H p1 (.tup [])) p1=some (.tup []):=Ae;generalize upd H p1 (.tup [])=H1 at s1 h1 n2 n3;have s2:=Ai n2 (.tup []);have h2:(upd H1 p2 (.tup [])) p2=some (.tup []):=Ae;generalize upd H1 p2 (.tup [])=H2 at s2 h2 n3;have s3:=Ai n3 (.tup [V.int 0,V.ref p1,V.ref p2]);have h3:(upd H2 p3 (.tup [V.int 0,V.ref p1,V.ref p2])) p3=some (.tup [V.int 0,V.ref p1,V.ref p2]):=Ae;generalize upd H2 p3 (.tup [V.int 0,V.ref p1,V.ref p2])=H3 at s3 h3;have S:=(s1.trans s2).trans s3;refine⟨_,rfl,x,C,dx,[],rfl,S.get hx,T.cl,T.n_own_head,(by show 0<1000;decide),?_⟩;refine q _ ((Mv S:Kx x H H3).upd hx _) (Hs.set (h:=p3) (k:=p1) (n:=p2) (S.get hx) ⟨h3,s3.get (s2.get h1),(λ_ h=>nomatch h),s3.get h2,λ_ h=>nomatch h⟩)
def Bw (K:W.Frag)(C:Addr)(XC:Nat->Addr)(PT PU:Addr):Sp:=λvs H Q E=>∃(x sa t:Addr) (nm kp og:Str) (tr:Bt) (ag:Int) (qs:List Kq) (ps:List Pe),vs=[.ref x,.ref sa,.ref t]/\Hs C H x ag qs ps/\H sa=some (.tup [.str nm,.int 1,.str kp,.str og])/\H t=some (.dK (CI tr))/\TrV tr/\(∀p∈tr,∀c,p.2=some c->c.length<=1000000)/\Ri Cg ps/\ps.length<=60/\Tb PT PU H/\
 (BOk tr->∀a H',KH x H H'->Tb PT PU H'->Hs C H' x (ag+1) qs (putL Cg ⟨a,t,.st nm kp og tr⟩ ps)->Q .non H')/\(¬BOk tr->∀H',St H H'->Tb PT PU H'->Ex XC E H' .many)
theorem Hz (T:Txt K mg C XC)(F:Fun K "put_tree" "PlainHouse.put_tree" Bl f fd)(Gm:Bu P w K mg base 2 "check_bounds" ["tree"] (Fq K XC))(A3:Def P w K mg base 1 "one_older" ["head"] (CA K))(Bb:Def P w K mg base 2 "with_named" ["head","named"] (Dg K PT PU)):FnOk P w K mg base (Fj P w) 3 f fd ["self","stem","tree"] (Bw K C XC PT PU):=by
 refine F.okE G2 (λvs H Q E h=>?_) (λcdv A outer s H vs Q E hr h=>?_)
 ·obtain⟨x,sa,t,nm,kp,og,tr,ag,qs,ps,rfl,_⟩:=h;rfl
 obtain⟨x,sa,t,nm,kp,og,tr,ag,qs,ps,rfl,hs,hsa,ht,tv,hc,ri,few,tb,q,qm⟩:=h;refine⟨_,(!Ah (!AA (!Ba Gm (by trivial) rfl Am (!Aa (pv 2) (!Ab)))) (!Ad (!Jv (pv 0) (!AW A3 (by trivial) rfl (!Aa (!AW Bb (by trivial) rfl (!Aa (!EL (pv 0)) (!Aa (!AY NA (pv 1) (!Bo (!Aa (pv 2) (!Ab)))) (!Ab)))) (!Ab)))))),?_⟩
 try dsimp only[A4,Cx.nox,Cx.wish]
 refine⟨_,rfl,t,tr,rfl,ht,tv,hc,λbo H1 s1=>?_,λbo H1 s1=>qm bo H1 (AC s1) (tb.same s1)⟩;have q:=q bo;obtain⟨dx,h,k,n,hx,hd⟩:=(hs.st (AC s1)).at_;dsimp only;refine⟨_,rfl,x,C,dx,_,_,rfl,hx,T.cl,T.n_own_head,rfl,_,rfl,_,rfl,Pn,λp2 n2=>?_⟩;have s2:=Ai n2 (.tup [V.ref t]);have h2:(upd H1 p2 (.tup [V.ref t])) p2=some (.tup [V.ref t]):=Ae;generalize upd H1 p2 (.tup [V.ref t])=H2 at s2 h2;have s12:=s1.trans s2;refine⟨sa,p2,_,_,rfl,rfl,AS.of (s12.get hsa),AS.of h2,RG,(λz=>by cases z),(λ_ z=>by cases z),λ_ _ p3 n3=>?_⟩;have s3:=Ai n3 (.tup ([V.str nm,V.int 1,V.str kp,V.str og]++[V.ref t]));have h3:(upd H2 p3 (.tup ([V.str nm,V.int 1,V.str kp,V.str og]++[V.ref t]))) p3=some (.tup ((En.st nm kp og tr).items t)):=Ae;generalize upd H2 p3 (.tup ([V.str nm,V.int 1,V.str kp,V.str og]++[V.ref t]))=H3 at s3 h3;have s13:=s12.trans s3;refine⟨h,⟨p3,t,.st nm kp og tr⟩,ag,k,n,qs,ps,rfl,hd.st (AC (s2.trans s3)),⟨s13.get ht,h3⟩,ri,few,tb.same s13,λh4 n4 H4 S4 T4 nh4 hd4=>?_⟩;refine⟨h4,ag,k,n4,qs,_,rfl,hd4,λh5 H5 s5 hd5=>?_⟩;have S15:=(AC (s2.trans s3)).trans (S4.trans (AC s5));have T5:=T4.same s5;have hx5:=S15.keep _ _ (λ_ z=>by cases z) hx;refine⟨_,rfl,x,C,dx,_,rfl,hx5,T.cl,T.n_own_head,(by show 1<1000;decide),?_⟩;exact q p3 _ (((((AC s1).trans S15).kh hs.ins)).upd _) (Vw T5 hx5 _) (Hs.set hx5 hd5)
end
theorem RD:TrOk []:=⟨⟨dc,(λ_ h=>nomatch h),(λ_ h=>nomatch h),by decide⟩,⟨by decide,(λ_ h=>nomatch h),(λ_ h=>nomatch h),λ_ h=>nomatch h⟩⟩
structure HI (ag:Int) (qs:List Kq) (ps:List Pe):Prop where
 rp:Ri Cg ps
 rk:Ri CT qs
 k8:qs.length<=8
 wl:Wl ag (ps.map (·.e))
theorem HI.few {ag:Int}{qs:List Kq}{ps:List Pe}(h:HI ag qs ps):ps.length<=24:=by
 have:=h.wl.few;rw[ax] at this;exact this
theorem HI.tn {ag:Int}{qs:List Kq}{ps:List Pe}(h:HI ag qs ps):Tn ps:=λsm=>by
 have key:∀{l:List Pe},(∀p∈l,p∈ps)->(l.map Cg).Nodup->((l.filter λp=>p.e.isSl sm).map λp=>p.e.turn).Nodup:=λ{l}=>by
  induction l with
  |nil=>intro _ _;exact dc
  |cons p l ih=>
   intro hin nd;rw[aR,bV] at nd;have ih:=ih (λq hq=>hin q (aB _ hq)) nd.2;rw[bE]
   split
   ·next c=>
    rw[aR,bV];refine⟨λz=>?_,ih⟩;obtain⟨q,hq,e⟩:=aA.mp z;obtain⟨h1,h2⟩:=aO.mp hq;obtain⟨pa,pt,pe⟩:=p;obtain⟨qa,qt,qe⟩:=q;cases pe with
    |st=>cases c
    |sl nm s n t=>
     cases qe with
     |st=>cases h2
     |sl nm' s' n' t'=>
      have e:n'=n:=e;subst e;have:=h.wl.tn nm s n' t nm' s' t' (aA.mpr ⟨_,hin _ aK,rfl⟩) (aA.mpr ⟨_,hin _ (aB _ h1),rfl⟩);exact nd.1 (aA.mpr ⟨_,h1,this.symm⟩)
   ·exact ih
 exact key (λ_ h=>h) h.rp.nd
theorem HC (ps:List Pe):(ps.map (·.e)).map En.nm=ps.map Cg:=by rw[aL];rfl
theorem PF {p:Pe}{ps:List Pe}(ri:Ri Cg ps)(h:p.e.nm∉ps.map Cg):((putL Cg p ps).map (·.e)).Perm (ps.map (·.e)++[p.e]):=by
 refine((GJ ri).map _).trans ?_;rw[bx,cw.mpr λq hq=>?_]
 ·exact .refl _
 ·rw[aS λe=>h (aA.mpr ⟨q,hq,e⟩)];rfl
theorem VZ {ps:List Pe}{a t:Addr}{s k o:Str}{t0 t1:Bt}(ri:Ri Cg ps)(m:En.st s k o t0∈ps.map (·.e)):(putL Cg ⟨a,t,.st s k o t1⟩ ps).map (·.e)=(ps.map (·.e)).map (wr s t1):=by
 obtain⟨q,hq,e⟩:=aA.mp m;rw[Ss ri ⟨q,hq,by show q.e.nm=s;rw[e];rfl⟩];unfold Xo;refine aZ λx hx=>?_
 have nd:((ps.map (·.e)).map En.nm).Nodup:=by rw[HC];exact ri.nd
 cases x with
 |st nm k' o' t'=>
  show(if nm=s then _ else _)=if nm=s then En.st nm k' o' t1 else _
  by_cases c:nm=s
  ·rw[aI c,aI c];subst c;obtain⟨rfl,rfl,_⟩:=CD nd hx m;rfl
  ·rw[aF c,aF c]
 |sl nm s' n t'=>
  show(if nm=s then _ else _)=En.sl nm s' n t';exact aF λc:nm=s=>UT nd ⟨_,_,_,m⟩ ⟨s',n,t',by rw[<-c];exact hx⟩
theorem FE {nm:Str}{ps:List Pe}(ri:Ri Cg ps):(fst nm ps=none->¬CH nm (ps.map (·.e))):=λh ⟨k,o,t,z⟩=>by
 obtain⟨p,hp,e⟩:=aA.mp z;rw[Rt ri.nd hp e] at h;cases h
theorem WE {nm:Str}{ps:List Pe}(ri:Ri Cg ps):(V1 nm ps=none->¬Gy nm (ps.map (·.e))):=λh ⟨k,o,t,z⟩=>by
 obtain⟨p,hp,e⟩:=aA.mp z;rw[UJ ri.nd hp e] at h;cases h
theorem GE {nm:Str}{ps:List Pe}{p:Pe}(h:fst nm ps=some p):∃k o,En.st nm k o p.e.tr∈ps.map (·.e)/\p∈ps/\p.e=.st nm k o p.e.tr:=by
 obtain⟨hp,k,o,t,e⟩:=EB h;have e2:p.e=.st nm k o p.e.tr:=by rw[e];rfl
 exact⟨k,o,e2▸aA.mpr ⟨p,hp,rfl⟩,hp,e2⟩
theorem Xz {nm:Str}{ps:List Pe}{p:Pe}(h:V1 nm ps=some p):∃s n,En.sl nm s n p.e.tr∈ps.map (·.e)/\p∈ps/\p.e=.sl nm s n p.e.tr:=by
 obtain⟨hp,k,o,t,e⟩:=Ux h;have e2:p.e=.sl nm k o p.e.tr:=by rw[e];rfl
 exact⟨k,o,e2▸aA.mpr ⟨p,hp,rfl⟩,hp,e2⟩
def Qw (d:De)(ks ks':List Str):Prop:=match d with
 | .keeper nm _=>∀z,z∈ks'↔z=nm\/z∈ks
 |_=>ks'=ks
def Ew (C PT PU:Addr)(XC:Nat->Addr)(x:Addr)(d:De)(H:Hp)(Q:V->Hp->Prop)(E:Value->Option Addr->Hp->Prop):Prop:=∃(ag:Int) (qs:List Kq) (ps:List Pe),Hs C H x ag qs ps/\HI ag qs ps/\d.Ok/\Tb PT PU H/\
 (∀r,Ref (qs.map CT) (ps.map (·.e)) d (some r)->∀H',St H H'->Tb PT PU H'->Ex XC E H' r)/\
 (Ref (qs.map CT) (ps.map (·.e)) d none->∀qs' ps' H',KH x H H'->Tb PT PU H'->Hs C H' x (ag+1) qs' ps'->HI (ag+1) qs' ps'->Step (ag+1) (ps.map (·.e)) (ps'.map (·.e)) d->Qw d (qs.map CT) (qs'.map CT)->(∀q∈ps',(∃p∈ps,q.t=p.t)\/H q.t=none)->Q .non H')
theorem G0 {C PT PU x:Addr} {d:De} {H:Hp} {Q:V->Hp->Prop} {ag:Int} {qs:List Kq} {ps:List Pe} (hi:HI ag qs ps) (ok:d.Ok) (ref:Ref (qs.map CT) (ps.map (·.e)) d none) (nk:∀nm b,d≠.keeper nm b)
  (q:Ref (qs.map CT) (ps.map (·.e)) d none->∀qs' ps' H',KH x H H'->Tb PT PU H'->Hs C H' x (ag+1) qs' ps'->HI (ag+1) qs' ps'->Step (ag+1) (ps.map (·.e)) (ps'.map (·.e)) d->Qw d (qs.map CT) (qs'.map CT)->(∀q∈ps',(∃p∈ps,q.t=p.t)\/H q.t=none)->Q .non H')
  {ps':List Pe} {H':Hp} (k:KH x H H') (t:Tb PT PU H') (h:Hs C H' x (ag+1) qs ps') (ri:Ri Cg ps') (st:Step (ag+1) (ps.map (·.e)) (ps'.map (·.e)) d) (tr:∀q∈ps',(∃p∈ps,q.t=p.t)\/H q.t=none):Q .non H':=by
 refine q ref qs ps' H' k t h ⟨ri,hi.rk,hi.k8,hi.wl.step ok ref rfl st⟩ st ?_ tr;cases d with
 |keeper nm b=>exact absurd rfl (nk nm b)
 |_=>rfl
theorem GU {H:Hp}{ps:List Pe}{p:Pe}(ri:Ri Cg ps)(h:(∃q∈ps,p.t=q.t)\/H p.t=none):∀q∈putL Cg p ps,(∃p∈ps,q.t=p.t)\/H q.t=none:=λq hq=>by
 rcases(Dx ri).mp hq with rfl|⟨hq,_⟩
 ·exact h
 ·exact .inl ⟨q,hq,rfl⟩
section
variable {P:Program}{w:World}{K:W.Frag}{mg:Str->Option Value}{base:Heap}{f C:Addr}{XC:Nat->Addr}{fd:FuncData}{PT PU:Addr}
theorem Hs.kh {H H':Hp}{x:Addr}{ag:Int}{qs:List Kq}{ps:List Pe}(h:Hs C H x ag qs ps)(s:St H H'):KH x H H':=s.kh h.ins
def A8 (K:W.Frag)(C:Addr)(XC:Nat->Addr)(PT PU:Addr):Sp:=λvs H Q E=>∃(x t:Addr) (sm kp og:Str) (t0 tr:Bt) (p:Pe) (ag:Int) (qs:List Kq) (ps:List Pe),vs=[.ref x,.str sm,.ref t]/\Hs C H x ag qs ps/\fst sm ps=some p/\p.e=.st sm kp og t0/\H t=some (.dK (CI tr))/\TrV tr/\(∀p∈tr,∀c,p.2=some c->c.length<=1000000)/\Ri Cg ps/\ps.length<=60/\Tb PT PU H/\
 (BOk tr->∀a H',KH x H H'->Tb PT PU H'->Hs C H' x (ag+1) qs (putL Cg ⟨a,t,.st sm kp og tr⟩ ps)->Q .non H')/\(¬BOk tr->∀H',St H H'->Tb PT PU H'->Ex XC E H' .many)
theorem Ih (T:Txt K mg C XC)(F:Fun K "change" "PlainHouse.change" BD f fd)(AX:AL P w K mg base 3 C "put_tree" ["self","stem","tree"] (Bw K C XC PT PU))(AM:Bu P w K mg base 4 "stem_called" ["head","name"] (BP K XC)):FnOk P w K mg base (Fj P w) 5 f fd ["self","stem","tree"] (A8 K C XC PT PU):=by
 refine F.okE ID (λvs H Q E h=>?_) (λcdv A outer s H vs Q E hr h=>?_)
 ·obtain⟨x,t,sm,kp,og,t0,tr,p,ag,qs,ps,rfl,_⟩:=h;rfl
 obtain⟨x,t,sm,kp,og,t0,tr,p,ag,qs,ps,rfl,hs,hf,ep,ht,tv,hc,ri,few,tb,q,qm⟩:=h;refine⟨_,(!Ad (!AA (!AH (pv 0) T.cl AX (by trivial) Am (!Aa (!Fk RH (!Ba AM (by trivial) rfl Am (!Aa (!EL (pv 0)) (!Aa (pv 1) (!Ab)))) (!G6) (!FG (!Ag))) (!Aa (pv 2) (!Ab)))))),?_⟩
 try dsimp only[A4,Cx.nox,Cx.wish]
 obtain⟨dx,h,k,n,hx,hd⟩:=hs.at_;have y:=(hd.en p (EB hf).1).2;rw[ep] at y;refine⟨_,rfl,x,dx,_,rfl,hx,rfl,_,rfl,x,C,dx,_,_,rfl,hx,T.cl,T.n_own_head,rfl,_,rfl,h,sm,ag,k,n,qs,ps,rfl,hd,λp' hp'=>?_,λz=>by rw[hf] at z;cases z⟩;rw[hf] at hp';cases hp';refine⟨_,rfl,p.a,_,rfl,AS.of y,(λz=>absurd z.2 (show ¬(HT.EH 5 5 (some 4)=5) by decide)),λp1 n1=>?_⟩;rw[Ra (by decide)];have s1:=Ai n1 (.tup [V.str sm,V.int 1,V.str kp,V.str og]);have h1:(upd H p1 (.tup [V.str sm,V.int 1,V.str kp,V.str og])) p1=some (.tup [V.str sm,V.int 1,V.str kp,V.str og]):=Ae;refine⟨_,rfl,x,p1,t,sm,kp,og,tr,ag,qs,ps,rfl,hs.st (AC s1),h1,s1.get ht,tv,hc,ri,few,tb.same s1,λbo a H' k' t' h'=>?_,λbo H' S' T'=>qm bo H' ((AC s1).trans S') T'⟩;exact q bo a H' ((hs.kh (AC s1)).trans k') t' h'
def BI (K:W.Frag)(C:Addr)(XC:Nat->Addr):Sp:=λvs H Q E=>∃(x:Addr) (nm:Str) (ag:Int) (qs:List Kq) (ps:List Pe),vs=[.ref x,.str nm]/\Hs C H x ag qs ps/\(∀p,HN nm ps=some p->Nw H p->Q (.ref p.t) H)/\(HN nm ps=none->Ex XC E H (.noName nm))
theorem HD (T:Txt K mg C XC)(F:Fun K "tree_of" "PlainHouse.tree_of" Br f fd)(B8:Bu P w K mg base 3 "named_so" ["head","name"] (D7 K XC)):FnOk P w K mg base (Fj P w) 4 f fd ["self","name"] (BI K C XC):=by
 refine F.okE HH (λvs H Q E h=>?_) (λcdv A outer s H vs Q E hr h=>?_)
 ·obtain⟨x,nm,ag,qs,ps,rfl,_⟩:=h;rfl
 obtain⟨x,nm,ag,qs,ps,rfl,hs,q1,q2⟩:=h;refine⟨_,(!Ad (!AG (!Ao An (!Ba B8 (by trivial) rfl Am (!Aa (!EL (pv 0)) (!Aa (pv 1) (!Ab)))) (!Ag) (λ_ _=>rfl)))),?_⟩
 try dsimp only[A4,Cx.nox,Cx.wish]
 obtain⟨dx,h,k,n,hx,hd⟩:=hs.at_;refine⟨_,rfl,x,C,dx,_,_,rfl,hx,T.cl,T.n_own_head,rfl,_,rfl,h,nm,ag,k,n,qs,ps,rfl,hd,λp hp=>?_,q2⟩;have y:=hd.en p (CK hp).1;have y2:=y.2;cases ee:p.e with
 |st nm' kp og t=>
  rw[ee] at y2;exact⟨p.a,_,_,_,rfl,rfl,AS.of y2,Af (j:=4) rfl,q1 p hp y⟩
 |sl nm' kp og t=>
  rw[ee] at y2;exact⟨p.a,_,_,_,rfl,rfl,AS.of y2,Af (j:=4) rfl,q1 p hp y⟩
def AN (K:W.Frag)(C:Addr)(XC:Nat->Addr):Sp:=λvs H Q E=>∃(x:Addr) (nm:Str) (ag:Int) (qs:List Kq) (ps:List Pe),vs=[.ref x,.str nm]/\Hs C H x ag qs ps/\(∀p,fst nm ps=some p->Nw H p->Q (.ref p.t) H)/\(fst nm ps=none->Ex XC E H (.noName nm))
theorem FX (T:Txt K mg C XC)(F:Fun K "tree_of_stem" "PlainHouse.tree_of_stem" A9 f fd)(AM:Bu P w K mg base 4 "stem_called" ["head","name"] (BP K XC)):FnOk P w K mg base (Fj P w) 5 f fd ["self","name"] (AN K C XC):=by
 refine F.okE Ga (λvs H Q E h=>?_) (λcdv A outer s H vs Q E hr h=>?_)
 ·obtain⟨x,nm,ag,qs,ps,rfl,_⟩:=h;rfl
 obtain⟨x,nm,ag,qs,ps,rfl,hs,q1,q2⟩:=h;refine⟨_,(!Ad (!AG (!Ao An (!Ba AM (by trivial) rfl Am (!Aa (!EL (pv 0)) (!Aa (pv 1) (!Ab)))) (!Ag) (λ_ _=>rfl)))),?_⟩
 try dsimp only[A4,Cx.nox,Cx.wish]
 obtain⟨dx,h,k,n,hx,hd⟩:=hs.at_;refine⟨_,rfl,x,C,dx,_,_,rfl,hx,T.cl,T.n_own_head,rfl,_,rfl,h,nm,ag,k,n,qs,ps,rfl,hd,λp hp=>?_,q2⟩;have y:=hd.en p (EB hp).1;have y2:=y.2;obtain⟨_,kp,og,t,ee⟩:=EB hp;rw[ee] at y2;exact⟨p.a,_,_,_,rfl,rfl,AS.of y2,Af (j:=4) rfl,q1 p hp y⟩
def Dp (K:W.Frag)(C:Addr)(XC:Nat->Addr)(PT PU:Addr):Sp:=λvs H Q E=>∃(x t:Addr) (nm kp:Str),vs=[.ref x,.str nm,.str kp,.ref t]/\H t=some (.dK [])/\nm.length<=1000/\Ew C PT PU XC x (.stem nm kp) H Q E
theorem HE (T:Txt K mg C XC)(F:Fun K "take_in" "PlainHouse.take_in" Bq f fd)(Ck:Bu P w K mg base 4 "check_new_stem" ["head","name","keeper"] (Ds K XC))(AX:AL P w K mg base 3 C "put_tree" ["self","stem","tree"] (Bw K C XC PT PU)):FnOk P w K mg base (Fj P w) 5 f fd ["self","name","keeper","tree"] (Dp K C XC PT PU):=by
 refine F.okE HM (λvs H Q E h=>?_) (λcdv A outer s H vs Q E hr h=>?_)
 ·obtain⟨x,t,nm,kp,rfl,_⟩:=h;rfl
 obtain⟨x,t,nm,kp,rfl,ht,ln,ag,qs,ps,hs,hi,ok,tb,q1,q2⟩:=h;refine⟨_,(!Ah (!AA (!Ba Ck (by trivial) rfl Am (!Aa (!EL (pv 0)) (!Aa (pv 1) (!Aa (pv 2) (!Ab)))))) (!Ad (!AA (!AH (pv 0) T.cl AX (by trivial) Am (!Aa (!Bo (!Aa (pv 1) (!Aa (!Bv rfl T.c_STEM) (!Aa (pv 2) (!Aa (!Az) (!Ab)))))) (!Aa (!GL Nt (by rfl) T.b_dict PM (!Aa (pv 3) (!Ab))) (!Ab))))))),?_⟩
 try dsimp only[A4,Cx.nox,Cx.wish]
 obtain⟨dx,h,k,n,hx,hd⟩:=hs.at_;refine⟨_,rfl,x,C,dx,_,_,rfl,hx,T.cl,T.n_own_head,rfl,_,rfl,_,rfl,h,nm,kp,ag,k,n,qs,ps,rfl,hd,ln,λH1 s1=>?_⟩;have rf:Ref (qs.map CT) (ps.map (·.e)) (.stem nm kp) (Gs nm kp (qs.map CT) (ps.map Cg)):=by
  have:=Ref.stem (ks:=qs.map CT) (es:=ps.map (·.e)) nm kp;rw[HC] at this;exact this
 cases er:Gs nm kp (qs.map CT) (ps.map Cg) with
 |some r=>
  rw[er] at rf;exact q1 r rf H1 (AC s1) (tb.same s1)
 |none=>
  rw[er] at rf;refine⟨_,rfl,x,dx,_,rfl,s1.get hx,rfl,_,rfl,_,rfl,Tj,λp1 n1=>?_⟩;have s2:=Ai n1 (.tup [V.str nm,V.int 1,V.str kp,V.str EM]);have h2:(upd H1 p1 (.tup [V.str nm,V.int 1,V.str kp,V.str EM])) p1=some (.tup [V.str nm,V.int 1,V.str kp,V.str EM]):=Ae;generalize upd H1 p1 (.tup [V.str nm,V.int 1,V.str kp,V.str EM])=H2 at s2 h2;have s12:=s1.trans s2;refine⟨_,rfl,t,_,rfl,s12.get ht,by decide,λp3 n3=>?_⟩;have s3:=Ai n3 (.dK []);have h3:(upd H2 p3 (.dK [])) p3=some (.dK (CI [])):=Ae;generalize upd H2 p3 (.dK [])=H3 at s3 h3;have s13:=s12.trans s3;have nH:H p3=none:=by
   cases z:H p3 with
   |none=>rfl
   |some o=>rw[s12.get z] at n3;cases n3
  refine⟨x,p1,p3,nm,kp,EM,[],ag,qs,ps,rfl,hs.st (AC s13),s3.get h2,h3,RD.v,(λ_ h=>nomatch h),hi.rp,by have:=hi.few;omega,tb.same s13,λ_ a H' k' t' h'=>?_,λbo=>absurd RD.b bo⟩;refine G0 hi ok rf (λ_ _ z=>by cases z) q2 ((hs.kh (AC s13)).trans k') t' h' (D6 hi.rp) ?_ (GU hi.rp (.inr nH));exact .stem nm kp (PF (p:=⟨a,p3,.st nm kp EM []⟩) hi.rp (Ki (Lg er).1).2)
theorem Iu {x dx h h' k' n':Addr}{H H':Hp}{ag:Int}{qs:List Kq}{ps:List Pe}(hx:H x=some (.ins C dx [("own_head",.ref h)]))(S:St H H')(tb:Tb PT PU H')(hd:HeadAt H' h' ag k' qs n' ps) :
  KH x H (upd H' x (.ins C dx [("own_head",.ref h')]))/\Hs C (upd H' x (.ins C dx [("own_head",.ref h')])) x ag qs ps/\Tb PT PU (upd H' x (.ins C dx [("own_head",.ref h')])):=by
 have hx':=S.keep _ _ (λ_ z=>by cases z) hx;exact⟨(S.kh ⟨_,_,_,hx⟩).upd _,Hs.set hx' hd,Vw tb hx' _⟩
theorem S5 {H:Hp}{ps ps':List Pe}(h:∀q∈ps',∃r∈ps,q.t=r.t):∀q∈ps',(∃p∈ps,q.t=p.t)\/H q.t=none:=λq hq=>.inl (h q hq)
def Co (K:W.Frag)(C:Addr)(XC:Nat->Addr)(PT PU:Addr):Sp:=λvs H Q E=>∃(x:Addr) (nm kp:Str),vs=[.ref x,.str nm,.str kp]/\nm.length<=1000/\Ew C PT PU XC x (.stem nm kp) H Q E
theorem Jf (T:Txt K mg C XC)(F:Fun K "stem" "PlainHouse.stem" BW f fd)(Dv:AL P w K mg base 5 C "take_in" ["self","name","keeper","tree"] (Dp K C XC PT PU)):FnOk P w K mg base (Fj P w) 6 f fd ["self","name","keeper"] (Co K C XC PT PU):=by
 refine F.okE Js (λvs H Q E h=>?_) (λcdv A outer s H vs Q E hr h=>?_)
 ·obtain⟨x,nm,kp,rfl,_⟩:=h;rfl
 obtain⟨x,nm,kp,rfl,ln,ag,qs,ps,hs,hi,ok,tb,q1,q2⟩:=h;refine⟨_,(!Ad (!AA (!AH (pv 0) T.cl Dv (by trivial) Am (!Aa (pv 1) (!Aa (pv 2) (!Aa (!UQ) (!Ab))))))),?_⟩
 try dsimp only[A4,Cx.nox,Cx.wish]
 obtain⟨dx,h,k,n,hx,hd⟩:=hs.at_;refine⟨_,rfl,x,dx,_,rfl,hx,rfl,_,rfl,_,rfl,λt nt=>?_⟩;have s1:=Ai nt (.dK []);have h1:(upd H t (.dK [])) t=some (.dK []):=Ae;generalize upd H t (.dK [])=H1 at s1 h1;refine⟨x,t,nm,kp,rfl,h1,ln,ag,qs,ps,hs.st (AC s1),hi,ok,tb.same s1,λr hr9 H' S' T'=>q1 r hr9 H' ((AC s1).trans S') T',λrf qs' ps' H' k' t' h' i' st ks tr=>?_⟩;refine q2 rf qs' ps' H' ((hs.kh (AC s1)).trans k') t' h' i' st ks λq hq=>(tr q hq).imp id λz=>?_
 exact(AC s1).there _ z
def Cn (K:W.Frag)(C:Addr)(XC:Nat->Addr)(PT PU:Addr):Sp:=λvs H Q E=>∃(x:Addr) (sm nm:Str),vs=[.ref x,.str sm,.str nm]/\nm.length<=1000/\Ew C PT PU XC x (.sea sm nm) H Q E
theorem JR (T:Txt K mg C XC)(F:Fun K "seal" "PlainHouse.seal" B3 f fd)(GH:Bu P w K mg base 5 "stem_sealed" ["head","stem","name"] (Gc K XC PT PU)):FnOk P w K mg base (Fj P w) 6 f fd ["self","stem","name"] (Cn K C XC PT PU):=by
 refine F.okE JC (λvs H Q E h=>?_) (λcdv A outer s H vs Q E hr h=>?_)
 ·obtain⟨x,sm,nm,rfl,_⟩:=h;rfl
 obtain⟨x,sm,nm,rfl,ln,ag,qs,ps,hs,hi,ok,tb,q1,q2⟩:=h;refine⟨_,(!Ad (!Jv (pv 0) (!Ba GH (by trivial) rfl Am (!Aa (!EL (pv 0)) (!Aa (pv 1) (!Aa (pv 2) (!Ab))))))),?_⟩
 try dsimp only[A4,Cx.nox,Cx.wish]
 obtain⟨dx,h,k,n,hx,hd⟩:=hs.at_;have rf:Ref (qs.map CT) (ps.map (·.e)) (.sea sm nm) (QG (fst sm ps) sm nm (ps.map Cg)):=by
  cases e:fst sm ps with
  |none=>exact .sea0 sm nm (FE hi.rp e)
  |some p=>
   obtain⟨kp,og,m,mp,ep⟩:=GE e;have:=Ref.sea1 (ks:=qs.map CT) (es:=ps.map (·.e)) sm nm ⟨_,_,_,m⟩;rw[HC] at this;exact this
 refine⟨_,rfl,x,C,dx,_,_,rfl,hx,T.cl,T.n_own_head,rfl,_,rfl,_,rfl,h,sm,nm,ag,k,n,qs,ps,rfl,hd,hi.rp,by have:=hi.few;omega,ln,tb,λr er H' S' T'=>?_,λp hp er h' n' a H' S' T' hd'=>?_⟩
 ·rw[er] at rf;exact q1 r rf H' S' T'
 ·rw[er] at rf;obtain⟨kp,og,m,mp,ep⟩:=GE hp;obtain⟨k2,hs2,tb2⟩:=Iu hx S' T' hd';refine⟨_,rfl,x,C,dx,_,rfl,S'.keep _ _ (λ_ z=>by cases z) hx,T.cl,T.n_own_head,(by show 1<1000;decide),?_⟩;have nn:nm∉ps.map Cg:=by
   rw[hp] at er;cases e1:FC nm (ps.map Cg) with
   |some r=>
    have:QG (some p) sm nm (ps.map Cg)=some r:=by show(match FC nm (ps.map Cg) with|some r=>some r|none=>_)=_;rw[e1]
    rw[this] at er;cases er
   |none=>exact(Ki e1).2
  exact G0 hi ok rf (λ_ _ z=>by cases z) q2 k2 tb2 hs2 (D6 hi.rp) (.sea sm nm kp og p.e.tr m (PF (p:=⟨a,p.t,.sl nm sm (ag+1) p.e.tr⟩) hi.rp nn)) (GU hi.rp (.inl ⟨p,mp,rfl⟩))
def CV (K:W.Frag)(C:Addr)(XC:Nat->Addr)(PT PU:Addr):Sp:=λvs H Q E=>∃(x:Addr) (nm sl kp:Str),vs=[.ref x,.str nm,.str sl,.str kp]/\nm.length<=1000/\Ew C PT PU XC x (.grow nm sl kp) H Q E
theorem Jy (T:Txt K mg C XC)(F:Fun K "grow" "PlainHouse.grow" BS f fd)(Bf:Bu P w K mg base 3 "check_new_name" ["head","name"] (Cw K XC))(Ck:Bu P w K mg base 4 "check_new_stem" ["head","name","keeper"] (Ds K XC))(AX:AL P w K mg base 3 C "put_tree" ["self","stem","tree"] (Bw K C XC PT PU))(Dh:Bu P w K mg base 4 "seal_called" ["head","name"] (Et K XC)):FnOk P w K mg base (Fj P w) 5 f fd ["self","name","seal","keeper"] (CV K C XC PT PU):=by
 refine F.okE Gf (λvs H Q E h=>?_) (λcdv A outer s H vs Q E hr h=>?_)
 ·obtain⟨x,nm,sl,kp,rfl,_⟩:=h;rfl
 obtain⟨x,nm,sl,kp,rfl,ln,ag,qs,ps,hs,hi,ok,tb,q1,q2⟩:=h;refine⟨_,(!Ah (!AA (!Ba Bf (by trivial) rfl Am (!Aa (!EL (pv 0)) (!Aa (pv 1) (!Ab))))) (!Ah (@AK _ _ (4) _ _ _ _ Gf.nd rfl (by trivial) (!Ao An (!Ba Dh (by trivial) rfl Am (!Aa (!EL (pv 0)) (!Aa (pv 2) (!Ab)))) (!Ag) (λ_ _=>rfl)) (by rfl) (by trivial)) (!Ah (!AA (!Ba Ck (by trivial) rfl Am (!Aa (!EL (pv 0)) (!Aa (pv 1) (!Aa (pv 3) (!Ab)))))) (!Ad (!AA (!AH (pv 0) T.cl AX (by trivial) Am (!Aa (!Bo (!Aa (pv 1) (!Aa (!Bv rfl T.c_STEM) (!Aa (pv 3) (!Aa (pv 2) (!Ab)))))) (!Aa (pv 4) (!Ab))))))))),?_⟩
 try dsimp only[A4,Cx.nox,Cx.wish]
 obtain⟨dx,h,k,n,hx,hd⟩:=hs.at_;refine⟨_,rfl,x,C,dx,_,_,rfl,hx,T.cl,T.n_own_head,rfl,_,rfl,h,nm,ag,k,n,qs,ps,rfl,hd,ln,λH1 s1=>?_⟩;cases er:FC nm (ps.map Cg) with
 |some r=>exact q1 r (.grow0 nm sl kp r (by rw[HC];exact er)) H1 (AC s1) (tb.same s1)
 |none=>
  refine⟨_,rfl,x,C,dx,_,_,rfl,s1.get hx,T.cl,T.n_own_head,rfl,_,rfl,h,sl,ag,k,n,qs,ps,rfl,hd.st (AC s1),λp hp=>?_,λno=>q1 _ (.grow1 nm sl kp (by rw[HC];exact er) (WE hi.rp no)) H1 (AC s1) (tb.same s1)⟩;obtain⟨s,m0,m,mp,ep⟩:=Xz hp;have y:=(hd.st (AC s1)).en p mp;have y2:=y.2;rw[ep] at y2;refine⟨p.a,_,_,_,rfl,rfl,AS.of y2,Af (j:=4) rfl,?_⟩;refine⟨_,rfl,x,C,dx,_,_,rfl,s1.get hx,T.cl,T.n_own_head,rfl,_,rfl,_,rfl,h,nm,kp,ag,k,n,qs,ps,rfl,hd.st (AC s1),ln,λH2 s2=>?_⟩;have s12:=s1.trans s2;have rf:Ref (qs.map CT) (ps.map (·.e)) (.grow nm sl kp) (Gs nm kp (qs.map CT) (ps.map Cg)):=by
   have:=Ref.grow2 (ks:=qs.map CT) (es:=ps.map (·.e)) nm sl kp ⟨_,_,_,m⟩;rw[HC] at this;exact this
  cases es:Gs nm kp (qs.map CT) (ps.map Cg) with
  |some r=>
   rw[es] at rf;exact q1 r rf H2 (AC s12) (tb.same s12)
  |none=>
   rw[es] at rf;refine⟨_,rfl,x,dx,_,rfl,s12.get hx,rfl,_,rfl,_,rfl,_,rfl,Tj,λp1 n1=>?_⟩;have s3:=Ai n1 (.tup [V.str nm,V.int 1,V.str kp,V.str sl]);have h3:(upd H2 p1 (.tup [V.str nm,V.int 1,V.str kp,V.str sl])) p1=some (.tup [V.str nm,V.int 1,V.str kp,V.str sl]):=Ae;generalize upd H2 p1 (.tup [V.str nm,V.int 1,V.str kp,V.str sl])=H3 at s3 h3;have s13:=s12.trans s3;have Xl:TrOk p.e.tr:=by have:=hi.wl.tr _ m;exact this
   refine⟨_,rfl,x,p1,p.t,nm,kp,sl,p.e.tr,ag,qs,ps,rfl,hs.st (AC s13),h3,(s2.trans s3).get y.1,Xl.v,(λp' hp' c hc=>bj (Xl.b.ct p' hp' c hc) (by decide)),hi.rp,by have:=hi.few;omega,tb.same s13,λ_ a H' k' t' h'=>?_,λbo=>absurd Xl.b bo⟩;exact G0 hi ok rf (λ_ _ z=>by cases z) q2 ((hs.kh (AC s13)).trans k') t' h' (D6 hi.rp) (.grow nm sl kp s m0 p.e.tr m (PF (p:=⟨a,p.t,.st nm kp sl p.e.tr⟩) hi.rp (Ki er).2)) (GU hi.rp (.inl ⟨p,mp,rfl⟩))
theorem QY {nm:Str}:∀{ks:List Str},Ri id ks->(putL id nm ks).length=if nm∈ks then ks.length else ks.length+1:=λ{ks} ri=>by
 rw[(GJ ri).length_eq,aM,bz]
 by_cases c:nm∈ks
 ·rw[aI c];have nd:ks.Nodup:=by have:=ri.nd;rw[cY] at this;exact this
  have:=(List.perm_cons_erase c).filter (λy=>!decide (id y=id nm));rw[this.length_eq,bE,aF (by rw[aE rfl];exact aJ),cw.mpr λz hz=>?_]
  ·rw[List.length_erase_of_mem c];have:=gd c;omega
  ·rw[show decide (id z=id nm)=false from aS λe:z=nm=>((List.Nodup.mem_erase_iff nd).mp hz).1 e];rfl
 ·rw[aF c,cw.mpr λz hz=>?_];rw[show decide (id z=id nm)=false from aS λe:z=nm=>c (by rw[<-e];exact hz)];rfl
theorem Tg {nm:Str}{b:Int}{ks:List Str}{es:List En}(ri:Ri id ks)(k8:ks.length<=8):Ref ks es (.keeper nm b) (keepR nm ks):=by
 have:keepR nm ks=if C6 (.str nm)=true then(if nm∈ks\/ks.length<8 then none else some .many) else some (.noName nm):=by
  unfold keepR;rw[QY ri]
  by_cases c:nm∈ks
  ·rw[aI c,aI k8,aI (Or.inl c)]
  ·rw[aF c]
   by_cases d:ks.length<8
   ·rw[aI (show ks.length+1<=8 by omega),aI (Or.inr d)]
   ·rw[aF (show ¬ks.length+1<=8 by omega),aF (not_or.mpr ⟨c,d⟩)]
 rw[this];exact .keeper nm b
def BO (K:W.Frag)(C:Addr)(XC:Nat->Addr)(PT PU:Addr):Sp:=λvs H Q E=>∃(x:Addr) (nm:Str) (b:Int),vs=[.ref x,.str nm,.int b]/\nm.length<=1000/\Ew C PT PU XC x (.keeper nm b) H Q E
theorem HR (T:Txt K mg C XC)(F:Fun K "keeper" "PlainHouse.keeper" BF f fd)(GF:Bu P w K mg base 3 "keeper_told" ["head","name","bound"] (FS K XC PT PU)):FnOk P w K mg base (Fj P w) 4 f fd ["self","name","bound"] (BO K C XC PT PU):=by
 refine F.okE Ic (λvs H Q E h=>?_) (λcdv A outer s H vs Q E hr h=>?_)
 ·obtain⟨x,nm,b,rfl,_⟩:=h;rfl
 obtain⟨x,nm,b,rfl,ln,ag,qs,ps,hs,hi,ok,tb,q1,q2⟩:=h;refine⟨_,(!Ad (!Jv (pv 0) (!Ba GF (by trivial) rfl Am (!Aa (!EL (pv 0)) (!Aa (pv 1) (!Aa (pv 2) (!Ab))))))),?_⟩
 try dsimp only[A4,Cx.nox,Cx.wish]
 obtain⟨dx,h,k,n,hx,hd⟩:=hs.at_;have rik:Ri id (qs.map CT):=(RT (key':=id) (key:=CT) λ_=>rfl).mpr hi.rk;have rf:=Tg (nm:=nm) (b:=b) (es:=ps.map (·.e)) rik (by rw[ax];exact hi.k8);refine⟨_,rfl,x,C,dx,_,_,rfl,hx,T.cl,T.n_own_head,rfl,_,rfl,_,rfl,h,nm,b,ag,k,n,qs,ps,rfl,hd,hi.rk,hi.k8,ln,tb,λr er H' S' T'=>?_,λer h' k' a H' S' T' hd'=>?_⟩
 ·rw[er] at rf;exact q1 r rf H' S' T'
 ·rw[er] at rf;obtain⟨k2,hs2,tb2⟩:=Iu hx S' T' hd';refine⟨_,rfl,x,C,dx,_,rfl,S'.keep _ _ (λ_ z=>by cases z) hx,T.cl,T.n_own_head,(by show 1<1000;decide),?_⟩;have le:(putL id nm (qs.map CT)).length<=8:=by
   unfold keepR at er
   by_cases c:C6 (.str nm)=true
   ·rw[aI c] at er
    by_cases d:(putL id nm (qs.map CT)).length<=8
    ·exact d
    ·rw[aF d] at er;cases er
   ·rw[aF c] at er;cases er
  rw[<-IA (key:=CT) (key':=id) (g:=CT) (λ_=>rfl) (a,nm,b) qs,ax] at le;refine q2 rf _ ps _ k2 tb2 hs2 ⟨hi.rp,D6 hi.rk,le,hi.wl.older (by omega)⟩ (.keeper nm b (.refl _)) (λz=>?_) λq hq=>.inl ⟨q,hq,rfl⟩
  constructor
  ·intro hz;obtain⟨y,hy,rfl⟩:=aA.mp hz;rcases(Dx hi.rk).mp hy with rfl|⟨hy,_⟩
   ·exact .inl rfl
   ·exact .inr (aA.mpr ⟨y,hy,rfl⟩)
  ·rintro(rfl|hz)
   ·exact aA.mpr ⟨_,(Dx hi.rk).mpr (.inl rfl),rfl⟩
   ·obtain⟨y,hy,rfl⟩:=aA.mp hz
    by_cases c:CT y=nm
    ·exact aA.mpr ⟨_,(Dx hi.rk).mpr (.inl rfl),c.symm⟩
    ·exact aA.mpr ⟨y,(Dx hi.rk).mpr (.inr ⟨hy,c⟩),rfl⟩
theorem Vk {sm:Str}{p:Pe}{ps:List Pe}(h:p.e.isSl sm=true)(m:p∈ps):∃nm n,En.sl nm sm n p.e.tr∈ps.map (·.e)/\p.e=.sl nm sm n p.e.tr:=by
 obtain⟨a,t,e⟩:=p;cases e with
 |st=>cases h
 |sl nm s n t=>
  have:s=sm:=aW h;subst this;exact⟨nm,n,aA.mpr ⟨_,m,rfl⟩,rfl⟩
theorem RI {sm nm:Str}{n:Int}{t:Bt}{p:Pe}(e:p.e=.sl nm sm n t):p.e.isSl sm=true:=by rw[e];exact aE rfl
def C1 (K:W.Frag)(C:Addr)(XC:Nat->Addr)(PT PU:Addr):Sp:=λvs H Q E=>∃(x:Addr) (sm:Str),vs=[.ref x,.str sm]/\Ew C PT PU XC x (.back sm) H Q E
theorem Jr (T:Txt K mg C XC)(F:Fun K "back" "PlainHouse.back" BU f fd)(Fu:Bu P w K mg base 5 "stem_set_back" ["head","stem"] (E4 K XC PT PU)):FnOk P w K mg base (Fj P w) 6 f fd ["self","stem"] (C1 K C XC PT PU):=by
 refine F.okE JB (λvs H Q E h=>?_) (λcdv A outer s H vs Q E hr h=>?_)
 ·obtain⟨x,sm,rfl,_⟩:=h;rfl
 obtain⟨x,sm,rfl,ag,qs,ps,hs,hi,ok,tb,q1,q2⟩:=h;refine⟨_,(!Ad (!Jv (pv 0) (!Ba Fu (by trivial) rfl Am (!Aa (!EL (pv 0)) (!Aa (pv 1) (!Ab)))))),?_⟩
 try dsimp only[A4,Cx.nox,Cx.wish]
 obtain⟨dx,h,k,n,hx,hd⟩:=hs.at_;refine⟨_,rfl,x,C,dx,_,_,rfl,hx,T.cl,T.n_own_head,rfl,_,rfl,h,sm,ag,k,n,qs,ps,rfl,hd,hi.rp,hi.tn,by have:=hi.few;omega,tb,λno H' S' T'=>q1 _ (.back0 sm (FE hi.rp no)) H' S' T',λp hp no H' S' T'=>?_,λp kp og t s hp ep ms is top h' n' a H' S' T' hd'=>?_⟩
 ·obtain⟨kp,og,m,mp,ep⟩:=GE hp;refine q1 _ (.back1 sm ⟨_,_,_,m⟩ λ⟨nm,i,t,z⟩=>?_) H' S' T';obtain⟨q,hq,e⟩:=aA.mp z;have:=no q hq;rw[RI e] at this;cases this
 ·obtain⟨kp',og',m,mp,ep'⟩:=GE hp;have m2:En.st sm kp og t∈ps.map (·.e):=ep▸aA.mpr ⟨p,mp,rfl⟩;obtain⟨nm,i,z,es⟩:=Vk is ms;obtain⟨k2,hs2,tb2⟩:=Iu hx S' T' hd';refine⟨_,rfl,x,C,dx,_,rfl,S'.keep _ _ (λ_ z=>by cases z) hx,T.cl,T.n_own_head,(by show 1<1000;decide),?_⟩;refine G0 hi ok (.back2 sm ⟨_,_,_,m⟩ ⟨_,_,_,z⟩) (λ_ _ z=>by cases z) q2 k2 tb2 hs2 (D6 hi.rp) (.back sm nm i s.e.tr z (λnm' m' t' z'=>?_) (.of_eq (VZ hi.rp m2))) (GU hi.rp (.inl ⟨s,ms,rfl⟩));obtain⟨q,hq,e⟩:=aA.mp z';have:=top q hq (RI e);rw[e,es] at this;exact this
def CJ (K:W.Frag)(C:Addr)(XC:Nat->Addr)(PT PU:Addr):Sp:=λvs H Q E=>∃(x:Addr) (sm:Str),vs=[.ref x,.str sm]/\Ew C PT PU XC x (.graft sm) H Q E
theorem IP (T:Txt K mg C XC)(F:Fun K "graft" "PlainHouse.graft" BL f fd)(CZ:Bu P w K mg base 6 "stem_grafted_unbound" ["head","stem"] (CL K XC PT PU)):FnOk P w K mg base (Fj P w) 7 f fd ["self","stem"] (CJ K C XC PT PU):=by
 refine F.okE IS (λvs H Q E h=>?_) (λcdv A outer s H vs Q E hr h=>?_)
 ·obtain⟨x,sm,rfl,_⟩:=h;rfl
 obtain⟨x,sm,rfl,ag,qs,ps,hs,hi,ok,tb,q1,q2⟩:=h;refine⟨_,(!Ad (!Jv (pv 0) (!Ba CZ (by trivial) rfl Am (!Aa (!EL (pv 0)) (!Aa (pv 1) (!Ab)))))),?_⟩
 try dsimp only[A4,Cx.nox,Cx.wish]
 obtain⟨dx,h,k,n,hx,hd⟩:=hs.at_;refine⟨_,rfl,x,C,dx,_,_,rfl,hx,T.cl,T.n_own_head,rfl,_,rfl,h,sm,ag,k,n,qs,ps,rfl,hd,hi.rp,hi.tn,by have:=hi.few;omega,tb,λno=>q1 _ (.graft0 sm (FE hi.rp no)) H (.refl _) tb,λp kp t hp ep=>?_,λp kp og t hp ep ne=>?_⟩
 ·exact q1 _ (.graft1 sm kp t (ep▸aA.mpr ⟨p,(EB hp).1,rfl⟩)) H (.refl _) tb
 ·have m1:En.st sm kp og t∈ps.map (·.e):=ep▸aA.mpr ⟨p,(EB hp).1,rfl⟩;obtain⟨pr,tn,t2,m2⟩:=(hi.wl.og _ _ _ _ m1).resolve_left ne;obtain⟨k3,o3,t3,m3⟩:=(hi.wl.sm _ _ _ _ m2).1;obtain⟨p2,mp2,e2⟩:=aA.mp m2;obtain⟨p3,mp3,e3⟩:=aA.mp m3;refine⟨p2,p3,k3,pr,o3,tn,t2,t3,mp2,mp3,e2,e3,λh' n' ps' H' S' T' hd' em et=>?_⟩;obtain⟨k2,hs2,tb2⟩:=Iu hx S' T' hd';refine⟨_,rfl,x,C,dx,_,rfl,S'.keep _ _ (λ_ z=>by cases z) hx,T.cl,T.n_own_head,(by show 1<1000;decide),?_⟩;have nme:ps'.map Cg=ps.map Cg:=by
   rw[<-HC,em,<-HC,aL];exact aZ λe _=>Zi _ _ _ _ _ e
  have ri':Ri Cg ps':=by
   have:(ps.map Cg).Pairwise NH:=bJ.mpr hi.rp;rw[<-nme] at this;exact bJ.mp this
  exact G0 hi ok (.graft2 sm kp og t m1 ne) (λ_ _ z=>by cases z) q2 k2 tb2 hs2 ri' (.graft sm kp og t pr tn t2 k3 o3 t3 m1 m2 m3 (.of_eq em)) (S5 et)
theorem Yt {nm:Str}{ps:List Pe}(h:HN nm ps=none):nm∉(ps.map (·.e)).map En.nm:=λz=>by
 rw[HC] at z;have:=GY.mpr z;rw[h] at this;cases this
theorem Qu {nm:Str}{ps:List Pe}{p:Pe}(ri:Ri Cg ps)(h:HN nm ps=some p)(z:Str):z∈Jm nm p ps↔Sr nm (ps.map (·.e)) z:=by
 obtain⟨mp,np⟩:=CK h;have nd:((ps.map (·.e)).map En.nm).Nodup:=by rw[HC];exact ri.nd
 unfold Jm Sr
 by_cases c:p.e.isS=true
 ·have hst:CH nm (ps.map (·.e)):=by
   obtain⟨nm',kp,t,e⟩:=Ld c;have:nm'=nm:=by rw[<-np,e];rfl
   subst this;exact⟨kp,p.e.og,t,by rw[<-e];exact aA.mpr ⟨p,mp,rfl⟩⟩
  rw[aI c,aA];constructor
  ·rintro⟨q,hq,rfl⟩
   obtain⟨h1,h2⟩:=aO.mp hq;obtain⟨nm',n,z,e⟩:=Vk h2 h1;refine .inl ⟨hst,n,q.e.tr,?_⟩;have:Cg q=nm':=by show q.e.nm=_;rw[e];rfl
   rw[this];exact z
  ·rintro(⟨_,n,t,h⟩|⟨h,_⟩)
   ·obtain⟨q,hq,e⟩:=aA.mp h;exact⟨q,aO.mpr ⟨hq,RI e⟩,by show q.e.nm=z;rw[e];rfl⟩
   ·exact absurd hst h
 ·have hns:¬CH nm (ps.map (·.e)):=λ⟨k,o,t,y⟩=>by
   have y2:p.e∈ps.map (·.e):=aA.mpr ⟨p,mp,rfl⟩;have:=D1 nd y y2 (by rw[np];rfl);rw[<-this] at c;exact c rfl
  rw[aF c,aG];constructor
  ·exact λh=>.inr ⟨hns,h⟩
  ·rintro(⟨h,_⟩|⟨_,h⟩)
   ·exact absurd h hns
   ·exact h
theorem Wd {ps:List Pe}(z:Str):z∈Vu ps↔∃s k t,En.st s k z t∈ps.map (·.e):=by
 unfold Vu;rw[aA];constructor
 ·rintro⟨q,hq,rfl⟩
  obtain⟨h1,h2⟩:=aO.mp hq;obtain⟨nm',kp,t,e⟩:=Ld h2;exact⟨nm',kp,t,by rw[<-e];exact aA.mpr ⟨q,h1,rfl⟩⟩
 ·rintro⟨s,k,t,h⟩
  obtain⟨q,hq,e⟩:=aA.mp h;exact⟨q,aO.mpr ⟨hq,by rw[e];rfl⟩,by rw[e];rfl⟩
def C4 (K:W.Frag)(C:Addr)(XC:Nat->Addr)(PT PU:Addr):Sp:=λvs H Q E=>∃(x:Addr) (nm:Str),vs=[.ref x,.str nm]/\Ew C PT PU XC x (.drop nm) H Q E
theorem JF (T:Txt K mg C XC)(F:Fun K "drop" "PlainHouse.drop" BX f fd)(FZ:Bu P w K mg base 4 "name_dropped" ["head","name"] (Fp K XC PT PU)):FnOk P w K mg base (Fj P w) 5 f fd ["self","name"] (C4 K C XC PT PU):=by
 refine F.okE JQ (λvs H Q E h=>?_) (λcdv A outer s H vs Q E hr h=>?_)
 ·obtain⟨x,nm,rfl,_⟩:=h;rfl
 obtain⟨x,nm,rfl,ag,qs,ps,hs,hi,ok,tb,q1,q2⟩:=h;refine⟨_,(!Ad (!Jv (pv 0) (!Ba FZ (by trivial) rfl Am (!Aa (!EL (pv 0)) (!Aa (pv 1) (!Ab)))))),?_⟩
 try dsimp only[A4,Cx.nox,Cx.wish]
 obtain⟨dx,h,k,n,hx,hd⟩:=hs.at_;have inn:∀{p},HN nm ps=some p->nm∈(ps.map (·.e)).map En.nm:=λ{p} hp=>by
  rw[HC];exact GY.mp (by rw[hp];rfl)
 have stk:∀{p},HN nm ps=some p->∀z,PY nm (ps.map (·.e)) z↔z∈Jm nm p ps/\z∈Vu ps:=λ{p} hp z=>by
  unfold PY;rw[Qu hi.rp hp,Wd]
 refine⟨_,rfl,x,C,dx,_,_,rfl,hx,T.cl,T.n_own_head,rfl,_,rfl,h,nm,ag,k,n,qs,ps,rfl,hd,hi.rp,hi.tn,by have:=hi.few;omega,tb,λno=>q1 _ (.drop0 nm (Yt no)) H (.refl _) tb,λp z hp zg zo zl H' S' T'=>?_,λp hp fr h' n' H' S' T' hd'=>?_⟩
 ·exact q1 _ (.drop1 nm z (inn hp) ⟨(stk hp z).mpr ⟨zg,zo⟩,λy hy=>zl y ((stk hp y).mp hy).1 ((stk hp y).mp hy).2⟩) H' S' T'
 ·obtain⟨k2,hs2,tb2⟩:=Iu hx S' T' hd';refine⟨_,rfl,x,C,dx,_,rfl,S'.keep _ _ (λ_ z=>by cases z) hx,T.cl,T.n_own_head,(by show 1<1000;decide),?_⟩;refine G0 hi ok (.drop2 nm (inn hp) λz hz=>fr z ((stk hp z).mp hz).1 ((stk hp z).mp hz).2) (λ_ _ z=>by cases z) q2 k2 tb2 hs2 (hi.rp.filter _) (.drop nm (λe=>!decide (e.nm=nm\/e.nm∈Jm nm p ps)) (λe=>?_) ?_) λq hq=>.inl ⟨q,(aO.mp hq).1,rfl⟩
  ·rw[Bool.not_eq_true',fU,Qu hi.rp hp]
  ·rw[List.filter_map];exact .refl _
end
open Classical in
noncomputable def Ql (t:Bt) (P:List Str) (k:Rf ⊕ Bt):Rf ⊕ Bt:=if IT t P then(if lk t P=none then k else .inl (.twice (jn P))) else .inl (.noPath (jn P))
noncomputable def L3 (P:List Str):Bt->Bt->Rf ⊕ Bt:=λt _=>Ql t P (.inr (EG t [(P,none)]))
open Classical in
noncomputable def Fv (P:List Str) (c:Str):Bt->Bt->Rf ⊕ Bt:=λt _=>if IT t P then(if RF t P=true then .inl (.noPath (jn P)) else .inr (EG t [(P,some c)])) else .inl (.noPath (jn P))
def Xf (c:Str)(at_ many:Int)(z:Str):Str:=(PySem.Txt.slice c none (some at_)++z)++PySem.Txt.slice c (some (at_+many)) none
noncomputable def Eu (P:List Str) (at_ many:Int) (z:Str):Bt->Bt->Rf ⊕ Bt:=λt ts=>match lk t P with
 |some (some c)=>Fv P (Xf c at_ many z) t ts
 |_=>.inl (.noPath (jn P))
def J9 (P:List Str):Bt->Bt->Rf ⊕ Bt:=λt _=>if lk t P=none then .inl (.noPath (jn P)) else .inr (HF t P)
open Classical in
noncomputable def QP (P Q:List Str):Bt->Bt->Rf ⊕ Bt:=λt _=>if lk t P=none then .inl (.noPath (jn P)) else if Q=P\/HK Q P=true then .inl (.noPath (jn Q)) else Ql t Q (.inr (EG (HF t P) (LZ t P Q)))
open Classical in
noncomputable def Qq (Q P:List Str):Bt->Bt->Rf ⊕ Bt:=λt ts=>if P≠[]/\lk ts P=none then .inl (.noPath (jn P)) else Ql t Q (.inr (EG t (LZ ts P Q)))
theorem TrV.with {t more:Bt}(h:TrV t)(vm:∀p∈more,VP p.1/\p.1≠[])(dm:∀p∈more,p.1.length<=16)(l:t.length+more.length<=200):TrV (EG t more):=by
 refine⟨QN h.nd,λp hp=>?_,λp hp=>?_,bj (OF _ _) l⟩
 ·rcases Lx hp with⟨q,hq,e⟩|hp
  ·rw[e];exact vm q hq
  ·exact h.vp p hp
 ·rcases Lx hp with⟨q,hq,e⟩|hp
  ·rw[e];exact dm q hq
  ·exact h.deep p hp
theorem TrV.cut {t:Bt}(h:TrV t)(P:List Str):TrV (HF t P):=⟨h.nd.sublist (List.filter_sublist.map _),λp hp=>h.vp p (aO.mp hp).1,λp hp=>h.deep p (aO.mp hp).1,bj (bp _ _) h.few⟩
theorem Vj {t:Bt}{p q:List Str×Option Str}(h:q∈HG t p):q.2=p.2\/q∈t:=by
 unfold HG at h
 split at h
 ·obtain⟨x,hx,e⟩:=aA.mp h
  by_cases c:x.1=p.1
  ·rw[aI c] at e;exact .inl (by rw[<-e])
  ·rw[aF c] at e;exact .inr (e▸hx)
 ·rcases bu.mp h with h|h
  ·exact .inr h
  ·exact .inl (by rw[aG.mp h])
theorem Lw:∀{more t:Bt} {q:List Str×Option Str},q∈EG t more->(∃p∈more,q.2=p.2)\/q∈t
 |[],_,_,h=>.inr h
 |p::more,t,q,h=>by
  rcases Lw (more:=more) (t:=HG t p) h with⟨x,hx,e⟩|h
  ·exact .inl ⟨x,aB _ hx,e⟩
  ·rcases Vj h with e|h
   ·exact .inl ⟨p,aK,e⟩
   ·exact .inr h
theorem O1 {t more:Bt}(h:TrOk t)(hm:∀p∈more,∀c,p.2=some c->c.length<=1000000):∀p∈EG t more,∀c,p.2=some c->c.length<=1000000:=λp hp c e=>by
 rcases Lw hp with⟨q,hq,e2⟩|hp
 ·exact hm q hq c (by rw[<-e2];exact e)
 ·have:=h.b.ct p hp c e;omega
theorem Vh {t:Bt}(h:TrOk t)(P Q:List Str):∀p∈LZ t P Q,∀c,p.2=some c->c.length<=1000000:=λp hp c e=>by
 rcases aX.mp hp with rfl|hp
 ·have e:(lk t P).getD none=some c:=e;cases el:lk t P with
  |none=>rw[el] at e;cases e
  |some v=>
   rw[el] at e;have:=h.b.ct _ (Vr el) c e;omega
 ·obtain⟨q,hq,rfl⟩:=aA.mp hp;have:=h.b.ct q (aO.mp hq).1 c e;omega
theorem Md {t:Bt}(h:TrOk t){P Q:List Str}(vQ:VP Q)(nQ:Q≠[])(lQ:Q.length<=8):(∀p∈LZ t P Q,VP p.1/\p.1≠[])/\(∀p∈LZ t P Q,p.1.length<=16)/\(LZ t P Q).length<=61:=by
 refine⟨λp hp=>?_,λp hp=>?_,?_⟩
 ·rcases aX.mp hp with rfl|hp
  ·exact⟨vQ,nQ⟩
  ·obtain⟨q,hq,rfl⟩:=aA.mp hp;refine⟨λx hx=>?_,λz=>nQ (gh.mp z).1⟩;rcases bu.mp hx with hx|hx
   ·exact vQ x hx
   ·exact(h.v.vp q (aO.mp hq).1).1 x (du hx)
 ·rcases aX.mp hp with rfl|hp
  ·show Q.length<=16;omega
  ·obtain⟨q,hq,rfl⟩:=aA.mp hp;have:=h.b.deep q (aO.mp hq).1;show(Q++q.1.drop P.length).length<=16;rw[aM,cA];omega
 ·unfold LZ;rw[bw,ax];have:=bp (λp:List Str×Option Str=>HK p.1 P) t;have:=h.b.few;omega
theorem ON {t:Bt}{P:List Str}{k:Rf ⊕ Bt}{t':Bt}(h:Ql t P k=.inr t'):IT t P/\lk t P=none/\k=.inr t':=by
 unfold Ql at h
 by_cases c:IT t P
 ·rw[aI c] at h
  by_cases d:lk t P=none
  ·rw[aI d] at h;exact⟨c,d,h⟩
  ·rw[aF d] at h;cases h
 ·rw[aF c] at h;cases h
theorem Mf {P:List Str}{v:Option Str}(vP:VP P)(n:P≠[])(l:P.length<=8):(∀p∈[(P,v)],VP p.1/\p.1≠[])/\∀p∈[(P,v)],p.1.length<=16:=⟨λp hp=>by rw[aG.mp hp];exact⟨vP,n⟩,λp hp=>by rw[aG.mp hp];show P.length<=16;omega⟩
theorem Ox {P:List Str}(vP:VP P)(l:P.length<=8){t ts t':Bt}(h:TrOk t)(e:L3 P t ts=.inr t'):TrV t':=by
 obtain⟨pk,_,e⟩:=ON e;cases e;obtain⟨a,b⟩:=Mf (v:=none) vP pk.1 l;exact h.v.with a b (by have:=h.b.few;show t.length+1<=200;omega)
theorem HQ {P:List Str}{c:Str}(vP:VP P)(l:P.length<=8){t ts t':Bt}(h:TrOk t)(e:Fv P c t ts=.inr t'):TrV t':=by
 unfold Fv at e
 by_cases pk:IT t P
 ·rw[aI pk] at e
  by_cases d:RF t P=true
  ·rw[aI d] at e;cases e
  ·rw[aF d] at e;cases e;obtain⟨a,b⟩:=Mf (v:=some c) vP pk.1 l;exact h.v.with a b (by have:=h.b.few;show t.length+1<=200;omega)
 ·rw[aF pk] at e;cases e
section
variable {P:Program}{w:World}{K:W.Frag}{mg:Str->Option Value}{base:Heap}{f C:Addr}{XC:Nat->Addr}{fd:FuncData}{PT PU:Addr}
theorem HS {x d':Addr} {sm kp og:Str} {src:Option Str} {f:Bt->Bt->Rf ⊕ Bt} {t ts t':Bt} {H H1:Hp} {Q:V->Hp->Prop} {E:Value->Option Addr->Hp->Prop} {ag:Int} {qs:List Kq} {ps:List Pe} (hs:Hs C H x ag qs ps) (hi:HI ag qs ps) (ok:(De.tree sm src f).Ok) (m:En.st sm kp og t∈ps.map (·.e)) (hsrc:Ks (ps.map (·.e)) src ts) (e:f t ts=.inr t')
  (q1:∀r,Ref (qs.map CT) (ps.map (·.e)) (.tree sm src f) (some r)->∀H',St H H'->Tb PT PU H'->Ex XC E H' r)
  (q2:Ref (qs.map CT) (ps.map (·.e)) (.tree sm src f) none->∀qs' ps' H',KH x H H'->Tb PT PU H'->Hs C H' x (ag+1) qs' ps'->HI (ag+1) qs' ps'->Step (ag+1) (ps.map (·.e)) (ps'.map (·.e)) (.tree sm src f)->Qw (.tree sm src f) (qs.map CT) (qs'.map CT)->(∀q∈ps',(∃p∈ps,q.t=p.t)\/H q.t=none)->Q .non H')
  (S1:St H H1) (nd':H1 d'=none\/H d'=none):(BOk t'->∀a H',KH x H1 H'->Tb PT PU H'->Hs C H' x (ag+1) qs (putL Cg ⟨a,d',.st sm kp og t'⟩ ps)->Q .non H')/\(¬BOk t'->∀H',St H1 H'->Tb PT PU H'->Ex XC E H' .many):=by
 refine⟨λbo a H' k' tb' h'=>?_,λbo H' S' T'=>q1 _ (.tree3 sm src f kp og t ts t' m hsrc e bo) H' (S1.trans S') T'⟩;have hn:H d'=none:=nd'.elim (λz=>S1.there _ z) id;exact G0 hi ok (.tree4 sm src f kp og t ts t' m hsrc e bo) (λ_ _ z=>by cases z) q2 ((hs.kh S1).trans k') tb' h' (D6 hi.rp) (.tree sm src f kp og t ts t' m hsrc e (.of_eq (VZ hi.rp m))) (GU hi.rp (.inr hn))
def BE (K:W.Frag)(C:Addr)(XC:Nat->Addr)(PT PU:Addr):Sp:=λvs H Q E=>∃(x:Addr) (sm c:Str) (P:List Str),vs=[.ref x,.str sm,.str (jn P),.str c]/\VP P/\P.length<=8/\c.length<=100000/\Ew C PT PU XC x (.tree sm none (Fv P c)) H Q E
theorem IM (T:Txt K mg C XC)(F:Fun K "write" "PlainHouse.write" BK f fd)(Aq:AL P w K mg base 5 C "tree_of_stem" ["self","name"] (AN K C XC))(Eh:Bu P w K mg base 4 "check_put" ["tree","path"] (FD K XC))(Ed:Def P w K mg base 1 "is_folder" ["tree","path"] (FB K))(AF:AL P w K mg base 5 C "change" ["self","stem","tree"] (A8 K C XC PT PU))(A2:Gq P w K mg base 1 "NoPath" (XC 5) "path" ["self","path"])(Bm:Def P w K mg base 1 "with_paths" ["tree","more"] (CF K)):FnOk P w K mg base (Fj P w) 6 f fd ["self","stem","path","content"] (BE K C XC PT PU):=by
 refine F.okE Fz (λvs H Q E h=>?_) (λcdv A outer s H vs Q E hr h=>?_)
 ·obtain⟨x,sm,c,P,rfl,_⟩:=h;rfl
 obtain⟨x,sm,c,P,rfl,vP,l8,lc,ag,qs,ps,hs,hi,ok,tb,q1,q2⟩:=h;refine⟨_,(!Ah (@AK _ _ (4) _ _ _ _ Fz.nd rfl (by trivial) (!AH (pv 0) T.cl Aq (by trivial) Am (!Aa (pv 1) (!Ab))) (by rfl) (by trivial)) (!Ah (!AA (!Ba Eh (by trivial) rfl Am (!Aa (pv 4) (!Aa (pv 2) (!Ab))))) (!Ah (!AV (!ER (!AW Ed (by trivial) rfl (!Aa (pv 4) (!Aa (pv 2) (!Ab)))) (by intro _;rfl)) (!Ad (!By Bi rfl A2 (by trivial) rfl (!Aa (pv 2) (!Ab)))) (!AO)) (!Ad (!AA (!AH (pv 0) T.cl AF (by trivial) Am (!Aa (pv 1) (!Aa (!AW Bm (by trivial) rfl (!Aa (pv 4) (!Aa (!B7 (!Aa (!Bo (!Aa (pv 2) (!Aa (pv 3) (!Ab)))) (!Ab))) (!Ab)))) (!Ab))))))))),?_⟩
 try dsimp only[A4,Cx.nox,Cx.wish]
 obtain⟨dx,h,k,n,hx,hd⟩:=hs.at_;refine⟨_,rfl,x,dx,_,rfl,hx,rfl,_,rfl,x,sm,ag,qs,ps,rfl,hs,λp hp en=>?_,λno=>q1 _ (.tree0 sm none _ (FE hi.rp no)) H (.refl _) tb⟩;obtain⟨kp,og,m,mp,ep⟩:=GE hp;have tk:TrOk p.e.tr:=by have:=hi.wl.tr _ m;exact this
 refine⟨_,rfl,_,rfl,p.t,P,p.e.tr,rfl,en.1,tk.v.v,vP,l8,λpk H1 s1=>?_,λpk H1 s1=>q1 _ (.tree2 sm none _ kp og p.e.tr [] _ m rfl (aF pk)) H1 (AC s1) (tb.same s1)⟩;refine⟨_,rfl,_,rfl,p.t,P,p.e.tr,rfl,s1.get en.1,tk.v.v,vP,_,rfl,?_⟩;cases fo:RF p.e.tr P with
 |true=>exact AU rfl ⟨_,rfl,_,rfl,q1 _ (.tree2 sm none _ kp og p.e.tr [] _ m rfl ((aI pk).trans (aI fo))) H1 (AC s1) (tb.same s1)⟩
 |false=>
  have ef:Fv P c p.e.tr []=.inr (EG p.e.tr [(P,some c)]):=(aI pk).trans (aF (by rw[fo];exact aJ));refine Ay rfl ?_;refine⟨_,rfl,x,dx,_,rfl,s1.get hx,rfl,_,rfl,_,rfl,_,rfl,_,rfl,Dt,λp1 n1=>?_⟩;have s2:=Ai n1 (.tup [V.str (jn P),V.str c]);have h2:(upd H1 p1 (.tup [V.str (jn P),V.str c])) p1=some (.tup [V.str (jn P),V.str c]):=Ae;generalize upd H1 p1 (.tup [V.str (jn P),V.str c])=H2 at s2 h2;refine⟨Pn,λp2 n2=>?_⟩;have s3:=Ai n2 (.lst [V.ref p1]);have h3:(upd H2 p2 (.lst [V.ref p1])) p2=some (.lst ([p1].map V.ref)):=Ae;generalize upd H2 p2 (.lst [V.ref p1])=H3 at s3 h3;have s13:=(s1.trans s2).trans s3;obtain⟨a,b⟩:=Mf (v:=some c) vP pk.1 l8;refine⟨p.t,p2,p.e.tr,[(P,some c)],[p1],rfl,s13.get en.1,h3,⟨rfl,λi y z e1 e2=>?_⟩,tk.v.v,λy hy=>(a y hy).1,tk.v.few,(by show 1<=200;decide),λd' H4 s4 nd' hd'=>?_⟩
  ·cases i with
   |zero=>cases e1;cases e2;exact s3.get h2
   |succ i=>cases e1
  have s14:=s13.trans s4;obtain⟨g1,g2⟩:=HS (d':=d') hs hi ok m rfl ef q1 q2 (AC s14) (.inr ((AC s13).there _ nd'));refine⟨x,d',sm,kp,og,p.e.tr,EG p.e.tr [(P,some c)],p,ag,qs,ps,rfl,hs.st (AC s14),hp,ep,hd',HQ vP l8 tk ef,O1 tk (λy hy c' ec=>by rw[aG.mp hy] at ec;cases ec;omega),hi.rp,by have:=hi.few;omega,tb.same s14,g1,g2⟩
def Cy (K:W.Frag)(C:Addr)(XC:Nat->Addr)(PT PU:Addr):Sp:=λvs H Q E=>∃(x:Addr) (sm:Str) (P:List Str),vs=[.ref x,.str sm,.str (jn P)]/\VP P/\P.length<=8/\Ew C PT PU XC x (.tree sm none (L3 P)) H Q E
theorem HW (T:Txt K mg C XC)(F:Fun K "folder" "PlainHouse.folder" BG f fd)(Aq:AL P w K mg base 5 C "tree_of_stem" ["self","name"] (AN K C XC))(Ca:Bu P w K mg base 5 "check_free" ["tree","path"] (C9 K XC))(AF:AL P w K mg base 5 C "change" ["self","stem","tree"] (A8 K C XC PT PU))(Bm:Def P w K mg base 1 "with_paths" ["tree","more"] (CF K)):FnOk P w K mg base (Fj P w) 6 f fd ["self","stem","path"] (Cy K C XC PT PU):=by
 refine F.okE Fd (λvs H Q E h=>?_) (λcdv A outer s H vs Q E hr h=>?_)
 ·obtain⟨x,sm,P,rfl,_⟩:=h;rfl
 obtain⟨x,sm,P,rfl,vP,l8,ag,qs,ps,hs,hi,ok,tb,q1,q2⟩:=h;refine⟨_,(!Ah (@AK _ _ (3) _ _ _ _ Fd.nd rfl (by trivial) (!AH (pv 0) T.cl Aq (by trivial) Am (!Aa (pv 1) (!Ab))) (by rfl) (by trivial)) (!Ah (!AA (!Ba Ca (by trivial) rfl Am (!Aa (pv 3) (!Aa (pv 2) (!Ab))))) (!Ad (!AA (!AH (pv 0) T.cl AF (by trivial) Am (!Aa (pv 1) (!Aa (!AW Bm (by trivial) rfl (!Aa (pv 3) (!Aa (!B7 (!Aa (!Bo (!Aa (pv 2) (!Aa (!Q4) (!Ab)))) (!Ab))) (!Ab)))) (!Ab)))))))),?_⟩
 try dsimp only[A4,Cx.nox,Cx.wish]
 obtain⟨dx,h,k,n,hx,hd⟩:=hs.at_;refine⟨_,rfl,x,dx,_,rfl,hx,rfl,_,rfl,x,sm,ag,qs,ps,rfl,hs,λp hp en=>?_,λno=>q1 _ (.tree0 sm none _ (FE hi.rp no)) H (.refl _) tb⟩;obtain⟨kp,og,m,mp,ep⟩:=GE hp;have tk:TrOk p.e.tr:=by have:=hi.wl.tr _ m;exact this
 refine⟨_,rfl,_,rfl,p.t,P,p.e.tr,rfl,en.1,tk.v.v,vP,l8,λpk nl H1 s1=>?_,λpk nl H1 s1=>q1 _ (.tree2 sm none _ kp og p.e.tr [] _ m rfl ((aI pk).trans (aF nl))) H1 (AC s1) (tb.same s1),λpk H1 s1=>q1 _ (.tree2 sm none _ kp og p.e.tr [] _ m rfl (aF pk)) H1 (AC s1) (tb.same s1)⟩;have ef:L3 P p.e.tr []=.inr (EG p.e.tr [(P,none)]):=(aI pk).trans (aI nl);refine⟨_,rfl,x,dx,_,rfl,s1.get hx,rfl,_,rfl,_,rfl,_,rfl,Dt,λp1 n1=>?_⟩;have s2:=Ai n1 (.tup [V.str (jn P),V.non]);have h2:(upd H1 p1 (.tup [V.str (jn P),V.non])) p1=some (.tup [V.str (jn P),V.non]):=Ae;generalize upd H1 p1 (.tup [V.str (jn P),V.non])=H2 at s2 h2;refine⟨Pn,λp2 n2=>?_⟩;have s3:=Ai n2 (.lst [V.ref p1]);have h3:(upd H2 p2 (.lst [V.ref p1])) p2=some (.lst ([p1].map V.ref)):=Ae;generalize upd H2 p2 (.lst [V.ref p1])=H3 at s3 h3;have s13:=(s1.trans s2).trans s3;obtain⟨a,b⟩:=Mf (v:=none) vP pk.1 l8;refine⟨p.t,p2,p.e.tr,[(P,none)],[p1],rfl,s13.get en.1,h3,⟨rfl,λi y z e1 e2=>?_⟩,tk.v.v,λy hy=>(a y hy).1,tk.v.few,(by show 1<=200;decide),λd' H4 s4 nd' hd'=>?_⟩
 ·cases i with
  |zero=>cases e1;cases e2;exact s3.get h2
  |succ i=>cases e1
 have s14:=s13.trans s4;obtain⟨g1,g2⟩:=HS (d':=d') hs hi ok m rfl ef q1 q2 (AC s14) (.inr ((AC s13).there _ nd'));exact⟨x,d',sm,kp,og,p.e.tr,EG p.e.tr [(P,none)],p,ag,qs,ps,rfl,hs.st (AC s14),hp,ep,hd',Ox vP l8 tk ef,O1 tk (λy hy c' ec=>by rw[aG.mp hy] at ec;cases ec),hi.rp,by have:=hi.few;omega,tb.same s14,g1,g2⟩
def CB (K:W.Frag)(C:Addr)(XC:Nat->Addr)(PT PU:Addr):Sp:=λvs H Q E=>∃(x:Addr) (sm:Str) (P:List Str),vs=[.ref x,.str sm,.str (jn P)]/\VP P/\P.length<=8/\Ew C PT PU XC x (.tree sm none (J9 P)) H Q E
theorem Im (T:Txt K mg C XC)(F:Fun K "remove" "PlainHouse.remove" BH f fd)(Aq:AL P w K mg base 5 C "tree_of_stem" ["self","name"] (AN K C XC))(BN:Bu P w K mg base 3 "check_there" ["tree","path"] (Du K XC))(AF:AL P w K mg base 5 C "change" ["self","stem","tree"] (A8 K C XC PT PU))(CQ:Def P w K mg base 2 "without_path" ["tree","path"] (DW K)):FnOk P w K mg base (Fj P w) 6 f fd ["self","stem","path"] (CB K C XC PT PU):=by
 refine F.okE Fm (λvs H Q E h=>?_) (λcdv A outer s H vs Q E hr h=>?_)
 ·obtain⟨x,sm,P,rfl,_⟩:=h;rfl
 obtain⟨x,sm,P,rfl,vP,l8,ag,qs,ps,hs,hi,ok,tb,q1,q2⟩:=h;refine⟨_,(!Ah (@AK _ _ (3) _ _ _ _ Fm.nd rfl (by trivial) (!AH (pv 0) T.cl Aq (by trivial) Am (!Aa (pv 1) (!Ab))) (by rfl) (by trivial)) (!Ah (!AA (!Ba BN (by trivial) rfl Am (!Aa (pv 3) (!Aa (pv 2) (!Ab))))) (!Ad (!AA (!AH (pv 0) T.cl AF (by trivial) Am (!Aa (pv 1) (!Aa (!AW CQ (by trivial) rfl (!Aa (pv 3) (!Aa (pv 2) (!Ab)))) (!Ab)))))))),?_⟩
 try dsimp only[A4,Cx.nox,Cx.wish]
 obtain⟨dx,h,k,n,hx,hd⟩:=hs.at_;refine⟨_,rfl,x,dx,_,rfl,hx,rfl,_,rfl,x,sm,ag,qs,ps,rfl,hs,λp hp en=>?_,λno=>q1 _ (.tree0 sm none _ (FE hi.rp no)) H (.refl _) tb⟩;obtain⟨kp,og,m,mp,ep⟩:=GE hp;have tk:TrOk p.e.tr:=by have:=hi.wl.tr _ m;exact this
 refine⟨_,rfl,_,rfl,p.t,P,p.e.tr,rfl,en.1,tk.v.v,vP,λnl=>?_,λnl=>q1 _ (.tree2 sm none _ kp og p.e.tr [] _ m rfl (aI nl)) H (.refl _) tb⟩;have ef:J9 P p.e.tr []=.inr (HF p.e.tr P):=aF nl;refine⟨_,rfl,x,dx,_,rfl,hx,rfl,_,rfl,_,rfl,_,rfl,p.t,p.e.tr,P,rfl,en.1,tk.v,vP,by omega,λd' H4 s4 nd' hd'=>?_⟩;obtain⟨g1,g2⟩:=HS (d':=d') hs hi ok m rfl ef q1 q2 (AC s4) (.inr nd');exact⟨x,d',sm,kp,og,p.e.tr,HF p.e.tr P,p,ag,qs,ps,rfl,hs.st (AC s4),hp,ep,hd',tk.v.cut P,(λy hy c' ec=>by have:=tk.b.ct y (aO.mp hy).1 c' ec;omega),hi.rp,by have:=hi.few;omega,tb.same s4,g1,g2⟩
def CW (K:W.Frag)(C:Addr)(XC:Nat->Addr)(PT PU:Addr):Sp:=λvs H Q E=>∃(x:Addr) (sm:Str) (P R:List Str),vs=[.ref x,.str sm,.str (jn P),.str (jn R)]/\VP P/\P.length<=8/\VP R/\R.length<=8/\Ew C PT PU XC x (.tree sm none (QP P R)) H Q E
theorem Jg (T:Txt K mg C XC)(F:Fun K "move" "PlainHouse.move" B0 f fd)(Aq:AL P w K mg base 5 C "tree_of_stem" ["self","name"] (AN K C XC))(BN:Bu P w K mg base 3 "check_there" ["tree","path"] (Du K XC))(Ca:Bu P w K mg base 5 "check_free" ["tree","path"] (C9 K XC))(AF:AL P w K mg base 5 C "change" ["self","stem","tree"] (A8 K C XC PT PU))(Cc:Def P w K mg base 1 "is_beneath" ["path","other"] (DT K))(A2:Gq P w K mg base 1 "NoPath" (XC 5) "path" ["self","path"])(Bm:Def P w K mg base 1 "with_paths" ["tree","more"] (CF K))(CQ:Def P w K mg base 2 "without_path" ["tree","path"] (DW K))(FP:Def P w K mg base 4 "carried" ["tree","path","to"] (FV K)):FnOk P w K mg base (Fj P w) 6 f fd ["self","stem","path","to"] (CW K C XC PT PU):=by
 refine F.okE Gg (λvs H Q E h=>?_) (λcdv A outer s H vs Q E hr h=>?_)
 ·obtain⟨x,sm,P,R,rfl,_⟩:=h;rfl
 obtain⟨x,sm,P,R,rfl,vP,l8,vR,r8,ag,qs,ps,hs,hi,ok,tb,q1,q2⟩:=h;refine⟨_,(!Ah (@AK _ _ (4) _ _ _ _ Gg.nd rfl (by trivial) (!AH (pv 0) T.cl Aq (by trivial) Am (!Aa (pv 1) (!Ab))) (by rfl) (by trivial)) (!Ah (!AA (!Ba BN (by trivial) rfl Am (!Aa (pv 4) (!Aa (pv 2) (!Ab))))) (!Ah (!AV (@PW.pt _ _ _ (!LJ (!AD Bh (pv 3) (pv 2) (AI _)) (!Jn (!ER (!AW Cc (by trivial) rfl (!Aa (pv 3) (!Aa (pv 2) (!Ab)))) (by intro _;rfl))))) (!Ad (!By Bi rfl A2 (by trivial) rfl (!Aa (pv 3) (!Ab)))) (!AO)) (!Ah (!AA (!Ba Ca (by trivial) rfl Am (!Aa (pv 4) (!Aa (pv 3) (!Ab))))) (!Ad (!AA (!AH (pv 0) T.cl AF (by trivial) Am (!Aa (pv 1) (!Aa (!AW Bm (by trivial) rfl (!Aa (!AW CQ (by trivial) rfl (!Aa (pv 4) (!Aa (pv 2) (!Ab)))) (!Aa (!AW FP (by trivial) rfl (!Aa (pv 4) (!Aa (pv 2) (!Aa (pv 3) (!Ab))))) (!Ab)))) (!Ab)))))))))),?_⟩
 try dsimp only[A4,Cx.nox,Cx.wish]
 obtain⟨dx,h,k,n,hx,hd⟩:=hs.at_;refine⟨_,rfl,x,dx,_,rfl,hx,rfl,_,rfl,x,sm,ag,qs,ps,rfl,hs,λp hp en=>?_,λno=>q1 _ (.tree0 sm none _ (FE hi.rp no)) H (.refl _) tb⟩;obtain⟨kp,og,m,mp,ep⟩:=GE hp;have tk:TrOk p.e.tr:=by have:=hi.wl.tr _ m;exact this
 refine⟨_,rfl,_,rfl,p.t,P,p.e.tr,rfl,en.1,tk.v.v,vP,λnl=>?_,λnl=>q1 _ (.tree2 sm none _ kp og p.e.tr [] _ m rfl (aI nl)) H (.refl _) tb⟩;have bad:(R=P\/HK R P=true)->Ex XC E H (.noPath (jn R)):=λz=>q1 _ (.tree2 sm none _ kp og p.e.tr [] _ m rfl ((aF nl).trans (aI z))) H (.refl _) tb
 refine⟨_,rfl,_,rfl,rfl,_,rfl,?_⟩;rw[R6 vR vP];refine HL (λc=>?_) (λc=>?_)
 ·exact AU rfl ⟨_,rfl,_,rfl,bad (.inl (aW c))⟩
 refine⟨_,rfl,_,rfl,R,P,rfl,vR,vP,by omega,by omega,_,rfl,?_⟩;cases cb:HK R P with
 |true=>exact AU rfl ⟨_,rfl,_,rfl,bad (.inr cb)⟩
 |false=>
  have nb:¬(R=P\/HK R P=true):=λz=>z.elim (λz=>c (aE z)) λz=>by rw[cb] at z;cases z
  refine Ay rfl ?_;refine⟨_,rfl,_,rfl,p.t,R,p.e.tr,rfl,en.1,tk.v.v,vR,r8,λpk no H1 s1=>?_,λpk no H1 s1=>q1 _ (.tree2 sm none _ kp og p.e.tr [] _ m rfl ((aF nl).trans ((aF nb).trans ((aI pk).trans (aF no))))) H1 (AC s1) (tb.same s1),λpk H1 s1=>q1 _ (.tree2 sm none _ kp og p.e.tr [] _ m rfl ((aF nl).trans ((aF nb).trans (aF pk)))) H1 (AC s1) (tb.same s1)⟩;have ef:QP P R p.e.tr []=.inr (EG (HF p.e.tr P) (LZ p.e.tr P R)):=(aF nl).trans ((aF nb).trans ((aI pk).trans (aI no)));refine⟨_,rfl,x,dx,_,rfl,s1.get hx,rfl,_,rfl,_,rfl,_,rfl,p.t,p.e.tr,P,rfl,s1.get en.1,tk.v,vP,by omega,λd1 H2 s2 nd1 hd1=>?_⟩;have s12:=s1.trans s2;refine⟨_,rfl,_,rfl,_,rfl,p.t,p.e.tr,P,R,rfl,s12.get en.1,tk.v,tk.b.deep,vP,l8,vR,pk.1,r8,λl ts H3 s3 nl3 hl3 pr=>?_⟩;have s13:=s12.trans s3;obtain⟨a1,a2,a3⟩:=Md tk vR pk.1 r8 (P:=P);have cl:(HF p.e.tr P).length<=60:=bj (bp _ _) tk.b.few;refine⟨d1,l,HF p.e.tr P,LZ p.e.tr P R,ts,rfl,s3.get hd1,hl3,pr,(tk.v.cut P).v,λy hy=>(a1 y hy).1,by omega,by omega,λd' H4 s4 nd' hd'=>?_⟩;have s14:=s13.trans s4;obtain⟨g1,g2⟩:=HS (d':=d') hs hi ok m rfl ef q1 q2 (AC s14) (.inr ((AC s13).there _ nd'));have ct:TrOk (HF p.e.tr P)\/True:=.inr trivial;refine⟨x,d',sm,kp,og,p.e.tr,_,p,ag,qs,ps,rfl,hs.st (AC s14),hp,ep,hd',(tk.v.cut P).with a1 a2 (by omega),(λy hy c' ec=>?_),hi.rp,by have:=hi.few;omega,tb.same s14,g1,g2⟩;rcases Lw hy with⟨z,hz,e2⟩|hy
  ·exact Vh tk P R z hz c' (by rw[<-e2];exact ec)
  ·have:=tk.b.ct y (aO.mp hy).1 c' ec;omega
end
theorem Ue {P:List Str}{a m:Int}{z:Str}(vP:VP P)(l:P.length<=8){t ts t':Bt}(h:TrOk t)(e:Eu P a m z t ts=.inr t'):TrV t':=by
 unfold Eu at e
 split at e
 ·exact HQ vP l h e
 ·cases e
theorem TB {P:List Str}{t ts t':Bt}(h:TrOk t)(e:J9 P t ts=.inr t'):TrV t':=by
 unfold J9 at e
 split at e
 ·cases e
 cases e;exact h.v.cut P
theorem W0 {P Q:List Str}(vQ:VP Q)(l:Q.length<=8){t ts t':Bt}(h:TrOk t)(e:QP P Q t ts=.inr t'):TrV t':=by
 unfold QP at e
 split at e
 ·cases e
 split at e
 ·cases e
 obtain⟨pk,_,e⟩:=ON e;cases e;obtain⟨a1,a2,a3⟩:=Md h vQ pk.1 l (P:=P);have cl:(HF t P).length<=60:=bj (bp _ _) h.b.few;exact(h.v.cut P).with a1 a2 (by omega)
theorem We {P Q:List Str}(vQ:VP Q)(l:Q.length<=8){t ts t':Bt}(h:TrOk t)(hs:ts=[]\/TrOk ts)(e:Qq Q P t ts=.inr t'):TrV t':=by
 have hs:TrOk ts:=hs.elim (λz=>z▸RD) id;unfold Qq at e
 split at e
 ·cases e
 obtain⟨pk,_,e⟩:=ON e;cases e;obtain⟨a1,a2,a3⟩:=Md hs vQ pk.1 l (P:=P);have:=h.b.few;exact h.v.with a1 a2 (by omega)
theorem Wc {c z:Str}{a m:Int}(hc:c.length<=400)(hz:z.length<=400):(Xf c a m z).length<=1200:=by
 unfold Xf;have h1:=bX c none (some a);have h2:=bX c (some (a+m)) none;rw[d3,d3];omega
theorem Ref.spl {ks:List Str}{es:List En}(nd:(es.map En.nm).Nodup){sm kp og:Str}{t:Bt}{P:List Str}{c z:Str}{a m:Int}(mm:En.st sm kp og t∈es)(hl:lk t P=some (some c)){r:Option Rf}(h:Ref ks es (.tree sm none (Fv P (K74.Xf c a m z))) r):Ref ks es (.tree sm none (Eu P a m z)) r:=by
 have key:∀ts,Eu P a m z t ts=Fv P (K74.Xf c a m z) t ts:=λts=>by unfold Eu;rw[hl]
 cases h with
 |tree0 _ _ _ h=>exact .tree0 _ _ _ h
 |tree2 _ _ _ k o t' ts r m s e=>obtain⟨_,_,rfl⟩:=CD nd mm m;exact .tree2 _ _ _ k o _ ts r m s ((key ts).trans e)
 |tree3 _ _ _ k o t' ts t2 m s e b=>obtain⟨_,_,rfl⟩:=CD nd mm m;exact .tree3 _ _ _ k o _ ts t2 m s ((key ts).trans e) b
 |tree4 _ _ _ k o t' ts t2 m s e b=>obtain⟨_,_,rfl⟩:=CD nd mm m;exact .tree4 _ _ _ k o _ ts t2 m s ((key ts).trans e) b
theorem Step.spl {n:Int}{es es':List En}(nd:(es.map En.nm).Nodup){sm kp og:Str}{t:Bt}{P:List Str}{c z:Str}{a m:Int}(mm:En.st sm kp og t∈es)(hl:lk t P=some (some c))(h:Step n es es' (.tree sm none (Fv P (K74.Xf c a m z)))):Step n es es' (.tree sm none (Eu P a m z)):=by
 have key:∀ts,Eu P a m z t ts=Fv P (K74.Xf c a m z) t ts:=λts=>by unfold Eu;rw[hl]
 cases h with
 |tree _ _ _ k o t' ts t2 m s e h=>obtain⟨_,_,rfl⟩:=CD nd mm m;exact .tree _ _ _ k o _ ts t2 m s ((key ts).trans e) h
theorem Yh {nm:Str}{ps:List Pe}{p:Pe}(h:HN nm ps=some p):Ks (ps.map (·.e)) (some nm) p.e.tr:=by
 obtain⟨h1,h2⟩:=CK h;exact⟨p.e,aA.mpr ⟨p,h1,rfl⟩,h2,rfl⟩
theorem X3 {nm:Str}{ps:List Pe}(h:HN nm ps=none):nm∉(ps.map (·.e)).map En.nm:=λz=>by
 rw[HC] at z;have:=GY.mpr z;rw[h] at this;cases this
def Xh (v:Option Str):Int:=match v with|none=>2|some _=>1
structure Told (ts:List Str) (t:Bt):Prop where
 pm:ts.Perm (t.map λp=>jn p.1)
 so:PyProof.Rows.sortedS ts=true
section
variable {P:Program}{w:World}{K:W.Frag}{mg:Str->Option Value}{base:Heap}{f C:Addr}{XC:Nat->Addr}{fd:FuncData}{PT PU:Addr}
def Cz (K:W.Frag)(C:Addr)(XC:Nat->Addr)(PT PU:Addr):Sp:=λvs H Q E=>∃(x:Addr) (sm z:Str) (P:List Str) (a m:Int),vs=[.ref x,.str sm,.str (jn P),.int a,.int m,.str z]/\VP P/\P.length<=8/\z.length<=400/\0<=a/\a<=1000000000/\0<=m/\m<=1000000000/\Ew C PT PU XC x (.tree sm none (Eu P a m z)) H Q E
theorem Il (T:Txt K mg C XC)(F:Fun K "splice" "PlainHouse.splice" BA f fd)(DL:Bu P w K mg base 3 "content_in" ["tree","path"] (E9 K XC))(AR:AL P w K mg base 6 C "write" ["self","stem","path","content"] (BE K C XC PT PU))(Aq:AL P w K mg base 5 C "tree_of_stem" ["self","name"] (AN K C XC)):FnOk P w K mg base (Fj P w) 7 f fd ["self","stem","path","at","many","text"] (Cz K C XC PT PU):=by
 refine F.okE Ff (λvs H Q E h=>?_) (λcdv A outer s H vs Q E hr h=>?_)
 ·obtain⟨x,sm,z,P,a,m,rfl,_⟩:=h;rfl
 obtain⟨x,sm,z,P,a,m,rfl,vP,l8,lz,a0,a1,m0,m1,ag,qs,ps,hs,hi,ok,tb,q1,q2⟩:=h;refine⟨_,(!Ah (@AK _ _ (6) _ _ _ _ Ff.nd rfl (by trivial) (!Ba DL (by trivial) rfl Am (!Aa (!AH (pv 0) T.cl Aq (by trivial) Am (!Aa (pv 1) (!Ab))) (!Aa (pv 2) (!Ab)))) (by rfl) (by trivial)) (!Ad (!AA (!AH (pv 0) T.cl AR (by trivial) Am (!Aa (pv 1) (!Aa (pv 2) (!Aa (!AY Gj (!AY Gj (!Fk UZ (pv 6) (!G6) (!FG (pv 3))) (pv 5)) (!Fk UZ (pv 6) (!FG (!AY Dq (pv 3) (pv 4))) (!G6))) (!Ab)))))))),?_⟩
 try dsimp only[A4,Cx.nox,Cx.wish]
 obtain⟨dx,h,k,n,hx,hd⟩:=hs.at_;refine⟨_,rfl,x,dx,_,rfl,hx,rfl,_,rfl,x,sm,ag,qs,ps,rfl,hs,λp hp en=>?_,λno=>q1 _ (.tree0 sm none _ (FE hi.rp no)) H (.refl _) tb⟩;obtain⟨kp,og,mm,mp,ep⟩:=GE hp;have tk:TrOk p.e.tr:=by have:=hi.wl.tr _ mm;exact this
 refine⟨_,rfl,p.t,P,p.e.tr,rfl,en.1,tk.v.v,vP,λc hl=>?_,λno=>q1 _ (.tree2 sm none _ kp og p.e.tr [] _ mm rfl (by
  unfold Eu
  split
  ·next c e=>exact absurd e (no c)
  ·rfl)) H (.refl _) tb⟩
 have hc:c.length<=400:=tk.b.ct _ (Vr hl) c rfl;refine⟨_,rfl,x,dx,_,rfl,hx,rfl,_,rfl,_,rfl,?_⟩;refine⟨_,rfl,_,rfl,_,rfl,c,rfl,small (by show _<=1000000;omega),_,rfl,_,_,rfl,rfl,small (by show _<=1000000;have:=bX c none (some a);omega),_,rfl,_,rfl,_,rfl,a,m,rfl,rfl,_,rfl,c,rfl,small (by show _<=1000000;omega),_,_,rfl,rfl,small (by show _<=1000000;have h1:=bX c none (some a);have h2:=bX c (some (a+m)) none;rw[d3];omega),x,sm,K74.Xf c a m z,P,rfl,vP,l8,by have:=Wc (a:=a) (m:=m) hc lz;omega,?_⟩;refine⟨ag,qs,ps,hs,hi,λt ts t' ht _ e=>HQ vP l8 ht e,tb,λr hr=>q1 r (hr.spl hi.wl.nd mm hl),λhr qs' ps' H' k' tb' hs' hi' st=>q2 (hr.spl hi.wl.nd mm hl) qs' ps' H' k' tb' hs' hi' (st.spl hi.wl.nd mm hl)⟩
def C2 (K:W.Frag)(C:Addr)(XC:Nat->Addr)(PT PU:Addr):Sp:=λvs H Q E=>∃(x:Addr) (sm nm:Str) (P R:List Str),vs=[.ref x,.str sm,.str (jn R),.str nm,.str (jn P)]/\VP P/\P.length<=8/\VP R/\R.length<=8/\Ew C PT PU XC x (.tree sm (some nm) (Qq R P)) H Q E
theorem JO (T:Txt K mg C XC)(F:Fun K "copy" "PlainHouse.copy" BY f fd)(Aq:AL P w K mg base 5 C "tree_of_stem" ["self","name"] (AN K C XC))(AZ:AL P w K mg base 4 C "tree_of" ["self","name"] (BI K C XC))(Ca:Bu P w K mg base 5 "check_free" ["tree","path"] (C9 K XC))(AF:AL P w K mg base 5 C "change" ["self","stem","tree"] (A8 K C XC PT PU))(BN:Bu P w K mg base 3 "check_there" ["tree","path"] (Du K XC))(Bm:Def P w K mg base 1 "with_paths" ["tree","more"] (CF K))(FP:Def P w K mg base 4 "carried" ["tree","path","to"] (FV K)):FnOk P w K mg base (Fj P w) 6 f fd ["self","stem","to","name","path"] (C2 K C XC PT PU):=by
 refine F.okE DY (λvs H Q E h=>?_) (λcdv A outer s H vs Q E hr h=>?_)
 ·obtain⟨x,sm,nm,P,R,rfl,_⟩:=h;rfl
 obtain⟨x,sm,nm,P,R,rfl,vP,l8,vR,r8,ag,qs,ps,hs,hi,ok,tb,q1,q2⟩:=h;refine⟨_,(!Ah (@AK _ _ (5) _ _ _ _ DY.nd rfl (by trivial) (!AH (pv 0) T.cl Aq (by trivial) Am (!Aa (pv 1) (!Ab))) (by rfl) (by trivial)) (!Ah (@AK _ _ (6) _ _ _ _ DY.nd rfl (by trivial) (!AH (pv 0) T.cl AZ (by trivial) Am (!Aa (pv 3) (!Ab))) (by rfl) (by trivial)) (!Ah (!AV (!AD M0 (pv 4) (!Az) (AI _)) (!Ad (!AA (!Ba BN (by trivial) rfl Am (!Aa (pv 6) (!Aa (pv 4) (!Ab)))))) (!AO)) (!Ah (!AA (!Ba Ca (by trivial) rfl Am (!Aa (pv 5) (!Aa (pv 2) (!Ab))))) (!Ad (!AA (!AH (pv 0) T.cl AF (by trivial) Am (!Aa (pv 1) (!Aa (!AW Bm (by trivial) rfl (!Aa (pv 5) (!Aa (!AW FP (by trivial) rfl (!Aa (pv 6) (!Aa (pv 4) (!Aa (pv 2) (!Ab))))) (!Ab)))) (!Ab)))))))))),?_⟩
 try dsimp only[A4,Cx.nox,Cx.wish]
 obtain⟨dx,h,k,n,hx,hd⟩:=hs.at_;refine⟨_,rfl,x,dx,_,rfl,hx,rfl,_,rfl,x,sm,ag,qs,ps,rfl,hs,λp hp en=>?_,λno=>q1 _ (.tree0 sm _ _ (FE hi.rp no)) H (.refl _) tb⟩;obtain⟨kp,og,m,mp,ep⟩:=GE hp;have tk:TrOk p.e.tr:=by have:=hi.wl.tr _ m;exact this
 refine⟨_,rfl,x,dx,_,rfl,hx,rfl,_,rfl,x,nm,ag,qs,ps,rfl,hs,λp2 hp2 en2=>?_,λno=>q1 _ (.tree1 sm nm _ ⟨_,_,_,m⟩ (X3 no)) H (.refl _) tb⟩;have so:=Yh hp2;have tk2:TrOk p2.e.tr:=hi.wl.tr _ (aA.mpr ⟨p2,(CK hp2).1,rfl⟩);have rest:¬(P≠[]/\lk p2.e.tr P=none)->(X5 (U4 (Ny (C9 K XC) [] E (Fy (IQ 5) (Fy (IQ 2) K2)))) (U4 (Si C (Str.ofString "change") (A8 K C XC PT PU) [] E (IQ 0) (Fy (IQ 1) (Fy (Ny (CF K) [] E0 (Fy (IQ 5) (Fy (Ny (FV K) [] E0 (Fy (IQ 6) (Fy (IQ 4) (Fy (IQ 2) K2)))) K2))) K2))))) { nx:=λ_ H'=>Q .non H',rt:=Q } [some (.ref x),some (.str sm),some (.str (jn R)),some (.str nm),some (.str (jn P)),some (.ref p.t),some (.ref p2.t)] H:=λnb=>by
  refine⟨_,rfl,_,rfl,p.t,R,p.e.tr,rfl,en.1,tk.v.v,vR,r8,λpk no H1 s1=>?_,λpk no H1 s1=>q1 _ (.tree2 sm _ _ kp og p.e.tr _ _ m so ((aF nb).trans ((aI pk).trans (aF no)))) H1 (AC s1) (tb.same s1),λpk H1 s1=>q1 _ (.tree2 sm _ _ kp og p.e.tr _ _ m so ((aF nb).trans (aF pk))) H1 (AC s1) (tb.same s1)⟩;have ef:Qq R P p.e.tr p2.e.tr=.inr (EG p.e.tr (LZ p2.e.tr P R)):=(aF nb).trans ((aI pk).trans (aI no));refine⟨_,rfl,x,dx,_,rfl,s1.get hx,rfl,_,rfl,_,rfl,_,rfl,_,rfl,_,rfl,p2.t,p2.e.tr,P,R,rfl,s1.get en2.1,tk2.v,tk2.b.deep,vP,l8,vR,pk.1,r8,λl ts H3 s3 nl3 hl3 pr=>?_⟩;have s13:=s1.trans s3;obtain⟨a1,a2,a3⟩:=Md tk2 vR pk.1 r8 (P:=P);have cl:=tk.b.few;refine⟨p.t,l,p.e.tr,LZ p2.e.tr P R,ts,rfl,s13.get en.1,hl3,pr,tk.v.v,λy hy=>(a1 y hy).1,by omega,by omega,λd' H4 s4 nd' hd'=>?_⟩;have s14:=s13.trans s4;obtain⟨g1,g2⟩:=HS (d':=d') hs hi ok m so ef q1 q2 (AC s14) (.inr ((AC s13).there _ nd'));exact⟨x,d',sm,kp,og,p.e.tr,_,p,ag,qs,ps,rfl,hs.st (AC s14),hp,ep,hd',tk.v.with a1 a2 (by omega),O1 tk λy hy=>Vh tk2 P R y hy,hi.rp,by have:=hi.few;omega,tb.same s14,g1,g2⟩
 have dn:decide (V.str (jn P)=V.str (Str.ofString ""))=decide (P=[]):=R6 vP (B:=[]) λ_ h=>nomatch h
 refine⟨_,rfl,rfl,_,rfl,?_⟩;rw[dn]
 by_cases c:P=[]
 ·rw[aE c];exact Ay rfl (rest λz=>z.1 c)
 ·rw[aS c];refine AU rfl ⟨_,rfl,_,rfl,p2.t,P,p2.e.tr,rfl,en2.1,tk2.v.v,vP,λnl=>rest λz=>nl z.2,λnl=>q1 _ (.tree2 sm _ _ kp og p.e.tr _ _ m so (aI ⟨c,nl⟩)) H (.refl _) tb⟩
def D4 (K:W.Frag)(C:Addr)(XC:Nat->Addr):Sp:=λvs H Q E=>∃(x:Addr) (nm:Str) (P:List Str) (c:Str) (p:Pe) (ag:Int) (qs:List Kq) (ps:List Pe),vs=[.ref x,.str nm,.str (jn P)]/\Hs C H x ag qs ps/\VP P/\HN nm ps=some p/\TrOk p.e.tr/\lk p.e.tr P=some (some c)/\Q (.str c) H
theorem Jo (T:Txt K mg C XC)(F:Fun K "read" "PlainHouse.read" BZ f fd)(DL:Bu P w K mg base 3 "content_in" ["tree","path"] (E9 K XC))(AZ:AL P w K mg base 4 C "tree_of" ["self","name"] (BI K C XC)):FnOk P w K mg base (Fj P w) 5 f fd ["self","name","path"] (D4 K C XC):=by
 refine F.okE Ju (λvs H Q E h=>?_) (λcdv A outer s H vs Q E hr h=>?_)
 ·obtain⟨x,nm,P,c,p,ag,qs,ps,rfl,_⟩:=h;rfl
 obtain⟨x,nm,P,c,p,ag,qs,ps,rfl,hs,vP,hp,tk,hl,q⟩:=h;refine⟨_,(!Ad (!AG (!Ba DL (by trivial) rfl Am (!Aa (!AH (pv 0) T.cl AZ (by trivial) Am (!Aa (pv 1) (!Ab))) (!Aa (pv 2) (!Ab)))))),?_⟩
 try dsimp only[A4,Cx.nox,Cx.wish]
 obtain⟨dx,h,k,n,hx,hd⟩:=hs.at_;refine⟨_,rfl,x,dx,_,rfl,hx,rfl,_,rfl,x,nm,ag,qs,ps,rfl,hs,λp' hp' en=>?_,λz=>by rw[hp] at z;cases z⟩;rw[hp] at hp';cases hp';exact⟨_,rfl,p.t,P,p.e.tr,rfl,en.1,tk.v.v,vP,λc' e=>(by rw[hl] at e;cases e;exact q),λno=>absurd hl (no c)⟩
def DN (K:W.Frag)(C:Addr)(XC:Nat->Addr):Sp:=λvs H Q E=>∃(x:Addr) (nm:Str) (ag:Int) (qs:List Kq) (ps:List Pe),vs=[.ref x,.str nm]/\Hs C H x ag qs ps/\(∀p∈ps,TrOk p.e.tr)/\(HN nm ps=none->Ex XC E H (.noName nm))/\
 (∀p,HN nm ps=some p->∀l (ys:List (Addr×List Str)) H',AJ H H'->H l=none->Told (ys.map λy=>jn y.2) p.e.tr->(∀y∈ys,VP y.2/\lk p.e.tr y.2≠none/\H' y.1=some (.tup [.str (jn y.2),.int (Xh ((lk p.e.tr y.2).getD none))]))->H' l=some (.lst (ys.map λy=>V.ref y.1))->Q (.ref l) H')
theorem IR (T:Txt K mg C XC)(F:Fun K "paths" "PlainHouse.paths" BM f fd)(AZ:AL P w K mg base 4 C "tree_of" ["self","name"] (BI K C XC)):FnOk P w K mg base (Fj P w) 5 f fd ["self","name"] (DN K C XC):=by
 refine F.okE Fx (λvs H Q E h=>?_) (λcdv A outer s H vs Q E hr h=>?_)
 ·obtain⟨x,nm,ag,qs,ps,rfl,_⟩:=h;rfl
 obtain⟨x,nm,ag,qs,ps,rfl,hs,tk,q1,q2⟩:=h;have hu:=Gw hr;refine⟨_,(!Ah (@AK _ _ (2) _ _ _ _ Fx.nd rfl (by trivial) (!AH (pv 0) T.cl AZ (by trivial) Am (!Aa (pv 1) (!Ab))) (by rfl) (by trivial)) (!Ad (!AG (@Gx _ ["path","tree"] [none,some 2] _ _ _ _ _ _ _ _ _ _ _ rfl (!DV (!A0 (RP rfl) (by rfl) T.b_sorted IE (!Aa (pv 2) (!Ab)))) (by rfl) rfl (by repeat (first|exact trivial|refine⟨rfl,?_⟩)) (by repeat (first|exact trivial|refine⟨λh=>(by first|exact⟨_,rfl⟩|cases h),?_⟩)) (λC s H fp=>⟨(@Be _ _ (0) _ (show(["path","tree"]:List Str).Nodup by decide +kernel) rfl (by trivial) (by trivial)),(!Dw),(!Bo (!Aa (pv 0) (!Aa (!Vf (!Ir (!KR (!IF hu (pv 1) (pv 0) (λ_ _=>rfl))) (by first|exact CP _ (by decide) (by decide)|rfl)) (!Bv rfl T.c_FOLDER_ENTRY) (!Bv rfl T.c_FILE_ENTRY)) (!Ab))))⟩) (by intro _;rfl))))),?_⟩
 try dsimp only[A4,Cx.nox,Cx.wish]
 obtain⟨dx,h,k,n,hx,hd⟩:=hs.at_;refine⟨_,rfl,x,dx,_,rfl,hx,rfl,_,rfl,x,nm,ag,qs,ps,rfl,hs,λp hp en=>?_,q1⟩;have ht:=en.1;have tk:TrOk p.e.tr:=tk p (CK hp).1;have fw:=tk.b.few;refine⟨_,rfl,p.t,_,p.e.tr.map (λp=>jn p.1),rfl,ht,(by unfold CI;rw[aL,aL];rfl),by rw[ax];omega,λts p9 tp so np9=>?_⟩;obtain⟨Ps,rfl,hP⟩:∃Ps:List (List Str),ts=Ps.map jn/\∀P∈Ps,VP P/\lk p.e.tr P≠none:=by
  have key:∀ts:List Str,(∀z∈ts,∃P,z=jn P/\VP P/\lk p.e.tr P≠none)->∃Ps:List (List Str),ts=Ps.map jn/\∀P∈Ps,VP P/\lk p.e.tr P≠none:=λts=>by
   induction ts with
   |nil=>intro _;exact⟨[],rfl,λ_ h=>nomatch h⟩
   |cons z ts ih=>
    intro h;obtain⟨Ps,rfl,h2⟩:=ih λz hz=>h z (aB _ hz)
    obtain⟨P,rfl,h3⟩:=h z aK;refine⟨P::Ps,rfl,λR hR=>?_⟩;rcases aX.mp hR with rfl|hR
    ·exact h3
    ·exact h2 R hR
  refine key ts λz hz=>?_
  obtain⟨q,hq,rfl⟩:=aA.mp (tp.mem_iff.mp hz);exact⟨q.1,rfl,tk.v.v q hq,by rw[SI tk.v.nd hq];exact λz=>by cases z⟩
 have lP:Ps.length=p.e.tr.length:=by have:=tp.length_eq;rw[ax,ax] at this;exact this
 have s9:=Ai np9 (.lst ((Ps.map jn).map V.str));have h9:(upd H p9 (.lst ((Ps.map jn).map V.str))) p9=some (.lst ((Ps.map jn).map V.str)):=Ae;generalize upd H p9 (.lst ((Ps.map jn).map V.str))=H9 at s9 h9;rw[aL] at h9;refine⟨p9,rfl,⟨_,A7.of h9⟩,?_⟩;refine KC (ps:=Ps) (g:=λP=>V.str (jn P)) (λ_=>true) (λR y H'=>∃b,y=V.ref b/\H' b=some (.tup [.str (jn R),.int (Xh ((lk p.e.tr R).getD none))])) ?_ ?_ (EN (A7.of h9)) (by omega) (λr hr H' R s' hR=>hR H' (AJ.refl _)) (λr hr _ H' R s' hR=>?_) λl2 H2 ys nl2 s2 hl2 ey hy=>?_
 ·rintro r y Ha Hb ⟨b,e,hb⟩ sab
  exact⟨b,e,sab.get hb⟩
 ·rintro r y Ha la us us' ⟨b,e,hb⟩ hla
  exact⟨b,e,by rw[Ax (Ep hb hla (by intro z;cases z))];exact hb⟩
 ·obtain⟨vr,hr2⟩:=hP r hr;have g:=La (s'.get (s9.get ht)) tk.v.v vr;have fin:∀n:Int,Xh ((lk p.e.tr r).getD none)=n->∀b,H' b=none->R (.ref b) (upd H' b (.tup [.str (jn r),.int n])):=λn e b nb=>hR _ _ (Ai nb _) ⟨b,rfl,by rw[e];exact Ae⟩
  cases el:lk p.e.tr r with
  |none=>exact absurd el hr2
  |some v=>
   rw[el] at g fin;cases v with
   |none=>
    refine⟨_,rfl,_,rfl,_,rfl,p.t,_,rfl,g,_,rfl,AU rfl ?_⟩;exact⟨Dt,fin 2 rfl⟩
   |some c=>
    refine⟨_,rfl,_,rfl,_,rfl,p.t,_,rfl,g,_,rfl,Ay rfl ?_⟩;exact⟨Dt,fin 1 rfl⟩
 ·rw[Gi] at ey;obtain⟨bs,e1,e2,e3⟩:=Pi (T:=λb R=>H2 b=some (.tup [.str (jn R),.int (Xh ((lk p.e.tr R).getD none))])) ys hy;rw[ey] at e1;refine q2 p hp l2 bs H2 (s9.trans s2) (s9.free nl2) ⟨?_,?_⟩ (λy hy=>?_) (by rw[hl2,<-e2])
  ·rw[show(bs.map λy=>jn y.2)=(bs.map (·.2)).map jn by rw[aL];rfl,e1];exact tp
  ·rw[show(bs.map λy=>jn y.2)=(bs.map (·.2)).map jn by rw[aL];rfl,e1];exact so
  ·obtain⟨v1,v2⟩:=hP y.2 (by rw[<-e1];exact aA.mpr ⟨y,hy,rfl⟩);exact⟨v1,v2,e3 y hy⟩
end
inductive Cd where
 |keeper (nm:Str) (b:Int)
 |stem (nm kp:Str)
 |folder (sm:Str) (P:List Str)
 |write (sm:Str) (P:List Str) (c:Str)
 |splice (sm:Str) (P:List Str) (a m:Int) (z:Str)
 |remove (sm:Str) (P:List Str)
 |move (sm:Str) (P R:List Str)
 |copy (sm:Str) (R:List Str) (nm:Str) (P:List Str)
 |sea (sm nm:Str)
 |grow (nm sl kp:Str)
 |back (sm:Str)
 |graft (sm:Str)
 |drop (nm:Str)
def Cd.V:Cd->List V
 | .keeper nm b=>[.str (PySem.Str.ofString "keeper"),.str nm,.int b]
 | .stem nm kp=>[.str (PySem.Str.ofString "stem"),.str nm,.str kp]
 | .folder sm P=>[.str (PySem.Str.ofString "folder"),.str sm,.str (jn P)]
 | .write sm P c=>[.str (PySem.Str.ofString "write"),.str sm,.str (jn P),.str c]
 | .splice sm P a m z=>[.str (PySem.Str.ofString "splice"),.str sm,.str (jn P),.int a,.int m,.str z]
 | .remove sm P=>[.str (PySem.Str.ofString "remove"),.str sm,.str (jn P)]
 | .move sm P R=>[.str (PySem.Str.ofString "move"),.str sm,.str (jn P),.str (jn R)]
 | .copy sm R nm P=>[.str (PySem.Str.ofString "copy"),.str sm,.str (jn R),.str nm,.str (jn P)]
 | .sea sm nm=>[.str (PySem.Str.ofString "\x73eal"),.str sm,.str nm]
 | .grow nm sl kp=>[.str (PySem.Str.ofString "grow"),.str nm,.str sl,.str kp]
 | .back sm=>[.str (PySem.Str.ofString "back"),.str sm]
 | .graft sm=>[.str (PySem.Str.ofString "graft"),.str sm]
 | .drop nm=>[.str (PySem.Str.ofString "drop"),.str nm]
noncomputable def Cd.de:Cd->De
 | .keeper nm b=>.keeper nm b
 | .stem nm kp=>.stem nm kp
 | .folder sm P=>.tree sm none (L3 P)
 | .write sm P c=>.tree sm none (Fv P c)
 | .splice sm P a m z=>.tree sm none (Eu P a m z)
 | .remove sm P=>.tree sm none (J9 P)
 | .move sm P R=>.tree sm none (QP P R)
 | .copy sm R nm P=>.tree sm (some nm) (Qq R P)
 | .sea sm nm=>.sea sm nm
 | .grow nm sl kp=>.grow nm sl kp
 | .back sm=>.back sm
 | .graft sm=>.graft sm
 | .drop nm=>.drop nm
def Cd.Sz:Cd->Prop
 | .keeper nm b=>(nm.length<=1000)
 | .stem nm kp=>(nm.length<=1000)
 | .folder sm P=>(VP P/\P.length<=8)
 | .write sm P c=>(VP P/\P.length<=8/\c.length<=100000)
 | .splice sm P a m z=>(VP P/\P.length<=8/\z.length<=400/\0<=a/\a<=1000000000/\0<=m/\m<=1000000000)
 | .remove sm P=>(VP P/\P.length<=8)
 | .move sm P R=>(VP P/\P.length<=8/\VP R/\R.length<=8)
 | .copy sm R nm P=>(VP P/\P.length<=8/\VP R/\R.length<=8)
 | .sea sm nm=>(nm.length<=1000)
 | .grow nm sl kp=>(nm.length<=1000)
 | .back sm=>True
 | .graft sm=>True
 | .drop nm=>True
theorem Cd.ok {c:Cd}(sz:c.Sz):c.de.Ok:=by
 cases c with
 |folder sm P=>exact λt ts t' h _ e=>Ox sz.1 sz.2 h e
 |write sm P c=>exact λt ts t' h _ e=>HQ sz.1 sz.2.1 h e
 |splice sm P a m z=>exact λt ts t' h _ e=>Ue sz.1 sz.2.1 h e
 |remove sm P=>exact λt ts t' h _ e=>TB h e
 |move sm P R=>exact λt ts t' h _ e=>W0 sz.2.2.1 sz.2.2.2 h e
 |copy sm R nm P=>exact λt ts t' h hs e=>We sz.2.2.1 sz.2.2.2 h hs e
 |_=>exact trivial
section
variable {P:Program}{w:World}{K:W.Frag}{mg:Str->Option Value}{base:Heap}{f C:Addr}{XC:Nat->Addr}{fd:FuncData}{PT PU:Addr}
theorem Ew.ins {x:Addr}{d:De}{H:Hp}{Q:V->Hp->Prop}{E:Value->Option Addr->Hp->Prop}(dq:Ew C PT PU XC x d H Q E):∃dx h,H x=some (.ins C dx [("own_head",.ref h)]):=by
 obtain⟨ag,qs,ps,hs,_⟩:=dq;obtain⟨dx,h,k,n,hx,_⟩:=hs.at_;exact⟨dx,h,hx⟩
def Ph (K:W.Frag)(C:Addr)(XC:Nat->Addr)(PT PU:Addr):Sp:=λvs H Q E=>∃(x da:Addr) (d:Cd),vs=[.ref x,.ref da]/\H da=some (.tup d.V)/\d.Sz/\Ew C PT PU XC x d.de H Q E
theorem V6 (T:Txt K mg C XC)(F:Fun K "done" "done" Lc f fd)(A5:AL P w K mg base 4 C "keeper" ["self","name","bound"] (BO K C XC PT PU))(A6:AL P w K mg base 6 C "stem" ["self","name","keeper"] (Co K C XC PT PU))(BB:AL P w K mg base 6 C "folder" ["self","stem","path"] (Cy K C XC PT PU))(AR:AL P w K mg base 6 C "write" ["self","stem","path","content"] (BE K C XC PT PU))(Bz:AL P w K mg base 7 C "splice" ["self","stem","path","at","many","text"] (Cz K C XC PT PU))(BC:AL P w K mg base 6 C "remove" ["self","stem","path"] (CB K C XC PT PU))(B5:AL P w K mg base 6 C "move" ["self","stem","path","to"] (CW K C XC PT PU))(B4:AL P w K mg base 6 C "copy" ["self","stem","to","name","path"] (C2 K C XC PT PU))(Bc:AL P w K mg base 6 C "seal" ["self","stem","name"] (Cn K C XC PT PU))(BQ:AL P w K mg base 5 C "grow" ["self","name","seal","keeper"] (CV K C XC PT PU))(BR:AL P w K mg base 6 C "back" ["self","stem"] (C1 K C XC PT PU))(BJ:AL P w K mg base 7 C "graft" ["self","stem"] (CJ K C XC PT PU))(BV:AL P w K mg base 5 C "drop" ["self","name"] (C4 K C XC PT PU)):FnOk P w K mg base (Fj P w) 8 f fd ["house","deed"] (Ph K C XC PT PU):=by
 refine F.okE Se (λvs H Q E h=>?_) (λcdv A outer s H vs Q E hr h=>?_)
 ·obtain⟨x,da,d,rfl,_⟩:=h;rfl
 obtain⟨x,da,d,rfl,hda,sz,dq⟩:=h;refine⟨_,(!Ah (@AK _ _ (2) _ _ _ _ Se.nd rfl (by trivial) (!Ao An (pv 1) (!Ag) (λ_ _=>rfl)) (by rfl) (by trivial)) (!Ad (!AV (!AD Bh (pv 2) (!Az) (AI _)) (!Ad (!AA (!AH (pv 0) T.cl A5 (by trivial) Am (!Aa (!Ao An (pv 1) (!Ag) (λ_ _=>rfl)) (!Aa (!Ao An (pv 1) (!Ag) (λ_ _=>rfl)) (!Ab)))))) (!Ad (!AV (!AD Bh (pv 2) (!Az) (AI _)) (!Ad (!AA (!AH (pv 0) T.cl A6 (by trivial) Am (!Aa (!Ao An (pv 1) (!Ag) (λ_ _=>rfl)) (!Aa (!Ao An (pv 1) (!Ag) (λ_ _=>rfl)) (!Ab)))))) (!Ad (!AV (!AD Bh (pv 2) (!Az) (AI _)) (!Ad (!AA (!AH (pv 0) T.cl BB (by trivial) Am (!Aa (!Ao An (pv 1) (!Ag) (λ_ _=>rfl)) (!Aa (!Ao An (pv 1) (!Ag) (λ_ _=>rfl)) (!Ab)))))) (!Ad (!AV (!AD Bh (pv 2) (!Az) (AI _)) (!Ad (!AA (!AH (pv 0) T.cl AR (by trivial) Am (!Aa (!Ao An (pv 1) (!Ag) (λ_ _=>rfl)) (!Aa (!Ao An (pv 1) (!Ag) (λ_ _=>rfl)) (!Aa (!Ao An (pv 1) (!Ag) (λ_ _=>rfl)) (!Ab))))))) (!Ad (!AV (!AD Bh (pv 2) (!Az) (AI _)) (!Ad (!AA (!AH (pv 0) T.cl Bz (by trivial) Am (!Aa (!Ao An (pv 1) (!Ag) (λ_ _=>rfl)) (!Aa (!Ao An (pv 1) (!Ag) (λ_ _=>rfl)) (!Aa (!Ao An (pv 1) (!Ag) (λ_ _=>rfl)) (!Aa (!Ao An (pv 1) (!Ag) (λ_ _=>rfl)) (!Aa (!Ao An (pv 1) (!Ag) (λ_ _=>rfl)) (!Ab))))))))) (!Ad (!AV (!AD Bh (pv 2) (!Az) (AI _)) (!Ad (!AA (!AH (pv 0) T.cl BC (by trivial) Am (!Aa (!Ao An (pv 1) (!Ag) (λ_ _=>rfl)) (!Aa (!Ao An (pv 1) (!Ag) (λ_ _=>rfl)) (!Ab)))))) (!Ad (!AV (!AD Bh (pv 2) (!Az) (AI _)) (!Ad (!AA (!AH (pv 0) T.cl B5 (by trivial) Am (!Aa (!Ao An (pv 1) (!Ag) (λ_ _=>rfl)) (!Aa (!Ao An (pv 1) (!Ag) (λ_ _=>rfl)) (!Aa (!Ao An (pv 1) (!Ag) (λ_ _=>rfl)) (!Ab))))))) (!Ad (!AV (!AD Bh (pv 2) (!Az) (AI _)) (!Ad (!AA (!AH (pv 0) T.cl B4 (by trivial) Am (!Aa (!Ao An (pv 1) (!Ag) (λ_ _=>rfl)) (!Aa (!Ao An (pv 1) (!Ag) (λ_ _=>rfl)) (!Aa (!Ao An (pv 1) (!Ag) (λ_ _=>rfl)) (!Aa (!Ao An (pv 1) (!Ag) (λ_ _=>rfl)) (!Ab)))))))) (!Ad (!AV (!AD Bh (pv 2) (!Az) (AI _)) (!Ad (!AA (!AH (pv 0) T.cl Bc (by trivial) Am (!Aa (!Ao An (pv 1) (!Ag) (λ_ _=>rfl)) (!Aa (!Ao An (pv 1) (!Ag) (λ_ _=>rfl)) (!Ab)))))) (!Ad (!AV (!AD Bh (pv 2) (!Az) (AI _)) (!Ad (!AA (!AH (pv 0) T.cl BQ (by trivial) Am (!Aa (!Ao An (pv 1) (!Ag) (λ_ _=>rfl)) (!Aa (!Ao An (pv 1) (!Ag) (λ_ _=>rfl)) (!Aa (!Ao An (pv 1) (!Ag) (λ_ _=>rfl)) (!Ab))))))) (!Ad (!AV (!AD Bh (pv 2) (!Az) (AI _)) (!Ad (!AA (!AH (pv 0) T.cl BR (by trivial) Am (!Aa (!Ao An (pv 1) (!Ag) (λ_ _=>rfl)) (!Ab))))) (!Ad (!AV (!AD Bh (pv 2) (!Az) (AI _)) (!Ad (!AA (!AH (pv 0) T.cl BJ (by trivial) Am (!Aa (!Ao An (pv 1) (!Ag) (λ_ _=>rfl)) (!Ab))))) (!Ad (!AV (!AD Bh (pv 2) (!Az) (AI _)) (!Ad (!AA (!AH (pv 0) T.cl BV (by trivial) Am (!Aa (!Ao An (pv 1) (!Ag) (λ_ _=>rfl)) (!Ab))))) (!Ad (!QW))))))))))))))))))))))))))))),?_⟩
 try dsimp only[A4,Cx.nox,Cx.wish]
 obtain⟨dx,h,hx⟩:=dq.ins;cases d with
 |keeper nm b=>
  refine⟨_,rfl,da,_,_,_,rfl,rfl,AS.of hda,Af (j:=0) rfl,?_⟩;refine⟨_,rfl,rfl,_,rfl,AU (aE rfl) ?_⟩;exact⟨_,rfl,x,dx,_,rfl,hx,rfl,_,rfl,da,_,_,_,rfl,rfl,AS.of hda,Af (j:=1) rfl,_,rfl,da,_,_,_,rfl,rfl,AS.of hda,Af (j:=2) rfl,x,nm,b,rfl,sz,dq⟩
 |stem nm kp=>
  refine⟨_,rfl,da,_,_,_,rfl,rfl,AS.of hda,Af (j:=0) rfl,?_⟩;refine⟨_,rfl,rfl,_,rfl,Ay (by decide +kernel) ?_⟩;refine⟨_,rfl,rfl,_,rfl,AU (aE rfl) ?_⟩;exact⟨_,rfl,x,dx,_,rfl,hx,rfl,_,rfl,da,_,_,_,rfl,rfl,AS.of hda,Af (j:=1) rfl,_,rfl,da,_,_,_,rfl,rfl,AS.of hda,Af (j:=2) rfl,x,nm,kp,rfl,sz,dq⟩
 |folder sm P=>
  refine⟨_,rfl,da,_,_,_,rfl,rfl,AS.of hda,Af (j:=0) rfl,?_⟩
  iterate 2 refine⟨_,rfl,rfl,_,rfl,Ay (by decide +kernel) ?_⟩
  refine⟨_,rfl,rfl,_,rfl,AU (aE rfl) ?_⟩;exact⟨_,rfl,x,dx,_,rfl,hx,rfl,_,rfl,da,_,_,_,rfl,rfl,AS.of hda,Af (j:=1) rfl,_,rfl,da,_,_,_,rfl,rfl,AS.of hda,Af (j:=2) rfl,x,sm,P,rfl,sz.1,sz.2,dq⟩
 |write sm P c=>
  refine⟨_,rfl,da,_,_,_,rfl,rfl,AS.of hda,Af (j:=0) rfl,?_⟩
  iterate 3 refine⟨_,rfl,rfl,_,rfl,Ay (by decide +kernel) ?_⟩
  refine⟨_,rfl,rfl,_,rfl,AU (aE rfl) ?_⟩;exact⟨_,rfl,x,dx,_,rfl,hx,rfl,_,rfl,da,_,_,_,rfl,rfl,AS.of hda,Af (j:=1) rfl,_,rfl,da,_,_,_,rfl,rfl,AS.of hda,Af (j:=2) rfl,_,rfl,da,_,_,_,rfl,rfl,AS.of hda,Af (j:=3) rfl,x,sm,c,P,rfl,sz.1,sz.2.1,sz.2.2,dq⟩
 |splice sm P a m z=>
  refine⟨_,rfl,da,_,_,_,rfl,rfl,AS.of hda,Af (j:=0) rfl,?_⟩
  iterate 4 refine⟨_,rfl,rfl,_,rfl,Ay (by decide +kernel) ?_⟩
  refine⟨_,rfl,rfl,_,rfl,AU (aE rfl) ?_⟩;exact⟨_,rfl,x,dx,_,rfl,hx,rfl,_,rfl,da,_,_,_,rfl,rfl,AS.of hda,Af (j:=1) rfl,_,rfl,da,_,_,_,rfl,rfl,AS.of hda,Af (j:=2) rfl,_,rfl,da,_,_,_,rfl,rfl,AS.of hda,Af (j:=3) rfl,_,rfl,da,_,_,_,rfl,rfl,AS.of hda,Af (j:=4) rfl,_,rfl,da,_,_,_,rfl,rfl,AS.of hda,Af (j:=5) rfl,x,sm,z,P,a,m,rfl,sz.1,sz.2.1,sz.2.2.1,sz.2.2.2.1,sz.2.2.2.2.1,sz.2.2.2.2.2.1,sz.2.2.2.2.2.2,dq⟩
 |remove sm P=>
  refine⟨_,rfl,da,_,_,_,rfl,rfl,AS.of hda,Af (j:=0) rfl,?_⟩
  iterate 5 refine⟨_,rfl,rfl,_,rfl,Ay (by decide +kernel) ?_⟩
  refine⟨_,rfl,rfl,_,rfl,AU (aE rfl) ?_⟩;exact⟨_,rfl,x,dx,_,rfl,hx,rfl,_,rfl,da,_,_,_,rfl,rfl,AS.of hda,Af (j:=1) rfl,_,rfl,da,_,_,_,rfl,rfl,AS.of hda,Af (j:=2) rfl,x,sm,P,rfl,sz.1,sz.2,dq⟩
 |move sm P R=>
  refine⟨_,rfl,da,_,_,_,rfl,rfl,AS.of hda,Af (j:=0) rfl,?_⟩
  iterate 6 refine⟨_,rfl,rfl,_,rfl,Ay (by decide +kernel) ?_⟩
  refine⟨_,rfl,rfl,_,rfl,AU (aE rfl) ?_⟩;exact⟨_,rfl,x,dx,_,rfl,hx,rfl,_,rfl,da,_,_,_,rfl,rfl,AS.of hda,Af (j:=1) rfl,_,rfl,da,_,_,_,rfl,rfl,AS.of hda,Af (j:=2) rfl,_,rfl,da,_,_,_,rfl,rfl,AS.of hda,Af (j:=3) rfl,x,sm,P,R,rfl,sz.1,sz.2.1,sz.2.2.1,sz.2.2.2,dq⟩
 |copy sm R nm P=>
  refine⟨_,rfl,da,_,_,_,rfl,rfl,AS.of hda,Af (j:=0) rfl,?_⟩
  iterate 7 refine⟨_,rfl,rfl,_,rfl,Ay (by decide +kernel) ?_⟩
  refine⟨_,rfl,rfl,_,rfl,AU (aE rfl) ?_⟩;exact⟨_,rfl,x,dx,_,rfl,hx,rfl,_,rfl,da,_,_,_,rfl,rfl,AS.of hda,Af (j:=1) rfl,_,rfl,da,_,_,_,rfl,rfl,AS.of hda,Af (j:=2) rfl,_,rfl,da,_,_,_,rfl,rfl,AS.of hda,Af (j:=3) rfl,_,rfl,da,_,_,_,rfl,rfl,AS.of hda,Af (j:=4) rfl,x,sm,nm,P,R,rfl,sz.1,sz.2.1,sz.2.2.1,sz.2.2.2,dq⟩
 |sea sm nm=>
  refine⟨_,rfl,da,_,_,_,rfl,rfl,AS.of hda,Af (j:=0) rfl,?_⟩
  iterate 8 refine⟨_,rfl,rfl,_,rfl,Ay (by decide +kernel) ?_⟩
  refine⟨_,rfl,rfl,_,rfl,AU (aE rfl) ?_⟩;exact⟨_,rfl,x,dx,_,rfl,hx,rfl,_,rfl,da,_,_,_,rfl,rfl,AS.of hda,Af (j:=1) rfl,_,rfl,da,_,_,_,rfl,rfl,AS.of hda,Af (j:=2) rfl,x,sm,nm,rfl,sz,dq⟩
 |grow nm sl kp=>
  refine⟨_,rfl,da,_,_,_,rfl,rfl,AS.of hda,Af (j:=0) rfl,?_⟩
  iterate 9 refine⟨_,rfl,rfl,_,rfl,Ay (by decide +kernel) ?_⟩
  refine⟨_,rfl,rfl,_,rfl,AU (aE rfl) ?_⟩;exact⟨_,rfl,x,dx,_,rfl,hx,rfl,_,rfl,da,_,_,_,rfl,rfl,AS.of hda,Af (j:=1) rfl,_,rfl,da,_,_,_,rfl,rfl,AS.of hda,Af (j:=2) rfl,_,rfl,da,_,_,_,rfl,rfl,AS.of hda,Af (j:=3) rfl,x,nm,sl,kp,rfl,sz,dq⟩
 |back sm=>
  refine⟨_,rfl,da,_,_,_,rfl,rfl,AS.of hda,Af (j:=0) rfl,?_⟩
  iterate 10 refine⟨_,rfl,rfl,_,rfl,Ay (by decide +kernel) ?_⟩
  refine⟨_,rfl,rfl,_,rfl,AU (aE rfl) ?_⟩;exact⟨_,rfl,x,dx,_,rfl,hx,rfl,_,rfl,da,_,_,_,rfl,rfl,AS.of hda,Af (j:=1) rfl,x,sm,rfl,dq⟩
 |graft sm=>
  refine⟨_,rfl,da,_,_,_,rfl,rfl,AS.of hda,Af (j:=0) rfl,?_⟩
  iterate 11 refine⟨_,rfl,rfl,_,rfl,Ay (by decide +kernel) ?_⟩
  refine⟨_,rfl,rfl,_,rfl,AU (aE rfl) ?_⟩;exact⟨_,rfl,x,dx,_,rfl,hx,rfl,_,rfl,da,_,_,_,rfl,rfl,AS.of hda,Af (j:=1) rfl,x,sm,rfl,dq⟩
 |drop nm=>
  refine⟨_,rfl,da,_,_,_,rfl,rfl,AS.of hda,Af (j:=0) rfl,?_⟩
  iterate 12 refine⟨_,rfl,rfl,_,rfl,Ay (by decide +kernel) ?_⟩
  refine⟨_,rfl,rfl,_,rfl,AU (aE rfl) ?_⟩;exact⟨_,rfl,x,dx,_,rfl,hx,rfl,_,rfl,da,_,_,_,rfl,rfl,AS.of hda,Af (j:=1) rfl,x,nm,rfl,dq⟩
def JE (K:W.Frag)(C:Addr)(XC:Nat->Addr)(PT PU:Addr):Sp:=λvs H Q E=>∃(x da:Addr) (d:Cd),vs=[.ref x,.ref da]/\H da=some (.tup d.V)/\d.Sz/\Ew C PT PU XC x d.de H Q E
theorem R4 (T:Txt K mg C XC)(F:Fun K "_law_do" "_law_do" FK f fd)(A5:AL P w K mg base 4 C "keeper" ["self","name","bound"] (BO K C XC PT PU))(A6:AL P w K mg base 6 C "stem" ["self","name","keeper"] (Co K C XC PT PU))(BB:AL P w K mg base 6 C "folder" ["self","stem","path"] (Cy K C XC PT PU))(AR:AL P w K mg base 6 C "write" ["self","stem","path","content"] (BE K C XC PT PU))(Bz:AL P w K mg base 7 C "splice" ["self","stem","path","at","many","text"] (Cz K C XC PT PU))(BC:AL P w K mg base 6 C "remove" ["self","stem","path"] (CB K C XC PT PU))(B5:AL P w K mg base 6 C "move" ["self","stem","path","to"] (CW K C XC PT PU))(B4:AL P w K mg base 6 C "copy" ["self","stem","to","name","path"] (C2 K C XC PT PU))(Bc:AL P w K mg base 6 C "seal" ["self","stem","name"] (Cn K C XC PT PU))(BQ:AL P w K mg base 5 C "grow" ["self","name","seal","keeper"] (CV K C XC PT PU))(BR:AL P w K mg base 6 C "back" ["self","stem"] (C1 K C XC PT PU))(BJ:AL P w K mg base 7 C "graft" ["self","stem"] (CJ K C XC PT PU))(BV:AL P w K mg base 5 C "drop" ["self","name"] (C4 K C XC PT PU)):FnOk P w K mg base (Fj P w) 8 f fd ["_law_house","_law_deed_here"] (JE K C XC PT PU):=by
 refine F.okE R0 (λvs H Q E h=>?_) (λcdv A outer s H vs Q E hr h=>?_)
 ·obtain⟨x,da,d,rfl,_⟩:=h;rfl
 obtain⟨x,da,d,rfl,hda,sz,dq⟩:=h;refine⟨_,(!Ad (!AV (!AD Bh (!Ao An (pv 1) (!Ag) (λ_ _=>rfl)) (!Az) (AI _)) (!Ad (!AA (!AH (pv 0) T.cl A5 (by trivial) Am (!Aa (!Ao An (pv 1) (!Ag) (λ_ _=>rfl)) (!Aa (!Ao An (pv 1) (!Ag) (λ_ _=>rfl)) (!Ab)))))) (!Ad (!AV (!AD Bh (!Ao An (pv 1) (!Ag) (λ_ _=>rfl)) (!Az) (AI _)) (!Ad (!AA (!AH (pv 0) T.cl A6 (by trivial) Am (!Aa (!Ao An (pv 1) (!Ag) (λ_ _=>rfl)) (!Aa (!Ao An (pv 1) (!Ag) (λ_ _=>rfl)) (!Ab)))))) (!Ad (!AV (!AD Bh (!Ao An (pv 1) (!Ag) (λ_ _=>rfl)) (!Az) (AI _)) (!Ad (!AA (!AH (pv 0) T.cl BB (by trivial) Am (!Aa (!Ao An (pv 1) (!Ag) (λ_ _=>rfl)) (!Aa (!Ao An (pv 1) (!Ag) (λ_ _=>rfl)) (!Ab)))))) (!Ad (!AV (!AD Bh (!Ao An (pv 1) (!Ag) (λ_ _=>rfl)) (!Az) (AI _)) (!Ad (!AA (!AH (pv 0) T.cl AR (by trivial) Am (!Aa (!Ao An (pv 1) (!Ag) (λ_ _=>rfl)) (!Aa (!Ao An (pv 1) (!Ag) (λ_ _=>rfl)) (!Aa (!Ao An (pv 1) (!Ag) (λ_ _=>rfl)) (!Ab))))))) (!Ad (!AV (!AD Bh (!Ao An (pv 1) (!Ag) (λ_ _=>rfl)) (!Az) (AI _)) (!Ad (!AA (!AH (pv 0) T.cl Bz (by trivial) Am (!Aa (!Ao An (pv 1) (!Ag) (λ_ _=>rfl)) (!Aa (!Ao An (pv 1) (!Ag) (λ_ _=>rfl)) (!Aa (!Ao An (pv 1) (!Ag) (λ_ _=>rfl)) (!Aa (!Ao An (pv 1) (!Ag) (λ_ _=>rfl)) (!Aa (!Ao An (pv 1) (!Ag) (λ_ _=>rfl)) (!Ab))))))))) (!Ad (!AV (!AD Bh (!Ao An (pv 1) (!Ag) (λ_ _=>rfl)) (!Az) (AI _)) (!Ad (!AA (!AH (pv 0) T.cl BC (by trivial) Am (!Aa (!Ao An (pv 1) (!Ag) (λ_ _=>rfl)) (!Aa (!Ao An (pv 1) (!Ag) (λ_ _=>rfl)) (!Ab)))))) (!Ad (!AV (!AD Bh (!Ao An (pv 1) (!Ag) (λ_ _=>rfl)) (!Az) (AI _)) (!Ad (!AA (!AH (pv 0) T.cl B5 (by trivial) Am (!Aa (!Ao An (pv 1) (!Ag) (λ_ _=>rfl)) (!Aa (!Ao An (pv 1) (!Ag) (λ_ _=>rfl)) (!Aa (!Ao An (pv 1) (!Ag) (λ_ _=>rfl)) (!Ab))))))) (!Ad (!AV (!AD Bh (!Ao An (pv 1) (!Ag) (λ_ _=>rfl)) (!Az) (AI _)) (!Ad (!AA (!AH (pv 0) T.cl B4 (by trivial) Am (!Aa (!Ao An (pv 1) (!Ag) (λ_ _=>rfl)) (!Aa (!Ao An (pv 1) (!Ag) (λ_ _=>rfl)) (!Aa (!Ao An (pv 1) (!Ag) (λ_ _=>rfl)) (!Aa (!Ao An (pv 1) (!Ag) (λ_ _=>rfl)) (!Ab)))))))) (!Ad (!AV (!AD Bh (!Ao An (pv 1) (!Ag) (λ_ _=>rfl)) (!Az) (AI _)) (!Ad (!AA (!AH (pv 0) T.cl Bc (by trivial) Am (!Aa (!Ao An (pv 1) (!Ag) (λ_ _=>rfl)) (!Aa (!Ao An (pv 1) (!Ag) (λ_ _=>rfl)) (!Ab)))))) (!Ad (!AV (!AD Bh (!Ao An (pv 1) (!Ag) (λ_ _=>rfl)) (!Az) (AI _)) (!Ad (!AA (!AH (pv 0) T.cl BQ (by trivial) Am (!Aa (!Ao An (pv 1) (!Ag) (λ_ _=>rfl)) (!Aa (!Ao An (pv 1) (!Ag) (λ_ _=>rfl)) (!Aa (!Ao An (pv 1) (!Ag) (λ_ _=>rfl)) (!Ab))))))) (!Ad (!AV (!AD Bh (!Ao An (pv 1) (!Ag) (λ_ _=>rfl)) (!Az) (AI _)) (!Ad (!AA (!AH (pv 0) T.cl BR (by trivial) Am (!Aa (!Ao An (pv 1) (!Ag) (λ_ _=>rfl)) (!Ab))))) (!Ad (!AV (!AD Bh (!Ao An (pv 1) (!Ag) (λ_ _=>rfl)) (!Az) (AI _)) (!Ad (!AA (!AH (pv 0) T.cl BJ (by trivial) Am (!Aa (!Ao An (pv 1) (!Ag) (λ_ _=>rfl)) (!Ab))))) (!Ad (!AA (!AH (pv 0) T.cl BV (by trivial) Am (!Aa (!Ao An (pv 1) (!Ag) (λ_ _=>rfl)) (!Ab))))))))))))))))))))))))))))),?_⟩
 try dsimp only[A4,Cx.nox,Cx.wish]
 obtain⟨dx,h,hx⟩:=dq.ins;cases d with
 |keeper nm b=>
  refine⟨_,rfl,da,_,_,_,rfl,rfl,AS.of hda,Af (j:=0) rfl,rfl,_,rfl,AU (aE rfl) ?_⟩;exact⟨_,rfl,x,dx,_,rfl,hx,rfl,_,rfl,da,_,_,_,rfl,rfl,AS.of hda,Af (j:=1) rfl,_,rfl,da,_,_,_,rfl,rfl,AS.of hda,Af (j:=2) rfl,x,nm,b,rfl,sz,dq⟩
 |stem nm kp=>
  refine⟨_,rfl,da,_,_,_,rfl,rfl,AS.of hda,Af (j:=0) rfl,rfl,_,rfl,Ay (by decide +kernel) ?_⟩;refine⟨_,rfl,da,_,_,_,rfl,rfl,AS.of hda,Af (j:=0) rfl,rfl,_,rfl,AU (aE rfl) ?_⟩;exact⟨_,rfl,x,dx,_,rfl,hx,rfl,_,rfl,da,_,_,_,rfl,rfl,AS.of hda,Af (j:=1) rfl,_,rfl,da,_,_,_,rfl,rfl,AS.of hda,Af (j:=2) rfl,x,nm,kp,rfl,sz,dq⟩
 |folder sm P=>
  iterate 2 refine⟨_,rfl,da,_,_,_,rfl,rfl,AS.of hda,Af (j:=0) rfl,rfl,_,rfl,Ay (by decide +kernel) ?_⟩
  refine⟨_,rfl,da,_,_,_,rfl,rfl,AS.of hda,Af (j:=0) rfl,rfl,_,rfl,AU (aE rfl) ?_⟩;exact⟨_,rfl,x,dx,_,rfl,hx,rfl,_,rfl,da,_,_,_,rfl,rfl,AS.of hda,Af (j:=1) rfl,_,rfl,da,_,_,_,rfl,rfl,AS.of hda,Af (j:=2) rfl,x,sm,P,rfl,sz.1,sz.2,dq⟩
 |write sm P c=>
  iterate 3 refine⟨_,rfl,da,_,_,_,rfl,rfl,AS.of hda,Af (j:=0) rfl,rfl,_,rfl,Ay (by decide +kernel) ?_⟩
  refine⟨_,rfl,da,_,_,_,rfl,rfl,AS.of hda,Af (j:=0) rfl,rfl,_,rfl,AU (aE rfl) ?_⟩;exact⟨_,rfl,x,dx,_,rfl,hx,rfl,_,rfl,da,_,_,_,rfl,rfl,AS.of hda,Af (j:=1) rfl,_,rfl,da,_,_,_,rfl,rfl,AS.of hda,Af (j:=2) rfl,_,rfl,da,_,_,_,rfl,rfl,AS.of hda,Af (j:=3) rfl,x,sm,c,P,rfl,sz.1,sz.2.1,sz.2.2,dq⟩
 |splice sm P a m z=>
  iterate 4 refine⟨_,rfl,da,_,_,_,rfl,rfl,AS.of hda,Af (j:=0) rfl,rfl,_,rfl,Ay (by decide +kernel) ?_⟩
  refine⟨_,rfl,da,_,_,_,rfl,rfl,AS.of hda,Af (j:=0) rfl,rfl,_,rfl,AU (aE rfl) ?_⟩;exact⟨_,rfl,x,dx,_,rfl,hx,rfl,_,rfl,da,_,_,_,rfl,rfl,AS.of hda,Af (j:=1) rfl,_,rfl,da,_,_,_,rfl,rfl,AS.of hda,Af (j:=2) rfl,_,rfl,da,_,_,_,rfl,rfl,AS.of hda,Af (j:=3) rfl,_,rfl,da,_,_,_,rfl,rfl,AS.of hda,Af (j:=4) rfl,_,rfl,da,_,_,_,rfl,rfl,AS.of hda,Af (j:=5) rfl,x,sm,z,P,a,m,rfl,sz.1,sz.2.1,sz.2.2.1,sz.2.2.2.1,sz.2.2.2.2.1,sz.2.2.2.2.2.1,sz.2.2.2.2.2.2,dq⟩
 |remove sm P=>
  iterate 5 refine⟨_,rfl,da,_,_,_,rfl,rfl,AS.of hda,Af (j:=0) rfl,rfl,_,rfl,Ay (by decide +kernel) ?_⟩
  refine⟨_,rfl,da,_,_,_,rfl,rfl,AS.of hda,Af (j:=0) rfl,rfl,_,rfl,AU (aE rfl) ?_⟩;exact⟨_,rfl,x,dx,_,rfl,hx,rfl,_,rfl,da,_,_,_,rfl,rfl,AS.of hda,Af (j:=1) rfl,_,rfl,da,_,_,_,rfl,rfl,AS.of hda,Af (j:=2) rfl,x,sm,P,rfl,sz.1,sz.2,dq⟩
 |move sm P R=>
  iterate 6 refine⟨_,rfl,da,_,_,_,rfl,rfl,AS.of hda,Af (j:=0) rfl,rfl,_,rfl,Ay (by decide +kernel) ?_⟩
  refine⟨_,rfl,da,_,_,_,rfl,rfl,AS.of hda,Af (j:=0) rfl,rfl,_,rfl,AU (aE rfl) ?_⟩;exact⟨_,rfl,x,dx,_,rfl,hx,rfl,_,rfl,da,_,_,_,rfl,rfl,AS.of hda,Af (j:=1) rfl,_,rfl,da,_,_,_,rfl,rfl,AS.of hda,Af (j:=2) rfl,_,rfl,da,_,_,_,rfl,rfl,AS.of hda,Af (j:=3) rfl,x,sm,P,R,rfl,sz.1,sz.2.1,sz.2.2.1,sz.2.2.2,dq⟩
 |copy sm R nm P=>
  iterate 7 refine⟨_,rfl,da,_,_,_,rfl,rfl,AS.of hda,Af (j:=0) rfl,rfl,_,rfl,Ay (by decide +kernel) ?_⟩
  refine⟨_,rfl,da,_,_,_,rfl,rfl,AS.of hda,Af (j:=0) rfl,rfl,_,rfl,AU (aE rfl) ?_⟩;exact⟨_,rfl,x,dx,_,rfl,hx,rfl,_,rfl,da,_,_,_,rfl,rfl,AS.of hda,Af (j:=1) rfl,_,rfl,da,_,_,_,rfl,rfl,AS.of hda,Af (j:=2) rfl,_,rfl,da,_,_,_,rfl,rfl,AS.of hda,Af (j:=3) rfl,_,rfl,da,_,_,_,rfl,rfl,AS.of hda,Af (j:=4) rfl,x,sm,nm,P,R,rfl,sz.1,sz.2.1,sz.2.2.1,sz.2.2.2,dq⟩
 |sea sm nm=>
  iterate 8 refine⟨_,rfl,da,_,_,_,rfl,rfl,AS.of hda,Af (j:=0) rfl,rfl,_,rfl,Ay (by decide +kernel) ?_⟩
  refine⟨_,rfl,da,_,_,_,rfl,rfl,AS.of hda,Af (j:=0) rfl,rfl,_,rfl,AU (aE rfl) ?_⟩;exact⟨_,rfl,x,dx,_,rfl,hx,rfl,_,rfl,da,_,_,_,rfl,rfl,AS.of hda,Af (j:=1) rfl,_,rfl,da,_,_,_,rfl,rfl,AS.of hda,Af (j:=2) rfl,x,sm,nm,rfl,sz,dq⟩
 |grow nm sl kp=>
  iterate 9 refine⟨_,rfl,da,_,_,_,rfl,rfl,AS.of hda,Af (j:=0) rfl,rfl,_,rfl,Ay (by decide +kernel) ?_⟩
  refine⟨_,rfl,da,_,_,_,rfl,rfl,AS.of hda,Af (j:=0) rfl,rfl,_,rfl,AU (aE rfl) ?_⟩;exact⟨_,rfl,x,dx,_,rfl,hx,rfl,_,rfl,da,_,_,_,rfl,rfl,AS.of hda,Af (j:=1) rfl,_,rfl,da,_,_,_,rfl,rfl,AS.of hda,Af (j:=2) rfl,_,rfl,da,_,_,_,rfl,rfl,AS.of hda,Af (j:=3) rfl,x,nm,sl,kp,rfl,sz,dq⟩
 |back sm=>
  iterate 10 refine⟨_,rfl,da,_,_,_,rfl,rfl,AS.of hda,Af (j:=0) rfl,rfl,_,rfl,Ay (by decide +kernel) ?_⟩
  refine⟨_,rfl,da,_,_,_,rfl,rfl,AS.of hda,Af (j:=0) rfl,rfl,_,rfl,AU (aE rfl) ?_⟩;exact⟨_,rfl,x,dx,_,rfl,hx,rfl,_,rfl,da,_,_,_,rfl,rfl,AS.of hda,Af (j:=1) rfl,x,sm,rfl,dq⟩
 |graft sm=>
  iterate 11 refine⟨_,rfl,da,_,_,_,rfl,rfl,AS.of hda,Af (j:=0) rfl,rfl,_,rfl,Ay (by decide +kernel) ?_⟩
  refine⟨_,rfl,da,_,_,_,rfl,rfl,AS.of hda,Af (j:=0) rfl,rfl,_,rfl,AU (aE rfl) ?_⟩;exact⟨_,rfl,x,dx,_,rfl,hx,rfl,_,rfl,da,_,_,_,rfl,rfl,AS.of hda,Af (j:=1) rfl,x,sm,rfl,dq⟩
 |drop nm=>
  iterate 12 refine⟨_,rfl,da,_,_,_,rfl,rfl,AS.of hda,Af (j:=0) rfl,rfl,_,rfl,Ay (by decide +kernel) ?_⟩
  exact⟨_,rfl,x,dx,_,rfl,hx,rfl,_,rfl,da,_,_,_,rfl,rfl,AS.of hda,Af (j:=1) rfl,x,nm,rfl,dq⟩
end
theorem kinds_of {P:Program}{w:World}{K:W.Frag}{mg:Str->Option Value}{C:Addr}{XC:Nat->Addr}(T:Txt K mg C XC)(r:Rf):ExcCls K (XC r.no)/\(∀j,j<6->W.kitOne K (.ref (XC r.no)) (.ref (XC j))=some (decide (j=r.no)))/\W.kitOne K (.ref (XC r.no)) (.ref (XC 7))=some false:=by
 cases r with
 |noName z=>exact⟨T.i_NoName.toExcCls,λj hj=>match j,hj with|0,_=>T.k_NoName_NoName|1,_=>T.k_NoName_Twice|2,_=>T.k_NoName_Bare|3,_=>T.k_NoName_Grown|4,_=>T.k_NoName_TooMany|5,_=>T.k_NoName_NoPath,T.k_NoName_OverBound⟩
 |twice z=>exact⟨T.i_Twice.toExcCls,λj hj=>match j,hj with|0,_=>T.k_Twice_NoName|1,_=>T.k_Twice_Twice|2,_=>T.k_Twice_Bare|3,_=>T.k_Twice_Grown|4,_=>T.k_Twice_TooMany|5,_=>T.k_Twice_NoPath,T.k_Twice_OverBound⟩
 |bare z=>exact⟨T.i_Bare.toExcCls,λj hj=>match j,hj with|0,_=>T.k_Bare_NoName|1,_=>T.k_Bare_Twice|2,_=>T.k_Bare_Bare|3,_=>T.k_Bare_Grown|4,_=>T.k_Bare_TooMany|5,_=>T.k_Bare_NoPath,T.k_Bare_OverBound⟩
 |grown z=>exact⟨T.i_Grown.toExcCls,λj hj=>match j,hj with|0,_=>T.k_Grown_NoName|1,_=>T.k_Grown_Twice|2,_=>T.k_Grown_Bare|3,_=>T.k_Grown_Grown|4,_=>T.k_Grown_TooMany|5,_=>T.k_Grown_NoPath,T.k_Grown_OverBound⟩
 |many=>exact⟨T.e_TooMany,λj hj=>match j,hj with|0,_=>T.k_TooMany_NoName|1,_=>T.k_TooMany_Twice|2,_=>T.k_TooMany_Bare|3,_=>T.k_TooMany_Grown|4,_=>T.k_TooMany_TooMany|5,_=>T.k_TooMany_NoPath,T.k_TooMany_OverBound⟩
 |noPath z=>exact⟨T.i_NoPath.toExcCls,λj hj=>match j,hj with|0,_=>T.k_NoPath_NoName|1,_=>T.k_NoPath_Twice|2,_=>T.k_NoPath_Bare|3,_=>T.k_NoPath_Grown|4,_=>T.k_NoPath_TooMany|5,_=>T.k_NoPath_NoPath,T.k_NoPath_OverBound⟩
def Xp (r:Rf):List V:=[0,5,1,2,3,4,7].map λj:Nat=>V.bl (decide (j=r.no))
section
variable {P:Program}{w:World}{K:W.Frag}{mg:Str->Option Value}{base:Heap}{f C:Addr}{XC:Nat->Addr}{fd:FuncData}{PT PU:Addr}
def C3 (K:W.Frag)(XC:Nat->Addr):Addr->Addr->Sp:=λeh D vs H Q _=>∃r:Rf,vs=[.ref eh]/\D=XC r.no/\∀l H',AJ H H'->H l=none->H' l=some (.lst (Xp r))->Q (.ref l) H'
theorem PR (T:Txt K mg C XC)(F:Fun K "_law_kind" "_law_kind" Eb f fd):FnOkX P w K mg base 1 f fd ["_law_e"] (C3 K XC):=by
 refine F.okHX Ko (λeh D vs H Q E h=>?_) (λcdv A outer s H vs Q E eh oh D hr hS hx h=>?_)
 ·obtain⟨r,rfl,_⟩:=h;rfl
 obtain⟨r,rfl,rfl,q⟩:=h;refine⟨_,(!Ah (@AK _ _ (1) _ _ _ _ Ko.nd rfl (by trivial) (!B7 (!Aa (!A0 (ES (K:=K) (by rfl) hS hx) (by rfl) T.b_isinstance Cf (!Aa (pv 0) (!Aa (!Jp rfl T.x_NoName) (!Ab)))) (!Aa (!A0 (ES (K:=K) (by rfl) hS hx) (by rfl) T.b_isinstance Cf (!Aa (pv 0) (!Aa (!Jp rfl T.x_NoPath) (!Ab)))) (!Aa (!A0 (ES (K:=K) (by rfl) hS hx) (by rfl) T.b_isinstance Cf (!Aa (pv 0) (!Aa (!Jp rfl T.x_Twice) (!Ab)))) (!Aa (!A0 (ES (K:=K) (by rfl) hS hx) (by rfl) T.b_isinstance Cf (!Aa (pv 0) (!Aa (!Jp rfl T.x_Bare) (!Ab)))) (!Ab)))))) (by rfl) (by trivial)) (!Ad (!AG (!AY GC (pv 1) (!B7 (!Aa (!A0 (ES (K:=K) (by rfl) hS hx) (by rfl) T.b_isinstance Cf (!Aa (pv 0) (!Aa (!Jp rfl T.x_Grown) (!Ab)))) (!Aa (!A0 (ES (K:=K) (by rfl) hS hx) (by rfl) T.b_isinstance Cf (!Aa (pv 0) (!Aa (!Jp rfl T.x_TooMany) (!Ab)))) (!Aa (!A0 (ES (K:=K) (by rfl) hS hx) (by rfl) T.b_isinstance Cf (!Aa (pv 0) (!Aa (!Jp rfl T.x_OverBound) (!Ab)))) (!Ab))))))))),?_⟩
 try dsimp only[A4,Cx.nox,Cx.wish]
 obtain⟨ec,kj,ko⟩:=kinds_of (P:=P) (w:=w) T r;refine⟨_,rfl,_,_,_,rfl,ec,(λu h=>h),kj 0 (by decide),_,rfl,_,_,_,rfl,ec,(λu h=>h),kj 5 (by decide),_,rfl,_,_,_,rfl,ec,(λu h=>h),kj 1 (by decide),_,rfl,_,_,_,rfl,ec,(λu h=>h),kj 2 (by decide),Tj,λl0 n0=>?_⟩;obtain⟨xs,exs⟩:∃xs,xs=[V.bl (decide (0=r.no)),V.bl (decide (5=r.no)),V.bl (decide (1=r.no)),V.bl (decide (2=r.no))]:=⟨_,rfl⟩
 rw[<-exs];have s0:=Ai n0 (.lst xs);have h0:(upd H l0 (.lst xs)) l0=some (.lst xs):=Ae;generalize upd H l0 (.lst xs)=H3 at s0 h0;dsimp only[CG];refine⟨_,rfl,_,rfl,_,_,_,rfl,ec,(λu h=>h),kj 3 (by decide),_,rfl,_,_,_,rfl,ec,(λu h=>h),kj 4 (by decide),_,rfl,_,_,_,rfl,ec,(λu h=>h),ko,LU,λl1 n1=>?_⟩;obtain⟨ys,eys⟩:∃ys,ys=[V.bl (decide (3=r.no)),V.bl (decide (4=r.no)),V.bl false]:=⟨_,rfl⟩
 rw[<-eys];have s1:=Ai n1 (.lst ys);have h1:(upd H3 l1 (.lst ys)) l1=some (.lst ys):=Ae;generalize upd H3 l1 (.lst ys)=H4 at s1 h1;refine⟨l0,l1,_,_,rfl,rfl,A7.of (s1.get h0),A7.of h1,small (by rw[exs,eys];show 7<=1000000;decide),λl2 n2=>?_⟩;have s2:=Ai n2 (.lst (xs++ys));exact q l2 _ ((s0.trans s1).trans s2) ((s0.trans s1).free n2) (by rw[Ae,exs,eys];cases r<;>rfl)
end
def Rf.tx:Rf->List V
 | .many=>[]
 | .noName z | .twice z | .bare z | .grown z | .noPath z=>[.str z]
def Rf.fld:Rf->Str
 | .noPath _=>"path"
 |_=>"name"
def Ob (H:Hp):Option Rf->V->Prop
 |none,v=>v=.str (PySem.Str.ofString "ok")
 |some r,v=>∃l,v=.ref l/\H l=some (.lst (Xp r++r.tx))
section
variable {P:Program}{w:World}{K:W.Frag}{mg:Str->Option Value}{base:Heap}{f C:Addr}{XC:Nat->Addr}{fd:FuncData}{PT PU:Addr}
theorem Sy {th:TH}{D:Ends}{σ:L2.St}{H0:Hp}(al:Rf->Prop)(hs:∀(r:Rf) (ea:Addr) (dxo:Option Addr) (H2:Hp),al r->St H0 H2->Tb PT PU H2->H2 ea=none->(∀z,r.tx=[.str z]->∃dx,dxo=some dx/\H2 dx=some (.xd [(r.fld,.str z)]))->th ea (XC r.no) dxo D σ H2) :
  ∀r,al r->∀H',St H0 H'->Tb PT PU H'->Ex XC (λcls d H'=>∃C:Addr,cls=.ref C/\∀ea,H' ea=none->th ea C d D σ H') H' r:=by
 intro r ha H1 S1 T1;have one:∀(j:Nat) (z:Str) (dx ea:Addr),r.no=j->r.tx=[.str z]->H1 dx=none->(upd H1 dx (.xd [(r.fld,.str z)])) ea=none->th ea (XC j) (some dx) D σ (upd H1 dx (.xd [(r.fld,.str z)])):=λj z dx ea ej ez nd ne=>by
  subst ej;have s1:=Ai nd (.xd [(r.fld,.str z)]);refine hs r ea (some dx) _ ha (S1.trans (AC s1)) (T1.same s1) ne λz' e=>?_
  rw[ez] at e;cases e;exact⟨dx,rfl,Ae⟩
 cases r with
 |noName z=>exact λdx nd=>⟨_,rfl,λea ne=>one 0 z dx ea rfl rfl nd ne⟩
 |twice z=>exact λdx nd=>⟨_,rfl,λea ne=>one 1 z dx ea rfl rfl nd ne⟩
 |bare z=>exact λdx nd=>⟨_,rfl,λea ne=>one 2 z dx ea rfl rfl nd ne⟩
 |grown z=>exact λdx nd=>⟨_,rfl,λea ne=>one 3 z dx ea rfl rfl nd ne⟩
 |noPath z=>exact λdx nd=>⟨_,rfl,λea ne=>one 5 z dx ea rfl rfl nd ne⟩
 |many=>exact⟨_,rfl,λea ne=>hs .many ea none _ ha S1 T1 ne λz' e=>by cases e⟩
theorem GQ {K':W.Frag}(hK:K'=K)(T:Txt K mg C XC){r:Rf}{z:Str}(hz:r.tx=[.str z]){ea dx:Addr}{H2:Hp}(ne:H2 ea=none)(hd:H2 dx=some (.xd [(r.fld,.str z)])){D:Ends}{σ:L2.St}(h3:(σ.set 3 (some (V.ref ea)))[3]?=some (some (V.ref ea))){fl:Str}(ef:r.fld=fl)(q:∀l H',St H2 H'->(Tb PT PU H2->Tb PT PU H')->H' l=some (.lst (Xp r++r.tx))->D.rt (.ref l) H') :
  TN (YC (UM K') (MV (C3 K XC) ea (Fy (IQ 3) K2)) (Ys (Fy (UV K (IQ 3) fl) K2))) (R3 3 D) (σ.set 3 (some (V.ref ea))) (upd H2 ea (Ie ea (XC r.no) (some dx))):=by
 subst hK;subst ef;have dl:∀o:HO,del (upd H2 ea o) ea=H2:=λo=>funext λb=>by
  by_cases e:b=ea
  ·rw[e,Fg,ne]
  ·rw[JA e,Ax e]
 obtain⟨ei,ef⟩:ExiCls K' (XC r.no)/\W.findIn K' (.ref (XC r.no)) r.fld=some none:=by
  cases r with
  |noName y=>exact⟨T.i_NoName,T.f_NoName⟩
  |twice y=>exact⟨T.i_Twice,T.f_Twice⟩
  |bare y=>exact⟨T.i_Bare,T.f_Bare⟩
  |grown y=>exact⟨T.i_Grown,T.f_Grown⟩
  |noPath y=>exact⟨T.i_NoPath,T.f_NoPath⟩
  |many=>cases hz
 refine⟨_,h3,XC r.no,some dx,Ae,r,rfl,rfl,λl H' s nl hl ne'=>?_⟩;rw[dl] at s nl;have s1:AJ H2 (upd H' ea (Ie ea (XC r.no) (some dx))):=s.trans (Ai ne' _);have h1:(upd H' ea (Ie ea (XC r.no) (some dx))) l=some (.lst (Xp r)):=by rw[Ax (B6 hl ne')];exact hl
 have he:(upd H' ea (Ie ea (XC r.no) (some dx))) ea=some (Ie ea (XC r.no) (some dx)):=Ae;generalize upd H' ea (Ie ea (XC r.no) (some dx))=H3 at s1 h1 he;refine⟨_,h3,ea,XC r.no,dx,_,.str z,rfl,he,ei,ef,s1.get hd,(by show List.lookup r.fld [(r.fld,V.str z)]=_;rw[gp]),Pn,λl1 n1=>?_⟩;have s2:=Ai n1 (.lst [V.str z]);have h2:(upd H3 l1 (.lst [V.str z])) l1=some (.lst [V.str z]):=Ae;generalize upd H3 l1 (.lst [V.str z])=H4 at s2 h2;refine⟨l,l1,_,_,rfl,rfl,A7.of (s2.get h1),A7.of h2,ZH,λl2 n2=>?_⟩;have s3:=Ai n2 (.lst (Xp r++[V.str z]));exact q l2 _ (AC ((s1.trans s2).trans s3)) (λt=>t.same ((s1.trans s2).trans s3)) (by rw[hz];exact Ae)
theorem WH (T:Txt K mg C XC){r:Rf}(hz:r.tx=[]){ea:Addr}{dxo:Option Addr}{H2:Hp}(ne:H2 ea=none){D:Ends}{σ:L2.St}(h3:(σ.set 3 (some (V.ref ea)))[3]?=some (some (V.ref ea)))(q:∀l H',St H2 H'->(Tb PT PU H2->Tb PT PU H')->H' l=some (.lst (Xp r++r.tx))->D.rt (.ref l) H') :
  TN (MV (C3 K XC) ea (Fy (IQ 3) K2)) (R3 3 D) (σ.set 3 (some (V.ref ea))) (upd H2 ea (Ie ea (XC r.no) dxo)):=by
 have dl:∀o:HO,del (upd H2 ea o) ea=H2:=λo=>funext λb=>by
  by_cases e:b=ea
  ·rw[e,Fg,ne]
  ·rw[JA e,Ax e]
 refine⟨_,h3,XC r.no,dxo,Ae,r,rfl,rfl,λl H' s nl hl ne'=>?_⟩;rw[dl] at s nl;exact q l _ (AC (s.trans (Ai ne' _))) (λt=>t.same (s.trans (Ai ne' _))) (by rw[Ax (B6 hl ne'),hz,bq];exact hl)
def s0 (K:W.Frag)(XC:Nat->Addr)(ea:Addr):TS:=TN (MV (C3 K XC) ea (Fy (IQ 3) K2))
def sF (K:W.Frag)(XC:Nat->Addr)(fl:Str)(ea:Addr):TS:=TN (YC (UM K) (MV (C3 K XC) ea (Fy (IQ 3) K2)) (Ys (Fy (UV K (IQ 3) fl) K2)))
def Zg (K:W.Frag)(XC:Nat->Addr):TH:=Rk K (.ref (XC 5)) 3 (λea=>sF K XC "path" ea)
  (Rk K (.ref (XC 4)) 3 (λea=>s0 K XC ea)
  (Rk K (.ref (XC 0)) 3 (λea=>sF K XC "name" ea)
  (Rk K (.ref (XC 1)) 3 (λea=>sF K XC "name" ea)
  (Rk K (.ref (XC 2)) 3 (λea=>sF K XC "name" ea)
  (Rk K (.ref (XC 3)) 3 (λea=>sF K XC "name" ea)
  (VF K (.ref (XC 6)) (TN (tC (.str (PySem.Str.ofString "other"))))))))))
theorem N9 (T:Txt K mg C XC){r:Rf}{ea:Addr}{dxo:Option Addr}{H2:Hp}(ne:H2 ea=none)(hz:∀z,r.tx=[.str z]->∃dx,dxo=some dx/\H2 dx=some (.xd [(r.fld,.str z)])){D:Ends}{σ:L2.St}(h3:(σ.set 3 (some (V.ref ea)))[3]?=some (some (V.ref ea)))(q:∀l H',St H2 H'->(Tb PT PU H2->Tb PT PU H')->H' l=some (.lst (Xp r++r.tx))->D.rt (.ref l) H'):Zg K XC ea (XC r.no) dxo D σ H2:=by
 cases r with
 |noPath z=>
  obtain⟨dx,rfl,hd⟩:=hz z rfl;exact⟨true,T.m_NoPath_NoPath,λ_=>GQ rfl T (r:=.noPath z) rfl ne hd h3 rfl q,λz=>by cases z⟩
 |many=>
  exact⟨false,T.m_TooMany_NoPath,(λz=>by cases z),λ_=>⟨true,T.m_TooMany_TooMany,λ_=>WH T (r:=.many) rfl ne h3 q,λz=>by cases z⟩⟩
 |noName z=>
  obtain⟨dx,rfl,hd⟩:=hz z rfl;exact⟨false,T.m_NoName_NoPath,(λz=>by cases z),λ_=>⟨false,T.m_NoName_TooMany,(λz=>by cases z),λ_=>⟨true,T.m_NoName_NoName,λ_=>GQ rfl T (r:=.noName z) rfl ne hd h3 rfl q,λz=>by cases z⟩⟩⟩
 |twice z=>
  obtain⟨dx,rfl,hd⟩:=hz z rfl;exact⟨false,T.m_Twice_NoPath,(λz=>by cases z),λ_=>⟨false,T.m_Twice_TooMany,(λz=>by cases z),λ_=>⟨false,T.m_Twice_NoName,(λz=>by cases z),λ_=>⟨true,T.m_Twice_Twice,λ_=>GQ rfl T (r:=.twice z) rfl ne hd h3 rfl q,λz=>by cases z⟩⟩⟩⟩
 |bare z=>
  obtain⟨dx,rfl,hd⟩:=hz z rfl;exact⟨false,T.m_Bare_NoPath,(λz=>by cases z),λ_=>⟨false,T.m_Bare_TooMany,(λz=>by cases z),λ_=>⟨false,T.m_Bare_NoName,(λz=>by cases z),λ_=>⟨false,T.m_Bare_Twice,(λz=>by cases z),λ_=>⟨true,T.m_Bare_Bare,λ_=>GQ rfl T (r:=.bare z) rfl ne hd h3 rfl q,λz=>by cases z⟩⟩⟩⟩⟩
 |grown z=>
  obtain⟨dx,rfl,hd⟩:=hz z rfl;exact⟨false,T.m_Grown_NoPath,(λz=>by cases z),λ_=>⟨false,T.m_Grown_TooMany,(λz=>by cases z),λ_=>⟨false,T.m_Grown_NoName,(λz=>by cases z),λ_=>⟨false,T.m_Grown_Twice,(λz=>by cases z),λ_=>⟨false,T.m_Grown_Bare,(λz=>by cases z),λ_=>⟨true,T.m_Grown_Grown,λ_=>GQ rfl T (r:=.grown z) rfl ne hd h3 rfl q,λz=>by cases z⟩⟩⟩⟩⟩⟩
def Hr (K:W.Frag)(C:Addr)(PT PU:Addr):Sp:=λvs H Q _=>∃(x da:Addr) (b:Bool) (d:Cd) (ag:Int) (qs:List Kq) (ps:List Pe),vs=[.ref x,.ref da,.bl b]/\H da=some (.tup d.V)/\d.Sz/\Hs C H x ag qs ps/\HI ag qs ps/\Tb PT PU H/\
 (∀r,Ref (qs.map CT) (ps.map (·.e)) d.de (some r)->∀v H',St H H'->Tb PT PU H'->Ob H' (some r) v->Q v H')/\
 (Ref (qs.map CT) (ps.map (·.e)) d.de none->∀qs' ps' v H',KH x H H'->Tb PT PU H'->Hs C H' x (ag+1) qs' ps'->HI (ag+1) qs' ps'->Step (ag+1) (ps.map (·.e)) (ps'.map (·.e)) d.de->Qw d.de (qs.map CT) (qs'.map CT)->(∀q∈ps',(∃p∈ps,q.t=p.t)\/H q.t=none)->Ob H' none v->Q v H')
theorem P3 (T:Txt K mg C XC)(F:Fun K "_law_told" "_law_told" Em f fd)(RK:Bu P w K mg base 8 "done" ["house","deed"] (Ph K C XC PT PU))(Lo:Bu P w K mg base 8 "_law_do" ["_law_house","_law_deed_here"] (JE K C XC PT PU))(CU:VJ P w K mg base 1 "_law_kind" ["_law_e"] (C3 K XC)):FnOk P w K mg base FL 9 f fd ["_law_house","_law_deed_here","_law_by_done"] (Hr K C PT PU):=by
 exists C5
 ·obtain⟨x,da,b,d,ag,qs,ps,rfl,_⟩:=h;rfl
 obtain⟨x,da,b,d,ag,qs,ps,rfl,hda,sz,hs,hi,tb,q1,q2⟩:=h;have hu:=Gw hr;have hu9:=RV hr;refine⟨_,(!Ah (Wm ⟨rfl,rfl⟩ (!JW (!X0 (!ER (pv 2) (by intro _;rfl)) (!JW (!MA (!Sn RK (by trivial) rfl (!Aa (pv 0) (!Aa (pv 1) (!Ab)))))) (!JW (!MA (!Sn Lo (by trivial) rfl (!Aa (pv 0) (!Aa (pv 1) (!Ab)))))))) (!AO) (Oo (i:=3) T.x_NoPath rfl C5.nd rfl rfl (λea=>(!Ad (!AG (!AY GC (IG (eh:=ea) rfl CU (RoomH.mark (Room.h (by trivial)) _) rfl (!Aa (pv 3) (!Ab))) (!B7 (!Aa (@J2 _ (K) (by rfl) _ _ _ _ (pv 3) rfl) (!Ab))))))) (Oo (i:=3) T.x_TooMany rfl C5.nd rfl rfl (λea=>(!Ad (!AG (IG (eh:=ea) rfl CU (RoomH.mark (Room.h (by trivial)) _) rfl (!Aa (pv 3) (!Ab)))))) (Oo (i:=3) T.x_NoName rfl C5.nd rfl rfl (λea=>(!Ad (!AG (!AY GC (IG (eh:=ea) rfl CU (RoomH.mark (Room.h (by trivial)) _) rfl (!Aa (pv 3) (!Ab))) (!B7 (!Aa (@J2 _ (K) (by rfl) _ _ _ _ (pv 3) rfl) (!Ab))))))) (Oo (i:=3) T.x_Twice rfl C5.nd rfl rfl (λea=>(!Ad (!AG (!AY GC (IG (eh:=ea) rfl CU (RoomH.mark (Room.h (by trivial)) _) rfl (!Aa (pv 3) (!Ab))) (!B7 (!Aa (@J2 _ (K) (by rfl) _ _ _ _ (pv 3) rfl) (!Ab))))))) (Oo (i:=3) T.x_Bare rfl C5.nd rfl rfl (λea=>(!Ad (!AG (!AY GC (IG (eh:=ea) rfl CU (RoomH.mark (Room.h (by trivial)) _) rfl (!Aa (pv 3) (!Ab))) (!B7 (!Aa (@J2 _ (K) (by rfl) _ _ _ _ (pv 3) rfl) (!Ab))))))) (Oo (i:=3) T.x_Grown rfl C5.nd rfl rfl (λea=>(!Ad (!AG (!AY GC (IG (eh:=ea) rfl CU (RoomH.mark (Room.h (by trivial)) _) rfl (!Aa (pv 3) (!Ab))) (!B7 (!Aa (@J2 _ (K) (by rfl) _ _ _ _ (pv 3) rfl) (!Ab))))))) (WU T.x_StemError rfl (λe=>(!Ad (!AG (!Az)))))))))))) (!Ad (!AG (!Az)))),?_⟩
 try dsimp only[A4,Cx.nox,Cx.wish]
 have dq:∀(Q':V->Hp->Prop) (E':Value->Option Addr->Hp->Prop),(∀r,Ref (qs.map CT) (ps.map (·.e)) d.de (some r)->∀H',St H H'->Tb PT PU H'->Ex XC E' H' r)->(Ref (qs.map CT) (ps.map (·.e)) d.de none->∀qs' ps' H',KH x H H'->Tb PT PU H'->Hs C H' x (ag+1) qs' ps'->HI (ag+1) qs' ps'->Step (ag+1) (ps.map (·.e)) (ps'.map (·.e)) d.de->Qw d.de (qs.map CT) (qs'.map CT)->(∀q∈ps',(∃p∈ps,q.t=p.t)\/H q.t=none)->Q' .non H')->Ew C PT PU XC x d.de H Q' E':=λQ' E' a b=>⟨ag,qs,ps,hs,hi,d.ok sz,tb,a,b⟩
 have fin:∀r,Ref (qs.map CT) (ps.map (·.e)) d.de (some r)->∀{H2:Hp},St H H2->Tb PT PU H2->∀l H',St H2 H'->(Tb PT PU H2->Tb PT PU H')->H' l=some (.lst (Xp r++r.tx))->Q (.ref l) H':=λr rf H2 S2 T2 l H' s t hl=>q1 r rf _ H' (S2.trans s) (t T2) ⟨l,rfl,hl⟩
 have done:Ref (qs.map CT) (ps.map (·.e)) d.de none->∀qs' ps' H',KH x H H'->Tb PT PU H'->Hs C H' x (ag+1) qs' ps'->HI (ag+1) qs' ps'->Step (ag+1) (ps.map (·.e)) (ps'.map (·.e)) d.de->Qw d.de (qs.map CT) (qs'.map CT)->(∀q∈ps',(∃p∈ps,q.t=p.t)\/H q.t=none)->Q (.str (PySem.Str.ofString "ok")) H':=λrf qs' ps' H' k' t' h' i' st ks tr=>q2 rf qs' ps' _ H' k' t' h' i' st ks tr rfl
 refine⟨_,rfl,_,rfl,?_⟩;cases b with
 |true=>
  refine AU rfl ⟨_,rfl,_,rfl,x,da,d,rfl,hda,sz,dq _ _ (Sy (λr=>Ref (qs.map CT) (ps.map (·.e)) d.de (some r)) λr ea dxo H2 rf S2 T2 ne hz=>?_) λrf qs' ps' H' k' t' h' i' st ks tr=>?_⟩
  ·exact N9 T ne hz rfl (fin r rf S2 T2)
  ·exact done rf qs' ps' H' k' t' h' i' st ks tr
 |false=>
  refine Ay rfl ⟨_,rfl,_,rfl,x,da,d,rfl,hda,sz,dq _ _ (Sy (λr=>Ref (qs.map CT) (ps.map (·.e)) d.de (some r)) λr ea dxo H2 rf S2 T2 ne hz=>?_) λrf qs' ps' H' k' t' h' i' st ks tr=>?_⟩
  ·exact N9 T ne hz rfl (fin r rf S2 T2)
  ·exact done rf qs' ps' H' k' t' h' i' st ks tr
end
theorem WJ {a b:List Nat}(h1:¬b<a)(h2:¬a<b):a=b:=List.le_antisymm h1 h2
theorem Jz:∀{p:Str} {l:List Str},PyProof.Rows.risingS p l=true->∀x∈l,¬x.cps.toList<p.cps.toList
 |p,y::r,h,x,hx=>by
  have h':=h;rw[PyProof.Rows.risingS,ba,gi] at h';have h1:¬y.cps.toList<p.cps.toList:=by simpa using h'.1
  rcases aX.mp hx with rfl|hx
  ·exact h1
  ·exact List.le_trans h1 (Jz h'.2 x hx)
theorem LL {x:Str}{l:List Str}(h:PyProof.Rows.sortedS (x::l)=true):PyProof.Rows.sortedS l=true:=by
 cases l with
 |nil=>rfl
 |cons y r=>
  have h':=h;rw[PyProof.Rows.sortedS,PyProof.Rows.risingS,ba] at h';exact h'.2
theorem Nq:∀{a b:List Str},a.Perm b->PyProof.Rows.sortedS a=true->PyProof.Rows.sortedS b=true->a=b
 |[],b,p,_,_=>(List.nil_perm.mp p).symm
 |x::a,[],p,_,_=>absurd p.length_eq (by simp)
 |x::a,y::b,p,ha,hb=>by
  have e:x=y:=by
   have m1:x∈y::b:=p.mem_iff.mp aK;have m2:y∈x::a:=p.mem_iff.mpr aK;rcases aX.mp m1 with e|m1
   ·exact e
   rcases aX.mp m2 with e|m2
   ·exact e.symm
   have l1:=Jz (p:=x) (l:=a) ha y m2;have l2:=Jz (p:=y) (l:=b) hb x m1;have:=WJ l1 l2;cases x;cases y;simp only[PySem.Str.mk.injEq];exact dR.mp this
  subst e;rw[Nq p.cons_inv (LL ha) (LL hb)]
theorem SX:∀{A B:List (List Str)},(∀P∈A,VP P)->(∀P∈B,VP P)->A.map jn=B.map jn->A=B
 |[],[],_,_,_=>rfl
 |[],_::_,_,_,h=>by cases h
 |_::_,[],_,_,h=>by cases h
 |P::A,R::B,ha,hb,h=>by
  rw[aR,aR,List.cons.injEq] at h;rw[K4 (ha P aK) (hb R aK) h.1,SX (λx hx=>ha x (aB _ hx)) (λx hx=>hb x (aB _ hx)) h.2]
open Classical in
noncomputable def NP (t:Bt):List (List Str):=if h:∃Ps:List (List Str),Told (Ps.map jn) t/\∀P∈Ps,VP P then Classical.choose h else[]
theorem Zj {Ps:List (List Str)}{t:Bt}(h1:Told (Ps.map jn) t)(h2:∀P∈Ps,VP P):Ps=NP t:=by
 unfold NP;rw[dif_pos ⟨Ps,h1,h2⟩];have h:=Classical.choose_spec (⟨Ps,h1,h2⟩:∃Ps:List (List Str),Told (Ps.map jn) t/\∀P∈Ps,VP P);exact SX h2 h.2 (Nq (h1.pm.trans h.1.pm.symm) h1.so h.1.so)
def kT (t:Bt)(P:List Str):Option Str:=(lk t P).getD none
def Xr (t:Bt)(P:List Str):Tr:=.tup [.str (jn P),.int (Xh (kT t P))]
def ZG (t:Bt)(P:List Str):Tr:=.str ((kT t P).getD EM)
noncomputable def Q3 (ps:List Pe) (nm:Str):Tr:=match HN nm ps with
 |none=>.non
 |some p=>.tup [.lst ((NP p.e.tr).map (Xr p.e.tr)),.lst (((NP p.e.tr).filter λP=>(kT p.e.tr P).isSome).map (ZG p.e.tr))]
def LX (fl:Addr)(ps:List Pe)(nm:Str)(H:Hp)(v:V):Prop:=match HN nm ps with
 |none=>v=.non
 |some p=>∃(a l1 l2:Addr) (ys:List (Addr×List Str)),v=.ref a/\H a=some (.tup [.ref l1,.ref l2])/\l1≠fl/\l2≠fl/\ys.map (·.2)=NP p.e.tr/\(∀y∈ys,H y.1=some (.tup [.str (jn y.2),.int (Xh (kT p.e.tr y.2))]))/\H l1=some (.lst (ys.map λy=>V.ref y.1))/\H l2=some (.lst (((NP p.e.tr).filter λP=>(kT p.e.tr P).isSome).map λP=>V.str ((kT p.e.tr P).getD EM)))
theorem LX.kx {fl:Addr}{ps:List Pe}{nm:Str}{H H':Hp}{v:V}(h:LX fl ps nm H v)(k:Kx fl H H')(hl:∃vs,H fl=some (.lst vs)):LX fl ps nm H' v:=by
 obtain⟨ws,hl⟩:=hl;have kt:∀{b:Addr} {xs:List V},H b=some (.tup xs)->H' b=some (.tup xs):=λ{b xs} e=>k.keep _ _ (λz=>by rw[z,hl] at e;cases e) e
 unfold LX at h ⊢;generalize HN nm ps=o at h ⊢;cases o with
 |none=>exact h
 |some p=>
  obtain⟨a,l1,l2,ys,e,h1,n1,n2,h2,h3,h4,h5⟩:=h;exact⟨a,l1,l2,ys,e,kt h1,n1,n2,h2,λy hy=>kt (h3 y hy),k.keep _ _ n1 h4,k.keep _ _ n2 h5⟩
theorem LX.rep {fl:Addr}{ps:List Pe}{nm:Str}{H:Hp}{v:V}(h:LX fl ps nm H v):Rep (λ_=>True) H (Q3 ps nm) v:=by
 unfold LX at h;unfold Q3;generalize HN nm ps=o at h ⊢;cases o with
 |none=>exact h
 |some p=>
  obtain⟨a,l1,l2,ys,e,h1,n1,n2,h2,h3,h4,h5⟩:=h;refine⟨a,_,e,h1,_,_,rfl,⟨l1,_,rfl,trivial,h4,?_⟩,_,_,rfl,⟨l2,_,rfl,trivial,h5,?_⟩,rfl⟩
  ·refine Mg (by rw[ax,ax,<-h2,ax]) λi t v e1 e2=>?_
   rw[<-h2,aL,aQ] at e1;rw[aQ] at e2;cases ey:ys[i]? with
   |none=>rw[ey] at e1;cases e1
   |some y=>
    rw[ey] at e1 e2;cases e1;cases e2;exact⟨y.1,_,rfl,h3 y (bD ey),_,_,rfl,rfl,_,_,rfl,rfl,rfl⟩
  ·refine Mg (by rw[ax,ax]) λi t v e1 e2=>?_
   rw[aQ] at e1 e2;cases ey:((NP p.e.tr).filter λP=>(kT p.e.tr P).isSome)[i]? with
   |none=>rw[ey] at e1;cases e1
   |some y=>
    rw[ey] at e1 e2;cases e1;cases e2;rfl
theorem RC {α:Type} {K:W.Frag} {J:It} {ps:List α} {g:α->Addr} {A B:α->V} {fr:List (Option Nat)} {rest:L2.St} {tt:TT} {te:TE} {Q:VK} {σ:L2.St} {H:Hp} (p:α->Bool) (f:α->V) (hst:stC fr σ=none::none::rest) (hJ:Kd J H (ps.map λx=>V.ref (g x))) (hpr:∀x∈ps,H (g x)=some (.tup [A x,B x])) (hn:ps.length<=1000000)
  (htest:∀x∈ps,∀(H':Hp) (R:Bool->Hp->Prop),AJ H H'->(∀H'',AJ H' H''->R (p x) H'')->tt (some (A x)::some (B x)::rest) H' R)
  (helt:∀x∈ps,p x=true->∀(H':Hp) (R:VK),AJ H H'->R (f x) H'->te (some (A x)::some (B x)::rest) H' R)
  (hQ:∀l H',H l=none->AJ H H'->H' l=some (.lst ((ps.filter p).map f))->Q (.ref l) H'):Jt fr (XE K 2 (U5 (CG 0) (U5 (CG 1) YE))) tt te σ Q J H:=by
 intro l hl;refine⟨λi m σ' H'=>m=ps.length-i/\i<=ps.length/\(∃y0 y1,σ'=y0::y1::rest)/\AJ H H'/\H' l=some (.lst (((ps.take i).filter p).map f)),⟨ps.length,by simp,bC _,⟨_,_,hst⟩,Ai hl _,by rw[Ae];rfl⟩,?_⟩
 rintro i m σ' H' ⟨rfl,hi,⟨y0,y1,rfl⟩,hs,hl'⟩
 obtain⟨h1,h2,h3⟩:=hJ H' hs i;rw[ax] at h1 h2 h3
 by_cases hlt:i<ps.length
 ·refine .inr ⟨h1 hlt,λx H'' y=>?_⟩;obtain⟨rfl,hx⟩:=h2 x H'' y;have hx:=hx hlt;rw[aQ,aU hlt] at hx;cases hx;have hm:ps[i]∈ps:=cB hlt;have et:((ps.take (i+1)).filter p).map f=((ps.take i).filter p).map f++(if p ps[i]=true then[f ps[i]] else[]):=by
   rw[cL,aU hlt,cp,bx];cases q:p ps[i]<;>simp[q]
  have le:(((ps.take i).filter p).map f).length<=i:=by
   have b:=bp p (ps.take i);rw[bY] at b;rw[ax];omega
  refine⟨g ps[i],_,rfl,AS.of (hs.get (hpr _ hm)),rfl,_,_,rfl,_,_,rfl,rfl,?_⟩;refine htest _ hm H'' _ hs λH3 s3=>?_
  have hs:=hs.trans s3;have hl':=s3.get hl';refine HL (λc=>?_) (λc=>?_)
  ·refine helt _ hm c H3 _ hs ⟨_,hl',E8 (by omega),ps.length-(i+1),by omega,rfl,hlt,⟨_,_,rfl⟩,Fo hs hl _,?_⟩;rw[Ae,et,aI c]
  ·exact⟨ps.length-(i+1),by omega,rfl,hlt,⟨_,_,rfl⟩,hs,by rw[et,aF c,bq];exact hl'⟩
 ·have e:i=ps.length:=by omega
  subst e;exact .inl ⟨h3 (aD _),hQ l H' hl hs (by rw[hl',bF (aD _)])⟩
section
variable {P:Program}{w:World}{K:W.Frag}{mg:Str->Option Value}{base:Heap}{f C:Addr}{XC:Nat->Addr}{fd:FuncData}{PT PU:Addr}
def FU (K:W.Frag)(C:Addr):Sp:=λvs H Q _=>∃(x nl:Addr) (ns:List Str) (ag:Int) (qs:List Kq) (ps:List Pe),vs=[.ref x,.ref nl]/\H nl=some (.lst (ns.map V.str))/\ns.length<=60/\Hs C H x ag qs ps/\(∀p∈ps,TrOk p.e.tr)/\∀v H',AJ H H'->Rep (λ_=>True) H' (.lst (ns.map (Q3 ps))) v->Q v H'
theorem M3 (T:Txt K mg C XC)(F:Fun K "_law_stands" "_law_stands" Df f fd)(D2:AL P w K mg base 5 C "paths" ["self","name"] (DN K C XC))(EC:AL P w K mg base 5 C "read" ["self","name","path"] (D4 K C XC)):FnOk P w K mg base FL 6 f fd ["_law_house","_law_names"] (FU K C):=by
 exists Ez
 ·obtain⟨x,nl,ns,ag,qs,ps,rfl,_⟩:=h;rfl
 obtain⟨x,nl,ns,ag,qs,ps,rfl,hn,ln,hs,tk,q⟩:=h;have hu:=Gw hr;have hu9:=RV hr;refine⟨_,(!Ah (@AK _ _ (2) _ _ _ _ Ez.nd rfl (by trivial) (!B7 (!Ab)) (by rfl) (by trivial)) (!Ah (!HA cz rfl (!DV (pv 1)) (@Be _ _ (3) _ Ez.nd rfl (by trivial) (by trivial)) (!Ad (!Yu ⟨rfl,rfl⟩ T.x_NoName rfl (!Ww (!S7 (@Wb _ _ _ (4) _ _ _ Ez.nd rfl (by trivial) (!U2 (pv 0) T.cl D2 (by trivial) (!Aa (pv 3) (!Ab))) (by rfl) (by trivial)) (!JW (!MA (!Ua (!Gu bM bU bT Ec (pv 2) (!Aa (!Bo (!Aa (pv 4) (!Aa (@Gx _ ["_law_path_here","_law_kind_here","_law_name","_law_house"] [none,none,some 3,some 0] _ _ _ _ _ _ _ _ _ _ _ rfl (!DV (pv 4)) (by rfl) rfl (by repeat (first|exact trivial|refine⟨rfl,?_⟩)) (by repeat (first|exact trivial|refine⟨λh=>(by first|exact⟨_,rfl⟩|cases h),?_⟩)) (λC s H fp=>⟨(@V4 _ (K) _ _ _ _ (2) (by rfl) rfl (!Qg (@Be _ _ (0) _ (show(["_law_path_here","_law_kind_here","_law_name","_law_house"]:List Str).Nodup by decide +kernel) rfl (by trivial) (by trivial)) (!Qg (@Be _ _ (1) _ (show(["_law_path_here","_law_kind_here","_law_name","_law_house"]:List Str).Nodup by decide +kernel) rfl (by trivial) (by trivial)) (!WL))) (by rfl) (by rfl)),(!Gp (!AD Bh (pv 1) (!Ag) (AI _))),(!AH (pv 3) T.cl EC (by trivial) G1 (!Aa (pv 2) (!Aa (pv 0) (!Ab))))⟩) (by intro _;rfl)) (!Ab)))) (!Ab)))))))) (!AO) (λe=>(!Ad (!AA (@Rn _ (K) _ _ _ _ _ _ _ _ _ _ _ rfl bM bU bT Ec (pv 2) (!Aa (!Q4) (!Ab)) (by rfl) (by rfl) (by rfl) (by rfl) (by rfl))))))) (by intro _;rfl)) (!Ad (!AG (pv 2))))),?_⟩
 try dsimp only[A4,Cx.nox,Cx.wish]
 refine⟨S0,λfl nfl=>?_⟩;have s1:=Ai nfl (.lst []);have h1:(upd H fl (.lst [])) fl=some (.lst []):=Ae;generalize upd H fl (.lst [])=H1 at s1 h1;have back:∀{Hi:Hp},Kx fl H1 Hi->AJ H Hi:=λ{Hi} k b o e=>k.keep b o (λz=>by rw[z,nfl] at e;cases e) (s1.get e)
 dsimp only[CG];refine⟨_,rfl,nl,rfl,⟨_,A7.of (s1.get hn)⟩,HV (K:=K) (a:=nl) (xs:=ns.map V.str) (λi σ Hi=>∃(v3 v4 v5:Option V) (vs:List V),σ=[some (.ref x),some (.ref nl),some (.ref fl),v3,v4]/\Kx fl H1 Hi/\Hi fl=some (.lst vs)/\vs.length=i/\∀(j:Nat) nm v,ns[j]?=some nm->vs[j]?=some v->LX fl ps nm Hi v) ⟨none,none,none,[],rfl,Mv (.refl _),h1,rfl,λj nm v _ h=>nomatch h⟩ (by rintro i σ Hi _ ⟨_,_,_,_,_,k,_⟩;exact A7.of ((back k).get hn)) ?_ ?_⟩
 ·rintro i y σ Hi ei ⟨v3,v4,v5,vs,rfl,kx,hfl,lv,its⟩
  rw[aQ] at ei;obtain⟨nm,en,rfl⟩:=bB.mp ei;have hsi:=hs.st (AC (back kx));have li:i<ns.length:=(bh.mp en).1;have step:∀(H2:Hp) (v:V),AJ Hi H2->LX fl ps nm H2 v->Kx fl H1 (upd H2 fl (.lst (vs++[v])))/\(upd H2 fl (.lst (vs++[v]))) fl=some (.lst (vs++[v]))/\(vs++[v]).length=i+1/\∀(j:Nat) nm' v',ns[j]?=some nm'->(vs++[v])[j]?=some v'->LX fl ps nm' (upd H2 fl (.lst (vs++[v]))) v':=λH2 v s it=>by
   have k2:Kx fl H2 (upd H2 fl (.lst (vs++[v]))):=(Mv (.refl _)).upd (s.get hfl) _;refine⟨(kx.trans (Mv s)).upd h1 _,Ae,by rw[aM,lv];rfl,λj nm' v' e1 e2=>?_⟩;rcases Nat.lt_trichotomy j i with lj|ej|gj
   ·rw[cn (by omega)] at e2;exact((its j nm' v' e1 e2).kx (Mv s) ⟨_,hfl⟩).kx k2 ⟨_,s.get hfl⟩
   ·subst ej;rw[en] at e1;cases e1;rw[cg (by omega),lv,dv] at e2;cases e2;exact it.kx k2 ⟨_,s.get hfl⟩
   ·rw[bI (by rw[aM,bz];omega)] at e2;cases e2
  obtain⟨dx,h,k,n,hx,hd⟩:=hsi.at_;dsimp only[CG];refine⟨_,rfl,x,dx,_,rfl,hx,rfl,_,rfl,x,nm,ag,qs,ps,rfl,hsi,tk,λno=>?_,λp hp l1 ys H2 s2 nl1 tl hys hl1=>?_⟩
  ·refine λdx nd=>⟨T.m_NoName_NoName,?_⟩
   have s2:=Ai nd (.xd [("name",V.str nm)]);have hf2:=s2.get hfl;obtain⟨a1,a2,a3,a4⟩:=step _ .non s2 (by unfold LX;rw[no]);refine⟨_,rfl,.inl ⟨rfl,_,A7.of hf2⟩,fl,_,_,rfl,rfl,hf2,E8 (by omega),?_⟩;exact⟨_,_,none,_,rfl,a1,a2,a3,a4⟩
  ·have hf2:=s2.get hfl;have tp:TrOk p.e.tr:=tk p (CK hp).1;have ey:=Zj (Ps:=ys.map (·.2)) (by rw[aL];exact tl) (λP hP=>by
    obtain⟨y,hy,rfl⟩:=aA.mp hP;exact(hys y hy).1)
   have ly:ys.length<=60:=by
    have:=tl.pm.length_eq;rw[ax,ax] at this;have:=tp.b.few;omega
   have kd:∀o:Option Str,decide (V.int (Xh o)=V.int 1)=o.isSome:=λo=>by cases o<;>rfl
   refine⟨_,rfl,.inl ⟨rfl,_,A7.of hf2⟩,_,rfl,_,rfl,l1,rfl,⟨_,A7.of hl1⟩,RC (ps:=ys) (g:=λy=>y.1) (A:=λy=>V.str (jn y.2)) (B:=λy=>V.int (Xh (kT p.e.tr y.2))) (rest:=[some (V.str nm),some (V.ref x)]) (λy=>(kT p.e.tr y.2).isSome) (λy=>V.str ((kT p.e.tr y.2).getD EM)) rfl (EN (A7.of hl1)) (λy hy=>(hys y hy).2.2) (by omega) (λy hy H3 R s3 hR=>?_) (λy hy c H3 R s3 hR=>?_) λl2 H3 nl2 s3 hl2=>?_⟩
   ·refine⟨_,rfl,rfl,_,rfl,?_⟩;rw[kd];exact hR _ (.refl _)
   ·have hs3:=hsi.st (AC (s2.trans s3));obtain⟨cc,ec⟩:=cU.mp c;rw[ec] at hR;have el:lk p.e.tr y.2=some (some cc):=by
     unfold kT at ec;cases e:lk p.e.tr y.2 with
     |none=>rw[e] at ec;cases ec
     |some o=>rw[e] at ec;exact congrArg some ec
    exact⟨_,rfl,x,dx,_,rfl,(s2.trans s3).get hx,rfl,_,rfl,_,rfl,x,nm,y.2,cc,p,ag,qs,ps,rfl,hs3,(hys y hy).1,hp,tp,el,hR⟩
   ·have ec:(ys.filter λy=>(kT p.e.tr y.2).isSome).map (λy=>V.str ((kT p.e.tr y.2).getD EM))=((NP p.e.tr).filter λP=>(kT p.e.tr P).isSome).map λP=>V.str ((kT p.e.tr P).getD EM):=by
     rw[<-ey,List.filter_map,aL];rfl
    rw[ec] at hl2;have s23:=s2.trans s3;refine⟨Dt,λa na=>?_⟩;have s4:=Ai na (.tup [V.ref l1,V.ref l2]);have h4:(upd H3 a (.tup [V.ref l1,V.ref l2])) a=some (.tup [V.ref l1,V.ref l2]):=Ae;generalize upd H3 a (.tup [V.ref l1,V.ref l2])=H4 at s4 h4;have s24:=s23.trans s4;have nfl1:l1≠fl:=λz=>by rw[z,hfl] at nl1;cases nl1
    have nfl2:l2≠fl:=λz=>by rw[z,hf2] at nl2;cases nl2
    obtain⟨a1,a2,a3,a4⟩:=step H4 (.ref a) s24 (by
     unfold LX;rw[hp];exact⟨a,l1,l2,ys,rfl,h4,nfl1,nfl2,ey,λy hy=>(s3.trans s4).get (hys y hy).2.2,(s3.trans s4).get hl1,s4.get hl2⟩)
    refine⟨fl,_,_,rfl,rfl,s24.get hfl,E8 (by omega),?_⟩;exact⟨_,_,none,_,rfl,a1,a2,a3,a4⟩
 ·rintro σ Hi ⟨v3,v4,v5,vs,rfl,kx,hfl,lv,its⟩
  rw[ax] at lv;refine⟨_,rfl,q _ Hi (back kx) ⟨fl,vs,rfl,trivial,hfl,Mg (by rw[ax];exact lv) λj t v e1 e2=>?_⟩⟩;rw[aQ] at e1;obtain⟨nm,en,rfl⟩:=bB.mp e1;exact(its j nm v en e2).rep
end
section
variable {P:Program}{w:World}{K:W.Frag}{mg:Str->Option Value}{base:Heap}{f:Addr}{XC:Nat->Addr}{fd:FuncData}
def Iq (K:W.Frag):Sp:=λvs H Q _=>∃(c m:Int),vs=[.int c,.int m]/\0<=m/\m<=1000/\
 ∀(r:Addr) (H':Hp) (ns:List Int),AJ H H'->H r=none->H' r=some (.lst (ns.map V.int))->ns.length=m.toNat->(∀x∈ns,0<=x/\x<60)->Q (.ref r) H'
theorem Qk (T:Txt K mg C XC)(F:Fun K "_law_row" "_law_row" EX f fd):FnOk P w K mg base FL 1 f fd ["_law_cell","_law_many"] (Iq K):=by
 exists Fc
 ·obtain⟨c,m,rfl,_⟩:=h;rfl
 obtain⟨c,m,rfl,hm0,hm1,q⟩:=h;refine⟨_,(!Ah (@AK _ _ (2) _ _ _ _ Fc.nd rfl (by trivial) (!B7 (!Ab)) (by rfl) (by trivial)) (!Ah (!HA cz rfl (!Ly rfl T.b_range (!Aa (pv 1) (!Ab))) (@Be _ _ (3) _ Fc.nd rfl (by trivial) (by trivial)) (!Ad (!AV (!Qp Oj Xi (!Ag) (pv 0) (!AY XH (!Ag) (!Ag)) (by with_unfolding_all rfl)) (!Ah (@AK _ _ (4) _ _ _ _ Fc.nd rfl (by trivial) (!AY DX (!AY Dq (!AY Dq (!AY Jc (!AY DX (pv 0) (!Ag)) (!Ag)) (!AY Jc (!AY Jc (pv 3) (pv 3)) (!Ag))) (!Ag)) (!Ag)) (by rfl) (by trivial)) (!Ad (!AA (!Gu bM bU bT Ec (pv 2) (!Aa (!AY DX (!AY Kb (!AY DX (!AY Jc (pv 4) (!AY Dq (!AY DX (pv 4) (!Ag)) (!Ag))) (!Ag)) (!Ag)) (!Ag)) (!Ab)))))) (!Ah (!AA (!Gu bM bU bT Ec (pv 2) (!Aa (!AY DX (pv 0) (!Ag)) (!Ab)))) (!Ad (@AK _ _ (0) _ _ _ _ Fc.nd rfl (by trivial) (!AY Kb (pv 0) (!Ag)) (by rfl) (by trivial)))))) (by intro _;rfl)) (!Ad (!AG (pv 2))))),?_⟩
 try dsimp only[A4,Cx.nox,Cx.wish]
 refine⟨S0,λg hg=>?_⟩;refine⟨_,rfl,m,rfl,by omega,by omega,OE (lo:=0) (n:=m.toNat) (λi σ H2=>∃(ns:List Int) (z:Int) (v u:Option V),σ=[some (.int z),some (.int m),some (.ref g),v,u]/\AJ H H2/\H2 g=some (.lst (ns.map V.int))/\ns.length=i/\∀x∈ns,0<=x/\x<60)
  ⟨[],c,none,none,rfl,Ai hg _,Ae,rfl,λ_ h=>nomatch h⟩ ?_ ?_⟩
 ·rintro i σ H2 hi ⟨ns,z,v,u,rfl,s2,hg2,hl,hb⟩
  have app:∀x:Int,0<=x->x<60->∀(z:Int) (v u:Option V),∃(ns':List Int) (z':Int) (v' u':Option V),[some (.int z),some (.int m),some (.ref g),v,u]=[some (.int z'),some (.int m),some (.ref g),v',u']/\AJ H (upd H2 g (.lst (ns.map V.int++[.int x])))/\(upd H2 g (.lst (ns.map V.int++[.int x]))) g=some (.lst (ns'.map V.int))/\ns'.length=i+1/\∀x∈ns',0<=x/\x<60:=λx h0 h1 z v u=>
   ⟨ns++[x],z,v,u,rfl,Fo s2 hg _,by rw[Ae,bx];rfl,by rw[aM,hl];rfl,λy hy=>by
    rcases bu.mp hy with hy|hy
    ·exact hb y hy
    ·rw[aG.mp hy];exact⟨h0,h1⟩⟩
  have few:(ns.map V.int).length<sizeLine:=E8 (by rw[ax];omega);refine⟨_,rfl,_,_,rfl,rfl,_,rfl,HL (λc1=>?_) (λc1=>?_)⟩
  ·refine⟨_,_,rfl,rfl,⟨by decide,by decide,by decide⟩,_,_,rfl,rfl,_,rfl,HL (λc2=>?_) (λc2=>?_)⟩
   ·refine⟨_,rfl,_,_,rfl,rfl,(by show(0:Int)<2147483629;decide),_,_,rfl,rfl,.inr ⟨by decide,by decide⟩,_,rfl,_,rfl,_,_,rfl,rfl,.inl ⟨by omega,by omega⟩,_,_,rfl,rfl,.inr ⟨by decide,by decide⟩,_,_,rfl,rfl,_,_,rfl,rfl,_,_,rfl,rfl,(by show(0:Int)<2147483647;decide),?_⟩;have b0:=bQ (z%2147483629*48271+(0+(i:Int))*(0+(i:Int))*69621+7) (show(2147483647:Int)≠0 by decide);have b1:=bG (z%2147483629*48271+(0+(i:Int))*(0+(i:Int))*69621+7) (show(0:Int)<2147483647 by decide);dsimp only;generalize (z%2147483629*48271+(0+(i:Int))*(0+(i:Int))*69621+7)%2147483647=y at b0 b1;refine⟨_,rfl,.inl ⟨rfl,_,A7.of hg2⟩,_,rfl,_,rfl,_,_,rfl,rfl,(by show(0:Int)<65521;decide),_,_,rfl,rfl,_,_,rfl,rfl,.inl ⟨by omega,by omega⟩,_,_,rfl,rfl,(by show(0:Int)<2147483629;decide),_,_,rfl,rfl,⟨by decide,by decide⟩,_,_,rfl,rfl,(by show(0:Int)<60;decide),g,_,_,rfl,rfl,hg2,few,?_⟩;exact app _ (bQ _ (by decide)) (bG _ (by decide)) _ _ _
   ·refine⟨_,rfl,.inl ⟨rfl,_,A7.of hg2⟩,_,rfl,_,_,rfl,rfl,(by show(0:Int)<60;decide),g,_,_,rfl,rfl,hg2,few,?_⟩;refine⟨_,rfl,_,_,rfl,rfl,⟨by decide,by decide⟩,?_⟩;exact app _ (bQ _ (by decide)) (bG _ (by decide)) _ _ _
  ·refine⟨_,rfl,Ay rfl ?_⟩;refine⟨_,rfl,.inl ⟨rfl,_,A7.of hg2⟩,_,rfl,_,_,rfl,rfl,(by show(0:Int)<60;decide),g,_,_,rfl,rfl,hg2,few,?_⟩;refine⟨_,rfl,_,_,rfl,rfl,⟨by decide,by decide⟩,?_⟩;exact app _ (bQ _ (by decide)) (bG _ (by decide)) _ _ _
 ·rintro σ H2 ⟨ns,z,v,u,rfl,s2,hg2,hl,hb⟩
  exact⟨_,rfl,q g _ ns s2 hg hg2 hl hb⟩
end
theorem XX {z:Str}{i:Int}(h0:0<=i)(h1:i<(Bj z).length):∃c,RN z.cps.toList i=some c/\c∈Bj z:=by
 have hk:i.toNat<(Bj z).length:=by omega
 have ek:((i.toNat:Nat):Int)=i:=by omega
 refine⟨(Bj z)[i.toNat],?_,cB hk⟩;have:=Af (xs:=Bj z) (j:=i.toNat) (aU hk);rw[ek] at this;exact this
theorem Qx {M:List Nat}:∀(ys:List V),(∀y∈ys,∃c,y=.str ⟨#[c]⟩/\c∈M)->∃cs:List Nat,ys=(cs.map λc=>(⟨#[c]⟩:Str)).map V.str/\∀c∈cs,c∈M
 |[],_=>⟨[],rfl,λ_ h=>nomatch h⟩
 |y::ys,h=>by
  obtain⟨c,rfl,hc⟩:=h y aK;obtain⟨cs,rfl,hw⟩:=Qx ys λy hy=>h y (aB _ hy)
  refine⟨c::cs,rfl,λx hx=>?_⟩;rcases aX.mp hx with rfl|hx
  ·exact hc
  ·exact hw x hx
theorem Ti (cs:List Nat):Bj (PySem.Txt.join EM (cs.map λc=>(⟨#[c]⟩:Str)))=cs:=by
 show Bj (PySem.Builtin.Str.glued EM _)=_;rw[StrLaws.glued_eq_join]
 induction cs with
 |nil=>rfl
 |cons c r ih=>
  cases r with
  |nil=>rfl
  |cons d r=>
   show Bj (⟨#[c]⟩++EM++PySem.Str.join EM (List.map _ (d::r)))=c::d::r;rw[IH,IH,ih];rfl
def NM:List Str:=["a","ab","b","bb","drop","seal9"].map PySem.Str.ofString
theorem YQ:∀z∈NM,C6 (.str z)=true:=by
 have h:(NM.all λz=>C6 (.str z))=true:=by decide +kernel
 exact λz hz=>bR.mp h z hz
theorem US {P:List Str}(h:∀x∈P,x∈NM):VP P:=λx hx=>YQ x (h x hx)
theorem W6 (i:Int):∃z∈NM,RN (NM.map V.str) (i%(((NM.map V.str).length:Nat):Int))=some (.str z):=by
 have h0:=bQ i (show(6:Int)≠0 by decide);have h1:=bG i (show(0:Int)<6 by decide);show ∃z∈NM,RN (NM.map V.str) (i%6)=_;obtain⟨j,e⟩:=dQ h0;rw[e] at h1 ⊢;have hj:j<NM.length:=by show j<6;omega
 exact⟨NM[j],cB hj,Af (by rw[aQ,aU hj];rfl)⟩
theorem pick (vs:List V)(Pr:V->Prop)(h:∀v∈vs,Pr v){i:Int}(h0:0<=i)(h1:i<vs.length):∃v,RN vs i=some v/\Pr v:=by
 obtain⟨j,rfl⟩:=dQ h0;have hj:j<vs.length:=by omega
 exact⟨vs[j],Af (aU hj),h _ (cB hj)⟩
section
variable {P:Program}{w:World}{K:W.Frag}{mg:Str->Option Value}{base:Heap}{f C:Addr}{XC:Nat->Addr}{fd:FuncData}{PT PU:Addr}
structure Rw6 (H:Hp) (r:Addr) (ns:List Int):Prop where
 at_:H r=some (.lst (ns.map V.int))
 len:ns.length=40
 bd:∀x∈ns,0<=x/\x<60
theorem Rw6.get {H:Hp}{r:Addr}{ns:List Int}(h:Rw6 H r ns){i:Int}(h0:0<=i)(h1:i<40):∃x,RN (ns.map V.int) i=some (.int x)/\0<=x/\x<60:=by
 obtain⟨j,rfl⟩:=dQ h0;have hj:j<ns.length:=by rw[h.len];omega
 refine⟨ns[j],?_,h.bd _ (cB hj)⟩;exact Af (by rw[aQ,aU hj];rfl)
def GX (K:W.Frag):Sp:=λvs H Q _=>∃(r nl:Addr) (i:Int) (ns:List Int),vs=[.ref r,.int i,.ref nl]/\Rw6 H r ns/\0<=i/\i<39/\H nl=some (.lst (NM.map V.str))/\∀z∈NM,Q (.str z) H
theorem PV (T:Txt K mg C XC)(F:Fun K "_law_word" "_law_word" Ei f fd):FnOk P w K mg base FL 1 f fd ["_law_row_here","_law_at","_law_names"] (GX K):=by
 exists O7
 ·obtain⟨r,nl,i,ns,rfl,_⟩:=h;rfl
 obtain⟨r,nl,i,ns,rfl,hr6,i0,i1,hn,q⟩:=h;refine⟨_,(!Ad (!AG (!Ao Bx (pv 2) (!AY DX (!AY Dq (!AY Jc (!Ao Bx (pv 0) (pv 1) (λ_ _=>rfl)) (!Ag)) (!Ao Bx (pv 0) (!AY Dq (pv 1) (!Ag)) (λ_ _=>rfl))) (!A0 B9 (by rfl) T.b_len EI (!Aa (pv 2) (!Ab)))) (λ_ _=>rfl)))),?_⟩
 try dsimp only[A4,Cx.nox,Cx.wish]
 obtain⟨a,ea,a0,a1⟩:=hr6.get i0 (by omega);obtain⟨b,eb,b0,b1⟩:=hr6.get (i:=i+1) (by omega) (by omega);obtain⟨z,hz,ez⟩:=W6 (a*60+b);exact⟨_,rfl,_,rfl,_,rfl,r,_,_,_,rfl,rfl,A7.of hr6.at_,ea,_,_,rfl,rfl,.inr ⟨by decide,by decide⟩,_,rfl,_,rfl,_,_,rfl,rfl,r,_,_,_,rfl,rfl,A7.of hr6.at_,eb,_,_,rfl,rfl,_,rfl,nl,_,rfl,.inl (A7.of hn),_,_,rfl,rfl,(by show(0:Int)<6;decide),nl,_,_,_,rfl,rfl,A7.of hn,ez,q z hz⟩
def Hk (K:W.Frag):Sp:=λvs H Q _=>∃(r nl:Addr) (i:Int) (ns:List Int),vs=[.ref r,.int i,.ref nl]/\Rw6 H r ns/\0<=i/\i<37/\H nl=some (.lst (NM.map V.str))/\∀(P:List Str) H',AJ H H'->P.length<=8->(∀x∈P,x∈NM)->Q (.str (jn P)) H'
theorem OW (T:Txt K mg C XC)(F:Fun K "_law_path" "_law_path" Eg f fd):FnOk P w K mg base FL 1 f fd ["_law_row_here","_law_at","_law_names"] (Hk K):=by
 exists Ey
 ·obtain⟨r,nl,i,ns,rfl,_⟩:=h;rfl
 obtain⟨r,nl,i,ns,rfl,hr6,i0,i1,hn,q⟩:=h;refine⟨_,(!Ah (@AK _ _ (3) _ _ _ _ Ey.nd rfl (by trivial) (!Ao Bx (!B7 (!Aa (!Ag) (!Aa (!Ag) (!Aa (!Ag) (!Aa (!Ag) (!Aa (!Ag) (!Aa (!Ag) (!Ab)))))))) (!AY DX (!Ao Bx (pv 0) (pv 1) (λ_ _=>rfl)) (!Ag)) (λ_ _=>rfl)) (by rfl) (by trivial)) (!Ah (@AK _ _ (4) _ _ _ _ Ey.nd rfl (by trivial) (!B7 (!Ab)) (by rfl) (by trivial)) (!Ah (!HA cz rfl (!Ly rfl T.b_range (!Aa (pv 3) (!Ab))) (@Be _ _ (5) _ Ey.nd rfl (by trivial) (by trivial)) (!Ah (@AK _ _ (6) _ _ _ _ Ey.nd rfl (by trivial) (!AY Kb (!Ao Bx (pv 0) (!AY Dq (!AY Dq (pv 1) (!Ag)) (!AY DX (pv 5) (!Ag))) (λ_ _=>rfl)) (!AY Dq (!Ag) (!AY Kb (pv 5) (!Ag)))) (by rfl) (by trivial)) (!Ad (!AA (!Gu bM bU bT Ec (pv 4) (!Aa (!Ao Bx (pv 2) (!AY DX (pv 6) (!A0 B9 (by rfl) T.b_len EI (!Aa (pv 2) (!Ab)))) (λ_ _=>rfl)) (!Ab)))))) (by intro _;rfl)) (!Ad (!AG (!Gu cf eu eo (O0 rfl) (!Az) (!Aa (pv 4) (!Ab)))))))),?_⟩
 try dsimp only[A4,Cx.nox,Cx.wish]
 obtain⟨a,ea,a0,a1⟩:=hr6.get i0 (by omega);have m0:=bQ a (show(6:Int)≠0 by decide);have m1:=bG a (show(0:Int)<6 by decide);obtain⟨mv,em,m,rfl,hm0,hm1⟩:=pick [V.int 0,V.int 1,V.int 1,V.int 2,V.int 3,V.int 8] (λv=>∃m:Int,v=.int m/\0<=m/\m<=8) (λv hv=>by
  simp only[List.mem_cons,List.not_mem_nil,or_false] at hv;rcases hv with rfl|rfl|rfl|rfl|rfl|rfl<;>exact⟨_,rfl,by decide,by decide⟩) m0 (by show _<6;exact m1)
 refine⟨XU,λl0 n0=>?_⟩;have s0:=Ai n0 (.lst [V.int 0,V.int 1,V.int 1,V.int 2,V.int 3,V.int 8]);have h0:(upd H l0 (.lst [V.int 0,V.int 1,V.int 1,V.int 2,V.int 3,V.int 8])) l0=some (.lst [V.int 0,V.int 1,V.int 1,V.int 2,V.int 3,V.int 8]):=Ae;generalize upd H l0 (.lst [V.int 0,V.int 1,V.int 1,V.int 2,V.int 3,V.int 8])=H1 at s0 h0;refine⟨_,rfl,_,rfl,r,_,_,_,rfl,rfl,A7.of (s0.get hr6.at_),ea,_,_,rfl,rfl,(by show(0:Int)<6;decide),l0,_,_,_,rfl,rfl,A7.of h0,em,?_⟩;refine⟨S0,λg ng=>?_⟩;have ngH:=s0.free ng;dsimp only[CG];refine⟨_,rfl,m,rfl,by omega,by omega,OE (lo:=0) (n:=m.toNat) (λk σ H2=>∃(P:List Str) (v u:Option V),σ=[some (.ref r),some (.int i),some (.ref nl),some (.int m),some (.ref g),v,u]/\AJ H H2/\H2 g=some (.lst (P.map V.str))/\P.length=k/\∀x∈P,x∈NM) ⟨[],none,none,rfl,s0.trans (Ai ng _),Ae,rfl,λ_ h=>nomatch h⟩ ?_ ?_⟩
 ·rintro k σ H2 hk ⟨P,v,u,rfl,s2,hg,lP,hP⟩
  have k2:=bQ (0+(k:Int)) (show(2:Int)≠0 by decide);have k3:=bG (0+(k:Int)) (show(0:Int)<2 by decide);have d0:(0:Int)<=(0+(k:Int))/2:=Int.ediv_nonneg (by omega) (by decide);have d1:(0+(k:Int))/2<=0+(k:Int):=Int.ediv_le_self _ (by omega);obtain⟨b,eb,b0,b1⟩:=hr6.get (i:=i+1+(0+(k:Int))%2) (by omega) (by omega);obtain⟨z,hz,ez⟩:=W6 (b/(1+(0+(k:Int))/2));refine⟨_,rfl,_,rfl,_,_,rfl,rfl,_,rfl,_,_,rfl,rfl,(by show(0:Int)<2;decide),_,_,rfl,rfl,r,_,_,_,rfl,rfl,A7.of (s2.get hr6.at_),eb,_,rfl,_,_,rfl,rfl,⟨by decide,by decide⟩,_,_,rfl,rfl,_,_,rfl,rfl,⟨by omega,by omega⟩,?_⟩;refine⟨_,rfl,.inl ⟨rfl,_,A7.of hg⟩,_,rfl,_,rfl,_,rfl,nl,_,rfl,.inl (A7.of (s2.get hn)),_,_,rfl,rfl,(by show(0:Int)<6;decide),nl,_,_,_,rfl,rfl,A7.of (s2.get hn),ez,g,_,_,rfl,rfl,hg,E8 (by rw[ax];omega),?_⟩;refine⟨P++[z],_,_,rfl,Fo s2 ngH _,by rw[Ae,bx];rfl,by rw[aM,lP];rfl,λx hx=>?_⟩;rcases bu.mp hx with hx|hx
  ·exact hP x hx
  ·rw[aG.mp hx];exact hz
 ·rintro σ H2 ⟨P,v,u,rfl,s2,hg,lP,hP⟩
  have sn:=Rr (US hP);refine⟨rfl,_,rfl,g,SL,P,rfl,rfl,A7.of hg,by show _+P.length*1<=_;omega,?_⟩;exact q P H2 s2 (by omega) hP
def Gh (K:W.Frag):Sp:=λvs H Q _=>∃(r:Addr) (i:Int) (ns:List Int),vs=[.ref r,.int i]/\Rw6 H r ns/\0<=i/\i<34/\∀(n:Int) H',AJ H H'->0<=n->n<=1000000000->Q (.int n) H'
theorem Nu (T:Txt K mg C XC)(F:Fun K "_law_number" "_law_number" Da f fd):FnOk P w K mg base FL 1 f fd ["_law_row_here","_law_at"] (Gh K):=by
 exists EA
 ·obtain⟨r,i,ns,rfl,_⟩:=h;rfl
 obtain⟨r,i,ns,rfl,hr6,i0,i1,q⟩:=h;refine⟨_,(!Ah (@AK _ _ (2) _ _ _ _ EA.nd rfl (by trivial) (!Ag) (by rfl) (by trivial)) (!Ah (!HA cz rfl (!DV (!Fk PN (pv 0) (!FG (pv 1)) (!FG (!AY Dq (pv 1) (!Ag))))) (@Be _ _ (3) _ EA.nd rfl (by trivial) (by trivial)) (!Ad (@AK _ _ (2) _ _ _ _ EA.nd rfl (by trivial) (!AY Dq (!AY Jc (!Ag) (pv 2)) (pv 3)) (by rfl) (by trivial))) (by intro _;rfl)) (!Ad (!AG (!Ao Bx (!B7 (!Aa (pv 2) (!Aa (!Ao Bx (pv 0) (pv 1) (λ_ _=>rfl)) (!Aa (!Ag) (!Aa (!Ag) (!Aa (!Ag) (!Ab))))))) (!AY DX (!Ao Bx (pv 0) (!AY Dq (pv 1) (!Ag)) (λ_ _=>rfl)) (!Ag)) (λ_ _=>rfl)))))),?_⟩
 try dsimp only[A4,Cx.nox,Cx.wish]
 obtain⟨a,ea,a0,a1⟩:=hr6.get i0 (by omega);obtain⟨b,eb,b0,b1⟩:=hr6.get (i:=i+5) (by omega) (by omega);obtain⟨ds,ed,dl,db⟩:∃ds:List Int,JG (ns.map V.int) (some i) (some (i+5))=ds.map V.int/\ds.length<=5/\∀x∈ds,0<=x/\x<60:=by
  refine⟨(ns.drop i.toNat).take ((i+5).toNat-i.toNat),by rw[VX i0 (by omega),dG,fS],by rw[bY];omega,λx hx=>hr6.bd x (du (gz hx))⟩
 refine⟨_,rfl,_,rfl,_,rfl,_,rfl,_,_,rfl,rfl,_,rfl,r,_,rfl,A7.of hr6.at_,λp np=>?_⟩;rw[ed];have s1:=Ai np (.lst (ds.map V.int));have h1:(upd H p (.lst (ds.map V.int))) p=some (.lst (ds.map V.int)):=Ae;generalize upd H p (.lst (ds.map V.int))=H1 at s1 h1;refine⟨p,rfl,⟨_,A7.of h1⟩,HV (K:=K) (a:=p) (xs:=ds.map V.int) (λk σ H2=>H2=H1/\∃(n:Int) (v:Option V),σ=[some (.ref r),some (.int i),some (.int n),v]/\0<=n/\n<60^k) ⟨rfl,0,none,rfl,by decide,by decide⟩ (λk σ H2 _ ⟨e,_⟩=>by rw[e];exact A7.of h1) ?_ ?_⟩
 ·rintro k x σ H2 ex ⟨rfl,n,v,rfl,n0,n1⟩
  rw[aQ] at ex;obtain⟨d,ed',rfl⟩:=bB.mp ex;obtain⟨d0,d1⟩:=db d (bD ed');refine⟨_,rfl,_,_,rfl,rfl,.inl ⟨by decide,by decide⟩,_,rfl,_,_,rfl,rfl,rfl,_,_,rfl,by omega,?_⟩;rw[Int.pow_succ];generalize (60:Int)^k=w at n1 ⊢;omega
 ·rintro σ H2 ⟨rfl,n,v,rfl,n0,n1⟩
  have n2:n<=1000000000:=by
   rw[ax] at n1;have:(60:Int)^ds.length<=1000000000:=by
    generalize ds.length=k at dl;rcases k with _|_|_|_|_|_|k
    ·decide
    ·decide
    ·decide
    ·decide
    ·decide
    ·decide
    ·omega
   omega
  have m0:=bQ b (show(5:Int)≠0 by decide);have m1:=bG b (show(0:Int)<5 by decide);obtain⟨mv,em,m,rfl,hm0,hm1⟩:=pick [V.int n,V.int a,V.int 0,V.int 999999999,V.int 100000000] (λv=>∃m:Int,v=.int m/\0<=m/\m<=1000000000) (λv hv=>by
   simp only[List.mem_cons,List.not_mem_nil,or_false] at hv;rcases hv with rfl|rfl|rfl|rfl|rfl
   ·exact⟨_,rfl,n0,n2⟩
   ·exact⟨_,rfl,a0,by omega⟩
   ·exact⟨_,rfl,by decide,by decide⟩
   ·exact⟨_,rfl,by decide,by decide⟩
   ·exact⟨_,rfl,by decide,by decide⟩) m0 (by show _<5;exact m1)
  have hr1:=s1.get hr6.at_;refine⟨_,rfl,_,rfl,_,rfl,r,_,_,_,rfl,rfl,A7.of hr1,ea,RG,λl nl=>?_⟩;have s2:=Ai nl (.lst [V.int n,V.int a,V.int 0,V.int 999999999,V.int 100000000]);have h2:(upd H2 l (.lst [V.int n,V.int a,V.int 0,V.int 999999999,V.int 100000000])) l=some (.lst [V.int n,V.int a,V.int 0,V.int 999999999,V.int 100000000]):=Ae;generalize upd H2 l (.lst [V.int n,V.int a,V.int 0,V.int 999999999,V.int 100000000])=H3 at s2 h2;exact⟨_,rfl,_,rfl,_,_,rfl,rfl,r,_,_,_,rfl,rfl,A7.of (s2.get hr1),eb,_,_,rfl,rfl,(by show(0:Int)<5;decide),l,_,_,_,rfl,rfl,A7.of h2,em,q m H3 (s1.trans s2) hm0 hm1⟩
def G8 (K:W.Frag):Sp:=λvs H Q _=>∃(r:Addr) (i:Int) (ns:List Int),vs=[.ref r,.int i]/\Rw6 H r ns/\0<=i/\i<37/\∀(z:Str) H',AJ H H'->z.length<=400->Q (.str z) H'
theorem Pj (T:Txt K mg C XC)(F:Fun K "_law_text" "_law_text" Er f fd):FnOk P w K mg base FL 1 f fd ["_law_row_here","_law_at"] (G8 K):=by
 exists Hv
 ·obtain⟨r,i,ns,rfl,_⟩:=h;rfl
 obtain⟨r,i,ns,rfl,hr6,i0,i1,q⟩:=h;refine⟨_,(!Ah (@AK _ _ (2) _ _ _ _ Hv.nd rfl (by trivial) (!Az) (by rfl) (by trivial)) (!Ah (@AK _ _ (3) _ _ _ _ Hv.nd rfl (by trivial) (!Ao Bx (!B7 (!Aa (!AY DX (!Ao Bx (pv 0) (pv 1) (λ_ _=>rfl)) (!Ag)) (!Aa (!Ao Bx (pv 0) (pv 1) (λ_ _=>rfl)) (!Aa (!Ag) (!Ab))))) (!AY Kb (!AY DX (!Ao Bx (pv 0) (!AY Dq (pv 1) (!Ag)) (λ_ _=>rfl)) (!Ag)) (!Ag)) (λ_ _=>rfl)) (by rfl) (by trivial)) (!Ad (!AG (!Gu cf eu eo (O0 rfl) (!Az) (!Aa (@Gx _ ["_law_k","_law_signs","_law_row_here","_law_at"] [none,some 2,some 0,some 1] _ _ _ _ _ _ _ _ _ _ _ rfl (!Ly rfl T.b_range (!Aa (pv 3) (!Ab))) (by rfl) rfl (by repeat (first|exact trivial|refine⟨rfl,?_⟩)) (by repeat (first|exact trivial|refine⟨λh=>(by first|exact⟨_,rfl⟩|cases h),?_⟩)) (λC s H fp=>⟨(@Be _ _ (0) _ (show(["_law_k","_law_signs","_law_row_here","_law_at"]:List Str).Nodup by decide +kernel) rfl (by trivial) (by trivial)),(!Dw),(!Ao Xs (pv 1) (!AY DX (!AY Dq (!Ao (Qo (K:=K) (by rfl)) (pv 2) (!AY Dq (pv 3) (!Ag)) (λ_ _=>rfl)) (!AY Jc (pv 0) (!Ao (Qo (K:=K) (by rfl)) (pv 2) (!AY Dq (pv 3) (!Ag)) (λ_ _=>rfl)))) (!A0 Hh (by rfl) T.b_len EI (!Aa (pv 1) (!Ab)))) (λ_ _=>rfl))⟩) (by intro _;rfl)) (!Ab))))))),?_⟩
 try dsimp only[A4,Cx.nox,Cx.wish]
 obtain⟨a,ea,a0,a1⟩:=hr6.get i0 (by omega);obtain⟨b,eb,b0,b1⟩:=hr6.get (i:=i+1) (by omega) (by omega);obtain⟨c,ec,c0,c1⟩:=hr6.get (i:=i+2) (by omega) (by omega);obtain⟨d,ed,d0,d1⟩:=hr6.get (i:=i+3) (by omega) (by omega);obtain⟨SG,eSG⟩:∃SG,SG=PySem.Str.ofString "  abcdefghijklmnopqrstuvwxyz0123456789!#&*+,-./:;<=>?\x40[]^_{|}~ABCXYZ":=⟨_,rfl⟩
 have lSG:SG.length=68:=by rw[eSG];decide +kernel
 rw[<-eSG];have r0:=bQ b (show(5:Int)≠0 by decide);have r1:=bG b (show(0:Int)<5 by decide);have t0:=bQ a (show(4:Int)≠0 by decide);have t1:=bG a (show(0:Int)<4 by decide);obtain⟨mv,em,m,rfl,hm0,hm1⟩:=pick [V.int (a%4),V.int a,V.int 400] (λv=>∃m:Int,v=.int m/\0<=m/\m<=400) (λv hv=>by
  simp only[List.mem_cons,List.not_mem_nil,or_false] at hv;rcases hv with rfl|rfl|rfl
  ·exact⟨_,rfl,by omega,by omega⟩
  ·exact⟨_,rfl,a0,by omega⟩
  ·exact⟨_,rfl,by decide,by decide⟩) (i:=b%5/2) (by omega) (by show _<3;omega)
 refine⟨_,rfl,_,rfl,r,_,_,_,rfl,rfl,A7.of hr6.at_,ea,_,_,rfl,rfl,(by show(0:Int)<4;decide),_,rfl,_,rfl,r,_,_,_,rfl,rfl,A7.of hr6.at_,ea,LU,λl nl=>?_⟩;have s1:=Ai nl (.lst [V.int (a%4),V.int a,V.int 400]);have h1:(upd H l (.lst [V.int (a%4),V.int a,V.int 400])) l=some (.lst [V.int (a%4),V.int a,V.int 400]):=Ae;generalize upd H l (.lst [V.int (a%4),V.int a,V.int 400])=H1 at s1 h1;have hr1:=s1.get hr6.at_;refine⟨_,rfl,_,rfl,_,_,rfl,rfl,r,_,_,_,rfl,rfl,A7.of hr1,eb,_,_,rfl,rfl,(by show(0:Int)<5;decide),_,_,rfl,rfl,⟨by decide,by decide⟩,l,_,_,_,rfl,rfl,A7.of h1,em,?_⟩;refine⟨rfl,_,rfl,m,rfl,by omega,by omega,?_⟩;refine Vn (xs:=(List.range m.toNat).map λ(i:Nat)=>V.int (0+(i:Int))) (λ_ y _=>∃c,y=.str ⟨#[c]⟩/\c∈Bj SG) (λ_ _ _ _ h _=>h) (λ_ _ _ _ _ _ h _ _=>h) Rq (by rw[ax,List.length_range];omega) (λx H' R hx s' hR=>?_) λl2 H2 ys n2 s2 h2 l2' hy=>?_
 ·obtain⟨k,hk,rfl⟩:=aA.mp hx;have hk':k<m.toNat:=eE.mp hk;obtain⟨ch,hc,mc⟩:=XX (z:=SG) (i:=(c+(0+(k:Int))*d)%68) (bQ _ (by decide)) (by rw[Cp,lSG];exact bG _ (by decide));have hr2:=s'.get hr1;refine⟨_,rfl,_,rfl,_,rfl,_,_,rfl,rfl,r,_,_,_,rfl,rfl,A7.of hr2,ec,_,rfl,_,rfl,_,rfl,_,_,rfl,rfl,r,_,_,_,rfl,rfl,A7.of hr2,ed,_,_,rfl,rfl,.inr ⟨by omega,by omega⟩,_,_,rfl,rfl,_,rfl,SG,rfl,small (by omega),_,_,rfl,rfl,(by rw[lSG];show(0:Int)<68;decide),SG,_,ch,rfl,rfl,small (by omega),by rw[lSG];exact hc,?_⟩;exact hR (.str ⟨#[ch]⟩) H' (AJ.refl _) (λ_ z=>by cases z) ⟨ch,rfl,mc⟩
 ·obtain⟨cs,rfl,hcs⟩:=Qx ys λy hm=>by
   obtain⟨j,hj⟩:=List.getElem?_of_mem hm;have il:=(bh.mp hj).1;exact(hy j _ y (aU (by omega)) hj).1
  have lcs:cs.length=m.toNat:=by
   rw[ax,ax,ax,List.length_range] at l2';exact l2'
  have wl:(Bj (PySem.Txt.join EM (cs.map λc=>(⟨#[c]⟩:Str))))=cs:=Ti cs;refine⟨l2,EM,cs.map λc=>(⟨#[c]⟩:Str),rfl,rfl,A7.of h2,?_,?_⟩
  ·have e:((cs.map λc=>(⟨#[c]⟩:Str)).map (·.length)).sum=cs.length:=by
    rw[aL];have:((λz:Str=>z.length)∘λc=>(⟨#[c]⟩:Str))=λ_:Nat=>1:=rfl
    rw[this]
    clear this hcs h2 hy l2' wl lcs
    induction cs with
    |nil=>rfl
    |cons c cs ih=>rw[aR,List.sum_cons,ih,bw];omega
   rw[e,ax,lcs];show _+m.toNat*0<=_;omega
  ·refine q _ H2 (s1.trans s2) ?_;rw[<-Cp,wl,lcs];omega
end
def WD:List Str:=[PySem.Str.ofString "keeper",PySem.Str.ofString "stem",PySem.Str.ofString "folder",PySem.Str.ofString "write",PySem.Str.ofString "splice",PySem.Str.ofString "remove",PySem.Str.ofString "move",PySem.Str.ofString "copy",PySem.Str.ofString "\x73eal",PySem.Str.ofString "grow",PySem.Str.ofString "back",PySem.Str.ofString "graft",PySem.Str.ofString "drop"]
section
variable {P:Program}{w:World}{K:W.Frag}{mg:Str->Option Value}{base:Heap}{f C:Addr}{XC:Nat->Addr}{fd:FuncData}{PT PU:Addr}
theorem Rw6.same {H H':Hp}{r:Addr}{ns:List Int}(h:Rw6 H r ns)(s:AJ H H'):Rw6 H' r ns:=⟨s.get h.at_,h.len,h.bd⟩
theorem Vx:∀z∈NM,z.length<=1000:=by
 have h:(NM.all λz=>decide (z.length<=1000))=true:=by decide +kernel
 exact λz hz=>aW (bR.mp h z hz)
def GW (K:W.Frag):Sp:=λvs H Q _=>∃(c:Int) (nl:Addr),vs=[.int c,.ref nl]/\H nl=some (.lst (NM.map V.str))/\∀(a:Addr) H' (d:Cd),AJ H H'->d.Sz->H' a=some (.tup d.V)->Q (.ref a) H'
theorem Pz (T:Txt K mg C XC)(F:Fun K "_law_deed" "_law_deed" Es f fd)(Ji:Def P w K mg base 1 "_law_row" ["_law_cell","_law_many"] (Iq K))(Fn:Def P w K mg base 1 "_law_word" ["_law_row_here","_law_at","_law_names"] (GX K))(Gr:Def P w K mg base 1 "_law_path" ["_law_row_here","_law_at","_law_names"] (Hk K))(DP:Def P w K mg base 1 "_law_number" ["_law_row_here","_law_at"] (Gh K))(Gv:Def P w K mg base 1 "_law_text" ["_law_row_here","_law_at"] (G8 K)):FnOk P w K mg base FL 2 f fd ["_law_cell","_law_names"] (GW K):=by
 exists CC
 ·obtain⟨c,nl,rfl,_⟩:=h;rfl
 obtain⟨c,nl,rfl,hn,q⟩:=h;have hu:=Gw hr;refine⟨_,(!Ah (@AK _ _ (2) _ _ _ _ CC.nd rfl (by trivial) (!AW Ji (by trivial) rfl (!Aa (pv 0) (!Aa (!Ag) (!Ab)))) (by rfl) (by trivial)) (!Ah (@AK _ _ (3) _ _ _ _ CC.nd rfl (by trivial) (!B7 (!Aa (!Az) (!Aa (!Az) (!Aa (!Az) (!Aa (!Az) (!Aa (!Az) (!Aa (!Az) (!Aa (!Az) (!Aa (!Az) (!Aa (!Az) (!Aa (!Az) (!Aa (!Az) (!Aa (!Az) (!Ab)))))))))))))) (by rfl) (by trivial)) (!Ah (!AA (!Gu bM bU bT Ec (pv 3) (!Aa (!Az) (!Ab)))) (!Ah (@AK _ _ (4) _ _ _ _ CC.nd rfl (by trivial) (!Ao Bx (pv 3) (!AY DX (!Ao Bx (pv 2) (!Ag) (λ_ _=>rfl)) (!Ag)) (λ_ _=>rfl)) (by rfl) (by trivial)) (!Ah (@AK _ _ (5) _ _ _ _ CC.nd rfl (by trivial) (!AW Fn (by trivial) rfl (!Aa (pv 2) (!Aa (!Ag) (!Aa (pv 1) (!Ab))))) (by rfl) (by trivial)) (!Ah (@AK _ _ (6) _ _ _ _ CC.nd rfl (by trivial) (!AW Gr (by trivial) rfl (!Aa (pv 2) (!Aa (!Ag) (!Aa (pv 1) (!Ab))))) (by rfl) (by trivial)) (!Ah (@AK _ _ (7) _ _ _ _ CC.nd rfl (by trivial) (!AW Gr (by trivial) rfl (!Aa (pv 2) (!Aa (!Ag) (!Aa (pv 1) (!Ab))))) (by rfl) (by trivial)) (!Ah (@AK _ _ (8) _ _ _ _ CC.nd rfl (by trivial) (!AW Fn (by trivial) rfl (!Aa (pv 2) (!Aa (!Ag) (!Aa (pv 1) (!Ab))))) (by rfl) (by trivial)) (!Ah (!AV (!AD Bh (pv 4) (!Az) (AI _)) (!Ad (!AG (!Bo (!Aa (pv 4) (!Aa (pv 5) (!Aa (!AW DP (by trivial) rfl (!Aa (pv 2) (!Aa (!Ag) (!Ab)))) (!Ab))))))) (!AO)) (!Ah (!AV (!AD Li (pv 4) (!B7 (!Aa (!Az) (!Aa (!Az) (!Ab))))) (!Ad (!AG (!Bo (!Aa (pv 4) (!Aa (pv 5) (!Aa (pv 8) (!Ab))))))) (!AO)) (!Ah (!AV (!AD Li (pv 4) (!B7 (!Aa (!Az) (!Aa (!Az) (!Ab))))) (!Ad (!AG (!Bo (!Aa (pv 4) (!Aa (pv 5) (!Aa (pv 6) (!Ab))))))) (!AO)) (!Ah (!AV (!AD Bh (pv 4) (!Az) (AI _)) (!Ad (!AG (!Bo (!Aa (pv 4) (!Aa (pv 5) (!Aa (pv 6) (!Aa (!AW Gv (by trivial) rfl (!Aa (pv 2) (!Aa (!Ag) (!Ab)))) (!Ab)))))))) (!AO)) (!Ah (!AV (!AD Bh (pv 4) (!Az) (AI _)) (!Ad (!AG (!Bo (!Aa (pv 4) (!Aa (pv 5) (!Aa (pv 6) (!Aa (!AW DP (by trivial) rfl (!Aa (pv 2) (!Aa (!Ag) (!Ab)))) (!Aa (!AW DP (by trivial) rfl (!Aa (pv 2) (!Aa (!Ag) (!Ab)))) (!Aa (!AW Gv (by trivial) rfl (!Aa (pv 2) (!Aa (!Ag) (!Ab)))) (!Ab)))))))))) (!AO)) (!Ah (!AV (!AD Bh (pv 4) (!Az) (AI _)) (!Ad (!AG (!Bo (!Aa (pv 4) (!Aa (pv 5) (!Aa (pv 6) (!Aa (pv 7) (!Ab)))))))) (!AO)) (!Ah (!AV (!AD Bh (pv 4) (!Az) (AI _)) (!Ad (!AG (!Bo (!Aa (pv 4) (!Aa (pv 5) (!Aa (pv 7) (!Aa (pv 8) (!Aa (pv 6) (!Ab))))))))) (!AO)) (!Ah (!AV (!AD Bh (pv 4) (!Az) (AI _)) (!Ad (!AG (!Bo (!Aa (pv 4) (!Aa (pv 5) (!Aa (pv 8) (!Aa (!AW Fn (by trivial) rfl (!Aa (pv 2) (!Aa (!Ag) (!Aa (pv 1) (!Ab))))) (!Ab)))))))) (!AO)) (!Ad (!AG (!Bo (!Aa (pv 4) (!Aa (pv 5) (!Ab)))))))))))))))))))))),?_⟩
 try dsimp only[A4,Cx.nox,Cx.wish]
 refine⟨_,rfl,c,40,rfl,by decide,by decide,λr H1 ns s1 nr hr ln bd=>?_⟩;have r6:Rw6 H1 r ns:=⟨hr,ln,bd⟩
 refine⟨YS,λg ng=>?_⟩;have sA:=Ai ng (.lst [V.str (PySem.Str.ofString "keeper"),V.str (PySem.Str.ofString "stem"),V.str (PySem.Str.ofString "folder"),V.str (PySem.Str.ofString "write"),V.str (PySem.Str.ofString "splice"),V.str (PySem.Str.ofString "remove"),V.str (PySem.Str.ofString "move"),V.str (PySem.Str.ofString "copy"),V.str (PySem.Str.ofString "\x73eal"),V.str (PySem.Str.ofString "grow"),V.str (PySem.Str.ofString "back"),V.str (PySem.Str.ofString "graft")]);have hg:(upd H1 g (.lst [V.str (PySem.Str.ofString "keeper"),V.str (PySem.Str.ofString "stem"),V.str (PySem.Str.ofString "folder"),V.str (PySem.Str.ofString "write"),V.str (PySem.Str.ofString "splice"),V.str (PySem.Str.ofString "remove"),V.str (PySem.Str.ofString "move"),V.str (PySem.Str.ofString "copy"),V.str (PySem.Str.ofString "\x73eal"),V.str (PySem.Str.ofString "grow"),V.str (PySem.Str.ofString "back"),V.str (PySem.Str.ofString "graft")])) g=some (.lst [V.str (PySem.Str.ofString "keeper"),V.str (PySem.Str.ofString "stem"),V.str (PySem.Str.ofString "folder"),V.str (PySem.Str.ofString "write"),V.str (PySem.Str.ofString "splice"),V.str (PySem.Str.ofString "remove"),V.str (PySem.Str.ofString "move"),V.str (PySem.Str.ofString "copy"),V.str (PySem.Str.ofString "\x73eal"),V.str (PySem.Str.ofString "grow"),V.str (PySem.Str.ofString "back"),V.str (PySem.Str.ofString "graft")]):=Ae;generalize upd H1 g (.lst [V.str (PySem.Str.ofString "keeper"),V.str (PySem.Str.ofString "stem"),V.str (PySem.Str.ofString "folder"),V.str (PySem.Str.ofString "write"),V.str (PySem.Str.ofString "splice"),V.str (PySem.Str.ofString "remove"),V.str (PySem.Str.ofString "move"),V.str (PySem.Str.ofString "copy"),V.str (PySem.Str.ofString "\x73eal"),V.str (PySem.Str.ofString "grow"),V.str (PySem.Str.ofString "back"),V.str (PySem.Str.ofString "graft")])=H2 at sA hg;refine⟨_,rfl,.inl ⟨rfl,_,A7.of hg⟩,g,_,_,rfl,rfl,hg,E8 (by show 12<1000000;decide),?_⟩;have sB:AJ H1 (upd H2 g (.lst ([V.str (PySem.Str.ofString "keeper"),V.str (PySem.Str.ofString "stem"),V.str (PySem.Str.ofString "folder"),V.str (PySem.Str.ofString "write"),V.str (PySem.Str.ofString "splice"),V.str (PySem.Str.ofString "remove"),V.str (PySem.Str.ofString "move"),V.str (PySem.Str.ofString "copy"),V.str (PySem.Str.ofString "\x73eal"),V.str (PySem.Str.ofString "grow"),V.str (PySem.Str.ofString "back"),V.str (PySem.Str.ofString "graft")]++[V.str (PySem.Str.ofString "drop")]))):=Fo sA ng _;have hW:(upd H2 g (.lst ([V.str (PySem.Str.ofString "keeper"),V.str (PySem.Str.ofString "stem"),V.str (PySem.Str.ofString "folder"),V.str (PySem.Str.ofString "write"),V.str (PySem.Str.ofString "splice"),V.str (PySem.Str.ofString "remove"),V.str (PySem.Str.ofString "move"),V.str (PySem.Str.ofString "copy"),V.str (PySem.Str.ofString "\x73eal"),V.str (PySem.Str.ofString "grow"),V.str (PySem.Str.ofString "back"),V.str (PySem.Str.ofString "graft")]++[V.str (PySem.Str.ofString "drop")]))) g=some (.lst (WD.map V.str)):=Ae;generalize upd H2 g (.lst ([V.str (PySem.Str.ofString "keeper"),V.str (PySem.Str.ofString "stem"),V.str (PySem.Str.ofString "folder"),V.str (PySem.Str.ofString "write"),V.str (PySem.Str.ofString "splice"),V.str (PySem.Str.ofString "remove"),V.str (PySem.Str.ofString "move"),V.str (PySem.Str.ofString "copy"),V.str (PySem.Str.ofString "\x73eal"),V.str (PySem.Str.ofString "grow"),V.str (PySem.Str.ofString "back"),V.str (PySem.Str.ofString "graft")]++[V.str (PySem.Str.ofString "drop")]))=H3 at sB hW;have r6:=r6.same sB;have hn:=(s1.trans sB).get hn;have S:=s1.trans sB;obtain⟨a,ea,a0,a1⟩:=r6.get (i:=0) (by decide) (by decide);obtain⟨wv,ew,wd,hw,rfl⟩:=pick (WD.map V.str) (λv=>∃z∈WD,v=.str z) (λv hv=>by
  obtain⟨z,hz,rfl⟩:=aA.mp hv;exact⟨z,hz,rfl⟩) (i:=a%13) (bQ a (by decide)) (bG a (show(0:Int)<13 by decide))
 refine⟨_,rfl,_,rfl,r,_,_,_,rfl,rfl,A7.of r6.at_,ea,_,_,rfl,rfl,(by show(0:Int)<13;decide),g,_,_,_,rfl,rfl,A7.of hW,ew,?_⟩;refine⟨_,rfl,_,rfl,r,nl,1,ns,rfl,r6,by decide,by decide,hn,λone h1=>?_⟩;refine⟨_,rfl,_,rfl,r,nl,3,ns,rfl,r6,by decide,by decide,hn,λP H4 s4 lP hP=>?_⟩;have r6:=r6.same s4;have hn:=s4.get hn;have S:=S.trans s4;refine⟨_,rfl,_,rfl,r,nl,6,ns,rfl,r6,by decide,by decide,hn,λR H5 s5 lR hR=>?_⟩;have r6:=r6.same s5;have hn:=s5.get hn;have S:=S.trans s5;refine⟨_,rfl,_,rfl,r,nl,9,ns,rfl,r6,by decide,by decide,hn,λoth h9=>?_⟩;have vP:=US hP;have vR:=US hR;have l1:=Vx one h1;have l9:=Vx oth h9;dsimp only[CG]
 clear sA sB hg hW ng nr ew ea s1 s4 s5 hr
 simp only[WD,List.mem_cons,List.not_mem_nil,or_false] at hw;rcases hw with rfl|rfl|rfl|rfl|rfl|rfl|rfl|rfl|rfl|rfl|rfl|rfl|rfl
 ·refine⟨_,rfl,rfl,_,rfl,AU (by decide +kernel) ?_⟩;refine⟨_,rfl,_,rfl,_,rfl,r,11,ns,rfl,r6,by decide,by decide,λn0 Hn sn na0 nb0=>?_⟩
  replace r6:=r6.same sn
  replace hn:=sn.get hn
  replace S:=S.trans sn
  exact⟨LU,λb nb=>q b _ (.keeper one n0) (S.trans (Ai nb _)) l1 Ae⟩
 ·refine⟨_,rfl,rfl,_,rfl,Ay (by decide +kernel) ?_⟩;refine⟨_,rfl,Dt,λlk nk=>?_⟩;have sk:=Ai nk (.lst [V.str (PySem.Str.ofString "stem"),V.str (PySem.Str.ofString "\x73eal")])
  replace r6:=r6.same sk
  replace hn:=sk.get hn
  replace S:=S.trans sk
  refine⟨lk,_,rfl,.inl (A7.of Ae),rfl,rfl,_,rfl,AU (by decide +kernel) ?_⟩;exact⟨_,rfl,_,rfl,_,rfl,LU,λb nb=>q b _ (.stem one oth) (S.trans (Ai nb _)) l1 Ae⟩
 ·refine⟨_,rfl,rfl,_,rfl,Ay (by decide +kernel) ?_⟩;refine⟨_,rfl,Dt,λlk nk=>?_⟩;have sk:=Ai nk (.lst [V.str (PySem.Str.ofString "stem"),V.str (PySem.Str.ofString "\x73eal")])
  replace r6:=r6.same sk
  replace hn:=sk.get hn
  replace S:=S.trans sk
  refine⟨lk,_,rfl,.inl (A7.of Ae),rfl,rfl,_,rfl,Ay (by decide +kernel) ?_⟩;refine⟨_,rfl,Dt,λlk nk=>?_⟩;have sk:=Ai nk (.lst [V.str (PySem.Str.ofString "folder"),V.str (PySem.Str.ofString "remove")])
  replace r6:=r6.same sk
  replace hn:=sk.get hn
  replace S:=S.trans sk
  refine⟨lk,_,rfl,.inl (A7.of Ae),rfl,rfl,_,rfl,AU (by decide +kernel) ?_⟩;exact⟨_,rfl,_,rfl,_,rfl,LU,λb nb=>q b _ (.folder one P) (S.trans (Ai nb _)) ⟨vP,lP⟩ Ae⟩
 ·refine⟨_,rfl,rfl,_,rfl,Ay (by decide +kernel) ?_⟩;refine⟨_,rfl,Dt,λlk nk=>?_⟩;have sk:=Ai nk (.lst [V.str (PySem.Str.ofString "stem"),V.str (PySem.Str.ofString "\x73eal")])
  replace r6:=r6.same sk
  replace hn:=sk.get hn
  replace S:=S.trans sk
  refine⟨lk,_,rfl,.inl (A7.of Ae),rfl,rfl,_,rfl,Ay (by decide +kernel) ?_⟩;refine⟨_,rfl,Dt,λlk nk=>?_⟩;have sk:=Ai nk (.lst [V.str (PySem.Str.ofString "folder"),V.str (PySem.Str.ofString "remove")])
  replace r6:=r6.same sk
  replace hn:=sk.get hn
  replace S:=S.trans sk
  refine⟨lk,_,rfl,.inl (A7.of Ae),rfl,rfl,_,rfl,Ay (by decide +kernel) ?_⟩;refine⟨_,rfl,rfl,_,rfl,AU (by decide +kernel) ?_⟩;refine⟨_,rfl,_,rfl,_,rfl,_,rfl,r,24,ns,rfl,r6,by decide,by decide,λz0 Hn sn zl0=>?_⟩
  replace r6:=r6.same sn
  replace hn:=sn.get hn
  replace S:=S.trans sn
  exact⟨Tj,λb nb=>q b _ (.write one P z0) (S.trans (Ai nb _)) ⟨vP,lP,by omega⟩ Ae⟩
 ·refine⟨_,rfl,rfl,_,rfl,Ay (by decide +kernel) ?_⟩;refine⟨_,rfl,Dt,λlk nk=>?_⟩;have sk:=Ai nk (.lst [V.str (PySem.Str.ofString "stem"),V.str (PySem.Str.ofString "\x73eal")])
  replace r6:=r6.same sk
  replace hn:=sk.get hn
  replace S:=S.trans sk
  refine⟨lk,_,rfl,.inl (A7.of Ae),rfl,rfl,_,rfl,Ay (by decide +kernel) ?_⟩;refine⟨_,rfl,Dt,λlk nk=>?_⟩;have sk:=Ai nk (.lst [V.str (PySem.Str.ofString "folder"),V.str (PySem.Str.ofString "remove")])
  replace r6:=r6.same sk
  replace hn:=sk.get hn
  replace S:=S.trans sk
  refine⟨lk,_,rfl,.inl (A7.of Ae),rfl,rfl,_,rfl,Ay (by decide +kernel) ?_⟩;refine⟨_,rfl,rfl,_,rfl,Ay (by decide +kernel) ?_⟩;refine⟨_,rfl,rfl,_,rfl,AU (by decide +kernel) ?_⟩;refine⟨_,rfl,_,rfl,_,rfl,_,rfl,r,11,ns,rfl,r6,by decide,by decide,λn0 Hn sn na0 nb0=>?_⟩
  replace r6:=r6.same sn
  replace hn:=sn.get hn
  replace S:=S.trans sn
  refine⟨_,rfl,r,17,ns,rfl,r6,by decide,by decide,λn1 Hn sn na1 nb1=>?_⟩
  replace r6:=r6.same sn
  replace hn:=sn.get hn
  replace S:=S.trans sn
  refine⟨_,rfl,r,24,ns,rfl,r6,by decide,by decide,λz0 Hn sn zl0=>?_⟩
  replace r6:=r6.same sn
  replace hn:=sn.get hn
  replace S:=S.trans sn
  exact⟨XU,λb nb=>q b _ (.splice one P n0 n1 z0) (S.trans (Ai nb _)) ⟨vP,lP,zl0,na0,nb0,na1,nb1⟩ Ae⟩
 ·refine⟨_,rfl,rfl,_,rfl,Ay (by decide +kernel) ?_⟩;refine⟨_,rfl,Dt,λlk nk=>?_⟩;have sk:=Ai nk (.lst [V.str (PySem.Str.ofString "stem"),V.str (PySem.Str.ofString "\x73eal")])
  replace r6:=r6.same sk
  replace hn:=sk.get hn
  replace S:=S.trans sk
  refine⟨lk,_,rfl,.inl (A7.of Ae),rfl,rfl,_,rfl,Ay (by decide +kernel) ?_⟩;refine⟨_,rfl,Dt,λlk nk=>?_⟩;have sk:=Ai nk (.lst [V.str (PySem.Str.ofString "folder"),V.str (PySem.Str.ofString "remove")])
  replace r6:=r6.same sk
  replace hn:=sk.get hn
  replace S:=S.trans sk
  refine⟨lk,_,rfl,.inl (A7.of Ae),rfl,rfl,_,rfl,AU (by decide +kernel) ?_⟩;exact⟨_,rfl,_,rfl,_,rfl,LU,λb nb=>q b _ (.remove one P) (S.trans (Ai nb _)) ⟨vP,lP⟩ Ae⟩
 ·refine⟨_,rfl,rfl,_,rfl,Ay (by decide +kernel) ?_⟩;refine⟨_,rfl,Dt,λlk nk=>?_⟩;have sk:=Ai nk (.lst [V.str (PySem.Str.ofString "stem"),V.str (PySem.Str.ofString "\x73eal")])
  replace r6:=r6.same sk
  replace hn:=sk.get hn
  replace S:=S.trans sk
  refine⟨lk,_,rfl,.inl (A7.of Ae),rfl,rfl,_,rfl,Ay (by decide +kernel) ?_⟩;refine⟨_,rfl,Dt,λlk nk=>?_⟩;have sk:=Ai nk (.lst [V.str (PySem.Str.ofString "folder"),V.str (PySem.Str.ofString "remove")])
  replace r6:=r6.same sk
  replace hn:=sk.get hn
  replace S:=S.trans sk
  refine⟨lk,_,rfl,.inl (A7.of Ae),rfl,rfl,_,rfl,Ay (by decide +kernel) ?_⟩;refine⟨_,rfl,rfl,_,rfl,Ay (by decide +kernel) ?_⟩;refine⟨_,rfl,rfl,_,rfl,Ay (by decide +kernel) ?_⟩;refine⟨_,rfl,rfl,_,rfl,AU (by decide +kernel) ?_⟩;exact⟨_,rfl,_,rfl,_,rfl,_,rfl,Tj,λb nb=>q b _ (.move one P R) (S.trans (Ai nb _)) ⟨vP,lP,vR,lR⟩ Ae⟩
 ·refine⟨_,rfl,rfl,_,rfl,Ay (by decide +kernel) ?_⟩;refine⟨_,rfl,Dt,λlk nk=>?_⟩;have sk:=Ai nk (.lst [V.str (PySem.Str.ofString "stem"),V.str (PySem.Str.ofString "\x73eal")])
  replace r6:=r6.same sk
  replace hn:=sk.get hn
  replace S:=S.trans sk
  refine⟨lk,_,rfl,.inl (A7.of Ae),rfl,rfl,_,rfl,Ay (by decide +kernel) ?_⟩;refine⟨_,rfl,Dt,λlk nk=>?_⟩;have sk:=Ai nk (.lst [V.str (PySem.Str.ofString "folder"),V.str (PySem.Str.ofString "remove")])
  replace r6:=r6.same sk
  replace hn:=sk.get hn
  replace S:=S.trans sk
  refine⟨lk,_,rfl,.inl (A7.of Ae),rfl,rfl,_,rfl,Ay (by decide +kernel) ?_⟩;refine⟨_,rfl,rfl,_,rfl,Ay (by decide +kernel) ?_⟩;refine⟨_,rfl,rfl,_,rfl,Ay (by decide +kernel) ?_⟩;refine⟨_,rfl,rfl,_,rfl,Ay (by decide +kernel) ?_⟩;refine⟨_,rfl,rfl,_,rfl,AU (by decide +kernel) ?_⟩;exact⟨_,rfl,_,rfl,_,rfl,_,rfl,_,rfl,RG,λb nb=>q b _ (.copy one R oth P) (S.trans (Ai nb _)) ⟨vP,lP,vR,lR⟩ Ae⟩
 ·refine⟨_,rfl,rfl,_,rfl,Ay (by decide +kernel) ?_⟩;refine⟨_,rfl,Dt,λlk nk=>?_⟩;have sk:=Ai nk (.lst [V.str (PySem.Str.ofString "stem"),V.str (PySem.Str.ofString "\x73eal")])
  replace r6:=r6.same sk
  replace hn:=sk.get hn
  replace S:=S.trans sk
  refine⟨lk,_,rfl,.inl (A7.of Ae),rfl,rfl,_,rfl,AU (by decide +kernel) ?_⟩;exact⟨_,rfl,_,rfl,_,rfl,LU,λb nb=>q b _ (.sea one oth) (S.trans (Ai nb _)) l9 Ae⟩
 ·refine⟨_,rfl,rfl,_,rfl,Ay (by decide +kernel) ?_⟩;refine⟨_,rfl,Dt,λlk nk=>?_⟩;have sk:=Ai nk (.lst [V.str (PySem.Str.ofString "stem"),V.str (PySem.Str.ofString "\x73eal")])
  replace r6:=r6.same sk
  replace hn:=sk.get hn
  replace S:=S.trans sk
  refine⟨lk,_,rfl,.inl (A7.of Ae),rfl,rfl,_,rfl,Ay (by decide +kernel) ?_⟩;refine⟨_,rfl,Dt,λlk nk=>?_⟩;have sk:=Ai nk (.lst [V.str (PySem.Str.ofString "folder"),V.str (PySem.Str.ofString "remove")])
  replace r6:=r6.same sk
  replace hn:=sk.get hn
  replace S:=S.trans sk
  refine⟨lk,_,rfl,.inl (A7.of Ae),rfl,rfl,_,rfl,Ay (by decide +kernel) ?_⟩;refine⟨_,rfl,rfl,_,rfl,Ay (by decide +kernel) ?_⟩;refine⟨_,rfl,rfl,_,rfl,Ay (by decide +kernel) ?_⟩;refine⟨_,rfl,rfl,_,rfl,Ay (by decide +kernel) ?_⟩;refine⟨_,rfl,rfl,_,rfl,Ay (by decide +kernel) ?_⟩;refine⟨_,rfl,rfl,_,rfl,AU (by decide +kernel) ?_⟩;refine⟨_,rfl,_,rfl,_,rfl,_,rfl,_,rfl,r,nl,28,ns,rfl,r6,by decide,by decide,hn,λw0 hw0=>?_⟩;exact⟨Tj,λb nb=>q b _ (.grow one oth w0) (S.trans (Ai nb _)) l1 Ae⟩
 ·refine⟨_,rfl,rfl,_,rfl,Ay (by decide +kernel) ?_⟩;refine⟨_,rfl,Dt,λlk nk=>?_⟩;have sk:=Ai nk (.lst [V.str (PySem.Str.ofString "stem"),V.str (PySem.Str.ofString "\x73eal")])
  replace r6:=r6.same sk
  replace hn:=sk.get hn
  replace S:=S.trans sk
  refine⟨lk,_,rfl,.inl (A7.of Ae),rfl,rfl,_,rfl,Ay (by decide +kernel) ?_⟩;refine⟨_,rfl,Dt,λlk nk=>?_⟩;have sk:=Ai nk (.lst [V.str (PySem.Str.ofString "folder"),V.str (PySem.Str.ofString "remove")])
  replace r6:=r6.same sk
  replace hn:=sk.get hn
  replace S:=S.trans sk
  refine⟨lk,_,rfl,.inl (A7.of Ae),rfl,rfl,_,rfl,Ay (by decide +kernel) ?_⟩;refine⟨_,rfl,rfl,_,rfl,Ay (by decide +kernel) ?_⟩;refine⟨_,rfl,rfl,_,rfl,Ay (by decide +kernel) ?_⟩;refine⟨_,rfl,rfl,_,rfl,Ay (by decide +kernel) ?_⟩;refine⟨_,rfl,rfl,_,rfl,Ay (by decide +kernel) ?_⟩;refine⟨_,rfl,rfl,_,rfl,Ay (by decide +kernel) ?_⟩;exact⟨_,rfl,_,rfl,Dt,λb nb=>q b _ (.back one) (S.trans (Ai nb _)) trivial Ae⟩
 ·refine⟨_,rfl,rfl,_,rfl,Ay (by decide +kernel) ?_⟩;refine⟨_,rfl,Dt,λlk nk=>?_⟩;have sk:=Ai nk (.lst [V.str (PySem.Str.ofString "stem"),V.str (PySem.Str.ofString "\x73eal")])
  replace r6:=r6.same sk
  replace hn:=sk.get hn
  replace S:=S.trans sk
  refine⟨lk,_,rfl,.inl (A7.of Ae),rfl,rfl,_,rfl,Ay (by decide +kernel) ?_⟩;refine⟨_,rfl,Dt,λlk nk=>?_⟩;have sk:=Ai nk (.lst [V.str (PySem.Str.ofString "folder"),V.str (PySem.Str.ofString "remove")])
  replace r6:=r6.same sk
  replace hn:=sk.get hn
  replace S:=S.trans sk
  refine⟨lk,_,rfl,.inl (A7.of Ae),rfl,rfl,_,rfl,Ay (by decide +kernel) ?_⟩;refine⟨_,rfl,rfl,_,rfl,Ay (by decide +kernel) ?_⟩;refine⟨_,rfl,rfl,_,rfl,Ay (by decide +kernel) ?_⟩;refine⟨_,rfl,rfl,_,rfl,Ay (by decide +kernel) ?_⟩;refine⟨_,rfl,rfl,_,rfl,Ay (by decide +kernel) ?_⟩;refine⟨_,rfl,rfl,_,rfl,Ay (by decide +kernel) ?_⟩;exact⟨_,rfl,_,rfl,Dt,λb nb=>q b _ (.graft one) (S.trans (Ai nb _)) trivial Ae⟩
 ·refine⟨_,rfl,rfl,_,rfl,Ay (by decide +kernel) ?_⟩;refine⟨_,rfl,Dt,λlk nk=>?_⟩;have sk:=Ai nk (.lst [V.str (PySem.Str.ofString "stem"),V.str (PySem.Str.ofString "\x73eal")])
  replace r6:=r6.same sk
  replace hn:=sk.get hn
  replace S:=S.trans sk
  refine⟨lk,_,rfl,.inl (A7.of Ae),rfl,rfl,_,rfl,Ay (by decide +kernel) ?_⟩;refine⟨_,rfl,Dt,λlk nk=>?_⟩;have sk:=Ai nk (.lst [V.str (PySem.Str.ofString "folder"),V.str (PySem.Str.ofString "remove")])
  replace r6:=r6.same sk
  replace hn:=sk.get hn
  replace S:=S.trans sk
  refine⟨lk,_,rfl,.inl (A7.of Ae),rfl,rfl,_,rfl,Ay (by decide +kernel) ?_⟩;refine⟨_,rfl,rfl,_,rfl,Ay (by decide +kernel) ?_⟩;refine⟨_,rfl,rfl,_,rfl,Ay (by decide +kernel) ?_⟩;refine⟨_,rfl,rfl,_,rfl,Ay (by decide +kernel) ?_⟩;refine⟨_,rfl,rfl,_,rfl,Ay (by decide +kernel) ?_⟩;refine⟨_,rfl,rfl,_,rfl,Ay (by decide +kernel) ?_⟩;exact⟨_,rfl,_,rfl,Dt,λb nb=>q b _ (.drop one) (S.trans (Ai nb _)) trivial Ae⟩
end
abbrev nA:Str:=PySem.Str.ofString "a"
abbrev P4:Str:=PySem.Str.ofString "ab"
abbrev nB:Str:=PySem.Str.ofString "b"
abbrev Zx:Str:=PySem.Str.ofString "bb"
abbrev nC:Str:=PySem.Str.ofString "c"
abbrev SS:Str:=PySem.Str.ofString "some signs"
def T1:Bt:=[([nC],some SS)]
def L4:List En:=[.st P4 nA EM T1,.st nB nA EM []]
def L5:List En:=[.st P4 nA EM T1,.st nB nA EM [],.sl Zx P4 5 T1]
theorem Uk {ks:List Str}{es:List En}{nm:Str}{b:Int}{r:Option Rf}(h:Ref ks es (.keeper nm b) r)(hn:C6 (.str nm)=true)(hk:ks.length<8):r=none:=by
 cases h;rw[aI hn,aI (.inr hk)]
theorem Sf {ks:List Str}{es:List En}{nm kp:Str}{r:Option Rf}(h:Ref ks es (.stem nm kp) r)(hn:C6 (.str nm)=true)(h1:nm∉es.map En.nm)(h2:kp∈ks)(h3:es.length<24):r=none:=by
 cases h;unfold Gs FC;rw[aI hn,aF h1];show(if kp∈ks then(if(es.map En.nm).length<24 then none else some Rf.many) else some (.noName kp))=none;rw[aI h2,aI (by rw[ax];exact h3)]
theorem Ym {ks:List Str}{es:List En}{sm nm:Str}{r:Option Rf}(h:Ref ks es (.sea sm nm) r)(hs:CH sm es)(hn:C6 (.str nm)=true)(h1:nm∉es.map En.nm)(h3:es.length<24):r=none:=by
 cases h with
 |sea0 _ _ x=>exact absurd hs x
 |sea1=>
  unfold FC;rw[aI hn,aF h1];show(if(es.map En.nm).length<24 then none else some Rf.many)=none;rw[aI (by rw[ax];exact h3)]
theorem Wx {ks:List Str}{es:List En}{sm k o:Str}{t t':Bt}{f:Bt->Bt->Rf ⊕ Bt}{r:Option Rf}(h:Ref ks es (.tree sm none f) r)(nd:(es.map En.nm).Nodup)(m:En.st sm k o t∈es)(e:f t []=.inr t')(b:BOk t'):r=none:=Ref.one nd h (.tree4 sm none f k o t [] t' m rfl e b)
theorem YN:([En.st P4 nA EM []]++[En.st nB nA EM []]).map (wr P4 T1)=L4:=by
 show[(if P4=P4 then En.st P4 nA EM T1 else En.st P4 nA EM []),(if nB=P4 then En.st nB nA EM T1 else En.st nB nA EM [])]=L4;rw[aI rfl,aF (by decide +kernel)];rfl
theorem Ya:BOk T1:=⟨by decide,(λp hp=>by rw[aG.mp hp];decide +kernel),(λp hp=>by rw[aG.mp hp];decide),λp hp c e=>by rw[aG.mp hp] at e;cases e;decide +kernel⟩
theorem Xn:Fv [nC] SS [] []=.inr T1:=by
 unfold Fv;rw[aI ⟨by simp,rfl⟩,aF (by decide +kernel)];rfl
section
variable {P:Program}{w:World}{K:W.Frag}{mg:Str->Option Value}{base:Heap}{f C:Addr}{XC:Nat->Addr}{fd:FuncData}{PT PU:Addr}
theorem SR {ag ag2:Int}{qs1 qs2:List Kq}{ps1 ps2:List Pe}(h1:HI ag qs1 ps1)(h2:HI ag2 qs2 ps2)(p:(ps1.map (·.e)).Perm (ps2.map (·.e))):ps1.map (·.e)=ps2.map (·.e):=
 Ma (key:=En.nm) p (bJ.mpr h1.rp) (bJ.mpr h2.rp)
theorem Sw {ag ag2:Int}{qs1 qs2:List Kq}{ps1 ps2:List Pe}(h1:HI ag qs1 ps1)(h2:HI ag2 qs2 ps2)(p:∀z,z∈qs1.map CT↔z∈qs2.map CT):qs1.map CT=qs2.map CT:=by
 have a1:(qs1.map CT).Pairwise NH:=bJ.mpr h1.rk;have a2:(qs2.map CT).Pairwise NH:=bJ.mpr h2.rk;exact Ma (key:=λz:Str=>z) ((List.perm_ext_iff_of_nodup h1.rk.nd h2.rk.nd).mpr p) a1 a2
def Z9:Rf->List Tr
 | .many=>[]
 | .noName z | .twice z | .bare z | .grown z | .noPath z=>[.str z]
def toT:Option Rf->Tr
 |none=>.str (PySem.Str.ofString "ok")
 |some r=>.lst (([0,5,1,2,3,4,7].map λj:Nat=>Tr.bl (decide (j=r.no)))++Z9 r)
theorem Kp {H:Hp}{rr:Option Rf}{v:V}(h:Ob H rr v):Rep (λ_=>True) H (toT rr) v:=by
 cases rr with
 |none=>exact h
 |some r=>
  obtain⟨l,rfl,hl⟩:=h;refine⟨l,_,rfl,trivial,hl,?_⟩;cases r<;>exact⟨_,_,rfl,rfl,_,_,rfl,rfl,_,_,rfl,rfl,_,_,rfl,rfl,_,_,rfl,rfl,_,_,rfl,rfl,_,_,rfl,rfl,by first|rfl|exact⟨_,_,rfl,rfl,rfl⟩⟩
theorem Qd (rr:Option Rf):(toT rr).dep<=100:=by
 cases rr with
 |none=>decide
 |some r=>cases r<;>(simp[toT,Z9,Tr.dep,Tr.deps])
theorem MO {H:Hp}{rr:Option Rf}{v:V}(h:Ob H rr v){Q:VK}(q:Q (.bl false) H):W5 v (.str (PySem.Str.ofString "other")) H Q:=by
 cases rr with
 |none=>exact⟨_,rfl,.inl ⟨_,h,by rw[show(PySem.Str.ofString "ok" == PySem.Str.ofString "other")=false by decide +kernel];exact q⟩⟩
 |some r=>
  obtain⟨l,rfl,hl⟩:=h;exact⟨_,rfl,.inr ⟨l,_,rfl,hl,q⟩⟩
theorem OH {H H':Hp}(k:∀b xs,H b=some (.lst xs)->H' b=some (.lst xs)){rr:Option Rf}{v:V}(h:Ob H rr v):Ob H' rr v:=by
 cases rr with
 |none=>exact h
 |some r=>
  obtain⟨l,e,hl⟩:=h;exact⟨l,e,k _ _ hl⟩
theorem Xd {ps1 ps2:List Pe}(e:ps1.map (·.e)=ps2.map (·.e))(nm:Str):Q3 ps1 nm=Q3 ps2 nm:=by
 have key:∀ps:List Pe,(HN nm ps).map (·.e)=(ps.map (·.e)).find? λe=>decide (e.nm=nm):=λps=>by
  unfold HN;rw[fM];rfl
 have h:=(key ps1).trans ((congrArg _ e).trans (key ps2).symm);unfold Q3;generalize HN nm ps1=o1 at h ⊢;generalize HN nm ps2=o2 at h ⊢;cases o1 with
 |none=>cases o2 with
  |none=>rfl
  |some p2=>cases h
 |some p1=>cases o2 with
  |none=>cases h
  |some p2=>
   have h:p1.e=p2.e:=br h;dsimp only;rw[h]
theorem UK (ps:List Pe):(Tr.lst (NM.map (Q3 ps))).dep<=100:=by
 have one:∀nm,(Q3 ps nm).dep<=10:=λnm=>by
  unfold Q3;cases HN nm ps with
  |none=>decide
  |some p=>
   have h1:Tr.deps ((NP p.e.tr).map (Xr p.e.tr))<=5:=Kn λP _=>by simp[Xr,Tr.dep,Tr.deps]
   have h2:Tr.deps (((NP p.e.tr).filter λP=>(kT p.e.tr P).isSome).map (ZG p.e.tr))<=5:=Kn λP _=>by simp[ZG,Tr.dep]
   show 1+max (1+_) (max (1+_) 0)<=10;omega
 have:=Kn (f:=Q3 ps) (m:=10) (xs:=NM) λx _=>one x
 show 1+_<=100;omega
theorem Y6 {d:De}{ks k1 k2:List Str}(h1:Qw d ks k1)(h2:Qw d ks k2)(z:Str):z∈k1↔z∈k2:=by
 cases d with
 |keeper nm b=>exact((show z∈k1↔z=nm\/z∈ks from h1 z).trans (show z∈k2↔z=nm\/z∈ks from h2 z).symm)
 |_=>rw[show k1=ks from h1,show k2=ks from h2]
theorem HI.tr {ag:Int}{qs:List Kq}{ps:List Pe}(h:HI ag qs ps):∀p∈ps,TrOk p.e.tr:=λp hp=>h.wl.tr _ (aA.mpr ⟨p,hp,rfl⟩)
def Uv (C:Addr)(H:Hp)(x:Addr):Prop:=∃qs ps,Hs C H x 5 qs ps/\HI 5 qs ps/\(ps.map (·.e)).Perm L5/\∀z,z∈qs.map CT↔z=nA
theorem Hs.other {x y:Addr}{H H':Hp}{ag:Int}{qs:List Kq}{ps:List Pe}(h:Hs C H y ag qs ps)(k:KH x H H')(n:y≠x):Hs C H' y ag qs ps:=by
 obtain⟨dx,hh,kk,nn,hx,hd⟩:=h.at_;exact⟨dx,hh,kk,nn,k.keep _ _ n (λ_ z=>by cases z) hx,hd.sd k.sd⟩
theorem Uv.other {x y:Addr}{H H':Hp}(h:Uv C H y)(k:KH x H H')(n:y≠x):Uv C H' y:=by
 obtain⟨qs,ps,h1,h2⟩:=h;exact⟨qs,ps,h1.other k n,h2⟩
theorem KH.seq {x a:Addr}{H H':Hp}{xs:List V}(k:KH x H H')(h:A7 K H a xs):A7 K H' a xs:=by
 rcases h with h|h
 ·left;rcases h with h|⟨o,h⟩
  ·exact .inl (k.lst h)
  ·exact .inr ⟨o,k.get h (λ_ _ _ z=>by cases z) λ_ z=>by cases z⟩
 ·exact .inr h
def OS (K:W.Frag)(PT PU:Addr):Sp:=λvs H Q _=>∃(a:Addr) (ns:List Int),vs=[.ref a]/\A7 K H a (ns.map V.int)/\ns.length<=63/\DS PT LQ LP H/\DS PU MQ MP H/\PT≠PU/\∀H',Q (.bl true) H'
theorem Yb (T:Txt K mg C XC)(F:Fun K "law" "law" Kk f fd)(Dr:Yw P w K mg base 1 C "PlainHouse" ["self"] (D3 K C))(A5:AL P w K mg base 4 C "keeper" ["self","name","bound"] (BO K C XC PT PU))(A6:AL P w K mg base 6 C "stem" ["self","name","keeper"] (Co K C XC PT PU))(AR:AL P w K mg base 6 C "write" ["self","stem","path","content"] (BE K C XC PT PU))(Bc:AL P w K mg base 6 C "seal" ["self","stem","name"] (Cn K C XC PT PU))(IB:Def P w K mg base 2 "_law_deed" ["_law_cell","_law_names"] (GW K))(Gz:Def P w K mg base 9 "_law_told" ["_law_house","_law_deed_here","_law_by_done"] (Hr K C PT PU))(E7:Def P w K mg base 6 "_law_stands" ["_law_house","_law_names"] (FU K C)):FnOk P w K mg base FL 10 f fd ["_law_script"] (OS K PT PU):=by
 exists Iw
 ·obtain⟨a,ns,rfl,_⟩:=h;rfl
 obtain⟨a,ns,rfl,hS,few,tbp,tbu,ne,q⟩:=h;have hu:=Gw hr;have hu9:=RV hr;refine⟨_,(!Ah (@AK _ _ (1) _ _ _ _ Iw.nd rfl (by trivial) (!B7 (!Aa (!Az) (!Aa (!Az) (!Aa (!Az) (!Aa (!Az) (!Aa (!Az) (!Aa (!Az) (!Ab)))))))) (by rfl) (by trivial)) (!Ah (@AK _ _ (2) _ _ _ _ Iw.nd rfl (by trivial) (!B7 (!Aa (Sx Dr (by trivial) rfl) (!Aa (Sx Dr (by trivial) rfl) (!Ab)))) (by rfl) (by trivial)) (!Ah (!HA cz rfl (!DV (pv 2)) (@Be _ _ (3) _ Iw.nd rfl (by trivial) (by trivial)) (!Ah (!AA (!AH (pv 3) T.cl A5 (by trivial) G1 (!Aa (!Az) (!Aa (!Ag) (!Ab))))) (!Ah (!AA (!AH (pv 3) T.cl A6 (by trivial) G1 (!Aa (!Az) (!Aa (!Az) (!Ab))))) (!Ah (!AA (!AH (pv 3) T.cl A6 (by trivial) G1 (!Aa (!Az) (!Aa (!Az) (!Ab))))) (!Ah (!AA (!AH (pv 3) T.cl AR (by trivial) G1 (!Aa (!Az) (!Aa (!Az) (!Aa (!Az) (!Ab)))))) (!Ad (!AA (!AH (pv 3) T.cl Bc (by trivial) G1 (!Aa (!Az) (!Aa (!Az) (!Ab)))))))))) (by intro _;rfl)) (!Ah (!HA cz rfl (!DV (!Fk PN (pv 0) (!G6) (!FG (!Ag)))) (@Be _ _ (4) _ Iw.nd rfl (by trivial) (by trivial)) (!Ah (@AK _ _ (5) _ _ _ _ Iw.nd rfl (by trivial) (!AW IB (by trivial) rfl (!Aa (pv 4) (!Aa (pv 1) (!Ab)))) (by rfl) (by trivial)) (!Ah (@AK _ _ (6) _ _ _ _ Iw.nd rfl (by trivial) (!AW Gz (by trivial) rfl (!Aa (!Ao Bx (pv 2) (!Ag) (λ_ _=>rfl)) (!Aa (pv 5) (!Aa (!QZ) (!Ab))))) (by rfl) (by trivial)) (!Ah (@AK _ _ (7) _ _ _ _ Iw.nd rfl (by trivial) (!AW Gz (by trivial) rfl (!Aa (!Ao Bx (pv 2) (!Ag) (λ_ _=>rfl)) (!Aa (pv 5) (!Aa (!QZ) (!Ab))))) (by rfl) (by trivial)) (!Ad (!AV (@PW.pt _ _ _ (!LJ (!AD (WC hu9) (pv 6) (!Az) (AI _)) (!LJ (!AD (U9 hu9) (pv 6) (pv 7) (AI _)) (!Jn (!AD (U9 hu9) (!AW E7 (by trivial) rfl (!Aa (!Ao Bx (pv 2) (!Ag) (λ_ _=>rfl)) (!Aa (pv 1) (!Ab)))) (!AW E7 (by trivial) rfl (!Aa (!Ao Bx (pv 2) (!Ag) (λ_ _=>rfl)) (!Aa (pv 1) (!Ab)))) (AI _)))))) (!Ad (!AG (!QZ))) (!AO)))))) (by intro _;rfl)) (!Ad (!AG (!QZ))))))),?_⟩
 try dsimp only[A4,Cx.nox,Cx.wish]
 refine⟨XU,λnl nnl=>?_⟩;have s1:=Ai nnl (.lst (NM.map V.str));have h1:(upd H nl (.lst (NM.map V.str))) nl=some (.lst (NM.map V.str)):=Ae
 change CG 1 _ _ (upd H nl (.lst (NM.map V.str))) _
 generalize upd H nl (.lst (NM.map V.str))=H1 at s1 h1;dsimp only[CG];have tb1:Tb PT PU H1:=(⟨ne,tbp,tbu⟩:Tb PT PU H).same s1;refine λx1 dx1 nx1 ndx1 nd1=>⟨x1,dx1,rfl,Ae,λH2 k2 hs2=>⟨rfl,?_⟩⟩
 have s2:AJ H1 H2:=λb o e=>by
  have n1:b≠x1:=λz=>by rw[z,nx1] at e;cases e
  have n2:b≠dx1:=λz=>by rw[z,ndx1] at e;cases e
  exact k2.keep b o n1 (by rw[Ax n1,Ax n2];exact e)
 refine λx2 dx2 nx2 ndx2 nd2=>⟨x2,dx2,rfl,Ae,λH3 k3 hs3=>⟨rfl,?_⟩⟩
 have s3:AJ H2 H3:=λb o e=>by
  have n1:b≠x2:=λz=>by rw[z,nx2] at e;cases e
  have n2:b≠dx2:=λz=>by rw[z,ndx2] at e;cases e
  exact k3.keep b o n1 (by rw[Ax n1,Ax n2];exact e)
 have n12:x1≠x2:=λz=>by
  obtain⟨_,_,_,e⟩:=hs2.ins;rw[z,nx2] at e;cases e
 refine⟨Dt,λhl nhl=>?_⟩;have s4:=Ai nhl (.lst [V.ref x1,V.ref x2]);have h4:(upd H3 hl (.lst [V.ref x1,V.ref x2])) hl=some (.lst [V.ref x1,V.ref x2]):=Ae;generalize upd H3 hl (.lst [V.ref x1,V.ref x2])=H4 at s4 h4;have f1:=(hs2.st (AC s3)).st (AC s4);have f2:=hs3.st (AC s4);have s14:=(s2.trans s3).trans s4;have tb4:=tb1.same s14;have hn4:=s14.get h1;have hS4:=(s1.trans s14).seq hS;have hi0:HI 0 [] []:=⟨List.Pairwise.nil,List.Pairwise.nil,by decide,⟨dc,(λ_ _ _ _ h=>nomatch h),(λ_ _ _ _ h=>nomatch h),(λ_ _ _ _ _ _ _ h=>nomatch h),(λ_ h=>nomatch h),(λ_ h=>nomatch h),by decide⟩⟩
 dsimp only[CG];refine⟨_,rfl,hl,rfl,⟨_,A7.of h4⟩,HV (K:=K) (a:=hl) (xs:=[V.ref x1,V.ref x2]) (λi σ Hi=>∃v3:Option V,σ=[some (.ref a),some (.ref nl),some (.ref hl),v3,none,none,none,none]/\A7 K Hi a (ns.map V.int)/\Hi nl=some (.lst (NM.map V.str))/\Hi hl=some (.lst [V.ref x1,V.ref x2])/\Tb PT PU Hi/\(if 0<i then Uv C Hi x1 else Hs C Hi x1 0 [] [])/\(if 1<i then Uv C Hi x2 else Hs C Hi x2 0 [] []))
  ⟨none,rfl,hS4,hn4,h4,tb4,f1,f2⟩ (by rintro i σ Hi _ ⟨_,_,_,_,h,_⟩;exact A7.of h) ?_ ?_⟩
 ·rintro i y σ Hi ei ⟨v3,rfl,hSi,hni,hhi,tbi,r1,r2⟩
  obtain⟨x,rfl,hx0,cont⟩:∃x,y=.ref x/\Hs C Hi x 0 [] []/\∀H',KH x Hi H'->Tb PT PU H'->Uv C H' x->∃v3:Option V,[some (V.ref a),some (.ref nl),some (.ref hl),some (.ref x),none,none,none,none]=[some (.ref a),some (.ref nl),some (.ref hl),v3,none,none,none,none]/\A7 K H' a (ns.map V.int)/\H' nl=some (.lst (NM.map V.str))/\H' hl=some (.lst [V.ref x1,V.ref x2])/\Tb PT PU H'/\(if 0<i+1 then Uv C H' x1 else Hs C H' x1 0 [] [])/\(if 1<i+1 then Uv C H' x2 else Hs C H' x2 0 [] []):=by
   have keepx:∀{x:Addr} {H':Hp},KH x Hi H'->A7 K H' a (ns.map V.int)/\H' nl=some (.lst (NM.map V.str))/\H' hl=some (.lst [V.ref x1,V.ref x2]):=λk=>⟨k.seq hSi,k.lst hni,k.lst hhi⟩
   rcases i with _|_|i
   ·cases ei;exact⟨x1,rfl,r1,λH' k t r=>⟨_,rfl,(keepx k).1,(keepx k).2.1,(keepx k).2.2,t,r,Hs.other (show Hs C Hi x2 0 [] [] from r2) k (Ne.symm n12)⟩⟩
   ·cases ei;exact⟨x2,rfl,r2,λH' k t r=>⟨_,rfl,(keepx k).1,(keepx k).2.1,(keepx k).2.2,t,Uv.other (show Uv C Hi x1 from r1) k n12,r⟩⟩
   ·cases ei
  dsimp only[CG];have ca:C6 (.str nA)=true:=by decide +kernel
  have cab:C6 (.str P4)=true:=by decide +kernel
  have cb:C6 (.str nB)=true:=by decide +kernel
  have cbb:C6 (.str Zx)=true:=by decide +kernel
  obtain⟨dx,h,k,n,hx,hd⟩:=hx0.at_;refine⟨_,rfl,x,dx,_,rfl,hx,rfl,x,nA,9,rfl,by decide +kernel,0,[],[],hx0,hi0,trivial,tbi,(λr hr=>by have:=Uk hr ca (by decide);cases this),λrf qs1 ps1 Ha ka ta ha ia st1 ks1 _=>?_⟩;cases st1 with
  |keeper _ _ p1=>
  have e1:ps1.map (·.e)=[]:=List.perm_nil.mp p1;have k1:∀z,z∈qs1.map CT↔z=nA:=λz=>(ks1 z).trans ⟨λy=>y.resolve_right λy=>(nomatch y),.inl⟩
  have mA:nA∈qs1.map CT:=(k1 _).mpr rfl;obtain⟨dx,h,k,n,hx,hd⟩:=ha.at_;refine⟨_,rfl,x,dx,_,rfl,hx,rfl,x,P4,nA,rfl,by decide +kernel,0+1,qs1,ps1,ha,ia,trivial,ta,(λr hr=>by have:=Sf hr cab (by rw[e1];exact(nomatch ·)) mA (by rw[e1];decide);cases this),λrf qs2 ps2 Hb kb tb' hb ib st2 ks2 _=>?_⟩;cases st2 with
  |stem _ _ p2=>
  rw[e1] at p2;have e2:ps2.map (·.e)=[.st P4 nA EM []]:=List.perm_singleton.mp p2;have k2:qs2.map CT=qs1.map CT:=ks2;obtain⟨dx,h,k,n,hx,hd⟩:=hb.at_;refine⟨_,rfl,x,dx,_,rfl,hx,rfl,x,nB,nA,rfl,by decide +kernel,0+1+1,qs2,ps2,hb,ib,trivial,tb',(λr hr=>by have:=Sf hr cb (by rw[e2];decide +kernel) (by rw[k2];exact mA) (by rw[e2];decide);cases this),λrf qs3 ps3 Hc kc tc hc ic st3 ks3 _=>?_⟩;cases st3 with
  |stem _ _ p3=>
  rw[e2] at p3;have k3:qs3.map CT=qs2.map CT:=ks3;have m3:En.st P4 nA EM []∈ps3.map (·.e):=p3.mem_iff.mpr aK;obtain⟨dx,h,k,n,hx,hd⟩:=hc.at_;refine⟨_,rfl,x,dx,_,rfl,hx,rfl,x,P4,SS,[nC],rfl,(λz hz=>by rw[aG.mp hz];decide +kernel),by decide,by decide +kernel,0+1+1+1,qs3,ps3,hc,ic,(λt ts t' ht _ e=>HQ (λz hz=>by rw[aG.mp hz];decide +kernel) (by decide) ht e),tc,(λr hr=>by have:=Wx hr ic.wl.nd m3 Xn Ya;cases this),λrf qs4 ps4 Hd kd td hd' id' st4 ks4 _=>?_⟩;cases st4 with
  |tree _ _ _ k9 o9 t9 ts9 t' m9 s9 e9 p4=>
  obtain⟨_,_,rfl⟩:=CD ic.wl.nd m3 m9;have s9:ts9=[]:=s9;subst s9;rw[Xn] at e9;cases e9;have k4:qs4.map CT=qs3.map CT:=ks4;have p4:(ps4.map (·.e)).Perm L4:=p4.trans ((p3.map _).trans (.of_eq YN));have m4:En.st P4 nA EM T1∈ps4.map (·.e):=p4.mem_iff.mpr aK;have n4:(ps4.map (·.e)).map En.nm=[P4,nB]\/True:=.inr trivial;obtain⟨dx,h,k,n,hx,hd⟩:=hd'.at_;refine⟨_,rfl,x,dx,_,rfl,hx,rfl,x,P4,Zx,rfl,by decide +kernel,0+1+1+1+1,qs4,ps4,hd',id',trivial,td,(λr hr=>by have:=Ym hr ⟨_,_,_,m4⟩ cbb (λz=>absurd ((p4.map En.nm).mem_iff.mp z) (by decide +kernel)) (by rw[p4.length_eq];decide);cases this),λrf qs5 ps5 He ke te he ie st5 ks5 _=>?_⟩;cases st5 with
  |sea _ _ k9 o9 t9 m9 p5=>
  obtain⟨_,_,rfl⟩:=CD id'.wl.nd m4 m9;have k5:qs5.map CT=qs4.map CT:=ks5;exact cont He ((((ka.trans kb).trans kc).trans kd).trans ke) te ⟨qs5,ps5,he,ie,p5.trans (p4.append_right _),λz=>by rw[k5,k4,k3,k2];exact k1 z⟩
 ·rintro σ Hi ⟨v3,rfl,hSi,hni,hhi,tbi,r1,r2⟩
  have r1:Uv C Hi x1:=r1;have r2:Uv C Hi x2:=r2;obtain⟨qs1,ps1,hs1,hi1,p1,k1⟩:=r1;obtain⟨qs2,ps2,hs2,hi2,p2,k2⟩:=r2;have ep:=SR hi1 hi2 (p1.trans p2.symm);have ek:=Sw hi1 hi2 λz=>(k1 z).trans (k2 z).symm
  obtain⟨ms,em,lm,_⟩:=Vm ns none (some 24);refine⟨_,rfl,24,rfl,a,_,rfl,hSi,λpd npd=>?_⟩;rw[em];have sd:=Ai npd (.lst (ms.map V.int));have hd:(upd Hi pd (.lst (ms.map V.int))) pd=some (.lst (ms.map V.int)):=Ae;generalize upd Hi pd (.lst (ms.map V.int))=Hd at sd hd;refine⟨pd,rfl,⟨_,A7.of hd⟩,HV (K:=K) (a:=pd) (xs:=ms.map V.int) (λi σ Hj=>∃(v3 v4 v5 v6 v7:Option V) (ag:Int) (qs1 qs2:List Kq) (ps1 ps2:List Pe),σ=[some (.ref a),some (.ref nl),some (.ref hl),v3,v4,v5,v6,v7]/\Hj pd=some (.lst (ms.map V.int))/\Hj nl=some (.lst (NM.map V.str))/\Hj hl=some (.lst [V.ref x1,V.ref x2])/\Tb PT PU Hj/\Hs C Hj x1 ag qs1 ps1/\HI ag qs1 ps1/\Hs C Hj x2 ag qs2 ps2/\HI ag qs2 ps2/\ps1.map (·.e)=ps2.map (·.e)/\qs1.map CT=qs2.map CT)
   ⟨v3,none,none,none,none,5,qs1,qs2,ps1,ps2,rfl,hd,sd.get hni,sd.get hhi,tbi.same sd,hs1.st (AC sd),hi1,hs2.st (AC sd),hi2,ep,ek⟩ (by rintro i σ Hj _ ⟨_,_,_,_,_,_,_,_,_,_,_,h,_⟩;exact A7.of h) ?_ (λσ Hj _=>q Hj)⟩
  clear hi1 hi2 hs1 hs2 ep ek p1 p2 k1 k2 hni hhi tbi hSi r1 r2 sd hd npd
  rintro i y σ Hj ei ⟨v3,v4,v5,v6,v7,ag,qs1,qs2,ps1,ps2,rfl,hpd,hni,hhi,tb,hs1,hi1,hs2,hi2,ep,ek⟩
  rw[aQ] at ei;obtain⟨c,ec,rfl⟩:=bB.mp ei;dsimp only[CG];refine⟨_,rfl,_,rfl,c,nl,rfl,hni,λb Ha d sa sz hb=>?_⟩;have st1:=hs1.st (AC sa);have st2:=hs2.st (AC sa);dsimp only[CG];refine⟨_,rfl,hl,_,_,_,rfl,rfl,A7.of (sa.get hhi),Af (j:=0) rfl,_,rfl,x1,b,true,d,ag,qs1,ps1,rfl,hb,sz,st1,hi1,tb.same sa,λr rf w1 Hb Sb Tb' tv1=>?_,λrf qs1' ps1' w1 Hb kb Tb' hs1' hi1' stp1 ks1 _ tv1=>?_⟩
  ·dsimp only[CG];refine⟨_,rfl,hl,_,_,_,rfl,rfl,A7.of (Sb.keep _ _ (λ_ z=>by cases z) (sa.get hhi)),Af (j:=1) rfl,_,rfl,x2,b,false,d,ag,qs2,ps2,rfl,Sb.keep _ _ (λ_ z=>by cases z) hb,sz,st2.st Sb,hi2,Tb',λr2 rf2 w2 Hc Sc Tc tw2=>?_,λrf2 _ _ _ _ _ _ _ _ _ _ _ _=>?_⟩
   ·rw[ep,ek] at rf;cases Ref.one hi2.wl.nd rf rf2;have Sac:=Sb.trans Sc;have tw1:=OH (λb xs e=>Sc.keep _ _ (λ_ z=>by cases z) e) tv1;have hhc:=Sac.keep _ _ (λ_ z=>by cases z) (sa.get hhi);have hnc:=Sac.keep _ _ (λ_ z=>by cases z) (sa.get hni);have hpc:=Sac.keep _ _ (λ_ z=>by cases z) (sa.get hpd);have h1c:=st1.st Sac;have h2c:=st2.st Sac;have hi1c:=hi1;have hi2c:=hi2;have tbc:=Tc;have epc:=ep;have ekc:=ek;dsimp only[CG];refine⟨_,rfl,?_⟩;dsimp only[tC];refine MO tw1 ?_;refine⟨_,rfl,Ay rfl ?_⟩;refine⟨_,rfl,_,rfl,toT (some r),(λ_=>True),(λ_=>True),Qd _,Kp tw1,Kp tw2,_,rfl,Ay rfl ?_⟩;refine⟨_,rfl,hl,_,_,_,rfl,rfl,A7.of hhc,Af (j:=0) rfl,_,rfl,x1,nl,NM,ag,qs1,ps1,rfl,hnc,by decide,h1c,hi1c.tr,λv1 H1' s1' rep1=>?_⟩;refine⟨_,rfl,hl,_,_,_,rfl,rfl,A7.of (s1'.get hhc),Af (j:=1) rfl,_,rfl,x2,nl,NM,ag,qs2,ps2,rfl,s1'.get hnc,by decide,h2c.st (AC s1'),hi2c.tr,λv2 H2' s2' rep2=>?_⟩;refine⟨.lst (NM.map (Q3 ps1)),(λ_=>True),(λ_=>True),UK _,ME (λc o e _=>s2' c o e) _ _ rep1,?_,_,rfl,Ay rfl ?_⟩
    ·rw[show NM.map (Q3 ps1)=NM.map (Q3 ps2) from aZ λz _=>Xd epc z];exact rep2
    have sx:=s1'.trans s2';exact⟨_,_,_,_,_,ag,qs1,qs2,ps1,ps2,rfl,sx.get hpc,sx.get hnc,sx.get hhc,tbc.same sx,h1c.st (AC sx),hi1c,h2c.st (AC sx),hi2c,epc,ekc⟩
   ·rw[ep,ek] at rf;cases Ref.one hi2.wl.nd rf rf2
  ·dsimp only[CG];refine⟨_,rfl,hl,_,_,_,rfl,rfl,A7.of (kb.lst (sa.get hhi)),Af (j:=1) rfl,_,rfl,x2,b,false,d,ag,qs2,ps2,rfl,kb.tup hb,sz,st2.other kb (Ne.symm n12),hi2,Tb',λr2 rf2 _ _ _ _ _=>?_,λrf2 qs2' ps2' w2 Hc kc Tc hs2' hi2' stp2 ks2 _ tw2=>?_⟩
   ·rw[ep,ek] at rf;cases Ref.one hi2.wl.nd rf rf2
   ·have tw1:=OH (λb xs e=>kc.lst e) tv1;have hhc:=kc.lst (kb.lst (sa.get hhi));have hnc:=kc.lst (kb.lst (sa.get hni));have hpc:=kc.lst (kb.lst (sa.get hpd));have h1c:=hs1'.other kc n12;have h2c:=hs2';have hi1c:=hi1';have hi2c:=hi2';have tbc:=Tc;rw[ep] at stp1;rw[ek] at ks1;have epc:=SR hi1' hi2' (Step.one hi2.wl.nd hi2.wl.tn stp1 stp2);have ekc:=Sw hi1' hi2' (Y6 ks1 ks2);dsimp only[CG];refine⟨_,rfl,?_⟩;dsimp only[tC];refine MO tw1 ?_;refine⟨_,rfl,Ay rfl ?_⟩;refine⟨_,rfl,_,rfl,toT (none),(λ_=>True),(λ_=>True),Qd _,Kp tw1,Kp tw2,_,rfl,Ay rfl ?_⟩;refine⟨_,rfl,hl,_,_,_,rfl,rfl,A7.of hhc,Af (j:=0) rfl,_,rfl,x1,nl,NM,(ag+1),qs1',ps1',rfl,hnc,by decide,h1c,hi1c.tr,λv1 H1' s1' rep1=>?_⟩;refine⟨_,rfl,hl,_,_,_,rfl,rfl,A7.of (s1'.get hhc),Af (j:=1) rfl,_,rfl,x2,nl,NM,(ag+1),qs2',ps2',rfl,s1'.get hnc,by decide,h2c.st (AC s1'),hi2c.tr,λv2 H2' s2' rep2=>?_⟩;refine⟨.lst (NM.map (Q3 ps1')),(λ_=>True),(λ_=>True),UK _,ME (λc o e _=>s2' c o e) _ _ rep1,?_,_,rfl,Ay rfl ?_⟩
    ·rw[show NM.map (Q3 ps1')=NM.map (Q3 ps2') from aZ λz _=>Xd epc z];exact rep2
    have sx:=s1'.trans s2';exact⟨_,_,_,_,_,(ag+1),qs1',qs2',ps1',ps2',rfl,sx.get hpc,sx.get hnc,sx.get hhc,tbc.same sx,h1c.st (AC sx),hi1c,h2c.st (AC sx),hi2c,epc,ekc⟩
end
theorem ah {us:List Value}(h:us.length=0):us=[]:=by
 cases us with
 |nil=>rfl
 |cons _ _=>cases h
theorem V2 {us:List Value}(h:us.length=1):∃x0,us=[x0]:=by
 cases us with
 |nil=>cases h
 |cons a us=>
  cases ah (cZ h);exact⟨_,rfl⟩
theorem ln2 {us:List Value}(h:us.length=2):∃x0 x1,us=[x0,x1]:=by
 cases us with
 |nil=>cases h
 |cons a us=>
  obtain⟨_,rfl⟩:=V2 (cZ h);exact⟨_,_,rfl⟩
theorem P5 {us:List Value}(h:us.length=3):∃x0 x1 x2,us=[x0,x1,x2]:=by
 cases us with
 |nil=>cases h
 |cons a us=>
  obtain⟨_,_,rfl⟩:=ln2 (cZ h);exact⟨_,_,_,rfl⟩
theorem YD {us:List Value}(h:us.length=4):∃x0 x1 x2 x3,us=[x0,x1,x2,x3]:=by
 cases us with
 |nil=>cases h
 |cons a us=>
  obtain⟨_,_,_,rfl⟩:=P5 (cZ h);exact⟨_,_,_,_,rfl⟩
theorem Z5 {us:List Value}(h:us.length=5):∃x0 x1 x2 x3 x4,us=[x0,x1,x2,x3,x4]:=by
 cases us with
 |nil=>cases h
 |cons a us=>
  obtain⟨_,_,_,_,rfl⟩:=YD (cZ h);exact⟨_,_,_,_,_,rfl⟩
theorem ar {us:List Value}(h:us.length=6):∃x0 x1 x2 x3 x4 x5,us=[x0,x1,x2,x3,x4,x5]:=by
 cases us with
 |nil=>cases h
 |cons a us=>
  obtain⟨_,_,_,_,_,rfl⟩:=Z5 (cZ h);exact⟨_,_,_,_,_,_,rfl⟩
theorem all_mk {l:W.OpenLaw} {w:World} {K:W.Frag} {h:Heap} {mg:Str->Option Value} {fa:Addr} (X:K.In h) (G:h.Ns mainGlobals mg) (hfa:mg "law"=some (.ref fa))
  {PT:Addr} {PU:Addr}
  {f0:Addr} {od0 an0:Option Addr} {sl0:Array (Option Value)} {oc0 kV0 dc0 pm0 cd0 ct0:Value}
  {f1:Addr} {od1 an1:Option Addr} {sl1:Array (Option Value)} {oc1 kV1 dc1 pm1 cd1 ct1:Value}
  {f2:Addr} {od2 an2:Option Addr} {sl2:Array (Option Value)} {oc2 kV2 dc2 pm2 cd2 ct2:Value}
  {f3:Addr} {od3 an3:Option Addr} {sl3:Array (Option Value)} {oc3 kV3 dc3 pm3 cd3 ct3:Value}
  {f4:Addr} {od4 an4:Option Addr} {sl4:Array (Option Value)} {oc4 kV4 dc4 pm4 cd4 ct4:Value}
  {f5:Addr} {od5 an5:Option Addr} {sl5:Array (Option Value)} {oc5 kV5 dc5 pm5 cd5 ct5:Value}
  {f6:Addr} {od6 an6:Option Addr} {sl6:Array (Option Value)} {oc6 kV6 dc6 pm6 cd6 ct6:Value}
  {f7:Addr} {od7 an7:Option Addr} {sl7:Array (Option Value)} {oc7 kV7 dc7 pm7 cd7 ct7:Value}
  {f8:Addr} {od8 an8:Option Addr} {sl8:Array (Option Value)} {oc8 kV8 dc8 pm8 cd8 ct8:Value}
  {f9:Addr} {od9 an9:Option Addr} {sl9:Array (Option Value)} {oc9 kV9 dc9 pm9 cd9 ct9:Value}
  {f10:Addr} {od10 an10:Option Addr} {sl10:Array (Option Value)} {oc10 kV10 dc10 pm10 cd10 ct10:Value}
  {f11:Addr} {od11 an11:Option Addr} {sl11:Array (Option Value)} {oc11 kV11 dc11 pm11 cd11 ct11:Value}
  {f12:Addr} {od12 an12:Option Addr} {sl12:Array (Option Value)} {oc12 kV12 dc12 pm12 cd12 ct12:Value}
  {f13:Addr} {od13 an13:Option Addr} {sl13:Array (Option Value)} {oc13 kV13 dc13 pm13 cd13 ct13:Value}
  {f14:Addr} {od14 an14:Option Addr} {sl14:Array (Option Value)} {oc14 kV14 dc14 pm14 ct14:Value}
  {cc14:Addr}
  {f15:Addr} {od15 an15:Option Addr} {sl15:Array (Option Value)} {oc15 kV15 dc15 pm15 cd15 ct15:Value}
  {f16:Addr} {od16 an16:Option Addr} {sl16:Array (Option Value)} {oc16 kV16 dc16 pm16 cd16 ct16:Value}
  {f17:Addr} {od17 an17:Option Addr} {sl17:Array (Option Value)} {oc17 kV17 dc17 pm17 cd17 ct17:Value}
  {f18:Addr} {od18 an18:Option Addr} {sl18:Array (Option Value)} {oc18 kV18 dc18 pm18 ct18:Value}
  {cc18:Addr}
  {f19:Addr} {od19 an19:Option Addr} {sl19:Array (Option Value)} {oc19 kV19 dc19 pm19 cd19 ct19:Value}
  {f20:Addr} {od20 an20:Option Addr} {sl20:Array (Option Value)} {oc20 kV20 dc20 pm20 cd20 ct20:Value}
  {f21:Addr} {od21 an21:Option Addr} {sl21:Array (Option Value)} {oc21 kV21 dc21 pm21 cd21 ct21:Value}
  {f22:Addr} {od22 an22:Option Addr} {sl22:Array (Option Value)} {oc22 kV22 dc22 pm22 cd22 ct22:Value}
  {f23:Addr} {od23 an23:Option Addr} {sl23:Array (Option Value)} {oc23 kV23 dc23 pm23 cd23 ct23:Value}
  {f24:Addr} {od24 an24:Option Addr} {sl24:Array (Option Value)} {oc24 kV24 dc24 pm24 cd24 ct24:Value}
  {f25:Addr} {od25 an25:Option Addr} {sl25:Array (Option Value)} {oc25 kV25 dc25 pm25 cd25 ct25:Value}
  {f26:Addr} {od26 an26:Option Addr} {sl26:Array (Option Value)} {oc26 kV26 dc26 pm26 cd26 ct26:Value}
  {f27:Addr} {od27 an27:Option Addr} {sl27:Array (Option Value)} {oc27 kV27 dc27 pm27 cd27 ct27:Value}
  {f28:Addr} {od28 an28:Option Addr} {sl28:Array (Option Value)} {oc28 kV28 dc28 pm28 cd28 ct28:Value}
  {f29:Addr} {od29 an29:Option Addr} {sl29:Array (Option Value)} {oc29 kV29 dc29 pm29 cd29 ct29:Value}
  {f30:Addr} {od30 an30:Option Addr} {sl30:Array (Option Value)} {oc30 kV30 dc30 pm30 cd30 ct30:Value}
  {f31:Addr} {od31 an31:Option Addr} {sl31:Array (Option Value)} {oc31 kV31 dc31 pm31 cd31 ct31:Value}
  {f32:Addr} {od32 an32:Option Addr} {sl32:Array (Option Value)} {oc32 kV32 dc32 pm32 cd32 ct32:Value}
  {f33:Addr} {od33 an33:Option Addr} {sl33:Array (Option Value)} {oc33 kV33 dc33 pm33 cd33 ct33:Value}
  {f34:Addr} {od34 an34:Option Addr} {sl34:Array (Option Value)} {oc34 kV34 dc34 pm34 cd34 ct34:Value}
  {f35:Addr} {od35 an35:Option Addr} {sl35:Array (Option Value)} {oc35 kV35 dc35 pm35 cd35 ct35:Value}
  {f36:Addr} {od36 an36:Option Addr} {sl36:Array (Option Value)} {oc36 kV36 dc36 pm36 cd36 ct36:Value}
  {f37:Addr} {od37 an37:Option Addr} {sl37:Array (Option Value)} {oc37 kV37 dc37 pm37 cd37 ct37:Value}
  {f38:Addr} {od38 an38:Option Addr} {sl38:Array (Option Value)} {oc38 kV38 dc38 pm38 cd38 ct38:Value}
  {f39:Addr} {od39 an39:Option Addr} {sl39:Array (Option Value)} {oc39 kV39 dc39 pm39 cd39 ct39:Value}
  {f40:Addr} {od40 an40:Option Addr} {sl40:Array (Option Value)} {oc40 kV40 dc40 pm40 cd40 ct40:Value}
  {f41:Addr} {od41 an41:Option Addr} {sl41:Array (Option Value)} {oc41 kV41 dc41 pm41 cd41 ct41:Value}
  {f42:Addr} {od42 an42:Option Addr} {sl42:Array (Option Value)} {oc42 kV42 dc42 pm42 cd42 ct42:Value}
  {f43:Addr} {od43 an43:Option Addr} {sl43:Array (Option Value)} {oc43 kV43 dc43 pm43 cd43 ct43:Value}
  {f44:Addr} {od44 an44:Option Addr} {sl44:Array (Option Value)} {oc44 kV44 dc44 pm44 cd44 ct44:Value}
  {f45:Addr} {od45 an45:Option Addr} {sl45:Array (Option Value)} {oc45 kV45 dc45 pm45 cd45 ct45:Value}
  {f46:Addr} {od46 an46:Option Addr} {sl46:Array (Option Value)} {oc46 kV46 dc46 pm46 cd46 ct46:Value}
  {f47:Addr} {od47 an47:Option Addr} {sl47:Array (Option Value)} {oc47 kV47 dc47 pm47 cd47 ct47:Value}
  {f48:Addr} {od48 an48:Option Addr} {sl48:Array (Option Value)} {oc48 kV48 dc48 pm48 cd48 ct48:Value}
  {f49:Addr} {od49 an49:Option Addr} {sl49:Array (Option Value)} {oc49 kV49 dc49 pm49 cd49 ct49:Value}
  {f50:Addr} {od50 an50:Option Addr} {sl50:Array (Option Value)} {oc50 kV50 dc50 pm50 cd50 ct50:Value}
  {f51:Addr} {od51 an51:Option Addr} {sl51:Array (Option Value)} {oc51 kV51 dc51 pm51 cd51 ct51:Value}
  {f52:Addr} {od52 an52:Option Addr} {sl52:Array (Option Value)} {oc52 kV52 dc52 pm52 cd52 ct52:Value}
  {f53:Addr} {od53 an53:Option Addr} {sl53:Array (Option Value)} {oc53 kV53 dc53 pm53 cd53 ct53:Value}
  {f54:Addr} {od54 an54:Option Addr} {sl54:Array (Option Value)} {oc54 kV54 dc54 pm54 cd54 ct54:Value}
  {f55:Addr} {od55 an55:Option Addr} {sl55:Array (Option Value)} {oc55 kV55 dc55 pm55 cd55 ct55:Value}
  {f56:Addr} {od56 an56:Option Addr} {sl56:Array (Option Value)} {oc56 kV56 dc56 pm56 cd56 ct56:Value}
  {f57:Addr} {od57 an57:Option Addr} {sl57:Array (Option Value)} {oc57 kV57 dc57 pm57 cd57 ct57:Value}
  {f58:Addr} {od58 an58:Option Addr} {sl58:Array (Option Value)} {oc58 kV58 dc58 pm58 cd58 ct58:Value}
  {f59:Addr} {od59 an59:Option Addr} {sl59:Array (Option Value)} {oc59 kV59 dc59 pm59 cd59 ct59:Value}
  {f60:Addr} {od60 an60:Option Addr} {sl60:Array (Option Value)} {oc60 kV60 dc60 pm60 cd60 ct60:Value}
  {f61:Addr} {od61 an61:Option Addr} {sl61:Array (Option Value)} {oc61 kV61 dc61 pm61 cd61 ct61:Value}
  {f62:Addr} {od62 an62:Option Addr} {sl62:Array (Option Value)} {oc62 kV62 dc62 pm62 cd62 ct62:Value}
  {f63:Addr} {od63 an63:Option Addr} {sl63:Array (Option Value)} {oc63 kV63 dc63 pm63 cd63 ct63:Value}
  {f64:Addr} {od64 an64:Option Addr} {sl64:Array (Option Value)} {oc64 kV64 dc64 pm64 cd64 ct64:Value}
  {f65:Addr} {od65 an65:Option Addr} {sl65:Array (Option Value)} {oc65 kV65 dc65 pm65 cd65 ct65:Value}
  {f66:Addr} {od66 an66:Option Addr} {sl66:Array (Option Value)} {oc66 kV66 dc66 pm66 cd66 ct66:Value}
  {f67:Addr} {od67 an67:Option Addr} {sl67:Array (Option Value)} {oc67 kV67 dc67 pm67 cd67 ct67:Value}
  {f68:Addr} {od68 an68:Option Addr} {sl68:Array (Option Value)} {oc68 kV68 dc68 pm68 cd68 ct68:Value}
  {f69:Addr} {od69 an69:Option Addr} {sl69:Array (Option Value)} {oc69 kV69 dc69 pm69 cd69 ct69:Value}
  {f70:Addr} {od70 an70:Option Addr} {sl70:Array (Option Value)} {oc70 kV70 dc70 pm70 cd70 ct70:Value}
  {f71:Addr} {od71 an71:Option Addr} {sl71:Array (Option Value)} {oc71 kV71 dc71 pm71 cd71 ct71:Value}
  {f72:Addr} {od72 an72:Option Addr} {sl72:Array (Option Value)} {oc72 kV72 dc72 pm72 cd72 ct72:Value}
  {f73:Addr} {od73 an73:Option Addr} {sl73:Array (Option Value)} {oc73 kV73 dc73 pm73 cd73 ct73:Value}
  {f74:Addr} {od74 an74:Option Addr} {sl74:Array (Option Value)} {oc74 kV74 dc74 pm74 cd74 ct74:Value}
  {C:Addr}
  {Ak:Addr}
  {Au:Addr}
  {AB:Addr}
  {As:Addr}
  {Aj:Addr}
  {Al:Addr}
  {Aw:Addr}
  {Ap:Addr}
  {t_SIGNS:Tok}
  {t_MOST_SIGNS:Tok}
  {t_FILE_ENTRY:Tok}
  {t_FOLDER_ENTRY:Tok}
  {t_NAME_SIGNS:Tok}
  {t_MOST_NAME_SIGNS:Tok}
  {t_MOST_ENTRIES:Tok}
  {t_STEM:Tok}
  {t_SEAL:Tok}
  {t_MOST_KEEPERS:Tok}
  {t_MOST_NAMES:Tok}
  {t_MOST_STEPS:Tok}
  {t_MOST_TREE_ENTRIES:Tok}
  {t_MOST_TREE_DEEP:Tok}
  (a0:W.findIn K (.ref Ak) "__init__"=some (some (.ref f0))) (i0:W.isFn K (.ref f0)=true) (l0:K.lookup f0=some ⟨oc0,od0,.func (W.fnOf "__init__" "NoName.__init__" (Av Do) (Ar Do) (Ac Do) .none kV0 dc0 pm0 an0 cd0 ct0),sl0⟩) (c0:W.codeIn K cd0 "NoName.__init__"=true) (k0:W.keepIn K (.ref f0)=true)
  (a1:W.findIn K (.ref Au) "__init__"=some (some (.ref f1))) (i1:W.isFn K (.ref f1)=true) (l1:K.lookup f1=some ⟨oc1,od1,.func (W.fnOf "__init__" "Twice.__init__" (Av Dy) (Ar Dy) (Ac Dy) .none kV1 dc1 pm1 an1 cd1 ct1),sl1⟩) (c1:W.codeIn K cd1 "Twice.__init__"=true) (k1:W.keepIn K (.ref f1)=true)
  (a2:W.findIn K (.ref AB) "__init__"=some (some (.ref f2))) (i2:W.isFn K (.ref f2)=true) (l2:K.lookup f2=some ⟨oc2,od2,.func (W.fnOf "__init__" "Bare.__init__" (Av Ej) (Ar Ej) (Ac Ej) .none kV2 dc2 pm2 an2 cd2 ct2),sl2⟩) (c2:W.codeIn K cd2 "Bare.__init__"=true) (k2:W.keepIn K (.ref f2)=true)
  (a3:W.findIn K (.ref As) "__init__"=some (some (.ref f3))) (i3:W.isFn K (.ref f3)=true) (l3:K.lookup f3=some ⟨oc3,od3,.func (W.fnOf "__init__" "Grown.__init__" (Av DF) (Ar DF) (Ac DF) .none kV3 dc3 pm3 an3 cd3 ct3),sl3⟩) (c3:W.codeIn K cd3 "Grown.__init__"=true) (k3:W.keepIn K (.ref f3)=true)
  (a4:W.findIn K (.ref Al) "__init__"=some (some (.ref f4))) (i4:W.isFn K (.ref f4)=true) (l4:K.lookup f4=some ⟨oc4,od4,.func (W.fnOf "__init__" "NoPath.__init__" (Av Dm) (Ar Dm) (Ac Dm) .none kV4 dc4 pm4 an4 cd4 ct4),sl4⟩) (c4:W.codeIn K cd4 "NoPath.__init__"=true) (k4:W.keepIn K (.ref f4)=true)
  (a5:W.nsIn K mainGlobals "is_text"=some (some (.ref f5))) (l5:K.lookup f5=some ⟨oc5,od5,.func (W.fnOf "is_text" "is_text" (Av FO) (Ar FO) (Ac FO) .none kV5 dc5 pm5 an5 cd5 ct5),sl5⟩) (c5:W.codeIn K cd5 "is_text"=true) (k5:W.keepIn K (.ref f5)=true)
  (a6:W.nsIn K mainGlobals "done"=some (some (.ref f6))) (l6:K.lookup f6=some ⟨oc6,od6,.func (W.fnOf "done" "done" (Av Lc) (Ar Lc) (Ac Lc) .none kV6 dc6 pm6 an6 cd6 ct6),sl6⟩) (c6:W.codeIn K cd6 "done"=true) (k6:W.keepIn K (.ref f6)=true)
  (a7:W.nsIn K mainGlobals "is_name"=some (some (.ref f7))) (l7:K.lookup f7=some ⟨oc7,od7,.func (W.fnOf "is_name" "is_name" (Av FJ) (Ar FJ) (Ac FJ) .none kV7 dc7 pm7 an7 cd7 ct7),sl7⟩) (c7:W.codeIn K cd7 "is_name"=true) (k7:W.keepIn K (.ref f7)=true)
  (a8:W.nsIn K mainGlobals "one_called"=some (some (.ref f8))) (l8:K.lookup f8=some ⟨oc8,od8,.func (W.fnOf "one_called" "one_called" (Av DE) (Ar DE) (Ac DE) .none kV8 dc8 pm8 an8 cd8 ct8),sl8⟩) (c8:W.codeIn K cd8 "one_called"=true) (k8:W.keepIn K (.ref f8)=true)
  (a9:W.nsIn K mainGlobals "keeper_called"=some (some (.ref f9))) (l9:K.lookup f9=some ⟨oc9,od9,.func (W.fnOf "keeper_called" "keeper_called" (Av Cr) (Ar Cr) (Ac Cr) .none kV9 dc9 pm9 an9 cd9 ct9),sl9⟩) (c9:W.codeIn K cd9 "keeper_called"=true) (k9:W.keepIn K (.ref f9)=true)
  (a10:W.nsIn K mainGlobals "named_so"=some (some (.ref f10))) (l10:K.lookup f10=some ⟨oc10,od10,.func (W.fnOf "named_so" "named_so" (Av EZ) (Ar EZ) (Ac EZ) .none kV10 dc10 pm10 an10 cd10 ct10),sl10⟩) (c10:W.codeIn K cd10 "named_so"=true) (k10:W.keepIn K (.ref f10)=true)
  (a11:W.nsIn K mainGlobals "stem_called"=some (some (.ref f11))) (l11:K.lookup f11=some ⟨oc11,od11,.func (W.fnOf "stem_called" "stem_called" (Av C8) (Ar C8) (Ac C8) .none kV11 dc11 pm11 an11 cd11 ct11),sl11⟩) (c11:W.codeIn K cd11 "stem_called"=true) (k11:W.keepIn K (.ref f11)=true)
  (a12:W.nsIn K mainGlobals "seal_called"=some (some (.ref f12))) (l12:K.lookup f12=some ⟨oc12,od12,.func (W.fnOf "seal_called" "seal_called" (Av Di) (Ar Di) (Ac Di) .none kV12 dc12 pm12 an12 cd12 ct12),sl12⟩) (c12:W.codeIn K cd12 "seal_called"=true) (k12:W.keepIn K (.ref f12)=true)
  (a13:W.nsIn K mainGlobals "stems_in"=some (some (.ref f13))) (l13:K.lookup f13=some ⟨oc13,od13,.func (W.fnOf "stems_in" "stems_in" (Av ET) (Ar ET) (Ac ET) .none kV13 dc13 pm13 an13 cd13 ct13),sl13⟩) (c13:W.codeIn K cd13 "stems_in"=true) (k13:W.keepIn K (.ref f13)=true)
  (a14:W.nsIn K mainGlobals "seals_of"=some (some (.ref f14))) (l14:K.lookup f14=some ⟨oc14,od14,.func (W.fnOf "seals_of" "seals_of" (Av EO) (Ar EO) (Ac EO) .none kV14 dc14 pm14 an14 (.ref cc14) ct14),sl14⟩) (c14:W.codeIn K (.ref cc14) "seals_of"=true) (k14:W.keepIn K (.ref f14)=true) (Wt:W.codeHdIn K cc14 PT=true) (XB:K.lookup PT=none)
  (a15:W.nsIn K mainGlobals "check_new_name"=some (some (.ref f15))) (l15:K.lookup f15=some ⟨oc15,od15,.func (W.fnOf "check_new_name" "check_new_name" (Av Cm) (Ar Cm) (Ac Cm) .none kV15 dc15 pm15 an15 cd15 ct15),sl15⟩) (c15:W.codeIn K cd15 "check_new_name"=true) (k15:W.keepIn K (.ref f15)=true)
  (a16:W.nsIn K mainGlobals "check_room"=some (some (.ref f16))) (l16:K.lookup f16=some ⟨oc16,od16,.func (W.fnOf "check_room" "check_room" (Av DG) (Ar DG) (Ac DG) .none kV16 dc16 pm16 an16 cd16 ct16),sl16⟩) (c16:W.codeIn K cd16 "check_room"=true) (k16:W.keepIn K (.ref f16)=true)
  (a17:W.nsIn K mainGlobals "check_new_stem"=some (some (.ref f17))) (l17:K.lookup f17=some ⟨oc17,od17,.func (W.fnOf "check_new_stem" "check_new_stem" (Av Cj) (Ar Cj) (Ac Cj) .none kV17 dc17 pm17 an17 cd17 ct17),sl17⟩) (c17:W.codeIn K cd17 "check_new_stem"=true) (k17:W.keepIn K (.ref f17)=true)
  (a18:W.nsIn K mainGlobals "put_among"=some (some (.ref f18))) (l18:K.lookup f18=some ⟨oc18,od18,.func (W.fnOf "put_among" "put_among" (Av El) (Ar El) (Ac El) .none kV18 dc18 pm18 an18 (.ref cc18) ct18),sl18⟩) (c18:W.codeIn K (.ref cc18) "put_among"=true) (k18:W.keepIn K (.ref f18)=true) (WM:W.codeHdIn K cc18 PU=true) (Yx:K.lookup PU=none)
  (a19:W.nsIn K mainGlobals "with_keeper"=some (some (.ref f19))) (l19:K.lookup f19=some ⟨oc19,od19,.func (W.fnOf "with_keeper" "with_keeper" (Av Dd) (Ar Dd) (Ac Dd) .none kV19 dc19 pm19 an19 cd19 ct19),sl19⟩) (c19:W.codeIn K cd19 "with_keeper"=true) (k19:W.keepIn K (.ref f19)=true)
  (a20:W.nsIn K mainGlobals "with_named"=some (some (.ref f20))) (l20:K.lookup f20=some ⟨oc20,od20,.func (W.fnOf "with_named" "with_named" (Av DI) (Ar DI) (Ac DI) .none kV20 dc20 pm20 an20 cd20 ct20),sl20⟩) (c20:W.codeIn K cd20 "with_named"=true) (k20:W.keepIn K (.ref f20)=true)
  (a21:W.nsIn K mainGlobals "without_named"=some (some (.ref f21))) (l21:K.lookup f21=some ⟨oc21,od21,.func (W.fnOf "without_named" "without_named" (Av Cs) (Ar Cs) (Ac Cs) .none kV21 dc21 pm21 an21 cd21 ct21),sl21⟩) (c21:W.codeIn K cd21 "without_named"=true) (k21:W.keepIn K (.ref f21)=true)
  (a22:W.nsIn K mainGlobals "one_older"=some (some (.ref f22))) (l22:K.lookup f22=some ⟨oc22,od22,.func (W.fnOf "one_older" "one_older" (Av D5) (Ar D5) (Ac D5) .none kV22 dc22 pm22 an22 cd22 ct22),sl22⟩) (c22:W.codeIn K cd22 "one_older"=true) (k22:W.keepIn K (.ref f22)=true)
  (a23:W.nsIn K mainGlobals "grafted"=some (some (.ref f23))) (l23:K.lookup f23=some ⟨oc23,od23,.func (W.fnOf "grafted" "grafted" (Av FM) (Ar FM) (Ac FM) .none kV23 dc23 pm23 an23 cd23 ct23),sl23⟩) (c23:W.codeIn K cd23 "grafted"=true) (k23:W.keepIn K (.ref f23)=true)
  (a24:W.nsIn K mainGlobals "with_origin"=some (some (.ref f24))) (l24:K.lookup f24=some ⟨oc24,od24,.func (W.fnOf "with_origin" "with_origin" (Av Dk) (Ar Dk) (Ac Dk) .none kV24 dc24 pm24 an24 cd24 ct24),sl24⟩) (c24:W.codeIn K cd24 "with_origin"=true) (k24:W.keepIn K (.ref f24)=true)
  (a25:W.nsIn K mainGlobals "steps_in"=some (some (.ref f25))) (l25:K.lookup f25=some ⟨oc25,od25,.func (W.fnOf "steps_in" "steps_in" (Av EV) (Ar EV) (Ac EV) .none kV25 dc25 pm25 an25 cd25 ct25),sl25⟩) (c25:W.codeIn K cd25 "steps_in"=true) (k25:W.keepIn K (.ref f25)=true)
  (a26:W.nsIn K mainGlobals "is_beneath"=some (some (.ref f26))) (l26:K.lookup f26=some ⟨oc26,od26,.func (W.fnOf "is_beneath" "is_beneath" (Av DD) (Ar DD) (Ac DD) .none kV26 dc26 pm26 an26 cd26 ct26),sl26⟩) (c26:W.codeIn K cd26 "is_beneath"=true) (k26:W.keepIn K (.ref f26)=true)
  (a27:W.nsIn K mainGlobals "path_to"=some (some (.ref f27))) (l27:K.lookup f27=some ⟨oc27,od27,.func (W.fnOf "path_to" "path_to" (Av FN) (Ar FN) (Ac FN) .none kV27 dc27 pm27 an27 cd27 ct27),sl27⟩) (c27:W.codeIn K cd27 "path_to"=true) (k27:W.keepIn K (.ref f27)=true)
  (a28:W.nsIn K mainGlobals "folder_of"=some (some (.ref f28))) (l28:K.lookup f28=some ⟨oc28,od28,.func (W.fnOf "folder_of" "folder_of" (Av Ef) (Ar Ef) (Ac Ef) .none kV28 dc28 pm28 an28 cd28 ct28),sl28⟩) (c28:W.codeIn K cd28 "folder_of"=true) (k28:W.keepIn K (.ref f28)=true)
  (a29:W.nsIn K mainGlobals "keeper_told"=some (some (.ref f29))) (l29:K.lookup f29=some ⟨oc29,od29,.func (W.fnOf "keeper_told" "keeper_told" (Av Dl) (Ar Dl) (Ac Dl) .none kV29 dc29 pm29 an29 cd29 ct29),sl29⟩) (c29:W.codeIn K cd29 "keeper_told"=true) (k29:W.keepIn K (.ref f29)=true)
  (a30:W.nsIn K mainGlobals "stem_sealed"=some (some (.ref f30))) (l30:K.lookup f30=some ⟨oc30,od30,.func (W.fnOf "stem_sealed" "stem_sealed" (Av Dj) (Ar Dj) (Ac Dj) .none kV30 dc30 pm30 an30 cd30 ct30),sl30⟩) (c30:W.codeIn K cd30 "stem_sealed"=true) (k30:W.keepIn K (.ref f30)=true)
  (a31:W.nsIn K mainGlobals "stem_set_back"=some (some (.ref f31))) (l31:K.lookup f31=some ⟨oc31,od31,.func (W.fnOf "stem_set_back" "stem_set_back" (Av Ct) (Ar Ct) (Ac Ct) .none kV31 dc31 pm31 an31 cd31 ct31),sl31⟩) (c31:W.codeIn K cd31 "stem_set_back"=true) (k31:W.keepIn K (.ref f31)=true)
  (a32:W.nsIn K mainGlobals "stem_grafted_unbound"=some (some (.ref f32))) (l32:K.lookup f32=some ⟨oc32,od32,.func (W.fnOf "stem_grafted_unbound" "stem_grafted_unbound" (Av Bg) (Ar Bg) (Ac Bg) .none kV32 dc32 pm32 an32 cd32 ct32),sl32⟩) (c32:W.codeIn K cd32 "stem_grafted_unbound"=true) (k32:W.keepIn K (.ref f32)=true)
  (a33:W.nsIn K mainGlobals "name_dropped"=some (some (.ref f33))) (l33:K.lookup f33=some ⟨oc33,od33,.func (W.fnOf "name_dropped" "name_dropped" (Av CO) (Ar CO) (Ac CO) .none kV33 dc33 pm33 an33 cd33 ct33),sl33⟩) (c33:W.codeIn K cd33 "name_dropped"=true) (k33:W.keepIn K (.ref f33)=true)
  (a34:W.findIn K (.ref C) "__init__"=some (some (.ref f34))) (i34:W.isFn K (.ref f34)=true) (l34:K.lookup f34=some ⟨oc34,od34,.func (W.fnOf "__init__" "PlainHouse.__init__" (Av B2) (Ar B2) (Ac B2) .none kV34 dc34 pm34 an34 cd34 ct34),sl34⟩) (c34:W.codeIn K cd34 "PlainHouse.__init__"=true) (k34:W.keepIn K (.ref f34)=true)
  (a35:W.findIn K (.ref C) "keeper"=some (some (.ref f35))) (i35:W.isFn K (.ref f35)=true) (l35:K.lookup f35=some ⟨oc35,od35,.func (W.fnOf "keeper" "PlainHouse.keeper" (Av BF) (Ar BF) (Ac BF) .none kV35 dc35 pm35 an35 cd35 ct35),sl35⟩) (c35:W.codeIn K cd35 "PlainHouse.keeper"=true) (k35:W.keepIn K (.ref f35)=true)
  (a36:W.findIn K (.ref C) "stem"=some (some (.ref f36))) (i36:W.isFn K (.ref f36)=true) (l36:K.lookup f36=some ⟨oc36,od36,.func (W.fnOf "stem" "PlainHouse.stem" (Av BW) (Ar BW) (Ac BW) .none kV36 dc36 pm36 an36 cd36 ct36),sl36⟩) (c36:W.codeIn K cd36 "PlainHouse.stem"=true) (k36:W.keepIn K (.ref f36)=true)
  (a37:W.findIn K (.ref C) "take_in"=some (some (.ref f37))) (i37:W.isFn K (.ref f37)=true) (l37:K.lookup f37=some ⟨oc37,od37,.func (W.fnOf "take_in" "PlainHouse.take_in" (Av Bq) (Ar Bq) (Ac Bq) .none kV37 dc37 pm37 an37 cd37 ct37),sl37⟩) (c37:W.codeIn K cd37 "PlainHouse.take_in"=true) (k37:W.keepIn K (.ref f37)=true)
  (a38:W.findIn K (.ref C) "folder"=some (some (.ref f38))) (i38:W.isFn K (.ref f38)=true) (l38:K.lookup f38=some ⟨oc38,od38,.func (W.fnOf "folder" "PlainHouse.folder" (Av BG) (Ar BG) (Ac BG) .none kV38 dc38 pm38 an38 cd38 ct38),sl38⟩) (c38:W.codeIn K cd38 "PlainHouse.folder"=true) (k38:W.keepIn K (.ref f38)=true)
  (a39:W.findIn K (.ref C) "write"=some (some (.ref f39))) (i39:W.isFn K (.ref f39)=true) (l39:K.lookup f39=some ⟨oc39,od39,.func (W.fnOf "write" "PlainHouse.write" (Av BK) (Ar BK) (Ac BK) .none kV39 dc39 pm39 an39 cd39 ct39),sl39⟩) (c39:W.codeIn K cd39 "PlainHouse.write"=true) (k39:W.keepIn K (.ref f39)=true)
  (a40:W.findIn K (.ref C) "splice"=some (some (.ref f40))) (i40:W.isFn K (.ref f40)=true) (l40:K.lookup f40=some ⟨oc40,od40,.func (W.fnOf "splice" "PlainHouse.splice" (Av BA) (Ar BA) (Ac BA) .none kV40 dc40 pm40 an40 cd40 ct40),sl40⟩) (c40:W.codeIn K cd40 "PlainHouse.splice"=true) (k40:W.keepIn K (.ref f40)=true)
  (a41:W.findIn K (.ref C) "remove"=some (some (.ref f41))) (i41:W.isFn K (.ref f41)=true) (l41:K.lookup f41=some ⟨oc41,od41,.func (W.fnOf "remove" "PlainHouse.remove" (Av BH) (Ar BH) (Ac BH) .none kV41 dc41 pm41 an41 cd41 ct41),sl41⟩) (c41:W.codeIn K cd41 "PlainHouse.remove"=true) (k41:W.keepIn K (.ref f41)=true)
  (a42:W.findIn K (.ref C) "move"=some (some (.ref f42))) (i42:W.isFn K (.ref f42)=true) (l42:K.lookup f42=some ⟨oc42,od42,.func (W.fnOf "move" "PlainHouse.move" (Av B0) (Ar B0) (Ac B0) .none kV42 dc42 pm42 an42 cd42 ct42),sl42⟩) (c42:W.codeIn K cd42 "PlainHouse.move"=true) (k42:W.keepIn K (.ref f42)=true)
  (a43:W.findIn K (.ref C) "copy"=some (some (.ref f43))) (i43:W.isFn K (.ref f43)=true) (l43:K.lookup f43=some ⟨oc43,od43,.func (W.fnOf "copy" "PlainHouse.copy" (Av BY) (Ar BY) (Ac BY) .none kV43 dc43 pm43 an43 cd43 ct43),sl43⟩) (c43:W.codeIn K cd43 "PlainHouse.copy"=true) (k43:W.keepIn K (.ref f43)=true)
  (a44:W.findIn K (.ref C) "seal"=some (some (.ref f44))) (i44:W.isFn K (.ref f44)=true) (l44:K.lookup f44=some ⟨oc44,od44,.func (W.fnOf "seal" "PlainHouse.seal" (Av B3) (Ar B3) (Ac B3) .none kV44 dc44 pm44 an44 cd44 ct44),sl44⟩) (c44:W.codeIn K cd44 "PlainHouse.seal"=true) (k44:W.keepIn K (.ref f44)=true)
  (a45:W.findIn K (.ref C) "grow"=some (some (.ref f45))) (i45:W.isFn K (.ref f45)=true) (l45:K.lookup f45=some ⟨oc45,od45,.func (W.fnOf "grow" "PlainHouse.grow" (Av BS) (Ar BS) (Ac BS) .none kV45 dc45 pm45 an45 cd45 ct45),sl45⟩) (c45:W.codeIn K cd45 "PlainHouse.grow"=true) (k45:W.keepIn K (.ref f45)=true)
  (a46:W.findIn K (.ref C) "back"=some (some (.ref f46))) (i46:W.isFn K (.ref f46)=true) (l46:K.lookup f46=some ⟨oc46,od46,.func (W.fnOf "back" "PlainHouse.back" (Av BU) (Ar BU) (Ac BU) .none kV46 dc46 pm46 an46 cd46 ct46),sl46⟩) (c46:W.codeIn K cd46 "PlainHouse.back"=true) (k46:W.keepIn K (.ref f46)=true)
  (a47:W.findIn K (.ref C) "graft"=some (some (.ref f47))) (i47:W.isFn K (.ref f47)=true) (l47:K.lookup f47=some ⟨oc47,od47,.func (W.fnOf "graft" "PlainHouse.graft" (Av BL) (Ar BL) (Ac BL) .none kV47 dc47 pm47 an47 cd47 ct47),sl47⟩) (c47:W.codeIn K cd47 "PlainHouse.graft"=true) (k47:W.keepIn K (.ref f47)=true)
  (a48:W.findIn K (.ref C) "drop"=some (some (.ref f48))) (i48:W.isFn K (.ref f48)=true) (l48:K.lookup f48=some ⟨oc48,od48,.func (W.fnOf "drop" "PlainHouse.drop" (Av BX) (Ar BX) (Ac BX) .none kV48 dc48 pm48 an48 cd48 ct48),sl48⟩) (c48:W.codeIn K cd48 "PlainHouse.drop"=true) (k48:W.keepIn K (.ref f48)=true)
  (a49:W.findIn K (.ref C) "read"=some (some (.ref f49))) (i49:W.isFn K (.ref f49)=true) (l49:K.lookup f49=some ⟨oc49,od49,.func (W.fnOf "read" "PlainHouse.read" (Av BZ) (Ar BZ) (Ac BZ) .none kV49 dc49 pm49 an49 cd49 ct49),sl49⟩) (c49:W.codeIn K cd49 "PlainHouse.read"=true) (k49:W.keepIn K (.ref f49)=true)
  (a50:W.findIn K (.ref C) "paths"=some (some (.ref f50))) (i50:W.isFn K (.ref f50)=true) (l50:K.lookup f50=some ⟨oc50,od50,.func (W.fnOf "paths" "PlainHouse.paths" (Av BM) (Ar BM) (Ac BM) .none kV50 dc50 pm50 an50 cd50 ct50),sl50⟩) (c50:W.codeIn K cd50 "PlainHouse.paths"=true) (k50:W.keepIn K (.ref f50)=true)
  (a51:W.findIn K (.ref C) "tree_of"=some (some (.ref f51))) (i51:W.isFn K (.ref f51)=true) (l51:K.lookup f51=some ⟨oc51,od51,.func (W.fnOf "tree_of" "PlainHouse.tree_of" (Av Br) (Ar Br) (Ac Br) .none kV51 dc51 pm51 an51 cd51 ct51),sl51⟩) (c51:W.codeIn K cd51 "PlainHouse.tree_of"=true) (k51:W.keepIn K (.ref f51)=true)
  (a52:W.findIn K (.ref C) "tree_of_stem"=some (some (.ref f52))) (i52:W.isFn K (.ref f52)=true) (l52:K.lookup f52=some ⟨oc52,od52,.func (W.fnOf "tree_of_stem" "PlainHouse.tree_of_stem" (Av A9) (Ar A9) (Ac A9) .none kV52 dc52 pm52 an52 cd52 ct52),sl52⟩) (c52:W.codeIn K cd52 "PlainHouse.tree_of_stem"=true) (k52:W.keepIn K (.ref f52)=true)
  (a53:W.findIn K (.ref C) "change"=some (some (.ref f53))) (i53:W.isFn K (.ref f53)=true) (l53:K.lookup f53=some ⟨oc53,od53,.func (W.fnOf "change" "PlainHouse.change" (Av BD) (Ar BD) (Ac BD) .none kV53 dc53 pm53 an53 cd53 ct53),sl53⟩) (c53:W.codeIn K cd53 "PlainHouse.change"=true) (k53:W.keepIn K (.ref f53)=true)
  (a54:W.findIn K (.ref C) "put_tree"=some (some (.ref f54))) (i54:W.isFn K (.ref f54)=true) (l54:K.lookup f54=some ⟨oc54,od54,.func (W.fnOf "put_tree" "PlainHouse.put_tree" (Av Bl) (Ar Bl) (Ac Bl) .none kV54 dc54 pm54 an54 cd54 ct54),sl54⟩) (c54:W.codeIn K cd54 "PlainHouse.put_tree"=true) (k54:W.keepIn K (.ref f54)=true)
  (a55:W.nsIn K mainGlobals "is_folder"=some (some (.ref f55))) (l55:K.lookup f55=some ⟨oc55,od55,.func (W.fnOf "is_folder" "is_folder" (Av Eo) (Ar Eo) (Ac Eo) .none kV55 dc55 pm55 an55 cd55 ct55),sl55⟩) (c55:W.codeIn K cd55 "is_folder"=true) (k55:W.keepIn K (.ref f55)=true)
  (a56:W.nsIn K mainGlobals "content_in"=some (some (.ref f56))) (l56:K.lookup f56=some ⟨oc56,od56,.func (W.fnOf "content_in" "content_in" (Av DJ) (Ar DJ) (Ac DJ) .none kV56 dc56 pm56 an56 cd56 ct56),sl56⟩) (c56:W.codeIn K cd56 "content_in"=true) (k56:W.keepIn K (.ref f56)=true)
  (a57:W.nsIn K mainGlobals "check_put"=some (some (.ref f57))) (l57:K.lookup f57=some ⟨oc57,od57,.func (W.fnOf "check_put" "check_put" (Av Ek) (Ar Ek) (Ac Ek) .none kV57 dc57 pm57 an57 cd57 ct57),sl57⟩) (c57:W.codeIn K cd57 "check_put"=true) (k57:W.keepIn K (.ref f57)=true)
  (a58:W.nsIn K mainGlobals "check_free"=some (some (.ref f58))) (l58:K.lookup f58=some ⟨oc58,od58,.func (W.fnOf "check_free" "check_free" (Av DH) (Ar DH) (Ac DH) .none kV58 dc58 pm58 an58 cd58 ct58),sl58⟩) (c58:W.codeIn K cd58 "check_free"=true) (k58:W.keepIn K (.ref f58)=true)
  (a59:W.nsIn K mainGlobals "check_there"=some (some (.ref f59))) (l59:K.lookup f59=some ⟨oc59,od59,.func (W.fnOf "check_there" "check_there" (Av Dc) (Ar Dc) (Ac Dc) .none kV59 dc59 pm59 an59 cd59 ct59),sl59⟩) (c59:W.codeIn K cd59 "check_there"=true) (k59:W.keepIn K (.ref f59)=true)
  (a60:W.nsIn K mainGlobals "with_paths"=some (some (.ref f60))) (l60:K.lookup f60=some ⟨oc60,od60,.func (W.fnOf "with_paths" "with_paths" (Av DM) (Ar DM) (Ac DM) .none kV60 dc60 pm60 an60 cd60 ct60),sl60⟩) (c60:W.codeIn K cd60 "with_paths"=true) (k60:W.keepIn K (.ref f60)=true)
  (a61:W.nsIn K mainGlobals "without_path"=some (some (.ref f61))) (l61:K.lookup f61=some ⟨oc61,od61,.func (W.fnOf "without_path" "without_path" (Av CN) (Ar CN) (Ac CN) .none kV61 dc61 pm61 an61 cd61 ct61),sl61⟩) (c61:W.codeIn K cd61 "without_path"=true) (k61:W.keepIn K (.ref f61)=true)
  (a62:W.nsIn K mainGlobals "carried"=some (some (.ref f62))) (l62:K.lookup f62=some ⟨oc62,od62,.func (W.fnOf "carried" "carried" (Av FQ) (Ar FQ) (Ac FQ) .none kV62 dc62 pm62 an62 cd62 ct62),sl62⟩) (c62:W.codeIn K cd62 "carried"=true) (k62:W.keepIn K (.ref f62)=true)
  (a63:W.nsIn K mainGlobals "check_bounds"=some (some (.ref f63))) (l63:K.lookup f63=some ⟨oc63,od63,.func (W.fnOf "check_bounds" "check_bounds" (Av CM) (Ar CM) (Ac CM) .none kV63 dc63 pm63 an63 cd63 ct63),sl63⟩) (c63:W.codeIn K cd63 "check_bounds"=true) (k63:W.keepIn K (.ref f63)=true)
  (a64:W.nsIn K mainGlobals "_law_row"=some (some (.ref f64))) (l64:K.lookup f64=some ⟨oc64,od64,.func (W.fnOf "_law_row" "_law_row" (Av EX) (Ar EX) (Ac EX) .none kV64 dc64 pm64 an64 cd64 ct64),sl64⟩) (c64:W.codeIn K cd64 "_law_row"=true) (k64:W.keepIn K (.ref f64)=true)
  (a65:W.nsIn K mainGlobals "_law_word"=some (some (.ref f65))) (l65:K.lookup f65=some ⟨oc65,od65,.func (W.fnOf "_law_word" "_law_word" (Av Ei) (Ar Ei) (Ac Ei) .none kV65 dc65 pm65 an65 cd65 ct65),sl65⟩) (c65:W.codeIn K cd65 "_law_word"=true) (k65:W.keepIn K (.ref f65)=true)
  (a66:W.nsIn K mainGlobals "_law_path"=some (some (.ref f66))) (l66:K.lookup f66=some ⟨oc66,od66,.func (W.fnOf "_law_path" "_law_path" (Av Eg) (Ar Eg) (Ac Eg) .none kV66 dc66 pm66 an66 cd66 ct66),sl66⟩) (c66:W.codeIn K cd66 "_law_path"=true) (k66:W.keepIn K (.ref f66)=true)
  (a67:W.nsIn K mainGlobals "_law_number"=some (some (.ref f67))) (l67:K.lookup f67=some ⟨oc67,od67,.func (W.fnOf "_law_number" "_law_number" (Av Da) (Ar Da) (Ac Da) .none kV67 dc67 pm67 an67 cd67 ct67),sl67⟩) (c67:W.codeIn K cd67 "_law_number"=true) (k67:W.keepIn K (.ref f67)=true)
  (a68:W.nsIn K mainGlobals "_law_text"=some (some (.ref f68))) (l68:K.lookup f68=some ⟨oc68,od68,.func (W.fnOf "_law_text" "_law_text" (Av Er) (Ar Er) (Ac Er) .none kV68 dc68 pm68 an68 cd68 ct68),sl68⟩) (c68:W.codeIn K cd68 "_law_text"=true) (k68:W.keepIn K (.ref f68)=true)
  (a69:W.nsIn K mainGlobals "_law_deed"=some (some (.ref f69))) (l69:K.lookup f69=some ⟨oc69,od69,.func (W.fnOf "_law_deed" "_law_deed" (Av Es) (Ar Es) (Ac Es) .none kV69 dc69 pm69 an69 cd69 ct69),sl69⟩) (c69:W.codeIn K cd69 "_law_deed"=true) (k69:W.keepIn K (.ref f69)=true)
  (a70:W.nsIn K mainGlobals "_law_do"=some (some (.ref f70))) (l70:K.lookup f70=some ⟨oc70,od70,.func (W.fnOf "_law_do" "_law_do" (Av FK) (Ar FK) (Ac FK) .none kV70 dc70 pm70 an70 cd70 ct70),sl70⟩) (c70:W.codeIn K cd70 "_law_do"=true) (k70:W.keepIn K (.ref f70)=true)
  (a71:W.nsIn K mainGlobals "_law_kind"=some (some (.ref f71))) (l71:K.lookup f71=some ⟨oc71,od71,.func (W.fnOf "_law_kind" "_law_kind" (Av Eb) (Ar Eb) (Ac Eb) .none kV71 dc71 pm71 an71 cd71 ct71),sl71⟩) (c71:W.codeIn K cd71 "_law_kind"=true) (k71:W.keepIn K (.ref f71)=true)
  (a72:W.nsIn K mainGlobals "_law_told"=some (some (.ref f72))) (l72:K.lookup f72=some ⟨oc72,od72,.func (W.fnOf "_law_told" "_law_told" (Av Em) (Ar Em) (Ac Em) .none kV72 dc72 pm72 an72 cd72 ct72),sl72⟩) (c72:W.codeIn K cd72 "_law_told"=true) (k72:W.keepIn K (.ref f72)=true)
  (a73:W.nsIn K mainGlobals "_law_stands"=some (some (.ref f73))) (l73:K.lookup f73=some ⟨oc73,od73,.func (W.fnOf "_law_stands" "_law_stands" (Av Df) (Ar Df) (Ac Df) .none kV73 dc73 pm73 an73 cd73 ct73),sl73⟩) (c73:W.codeIn K cd73 "_law_stands"=true) (k73:W.keepIn K (.ref f73)=true)
  (a74:W.nsIn K mainGlobals "law"=some (some (.ref f74))) (l74:K.lookup f74=some ⟨oc74,od74,.func (W.fnOf "law" "law" (Av Kk) (Ar Kk) (Ac Kk) .none kV74 dc74 pm74 an74 cd74 ct74),sl74⟩) (c74:W.codeIn K cd74 "law"=true) (k74:W.keepIn K (.ref f74)=true)
  (aC:W.nsIn K mainGlobals "PlainHouse"=some (some (.ref C))) (pg:W.plainGet K C Str.empty=true) (hd:W.hasDictIn K C=true) (po:W.plainOver K C=true) (sa:W.findIn K (.ref C) "__setattr__"=some (some (.builtin "object.__setattr__"))) (mk:W.makesIn K C=true) (kc:W.keepIn K (.ref C)=true)
  (n_own_head:W.findIn K (.ref C) "own_head"=some none)
  (x_NoName:W.nsIn K mainGlobals "NoName"=some (some (.ref Ak)))
  (x_Twice:W.nsIn K mainGlobals "Twice"=some (some (.ref Au)))
  (x_Bare:W.nsIn K mainGlobals "Bare"=some (some (.ref AB)))
  (x_Grown:W.nsIn K mainGlobals "Grown"=some (some (.ref As)))
  (x_TooMany:W.nsIn K mainGlobals "TooMany"=some (some (.ref Aj)))
  (x_NoPath:W.nsIn K mainGlobals "NoPath"=some (some (.ref Al)))
  (x_StemError:W.nsIn K mainGlobals "StemError"=some (some (.ref Aw)))
  (x_OverBound:W.nsIn K mainGlobals "OverBound"=some (some (.ref Ap)))
  (q_TooMany:W.excIn K Aj [.type "ValueError",.type "Exception",.type "BaseException",.type "object"] "ValueError.__new__"=true)
  (m_NoPath_NoPath:W.exmOne K (.ref Al) (.ref Al)=some true)
  (m_NoPath_TooMany:W.exmOne K (.ref Al) (.ref Aj)=some false)
  (m_NoPath_NoName:W.exmOne K (.ref Al) (.ref Ak)=some false)
  (m_NoPath_Twice:W.exmOne K (.ref Al) (.ref Au)=some false)
  (m_NoPath_Bare:W.exmOne K (.ref Al) (.ref AB)=some false)
  (m_NoPath_Grown:W.exmOne K (.ref Al) (.ref As)=some false)
  (m_TooMany_NoPath:W.exmOne K (.ref Aj) (.ref Al)=some false)
  (m_TooMany_TooMany:W.exmOne K (.ref Aj) (.ref Aj)=some true)
  (m_TooMany_NoName:W.exmOne K (.ref Aj) (.ref Ak)=some false)
  (m_TooMany_Twice:W.exmOne K (.ref Aj) (.ref Au)=some false)
  (m_TooMany_Bare:W.exmOne K (.ref Aj) (.ref AB)=some false)
  (m_TooMany_Grown:W.exmOne K (.ref Aj) (.ref As)=some false)
  (m_NoName_NoPath:W.exmOne K (.ref Ak) (.ref Al)=some false)
  (m_NoName_TooMany:W.exmOne K (.ref Ak) (.ref Aj)=some false)
  (m_NoName_NoName:W.exmOne K (.ref Ak) (.ref Ak)=some true)
  (m_NoName_Twice:W.exmOne K (.ref Ak) (.ref Au)=some false)
  (m_NoName_Bare:W.exmOne K (.ref Ak) (.ref AB)=some false)
  (m_NoName_Grown:W.exmOne K (.ref Ak) (.ref As)=some false)
  (m_Twice_NoPath:W.exmOne K (.ref Au) (.ref Al)=some false)
  (m_Twice_TooMany:W.exmOne K (.ref Au) (.ref Aj)=some false)
  (m_Twice_NoName:W.exmOne K (.ref Au) (.ref Ak)=some false)
  (m_Twice_Twice:W.exmOne K (.ref Au) (.ref Au)=some true)
  (m_Twice_Bare:W.exmOne K (.ref Au) (.ref AB)=some false)
  (m_Twice_Grown:W.exmOne K (.ref Au) (.ref As)=some false)
  (m_Bare_NoPath:W.exmOne K (.ref AB) (.ref Al)=some false)
  (m_Bare_TooMany:W.exmOne K (.ref AB) (.ref Aj)=some false)
  (m_Bare_NoName:W.exmOne K (.ref AB) (.ref Ak)=some false)
  (m_Bare_Twice:W.exmOne K (.ref AB) (.ref Au)=some false)
  (m_Bare_Bare:W.exmOne K (.ref AB) (.ref AB)=some true)
  (m_Bare_Grown:W.exmOne K (.ref AB) (.ref As)=some false)
  (m_Grown_NoPath:W.exmOne K (.ref As) (.ref Al)=some false)
  (m_Grown_TooMany:W.exmOne K (.ref As) (.ref Aj)=some false)
  (m_Grown_NoName:W.exmOne K (.ref As) (.ref Ak)=some false)
  (m_Grown_Twice:W.exmOne K (.ref As) (.ref Au)=some false)
  (m_Grown_Bare:W.exmOne K (.ref As) (.ref AB)=some false)
  (m_Grown_Grown:W.exmOne K (.ref As) (.ref As)=some true)
  (PK:W.findIn K (.ref AB) "__getattribute__"=some (some (.builtin "BaseException.__getattribute__")))
  (OU:W.findIn K (.ref AB) "__getattr__"=some none)
  (PJ:W.findIn K (.ref AB) "__class__"=some (some (.builtin "object.__class__")))
  (O5:W.specialIn K (.builtin "object.__class__") "__get__"=some (some (.builtin "getset_descriptor.__get__")))
  (O3:W.takesIn K (.builtin "object.__class__")=some true)
  (PZ:W.mroIn K AB (.type "object")=some true)
  (O2:W.mroIn K AB (.type "BaseException")=some true)
  (Ml:W.findIn K (.ref As) "__getattribute__"=some (some (.builtin "BaseException.__getattribute__")))
  (Mj:W.findIn K (.ref As) "__getattr__"=some none)
  (Ms:W.findIn K (.ref As) "__class__"=some (some (.builtin "object.__class__")))
  (Mx:W.specialIn K (.builtin "object.__class__") "__get__"=some (some (.builtin "getset_descriptor.__get__")))
  (MJ:W.takesIn K (.builtin "object.__class__")=some true)
  (Nl:W.mroIn K As (.type "object")=some true)
  (Mp:W.mroIn K As (.type "BaseException")=some true)
  (Ls:W.findIn K (.ref Ak) "__getattribute__"=some (some (.builtin "BaseException.__getattribute__")))
  (KB:W.findIn K (.ref Ak) "__getattr__"=some none)
  (KN:W.findIn K (.ref Ak) "__class__"=some (some (.builtin "object.__class__")))
  (KY:W.specialIn K (.builtin "object.__class__") "__get__"=some (some (.builtin "getset_descriptor.__get__")))
  (KW:W.takesIn K (.builtin "object.__class__")=some true)
  (Lf:W.mroIn K Ak (.type "object")=some true)
  (LC:W.mroIn K Ak (.type "BaseException")=some true)
  (Kw:W.findIn K (.ref Al) "__getattribute__"=some (some (.builtin "BaseException.__getattribute__")))
  (K1:W.findIn K (.ref Al) "__getattr__"=some none)
  (Ln:W.findIn K (.ref Al) "__class__"=some (some (.builtin "object.__class__")))
  (K3:W.specialIn K (.builtin "object.__class__") "__get__"=some (some (.builtin "getset_descriptor.__get__")))
  (K9:W.takesIn K (.builtin "object.__class__")=some true)
  (KQ:W.mroIn K Al (.type "object")=some true)
  (Le:W.mroIn K Al (.type "BaseException")=some true)
  (JJ:W.findIn K (.ref Aj) "__getattribute__"=some (some (.builtin "BaseException.__getattribute__")))
  (Jk:W.findIn K (.ref Aj) "__getattr__"=some none)
  (JI:W.findIn K (.ref Aj) "__class__"=some (some (.builtin "object.__class__")))
  (Jq:W.specialIn K (.builtin "object.__class__") "__get__"=some (some (.builtin "getset_descriptor.__get__")))
  (JH:W.takesIn K (.builtin "object.__class__")=some true)
  (JK:W.mroIn K Aj (.type "object")=some true)
  (JL:W.mroIn K Aj (.type "BaseException")=some true)
  (Mr:W.findIn K (.ref Au) "__getattribute__"=some (some (.builtin "BaseException.__getattribute__")))
  (M4:W.findIn K (.ref Au) "__getattr__"=some none)
  (Nd:W.findIn K (.ref Au) "__class__"=some (some (.builtin "object.__class__")))
  (Nz:W.specialIn K (.builtin "object.__class__") "__get__"=some (some (.builtin "getset_descriptor.__get__")))
  (MF:W.takesIn K (.builtin "object.__class__")=some true)
  (Mq:W.mroIn K Au (.type "object")=some true)
  (Mh:W.mroIn K Au (.type "BaseException")=some true)
  (K5:JU K Ak=true)
  (KO:To K Ak=true)
  (Ll:W.findIn K (.ref Ak) "__setattr__"=some (some (.builtin "object.__setattr__")))
  (KD:W.hasDictIn K Ak=true)
  (Lp:W.keepIn K (.ref Ak)=true)
  (KG:W.findIn K (.ref Ak) "name"=some none)
  (MG:JU K Au=true)
  (MW:To K Au=true)
  (Nc:W.findIn K (.ref Au) "__setattr__"=some (some (.builtin "object.__setattr__")))
  (Nh:W.hasDictIn K Au=true)
  (Mn:W.keepIn K (.ref Au)=true)
  (NF:W.findIn K (.ref Au) "name"=some none)
  (PB:JU K AB=true)
  (Pd:To K AB=true)
  (PX:W.findIn K (.ref AB) "__setattr__"=some (some (.builtin "object.__setattr__")))
  (O4:W.hasDictIn K AB=true)
  (OT:W.keepIn K (.ref AB)=true)
  (Pq:W.findIn K (.ref AB) "name"=some none)
  (Nj:JU K As=true)
  (MY:To K As=true)
  (Mw:W.findIn K (.ref As) "__setattr__"=some (some (.builtin "object.__setattr__")))
  (MD:W.hasDictIn K As=true)
  (MX:W.keepIn K (.ref As)=true)
  (Nx:W.findIn K (.ref As) "name"=some none)
  (Lr:JU K Al=true)
  (K8:To K Al=true)
  (KA:W.findIn K (.ref Al) "__setattr__"=some (some (.builtin "object.__setattr__")))
  (Lb:W.hasDictIn K Al=true)
  (KE:W.keepIn K (.ref Al)=true)
  (Lu:W.findIn K (.ref Al) "path"=some none)
  (k_NoName_NoName:W.kitOne K (.ref Ak) (.ref Ak)=some true)
  (k_NoName_NoPath:W.kitOne K (.ref Ak) (.ref Al)=some false)
  (k_NoName_Twice:W.kitOne K (.ref Ak) (.ref Au)=some false)
  (k_NoName_Bare:W.kitOne K (.ref Ak) (.ref AB)=some false)
  (k_NoName_Grown:W.kitOne K (.ref Ak) (.ref As)=some false)
  (k_NoName_TooMany:W.kitOne K (.ref Ak) (.ref Aj)=some false)
  (k_NoName_OverBound:W.kitOne K (.ref Ak) (.ref Ap)=some false)
  (k_NoPath_NoName:W.kitOne K (.ref Al) (.ref Ak)=some false)
  (k_NoPath_NoPath:W.kitOne K (.ref Al) (.ref Al)=some true)
  (k_NoPath_Twice:W.kitOne K (.ref Al) (.ref Au)=some false)
  (k_NoPath_Bare:W.kitOne K (.ref Al) (.ref AB)=some false)
  (k_NoPath_Grown:W.kitOne K (.ref Al) (.ref As)=some false)
  (k_NoPath_TooMany:W.kitOne K (.ref Al) (.ref Aj)=some false)
  (k_NoPath_OverBound:W.kitOne K (.ref Al) (.ref Ap)=some false)
  (k_Twice_NoName:W.kitOne K (.ref Au) (.ref Ak)=some false)
  (k_Twice_NoPath:W.kitOne K (.ref Au) (.ref Al)=some false)
  (k_Twice_Twice:W.kitOne K (.ref Au) (.ref Au)=some true)
  (k_Twice_Bare:W.kitOne K (.ref Au) (.ref AB)=some false)
  (k_Twice_Grown:W.kitOne K (.ref Au) (.ref As)=some false)
  (k_Twice_TooMany:W.kitOne K (.ref Au) (.ref Aj)=some false)
  (k_Twice_OverBound:W.kitOne K (.ref Au) (.ref Ap)=some false)
  (k_Bare_NoName:W.kitOne K (.ref AB) (.ref Ak)=some false)
  (k_Bare_NoPath:W.kitOne K (.ref AB) (.ref Al)=some false)
  (k_Bare_Twice:W.kitOne K (.ref AB) (.ref Au)=some false)
  (k_Bare_Bare:W.kitOne K (.ref AB) (.ref AB)=some true)
  (k_Bare_Grown:W.kitOne K (.ref AB) (.ref As)=some false)
  (k_Bare_TooMany:W.kitOne K (.ref AB) (.ref Aj)=some false)
  (k_Bare_OverBound:W.kitOne K (.ref AB) (.ref Ap)=some false)
  (k_Grown_NoName:W.kitOne K (.ref As) (.ref Ak)=some false)
  (k_Grown_NoPath:W.kitOne K (.ref As) (.ref Al)=some false)
  (k_Grown_Twice:W.kitOne K (.ref As) (.ref Au)=some false)
  (k_Grown_Bare:W.kitOne K (.ref As) (.ref AB)=some false)
  (k_Grown_Grown:W.kitOne K (.ref As) (.ref As)=some true)
  (k_Grown_TooMany:W.kitOne K (.ref As) (.ref Aj)=some false)
  (k_Grown_OverBound:W.kitOne K (.ref As) (.ref Ap)=some false)
  (k_TooMany_NoName:W.kitOne K (.ref Aj) (.ref Ak)=some false)
  (k_TooMany_NoPath:W.kitOne K (.ref Aj) (.ref Al)=some false)
  (k_TooMany_Twice:W.kitOne K (.ref Aj) (.ref Au)=some false)
  (k_TooMany_Bare:W.kitOne K (.ref Aj) (.ref AB)=some false)
  (k_TooMany_Grown:W.kitOne K (.ref Aj) (.ref As)=some false)
  (k_TooMany_TooMany:W.kitOne K (.ref Aj) (.ref Aj)=some true)
  (k_TooMany_OverBound:W.kitOne K (.ref Aj) (.ref Ap)=some false)
  (UR:W.nsIn K mainGlobals "all"=some none)
  (Rh:W.nsIn K mainGlobals "dict"=some none)
  (GZ:W.nsIn K mainGlobals "isinstance"=some none)
  (UX:W.nsIn K mainGlobals "len"=some none)
  (OX:W.nsIn K mainGlobals "range"=some none)
  (MC:W.nsIn K mainGlobals "sorted"=some none)
  (VS:W.nsIn K mainGlobals "str"=some none)
  (PQ:W.nsIn K mainGlobals "tuple"=some none)
  (Py:W.nsIn K mainGlobals "SIGNS"=some (some (.str (PySem.Str.ofString " !\"#$&'()*+,-./0123456789:;<=>?@ABCDEFGHIJKLMNOPQRSTUVWXYZ[\\]^_`abcdefghijklmnopqrstuvwxyz{|}~") t_SIGNS)))
  (Hy:W.nsIn K mainGlobals "MOST_SIGNS"=some (some (.int 400 t_MOST_SIGNS)))
  (G3:W.nsIn K mainGlobals "FILE_ENTRY"=some (some (.int 1 t_FILE_ENTRY)))
  (Gb:W.nsIn K mainGlobals "FOLDER_ENTRY"=some (some (.int 2 t_FOLDER_ENTRY)))
  (Hm:W.nsIn K mainGlobals "NAME_SIGNS"=some (some (.str (PySem.Str.ofString "0123456789abcdefghijklmnopqrstuvwxyz") t_NAME_SIGNS)))
  (EE:W.nsIn K mainGlobals "MOST_NAME_SIGNS"=some (some (.int 8 t_MOST_NAME_SIGNS)))
  (Gn:W.nsIn K mainGlobals "MOST_ENTRIES"=some (some (.int 16 t_MOST_ENTRIES)))
  (RU:W.nsIn K mainGlobals "STEM"=some (some (.int 1 t_STEM)))
  (Rv:W.nsIn K mainGlobals "SEAL"=some (some (.int 2 t_SEAL)))
  (FY:W.nsIn K mainGlobals "MOST_KEEPERS"=some (some (.int 8 t_MOST_KEEPERS)))
  (Hw:W.nsIn K mainGlobals "MOST_NAMES"=some (some (.int 24 t_MOST_NAMES)))
  (Hu:W.nsIn K mainGlobals "MOST_STEPS"=some (some (.int 8 t_MOST_STEPS)))
  (DO:W.nsIn K mainGlobals "MOST_TREE_ENTRIES"=some (some (.int 60 t_MOST_TREE_ENTRIES)))
  (E3:W.nsIn K mainGlobals "MOST_TREE_DEEP"=some (some (.int 8 t_MOST_TREE_DEEP))) :
  ∃fd:FuncData,(∀(s:Shared) (v:Value),BindsTo s fd ⟨[v],[]⟩ [("_law_script",v)])/\(∀T∈[PT,PU],K.lookup T=none/\∃c,W.codeHdIn K c T=true)/\∀base:Heap,K.In base->base.Ns mainGlobals mg->Rx mg base->FnOk l.prog w K mg base FL 10 fa fd ["_law_script"] (OS K PT PU):=by
 have e:=hfa.symm.trans (W.mg_of X G a74);cases e;have T:Txt K mg C (λn=>match n with|0=>Ak|1=>Au|2=>AB|3=>As|4=>Aj|5=>Al|6=>Aw|7=>Ap|_=>0):=⟨⟨pg,hd,po,sa⟩,n_own_head,W.mg_of X G x_NoName,W.mg_of X G x_Twice,W.mg_of X G x_Bare,W.mg_of X G x_Grown,W.mg_of X G x_TooMany,W.mg_of X G x_NoPath,W.mg_of X G x_StemError,W.mg_of X G x_OverBound,q_TooMany,m_NoPath_NoPath,m_NoPath_TooMany,m_NoPath_NoName,m_NoPath_Twice,m_NoPath_Bare,m_NoPath_Grown,m_TooMany_NoPath,m_TooMany_TooMany,m_TooMany_NoName,m_TooMany_Twice,m_TooMany_Bare,m_TooMany_Grown,m_NoName_NoPath,m_NoName_TooMany,m_NoName_NoName,m_NoName_Twice,m_NoName_Bare,m_NoName_Grown,m_Twice_NoPath,m_Twice_TooMany,m_Twice_NoName,m_Twice_Twice,m_Twice_Bare,m_Twice_Grown,m_Bare_NoPath,m_Bare_TooMany,m_Bare_NoName,m_Bare_Twice,m_Bare_Bare,m_Bare_Grown,m_Grown_NoPath,m_Grown_TooMany,m_Grown_NoName,m_Grown_Twice,m_Grown_Bare,m_Grown_Grown,⟨JJ,Jk,JI,Jq,JH,JK,JL⟩,⟨⟨Ls,KB,KN,KY,KW,Lf,LC⟩,Ll,KO,KD⟩,KG,⟨⟨Mr,M4,Nd,Nz,MF,Mq,Mh⟩,Nc,MW,Nh⟩,NF,⟨⟨PK,OU,PJ,O5,O3,PZ,O2⟩,PX,Pd,O4⟩,Pq,⟨⟨Ml,Mj,Ms,Mx,MJ,Nl,Mp⟩,Mw,MY,MD⟩,Nx,⟨⟨Kw,K1,Ln,K3,K9,KQ,Le⟩,KA,K8,Lb⟩,Lu,k_NoName_NoName,k_NoName_NoPath,k_NoName_Twice,k_NoName_Bare,k_NoName_Grown,k_NoName_TooMany,k_NoName_OverBound,k_NoPath_NoName,k_NoPath_NoPath,k_NoPath_Twice,k_NoPath_Bare,k_NoPath_Grown,k_NoPath_TooMany,k_NoPath_OverBound,k_Twice_NoName,k_Twice_NoPath,k_Twice_Twice,k_Twice_Bare,k_Twice_Grown,k_Twice_TooMany,k_Twice_OverBound,k_Bare_NoName,k_Bare_NoPath,k_Bare_Twice,k_Bare_Bare,k_Bare_Grown,k_Bare_TooMany,k_Bare_OverBound,k_Grown_NoName,k_Grown_NoPath,k_Grown_Twice,k_Grown_Bare,k_Grown_Grown,k_Grown_TooMany,k_Grown_OverBound,k_TooMany_NoName,k_TooMany_NoPath,k_TooMany_Twice,k_TooMany_Bare,k_TooMany_Grown,k_TooMany_TooMany,k_TooMany_OverBound,W.mg_none_of X G UR,W.mg_none_of X G Rh,W.mg_none_of X G GZ,W.mg_none_of X G UX,W.mg_none_of X G OX,W.mg_none_of X G MC,W.mg_none_of X G VS,W.mg_none_of X G PQ,⟨_,W.mg_of X G Py⟩,⟨_,W.mg_of X G Hy⟩,⟨_,W.mg_of X G G3⟩,⟨_,W.mg_of X G Gb⟩,⟨_,W.mg_of X G Hm⟩,⟨_,W.mg_of X G EE⟩,⟨_,W.mg_of X G Gn⟩,⟨_,W.mg_of X G RU⟩,⟨_,W.mg_of X G Rv⟩,⟨_,W.mg_of X G FY⟩,⟨_,W.mg_of X G Hw⟩,⟨_,W.mg_of X G Hu⟩,⟨_,W.mg_of X G DO⟩,⟨_,W.mg_of X G E3⟩⟩
 have F0:=AE (st:=Do) l0 c0 k0;have b0:=F0.binds (ps:=["self","name"]) λ_ _ _ _ _ _ us hl=>by
  obtain⟨_,_,rfl⟩:=ln2 hl;rfl
 have F1:=AE (st:=Dy) l1 c1 k1;have b1:=F1.binds (ps:=["self","name"]) λ_ _ _ _ _ _ us hl=>by
  obtain⟨_,_,rfl⟩:=ln2 hl;rfl
 have F2:=AE (st:=Ej) l2 c2 k2;have b2:=F2.binds (ps:=["self","name"]) λ_ _ _ _ _ _ us hl=>by
  obtain⟨_,_,rfl⟩:=ln2 hl;rfl
 have F3:=AE (st:=DF) l3 c3 k3;have b3:=F3.binds (ps:=["self","name"]) λ_ _ _ _ _ _ us hl=>by
  obtain⟨_,_,rfl⟩:=ln2 hl;rfl
 have F4:=AE (st:=Dm) l4 c4 k4;have b4:=F4.binds (ps:=["self","path"]) λ_ _ _ _ _ _ us hl=>by
  obtain⟨_,_,rfl⟩:=ln2 hl;rfl
 have F5:=AE (st:=FO) l5 c5 k5;have b5:=F5.binds (ps:=["thing","least","most"]) λ_ _ _ _ _ _ us hl=>by
  obtain⟨_,_,_,rfl⟩:=P5 hl;rfl
 have F6:=AE (st:=Lc) l6 c6 k6;have b6:=F6.binds (ps:=["house","deed"]) λ_ _ _ _ _ _ us hl=>by
  obtain⟨_,_,rfl⟩:=ln2 hl;rfl
 have F7:=AE (st:=FJ) l7 c7 k7;have b7:=F7.binds (ps:=["thing"]) λ_ _ _ _ _ _ us hl=>by
  obtain⟨_,rfl⟩:=V2 hl;rfl
 have F8:=AE (st:=DE) l8 c8 k8;have b8:=F8.binds (ps:=["some","name"]) λ_ _ _ _ _ _ us hl=>by
  obtain⟨_,_,rfl⟩:=ln2 hl;rfl
 have F9:=AE (st:=Cr) l9 c9 k9;have b9:=F9.binds (ps:=["head","name"]) λ_ _ _ _ _ _ us hl=>by
  obtain⟨_,_,rfl⟩:=ln2 hl;rfl
 have F10:=AE (st:=EZ) l10 c10 k10;have b10:=F10.binds (ps:=["head","name"]) λ_ _ _ _ _ _ us hl=>by
  obtain⟨_,_,rfl⟩:=ln2 hl;rfl
 have F11:=AE (st:=C8) l11 c11 k11;have b11:=F11.binds (ps:=["head","name"]) λ_ _ _ _ _ _ us hl=>by
  obtain⟨_,_,rfl⟩:=ln2 hl;rfl
 have F12:=AE (st:=Di) l12 c12 k12;have b12:=F12.binds (ps:=["head","name"]) λ_ _ _ _ _ _ us hl=>by
  obtain⟨_,_,rfl⟩:=ln2 hl;rfl
 have F13:=AE (st:=ET) l13 c13 k13;have b13:=F13.binds (ps:=["head"]) λ_ _ _ _ _ _ us hl=>by
  obtain⟨_,rfl⟩:=V2 hl;rfl
 have F14:=AE (st:=EO) l14 c14 k14;have b14:=F14.binds (ps:=["head","stem"]) λ_ _ _ _ _ _ us hl=>by
  obtain⟨_,_,rfl⟩:=ln2 hl;rfl
 have F15:=AE (st:=Cm) l15 c15 k15;have b15:=F15.binds (ps:=["head","name"]) λ_ _ _ _ _ _ us hl=>by
  obtain⟨_,_,rfl⟩:=ln2 hl;rfl
 have F16:=AE (st:=DG) l16 c16 k16;have b16:=F16.binds (ps:=["head"]) λ_ _ _ _ _ _ us hl=>by
  obtain⟨_,rfl⟩:=V2 hl;rfl
 have F17:=AE (st:=Cj) l17 c17 k17;have b17:=F17.binds (ps:=["head","name","keeper"]) λ_ _ _ _ _ _ us hl=>by
  obtain⟨_,_,_,rfl⟩:=P5 hl;rfl
 have F18:=AE (st:=El) l18 c18 k18;have b18:=F18.binds (ps:=["some","one"]) λ_ _ _ _ _ _ us hl=>by
  obtain⟨_,_,rfl⟩:=ln2 hl;rfl
 have F19:=AE (st:=Dd) l19 c19 k19;have b19:=F19.binds (ps:=["head","name","bound"]) λ_ _ _ _ _ _ us hl=>by
  obtain⟨_,_,_,rfl⟩:=P5 hl;rfl
 have F20:=AE (st:=DI) l20 c20 k20;have b20:=F20.binds (ps:=["head","named"]) λ_ _ _ _ _ _ us hl=>by
  obtain⟨_,_,rfl⟩:=ln2 hl;rfl
 have F21:=AE (st:=Cs) l21 c21 k21;have b21:=F21.binds (ps:=["head","names"]) λ_ _ _ _ _ _ us hl=>by
  obtain⟨_,_,rfl⟩:=ln2 hl;rfl
 have F22:=AE (st:=D5) l22 c22 k22;have b22:=F22.binds (ps:=["head"]) λ_ _ _ _ _ _ us hl=>by
  obtain⟨_,rfl⟩:=V2 hl;rfl
 have F23:=AE (st:=FM) l23 c23 k23;have b23:=F23.binds (ps:=["head","stem"]) λ_ _ _ _ _ _ us hl=>by
  obtain⟨_,_,rfl⟩:=ln2 hl;rfl
 have F24:=AE (st:=Dk) l24 c24 k24;have b24:=F24.binds (ps:=["stem","origin"]) λ_ _ _ _ _ _ us hl=>by
  obtain⟨_,_,rfl⟩:=ln2 hl;rfl
 have F25:=AE (st:=EV) l25 c25 k25;have b25:=F25.binds (ps:=["path"]) λ_ _ _ _ _ _ us hl=>by
  obtain⟨_,rfl⟩:=V2 hl;rfl
 have F26:=AE (st:=DD) l26 c26 k26;have b26:=F26.binds (ps:=["path","other"]) λ_ _ _ _ _ _ us hl=>by
  obtain⟨_,_,rfl⟩:=ln2 hl;rfl
 have F27:=AE (st:=FN) l27 c27 k27;have b27:=F27.binds (ps:=["folder","name"]) λ_ _ _ _ _ _ us hl=>by
  obtain⟨_,_,rfl⟩:=ln2 hl;rfl
 have F28:=AE (st:=Ef) l28 c28 k28;have b28:=F28.binds (ps:=["path"]) λ_ _ _ _ _ _ us hl=>by
  obtain⟨_,rfl⟩:=V2 hl;rfl
 have F29:=AE (st:=Dl) l29 c29 k29;have b29:=F29.binds (ps:=["head","name","bound"]) λ_ _ _ _ _ _ us hl=>by
  obtain⟨_,_,_,rfl⟩:=P5 hl;rfl
 have F30:=AE (st:=Dj) l30 c30 k30;have b30:=F30.binds (ps:=["head","stem","name"]) λ_ _ _ _ _ _ us hl=>by
  obtain⟨_,_,_,rfl⟩:=P5 hl;rfl
 have F31:=AE (st:=Ct) l31 c31 k31;have b31:=F31.binds (ps:=["head","stem"]) λ_ _ _ _ _ _ us hl=>by
  obtain⟨_,_,rfl⟩:=ln2 hl;rfl
 have F32:=AE (st:=Bg) l32 c32 k32;have b32:=F32.binds (ps:=["head","stem"]) λ_ _ _ _ _ _ us hl=>by
  obtain⟨_,_,rfl⟩:=ln2 hl;rfl
 have F33:=AE (st:=CO) l33 c33 k33;have b33:=F33.binds (ps:=["head","name"]) λ_ _ _ _ _ _ us hl=>by
  obtain⟨_,_,rfl⟩:=ln2 hl;rfl
 have F34:=AE (st:=B2) l34 c34 k34;have b34:=F34.binds (ps:=["self"]) λ_ _ _ _ _ _ us hl=>by
  obtain⟨_,rfl⟩:=V2 hl;rfl
 have F35:=AE (st:=BF) l35 c35 k35;have b35:=F35.binds (ps:=["self","name","bound"]) λ_ _ _ _ _ _ us hl=>by
  obtain⟨_,_,_,rfl⟩:=P5 hl;rfl
 have F36:=AE (st:=BW) l36 c36 k36;have b36:=F36.binds (ps:=["self","name","keeper"]) λ_ _ _ _ _ _ us hl=>by
  obtain⟨_,_,_,rfl⟩:=P5 hl;rfl
 have F37:=AE (st:=Bq) l37 c37 k37;have b37:=F37.binds (ps:=["self","name","keeper","tree"]) λ_ _ _ _ _ _ us hl=>by
  obtain⟨_,_,_,_,rfl⟩:=YD hl;rfl
 have F38:=AE (st:=BG) l38 c38 k38;have b38:=F38.binds (ps:=["self","stem","path"]) λ_ _ _ _ _ _ us hl=>by
  obtain⟨_,_,_,rfl⟩:=P5 hl;rfl
 have F39:=AE (st:=BK) l39 c39 k39;have b39:=F39.binds (ps:=["self","stem","path","content"]) λ_ _ _ _ _ _ us hl=>by
  obtain⟨_,_,_,_,rfl⟩:=YD hl;rfl
 have F40:=AE (st:=BA) l40 c40 k40;have b40:=F40.binds (ps:=["self","stem","path","at","many","text"]) λ_ _ _ _ _ _ us hl=>by
  obtain⟨_,_,_,_,_,_,rfl⟩:=ar hl;rfl
 have F41:=AE (st:=BH) l41 c41 k41;have b41:=F41.binds (ps:=["self","stem","path"]) λ_ _ _ _ _ _ us hl=>by
  obtain⟨_,_,_,rfl⟩:=P5 hl;rfl
 have F42:=AE (st:=B0) l42 c42 k42;have b42:=F42.binds (ps:=["self","stem","path","to"]) λ_ _ _ _ _ _ us hl=>by
  obtain⟨_,_,_,_,rfl⟩:=YD hl;rfl
 have F43:=AE (st:=BY) l43 c43 k43;have b43:=F43.binds (ps:=["self","stem","to","name","path"]) λ_ _ _ _ _ _ us hl=>by
  obtain⟨_,_,_,_,_,rfl⟩:=Z5 hl;rfl
 have F44:=AE (st:=B3) l44 c44 k44;have b44:=F44.binds (ps:=["self","stem","name"]) λ_ _ _ _ _ _ us hl=>by
  obtain⟨_,_,_,rfl⟩:=P5 hl;rfl
 have F45:=AE (st:=BS) l45 c45 k45;have b45:=F45.binds (ps:=["self","name","seal","keeper"]) λ_ _ _ _ _ _ us hl=>by
  obtain⟨_,_,_,_,rfl⟩:=YD hl;rfl
 have F46:=AE (st:=BU) l46 c46 k46;have b46:=F46.binds (ps:=["self","stem"]) λ_ _ _ _ _ _ us hl=>by
  obtain⟨_,_,rfl⟩:=ln2 hl;rfl
 have F47:=AE (st:=BL) l47 c47 k47;have b47:=F47.binds (ps:=["self","stem"]) λ_ _ _ _ _ _ us hl=>by
  obtain⟨_,_,rfl⟩:=ln2 hl;rfl
 have F48:=AE (st:=BX) l48 c48 k48;have b48:=F48.binds (ps:=["self","name"]) λ_ _ _ _ _ _ us hl=>by
  obtain⟨_,_,rfl⟩:=ln2 hl;rfl
 have F49:=AE (st:=BZ) l49 c49 k49;have b49:=F49.binds (ps:=["self","name","path"]) λ_ _ _ _ _ _ us hl=>by
  obtain⟨_,_,_,rfl⟩:=P5 hl;rfl
 have F50:=AE (st:=BM) l50 c50 k50;have b50:=F50.binds (ps:=["self","name"]) λ_ _ _ _ _ _ us hl=>by
  obtain⟨_,_,rfl⟩:=ln2 hl;rfl
 have F51:=AE (st:=Br) l51 c51 k51;have b51:=F51.binds (ps:=["self","name"]) λ_ _ _ _ _ _ us hl=>by
  obtain⟨_,_,rfl⟩:=ln2 hl;rfl
 have F52:=AE (st:=A9) l52 c52 k52;have b52:=F52.binds (ps:=["self","name"]) λ_ _ _ _ _ _ us hl=>by
  obtain⟨_,_,rfl⟩:=ln2 hl;rfl
 have F53:=AE (st:=BD) l53 c53 k53;have b53:=F53.binds (ps:=["self","stem","tree"]) λ_ _ _ _ _ _ us hl=>by
  obtain⟨_,_,_,rfl⟩:=P5 hl;rfl
 have F54:=AE (st:=Bl) l54 c54 k54;have b54:=F54.binds (ps:=["self","stem","tree"]) λ_ _ _ _ _ _ us hl=>by
  obtain⟨_,_,_,rfl⟩:=P5 hl;rfl
 have F55:=AE (st:=Eo) l55 c55 k55;have b55:=F55.binds (ps:=["tree","path"]) λ_ _ _ _ _ _ us hl=>by
  obtain⟨_,_,rfl⟩:=ln2 hl;rfl
 have F56:=AE (st:=DJ) l56 c56 k56;have b56:=F56.binds (ps:=["tree","path"]) λ_ _ _ _ _ _ us hl=>by
  obtain⟨_,_,rfl⟩:=ln2 hl;rfl
 have F57:=AE (st:=Ek) l57 c57 k57;have b57:=F57.binds (ps:=["tree","path"]) λ_ _ _ _ _ _ us hl=>by
  obtain⟨_,_,rfl⟩:=ln2 hl;rfl
 have F58:=AE (st:=DH) l58 c58 k58;have b58:=F58.binds (ps:=["tree","path"]) λ_ _ _ _ _ _ us hl=>by
  obtain⟨_,_,rfl⟩:=ln2 hl;rfl
 have F59:=AE (st:=Dc) l59 c59 k59;have b59:=F59.binds (ps:=["tree","path"]) λ_ _ _ _ _ _ us hl=>by
  obtain⟨_,_,rfl⟩:=ln2 hl;rfl
 have F60:=AE (st:=DM) l60 c60 k60;have b60:=F60.binds (ps:=["tree","more"]) λ_ _ _ _ _ _ us hl=>by
  obtain⟨_,_,rfl⟩:=ln2 hl;rfl
 have F61:=AE (st:=CN) l61 c61 k61;have b61:=F61.binds (ps:=["tree","path"]) λ_ _ _ _ _ _ us hl=>by
  obtain⟨_,_,rfl⟩:=ln2 hl;rfl
 have F62:=AE (st:=FQ) l62 c62 k62;have b62:=F62.binds (ps:=["tree","path","to"]) λ_ _ _ _ _ _ us hl=>by
  obtain⟨_,_,_,rfl⟩:=P5 hl;rfl
 have F63:=AE (st:=CM) l63 c63 k63;have b63:=F63.binds (ps:=["tree"]) λ_ _ _ _ _ _ us hl=>by
  obtain⟨_,rfl⟩:=V2 hl;rfl
 have F64:=AE (st:=EX) l64 c64 k64;have b64:=F64.binds (ps:=["_law_cell","_law_many"]) λ_ _ _ _ _ _ us hl=>by
  obtain⟨_,_,rfl⟩:=ln2 hl;rfl
 have F65:=AE (st:=Ei) l65 c65 k65;have b65:=F65.binds (ps:=["_law_row_here","_law_at","_law_names"]) λ_ _ _ _ _ _ us hl=>by
  obtain⟨_,_,_,rfl⟩:=P5 hl;rfl
 have F66:=AE (st:=Eg) l66 c66 k66;have b66:=F66.binds (ps:=["_law_row_here","_law_at","_law_names"]) λ_ _ _ _ _ _ us hl=>by
  obtain⟨_,_,_,rfl⟩:=P5 hl;rfl
 have F67:=AE (st:=Da) l67 c67 k67;have b67:=F67.binds (ps:=["_law_row_here","_law_at"]) λ_ _ _ _ _ _ us hl=>by
  obtain⟨_,_,rfl⟩:=ln2 hl;rfl
 have F68:=AE (st:=Er) l68 c68 k68;have b68:=F68.binds (ps:=["_law_row_here","_law_at"]) λ_ _ _ _ _ _ us hl=>by
  obtain⟨_,_,rfl⟩:=ln2 hl;rfl
 have F69:=AE (st:=Es) l69 c69 k69;have b69:=F69.binds (ps:=["_law_cell","_law_names"]) λ_ _ _ _ _ _ us hl=>by
  obtain⟨_,_,rfl⟩:=ln2 hl;rfl
 have F70:=AE (st:=FK) l70 c70 k70;have b70:=F70.binds (ps:=["_law_house","_law_deed_here"]) λ_ _ _ _ _ _ us hl=>by
  obtain⟨_,_,rfl⟩:=ln2 hl;rfl
 have F71:=AE (st:=Eb) l71 c71 k71;have b71:=F71.binds (ps:=["_law_e"]) λ_ _ _ _ _ _ us hl=>by
  obtain⟨_,rfl⟩:=V2 hl;rfl
 have F72:=AE (st:=Em) l72 c72 k72;have b72:=F72.binds (ps:=["_law_house","_law_deed_here","_law_by_done"]) λ_ _ _ _ _ _ us hl=>by
  obtain⟨_,_,_,rfl⟩:=P5 hl;rfl
 have F73:=AE (st:=Df) l73 c73 k73;have b73:=F73.binds (ps:=["_law_house","_law_names"]) λ_ _ _ _ _ _ us hl=>by
  obtain⟨_,_,rfl⟩:=ln2 hl;rfl
 have F74:=AE (st:=Kk) l74 c74 k74;refine⟨W.fnOf "law" "law" (Av Kk) (Ar Kk) (Ac Kk) .none kV74 dc74 pm74 an74 cd74 ct74,λs v=>.of_eq rfl,λT hT=>by
  simp only[List.mem_cons,List.not_mem_nil,or_false] at hT;rcases hT with rfl|rfl
  ·exact⟨XB,_,Wt⟩
  ·exact⟨Yx,_,WM⟩,λbase _ _ hBm=>?_⟩
 have AQ:Gq l.prog w K mg base 1 "NoName" Ak "name" ["self","name"]:=⟨_,_,⟨K5,a0,i0,Lp⟩,MI T F0,W.mg_of X G x_NoName,b0⟩
 have DC:Gq l.prog w K mg base 1 "Twice" Au "name" ["self","name"]:=⟨_,_,⟨MG,a1,i1,Mn⟩,NR T F1,W.mg_of X G x_Twice,b1⟩
 have D8:Gq l.prog w K mg base 1 "Bare" AB "name" ["self","name"]:=⟨_,_,⟨PB,a2,i2,OT⟩,Pp T F2,W.mg_of X G x_Bare,b2⟩
 have Hx:Gq l.prog w K mg base 1 "Grown" As "name" ["self","name"]:=⟨_,_,⟨Nj,a3,i3,MX⟩,NU T F3,W.mg_of X G x_Grown,b3⟩
 have A2:Gq l.prog w K mg base 1 "NoPath" Al "path" ["self","path"]:=⟨_,_,⟨Lr,a4,i4,KE⟩,Nb T F4,W.mg_of X G x_NoPath,b4⟩
 have KJ:Def l.prog w K mg base 1 "is_text" ["thing","least","most"] (JM K):=⟨_,_,RS T F5 ,W.mg_of X G a5,k5,b5⟩
 have Cb:Def l.prog w K mg base 1 "one_called" ["some","name"] (DQ K):=⟨_,_,NX T F8 ,W.mg_of X G a8,k8,b8⟩
 have Jw:Def l.prog w K mg base 1 "stems_in" ["head"] (Iz K):=⟨_,_,QM T F13 ,W.mg_of X G a13,k13,b13⟩
 have CY:Def l.prog w K mg base 1 "seals_of" ["head","stem"] (Fh K PT):=⟨_,_,P7 T F14 ⟨⟨cc14,rfl,Wt⟩,hBm⟩ ,W.mg_of X G a14,k14,b14⟩
 have DA:Bu l.prog w K mg base 1 "check_room" ["head"] (Fb K (λn=>match n with|0=>Ak|1=>Au|2=>AB|3=>As|4=>Aj|5=>Al|6=>Aw|7=>Ap|_=>0)):=⟨_,_,N2 T F16 ,W.mg_of X G a16,k16,b16⟩
 have D9:Def l.prog w K mg base 1 "put_among" ["some","one"] (FH K PU):=⟨_,_,OZ T F18 ⟨⟨cc18,rfl,WM⟩,hBm⟩ ,W.mg_of X G a18,k18,b18⟩
 have Fs:Def l.prog w K mg base 1 "without_named" ["head","names"] (EJ K):=⟨_,_,K6 T F21 ,W.mg_of X G a21,k21,b21⟩
 have A3:Def l.prog w K mg base 1 "one_older" ["head"] (CA K):=⟨_,_,Pg T F22 ,W.mg_of X G a22,k22,b22⟩
 have E5:Def l.prog w K mg base 1 "with_origin" ["stem","origin"] (Gk K):=⟨_,_,M6 T F24 ,W.mg_of X G a24,k24,b24⟩
 have Cc:Def l.prog w K mg base 1 "is_beneath" ["path","other"] (DT K):=⟨_,_,NL T F26 ,W.mg_of X G a26,k26,b26⟩
 have KZ:Def l.prog w K mg base 1 "path_to" ["folder","name"] (Je K):=⟨_,_,R8 T F27 ,W.mg_of X G a27,k27,b27⟩
 have Ea:Def l.prog w K mg base 1 "folder_of" ["path"] (FF K):=⟨_,_,Pb T F28 ,W.mg_of X G a28,k28,b28⟩
 have Dr:Yw l.prog w K mg base 1 C "PlainHouse" ["self"] (D3 K C):=⟨_,_,Jb T F34 ,⟨mk,a34,i34,kc⟩,W.mg_of X G aC,b34⟩
 have Ed:Def l.prog w K mg base 1 "is_folder" ["tree","path"] (FB K):=⟨_,_,Pw T F55 ,W.mg_of X G a55,k55,b55⟩
 have Bm:Def l.prog w K mg base 1 "with_paths" ["tree","more"] (CF K):=⟨_,_,N8 T F60 ,W.mg_of X G a60,k60,b60⟩
 have Ji:Def l.prog w K mg base 1 "_law_row" ["_law_cell","_law_many"] (Iq K):=⟨_,_,Qk T F64 ,W.mg_of X G a64,k64,b64⟩
 have Fn:Def l.prog w K mg base 1 "_law_word" ["_law_row_here","_law_at","_law_names"] (GX K):=⟨_,_,PV T F65 ,W.mg_of X G a65,k65,b65⟩
 have Gr:Def l.prog w K mg base 1 "_law_path" ["_law_row_here","_law_at","_law_names"] (Hk K):=⟨_,_,OW T F66 ,W.mg_of X G a66,k66,b66⟩
 have DP:Def l.prog w K mg base 1 "_law_number" ["_law_row_here","_law_at"] (Gh K):=⟨_,_,Nu T F67 ,W.mg_of X G a67,k67,b67⟩
 have Gv:Def l.prog w K mg base 1 "_law_text" ["_law_row_here","_law_at"] (G8 K):=⟨_,_,Pj T F68 ,W.mg_of X G a68,k68,b68⟩
 have CU:VJ l.prog w K mg base 1 "_law_kind" ["_law_e"] (C3 K (λn=>match n with|0=>Ak|1=>Au|2=>AB|3=>As|4=>Aj|5=>Al|6=>Aw|7=>Ap|_=>0)):=⟨_,_,PR T F71 ,W.mg_of X G a71,k71,b71⟩
 have DB:Def l.prog w K mg base 2 "is_name" ["thing"] (Gd K):=⟨_,_,Rg T F7 KJ,W.mg_of X G a7,k7,b7⟩
 have GD:Bu l.prog w K mg base 2 "with_keeper" ["head","name","bound"] (Ge K (λn=>match n with|0=>Ak|1=>Au|2=>AB|3=>As|4=>Aj|5=>Al|6=>Aw|7=>Ap|_=>0) PT PU):=⟨_,_,Mm T F19 D9,W.mg_of X G a19,k19,b19⟩
 have Bb:Def l.prog w K mg base 2 "with_named" ["head","named"] (Dg K PT PU):=⟨_,_,N5 T F20 D9,W.mg_of X G a20,k20,b20⟩
 have CQ:Def l.prog w K mg base 2 "without_path" ["tree","path"] (DW K):=⟨_,_,LY T F61 Cc,W.mg_of X G a61,k61,b61⟩
 have Gm:Bu l.prog w K mg base 2 "check_bounds" ["tree"] (Fq K (λn=>match n with|0=>Ak|1=>Au|2=>AB|3=>As|4=>Aj|5=>Al|6=>Aw|7=>Ap|_=>0)):=⟨_,_,L1 T F63 Ea,W.mg_of X G a63,k63,b63⟩
 have IB:Def l.prog w K mg base 2 "_law_deed" ["_law_cell","_law_names"] (GW K):=⟨_,_,Pz T F69 Ji Fn Gr DP Gv,W.mg_of X G a69,k69,b69⟩
 have Fw:Bu l.prog w K mg base 3 "keeper_called" ["head","name"] (EY K (λn=>match n with|0=>Ak|1=>Au|2=>AB|3=>As|4=>Aj|5=>Al|6=>Aw|7=>Ap|_=>0)):=⟨_,_,LB T F9 Cb AQ,W.mg_of X G a9,k9,b9⟩
 have B8:Bu l.prog w K mg base 3 "named_so" ["head","name"] (D7 K (λn=>match n with|0=>Ak|1=>Au|2=>AB|3=>As|4=>Aj|5=>Al|6=>Aw|7=>Ap|_=>0)):=⟨_,_,QF T F10 Cb AQ,W.mg_of X G a10,k10,b10⟩
 have Bf:Bu l.prog w K mg base 3 "check_new_name" ["head","name"] (Cw K (λn=>match n with|0=>Ak|1=>Au|2=>AB|3=>As|4=>Aj|5=>Al|6=>Aw|7=>Ap|_=>0)):=⟨_,_,J1 T F15 DB AQ Cb DC,W.mg_of X G a15,k15,b15⟩
 have D0:Def l.prog w K mg base 3 "steps_in" ["path"] (GA K):=⟨_,_,Qr T F25 DB,W.mg_of X G a25,k25,b25⟩
 have GF:Bu l.prog w K mg base 3 "keeper_told" ["head","name","bound"] (FS K (λn=>match n with|0=>Ak|1=>Au|2=>AB|3=>As|4=>Aj|5=>Al|6=>Aw|7=>Ap|_=>0) PT PU):=⟨_,_,ML T F29 A3 DB AQ GD,W.mg_of X G a29,k29,b29⟩
 have AX:AL l.prog w K mg base 3 C "put_tree" ["self","stem","tree"] (Bw K C (λn=>match n with|0=>Ak|1=>Au|2=>AB|3=>As|4=>Aj|5=>Al|6=>Aw|7=>Ap|_=>0) PT PU):=⟨_,_,Hz T F54 Gm A3 Bb,⟨a54,i54,k54⟩,b54⟩
 have DL:Bu l.prog w K mg base 3 "content_in" ["tree","path"] (E9 K (λn=>match n with|0=>Ak|1=>Au|2=>AB|3=>As|4=>Aj|5=>Al|6=>Aw|7=>Ap|_=>0)):=⟨_,_,NV T F56 A2,W.mg_of X G a56,k56,b56⟩
 have BN:Bu l.prog w K mg base 3 "check_there" ["tree","path"] (Du K (λn=>match n with|0=>Ak|1=>Au|2=>AB|3=>As|4=>Aj|5=>Al|6=>Aw|7=>Ap|_=>0)):=⟨_,_,MU T F59 A2,W.mg_of X G a59,k59,b59⟩
 have AM:Bu l.prog w K mg base 4 "stem_called" ["head","name"] (BP K (λn=>match n with|0=>Ak|1=>Au|2=>AB|3=>As|4=>Aj|5=>Al|6=>Aw|7=>Ap|_=>0)):=⟨_,_,MN T F11 B8 AQ,W.mg_of X G a11,k11,b11⟩
 have Dh:Bu l.prog w K mg base 4 "seal_called" ["head","name"] (Et K (λn=>match n with|0=>Ak|1=>Au|2=>AB|3=>As|4=>Aj|5=>Al|6=>Aw|7=>Ap|_=>0)):=⟨_,_,My T F12 B8 AQ,W.mg_of X G a12,k12,b12⟩
 have Ck:Bu l.prog w K mg base 4 "check_new_stem" ["head","name","keeper"] (Ds K (λn=>match n with|0=>Ak|1=>Au|2=>AB|3=>As|4=>Aj|5=>Al|6=>Aw|7=>Ap|_=>0)):=⟨_,_,J3 T F17 Bf Fw DA,W.mg_of X G a17,k17,b17⟩
 have FZ:Bu l.prog w K mg base 4 "name_dropped" ["head","name"] (Fp K (λn=>match n with|0=>Ak|1=>Au|2=>AB|3=>As|4=>Aj|5=>Al|6=>Aw|7=>Ap|_=>0) PT PU):=⟨_,_,LV T F33 B8 A3 Hx Fs Jw CY,W.mg_of X G a33,k33,b33⟩
 have A5:AL l.prog w K mg base 4 C "keeper" ["self","name","bound"] (BO K C (λn=>match n with|0=>Ak|1=>Au|2=>AB|3=>As|4=>Aj|5=>Al|6=>Aw|7=>Ap|_=>0) PT PU):=⟨_,_,HR T F35 GF,⟨a35,i35,k35⟩,b35⟩
 have AZ:AL l.prog w K mg base 4 C "tree_of" ["self","name"] (BI K C (λn=>match n with|0=>Ak|1=>Au|2=>AB|3=>As|4=>Aj|5=>Al|6=>Aw|7=>Ap|_=>0)):=⟨_,_,HD T F51 B8,⟨a51,i51,k51⟩,b51⟩
 have Eh:Bu l.prog w K mg base 4 "check_put" ["tree","path"] (FD K (λn=>match n with|0=>Ak|1=>Au|2=>AB|3=>As|4=>Aj|5=>Al|6=>Aw|7=>Ap|_=>0)):=⟨_,_,PH T F57 A2 Ed D0 Ea,W.mg_of X G a57,k57,b57⟩
 have FP:Def l.prog w K mg base 4 "carried" ["tree","path","to"] (FV K):=⟨_,_,RR T F62 Cc D0 KZ,W.mg_of X G a62,k62,b62⟩
 have KS:Def l.prog w K mg base 5 "grafted" ["head","stem"] (Jl K PT PU):=⟨_,_,Q6 T F23 AM Dh CY Bb E5,W.mg_of X G a23,k23,b23⟩
 have GH:Bu l.prog w K mg base 5 "stem_sealed" ["head","stem","name"] (Gc K (λn=>match n with|0=>Ak|1=>Au|2=>AB|3=>As|4=>Aj|5=>Al|6=>Aw|7=>Ap|_=>0) PT PU):=⟨_,_,MS T F30 AM Bf DA A3 Bb,W.mg_of X G a30,k30,b30⟩
 have Fu:Bu l.prog w K mg base 5 "stem_set_back" ["head","stem"] (E4 K (λn=>match n with|0=>Ak|1=>Au|2=>AB|3=>As|4=>Aj|5=>Al|6=>Aw|7=>Ap|_=>0) PT PU):=⟨_,_,K7 T F31 AM CY A3 D8 Bb,W.mg_of X G a31,k31,b31⟩
 have Dv:AL l.prog w K mg base 5 C "take_in" ["self","name","keeper","tree"] (Dp K C (λn=>match n with|0=>Ak|1=>Au|2=>AB|3=>As|4=>Aj|5=>Al|6=>Aw|7=>Ap|_=>0) PT PU):=⟨_,_,HE T F37 Ck AX,⟨a37,i37,k37⟩,b37⟩
 have BQ:AL l.prog w K mg base 5 C "grow" ["self","name","seal","keeper"] (CV K C (λn=>match n with|0=>Ak|1=>Au|2=>AB|3=>As|4=>Aj|5=>Al|6=>Aw|7=>Ap|_=>0) PT PU):=⟨_,_,Jy T F45 Bf Ck AX Dh,⟨a45,i45,k45⟩,b45⟩
 have BV:AL l.prog w K mg base 5 C "drop" ["self","name"] (C4 K C (λn=>match n with|0=>Ak|1=>Au|2=>AB|3=>As|4=>Aj|5=>Al|6=>Aw|7=>Ap|_=>0) PT PU):=⟨_,_,JF T F48 FZ,⟨a48,i48,k48⟩,b48⟩
 have EC:AL l.prog w K mg base 5 C "read" ["self","name","path"] (D4 K C (λn=>match n with|0=>Ak|1=>Au|2=>AB|3=>As|4=>Aj|5=>Al|6=>Aw|7=>Ap|_=>0)):=⟨_,_,Jo T F49 DL AZ,⟨a49,i49,k49⟩,b49⟩
 have D2:AL l.prog w K mg base 5 C "paths" ["self","name"] (DN K C (λn=>match n with|0=>Ak|1=>Au|2=>AB|3=>As|4=>Aj|5=>Al|6=>Aw|7=>Ap|_=>0)):=⟨_,_,IR T F50 AZ,⟨a50,i50,k50⟩,b50⟩
 have Aq:AL l.prog w K mg base 5 C "tree_of_stem" ["self","name"] (AN K C (λn=>match n with|0=>Ak|1=>Au|2=>AB|3=>As|4=>Aj|5=>Al|6=>Aw|7=>Ap|_=>0)):=⟨_,_,FX T F52 AM,⟨a52,i52,k52⟩,b52⟩
 have AF:AL l.prog w K mg base 5 C "change" ["self","stem","tree"] (A8 K C (λn=>match n with|0=>Ak|1=>Au|2=>AB|3=>As|4=>Aj|5=>Al|6=>Aw|7=>Ap|_=>0) PT PU):=⟨_,_,Ih T F53 AX AM,⟨a53,i53,k53⟩,b53⟩
 have Ca:Bu l.prog w K mg base 5 "check_free" ["tree","path"] (C9 K (λn=>match n with|0=>Ak|1=>Au|2=>AB|3=>As|4=>Aj|5=>Al|6=>Aw|7=>Ap|_=>0)):=⟨_,_,N4 T F58 Eh DC,W.mg_of X G a58,k58,b58⟩
 have CZ:Bu l.prog w K mg base 6 "stem_grafted_unbound" ["head","stem"] (CL K (λn=>match n with|0=>Ak|1=>Au|2=>AB|3=>As|4=>Aj|5=>Al|6=>Aw|7=>Ap|_=>0) PT PU):=⟨_,_,GP T F32 A3 D8 KS AM,W.mg_of X G a32,k32,b32⟩
 have A6:AL l.prog w K mg base 6 C "stem" ["self","name","keeper"] (Co K C (λn=>match n with|0=>Ak|1=>Au|2=>AB|3=>As|4=>Aj|5=>Al|6=>Aw|7=>Ap|_=>0) PT PU):=⟨_,_,Jf T F36 Dv,⟨a36,i36,k36⟩,b36⟩
 have BB:AL l.prog w K mg base 6 C "folder" ["self","stem","path"] (Cy K C (λn=>match n with|0=>Ak|1=>Au|2=>AB|3=>As|4=>Aj|5=>Al|6=>Aw|7=>Ap|_=>0) PT PU):=⟨_,_,HW T F38 Aq Ca AF Bm,⟨a38,i38,k38⟩,b38⟩
 have AR:AL l.prog w K mg base 6 C "write" ["self","stem","path","content"] (BE K C (λn=>match n with|0=>Ak|1=>Au|2=>AB|3=>As|4=>Aj|5=>Al|6=>Aw|7=>Ap|_=>0) PT PU):=⟨_,_,IM T F39 Aq Eh Ed AF A2 Bm,⟨a39,i39,k39⟩,b39⟩
 have BC:AL l.prog w K mg base 6 C "remove" ["self","stem","path"] (CB K C (λn=>match n with|0=>Ak|1=>Au|2=>AB|3=>As|4=>Aj|5=>Al|6=>Aw|7=>Ap|_=>0) PT PU):=⟨_,_,Im T F41 Aq BN AF CQ,⟨a41,i41,k41⟩,b41⟩
 have B5:AL l.prog w K mg base 6 C "move" ["self","stem","path","to"] (CW K C (λn=>match n with|0=>Ak|1=>Au|2=>AB|3=>As|4=>Aj|5=>Al|6=>Aw|7=>Ap|_=>0) PT PU):=⟨_,_,Jg T F42 Aq BN Ca AF Cc A2 Bm CQ FP,⟨a42,i42,k42⟩,b42⟩
 have B4:AL l.prog w K mg base 6 C "copy" ["self","stem","to","name","path"] (C2 K C (λn=>match n with|0=>Ak|1=>Au|2=>AB|3=>As|4=>Aj|5=>Al|6=>Aw|7=>Ap|_=>0) PT PU):=⟨_,_,JO T F43 Aq AZ Ca AF BN Bm FP,⟨a43,i43,k43⟩,b43⟩
 have Bc:AL l.prog w K mg base 6 C "seal" ["self","stem","name"] (Cn K C (λn=>match n with|0=>Ak|1=>Au|2=>AB|3=>As|4=>Aj|5=>Al|6=>Aw|7=>Ap|_=>0) PT PU):=⟨_,_,JR T F44 GH,⟨a44,i44,k44⟩,b44⟩
 have BR:AL l.prog w K mg base 6 C "back" ["self","stem"] (C1 K C (λn=>match n with|0=>Ak|1=>Au|2=>AB|3=>As|4=>Aj|5=>Al|6=>Aw|7=>Ap|_=>0) PT PU):=⟨_,_,Jr T F46 Fu,⟨a46,i46,k46⟩,b46⟩
 have E7:Def l.prog w K mg base 6 "_law_stands" ["_law_house","_law_names"] (FU K C):=⟨_,_,M3 T F73 D2 EC,W.mg_of X G a73,k73,b73⟩
 have Bz:AL l.prog w K mg base 7 C "splice" ["self","stem","path","at","many","text"] (Cz K C (λn=>match n with|0=>Ak|1=>Au|2=>AB|3=>As|4=>Aj|5=>Al|6=>Aw|7=>Ap|_=>0) PT PU):=⟨_,_,Il T F40 DL AR Aq,⟨a40,i40,k40⟩,b40⟩
 have BJ:AL l.prog w K mg base 7 C "graft" ["self","stem"] (CJ K C (λn=>match n with|0=>Ak|1=>Au|2=>AB|3=>As|4=>Aj|5=>Al|6=>Aw|7=>Ap|_=>0) PT PU):=⟨_,_,IP T F47 CZ,⟨a47,i47,k47⟩,b47⟩
 have RK:Bu l.prog w K mg base 8 "done" ["house","deed"] (Ph K C (λn=>match n with|0=>Ak|1=>Au|2=>AB|3=>As|4=>Aj|5=>Al|6=>Aw|7=>Ap|_=>0) PT PU):=⟨_,_,V6 T F6 A5 A6 BB AR Bz BC B5 B4 Bc BQ BR BJ BV,W.mg_of X G a6,k6,b6⟩
 have Lo:Bu l.prog w K mg base 8 "_law_do" ["_law_house","_law_deed_here"] (JE K C (λn=>match n with|0=>Ak|1=>Au|2=>AB|3=>As|4=>Aj|5=>Al|6=>Aw|7=>Ap|_=>0) PT PU):=⟨_,_,R4 T F70 A5 A6 BB AR Bz BC B5 B4 Bc BQ BR BJ BV,W.mg_of X G a70,k70,b70⟩
 have Gz:Def l.prog w K mg base 9 "_law_told" ["_law_house","_law_deed_here","_law_by_done"] (Hr K C PT PU):=⟨_,_,P3 T F72 RK Lo CU,W.mg_of X G a72,k72,b72⟩
 exact Yb T F74 Dr A5 A6 AR Bc IB Gz E7
theorem walk {l:W.OpenLaw} {q:Program} {loose:List Str} {XP:(Str->Option Value)->Heap->Prop} {YP:World->Heap->Prop} {d:DefRec} {K:Params->W.Frag} {PT:Addr} {PU:Addr} (hn:l.most=some 63) (hdf:d.params.defaults=[]) (ne:PT≠PU)
  (hY:∀(w:World) (h:Heap),YP w h->(K w.params).In h) (hT:∀(w:World) (h:Heap),YP w h->∀T∈[PT,PU],h.get? T=some (W.tabObj #[]))
  (F:∀(w:World) (mg:Str->Option Value) (fa:Addr) (h:Heap),(K w.params).In h->h.Ns mainGlobals mg->mg d.name=some (.ref fa)->
   ∃fd:FuncData,(∀(s:Shared) (u:Value),BindsTo s fd ⟨[u],[]⟩ [("_law_script",u)])/\(∀T∈[PT,PU],(K w.params).lookup T=none/\∃c,W.codeHdIn (K w.params) c T=true)/\∀base:Heap,(K w.params).In base->base.Ns mainGlobals mg->Rx mg base->FnOk l.prog w (K w.params) mg base FL 10 fa fd ["_law_script"] (OS (K w.params) PT PU)) :
  W.WalkO q loose XP YP l.row.toRowW d [] (λf vs=>PySem.call f vs):=
 L2.UC (n:=63) (k:=10) (x:="_law_script") (CX:=λ_=>FL) (sp:=λw=>OS (K w.params) PT PU) hn (by decide) hdf ⟨rfl,by decide,by decide⟩ hY hT F (λ_ _ a ns hl hO hS=>⟨a,ns,rfl,hS,hl,.inl (hO.1 _ (by simp)),.inl (hO.1 _ (by simp)),ne,λ_=>rfl⟩) λ_ _ _ _ _ z=>z
end K74
def PySem.W.Fast.tw15641715125113993005:Type:=PySem.Expr
theorem PySem.W.Fast.te15641715125113993005:PySem.Expr = PySem.W.Fast.tw15641715125113993005:=rfl
def PySem.W.Fast.tw90343872475197607:Type:=PySem.Params
theorem PySem.W.Fast.te90343872475197607:PySem.Params = PySem.W.Fast.tw90343872475197607:=rfl
open PySem PySem.W PyProof.Rows
set_option maxRecDepth 100000 in
set_option maxHeartbeats 0 in
theorem PySem.Challenge.cw_stemshelf_k74_deeds_done_holds : PySem.Challenge.rw_stemshelf_k74_deeds_done.Holds := by
 w_on;o_law;k_head;(case hw=>w_witness2)
 k_fill
 refine K74.walk (l:=PySem.Challenge.rw_stemshelf_k74_deeds_done) rfl rfl (by decide) (λw h Y=>W.km_in_of Y) (λw h Y=>W.km_tabs_of Y) ?F
 case F=>
  intro w mg fa h KX G hmg
  refine' K74.all_mk KX G hmg ?a0 ?i0 ?l0 ?c0 ?k0 ?a1 ?i1 ?l1 ?c1 ?k1 ?a2 ?i2 ?l2 ?c2 ?k2 ?a3 ?i3 ?l3 ?c3 ?k3 ?a4 ?i4 ?l4 ?c4 ?k4 ?a5 ?l5 ?c5 ?k5 ?a6 ?l6 ?c6 ?k6 ?a7 ?l7 ?c7 ?k7 ?a8 ?l8 ?c8 ?k8 ?a9 ?l9 ?c9 ?k9 ?a10 ?l10 ?c10 ?k10 ?a11 ?l11 ?c11 ?k11 ?a12 ?l12 ?c12 ?k12 ?a13 ?l13 ?c13 ?k13 ?a14 ?l14 ?c14 ?k14 ?Wt ?XB ?a15 ?l15 ?c15 ?k15 ?a16 ?l16 ?c16 ?k16 ?a17 ?l17 ?c17 ?k17 ?a18 ?l18 ?c18 ?k18 ?WM ?Yx ?a19 ?l19 ?c19 ?k19 ?a20 ?l20 ?c20 ?k20 ?a21 ?l21 ?c21 ?k21 ?a22 ?l22 ?c22 ?k22 ?a23 ?l23 ?c23 ?k23 ?a24 ?l24 ?c24 ?k24 ?a25 ?l25 ?c25 ?k25 ?a26 ?l26 ?c26 ?k26 ?a27 ?l27 ?c27 ?k27 ?a28 ?l28 ?c28 ?k28 ?a29 ?l29 ?c29 ?k29 ?a30 ?l30 ?c30 ?k30 ?a31 ?l31 ?c31 ?k31 ?a32 ?l32 ?c32 ?k32 ?a33 ?l33 ?c33 ?k33 ?a34 ?i34 ?l34 ?c34 ?k34 ?a35 ?i35 ?l35 ?c35 ?k35 ?a36 ?i36 ?l36 ?c36 ?k36 ?a37 ?i37 ?l37 ?c37 ?k37 ?a38 ?i38 ?l38 ?c38 ?k38 ?a39 ?i39 ?l39 ?c39 ?k39 ?a40 ?i40 ?l40 ?c40 ?k40 ?a41 ?i41 ?l41 ?c41 ?k41 ?a42 ?i42 ?l42 ?c42 ?k42 ?a43 ?i43 ?l43 ?c43 ?k43 ?a44 ?i44 ?l44 ?c44 ?k44 ?a45 ?i45 ?l45 ?c45 ?k45 ?a46 ?i46 ?l46 ?c46 ?k46 ?a47 ?i47 ?l47 ?c47 ?k47 ?a48 ?i48 ?l48 ?c48 ?k48 ?a49 ?i49 ?l49 ?c49 ?k49 ?a50 ?i50 ?l50 ?c50 ?k50 ?a51 ?i51 ?l51 ?c51 ?k51 ?a52 ?i52 ?l52 ?c52 ?k52 ?a53 ?i53 ?l53 ?c53 ?k53 ?a54 ?i54 ?l54 ?c54 ?k54 ?a55 ?l55 ?c55 ?k55 ?a56 ?l56 ?c56 ?k56 ?a57 ?l57 ?c57 ?k57 ?a58 ?l58 ?c58 ?k58 ?a59 ?l59 ?c59 ?k59 ?a60 ?l60 ?c60 ?k60 ?a61 ?l61 ?c61 ?k61 ?a62 ?l62 ?c62 ?k62 ?a63 ?l63 ?c63 ?k63 ?a64 ?l64 ?c64 ?k64 ?a65 ?l65 ?c65 ?k65 ?a66 ?l66 ?c66 ?k66 ?a67 ?l67 ?c67 ?k67 ?a68 ?l68 ?c68 ?k68 ?a69 ?l69 ?c69 ?k69 ?a70 ?l70 ?c70 ?k70 ?a71 ?l71 ?c71 ?k71 ?a72 ?l72 ?c72 ?k72 ?a73 ?l73 ?c73 ?k73 ?a74 ?l74 ?c74 ?k74 ?aC ?pg ?hd ?po ?sa ?mk ?kc ?n_own_head ?x_NoName ?x_Twice ?x_Bare ?x_Grown ?x_TooMany ?x_NoPath ?x_StemError ?x_OverBound ?q_TooMany ?m_NoPath_NoPath ?m_NoPath_TooMany ?m_NoPath_NoName ?m_NoPath_Twice ?m_NoPath_Bare ?m_NoPath_Grown ?m_TooMany_NoPath ?m_TooMany_TooMany ?m_TooMany_NoName ?m_TooMany_Twice ?m_TooMany_Bare ?m_TooMany_Grown ?m_NoName_NoPath ?m_NoName_TooMany ?m_NoName_NoName ?m_NoName_Twice ?m_NoName_Bare ?m_NoName_Grown ?m_Twice_NoPath ?m_Twice_TooMany ?m_Twice_NoName ?m_Twice_Twice ?m_Twice_Bare ?m_Twice_Grown ?m_Bare_NoPath ?m_Bare_TooMany ?m_Bare_NoName ?m_Bare_Twice ?m_Bare_Bare ?m_Bare_Grown ?m_Grown_NoPath ?m_Grown_TooMany ?m_Grown_NoName ?m_Grown_Twice ?m_Grown_Bare ?m_Grown_Grown ?PK ?OU ?PJ ?O5 ?O3 ?PZ ?O2 ?Ml ?Mj ?Ms ?Mx ?MJ ?Nl ?Mp ?Ls ?KB ?KN ?KY ?KW ?Lf ?LC ?Kw ?K1 ?Ln ?K3 ?K9 ?KQ ?Le ?JJ ?Jk ?JI ?Jq ?JH ?JK ?JL ?Mr ?M4 ?Nd ?Nz ?MF ?Mq ?Mh ?K5 ?KO ?Ll ?KD ?Lp ?KG ?MG ?MW ?Nc ?Nh ?Mn ?NF ?PB ?Pd ?PX ?O4 ?OT ?Pq ?Nj ?MY ?Mw ?MD ?MX ?Nx ?Lr ?K8 ?KA ?Lb ?KE ?Lu ?k_NoName_NoName ?k_NoName_NoPath ?k_NoName_Twice ?k_NoName_Bare ?k_NoName_Grown ?k_NoName_TooMany ?k_NoName_OverBound ?k_NoPath_NoName ?k_NoPath_NoPath ?k_NoPath_Twice ?k_NoPath_Bare ?k_NoPath_Grown ?k_NoPath_TooMany ?k_NoPath_OverBound ?k_Twice_NoName ?k_Twice_NoPath ?k_Twice_Twice ?k_Twice_Bare ?k_Twice_Grown ?k_Twice_TooMany ?k_Twice_OverBound ?k_Bare_NoName ?k_Bare_NoPath ?k_Bare_Twice ?k_Bare_Bare ?k_Bare_Grown ?k_Bare_TooMany ?k_Bare_OverBound ?k_Grown_NoName ?k_Grown_NoPath ?k_Grown_Twice ?k_Grown_Bare ?k_Grown_Grown ?k_Grown_TooMany ?k_Grown_OverBound ?k_TooMany_NoName ?k_TooMany_NoPath ?k_TooMany_Twice ?k_TooMany_Bare ?k_TooMany_Grown ?k_TooMany_TooMany ?k_TooMany_OverBound ?UR ?Rh ?GZ ?UX ?OX ?MC ?VS ?PQ ?Py ?Hy ?G3 ?Gb ?Hm ?EE ?Gn ?RU ?Rv ?FY ?Hw ?Hu ?DO ?E3
  (case aC|x_NoName|x_Twice|x_Bare|x_Grown|x_TooMany|x_NoPath|x_StemError|x_OverBound|a0|i0|l0|c0|k0|a1|i1|l1|c1|k1|a2|i2|l2|c2|k2|a3|i3|l3|c3|k3|a4|i4|l4|c4|k4|a5|l5|c5|k5|a6|l6|c6|k6|a7|l7|c7|k7|a8|l8|c8|k8|a9|l9|c9|k9|a10|l10|c10|k10|a11|l11|c11|k11|a12|l12|c12|k12|a13|l13|c13|k13|a14|l14|c14|k14=>k_is)
  (case Wt|XB=>kernel_rfl)
  (case a15|l15|c15|k15|a16|l16|c16|k16|a17|l17|c17|k17|a18|l18|c18|k18=>k_is)
  (case WM|Yx=>kernel_rfl)
  (case a19|l19|c19|k19|a20|l20|c20|k20|a21|l21|c21|k21|a22|l22|c22|k22|a23|l23|c23|k23|a24|l24|c24|k24|a25|l25|c25|k25|a26|l26|c26|k26|a27|l27|c27|k27|a28|l28|c28|k28|a29|l29|c29|k29|a30|l30|c30|k30|a31|l31|c31|k31|a32|l32|c32|k32|a33|l33|c33|k33|a34|i34|l34|c34|k34|a35|i35|l35|c35|k35|a36|i36|l36|c36|k36|a37|i37|l37|c37|k37|a38|i38|l38|c38|k38|a39|i39|l39|c39|k39|a40|i40|l40|c40|k40|a41|i41|l41|c41|k41|a42|i42|l42|c42|k42|a43|i43|l43|c43|k43|a44|i44|l44|c44|k44|a45|i45|l45|c45|k45|a46|i46|l46|c46|k46|a47|i47|l47|c47|k47|a48|i48|l48|c48|k48|a49|i49|l49|c49|k49|a50|i50|l50|c50|k50|a51|i51|l51|c51|k51|a52|i52|l52|c52|k52|a53|i53|l53|c53|k53|a54|i54|l54|c54|k54|a55|l55|c55|k55|a56|l56|c56|k56|a57|l57|c57|k57|a58|l58|c58|k58|a59|l59|c59|k59|a60|l60|c60|k60|a61|l61|c61|k61|a62|l62|c62|k62|a63|l63|c63|k63|a64|l64|c64|k64|a65|l65|c65|k65|a66|l66|c66|k66|a67|l67|c67|k67|a68|l68|c68|k68|a69|l69|c69|k69|a70|l70|c70|k70|a71|l71|c71|k71|a72|l72|c72|k72|a73|l73|c73|k73|a74|l74|c74|k74|pg|hd|po|sa|mk|kc|n_own_head=>k_is)
  (case q_TooMany=>k_exc)
  (case m_NoPath_NoPath|m_NoPath_TooMany|m_NoPath_NoName|m_NoPath_Twice|m_NoPath_Bare|m_NoPath_Grown|m_TooMany_NoPath|m_TooMany_TooMany|m_TooMany_NoName|m_TooMany_Twice|m_TooMany_Bare|m_TooMany_Grown|m_NoName_NoPath|m_NoName_TooMany|m_NoName_NoName|m_NoName_Twice|m_NoName_Bare|m_NoName_Grown|m_Twice_NoPath|m_Twice_TooMany|m_Twice_NoName|m_Twice_Twice|m_Twice_Bare|m_Twice_Grown|m_Bare_NoPath|m_Bare_TooMany|m_Bare_NoName|m_Bare_Twice|m_Bare_Bare|m_Bare_Grown|m_Grown_NoPath|m_Grown_TooMany|m_Grown_NoName|m_Grown_Twice|m_Grown_Bare|m_Grown_Grown=>kts_exm)
  (case PK|OU|PJ|O5|O3|PZ|O2|Ml|Mj|Ms|Mx|MJ|Nl|Mp|Ls|KB|KN|KY|KW|Lf|LC|Kw|K1|Ln|K3|K9|KQ|Le|JJ|Jk|JI|Jq|JH|JK|JL|Mr|M4|Nd|Nz|MF|Mq|Mh=>k_is)
  (case K5|KO=>kernel_rfl)
  (case Ll|KD|Lp|KG=>k_is)
  (case MG|MW=>kernel_rfl)
  (case Nc|Nh|Mn|NF=>k_is)
  (case PB|Pd=>kernel_rfl)
  (case PX|O4|OT|Pq=>k_is)
  (case Nj|MY=>kernel_rfl)
  (case Mw|MD|MX|Nx=>k_is)
  (case Lr|K8=>kernel_rfl)
  (case KA|Lb|KE|Lu=>k_is)
  (case k_NoName_NoName|k_NoName_NoPath|k_NoName_Twice|k_NoName_Bare|k_NoName_Grown|k_NoName_TooMany|k_NoName_OverBound|k_NoPath_NoName|k_NoPath_NoPath|k_NoPath_Twice|k_NoPath_Bare|k_NoPath_Grown|k_NoPath_TooMany|k_NoPath_OverBound|k_Twice_NoName|k_Twice_NoPath|k_Twice_Twice|k_Twice_Bare|k_Twice_Grown|k_Twice_TooMany|k_Twice_OverBound|k_Bare_NoName|k_Bare_NoPath|k_Bare_Twice|k_Bare_Bare|k_Bare_Grown|k_Bare_TooMany|k_Bare_OverBound|k_Grown_NoName|k_Grown_NoPath|k_Grown_Twice|k_Grown_Bare|k_Grown_Grown|k_Grown_TooMany|k_Grown_OverBound|k_TooMany_NoName|k_TooMany_NoPath|k_TooMany_Twice|k_TooMany_Bare|k_TooMany_Grown|k_TooMany_TooMany|k_TooMany_OverBound=>kit_is)
  (case UR|Rh|GZ|UX|OX|MC|VS|PQ|Py|Hy|G3|Gb|Hm|EE|Gn|RU|Rv|FY|Hw|Hu|DO|E3=>k_is)
