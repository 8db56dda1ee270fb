import PyProof.Rows.All
import Wide.All
import OpenK.AllK
import Wide.FinOn
import Lean
import PyProof.EqAt
import PyProof.EqKinds
import PyProof.TupleCall
import PySem.Challenge.RW_stemshelf_k30_contents_there_and_back
set_option Elab.async false
set_option linter.all false
set_option maxRecDepth 100000
namespace L2
open PySem PySem.Spec PyProof.Rows
abbrev Key:=Sum Int Str
def Mm:Key→Value→Bool
 | .inl k,v=>Value.isInt k v
 | .inr x,v=>Value.isStrOf x v
def XA (w:World):Key→Int
 | .inl k=>hashInt k
 | .inr x=>hashStr w x
theorem Bt:∀{k:Key} {v:Value},Mm k v=true→(∃i t,k=Sum.inl i∧v=Value.int i t)∨(∃x t,k=Sum.inr x∧v=Value.str x t)
 | .inl i,v,h=>by
  obtain⟨t,e⟩:=Value.isInt_shape (k:=i) (v:=v) h
  exact .inl ⟨i,t,rfl,e⟩
 | .inr x,v,h=>by
  obtain⟨t,e⟩:=Value.isStrOf_shape (x:=x) (v:=v) h
  exact .inr ⟨x,t,rfl,e⟩
theorem Rk (i:Int)(t:Tok):Mm (.inl i) (.int i t)=true:=by simp[Mm,Value.isInt]
theorem Rm (x:Str)(t:Tok):Mm (.inr x) (.str x t)=true:=by simp[Mm,Value.isStrOf]
theorem V0 (a b:Int):decide ((Sum.inl a:Key)=Sum.inl b)=(a == b):=by
 by_cases e:a=b
 ·subst e;simp
 ·have h:¬(Sum.inl a:Key)=Sum.inl b:=fun q=>e (Sum.inl.inj q)
  rw[decide_eq_false h]
  exact(beq_eq_false_iff_ne.mpr e).symm
theorem Wc (a b:Str):decide ((Sum.inr a:Key)=Sum.inr b)=decide (a=b):=by
 by_cases e:a=b
 ·subst e;simp
 ·have h:¬(Sum.inr a:Key)=Sum.inr b:=fun q=>e (Sum.inr.inj q)
  rw[decide_eq_false h,decide_eq_false e]
theorem VB (a:Int)(b:Str):decide ((Sum.inl a:Key)=Sum.inr b)=false:=decide_eq_false (fun q=>nomatch q)
theorem VR (a:Str)(b:Int):decide ((Sum.inr a:Key)=Sum.inl b)=false:=decide_eq_false (fun q=>nomatch q)
def AX (prog:Program)(w:World):PySem.KeyKind prog w Key where
 is:=Mm
 hash:=XA w
 inj:=fun v a b ha hb=>by
  rcases Bt ha with⟨i,t,rfl,rfl⟩|⟨x,t,rfl,rfl⟩
  ·rcases Bt hb with⟨j,u,rfl,e⟩|⟨y,u,rfl,e⟩
   ·injection e with e1 _;rw[e1]
   ·exact nomatch e
  ·rcases Bt hb with⟨j,u,rfl,e⟩|⟨y,u,rfl,e⟩
   ·exact nomatch e
   ·injection e with e1 _;rw[e1]
 byValue:=fun k v h=>by
  rcases Bt h with⟨i,t,rfl,rfl⟩|⟨x,t,rfl,rfl⟩<;>rfl
 pyHash:=fun hv h=>by
  rcases Bt hv with⟨i,t,rfl,rfl⟩|⟨x,t,rfl,rfl⟩
  ·exact wpAny_pyHash_int h
  ·exact wpAny_pyHash_str h
 eqBool:=fun hu hv h=>by
  rcases Bt hu with⟨i,t,rfl,rfl⟩|⟨x,t,rfl,rfl⟩
  ·rcases Bt hv with⟨j,u,rfl,rfl⟩|⟨y,u,rfl,rfl⟩
   ·rw[V0] at h;exact wpAny_eqBool_int h
   ·rw[VB] at h;exact SeqAt.EqAt.int_str i t y u _ _ _ _ h
  ·rcases Bt hv with⟨j,u,rfl,rfl⟩|⟨y,u,rfl,rfl⟩
   ·rw[VR] at h;exact SeqAt.EqAt.str_int x t j u _ _ _ _ h
   ·rw[Wc] at h;exact wpAny_eqBool_str h
 «strs»:=fun k x t v h=>by
  rcases Bt h with⟨i,u,rfl,e⟩|⟨y,u,rfl,e⟩
  ·exact nomatch e
  ·injection e with e1 _
   subst e1
   cases v<;>rfl
theorem NQ (prog:Program)(w:World)(i:Int)(t:Tok):(AX prog w).is (.inl i) (.int i t)=true:=Rk i t
theorem Og (prog:Program)(w:World)(x:Str)(t:Tok):(AX prog w).is (.inr x) (.str x t)=true:=Rm x t
end L2
namespace L2
open PySem PySem.Spec PyProof.Rows
inductive V where
 |non|bl (b:Bool)|int (i:Int)|str (x:Str)|byt (b:Array UInt8)|flt (b:UInt64)|ref (a:Addr)|ty (n:String)
 deriving DecidableEq
def RelV:V→Value→Prop
 | .non,u=>u=Value.none
 | .bl b,u=>u=Value.bool b
 | .int i,u=>∃t,u=Value.int i t
 | .str x,u=>∃t,u=Value.str x t
 | .byt b,u=>∃t,u=Value.bytes b t
 | .flt b,u=>∃t,u=Value.float b t
 | .ref a,u=>u=Value.ref a
 | .ty n,u=>u=Value.type n
abbrev AJ:List V→List Value→Prop:=Paired RelV
theorem AJ.length {xs:List V}{us:List Value}(r:AJ xs us):xs.length=us.length:=Paired.length r
theorem AJ.get:∀{xs:List V} {us:List Value} {i:Nat} {x:V},AJ xs us→xs[i]?=some x→∃u,us[i]?=some u∧RelV x u
 |_,_,_,_,.nil,e=>by simp at e
 |_,_,0,_,.cons r _,e=>by simp at e;subst e;exact⟨_,rfl,r⟩
 |_,_,i+1,x,.cons _ t,e=>by
  obtain⟨u,h1,h2⟩:=AJ.get (i:=i) (x:=x) t (by simpa using e)
  exact⟨u,by simpa using h1,h2⟩
theorem AJ.set {x:V}{u:Value}(r:RelV x u):∀{xs:List V} {us:List Value} (i:Nat),AJ xs us→AJ (xs.set i x) (us.set i u)
 |_,_,_,.nil=>.nil
 |_,_,0,.cons _ t=>.cons r t
 |_,_,i+1,.cons q t=>.cons q (AJ.set r i t)
theorem AJ.append:∀{xs ys:List V} {us ws:List Value},AJ xs us→AJ ys ws→AJ (xs++ys) (us++ws)
 |_,_,_,_,.nil,s=>s
 |_,_,_,_,.cons r t,s=>.cons r (AJ.append t s)
theorem AJ.take:∀{xs:List V} {us:List Value} (n:Nat),AJ xs us→AJ (xs.take n) (us.take n)
 |_,_,0,_=>.nil
 |_,_,_+1,.nil=>.nil
 |_,_,n+1,.cons r t=>.cons r (AJ.take n t)
theorem AJ.drop:∀{xs:List V} {us:List Value} (n:Nat),AJ xs us→AJ (xs.drop n) (us.drop n)
 |_,_,0,r=>r
 |_,_,_+1,.nil=>.nil
 |_,_,n+1,.cons _ t=>AJ.drop n t
theorem AJ.none_of:∀{xs:List V} {us:List Value} {i:Nat},AJ xs us→xs[i]?=none→us[i]?=none:=fun{xs us i} r e=>by
 have h1:=r.length
 have h2:xs.length≤i:=List.getElem?_eq_none_iff.mp e
 exact List.getElem?_eq_none_iff.mpr (by omega)
def Gc:Option V→Option Value→Prop
 |some v,some u=>RelV v u
 |none,none=>True
 |_,_=>False
def KV {κ:Type}:List (κ×V)→List (κ×Value)→Prop:=Paired fun(p:κ×V) (q:κ×Value)=>p.1=q.1∧RelV p.2 q.2
def kV:Key→V
 | .inl i=>.int i
 | .inr x=>.str x
inductive HO where
 |lst (xs:List V)
 |tup (xs:List V)
 |dK (kvs:List (Key×V))|dT (kvs:List (List Key×V))
 |set (S:Int→Bool) (n:Nat)
 |ins (C dx:Addr) (fs:List (Str×V))
 |own (x:Addr)
 |xd (fs:List (Str×V))
 |met (f x:Addr)
 |rng (lo hi:Int)
 |frz (o:Obj) (u:HO)
 |tbl (ps:Array Value)
 |ext (φ:Heap→Prop)
abbrev Hp:=Addr→Option HO
def upd (H:Hp)(a:Addr)(o:HO):Hp:=fun b=>if b=a then some o else H b
theorem Ag {H:Hp}{a:Addr}{o:HO}:upd H a o a=some o:=by unfold upd;rw[if_pos rfl]
theorem Aj {H:Hp}{a b:Addr}{o:HO}(h:b≠a):upd H a o b=H b:=by unfold upd;rw[if_neg h]
theorem Fi {H:Hp}{a:Addr}{o u:HO}:upd (upd H a o) a u=upd H a u:=by
 funext b;unfold upd;split<;>rfl
theorem AW {H:Hp}{a b:Addr}{o u:HO}(h:H a=some o)(h':H b=some u)(d:o≠u):a≠b:=by
 intro e;subst e;rw[h] at h';exact d (Option.some.inj h')
theorem AD {H:Hp}{a b:Addr}{o:HO}(h:H a=some o)(h':H b=none):a≠b:=by
 intro e;subst e;rw[h] at h';cases h'
section
variable (P:Program)(w:World)
def Bj (H:Hp)(h:Heap)(a:Addr):HO→Prop
 | .lst xs=>xs.length≤sizeLine∧∃(its:List Value) (n:Nat),AJ xs its∧h.get? a=some { cls:=.type "list",data:=.seq its.toArray n }
 | .tup xs=>xs.length≤sizeLine∧∃its:List Value,AJ xs its∧IsTup h a its.toArray
 | .dK kvs=>kvs.length≤sizeLine∧(a == sysModules)=false∧∃vs,KV kvs vs∧h.DictOf (AX P w) a vs
 | .dT kvs=>kvs.length≤sizeLine∧(a == sysModules)=false∧∃xs:List (List Key×Addr×Value),
   Paired (fun(p:List Key×V) (q:List Key×Addr×Value)=>p.1=q.1∧H q.2.1=some (.tup (p.1.map kV))∧RelV p.2 q.2.2) kvs xs∧
   ∃o es ep,h.get? a=some o∧o.ExactDict∧o.data=.dict es ep∧es.toList=xs.map (entryOfKey (tupleKind (AX P w)))∧(xs.map (·.1)).Nodup
 | .set S n=>h.SetOf (intKind P w) a S n
 | .ins C dx fs=>H dx=some (.own a)∧fs.length≤1000∧dx≠a∧h.get? a=some (PySem.W.instObj C dx)∧
   ∃mA,h.Ns1 dx mA∧(∀f,Gc (fs.lookup f) (mA f))∧PySem.Within mA (fs.map (·.1))
 | .own _=>∃o,h.get? a=some o
 | .xd fs=>∃mA,h.Ns1 a mA∧∀f,Gc (fs.lookup f) (mA f)
 | .rng lo hi=>∃t u v,h.get? a=some { cls:=.type "range",data:=.fields #[.int lo t,.int hi u,.int 1 v] }
 | .frz o u=>h.get? a=some o∧Bj H h a u
 | .tbl ps=>h.get? a=some { cls:=.none,data:=.fields ps }
 | .met f x=>h.get? a=some (PySem.W.methodObj (.ref f) (.ref x))
 | .ext φ=>φ h∧(∃o,h.get? a=some o)∧∀h1 h2:Heap,φ h1→(∀o,h1.get? a=some o→h2.get? a=some o)→φ h2
def Ie (H:Hp)(h:Heap):Prop:=∀a o,H a=some o→Bj P w H h a o
end
section
variable {P:Program}{w:World}{H H':Hp}{h h':Heap}{a:Addr}{o:HO}
theorem Bj.lt (x:Bj P w H h a o):a<h.objs.size:=by
 cases o with
 |lst xs=>obtain⟨_,_,_,_,e⟩:=x;exact Heap.lt_size e
 |tup xs=>obtain⟨_,_,_,p⟩:=x;exact p.lt
 |dK kvs=>obtain⟨_,_,_,_,o,_,_,e,_⟩:=x;exact Heap.lt_size e
 |dT kvs=>obtain⟨_,_,_,_,o,_,_,e,_⟩:=x;exact Heap.lt_size e
 |set S n=>obtain⟨o,_,_,_,e,_⟩:=x;exact Heap.lt_size e
 |ins C dx fs=>obtain⟨_,_,_,e,_⟩:=x;exact Heap.lt_size e
 |own y=>obtain⟨_,e⟩:=x;exact Heap.lt_size e
 |xd fs=>obtain⟨_,⟨_,_,_,e,_⟩,_⟩:=x;exact Heap.lt_size e
 |rng lo hi=>obtain⟨_,_,_,e⟩:=x;exact Heap.lt_size e
 |frz ob u=>obtain⟨e,_⟩:=x;exact Heap.lt_size e
 |tbl ps=>exact Heap.lt_size (show h.get? a=some _ from x)
 |met f y=>exact Heap.lt_size (show h.get? a=some _ from x)
 |ext φ=>obtain⟨_,⟨_,e⟩,_⟩:=x;exact Heap.lt_size e
theorem Paired.mapP {α β:Type}{F G:α→β→Prop}:∀{l₁:List α} {l₂:List β},Paired F l₁ l₂→(∀a b,F a b→G a b)→Paired G l₁ l₂
 |_,_,.nil,_=>.nil
 |_,_,.cons r t,f=>.cons (f _ _ r) (Paired.mapP t f)
theorem Bj.stay (x:Bj P w H h a o) (k:∀b u,(b=a∨H b=some (.own a))→h.get? b=some u→h'.get? b=some u)
  (ho:∀b,H b=some (.own a)→H' b=some (.own a)) (ht:∀b xs,H b=some (.tup xs)→H' b=some (.tup xs)):Bj P w H' h' a o:=by
 induction o with
 |lst xs=>obtain⟨z,its,n,r,e⟩:=x;exact⟨z,its,n,r,k _ _ (.inl rfl) e⟩
 |tup xs=>obtain⟨z,its,r,ob,e,c⟩:=x;exact⟨z,its,r,ob,k _ _ (.inl rfl) e,c⟩
 |dK kvs=>obtain⟨z,y,vs,r,ob,es,ep,e,c⟩:=x;exact⟨z,y,vs,r,ob,es,ep,k _ _ (.inl rfl) e,c⟩
 |dT kvs=>
  obtain⟨z,y,xs,r,ob,es,ep,e,c⟩:=x
  exact⟨z,y,xs,Paired.mapP r fun p q z=>⟨z.1,ht _ _ z.2.1,z.2.2⟩,ob,es,ep,k _ _ (.inl rfl) e,c⟩
 |set S n=>obtain⟨ob,es,ep,t,e,c⟩:=x;exact⟨ob,es,ep,t,k _ _ (.inl rfl) e,c⟩
 |ins C dx fs=>
  obtain⟨d,z,ne,e,mA,⟨od,es,ep,e2,c⟩,r⟩:=x
  exact⟨ho _ d,z,ne,k _ _ (.inl rfl) e,mA,⟨od,es,ep,k _ _ (.inr d) e2,c⟩,r⟩
 |own y=>obtain⟨ob,e⟩:=x;exact⟨ob,k _ _ (.inl rfl) e⟩
 |xd fs=>obtain⟨mA,⟨od,es,ep,e,c⟩,r⟩:=x;exact⟨mA,⟨od,es,ep,k _ _ (.inl rfl) e,c⟩,r⟩
 |rng lo hi=>obtain⟨t,u,v,e⟩:=x;exact⟨t,u,v,k _ _ (.inl rfl) e⟩
 |frz ob u ih=>obtain⟨e,q⟩:=x;exact⟨k _ _ (.inl rfl) e,ih q⟩
 |tbl ps=>
  have e:h.get? a=some { cls:=.none,data:=.fields ps }:=x
  show h'.get? a=some { cls:=.none,data:=.fields ps }
  exact k a _ (.inl rfl) e
 |met f y=>
  have e:h.get? a=some (PySem.W.methodObj (.ref f) (.ref y)):=x
  show h'.get? a=some (PySem.W.methodObj (.ref f) (.ref y))
  exact k a _ (.inl rfl) e
 |ext φ=>obtain⟨p,⟨o,e⟩,st⟩:=x;exact⟨st _ _ p fun o q=>k _ _ (.inl rfl) q,⟨o,k _ _ (.inl rfl) e⟩,st⟩
theorem Ie.lt (x:Ie P w H h)(e:H a=some o):a<h.objs.size:=(x a o e).lt
theorem Ie.fresh (x:Ie P w H h)(e:h.objs.size≤a):H a=none:=by
 cases q:H a with
 |none=>rfl
 |some u=>exact absurd (Nat.lt_of_lt_of_le (x.lt q) e) (Nat.lt_irrefl _)
theorem Ie.kept (x:Ie P w H h)(k:∀b u,h.get? b=some u→h'.get? b=some u):Ie P w H h':=fun a o e=>
 (x a o e).stay (fun b u _ q=>k b u q) (fun _ q=>q) fun _ _ q=>q
theorem Ie.laid (x:Ie P w H h)(k:∀b u,h.get? b=some u→h'.get? b=some u)(hp:h.objs.size≤a)(new:Bj P w (upd H a o) h' a o):Ie P w (upd H a o) h':=fun b u e=>by
 have hn:=x.fresh hp
 by_cases hb:b=a
 ·subst hb;rw[Ag] at e;cases e;exact new
 ·rw[Aj hb] at e
  exact(x b u e).stay (fun c v _ q=>k c v q) (fun c q=>by rw[Aj (AD q hn)];exact q) fun c xs q=>by rw[Aj (AD q hn)];exact q
end
def Rd (H:Hp)(a:Addr)(u:HO):Prop:=H a=some u∨∃o,H a=some (.frz o u)
theorem Rd.of {H:Hp}{a:Addr}{u:HO}(h:H a=some u):Rd H a u:=.inl h
theorem Rd.ok {P:Program}{w:World}{H:Hp}{h:Heap}{a:Addr}{u:HO}(r:Rd H a u)(x:Ie P w H h):Bj P w H h a u:=by
 rcases r with r|⟨o,r⟩
 ·exact x a u r
 ·obtain⟨_,q⟩:=x a _ r
  exact q
def WM:Option HO→Prop
 |some (.lst _)=>True
 |some (.dK _)=>True
 |some (.dT _)=>True
 |some (.set _ _)=>True
 |some (.ins _ _ _)=>True
 |some (.ext _)=>True
 |_=>False
section
variable {P:Program}{w:World}{H:Hp}{h h':Heap}{x e:Addr}{o':HO}
theorem Ie.write (ok:Ie P w H h) (mu:WM (H x)) (he:e=x∨H e=some (.own x)) (k:∀b u,b≠e→h.get? b=some u→h'.get? b=some u) (heo:∃u,h'.get? e=some u)
  (new:Bj P w (upd H x o') h' x o'):Ie P w (upd H x o') h':=fun b u q=>by
 have nown:∀c y,H c=some (.own y)→c≠x:=fun c y r z=>by subst z;rw[r] at mu;exact mu
 have ntup:∀c xs,H c=some (.tup xs)→c≠x:=fun c xs r z=>by subst z;rw[r] at mu;exact mu
 by_cases hb:b=x
 ·subst hb;rw[Ag] at q;cases q;exact new
 ·rw[Aj hb] at q
  by_cases hbe:b=e
  ·have q':H b=some (.own x):=by
    rcases he with z|z
    ·exact absurd (hbe.trans z) hb
    ·rw[hbe];exact z
   rw[q] at q';cases q'
   obtain⟨v,hv⟩:=heo
   exact⟨v,by rw[hbe];exact hv⟩
  ·refine(ok b u q).stay (fun c v hc r=>k c v ?_ r) (fun c r=>by rw[Aj (nown c b r)];exact r) fun c xs r=>by rw[Aj (ntup c xs r)];exact r
   rcases hc with rfl|hc
   ·exact hbe
   ·rintro rfl
    rcases he with z|z
    ·exact nown c b hc z
    ·rw[hc] at z;cases z;exact hb rfl
end
structure Un (fs ex:List Addr) (H H':Hp) (h h':Heap):Prop where
 keep:∀b o,h.get? b=some o→H b=none→b∉fs→b∉ex→h'.get? b=some o
 slot:∀b o,h.get? b=some o→H b=none→b∈fs→b∉ex→∃sl,h'.get? b=some { o with slots:=sl }
 free:∀b o,h.get? b=some o→H b=none→b∉ex→H' b=none
 there:∀b o,h.get? b=some o→b∉ex→∃o',h'.get? b=some o'
 tups:∀b xs,H b=some (.tup xs)→H' b=some (.tup xs)
 frzs:∀b o u,H b=some (.frz o u)→H' b=some (.frz o u)
 tbls:∀b ps,H b=some (.tbl ps)→∃more,H' b=some (.tbl (ps++more))
section
variable {fs fs' ex ex':List Addr}{H H1 H2:Hp}{h h1 h2 h':Heap}{a x e:Addr}{o:HO}
theorem Un.any (u:Un fs ex H H1 h h1){b:Addr}{ob:Obj}(q:h.get? b=some ob)(n:H b=none)(hx:b∉ex):∃sl,h1.get? b=some { ob with slots:=sl }:=by
 by_cases hb:b∈fs
 ·exact u.slot b ob q n hb hx
 ·exact⟨ob.slots,u.keep b ob q n hb hx⟩
theorem Un.trans (a:Un fs ex H H1 h h1)(b:Un fs ex H1 H2 h1 h2):Un fs ex H H2 h h2 where
 keep:=fun c ob q n hc hx=>b.keep c ob (a.keep c ob q n hc hx) (a.free c ob q n hx) hc hx
 slot:=fun c ob q n hc hx=>by
  obtain⟨sl,e1⟩:=a.slot c ob q n hc hx
  obtain⟨sl',e2⟩:=b.slot c _ e1 (a.free c ob q n hx) hc hx
  exact⟨sl',e2⟩
 free:=fun c ob q n hx=>by
  obtain⟨o',e1⟩:=a.there c ob q hx
  exact b.free c o' e1 (a.free c ob q n hx) hx
 there:=fun c ob q hx=>by
  obtain⟨o',e1⟩:=a.there c ob q hx
  exact b.there c o' e1 hx
 tups:=fun c xs q=>b.tups c xs (a.tups c xs q)
 frzs:=fun c ob xs q=>b.frzs c ob xs (a.frzs c ob xs q)
 tbls:=fun c ps q=>by
  obtain⟨m1,e1⟩:=a.tbls c ps q
  obtain⟨m2,e2⟩:=b.tbls c _ e1
  exact⟨m1++m2,by rw[e2,Array.append_assoc]⟩
theorem Un.kept (k:∀b u,h.get? b=some u→h'.get? b=some u):Un fs ex H H h h':=
 ⟨fun b ob q _ _ _=>k b ob q,fun b ob q _ _ _=>⟨ob.slots,k b ob q⟩,fun _ _ _ n _=>n,fun b ob q _=>⟨ob,k b ob q⟩,fun _ _ q=>q,fun _ _ _ q=>q,fun _ ps q=>⟨#[],by rw[q];simp⟩⟩
theorem Un.refl:Un fs ex H H h h:=Un.kept fun _ _ q=>q
theorem Un.laid (k:∀b u,h.get? b=some u→h'.get? b=some u)(hp:h.objs.size≤a)(hn:H a=none):Un fs ex H (upd H a o) h h' where
 keep:=fun b u q _ _ _=>k b u q
 slot:=fun b u q _ _ _=>⟨u.slots,k b u q⟩
 free:=fun b u q n _=>by rw[Aj (Nat.ne_of_lt (Nat.lt_of_lt_of_le (Heap.lt_size q) hp))];exact n
 there:=fun b u q _=>⟨u,k b u q⟩
 tups:=fun b xs q=>by rw[Aj (AD q hn)];exact q
 frzs:=fun b u xs q=>by rw[Aj (AD q hn)];exact q
 tbls:=fun b ps q=>⟨#[],by rw[Aj (AD q hn),q];simp⟩
theorem Un.write (mu:WM (H x))(he:e=x∨H e=some (.own x))(k:∀b u,b≠e→h.get? b=some u→h'.get? b=some u)(heo:∃u,h'.get? e=some u):Un fs ex H (upd H x o) h h':=by
 have hx:∀b,H b=none→b≠x:=fun b n z=>by subst z;rw[n] at mu;exact mu
 have hb:∀b,H b=none→b≠e:=fun b n z=>by
  subst z
  rcases he with r|r
  ·exact hx b n r
  ·rw[n] at r;cases r
 have hm:∀b u,H b=some u→¬WM (some u)→b≠x:=fun b u q nm z=>by subst z;rw[q] at mu;exact nm mu
 refine⟨fun b u q n _ _=>k b u (hb b n) q,fun b u q n _ _=>⟨u.slots,k b u (hb b n) q⟩,fun b u q n _=>by rw[Aj (hx b n)];exact n,fun b u q _=>?_,
  fun b xs q=>by rw[Aj (hm b _ q fun z=>z)];exact q,fun b u xs q=>by rw[Aj (hm b _ q fun z=>z)];exact q,fun b ps q=>⟨#[],by rw[Aj (hm b _ q fun z=>z),q];simp⟩⟩
 by_cases hbe:b=e
 ·subst hbe;exact heo
 ·exact⟨u,k b u hbe q⟩
theorem Un.mono (u:Un fs ex H H1 h h1)(hs:∀b∈fs,b∈fs')(hx:∀b∈ex,b∈ex'):Un fs' ex' H H1 h h1:=
 ⟨fun b ob q n hb he=>u.keep b ob q n (fun z=>hb (hs b z)) fun z=>he (hx b z),fun _ _ q n _ he=>u.any q n fun z=>he (hx _ z),fun b ob q n he=>u.free b ob q n fun z=>he (hx b z),fun b ob q he=>u.there b ob q fun z=>he (hx b z),u.tups,u.frzs,u.tbls⟩
end
def WV (h:Heap)(H:Hp):List Addr:=(List.range h.objs.size).filter fun a=>(H a).isSome
def MR (h:Heap)(H:Hp):Heap:=PySem.W.hideAll h (WV h H)
theorem Q3 (h:Heap)(H:Hp):(MR h H).objs.size=h.objs.size:=PySem.W.hideAll_size _ _
theorem RR {h:Heap}{H:Hp}{b:Addr}{o:Obj}(e:h.get? b=some o)(n:H b=none):(MR h H).get? b=some o:=
 PySem.W.hideAll_get _ e fun hm=>by
  have q:(H b).isSome=true:=(List.mem_filter.mp hm).2
  rw[n] at q;simp at q
theorem UW {h:Heap}{H:Hp}{b:Addr}{o:Obj}(e:(MR h H).get? b=some o):h.get? b=some o∧H b=none:=by
 have e':h.get? b=some o:=PySem.W.of_hideAll (WV h H) e
 refine⟨e',?_⟩
 cases q:H b with
 |none=>rfl
 |some x=>
  have hm:b∈WV h H:=List.mem_filter.mpr ⟨List.mem_range.mpr (Heap.lt_size e'),by simp[q]⟩
  have z:(MR h H).get? b=none:=PySem.W.hideAll_none (WV h H) hm
  rw[z] at e;cases e
def Uo (g h:Heap)(L:Addr):List (Addr×Obj):=(List.range h.objs.size).filterMap fun a=>if a=L∨(g.get? a).isSome=true then none else(h.get? a).map fun o=>(a,o)
def rest (g h:Heap)(L d:Addr):List (Addr×Obj):=(Uo g h L).filter fun p=>decide (p.1≠d)
end L2
namespace L2
open PySem PySem.Spec PyProof.Rows
structure Mod (K:PySem.W.Frag) (mg:Str→Option Value) (base:Heap):Prop where
 kin:K.In base
 glob:base.Ns mainGlobals mg
 blt:∃mb,base.Ns builtinsNs mb∧∀x:Str,x≠"__name__"→mb x=bootBuiltins x
 nolimit:base.NoLimit
structure Cx where
 prog:Program
 w:World
 K:PySem.W.Frag
 mg:Str→Option Value
 base:Heap
 A:Around
 N:List Str
 s₀:Shared
 H₀:Hp
 env:Env
 outer:List Env
 stack:List Env
 ex:List Addr
 fn:Str→Bool
 calm:Bool
 pn:List (Addr×Obj)
 xe:Value→Shared→Prop
def NM (l:List Env):List Addr:=l.filterMap (·.frame)
abbrev Cx.fs (X:Cx):List Addr:=NM X.outer
def W3 (sc:Scope)(x:Str):Prop:=sc.names.lookup x=some .local∨sc.names.lookup x=some .cell∨sc.names.lookup x=some .free
def Loc (sc:Scope)(x:Str):Prop:=sc.names.lookup x=some .local∨sc.names.lookup x=some .cell
def Look (env:Env)(h:Heap)(m:Str→Option Value)(x:Str)(u:Value):Prop:=
 (env.kindOf x=some .local∧m x=some u)∨((env.kindOf x=some .cell∨env.kindOf x=some .free)∧∃c,env.cells.lookup x=some c∧h.IsCell c (some u))
structure Cx.Ok (X:Cx):Prop where
 mod:Mod X.K X.mg X.base
 kind:X.env.scope.kind=.function
 glob:X.env.globals=mainGlobals
 blt:X.env.builtins=builtinsNs
 above:X.s₀.heap.objs.size≤X.env.locals
 inj:∀x y c,X.env.cells.lookup x=some c→X.env.cells.lookup y=some c→x=y
 has:∀x,(X.env.kindOf x=some .cell∨X.env.kindOf x=some .free)→∃c,X.env.cells.lookup x=some c
 cab:∀x c,X.fn x=true→X.env.cells.lookup x=some c→X.s₀.heap.objs.size≤c
 hd:X.calm=true→X.A.handled=none
 frames:X.A.frames=some X.stack
 stk:X.stack=X.outer∨(X.stack=X.env::X.outer∧X.env.frame=some X.env.locals)
 exf:∀b∈X.ex,b≠X.env.locals∧∀x c,X.env.cells.lookup x=some c→c≠b
 bs:∀b o,X.base.get? b=some o→X.s₀.heap.get? b=some o∧X.H₀ b=none
 bsz:X.base.objs.size≤X.s₀.heap.objs.size
 noex:∀b o,X.base.get? b=some o→b∉X.ex
 exfs:∀b∈X.ex,b∉X.fs
 funs:X.s₀.heap.FunFrames X.base X.outer
 frf:∀b∈X.fs,X.H₀ b=none
structure Inv (X:Cx) (pins:List (Addr×Obj)) (σ:List (Option V)) (H:Hp) (s:Shared):Prop where
 ok:X.Ok
 os:s.os=X.s₀.os
 bare:AllBare s.gens
 base:Un X.fs X.ex X.H₀ H X.s₀.heap s.heap
 loc:∃m,s.heap.Ns X.env.locals m∧∀(i:Nat) (x:Str) (v:V),X.N[i]?=some x→σ[i]?=some (some v)→W3 X.env.scope x→∃u,RelV v u∧Look X.env s.heap m x u
 cell:∀x c,X.env.cells.lookup x=some c→∃v,s.heap.IsCell c v
 free:H X.env.locals=none
 freeC:∀x c,X.env.cells.lookup x=some c→H c=none
 pin:∀p∈X.pn++pins,s.heap.get? p.1=some p.2∧H p.1=none∧p.1≠X.env.locals∧p.1∉X.fs∧∀v,p.2.data≠.cell v
 hok:Ie X.prog X.w H s.heap
 len:σ.length=X.N.length
section
variable {X:Cx}{pins:List (Addr×Obj)}{σ:List (Option V)}{H H':Hp}{s:Shared}{h':Heap}
theorem Cx.Ok.nofr (ok:X.Ok){b:Addr}{o:Obj}(e:X.base.get? b=some o):b∉X.fs:=fun hb=>by
 have:=(ok.funs.mem hb).1
 rw[e] at this;cases this
theorem Inv.bs (I:Inv X pins σ H s):∀b o,X.base.get? b=some o→s.heap.get? b=some o∧H b=none:=fun b o e=>
 ⟨I.base.keep b o (I.ok.bs b o e).1 (I.ok.bs b o e).2 (I.ok.nofr e) (I.ok.noex b o e),I.base.free b o (I.ok.bs b o e).1 (I.ok.bs b o e).2 (I.ok.noex b o e)⟩
theorem Inv.bk (I:Inv X pins σ H s):∀b o,X.base.get? b=some o→s.heap.get? b=some o:=fun b o e=>(I.bs b o e).1
theorem Inv.mod (I:Inv X pins σ H s):Mod X.K X.mg X.base:=I.ok.mod
theorem Inv.kIn (I:Inv X pins σ H s):X.K.In s.heap:=I.ok.mod.kin.keeps I.bk
theorem Inv.nolimit (I:Inv X pins σ H s):s.heap.NoLimit:=I.ok.mod.nolimit.keeps I.bk
theorem Inv.fr (I:Inv X pins σ H s):∃m,Fr X.base X.env.locals s.heap m:=
 let⟨m,hn,_⟩:=I.loc
 ⟨m,hn,I.bk,Nat.le_trans I.ok.bsz I.ok.above⟩
theorem Inv.lt (I:Inv X pins σ H s):X.env.locals<s.heap.objs.size:=let⟨_,hn,_⟩:=I.loc;hn.lt
theorem Inv.sz (I:Inv X pins σ H s):X.s₀.heap.objs.size≤s.heap.objs.size:=Nat.le_trans I.ok.above (Nat.le_of_lt I.lt)
theorem Inv.nofs (I:Inv X pins σ H s){a:Addr}(h:s.heap.objs.size≤a):a∉X.fs:=fun hb=>by
 obtain⟨_,o,ho,_⟩:=I.ok.funs.mem hb
 exact absurd (Nat.lt_of_lt_of_le (Heap.lt_size ho) (Nat.le_trans I.sz h)) (Nat.lt_irrefl _)
theorem Inv.cne (I:Inv X pins σ H s):∀x c,X.env.cells.lookup x=some c→c≠X.env.locals:=fun x c e z=>by
 obtain⟨v,o,ho,hd⟩:=I.cell x c e
 obtain⟨m,⟨o',es,ep,ho',hd',_⟩,_⟩:=I.loc
 rw[z,ho'] at ho;cases ho;rw[hd'] at hd;cases hd
theorem Inv.funs (I:Inv X pins σ H s):s.heap.FunFrames X.base X.outer:=by
 have all:∀(l:List Env),(∀b∈NM l,b∈X.fs)→X.s₀.heap.FunFrames X.base l→s.heap.FunFrames X.base l:=by
  intro l
  induction l with
  |nil=>intro _ _;trivial
  |cons env r ih=>
   intro hs hl
   obtain⟨hk,⟨L,o,hf,hn,ho,hd⟩,hr⟩:=hl
   have hL:L∈X.fs:=hs L (by unfold NM;rw[List.filterMap_cons,hf];exact List.mem_cons_self)
   obtain⟨sl,e⟩:=I.base.slot L o ho (I.ok.frf L hL) hL fun z=>I.ok.exfs L z hL
   exact⟨hk,⟨L,_,hf,hn,e,hd⟩,ih (fun b hb=>hs b (by unfold NM;rw[List.filterMap_cons,hf];exact List.mem_cons_of_mem _ hb)) hr⟩
 exact all X.outer (fun _ hb=>hb) I.ok.funs
theorem Inv.stack (I:Inv X pins σ H s):s.heap.FunFrames X.base X.stack:=by
 rcases I.ok.stk with e|⟨e,hf⟩
 ·rw[e];exact I.funs
 ·rw[e]
  obtain⟨m,hn,_⟩:=I.loc
  refine .cons (by rw[I.ok.kind];decide) hf hn ?_ I.funs
  exact Heap.get?_none_of_le (Nat.le_trans I.ok.bsz I.ok.above)
theorem Inv.stkSub (I:Inv X pins σ H s):∀b∈NM X.stack,b∈X.env.locals::X.fs:=fun b hb=>by
 rcases I.ok.stk with e|⟨e,hf⟩
 ·rw[e] at hb;exact List.mem_cons_of_mem _ hb
 ·rw[e] at hb
  unfold NM at hb
  rw[List.filterMap_cons,hf] at hb
  exact hb
theorem Inv.stkFree (I:Inv X pins σ H s):∀b∈NM X.stack,H b=none:=fun b hb=>by
 rcases List.mem_cons.mp (I.stkSub b hb) with e|hb
 ·rw[e];exact I.free
 ·obtain⟨_,o,ho,_⟩:=I.ok.funs.mem hb
  exact I.base.free b o ho (I.ok.frf b hb) fun z=>I.ok.exfs b z hb
theorem Inv.step {g':Array GenState} {t':Nat} {d':Drawn} {ch:List Addr} (I:Inv X pins σ H s)
  (hch:∀b∈ch,(b∈X.ex∨X.s₀.heap.objs.size≤b)∧b≠X.env.locals∧(∀x c,X.env.cells.lookup x=some c→c≠b)∧∀p∈X.pn++pins,p.1≠b)
  (keep:∀b o,b≠X.env.locals→b∉X.fs→b∉ch→s.heap.get? b=some o→H b=none→h'.get? b=some o)
  (slot:∀b o,b≠X.env.locals→b∈X.fs→b∉ch→s.heap.get? b=some o→H b=none→∃sl,h'.get? b=some { o with slots:=sl }) (free:∀b o,b∉ch→s.heap.get? b=some o→H b=none→H' b=none)
  (there:∀b o,b∉ch→s.heap.get? b=some o→∃o',h'.get? b=some o')
  (tups:∀b xs,H b=some (.tup xs)→H' b=some (.tup xs)) (frzs:∀b o u,H b=some (.frz o u)→H' b=some (.frz o u)) (tbls:∀b ps,H b=some (.tbl ps)→∃more,H' b=some (.tbl (ps++more)))
  (ns:∀m,s.heap.Ns X.env.locals m→h'.Ns X.env.locals m) (hok:Ie X.prog X.w H' h') (hg:AllBare g') :
  Inv X pins σ H' { s with heap:=h',gens:=g',drawn:=d',toks:=t' }:=by
 have neL:∀b o,X.s₀.heap.get? b=some o→b≠X.env.locals:=fun b o e=>Nat.ne_of_lt (Nat.lt_of_lt_of_le (Heap.lt_size e) I.ok.above)
 have neC:∀b o,X.s₀.heap.get? b=some o→b∉X.ex→b∉ch:=fun b o e hx hb=>by
  rcases(hch b hb).1 with z|z
  ·exact hx z
  ·exact absurd (Nat.lt_of_lt_of_le (Heap.lt_size e) z) (Nat.lt_irrefl _)
 have cellK:∀x c,X.env.cells.lookup x=some c→∀v,s.heap.IsCell c v→h'.IsCell c v:=fun x c e v ⟨o,ho,hd⟩=>by
  have nch:c∉ch:=fun z=>(hch c z).2.2.1 x c e rfl
  by_cases hc:c∈X.fs
  ·obtain⟨sl,q⟩:=slot c o (I.cne x c e) hc nch ho (I.freeC x c e)
   exact⟨_,q,hd⟩
  ·exact⟨o,keep c o (I.cne x c e) hc nch ho (I.freeC x c e),hd⟩
 refine⟨I.ok,I.os,hg,⟨fun b o e n hb hx=>?_,fun b o e n hb hx=>?_,fun b o e n hx=>?_,fun b o e hx=>?_,fun b xs e=>tups b xs (I.base.tups b xs e),fun b o xs e=>frzs b o xs (I.base.frzs b o xs e),fun b ps e=>?_⟩,?_,fun x c e=>?_,?_,fun x c e=>?_,fun p hp=>?_,hok,I.len⟩
 ·exact keep b o (neL b o e) hb (neC b o e hx) (I.base.keep b o e n hb hx) (I.base.free b o e n hx)
 ·obtain⟨sl,e1⟩:=I.base.slot b o e n hb hx
  obtain⟨sl',e2⟩:=slot b _ (neL b o e) hb (neC b o e hx) e1 (I.base.free b o e n hx)
  exact⟨sl',e2⟩
 ·obtain⟨o',e1⟩:=I.base.there b o e hx
  exact free b o' (neC b o e hx) e1 (I.base.free b o e n hx)
 ·obtain⟨o',e1⟩:=I.base.there b o e hx
  exact there b o' (neC b o e hx) e1
 ·obtain⟨m1,e1⟩:=I.base.tbls b ps e
  obtain⟨m2,e2⟩:=tbls b _ e1
  exact⟨m1++m2,by rw[e2,Array.append_assoc]⟩
 ·obtain⟨m,hn,hl⟩:=I.loc
  refine⟨m,ns m hn,fun i x v e1 e2 e3=>?_⟩
  obtain⟨u,r,l⟩:=hl i x v e1 e2 e3
  refine⟨u,r,?_⟩
  rcases l with l|⟨k,c,e,z⟩
  ·exact .inl l
  ·exact .inr ⟨k,c,e,cellK x c e _ z⟩
 ·obtain⟨v,z⟩:=I.cell x c e
  exact⟨v,cellK x c e v z⟩
 ·obtain⟨m,⟨o,_,_,ho,_⟩,_⟩:=I.loc
  exact free _ o (fun z=>(hch _ z).2.1 rfl) ho I.free
 ·obtain⟨v,o,ho,hd⟩:=I.cell x c e
  exact free c o (fun z=>(hch c z).2.2.1 x c e rfl) ho (I.freeC x c e)
 ·obtain⟨e,n,ne,nf,d⟩:=I.pin p hp
  have nch:p.1∉ch:=fun z=>(hch p.1 z).2.2.2 p hp rfl
  exact⟨keep p.1 p.2 ne nf nch e n,free p.1 p.2 nch e n,ne,nf,d⟩
theorem Inv.un {t':Nat}(I:Inv X pins σ H s)(u:Un X.fs [] H H' s.heap h')(hok:Ie X.prog X.w H' h'):Inv X pins σ H' { s with heap:=h',toks:=t' }:=by
 obtain⟨m,⟨o,es,ep,ho,r⟩,_⟩:=id I.loc
 obtain⟨sl,hL⟩:=u.any ho I.free (by simp)
 exact I.step (g':=s.gens) (d':=s.drawn) (ch:=[]) (fun _ z=>nomatch z) (fun b o _ hb _ e n=>u.keep b o e n hb (by simp)) (fun b o _ hb _ e n=>u.slot b o e n hb (by simp)) (fun b o _ e n=>u.free b o e n (by simp)) (fun b o _ e=>u.there b o e (by simp)) u.tups u.frzs u.tbls (fun m' hm=>by
  obtain⟨o',es',ep',ho',r'⟩:=hm
  rw[ho] at ho';cases ho'
  exact⟨_,es',ep',hL,r'⟩) hok I.bare
theorem Inv.call {g':Array GenState} {t':Nat} {d':Drawn} {ch:List Addr} (I:Inv X pins σ H s) (u:Un (NM X.stack) ch H H' s.heap h') (hok:Ie X.prog X.w H' h') (hg:AllBare g')
  (hch:∀b∈ch,(b∈X.ex∨X.s₀.heap.objs.size≤b)∧b≠X.env.locals∧(∀x c,X.env.cells.lookup x=some c→c≠b)∧∀p∈X.pn++pins,p.1≠b) :
  Inv X pins σ H' { s with heap:=h',gens:=g',drawn:=d',toks:=t' }:=by
 obtain⟨m,⟨o,es,ep,ho,r⟩,_⟩:=id I.loc
 obtain⟨sl,hL⟩:=u.any ho I.free fun z=>(hch _ z).2.1 rfl
 exact I.step (ch:=ch) hch (fun b o hL hb hc e n=>u.keep b o e n (fun z=>(List.mem_cons.mp (I.stkSub b z)).elim hL hb) hc) (fun b o _ _ hc e n=>u.any e n hc) (fun b o hc e n=>u.free b o e n hc) (fun b o hc e=>u.there b o e hc) u.tups u.frzs u.tbls (fun m' hm=>by
  obtain⟨o',es',ep',ho',r'⟩:=hm
  rw[ho] at ho';cases ho'
  exact⟨_,es',ep',hL,r'⟩) hok hg
theorem Inv.turned {t':Nat} {it:Addr} (I:Inv X pins σ H s) (k:∀b o,b≠it→s.heap.get? b=some o→h'.get? b=some o) (hn:H it=none) (hL:it≠X.env.locals)
  (h1:it∈X.ex∨X.s₀.heap.objs.size≤it) (h2:∀x c,X.env.cells.lookup x=some c→c≠it) (h3:∀p∈X.pn++pins,p.1≠it):Inv X pins σ H { s with heap:=h',toks:=t' }:=by
 have nit:∀b u,H b=some u→b≠it:=fun b u e z=>by rw[z,hn] at e;cases e
 refine I.step (g':=s.gens) (d':=s.drawn) (ch:=[it]) (fun b hb=>?_) (fun b o _ _ hc e _=>k b o (fun z=>hc (by simp[z])) e) (fun b o _ _ hc e _=>⟨o.slots,k b o (fun z=>hc (by simp[z])) e⟩) (fun _ _ _ _ n=>n)
  (fun b o hc e=>⟨o,k b o (fun z=>hc (by simp[z])) e⟩) (fun _ _ e=>e) (fun _ _ _ e=>e) (fun b ps e=>⟨#[],by rw[e];simp⟩) (fun m hm=>?_) (fun b u e=>?_) I.bare
 ·have e:b=it:=by simpa using hb
  subst e
  exact⟨h1,hL,h2,h3⟩
 ·obtain⟨o,es,ep,ho,r⟩:=hm
  exact⟨o,es,ep,k _ o (Ne.symm hL) ho,r⟩
 ·refine(I.hok b u e).stay (fun c v hc q=>k c v ?_ q) (fun _ q=>q) fun _ _ q=>q
  rcases hc with z|z
  ·rw[z];exact nit b u e
  ·exact nit c _ z
theorem Inv.tok (I:Inv X pins σ H s)(t:Nat):Inv X pins σ H { s with toks:=t }:=I.un (h':=s.heap) (t':=t) Un.refl I.hok
theorem Inv.kept {t':Nat}(I:Inv X pins σ H s)(k:∀b u,s.heap.get? b=some u→h'.get? b=some u):Inv X pins σ H { s with heap:=h',toks:=t' }:=I.un (Un.kept k) (I.hok.kept k)
theorem Inv.laid {a:Addr}{o:HO}{t':Nat}(I:Inv X pins σ H s)(k:∀b u,s.heap.get? b=some u→h'.get? b=some u)(hp:s.heap.objs.size≤a)(new:Bj X.prog X.w (upd H a o) h' a o) :
  Inv X pins σ (upd H a o) { s with heap:=h',toks:=t' }:=I.un (Un.laid k hp (I.hok.fresh hp)) (I.hok.laid k hp new)
theorem Inv.write {x e:Addr} {o:HO} {t':Nat} (I:Inv X pins σ H s) (mu:WM (H x)) (he:e=x∨H e=some (.own x)) (k:∀b u,b≠e→s.heap.get? b=some u→h'.get? b=some u) (heo:∃u,h'.get? e=some u)
  (new:Bj X.prog X.w (upd H x o) h' x o):Inv X pins σ (upd H x o) { s with heap:=h',toks:=t' }:=I.un (Un.write mu he k heo) (I.hok.write mu he k heo new)
theorem Inv.pins_of {pins':List (Addr×Obj)}(I:Inv X pins σ H s)(h:∀p∈pins',s.heap.get? p.1=some p.2∧H p.1=none∧p.1≠X.env.locals∧p.1∉X.fs∧∀v,p.2.data≠.cell v):Inv X pins' σ H s:=
 ⟨I.ok,I.os,I.bare,I.base,I.loc,I.cell,I.free,I.freeC,fun p hp=>(List.mem_append.mp hp).elim (fun z=>I.pin p (List.mem_append_left _ z)) (h p),I.hok,I.len⟩
theorem OT {N:List Str}(hN:N.Nodup){i j:Nat}{x:Str}(a:N[i]?=some x)(b:N[j]?=some x):i=j:=by
 obtain⟨h1,e1⟩:=List.getElem?_eq_some_iff.mp a
 obtain⟨h2,e2⟩:=List.getElem?_eq_some_iff.mp b
 exact(List.getElem_inj hN).mp (e1.trans e2.symm)
theorem RI {M:Model} {A:Around} {E:Value→Shared→Prop} {i:Nat} {x:Str} {v:V} {u:Value} {Q:Unit→Shared→Prop} (I:Inv X pins σ H s) (hN:X.N.Nodup) (hi:X.N[i]?=some x) (hx:Loc X.env.scope x) (r:RelV v u)
  (h:∀s',Inv X pins (σ.set i (some v)) H s'→(∃a,Heap.SameBut a s.heap s'.heap∧(a=X.env.locals∨X.env.cells.lookup x=some a))→Q () s') (hf:X.fn x=true∨X.env.scope.names.lookup x=some .local:=by first|exact .inl rfl|exact .inr rfl|assumption):wpAny M A (storeName X.env x u) Q E s:=by
 obtain⟨m,hn,hl⟩:=id I.loc
 have hcls:(X.env.scope.kind == .class||(X.env.scope.kind == .module&&X.env.locals != X.env.globals))=false:=by rw[I.ok.kind];rfl
 have hiσ:i<σ.length:=by rw[I.len];exact(List.getElem?_eq_some_iff.mp hi).1
 have cne:=I.cne
 have tracked:∀{a:Addr} {h':Heap},(∃o,s.heap.get? a=some o∧H a=none)→Heap.SameBut a s.heap h'→Ie X.prog X.w H h':=fun{a h'} ha hs b ob e=>by
  obtain⟨_,_,hfree⟩:=ha
  refine(I.hok b ob e).stay (fun c w' hc q=>(hs.2 c ?_).trans q) (fun _ q=>q) fun _ _ q=>q
  rintro rfl
  rcases hc with rfl|hc
  ·rw[hfree] at e;cases e
  ·rw[hfree] at hc;cases hc
 rcases hx with hk|hk
 ·refine wpAny_storeName_local hk hn (fun h' hn' hs=>?_) hcls
  obtain⟨oL,_,_,hoL,_⟩:=id hn
  refine h _ ⟨I.ok,I.os,I.bare,⟨fun b o e n hb hx=>?_,fun b o e n hb hx=>?_,I.base.free,fun b o e hx=>?_,I.base.tups,I.base.frzs,I.base.tbls⟩,⟨_,hn',fun j y v' e1 e2 e3=>?_⟩,fun y c e=>?_,I.free,I.freeC,fun p hp=>?_,tracked ⟨oL,hoL,I.free⟩ hs,by simpa using I.len⟩ ⟨_,hs,.inl rfl⟩
  ·exact(hs.2 b (Nat.ne_of_lt (Nat.lt_of_lt_of_le (Heap.lt_size e) I.ok.above))).trans (I.base.keep b o e n hb hx)
  ·obtain⟨sl,e1⟩:=I.base.slot b o e n hb hx
   exact⟨sl,(hs.2 b (Nat.ne_of_lt (Nat.lt_of_lt_of_le (Heap.lt_size e) I.ok.above))).trans e1⟩
  ·obtain⟨o',e1⟩:=I.base.there b o e hx
   exact⟨o',(hs.2 b (Nat.ne_of_lt (Nat.lt_of_lt_of_le (Heap.lt_size e) I.ok.above))).trans e1⟩
  ·by_cases hj:j=i
   ·subst hj
    rw[hi] at e1;cases e1
    rw[List.getElem?_set_self hiσ] at e2
    cases e2
    exact⟨u,r,.inl ⟨hk,by simp⟩⟩
   ·rw[List.getElem?_set_ne (Ne.symm hj)] at e2
    obtain⟨u',r',q⟩:=hl j y v' e1 e2 e3
    refine⟨u',r',?_⟩
    rcases q with⟨k,e⟩|⟨k,c,e,z⟩
    ·refine .inl ⟨k,?_⟩
     have:y≠x:=fun e=>hj (OT hN e1 (e▸hi))
     simp[this,e]
    ·exact .inr ⟨k,c,e,z.sameBut hs (cne y c e)⟩
  ·obtain⟨w',z⟩:=I.cell y c e
   exact⟨w',z.sameBut hs (cne y c e)⟩
  ·obtain⟨e,n,ne,nf,d⟩:=I.pin p hp
   exact⟨(hs.2 p.1 ne).trans e,n,ne,nf,d⟩
 ·have hfn:X.fn x=true:=by
   rcases hf with z|z
   ·exact z
   ·rw[z] at hk;cases hk
  obtain⟨c,hc⟩:=I.ok.has x (.inl hk)
  obtain⟨w',z⟩:=I.cell x c hc
  refine wpAny_storeName_cell I.ok.kind hk hc z (fun h' hc' hs=>?_)
  obtain⟨oc,hoc,hocd⟩:=id z
  refine h { s with heap:=h' } ⟨I.ok,I.os,I.bare,⟨fun b o e n hb hx=>?_,fun b o e n hb hx=>?_,I.base.free,fun b o e hx=>?_,I.base.tups,I.base.frzs,I.base.tbls⟩,⟨m,hn.sameBut hs (Ne.symm (cne x c hc)),fun j y v' e1 e2 e3=>?_⟩,fun y c' e=>?_,I.free,I.freeC,fun p hp=>?_,tracked ⟨oc,hoc,I.freeC x c hc⟩ hs,by simpa using I.len⟩ ⟨c,hs,.inr hc⟩
  ·exact(hs.2 b (Nat.ne_of_lt (Nat.lt_of_lt_of_le (Heap.lt_size e) (I.ok.cab x c hfn hc)))).trans (I.base.keep b o e n hb hx)
  ·obtain⟨sl,e1⟩:=I.base.slot b o e n hb hx
   exact⟨sl,(hs.2 b (Nat.ne_of_lt (Nat.lt_of_lt_of_le (Heap.lt_size e) (I.ok.cab x c hfn hc)))).trans e1⟩
  ·obtain⟨o',e1⟩:=I.base.there b o e hx
   exact⟨o',(hs.2 b (Nat.ne_of_lt (Nat.lt_of_lt_of_le (Heap.lt_size e) (I.ok.cab x c hfn hc)))).trans e1⟩
  ·by_cases hj:j=i
   ·subst hj
    rw[hi] at e1;cases e1
    rw[List.getElem?_set_self hiσ] at e2
    cases e2
    exact⟨u,r,.inr ⟨.inl hk,c,hc,hc'⟩⟩
   ·rw[List.getElem?_set_ne (Ne.symm hj)] at e2
    obtain⟨u',r',q⟩:=hl j y v' e1 e2 e3
    refine⟨u',r',?_⟩
    rcases q with q|⟨k,c',e,z'⟩
    ·exact .inl q
    ·refine .inr ⟨k,c',e,z'.sameBut hs ?_⟩
     rintro rfl
     exact hj (OT hN e1 (I.ok.inj _ _ _ e hc▸hi))
  ·by_cases hcc:c'=c
   ·subst hcc;exact⟨_,hc'⟩
   ·obtain⟨w2,z2⟩:=I.cell y c' e
    exact⟨w2,z2.sameBut hs hcc⟩
  ·obtain⟨e,n,ne,nf,d⟩:=I.pin p hp
   refine⟨(hs.2 p.1 ?_).trans e,n,ne,nf,d⟩
   intro q
   rw[q,hoc] at e
   have q':oc=p.2:=Option.some.inj e
   exact d w' (by rw[←q'];exact hocd)
theorem IR {M:Model} {A:Around} {E:Value→Shared→Prop} {i:Nat} {x:Str} {v:V} {u:Value} {Q:Unit→Shared→Prop} (I:Inv X pins σ H s) (hN:X.N.Nodup) (hi:X.N[i]?=some x) (hx:Loc X.env.scope x) (r:RelV v u)
  (h:∀s',Inv X pins (σ.set i (some v)) H s'→Q () s') (hf:X.fn x=true∨X.env.scope.names.lookup x=some .local:=by first|exact .inl rfl|exact .inr rfl|assumption):wpAny M A (storeName X.env x u) Q E s:=
 RI I hN hi hx r (fun s' I' _=>h s' I') hf
theorem Inv.call' {s':Shared} {ch:List Addr} (I:Inv X pins σ H s) (ho:s'.os=s.os) (u:Un (NM X.stack) ch H H' s.heap s'.heap) (hok:Ie X.prog X.w H' s'.heap) (hg:AllBare s'.gens)
  (hch:∀b∈ch,(b∈X.ex∨X.s₀.heap.objs.size≤b)∧b≠X.env.locals∧(∀x c,X.env.cells.lookup x=some c→c≠b)∧∀p∈X.pn++pins,p.1≠b):Inv X pins σ H' s':=by
 obtain⟨h',g',d',t',o'⟩:=s'
 have e:o'=s.os:=ho
 subst e
 exact I.call (g':=g') (t':=t') (d':=d') u hok hg hch
end
abbrev XK:=Value→Option Addr→Hp→Prop
abbrev St:=List (Option V)
abbrev VK:=V→Hp→Prop
abbrev TE:=St→Hp→VK→Prop
abbrev TT:=St→Hp→(Bool→Hp→Prop)→Prop
abbrev TA:=St→Hp→(List V→Hp→Prop)→Prop
structure Ends where
 nx:St→Hp→Prop
 rt:VK
 bk:St→Hp→Prop:=fun _ _=>False
 ct:St→Hp→Prop:=fun _ _=>False
abbrev TS:=Ends→St→Hp→Prop
def EP (X:Cx)(pins:List (Addr×Obj))(σ:St)(Q:VK)(u:Value)(s':Shared):Prop:=∃v H',Inv X pins σ H' s'∧RelV v u∧Q v H'
def TP (X:Cx)(pins:List (Addr×Obj))(σ:St)(Q:Bool→Hp→Prop)(b:Bool)(s':Shared):Prop:=∃H',Inv X pins σ H' s'∧Q b H'
def AP (X:Cx)(pins:List (Addr×Obj))(σ:St)(Q:List V→Hp→Prop)(us:List Value)(s':Shared):Prop:=∃vs H',Inv X pins σ H' s'∧AJ vs us∧Q vs H'
def SP (X:Cx)(pins:List (Addr×Obj))(D:Ends)(f:Flow)(s':Shared):Prop:=
 match f with
 | .next=>∃σ' H',Inv X pins σ' H' s'∧D.nx σ' H'
 | .brk=>∃σ' H',Inv X pins σ' H' s'∧D.bk σ' H'
 | .cont=>∃σ' H',Inv X pins σ' H' s'∧D.ct σ' H'
 | .ret u=>∃v σ' H',Inv X pins σ' H' s'∧RelV v u∧D.rt v H'
def PE (X:Cx)(e:Expr)(t:TE):Prop:=
 ∀(pins:List (Addr×Obj)) (s:Shared) (σ:St) (H:Hp) (Q:VK),Inv X pins σ H s→t σ H Q→wpAny (model X.prog X.w) X.A (eval e X.env) (EP X pins σ Q) X.xe s
def PT (X:Cx)(e:Expr)(t:TT):Prop:=
 ∀(pins:List (Addr×Obj)) (s:Shared) (σ:St) (H:Hp) (Q:Bool→Hp→Prop),Inv X pins σ H s→t σ H Q→wpAny (model X.prog X.w) X.A (isTrue e X.env (eval e X.env)) (TP X pins σ Q) X.xe s
def PW (X:Cx)(e:Expr)(t:TT):Prop:=
 ∀(whole:Sem Value) (pins:List (Addr×Obj)) (s:Shared) (σ:St) (H:Hp) (Q:Bool→Hp→Prop),Inv X pins σ H s→t σ H Q→wpAny (model X.prog X.w) X.A (isTrue e X.env whole) (TP X pins σ Q) X.xe s
theorem PW.pt {X:Cx}{e:Expr}{t:TT}(h:PW X e t):PT X e t:=h _
def PA (X:Cx)(es:List Expr)(t:TA):Prop:=
 ∀(pos:Pos) (pins:List (Addr×Obj)) (s:Shared) (σ:St) (H:Hp) (Q:List V→Hp→Prop),Inv X pins σ H s→t σ H Q→wpAny (model X.prog X.w) X.A (spliced (backTo pos (starEach es X.env))) (AP X pins σ Q) X.xe s
def PS (X:Cx)(st:Stmt)(t:TS):Prop:=
 ∀(pins:List (Addr×Obj)) (s:Shared) (σ:St) (H:Hp) (D:Ends),Inv X pins σ H s→t D σ H→wpAny (model X.prog X.w) X.A (exec st X.env) (SP X pins D) X.xe s
def Pt (X:Cx)(st:List Stmt)(t:TS):Prop:=
 ∀(pins:List (Addr×Obj)) (s:Shared) (σ:St) (H:Hp) (D:Ends),Inv X pins σ H s→t D σ H→wpAny (model X.prog X.w) X.A (execs st X.env) (SP X pins D) X.xe s
theorem Bo {α:Type}{t:Sem α}{Q Q':α→Shared→Prop}{M:Model}{A:Around}{E:Value→Shared→Prop}{s:Shared}(h:wpAny M A t Q E s)(hQ:∀a s,Q a s→Q' a s):wpAny M A t Q' E s:=wpAny_mono h hQ fun _ _ x=>x
end L2
namespace L2
open PySem PySem.Spec PyProof.Rows
section
variable {X:Cx}
def UT (i:Nat):TE:=fun σ H Q=>∃v,σ[i]?=some (some v)∧Q v H
def tC (v:V):TE:=fun _ H Q=>Q v H
theorem VG {i:Nat}{x:Str}{pos:Pos}(hN:X.N[i]?=some x)(hv:W3 X.env.scope x)(hd:(x == ("__debug__":Str))=false:=by decide)(hcd:(x == ("__classdict__":Str))=false:=by decide):PE X (.Name x pos) (UT i):=by
 intro pins s σ H Q I h
 obtain⟨v,e,h⟩:=h
 obtain⟨m,hn,hl⟩:=I.loc
 obtain⟨u,r,l⟩:=hl i x v hN e hv
 have fin:EP X pins σ Q u s:=⟨v,H,I,r,h⟩
 rcases l with⟨hk,hm⟩|⟨hk,c,hc,hcell⟩
 ·exact wpAny_Name (wpAny_loadName_local I.ok.kind hk hn hm fin) hd
 ·rcases hk with hk|hk
  ·exact wpAny_Name (wpAny_loadName_cell I.ok.kind hk hc hcell fin) hd
  ·exact wpAny_Name (wpAny_loadName_free I.ok.kind hk hc hcell fin hcd) hd
theorem Ak {i j pos}:PE X (.Constant (.int i) j pos) (tC (.int i)):=fun _ _ _ H _ I h=>wpAny_Constant_int ⟨.int i,H,I.tok _,⟨_,rfl⟩,h⟩
theorem Fo {b j pos}:PE X (.Constant (.bool b) j pos) (tC (.bl b)):=fun _ _ _ H _ I h=>Constant_bool ⟨.bl b,H,I,rfl,h⟩
theorem FA {j pos}:PE X (.Constant .none j pos) (tC .non):=fun _ _ _ H _ I h=>Constant_none ⟨.non,H,I,rfl,h⟩
theorem ER {x j pos}:PE X (.Constant (.str x) j pos) (tC (.str x)):=fun _ _ _ H _ I h=>Calls.Constant_str ⟨.str x,H,I.tok _,⟨_,rfl⟩,h⟩
def Gl (X:Cx)(x:Str):Prop:=X.env.kindOf x=some .globalImplicit
theorem Kw {E:Value→Shared→Prop} {pins:List (Addr×Obj)} {s:Shared} {σ:St} {H:Hp} {x:Str} {u:Value} {pos:Pos} {Q:Value→Shared→Prop} (I:Inv X pins σ H s) (hg:Gl X x) (hm:X.mg x=some u) (h:Q u s)
  (hd:(x == ("__debug__":Str))=false:=by decide):wpAny (model X.prog X.w) X.A (eval (.Name x pos) X.env) Q E s:=
 Calls.Name_function_global I.ok.kind hg (Calls.loadGlobal_global (by rw[I.ok.glob];exact I.mod.glob.keeps I.bk) hm h) hd
theorem JN {E:Value→Shared→Prop} {pins:List (Addr×Obj)} {s:Shared} {σ:St} {H:Hp} {x:Str} {u:Value} {pos:Pos} {Q:Value→Shared→Prop} (I:Inv X pins σ H s) (hg:Gl X x) (hm:X.mg x=none) (hv:bootBuiltins x=some u) (h:Q u s)
  (hn:x≠"__name__":=by decide) (hd:(x == ("__debug__":Str))=false:=by decide):wpAny (model X.prog X.w) X.A (eval (.Name x pos) X.env) Q E s:=by
 obtain⟨mb,h1,h2⟩:=I.mod.blt
 exact Calls.Name_function_global I.ok.kind hg (Calls.loadGlobal_builtin (by rw[I.ok.glob];exact I.mod.glob.keeps I.bk) hm (by rw[I.ok.blt];exact h1.keeps I.bk) ((h2 x hn).trans hv) h) hd
theorem Qn {x:Str}{v:V}{u:Value}{pos:Pos}(hg:Gl X x)(hm:X.mg x=some u)(r:RelV v u)(hd:(x == ("__debug__":Str))=false:=by decide):PE X (.Name x pos) (tC v):=
 fun _ _ _ H _ I h=>Kw I hg hm ⟨v,H,I,r,h⟩ hd
theorem UI {x:Str}{v:V}{u:Value}{pos:Pos}(hg:Gl X x)(hm:X.mg x=none)(hv:bootBuiltins x=some u)(r:RelV v u)(hn:x≠"__name__":=by decide)(hd:(x == ("__debug__":Str))=false:=by decide):PE X (.Name x pos) (tC v):=
 fun _ _ _ H _ I h=>JN I hg hm hv ⟨v,H,I,r,h⟩ hn hd
variable {a b:Expr}{ta tb:TE}{pos:Pos}
def PC (X:Cx)(op:CmpOp)(a b:Expr)(t:TE):Prop:=
 ∀(pins:List (Addr×Obj)) (s:Shared) (σ:St) (H:Hp) (Q:VK),Inv X pins σ H s→t σ H Q→
  wpAny (model X.prog X.w) X.A (eval a X.env) (fun v s₁=>wpAny (model X.prog X.w) X.A (eval b X.env) (fun u s₂=>wpAny (model X.prog X.w) X.A (compareOp op v u) (EP X pins σ Q) X.xe s₂) X.xe s₁) X.xe s
theorem Dq (b:Expr){op:CmpOp}(h:op≠.In)(h2:op≠.NotIn):behindInMarks op b=false:=by
 have e1:(op == CmpOp.In)=false:=by cases op<;>first|rfl|exact absurd rfl h
 have e2:(op == CmpOp.NotIn)=false:=by cases op<;>first|rfl|exact absurd rfl h2
 cases b<;>simp[behindInMarks,e1,e2]
def Xl (ta:TE):TE:=fun σ H Q=>ta σ H fun x H1=>Q (.bl (decide (x=.non))) H1
def WN (ta:TE):TE:=fun σ H Q=>ta σ H fun x H1=>Q (.bl (!decide (x=.non))) H1
theorem RelV.none_iff {x:V}{v:Value}(r:RelV x v):(v == Value.none)=decide (x=.non):=by
 cases x with
 |non=>cases r;rfl
 |bl _=>cases r;rfl
 |int _=>obtain⟨t,rfl⟩:=r;rfl
 |str _=>obtain⟨t,rfl⟩:=r;rfl
 |byt _=>obtain⟨t,rfl⟩:=r;rfl
 |flt _=>obtain⟨t,rfl⟩:=r;rfl
 |ref _=>cases r;rfl
 |ty _=>cases r;rfl
theorem Px {j pos'}(ha:PE X a ta):PC X .Is a (.Constant .none j pos') (Xl ta):=by
 intro pins s σ H Q I h
 refine Bo (ha pins s σ H _ I h) fun v s1 ⟨x,H1,I1,r1,q1⟩=>?_
 exact Constant_none (is_none_gen ⟨.bl _,H1,I1,by rw[r1.none_iff];rfl,q1⟩)
theorem M7 {j pos'}(ha:PE X a ta):PC X .IsNot a (.Constant .none j pos') (WN ta):=by
 intro pins s σ H Q I h
 refine Bo (ha pins s σ H _ I h) fun v s1 ⟨x,H1,I1,r1,q1⟩=>?_
 exact Constant_none (isnot_none_gen ⟨.bl _,H1,I1,by rw[r1.none_iff];rfl,q1⟩)
def tB (t:TE):TT:=fun σ H Q=>t σ H fun x H1=>∃c,x=.bl c∧Q c H1
theorem G2 {op:CmpOp}{t:TE}(h:PC X op a b t)(h1:behindInMarks op b=false:=by first|exact Dq _ (by decide) (by decide)|rfl):PT X (.Compare a [op] [b] pos) (tB t):=by
 intro pins s σ H Q I hw
 refine wpAny_isTrue_Compare1 (Bo (h pins s σ H _ I hw) fun v s1 h1=>Bo h1 fun u s2 h2=>Bo h2 fun c s3 ⟨x,H1,I1,r1,q1⟩=>?_) h1
 obtain⟨d,rfl,q⟩:=q1
 cases r1
 exact wpAny_truthy_bool ⟨H1,I1,q⟩
theorem Br {e:Expr}{t:TE}(h:PE X e t)(he:∀whole,isTrue e X.env whole=(do let v ←whole;standAt e.pos;holding [v] (truthy v)):=by intro _;rfl):PT X e (tB t):=by
 intro pins s σ H Q I hw
 refine isTrue_plain (Bo (h pins s σ H _ I hw) fun v s1 ⟨x,H1,I1,r1,q1⟩=>?_) (he _)
 obtain⟨d,rfl,q⟩:=q1
 cases r1
 exact wpAny_truthy_bool ⟨H1,I1,q⟩
variable {tA tB':TT}{rest:List Expr}
def Wx (t u:TT):TT:=fun σ H Q=>t σ H fun c H1=>if c=true then u σ H1 Q else Q false H1
def XM (t u:TT):TT:=fun σ H Q=>t σ H fun c H1=>if c=true then Q true H1 else u σ H1 Q
def W6 (t:TT):TT:=fun σ H Q=>t σ H fun c H1=>Q (!c) H1
theorem QJ (ha:PT X a tA):PW X (.BoolOp .And [a] pos) tA:=by
 intro wh pins s σ H Q I h
 refine isTrue_and (Bo (ha pins s σ H Q I h) fun c s1 e=>?_)
 cases c with
 |true=>exact isTrue_and_nil e
 |false=>exact e
theorem DT (ha:PT X a tA):PW X (.BoolOp .Or [a] pos) tA:=by
 intro wh pins s σ H Q I h
 refine isTrue_or (Bo (ha pins s σ H Q I h) fun c s1 e=>?_)
 cases c with
 |false=>exact isTrue_or_nil e
 |true=>exact e
theorem TK (ha:PT X a tA)(hb:PW X (.BoolOp .And (b::rest) pos) tB'):PW X (.BoolOp .And (a::b::rest) pos) (Wx tA tB'):=by
 intro wh pins s σ H Q I h
 refine isTrue_and (Bo (ha pins s σ H _ I h) fun c s1 ⟨H1,I1,q1⟩=>?_)
 cases c with
 |true=>exact hb wh pins s1 σ H1 Q I1 q1
 |false=>exact⟨H1,I1,q1⟩
theorem Fn (ha:PT X a tA)(hb:PW X (.BoolOp .Or (b::rest) pos) tB'):PW X (.BoolOp .Or (a::b::rest) pos) (XM tA tB'):=by
 intro wh pins s σ H Q I h
 refine isTrue_or (Bo (ha pins s σ H _ I h) fun c s1 ⟨H1,I1,q1⟩=>?_)
 cases c with
 |true=>exact⟨H1,I1,q1⟩
 |false=>exact hb wh pins s1 σ H1 Q I1 q1
theorem BH (ha:PT X a tA):PT X (.UnaryOp .Not a pos) (W6 tA):=by
 intro pins s σ H Q I h
 exact isTrue_not (ha pins s σ H (fun c H1=>Q (!c) H1) I h)
def Vl (ta tb:TE):TE:=fun σ H Q=>ta σ H fun x H1=>∃c,x=.bl c∧if c=true then tb σ H1 Q else Q (.bl false) H1
def Xo (ta tb:TE):TE:=fun σ H Q=>ta σ H fun x H1=>∃c,x=.bl c∧if c=true then Q (.bl true) H1 else tb σ H1 Q
def WR (ta:TE):TE:=fun σ H Q=>ta σ H fun x H1=>∃c,x=.bl c∧Q (.bl (!c)) H1
theorem Fs {op}{t:TE}(h:PE X a t):PE X (.BoolOp op [a] pos) t:=fun pins s σ H Q I hw=>BoolOp_one (h pins s σ H Q I hw)
theorem EN (ha:PE X a ta)(hb:PE X (.BoolOp .And (b::rest) pos) tb):PE X (.BoolOp .And (a::b::rest) pos) (Vl ta tb):=by
 intro pins s σ H Q I h
 refine BoolOp_and (Bo (ha pins s σ H _ I h) fun v s1 ⟨x,H1,I1,r1,q1⟩=>?_)
 obtain⟨c,rfl,q1⟩:=q1
 cases r1
 refine wpAny_truthy_bool ?_
 cases c with
 |true=>exact hb pins s1 σ H1 Q I1 q1
 |false=>exact⟨.bl false,H1,I1,rfl,q1⟩
theorem Ws (ha:PE X a ta)(hb:PE X (.BoolOp .Or (b::rest) pos) tb):PE X (.BoolOp .Or (a::b::rest) pos) (Xo ta tb):=by
 intro pins s σ H Q I h
 refine BoolOp_or (Bo (ha pins s σ H _ I h) fun v s1 ⟨x,H1,I1,r1,q1⟩=>?_)
 obtain⟨c,rfl,q1⟩:=q1
 cases r1
 refine wpAny_truthy_bool ?_
 cases c with
 |false=>exact hb pins s1 σ H1 Q I1 q1
 |true=>exact⟨.bl true,H1,I1,rfl,q1⟩
theorem Ta (ha:PE X a ta):PE X (.UnaryOp .Not a pos) (WR ta):=by
 intro pins s σ H Q I h
 refine UnaryOp_ (Bo (ha pins s σ H _ I h) fun v s1 ⟨x,H1,I1,r1,q1⟩=>?_)
 obtain⟨c,rfl,q1⟩:=q1
 cases r1
 exact not_of (wpAny_truthy_bool ⟨.bl (!c),H1,I1,rfl,q1⟩)
def XQ (t:TT)(ta tb:TE):TE:=fun σ H Q=>t σ H fun c H1=>if c=true then ta σ H1 Q else tb σ H1 Q
theorem Ot {c:Expr}(hc:PT X c tA)(ha:PE X a ta)(hb:PE X b tb):PE X (.IfExp c a b pos) (XQ tA ta tb):=by
 intro pins s σ H Q I h
 refine wpAny_IfExp (Bo (hc pins s σ H _ I h) fun d s1 ⟨H1,I1,q1⟩=>?_)
 cases d with
 |true=>exact ha pins s1 σ H1 Q I1 q1
 |false=>exact hb pins s1 σ H1 Q I1 q1
end
end L2
namespace L2
open PySem PySem.Spec PyProof.Rows
def AU (K:PySem.W.Frag)(H:Hp)(a:Addr)(xs:List V):Prop:=
 Rd H a (.lst xs)∨
  ∃(o:Obj) (its:Array Value) (n:Nat),K.lookup a=some o∧o.cls=.type "list"∧o.dict=none∧o.data=.seq its n∧its.size≤sizeLine∧AJ xs its.toList
def AY (K:PySem.W.Frag)(H:Hp)(a:Addr)(xs:List V):Prop:=
 Rd H a (.tup xs)∨
  ∃(o:Obj) (its:Array Value) (n:Nat),K.lookup a=some o∧o.cls=.type "tuple"∧o.data=.seq its n∧its.size≤sizeLine∧AJ xs its.toList
def Xt:Value→Option V
 | .none=>some .non
 | .bool b=>some (.bl b)
 | .int i _=>some (.int i)
 | .str x _=>some (.str x)
 | .bytes b _=>some (.byt b)
 | .float b _=>some (.flt b)
 | .ref a=>some (.ref a)
 | .type n=>some (.ty n)
 |_=>none
theorem RelV.abs {x:V}{u:Value}(r:RelV x u):Xt u=some x:=by
 cases x with
 |non=>cases r;rfl
 |bl _=>cases r;rfl
 |int _=>obtain⟨t,rfl⟩:=r;rfl
 |str _=>obtain⟨t,rfl⟩:=r;rfl
 |byt _=>obtain⟨t,rfl⟩:=r;rfl
 |flt _=>obtain⟨t,rfl⟩:=r;rfl
 |ref _=>cases r;rfl
 |ty _=>cases r;rfl
theorem RelV.inj {x y:V}{u:Value}(r:RelV x u)(q:RelV y u):x=y:=Option.some.inj (r.abs.symm.trans q.abs)
theorem AJ.inj:∀{xs ys:List V} {us:List Value},AJ xs us→AJ ys us→xs=ys
 |_,_,_,.nil,.nil=>rfl
 |_,_,_,.cons r t,.cons r' t'=>by rw[r.inj r',AJ.inj t t']
section
variable {X:Cx}{pins:List (Addr×Obj)}{σ:St}{H:Hp}{s:Shared}{a:Addr}{xs ys:List V}
theorem AU.of {K:PySem.W.Frag}(h:H a=some (.lst xs)):AU K H a xs:=.inl (.inl h)
theorem AY.of {K:PySem.W.Frag}(h:H a=some (.tup xs)):AY K H a xs:=.inl (.inl h)
theorem Inv.list (I:Inv X pins σ H s)(h:AU X.K H a xs):∃its:List Value,AJ xs its∧PlainL s.heap a its.toArray∧xs.length≤sizeLine:=by
 rcases h with h|⟨o,its,n,hk,hc,hd,hs,hz,r⟩
 ·obtain⟨z,its,n,r,e⟩:=h.ok I.hok
  exact⟨its,r,⟨_,n,e,rfl,rfl,rfl⟩,z⟩
 ·refine⟨its.toList,r,⟨o,n,I.kIn a o hk,hc,hd,by simpa using hs⟩,?_⟩
  have e:=r.length
  simp only[Array.length_toList] at e
  omega
theorem Inv.tuple (I:Inv X pins σ H s)(h:AY X.K H a xs):∃its:List Value,AJ xs its∧IsTup s.heap a its.toArray∧xs.length≤sizeLine:=by
 rcases h with h|⟨o,its,n,hk,hc,hs,hz,r⟩
 ·obtain⟨z,its,r,p⟩:=h.ok I.hok
  exact⟨its,r,p,z⟩
 ·refine⟨its.toList,r,⟨o,I.kIn a o hk,hc,n,by simpa using hs⟩,?_⟩
  have e:=r.length
  simp only[Array.length_toList] at e
  omega
theorem Inv.list_inj (I:Inv X pins σ H s)(h:AU X.K H a xs)(h':AU X.K H a ys):xs=ys:=by
 obtain⟨its,r,⟨o,n,e,_,_,d⟩,_⟩:=I.list h
 obtain⟨its',r',⟨o',n',e',_,_,d'⟩,_⟩:=I.list h'
 rw[e] at e';cases e'
 rw[d] at d'
 injection d' with d1 _
 have:its=its':=by simpa using congrArg Array.toList d1
 subst this
 exact r.inj r'
theorem Inv.tuple_inj (I:Inv X pins σ H s)(h:AY X.K H a xs)(h':AY X.K H a ys):xs=ys:=by
 obtain⟨its,r,⟨o,e,_,n,d⟩,_⟩:=I.tuple h
 obtain⟨its',r',⟨o',e',_,n',d'⟩,_⟩:=I.tuple h'
 rw[e] at e';cases e'
 rw[d] at d'
 injection d' with d1 _
 have:its=its':=by simpa using congrArg Array.toList d1
 subst this
 exact r.inj r'
end
abbrev Cx.wish (X:Cx)(E:Value→Shared→Prop):Cx:={ X with xe:=E }
abbrev Cx.nox (X:Cx):Cx:=X.wish fun _ _=>False
theorem Cx.Ok.wish {X:Cx}(ok:X.Ok)(E:Value→Shared→Prop):(X.wish E).Ok:=
 ⟨ok.mod,ok.kind,ok.glob,ok.blt,ok.above,ok.inj,ok.has,ok.cab,ok.hd,ok.frames,ok.stk,ok.exf,ok.bs,ok.bsz,ok.noex,ok.exfs,ok.funs,ok.frf⟩
theorem Cx.Ok.unwish {X:Cx}{E:Value→Shared→Prop}(ok:(X.wish E).Ok):X.Ok:=
 ⟨ok.mod,ok.kind,ok.glob,ok.blt,ok.above,ok.inj,ok.has,ok.cab,ok.hd,ok.frames,ok.stk,ok.exf,ok.bs,ok.bsz,ok.noex,ok.exfs,ok.funs,ok.frf⟩
section
variable {X:Cx}{pins:List (Addr×Obj)}{σ:St}{H:Hp}{s:Shared}{E:Value→Shared→Prop}
theorem Inv.wish (I:Inv X pins σ H s)(E:Value→Shared→Prop):Inv (X.wish E) pins σ H s:=⟨I.ok.wish E,I.os,I.bare,I.base,I.loc,I.cell,I.free,I.freeC,I.pin,I.hok,I.len⟩
theorem Inv.unwish (I:Inv (X.wish E) pins σ H s):Inv X pins σ H s:=⟨I.ok.unwish,I.os,I.bare,I.base,I.loc,I.cell,I.free,I.freeC,I.pin,I.hok,I.len⟩
theorem SP.unwish {D:Ends}{f:Flow}{s':Shared}(h:SP (X.wish E) pins D f s'):SP X pins D f s':=by
 cases f with
 |next=>obtain⟨σ',H',I,q⟩:=h;exact⟨σ',H',I.unwish,q⟩
 |brk=>obtain⟨σ',H',I,q⟩:=h;exact⟨σ',H',I.unwish,q⟩
 |cont=>obtain⟨σ',H',I,q⟩:=h;exact⟨σ',H',I.unwish,q⟩
 |ret u=>obtain⟨v,σ',H',I,r,q⟩:=h;exact⟨v,σ',H',I.unwish,r,q⟩
theorem PE.nox {e:Expr}{t:TE}(h:PE X.nox e t):PE X e t:=fun pins s σ H Q I hw=>
 wpAny_mono (h pins s σ H Q (I.wish _) hw) (fun _ _ ⟨v,H',I',r,q⟩=>⟨v,H',I'.unwish,r,q⟩) fun _ _ z=>False.elim z
theorem PT.nox {e:Expr}{t:TT}(h:PT X.nox e t):PT X e t:=fun pins s σ H Q I hw=>
 wpAny_mono (h pins s σ H Q (I.wish _) hw) (fun _ _ ⟨H',I',q⟩=>⟨H',I'.unwish,q⟩) fun _ _ z=>False.elim z
theorem Pt.nox {st:List Stmt}{t:TS}(h:Pt X.nox st t):Pt X st t:=fun pins s σ H D I hw=>
 wpAny_mono (h pins s σ H D (I.wish _) hw) (fun _ _ q=>q.unwish) fun _ _ z=>False.elim z
end
section
variable {X:Cx}{st:Stmt}{rest:List Stmt}{t u:TS}{e:Expr}{te:TE}{pos:Pos}
def Oe:TS:=fun D σ H=>D.nx σ H
def Wd (t u:TS):TS:=fun D σ H=>t { D with nx:=u D } σ H
theorem Av:Pt X [] Oe:=fun _ _ σ H _ I h=>wpAny_execs_nil ⟨σ,H,I,h⟩
theorem Af (h1:PS X st t)(h2:Pt X rest u):Pt X (st::rest) (Wd t u):=by
 intro pins s σ H D I h
 refine wpAny_execs_cons (Bo (h1 pins s σ H { D with nx:=u D } I h) fun f s1 q=>?_)
 cases f with
 |next=>
  obtain⟨σ',H',I',q⟩:=q
  exact h2 pins s1 σ' H' D I' q
 |ret v=>exact q
 |brk=>exact q
 |cont=>exact q
theorem Al (h1:PS X st t):Pt X [st] t:=by
 intro pins s σ H D I h
 refine wpAny_execs_cons (Bo (h1 pins s σ H D I h) fun f s1 q=>?_)
 cases f with
 |next=>exact wpAny_execs_nil q
 |ret v=>exact q
 |brk=>exact q
 |cont=>exact q
theorem Inv.quiet {pins:List (Addr×Obj)}{σ:St}{H:Hp}{s:Shared}(I:Inv X pins σ H s):interactive X.env=false:=by simp[interactive,I.ok.kind]
def WS (te:TE):TS:=fun D σ H=>te σ H fun _ H1=>D.nx σ H1
theorem Bm (he:PE X e te)(hs:swapsWith e none pos.line X.env=pure false:=by rfl):PS X (.Expr e pos) (WS te):=by
 intro pins s σ H D I h
 exact wpAny_Expr_any (Bo (he pins s σ H _ I h) fun v s1 ⟨x,H1,I1,r1,q1⟩=>⟨σ,H1,I1,q1⟩) I.quiet hs
def Wo (te:TE):TS:=fun D σ H=>te σ H D.rt
theorem An (he:PE X e te):PS X (.Return (some e) pos) (Wo te):=by
 intro pins s σ H D I h
 exact wpAny_Return_some (Bo (he pins s σ H _ I h) fun v s1 ⟨x,H1,I1,r1,q1⟩=>⟨x,σ,H1,I1,r1,q1⟩)
def Vb (c:TT)(t u:TS):TS:=fun D σ H=>c σ H fun b H1=>if b=true then t D σ H1 else u D σ H1
theorem AM {c:Expr}{a b:List Stmt}{tc:TT}(hc:PT X c tc)(ha:Pt X a t)(hb:Pt X b u):PS X (.If c a b pos) (Vb tc t u):=by
 intro pins s σ H D I h
 refine wpAny_If (Bo (hc pins s σ H _ I h) fun d s1 ⟨H1,I1,q1⟩=>?_)
 cases d with
 |true=>exact ha pins s1 σ H1 D I1 q1
 |false=>exact hb pins s1 σ H1 D I1 q1
def Vy:TS:=fun _ _ _=>False
theorem BV:PS X st Vy:=fun _ _ _ _ _ _ h=>h.elim
end
abbrev TG:=V→St→Hp→(St→Hp→Prop)→Prop
abbrev Vo:=List V→St→Hp→(St→Hp→Prop)→Prop
def PG (X:Cx)(target:Expr)(t:TG):Prop:=
 ∀(pins:List (Addr×Obj)) (s:Shared) (σ:St) (H:Hp) (v:V) (u:Value) (Q:St→Hp→Prop),Inv X pins σ H s→RelV v u→t v σ H Q→
  wpAny (model X.prog X.w) X.A (assign target X.env u) (fun _ s'=>∃σ' H',Inv X pins σ' H' s'∧Q σ' H') X.xe s
def WC (X:Cx)(ts:List Expr)(t:Vo):Prop:=
 ∀(pins:List (Addr×Obj)) (s:Shared) (σ:St) (H:Hp) (vs:List V) (us:List Value) (Q:St→Hp→Prop),Inv X pins σ H s→AJ vs us→t vs σ H Q→
  wpAny (model X.prog X.w) X.A (assignInOrder ((assignEach ts X.env).map (·.2)) us) (fun _ s'=>∃σ' H',Inv X pins σ' H' s'∧Q σ' H') X.xe s
abbrev Xa:=V→V→Hp→VK→Prop
def XZ (X:Cx)(op:Operator)(t:Xa):Prop:=
 ∀(pins:List (Addr×Obj)) (s:Shared) (σ:St) (H:Hp) (x y:V) (v u:Value) (Q:VK),Inv X pins σ H s→RelV x v→RelV y u→t x y H Q→
  wpAny (model X.prog X.w) X.A (inplaceOp op v u) (EP X pins σ Q) X.xe s
section
variable {X:Cx}{pos:Pos}
def Cv (i:Nat):TG:=fun v σ H Q=>Q (σ.set i (some v)) H
theorem As {i:Nat}{x:Str}(hN:X.N.Nodup)(hi:X.N[i]?=some x)(hx:Loc X.env.scope x)(hf:X.fn x=true∨X.env.scope.names.lookup x=some .local:=by first|exact .inl rfl|exact .inr rfl|assumption):PG X (.Name x pos) (Cv i):=by
 intro pins s σ H v u Q I r h
 exact wpAny_assign_Name (IR I hN hi hx r (fun s' I'=>⟨_,H,I',h⟩) hf)
def Sn:Vo:=fun vs σ H Q=>vs=[]∧Q σ H
def Hs (t:TG)(u:Vo):Vo:=fun vs σ H Q=>∃v r,vs=v::r∧t v σ H fun σ' H'=>u r σ' H' Q
theorem Er:WC X [] Sn:=by
 intro pins s σ H vs us Q I r h
 obtain⟨e,h⟩:=h
 subst e
 cases r
 exact assignInOrder_nil ⟨σ,H,I,h⟩
theorem AS {e:Expr} {es:List Expr} {t:TG} {u:Vo} (h1:PG X e t) (h2:WC X es u)
  (hs:(assignEach (e::es) X.env).map (·.2)=assign e X.env::(assignEach es X.env).map (·.2):=by rfl):WC X (e::es) (Hs t u):=by
 intro pins s σ H vs us Q I r h
 obtain⟨v,vr,e1,h⟩:=h
 subst e1
 cases r with
 |cons r rr=>
  rw[hs]
  refine assignInOrder_cons (Bo (h1 pins s σ H _ _ _ I r h) fun _ s1 ⟨σ1,H1,I1,q1⟩=>?_)
  exact h2 pins s1 σ1 H1 _ _ Q I1 rr q1
def RL (K:PySem.W.Frag)(n:Nat)(t:Vo):TG:=fun v σ H Q=>∃a xs,v=.ref a∧AY K H a xs∧xs.length=n∧t xs σ H Q
theorem MN {es:List Expr} {k:Nat} {t:Vo} {n:Nat} (hc:X.calm=true) (h:WC X es t)
  (hn:(assignEach es X.env).length=n:=by rfl) (hst:(assignEach es X.env).findIdx? (·.1)=none:=by rfl):PG X (.Tuple es k pos) (RL X.K n t):=by
 intro pins s σ H v u Q I r hw
 obtain⟨a,xs,e1,hq,hl,hw⟩:=hw
 subst e1
 cases r
 obtain⟨its,rv,ht,hz⟩:=I.tuple hq
 refine assign_Tuple_tuple (I.ok.hd hc) ht (by simp[hn,←hl,rv.length]) hst fun h' hx=>?_
 have I1:Inv X pins σ H { s with heap:=h' }:=I.kept (t':=s.toks) fun b o e=>hx b o (Nat.ne_of_lt (Heap.lt_size e)) e
 exact h pins _ σ H xs _ Q I1 (by simpa using rv) hw
def Um (te:TE)(g:TG):TS:=fun D σ H=>te σ H fun x H1=>g x σ H1 D.nx
theorem Ay {i:Nat}{x:Str}{e:Expr}{te:TE}{pos':Pos}(hN:X.N.Nodup)(hi:X.N[i]?=some x)(hx:Loc X.env.scope x)(he:PE X e te)(hs:swapsWith e (some (.Name x pos')) pos.line X.env=pure false:=by rfl)(hf:X.fn x=true∨X.env.scope.names.lookup x=some .local:=by first|exact .inl rfl|exact .inr rfl|assumption) :
  PS X (.Assign [.Name x pos'] e pos) (Um te (Cv i)):=by
 intro pins s σ H D I h
 refine wpAny_Assign_Name (Bo (he pins s σ H _ I h) fun v s1 ⟨y,H1,I1,r1,q1⟩=>?_) hs
 exact IR I1 hN hi hx r1 (fun s2 I2=>⟨_,H1,I2,q1⟩) hf
def Xc (i:Nat)(te:TE)(ti:Xa):TS:=fun D σ H=>∃x,σ[i]?=some (some x)∧te σ H fun y H1=>ti x y H1 fun z H2=>D.nx (σ.set i (some z)) H2
theorem P8 {i:Nat}{x:Str}{e:Expr}{te:TE}{op:Operator}{ti:Xa}{pos':Pos}(hN:X.N.Nodup)(hi:X.N[i]?=some x)(hx:Loc X.env.scope x)(he:PE X e te)(ho:XZ X op ti)(hf:X.fn x=true∨X.env.scope.names.lookup x=some .local:=by first|exact .inl rfl|exact .inr rfl|assumption) :
  PS X (.AugAssign (.Name x pos') op e pos) (Xc i te ti):=by
 intro pins s σ H D I h
 obtain⟨v,e1,h⟩:=h
 obtain⟨m,hn,hl⟩:=I.loc
 have vis:W3 X.env.scope x:=by rcases hx with k|k;exact .inl k;exact .inr (.inl k)
 obtain⟨u,r,l⟩:=hl i x v hi e1 vis
 refine wpAny_AugAssign_Name ?_
 have go:wpAny (model X.prog X.w) X.A (eval e X.env) (fun w s₂=>wpAny (model X.prog X.w) X.A (inplaceOp op u w) (fun r s₃=>wpAny (model X.prog X.w) X.A (storeName X.env x r) (fun _=>SP X pins D .next) X.xe s₃) X.xe s₂) X.xe s:=by
  refine Bo (he pins s σ H _ I h) fun w s1 ⟨y,H1,I1,r1,q1⟩=>?_
  refine Bo (ho pins s1 σ H1 v y u w _ I1 r r1 q1) fun z s2 ⟨zv,H2,I2,r2,q2⟩=>?_
  exact IR I2 hN hi hx r2 (fun s3 I3=>⟨_,H2,I3,q2⟩) hf
 rcases l with⟨hk,hm⟩|⟨hk,c,hc,hcell⟩
 ·exact wpAny_loadName_local I.ok.kind hk hn hm go
 ·rcases hk with hk|hk
  ·exact wpAny_loadName_cell I.ok.kind hk hc hcell go
  ·rcases hx with k|k
   ·have:X.env.scope.names.lookup x=some .free:=hk
    rw[k] at this;cases this
   ·have:X.env.scope.names.lookup x=some .free:=hk
    rw[k] at this;cases this
end
section
variable {X:Cx}{pos:Pos}
def VD (c:TT)(tb:TS):TS:=fun D σ H=>∃W:Nat→St→Hp→Prop,(∃m,W m σ H)∧∀m σ H,W m σ H→
 c σ H fun b H1=>if b=true then ∃N:St→Hp→Prop,(∀σ' H',N σ' H'→∃m',m'<m∧W m' σ' H')∧tb { D with nx:=N,ct:=N,bk:=D.nx } σ H1 else D.nx σ H1
theorem Om {c:Expr}{body:List Stmt}{tc:TT}{tb:TS}(hp:PassesOwn (model X.prog X.w) X.A X.env X.xe)(hc:PT X c tc)(hb:Pt X body tb):PS X (.While c body [] pos) (VD tc tb):=by
 intro pins s σ H D I h
 obtain⟨W,⟨m0,w0⟩,turn⟩:=h
 refine wpAny_While (codeAny_whileLoop (fun n s'=>∃σ' H',Inv X pins σ' H' s'∧W n σ' H') ?_ m0 ⟨σ,H,I,w0⟩)
 rintro n s1 ⟨σ1,H1,I1,w1⟩
 refine wpAny_passesOwn hp (Bo (hc pins s1 σ1 H1 _ I1 (turn n σ1 H1 w1)) fun b s2 ⟨H2,I2,q2⟩=>?_)
 cases b with
 |true=>
  obtain⟨N,hN,q2⟩:=q2
  rw[if_pos rfl]
  refine wpAny_passesOwn hp (Bo (hb pins s2 σ1 H2 _ I2 q2) fun f s3 q3=>?_)
  cases f with
  |next=>
   obtain⟨σ3,H3,I3,n3⟩:=q3
   obtain⟨m',hm,w3⟩:=hN σ3 H3 n3
   exact⟨m',hm,σ3,H3,I3,w3⟩
  |cont=>
   obtain⟨σ3,H3,I3,n3⟩:=q3
   obtain⟨m',hm,w3⟩:=hN σ3 H3 n3
   exact⟨m',hm,σ3,H3,I3,w3⟩
  |brk=>exact q3
  |ret v=>exact q3
 |false=>
  rw[if_neg Bool.false_ne_true]
  exact wpAny_execs_nil ⟨σ1,H2,I2,q2⟩
end
structure It where
 go:Nat→Hp→Prop
 yld:Nat→Hp→V→Hp→Prop
 stop:Nat→Hp→Prop
def Jc (X:Cx)(pins:List (Addr×Obj))(H:Hp)(b:Addr):Prop:=
 H b=none∧b≠X.env.locals∧b∉X.fs∧(b∈X.ex∨X.s₀.heap.objs.size≤b)∧(∀x c,X.env.cells.lookup x=some c→c≠b)∧∀p∈X.pn++pins,p.1≠b
theorem Inv.fpOk {X:Cx}{pins:List (Addr×Obj)}{σ:St}{H H':Hp}{s:Shared}{b:Addr}(I:Inv X pins σ H s)(hb:s.heap.objs.size≤b)(hn:H' b=none):Jc X pins H' b:=by
 refine⟨hn,Nat.ne_of_gt (Nat.lt_of_lt_of_le I.lt hb),I.nofs hb,.inr (Nat.le_trans I.sz hb),fun x c e z=>?_,fun p hp z=>?_⟩
 ·obtain⟨v,q⟩:=I.cell x c e
  exact absurd (Nat.lt_of_lt_of_le q.lt (by rw[z];exact hb)) (Nat.lt_irrefl _)
 ·exact absurd (Nat.lt_of_lt_of_le (Heap.lt_size (I.pin p hp).1) (by rw[z];exact hb)) (Nat.lt_irrefl _)
structure Turn (P:Program) (w:World) (K:PySem.W.Frag) (tg:Expr) (J:It) (fp:List Addr) (it:Addr) (tn:Nat→Heap→Prop):Prop where
 mem:it∈fp
 obj:∀i h,tn i h→∀b∈fp,∃o,h.get? b=some o∧∀v,o.data≠.cell v
 keep:∀i h h',tn i h→(∀b∈fp,∀o,h.get? b=some o→h'.get? b=some o)→tn i h'
 item:∀(X:Cx),X.prog=P→X.w=w→X.K=K→X.calm=true→∀(i:Nat) (pins:List (Addr×Obj)) (s:Shared) (σ:St) (H:Hp) (E:Value→Shared→Prop),Inv X pins σ H s→(∀b∈fp,Jc X pins H b)→tn i s.heap→J.go i H→
  wpAny (model P w) X.A (pyNext (.ref it)) (fun r s1=>∃u,r=some u∧
   wpAny (model P w) X.A (letOwnedTupleGo tg (.ref it) u) (fun _ s2=>∃x H',Inv X pins σ H' s2∧RelV x u∧J.yld i H x H'∧tn (i+1) s2.heap∧∀b∈fp,H' b=none) E s1) E s
 done:∀(X:Cx),X.prog=P→X.w=w→X.K=K→X.calm=true→∀(i:Nat) (pins:List (Addr×Obj)) (s:Shared) (σ:St) (H:Hp) (E:Value→Shared→Prop),Inv X pins σ H s→(∀b∈fp,Jc X pins H b)→tn i s.heap→J.stop i H→
  wpAny (model P w) X.A (pyNext (.ref it)) (fun r s1=>r=none∧Inv X pins σ H s1) E s
 self:∀(A:Around) (i:Nat) (s:Shared) (Q:Value→Shared→Prop) (E:Value→Shared→Prop),tn i s.heap→Q (.ref it) s→wpAny (model P w) A (pyIter (.ref it)) Q E s
abbrev TI:=St→Hp→(It→Hp→Prop)→Prop
def XJ (X:Cx)(pins:List (Addr×Obj))(σ:St)(tg:Expr)(R:It→Hp→Prop)(itv:Value)(s2:Shared):Prop:=
 ∃(it:Addr) (fp:List Addr) (tn:Nat→Heap→Prop) (J:It) (H':Hp),itv=.ref it∧Inv X pins σ H' s2∧Turn X.prog X.w X.K tg J fp it tn∧tn 0 s2.heap∧(∀b∈fp,Jc X pins H' b)∧R J H'
def PI (X:Cx)(tg iter:Expr)(wi:TI):Prop:=
 ∀(pins:List (Addr×Obj)) (s:Shared) (σ:St) (H:Hp) (R:It→Hp→Prop),Inv X pins σ H s→wi σ H R→
  wpAny (model X.prog X.w) X.A (eval iter X.env) (fun v s1=>wpAny (model X.prog X.w) X.A (pyIter v) (XJ X pins σ tg R) X.xe s1) X.xe s
theorem N4 {M:Model} {A:Around} {E:Value→Shared→Prop} {s:Shared} {tg:Expr} {it:Addr} {u:Value} {o:Obj} {n:String} {vs:Array Value} {Q:Unit→Shared→Prop} (ho:s.heap.get? it=some o) (hc:o.cls=.type n) (hd:o.data=.fields vs)
  (hn:["enumerate","zip","dict_itemiterator","dict_reverseitemiterator","odict_iterator","itertools.zip_longest","itertools.pairwise"].contains n=false) (hQ:Q () s):wpAny M A (letOwnedTupleGo tg (.ref it) u) Q E s:=by
 unfold letOwnedTupleGo
 cases tg<;>first
  |exact wpAny_pure hQ
  |(cases u<;>first
    |exact wpAny_pure hQ
    |(refine wpAny_bind (wpAny_load ho ?_)
      rw[hc,hd]
      show wpAny M A (if(["enumerate","zip","dict_itemiterator","dict_reverseitemiterator","odict_iterator","itertools.zip_longest","itertools.pairwise"].contains n&&vs[0]? == some (rawInt _))=true then _ else _) Q E s
      rw[if_neg (by intro h;rw[hn,Bool.false_and] at h;cases h)]
      exact wpAny_pure hQ))
def VO (K:PySem.W.Frag)(a:Addr):It:=
 ⟨fun i H=>∃xs x,AU K H a xs∧xs[i]?=some x,fun i H x H'=>H'=H∧∀xs,AU K H a xs→xs[i]?=some x,fun i H=>∃xs,AU K H a xs∧xs.length≤i⟩
def Wj (K:PySem.W.Frag)(a:Addr):It:=
 ⟨fun i H=>∃xs x,AY K H a xs∧xs[i]?=some x,fun i H x H'=>H'=H∧∀xs,AY K H a xs→xs[i]?=some x,fun i H=>∃xs,AY K H a xs∧xs.length≤i⟩
def Uj (lo:Int)(n:Nat):It:=⟨fun i _=>i<n,fun i H x H'=>H'=H∧x=.int (lo+i),fun i _=>n≤i⟩
theorem QY {P:Program}{w:World}{K:PySem.W.Frag}{tg:Expr}(a it:Addr):Turn P w K tg (VO K a) [it] it (fun i h=>h.IsListIter it a i) where
 mem:=by simp
 obj:=fun i h st b hb=>by
  have e:b=it:=by simpa using hb
  subst e
  obtain⟨o,e,c,d⟩:=st
  exact⟨o,e,fun v z=>by rw[d] at z;cases z⟩
 keep:=fun i h h' st k=>st.at fun o e=>k it (by simp) o e
 item:=by
  intro X hP hw hK hc i pins s σ H E I hf st hg
  subst hP hw hK
  obtain⟨xs,x,hq,hx⟩:=hg
  obtain⟨its,rv,p,hz⟩:=I.list hq
  obtain⟨u,hu,ru⟩:=rv.get hx
  obtain⟨f0,f1,f2,f3,f4,f5⟩:=hf it (by simp)
  refine wpAny_pyNext_list_item st p.isList (x:=u) (by simpa using hu) fun h' st' sb=>?_
  have I1:Inv X pins σ H { s with heap:=h' }:=I.turned (t':=s.toks) (fun b o hb e=>(sb.2 b hb).trans e) f0 f1 f3 f4 f5
  obtain⟨o,e,c,d⟩:=id st'
  exact⟨u,rfl,N4 (s:={ s with heap:=h' }) e c d (by decide) ⟨x,H,I1,ru,⟨rfl,fun ys hy=>by rw[I.list_inj hy hq];exact hx⟩,st',fun b hb=>(hf b hb).1⟩⟩
 done:=by
  intro X hP hw hK hc i pins s σ H E I hf st hg
  subst hP hw hK
  obtain⟨xs,hq,hx⟩:=hg
  obtain⟨its,rv,p,hz⟩:=I.list hq
  obtain⟨f0,f1,f2,f3,f4,f5⟩:=hf it (by simp)
  have hl:=rv.length
  exact wpAny_pyNext_list_end (I.ok.hd hc) st p.isList (by simp;omega) fun h' eb=>⟨rfl,I.turned (t':=s.toks) (fun b o hb e=>eb b o hb e) f0 f1 f3 f4 f5⟩
 self:=fun _ _ _ _ _ st h=>wpAny_pyIter_listiter st h
theorem PV {P:Program}{w:World}{K:PySem.W.Frag}{tg:Expr}(a it:Addr):Turn P w K tg (Wj K a) [it] it (fun i h=>h.IsTupleIter it a i) where
 mem:=by simp
 obj:=fun i h st b hb=>by
  have e:b=it:=by simpa using hb
  subst e
  obtain⟨o,e,c,d⟩:=st
  exact⟨o,e,fun v z=>by rw[d] at z;cases z⟩
 keep:=fun i h h' st k=>st.at fun o e=>k it (by simp) o e
 item:=by
  intro X hP hw hK hc i pins s σ H E I hf st hg
  subst hP hw hK
  obtain⟨xs,x,hq,hx⟩:=hg
  obtain⟨its,rv,p,hz⟩:=I.tuple hq
  obtain⟨u,hu,ru⟩:=rv.get hx
  obtain⟨f0,f1,f2,f3,f4,f5⟩:=hf it (by simp)
  refine wpAny_pyNext_tuple_item st (show s.heap.IsTuple a its.toArray from p) (x:=u) (by simpa using hu) fun h' st' sb=>?_
  have I1:Inv X pins σ H { s with heap:=h' }:=I.turned (t':=s.toks) (fun b o hb e=>(sb.2 b hb).trans e) f0 f1 f3 f4 f5
  obtain⟨o,e,c,d⟩:=id st'
  exact⟨u,rfl,N4 (s:={ s with heap:=h' }) e c d (by decide) ⟨x,H,I1,ru,⟨rfl,fun ys hy=>by rw[I.tuple_inj hy hq];exact hx⟩,st',fun b hb=>(hf b hb).1⟩⟩
 done:=by
  intro X hP hw hK hc i pins s σ H E I hf st hg
  subst hP hw hK
  obtain⟨xs,hq,hx⟩:=hg
  obtain⟨its,rv,p,hz⟩:=I.tuple hq
  obtain⟨f0,f1,f2,f3,f4,f5⟩:=hf it (by simp)
  have hl:=rv.length
  exact wpAny_pyNext_tuple_end (I.ok.hd hc) st (show s.heap.IsTuple a its.toArray from p) (by simp;omega) fun h' eb=>⟨rfl,I.turned (t':=s.toks) (fun b o hb e=>eb b o hb e) f0 f1 f3 f4 f5⟩
 self:=fun _ _ _ _ _ st h=>wpAny_pyIter_tupleiter st h
theorem Qa {P:Program}{w:World}{K:PySem.W.Frag}{tg:Expr}(it:Addr)(lo:Int)(n:Nat):Turn P w K tg (Uj lo n) [it] it (fun i h=>IsRangeIter h it (lo+(i:Nat)*1) ((n:Int)-(i:Nat)) 1) where
 mem:=by simp
 obj:=fun i h st b hb=>by
  have e:b=it:=by simpa using hb
  subst e
  exact⟨_,st,fun v z=>by
   have z':Data.fields _=Data.cell v:=z
   cases z'⟩
 keep:=fun i h h' st k=>k it (by simp) _ st
 item:=by
  intro X hP hw hK hc i pins s σ H E I hf st hg
  subst hP hw hK
  obtain⟨f0,f1,f2,f3,f4,f5⟩:=hf it (by simp)
  have W:=Walks.range (prog:=X.prog) (w:=X.w) (I.ok.hd hc) it lo 1 n
  refine W.item i s _ _ hg st fun v h' tk hv st' kk=>?_
  obtain⟨t,rfl⟩:=hv
  have I1:Inv X pins σ H { s with heap:=h',toks:=tk }:=I.turned (fun b o hb e=>kk b o (by simpa using hb) e) f0 f1 f3 f4 f5
  refine⟨_,rfl,N4 (s:={ s with heap:=h',toks:=tk }) (n:="range_iterator") st' rfl rfl (by decide) ⟨.int (lo+i),H,I1,⟨t,?_⟩,⟨rfl,rfl⟩,st',fun b hb=>(hf b hb).1⟩⟩
  rw[Int.mul_one]
 done:=by
  intro X hP hw hK hc i pins s σ H E I hf st hg
  subst hP hw hK
  obtain⟨f0,f1,f2,f3,f4,f5⟩:=hf it (by simp)
  exact wpAny_pyNext_range_end (I.ok.hd hc) st (by have:n≤i:=hg;omega) fun h' eb=>⟨rfl,I.turned (t':=s.toks) (fun b o hb e=>eb b o hb e) f0 f1 f3 f4 f5⟩
 self:=fun _ _ _ _ _ st h=>wpAny_pyIter_rangeiter st h
end L2
namespace L2
open PySem PySem.Spec PyProof.Rows
section
variable {X:Cx}{tg:Expr}
def Wk (K:PySem.W.Frag)(tl:TE):TI:=fun σ H R=>tl σ H fun x H1=>∃a,x=.ref a∧(∃xs,AU K H1 a xs)∧R (VO K a) H1
def XB (K:PySem.W.Frag)(tl:TE):TI:=fun σ H R=>tl σ H fun x H1=>∃a,x=.ref a∧(∃xs,AY K H1 a xs)∧R (Wj K a) H1
theorem BA {l:Expr}{tl:TE}(hl:PE X l tl):PI X tg l (Wk X.K tl):=by
 intro pins s σ H R I h
 refine Bo (hl pins s σ H _ I h) fun v s1 ⟨x,H1,I1,r1,q1⟩=>?_
 obtain⟨a,e,⟨xs,hq⟩,q⟩:=q1
 subst e
 cases r1
 obtain⟨its,rv,p,hz⟩:=I1.list hq
 refine wpAny_pyIter_list p.isList ?_
 refine⟨s1.heap.objs.size,[s1.heap.objs.size],_,_,H1,rfl,I1.kept (t':=s1.toks) fun b o e=>Heap.get?_push_of_some _ e,QY a _,⟨_,Heap.get?_push_size _ rfl,rfl,rfl⟩,fun b hb=>?_,q⟩
 have e:b=s1.heap.objs.size:=by simpa using hb
 subst e
 exact I1.fpOk (Nat.le_refl _) (I1.hok.fresh (Nat.le_refl _))
theorem Ea {l:Expr}{tl:TE}(hl:PE X l tl):PI X tg l (XB X.K tl):=by
 intro pins s σ H R I h
 refine Bo (hl pins s σ H _ I h) fun v s1 ⟨x,H1,I1,r1,q1⟩=>?_
 obtain⟨a,e,⟨xs,hq⟩,q⟩:=q1
 subst e
 cases r1
 obtain⟨its,rv,p,hz⟩:=I1.tuple hq
 refine wpAny_pyIter_tuple (show s1.heap.IsTuple a its.toArray from p) ?_
 refine⟨s1.heap.objs.size,[s1.heap.objs.size],_,_,H1,rfl,I1.kept (t':=s1.toks) fun b o e=>Heap.get?_push_of_some _ e,PV a _,⟨_,Heap.get?_push_size _ rfl,rfl,rfl⟩,fun b hb=>?_,q⟩
 have e:b=s1.heap.objs.size:=by simpa using hb
 subst e
 exact I1.fpOk (Nat.le_refl _) (I1.hok.fresh (Nat.le_refl _))
theorem S8 {pins:List (Addr×Obj)} {σ:St} {H:Hp} {s:Shared} {R:It→Hp→Prop} {E:Value→Shared→Prop} {lo hi:Int} {t u v:Tok} {tk:Nat} (I:Inv X pins σ H s) (h1:-(2^62)≤lo) (h2:lo<2^62) (h3:-(2^62)≤hi) (h4:hi<2^62)
  (q:R (Uj lo (hi-lo).toNat) H):wpAny (model X.prog X.w) X.A (pyIter (.ref s.heap.objs.size)) (XJ X pins σ tg R) E { s with heap:=s.heap.push { cls:=.type "range",data:=.fields #[.int lo t,.int hi u,.int 1 v] },toks:=tk }:=by
 refine wpAny_pyIter_range (IsRange.new ..) (small_one h1 h2 h3 h4) ?_
 have I1:Inv X pins σ H { s with heap:=s.heap.push { cls:=.type "range",data:=.fields #[.int lo t,.int hi u,.int 1 v] },toks:=tk }:=I.kept fun b o e=>Heap.get?_push_of_some _ e
 refine⟨(s.heap.push { cls:=.type "range",data:=.fields #[.int lo t,.int hi u,.int 1 v] }).objs.size,[(s.heap.push { cls:=.type "range",data:=.fields #[.int lo t,.int hi u,.int 1 v] }).objs.size],_,_,H,rfl,
  I1.kept (t':=tk) fun b o e=>Heap.get?_push_of_some _ e,Qa _ lo (hi-lo).toNat,?_,fun b hb=>?_,q⟩
 ·have e1:lo+((0:Nat):Int)*1=lo:=by simp
  have e2:(((hi-lo).toNat:Nat):Int)-((0:Nat):Int)=Builtin.Range.rangeSize lo hi 1:=by rw[rangeSize_one];split<;>omega
  show IsRangeIter _ _ (lo+((0:Nat):Int)*1) ((((hi-lo).toNat:Nat):Int)-((0:Nat):Int)) 1
  rw[e1,e2]
  exact Heap.get?_push_size _ rfl
 ·have e:b=(s.heap.push { cls:=.type "range",data:=.fields #[.int lo t,.int hi u,.int 1 v] }).objs.size:=by simpa using hb
  subst e
  exact I1.fpOk (Nat.le_refl _) (I1.hok.fresh (Nat.le_refl _))
def Wr (ta:TA):TI:=fun σ H R=>ta σ H fun vs H1=>∃j:Int,vs=[.int j]∧-(2^62)≤j∧j<2^62∧R (Uj 0 j.toNat) H1
theorem Eu {a:Expr}{ta:TA}{p pos:Pos}(hg:Gl X "range")(hm:X.mg "range"=none)(ha:PA X [a] ta)(hs:starEach [a] X.env=[(false,eval a X.env)]:=by rfl):PI X tg (.Call (.Name "range" p) [a] [] pos) (Wr ta):=by
 intro pins s σ H R I h
 refine Call_ (JN I hg hm boot_range (PyProof.Rows.callWith_type1 (Bo (ha pos pins s σ H _ I h) fun us s1 ⟨vs,H1,I1,r1,q1⟩=>?_) hs rfl))
 obtain⟨j,e,q1,q2,q⟩:=q1
 subst e
 cases r1 with
 |cons r rr=>
  cases rr
  obtain⟨t,rfl⟩:=r
  exact call_range_1 (S8 I1 (by omega) (by omega) q1 q2 (by simpa using q))
def Xw (wi:TI)(g:TG)(tb:TS):TS:=fun D σ H=>wi σ H fun J H1=>∃W:Nat→Nat→St→Hp→Prop,(∃m,W 0 m σ H1)∧∀i m σ H,W i m σ H→
 (J.stop i H∧D.nx σ H)∨(J.go i H∧∃N:St→Hp→Prop,(∀σ' H',N σ' H'→∃m',m'<m∧W (i+1) m' σ' H')∧∀x H',J.yld i H x H'→g x σ H' fun σ2 H2=>tb { D with nx:=N,ct:=N,bk:=D.nx } σ2 H2)
def LG (fp:List Addr)(h:Heap):List (Addr×Obj):=fp.filterMap fun b=>(h.get? b).map fun o=>(b,o)
theorem GJ {fp:List Addr}{h:Heap}{b:Addr}{o:Obj}(hb:b∈fp)(e:h.get? b=some o):(b,o)∈LG fp h:=List.mem_filterMap.mpr ⟨b,hb,by rw[e];rfl⟩
theorem Q6 {fp:List Addr}{h:Heap}{p:Addr×Obj}(hp:p∈LG fp h):p.1∈fp∧h.get? p.1=some p.2:=by
 obtain⟨b,hb,e⟩:=List.mem_filterMap.mp hp
 cases q:h.get? b with
 |none=>rw[q] at e;cases e
 |some o=>
  rw[q] at e
  have e':(b,o)=p:=Option.some.inj e
  subst e'
  exact⟨hb,q⟩
theorem Inv.pinned {pins:List (Addr×Obj)}{σ:St}{H:Hp}{s:Shared}{fp:List Addr}(I:Inv X pins σ H s)(hf:∀b∈fp,Jc X pins H b)(ho:∀b∈fp,∃o,s.heap.get? b=some o∧∀v,o.data≠.cell v):Inv X (pins++LG fp s.heap) σ H s:=
 I.pins_of fun p hp=>(List.mem_append.mp hp).elim (fun z=>I.pin p (List.mem_append_right _ z)) fun z=>by
  obtain⟨hb,e⟩:=Q6 z
  obtain⟨f0,f1,f2,_⟩:=hf p.1 hb
  obtain⟨o,e',d⟩:=ho p.1 hb
  rw[e] at e';cases e'
  exact⟨e,f0,f1,f2,d⟩
theorem Inv.unpinned {pins pl:List (Addr×Obj)}{σ:St}{H:Hp}{s:Shared}(I:Inv X (pins++pl) σ H s):Inv X pins σ H s:=I.pins_of fun p hp=>I.pin p (List.mem_append_right _ (List.mem_append_left _ hp))
theorem BY {iter:Expr} {body:List Stmt} {wi:TI} {g:TG} {tb:TS} {pos:Pos} (hp:PassesOwn (model X.prog X.w) X.A X.env X.xe) (hc:X.calm=true) (hi:PI X tg iter wi) (hg:PG X tg g) (hb:Pt X body tb)
  (hs:∀x,foldedSetIterable iter X.env x=pure x:=by intro _;rfl):PS X (.For tg iter body [] pos) (Xw wi g tb):=by
 intro pins s σ H D I h
 refine wpAny_For (Bo (hi pins s σ H _ I h) fun v s1 h1=>Bo h1 fun itv s2 h2=>?_) hs
 obtain⟨it,fp,tn,J,H2,e,I2,T,st2,f2,W,⟨m0,w0⟩,turn⟩:=h2
 subst e
 have stat:∀{H':Hp},(∀b∈fp,H' b=none)→∀b∈fp,Jc X pins H' b:=fun hn b hb=>⟨hn b hb,(f2 b hb).2⟩
 refine codeAny_forLoop_any (fun n s'=>∃i σ' H',Inv X pins σ' H' s'∧tn i s'.heap∧(∀b∈fp,H' b=none)∧W i n σ' H') ?_ m0 ⟨0,σ,H2,I2,st2,fun b hb=>(f2 b hb).1,w0⟩
 rintro n s3 ⟨i,σ3,H3,I3,st3,fr3,w3⟩
 rcases turn i n σ3 H3 w3 with⟨stop,qn⟩|⟨go,N,hN,step⟩
 ·refine wpAny_passesOwn hp (Bo (T.done X rfl rfl rfl hc i pins s3 σ3 H3 X.xe I3 (stat fr3) st3 stop) fun r s4 ⟨hr,I4⟩=>?_)
  subst hr
  exact wpAny_execs_nil ⟨σ3,H3,I4,qn⟩
 ·refine wpAny_passesOwn hp (Bo (T.item X rfl rfl rfl hc i pins s3 σ3 H3 X.xe I3 (stat fr3) st3 go) fun r s4 ⟨u,hr,h4⟩=>?_)
  subst hr
  refine wpAny_passesOwn hp (Bo h4 fun _ s5 ⟨x,H5,I5,r5,y5,st5,fr5⟩=>?_)
  have I5':=I5.pinned (stat fr5) (T.obj _ _ st5)
  refine wpAny_passesOwn hp (Bo (hg _ s5 σ3 H5 x u _ I5' r5 (step x H5 y5)) fun _ s6 ⟨σ6,H6,I6,q6⟩=>?_)
  refine wpAny_passesOwn hp (Bo (hb _ s6 σ6 H6 _ I6 q6) fun f s7 q7=>?_)
  have again:∀{σ7:St} {H7:Hp},Inv X (pins++LG fp s5.heap) σ7 H7 s7→N σ7 H7→∃m,m<n∧∃i σ' H',Inv X pins σ' H' s7∧tn i s7.heap∧(∀b∈fp,H' b=none)∧W i m σ' H':=fun{σ7 H7} I7 n7=>by
   obtain⟨m',hm,w7⟩:=hN σ7 H7 n7
   refine⟨m',hm,i+1,σ7,H7,I7.unpinned,T.keep _ _ _ st5 fun b hb o e=>(I7.pin (b,o) (List.mem_append_right _ (List.mem_append_right _ (GJ hb e)))).1,fun b hb=>?_,w7⟩
   obtain⟨o,e,d⟩:=T.obj _ _ st5 b hb
   exact(I7.pin (b,o) (List.mem_append_right _ (List.mem_append_right _ (GJ hb e)))).2.1
  cases f with
  |next=>obtain⟨σ7,H7,I7,n7⟩:=q7;exact again I7 n7
  |cont=>obtain⟨σ7,H7,I7,n7⟩:=q7;exact again I7 n7
  |brk=>obtain⟨σ7,H7,I7,q7⟩:=q7;exact⟨σ7,H7,I7.unpinned,q7⟩
  |ret v=>obtain⟨x7,σ7,H7,I7,r7,q7⟩:=q7;exact⟨x7,σ7,H7,I7.unpinned,r7,q7⟩
end
theorem Cb {K:PySem.W.Frag} {a:Addr} {xs:List V} {g:TG} {tb:TS} {D:Ends} {σ:St} {H:Hp} (Pv:Nat→St→Hp→Prop) (h0:Pv 0 σ H) (hl:∀i σ H,i≤xs.length→Pv i σ H→AU K H a xs)
  (hs:∀i x σ H,xs[i]?=some x→Pv i σ H→g x σ H fun σ2 H2=>tb { D with nx:=Pv (i+1),ct:=Pv (i+1),bk:=D.nx } σ2 H2) (hd:∀σ H,Pv xs.length σ H→D.nx σ H) :
  ∃W:Nat→Nat→St→Hp→Prop,(∃m,W 0 m σ H)∧∀i m σ H,W i m σ H→
   ((VO K a).stop i H∧D.nx σ H)∨((VO K a).go i H∧∃N:St→Hp→Prop,(∀σ' H',N σ' H'→∃m',m'<m∧W (i+1) m' σ' H')∧∀x H',(VO K a).yld i H x H'→g x σ H' fun σ2 H2=>tb { D with nx:=N,ct:=N,bk:=D.nx } σ2 H2):=by
 refine⟨fun i m σ H=>m=xs.length-i∧i≤xs.length∧Pv i σ H,⟨xs.length,by simp,Nat.zero_le _,h0⟩,?_⟩
 rintro i m σ H ⟨rfl,hi,p⟩
 have q:=hl i σ H hi p
 by_cases hlt:i<xs.length
 ·refine .inr ⟨⟨xs,xs[i],q,by simp[hlt]⟩,Pv (i+1),fun σ' H' p'=>⟨xs.length-(i+1),by omega,rfl,hlt,p'⟩,fun x H' y=>?_⟩
  obtain⟨e,y⟩:=y
  subst e
  exact hs i x σ _ (y xs q) p
 ·have e:i=xs.length:=by omega
  subst e
  exact .inl ⟨⟨xs,q,Nat.le_refl _⟩,hd σ H p⟩
theorem KB {K:PySem.W.Frag} {a:Addr} {xs:List V} {g:TG} {tb:TS} {D:Ends} {σ:St} {H:Hp} (Pv:Nat→St→Hp→Prop) (h0:Pv 0 σ H) (hl:∀i σ H,i≤xs.length→Pv i σ H→AY K H a xs)
  (hs:∀i x σ H,xs[i]?=some x→Pv i σ H→g x σ H fun σ2 H2=>tb { D with nx:=Pv (i+1),ct:=Pv (i+1),bk:=D.nx } σ2 H2) (hd:∀σ H,Pv xs.length σ H→D.nx σ H) :
  ∃W:Nat→Nat→St→Hp→Prop,(∃m,W 0 m σ H)∧∀i m σ H,W i m σ H→
   ((Wj K a).stop i H∧D.nx σ H)∨((Wj K a).go i H∧∃N:St→Hp→Prop,(∀σ' H',N σ' H'→∃m',m'<m∧W (i+1) m' σ' H')∧∀x H',(Wj K a).yld i H x H'→g x σ H' fun σ2 H2=>tb { D with nx:=N,ct:=N,bk:=D.nx } σ2 H2):=by
 refine⟨fun i m σ H=>m=xs.length-i∧i≤xs.length∧Pv i σ H,⟨xs.length,by simp,Nat.zero_le _,h0⟩,?_⟩
 rintro i m σ H ⟨rfl,hi,p⟩
 have q:=hl i σ H hi p
 by_cases hlt:i<xs.length
 ·refine .inr ⟨⟨xs,xs[i],q,by simp[hlt]⟩,Pv (i+1),fun σ' H' p'=>⟨xs.length-(i+1),by omega,rfl,hlt,p'⟩,fun x H' y=>?_⟩
  obtain⟨e,y⟩:=y
  subst e
  exact hs i x σ _ (y xs q) p
 ·have e:i=xs.length:=by omega
  subst e
  exact .inl ⟨⟨xs,q,Nat.le_refl _⟩,hd σ H p⟩
theorem Jw {lo:Int} {n:Nat} {g:TG} {tb:TS} {D:Ends} {σ:St} {H:Hp} (Pv:Nat→St→Hp→Prop) (h0:Pv 0 σ H)
  (hs:∀i σ H,i<n→Pv i σ H→g (.int (lo+i)) σ H fun σ2 H2=>tb { D with nx:=Pv (i+1),ct:=Pv (i+1),bk:=D.nx } σ2 H2) (hd:∀σ H,Pv n σ H→D.nx σ H) :
  ∃W:Nat→Nat→St→Hp→Prop,(∃m,W 0 m σ H)∧∀i m σ H,W i m σ H→
   ((Uj lo n).stop i H∧D.nx σ H)∨((Uj lo n).go i H∧∃N:St→Hp→Prop,(∀σ' H',N σ' H'→∃m',m'<m∧W (i+1) m' σ' H')∧∀x H',(Uj lo n).yld i H x H'→g x σ H' fun σ2 H2=>tb { D with nx:=N,ct:=N,bk:=D.nx } σ2 H2):=by
 refine⟨fun i m σ H=>m=n-i∧i≤n∧Pv i σ H,⟨n,by simp,Nat.zero_le _,h0⟩,?_⟩
 rintro i m σ H ⟨rfl,hi,p⟩
 by_cases hlt:i<n
 ·refine .inr ⟨hlt,Pv (i+1),fun σ' H' p'=>⟨n-(i+1),by omega,rfl,hlt,p'⟩,fun x H' y=>?_⟩
  obtain⟨e,y⟩:=y
  subst e y
  exact hs i σ _ hlt p
 ·have e:i=n:=by omega
  subst e
  exact .inl ⟨Nat.le_refl _,hd σ H p⟩
end L2
namespace L2
open PySem PySem.Spec PyProof.Rows
abbrev R2:=V→V→Hp→VK→Prop
def IG (X:Cx)(f:Value→Value→Sem Value)(r:R2):Prop:=
 ∀(pins:List (Addr×Obj)) (s:Shared) (σ:St) (H:Hp) (x y:V) (v u:Value) (Q:VK),Inv X pins σ H s→RelV x v→RelV y u→r x y H Q→
  wpAny (model X.prog X.w) X.A (f v u) (EP X pins σ Q) X.xe s
def Xh (X:Cx)(f:Value→Sem Value)(r:V→Hp→VK→Prop):Prop:=
 ∀(pins:List (Addr×Obj)) (s:Shared) (σ:St) (H:Hp) (x:V) (v:Value) (Q:VK),Inv X pins σ H s→RelV x v→r x H Q→
  wpAny (model X.prog X.w) X.A (f v) (EP X pins σ Q) X.xe s
def Ff (X:Cx)(f:Value)(r:List V→Hp→VK→Prop):Prop:=
 ∀(pins:List (Addr×Obj)) (s:Shared) (σ:St) (H:Hp) (xs:List V) (us:List Value) (Q:VK),Inv X pins σ H s→AJ xs us→r xs H Q→
  wpAny (model X.prog X.w) X.A (call f us) (EP X pins σ Q) X.xe s
def Vu (r:R2)(ta tb:TE):TE:=fun σ H Q=>ta σ H fun x H1=>tb σ H1 fun y H2=>r x y H2 Q
def XW (r:V→Hp→VK→Prop)(ta:TE):TE:=fun σ H Q=>ta σ H fun x H1=>r x H1 Q
def rI (C:Int→Int→Prop)(g:Int→Int→V):R2:=fun x y H Q=>∃i j,x=.int i∧y=.int j∧C i j∧Q (g i j) H
def RW (g:Int→Int→V):R2:=fun x y H Q=>∃i j,x=.int i∧y=.int j∧Q (g i j) H
def rU (g:Int→V):V→Hp→VK→Prop:=fun x H Q=>∃i,x=.int i∧Q (g i) H
section
variable {X:Cx}{a b c:Expr}{ta tb tc:TE}{pos:Pos}
theorem VJ (ha:PE X a ta) (hb:PE X b tb) {pins:List (Addr×Obj)} {s:Shared} {σ:St} {H:Hp} {R:V→V→Hp→Prop} (I:Inv X pins σ H s)
  (h:ta σ H fun x H1=>tb σ H1 fun y H2=>R x y H2) {Q:Value→Shared→Prop} {f:Value→Value→Sem Value}
  (hf:∀v u s2 x y H2,Inv X pins σ H2 s2→RelV x v→RelV y u→R x y H2→wpAny (model X.prog X.w) X.A (f v u) Q X.xe s2) :
  wpAny (model X.prog X.w) X.A (eval a X.env) (fun v s₁=>wpAny (model X.prog X.w) X.A (eval b X.env) (fun u s₂=>wpAny (model X.prog X.w) X.A (f v u) Q X.xe s₂) X.xe s₁) X.xe s:=by
 refine Bo (ha pins s σ H _ I h) fun v s1 ⟨x,H1,I1,r1,q1⟩=>?_
 refine Bo (hb pins s1 σ H1 _ I1 q1) fun u s2 ⟨y,H2,I2,r2,q2⟩=>?_
 exact hf v u s2 x y H2 I2 r1 r2 q2
theorem Az {op:Operator}{r:R2}(ho:IG X (binaryOp op) r)(ha:PE X a ta)(hb:PE X b tb):PE X (.BinOp a op b pos) (Vu r ta tb):=by
 intro pins s σ H Q I h
 exact wpAny_BinOp (VJ ha hb I h fun v u s2 x y H2 I2 rx ry q=>ho pins s2 σ H2 x y v u Q I2 rx ry q)
theorem Qk {op:UnaryOp}{r:V→Hp→VK→Prop}(ho:Xh X (unaryOp op) r)(ha:PE X a ta):PE X (.UnaryOp op a pos) (XW r ta):=by
 intro pins s σ H Q I h
 exact UnaryOp_ (Bo (ha pins s σ H _ I h) fun v s1 ⟨x,H1,I1,r1,q1⟩=>ho pins s1 σ H1 x v Q I1 r1 q1)
theorem WY {f:Value→Value→Sem Value} {C:Int→Int→Prop} {g:Int→Int→Int}
  (rule:∀(i j:Int) (t u:Tok) (s:Shared) (Q:Value→Shared→Prop) (E:Value→Shared→Prop),C i j→Q (.int (g i j) s.toks) { s with toks:=s.toks+1 }→wpAny (model X.prog X.w) X.A (f (.int i t) (.int j u)) Q E s) :
  IG X f (rI C fun i j=>.int (g i j)):=by
 intro pins s σ H x y v u Q I rx ry h
 obtain⟨i,j,rfl,rfl,hc,q⟩:=h
 obtain⟨t,rfl⟩:=rx
 obtain⟨t',rfl⟩:=ry
 exact rule i j t t' s _ _ hc ⟨.int (g i j),H,I.tok _,⟨_,rfl⟩,q⟩
theorem V3 {f:Value→Value→Sem Value} {g:Int→Int→Int}
  (rule:∀(i j:Int) (t u:Tok) (s:Shared) (Q:Value→Shared→Prop) (E:Value→Shared→Prop),Q (.int (g i j) s.toks) { s with toks:=s.toks+1 }→wpAny (model X.prog X.w) X.A (f (.int i t) (.int j u)) Q E s) :
  IG X f (RW fun i j=>.int (g i j)):=by
 intro pins s σ H x y v u Q I rx ry h
 obtain⟨i,j,rfl,rfl,q⟩:=h
 obtain⟨t,rfl⟩:=rx
 obtain⟨t',rfl⟩:=ry
 exact rule i j t t' s _ _ ⟨.int (g i j),H,I.tok _,⟨_,rfl⟩,q⟩
theorem UD {f:Value→Value→Sem Value} {g:Int→Int→Bool}
  (rule:∀(i j:Int) (t u:Tok) (s:Shared) (Q:Value→Shared→Prop) (E:Value→Shared→Prop),Q (.bool (g i j)) s→wpAny (model X.prog X.w) X.A (f (.int i t) (.int j u)) Q E s) :
  IG X f (RW fun i j=>.bl (g i j)):=by
 intro pins s σ H x y v u Q I rx ry h
 obtain⟨i,j,rfl,rfl,q⟩:=h
 obtain⟨t,rfl⟩:=rx
 obtain⟨t',rfl⟩:=ry
 exact rule i j t t' s _ _ ⟨.bl (g i j),H,I,rfl,q⟩
def W7 (i j:Int):Prop:=0<j∧j<1073741824
def WD (i j:Int):Prop:=0≤j∧j≤1000000∧i.natAbs<2^64
def VP (i j:Int):Prop:=(-(2^64)<i∧i<2^64)∨(-(2^64)<j∧j<2^64)
theorem VP.ok {i j:Int}(h:VP i j):IntMulOk i j:=by
 rcases h with⟨h1,h2⟩|⟨h1,h2⟩
 ·exact .of_left (intBits_le_64 h1 h2)
 ·exact .of_right (intBits_le_64 h1 h2)
theorem Cr:IG X (binaryOp .Add) (RW fun i j=>.int (i+j)):=V3 fun _ _ _ _ _ _ _ q=>add_int q
theorem JL:IG X (binaryOp .Sub) (RW fun i j=>.int (i-j)):=V3 fun _ _ _ _ _ _ _ q=>sub_int q
theorem Hv:IG X (binaryOp .Mult) (rI VP fun i j=>.int (i*j)):=WY fun _ _ _ _ _ _ _ hc q=>mul_int q hc.ok
theorem El:IG X (binaryOp .FloorDiv) (rI W7 fun i j=>.int (i/j)):=WY fun i j _ _ _ _ _ hc q=>by
 have h1:(0:Int)<j:=hc.1
 have h2:j<1073741824:=hc.2
 exact floordiv_int (by omega) (by rw[Int.fdiv_eq_ediv_of_nonneg i (by omega)];exact q) (.inl (PyProof.noPylong_small (by omega)))
theorem By:IG X (binaryOp .Mod) (rI (fun _ j=>0<j) fun i j=>.int (i%j)):=WY fun i j _ _ _ _ _ hc q=>by
 have h1:(0:Int)<j:=hc
 exact mod_int' (by omega) (by rw[Int.fmod_eq_emod_of_nonneg i (by omega)];exact q)
theorem LJ:IG X (binaryOp .Pow) (rI WD fun i j=>.int (i^j.toNat)):=WY fun _ _ _ _ _ _ _ hc q=>pow_int_small hc.1 hc.2.1 hc.2.2 q
theorem Gy:IG X (inplaceOp .Add) (RW fun i j=>.int (i+j)):=V3 fun _ _ _ _ _ _ _ q=>iadd_int q
theorem XY {f:Value→Sem Value} {g:Int→Int}
  (rule:∀(i:Int) (t:Tok) (s:Shared) (Q:Value→Shared→Prop) (E:Value→Shared→Prop),Q (.int (g i) s.toks) { s with toks:=s.toks+1 }→wpAny (model X.prog X.w) X.A (f (.int i t)) Q E s) :
  Xh X f (rU fun i=>.int (g i)):=by
 intro pins s σ H x v Q I rx h
 obtain⟨i,rfl,q⟩:=h
 obtain⟨t,rfl⟩:=rx
 exact rule i t s _ _ ⟨.int (g i),H,I.tok _,⟨_,rfl⟩,q⟩
theorem MI:Xh X (unaryOp .USub) (rU fun i=>.int (-i)):=XY fun _ _ _ _ _ q=>neg_int q
end
def Pb:V→V→Bool
 | .non,.non=>true | .non,.int _=>true | .int _,.non=>true | .non,.bl _=>true | .bl _,.non=>true | .non,.str _=>true | .str _,.non=>true
 | .int _,.int _=>true | .bl _,.bl _=>true | .str _,.str _=>true | .byt _,.byt _=>true
 | .int _,.str _=>true | .str _,.int _=>true | .bl _,.str _=>true | .str _,.bl _=>true
 |_,_=>false
def XX:R2:=fun x y H Q=>Pb x y=true∧Q (.bl (decide (x=y))) H
def XU:R2:=fun x y H Q=>Pb x y=true∧Q (.bl (!decide (x=y))) H
theorem Gw {i j:Int}:decide (V.int i=V.int j)=(i == j):=by
 rw[Bool.eq_iff_iff]
 simp
theorem SL {i j:Bool}:decide (V.bl i=V.bl j)=(i == j):=by
 rw[Bool.eq_iff_iff]
 simp
theorem Nl {i j:Str}:decide (V.str i=V.str j)=(i == j):=by
 rw[Bool.eq_iff_iff]
 simp
theorem QN {i j:Array UInt8}:decide (V.byt i=V.byt j)=(i.toList == j.toList):=by
 rw[Bool.eq_iff_iff]
 cases i
 cases j
 simp
section
variable {X:Cx}{a b c:Expr}{ta tb tc:TE}{pos:Pos}
theorem A3 {pins:List (Addr×Obj)}{σ:St}{H:Hp}{s:Shared}{Q:VK}{k k':Bool}(I:Inv X pins σ H s)(q:Q (.bl k) H)(e:k=k'):EP X pins σ Q (.bool k') s:=by
 subst e
 exact⟨.bl k,H,I,rfl,q⟩
theorem Bu:IG X (compareOp .Eq) XX:=by
 intro pins s σ H x y v u Q I rx ry h
 obtain⟨hs,q⟩:=h
 cases x with
 |non=>
  cases rx
  cases y with
  |non=>cases ry;exact PySem.EqNone.eq_none_none (A3 I q (by simp))
  |bl j=>cases ry;exact PySem.EqNone.eq_none_bool (A3 I q (by simp))
  |int j=>obtain⟨t',rfl⟩:=ry;exact PySem.EqNone.eq_none_int (A3 I q (by simp))
  |str j=>obtain⟨t',rfl⟩:=ry;exact PySem.EqNone.eq_none_str (A3 I q (by simp))
  |_=>exact absurd (show false=true from hs) Bool.false_ne_true
 |bl i=>
  cases rx
  cases y with
  |non=>cases ry;exact PySem.EqNone.eq_bool_none (A3 I q (by simp))
  |bl j=>cases ry;exact eq_bool (A3 I q SL)
  |str j=>obtain⟨t',rfl⟩:=ry;exact PySem.EqMixed.eq_bool_str (A3 I q (by simp))
  |_=>exact absurd (show false=true from hs) Bool.false_ne_true
 |int i=>
  obtain⟨t,rfl⟩:=rx
  cases y with
  |non=>cases ry;exact PySem.EqNone.eq_int_none (A3 I q (by simp))
  |int j=>obtain⟨t',rfl⟩:=ry;exact eq_int (A3 I q Gw)
  |str j=>obtain⟨t',rfl⟩:=ry;exact PySem.EqMixed.eq_int_str (A3 I q (by simp))
  |_=>exact absurd (show false=true from hs) Bool.false_ne_true
 |str i=>
  obtain⟨t,rfl⟩:=rx
  cases y with
  |non=>cases ry;exact PySem.EqNone.eq_str_none (A3 I q (by simp))
  |bl j=>cases ry;exact PySem.EqMixed.eq_str_bool (A3 I q (by simp))
  |int j=>obtain⟨t',rfl⟩:=ry;exact PySem.EqMixed.eq_str_int (A3 I q (by simp))
  |str j=>obtain⟨t',rfl⟩:=ry;exact eq_str (A3 I q Nl)
  |_=>exact absurd (show false=true from hs) Bool.false_ne_true
 |byt i=>
  obtain⟨t,rfl⟩:=rx
  cases y with
  |byt j=>obtain⟨t',rfl⟩:=ry;exact PySem.W.eq_bytes (A3 I q QN)
  |_=>exact absurd (show false=true from hs) Bool.false_ne_true
 |_=>cases y<;>exact absurd (show false=true from hs) Bool.false_ne_true
theorem LC:IG X (compareOp .NotEq) XU:=by
 intro pins s σ H x y v u Q I rx ry h
 obtain⟨hs,q⟩:=h
 cases x with
 |non=>
  cases rx
  cases y with
  |non=>cases ry;exact PySem.EqNone.ne_none_none (A3 I q (by simp))
  |bl j=>cases ry;exact PySem.EqNone.ne_none_bool (A3 I q (by simp))
  |int j=>obtain⟨t',rfl⟩:=ry;exact PySem.EqNone.ne_none_int (A3 I q (by simp))
  |str j=>obtain⟨t',rfl⟩:=ry;exact PySem.EqNone.ne_none_str (A3 I q (by simp))
  |_=>exact absurd (show false=true from hs) Bool.false_ne_true
 |bl i=>
  cases rx
  cases y with
  |non=>cases ry;exact PySem.EqNone.ne_bool_none (A3 I q (by simp))
  |bl j=>cases ry;exact ne_bool (A3 I q (congrArg not SL))
  |str j=>obtain⟨t',rfl⟩:=ry;exact PySem.EqMixed.ne_bool_str (A3 I q (by simp))
  |_=>exact absurd (show false=true from hs) Bool.false_ne_true
 |int i=>
  obtain⟨t,rfl⟩:=rx
  cases y with
  |non=>cases ry;exact PySem.EqNone.ne_int_none (A3 I q (by simp))
  |int j=>obtain⟨t',rfl⟩:=ry;exact ne_int (A3 I q (congrArg not Gw))
  |str j=>obtain⟨t',rfl⟩:=ry;exact PySem.EqMixed.ne_int_str (A3 I q (by simp))
  |_=>exact absurd (show false=true from hs) Bool.false_ne_true
 |str i=>
  obtain⟨t,rfl⟩:=rx
  cases y with
  |non=>cases ry;exact PySem.EqNone.ne_str_none (A3 I q (by simp))
  |bl j=>cases ry;exact PySem.EqMixed.ne_str_bool (A3 I q (by simp))
  |int j=>obtain⟨t',rfl⟩:=ry;exact PySem.EqMixed.ne_str_int (A3 I q (by simp))
  |str j=>obtain⟨t',rfl⟩:=ry;exact ne_str (A3 I q (congrArg not Nl))
  |_=>exact absurd (show false=true from hs) Bool.false_ne_true
 |byt i=>
  obtain⟨t,rfl⟩:=rx
  cases y with
  |byt j=>obtain⟨t',rfl⟩:=ry;exact PySem.W.ne_bytes (A3 I q (congrArg not QN))
  |_=>exact absurd (show false=true from hs) Bool.false_ne_true
 |_=>cases y<;>exact absurd (show false=true from hs) Bool.false_ne_true
theorem QC:IG X (compareOp .Lt) (RW fun i j=>.bl (decide (i<j))):=UD fun _ _ _ _ _ _ _ q=>lt_int q
theorem Qm:IG X (compareOp .LtE) (RW fun i j=>.bl (decide (i≤j))):=UD fun _ _ _ _ _ _ _ q=>le_int q
theorem MC:IG X (compareOp .Gt) (RW fun i j=>.bl (decide (j<i))):=UD fun _ _ _ _ _ _ _ q=>gt_int q
theorem WO:IG X (compareOp .GtE) (RW fun i j=>.bl (decide (j≤i))):=UD fun _ _ _ _ _ _ _ q=>ge_int q
theorem Mg:IG X (compareOp .In) (fun x y H Q=>∃i j,x=.str i∧y=.str j∧Q (.bl (!(Builtin.Str.occurrences j i 0 j.length 1).isEmpty)) H):=by
 intro pins s σ H x y v u Q I rx ry h
 obtain⟨i,j,rfl,rfl,q⟩:=h
 obtain⟨t,rfl⟩:=rx
 obtain⟨t',rfl⟩:=ry
 exact in_str (A3 I q rfl)
theorem AC (b:Expr){op:CmpOp}(h:op≠.In:=by decide)(h2:op≠.NotIn:=by decide):behindInMarks op b=false:=by
 have e1:(op == CmpOp.In)=false:=by cases op<;>first|rfl|exact absurd rfl h
 have e2:(op == CmpOp.NotIn)=false:=by cases op<;>first|rfl|exact absurd rfl h2
 cases b<;>simp[behindInMarks,e1,e2]
theorem Cw {op:CmpOp}{r:R2}(ho:IG X (compareOp op) r)(ha:PE X a ta)(hb:PE X b tb)(hm:behindInMarks op b=false):PE X (.Compare a [op] [b] pos) (Vu r ta tb):=by
 intro pins s σ H Q I h
 exact wpAny_Compare1 (VJ ha hb I h fun v u s2 x y H2 I2 rx ry q=>ho pins s2 σ H2 x y v u Q I2 rx ry q) hm
def Sr (t:TE):TT:=fun σ H Q=>t σ H fun x H'=>∃k,x=.bl k∧Q k H'
theorem AF {op:CmpOp}{r:R2}(ho:IG X (compareOp op) r)(ha:PE X a ta)(hb:PE X b tb)(hm:behindInMarks op b=false):PT X (.Compare a [op] [b] pos) (Sr (Vu r ta tb)):=by
 intro pins s σ H Q I h
 refine wpAny_isTrue_Compare1 (Bo (ha pins s σ H _ I h) fun v s1 ⟨x,H1,I1,r1,q1⟩=>Bo (hb pins s1 σ H1 _ I1 q1) fun u s2 ⟨y,H2,I2,r2,q2⟩=>
  Bo (ho pins s2 σ H2 x y v u _ I2 r1 r2 q2) fun c s3 ⟨z,H3,I3,r3,k,e,q3⟩=>?_) hm
 subst e
 cases r3
 exact wpAny_truthy_bool ⟨H3,I3,q3⟩
def TZ (r r':R2)(ta tb tc:TE):TE:=fun σ H Q=>ta σ H fun x H1=>tb σ H1 fun y H2=>r x y H2 fun z H3=>∃k,z=.bl k∧
 (if k=true then tc σ H3 fun w' H4=>r' y w' H4 Q else Q (.bl false) H3)
theorem Tf {op op':CmpOp} {r r':R2} (ho:IG X (compareOp op) r) (ho':IG X (compareOp op') r') (ha:PE X a ta) (hb:PE X b tb) (hc:PE X c tc)
  (hm:lastMarks [op,op'] [b,c]=false:=by with_unfolding_all rfl):PE X (.Compare a [op,op'] [b,c] pos) (TZ r r' ta tb tc):=by
 intro pins s σ H Q I h
 refine Compare_chain (Bo (ha pins s σ H _ I h) fun v s1 ⟨x,H1,I1,r1,q1⟩=>chain_link (Bo (hb pins s1 σ H1 _ I1 q1) fun u s2 ⟨y,H2,I2,r2,q2⟩=>
  Bo (ho pins s2 σ H2 x y v u _ I2 r1 r2 q2) fun d s3 ⟨z,H3,I3,r3,k,e,q3⟩=>?_)) hm
 subst e
 cases r3
 refine wpAny_truthy_bool ?_
 cases k with
 |false=>exact ite_ff ⟨.bl false,H3,I3,rfl,q3⟩
 |true=>exact ite_tt (chain_last (Bo (hc pins s3 σ H3 _ I3 q3) fun w' s4 ⟨z',H4,I4,r4,q4⟩=>ho' pins s4 σ H4 y z' u w' Q I4 r2 r4 q4))
theorem R5 {op op':CmpOp} {r r':R2} (ho:IG X (compareOp op) r) (ho':IG X (compareOp op') r') (ha:PE X a ta) (hb:PE X b tb) (hc:PE X c tc)
  (hm:lastMarks [op,op'] [b,c]=false:=by with_unfolding_all rfl):PT X (.Compare a [op,op'] [b,c] pos) (Sr (TZ r r' ta tb tc)):=by
 intro pins s σ H Q I h
 refine isTrue_chain (Bo (ha pins s σ H _ I h) fun v s1 ⟨x,H1,I1,r1,q1⟩=>test_link (Bo (hb pins s1 σ H1 _ I1 q1) fun u s2 ⟨y,H2,I2,r2,q2⟩=>
  Bo (ho pins s2 σ H2 x y v u _ I2 r1 r2 q2) fun d s3 ⟨z,H3,I3,r3,k,e,q3⟩=>?_)) hm
 subst e
 cases r3
 refine wpAny_truthy_bool ?_
 cases k with
 |false=>
  obtain⟨k',e',q'⟩:=q3
  cases e'
  exact ite_ff ⟨H3,I3,q'⟩
 |true=>
  refine ite_tt (test_last (Bo (hc pins s3 σ H3 _ I3 q3) fun w' s4 ⟨z',H4,I4,r4,q4⟩=>Bo (ho' pins s4 σ H4 y z' u w' _ I4 r2 r4 q4) fun d' s5 ⟨z2,H5,I5,r5,k2,e2,q5⟩=>?_))
  subst e2
  cases r5
  exact wpAny_truthy_bool ⟨H5,I5,q5⟩
theorem Lo:(sizeLine:Nat)<2^63:=by rw[sizeLine_eq];decide
theorem Dz:IG X (binaryOp .Add) (fun x y H Q=>∃i j,x=.str i∧y=.str j∧i.length+j.length≤sizeLine∧Q (.str (i++j)) H):=by
 intro pins s σ H x y v u Q I rx ry h
 obtain⟨i,j,rfl,rfl,hz,q⟩:=h
 obtain⟨t,rfl⟩:=rx
 obtain⟨t',rfl⟩:=ry
 exact add_str (fun t' tk=>⟨.str (i++j),H,I.tok _,⟨_,rfl⟩,q⟩) hz
theorem vals1 {x:V}{us:List Value}(r:AJ [x] us):∃u,us=[u]∧RelV x u:=by
 cases r with
 |cons r1 r2=>cases r2;exact⟨_,rfl,r1⟩
theorem vals2 {x y:V}{us:List Value}(r:AJ [x,y] us):∃u w',us=[u,w']∧RelV x u∧RelV y w':=by
 cases r with
 |cons r1 r2=>
  cases r2 with
  |cons r3 r4=>cases r4;exact⟨_,_,rfl,r1,r3⟩
theorem NT:Ff X (.builtin "abs") (fun xs H Q=>∃i,xs=[.int i]∧Q (.int (if i<0 then -i else i)) H):=by
 intro pins s σ H xs us Q I r h
 obtain⟨i,rfl,q⟩:=h
 obtain⟨u,rfl,t,rfl⟩:=vals1 r
 exact call_abs_int fun u tk=>⟨.int (if i<0 then -i else i),H,I.tok _,⟨_,rfl⟩,q⟩
end
end L2
namespace L2
open PySem PySem.Spec PyProof.Rows
structure ObjM (h:Heap) (x dx C:Addr) (mA:Str→Option Value):Prop where
 obj:h.get? x=some (PySem.W.instObj C dx)
 ns:h.Ns1 dx mA
 ne:dx≠x
theorem RB {h:Heap}{dx:Addr}{mA:Str→Option Value}(n:h.Ns1 dx mA):∃od,h.get? dx=some od∧∀name,PySem.W.lookIn name od=some (mA name):=by
 obtain⟨o,es,ep,ho,hd,hk,_,hm⟩:=n
 refine⟨o,ho,fun name=>?_⟩
 have e:=hm name
 unfold nsFind findBy at e
 rw[←Array.find?_toList] at e
 unfold PySem.W.lookIn
 rw[hd]
 dsimp only
 split
 ·rename_i y q
  rw[q] at e
  exact congrArg some e
 ·rename_i q
  rw[q] at e
  have a:es.toList.any (·.refKey)=false:=by
   rw[List.any_eq_false]
   intro y hy
   obtain⟨z,t,hkey⟩:=hk y (Array.mem_toList_iff.mp hy)
   simp[DictEntry.refKey,hkey]
  have a':¬es.toList.any (·.refKey)=true:=by rw[a];exact Bool.false_ne_true
  rw[if_neg a']
  exact congrArg some e
theorem ObjM.look {h:Heap}{x dx C:Addr}{mA:Str→Option Value}(I:ObjM h x dx C mA):∃od,PySem.W.InstAt h x (PySem.W.instObj C dx) C (some od)∧∀name,PySem.W.lookIn name od=some (mA name):=
 let⟨od,ho,hl⟩:=RB I.ns
 ⟨od,⟨I.obj,rfl,rfl,ho⟩,hl⟩
section
variable {prog:Program}{w:World}{A:Around}{E:Value→Shared→Prop}{s:Shared}{K:PySem.W.Frag}{x dx C f:Addr}{mA:Str→Option Value}{name:Str}{v:Value}
theorem get_map {expr:Bool} {Q:Value→Shared→Prop} (X:K.In s.heap) (I:ObjM s.heap x dx C mA) (hg:PySem.W.plainGet K C name=true) (hh:PySem.W.hasDictIn K C=true)
  (ha:PySem.W.findIn K (.ref C) name=some none) (hv:mA name=some v) (hv':PySem.W.handedIn v=true) (h:Q v { s with toks:=s.toks+1 }) :
  wpAny (model prog w) A (getAttr (.ref x) name expr) Q E s:=by
 obtain⟨od,J,hl⟩:=I.look
 exact PySem.W.get_value X J (PySem.W.plainGet_of hg).1 (PySem.W.findObj_own hh ha rfl (by rw[hl,hv])) hv' h
theorem SQ {pl:Sem Bool} {Q:Value×List Value→Shared→Prop} (X:K.In s.heap) (I:ObjM s.heap x dx C mA) (hg:PySem.W.plainGet K C name=true)
  (hf:PySem.W.findIn K (.ref C) name=some (some (.ref f))) (ht:PySem.W.isFn K (.ref f)=true) (hv:mA name=none) (h:Q (.ref f,[.ref x]) s) :
  wpAny (model prog w) A (getMethod (.ref x) name pl) Q E s:=by
 obtain⟨od,J,hl⟩:=I.look
 exact PySem.W.method_fn X J (PySem.W.plainGet_of hg).1 (PySem.W.plainGet_of hg).2 hf (beq_iff_eq.mp ht) (by show(PySem.W.lookIn name od).map (·.isSome)=some false;rw[hl,hv];rfl) h
theorem UE {ns:List Str} {Q:Unit→Shared→Prop} (X:K.In s.heap) (I:ObjM s.heap x dx C mA)
  (hs:PySem.W.findIn K (.ref C) "__setattr__"=some (some (.builtin "object.__setattr__"))) (hp:PySem.W.plainOver K C=true) (ht:PySem.W.takerIn K C name=some none) (hh:PySem.W.hasDictIn K C=true)
  (hw:PySem.Within mA ns) (hsz:ns.length≤sizeLine)
  (h:∀h',ObjM h' x dx C (fun y=>if y=name then some v else mA y)→Heap.SameBut dx s.heap h'→Q () { s with heap:=h',toks:=s.toks+2 }) :
  wpAny (model prog w) A (setAttr (.ref x) name v) Q E s:=by
 obtain⟨od,J,hl⟩:=I.look
 refine PySem.W.set_plain X J hs (PySem.W.osa_open (s:={ s with toks:=s.toks+1 }) (r:=none) X J hp ht fun b=>?_)
 obtain⟨cd,hc,hd'⟩:=PySem.W.any_some hh
 have hx:s.heap.get? x=some ⟨.ref C,some dx,.plain,#[]⟩:=I.obj
 refine wpAny_bind (wpAny_pure (wpAny_bind (wpAny_bind (wpAny_loadPart hx (wpAny_bind (PySem.W.Looks.here (s:={ s with toks:=s.toks+1 }) (PySem.W.looks_clsIn X hc) ?_))))))
 rw[hd']
 refine wpAny_pure (a:=some dx) (wpAny_bind (wpAny_pure (wpAny_bind ?_)))
 refine wpAny_nsSet1 (s:={ s with toks:=s.toks+1 }) I.ns fun h' hn2 hs2=>?_
 obtain⟨oD,esD,epD,hoD,hdD,hcD⟩:=hn2.count (PySem.Within.cons name v hw)
 refine wpAny_bind (wpAny_lookBehind hoD (by rw[hdD];exact pastItsLine_dict (Nat.le_trans hcD (by rw[List.length_cons];omega))) ?_)
 exact wpAny_pure (h _ ⟨(hs2.2 _ (Ne.symm I.ne)).trans I.obj,hn2,I.ne⟩ hs2)
theorem Sv {R:Result→Shared→Prop} {vs:List Value} {kw:List (Str×Value)} (X:K.In s.heap) (hm:PySem.W.makesIn K C=true)
  (hi:PySem.W.findIn K (.ref C) "__init__"=some (some (.ref f))) (hf:PySem.W.typeIn K (.ref f)=some (.type "function"))
  (h:codeAny (model prog w) (A.under (.builtin "type.__call__" ⟨.ref C::vs,kw⟩)) (.call (.ref f) ⟨.ref (s.heap.objs.size+1)::vs,kw⟩) (PySem.W.InitBack (s.heap.objs.size+1) R)
   { s with heap:=(s.heap.push PySem.W.emptyDict).push (PySem.W.instObj C s.heap.objs.size) }) :
  codeAny (model prog w) A (.call (.ref C) ⟨vs,kw⟩) R s:=by
 obtain⟨hh,g,d,t,os⟩:=s
 exact PySem.W.make_core (PySem.W.makes_of X hm) (PySem.W.looks_findIn X hi) (fun self=>PySem.W.bind_fn X self hf) (.inl rfl) h
end
def Ei (f:Str)(v:V):List (Str×V)→List (Str×V)
 |[]=>[(f,v)]
 |(g,x)::r=>if g=f then(g,v)::r else(g,x)::Ei f v r
theorem J4 (f g:Str)(v:V):∀fs:List (Str×V),(Ei f v fs).lookup g=if g=f then some v else fs.lookup g
 |[]=>by
  show List.lookup g [(f,v)]=_
  by_cases h:g=f
  ·have hb:(g == f)=true:=beq_iff_eq.mpr h
   simp only[List.lookup,hb,if_pos h]
  ·have hb:(g == f)=false:=beq_eq_false_iff_ne.mpr h
   simp only[List.lookup,hb,if_neg h]
 |(k,x)::r=>by
  have ih:=J4 f g v r
  rw[show Ei f v ((k,x)::r)=(if k=f then(k,v)::r else(k,x)::Ei f v r) from rfl]
  by_cases hk:k=f
  ·rw[if_pos hk]
   by_cases h:g=k
   ·have hb:(g == k)=true:=beq_iff_eq.mpr h
    simp only[List.lookup,hb,if_pos (h.trans hk)]
   ·have hb:(g == k)=false:=beq_eq_false_iff_ne.mpr h
    simp only[List.lookup,hb,if_neg (fun e:g=f=>h (e.trans hk.symm))]
  ·rw[if_neg hk]
   by_cases h:g=k
   ·have hb:(g == k)=true:=beq_iff_eq.mpr h
    simp only[List.lookup,hb,if_neg (fun e:g=f=>hk (h.symm.trans e))]
   ·have hb:(g == k)=false:=beq_eq_false_iff_ne.mpr h
    simp only[List.lookup,hb]
    exact ih
theorem Jz (f:Str)(v:V):∀fs:List (Str×V),f∈(Ei f v fs).map (·.1)∧∀g,g∈fs.map (·.1)→g∈(Ei f v fs).map (·.1)
 |[]=>⟨by simp[Ei],fun g h=>by simp at h⟩
 |(k,x)::r=>by
  obtain⟨i1,i2⟩:=Jz f v r
  rw[show Ei f v ((k,x)::r)=(if k=f then(k,v)::r else(k,x)::Ei f v r) from rfl]
  by_cases hk:k=f
  ·rw[if_pos hk]
   subst hk
   exact⟨by simp,fun g h=>by simpa using h⟩
  ·rw[if_neg hk]
   refine⟨?_,fun g h=>?_⟩
   ·rw[List.map_cons]
    exact List.mem_cons_of_mem _ i1
   ·rw[List.map_cons] at h ⊢
    rcases List.mem_cons.mp h with e|e
    ·exact List.mem_cons.mpr (.inl e)
    ·exact List.mem_cons_of_mem _ (i2 g e)
theorem J1 (f:Str)(v:V):∀fs:List (Str×V),(Ei f v fs).length≤fs.length+1
 |[]=>by simp[Ei]
 |(k,x)::r=>by
  have ih:=J1 f v r
  rw[show Ei f v ((k,x)::r)=(if k=f then(k,v)::r else(k,x)::Ei f v r) from rfl]
  by_cases hk:k=f
  ·rw[if_pos hk,List.length_cons,List.length_cons];omega
  ·rw[if_neg hk,List.length_cons,List.length_cons];omega
theorem Gc.some_of {v:V}{o:Option Value}(r:Gc (some v) o):∃u,o=some u∧RelV v u:=by
 cases o with
 |none=>exact(show False from r).elim
 |some u=>exact⟨u,rfl,r⟩
theorem Gc.none_of {o:Option Value}(r:Gc none o):o=none:=by
 cases o with
 |none=>rfl
 |some u=>exact(show False from r).elim
theorem QZ {v:V}{u:Value}(r:RelV v u):PySem.W.handedIn u=true:=by
 cases v with
 |non=>cases(show u=Value.none from r);rfl
 |bl b=>cases(show u=Value.bool b from r);rfl
 |int i=>obtain⟨t,e⟩:=(show ∃t,u=Value.int i t from r);cases e;rfl
 |str x=>obtain⟨t,e⟩:=(show ∃t,u=Value.str x t from r);cases e;rfl
 |byt b=>obtain⟨t,e⟩:=(show ∃t,u=Value.bytes b t from r);cases e;rfl
 |flt b=>obtain⟨t,e⟩:=(show ∃t,u=Value.float b t from r);cases e;rfl
 |ref a=>cases(show u=Value.ref a from r);rfl
 |ty n=>cases(show u=Value.type n from r);rfl
section
variable {P:Program}{w:World}{H H':Hp}{h h':Heap}{a C dx:Addr}{fs fs':List (Str×V)}
theorem KM (hok:Ie P w H h)(e:H a=some (.ins C dx fs)):∃mA,ObjM h a dx C mA∧(∀f,Gc (fs.lookup f) (mA f))∧PySem.Within mA (fs.map (·.1))∧fs.length≤1000∧H dx=some (.own a):=by
 obtain⟨d,z,ne,ob,mA,n,r,q⟩:=(show Bj P w H h a (.ins C dx fs) from hok a _ e)
 exact⟨mA,⟨ob,n,ne⟩,r,q,z,d⟩
end
structure Cls (K:PySem.W.Frag) (C:Addr):Prop where
 pg:PySem.W.plainGet K C Str.empty=true
 hd:PySem.W.hasDictIn K C=true
 po:PySem.W.plainOver K C=true
 sa:PySem.W.findIn K (.ref C) "__setattr__"=some (some (.builtin "object.__setattr__"))
theorem Cls.get {K:PySem.W.Frag}{C:Addr}(c:Cls K C)(f:Str):PySem.W.plainGet K C f=true:=c.pg
def Bx (K:PySem.W.Frag)(C:Addr)(f:Str):Prop:=PySem.W.findIn K (.ref C) f=some none
theorem Bx.taker {K:PySem.W.Frag}{C:Addr}{f:Str}(n:Bx K C f):PySem.W.takerIn K C f=some none:=by
 unfold PySem.W.takerIn
 rw[show PySem.W.findIn K (.ref C) f=some none from n]
 rfl
structure Con (K:PySem.W.Frag) (C:Addr) (f:Str) (v:V) (u:Value):Prop where
 at_:PySem.W.findIn K (.ref C) f=some (some u)
 rel:RelV v u
 get:PySem.W.specialIn K u "__get__"=some none
 cp:PySem.W.copiedNames.contains f=false
structure Meth (K:PySem.W.Frag) (C:Addr) (m:Str) (f:Addr):Prop where
 at_:PySem.W.findIn K (.ref C) m=some (some (.ref f))
 fn:PySem.W.isFn K (.ref f)=true
 kp:PySem.W.keepIn K (.ref f)=true
section
variable {X:Cx}{pins:List (Addr×Obj)}{σ:St}{H:Hp}{s:Shared}{a C dx:Addr}{fs:List (Str×V)}{f:Str}{v:V}{A:Around}{E:Value→Shared→Prop}
theorem LL {b:Bool} {Q:Value→Shared→Prop} (I:Inv X pins σ H s) (e:H a=some (.ins C dx fs)) (c:Cls X.K C) (n:Bx X.K C f) (l:fs.lookup f=some v)
  (h:∀u s',Inv X pins σ H s'→RelV v u→Q u s'):wpAny (model X.prog X.w) A (getAttr (.ref a) f b) Q E s:=by
 obtain⟨mA,O,r,_,_,_⟩:=KM I.hok e
 obtain⟨u,hu,ru⟩:=Gc.some_of (v:=v) (o:=mA f) (by rw[←l];exact r f)
 exact get_map I.kIn O (c.get f) c.hd n hu (QZ ru) (h u _ (I.tok _) ru)
theorem Lf {m:Str} {g:Addr} {pl:Sem Bool} {Q:Value×List Value→Shared→Prop} (I:Inv X pins σ H s) (e:H a=some (.ins C dx fs)) (c:Cls X.K C) (k:Meth X.K C m g) (l:fs.lookup m=none)
  (h:Q (.ref g,[.ref a]) s):wpAny (model X.prog X.w) A (getMethod (.ref a) m pl) Q E s:=by
 obtain⟨mA,O,r,_,_,_⟩:=KM I.hok e
 have hn:mA m=none:=Gc.none_of (by rw[←l];exact r m)
 exact SQ I.kIn O (c.get m) k.at_ k.fn hn h
theorem Lc {y:V} {u:Value} {Q:Unit→Shared→Prop} (I:Inv X pins σ H s) (e:H a=some (.ins C dx fs)) (c:Cls X.K C) (n:Bx X.K C f) (hl:fs.length<1000) (ry:RelV y u)
  (h:∀s',Inv X pins σ (upd H a (.ins C dx (Ei f y fs))) s'→Q () s'):wpAny (model X.prog X.w) A (setAttr (.ref a) f u) Q E s:=by
 obtain⟨mA,O,r,wi,_,ho⟩:=KM I.hok e
 have hz:(fs.map (·.1)).length≤sizeLine:=by rw[List.length_map,sizeLine_eq];omega
 refine UE I.kIn O c.sa c.po n.taker c.hd wi hz fun h' O' sb=>h _ ?_
 have hd:∃o,h'.get? dx=some o:=let⟨o,_,_,e',_⟩:=O'.ns;⟨o,e'⟩
 refine I.write (x:=a) (e:=dx) (by rw[e];exact True.intro) (.inr ho) (fun b q hb z=>(sb.2 b hb).trans z) hd ?_
 refine⟨by rw[Aj O.ne];exact ho,?_,O.ne,O'.obj,_,O'.ns,fun g=>?_,fun g hg=>?_⟩
 ·have:=J1 f y fs;omega
 ·show Gc ((Ei f y fs).lookup g) (if g=f then some u else mA g)
  rw[J4]
  by_cases q:g=f
  ·rw[if_pos q,if_pos q];exact ry
  ·rw[if_neg q,if_neg q];exact r g
 ·by_cases q:g=f
  ·rw[q];exact(Jz f y fs).1
  ·refine(Jz f y fs).2 g (wi g fun z=>hg ?_)
   show(if g=f then some u else mA g)=none
   rw[if_neg q];exact z
theorem Inv.made (I:Inv X pins σ H s):Inv X pins σ (upd (upd H s.heap.objs.size (.own (s.heap.objs.size+1))) (s.heap.objs.size+1) (.ins C s.heap.objs.size []))
  { s with heap:=(s.heap.push PySem.W.emptyDict).push (PySem.W.instObj C s.heap.objs.size) }:=by
 have e1:(s.heap.push PySem.W.emptyDict).get? s.heap.objs.size=some PySem.W.emptyDict:=Heap.get?_push_size s.heap rfl
 have e2:((s.heap.push PySem.W.emptyDict).push (PySem.W.instObj C s.heap.objs.size)).get? (s.heap.objs.size+1)=some (PySem.W.instObj C s.heap.objs.size):=by
  have:=Heap.get?_push_size (s.heap.push PySem.W.emptyDict) (o:=PySem.W.instObj C s.heap.objs.size) rfl
  rwa [Heap.size_push] at this
 have e3:(s.heap.push PySem.W.emptyDict).Ns s.heap.objs.size (fun _=>none):=⟨PySem.W.emptyDict,#[],_,e1,rfl,(fun e he=>absurd he (by simp)),fun _=>rfl⟩
 have I1:=I.laid (a:=s.heap.objs.size) (o:=.own (s.heap.objs.size+1)) (h':=s.heap.push PySem.W.emptyDict) (t':=s.toks) (fun b u q=>Heap.get?_push_of_some _ q) (Nat.le_refl _) ⟨_,e1⟩
 refine I1.laid (a:=s.heap.objs.size+1) (o:=.ins C s.heap.objs.size []) (t':=s.toks) (fun b u q=>Heap.get?_push_of_some _ q) (Nat.le_of_eq (Heap.size_push _ _)) ?_
 have ne:s.heap.objs.size≠s.heap.objs.size+1:=Nat.ne_of_lt (Nat.lt_succ_self _)
 refine⟨by rw[Aj ne,Ag],Nat.zero_le _,ne,e2,fun _=>none,(Heap.Ns1.of_empty e3).at fun o q=>Heap.get?_push_of_some _ q,fun _=>True.intro,fun y hy=>absurd rfl hy⟩
theorem Vi {prog:Program} {w:World} {env:Env} {e:Expr} {f:Str} {pos:Pos} {s:Shared} {Q:Value→Shared→Prop} (hb:attributeBase e f env (eval e env)=eval e env)
  (h:wpAny (model prog w) A (eval e env) (fun o s₁=>wpAny (model prog w) A (getAttr o f true) Q E s₁) E s):wpAny (model prog w) A (eval (.Attribute e f pos) env) Q E s:=
 Attribute_any_ h (by rw[arm_eval_Attribute,hb])
end
def W9 (K:PySem.W.Frag)(ta:TE)(f:Str):TE:=fun σ H Q=>ta σ H fun x H1=>∃a C dx fs v,x=.ref a∧H1 a=some (.ins C dx fs)∧Cls K C∧Bx K C f∧fs.lookup f=some v∧Q v H1
def Xp (K:PySem.W.Frag)(ta tv:TE)(f:Str):TS:=fun D σ H=>tv σ H fun y H1=>ta σ H1 fun x H2=>∃a C dx fs,x=.ref a∧H2 a=some (.ins C dx fs)∧Cls K C∧Bx K C f∧fs.length<1000∧
 D.nx σ (upd H2 a (.ins C dx (Ei f y fs)))
def Xn (X:Cx)(op:Operator)(rd:V→V→Hp→VK→Prop):Prop:=
 ∀(pins:List (Addr×Obj)) (s:Shared) (σ:St) (H:Hp) (x y:V) (u v:Value) (Q:VK),Inv X pins σ H s→RelV x u→RelV y v→rd x y H Q→wpAny (model X.prog X.w) X.A (inplaceOp op u v) (EP X pins σ Q) X.xe s
def UP (K:PySem.W.Frag)(ta tv:TE)(rd:V→V→Hp→VK→Prop)(f:Str):TS:=fun D σ H=>ta σ H fun x H1=>∃a C dx fs v,x=.ref a∧H1 a=some (.ins C dx fs)∧Cls K C∧Bx K C f∧fs.lookup f=some v∧
 tv σ H1 fun y H2=>rd v y H2 fun z H3=>∃dx' fs',H3 a=some (.ins C dx' fs')∧fs'.length<1000∧D.nx σ (upd H3 a (.ins C dx' (Ei f z fs')))
section
variable {X:Cx}{o e value:Expr}{f:Str}{pos pos' tpos:Pos}{ta tv:TE}
theorem AR (he:PE X e ta)(hb:attributeBase e f X.env (eval e X.env)=eval e X.env):PE X (.Attribute e f pos) (W9 X.K ta f):=by
 intro pins s σ H Q I h
 refine Vi hb (Bo (he pins s σ H _ I h) fun u s1 ⟨x,H1,I1,rx,a,C,dx,fs,v,ex,ea,c,n,l,q⟩=>?_)
 subst ex
 obtain rfl:u=Value.ref a:=rx
 exact LL I1 ea c n l fun u' s2 I2 ru=>⟨v,H1,I2,ru,q⟩
theorem Cp (ha:PE X o ta)(hv:PE X value tv)(hs:swapsWith value (some (.Attribute o f pos')) pos.line X.env=pure false):PS X (.Assign [.Attribute o f pos'] value pos) (Xp X.K ta tv f):=by
 intro pins s σ H D I h
 refine plainObj_wpAny_Assign_Attribute (Bo (hv pins s σ H _ I h) fun u s1 ⟨y,H1,I1,ry,q⟩=>Bo (ha pins s1 σ H1 _ I1 q) fun ov s2 ⟨x,H2,I2,rx,a,C,dx,fs,ex,ea,c,n,l,q2⟩=>?_) hs
 subst ex
 obtain rfl:ov=Value.ref a:=rx
 exact Lc I2 ea c n l ry fun s3 I3=>⟨σ,_,I3,q2⟩
theorem HH {op:Operator}{rd:V→V→Hp→VK→Prop}(ha:PE X o ta)(hv:PE X value tv)(hop:Xn X op rd):PS X (.AugAssign (.Attribute o f tpos) op value pos) (UP X.K ta tv rd f):=by
 intro pins s σ H D I h
 refine wpAny_AugAssign_AttributeAny (Bo (ha pins s σ H _ I h) fun ov s1 ⟨x,H1,I1,rx,a,C,dx,fs,v,ex,ea,c,n,l,q⟩=>?_)
 subst ex
 obtain rfl:ov=Value.ref a:=rx
 refine LL I1 ea c n l fun u s2 I2 ru=>Bo (hv pins s2 σ H1 _ I2 q) fun w3 s3 ⟨y,H2,I3,ry,q3⟩=>Bo (hop pins s3 σ H2 v y u w3 _ I3 ru ry q3) fun w4 s4 ⟨z,H3,I4,rz,dx',fs',ea',l',q4⟩=>?_
 exact Lc I4 ea' c n l' rz fun s5 I5=>⟨σ,_,I5,q4⟩
end
section
variable {X:Cx}{pins:List (Addr×Obj)}{σ:St}{H:Hp}{s:Shared}{A:Around}{E:Value→Shared→Prop}{Q:Value→Shared→Prop}{c:Value}{b:Bool}
inductive TyOf (K:PySem.W.Frag) (H:Hp):V→Value→Prop where
 |non:TyOf K H .non (.type "NoneType")
 |bl (x:Bool):TyOf K H (.bl x) (.type "bool")
 |int (i:Int):TyOf K H (.int i) (.type "int")
 |str (x:Str):TyOf K H (.str x) (.type "str")
 |flt (x:UInt64):TyOf K H (.flt x) (.type "float")
 |lst {a:Addr} {xs:List V} (e:H a=some (.lst xs)):TyOf K H (.ref a) (.type "list")
 |frz {a:Addr} {o:Obj} {xs:List V} (e:H a=some (.frz o (.lst xs))):TyOf K H (.ref a) (.type "list")
 |tup {a:Addr} {xs:List V} (e:H a=some (.tup xs)):TyOf K H (.ref a) (.type "tuple")
 |dK {a:Addr} {kvs:List (Key×V)} (e:H a=some (.dK kvs)):TyOf K H (.ref a) (.type "dict")
 |dT {a:Addr} {kvs:List (List Key×V)} (e:H a=some (.dT kvs)):TyOf K H (.ref a) (.type "dict")
 |ins {a C dx:Addr} {fs:List (Str×V)} (e:H a=some (.ins C dx fs)) (cl:Cls K C) (ha:PySem.W.findIn K (.ref C) "__class__"=some (some (.builtin "object.__class__")))
   (hn:PySem.W.specialIn K (.builtin "object.__class__") "__get__"=some (some (.builtin "getset_descriptor.__get__"))) (htk:PySem.W.takesIn K (.builtin "object.__class__")=some true)
   (hm:PySem.W.mroIn K C (.type "object")=some true):TyOf K H (.ref a) (.ref C)
theorem Rw {x:V}{u t:Value}(I:Inv X pins σ H s)(rx:RelV x u)(ty:TyOf X.K H x t)(e:PySem.W.kitOne X.K t c=some b)(h:∀tk,Q (.bool b) { s with toks:=tk }) :
  wpAny (model X.prog X.w) A (call (.builtin "isinstance") [u,c]) Q E s:=by
 cases ty with
 |non=>cases(show u=Value.none from rx);exact PySem.W.kia_one PySem.W.kitx_none I.kIn True.intro e (fun z=>nomatch z) h
 |bl y=>cases(show u=Value.bool y from rx);exact PySem.W.kia_one PySem.W.kitx_bool I.kIn True.intro e (fun z=>nomatch z) h
 |int i=>obtain⟨t,q⟩:=(show ∃t,u=Value.int i t from rx);cases q;exact PySem.W.kia_one PySem.W.kitx_int I.kIn True.intro e (fun z=>nomatch z) h
 |str y=>obtain⟨t,q⟩:=(show ∃t,u=Value.str y t from rx);cases q;exact PySem.W.kia_one PySem.W.kitx_str I.kIn True.intro e (fun z=>nomatch z) h
 |flt y=>obtain⟨t,q⟩:=(show ∃t,u=Value.float y t from rx);cases q;exact PySem.W.kia_one PySem.W.kitx_float I.kIn True.intro e (fun z=>nomatch z) h
 |@lst a xs ea=>
  cases(show u=Value.ref a from rx)
  obtain⟨_,_,n,_,h1⟩:=(show Bj X.prog X.w H s.heap a (.lst xs) from I.hok a _ ea)
  exact PySem.W.kia_one PySem.W.kitx_list I.kIn ⟨_,h1,rfl⟩ e (fun z=>nomatch z) h
 |@frz a ob xs ea=>
  cases(show u=Value.ref a from rx)
  obtain⟨_,_,_,n,_,h1⟩:=(show Bj X.prog X.w H s.heap a (.frz ob (.lst xs)) from I.hok a _ ea)
  exact PySem.W.kia_one PySem.W.kitx_list I.kIn ⟨_,h1,rfl⟩ e (fun z=>nomatch z) h
 |@tup a xs ea=>
  cases(show u=Value.ref a from rx)
  obtain⟨_,_,_,p⟩:=(show Bj X.prog X.w H s.heap a (.tup xs) from I.hok a _ ea)
  obtain⟨o,h1,h2,_⟩:=p
  exact PySem.W.kia_one PySem.W.kitx_tuple I.kIn ⟨o,h1,h2⟩ e (fun z=>nomatch z) h
 |@dK a kvs ea=>
  cases(show u=Value.ref a from rx)
  obtain⟨_,_,vs,_,p⟩:=(show Bj X.prog X.w H s.heap a (.dK kvs) from I.hok a _ ea)
  obtain⟨o,es,ep,h1,h2,_⟩:=p
  exact PySem.W.kia_one PySem.W.kitx_dict I.kIn ⟨o,h1,h2.1⟩ e (fun z=>nomatch z) h
 |@dT a kvs ea=>
  cases(show u=Value.ref a from rx)
  obtain⟨_,_,xs,_,o,es,ep,h1,h2,_⟩:=(show Bj X.prog X.w H s.heap a (.dT kvs) from I.hok a _ ea)
  exact PySem.W.kia_one PySem.W.kitx_dict I.kIn ⟨o,h1,h2.1⟩ e (fun z=>nomatch z) h
 |@ins a C dx fs ea cl ha hn htk hm=>
  cases(show u=Value.ref a from rx)
  obtain⟨mA,O,_⟩:=KM I.hok ea
  obtain⟨od,J,_⟩:=O.look
  exact PySem.W.kia_one (PySem.W.kitx_own (cl.get _) cl.hd ha hn htk hm) I.kIn J e (fun z=>nomatch z) h
end
end L2
namespace L2
open PySem PySem.Spec PyProof.Rows
structure Room (k:Nat) (A:Around):Prop where
 hd:A.handled=none
 dp:A.depth+3*k+5<recursionLimit
 un:A.units+16*k+200<cLine
theorem Room.mono {j k:Nat}{A:Around}(r:Room k A)(h:j≤k):Room j A:=⟨r.hd,by have:=r.dp;omega,by have:=r.un;omega⟩
theorem Room.deeper {k:Nat}{A:Around}(r:Room (k+1) A)(env:Env):Room k (A.deeper env):=
 ⟨r.hd,by have:=r.dp;show A.depth+1+3*k+5<_;omega,by have:=r.un;show A.units+3+16*k+200<_;omega⟩
theorem Room.in1 {k:Nat}{A:Around}(r:Room (k+1) A):Room k A.in1:=
 ⟨r.hd,by have:=r.dp;show A.depth+3*k+5<_;omega,by have:=r.un;show A.units+1+16*k+200<_;omega⟩
theorem P0 {A:Around}{C:Addr}{us:List Value}{kw:List (Str×Value)}:(A.under (.builtin "type.__call__" ⟨.ref C::us,kw⟩)).depth=A.depth+1:=by
 first|rfl|simp[Around.under,Code.weight,Code.isCreation,Code.isGuard,Code.isCaller,Code.frames,Code.isFrame,guardIds]
theorem O2 {A:Around}{C:Addr}{us:List Value}{kw:List (Str×Value)}:(A.under (.builtin "type.__call__" ⟨.ref C::us,kw⟩)).units=A.units+1:=by
 first|rfl|simp[Around.under,Code.cUnits,Code.frames,Code.isFrame]
theorem Room.make {k:Nat}{A:Around}(r:Room (k+1) A)(C:Addr)(us:List Value)(kw:List (Str×Value)):Room k (A.under (.builtin "type.__call__" ⟨.ref C::us,kw⟩)):=
 ⟨r.hd,by have:=r.dp;rw[P0];omega,by have:=r.un;rw[O2];omega⟩
theorem Room.depth {k:Nat}{A:Around}(r:Room k A):A.depth<recursionLimit:=by have:=r.dp;omega
theorem Room.units {k:Nat}{A:Around}(r:Room k A):A.units+64<cLine:=by have:=r.un;omega
def O4:TA:=fun _ H Q=>Q [] H
def Vs (ta:TE)(tr:TA):TA:=fun σ H Q=>ta σ H fun x H1=>tr σ H1 fun xs H2=>Q (x::xs) H2
section
variable {X:Cx}{e:Expr}{es:List Expr}{te:TE}{t:TA}{pos:Pos}
theorem Ah:PA X [] O4:=fun _ _ _ _ H Q I h=>Calls.spliced_nil ⟨[],H,I,.nil,h⟩
theorem Ac (ha:PE X e te)(hr:PA X es t)(hs:starEach (e::es) X.env=(false,eval e X.env)::starEach es X.env:=by rfl):PA X (e::es) (Vs te t):=by
 intro pos pins s σ H Q I h
 rw[hs]
 show wpAny _ _ (spliced ((false,eval e X.env)::backTo pos (starEach es X.env))) _ _ s
 refine Calls.spliced_cons (Bo (ha pins s σ H _ I h) fun u s1 ⟨x,H1,I1,r1,q1⟩=>?_)
 exact Bo (hr pos pins s1 σ H1 _ I1 q1) fun us s2 ⟨xs,H2,I2,r2,q2⟩=>⟨x::xs,H2,I2,.cons r1 r2,q2⟩
def Xf (t:TA):TE:=fun σ H Q=>t σ H fun xs H1=>xs.length≤sizeLine∧∀p,H1 p=none→Q (.ref p) (upd H1 p (.tup xs))
def Xj (t:TA):TE:=fun σ H Q=>t σ H fun xs H1=>xs.length≤sizeLine∧∀p,H1 p=none→Q (.ref p) (upd H1 p (.lst xs))
theorem Hz {x1}(h:PA X es t):PE X (.Tuple es x1 pos) (Xf t):=by
 intro pins s σ H Q I hq
 refine wpAny_Tuple_spliced (Bo (h pos pins s σ H _ I hq) fun us s1 ⟨xs,H1,I1,r,z,q⟩=>⟨by rw[←r.length];exact z,?_⟩)
 have hf:H1 s1.heap.objs.size=none:=I1.hok.fresh (Nat.le_refl _)
 refine⟨.ref s1.heap.objs.size,upd H1 s1.heap.objs.size (.tup xs),I1.laid (t':=s1.toks) (fun b u e=>Heap.get?_push_of_some _ e) (Nat.le_refl _) ?_,rfl,q _ hf⟩
 exact⟨z,us,r,⟨_,Heap.get?_push_size _ rfl,rfl,_,rfl⟩⟩
theorem Cq (h:PA X es t):PE X (.List es pos) (Xj t):=by
 intro pins s σ H Q I hq
 refine wpAny_List_spliced (Bo (h pos pins s σ H _ I hq) fun us s1 ⟨xs,H1,I1,r,z,q⟩=>⟨by rw[←r.length];exact z,?_⟩)
 have hf:H1 s1.heap.objs.size=none:=I1.hok.fresh (Nat.le_refl _)
 refine⟨.ref s1.heap.objs.size,upd H1 s1.heap.objs.size (.lst xs),I1.laid (t':=s1.toks) (fun b u e=>Heap.get?_push_of_some _ e) (Nat.le_refl _) ?_,rfl,q _ hf⟩
 exact⟨z,us,0,r,Heap.get?_push_size _ rfl⟩
end
abbrev Sp:=List V→Hp→VK→XK→Prop
abbrev Ri:=List Env→Hp→Shared→XK→Value→Shared→Prop
structure Env0 (P:Program) (w:World) (K:PySem.W.Frag) (mg:Str→Option Value) (base:Heap) (A:Around) (outer:List Env) (s:Shared) (H:Hp):Prop where
 frames:A.frames=some outer
 mod:Mod K mg base
 bs:∀b o,base.get? b=some o→s.heap.get? b=some o∧H b=none
 bsz:base.objs.size≤s.heap.objs.size
 funs:s.heap.FunFrames base outer
 frf:∀b∈NM outer,H b=none
 hok:Ie P w H s.heap
 bare:AllBare s.gens
def CE (outer:List Env)(P:Program)(w:World)(H:Hp)(s:Shared)(Q:VK)(u:Value)(s':Shared):Prop:=
 ∃v H',s'.os=s.os∧AllBare s'.gens∧Un (NM outer) [] H H' s.heap s'.heap∧Ie P w H' s'.heap∧RelV v u∧Q v H'
def CR (CX:Ri)(outer:List Env)(P:Program)(w:World)(H:Hp)(s:Shared)(Q:VK)(E:XK)(r:Result)(s':Shared):Prop:=
 match r with
 | .ok (.ret u)=>CE outer P w H s Q u s'
 | .ok _=>False
 | .error e=>CX outer H s E e s'
structure FnOk (P:Program) (w:World) (K:PySem.W.Frag) (mg:Str→Option Value) (base:Heap) (CX:Ri) (k:Nat) (f:Addr) (fd:FuncData) (ps:List Str) (sp:Sp):Prop where
 len:∀vs H Q E,sp vs H Q E→vs.length=ps.length
 run:∀(A:Around) (outer:List Env) (s:Shared) (H:Hp) (args:Args) (us:List Value) (vs:List V) (Q:VK) (E:XK),Room k A→Env0 P w K mg base A outer s H→BindsTo s fd args (ps.zip us)→AJ vs us→sp vs H Q E→
  codeAny (model P w) A (.call (.ref f) args) (CR CX outer P w H s Q E) s
theorem FnOk.mono {P:Program}{w:World}{K:PySem.W.Frag}{mg:Str→Option Value}{base:Heap}{CX:Ri}{j k:Nat}{f:Addr}{fd:FuncData}{ps:List Str}{sp:Sp}(F:FnOk P w K mg base CX j f fd ps sp)(h:j≤k) :
  FnOk P w K mg base CX k f fd ps sp:=⟨F.len,fun A outer s H args us vs Q E hr=>F.run A outer s H args us vs Q E (hr.mono h)⟩
theorem FnOk.imp {P:Program} {w:World} {K:PySem.W.Frag} {mg:Str→Option Value} {base:Heap} {CX:Ri} {k:Nat} {f:Addr} {fd:FuncData} {ps:List Str} {sp sp':Sp} (F:FnOk P w K mg base CX k f fd ps sp)
  (h:∀vs H Q E,sp' vs H Q E→sp vs H Q E):FnOk P w K mg base CX k f fd ps sp':=
 ⟨fun vs H Q E q=>F.len vs H Q E (h _ _ _ _ q),fun A outer s H args us vs Q E hr he hb hv hs=>F.run A outer s H args us vs Q E hr he hb hv (h _ _ _ _ hs)⟩
theorem Env0.make {P:Program}{w:World}{K:PySem.W.Frag}{mg:Str→Option Value}{base:Heap}{A:Around}{outer:List Env}{s:Shared}{H:Hp}(e:Env0 P w K mg base A outer s H)(C:Addr)(us:List Value)(kw:List (Str×Value)) :
  Env0 P w K mg base (A.under (.builtin "type.__call__" ⟨.ref C::us,kw⟩)) outer s H:=⟨by first|exact e.frames|(simpa [Around.under,Code.envs,Code.isFrame,pushEnvs] using e.frames),e.mod,e.bs,e.bsz,e.funs,e.frf,e.hok,e.bare⟩
theorem Env0.in1 {P:Program}{w:World}{K:PySem.W.Frag}{mg:Str→Option Value}{base:Heap}{A:Around}{outer:List Env}{s:Shared}{H:Hp}(e:Env0 P w K mg base A outer s H) :
  Env0 P w K mg base A.in1 outer s H:=⟨e.frames,e.mod,e.bs,e.bsz,e.funs,e.frf,e.hok,e.bare⟩
section
variable {X:Cx}{pins:List (Addr×Obj)}{σ:St}{H:Hp}{s s':Shared}
theorem Inv.env0 (I:Inv X pins σ H s):Env0 X.prog X.w X.K X.mg X.base X.A X.stack s H:=
 ⟨I.ok.frames,I.ok.mod,I.bs,Nat.le_trans I.ok.bsz I.sz,I.stack,I.stkFree,I.hok,I.bare⟩
theorem Inv.after {Q:VK}{u:Value}(I:Inv X pins σ H s)(h:CE X.stack X.prog X.w H s Q u s'):EP X pins σ Q u s':=by
 obtain⟨v,H',os,bare,un,hok,r,q⟩:=h
 obtain⟨hh,g,d,t,os'⟩:=s'
 obtain rfl:os'=s.os:=os
 exact⟨v,H',I.call (h':=hh) (g':=g) (d':=d) (t':=t) (ch:=[]) un hok bare (fun b z=>absurd z (by simp)),r,q⟩
end
def Vn (sp:Sp)(dvs:List V)(E:XK)(t:TA):TE:=fun σ H Q=>t σ H fun vs H1=>sp (vs++dvs) H1 Q E
def Qy (C:Addr)(m:Str)(sp:Sp)(dvs:List V)(E:XK)(ta:TE)(t:TA):TE:=fun σ H Q=>ta σ H fun x H1=>∃a dx fs,x=.ref a∧H1 a=some (.ins C dx fs)∧fs.lookup m=none∧
 t σ H1 fun vs H2=>sp (x::(vs++dvs)) H2 Q E
def Vr (C:Addr)(sp:Sp)(dvs:List V)(E:XK)(t:TA):TE:=fun σ H Q=>t σ H fun vs H1=>∀x dx,H1 x=none→H1 dx=none→dx≠x→
 sp (.ref x::(vs++dvs)) (upd (upd H1 dx (.own x)) x (.ins C dx [])) (fun v H2=>v=.non∧Q (.ref x) H2) E
def Binds (K:PySem.W.Frag)(fd:FuncData)(ps:List Str)(ds:List Value):Prop:=
 ∀(s:Shared) (us:List Value),K.In s.heap→(us++ds).length=ps.length→BindsTo s fd ⟨us,[]⟩ (ps.zip (us++ds))
theorem Binds.all {K:PySem.W.Frag}{fd:FuncData}{ps:List Str}(h:∀us:List Value,us.length=ps.length→bindArgs fd ⟨us,[]⟩=pure (ps.zip us)):Binds K fd ps []:=fun s us _ hl=>by
 rw[List.append_nil] at hl ⊢
 exact .of_eq (h us hl)
def Iz (CX:Ri)(X:Cx)(E:XK):Prop:=∀(pins:List (Addr×Obj)) (σ:St) (H:Hp) (s:Shared) (e:Value) (s':Shared),Inv X pins σ H s→CX X.stack H s E e s'→X.xe e s'
section
variable {X:Cx}{CX:Ri}{k:Nat}{f C:Addr}{fd:FuncData}{ps:List Str}{sp:Sp}{dvs:List V}{ds:List Value}{E:XK}{x m:Str}{p pos apos:Pos}{e o:Expr}{es:List Expr}{ta:TE}{t:TA}
theorem O6 {pins:List (Addr×Obj)} {σ:St} {H:Hp} {s:Shared} {Q:VK} {us:List Value} {vs:List V} (F:FnOk X.prog X.w X.K X.mg X.base CX k f fd ps sp) (hr:Room k X.A) (hb:Binds X.K fd ps ds) (hd:AJ dvs ds) (hx:Iz CX X E)
  (I:Inv X pins σ H s) (r:AJ vs us) (h:sp (vs++dvs) H Q E):wpAny (model X.prog X.w) X.A (call (.ref f) us) (EP X pins σ Q) X.xe s:=by
 have r2:AJ (vs++dvs) (us++ds):=r.append hd
 have hl:(us++ds).length=ps.length:=by rw[←r2.length];exact F.len _ _ _ _ h
 refine wpAny_call (codeAny_mono (F.run X.A X.stack s H ⟨us,[]⟩ (us++ds) (vs++dvs) Q E hr I.env0 (hb s us I.kIn hl) r2 h) fun r s' hq=>?_)
 cases r with
 |error e=>exact hx pins σ H s e s' I hq
 |ok fl=>
  cases fl with
  |ret u=>exact I.after hq
  |next=>exact False.elim hq
  |brk=>exact False.elim hq
  |cont=>exact False.elim hq
theorem T8 (F:FnOk X.prog X.w X.K X.mg X.base CX k f fd ps sp) (hr:Room k X.A) (hg:Gl X x) (hm:X.mg x=some (.ref f)) (hk:PySem.W.keepIn X.K (.ref f)=true) (hb:Binds X.K fd ps ds) (hd:AJ dvs ds) (hx:Iz CX X E)
  (ha:PA X (e::es) t) (hdb:(x == ("__debug__":Str))=false:=by decide) (he:starEach (e::es) X.env=(false,eval e X.env)::starEach es X.env:=by rfl) (hpl:(backTo pos (starEach es X.env)).any (·.1)=false:=by rfl) :
  PE X (.Call (.Name x p) (e::es) [] pos) (Vn sp dvs E t):=by
 intro pins s σ H Q I h
 refine wpAny_Call_Name_kw (Kw I hg hm ?_ hdb)
 refine PySem.W.callWith_K (h₀:=X.base) I.ok.mod.kin hk (Bo (ha pos pins s σ H _ I h) fun us s1 ⟨vs,H1,I1,r,q⟩=>⟨I1.kIn,?_⟩) he hpl
 exact O6 F hr hb hd hx I1 r q
theorem Ur {pl:Sem Bool} (he:PE X o ta) (c:Cls X.K C) (hm:Meth X.K C m f) (F:FnOk X.prog X.w X.K X.mg X.base CX k f fd ps sp) (hr:Room k X.A) (hb:Binds X.K fd ps ds) (hd:AJ dvs ds) (hx:Iz CX X E) (ha:PA X (e::es) t)
  (hst:starEach (e::es) X.env=(false,eval e X.env)::starEach es X.env:=by rfl) (hpl:(backTo pos (starEach es X.env)).any (·.1)=false:=by rfl)
  (ht:eval (.Call (.Attribute o m apos) (e::es) [] pos) X.env=(do
   let ov ←eval o X.env
   standAt apos.atName
   let(f,first) ←holding [ov] (getMethod ov m pl)
   callWith pos f first (backTo pos (starEach (e::es) X.env)) (backToKw pos (keywordEach [] X.env))):=by rfl) :
  PE X (.Call (.Attribute o m apos) (e::es) [] pos) (Qy C m sp dvs E ta t):=by
 intro pins s σ H Q I h
 refine PySem.W.methodCall_KW (pl:=pl) (Bo (he pins s σ H _ I h) fun u s1 ⟨x,H1,I1,rx,a,dx,fs,ex,ea,l,q⟩=>?_) ht
 subst ex
 obtain rfl:u=Value.ref a:=rx
 refine Lf I1 ea c hm l ?_
 refine PySem.W.callWith_K (first:=[.ref a]) (h₀:=X.base) I.ok.mod.kin hm.kp (Bo (ha pos pins s1 σ H1 _ I1 q) fun us s2 ⟨vs,H2,I2,r,q2⟩=>⟨I2.kIn,?_⟩) hst hpl
 exact O6 (us:=.ref a::us) (vs:=.ref a::vs) F hr hb hd hx I2 (.cons rfl r) q2
theorem SD {pl:Sem Bool} (he:PE X o ta) (c:Cls X.K C) (hm:Meth X.K C m f) (F:FnOk X.prog X.w X.K X.mg X.base CX k f fd ps sp) (hr:Room k X.A) (hb:Binds X.K fd ps ds) (hd:AJ dvs ds) (hx:Iz CX X E)
  (ht:eval (.Call (.Attribute o m apos) [] [] pos) X.env=(do
   let ov ←eval o X.env
   standAt apos.atName
   let(f,first) ←holding [ov] (getMethod ov m pl)
   callWith pos f first (backTo pos (starEach [] X.env)) (backToKw pos (keywordEach [] X.env))):=by rfl) :
  PE X (.Call (.Attribute o m apos) [] [] pos) (Qy C m sp dvs E ta O4):=by
 intro pins s σ H Q I h
 refine PySem.W.methodCall_KW (pl:=pl) (Bo (he pins s σ H _ I h) fun u s1 ⟨x,H1,I1,rx,a,dx,fs,ex,ea,l,q⟩=>?_) ht
 subst ex
 obtain rfl:u=Value.ref a:=rx
 refine Lf I1 ea c hm l ?_
 exact PySem.W.callWith_K0 (first:=[.ref a]) I1.kIn hm.kp (O6 (us:=[.ref a]) (vs:=[.ref a]) F hr hb hd hx I1 (.cons rfl .nil) q)
structure Mk (K:PySem.W.Frag) (C f:Addr):Prop where
 makes:PySem.W.makesIn K C=true
 init:PySem.W.findIn K (.ref C) "__init__"=some (some (.ref f))
 fn:PySem.W.isFn K (.ref f)=true
 kp:PySem.W.keepIn K (.ref C)=true
theorem RZ {pins:List (Addr×Obj)} {σ:St} {H:Hp} {s:Shared} {Q:VK} {us:List Value} {vs:List V} (M:Mk X.K C f) (F:FnOk X.prog X.w X.K X.mg X.base CX k f fd ps sp) (hr:Room (k+1) X.A) (hb:Binds X.K fd ps ds) (hd:AJ dvs ds)
  (hx:Iz CX X E) (I:Inv X pins σ H s) (r:AJ vs us)
  (h:∀x dx,H x=none→H dx=none→dx≠x→sp (.ref x::(vs++dvs)) (upd (upd H dx (.own x)) x (.ins C dx [])) (fun v H2=>v=.non∧Q (.ref x) H2) E) :
  wpAny (model X.prog X.w) X.A (call (.ref C) us) (EP X pins σ Q) X.xe s:=by
 have hq:=h (s.heap.objs.size+1) s.heap.objs.size (I.hok.fresh (Nat.le_succ _)) (I.hok.fresh (Nat.le_refl _)) (Nat.ne_of_lt (Nat.lt_succ_self _))
 have I2:=Inv.made (C:=C) I
 have r2:AJ (V.ref (s.heap.objs.size+1)::(vs++dvs)) (Value.ref (s.heap.objs.size+1)::(us++ds)):=.cons rfl (r.append hd)
 have hl:(Value.ref (s.heap.objs.size+1)::us++ds).length=ps.length:=by
  have e:=r2.length
  rw[F.len _ _ _ _ hq] at e
  exact e.symm
 refine wpAny_call (Sv (f:=f) I.kIn M.makes M.init (beq_iff_eq.mp M.fn) (codeAny_mono (F.run _ X.stack _ _ ⟨Value.ref (s.heap.objs.size+1)::us,[]⟩ (Value.ref (s.heap.objs.size+1)::(us++ds)) _ _ E (hr.make C us [])
  (I2.env0.make C us []) (hb _ (Value.ref (s.heap.objs.size+1)::us) I2.kIn hl) r2 hq) fun r s' hq'=>?_))
 cases r with
 |error e=>exact hx pins σ _ _ e s' I2 hq'
 |ok fl=>
  cases fl with
  |ret u=>
   obtain⟨v,H',I3,rv,ev,q3⟩:=I2.after hq'
   subst ev
   exact⟨rv,⟨V.ref (s.heap.objs.size+1),H',I3,rfl,q3⟩⟩
  |next=>exact False.elim hq'
  |brk=>exact False.elim hq'
  |cont=>exact False.elim hq'
theorem Ua (M:Mk X.K C f) (F:FnOk X.prog X.w X.K X.mg X.base CX k f fd ps sp) (hr:Room (k+1) X.A) (hg:Gl X x) (hm:X.mg x=some (.ref C)) (hb:Binds X.K fd ps ds) (hd:AJ dvs ds) (hx:Iz CX X E)
  (ha:PA X (e::es) t) (hdb:(x == ("__debug__":Str))=false:=by decide) (he:starEach (e::es) X.env=(false,eval e X.env)::starEach es X.env:=by rfl) (hpl:(backTo pos (starEach es X.env)).any (·.1)=false:=by rfl) :
  PE X (.Call (.Name x p) (e::es) [] pos) (Vr C sp dvs E t):=by
 intro pins s σ H Q I h
 refine wpAny_Call_Name_kw (Kw I hg hm ?_ hdb)
 refine PySem.W.callWith_K (h₀:=X.base) I.ok.mod.kin M.kp (Bo (ha pos pins s σ H _ I h) fun us s1 ⟨vs,H1,I1,r,q⟩=>⟨I1.kIn,?_⟩) he hpl
 exact RZ M F hr hb hd hx I1 r q
end
section
variable {X:Cx}{CX:Ri}{k:Nat}{f C:Addr}{fd:FuncData}{ps ks:List Str}{sp:Sp}{E:XK}{x m:Str}{p pos apos kpos:Pos}{e o:Expr}{es:List Expr}{kws:List Keyword}{te ta:TE}{t tk:TA}{nm:Option Str}
structure KBinds (K:PySem.W.Frag) (fd:FuncData) (ps ks:List Str) (g:List Value→List Value→List Value) (gV:List V→List V→List V):Prop where
 to:∀(s:Shared) (us ws:List Value),K.In s.heap→(g us ws).length=ps.length→BindsTo s fd ⟨us,ks.zip ws⟩ (ps.zip (g us ws))
 rel:∀{vs:List V} {us:List Value} {zs:List V} {ws:List Value},AJ vs us→AJ zs ws→AJ (gV vs zs) (g us ws)
variable {g:List Value→List Value→List Value}{gV:List V→List V→List V}
end
structure FnScope (N P:List Str) (sc:Scope):Prop where
 kind:sc.kind=.function
 co:sc.isCoroutine=false
 gen:sc.isGenerator=false
 nd:N.Nodup
 pre:N.take P.length=P
 par:∀x∈P,sc.names.lookup x=some .local∨sc.names.lookup x=some .cell
 nofree:∀y∈sc.names,y.2≠.free
theorem Mi {kindOf:Str→Option NameKind}{x:Str}:∀{binds:List (Str×Value)} {m:Str→Option Value},(∀v,(x,v)∉binds)→bindL kindOf binds m x=m x
 |[],_,_=>rfl
 |(n,v)::r,m,h=>by
  unfold bindL
  rw[Mi fun w hw=>h w (List.mem_cons_of_mem _ hw)]
  split
  ·have:x≠n:=by rintro rfl;exact h v List.mem_cons_self
   simp[this]
  ·rfl
theorem My {kindOf:Str→Option NameKind}{x:Str}:∀{binds:List (Str×Value)} {m:Str→Option Value},(∀v,(x,v)∉binds)→bindC kindOf binds m x=m x
 |[],_,_=>rfl
 |(n,v)::r,m,h=>by
  unfold bindC
  rw[My fun w hw=>h w (List.mem_cons_of_mem _ hw)]
  split
  ·rfl
  ·have:x≠n:=by rintro rfl;exact h v List.mem_cons_self
   simp[this]
theorem Mt {kindOf:Str→Option NameKind}{x:Str}{v:Value}:∀{P:List Str} {vs:List Value} {i:Nat} {m:Str→Option Value},P.Nodup→P[i]?=some x→vs[i]?=some v→kindOf x=some .local→
  bindL kindOf (P.zip vs) m x=some v
 |[],_,_,_,_,h,_,_=>by simp at h
 |_::_,[],_,_,_,_,h,_=>by simp at h
 |p::P,w::vs,0,m,nd,h1,h2,hk=>by
  simp at h1 h2;subst h1;subst h2
  show bindL kindOf ((p,w)::P.zip vs) m p=_
  unfold bindL
  rw[Mi fun v hv=>(List.nodup_cons.mp nd).1 (List.of_mem_zip hv).1,if_pos hk]
  simp
 |p::P,w::vs,i+1,m,nd,h1,h2,hk=>by
  show bindL kindOf ((p,w)::P.zip vs) m x=_
  unfold bindL
  exact Mt (i:=i) (List.nodup_cons.mp nd).2 (by simpa using h1) (by simpa using h2) hk
theorem Mc {kindOf:Str→Option NameKind}{x:Str}{v:Value}:∀{P:List Str} {vs:List Value} {i:Nat} {m:Str→Option Value},P.Nodup→P[i]?=some x→vs[i]?=some v→kindOf x≠some .local→
  bindC kindOf (P.zip vs) m x=some v
 |[],_,_,_,_,h,_,_=>by simp at h
 |_::_,[],_,_,_,_,h,_=>by simp at h
 |p::P,w::vs,0,m,nd,h1,h2,hk=>by
  simp at h1 h2;subst h1;subst h2
  show bindC kindOf ((p,w)::P.zip vs) m p=_
  unfold bindC
  rw[My fun v hv=>(List.nodup_cons.mp nd).1 (List.of_mem_zip hv).1,if_neg hk]
  simp
 |p::P,w::vs,i+1,m,nd,h1,h2,hk=>by
  show bindC kindOf ((p,w)::P.zip vs) m x=_
  unfold bindC
  exact Mc (i:=i) (List.nodup_cons.mp nd).2 (by simpa using h1) (by simpa using h2) hk
def start (N:List Str)(vs:List V):St:=vs.map some++List.replicate (N.length-vs.length) none
def Cs (CX:Ri)(P:Program)(w:World)(K:PySem.W.Frag)(mg:Str→Option Value)(base:Heap)(N:List Str)(qual:Str)(scope:Scope)(f:Addr)(cd:Value)(A:Around)(outer:List Env)(s:Shared)(H:Hp)(E:XK):Cx where
 prog:=P
 w:=w
 K:=K
 mg:=mg
 base:=base
 A:=A.deeper (envOfC qual scope s.heap.objs.size f cd)
 N:=N
 s₀:=s
 H₀:=H
 env:=envOfC qual scope s.heap.objs.size f cd
 outer:=outer
 stack:=envOfC qual scope s.heap.objs.size f cd::outer
 ex:=[]
 calm:=true
 fn:=fun _=>true
 pn:=[]
 xe:=fun e s'=>wpAny (model P w) (A.deeper (envOfC qual scope s.heap.objs.size f cd)) (leaving (envOfC qual scope s.heap.objs.size f cd) e) (fun _ s''=>CX outer H s E e s'') (fun e' s''=>CX outer H s E e' s'') s'
theorem Ob {sc:Scope}{n:Nat}{x:Str}(h:sc.names.lookup x=some .cell):∃c,(cellsFrom n sc.names []).lookup x=some c:=by
 have q:=PySem.W.cellsFrom_some sc.names n [] (.inl h)
 exact Option.isSome_iff_exists.mp q
theorem Rb {CX:Ri} {P:Program} {w:World} {K:PySem.W.Frag} {mg:Str→Option Value} {base:Heap} {N ps:List Str} {qual:Str} {scope:Scope} {f:Addr} {cd:Value} {A:Around} {outer:List Env} {s s1:Shared} {H:Hp} {E:XK} {us:List Value} {vs:List V}
  (S:FnScope N ps scope) (hd:A.handled=none) (e0:Env0 P w K mg base A outer s H) (hl:vs.length=ps.length) (r:AJ vs us)
  (x:InCallC s s.heap.objs.size (bindL (envOfC qual scope s.heap.objs.size f cd).kindOf (ps.zip us) fun _=>none) (cellsFrom (s.heap.objs.size+1) scope.names []) (bindC (envOfC qual scope s.heap.objs.size f cd).kindOf (ps.zip us) fun _=>none) s1) :
  Inv (Cs CX P w K mg base N qual scope f cd A outer s H E) [] (start N vs) H s1:=by
 have hpl:ps.length≤N.length:=by have:=congrArg List.length S.pre;rw[List.length_take] at this;omega
 obtain⟨h1,tk,rfl,hk⟩:=x.done
 have noA:∀b:Addr,b∉(Cs CX P w K mg base N qual scope f cd A outer s H E).ex:=fun b z=>absurd (show b∈([]:List Addr) from z) (by simp)
 refine⟨⟨e0.mod,S.kind,rfl,rfl,Nat.le_refl _,fun y z c h1 h2=>?_,fun y hy=>?_,fun y c _ h=>?_,fun _=>hd,Around.frames_deeper e0.frames,.inr ⟨rfl,rfl⟩,fun b z=>absurd z (noA b),e0.bs,e0.bsz,fun b _ _=>noA b,fun b z=>absurd z (noA b),e0.funs,e0.frf⟩,
  rfl,e0.bare,Un.kept hk,⟨_,x.toInCall.ns,fun i y v h1 h2 h3=>?_⟩,fun y c h=>⟨_,x.cell y c h⟩,e0.hok.fresh (Nat.le_refl _),fun y c h=>?_,fun p hp=>absurd (show p∈([]:List (Addr×Obj)) from hp) (by simp),e0.hok.kept hk,?_⟩
 ·exact name_of_addr x.apart (PySem.mem_of_lookup h1) (PySem.mem_of_lookup h2)
 ·have hy:scope.names.lookup y=some .cell∨scope.names.lookup y=some .free:=hy
  rcases hy with hy|hy
  ·exact Ob hy
  ·exact absurd rfl (S.nofree _ (PySem.mem_of_lookup hy))
 ·exact Nat.le_of_lt (x.above y c (PySem.mem_of_lookup h))
 ·have hi:i<vs.length:=by
   unfold start at h2
   by_cases hi:i<vs.length
   ·exact hi
   ·rw[List.getElem?_append_right (by simpa using hi)] at h2
    rw[List.getElem?_replicate] at h2
    split at h2<;>cases h2
  have ha:vs[i]?=some v:=by
   unfold start at h2
   rw[List.getElem?_append_left (by simpa using hi),List.getElem?_map] at h2
   cases e:vs[i]? with
   |none=>rw[e] at h2;cases h2
   |some a=>rw[e] at h2;cases h2;rfl
  obtain⟨u,hu,rv⟩:=r.get ha
  have hp:ps[i]?=some y:=by
   rw[←S.pre,List.getElem?_take_of_lt (by omega)];exact h1
  have ndP:ps.Nodup:=by rw[←S.pre];exact S.nd.sublist (List.take_sublist _ _)
  refine⟨u,rv,?_⟩
  rcases S.par y (List.mem_of_getElem? hp) with k|k
  ·exact .inl ⟨k,Mt ndP hp hu k⟩
  ·obtain⟨c,e⟩:=Ob (n:=s.heap.objs.size+1) k
   refine .inr ⟨.inl k,c,e,?_⟩
   have q:=x.cell y c e
   rw[Mc ndP hp hu (by show scope.names.lookup y≠_;rw[k];decide)] at q
   exact q
 ·exact e0.hok.fresh (Nat.le_of_lt (x.above y c (PySem.mem_of_lookup h)))
 ·unfold start
  show _=N.length
  rw[List.length_append,List.length_map,List.length_replicate]
  omega
theorem Wn {CX:Ri} {P:Program} {w:World} {K:PySem.W.Frag} {mg:Str→Option Value} {base:Heap} {k:Nat} {f:Addr} {name qual:Str} {params:Arguments} {body:List Stmt} {scope:Scope} {dV kV doc pm cdv ct oc:Value} {an od:Option Addr}
  {osl:Array (Option Value)} {N ps:List Str} {sp:Sp} (lk:K.lookup f=some ⟨oc,od,.func (PySem.W.fnOf name qual params body scope dV kV doc pm an cdv ct),osl⟩) (hcd:PySem.W.codeIn K cdv qual=true) (S:FnScope N ps scope)
  (len:∀vs H Q E,sp vs H Q E→vs.length=ps.length)
  (hbody:∀(A:Around) (outer:List Env) (s:Shared) (H:Hp) (vs:List V) (Q:VK) (E:XK),Room k (A.deeper (envOfC qual scope s.heap.objs.size f cdv))→sp vs H Q E→
   ∃t,Pt (Cs CX P w K mg base N qual scope f cdv A outer s H E) body t∧t { nx:=fun _ H'=>Q .non H',rt:=Q } (start N vs) H) :
  FnOk P w K mg base CX (k+1) f (PySem.W.fnOf name qual params body scope dV kV doc pm an cdv ct) ps sp:=by
 refine⟨len,fun A outer s H args us vs Q E hr e0 hb r hsp=>?_⟩
 have hl:=len _ _ _ _ hsp
 have KX:K.In s.heap:=e0.mod.kin.keeps fun b o e=>(e0.bs b o e).1
 have lim:s.heap.NoLimit:=e0.mod.nolimit.keeps fun b o e=>(e0.bs b o e).1
 have hkind:∀y∈ps.zip us,scope.names.lookup y.1=some .local∨(scope.names.lookup y.1=some .cell∧((cellsFrom (s.heap.objs.size+1) scope.names []).lookup y.1).isSome=true):=fun⟨n,v⟩ hy=>by
  rcases S.par n (List.of_mem_zip hy).1 with q|q
  ·exact .inl q
  ·exact .inr ⟨q,PySem.W.cellsFrom_some _ _ _ (.inl q)⟩
 refine codeAny_call_function hr.depth (KX _ _ lk) rfl S.co S.gen rfl (PySem.W.codeRec_of KX hcd) (hb _ _ _ _ ?_)
 refine wpAny_newFunctionEnv_cells S.kind hkind fun env he s1 x=>?_
 subst he
 refine⟨lim.keeps x.toInCall.keep,codeAny_func ?_⟩
 obtain⟨t,ht,hq⟩:=hbody A outer s H vs Q E (hr.deeper _) hsp
 have I:Inv (Cs CX P w K mg base N qual scope f cdv A outer s H E) [] (start N vs) H s1:=Rb S hr.hd e0 hl r x
 refine wpAny_mono (ht [] s1 (start N vs) H _ I hq) (fun fl s' hs=>?_) fun e s' hs=>hs
 have fin:∀{σ':St} {H':Hp} {v:V} {u:Value},Inv (Cs CX P w K mg base N qual scope f cdv A outer s H E) [] σ' H' s'→RelV v u→Q v H'→CE outer P w H s Q u s':=
  fun{σ' H' v u} J rv q=>⟨v,H',J.os,J.bare,J.base,J.hok,rv,q⟩
 cases fl with
 |ret u=>
  obtain⟨v,σ',H',J,rv,q⟩:=hs
  exact fin J rv q
 |next=>
  obtain⟨σ',H',J,q⟩:=hs
  exact fin (v:=V.non) (u:=Value.none) J rfl q
 |brk=>
  obtain⟨_,_,_,q⟩:=hs
  exact False.elim q
 |cont=>
  obtain⟨_,_,_,q⟩:=hs
  exact False.elim q
end L2
namespace L2
open PySem PySem.Spec PyProof.Rows
section
variable {X:Cx}{x:Str}{p pos:Pos}{e:Expr}{es:List Expr}{t:TA}{id T:String}{r:List V→Hp→VK→Prop}
def Xg (r:List V→Hp→VK→Prop)(t:TA):TE:=fun σ H Q=>t σ H fun vs H1=>r vs H1 Q
theorem Ar (hc:Ff X (.builtin id) r) (hg:Gl X x) (hm:X.mg x=none) (hv:bootBuiltins x=some (.builtin id)) (ha:PA X (e::es) t) (hn:x≠"__name__":=by decide) (hdb:(x == ("__debug__":Str))=false:=by decide)
  (he:starEach (e::es) X.env=(false,eval e X.env)::starEach es X.env:=by rfl) (hpl:(backTo pos (starEach es X.env)).any (·.1)=false:=by rfl):PE X (.Call (.Name x p) (e::es) [] pos) (Xg r t):=by
 intro pins s σ H Q I h
 refine wpAny_Call_Name_kw (JN I hg hm hv ?_ hn hdb)
 exact PyProof.Rows.callWith_builtin1 (Bo (ha pos pins s σ H _ I h) fun us s1 ⟨vs,H1,I1,r1,q1⟩=>hc pins s1 σ H1 vs us Q I1 r1 q1) he hpl
theorem EF (hc:Ff X (.type T) r) (hg:Gl X x) (hm:X.mg x=none) (hv:bootBuiltins x=some (.type T)) (ha:PA X (e::es) t) (hn:x≠"__name__":=by decide) (hdb:(x == ("__debug__":Str))=false:=by decide)
  (he:starEach (e::es) X.env=(false,eval e X.env)::starEach es X.env:=by rfl) (hpl:(backTo pos (starEach es X.env)).any (·.1)=false:=by rfl):PE X (.Call (.Name x p) (e::es) [] pos) (Xg r t):=by
 intro pins s σ H Q I h
 refine wpAny_Call_Name_kw (JN I hg hm hv ?_ hn hdb)
 exact PyProof.Rows.callWith_type1 (Bo (ha pos pins s σ H _ I h) fun us s1 ⟨vs,H1,I1,r1,q1⟩=>hc pins s1 σ H1 vs us Q I1 r1 q1) he hpl
end
end L2
namespace HT
open PySem PyProof.Rows
section
open PySem.SeqAt
open PySem.AutoSeq1 (wpAny_loadPart')
open PySem.MeetsSeq PySem.MeetsSeq2 PySem.MeetsSeq3
end
section
variable {prog:Program}{w:World}{A:Around}{E:Value→Shared→Prop}{s:Shared}
def Dl (n d:Nat):Option Int→Nat
 |none=>d
 |some v=>if v<0 then(v+(n:Int)).toNat else min v.toNat n
theorem Qp (n d k:Nat):Dl n d (some (k:Int))=min k n:=by
 show(if(k:Int)<0 then((k:Int)+(n:Int)).toNat else min (k:Int).toNat n)=min k n
 rw[if_neg (by omega),Int.toNat_natCast]
theorem Wi (n d:Nat)(hd:d≤n)(o:Option Int):Dl n d o≤n:=by
 cases o with
 |none=>exact hd
 |some v=>
  show(if v<0 then(v+(n:Int)).toNat else min v.toNat n)≤n
  by_cases hv:v<0
  ·rw[if_pos hv];omega
  ·rw[if_neg hv];exact Nat.min_le_right _ _
theorem Qv (v:Int)(n d:Nat):(if v<0 then max (v+(n:Int)) 0 else min v (n:Int))=((Dl n d (some v):Nat):Int):=by
 show(if v<0 then max (v+(n:Int)) 0 else min v (n:Int))=(((if v<0 then(v+(n:Int)).toNat else min v.toNat n):Nat):Int)
 by_cases hv:v<0
 ·simp only[if_pos hv];omega
 ·simp only[if_neg hv];omega
theorem Qe (lo hi:Option Int)(n:Nat):Builtin.Slice.sliceAdjust lo hi 1 (n:Int)=(((Dl n 0 lo:Nat):Int),((Dl n n hi:Nat):Int)):=by
 have h1:¬((1:Int)<0):=by omega
 unfold Builtin.Slice.sliceAdjust
 simp only[h1,if_false]
 refine Prod.ext ?_ ?_
 ·cases lo with
  |none=>rfl
  |some v=>exact Qv v n 0
 ·cases hi with
  |none=>rfl
  |some v=>exact Qv v n n
theorem Pa (i j:Nat):Builtin.Slice.slicePlaces (i:Int) (j:Int) 1=j-i:=by
 unfold Builtin.Slice.slicePlaces
 have h1:(1:Int)>0:=by omega
 simp only[h1,if_true,Int.ediv_one]
 split<;>omega
theorem Lx {v:Value}{o:Option Int}{Q:Option Int→Shared→Prop}(p:IsPart v o)(h:Q o s):wpAny (model prog w) A (Builtin.Slice.slicePartIndex v) Q E s:=by
 cases p with
 |none=>exact slicePart_none h
 |int i t=>exact slicePart_int h
theorem Jy {sl:Addr} {vl vu:Value} {lo hi:Option Int} {n:Nat} {Q:Int×Int×Nat→Shared→Prop} (hs:s.heap.IsSliceOf sl vl vu .none) (pl:IsPart vl lo) (pu:IsPart vu hi)
  (h:Q (((Dl n 0 lo:Nat):Int),1,Dl n n hi-Dl n 0 lo) s):wpAny (model prog w) A (Builtin.Slice.sliceApplied (.ref sl) (pure (n:Int))) Q E s:=by
 obtain⟨os,hos,hcs,hds⟩:=id hs
 unfold Builtin.Slice.sliceApplied Builtin.Slice.sliceFields
 refine wpAny_bind (wpAny_bind (wpAny_field hos hds (x:=vl) rfl (wpAny_bind (wpAny_field hos hds (x:=vu) rfl (wpAny_bind (wpAny_field hos hds (x:=.none) rfl (wpAny_pure ?_)))))))
 refine wpAny_bind (slicePart_none ?_)
 show wpAny _ _ (if((1:Int) == 0)=true then _ else _) _ _ s
 rw[if_neg (by decide)]
 refine wpAny_bind (Lx pl (wpAny_bind (Lx pu (wpAny_bind (wpAny_pure ?_)))))
 show wpAny _ _ (match Builtin.Slice.sliceAdjust lo hi 1 (n:Int) with|(lo,hi)=>pure (lo,(1:Int),Builtin.Slice.slicePlaces lo hi 1)) _ _ s
 rw[Qe lo hi n]
 show wpAny _ _ (pure (((Dl n 0 lo:Nat):Int),(1:Int),Builtin.Slice.slicePlaces ((Dl n 0 lo:Nat):Int) ((Dl n n hi:Nat):Int) 1)) _ _ s
 rw[Pa]
 exact wpAny_pure h
theorem T5 (xs:Array Value)(i k:Nat):((List.range k).filterMap fun(m:Nat)=>xs[((i:Int)+(m:Int)*1).toNat]?).toArray=((xs.toList.drop i).take k).toArray:=by
 have e:(fun(m:Nat)=>xs[((i:Int)+(m:Int)*1).toNat]?)=fun m=>xs[i+m]?:=by
  funext m
  have:((i:Int)+(m:Int)*1).toNat=i+m:=by omega
  rw[this]
 rw[e]
 have:=pick_run xs i k
 rw[List.filterMap_map] at this
 have e2:((fun x=>xs[x]?)∘fun x=>i+x)=fun m=>xs[i+m]?:=rfl
 rw[e2] at this
 rw[this]
theorem Jd {t sl:Addr} {items:Array Value} {vl vu:Value} {lo hi:Option Int} {Q:Value→Shared→Prop} (ht:IsTup s.heap t items) (hs:s.heap.IsSliceOf sl vl vu .none) (pl:IsPart vl lo) (pu:IsPart vu hi)
  (hw:¬(Dl items.size 0 lo=0∧Dl items.size items.size hi=items.size))
  (h:Q (.ref s.heap.objs.size) { s with heap:=s.heap.push { cls:=.type "tuple",data:=.seq ((items.toList.drop (Dl items.size 0 lo)).take (Dl items.size items.size hi-Dl items.size 0 lo)).toArray } })
  (hsz:items.size≤sizeLine):wpAny (model prog w) A (getItem (.ref t) (.ref sl)) Q E s:=by
 have htake:sizeOk (.seq ((items.toList.drop (Dl items.size 0 lo)).take (Dl items.size items.size hi-Dl items.size 0 lo)).toArray):=by
  show((items.toList.drop (Dl items.size 0 lo)).take (Dl items.size items.size hi-Dl items.size 0 lo)).toArray.size≤sizeLine
  rw[List.size_toArray,List.length_take,List.length_drop,Array.length_toList]
  omega
 have hj:Dl items.size items.size hi≤items.size:=Wi _ _ (Nat.le_refl _) hi
 obtain⟨os,hos,hcs,hds⟩:=id hs
 have hTs:s.TypeIs (.ref sl) "slice":=⟨os,hos,hcs⟩
 unfold getItem
 try with_reducible refine wpAny_holding ?_
 first|refine wpAny_bind (wpAny_pure ?_)|skip
 refine wpAny_bind (wpAny_sequenceKey ht.typeIs (by decide) ?_)
 refine wpAny_bind (wpAny_callSpecial?_slot (name:=Str.ofString "__getitem__") ht.typeIs PyProof.Rows.slot_tuple_getitem
  (wpAny_call_entry PyProof.Rows.slot_tuple_getitem ht.typeIs entry_tuple_getitem ?_ (args_tuple_getitem _ _)))
 show wpAny _ _ (Builtin.Tuple.tupleItemsOf (.ref t) >>= _) _ _ s
 refine wpAny_bind (tupleItemsOf_ ht ?_)
 refine wpAny_bind (wpAny_typeOf hTs ?_)
 rw[if_pos (by decide)]
 refine wpAny_bind (Jy hs pl pu ?_)
 have hno:¬((((Dl items.size 0 lo:Nat):Int) == 0&&(1:Int) == 1&&(Dl items.size items.size hi-Dl items.size 0 lo) == items.size)=true):=by
  intro q
  rw[Bool.and_eq_true,Bool.and_eq_true] at q
  have q1:((Dl items.size 0 lo:Nat):Int)=0:=eq_of_beq q.1.1
  have q2:Dl items.size items.size hi-Dl items.size 0 lo=items.size:=eq_of_beq q.2
  exact hw ⟨by omega,by omega⟩
 show wpAny _ _ (if(((Dl items.size 0 lo:Nat):Int) == 0&&(1:Int) == 1&&(Dl items.size items.size hi-Dl items.size 0 lo) == items.size)=true then _ else _) _ _ s
 rw[if_neg hno,T5]
 first
  |exact wpAny_bind (m:=Builtin.Tuple.tupleExact _) (wpAny_newObj_type (wpAny_pure ⟨_,rfl,wpAny_pure h⟩) htake)
  |exact wpAny_bind (m:=Builtin.Tuple.tupleExact _) (wpAny_newObj_type (wpAny_bind (wpAny_pure (wpAny_pure ⟨_,rfl,wpAny_pure h⟩))) htake)
  |exact wpAny_bind (wpAny_bind (m:=Builtin.Tuple.tupleExact _) (wpAny_newObj_type (wpAny_pure (wpAny_pure ⟨_,rfl,wpAny_pure h⟩)) htake))
  |exact wpAny_bind (wpAny_bind (m:=Builtin.Tuple.tupleExact _) (wpAny_newObj_type (wpAny_pure ⟨_,rfl,wpAny_pure h⟩) htake))
end
end HT
namespace L2
open PySem PySem.Spec PyProof.Rows
abbrev TO:=St→Hp→(Option Int→Hp→Prop)→Prop
def PO (X:Cx)(e:Option Expr)(t:TO):Prop:=
 ∀(pins:List (Addr×Obj)) (s:Shared) (σ:St) (H:Hp) (Q:Option Int→Hp→Prop),Inv X pins σ H s→t σ H Q→
  wpAny (model X.prog X.w) X.A (evalPart e X.env) (fun u s'=>∃o H',Inv X pins σ H' s'∧IsPart u o∧Q o H') X.xe s
def UX:TO:=fun _ H Q=>Q none H
def Wv (t:TE):TO:=fun σ H Q=>t σ H fun x H1=>∃i,x=.int i∧Q (some i) H1
theorem intsAre_of {ns:List Int}:∀{us:List Value},AJ (ns.map V.int) us→IntsAre us ns:=by
 induction ns with
 |nil=>intro us r;rw[List.map_nil] at r;cases r;exact .nil
 |cons n ns ih=>
  intro us r
  rw[List.map_cons] at r
  cases r with
  |cons r1 r2=>
   obtain⟨t,e⟩:=r1
   subst e
   exact .cons n t (ih r2)
section
variable {X:Cx}{e:Expr}{te:TE}{lo hi:Option Expr}{tl th:TO}{pos p2:Pos}
theorem Fj:PO X none UX:=by
 intro pins s σ H Q I h
 rw[evalPart_none]
 exact wpAny_pure ⟨none,H,I,.none,h⟩
theorem Cu (h:PE X e te):PO X (some e) (Wv te):=by
 intro pins s σ H Q I hw
 rw[evalPart_some]
 refine Bo (h pins s σ H _ I hw) fun u s1 ⟨x,H1,I1,r1,q1⟩=>?_
 obtain⟨i,rfl,q⟩:=q1
 obtain⟨t,rfl⟩:=r1
 exact⟨some i,H1,I1,.int i t,q⟩
def W0 (X:Cx)(r:V→Option Int→Option Int→Hp→VK→Prop):Prop:=
 ∀(pins:List (Addr×Obj)) (s:Shared) (σ:St) (H:Hp) (x:V) (v vl vu:Value) (lo hi:Option Int) (sl:Addr) (Q:VK),Inv X pins σ H s→RelV x v→s.heap.IsSliceOf sl vl vu .none→IsPart vl lo→IsPart vu hi→r x lo hi H Q→
  ∃T id,typeLookup (.type T) "__getitem__"=pure (some (.builtin id))∧s.TypeIs v T∧wpAny (model X.prog X.w) X.A (getItem v (.ref sl)) (EP X pins σ Q) X.xe s
def XT (r:V→Option Int→Option Int→Hp→VK→Prop)(te:TE)(tl th:TO):TE:=fun σ H Q=>te σ H fun x H1=>tl σ H1 fun l H2=>th σ H2 fun u H3=>r x l u H3 Q
theorem CA {r:V→Option Int→Option Int→Hp→VK→Prop}(hr:W0 X r)(he:PE X e te)(hl:PO X lo tl)(hu:PO X hi th):PE X (.Subscript e (.Slice lo hi none p2) pos) (XT r te tl th):=by
 intro pins s σ H Q I h
 refine Subscript_ (Bo (he pins s σ H _ I h) fun v s1 ⟨x,H1,I1,r1,q1⟩=>?_)
 refine wpAny_Slice (Bo (hl pins s1 σ H1 _ I1 q1) fun vl s2 ⟨l,H2,I2,pl,q2⟩=>Bo (hu pins s2 σ H2 _ I2 q2) fun vu s3 ⟨u,H3,I3,pu,q3⟩=>?_)
 rw[evalPart_none]
 refine wpAny_pure ?_
 have I4:Inv X pins σ H3 { s3 with heap:=s3.heap.push { cls:=.type "slice",data:=.fields #[vl,vu,.none] } }:=I3.kept (t':=s3.toks) fun b ob q=>Heap.get?_push_of_some _ q
 obtain⟨T,id,hT,ht,hg⟩:=hr pins { s3 with heap:=s3.heap.push { cls:=.type "slice",data:=.fields #[vl,vu,.none] } } σ H3 x v vl vu l u s3.heap.objs.size Q I4 r1 (Heap.IsSliceOf.new ..) pl pu q3
 show wpAny (model X.prog X.w) X.A (subscriptTail e (.Slice lo hi none p2) v (.ref s3.heap.objs.size)) (EP X pins σ Q) X.xe { s3 with heap:=s3.heap.push { cls:=.type "slice",data:=.fields #[vl,vu,.none] } }
 exact tail_any (ops:=[.ref s3.heap.objs.size,v]) ht hT hg (by with_unfolding_all rfl)
def Fu (xs:List V)(lo hi:Option Int):List V:=(xs.drop (HT.Dl xs.length 0 lo)).take (HT.Dl xs.length xs.length hi-HT.Dl xs.length 0 lo)
theorem J7 (xs:List V)(lo hi:Option Int):(Fu xs lo hi).length≤xs.length:=by
 unfold Fu
 rw[List.length_take,List.length_drop]
 omega
def Xe (K:PySem.W.Frag):V→Option Int→Option Int→Hp→VK→Prop:=fun x lo hi H Q=>∃a xs,x=.ref a∧AY K H a xs∧
 ¬(HT.Dl xs.length 0 lo=0∧HT.Dl xs.length xs.length hi=xs.length)∧∀p,H p=none→Q (.ref p) (upd H p (.tup (Fu xs lo hi)))
theorem Sf:W0 X (Xe X.K):=by
 intro pins s σ H x v vl vu lo hi sl Q I rx hs pl pu h
 obtain⟨a,xs,rfl,hx,hw,q⟩:=h
 cases rx
 obtain⟨its,r,ht,hz⟩:=I.tuple hx
 have hlen:its.toArray.size=xs.length:=by rw[List.size_toArray];exact r.length.symm
 refine⟨"tuple",_,PyProof.Rows.slot_tuple_getitem.lookup,ht.typeIs,?_⟩
 refine HT.Jd ht hs pl pu (by rw[hlen];exact hw) ?_ (by rw[hlen];exact hz)
 rw[hlen]
 refine⟨.ref s.heap.objs.size,_,I.laid (t':=s.toks) (o:=.tup (Fu xs lo hi)) (fun b ob q=>Heap.get?_push_of_some _ q) (Nat.le_refl _) ?_,rfl,q _ (I.hok.fresh (Nat.le_refl _))⟩
 exact⟨Nat.le_trans (J7 xs lo hi) hz,_,(r.drop (HT.Dl xs.length 0 lo)).take (HT.Dl xs.length xs.length hi-HT.Dl xs.length 0 lo),IsTup.new _ _⟩
end
end L2
namespace L2
open PySem PySem.Spec PyProof.Rows
def RP (n:Nat)(i:Int):Option Nat:=if 0≤i then(if i<n then some i.toNat else none) else if -(n:Int)≤i then some (i+n).toNat else none
def Kg {α:Type}(xs:List α)(i:Int):Option α:=(RP xs.length i).bind fun j=>xs[j]?
theorem UA {n:Nat}{i:Int}{j:Nat}(h:RP n i=some j):seqIndex? i n=some j∧j<n∧-(n:Int)≤i∧i<n:=by
 unfold RP at h
 by_cases h0:0≤i
 ·rw[if_pos h0] at h
  by_cases h1:i<n
  ·rw[if_pos h1] at h
   have e:i.toNat=j:=Option.some.inj h
   exact⟨by rw[seqIndex_of h0 h1,e],by omega,by omega,h1⟩
  ·rw[if_neg h1] at h;cases h
 ·rw[if_neg h0] at h
  by_cases h1:-(n:Int)≤i
  ·rw[if_pos h1] at h
   have e:(i+n).toNat=j:=Option.some.inj h
   exact⟨by rw[seqIndex_neg (by omega) h1,e],by omega,h1,by omega⟩
  ·rw[if_neg h1] at h;cases h
theorem NB {α:Type}{xs:List α}{i:Int}{v:α}(h:Kg xs i=some v):∃j,seqIndex? i xs.length=some j∧xs[j]?=some v∧j<xs.length∧-(xs.length:Int)≤i∧i<xs.length:=by
 unfold Kg at h
 cases e:RP xs.length i with
 |none=>rw[e] at h;cases h
 |some j=>
  rw[e] at h
  obtain⟨h1,h2,h3,h4⟩:=UA e
  exact⟨j,h1,h,h2,h3,h4⟩
theorem HQ {α:Type}{xs:List α}{j:Nat}{v:α}(h:xs[j]?=some v):Kg xs (j:Int)=some v:=by
 have hj:j<xs.length:=(List.getElem?_eq_some_iff.mp h).1
 have e:RP xs.length (j:Int)=some j:=by
  unfold RP
  rw[if_pos (by omega),if_pos (by omega)];simp
 unfold Kg;rw[e];exact h
theorem SI {α:Type}(xs:List α)(v:α):Kg (xs++[v]) (-1)=some v:=by
 have hl:(xs++[v]).length=xs.length+1:=by simp
 have e:RP (xs++[v]).length (-1)=some xs.length:=by
  unfold RP
  rw[hl,if_neg (by decide),if_pos (by omega)]
  congr 1
  omega
 unfold Kg
 rw[e]
 show(xs++[v])[xs.length]?=some v
 simp
def U7 (b:Expr):Prop:=∀o i,subscripted b false o i=operate [o,i] (getItem o i)
def WQ (X:Cx)(r:R2):Prop:=
 ∀(value slice:Expr) (pins:List (Addr×Obj)) (s:Shared) (σ:St) (H:Hp) (x y:V) (v u:Value) (Q:VK),Inv X pins σ H s→RelV x v→RelV y u→r x y H Q→
  subscripted slice false v u=operate [v,u] (getItem v u)→wpAny (model X.prog X.w) X.A (subscriptTail value slice v u) (EP X pins σ Q) X.xe s
def W4 (X:Cx)(id:String)(r:V→List V→Hp→VK→Prop):Prop:=
 ∀(pins:List (Addr×Obj)) (s:Shared) (σ:St) (H:Hp) (x:V) (xs:List V) (v:Value) (us:List Value) (Q:VK),Inv X pins σ H s→RelV x v→AJ xs us→r x xs H Q→
  wpAny (model X.prog X.w) X.A (call (.builtin id) (v::us)) (EP X pins σ Q) X.xe s
section
variable {X:Cx}{a b:Expr}{ta tb:TE}{pos:Pos}
theorem AG {r:R2}(hr:WQ X r)(ha:PE X a ta)(hb:PE X b tb)(hs:U7 b):PE X (.Subscript a b pos) (Vu r ta tb):=by
 intro pins s σ H Q I h
 exact Subscript_ (VJ ha hb I h fun v u s2 x y H2 I2 rx ry q=>hr a b pins s2 σ H2 x y v u Q I2 rx ry q (hs _ _))
def Xz (K:PySem.W.Frag):R2:=fun x y H Q=>∃p xs i v,x=.ref p∧y=.int i∧AU K H p xs∧Kg xs i=some v∧Q v H
def WK (K:PySem.W.Frag):R2:=fun x y H Q=>∃p xs i v,x=.ref p∧y=.int i∧AY K H p xs∧Kg xs i=some v∧Q v H
def Xy:R2:=fun x y H Q=>∃z i c,x=.str z∧y=.int i∧z.length≤sizeLine∧Kg z.cps.toList i=some c∧Q (.str ⟨#[c]⟩) H
theorem DZ:WQ X (Xz X.K):=by
 intro value slice pins s σ H x y v u Q I rx ry h hs
 obtain⟨p,xs,i,z,rfl,rfl,hq,he,q⟩:=h
 cases rx
 obtain⟨t,rfl⟩:=ry
 obtain⟨its,r,pl,hz⟩:=I.list hq
 obtain⟨j,h1,h2,h3,h4,h5⟩:=NB he
 obtain⟨w,ew,rw'⟩:=r.get h2
 have hl:=r.length
 have hn:=Lo
 have fin:EP X pins σ Q w s:=⟨z,H,I,rw',q⟩
 by_cases h0:0≤i
 ·have hj:i.toNat=j:=by
   rw[seqIndex_of h0 h5] at h1
   exact Option.some.inj h1
  exact item_listR pl.isList h0 (by omega) (by rw[hj];simpa using ew) fin hs
 ·have hj:(i+(its.toArray.size:Int)).toNat=j:=by
   rw[seqIndex_neg (by omega) h4] at h1
   rw[List.size_toArray,←hl]
   exact Option.some.inj h1
  exact subscriptTail_builtinR (x:=w) pl.isList.typeIs slot_list_getitem.lookup
   (wpAny_getItem_list_neg (Q:=fun r s'=>r=w∧EP X pins σ Q r s') pl.isList (by omega) (by rw[List.size_toArray]<;>omega) (by omega) (by rw[hj];simpa using ew) ⟨rfl,fin⟩) hs
theorem AH:WQ X (WK X.K):=by
 intro value slice pins s σ H x y v u Q I rx ry h hs
 obtain⟨p,xs,i,z,rfl,rfl,hq,he,q⟩:=h
 cases rx
 obtain⟨t,rfl⟩:=ry
 obtain⟨its,r,pl,hz⟩:=I.tuple hq
 obtain⟨j,h1,h2,h3,h4,h5⟩:=NB he
 obtain⟨w,ew,rw'⟩:=r.get h2
 have hl:=r.length
 have hn:=Lo
 have fin:EP X pins σ Q w s:=⟨z,H,I,rw',q⟩
 exact subscriptTail_builtinR (x:=w) pl.typeIs slot_tuple_getitem.lookup
  (getItem_tuple (j:=j) (Q:=fun r s'=>r=w∧EP X pins σ Q r s') pl (by omega) (by omega) (by rw[List.size_toArray,←hl];exact h1) (by simpa using ew) ⟨rfl,fin⟩) hs
theorem K6:WQ X Xy:=by
 intro value slice pins s σ H x y v u Q I rx ry h hs
 obtain⟨z,i,c,rfl,rfl,hz,he,q⟩:=h
 obtain⟨t,rfl⟩:=rx
 obtain⟨t',rfl⟩:=ry
 obtain⟨j,h1,h2,h3,h4,h5⟩:=NB he
 have hl:z.cps.toList.length=z.length:=by simp[Str.length]
 rw[hl] at h1 h4 h5
 have hn:=Lo
 exact tail_any (typeIs_str s z t) slot_str_getitem.lookup (getItem_str (c:=c) (by
  have e1:decide (i < -(2^63:Int))=false:=decide_eq_false (by omega)
  have e2:decide (i≥2^63)=false:=decide_eq_false (by omega)
  rw[e1,e2,Bool.or_false]) (by rw[h1];simpa using h2) ⟨.str ⟨#[c]⟩,H,I.tok _,⟨_,rfl⟩,q⟩) hs
theorem Inv.lst {pins:List (Addr×Obj)}{σ:St}{H:Hp}{s:Shared}{p:Addr}{xs:List V}(I:Inv X pins σ H s)(h:H p=some (.lst xs)) :
  ∃(its:List Value) (n:Nat),AJ xs its∧s.heap.get? p=some { cls:=.type "list",data:=.seq its.toArray n }∧xs.length≤sizeLine:=by
 obtain⟨z,its,n,r,e⟩:=I.hok p _ h
 exact⟨its,n,r,e,z⟩
theorem MY (lo hi:Option Int)(n:Nat):(sliceBounds lo hi none n).1=((HT.Dl n 0 lo:Nat):Int)∧(sliceBounds lo hi none n).2.1=((HT.Dl n n hi:Nat):Int)∧(sliceBounds lo hi none n).2.2=1:=by
 refine⟨?_,?_,rfl⟩
 ·cases lo with
  |none=>simp[sliceBounds,HT.Dl]
  |some i=>
   simp only[sliceBounds,HT.Dl,Option.getD_none,show(1:Int)>0 by decide,if_true]
   by_cases h:i<0
   ·simp only[h,if_true]<;>omega
   ·simp only[h,if_false]<;>omega
 ·cases hi with
  |none=>simp[sliceBounds,HT.Dl]
  |some i=>
   simp only[sliceBounds,HT.Dl,Option.getD_none,show(1:Int)>0 by decide,if_true]
   by_cases h:i<0
   ·simp only[h,if_true]<;>omega
   ·simp only[h,if_false]<;>omega
theorem L4 (its:List Value)(lo hi:Option Int):slicePick its.toArray lo hi none=((its.drop (HT.Dl its.length 0 lo)).take (HT.Dl its.length its.length hi-HT.Dl its.length 0 lo)).toArray:=by
 obtain⟨h1,h2,h3⟩:=MY lo hi its.toArray.size
 unfold slicePick
 rw[h1,h2,h3]
 simp only[sliceRange_one,pick_run,List.size_toArray]<;>rfl
def Xm (K:PySem.W.Frag):V→Option Int→Option Int→Hp→VK→Prop:=fun x lo hi H Q=>∃a xs,x=.ref a∧AU K H a xs∧∀p,H p=none→Q (.ref p) (upd H p (.lst (Fu xs lo hi)))
theorem Kz:W0 X (Xm X.K):=by
 intro pins s σ H x v vl vu lo hi sl Q I rx hs pl pu h
 obtain⟨a,xs,rfl,hx,q⟩:=h
 cases rx
 obtain⟨its,r,ht,hz⟩:=I.list hx
 have hlen:=r.length
 refine⟨"list",_,slot_list_getitem.lookup,ht.isList.typeIs,?_⟩
 refine wpAny_getItem_list_slice ht.isList hs pl pu .none (by simp) ?_ (by rw[List.size_toArray]<;>omega)
 rw[L4,←hlen]
 refine⟨.ref s.heap.objs.size,_,I.laid (t':=s.toks) (o:=.lst (Fu xs lo hi)) (fun b ob q=>Heap.get?_push_of_some _ q) (Nat.le_refl _) ?_,rfl,q _ (I.hok.fresh (Nat.le_refl _))⟩
 exact⟨Nat.le_trans (J7 xs lo hi) hz,_,0,(r.drop (HT.Dl xs.length 0 lo)).take (HT.Dl xs.length xs.length hi-HT.Dl xs.length 0 lo),Heap.get?_push_size _ rfl⟩
def Sh:V→Bool
 | .non=>true
 | .bl _=>true
 | .int _=>true
 | .str _=>true
 |_=>false
def Uy:V→V→Bool
 | .non,.non=>true
 | .bl a,.bl b=>a == b
 | .bl a,.int b=>(if a then 1 else 0) == b
 | .int a,.bl b=>a == (if b then 1 else 0)
 | .int a,.int b=>a == b
 | .str a,.str b=>a == b
 |_,_=>false
theorem Pj {A:Around}{s:Shared}{y x:V}{u v:Value}(ry:RelV y u)(rx:RelV x v)(fy:Sh y=true)(fx:Sh x=true):SeqAt.EqAt A s u v (Uy y x):=by
 cases y with
 |non=>
  cases ry
  cases x with
  |non=>cases rx;exact SeqAt.EqAt.same _
  |bl b=>cases rx;exact SeqAt.EqAt.none_bool b
  |int b=>obtain⟨t,rfl⟩:=rx;exact SeqAt.EqAt.none_int b t
  |str b=>obtain⟨t,rfl⟩:=rx;exact SeqAt.EqAt.none_str b t
  |_=>exact absurd (show false=true from fx) Bool.false_ne_true
 |bl a=>
  cases ry
  cases x with
  |non=>cases rx;exact SeqAt.EqAt.bool_none a
  |bl b=>cases rx;exact SeqAt.EqAt.bool_bool a b
  |int b=>obtain⟨t,rfl⟩:=rx;exact SeqAt.EqAt.bool_int a b t
  |str b=>obtain⟨t,rfl⟩:=rx;exact SeqAt.EqAt.bool_str a b t
  |_=>exact absurd (show false=true from fx) Bool.false_ne_true
 |int a=>
  obtain⟨t',rfl⟩:=ry
  cases x with
  |non=>cases rx;exact SeqAt.EqAt.int_none a t'
  |bl b=>cases rx;exact SeqAt.EqAt.int_bool a t' b
  |int b=>obtain⟨t,rfl⟩:=rx;exact SeqAt.EqAt.int_int a t' b t
  |str b=>obtain⟨t,rfl⟩:=rx;exact SeqAt.EqAt.int_str a t' b t
  |_=>exact absurd (show false=true from fx) Bool.false_ne_true
 |str a=>
  obtain⟨t',rfl⟩:=ry
  cases x with
  |non=>cases rx;exact SeqAt.EqAt.str_none a t'
  |bl b=>cases rx;exact SeqAt.EqAt.str_bool a t' b
  |int b=>obtain⟨t,rfl⟩:=rx;exact SeqAt.EqAt.str_int a t' b t
  |str b=>obtain⟨t,rfl⟩:=rx;exact SeqAt.EqAt.str_str a t' b t
  |_=>exact absurd (show false=true from fx) Bool.false_ne_true
 |_=>exact absurd (show false=true from fy) Bool.false_ne_true
theorem AI:Ff X (.builtin "len") (fun xs H Q=>∃p ys,xs=[.ref p]∧(AU X.K H p ys∨AY X.K H p ys)∧Q (.int ys.length) H):=by
 intro pins s σ H xs us Q I r h
 obtain⟨p,ys,rfl,hq,q⟩:=h
 obtain⟨u,rfl,rx⟩:=vals1 r
 cases rx
 have hn:=Lo
 rcases hq with hq|hq
 ·obtain⟨its,r',pl,hz⟩:=I.list hq
  have hlen:=r'.length
  exact Calls.call_len_list pl.isList (by simp only[List.size_toArray]<;>omega) ⟨.int ys.length,H,I.tok _,⟨s.toks+1,by rw[List.size_toArray,hlen]⟩,q⟩
 ·obtain⟨its,r',pl,hz⟩:=I.tuple hq
  have hlen:=r'.length
  exact len_tuple pl (by simp only[List.size_toArray]<;>omega) ⟨.int ys.length,H,I.tok _,⟨s.toks+1,by rw[List.size_toArray,hlen]⟩,q⟩
theorem CS:Ff X (.builtin "len") (fun xs H Q=>∃z,xs=[.str z]∧z.length≤sizeLine∧Q (.int z.length) H):=by
 intro pins s σ H xs us Q I r h
 obtain⟨z,rfl,hz,q⟩:=h
 obtain⟨u,rfl,t,rfl⟩:=vals1 r
 have hn:=Lo
 exact len_str (by omega) ⟨.int z.length,H,I.tok _,⟨_,rfl⟩,q⟩
theorem GW:Ff X (.type "list") (fun xs H Q=>∃p ys,xs=[.ref p]∧(AU X.K H p ys∨AY X.K H p ys)∧∀l,H l=none→Q (.ref l) (upd H l (.lst ys))):=by
 intro pins s σ H xs us Q I r h
 obtain⟨p,ys,rfl,hq,q⟩:=h
 obtain⟨u,rfl,rx⟩:=vals1 r
 cases rx
 have fin:∀(its:List Value),AJ ys its→ys.length≤sizeLine→∀(h':Heap) (c':Nat),(∀b o',s.heap.get? b=some o'→h'.get? b=some o')→
   h'.get? s.heap.objs.size=some { cls:=.type "list",dict:=none,data:=.seq its.toArray c',slots:=#[] }→EP X pins σ Q (.ref s.heap.objs.size) { s with heap:=h' }:=fun its r' hz h' c' kp e=>
  ⟨.ref s.heap.objs.size,_,I.laid (t':=s.toks) kp (Nat.le_refl _) (show Bj X.prog X.w _ h' _ (.lst ys) from⟨hz,its,c',r',e⟩),rfl,q _ (I.hok.fresh (Nat.le_refl _))⟩
 rcases hq with hq|hq
 ·obtain⟨its,r',pl,hz⟩:=I.list hq
  have hlen:=r'.length
  obtain⟨o,ho,hc,n,hd⟩:=pl.isList
  exact call_list_seq p (.inl rfl) ho hc hd (fun h' c' kp e=>fin its r' hz h' c' kp e) (by simp only[List.size_toArray]<;>omega)
 ·obtain⟨its,r',pl,hz⟩:=I.tuple hq
  have hlen:=r'.length
  obtain⟨o,ho,hc,n,hd⟩:=pl
  exact call_list_seq p (.inr rfl) ho hc hd (fun h' c' kp e=>fin its r' hz h' c' kp e) (by simp only[List.size_toArray]<;>omega)
theorem HW:Ff X (.type "tuple") (fun xs H Q=>∃p ys,xs=[.ref p]∧((AU X.K H p ys∧∀l,H l=none→Q (.ref l) (upd H l (.tup ys)))∨(AY X.K H p ys∧Q (.ref p) H))):=by
 intro pins s σ H xs us Q I r h
 obtain⟨p,ys,rfl,h⟩:=h
 obtain⟨u,rfl,rx⟩:=vals1 r
 cases rx
 rcases h with⟨hq,q⟩|⟨hq,q⟩
 ·obtain⟨its,r',pl,hz⟩:=I.list hq
  have hlen:=r'.length
  refine call_tuple_list pl.isList (fun h' kp=>?_) (by simp only[List.size_toArray]<;>omega)
  have I1:Inv X pins σ H { s with heap:=h' }:=I.kept (t':=s.toks) kp
  have I2:Inv X pins σ (upd H h'.objs.size (.tup ys)) { s with heap:=h'.push { cls:=.type "tuple",data:=.seq its.toArray } }:=
   I1.laid (t':=s.toks) (fun b o e=>Heap.get?_push_of_some _ e) (Nat.le_refl _) (show Bj X.prog X.w _ _ _ (.tup ys) from⟨hz,its,r',IsTup.new _ _⟩)
  exact⟨.ref h'.objs.size,_,I2,rfl,q _ (I1.hok.fresh (Nat.le_refl _))⟩
 ·obtain⟨its,r',pl,hz⟩:=I.tuple hq
  exact call_tuple_same pl ⟨.ref p,H,I,rfl,q⟩
def XO (K:PySem.W.Frag)(T:String)(x:V)(H:Hp):Prop:=match x with
 | .str _=>T="str"
 | .int _=>T="int"
 | .ref p=>(T="list"∧∃xs,AU K H p xs)∨(T="tuple"∧∃o,K.lookup p=some o∧o.cls=.type "tuple"∧o.dict=none)∨
   (T="dict"∧((∃kvs,H p=some (.dK kvs))∨∃kvs,H p=some (.dT kvs)))∨(T="set"∧∃S n,H p=some (.set S n))
 |_=>False
theorem V7 {pins:List (Addr×Obj)}{σ:St}{H:Hp}{s:Shared}{T:String}{x:V}{v:Value}(I:Inv X pins σ H s)(r:RelV x v)(ty:XO X.K T x H) :
  s.TypeIs v T∧∀a,v=.ref a→∃ob,s.heap.get? a=some ob∧ob.dict=none:=by
 cases x with
 |str z=>
  obtain⟨t,rfl⟩:=r
  cases(show T="str" from ty)
  exact⟨typeIs_str s z t,fun _ e=>nomatch e⟩
 |int i=>
  obtain⟨t,rfl⟩:=r
  cases(show T="int" from ty)
  exact⟨typeIs_int s i t,fun _ e=>nomatch e⟩
 |ref p=>
  cases r
  rcases ty with⟨rfl,xs,hq⟩|⟨rfl,o,hk,hc,hd⟩|⟨rfl,hk⟩|⟨rfl,S,n,hk⟩
  ·obtain⟨its,_,pl,_⟩:=I.list hq
   refine⟨pl.isList.typeIs,fun a e=>?_⟩
   cases e
   obtain⟨o,n,e,c,hd,_⟩:=pl
   exact⟨o,e,hd⟩
  ·refine⟨⟨o,I.kIn p o hk,hc⟩,fun a e=>?_⟩
   cases e
   exact⟨o,I.kIn _ o hk,hd⟩
  ·have z:∃o,s.heap.get? p=some o∧o.ExactDict:=by
    rcases hk with⟨kvs,hk⟩|⟨kvs,hk⟩
    ·obtain⟨_,_,_,_,o,_,_,e,ex,_⟩:=I.hok p _ hk
     exact⟨o,e,ex⟩
    ·obtain⟨_,_,_,_,o,_,_,e,ex,_⟩:=I.hok p _ hk
     exact⟨o,e,ex⟩
   obtain⟨o,e,ex⟩:=z
   refine⟨⟨o,e,ex.1⟩,fun a e2=>?_⟩
   cases e2
   exact⟨o,e,ex.2.1⟩
  ·obtain⟨o,_,_,_,e,ex,_⟩:=I.hok p _ hk
   refine⟨⟨o,e,ex.1⟩,fun a e2=>?_⟩
   cases e2
   exact⟨o,e,ex.2.1⟩
 |_=>exact False.elim ty
def XR (K:PySem.W.Frag)(T:String)(r:V→List V→Hp→VK→Prop)(to:TE)(t:TA):TE:=fun σ H Q=>to σ H fun x H1=>XO K T x H1∧t σ H1 fun xs H2=>r x xs H2 Q
variable {o e:Expr}{es:List Expr}{to:TE}{t:TA}{name:Str}{apos cpos:Pos}{T id:String}{r:V→List V→Hp→VK→Prop}
theorem E9 (pa:PlainAttrs T) (slot:Slot T name id) (hty:typeOf (.builtin id)=pure (.type "method_descriptor")) (hm:W4 X id r) (ho:PE X o to) (ha:PA X (e::es) t)
  (hbase:attributeBase o name X.env (eval o X.env)=eval o X.env:=by rfl)
  (hfew:((backTo cpos (starEach (e::es) X.env)).all (fun x=>!x.1)&&(backToKw cpos (keywordEach [] X.env)).all (fun x=>x.1.isSome)
   && decide ((e::es).length+([]:List Keyword).length+(if([]:List Keyword).isEmpty then 0 else 1)<30))=true:=by rfl)
  (hline:(apos.endLine == cpos.line)=true:=by rfl) (hs:starEach (e::es) X.env=(false,eval e X.env)::starEach es X.env:=by rfl) (hplain:(backTo cpos (starEach es X.env)).any (·.1)=false:=by rfl) :
  PE X (.Call (.Attribute o name apos) (e::es) [] cpos) (XR X.K T r to t):=by
 intro pins s σ H Q I h
 refine wpAny_Call_method_late hbase hfew hline rfl (Bo (ho pins s σ H _ I h) fun v s1 ⟨x,H1,I1,r1,ty,q1⟩=>?_)
 obtain⟨h1,h2⟩:=V7 I1 r1 ty
 refine⟨T,id,pa,slot,hty,h1,h2,?_⟩
 have hA:=ha cpos pins s1 σ H1 _ I1 q1
 rw[hs] at hA ⊢
 refine Calls.callWith_builtin (by show(false||(backTo cpos (starEach es X.env)).any (·.1))=false;rw[hplain]<;>rfl) (Calls.evalArgs_plain ?_)
 exact Bo hA fun us s2 ⟨vs,H2,I2,r2,q2⟩=>hm pins s2 σ H2 x vs v us Q I2 r1 r2 q2
end
end L2
namespace L2
open PySem PySem.Spec PyProof.Rows
def XE (X:Cx)(id:String)(r:V→List V→Hp→VK→Prop):Prop:=
 ∀(pins:List (Addr×Obj)) (s:Shared) (σ:St) (H:Hp) (x:V) (xs:List V) (v:Value) (us:List Value) (Q:VK),Inv X pins σ H s→RelV x v→AJ xs us→r x xs H Q→
  wpAny (model X.prog X.w) X.A (call (.builtin id) (v::us)) (EP X pins σ Q) X.xe s
theorem AJ.one:∀{x:V} {us:List Value},AJ [x] us→∃u,us=[u]∧RelV x u
 |_,_,.cons r .nil=>⟨_,rfl,r⟩
theorem AJ.zero:∀{us:List Value},AJ [] us→us=[]
 |_,.nil=>rfl
theorem AJ.dropLast {xs:List V}{us:List Value}(h:AJ xs us):AJ xs.dropLast us.dropLast:=by
 induction h with
 |nil=>exact .nil
 |cons r t ih=>
  cases t with
  |nil=>exact .nil
  |cons q t'=>exact .cons r ih
theorem AJ.eraseIdx:∀{xs:List V} {us:List Value} (i:Nat),AJ xs us→AJ (xs.eraseIdx i) (us.eraseIdx i)
 |_,_,_,.nil=>.nil
 |_,_,0,.cons _ t=>t
 |_,_,i+1,.cons r t=>.cons r (AJ.eraseIdx i t)
theorem AJ.reverse {xs:List V}{us:List Value}(h:AJ xs us):AJ xs.reverse us.reverse:=by
 induction h with
 |nil=>exact .nil
 |cons r t ih=>rw[List.reverse_cons,List.reverse_cons];exact AJ.append ih (.cons r .nil)
section
variable {X:Cx}{pins:List (Addr×Obj)}{σ:St}{H:Hp}{s:Shared}{l b:Addr}{xs ys zs:List V}
theorem Inv.lset {its its':List Value} {n:Nat} {f:Array Value→Array Value} {t':Nat} (I:Inv X pins σ H s) (hH:H l=some (.lst xs))
  (e:s.heap.get? l=some { cls:=.type "list",data:=.seq its.toArray n }) (hf:f its.toArray=its'.toArray) (hv:AJ ys its') (hz:ys.length≤sizeLine) :
  Inv X pins σ (upd H l (.lst ys)) { s with heap:=s.heap.update l (Obj.mapSeq f),toks:=t' }:=by
 have q:=PySem.IsL.update e f
 rw[hf] at q
 refine I.write (x:=l) (e:=l) (by rw[hH];exact trivial) (.inl rfl) (fun b' u hb hu=>(Heap.get?_update_other s.heap (Obj.mapSeq f) (Ne.symm hb)).trans hu) ⟨_,q⟩ ?_
 exact⟨hz,its',_,hv,q⟩
theorem Inv.lnew {its:List Value}{t':Nat}(I:Inv X pins σ H s)(hv:AJ ys its)(hz:ys.length≤sizeLine) :
  Inv X pins σ (upd H s.heap.objs.size (.lst ys)) { s with heap:=s.heap.push { cls:=.type "list",data:=.seq its.toArray },toks:=t' }:=
 I.laid (fun _ _ q=>Heap.get?_push_of_some _ q) (Nat.le_refl _) ⟨hz,its,0,hv,Heap.get?_push_size _ rfl⟩
theorem Inv.fresh (I:Inv X pins σ H s):H s.heap.objs.size=none:=I.hok.fresh (Nat.le_refl _)
theorem Inv.lstM (I:Inv X pins σ H s)(hH:H l=some (.lst xs)):xs.length≤sizeLine∧∃(its:List Value) (n:Nat),AJ xs its∧xs.length=its.length∧s.heap.get? l=some { cls:=.type "list",data:=.seq its.toArray n }:=by
 obtain⟨z,its,n,r,e⟩:=I.hok l _ hH
 exact⟨z,its,n,r,r.length,e⟩
theorem TJ {n:Nat}(h:n≤sizeLine):Builtin.List.listTooLong n=false:=by
 unfold Builtin.List.listTooLong
 exact decide_eq_false (by omega)
end
section
variable {X:Cx}
def Us:V→List V→Hp→VK→Prop:=fun x vs H Q=>∃l xs y,x=.ref l∧vs=[y]∧H l=some (.lst xs)∧xs.length<sizeLine∧Q .non (upd H l (.lst (xs++[y])))
theorem Cm:XE X "list.append" Us:=by
 intro pins s σ H x vs v us Q I rx rv h
 obtain⟨l,xs,y,rfl,rfl,hH,hz,q⟩:=h
 cases rx
 obtain⟨u,rfl,ru⟩:=rv.one
 obtain⟨z,its,n,r,hl,e⟩:=I.lstM hH
 refine call_meets F.slot_list_append ⟨_,e,rfl⟩ F.entry_list_append (F.args_list_append_2 _ _) (PySem.list_append l its.toArray n u (by rw[List.size_toArray];omega)) ⟨e,?_⟩
 refine⟨.non,_,I.lset (its':=its++[u]) hH e (by simp) (r.append (.cons ru .nil)) ?_,rfl,q⟩
 rw[List.length_append,List.length_singleton]
 omega
def Ul:V→List V→Hp→VK→Prop:=fun x vs H Q=>∃l b xs zs,x=.ref l∧vs=[.ref b]∧H l=some (.lst xs)∧H b=some (.lst zs)∧xs.length+zs.length≤sizeLine∧Q .non (upd H l (.lst (xs++zs)))
theorem JI:XE X "list.extend" Ul:=by
 intro pins s σ H x vs v us Q I rx rv h
 obtain⟨l,b,xs,zs,rfl,rfl,hH,hB,hz,q⟩:=h
 cases rx
 obtain⟨u,rfl,ru⟩:=rv.one
 cases ru
 obtain⟨z,its,n,r,hl,e⟩:=I.lstM hH
 obtain⟨z2,its2,n2,r2,hl2,e2⟩:=I.lstM hB
 have hsz:its.toArray.size+its2.toArray.size≤sizeLine:=by rw[List.size_toArray,List.size_toArray];omega
 have hlong:¬(!its.toArray.isEmpty&&Builtin.List.listTooLong (its.toArray.size+its2.toArray.size))=true:=by
  rw[TJ hsz,Bool.and_false]
  exact Bool.false_ne_true
 refine call_meets F.slot_list_extend ⟨_,e,rfl⟩ F.entry_list_extend (F.args_list_extend_2 _ _)
  (AutoSeq1.list_extend_list_list_0 l its.toArray n b its2.toArray n2 hlong (by rw[List.size_toArray];omega) (by omega)) ⟨e,e2,?_⟩
 refine⟨.non,_,I.lset (its':=its++its2) hH e (by simp) (r.append r2) ?_,rfl,q⟩
 rw[List.length_append]
 omega
end
section
variable {prog:Program}{w:World}{A:Around}{E:Value→Shared→Prop}{s:Shared}
end
section
variable {X:Cx}
end
end L2
namespace Att
open PySem PySem.W PySem.Calls PyProof.Rows
theorem Ko {P:Params}{h:Heap}:∀(ns:List Int) (vs:List Value),WellAll P h vs (ns.map WData.int)→IntsAre vs ns:=by
 intro ns
 induction ns with
 |nil=>
  intro vs w
  rw[List.map_nil] at w
  cases w
  exact .nil
 |cons n ns ih=>
  intro vs w
  rw[List.map_cons] at w
  cases w with
  |cons a b=>
   cases a
   exact .cons _ _ (ih _ b)
theorem QU {l:OpenLaw} {n:Nat} (hn:l.most=some n) {P:Params} {h:Heap} {args:List WData} {vals:List Value}
  (hpre:l.row.toRowW.claim.pre args=true) (hwl:WellAll P h vals args) :
  ∃a vs ns,vals=[Value.ref a]∧args=[WData.list (ns.map WData.int)]∧h.get? a=some { cls:=.type "list",data:=.seq vs.toArray }∧IntsAre vs ns∧ns.length≤n:=by
 have hsh:WShape.hasAll [] args [.list .int]=true:=(pre_splitW hpre).1
 have hc:l.pre.holds [] { args:=args }=true:=(pre_splitW hpre).2
 obtain⟨d,r,rfl,h1,h2⟩:=hasAllW_cons hsh
 obtain rfl:=hasAllW_nil h2
 obtain⟨xs,rfl,h3⟩:=hasW_list h1
 obtain⟨ns,rfl⟩:=items_int h3
 have hlen:ns.length≤n:=by
  unfold OpenLaw.pre at hc
  have h4:(WTm.not (.lt (.lit (.int (n:Int))) (.len (.arg 0)))).holds [] { args:=[.list (ns.map .int)] }=true:=by
   have h4:=(holds_andW hc).1
   rw[hn] at h4
   exact h4
  have h5:=condW_of h4 (w_not (w_lt w_lit (w_len_list (w_arg rfl))))
  rw[List.length_map] at h5
  refine Nat.le_of_not_lt fun q=>?_
  have q':(n:Int)<((ns.length:Nat):Int):=by omega
  first
   |(rw[decide_eq_true q'] at h5;exact absurd h5 (by decide))
   |(simp at h5;omega)
 cases hwl with
 |cons w1 w2=>
  cases w2
  cases w1 with
  |list ho hall=>exact⟨_,_,ns,rfl,rfl,ho,Ko ns _ hall,hlen⟩
theorem Ry (l:OpenLaw)(args:List WData):l.row.toRowW.claim.post args (.bool true) args=true:=
 postW_of (r:=l.row.toRowW) (X:=(true == true))
  (show WShape.has [] (.bool true) .bool=true by first|rfl|decide|simp[WShape.has,WShape.arms,WShape.armsAll])
  (show(WTm.eq .res (.lit (.bool true))).value [] { args:=args,res:=some (.bool true),after:=args }=some (.bool (true == true)) from w_eq_bool (w_res rfl) w_lit) rfl
theorem Oz {l:OpenLaw} {n:Nat} {q:Program} {loose:List Str} {XP:(Str→Option Value)→Heap→Prop} {YP:World→Heap→Prop} {d:DefRec}
  (hn:l.most=some n) (hdf:d.params.defaults=[])
  (call:∀(w:World) (s₀ s₁:Shared) (mg mb:Str→Option Value) (fa:Addr) (o:Obj) (pm cd doc:Value) (a:Addr) (vs:List Value) (ns:List Int),
   Ground q loose [] XP w s₀ mg mb s₁.heap→YP w s₁.heap→
   s₁.heap.get? fa=some o→o.data=.func (docDef d.name d.params d.body d.scope pm cd doc)→s₁.heap.CodeRec cd d.name→mg d.name=some (.ref fa)→
   s₁.heap.get? a=some { cls:=.type "list",data:=.seq vs.toArray }→IntsAre vs ns→ns.length≤n→s₁.gens = #[]→
   codeAny (model l.prog w) callerA (.call (.ref fa) ⟨[.ref a],[]⟩) (fun r s'=>r=.ok (.ret (.bool true))∧OldK s₁.heap s'.heap∧s'.os=s₁.os∧AllBare s'.gens) s₁) :
  WalkO q loose XP YP l.row.toRowW d [] (fun f vs=>PySem.call f vs):=by
 intro w s₀ s₁ mg mb G Y fa o pm cd doc dV kV ho hd hcd hD hmg hg args vals as hpre hlay hrd hwl hlo
 obtain rfl:dV=.none:=Dflts.none hD hdf
 obtain rfl:kV=.none:=Dflts.noKw hD
 obtain⟨a,vs,ns,rfl,rfl,hobj,hints,hlen⟩:=QU hn hpre hwl
 refine enter_call (codeAny_mono (call w s₀ s₁ mg mb fa o pm cd doc a vs ns G Y ho (fd_plain hd) hcd hmg hobj hints hlen hg) fun r s' hq=>?_)
 obtain⟨rfl,h2,h3,h4⟩:=hq
 exact⟨.inl ⟨.bool true,.bool true,[],rfl,fun _=>rfl,.bool true,Ry l _,fun _=>⟨List.Pairwise.nil,fun _ hm=>(nomatch hm)⟩⟩,h2,h3,h4⟩
section
variable {prog:Program}{w:World}{A:Around}{E:Value→Shared→Prop}{s:Shared}{K:Frag}
def K3 (h:Heap):Heap:={ h with objs:=#[] }
theorem Ir (h:Heap)(b:Addr):(K3 h).get? b=none:=by
 cases e:(K3 h).get? b with
 |none=>rfl
 |some o=>exact absurd (Heap.lt_size e) (Nat.not_lt_zero _)
def ledger (h:Heap)(L d:Addr):List (Addr×Obj):=(List.range h.objs.size).filterMap fun a=>if a=L∨a=d then none else(h.get? a).map fun o=>(a,o)
theorem Iy {h:Heap}{L d a:Addr}{o:Obj}:(a,o)∈ledger h L d↔a≠L∧a≠d∧h.get? a=some o:=by
 unfold ledger
 rw[List.mem_filterMap]
 constructor
 ·rintro⟨b,_,e⟩
  split at e
  ·cases e
  ·rename_i hb
   obtain⟨o',ho,e'⟩:=Option.map_eq_some_iff.mp e
   cases e'
   exact⟨fun q=>hb (.inl q),fun q=>hb (.inr q),ho⟩
 ·rintro⟨n1,n2,ho⟩
  refine⟨a,List.mem_range.mpr (Heap.lt_size ho),?_⟩
  rw[if_neg (show ¬(a=L∨a=d) from fun q=>q.elim n1 n2),ho]<;>rfl
theorem N7 {h:Heap}{L d:Addr}{od:Obj}(hne:d≠L)(ho:h.get? d=some od):News (K3 h) L h ([]++(d,od)::ledger h L d):=by
 rintro⟨a,o⟩ hp
 rcases List.mem_cons.mp hp with e|hp
 ·cases e
  exact⟨ho,hne,Ir _ _⟩
 ·obtain⟨n1,n2,e⟩:=Iy.mp hp
  exact⟨e,n1,Ir _ _⟩
theorem Wf {h:Heap}{L:Addr}{m:Str→Option Value}(n:h.Ns L m):Fr (K3 h) L h m:=
 ⟨n,fun b o e=>(by rw[Ir] at e;cases e),Nat.zero_le _⟩
theorem DA {x C dx L:Addr} {ox:Obj} {m:Str→Option Value} {es es':List DictEntry} {n n':Nat} {name:Str} {v:Value} {Q:Unit→Shared→Prop}
  (X:K.In s.heap) (I:PySem.W.InstAt s.heap x ox C (some (dictOf es n))) (hd:ox.dict=some dx) (hL:s.heap.Ns L m) (hne:dx≠L)
  (hs:findIn K (.ref C) "__setattr__"=some (some (.builtin "object.__setattr__"))) (hp:plainOver K C=true) (ht:takerIn K C name=some none) (hh:hasDictIn K C=true) (hl:(getL name es).isSome=true)
  (e:(putL name (PyData.keyHash w.params name) (.str name (s.toks+1)) v es,putN name es n)=(es',n')) (hz:es'.length≤1000)
  (h:∀h':Heap,h'.Ns L m→h'.get? dx=some (dictOf es' n')→(∀b o,b≠dx→b≠L→s.heap.get? b=some o→h'.get? b=some o)→Q () { s with heap:=h',toks:=s.toks+2 }) :
  wpAny (model prog w) A (setAttr (.ref x) name v) Q E s:=by
 obtain⟨e1,e2⟩:=Prod.mk.inj e
 have hdx:s.heap.get? dx=some (dictOf es n):=by
  have:=I.dict
  rw[hd] at this
  exact this
 refine set_plain X I hs (osa_dict (s:={ s with toks:=s.toks+1 }) (h₀:=K3 s.heap) (L:=L) (m:=m) (od:=dictOf es n) (od':=dictOf es' n') (es:=es') (n:=n') (pre:=[]) (post:=ledger s.heap L dx)
  (Wf hL) (N7 hne hdx) X I hd hp ht hh hl (fun _ q=>nomatch q) (fun⟨_,_⟩ q=>(Iy.mp q).2.1) (by rw[putName_dict,e1,e2]) rfl hz fun h' F' N'=>?_)
 exact h h' F'.ns (N'.get (List.Mem.head _)) fun b o n1 n2 ho=>N'.get (List.Mem.tail _ (Iy.mpr ⟨n2,n1,ho⟩))
end
end Att
namespace L2
open PySem PySem.Spec PyProof.Rows
theorem L7:∀{vs:List Value} {ns:List Int},IntsAre vs ns→AJ (ns.map V.int) vs
 |_,_,.nil=>.nil
 |_,_,.cons n t h=>.cons ⟨t,rfl⟩ (L7 h)
def V1 (H:Hp):Prop:=∀b,H b=none∨∃o xs,H b=some (.frz o (.lst xs))
theorem Tt {P:Program} {w:World} {K:PySem.W.Frag} {mg mb:Str→Option Value} {CX:Ri} {k:Nat} {fa a:Addr} {fd:FuncData} {x:Str} {sp:Sp} {s₁:Shared} {vs:List Value} {ns:List Int}
  (KX:K.In s₁.heap) (hns:s₁.heap.Ns mainGlobals mg) (hb:s₁.heap.Ns builtinsNs mb) (hbb:∀x:Str,x≠"__name__"→mb x=bootBuiltins x) (hlim:s₁.heap.NoLimit) (hg:s₁.gens = #[])
  (ha:s₁.heap.get? a=some { cls:=.type "list",data:=.seq vs.toArray }) (hi:IntsAre vs ns) (hl:ns.length≤sizeLine) (hr:Room k callerA)
  (F:∀base:Heap,K.In base→base.Ns mainGlobals mg→FnOk P w K mg base CX k fa fd [x] sp) (hbind:∀(s:Shared) (u:Value),BindsTo s fd ⟨[u],[]⟩ [(x,u)])
  (hsp:∀H:Hp,V1 H→AU K H a (ns.map V.int)→sp [.ref a] H (fun v _=>v=.bl true) fun _ _ _=>False)
  (hCX:∀H e s',CX [] H s₁ (fun _ _ _=>False) e s'→False) :
  codeAny (model P w) callerA (.call (.ref fa) ⟨[.ref a],[]⟩) (fun r s'=>r=.ok (.ret (.bool true))∧OldK s₁.heap s'.heap∧s'.os=s₁.os∧AllBare s'.gens) s₁:=by
 have rv:=L7 hi
 have lenV:=hi.length
 have core:∀H:Hp,V1 H→AU K H a (ns.map V.int)→Ie P w H s₁.heap→(∀b,H b≠none→b=a)→(H a≠none→K.lookup a=none)→
   codeAny (model P w) callerA (.call (.ref fa) ⟨[.ref a],[]⟩) (fun r s'=>r=.ok (.ret (.bool true))∧OldK s₁.heap s'.heap∧s'.os=s₁.os∧AllBare s'.gens) s₁:=by
  intro H hO hS hok hA hK
  have base_of:∀{b:Addr} {o:Obj},s₁.heap.get? b=some o→H b=none→(MR s₁.heap H).get? b=some o:=fun e n=>RR e n
  have noA:∀{b:Addr} {o:Obj} {es:Array DictEntry} {ep:Nat},s₁.heap.get? b=some o→o.data=.dict es ep→H b=none:=fun{b o es ep} e d=>by
   cases q:H b with
   |none=>rfl
   |some u=>
    have e':b=a:=hA b (by rw[q];simp)
    subst e'
    rw[ha] at e;cases e
    have d':Data.seq vs.toArray _=Data.dict es ep:=d
    cases d'
  have nsK:∀{b:Addr} {m:Str→Option Value},s₁.heap.Ns b m→(MR s₁.heap H).Ns b m:=fun{b m} ⟨o,es,ep,e,d,r⟩=>⟨o,es,ep,base_of e (noA e d),d,r⟩
  have hKb:K.In (MR s₁.heap H):=fun b o e=>base_of (KX b o e) (by
   cases q:H b with
   |none=>rfl
   |some u=>
    have e':b=a:=hA b (by rw[q];simp)
    subst e'
    rw[hK (by rw[q];simp)] at e;cases e)
  have hM:Mod K mg (MR s₁.heap H):=⟨hKb,nsK hns,⟨mb,nsK hb,hbb⟩,let⟨mc,h1,h2⟩:=hlim;⟨mc,nsK h1,h2⟩⟩
  have e0:Env0 P w K mg (MR s₁.heap H) callerA [] s₁ H:=⟨rfl,hM,fun b o e=>UW e,Nat.le_of_eq (Q3 _ _),trivial,fun b hb=>absurd (show b∈([]:List Addr) from hb) (by simp),hok,.of_eq hg⟩
  refine codeAny_mono ((F _ hKb (nsK hns)).run callerA [] s₁ H ⟨[.ref a],[]⟩ [.ref a] [.ref a] _ _ hr e0 (hbind s₁ (.ref a)) (.cons rfl .nil) (hsp H hO hS)) fun r s' h=>?_
  cases r with
  |error e=>exact(hCX H e s' h).elim
  |ok fl=>
   cases fl with
   |next=>exact False.elim h
   |brk=>exact False.elim h
   |cont=>exact False.elim h
   |ret u=>
    obtain⟨v,H',os,bare,un,hok',r',q⟩:=h
    have q':v=.bl true:=q
    subst q'
    obtain rfl:u=Value.bool true:=r'
    refine⟨rfl,OldK.of_keep fun b o e=>?_,os,bare⟩
    cases q:H b with
    |none=>exact un.keep b o e q (by intro z;exact absurd (show b∈([]:List Addr) from z) (by simp)) (by simp)
    |some u=>
     rcases hO b with z|⟨ob,xs,z⟩
     ·rw[q] at z;cases z
     ·have z2:=un.frzs b ob _ z
      obtain⟨e1,_⟩:=hok b _ z
      obtain⟨e2,_⟩:=hok' b _ z2
      rw[e] at e1;cases e1
      exact e2
 cases hk:K.lookup a with
 |some o=>
  have e:=KX a o hk
  rw[ha] at e
  cases e
  refine core (fun _=>none) (fun _=>.inl rfl) (.inr ⟨_,vs.toArray,_,hk,rfl,rfl,rfl,by rw[List.size_toArray,lenV];exact hl,by simpa using rv⟩) (fun b u z=>by have z':(none:Option HO)=some u:=z;cases z') (fun b z=>absurd rfl z) fun z=>absurd rfl z
 |none=>
  refine core (fun b=>if b=a then some (.frz { cls:=.type "list",data:=.seq vs.toArray } (.lst (ns.map V.int))) else none) (fun b=>?_) (.inl (.inr ⟨{ cls:=.type "list",data:=.seq vs.toArray },if_pos rfl⟩)) (fun b u z=>?_) (fun b z=>?_) fun _=>hk
  ·by_cases hb:b=a
   ·exact .inr ⟨_,_,if_pos hb⟩
   ·exact .inl (if_neg hb)
  ·by_cases hb:b=a
   ·have z':=(if_pos hb).symm.trans z
    cases z'
    subst hb
    exact⟨ha,by rw[List.length_map];exact hl,vs,_,rv,ha⟩
   ·have z':=(if_neg hb).symm.trans z
    cases z'
  ·by_cases hb:b=a
   ·exact hb
   ·exact absurd (if_neg hb) z
end L2
namespace L2
open PySem PySem.Spec PyProof.Rows
theorem Vf {l:PySem.W.OpenLaw} {n k:Nat} {q:Program} {loose:List Str} {XP:(Str→Option Value)→Heap→Prop} {YP:World→Heap→Prop} {d:DefRec} {K:Params→PySem.W.Frag} {CX:World→Ri} {sp:World→Sp} {x:Str}
  (hn:l.most=some n) (hn2:n≤sizeLine) (hdf:d.params.defaults=[]) (hr:Room k callerA)
  (hY:∀(w:World) (h:Heap),YP w h→(K w.params).In h)
  (F:∀(w:World) (mg:Str→Option Value) (fa:Addr) (h:Heap),(K w.params).In h→h.Ns mainGlobals mg→mg d.name=some (.ref fa)→
   ∃fd:FuncData,(∀(s:Shared) (u:Value),BindsTo s fd ⟨[u],[]⟩ [(x,u)])∧
    ∀base:Heap,(K w.params).In base→base.Ns mainGlobals mg→FnOk l.prog w (K w.params) mg base (CX w) k fa fd [x] (sp w))
  (hsp:∀(w:World) (H:Hp) (a:Addr) (ns:List Int),ns.length≤n→V1 H→AU (K w.params) H a (ns.map V.int)→sp w [.ref a] H (fun v _=>v=.bl true) fun _ _ _=>False)
  (hCX:∀(w:World) (H:Hp) (s:Shared) (e:Value) (s':Shared),CX w [] H s (fun _ _ _=>False) e s'→False) :
  PySem.W.WalkO q loose XP YP l.row.toRowW d [] (fun f vs=>PySem.call f vs):=by
 refine Att.Oz hn hdf fun w s₀ s₁ mg mb fa o pm cd doc a vs ns G Y ho hd hcd hmg hobj hints hlen hg=>?_
 have KX:=hY w _ Y
 obtain⟨fd,hb,hF⟩:=F w mg fa _ KX G.T.g hmg
 exact Tt KX G.T.g G.T.b G.T.builtins G.T.nolimit hg hobj hints (Nat.le_trans hlen hn2) hr hF hb (fun H hO hS=>hsp w H a ns hlen hO hS) fun H e s'=>hCX w H s₁ e s'
end L2
namespace L2
open PySem PySem.Spec PyProof.Rows
def inClass (s:Stmt)(j:Nat):Stmt:=match s with
 | .ClassDef _ _ _ body _ _ _ _ _ _ _=>body.getD j (.Pass ⟨0,0,0,0⟩)
 |_=>.Pass ⟨0,0,0,0⟩
def Ap (s:Stmt):Arguments:=match s with
 | .FunctionDef _ a _ _ _ _ _ _ _ _=>a
 |_=>{ posonlyargs:=[],args:=[],vararg:=none,kwonlyargs:=[],kw_defaults:=[],kwarg:=none,defaults:=[] }
def Ao (s:Stmt):List Stmt:=match s with
 | .FunctionDef _ _ b _ _ _ _ _ _ _=>b
 |_=>[]
def Ai (s:Stmt):Scope:=match s with
 | .FunctionDef _ _ _ _ _ _ sc _ _ _=>sc
 |_=>{ kind:=.function,names:=[],isGenerator:=false,isCoroutine:=false }
abbrev B9:Ri:=fun _ _ _ _ _ _=>False
abbrev E0:XK:=fun _ _ _=>False
theorem QD {X:Cx}:Iz B9 X E0:=fun _ _ _ _ _ _ _ h=>h.elim
structure Fun (K:PySem.W.Frag) (x qual:Str) (st:Stmt) (f:Addr) (fd:FuncData):Prop where
 ex:∃(oc:Value) (od:Option Addr) (kV doc pm:Value) (an:Option Addr) (cdv ct:Value) (osl:Array (Option Value)),
  fd=PySem.W.fnOf x qual (Ap st) (Ao st) (Ai st) .none kV doc pm an cdv ct∧K.lookup f=some ⟨oc,od,.func fd,osl⟩∧PySem.W.codeIn K cdv qual=true
 kp:PySem.W.keepIn K (.ref f)=true
section
variable {P:Program}{w:World}{K:PySem.W.Frag}{mg:Str→Option Value}{base:Heap}
theorem Fun.ok {x qual:Str} {st:Stmt} {f:Addr} {fd:FuncData} {N ps:List Str} {k:Nat} {sp:Sp} (F:Fun K x qual st f fd) (S:FnScope N ps (Ai st)) (len:∀vs H Q E,sp vs H Q E→vs.length=ps.length)
  (hbody:∀(cdv:Value) (A:Around) (outer:List Env) (s:Shared) (H:Hp) (vs:List V) (Q:VK) (E:XK),Room k (A.deeper (envOfC qual (Ai st) s.heap.objs.size f cdv))→sp vs H Q E→
   ∃t,Pt (Cs B9 P w K mg base N qual (Ai st) f cdv A outer s H E).nox (Ao st) t∧t { nx:=fun _ H'=>Q .non H',rt:=Q } (start N vs) H):FnOk P w K mg base B9 (k+1) f fd ps sp:=by
 obtain⟨oc,od,kV,doc,pm,an,cdv,ct,osl,rfl,lk,hcd⟩:=F.ex
 refine Wn lk hcd S len fun A outer s H vs Q E hr hsp=>?_
 obtain⟨t,h,q⟩:=hbody cdv A outer s H vs Q E hr hsp
 exact⟨t,h.nox,q⟩
theorem Fun.binds {x qual:Str} {st:Stmt} {f:Addr} {fd:FuncData} {ps:List Str} (F:Fun K x qual st f fd)
  (h:∀(kV doc pm:Value) (an:Option Addr) (cdv ct:Value) (us:List Value),us.length=ps.length→bindArgs (PySem.W.fnOf x qual (Ap st) (Ao st) (Ai st) .none kV doc pm an cdv ct) ⟨us,[]⟩=pure (ps.zip us)):Binds K fd ps []:=by
 obtain⟨oc,od,kV,doc,pm,an,cdv,ct,osl,rfl,lk,hcd⟩:=F.ex
 exact .all (h kV doc pm an cdv ct)
theorem Aw {x qual:Str} {st:Stmt} {f:Addr} {oc:Value} {od an:Option Addr} {osl:Array (Option Value)} {kV doc pm cdv ct:Value} (l:K.lookup f=some ⟨oc,od,.func (PySem.W.fnOf x qual (Ap st) (Ao st) (Ai st) .none kV doc pm an cdv ct),osl⟩)
  (c:PySem.W.codeIn K cdv qual=true) (k:PySem.W.keepIn K (.ref f)=true):Fun K x qual st f (PySem.W.fnOf x qual (Ap st) (Ao st) (Ai st) .none kV doc pm an cdv ct):=⟨⟨oc,od,kV,doc,pm,an,cdv,ct,osl,rfl,l,c⟩,k⟩
end
theorem CC {A:Around}{k:Nat}(hr:Room k A):A.units+1<cLine:=Nat.lt_of_le_of_lt (Nat.add_le_add_left (by decide:1≤64) _) hr.units
section
variable {X:Cx}
theorem pv (i:Nat) {x:Str} {pos:Pos} (hN:X.N[i]?=some x:=by rfl) (hv:W3 X.env.scope x:=by first|exact Or.inl rfl|exact Or.inr (Or.inl rfl)|exact Or.inr (Or.inr rfl)) (hd:(x == ("__debug__":Str))=false:=by decide)
  (hcd:(x == ("__classdict__":Str))=false:=by decide):PE X (.Name x pos) (UT i):=VG hN hv hd hcd
end
theorem Wu {A B:Prop}(h:A):if true=true then A else B:=by
 rw[if_pos rfl]
 exact h
theorem D5 {c A B:Prop}[Decidable c](h1:c→A)(h2:¬c→B):if c then A else B:=by
 by_cases h:c
 ·rw[if_pos h]
  exact h1 h
 ·rw[if_neg h]
  exact h2 h
def Aq (H H':Hp):Prop:=∀b o,H b=some o→H' b=some o
theorem Aq.refl (H:Hp):Aq H H:=fun _ _ h=>h
theorem Aq.trans {H H1 H2:Hp}(a:Aq H H1)(b:Aq H1 H2):Aq H H2:=fun c o h=>b c o (a c o h)
theorem Aq.free {H H':Hp}(e:Aq H H'){l:Addr}(h:H' l=Option.none):H l=Option.none:=by
 cases q:H l with
 |none=>rfl
 |some o=>
  rw[e l o q] at h
  cases h
theorem Aq.seq {K:PySem.W.Frag}{H H':Hp}{a:Addr}{xs:List V}(e:Aq H H')(h:AU K H a xs):AU K H' a xs:=by
 rcases h with(h|⟨o,h⟩)|h
 ·exact .inl (.inl (e _ _ h))
 ·exact .inl (.inr ⟨o,e _ _ h⟩)
 ·exact .inr h
end L2
set_option maxHeartbeats 1000000
namespace L2
open PySem PySem.Spec PyProof.Rows
section
variable {prog:Program}{w:World}{A:Around}{env:Env}{elt target iter:Expr}{ifs:List Expr}{scope:Scope}{pos:Pos}{it acc:Value}
abbrev Vk (env:Env)(ifs:List Expr):Sem Bool:=forIn ifs true fun c r=>(if r=true then(do let ok ←isTrue c env (eval c env);pure (ForInStep.yield ok)) else pure (ForInStep.yield r))
abbrev Qo (prog:Program)(w:World)(A:Around)(env:Env)(elt target:Expr)(ifs:List Expr)(it acc:Value)(Ee:Value→Shared→Prop)(over on:Shared→Prop):Shared→Prop:=
 wpAny (model prog w) A (pyNext it) (fun|none,s1=>over s1|some v,s1=>wpAny (model prog w) A (letOwnedTupleGo target it v) (fun _ s2=>wpAny (model prog w) A (assign target env v) (fun _ s3=>wpAny (model prog w) A (Vk env ifs) (fun ok s4=>
  if ok=true then wpAny (model prog w) A (eval elt env) (fun x s5=>wpAny (model prog w) A (call (.builtin "list.append") [acc,x]) (fun _=>on) (fun _ _=>False) s5) Ee s4 else on s4) Ee s3) Ee s2) (fun _ _=>False) s1) (fun _ _=>False)
theorem OG {R:Result→Shared→Prop} {Ee:Value→Shared→Prop} (I:Nat→Shared→Prop) (hE:∀x s,Ee x s→notedBy (model prog w) A env (fun x s=>R (.error x) s) x s)
  (turn:∀n s,I n s→Qo prog w A env elt target ifs it acc Ee (R (.ok .next)) (fun s'=>∃m,m<n∧I m s') s) (n:Nat) {s:Shared} (h:I n s) :
  codeAny (model prog w) A (.compLoop (.ListComp elt [⟨target,iter,ifs,0⟩] scope pos) 0 it acc env) R s:=by
 have none':∀{Z:Value→Shared→Prop} (x:Value) (s:Shared),False→Z x s:=fun _ _ z=>z.elim
 refine codeAny_loop rfl I (fun k s1 h1=>?_) n h
 change wpAny _ A ((compTurn (.ListComp elt [⟨target,iter,ifs,0⟩] scope pos) 0 it acc env).onRaise (fun x=>do noteFrame x env;theTreesLotGoes x)) _ _ s1
 refine wpAny_noted ?_
 rw[compTurn_list]
 refine wpAny_bind (wpAny_standAt (wpAny_bind (wpAny_mono (turn k s1 h1) (fun r s2 h2=>?_) none')))
 match r,h2 with
 |none,h2=>exact wpAny_pure h2
 |some v,h2=>
  refine wpAny_bind (wpAny_mono h2 (fun _ s3 h3=>wpAny_bind (wpAny_mono h3 (fun _ s4 h4=>wpAny_bind (wpAny_mono h4 (fun ok s5 h5=>?_) hE)) hE)) none')
  match ok,h5 with
  |false,h5=>exact wpAny_pure ⟨rfl,h5⟩
  |true,h5=>exact wpAny_bind (wpAny_bind (wpAny_mono h5 (fun x s6 h6=>wpAny_bind (wpAny_mono h6 (fun _ s7 h7=>wpAny_pure (wpAny_pure ⟨rfl,h7⟩)) none')) hE))
theorem PF {R:Result→Shared→Prop}(I:Nat→Shared→Prop)(turn:∀n s,I n s→Qo prog w A env elt target ifs it acc (fun _ _=>False) (R (.ok .next)) (fun s'=>∃m,m<n∧I m s') s)(n:Nat){s:Shared}(h:I n s) :
  codeAny (model prog w) A (.compLoop (.ListComp elt [⟨target,iter,ifs,0⟩] scope pos) 0 it acc env) R s:=OG I (fun _ _ z=>z.elim) turn n h
end
def O7 (X:Cx)(ifs:List Expr)(t:TT):Prop:=
 ∀(pins:List (Addr×Obj)) (s:Shared) (σ:St) (H:Hp) (Q:Bool→Hp→Prop),Inv X pins σ H s→t σ H Q→
  wpAny (model X.prog X.w) X.A (forIn ifs true fun c r=>if r=true then do let ok ←isTrue c X.env (eval c X.env);pure (ForInStep.yield ok) else pure (ForInStep.yield r)) (TP X pins σ Q) X.xe s
def NN:TT:=fun _ H Q=>Q true H
theorem AV {X:Cx}:O7 X [] NN:=fun _ _ _ H _ I h=>wpAny_tests_nil ⟨H,I,h⟩
theorem Sw {X:Cx}{c:Expr}{t:TT}(h:PT X c t):O7 X [c] t:=fun pins s σ H Q I q=>wpAny_tests_one (h pins s σ H Q I q)
def Bq (X:Cx)(scope:Scope)(cl:List (Str×Addr))(N:List Str)(C:Addr)(s:Shared)(H:Hp)(fp:List Addr):Cx:=
 { prog:=X.prog,w:=X.w,K:=X.K,mg:=X.mg,base:=X.base,A:=X.A,N:=N,s₀:=s,H₀:=H,env:=compEnvC scope cl C X.env,outer:=X.stack,stack:=X.stack,ex:=fp,fn:=fun _=>false,calm:=X.calm,pn:=[],xe:=fun _ _=>False }
def stC (fr:List (Option Nat))(σ:St):St:=fr.map fun o=>o.bind fun i=>(σ[i]?).bind id
def Gi (fr:List (Option Nat))(g:TG)(tt:TT)(te:TE)(σ:St)(Q:VK)(J:It)(H1:Hp):Prop:=∀l,H1 l=none→∃W:Nat→Nat→St→Hp→Prop,(∃m,W 0 m (stC fr σ) (upd H1 l (.lst [])))∧∀i m σ H,W i m σ H→
 (J.stop i H∧Q (.ref l) H)∨(J.go i H∧∀x H',J.yld i H x H'→g x σ H' fun σ2 H2=>tt σ2 H2 fun b H3=>if b=true then te σ2 H3 fun v H4=>∃xs,H4 l=some (.lst xs)∧xs.length<sizeLine∧∃m',m'<m∧W (i+1) m' σ2 (upd H4 l (.lst (xs++[v])))
  else ∃m',m'<m∧W (i+1) m' σ2 H3)
def Ma (fr:List (Option Nat))(wi:TI)(g:TG)(tt:TT)(te:TE):TE:=fun σ H Q=>wi σ H (Gi fr g tt te σ Q)
def HG (XN:List Str)(xs sc:Scope)(N:List Str)(fr:List (Option Nat)):Bool:=
 decide (sc.kind=.function)&&decide (fr.length=N.length)&&(sc.names.all fun y=>!decide (y.2=.cell))&&(sc.names.all fun y=>!decide (y.2=.local)||decide (sc.names.lookup y.1=some .local)) &&
 (sc.names.all fun y=>!decide (y.2=.free)||(decide (xs.names.lookup y.1=some .cell)||decide (xs.names.lookup y.1=some .free))) &&
 ((N.zip fr).all fun p=>match p.2 with|none=>true|some i=>decide (XN[i]?=some p.1)&&decide (sc.names.lookup p.1=some .free))
def Po (cells:List (Str×Addr)):List (Str×Addr)→Prop
 |[]=>True
 |p::r=>cells.lookup p.1=some p.2∧Po cells r
theorem Po.get {cells:List (Str×Addr)}:∀{cl:List (Str×Addr)},Po cells cl→∀{x:Str} {c:Addr},cl.lookup x=some c→cells.lookup x=some c
 |[],_,_,_,h=>by cases h
 |(y,d)::r,k,x,c,h=>by
  rw[List.lookup_cons] at h
  cases e:x == y with
  |true=>
   rw[e] at h
   cases h
   rw[eq_of_beq e]
   exact k.1
  |false=>
   rw[e] at h
   exact Po.get k.2 h
def IS (cl:List (Str×Addr)):List (Str×NameKind)→Prop
 |[]=>True
 |p::r=>(p.2=.free→∃c,cl.lookup p.1=some c)∧IS cl r
theorem IS.get {cl:List (Str×Addr)}:∀{ns:List (Str×NameKind)},IS cl ns→∀y∈ns,y.2=.free→∃c,cl.lookup y.1=some c
 |[],_,_,h=>by cases h
 |p::r,k,y,h=>by
  rcases List.mem_cons.mp h with rfl|h
  ·exact k.1
  ·exact IS.get k.2 y h
theorem Gm {env:Env}:∀{names:List (Str×NameKind)} {x:Str} {k:NameKind},(names.map fun(n,k)=>if(k == NameKind.free&&env.scope.kind == .function&&env.kindOf n == some .cell) then(n,NameKind.cell) else(n,k)).lookup x=some k→
  names.lookup x=some k∨(k=.cell∧names.lookup x=some .free)
 |[],_,_,h=>by cases h
 |(n,k0)::r,x,k,h=>by
  have ih:=@Gm env r x k
  by_cases hc:(k0 == NameKind.free&&env.scope.kind == .function&&env.kindOf n == some .cell)=true
  ·simp only[List.map_cons,if_pos hc,List.lookup_cons] at h
   rw[List.lookup_cons]
   cases e:x == n with
   |true=>
    rw[e] at h
    cases h
    simp only[Bool.and_eq_true] at hc
    have:k0=.free:=by simpa using hc.1.1
    exact .inr ⟨rfl,by rw[this]⟩
   |false=>rw[e] at h;exact ih h
  ·simp only[List.map_cons,if_neg hc,List.lookup_cons] at h
   rw[List.lookup_cons]
   cases e:x == n with
   |true=>rw[e] at h;exact .inl h
   |false=>rw[e] at h;exact ih h
theorem IY {env:Env}:∀{names:List (Str×NameKind)} {x:Str},names.lookup x=some .free→
  (names.map fun(n,k)=>if(k == NameKind.free&&env.scope.kind == .function&&env.kindOf n == some .cell) then(n,NameKind.cell) else(n,k)).lookup x=some .cell∨
  (names.map fun(n,k)=>if(k == NameKind.free&&env.scope.kind == .function&&env.kindOf n == some .cell) then(n,NameKind.cell) else(n,k)).lookup x=some .free
 |[],_,h=>by cases h
 |(n,k0)::r,x,h=>by
  have ih:=@IY env r x
  rw[List.lookup_cons] at h
  by_cases hc:(k0 == NameKind.free&&env.scope.kind == .function&&env.kindOf n == some .cell)=true
  ·simp only[List.map_cons,if_pos hc,List.lookup_cons]
   cases e:x == n with
   |true=>exact .inl rfl
   |false=>rw[e] at h;exact ih h
  ·simp only[List.map_cons,if_neg hc,List.lookup_cons]
   cases e:x == n with
   |true=>rw[e] at h;exact .inr h
   |false=>rw[e] at h;exact ih h
section
variable {X:Cx}
theorem Ms (N:List Str) (fr:List (Option Nat)) {elt tg iter:Expr} {ifs:List Expr} {scope:Scope} {pos fpos:Pos} {wi:TI} {g:TG} {tt:TT} {te:TE} {cl:List (Str×Addr)}
  (hc:X.calm=true) (hi:PI X tg iter wi) (hchk:HG X.N X.env.scope scope N fr=true) (hclos:closureFor scope X.env=pure cl) (hcl:Po X.env.cells cl) (hall:IS cl scope.names)
  (hb:∀(C:Addr) (s:Shared) (H:Hp) (fp:List Addr),PG (Bq X scope cl N C s H fp) tg g∧O7 (Bq X scope cl N C s H fp) ifs tt∧PE (Bq X scope cl N C s H fp) elt te)
  (hs:∀x,foldedSetIterable iter X.env x=pure x) {pins:List (Addr×Obj)} {s:Shared} {σ:St} {H:Hp} {Q:VK} {use:Option (Value→Sem Unit)} {Qc:Value→Shared→Prop} (I:Inv X pins σ H s) (h:Ma fr wi g tt te σ H Q)
  (hfin:∀(l:Addr) (H':Hp) (s':Shared) (C:Addr),Inv X pins σ H' s'→Jc X pins H' C→(∃m,s'.heap.Ns C m)→Q (.ref l) H'→compPost (model X.prog X.w) X.A X.xe use Qc (.ref l) C (.ok .next) s') :
  wpAny (model X.prog X.w) X.A (comprehension (.ListComp elt [⟨tg,iter,ifs,0⟩] scope pos) scope X.env fpos (newList []) (firstAsync [⟨tg,iter,ifs,0⟩]) (firstIter [⟨tg,iter,ifs,0⟩] X.env) use) Qc X.xe s:=by
 simp only[HG,Bool.and_eq_true,decide_eq_true_eq,List.all_eq_true,Bool.or_eq_true,Bool.not_eq_true',decide_eq_false_iff_not] at hchk
 obtain⟨⟨⟨⟨⟨hkind,hlen⟩,hcell⟩,hnames⟩,hfree⟩,hfr⟩:=hchk
 have hnames':∀x∈scope.names,x.2=.local→scope.names.lookup x.1=some .local:=fun y hy e=>(hnames y hy).resolve_left fun z=>z e
 have hcell':∀x∈scope.names,x.2≠.cell:=fun y hy=>hcell y hy
 refine wpAny_comprehension_free (use:=use) rfl hs hclos hkind hnames' (Bo (hi pins s σ H _ I h) fun v s1 h1=>Bo h1 fun itv s2 h2=>?_)
 obtain⟨it,fp,tn,J,H2,e,I2,T,st2,f2,hQ⟩:=h2
 subst e
 refine wpAny_newObj_type (hd:=by size_fits) (wpAny_newFunctionEnv hcell' (by intro y hy;simp at hy) (fun h₁ hns hsb=>?_) hkind)
 dsimp only at hns hsb ⊢
 obtain⟨W,⟨m0,w0⟩,turn⟩:=hQ s2.heap.objs.size I2.fresh
 have I3:Inv X pins σ (upd H2 s2.heap.objs.size (.lst [])) { s2 with heap:=s2.heap.push { cls:=.type "list",data:=.seq ([]:List Value).toArray },toks:=s2.toks }:=I2.lnew (its:=[]) .nil (Nat.zero_le _)
 generalize hh3:s2.heap.push { cls:=.type "list",dict:=none,data:=.seq ([]:List Value).toArray }=h3 at hns hsb ⊢
 rw[show s2.heap.push { cls:=.type "list",data:=.seq ([]:List Value).toArray }=h3 from hh3] at I3
 generalize hH3:upd H2 s2.heap.objs.size (.lst [])=H3 at I3 w0
 generalize hl:s2.heap.objs.size=l at turn hH3 ⊢
 have hl3:l<h3.objs.size:=by rw[←hh3,←hl,Heap.size_push];exact Nat.lt_succ_self _
 generalize hs3:({ s2 with heap:=h3,toks:=s2.toks }:Shared)=s3 at I3
 have es3:s3.heap=h3:=by rw[←hs3]
 have eos:s3.os=s2.os:=by rw[←hs3]
 have egens:s3.gens=s2.gens:=by rw[←hs3]
 generalize hC:h3.objs.size=C at hns hsb ⊢
 have old:∀b o,h3.get? b=some o→h₁.get? b=some o:=fun b o e=>
  hsb.extBut b o (by rw[←hC];exact Nat.ne_of_lt (Heap.lt_size e)) (Heap.get?_push_of_some _ e)
 have f3:∀b∈fp,Jc X pins H3 b:=fun b hb=>by
  obtain⟨g0,g1⟩:=f2 b hb
  refine⟨?_,g1⟩
  rw[←hH3]
  have:b≠l:=by
   obtain⟨o,e,_⟩:=T.obj _ _ st2 b hb
   rw[←hl];exact Nat.ne_of_lt (Heap.lt_size e)
  rw[Aj this];exact g0
 have st3:tn 0 h₁:=T.keep _ _ _ st2 fun b hb o e=>old b o (by rw[←hh3];exact Heap.get?_push_of_some _ e)
 have ok:(Bq X scope cl N C s3 H3 fp).Ok:=by
  refine⟨I3.ok.mod,?_,I3.ok.glob,I3.ok.blt,?_,fun x y c e1 e2=>I3.ok.inj x y c (hcl.get e1) (hcl.get e2),fun x hx=>?_,fun x c hx=>(by cases hx),I3.ok.hd,I3.ok.frames,.inl rfl,fun b hb=>?_,fun b o e=>?_,?_,fun b o e hb=>?_,fun b hb hb2=>?_,?_,fun b hb=>?_⟩
  ·exact hkind
  ·show s3.heap.objs.size≤C
   rw[es3,hC];exact Nat.le_refl _
  ·have hx':(relabel scope X.env).names.lookup x=some .cell∨(relabel scope X.env).names.lookup x=some .free:=hx
   have:scope.names.lookup x=some .free:=by
    rcases hx' with z|z
    ·rcases Gm z with q|⟨_,q⟩
     ·exact absurd rfl (hcell' _ (PySem.mem_of_lookup q))
     ·exact q
    ·rcases Gm z with q|⟨q,_⟩
     ·exact q
     ·cases q
   exact hall.get _ (PySem.mem_of_lookup this) rfl
  ·obtain⟨g0,g1,g2,g3,g4,g5⟩:=f3 b hb
   obtain⟨o,e,_⟩:=T.obj _ _ st2 b hb
   refine⟨?_,fun x c e=>g4 x c (hcl.get e)⟩
   show b≠C
   rw[←hC]
   exact Nat.ne_of_lt (Heap.lt_size (by rw[←hh3];exact Heap.get?_push_of_some _ e))
  ·have q:=I3.bs b o e
   exact q
  ·show X.base.objs.size≤s3.heap.objs.size
   exact Nat.le_trans I3.ok.bsz I3.sz
  ·obtain⟨g0,g1,g2,g3,g4,g5⟩:=f3 b hb
   rcases g3 with z|z
   ·exact I3.ok.noex b o e z
   ·exact absurd (Nat.lt_of_lt_of_le (Heap.lt_size e) (Nat.le_trans I3.ok.bsz z)) (Nat.lt_irrefl _)
  ·obtain⟨g0,g1,g2,g3,g4,g5⟩:=f3 b hb
   rcases List.mem_cons.mp (I3.stkSub b hb2) with z|z
   ·exact g1 z
   ·exact g2 z
  ·show s3.heap.FunFrames X.base X.stack
   exact I3.stack
  ·exact I3.stkFree b hb
 have I4:Inv (Bq X scope cl N C s3 H3 fp) [] (stC fr σ) H3 { s2 with heap:=h₁,toks:=s2.toks+([]:List (Str×Value)).length }:=by
  have hk3:∀b o,s3.heap.get? b=some o→h₁.get? b=some o:=fun b o e=>old b o (by rw[←es3];exact e)
  refine⟨ok,eos.symm▸rfl,egens▸I3.bare,Un.kept hk3,⟨_,hns,fun i x v e1 e2 e3=>?_⟩,fun x c e=>?_,?_,fun x c e=>I3.freeC x c (hcl.get e),fun p hp=>(by cases hp),I3.hok.kept hk3,?_⟩
  ·
   have e1':N[i]?=some x:=e1
   have e2':(fr[i]?).map (fun o=>o.bind fun i=>(σ[i]?).bind id)=some (some v):=by
    have:(stC fr σ)[i]?=some (some v):=e2
    rw[stC,List.getElem?_map] at this
    exact this
   cases q:fr[i]? with
   |none=>rw[q] at e2';cases e2'
   |some o=>
    rw[q] at e2'
    cases o with
    |none=>cases e2'
    |some j=>
     have e2'':(σ[j]?).bind id=some v:=Option.some.inj e2'
     obtain⟨p1,p2⟩:X.N[j]?=some x∧scope.names.lookup x=some .free:=by
      have hz:(x,some j)∈N.zip fr:=by
       have:(N.zip fr)[i]?=some (x,some j):=by
        rw[List.getElem?_zip_eq_some];exact⟨e1',q⟩
       exact List.mem_of_getElem? this
      have:=hfr _ hz
      simpa using this
     have hv:X.env.scope.names.lookup x=some .cell∨X.env.scope.names.lookup x=some .free:=by
      rcases hfree _ (PySem.mem_of_lookup p2) with z|z
      ·exact absurd rfl z
      ·simpa using z
     have e3':σ[j]?=some (some v):=by
      cases q3:σ[j]? with
      |none=>rw[q3] at e2'';cases e2''
      |some w'=>rw[q3] at e2'';have:w'=some v:=e2'';rw[this]
     obtain⟨m,hn,hl'⟩:=I3.loc
     obtain⟨u,ru,lk⟩:=hl' j x v p1 e3' (.inr hv)
     refine⟨u,ru,.inr ⟨IY p2,?_⟩⟩
     rcases lk with⟨lk,_⟩|⟨_,c,ec,cc⟩
     ·have lk':X.env.scope.names.lookup x=some .local:=lk
      rcases hv with z|z<;>(rw[z] at lk';cases lk')
     ·obtain⟨c',ec'⟩:=hall.get _ (PySem.mem_of_lookup p2) rfl
      have:=hcl.get ec'
      rw[ec] at this;cases this
      obtain⟨o,ho,hd⟩:=cc
      exact⟨c,ec',o,hk3 _ _ ho,hd⟩
  ·obtain⟨v,o,ho,hd⟩:=I3.cell x c (hcl.get e)
   exact⟨v,o,hk3 _ _ ho,hd⟩
  ·show H3 C=none
   exact I3.hok.fresh (by rw[es3,hC];exact Nat.le_refl _)
  ·show(stC fr σ).length=N.length
   rw[stC,List.length_map];exact hlen
 obtain⟨hg,ht,he⟩:=hb C s3 H3 fp
 have fpc:∀{H':Hp},(∀b∈fp,H' b=none)→∀b∈fp,Jc (Bq X scope cl N C s3 H3 fp) [] H' b:=fun hn b hb=>by
  obtain⟨q1,q2⟩:=ok.exf b hb
  exact⟨hn b hb,q1,ok.exfs b hb,.inl hb,q2,fun p hp=>by cases hp⟩
 have fin:∀(σ':St) (H':Hp) (s':Shared),Inv (Bq X scope cl N C s3 H3 fp) [] σ' H' s'→Q (.ref l) H'→compPost (model X.prog X.w) X.A X.xe use Qc (.ref l) C (.ok .next) s':=fun σ' H' s' I' q=>by
  obtain⟨m,hn,_⟩:=I'.loc
  have nC:∀b o,s3.heap.get? b=some o→b≠C:=fun b o e=>by
   rw[←hC,←es3];exact Nat.ne_of_lt (Heap.lt_size e)
  have fC:H' C=none:=I'.free
  have u:=I'.base
  refine hfin l H' s' C ?_ (I3.fpOk (by rw[es3,hC];exact Nat.le_refl _) fC) ⟨m,hn⟩ q
  refine I3.call' (s':=s') (ch:=fp) I'.os ⟨fun b o e n hb hx=>u.keep b o e n hb hx,fun b o e n hb hx=>u.slot b o e n hb hx,u.free,fun b o e hx=>u.there b o e hx,u.tups,u.frzs,u.tbls⟩ (fun b o e=>I'.hok b o e) I'.bare fun b hb=>?_
  obtain⟨g0,g1,g2,g3,g4,g5⟩:=f3 b hb
  exact⟨g3,g1,g4,g5⟩
 have loop:codeAny (model X.prog X.w) X.A (.compLoop (.ListComp elt [⟨tg,iter,ifs,0⟩] scope pos) 0 (.ref it) (.ref l) (compEnvC scope cl C X.env)) (compPost (model X.prog X.w) X.A X.xe use Qc (.ref l) C)
   { s2 with heap:=h₁,toks:=s2.toks+([]:List (Str×Value)).length }:=by
  refine PF (fun n s'=>∃i σ' H',Inv (Bq X scope cl N C s3 H3 fp) [] σ' H' s'∧tn i s'.heap∧(∀b∈fp,H' b=none)∧W i n σ' H') ?_ m0 ⟨0,_,H3,I4,st3,fun b hb=>(f3 b hb).1,w0⟩
  rintro n s5 ⟨i,σ5,H5,I5,st5,fr5,w5⟩
  rcases turn i n σ5 H5 w5 with⟨stop,qn⟩|⟨go,step⟩
  ·refine Bo (T.done (Bq X scope cl N C s3 H3 fp) rfl rfl rfl hc i [] s5 σ5 H5 (fun _ _=>False) I5 (fpc fr5) st5 stop) fun r s6 ⟨hr,I6⟩=>?_
   subst hr
   exact fin σ5 H5 s6 I6 qn
  ·refine Bo (T.item (Bq X scope cl N C s3 H3 fp) rfl rfl rfl hc i [] s5 σ5 H5 (fun _ _=>False) I5 (fpc fr5) st5 go) fun r s6 ⟨u,hr,h6⟩=>?_
   subst hr
   refine Bo h6 fun _ s7 ⟨x,H7,I7,r7,y7,st7,fr7⟩=>?_
   have I7':=I7.pinned (fpc fr7) (T.obj _ _ st7)
   refine Bo (hg _ s7 σ5 H7 x u _ I7' r7 (step x H7 y7)) fun _ s8 ⟨σ8,H8,I8,q8⟩=>?_
   have again:∀{σ9:St} {H9:Hp} {s9:Shared},Inv (Bq X scope cl N C s3 H3 fp) ([]++LG fp s7.heap) σ9 H9 s9→(∃m',m'<n∧W (i+1) m' σ9 H9)→∃m,m<n∧∃i σ' H',Inv (Bq X scope cl N C s3 H3 fp) [] σ' H' s9∧tn i s9.heap∧(∀b∈fp,H' b=none)∧W i m σ' H':=fun{σ9 H9 s9} I9 n9=>by
    obtain⟨m',hm,w9⟩:=n9
    refine⟨m',hm,i+1,σ9,H9,I9.unpinned,T.keep _ _ _ st7 fun b hb o e=>(I9.pin (b,o) (List.mem_append_right _ (List.mem_append_right _ (GJ hb e)))).1,fun b hb=>?_,w9⟩
    obtain⟨o,e,d⟩:=T.obj _ _ st7 b hb
    exact(I9.pin (b,o) (List.mem_append_right _ (List.mem_append_right _ (GJ hb e)))).2.1
   refine Bo (ht _ s8 σ8 H8 _ I8 q8) fun ok s9 ⟨H9,I9,q9⟩=>?_
   cases ok with
   |false=>
    rw[if_neg Bool.false_ne_true] at q9 ⊢
    exact again I9 q9
   |true=>
    rw[if_pos rfl] at q9 ⊢
    refine Bo (he _ s9 σ8 H9 _ I9 q9) fun y sa ⟨vy,Ha,Ia,ry,qa⟩=>?_
    obtain⟨xs,hla,hsz,n9⟩:=qa
    refine Bo (Cm _ sa σ8 Ha (.ref l) [vy] (.ref l) [y] (fun _ Hb=>∃m',m'<n∧W (i+1) m' σ8 Hb) Ia rfl (.cons ry .nil) ⟨l,xs,vy,rfl,rfl,hla,hsz,n9⟩) fun _ sb ⟨_,Hb,Ib,_,qb⟩=>?_
    exact again Ib qb
 show codeAny (model X.prog X.w) X.A (.compStart (.ListComp elt [⟨tg,iter,ifs,0⟩] scope pos) 0 (.ref it) (.ref l) (compEnvC scope cl C X.env)) (compPost (model X.prog X.w) X.A X.xe use Qc (.ref l) C) { s2 with heap:=h₁,toks:=s2.toks+([]:List (Str×Value)).length }
 exact codeAny_compStart_list loop (T.self _ 0 _ _ _ st3 loop)
theorem HP (N:List Str) (fr:List (Option Nat)) {elt tg iter:Expr} {ifs:List Expr} {scope:Scope} {pos:Pos} {wi:TI} {g:TG} {tt:TT} {te:TE} {cl:List (Str×Addr)}
  (hc:X.calm=true) (hi:PI X tg iter wi) (hchk:HG X.N X.env.scope scope N fr=true) (hclos:closureFor scope X.env=pure cl) (hcl:Po X.env.cells cl) (hall:IS cl scope.names)
  (hb:∀(C:Addr) (s:Shared) (H:Hp) (fp:List Addr),PG (Bq X scope cl N C s H fp) tg g∧O7 (Bq X scope cl N C s H fp) ifs tt∧PE (Bq X scope cl N C s H fp) elt te)
  (hs:∀x,foldedSetIterable iter X.env x=pure x:=by intro _;rfl) :
  PE X (.ListComp elt [⟨tg,iter,ifs,0⟩] scope pos) (Ma fr wi g tt te):=by
 intro pins s σ H Q I h
 rw[eval_ListComp]
 refine Ms N fr hc hi hchk hclos hcl hall hb hs I h fun l H' s' C I' fC ⟨m,hn⟩ q=>?_
 refine⟨m,hn,fun h'' hs''=>⟨.ref l,H',?_,rfl,q⟩⟩
 obtain⟨f0,f1,f2,f3,f4,f5⟩:=fC
 exact I'.turned (t':=s'.toks) (fun b o hb e=>(hs''.2 b hb).trans e) f0 f1 f3 f4 f5
theorem KA (N:List Str) (fr:List (Option Nat)) {i:Nat} {x:Str} {elt tg iter:Expr} {ifs:List Expr} {scope:Scope} {cpos pos pos':Pos} {wi:TI} {g:TG} {tt:TT} {te:TE} {cl:List (Str×Addr)}
  (hN:X.N.Nodup) (hi':X.N[i]?=some x) (hx:Loc X.env.scope x)
  (hc:X.calm=true) (hi:PI X tg iter wi) (hchk:HG X.N X.env.scope scope N fr=true) (hclos:closureFor scope X.env=pure cl) (hcl:Po X.env.cells cl) (hall:IS cl scope.names)
  (hb:∀(C:Addr) (s:Shared) (H:Hp) (fp:List Addr),PG (Bq X scope cl N C s H fp) tg g∧O7 (Bq X scope cl N C s H fp) ifs tt∧PE (Bq X scope cl N C s H fp) elt te)
  (hs:∀x,foldedSetIterable iter X.env x=pure x:=by intro _;rfl)
  (hsw:swapsWith (.ListComp elt [⟨tg,iter,ifs,0⟩] scope cpos) (some (.Name x pos')) pos.line X.env=pure true:=by rfl)
  (hf:X.fn x=true∨X.env.scope.names.lookup x=some .local:=by first|exact .inl rfl|exact .inr rfl|assumption) :
  PS X (.Assign [.Name x pos'] (.ListComp elt [⟨tg,iter,ifs,0⟩] scope cpos) pos) (Um (Ma fr wi g tt te) (Cv i)):=by
 intro pins s σ H D I h
 rw[exec_Assign_arm]
 refine wpAny_bind (wpAny_standAt ?_)
 rw[show swapsWithSole [.Name x pos'] (.ListComp elt [⟨tg,iter,ifs,0⟩] scope cpos) pos.line X.env=pure true from hsw]
 refine wpAny_bind (wpAny_pure ?_)
 rw[if_pos rfl,arm_evalThenUse_ListComp]
 refine wpAny_bind (wpAny_bind ?_)
 have h1:Ma fr wi g tt te σ H fun v H1=>D.nx (σ.set i (some v)) H1:=h
 refine Ms (use:=some _) N fr hc hi hchk hclos hcl hall hb hs I h1 fun l H' s' C I' fC ⟨m,hn⟩ q=>?_
 obtain⟨f0,f1,f2,f3,f4,f5⟩:=fC
 obtain⟨o,es,ep,ho,hd,hk,hm⟩:=hn
 have Ip:Inv X (pins++[(C,o)]) σ H' s':=I'.pins_of fun p hp=>(List.mem_append.mp hp).elim (fun z=>I'.pin p (List.mem_append_right _ z)) fun z=>by
  rw[List.mem_singleton.mp z]
  exact⟨ho,f0,f1,f2,fun v e=>by rw[hd] at e;cases e⟩
 show wpAny _ _ (assignAll (.ref l) [assign (.Name x pos') X.env]) _ _ _
 rw[assignAll.eq_2]
 refine wpAny_assign_Name (IR Ip hN hi' hx (v:=.ref l) rfl (fun s2 I2=>?_) hf)
 have ho2:=(I2.pin (C,o) (List.mem_append_right _ (List.mem_append_right _ (List.mem_singleton_self _)))).1
 refine⟨m,⟨o,es,ep,ho2,hd,hk,hm⟩,fun h' hs'=>wpAny_pure (wpAny_pure ⟨_,H',?_,q⟩)⟩
 exact I2.unpinned.turned (t':=s2.toks) (fun b o hb e=>(hs'.2 b hb).trans e) f0 f1 f3 f4 f5
def I0 (sc:Scope):Bool:=
 decide (sc.kind=.function)&&(sc.names.all fun y=>!decide (y.2=.cell))&&(sc.names.all fun y=>!decide (y.2=.local)||decide (sc.names.lookup y.1=some .local))&&(sc.names.all fun y=>!decide (y.2=.free))
theorem BE (N:List Str) {elt tg iter:Expr} {ifs:List Expr} {scope:Scope} {pos:Pos} {wi:TI} {g:TG} {tt:TT} {te:TE}
  (hc:X.calm=true) (hi:PI X tg iter wi) (hchk:I0 scope=true)
  (hb:∀(C:Addr) (s:Shared) (H:Hp) (fp:List Addr),PG (Bq X scope [] N C s H fp) tg g∧O7 (Bq X scope [] N C s H fp) ifs tt∧PE (Bq X scope [] N C s H fp) elt te)
  (hs:∀x,foldedSetIterable iter X.env x=pure x:=by intro _;rfl) :
  PE X (.ListComp elt [⟨tg,iter,ifs,0⟩] scope pos) (Ma (N.map fun _=>none) wi g tt te):=by
 simp only[I0,Bool.and_eq_true,decide_eq_true_eq,List.all_eq_true,Bool.or_eq_true,Bool.not_eq_true',decide_eq_false_iff_not] at hchk
 obtain⟨⟨⟨hkind,hcell⟩,hnames⟩,hfree⟩:=hchk
 refine HP (cl:=[]) N (N.map fun _=>none) hc hi ?_ (closureFor_none fun x hx=>hfree x hx) trivial ?_ hb hs
 ·simp only[HG,Bool.and_eq_true,decide_eq_true_eq,List.all_eq_true,Bool.or_eq_true,Bool.not_eq_true',decide_eq_false_iff_not]
  refine⟨⟨⟨⟨⟨hkind,by simp⟩,hcell⟩,hnames⟩,fun y hy=>.inl (hfree y hy)⟩,fun p hp=>?_⟩
  have:p.2∈N.map fun _=>(none:Option Nat):=(List.of_mem_zip hp).2
  obtain⟨_,_,e⟩:=List.mem_map.mp this
  rw[←e]
 ·have:∀ns:List (Str×NameKind),(∀y∈ns,y.2≠.free)→IS [] ns:=by
   intro ns
   induction ns with
   |nil=>intro _;exact trivial
   |cons p r ih=>intro h;exact⟨fun e=>absurd e (h p List.mem_cons_self),ih fun y hy=>h y (List.mem_cons_of_mem _ hy)⟩
  exact this _ fun y hy=>hfree y hy
theorem R6 (N:List Str) {i:Nat} {x:Str} {elt tg iter:Expr} {ifs:List Expr} {scope:Scope} {cpos pos pos':Pos} {wi:TI} {g:TG} {tt:TT} {te:TE}
  (hN:X.N.Nodup) (hi':X.N[i]?=some x) (hx:Loc X.env.scope x)
  (hc:X.calm=true) (hi:PI X tg iter wi) (hchk:I0 scope=true)
  (hb:∀(C:Addr) (s:Shared) (H:Hp) (fp:List Addr),PG (Bq X scope [] N C s H fp) tg g∧O7 (Bq X scope [] N C s H fp) ifs tt∧PE (Bq X scope [] N C s H fp) elt te)
  (hs:∀x,foldedSetIterable iter X.env x=pure x:=by intro _;rfl)
  (hsw:swapsWith (.ListComp elt [⟨tg,iter,ifs,0⟩] scope cpos) (some (.Name x pos')) pos.line X.env=pure true:=by rfl)
  (hf:X.fn x=true∨X.env.scope.names.lookup x=some .local:=by first|exact .inl rfl|exact .inr rfl|assumption) :
  PS X (.Assign [.Name x pos'] (.ListComp elt [⟨tg,iter,ifs,0⟩] scope cpos) pos) (Um (Ma (N.map fun _=>none) wi g tt te) (Cv i)):=by
 simp only[I0,Bool.and_eq_true,decide_eq_true_eq,List.all_eq_true,Bool.or_eq_true,Bool.not_eq_true',decide_eq_false_iff_not] at hchk
 obtain⟨⟨⟨hkind,hcell⟩,hnames⟩,hfree⟩:=hchk
 refine KA (cl:=[]) N (N.map fun _=>none) hN hi' hx hc hi ?_ (closureFor_none fun x hx=>hfree x hx) trivial ?_ hb hs hsw hf
 ·simp only[HG,Bool.and_eq_true,decide_eq_true_eq,List.all_eq_true,Bool.or_eq_true,Bool.not_eq_true',decide_eq_false_iff_not]
  refine⟨⟨⟨⟨⟨hkind,by simp⟩,hcell⟩,hnames⟩,fun y hy=>.inl (hfree y hy)⟩,fun p hp=>?_⟩
  have:p.2∈N.map fun _=>(none:Option Nat):=(List.of_mem_zip hp).2
  obtain⟨_,_,e⟩:=List.mem_map.mp this
  rw[←e]
 ·have:∀ns:List (Str×NameKind),(∀y∈ns,y.2≠.free)→IS [] ns:=by
   intro ns
   induction ns with
   |nil=>intro _;exact trivial
   |cons p r ih=>intro h;exact⟨fun e=>absurd e (h p List.mem_cons_self),ih fun y hy=>h y (List.mem_cons_of_mem _ hy)⟩
  exact this _ fun y hy=>hfree y hy
end
end L2
namespace L2
open PySem PySem.Spec PyProof.Rows
def Def (P:Program)(w:World)(K:PySem.W.Frag)(mg:Str→Option Value)(base:Heap)(k:Nat)(x:Str)(ps:List Str)(sp:Sp):Prop:=
 ∃(f:Addr) (fd:FuncData),FnOk P w K mg base B9 k f fd ps sp∧mg x=some (.ref f)∧PySem.W.keepIn K (.ref f)=true∧Binds K fd ps []
section
variable {X:Cx}{k:Nat}{x:Str}{ps:List Str}{sp:Sp}{e:Expr}{es:List Expr}{t:TA}{p pos:Pos}
theorem AE (D:Def X.prog X.w X.K X.mg X.base k x ps sp) (hr:Room k X.A) (hg:Gl X x) (ha:PA X (e::es) t)
  (hdb:(x == ("__debug__":Str))=false:=by decide) (he:starEach (e::es) X.env=(false,eval e X.env)::starEach es X.env:=by rfl) (hpl:(backTo pos (starEach es X.env)).any (·.1)=false:=by rfl) :
  PE X (.Call (.Name x p) (e::es) [] pos) (Vn sp [] E0 t):=by
 obtain⟨f,fd,F,hm,hk,hb⟩:=D
 exact T8 F hr hg hm hk hb .nil QD ha hdb he hpl
end
section
variable {X:Cx}
theorem Ax {x:Str}{i:Int}{pos:Pos}(hg:Gl X x)(hm:∃t,X.mg x=some (.int i t))(hd:(x == ("__debug__":Str))=false:=by decide):PE X (.Name x pos) (tC (.int i)):=by
 obtain⟨t,hm⟩:=hm
 exact Qn hg hm ⟨_,rfl⟩ hd
theorem Hw {x:Str}{T:String}{pos:Pos}(hg:Gl X x)(hm:X.mg x=none)(hv:bootBuiltins x=some (.type T))(hn:x≠"__name__":=by decide)(hd:(x == ("__debug__":Str))=false:=by decide):PE X (.Name x pos) (tC (.ty T)):=UI hg hm hv rfl hn hd
theorem Hc {x z:Str}{pos:Pos}(hg:Gl X x)(hm:∃t,X.mg x=some (.str z t))(hd:(x == ("__debug__":Str))=false:=by decide):PE X (.Name x pos) (tC (.str z)):=by
 obtain⟨t,hm⟩:=hm
 exact Qn hg hm ⟨_,rfl⟩ hd
end
theorem A2:bootBuiltins "isinstance"=some (.builtin "isinstance"):=by decide +kernel
theorem Il:bootBuiltins "all"=some (.builtin "all"):=by decide +kernel
theorem SO:bootBuiltins "sum"=some (.builtin "sum"):=by decide +kernel
theorem HK:bootBuiltins "sorted"=some (.builtin "sorted"):=by decide +kernel
theorem Bp:bootBuiltins "len"=some (.builtin "len"):=by decide +kernel
theorem V4:bootBuiltins "max"=some (.builtin "max"):=by decide +kernel
theorem R7:bootBuiltins "int"=some (.type "int"):=by decide +kernel
theorem QL:bootBuiltins "bool"=some (.type "bool"):=by decide +kernel
theorem SA:bootBuiltins "str"=some (.type "str"):=by decide +kernel
theorem NH:bootBuiltins "list"=some (.type "list"):=by decide +kernel
theorem Fb:bootBuiltins "tuple"=some (.type "tuple"):=by decide +kernel
theorem VV:bootBuiltins "set"=some (.type "set"):=by decide +kernel
theorem Nt:bootBuiltins "enumerate"=some (.type "enumerate"):=by decide +kernel
theorem ML {t c:String}{b:Bool}(h:(if(Value.type t == Value.type c)=true then some true else if PySem.W.kitMeta c=true then(fastBuiltinMro t).map (·.contains (.type c)) else none)=some b)(K:PySem.W.Frag) :
  PySem.W.kitOne K (.type t) (.type c)=some b:=h
theorem OB (K:PySem.W.Frag):PySem.W.kitOne K (.type "int") (.type "int")=some true:=ML (by decide +kernel) K
theorem NG (K:PySem.W.Frag):PySem.W.kitOne K (.type "int") (.type "bool")=some false:=ML (by decide +kernel) K
theorem Ku (K:PySem.W.Frag):PySem.W.kitOne K (.type "tuple") (.type "tuple")=some true:=ML (by decide +kernel) K
section
variable {X:Cx}
def Wz (K:PySem.W.Frag):List V→Hp→VK→Prop:=fun xs H Q=>∃x c t b,xs=[x,.ty c]∧TyOf K H x t∧PySem.W.kitOne K t (.type c)=some b∧Q (.bl b) H
theorem Bs:Ff X (.builtin "isinstance") (Wz X.K):=by
 intro pins s σ H xs us Q I r h
 obtain⟨x,c,t,b,rfl,ty,e,q⟩:=h
 obtain⟨u,v,rfl,ru,rv⟩:=vals2 r
 have ev:v=Value.type c:=rv
 subst ev
 exact Rw I ru ty e fun tk=>⟨.bl b,H,I.tok _,rfl,q⟩
end
def Fg:V→Bool
 | .non=>true
 | .int _=>true
 | .str _=>true
 |_=>false
theorem Ml {x:V}(h:Fg x=true):Sh x=true:=by
 cases x<;>first|rfl|exact h
theorem pure_eq {x y:V}(hx:Fg x=true)(hy:Fg y=true):Uy x y=decide (x=y):=by
 cases x<;>first|exact absurd (show false=true from hx) Bool.false_ne_true|skip
 all_goals (cases y<;>first|exact absurd (show false=true from hy) Bool.false_ne_true|skip)
 ·rfl
 ·rfl
 ·rfl
 ·rfl
 ·exact Gw.symm
 ·rfl
 ·rfl
 ·rfl
 ·exact Nl.symm
theorem LQ:∀(xs ys:List V),xs.length=ys.length→xs.all Fg=true→ys.all Fg=true→
  ((List.range xs.length).all fun i=>Uy (xs.getD i .non) (ys.getD i .non))=decide (xs=ys):=by
 intro xs
 induction xs with
 |nil=>
  intro ys hl _ _
  cases ys with
  |nil=>rfl
  |cons _ _=>simp at hl
 |cons x xs ih=>
  intro ys hl hx hy
  cases ys with
  |nil=>simp at hl
  |cons y ys=>
   rw[List.all_cons,Bool.and_eq_true] at hx hy
   have q:=ih ys (by simpa using hl) hx.2 hy.2
   rw[List.length_cons,List.range_succ_eq_map,List.all_cons,List.all_map]
   have e0:((fun i=>Uy ((x::xs).getD i .non) ((y::ys).getD i .non))∘Nat.succ)=fun i=>Uy (xs.getD i .non) (ys.getD i .non):=by
    funext i;simp
   rw[e0,q]
   show(Uy x y&&decide (xs=ys))=_
   rw[pure_eq hx.1 hy.1]
   by_cases h1:x=y
   ·by_cases h2:xs=ys<;>simp[h1,h2]
   ·simp[h1]
theorem Qx {xs:List V}{us:List Value}(r:AJ xs us){j:Nat}(hj:j<us.length):∃x,xs[j]?=some x∧RelV x us[j]:=by
 have hl:=r.length
 obtain⟨u,e1,e2⟩:=r.get (i:=j) (x:=xs[j]'(by omega)) (by simp[show j<xs.length by omega])
 refine⟨xs[j]'(by omega),by simp[show j<xs.length by omega],?_⟩
 rw[List.getElem?_eq_getElem hj] at e1
 cases e1
 exact e2
section
variable {X:Cx}
theorem Tj {A:Around} {s:Shared} {a b:Addr} {xs ys:List V} {its its2:List Value} (hu:A.units<cLine) (r1:AJ xs its) (r2:AJ ys its2) (h1:s.heap.IsList a its.toArray) (h2:s.heap.IsList b its2.toArray)
  (f1:xs.all Fg=true) (f2:ys.all Fg=true):SeqAt.RcAt A s (.ref a) (.ref b) (decide (xs=ys)):=by
 have l1:=r1.length
 have l2:=r2.length
 by_cases hl:xs.length=ys.length
 ·have q:=SeqAt.RcAt.lists (A:=A) (s:=s) (e:=fun i=>Uy (xs.getD i .non) (ys.getD i .non)) h1 h2 (by simp;omega) hu (fun j g1 g2=>by
   have g1':j<its.length:=by simpa using g1
   have g2':j<its2.length:=by simpa using g2
   obtain⟨x,e1,rx⟩:=Qx r1 g1'
   obtain⟨y,e2,ry⟩:=Qx r2 g2'
   have p1:Fg x=true:=List.all_eq_true.mp f1 x (List.mem_of_getElem? e1)
   have p2:Fg y=true:=List.all_eq_true.mp f2 y (List.mem_of_getElem? e2)
   have:=Pj (A:=A.in1) (s:=s) rx ry (Ml p1) (Ml p2)
   simpa [List.getD,e1,e2] using this)
  have e:(its.toArray.size)=xs.length:=by simp;omega
  rw[e,LQ xs ys hl f1 f2] at q
  exact q
 ·have e:decide (xs=ys)=false:=decide_eq_false fun z=>hl (by rw[z])
  rw[e]
  exact SeqAt.RcAt.lists_lengths h1 h2 (by simp;omega) hu
def Xu (K:PySem.W.Frag)(neg:Bool):R2:=fun x y H Q=>∃a b xs ys,x=.ref a∧y=.ref b∧AU K H a xs∧AU K H b ys∧xs.all Fg=true∧ys.all Fg=true∧Q (.bl (if neg then !decide (xs=ys) else decide (xs=ys))) H
theorem V2 (hu:X.A.units+1<cLine):IG X (compareOp .Eq) (Xu X.K false):=by
 intro pins s σ H x y v u Q I rx ry h
 obtain⟨a,b,xs,ys,rfl,rfl,h1,h2,f1,f2,q⟩:=h
 cases rx
 cases ry
 obtain⟨its,r1,p1,_⟩:=I.list h1
 obtain⟨its2,r2,p2,_⟩:=I.list h2
 exact Tj (by omega) r1 r2 p1.isList p2.isList f1 f2 _ _ _ _ ⟨.bl _,H,I,rfl,q⟩
theorem IX (ns:List Str):(ns.map V.str).all Fg=true:=by simp[List.all_map,Function.comp_def,Fg]
end
theorem JS:∀{bs:List Bool} {us:List Value},AJ (bs.map V.bl) us→LSm.BoolsAre us bs
 |[],_,.nil=>.nil
 |b::bs,_,.cons r t=>by
  have e:_=Value.bool b:=r
  subst e
  exact .cons b (JS t)
section
variable {prog:Program}{w:World}{A:Around}{E:Value→Shared→Prop}{s:Shared}{l:Addr}{vs:List Value}
theorem Sl {bs:List Bool} {Q:Value→Shared→Prop} (hh:A.handled=none) (hl:s.heap.IsList l vs.toArray) (hb:LSm.BoolsAre vs bs)
  (h:∀h' tk,(∀b o,s.heap.get? b=some o→h'.get? b=some o)→Q (.bool (bs.all id)) { s with heap:=h',toks:=tk }):wpAny (model prog w) A (call (.builtin "all") [.ref l]) Q E s:=by
 have below:l<s.heap.objs.size:=(fun⟨_,e,_⟩=>Heap.lt_size e:s.heap.IsList l vs.toArray→_) hl
 have whole:((List.range vs.toArray.size).all fun i=>(bs[i]?).getD true)=bs.all id:=by rw[List.size_toArray,hb.length,LSm.range_all]
 exact call_all_walk (wpAny_pyIter_list hl ⟨s.heap.objs.size,[s.heap.objs.size,l],[s.heap.objs.size],vs.toArray.size,_,_,fun i=>(bs[i]?).getD true,rfl,Walks.list (A:=A.in1) hh _ l (Nat.ne_of_lt below) vs.toArray,⟨⟨_,Heap.get?_push_size _ rfl,rfl,rfl⟩,hl.push _⟩,
  (fun i v s' Q' E' hP hQ=>by
   obtain⟨b,hg,hv⟩:=hb.get i v (by simpa using hP)
   have hQ':Q' b s':=by simpa [hg] using hQ
   subst hv
   exact wpAny_truthy_bool hQ'),
  fun h' tk hk=>whole▸h h' tk (LSm.kept_iter hk)⟩)
end
section
variable {X:Cx}
theorem E8 (hc:X.calm=true):Ff X (.builtin "all") (fun xs H Q=>∃(a:Addr) (bs:List Bool),xs=[.ref a]∧AU X.K H a (bs.map V.bl)∧Q (.bl (bs.all id)) H):=by
 intro pins s σ H xs us Q I r h
 obtain⟨a,bs,rfl,h1,q⟩:=h
 obtain⟨u,rfl,ru⟩:=vals1 r
 cases ru
 obtain⟨its,r1,p1,_⟩:=I.list h1
 exact Sl (I.ok.hd hc) p1.isList (JS r1) fun h' tk hk=>⟨.bl _,H,I.kept hk,rfl,q⟩
theorem NO (hc:X.calm=true):Ff X (.builtin "sum") (fun xs H Q=>∃(a:Addr) (ns:List Int),xs=[.ref a]∧AU X.K H a (ns.map V.int)∧Q (.int ns.sum) H):=by
 intro pins s σ H xs us Q I r h
 obtain⟨a,ns,rfl,h1,q⟩:=h
 obtain⟨u,rfl,ru⟩:=vals1 r
 cases ru
 obtain⟨its,r1,p1,_⟩:=I.list h1
 have hi:=intsAre_of r1
 obtain⟨zs,hz⟩:=hi.allInts.items
 have due:preSum (numAt zs) zs.size=ns.sum:=by
  have:zs.toList.map (·.1)=ns:=by rw[←nums_intItems,←hz];exact hi.numsOf
  rw[←this,preSum_eq,List.take_of_length_le (by simp)]
 exact sum_intListG (I.ok.hd hc) (hz▸p1.isList) fun h' tk t' hk=>⟨.int ns.sum,H,I.kept hk,⟨_,by rw[due]⟩,q⟩
def WT (K:PySem.W.Frag):R2:=fun x y H Q=>∃l b xs zs,x=.ref l∧y=.ref b∧AU K H l xs∧AU K H b zs∧xs.length+zs.length≤sizeLine∧∀p,H p=none→Q (.ref p) (upd H p (.lst (xs++zs)))
theorem Nd:IG X (binaryOp .Add) (WT X.K):=by
 intro pins s σ H x y v u Q I rx ry h
 obtain⟨l,b,xs,zs,rfl,rfl,h1,h2,hz,q⟩:=h
 cases rx
 cases ry
 obtain⟨its,r,p1,_⟩:=I.list h1
 obtain⟨its2,r2,p2,_⟩:=I.list h2
 have l1:=r.length
 have l2:=r2.length
 obtain⟨⟨cls,dd,data,sl⟩,ho,hc,n,hd⟩:=id p1.isList
 obtain⟨⟨cls2,dd2,data2,sl2⟩,ho2,hc2,n2,hd2⟩:=id p2.isList
 simp only at hc hd hc2 hd2
 subst hc hd hc2 hd2
 have e:its.toArray++its2.toArray=(its++its2).toArray:=by simp
 refine concat_meets ⟨_,ho,rfl⟩ ⟨_,ho2,rfl⟩ noFill_list_add seq_list_add PySem.F.slot_list_add PySem.F.entry_list_add (PySem.F.args_list_add_2 _ _) (list_addW l b its.toArray its2.toArray n n2 dd dd2 sl sl2 (by rw[List.size_toArray,List.size_toArray];omega)) ⟨ho,ho2,?_⟩
 rw[e]
 exact⟨.ref _,_,I.lnew (t':=s.toks) (r.append r2) (by rw[List.length_append];omega),rfl,q _ I.fresh⟩
end
theorem Am {H:Hp}{p:Addr}(h:H p=none)(o:HO):Aq H (upd H p o):=fun b u q=>by rw[Aj (AD q h)];exact q
theorem A0 {H H':Hp}{p:Addr}(s:Aq H H')(h:H p=none)(o:HO):Aq H (upd H' p o):=fun b u q=>by rw[Aj (AD q h)];exact s b u q
theorem Aq.get {H H':Hp}{a:Addr}{o:HO}(s:Aq H H')(h:H a=some o):H' a=some o:=s a o h
theorem GD:1000000≤sizeLine:=by decide
theorem small {n:Nat}(h:n≤1000000):n≤sizeLine:=Nat.le_trans h GD
theorem Bd {n:Nat}(h:n<1000000):n<sizeLine:=Nat.lt_of_lt_of_le h GD
theorem QA {ns:List Int}{i:Nat}{y:V}(h:(ns.map V.int)[i]?=some y):∃z,y=V.int z∧ns[i]?=some z:=by
 rw[List.getElem?_map] at h
 cases e:ns[i]? with
 |none=>rw[e] at h;cases h
 |some z=>rw[e] at h;exact⟨z,(Option.some.inj h).symm,rfl⟩
theorem SR {ns:List Int}{i:Int}(h0:0≤i)(h1:i<ns.length):Kg (ns.map V.int) i=some (.int (ns.getD i.toNat 0)):=by
 have hk:i.toNat<ns.length:=by omega
 have ek:i=((i.toNat:Nat):Int):=by omega
 have q:Kg (ns.map V.int) ((i.toNat:Nat):Int)=some (.int (ns.getD i.toNat 0)):=HQ (by rw[List.getElem?_map,List.getElem?_eq_getElem hk];simp[List.getD,List.getElem?_eq_getElem hk])
 rw[←ek] at q
 exact q
theorem N6 {xs:List V}{i j:Int}(hi:0≤i)(hj:0≤j):Fu xs (some i) (some j)=(xs.drop i.toNat).take (j.toNat-i.toNat):=by
 unfold Fu
 rw[show i=((i.toNat:Nat):Int) by omega,show j=((j.toNat:Nat):Int) by omega,HT.Qp,HT.Qp,Int.toNat_natCast,Int.toNat_natCast]
 generalize i.toNat=a
 generalize j.toNat=b
 apply List.ext_getElem?
 intro k
 rw[List.getElem?_take,List.getElem?_take,List.getElem?_drop,List.getElem?_drop]
 by_cases ha:a≤xs.length
 ·rw[Nat.min_eq_left ha]
  by_cases hb:b≤xs.length
  ·rw[Nat.min_eq_left hb]
  ·rw[Nat.min_eq_right (by omega)]
   by_cases h1:k<xs.length-a
   ·rw[if_pos h1,if_pos (by omega)]
   ·rw[if_neg h1]
    split
    ·rw[List.getElem?_eq_none (by omega)]
    ·rfl
 ·rw[Nat.min_eq_right (show xs.length≤a by omega)]
  rw[List.getElem?_eq_none (by omega),List.getElem?_eq_none (by omega)]
  split<;>split<;>rfl
theorem TL (ns:List Int)(lo hi:Option Int):∃ms:List Int,Fu (ns.map V.int) lo hi=ms.map V.int∧ms.length≤ns.length∧∀x∈ms,x∈ns:=by
 refine⟨(ns.drop (HT.Dl (ns.map V.int).length 0 lo)).take (HT.Dl (ns.map V.int).length (ns.map V.int).length hi-HT.Dl (ns.map V.int).length 0 lo),?_,?_,fun x hx=>List.mem_of_mem_drop (List.mem_of_mem_take hx)⟩
 ·unfold Fu;rw[List.map_take,List.map_drop]
 ·rw[List.length_take,List.length_drop];omega
theorem AK {c:Bool}{A B:Prop}(h:c=false)(b:B):if c=true then A else B:=by
 subst h
 rw[if_neg Bool.false_ne_true]
 exact b
theorem Cz {c:Bool}{A B:Prop}(h:c=true)(b:A):if c=true then A else B:=by
 subst h
 rw[if_pos rfl]
 exact b
theorem dec_true {c:Prop}[Decidable c](h:decide c=true):c:=of_decide_eq_true h
theorem dec_false {c:Prop}[Decidable c](h:¬decide c=true):¬c:=fun z=>h (decide_eq_true z)
theorem Tq {t u:TT}{σ:St}{H:Hp}{Q:Bool→Hp→Prop}(c d:Bool)(ht:∀R:Bool→Hp→Prop,R c H→t σ H R)(hu:c=false→∀R:Bool→Hp→Prop,R d H→u σ H R)(q:Q (c||d) H):XM t u σ H Q:=by
 refine ht _ ?_
 cases c with
 |true=>rw[if_pos rfl];exact q
 |false=>rw[if_neg Bool.false_ne_true];exact hu rfl _ q
theorem V9 {t u:TT}{σ:St}{H:Hp}{Q:Bool→Hp→Prop}(c d:Bool)(ht:∀R:Bool→Hp→Prop,R c H→t σ H R)(hu:c=true→∀R:Bool→Hp→Prop,R d H→u σ H R)(q:Q (c&&d) H):Wx t u σ H Q:=by
 refine ht _ ?_
 cases c with
 |false=>rw[if_neg Bool.false_ne_true];exact q
 |true=>rw[if_pos rfl];exact hu rfl _ q
def N0 (J:It)(H:Hp)(xs:List V):Prop:=∀H',Aq H H'→∀i:Nat,(i<xs.length→J.go i H')∧(∀x H'',J.yld i H' x H''→H''=H'∧(i<xs.length→xs[i]?=some x))∧(xs.length≤i→J.stop i H')
theorem EE {K:PySem.W.Frag}{a:Addr}{H:Hp}{xs:List V}(h:AU K H a xs):N0 (VO K a) H xs:=fun H' s i=>
 ⟨fun hi=>⟨xs,xs[i],s.seq h,by simp[hi]⟩,fun x H'' y=>⟨y.1,fun _=>y.2 xs (s.seq h)⟩,fun hi=>⟨xs,s.seq h,hi⟩⟩
theorem comp_map {J:It} {xs:List V} {fr:List (Option Nat)} {k:Nat} {te:TE} {Q:VK} {σ:St} {H:Hp} (f:V→V) (hJ:N0 J H xs) (hn:xs.length≤1000000)
  (helt:∀(x:V) (H':Hp) (R:VK),x∈xs→Aq H H'→(∀H'',Aq H' H''→R (f x) H'')→te ((stC fr σ).set k (some x)) H' R)
  (hQ:∀l H',H l=none→Aq H H'→H' l=some (.lst (xs.map f))→Q (.ref l) H') :
  Gi fr (Cv k) NN te σ Q J H:=by
 intro l hl
 refine⟨fun i m σ' H'=>m=xs.length-i∧i≤xs.length∧(∀y,σ'.set k y=(stC fr σ).set k y)∧Aq H H'∧H' l=some (.lst ((xs.take i).map f)),⟨xs.length,by simp,Nat.zero_le _,fun _=>rfl,Am hl _,by rw[Ag,List.take_zero,List.map_nil]⟩,?_⟩
 rintro i m σ' H' ⟨rfl,hi,hσ,hs,hl'⟩
 obtain⟨h1,h2,h3⟩:=hJ H' hs i
 by_cases hlt:i<xs.length
 ·refine .inr ⟨h1 hlt,fun x H'' y=>?_⟩
  obtain⟨rfl,hx⟩:=h2 x H'' y
  have hx:=hx hlt
  show te (σ'.set k (some x)) H'' _
  rw[hσ]
  refine helt x H'' _ (List.mem_of_getElem? hx) hs fun H4 s4=>?_
  refine⟨_,s4.get hl',Bd (by rw[List.length_map,List.length_take];omega),xs.length-(i+1),by omega,rfl,hlt,fun y=>by rw[List.set_set],A0 (hs.trans s4) hl _,?_⟩
  rw[Ag,List.take_add_one,hx]
  simp
 ·have e:i=xs.length:=by omega
  subst e
  exact .inl ⟨h3 (Nat.le_refl _),hQ l H' hl hs (by rw[hl',List.take_of_length_le (Nat.le_refl _)])⟩
section
variable {X:Cx}{K:PySem.W.Frag}
theorem KH (h:X.K=K):WQ X (WK K):=by subst h;exact AH
theorem Je (h:X.K=K):Ff X (.builtin "isinstance") (Wz K):=by subst h;exact Bs
end
theorem OC {J:It} {xs:List V} {fr:List (Option Nat)} {k:Nat} {tt:TT} {te:TE} {Q:VK} {σ:St} {H:Hp} (p:V→Bool) (f:V→V) (hJ:N0 J H xs) (hn:xs.length≤1000000)
  (htest:∀(x:V) (H':Hp) (R:Bool→Hp→Prop),x∈xs→Aq H H'→R (p x) H'→tt ((stC fr σ).set k (some x)) H' R)
  (helt:∀(x:V) (H':Hp) (R:VK),x∈xs→p x=true→Aq H H'→(∀H'',Aq H' H''→R (f x) H'')→te ((stC fr σ).set k (some x)) H' R)
  (hQ:∀l H',H l=none→Aq H H'→H' l=some (.lst ((xs.filter p).map f))→Q (.ref l) H'):Gi fr (Cv k) tt te σ Q J H:=by
 intro l hl
 refine⟨fun i m σ' H'=>m=xs.length-i∧i≤xs.length∧(∀y,σ'.set k y=(stC fr σ).set k y)∧Aq H H'∧H' l=some (.lst (((xs.take i).filter p).map f)),⟨xs.length,by simp,Nat.zero_le _,fun _=>rfl,Am hl _,by rw[Ag];rfl⟩,?_⟩
 rintro i m σ' H' ⟨rfl,hi,hσ,hs,hl'⟩
 obtain⟨h1,h2,h3⟩:=hJ H' hs i
 by_cases hlt:i<xs.length
 ·refine .inr ⟨h1 hlt,fun x H'' y=>?_⟩
  obtain⟨rfl,hx⟩:=h2 x H'' y
  have hx:=hx hlt
  have hm:=List.mem_of_getElem? hx
  have et:(xs.take (i+1)).filter p=(xs.take i).filter p++(if p x=true then[x] else[]):=by
   rw[List.take_add_one,hx,List.filter_append]
   cases q:p x<;>simp[q]
  show tt (σ'.set k (some x)) H'' _
  rw[hσ]
  refine htest x H'' _ hm hs ?_
  refine D5 (fun c=>?_) (fun c=>?_)
  ·refine helt x H'' _ hm c hs fun H4 s4=>?_
   refine⟨_,s4.get hl',Bd ?_,xs.length-(i+1),by omega,rfl,hlt,fun y=>by rw[List.set_set],A0 (hs.trans s4) hl _,?_⟩
   ·rw[List.length_map]
    have a:=List.length_filter_le p (xs.take i)
    rw[List.length_take] at a
    omega
   ·rw[Ag,et,if_pos c,List.map_append];rfl
  ·exact⟨xs.length-(i+1),by omega,rfl,hlt,fun y=>by rw[List.set_set],hs,by rw[hl',et,if_neg c,List.append_nil]⟩
 ·have e:i=xs.length:=by omega
  subst e
  exact .inl ⟨h3 (Nat.le_refl _),hQ l H' hl hs (by rw[hl',List.take_of_length_le (Nat.le_refl _)])⟩
def Ok (H:Hp):V→Prop
 | .non=>True
 | .bl _=>True
 | .int _=>True
 | .str z=>z.length≤1000
 | .ref a=>(∃xs,H a=some (.lst xs))∨∃xs,H a=some (.tup xs)
 |_=>False
theorem Ok.same {H H':Hp}{v:V}(h:Ok H v)(s:Aq H H'):Ok H' v:=by
 cases v<;>first|exact h|skip
 rcases h with⟨xs,e⟩|⟨xs,e⟩
 ·exact .inl ⟨xs,s.get e⟩
 ·exact .inr ⟨xs,s.get e⟩
def HN (H:Hp):V→String
 | .non=>"NoneType"
 | .bl _=>"bool"
 | .int _=>"int"
 | .str _=>"str"
 | .ref a=>match H a with
  |some (.lst _)=>"list"
  |some (.tup _)=>"tuple"
  |_=>"?"
 |_=>"?"
theorem Ok.ty {H:Hp}{v:V}(h:Ok H v)(K:PySem.W.Frag):TyOf K H v (.type (HN H v)):=by
 cases v with
 |non=>exact .non
 |bl b=>exact .bl b
 |int i=>exact .int i
 |str z=>exact .str z
 |ref a=>
  rcases h with⟨xs,e⟩|⟨xs,e⟩
  ·have q:HN H (.ref a)="list":=by simp only[HN,e]
   rw[q];exact .lst e
  ·have q:HN H (.ref a)="tuple":=by simp only[HN,e]
   rw[q];exact .tup e
 |_=>exact h.elim
def isA (t c:String):Bool:=t == c||(t == "bool"&&c == "int")
theorem UO {t c:String}(K:PySem.W.Frag)(ht:t∈["NoneType","bool","int","str","list","tuple"])(hc:c∈["bool","int","str","list","tuple"]):PySem.W.kitOne K (.type t) (.type c)=some (isA t c):=by
 have all:∀t∈["NoneType","bool","int","str","list","tuple"],∀c∈["bool","int","str","list","tuple"],(if(Value.type t == Value.type c)=true then some true else if PySem.W.kitMeta c=true then(fastBuiltinMro t).map (·.contains (.type c)) else none)=some (isA t c):=by decide +kernel
 exact ML (all t ht c hc) K
theorem Ok.tyMem {H:Hp}{v:V}(h:Ok H v):HN H v∈["NoneType","bool","int","str","list","tuple"]:=by
 cases v with
 |ref a=>
  rcases h with⟨xs,e⟩|⟨xs,e⟩
  ·simp only[HN,e];decide
  ·simp only[HN,e];decide
 |byt _=>exact h.elim
 |flt _=>exact h.elim
 |ty _=>exact h.elim
 |_=>simp only[HN];decide
theorem Ok.kit {H:Hp}{v:V}(h:Ok H v)(K:PySem.W.Frag){c:String}(hc:c∈["bool","int","str","list","tuple"]:=by decide):PySem.W.kitOne K (.type (HN H v)) (.type c)=some (isA (HN H v) c):=UO K h.tyMem hc
theorem KI {t u:TE}{σ:St}{H:Hp}{Q:VK}(c d:Bool)(ht:∀R:VK,R (.bl c) H→t σ H R)(hu:c=true→∀R:VK,R (.bl d) H→u σ H R)(q:Q (.bl (c&&d)) H):Vl t u σ H Q:=by
 refine ht _ ⟨c,rfl,?_⟩
 cases c with
 |false=>rw[if_neg Bool.false_ne_true];exact q
 |true=>rw[if_pos rfl];exact hu rfl _ q
theorem U1 {H:Hp}{a:Addr}{xs:List V}(e:H a=some (.lst xs)):HN H (.ref a)="list":=by simp only[HN,e]
theorem UR {H:Hp}{a:Addr}{xs:List V}(e:H a=some (.tup xs)):HN H (.ref a)="tuple":=by simp only[HN,e]
theorem Ok.elim {H:Hp} {v:V} (ok:Ok H v) {C:Prop} (c1:v=.non→HN H v="NoneType"→C) (c2:∀b,v=.bl b→HN H v="bool"→C) (c3:∀i,v=.int i→HN H v="int"→C) (c4:∀z,v=.str z→z.length≤1000→HN H v="str"→C)
  (c5:∀a xs,v=.ref a→H a=some (.lst xs)→HN H v="list"→C) (c6:∀a xs,v=.ref a→H a=some (.tup xs)→HN H v="tuple"→C):C:=by
 cases v with
 |non=>exact c1 rfl rfl
 |bl b=>exact c2 b rfl rfl
 |int i=>exact c3 i rfl rfl
 |str z=>exact c4 z rfl ok rfl
 |ref a=>
  rcases ok with⟨xs,e⟩|⟨xs,e⟩
  ·exact c5 a xs rfl e (U1 e)
  ·exact c6 a xs rfl e (UR e)
 |_=>exact(show False from ok).elim
def Hr (H:Hp)(v:V):Bool:=isA (HN H v) "int" && !isA (HN H v) "bool"
theorem Rq (H:Hp)(i:Int):Hr H (.int i)=true:=by
 show(isA "int" "int" && !isA "int" "bool")=true
 decide
theorem SF {H:Hp}{v:V}(ok:Ok H v)(h:Hr H v=true):∃i,v=.int i:=by
 unfold Hr at h
 refine ok.elim (fun _ e=>?_) (fun _ _ e=>?_) (fun i e _=>⟨i,e⟩) (fun _ _ _ e=>?_) (fun _ _ _ _ e=>?_) (fun _ _ _ _ e=>?_)
 all_goals (rw[e] at h;exact absurd h (by decide))
def Jp (a b:Int):V→Bool
 | .int i=>decide (a≤i)&&decide (i≤b)
 |_=>false
theorem Va {H:Hp}{v:V}{a b:Int}(h:Hr H v=false):Jp a b v=false:=by
 cases v with
 |int i=>rw[Rq] at h;cases h
 |_=>rfl
theorem SC {H:Hp}{v:V}(ok:Ok H v)(h:isA (HN H v) "tuple"=true):∃a xs,v=.ref a∧H a=some (.tup xs):=by
 refine ok.elim (fun _ e=>?_) (fun _ _ e=>?_) (fun _ _ e=>?_) (fun _ _ _ e=>?_) (fun _ _ _ _ e=>?_) (fun a xs e1 e2 _=>⟨a,xs,e1,e2⟩)
 all_goals (rw[e] at h;exact absurd h (by decide))
theorem Wh {H:Hp}{v:V}(ok:Ok H v)(h:isA (HN H v) "str"=true):∃z,v=.str z∧z.length≤1000:=by
 refine ok.elim (fun _ e=>?_) (fun _ _ e=>?_) (fun _ _ e=>?_) (fun z e1 e2 _=>⟨z,e1,e2⟩) (fun _ _ _ _ e=>?_) (fun _ _ _ _ e=>?_)
 all_goals (rw[e] at h;exact absurd h (by decide))
end L2
namespace L2
open PySem PySem.Spec PyProof.Rows
def Wg (x:Str):It:=⟨fun i _=>i<x.cps.size,fun i H v H'=>H'=H∧∃c,x.cps[i]?=some c∧v=.str ⟨#[c]⟩,fun i _=>x.cps.size≤i⟩
theorem PD {P:Program}{w:World}{K:PySem.W.Frag}{tg:Expr}(it:Addr)(x:Str)(t:Tok):Turn P w K tg (Wg x) [it] it (fun i h=>h.IsStrIter it "str_ascii_iterator" x t i) where
 mem:=by simp
 obj:=fun i h st b hb=>by
  have e:b=it:=by simpa using hb
  subst e
  obtain⟨o,e,c,d⟩:=st
  exact⟨o,e,fun v z=>by rw[d] at z;cases z⟩
 keep:=fun i h h' st k=>by
  obtain⟨o,e,c,d⟩:=st
  exact⟨o,k it (by simp) o e,c,d⟩
 item:=by
  intro X hP hw hK hc i pins s σ H E I hf st hg
  subst hP hw hK
  have hg':i<x.cps.size:=hg
  obtain⟨f0,f1,f2,f3,f4,f5⟩:=hf it (by simp)
  refine wpAny_pyNext_ascii_item st (c:=x.cps[i]) (by simp[hg']) fun h' st' sb=>?_
  have I1:Inv X pins σ H { s with heap:=h',toks:=s.toks+1 }:=I.turned (fun b o hb e=>(sb.2 b hb).trans e) f0 f1 f3 f4 f5
  obtain⟨o,e,c,d⟩:=id st'
  exact⟨_,rfl,N4 (s:={ s with heap:=h',toks:=s.toks+1 }) e c d (by decide) ⟨.str ⟨#[x.cps[i]]⟩,H,I1,⟨_,rfl⟩,⟨rfl,_,by simp[hg'],rfl⟩,st',fun b hb=>(hf b hb).1⟩⟩
 done:=by
  intro X hP hw hK hc i pins s σ H E I hf st hg
  subst hP hw hK
  have hg':x.cps.size≤i:=hg
  obtain⟨f0,f1,f2,f3,f4,f5⟩:=hf it (by simp)
  exact wpAny_pyNext_ascii_end (I.ok.hd hc) st (by simp[hg']) fun h' eb=>⟨rfl,I.turned (t':=s.toks) (fun b o hb e=>eb b o hb e) f0 f1 f3 f4 f5⟩
 self:=fun _ _ _ _ _ st h=>wpAny_pyIter_striter_ascii st h
theorem Q0 {P:Program}{w:World}{K:PySem.W.Frag}{tg:Expr}(it:Addr)(x:Str)(t:Tok):Turn P w K tg (Wg x) [it] it (fun i h=>h.IsStrIter it "str_iterator" x t i) where
 mem:=by simp
 obj:=fun i h st b hb=>by
  have e:b=it:=by simpa using hb
  subst e
  obtain⟨o,e,c,d⟩:=st
  exact⟨o,e,fun v z=>by rw[d] at z;cases z⟩
 keep:=fun i h h' st k=>by
  obtain⟨o,e,c,d⟩:=st
  exact⟨o,k it (by simp) o e,c,d⟩
 item:=by
  intro X hP hw hK hc i pins s σ H E I hf st hg
  subst hP hw hK
  have hg':i<x.cps.size:=hg
  obtain⟨f0,f1,f2,f3,f4,f5⟩:=hf it (by simp)
  refine wpAny_pyNext_wide_item st (c:=x.cps[i]) (by simp[hg']) fun h' st' sb=>?_
  have I1:Inv X pins σ H { s with heap:=h',toks:=s.toks+1 }:=I.turned (fun b o hb e=>(sb.2 b hb).trans e) f0 f1 f3 f4 f5
  obtain⟨o,e,c,d⟩:=id st'
  exact⟨_,rfl,N4 (s:={ s with heap:=h',toks:=s.toks+1 }) e c d (by decide) ⟨.str ⟨#[x.cps[i]]⟩,H,I1,⟨_,rfl⟩,⟨rfl,_,by simp[hg'],rfl⟩,st',fun b hb=>(hf b hb).1⟩⟩
 done:=by
  intro X hP hw hK hc i pins s σ H E I hf st hg
  subst hP hw hK
  have hg':x.cps.size≤i:=hg
  obtain⟨f0,f1,f2,f3,f4,f5⟩:=hf it (by simp)
  exact wpAny_pyNext_wide_end (I.ok.hd hc) st (by simp[hg']) fun h' eb=>⟨rfl,I.turned (t':=s.toks) (fun b o hb e=>eb b o hb e) f0 f1 f3 f4 f5⟩
 self:=fun _ _ _ _ _ st h=>wpAny_pyIter_striter_wide st h
section
variable {X:Cx}{tg:Expr}
def Xv (tl:TE):TI:=fun σ H R=>tl σ H fun x H1=>∃z,x=.str z∧R (Wg z) H1
theorem Jn {l:Expr}{tl:TE}(hl:PE X l tl):PI X tg l (Xv tl):=by
 intro pins s σ H R I h
 refine Bo (hl pins s σ H _ I h) fun v s1 ⟨x,H1,I1,r1,q1⟩=>?_
 obtain⟨z,e,q⟩:=q1
 subst e
 obtain⟨t,rfl⟩:=r1
 have fp:∀b∈[s1.heap.objs.size],Jc X pins H1 b:=fun b hb=>by
  have e:b=s1.heap.objs.size:=by simpa using hb
  subst e
  exact I1.fpOk (Nat.le_refl _) (I1.hok.fresh (Nat.le_refl _))
 cases ha:z.cps.all (· < 128)
 ·exact wpAny_pyIter_wide ha ⟨s1.heap.objs.size,[s1.heap.objs.size],_,_,H1,rfl,I1.kept (t':=s1.toks) (fun b o e=>Heap.get?_push_of_some _ e),Q0 _ z t,⟨_,Heap.get?_push_size _ rfl,rfl,rfl⟩,fp,q⟩
 ·exact wpAny_pyIter_ascii ha ⟨s1.heap.objs.size,[s1.heap.objs.size],_,_,H1,rfl,I1.kept (t':=s1.toks) (fun b o e=>Heap.get?_push_of_some _ e),PD _ z t,⟨_,Heap.get?_push_size _ rfl,rfl,rfl⟩,fp,q⟩
end
theorem Vd {x:Str} {g:TG} {tb:TS} {D:Ends} {σ:St} {H:Hp} (Pv:Nat→St→Hp→Prop) (h0:Pv 0 σ H)
  (hs:∀i c σ H,x.cps[i]?=some c→Pv i σ H→g (.str ⟨#[c]⟩) σ H fun σ2 H2=>tb { D with nx:=Pv (i+1),ct:=Pv (i+1),bk:=D.nx } σ2 H2) (hd:∀σ H,Pv x.cps.size σ H→D.nx σ H) :
  ∃W:Nat→Nat→St→Hp→Prop,(∃m,W 0 m σ H)∧∀i m σ H,W i m σ H→
   ((Wg x).stop i H∧D.nx σ H)∨((Wg x).go i H∧∃N:St→Hp→Prop,(∀σ' H',N σ' H'→∃m',m'<m∧W (i+1) m' σ' H')∧∀v H',(Wg x).yld i H v H'→g v σ H' fun σ2 H2=>tb { D with nx:=N,ct:=N,bk:=D.nx } σ2 H2):=by
 refine⟨fun i m σ H=>m=x.cps.size-i∧i≤x.cps.size∧Pv i σ H,⟨x.cps.size,by simp,Nat.zero_le _,h0⟩,?_⟩
 rintro i m σ H ⟨rfl,hi,p⟩
 by_cases hlt:i<x.cps.size
 ·refine .inr ⟨hlt,Pv (i+1),fun σ' H' p'=>⟨x.cps.size-(i+1),by omega,rfl,hlt,p'⟩,fun v H' y=>?_⟩
  obtain⟨e,c,hc,e2⟩:=y
  subst e e2
  exact hs i c σ _ hc p
 ·have e:i=x.cps.size:=by omega
  subst e
  exact .inl ⟨Nat.le_refl _,hd σ H p⟩
theorem Hf {x:Str}{H:Hp}:N0 (Wg x) H (x.cps.toList.map fun c=>V.str ⟨#[c]⟩):=fun H' s i=>
 ⟨fun hi=>(by simpa using hi:i<x.cps.size),fun v H'' y=>⟨y.1,fun hi=>by
  obtain⟨_,c,hc,e⟩:=y
  rw[List.getElem?_map,Array.getElem?_toList,hc,e];rfl⟩,fun hi=>(by simpa using hi:x.cps.size≤i)⟩
section
variable {X:Cx}
def V8:V→List V→Hp→VK→Prop:=fun x vs H Q=>∃t u,x=.str t∧vs=[.str u]∧0≤Txt.find t u∧Q (.int (Txt.find t u)) H
theorem S9 (hc:X.calm=true):W4 X "str.index" V8:=by
 intro pins s σ H x vs v us Q I rx rv h
 obtain⟨t,u,rfl,rfl,h0,q⟩:=h
 obtain⟨tk,rfl⟩:=rx
 obtain⟨y,rfl,ry⟩:=rv.one
 obtain⟨tk2,rfl⟩:=ry
 refine index_or (I.ok.hd hc) (fun e=>absurd e (by omega)) fun _ _=>⟨.int (Txt.find t u),H,I.tok _,⟨_,rfl⟩,q⟩
end
end L2
namespace L2
open PySem PySem.Spec PyProof.Rows
section
variable {X:Cx}
end
end L2
namespace L2
open PySem PySem.Spec PyProof.Rows
section
variable {X:Cx}
def WA:V→Option Int→Option Int→Hp→VK→Prop:=fun x lo hi H Q=>∃z:Str,x=.str z∧z.length≤sizeLine∧Q (.str (PySem.Txt.slice z lo hi)) H
theorem KP:W0 X WA:=by
 intro pins s σ H x v vl vu lo hi sl Q I rx hs pl pu h
 obtain⟨z,rfl,hz,q⟩:=h
 obtain⟨t,rfl⟩:=rx
 refine⟨"str",_,slot_str_getitem.lookup,typeIs_str _ _ _,?_⟩
 cases pl with
 |none=>
  cases pu with
  |none=>exact wpAny_getItem_str_slice (l:=none) (u:=none) (st:=none) hs rfl (post_val_or_str ⟨Nat.le_trans (PySem.Txt.slice_le z _ _) hz,fun t' k=>⟨.str _,H,I.tok k,⟨_,rfl⟩,q⟩⟩)
  |int j tj=>exact wpAny_getItem_str_slice (l:=none) (u:=some (j,tj)) (st:=none) hs rfl (post_val_or_str ⟨Nat.le_trans (PySem.Txt.slice_le z _ _) hz,fun t' k=>⟨.str _,H,I.tok k,⟨_,rfl⟩,q⟩⟩)
 |int i ti=>
  cases pu with
  |none=>exact wpAny_getItem_str_slice (l:=some (i,ti)) (u:=none) (st:=none) hs rfl (post_val_or_str ⟨Nat.le_trans (PySem.Txt.slice_le z _ _) hz,fun t' k=>⟨.str _,H,I.tok k,⟨_,rfl⟩,q⟩⟩)
  |int j tj=>exact wpAny_getItem_str_slice (l:=some (i,ti)) (u:=some (j,tj)) (st:=none) hs rfl (post_val_or_str ⟨Nat.le_trans (PySem.Txt.slice_le z _ _) hz,fun t' k=>⟨.str _,H,I.tok k,⟨_,rfl⟩,q⟩⟩)
def WI:R2:=fun x y H Q=>∃(z:Str) (n:Int),x=.str z∧y=.int n∧n≤1000∧-1000≤n∧z.length≤1000∧Q (.str (PySem.Txt.mul z n)) H
theorem mulOk_of {z:Str}{n:Int}(h1:n≤1000)(h0:-1000≤n)(h2:z.length≤1000):MulOk z n:=by
 refine⟨?_,fun h3 _=>?_,fun h3 _=>?_⟩
 ·rw[decide_eq_false (by omega),decide_eq_false (by omega)];rfl
 ·have:(2^63-1:Int)/n≥(2^63-1:Int)/1000:=by
   have hn:0<n:=by omega
   have a:(2^63-1:Int)/1000*n≤2^63-1:=by
    have b:(2^63-1:Int)/1000*n≤(2^63-1:Int)/1000*1000:=Int.mul_le_mul_of_nonneg_left h1 (by decide)
    have c:(2^63-1:Int)/1000*1000≤2^63-1:=by decide
    omega
   exact(Int.le_ediv_iff_mul_le hn).mpr a
  have d:(1000:Int)≤(2^63-1:Int)/1000:=by decide
  omega
 ·have:z.length*n.toNat≤1000*1000:=Nat.mul_le_mul h2 (by omega)
  have e:Builtin.Str.tooLong (z.length*n.toNat)=decide (z.length*n.toNat>sizeLine):=rfl
  rw[e]
  exact decide_eq_false (by have:=GD;omega)
theorem K9:IG X (binaryOp .Mult) WI:=by
 intro pins s σ H x y v u Q I rx ry h
 obtain⟨z,n,rfl,rfl,h1,h0,h2,q⟩:=h
 obtain⟨t,rfl⟩:=rx
 obtain⟨t',rfl⟩:=ry
 exact SB.mul (mulOk_of h1 h0 h2) fun t' k=>⟨.str _,H,I.tok k,⟨_,rfl⟩,q⟩
theorem PU {ys:List Str}:∀{us:List Value},AJ (ys.map V.str) us→StrsAre us ys:=by
 induction ys with
 |nil=>intro us r;rw[List.map_nil] at r;cases r;exact .nil
 |cons n ns ih=>
  intro us r
  rw[List.map_cons] at r
  cases r with
  |cons r1 r2=>
   obtain⟨t,e⟩:=r1
   subst e
   exact .cons n t (ih r2)
def rJoin (K:PySem.W.Frag):V→List V→Hp→VK→Prop:=fun x vs H Q=>∃(a:Addr) (z:Str) (ys:List Str),x=.str z∧vs=[.ref a]∧AU K H a (ys.map V.str)∧(ys.map (·.length)).sum+ys.length*z.length≤16777216∧Q (.str (PySem.Txt.join z ys)) H
theorem QO (_:X.calm=true):W4 X "str.join" (rJoin X.K):=by
 intro pins s σ H x vs v us Q I rx rv h
 obtain⟨a,z,ys,rfl,rfl,hq,hz,q⟩:=h
 obtain⟨tk,rfl⟩:=rx
 obtain⟨y,rfl,ry⟩:=rv.one
 cases ry
 obtain⟨its,r1,p1,_⟩:=I.list hq
 exact join_list p1.isList (PU (by simpa using r1)) hz fun t' k=>⟨.str _,H,I.tok k,⟨_,rfl⟩,q⟩
end
end L2
namespace L2
open PySem PySem.Spec PyProof.Rows PySem.Builtin.Str
abbrev A6 (z:Str):List Nat:=z.cps.toList
theorem AL (z:Str):(A6 z).length=z.length:=by simp[Str.length]
theorem IT {x y:Str}(h:A6 x=A6 y):x=y:=by
 obtain⟨a⟩:=x
 obtain⟨b⟩:=y
 have:a=b:=Array.toList_inj.mp h
 rw[this]
theorem MQ (a y:Str):A6 (a++y)=A6 a++A6 y:=by
 show(a.cps++y.cps).toList=_
 simp
theorem JX (z:Str){j:Int}(h0:0≤j):A6 (PySem.Txt.slice z none (some j))=(A6 z).take j.toNat:=by
 have hc:StrLaws.sliceText z none (some j)=StrLaws.sliceText z none (some (min j z.length)):=by
  have e:strSliceIndices none (some j) 1 z.length=strSliceIndices none (some (min j z.length)) 1 z.length:=by
   unfold strSliceIndices
   have e1:(if j<0 then j+(z.length:Int) else j)=j:=if_neg (by omega)
   have e2:(if min j (z.length:Int)<0 then min j (z.length:Int)+(z.length:Int) else min j (z.length:Int))=min j z.length:=if_neg (by omega)
   simp only[e1,e2]
   have e3:max 0 (min j (z.length:Int))=max 0 (min (min j (z.length:Int)) z.length):=by omega
   rw[e3]
   simp only[if_pos (show(1:Int)>0 by decide)]
  unfold StrLaws.sliceText
  rw[e]
 show A6 (StrLaws.sliceText z none (some j))=_
 rw[hc,StrLaws.sliceText_to ⟨by omega,by rw[AL z];omega⟩]
 show((A6 z).drop 0).take (min j (z.length:Int)-0).toNat=_
 rw[List.drop_zero]
 by_cases h:j≤z.length
 ·congr 1;omega
 ·have hl:=AL z
  rw[List.take_of_length_le (by omega),List.take_of_length_le (by omega)]
theorem HV {c:Nat}:∀(xs:List (Array Nat)) (acc:Array Nat),c∈(xs.foldl (· ++ ·) acc).toList→c∈acc.toList∨∃x∈xs,c∈x.toList
 |[],acc,h=>.inl h
 |x::xs,acc,h=>by
  rcases HV xs (acc++x) h with q|⟨y,hy,q⟩
  ·rw[Array.toList_append] at q
   rcases List.mem_append.mp q with q|q
   ·exact .inl q
   ·exact .inr ⟨x,List.mem_cons_self,q⟩
  ·exact .inr ⟨y,List.mem_cons_of_mem _ hy,q⟩
theorem QK {z:Str}{n:Int}{c:Nat}(h:c∈A6 (PySem.Txt.mul z n)):c∈A6 z:=by
 unfold PySem.Txt.mul at h
 split at h
 ·cases h
 ·split at h
  ·exact h
  ·rcases HV _ _ h with q|⟨x,hx,q⟩
   ·cases q
   ·rw[List.eq_of_mem_replicate hx] at q;exact q
end L2
namespace L2
open PySem PySem.Spec PyProof.Rows
theorem Td:bootBuiltins "abs"=some (.builtin "abs"):=by decide +kernel
section
variable {X:Cx}
end
end L2
namespace L2
open PySem PySem.Spec PyProof.Rows
theorem UM (a v:Value):checkTypeCall "enumerate" ⟨[a],[("start",v)]⟩=pure ():=by kernel_rfl
theorem Uw (a v:Value):checkBuiltinCall "enumerate.__new__" ⟨[.type "enumerate",a],[("start",v)]⟩=pure ():=by kernel_rfl
theorem U0 (obj a v:Value):argsOk "object.__init__" ⟨[obj,a],[("start",v)]⟩:=by kernel_rfl
theorem UY (l:Addr)(items:Array Value)(m:Nat)(sl:Array (Option Value))(t:Tok):Meets (Builtin.«enumerate.__new__» ⟨[.type "enumerate",.ref l],[("start",.int 1 t)]⟩) fun _ R s=>
  s.heap.get? l=some { cls:=.type "list",dict:=none,data:=.seq items m,slots:=sl }∧R (.ok (.ret (.ref (s.heap.objs.size+1))))
   { s with heap:=(s.heap.push { cls:=.type "list_iterator",data:=.fields #[.ref l,.int 0 0] }).push { cls:=.type "enumerate",data:=.fields #[.none,.bool false,.ref s.heap.objs.size,rawInt 1,.none,.none] } }:=by
 refine .of_wp fun prog w A R s h=>?_
 obtain⟨hl,h⟩:=h
 have hsub:=sub_enumerate
 have hL:s.heap.IsList l items:=⟨_,hl,rfl,m,rfl⟩
 obtain⟨hp,g,d,tk,os⟩:=s
 wp_walk using PySem.AutoSeq1.wpAny_loadPart' hl
 refine wpAny_stack_any fun st=>wpAny_pure ?_
 split
 ·rename_i c _ _ _ _ _
  cases hcc:(c == Value.type "enumerate")<;>wp_walk using PySem.AutoSeq1.wpAny_loadPart' hl,wpAny_pyIter_list hL
  all_goals (refine⟨_,rfl,?_⟩;rw[Heap.size_push];exact h)
 ·wp_walk using PySem.AutoSeq1.wpAny_loadPart' hl,wpAny_pyIter_list hL
  refine⟨_,rfl,?_⟩;rw[Heap.size_push];exact h
theorem U6 {self a v:Value}:Meets (Builtin.«object.__init__» ⟨[self,a],[("start",v)]⟩) fun _ R s=>s.TypeIs self "enumerate"∧R (.ok (.ret .none)) s:=by
 have hl:=F.called_enumerate.init.lookup
 have hm:=F.called_enumerate.made
 have hne:(some "enumerate.__new__" != some "object.__new__")=true:=by decide
 refine .of_wp fun prog w A R s h=>?_
 obtain⟨hT,hq⟩:=h
 repeat (any_goals (first|wp_step|assumption))
 all_goals exact⟨_,rfl,hq⟩
section
variable {prog:Program}{w:World}{A:Around}{E:Value→Shared→Prop}{s:Shared}
theorem Rx {l:Addr} {items:Array Value} {m:Nat} {sl:Array (Option Value)} {t:Tok} {Q:Value→Shared→Prop} (hl:s.heap.get? l=some { cls:=.type "list",dict:=none,data:=.seq items m,slots:=sl })
  (h:Q (.ref (s.heap.objs.size+1)) { s with heap:=(s.heap.push { cls:=.type "list_iterator",data:=.fields #[.ref l,.int 0 0] }).push { cls:=.type "enumerate",data:=.fields #[.none,.bool false,.ref s.heap.objs.size,rawInt 1,.none,.none] } }) :
  wpAny (model prog w) A (call (.type "enumerate") [.ref l] [("start",.int 1 t)]) Q E s:=by
 have ft:=F.called_enumerate
 obtain⟨c,tl,hmro⟩:=ft.mro
 have hmade:=ft.made
 have hsub:=ft.sub
 have hct:=UM (.ref l) (.int 1 t)
 refine wpAny_call (codeAny_of_tree (wpAny_pure (?_:_∧_)))
 refine⟨Code.quiet_builtin _ (by decide +kernel),codeAny_builtin F.entry_type_call ?_⟩
 rw[Around.under_plain (weight_type_call_type "enumerate" _ _) (units_type_call_type "enumerate" _ _)]
 have h1:=ft.notType
 have h2:=ft.canCreate
 repeat (any_goals (first|wp_step|assumption))
 let s':Shared:={ s with heap:=(s.heap.push { cls:=.type "list_iterator",data:=.fields #[.ref l,.int 0 0] }).push { cls:=.type "enumerate",data:=.fields #[.none,.bool false,.ref s.heap.objs.size,rawInt 1,.none,.none] } }
 have key:codeAny (model prog w) A.in1 (.call (.builtin "enumerate.__new__") ⟨[.type "enumerate",.ref l],[("start",.int 1 t)]⟩) (fun r s1=>r=.ok (.ret (.ref (s.heap.objs.size+1)))∧s1=s') s:=
  codeAny_call_builtin ft.plain F.entry_enumerate_new (wpAny_of_eq (Uw _ _) (UY l items m sl t prog w A.in1 (fun r s1=>r=.ok (.ret (.ref (s.heap.objs.size+1)))∧s1=s') s ⟨hl,rfl,rfl⟩))
 refine codeAny_mono key fun r s₁ hr=>?_
 obtain⟨rfl,rfl⟩:=hr
 have hz:(s.heap.push { cls:=.type "list_iterator",data:=.fields #[.ref l,.int 0 0] }).objs.size=s.heap.objs.size+1:=Heap.size_push ..
 have hT:s'.TypeIs (.ref (s.heap.objs.size+1)) "enumerate":=⟨_,by rw[←hz];exact Heap.get?_push_size _ rfl,rfl⟩
 have hq:Q (.ref (s.heap.objs.size+1)) s':=h
 clear_value s'
 have hli:=ft.init.lookup
 have hbi:=ft.init.bind (.ref (s.heap.objs.size+1))
 show wpAny _ _ _ _ _ _
 repeat (any_goals (first|wp_step|assumption))
 have key2:codeAny (model prog w) A.in1 (.call (.builtin "object.__init__") ⟨[.ref (s.heap.objs.size+1),.ref l],[("start",.int 1 t)]⟩) (fun r s1=>r=.ok (.ret .none)∧s1=s') s':=
  codeAny_call_builtin ft.init.plain F.entry_object_init (ft.init.check _ _ _ _ _ _ _ _ hT (U0 _ _ _) (U6 prog w A.in1 (fun r s1=>r=.ok (.ret .none)∧s1=s') s' ⟨hT,rfl,rfl⟩))
 refine codeAny_mono key2 fun r s₂ hr=>?_
 obtain⟨rfl,rfl⟩:=hr
 show wpAny _ _ _ _ _ _
 repeat (any_goals (first|wp_step|assumption))
theorem JU (hh:A.handled=none)(it l:Addr)(hne:l≠it)(items:Array Value) :
  Draws prog w A it [it,l] (items.size+1) (fun j v=>∃i,j=i+1∧items[i]?=some v) (fun j h=>∃i,j=i+1∧h.IsListIter it l i∧h.IsList l items):=by
 have D:=Draws.list (prog:=prog) (w:=w) (A:=A) hh it l hne items
 refine⟨fun j h ⟨i,_,st⟩=>D.live i h st,fun j h h' ⟨i,e,st⟩ hk=>⟨i,e,D.frame i h h' st hk⟩,fun j s Q E hj ⟨i,e,st⟩ hQ=>?_,fun s Q E ⟨i,e,st⟩ hE=>?_⟩
 ·subst e
  exact D.item i s Q E (by omega) st fun x h' tk hx st' hs=>hQ x h' tk ⟨i,rfl,hx⟩ ⟨i+1,rfl,st'⟩ hs
 ·have e':i=items.size:=by omega
  subst e'
  exact D.done s Q E st hE
end
section
variable {X:Cx}{pins:List (Addr×Obj)}{σ:St}{H:Hp}{s:Shared}{h':Heap}
theorem Inv.turned2 {t':Nat} {e it T:Addr} {xs:List V} {us:List Value} (I:Inv X pins σ H s) (fe:Jc X pins H e) (fi:Jc X pins H it) (k:∀b o,b≠e→b≠it→s.heap.get? b=some o→h'.get? b=some o)
  (hT:s.heap.objs.size≤T) (r:AJ xs us) (hz:xs.length≤sizeLine) (ht:IsTup h' T us.toArray):Inv X pins σ (upd H T (.tup xs)) { s with heap:=h',toks:=t' }:=by
 obtain⟨e0,e1,e2,e3,e4,e5⟩:=fe
 obtain⟨i0,i1,i2,i3,i4,i5⟩:=fi
 have hn:H T=none:=I.hok.fresh hT
 have nT:∀b o,s.heap.get? b=some o→b≠T:=fun b o q=>Nat.ne_of_lt (Nat.lt_of_lt_of_le (Heap.lt_size q) hT)
 have kc:∀b o,b∉[e,it]→s.heap.get? b=some o→h'.get? b=some o:=fun b o hb q=>k b o (fun z=>hb (by simp[z])) (fun z=>hb (by simp[z])) q
 have up:∀b u,H b=some u→upd H T (.tup xs) b=some u:=fun b u q=>by rw[Aj (AD q hn)];exact q
 refine I.step (g':=s.gens) (d':=s.drawn) (ch:=[e,it]) (fun b hb=>?_) (fun b o _ _ hc q _=>kc b o hc q) (fun b o _ _ hc q _=>⟨o.slots,kc b o hc q⟩) (fun b o _ q n=>by rw[Aj (nT b o q)];exact n)
  (fun b o hc q=>⟨o,kc b o hc q⟩) (fun b ys q=>up b _ q) (fun b o u q=>up b _ q) (fun b ps q=>⟨#[],by rw[up b _ q];simp⟩) (fun m hm=>?_) (fun b u q=>?_) I.bare
 ·rcases List.mem_cons.mp hb with rfl|hb
  ·exact⟨e3,e1,e4,e5⟩
  ·rw[List.mem_singleton.mp hb];exact⟨i3,i1,i4,i5⟩
 ·obtain⟨o,es,ep,ho,hr⟩:=hm
  exact⟨o,es,ep,k _ o (Ne.symm e1) (Ne.symm i1) ho,hr⟩
 ·by_cases hb:b=T
  ·subst hb;rw[Ag] at q;cases q;exact⟨hz,us,r,ht⟩
  ·rw[Aj hb] at q
   have nn:∀c v,H c=some v→c≠e∧c≠it:=fun c v z=>⟨fun y=>(by rw[y,e0] at z;cases z),fun y=>(by rw[y,i0] at z;cases z)⟩
   refine(I.hok b u q).stay (fun c v hc z=>?_) (fun c z=>up c _ z) fun c ys z=>up c _ z
   rcases hc with y|y
   ·subst y;exact k c v (nn c u q).1 (nn c u q).2 z
   ·exact k c v (nn c _ y).1 (nn c _ y).2 z
theorem Inv.turned2n {t':Nat}{e it:Addr}(I:Inv X pins σ H s)(fe:Jc X pins H e)(fi:Jc X pins H it)(k:∀b o,b≠e→b≠it→s.heap.get? b=some o→h'.get? b=some o):Inv X pins σ H { s with heap:=h',toks:=t' }:=by
 obtain⟨e0,e1,e2,e3,e4,e5⟩:=fe
 obtain⟨i0,i1,i2,i3,i4,i5⟩:=fi
 have kc:∀b o,b∉[e,it]→s.heap.get? b=some o→h'.get? b=some o:=fun b o hb q=>k b o (fun z=>hb (by simp[z])) (fun z=>hb (by simp[z])) q
 refine I.step (g':=s.gens) (d':=s.drawn) (ch:=[e,it]) (fun b hb=>?_) (fun b o _ _ hc q _=>kc b o hc q) (fun b o _ _ hc q _=>⟨o.slots,kc b o hc q⟩) (fun b o _ q n=>n)
  (fun b o hc q=>⟨o,kc b o hc q⟩) (fun b ys q=>q) (fun b o u q=>q) (fun b ps q=>⟨#[],by rw[q];simp⟩) (fun m hm=>?_) (fun b u q=>?_) I.bare
 ·rcases List.mem_cons.mp hb with rfl|hb
  ·exact⟨e3,e1,e4,e5⟩
  ·rw[List.mem_singleton.mp hb];exact⟨i3,i1,i4,i5⟩
 ·obtain⟨o,es,ep,ho,hr⟩:=hm
  exact⟨o,es,ep,k _ o (Ne.symm e1) (Ne.symm i1) ho,hr⟩
 ·have nn:∀c v,H c=some v→c≠e∧c≠it:=fun c v z=>⟨fun y=>(by rw[y,e0] at z;cases z),fun y=>(by rw[y,i0] at z;cases z)⟩
  refine(I.hok b u q).stay (fun c v hc z=>?_) (fun c z=>z) fun c ys z=>z
  rcases hc with y|y
  ·subst y;exact k c v (nn c u q).1 (nn c u q).2 z
  ·exact k c v (nn c _ y).1 (nn c _ y).2 z
end
def WW (K:PySem.W.Frag)(a:Addr):It:=
 ⟨fun i H=>∃xs x,AU K H a xs∧xs[i]?=some x,fun i H v H'=>∃T x,H T=none∧v=.ref T∧(∀xs,AU K H a xs→xs[i]?=some x)∧H'=upd H T (.tup [.int ((i:Int)+1),x]),fun i H=>∃xs,AU K H a xs∧xs.length=i⟩
theorem RA {P:Program}{w:World}{K:PySem.W.Frag}{els:List Expr}{kk:Nat}{pp:Pos}(a e it:Addr)(hei:e≠it):Turn P w K (.Tuple els kk pp) (WW K a) [e,it] e (fun i h=>(∃old,IsEnum h e it ((i:Int)+1) old)∧h.IsListIter it a i) where
 mem:=by simp
 obj:=fun i h st b hb=>by
  obtain⟨⟨old,he⟩,o,ho,_,hd⟩:=st
  rcases List.mem_cons.mp hb with rfl|hb
  ·exact⟨_,he,fun v z=>by cases z⟩
  ·rw[List.mem_singleton.mp hb];exact⟨o,ho,fun v z=>by rw[hd] at z;cases z⟩
 keep:=fun i h h' st hk=>by
  obtain⟨⟨old,he⟩,o,ho,r⟩:=st
  exact⟨⟨old,hk e (by simp) _ he⟩,o,hk it (by simp) o ho,r⟩
 item:=fun X hP hw hK hc i pins s σ H E I hf st hg=>by
  subst hP hw hK
  obtain⟨xs,x,hq,hx⟩:=hg
  obtain⟨its,rv,p,hz⟩:=I.list hq
  obtain⟨⟨old,he⟩,hit⟩:=st
  have fe:=hf e (by simp)
  have fi:=hf it (by simp)
  obtain⟨u,hu,ru⟩:=rv.get hx
  have il:=p.isList
  have nae:a≠e:=fun z=>by
   obtain⟨o,ho,c1,_⟩:=il
   rw[z,he] at ho;cases ho;injection c1 with y;exact absurd y (by decide)
  have nai:a≠it:=fun z=>by
   obtain⟨o,ho,c1,_⟩:=il
   obtain⟨o2,ho2,c2,_⟩:=hit
   rw[z,ho2] at ho;cases ho;rw[c2] at c1;injection c1 with y;exact absurd y (by decide)
  have W:=WalksT.enumerateD (prog:=X.prog) (w:=X.w) (A:=X.A) (JU (prog:=X.prog) (w:=X.w) (A:=X.A.in1) (I.ok.hd hc) it a nai its.toArray) e hei (by simp[hei,Ne.symm nae]) (by simp)
  refine W.item (i+1) s _ E (by have:=(List.getElem?_eq_some_iff.mp hu).1;simp;omega) ⟨⟨old,by simpa using he⟩,i,rfl,hit,il⟩ fun T vals h1 tk ⟨t,y,⟨i',ei,hy⟩,ev⟩ hT htu hm hk=>?_
  refine⟨.ref T,rfl,W.go els kk pp (i+1) T _ _ E hm fun h2 st2 hk2=>?_⟩
  obtain⟨⟨old2,he2⟩,i2,e2,hit2,_⟩:=st2
  have e3:i'=i:=by omega
  have e4:i2=i+1:=by omega
  subst e3 e4 ev
  have ey:y=u:=by
   have q1:its.toArray[i']?=some u:=by simpa using hu
   exact Option.some.inj (hy.symm.trans q1)
  subst ey
  have hTw:T∉[e,it]:=W.apart _ _ _ hm
  have ht2:IsTup h2 T #[.int ((i':Int)+1) t,y]:=by
   obtain⟨o,ho,c⟩:=htu
   exact⟨o,hk2 T o hTw ho,c⟩
  refine⟨.ref T,upd H T (.tup [.int ((i':Int)+1),x]),?_,rfl,⟨T,x,I.hok.fresh hT,rfl,fun zs hzs=>(by rw[I.list_inj hzs hq];exact hx),rfl⟩,⟨⟨old2,by simpa using he2⟩,hit2⟩,fun b hb=>?_⟩
  ·have I2:=I.turned2 (h':=h2) (t':=tk) (xs:=[.int ((i':Int)+1),x]) (us:=[.int ((i':Int)+1) t,y]) fe fi (fun b o b1 b2 q=>hk2 b o (by simp[b1,b2]) (hk b o (by simp[b1,b2]) q)) hT (.cons ⟨_,rfl⟩ (.cons ru .nil)) (by show 2≤sizeLine;decide) ht2
   exact I2
  ·have nb:b≠T:=fun z=>hTw (z▸hb)
   rw[Aj nb];exact(hf b hb).1
 done:=fun X hP hw hK hc i pins s σ H E I hf st hg=>by
  subst hP hw hK
  obtain⟨xs,hq,hx⟩:=hg
  obtain⟨its,rv,p,hz⟩:=I.list hq
  obtain⟨⟨old,he⟩,hit⟩:=st
  have fe:=hf e (by simp)
  have fi:=hf it (by simp)
  have il:=p.isList
  have nae:a≠e:=fun z=>by
   obtain⟨o,ho,c1,_⟩:=il
   rw[z,he] at ho;cases ho;injection c1 with y;exact absurd y (by decide)
  have nai:a≠it:=fun z=>by
   obtain⟨o,ho,c1,_⟩:=il
   obtain⟨o2,ho2,c2,_⟩:=hit
   rw[z,ho2] at ho;cases ho;rw[c2] at c1;injection c1 with y;exact absurd y (by decide)
  have W:=WalksT.enumerateD (prog:=X.prog) (w:=X.w) (A:=X.A) (JU (prog:=X.prog) (w:=X.w) (A:=X.A.in1) (I.ok.hd hc) it a nai its.toArray) e hei (by simp[hei,Ne.symm nae]) (by simp)
  have el:its.toArray.size+1=i+1:=by rw[List.size_toArray,←rv.length,hx]
  refine W.done s _ E (by rw[el];exact⟨⟨old,by simpa using he⟩,i,rfl,hit,il⟩) fun h' tk hk=>⟨rfl,?_⟩
  exact I.turned2n (h':=h') (t':=tk) fe fi fun b o b1 b2 q=>hk b o (by simp[b1,b2]) q
 self:=fun A i s Q E st h=>by
  obtain⟨⟨old,he⟩,_⟩:=st
  exact wpAny_pyIter_enum he h
theorem P4 {M:Model} {A:Around} {E:Value→Shared→Prop} {s:Shared} {pos:Pos} {T:String} {args:List (Bool×Sem Value)} {kws:List (Option Str×Sem Value)} {Q:Value→Shared→Prop} (hp:args.any (·.1)=false) (hk:kws.any (·.1.isNone)=false)
  (h:wpAny M A (evalArgs (.type T) true args kws) (fun z sz=>wpAny M A (call (.type T) z.pos z.kw) Q E sz) E s):wpAny M A (callWith pos (.type T) [] args kws) Q E s:=by
 unfold callWith
 refine wpAny_bind (wpAny_holding (wpAny_mono h (fun z sz hz=>wpAny_bind (wpAny_standAt ?_)) fun _ _ y=>y))
 simp only[hp,hk,Bool.or_false]
 refine wpAny_bind (wpAny_pure (wpAny_bind (wpAny_mono hz (fun v sv hv=>wpAny_bind (wpAny_holding (wpAny_point (wpAny_pure hv)))) fun _ _ y=>y)))
section
variable {X:Cx}{els:List Expr}{kk:Nat}{pp:Pos}
def Wq (K:PySem.W.Frag)(ta:TA):TI:=fun σ H R=>ta σ H fun vs H1=>∃a xs,vs=[.ref a]∧AU K H1 a xs∧R (WW K a) H1
theorem Ud {l:Expr} {ta:TA} {p pos kp cp:Pos} {j} (hg:Gl X "enumerate") (hm:X.mg "enumerate"=none) (ha:PA X [l] ta)
  (he:backTo pos (starEach [l] X.env)=(false,eval l X.env)::backTo pos (starEach [] X.env):=by rfl)
  (hpl:(backTo pos (starEach [l] X.env)).any (·.1)=false:=by rfl) :
  PI X (.Tuple els kk pp) (.Call (.Name "enumerate" p) [l] [⟨some "start",.Constant (.int 1) j cp,kp⟩] pos) (Wq X.K ta):=by
 intro pins s σ H R I h
 refine wpAny_Call_Name_kw (JN I hg hm Nt (P4 hpl rfl ?_))
 have hsp:=ha pos pins s σ H _ I h
 rw[he] at hsp ⊢
 refine evalArgs_kwB rfl (Bo hsp fun us s1 ⟨vs,H1,I1,r1,q1⟩=>?_)
 refine kws_cons (wpAny_Constant_int (kws_nil ?_))
 obtain⟨a,xs,rfl,hq,q⟩:=q1
 obtain⟨u,rfl,ru⟩:=vals1 r1
 cases ru
 have I2:=I1.tok (s1.toks+1)
 obtain⟨its,rv,⟨⟨oc,od,odt,sl⟩,m,pl,c1,c2,c3⟩,hz⟩:=I2.list hq
 simp only at c1 c2 c3
 subst c1 c2 c3
 refine Rx (items:=its.toArray) (m:=m) (sl:=sl) pl ?_
 have hs:(s1.heap.push { cls:=.type "list_iterator",data:=.fields #[.ref a,.int 0 0] }).objs.size=s1.heap.objs.size+1:=Heap.size_push ..
 have hE:IsEnum ((s1.heap.push { cls:=.type "list_iterator",data:=.fields #[.ref a,.int 0 0] }).push { cls:=.type "enumerate",data:=.fields #[.none,.bool false,.ref s1.heap.objs.size,rawInt 1,.none,.none] }) (s1.heap.objs.size+1) s1.heap.objs.size 1 .none:=by
  rw[←hs];exact Heap.get?_push_size _ rfl
 refine wpAny_pyIter_enum hE ?_
 refine⟨s1.heap.objs.size+1,[s1.heap.objs.size+1,s1.heap.objs.size],_,WW X.K a,H1,rfl,I2.kept (t':=s1.toks+1) fun b o e=>Heap.get?_push_of_some _ (Heap.get?_push_of_some _ e),RA a (s1.heap.objs.size+1) s1.heap.objs.size (Nat.succ_ne_self _),⟨⟨_,hE⟩,_,Heap.get?_push_of_some _ (Heap.get?_push_size _ rfl),rfl,rfl⟩,fun b hb=>?_,q⟩
 rcases List.mem_cons.mp hb with rfl|hb
 ·exact I2.fpOk (Nat.le_succ _) (I2.hok.fresh (Nat.le_succ _))
 ·rw[List.mem_singleton.mp hb];exact I2.fpOk (Nat.le_refl _) (I2.hok.fresh (Nat.le_refl _))
end
theorem Q5 {K:PySem.W.Frag} {a:Addr} {xs:List V} {fr:List (Option Nat)} {i0 i1:Nat} {n:Nat} {te:TE} {Q:VK} {σ:St} {H:Hp} (f:Nat→V→V) (h1:H a=some (.lst xs)) (hn:xs.length≤1000000) (h2:n=2)
  (helt:∀(i:Nat) (x:V) (H':Hp) (R:VK),xs[i]?=some x→Aq H H'→(∀H'',Aq H' H''→R (f i x) H'')→te (((stC fr σ).set i0 (some (.int ((i:Int)+1)))).set i1 (some x)) H' R) (hne:i0≠i1)
  (hQ:∀l H',H l=none→Aq H H'→H' l=some (.lst ((List.range xs.length).map fun i=>f i (xs.getD i .non)))→Q (.ref l) H') :
  Gi fr (RL K n (Hs (Cv i0) (Hs (Cv i1) Sn))) NN te σ Q (WW K a) H:=by
 intro l hl
 have hal:a≠l:=AD h1 hl
 refine⟨fun i m σ' H'=>m=xs.length-i∧i≤xs.length∧(∀y z,(σ'.set i0 y).set i1 z=((stC fr σ).set i0 y).set i1 z)∧Aq H H'∧H' l=some (.lst ((List.range i).map fun i=>f i (xs.getD i .non))),⟨xs.length,by simp,Nat.zero_le _,fun _ _=>rfl,Am hl _,by rw[Ag];rfl⟩,?_⟩
 rintro i m σ' H' ⟨rfl,hi,hσ,hs,hl'⟩
 have ha':=hs.get h1
 by_cases hlt:i<xs.length
 ·refine .inr ⟨⟨xs,xs[i],AU.of ha',by simp[hlt]⟩,?_⟩
  rintro x H'' ⟨T,y,hT,rfl,hy,rfl⟩
  have hyi:=hy xs (AU.of ha')
  have st:=Am hT (.tup [.int ((i:Int)+1),y])
  subst h2
  refine⟨T,_,rfl,AY.of Ag,rfl,_,_,rfl,_,_,rfl,rfl,?_⟩
  show te ((σ'.set i0 (some (.int ((i:Int)+1)))).set i1 (some y)) _ _
  rw[hσ]
  refine helt i y _ _ hyi (hs.trans st) fun H4 s4=>?_
  refine⟨_,s4.get (st.get hl'),Bd (by rw[List.length_map,List.length_range];omega),xs.length-(i+1),by omega,rfl,hlt,fun y z=>?_,A0 ((hs.trans st).trans s4) hl _,?_⟩
  ·rw[List.set_comm _ _ (Ne.symm hne),List.set_set,List.set_set]
  ·rw[Ag,List.range_succ,List.map_append]
   simp[List.getD,hyi]
 ·have e:i=xs.length:=by omega
  subst e
  exact .inl ⟨⟨xs,AU.of ha',rfl⟩,hQ l H' hl hs hl'⟩
end L2
namespace L2
open PySem PySem.Spec PyProof.Rows
theorem HI {X:Cx}{K:PySem.W.Frag}{pos:Pos}{es:List Expr}{k:Nat}{t:Vo}{n:Nat}(hK:X.K=K)(hc:X.calm=true)(h:WC X es t)(hn:(assignEach es X.env).length=n:=by rfl)(hs:(assignEach es X.env).findIdx? (·.1)=none:=by rfl):PG X (.Tuple es k pos) (RL K n t):=by
 subst hK
 exact MN hc h hn hs
section
variable {X:Cx}
end
theorem Os {xs:List V}:Fu xs none (some (-1))=xs.dropLast:=by
 unfold Fu HT.Dl
 rw[List.dropLast_eq_take]
 simp only[List.drop_zero,Nat.sub_zero]
 rw[if_pos (by decide)]
 congr 1
 omega
end L2
namespace L2
open PySem PySem.Spec PyProof.Rows
section
variable {κ:Type}[DecidableEq κ]
def Ct (kvs:List (κ×V))(k:κ):Option V:=(kvs.find? fun kv=>decide (kv.1=k)).map (·.2)
def putK (kvs:List (κ×V))(k:κ)(v:V):List (κ×V):=
 if(kvs.any fun kv=>decide (kv.1=k))=true then kvs.map (fun kv=>if kv.1=k then(kv.1,v) else kv) else kvs++[(k,v)]
def Vm (kvs:List (κ×V))(k:κ):List (κ×V):=kvs.filter fun kv=>decide (kv.1≠k)
theorem G9 {p:κ×V}{r:List (κ×V)}{k:κ}(e:p.1=k):Ct (p::r) k=some p.2:=by simp[Ct,List.find?_cons,e]
theorem Hq {p:κ×V}{r:List (κ×V)}{k:κ}(e:¬p.1=k):Ct (p::r) k=Ct r k:=by simp[Ct,List.find?_cons,e]
theorem LF (k:κ):∀kvs:List (κ×V),(kvs.any fun kv=>decide (kv.1=k))=(Ct kvs k).isSome
 |[]=>rfl
 |p::r=>by
  rw[List.any_cons]
  by_cases e:p.1=k
  ·simp only[G9 e,decide_eq_true e,Bool.true_or,Option.isSome_some]
  ·rw[Hq e,decide_eq_false e,Bool.false_or];exact LF k r
theorem Ht (kvs:List (κ×V))(k:κ)(v:V):(putK kvs k v).length≤kvs.length+1:=by
 unfold putK
 split
 ·rw[List.length_map];omega
 ·rw[List.length_append,List.length_cons,List.length_nil];omega
theorem Jg {kvs:List (κ×V)}{k:κ}(v:V)(h:Ct kvs k=none):putK kvs k v=kvs++[(k,v)]:=by
 unfold putK
 rw[LF,h]
 exact if_neg (by decide)
theorem Gc.isSome_eq {o:Option V}{u:Option Value}(r:Gc o u):o.isSome=u.isSome:=by
 cases o with
 |none=>cases u with
  |none=>rfl
  |some _=>exact(show False from r).elim
 |some _=>cases u with
  |none=>exact(show False from r).elim
  |some _=>rfl
theorem Gc.getD {o:Option V}{u:Option Value}{d:V}{d':Value}(r:Gc o u)(rd:RelV d d'):RelV (o.getD d) (u.getD d'):=by
 cases o with
 |none=>cases u with
  |none=>exact rd
  |some _=>exact(show False from r).elim
 |some _=>cases u with
  |none=>exact(show False from r).elim
  |some _=>exact r
theorem KV.val {kvs:List (κ×V)}{vs:List (κ×Value)}(r:KV kvs vs)(k:κ):Gc (Ct kvs k) (valueAt vs k):=by
 unfold KV at r
 induction r with
 |nil=>exact True.intro
 |@cons p q ps qs h t ih=>
  obtain⟨h1,h2⟩:=h
  by_cases e:p.1=k
  ·have e':q.1=k:=h1.symm.trans e
   have b:valueAt (q::qs) k=some q.2:=by simp[valueAt,List.find?_cons,e']
   rw[G9 e,b];exact h2
  ·have e':¬q.1=k:=fun z=>e (h1.trans z)
   have b:valueAt (q::qs) k=valueAt qs k:=by simp[valueAt,List.find?_cons,e']
   rw[Hq e,b];exact ih
theorem KV.any {kvs:List (κ×V)}{vs:List (κ×Value)}(r:KV kvs vs)(k:κ):(kvs.any fun kv=>decide (kv.1=k))=vs.any fun kv=>decide (kv.1=k):=by
 unfold KV at r
 induction r with
 |nil=>rfl
 |cons h t ih=>rw[List.any_cons,List.any_cons,ih,h.1]
theorem KV.repl {kvs:List (κ×V)}{vs:List (κ×Value)}(r:KV kvs vs)(k:κ){y:V}{u:Value}(ry:RelV y u) :
  KV (kvs.map fun kv=>if kv.1=k then(kv.1,y) else kv) (vs.map fun kv=>if kv.1=k then(kv.1,u) else kv):=by
 unfold KV at r ⊢
 induction r with
 |nil=>exact .nil
 |@cons p q ps qs h t ih=>
  rw[List.map_cons,List.map_cons]
  refine .cons ?_ ih
  obtain⟨h1,h2⟩:=h
  by_cases e:p.1=k
  ·rw[if_pos e,if_pos (h1.symm.trans e)];exact⟨h1,ry⟩
  ·rw[if_neg e,if_neg (fun z=>e (h1.trans z))];exact⟨h1,h2⟩
theorem KV.put {kvs:List (κ×V)}{vs:List (κ×Value)}(r:KV kvs vs)(k:κ){y:V}{u:Value}(ry:RelV y u):KV (putK kvs k y) (stored vs k u):=by
 unfold putK stored
 rw[r.any k]
 by_cases e:(vs.any fun kv=>decide (kv.1=k))=true
 ·rw[if_pos e,if_pos e];exact r.repl k ry
 ·rw[if_neg e,if_neg e];exact Paired.snoc r ⟨rfl,ry⟩
theorem KV.drop {kvs:List (κ×V)}{vs:List (κ×Value)}(r:KV kvs vs)(k:κ):KV (Vm kvs k) (without vs k):=by
 unfold KV at r ⊢
 unfold Vm without
 induction r with
 |nil=>exact .nil
 |@cons p q ps qs h t ih=>
  obtain⟨h1,h2⟩:=h
  rw[List.filter_cons,List.filter_cons]
  by_cases e:p.1=k
  ·have a:¬decide (p.1≠k)=true:=by simp[e]
   have b:¬decide (q.1≠k)=true:=by simp[h1.symm.trans e]
   rw[if_neg a,if_neg b];exact ih
  ·have e':¬q.1=k:=fun z=>e (h1.trans z)
   have a:decide (p.1≠k)=true:=by simp[e]
   have b:decide (q.1≠k)=true:=by simp[e']
   rw[if_pos a,if_pos b];exact .cons ⟨h1,h2⟩ ih
theorem KV.length {kvs:List (κ×V)}{vs:List (κ×Value)}(r:KV kvs vs):kvs.length=vs.length:=Paired.length r
end
theorem KO {P:Program}{w:World}{k:Key}{u:Value}(r:RelV (kV k) u):(AX P w).is k u=true:=by
 cases k with
 |inl i=>obtain⟨t,e⟩:=(show ∃t,u=Value.int i t from r);subst e;exact NQ P w i t
 |inr x=>obtain⟨t,e⟩:=(show ∃t,u=Value.str x t from r);subst e;exact Og P w x t
theorem MB {P:Program}{w:World}:∀{ks:List Key} {us:List Value},AJ (ks.map kV) us→ItemsAre (AX P w) ks us
 |[],_,r=>by rw[List.map_nil] at r;cases r;exact .nil
 |k::ks,_,r=>by
  rw[List.map_cons] at r
  cases r with
  |cons h t=>exact .cons (KO h) (MB t)
abbrev KT (H:Hp):List (List Key×V)→List (List Key×Addr×Value)→Prop:=Paired fun p q=>p.1=q.1∧H q.2.1=some (.tup (p.1.map kV))∧RelV p.2 q.2.2
theorem KT.val {H:Hp}{kvs:List (List Key×V)}{xs:List (List Key×Addr×Value)}(r:KT H kvs xs)(k:List Key):Gc (Ct kvs k) ((atKey xs k).map (·.2)):=by
 induction r with
 |nil=>exact True.intro
 |@cons p q ps qs h t ih=>
  obtain⟨h1,_,h2⟩:=h
  by_cases e:p.1=k
  ·have e':q.1=k:=h1.symm.trans e
   have b:atKey (q::qs) k=some q.2:=by simp[atKey,List.find?_cons,e']
   rw[G9 e,b];exact h2
  ·have e':¬q.1=k:=fun z=>e (h1.trans z)
   have b:atKey (q::qs) k=atKey qs k:=by simp[atKey,List.find?_cons,e']
   rw[Hq e,b];exact ih
theorem KT.repl {H:Hp}{kvs:List (List Key×V)}{xs:List (List Key×Addr×Value)}(r:KT H kvs xs)(k:List Key){y:V}{u:Value}(ry:RelV y u) :
  KT H (kvs.map fun kv=>if kv.1=k then(kv.1,y) else kv) (xs.map (putAt k u)):=by
 induction r with
 |nil=>exact .nil
 |@cons p q ps qs h t ih=>
  rw[List.map_cons,List.map_cons]
  refine .cons ?_ ih
  obtain⟨h1,h2,h3⟩:=h
  unfold putAt
  by_cases e:p.1=k
  ·rw[if_pos e,if_pos (h1.symm.trans e)];exact⟨h1,h2,ry⟩
  ·rw[if_neg e,if_neg (fun z=>e (h1.trans z))];exact⟨h1,h2,h3⟩
theorem KT.put {H:Hp}{kvs:List (List Key×V)}{xs:List (List Key×Addr×Value)}(r:KT H kvs xs)(k:List Key){b:Addr}{y:V}{u:Value}(hb:H b=some (.tup (k.map kV)))(ry:RelV y u) :
  KT H (putK kvs k y) (storedH xs k b u):=by
 have e:(kvs.any fun kv=>decide (kv.1=k))=(atKey xs k).isSome:=by
  rw[LF,(r.val k).isSome_eq,Option.isSome_map]
 unfold putK storedH
 rw[e]
 by_cases q:(atKey xs k).isSome=true
 ·rw[if_pos q,if_pos q];exact r.repl k ry
 ·rw[if_neg q,if_neg q];exact Paired.snoc r ⟨rfl,hb,ry⟩
theorem KT.keeps {H H':Hp}{kvs:List (List Key×V)}{xs:List (List Key×Addr×Value)}(r:KT H kvs xs)(ht:∀b ys,H b=some (.tup ys)→H' b=some (.tup ys)):KT H' kvs xs:=
 Paired.mapP r fun _ _ z=>⟨z.1,ht _ _ z.2.1,z.2.2⟩
section
variable {P:Program}{w:World}{H:Hp}{h:Heap}{a:Addr}
theorem Vt {u:HO}(ok:Ie P w H h)(e:Rd H a u):Bj P w H h a u:=e.ok ok
theorem Ly {kvs:List (Key×V)}(ok:Ie P w H h)(e:Rd H a (.dK kvs)):kvs.length≤sizeLine∧(a == sysModules)=false∧∃vs,KV kvs vs∧h.DictOf (AX P w) a vs:=
 show Bj P w H h a (.dK kvs) from Vt ok e
theorem TY {kvs:List (Key×V)}(ok:Ie P w H h)(e:H a=some (.dK kvs)):kvs.length≤sizeLine∧(a == sysModules)=false∧∃vs,KV kvs vs∧h.DictOf (AX P w) a vs:=Ly ok (.inl e)
theorem JQ {ks:List Key}(ok:Ie P w H h)(e:H a=some (.tup (ks.map kV))):(tupleKind (AX P w)).is h ks a:=by
 obtain⟨_,its,r,o,h1,h2,n,h3⟩:=(show Bj P w H h a (.tup (ks.map kV)) from ok a _ e)
 exact⟨o,its.toArray,n,h1,h2,h3,by simpa using MB r⟩
theorem Ld {kvs:List (List Key×V)}(ok:Ie P w H h)(e:Rd H a (.dT kvs)):kvs.length≤sizeLine∧(a == sysModules)=false∧
  ∃xs,KT H kvs xs∧h.DictOfH (tupleKind (AX P w)) a xs:=by
 obtain⟨z,y,xs,r,o,es,ep,h1,h2,h3,h4,h5⟩:=(show Bj P w H h a (.dT kvs) from Vt ok e)
 refine⟨z,y,xs,r,o,es,ep,h1,h2,h3,h4,fun x hx=>?_,h5⟩
 have all:∀{l:List (List Key×V)} {m:List (List Key×Addr×Value)},KT H l m→∀x∈m,(tupleKind (AX P w)).is h x.1 x.2.1:=by
  intro l m q
  induction q with
  |nil=>intro x hx;exact nomatch hx
  |@cons p q ps qs hq t ih=>
   intro x hx
   rcases List.mem_cons.mp hx with e|hx
   ·subst e
    exact JQ ok (by rw[←hq.1];exact hq.2.1)
   ·exact ih x hx
 exact all r x hx
theorem WJ {kvs:List (List Key×V)}(ok:Ie P w H h)(e:H a=some (.dT kvs)):kvs.length≤sizeLine∧(a == sysModules)=false∧
  ∃xs,KT H kvs xs∧h.DictOfH (tupleKind (AX P w)) a xs:=Ld ok (.inl e)
end
def CW (H:Hp)(a:Addr)(y:V)(r:Option V):Prop:=
 (∃kvs k,Rd H a (.dK kvs)∧y=kV k∧r=Ct kvs k)∨∃kvs k b,Rd H a (.dT kvs)∧y=.ref b∧H b=some (.tup (k.map kV))∧r=Ct kvs k
def LX (H:Hp)(a:Addr)(y v:V)(H':Hp):Prop:=
 (∃kvs k,H a=some (.dK kvs)∧y=kV k∧kvs.length<sizeLine∧H'=upd H a (.dK (putK kvs k v)))∨
 ∃kvs k b,H a=some (.dT kvs)∧y=.ref b∧H b=some (.tup (k.map kV))∧kvs.length<sizeLine∧H'=upd H a (.dT (putK kvs k v))
theorem CW.k {H:Hp}{a:Addr}{kvs:List (Key×V)}{k:Key}(e:H a=some (.dK kvs)):CW H a (kV k) (Ct kvs k):=.inl ⟨kvs,k,.inl e,rfl,rfl⟩
theorem CW.t {H:Hp}{a b:Addr}{kvs:List (List Key×V)}{k:List Key}(e:H a=some (.dT kvs))(eb:H b=some (.tup (k.map kV))):CW H a (.ref b) (Ct kvs k):=.inr ⟨kvs,k,b,.inl e,rfl,eb,rfl⟩
theorem LX.k {H:Hp}{a:Addr}{kvs:List (Key×V)}{k:Key}{v:V}(e:H a=some (.dK kvs))(hl:kvs.length<sizeLine):LX H a (kV k) v (upd H a (.dK (putK kvs k v))):=.inl ⟨kvs,k,e,rfl,hl,rfl⟩
theorem LX.t {H:Hp}{a b:Addr}{kvs:List (List Key×V)}{k:List Key}{v:V}(e:H a=some (.dT kvs))(eb:H b=some (.tup (k.map kV)))(hl:kvs.length<sizeLine) :
  LX H a (.ref b) v (upd H a (.dT (putK kvs k v))):=.inr ⟨kvs,k,b,e,rfl,eb,hl,rfl⟩
section
variable {X:Cx}{pins:List (Addr×Obj)}{σ:St}{H:Hp}{s:Shared}{a:Addr}{y v:V}{u r:Value}{o:Option V}{A:Around}{E:Value→Shared→Prop}
theorem Inv.big (I:Inv X pins σ H s):sysModules<s.heap.objs.size:=by
 have h:mainGlobals<s.heap.objs.size:=(I.mod.glob.keeps I.bk).lt
 exact Nat.lt_trans (by decide) h
theorem QV {Q:Value→Shared→Prop}(hu:A.units+1<cLine)(I:Inv X pins σ H s)(g:CW H a y (some v))(ry:RelV y u)(h:∀w' s',Inv X pins σ H s'→RelV v w'→Q w' s') :
  wpAny (model X.prog X.w) A (getItem (.ref a) u) Q E s:=by
 rcases g with⟨kvs,k,e,ey,l⟩|⟨kvs,k,b,e,ey,eb,l⟩
 ·subst ey
  obtain⟨z,hd,vs,rel,dd⟩:=Ly I.hok e
  obtain⟨w',hw,rw'⟩:=Gc.some_of (v:=v) (o:=valueAt vs k) (by rw[l];exact rel.val k)
  exact wpAny_getItem_of (KO ry) dd.mapOf hw (h w' _ (I.tok _) rw')
 ·subst ey
  cases(show u=Value.ref b from ry)
  obtain⟨z,hd,xs,rel,dd⟩:=Ld I.hok e
  obtain⟨w',hw,rw'⟩:=Gc.some_of (v:=v) (o:=(atKey xs k).map (·.2)) (by rw[l];exact rel.val k)
  obtain⟨p,hp,hp2⟩:=Option.map_eq_some_iff.mp hw
  refine wpAny_getItem_heap (tupleKind_room_in1 hu) (JQ I.hok eb) dd hp ?_
  rw[hp2]
  exact h w' _ (I.tok _) rw'
theorem Xx {Q:Value→Shared→Prop}(hu:A.units+1<cLine)(I:Inv X pins σ H s)(g:CW H a y o)(ry:RelV y u)(h:∀s',Inv X pins σ H s'→Q (.bool o.isSome) s') :
  wpAny (model X.prog X.w) A (compareOp .In u (.ref a)) Q E s:=by
 rcases g with⟨kvs,k,e,ey,l⟩|⟨kvs,k,b,e,ey,eb,l⟩
 ·subst ey
  obtain⟨z,hd,vs,rel,dd⟩:=Ly I.hok e
  refine wpAny_in_of (KO ry) hd dd.mapOf ?_
  rw[←(rel.val k).isSome_eq,←l]
  exact h _ (I.tok _)
 ·subst ey
  cases(show u=Value.ref b from ry)
  obtain⟨z,hd,xs,rel,dd⟩:=Ld I.hok e
  refine wpAny_in_heap (tupleKind_room_in1 hu) (JQ I.hok eb) hd dd ?_
  have q:=(rel.val k).isSome_eq
  rw[Option.isSome_map] at q
  rw[←q,←l]
  exact h _ (I.tok _)
theorem KE {h':Heap}{t':Nat}{ob:HO}(I:Inv X pins σ H s)(mu:WM (H a))(hs:Heap.SameBut a s.heap h')(he:∃q,h'.get? a=some q)(new:Bj X.prog X.w (upd H a ob) h' a ob) :
  Inv X pins σ (upd H a ob) { s with heap:=h',toks:=t' }:=
 I.write (x:=a) (e:=a) mu (.inl rfl) (fun b q hb z=>(hs.2 b hb).trans z) he new
theorem Pu {P:Program}{w:World}{H':Hp}{h':Heap}{kvs:List (Key×V)}{vs:List (Key×Value)}(z:kvs.length≤sizeLine)(hd:(a == sysModules)=false)(rel:KV kvs vs)(dd:h'.DictOf (AX P w) a vs) :
  Bj P w H' h' a (.dK kvs):=⟨z,hd,vs,rel,dd⟩
theorem QR {H':Hp}{Q:Unit→Shared→Prop}(hu:A.units+1<cLine)(I:Inv X pins σ H s)(g:LX H a y v H')(ry:RelV y u)(rv:RelV v r)(h:∀s',Inv X pins σ H' s'→Q () s') :
  wpAny (model X.prog X.w) A (setItem (.ref a) u r) Q E s:=by
 rcases g with⟨kvs,k,e,ey,l,eH⟩|⟨kvs,k,b,e,ey,eb,l,eH⟩
 ·subst ey eH
  obtain⟨z,hd,vs,rel,dd⟩:=TY I.hok e
  have hz:vs.length≤sizeLine:=by rw[←rel.length];exact z
  have hl:(putK kvs k v).length≤sizeLine:=by have:=Ht kvs k v;omega
  refine wpAny_setItem_pairs (hsz:=hz) (KO ry) dd fun h' dd' hs=>h _ ?_
  have he:∃q,h'.get? a=some q:=let⟨q,_,_,hq,_⟩:=dd';⟨q,hq⟩
  exact KE I (by rw[e];exact True.intro) hs he (Pu hl hd (rel.put k rv) dd')
 ·subst ey eH
  cases(show u=Value.ref b from ry)
  obtain⟨z,hd,xs,rel,dd⟩:=WJ I.hok e
  have hz:xs.length≤sizeLine:=by rw[←Paired.length rel];exact z
  have hl:(putK kvs k v).length≤sizeLine:=by have:=Ht kvs k v;omega
  refine wpAny_setItem_heap (hsz:=hz) (tupleKind_room_in1 hu) (JQ I.hok eb) dd fun h' dd' hs=>h _ ?_
  obtain⟨q,es,ep,hq,h2,h3,h4,_,h5⟩:=dd'
  refine KE I (by rw[e];exact True.intro) hs ⟨q,hq⟩ ⟨hl,hd,_,(rel.put k eb rv).keeps fun c ys ec=>?_,q,es,ep,hq,h2,h3,h4,h5⟩
  rw[Aj (AW ec e (fun z=>nomatch z))]
  exact ec
end
section
variable {X:Cx}{pins:List (Addr×Obj)}{σ:St}{H:Hp}{s:Shared}{a:Addr}{kvs:List (Key×V)}{k:Key}{u:Value}{A:Around}{E:Value→Shared→Prop}
theorem Uq {Q:Value→Shared→Prop}(I:Inv X pins σ H s)(e:H a=some (.dK kvs))(h:∀s',Inv X pins σ (upd H a (.dK [])) s'→Q .none s'):wpAny (model X.prog X.w) A (call (.builtin "dict.clear") [.ref a]) Q E s:=by
 obtain⟨z,hd,vs,rel,dd⟩:=TY I.hok e
 refine call_meetsIn PySem.F.slot_dict_clear dd.typeIs PySem.F.entry_dict_clear (PySem.F.args_dict_clear_1 _) (meets_dict_clear (AX X.prog X.w) a) ⟨vs,dd,by rw[←rel.length];exact z,fun h' dd' hs=>h _ ?_⟩
 have he:∃q,h'.get? a=some q:=let⟨q,_,_,hq,_⟩:=dd';⟨q,hq⟩
 exact KE (t':=s.toks) I (by rw[e];exact True.intro) hs he (Pu (Nat.zero_le _) hd .nil dd')
end
def WH (i:Expr):Prop:=∀ov iv,subscripted i false ov iv=operate [ov,iv] (getItem ov iv)
theorem U8 {prog:Program} {w:World} {A:Around} {E:Value→Shared→Prop} {s:Shared} {env:Env} {value slice:Expr} {pos:Pos} {T id:String} {Q:Value→Shared→Prop}
  (hl:typeLookup (.type T) "__getitem__"=pure (some (.builtin id))) (hs:WH slice)
  (h:wpAny (model prog w) A (eval value env) (fun o s₁=>wpAny (model prog w) A (eval slice env) (fun i s₂=>s₂.TypeIs o T∧wpAny (model prog w) A (getItem o i) Q E s₂) E s₁) E s) :
  wpAny (model prog w) A (eval (.Subscript value slice pos) env) Q E s:=by
 refine Subscript_ (wpAny_mono h (fun o s₁ h₁=>wpAny_mono h₁ (fun i s₂ h₂=>?_) fun _ _ x=>x) fun _ _ x=>x)
 obtain⟨hT,h₂⟩:=h₂
 unfold subscriptTail
 refine wpAny_bind ?_
 rw[getitemInPython_of_ne hT.not_modules]
 refine wpAny_bind (wpAny_specialOf hT hl ?_)
 have fin:wpAny (model prog w) A (subscripted slice false o i) (fun r s₃=>wpAny (model prog w) A (letTemporaryGo value o r >>= fun _=>pure r) Q E s₃) E s₂:=by
  rw[hs o i]
  exact wpAny_operating (wpAny_mono h₂ (fun r s₃ h₃=>wpAny_bind (wpAny_letTemporaryGo (wpAny_pure h₃))) fun _ _ x=>x)
 first
  |exact wpAny_pure (wpAny_bind fin)
  |exact wpAny_bind (wpAny_pure (wpAny_bind fin))
  |exact wpAny_bind fin
theorem OV {X:Cx}{pins:List (Addr×Obj)}{σ:St}{H:Hp}{s:Shared}{a:Addr}{y:V}{o:Option V}(I:Inv X pins σ H s)(g:CW H a y o):s.TypeIs (.ref a) "dict":=by
 rcases g with⟨kvs,k,e,_,_⟩|⟨kvs,k,b,e,_,_,_⟩
 ·obtain⟨_,_,vs,_,dd⟩:=Ly I.hok e
  exact dd.typeIs
 ·obtain⟨_,_,xs,_,dd⟩:=Ld I.hok e
  exact dd.typeIs
def Wy (td ty:TE):TE:=fun σ H Q=>td σ H fun x H1=>ty σ H1 fun y H2=>∃a v,x=.ref a∧CW H2 a y (some v)∧Q v H2
def Xk (ty td:TE):TE:=fun σ H Q=>ty σ H fun y H1=>td σ H1 fun x H2=>∃a o,x=.ref a∧CW H2 a y o∧Q (.bl o.isSome) H2
def Wt (td ty tv:TE):TS:=fun D σ H=>tv σ H fun v H1=>td σ H1 fun x H2=>ty σ H2 fun y H3=>∃a H4,x=.ref a∧LX H3 a y v H4∧D.nx σ H4
section
variable {X:Cx}{o i e value:Expr}{pos pos' tpos:Pos}{td ty tv:TE}
theorem Gk (hu:X.A.units+1<cLine)(ho:PE X o td)(hi:PE X i ty)(hs:WH i):PE X (.Subscript o i pos) (Wy td ty):=by
 intro pins s σ H Q I h
 refine U8 PySem.F.slot_dict_getitem.lookup hs (Bo (ho pins s σ H _ I h) fun u s1 ⟨x,H1,I1,rx,q1⟩=>Bo (hi pins s1 σ H1 _ I1 q1) fun iv s2 ⟨y,H2,I2,ry,a,v,ex,g,q2⟩=>?_)
 subst ex
 obtain rfl:u=Value.ref a:=rx
 exact⟨OV I2 g,QV hu I2 g ry fun w' s3 I3 rw'=>⟨v,H2,I3,rw',q2⟩⟩
theorem Se (hu:X.A.units+1<cLine)(hi:PE X i ty)(ho:PE X o td):PC X .In i o (Xk ty td):=by
 intro pins s σ H Q I h
 refine Bo (hi pins s σ H _ I h) fun iv s1 ⟨y,H1,I1,ry,q1⟩=>Bo (ho pins s1 σ H1 _ I1 q1) fun u s2 ⟨x,H2,I2,rx,a,ov,ex,g,q2⟩=>?_
 subst ex
 obtain rfl:u=Value.ref a:=rx
 exact Xx hu I2 g ry fun s3 I3=>⟨.bl ov.isSome,H2,I3,rfl,q2⟩
theorem KC (hu:X.A.units+1<cLine)(ho:PE X o td)(hi:PE X i ty)(hv:PE X value tv)(hs:swapsWith value (some (.Subscript o i pos')) pos.line X.env=pure false) :
  PS X (.Assign [.Subscript o i pos'] value pos) (Wt td ty tv):=by
 intro pins s σ H D I h
 refine wpAny_Assign_Subscript (Bo (hv pins s σ H _ I h) fun r s1 ⟨v,H1,I1,rv,q1⟩=>Bo (ho pins s1 σ H1 _ I1 q1) fun u s2 ⟨x,H2,I2,rx,q2⟩=>Bo (hi pins s2 σ H2 _ I2 q2) fun iv s3 ⟨y,H3,I3,ry,a,H4,ex,g,q3⟩=>?_) hs
 subst ex
 obtain rfl:u=Value.ref a:=rx
 exact QR hu I3 g ry rv fun s4 I4=>⟨σ,H4,I4,q3⟩
end
theorem TQ {P:Program}{w:World}{H:Hp}(h:Heap)(hb:sysModules<h.objs.size):Bj P w H (h.push { cls:=.type "dict",data:=.dict #[] }) h.objs.size (.dK []):=
 ⟨Nat.zero_le _,beq_eq_false_iff_ne.mpr (Ne.symm (Nat.ne_of_lt hb)),[],.nil,Heap.DictOf.new h⟩
def VQ:TE:=fun _ H Q=>∀p,H p=none→Q (.ref p) (upd H p (.dK []))
section
variable {X:Cx}{pos:Pos}
theorem FW:PE X (.Dict [] [] pos) VQ:=fun pins s σ H Q I h=>
 wpAny_Dict_empty ⟨.ref s.heap.objs.size,_,I.laid (a:=s.heap.objs.size) (o:=.dK []) (t':=s.toks) (fun _ _ q=>Heap.get?_push_of_some _ q) (Nat.le_refl _) (TQ s.heap I.big),rfl,h _ (I.hok.fresh (Nat.le_refl _))⟩
end
structure M1 (X:Cx) (o:Expr) (m:Str) (apos:Pos) (e:Expr) (cpos:Pos):Prop where
 base:attributeBase o m X.env (eval o X.env)=eval o X.env
 few:((backTo cpos (starEach [e] X.env)).all (fun x=>!x.1)&&(backToKw cpos (keywordEach [] X.env)).all (fun x=>x.1.isSome)
  && decide (([e]:List Expr).length+([]:List Keyword).length+(if([]:List Keyword).isEmpty then 0 else 1)<30))=true
 line:(apos.endLine == cpos.line)=true
 trees:backTo cpos (starEach [e] X.env)=[(false,eval e X.env)]
structure M2 (X:Cx) (o:Expr) (m:Str) (apos:Pos) (e f:Expr) (cpos:Pos):Prop where
 base:attributeBase o m X.env (eval o X.env)=eval o X.env
 few:((backTo cpos (starEach [e,f] X.env)).all (fun x=>!x.1)&&(backToKw cpos (keywordEach [] X.env)).all (fun x=>x.1.isSome)
  && decide (([e,f]:List Expr).length+([]:List Keyword).length+(if([]:List Keyword).isEmpty then 0 else 1)<30))=true
 line:(apos.endLine == cpos.line)=true
 trees:backTo cpos (starEach [e,f] X.env)=[(false,eval e X.env),(false,eval f X.env)]
def WX (H:Hp)(a:Addr):Prop:=(∃kvs,Rd H a (.dK kvs))∨∃kvs,Rd H a (.dT kvs)
theorem M9 {X:Cx}{pins:List (Addr×Obj)}{σ:St}{H:Hp}{s:Shared}{a:Addr}(I:Inv X pins σ H s)(d:WX H a) :
  s.TypeIs (.ref a) "dict"∧(∀b,Value.ref a=.ref b→∃ob,s.heap.get? b=some ob∧ob.dict=none)∧(a == sysModules)=false:=by
 rcases d with⟨kvs,e⟩|⟨kvs,e⟩
 ·obtain⟨_,hd,vs,_,dd⟩:=Ly I.hok e
  refine⟨dd.typeIs,fun b q=>?_,hd⟩
  cases q
  obtain⟨ob,_,_,h1,h2,_⟩:=dd
  exact⟨ob,h1,h2.2.1⟩
 ·obtain⟨_,hd,xs,_,dd⟩:=Ld I.hok e
  refine⟨dd.typeIs,fun b q=>?_,hd⟩
  cases q
  obtain⟨ob,_,_,h1,h2,_⟩:=dd
  exact⟨ob,h1,h2.2.1⟩
section
variable {X:Cx}{pins:List (Addr×Obj)}{σ:St}{H:Hp}{s:Shared}{a:Addr}{y d:V}{u r:Value}{o:Option V}{A:Around}{E:Value→Shared→Prop}
theorem VA {Q:Value→Shared→Prop}(hu:A.units+1<cLine)(I:Inv X pins σ H s)(g:CW H a y o)(ry:RelV y u)(h:∀w' s',Inv X pins σ H s'→RelV (o.getD .non) w'→Q w' s') :
  wpAny (model X.prog X.w) A (call (.builtin "dict.get") [.ref a,u]) Q E s:=by
 rcases g with⟨kvs,k,e,ey,l⟩|⟨kvs,k,b,e,ey,eb,l⟩
 ·subst ey
  obtain⟨z,hd,vs,rel,dd⟩:=Ly I.hok e
  refine call_meetsIn PySem.F.slot_dict_get dd.typeIs PySem.F.entry_dict_get (PySem.F.args_dict_get_2 _ _) (meets_dict_get (AX X.prog X.w) a (KO ry) hd) ⟨_,dd.mapOf,h _ _ (I.tok _) ?_⟩
  rw[l]
  exact(rel.val k).getD rfl
 ·subst ey
  cases(show u=Value.ref b from ry)
  obtain⟨z,hd,xs,rel,dd⟩:=Ld I.hok e
  refine call_meetsIn PySem.F.slot_dict_get dd.typeIs PySem.F.entry_dict_get (PySem.F.args_dict_get_2 _ _) (meetsH_dict_get (tupleKind (AX X.prog X.w)) a b hd) ⟨tupleKind_room_in1 hu,k,xs,JQ I.hok eb,dd,h _ _ (I.tok _) ?_⟩
  rw[l]
  exact(rel.val k).getD rfl
theorem VT {Q:Value→Shared→Prop}(hu:A.units+1<cLine)(I:Inv X pins σ H s)(g:CW H a y o)(ry:RelV y u)(rd:RelV d r)(h:∀w' s',Inv X pins σ H s'→RelV (o.getD d) w'→Q w' s') :
  wpAny (model X.prog X.w) A (call (.builtin "dict.get") [.ref a,u,r]) Q E s:=by
 rcases g with⟨kvs,k,e,ey,l⟩|⟨kvs,k,b,e,ey,eb,l⟩
 ·subst ey
  obtain⟨z,hd,vs,rel,dd⟩:=Ly I.hok e
  refine call_meetsIn PySem.F.slot_dict_get dd.typeIs PySem.F.entry_dict_get (PySem.F.args_dict_get_3 _ _ _) (meets_dict_get_default (AX X.prog X.w) a (KO ry) hd r) ⟨_,dd.mapOf,h _ _ (I.tok _) ?_⟩
  rw[l]
  exact(rel.val k).getD rd
 ·subst ey
  cases(show u=Value.ref b from ry)
  obtain⟨z,hd,xs,rel,dd⟩:=Ld I.hok e
  refine call_meetsIn PySem.F.slot_dict_get dd.typeIs PySem.F.entry_dict_get (PySem.F.args_dict_get_3 _ _ _) (meetsH_dict_get_default (tupleKind (AX X.prog X.w)) a b hd r) ⟨tupleKind_room_in1 hu,k,xs,JQ I.hok eb,dd,h _ _ (I.tok _) ?_⟩
  rw[l]
  exact(rel.val k).getD rd
end
def VC (td ty:TE):TE:=fun σ H Q=>td σ H fun x H1=>∃a,x=.ref a∧WX H1 a∧ty σ H1 fun y H2=>∃o,CW H2 a y o∧Q (o.getD .non) H2
def VI (td ty tx:TE):TE:=fun σ H Q=>td σ H fun x H1=>∃a,x=.ref a∧WX H1 a∧ty σ H1 fun y H2=>tx σ H2 fun z H3=>∃o,CW H3 a y o∧Q (o.getD z) H3
section
variable {X:Cx}{o e f:Expr}{apos cpos:Pos}{td ty tx:TE}
theorem RU (hu:X.A.units+1<cLine)(ho:PE X o td)(he:PE X e ty)(m:M1 X o "get" apos e cpos):PE X (.Call (.Attribute o "get" apos) [e] [] cpos) (VC td ty):=by
 intro pins s σ H Q I h
 refine wpAny_Call_method m.base m.few m.line PySem.F.plainAttrs_dict PySem.F.slot_dict_get PySem.F.type_dict_get (Bo (ho pins s σ H _ I h) fun u s1 ⟨x,H1,I1,rx,a,ex,d,q1⟩=>?_)
 subst ex
 obtain rfl:u=Value.ref a:=rx
 obtain⟨t1,t2,_⟩:=M9 I1 d
 refine⟨t1,t2,?_⟩
 rw[m.trees]
 refine Calls.callWith_builtin rfl (Calls.evalArgs_plain (Calls.spliced_cons (Bo (he pins s1 σ H1 _ I1 q1) fun iv s2 ⟨y,H2,I2,ry,ov,g,q2⟩=>Calls.spliced_nil ?_)))
 exact VA hu I2 g ry fun w' s3 I3 rw'=>⟨_,H2,I3,rw',q2⟩
theorem Tc (hu:X.A.units+1<cLine)(ho:PE X o td)(he:PE X e ty)(hf:PE X f tx)(m:M2 X o "get" apos e f cpos):PE X (.Call (.Attribute o "get" apos) [e,f] [] cpos) (VI td ty tx):=by
 intro pins s σ H Q I h
 refine wpAny_Call_method m.base m.few m.line PySem.F.plainAttrs_dict PySem.F.slot_dict_get PySem.F.type_dict_get (Bo (ho pins s σ H _ I h) fun u s1 ⟨x,H1,I1,rx,a,ex,d,q1⟩=>?_)
 subst ex
 obtain rfl:u=Value.ref a:=rx
 obtain⟨t1,t2,_⟩:=M9 I1 d
 refine⟨t1,t2,?_⟩
 rw[m.trees]
 refine Calls.callWith_builtin rfl (Calls.evalArgs_plain (Calls.spliced_cons (Bo (he pins s1 σ H1 _ I1 q1) fun iv s2 ⟨y,H2,I2,ry,q2⟩=>
  Calls.spliced_cons (Bo (hf pins s2 σ H2 _ I2 q2) fun fv s3 ⟨z,H3,I3,rz,ov,g,q3⟩=>Calls.spliced_nil ?_))))
 exact VT hu I3 g ry rz fun w' s4 I4 rw'=>⟨_,H3,I4,rw',q3⟩
end
section
variable {X:Cx}{pins:List (Addr×Obj)}{σ:St}{H:Hp}{s:Shared}{a:Addr}{kvs:List (Key×V)}{A:Around}{E:Value→Shared→Prop}
end
section
variable {X:Cx}{pins:List (Addr×Obj)}{σ:St}{H:Hp}{s:Shared}{a:Addr}{y:V}{u:Value}{A:Around}{E:Value→Shared→Prop}
end
end L2
namespace L2
open PySem PySem.Spec PyProof.Rows
section
variable {X:Cx}
end
inductive Tr where
 |non
 |bl (b:Bool)
 |int (i:Int)
 |str (z:Str)
 |tup (ts:List Tr)
 |lst (ts:List Tr)
mutual
def Rep (F:Addr→Prop)(H:Hp):Tr→V→Prop
 | .non,v=>v=.non
 | .bl b,v=>v=.bl b
 | .int i,v=>v=.int i
 | .str z,v=>v=.str z
 | .tup ts,v=>∃a vs,v=.ref a∧H a=some (.tup vs)∧AB F H ts vs
 | .lst ts,v=>∃a vs,v=.ref a∧F a∧H a=some (.lst vs)∧AB F H ts vs
def AB (F:Addr→Prop)(H:Hp):List Tr→List V→Prop
 |[],vs=>vs=[]
 |t::ts,vs=>∃v us,vs=v::us∧Rep F H t v∧AB F H ts us
end
mutual
def Tr.dep:Tr→Nat
 | .tup ts=>1+Tr.deps ts
 | .lst ts=>1+Tr.deps ts
 |_=>1
def Tr.deps:List Tr→Nat
 |[]=>0
 |t::ts=>max (Tr.dep t) (Tr.deps ts)
end
mutual
def Tr.ok:Tr→Prop
 | .str z=>z.length≤1000
 | .tup ts=>ts.length≤1000∧Tr.oks ts
 | .lst ts=>ts.length≤1000∧Tr.oks ts
 |_=>True
def Tr.oks:List Tr→Prop
 |[]=>True
 |t::ts=>Tr.ok t∧Tr.oks ts
end
mutual
theorem Rep.same {F:Addr→Prop}{H H':Hp}(s:Aq H H'):∀(t:Tr) (v:V),Rep F H t v→Rep F H' t v
 | .non,_,h=>h
 | .bl _,_,h=>h
 | .int _,_,h=>h
 | .str _,_,h=>h
 | .tup ts,_,⟨a,vs,e,ha,hr⟩=>⟨a,vs,e,s.get ha,AB.same s ts vs hr⟩
 | .lst ts,_,⟨a,vs,e,fa,ha,hr⟩=>⟨a,vs,e,fa,s.get ha,AB.same s ts vs hr⟩
theorem AB.same {F:Addr→Prop}{H H':Hp}(s:Aq H H'):∀(ts:List Tr) (vs:List V),AB F H ts vs→AB F H' ts vs
 |[],_,h=>h
 |t::ts,_,⟨v,us,e,h1,h2⟩=>⟨v,us,e,Rep.same s t v h1,AB.same s ts us h2⟩
end
theorem AB.len {F:Addr→Prop}{H:Hp}:∀(ts:List Tr) (vs:List V),AB F H ts vs→vs.length=ts.length
 |[],_,h=>by rw[show _=[] from h];rfl
 |t::ts,_,⟨v,us,e,_,h2⟩=>by rw[e,List.length_cons,List.length_cons,AB.len ts us h2]
theorem AB.get {F:Addr→Prop}{H:Hp}:∀{ts:List Tr} {vs:List V},AB F H ts vs→∀{i:Nat} {v:V},vs[i]?=some v→∃t,ts[i]?=some t∧Rep F H t v
 |[],_,h,i,v,hv=>by rw[show _=[] from h] at hv;simp at hv
 |t::ts,_,⟨w,us,e,h1,h2⟩,0,v,hv=>by
  rw[e] at hv
  cases(Option.some.inj hv)
  exact⟨t,rfl,h1⟩
 |t::ts,_,⟨w,us,e,h1,h2⟩,i+1,v,hv=>by
  rw[e] at hv
  obtain⟨t',e1,e2⟩:=AB.get h2 (i:=i) (v:=v) (by simpa using hv)
  exact⟨t',by simpa using e1,e2⟩
theorem AB.append {F:Addr→Prop}{H:Hp}:∀{ts us:List Tr} {vs ws:List V},AB F H ts vs→AB F H us ws→AB F H (ts++us) (vs++ws)
 |[],us,_,ws,h,h2=>by rw[show _=[] from h];exact h2
 |t::ts,us,_,ws,⟨w,vs,e,h1,hr⟩,h2=>by
  rw[e]
  exact⟨w,vs++ws,rfl,h1,AB.append hr h2⟩
theorem AB.one {F:Addr→Prop}{H:Hp}{t:Tr}{v:V}(h:Rep F H t v):AB F H [t] [v]:=⟨v,[],rfl,h,rfl⟩
theorem Rep.ok {F:Addr→Prop}{H:Hp}:∀{t:Tr} {v:V},Rep F H t v→t.ok→Ok H v
 | .non,_,h,_=>by rw[show _=V.non from h];trivial
 | .bl _,_,h,_=>by rw[show _=V.bl _ from h];trivial
 | .int _,_,h,_=>by rw[show _=V.int _ from h];trivial
 | .str z,_,h,o=>by rw[show _=V.str z from h];exact o
 | .tup ts,_,⟨a,vs,e,ha,_⟩,_=>by rw[e];exact .inr ⟨vs,ha⟩
 | .lst ts,_,⟨a,vs,e,_,ha,_⟩,_=>by rw[e];exact .inl ⟨vs,ha⟩
section
variable {X:Cx}{pins:List (Addr×Obj)}{σ:St}{H:Hp}{s:Shared}{F G:Addr→Prop}
mutual
theorem VM (I:Inv X pins σ H s):∀(t:Tr) (A:Around) (v u:V) (vv uu:Value),A.units+t.dep<cLine→Rep F H t v→Rep G H t u→RelV v vv→RelV u uu→SeqAt.EqAt A s vv uu true
 | .non,A,v,u,vv,uu,_,h1,h2,r1,r2=>by
  rw[show v=V.non from h1] at r1;rw[show u=V.non from h2] at r2
  cases r1;cases r2
  exact SeqAt.EqAt.same _
 | .bl b,A,v,u,vv,uu,_,h1,h2,r1,r2=>by
  rw[show v=V.bl b from h1] at r1;rw[show u=V.bl b from h2] at r2
  cases r1;cases r2
  exact SeqAt.EqAt.same _
 | .int i,A,v,u,vv,uu,_,h1,h2,r1,r2=>by
  have:=Pj (A:=A) (s:=s) r1 r2 (by rw[show v=V.int i from h1];rfl) (by rw[show u=V.int i from h2];rfl)
  rw[show v=V.int i from h1,show u=V.int i from h2] at this
  have e:Uy (V.int i) (V.int i)=true:=by rw[pure_eq rfl rfl];simp
  rw[e] at this
  exact this
 | .str z,A,v,u,vv,uu,_,h1,h2,r1,r2=>by
  have:=Pj (A:=A) (s:=s) r1 r2 (by rw[show v=V.str z from h1];rfl) (by rw[show u=V.str z from h2];rfl)
  rw[show v=V.str z from h1,show u=V.str z from h2] at this
  have e:Uy (V.str z) (V.str z)=true:=by rw[pure_eq rfl rfl];simp
  rw[e] at this
  exact this
 | .tup ts,A,v,u,vv,uu,hA,⟨a,vs,e1,ha,hr1⟩,⟨b,us,e2,hb,hr2⟩,r1,r2=>by
  subst e1 e2
  cases r1;cases r2
  by_cases hab:a=b
  ·subst hab;exact SeqAt.EqAt.same _
  have hA':A.units+(1+Tr.deps ts)<cLine:=hA
  obtain⟨its,rv1,p1,_⟩:=I.tuple (AY.of (K:=X.K) ha)
  obtain⟨its2,rv2,p2,_⟩:=I.tuple (AY.of (K:=X.K) hb)
  have l1:=rv1.length.symm.trans (AB.len ts vs hr1)
  have l2:=rv2.length.symm.trans (AB.len ts us hr2)
  have q:=SeqAt.RcAt.tuples (A:=A) (s:=s) (e:=fun _=>true) p1 p2 (by omega) (fun j g1 g2=>IU I ts A.in1 vs us its its2 (by show A.units+1+Tr.deps ts<cLine;omega) hr1 hr2 rv1 rv2 j (by simpa using g1) (by simpa using g2))
  have e:((List.range (min its.toArray.size its2.toArray.size)).all (fun _=>true)&&its.toArray.size == its2.toArray.size)=true:=by
   simp[l1,l2]
  rw[e] at q
  exact SeqAt.EqAt.of_refs hab q
 | .lst ts,A,v,u,vv,uu,hA,⟨a,vs,e1,_,ha,hr1⟩,⟨b,us,e2,_,hb,hr2⟩,r1,r2=>by
  subst e1 e2
  cases r1;cases r2
  by_cases hab:a=b
  ·subst hab;exact SeqAt.EqAt.same _
  have hA':A.units+(1+Tr.deps ts)<cLine:=hA
  obtain⟨its,rv1,p1,_⟩:=I.list (AU.of (K:=X.K) ha)
  obtain⟨its2,rv2,p2,_⟩:=I.list (AU.of (K:=X.K) hb)
  have l1:=rv1.length.symm.trans (AB.len ts vs hr1)
  have l2:=rv2.length.symm.trans (AB.len ts us hr2)
  have q:=SeqAt.RcAt.lists (A:=A) (s:=s) (e:=fun _=>true) p1.isList p2.isList (by simp[l1,l2]) (by omega) (fun j g1 g2=>IU I ts A.in1 vs us its its2 (by show A.units+1+Tr.deps ts<cLine;omega) hr1 hr2 rv1 rv2 j (by simpa using g1) (by simpa using g2))
  have e:((List.range its.toArray.size).all (fun _=>true))=true:=by simp
  rw[e] at q
  exact SeqAt.EqAt.of_refs hab q
theorem IU (I:Inv X pins σ H s):∀(ts:List Tr) (A:Around) (vs us:List V) (its its2:List Value),A.units+Tr.deps ts<cLine→AB F H ts vs→AB G H ts us→AJ vs its→AJ us its2→∀(j:Nat) (g1:j<its.length) (g2:j<its2.length),SeqAt.EqAt A s its[j] its2[j] true
 |[],A,vs,us,its,its2,_,h1,h2,r1,r2=>fun j g1 g2=>by
  rw[show vs=[] from h1] at r1
  cases r1
  simp at g1
 |t::ts,A,vs,us,its,its2,hA,⟨v,vr,e1,a1,b1⟩,⟨u,ur,e2,a2,b2⟩,r1,r2=>by
  subst e1 e2
  have hA':A.units+max (Tr.dep t) (Tr.deps ts)<cLine:=hA
  cases r1 with
  |cons p1 q1=>
   cases r2 with
   |cons p2 q2=>
    intro j g1 g2
    cases j with
    |zero=>exact VM I t A v u _ _ (by omega) a1 a2 p1 p2
    |succ j=>exact IU I ts A vr ur _ _ (by omega) b1 b2 q1 q2 j (by simpa using g1) (by simpa using g2)
end
end
section
variable {X:Cx}
def Xi:R2:=fun x y H Q=>∃t F G,t.dep≤100∧Rep F H t x∧Rep G H t y∧Q (.bl false) H
theorem Wb (hu:X.A.units+150<cLine):IG X (compareOp .NotEq) Xi:=by
 intro pins s σ H x y v u Q I rx ry h
 obtain⟨t,F,G,hd,h1,h2,q⟩:=h
 have Pb:∀z:V,Fg z=true∨(∃b,z=.bl b)→x=z→y=z→wpAny (model X.prog X.w) X.A (compareOp .NotEq v u) (EP X pins σ Q) X.xe s:=fun z hz e1 e2=>by
  refine LC pins s σ H x y v u Q I rx ry ⟨?_,?_⟩
  ·subst e1 e2
   rcases hz with hz|⟨b,rfl⟩
   ·cases y<;>first|rfl|exact absurd (show false=true from hz) Bool.false_ne_true
   ·rfl
  ·rw[e1,e2];simpa using q
 cases t with
 |non=>exact Pb _ (.inl rfl) h1 h2
 |bl b=>exact Pb _ (.inr ⟨b,rfl⟩) h1 h2
 |int i=>exact Pb (.int i) (.inl rfl) h1 h2
 |str z=>exact Pb (.str z) (.inl rfl) h1 h2
 |tup ts=>
  obtain⟨a,vs,rfl,ha,hr1⟩:=h1
  obtain⟨b,us,rfl,hb,hr2⟩:=h2
  cases rx;cases ry
  have hd':1+Tr.deps ts≤100:=hd
  obtain⟨its,rv1,p1,_⟩:=I.tuple (AY.of (K:=X.K) ha)
  obtain⟨its2,rv2,p2,_⟩:=I.tuple (AY.of (K:=X.K) hb)
  have l1:=rv1.length.symm.trans (AB.len ts vs hr1)
  have l2:=rv2.length.symm.trans (AB.len ts us hr2)
  have q2:=SeqAt.RcNeAt.tuples (A:=X.A) (s:=s) (e:=fun _=>true) p1 p2 (by omega) (fun j g1 g2=>IU I ts X.A.in1 vs us its its2 (by show X.A.units+1+Tr.deps ts<cLine;omega) hr1 hr2 rv1 rv2 j (by simpa using g1) (by simpa using g2))
  have e:(!((List.range (min its.toArray.size its2.toArray.size)).all (fun _=>true)&&its.toArray.size == its2.toArray.size))=false:=by
   simp[l1,l2]
  rw[e] at q2
  exact q2 _ _ _ _ ⟨.bl _,H,I,rfl,q⟩
 |lst ts=>
  obtain⟨a,vs,rfl,_,ha,hr1⟩:=h1
  obtain⟨b,us,rfl,_,hb,hr2⟩:=h2
  cases rx;cases ry
  have hd':1+Tr.deps ts≤100:=hd
  obtain⟨its,rv1,p1,_⟩:=I.list (AU.of (K:=X.K) ha)
  obtain⟨its2,rv2,p2,_⟩:=I.list (AU.of (K:=X.K) hb)
  have l1:=rv1.length.symm.trans (AB.len ts vs hr1)
  have l2:=rv2.length.symm.trans (AB.len ts us hr2)
  have q2:=SeqAt.RcNeAt.lists (A:=X.A) (s:=s) (e:=fun _=>true) p1.isList p2.isList (by simp[l1,l2]) (by omega) (fun j g1 g2=>IU I ts X.A.in1 vs us its its2 (by show X.A.units+1+Tr.deps ts<cLine;omega) hr1 hr2 rv1 rv2 j (by simpa using g1) (by simpa using g2))
  have e:(!(List.range its.toArray.size).all (fun _=>true))=false:=by simp
  rw[e] at q2
  exact q2 _ _ _ _ ⟨.bl _,H,I,rfl,q⟩
end
mutual
theorem Rep.mono {F G:Addr→Prop}{H:Hp}(h:∀a,F a→G a):∀(t:Tr) (v:V),Rep F H t v→Rep G H t v
 | .non,_,q=>q
 | .bl _,_,q=>q
 | .int _,_,q=>q
 | .str _,_,q=>q
 | .tup ts,_,⟨a,vs,e,ha,hr⟩=>⟨a,vs,e,ha,AB.mono h ts vs hr⟩
 | .lst ts,_,⟨a,vs,e,fa,ha,hr⟩=>⟨a,vs,e,h a fa,ha,AB.mono h ts vs hr⟩
theorem AB.mono {F G:Addr→Prop}{H:Hp}(h:∀a,F a→G a):∀(ts:List Tr) (vs:List V),AB F H ts vs→AB G H ts vs
 |[],_,q=>q
 |t::ts,_,⟨v,us,e,h1,h2⟩=>⟨v,us,e,Rep.mono h t v h1,AB.mono h ts us h2⟩
end
mutual
theorem Rep.upd {F:Addr→Prop}{H:Hp}{l:Addr}{us us':List V}(hl:H l=some (.lst us))(nl:¬F l):∀(t:Tr) (v:V),Rep F H t v→Rep F (upd H l (.lst us')) t v
 | .non,_,q=>q
 | .bl _,_,q=>q
 | .int _,_,q=>q
 | .str _,_,q=>q
 | .tup ts,_,⟨a,vs,e,ha,hr⟩=>⟨a,vs,e,by rw[Aj (AW ha hl (by intro z;cases z))];exact ha,AB.upd hl nl ts vs hr⟩
 | .lst ts,_,⟨a,vs,e,fa,ha,hr⟩=>⟨a,vs,e,fa,by rw[Aj (show a≠l from fun z=>nl (by rw[←z];exact fa))];exact ha,AB.upd hl nl ts vs hr⟩
theorem AB.upd {F:Addr→Prop}{H:Hp}{l:Addr}{us us':List V}(hl:H l=some (.lst us))(nl:¬F l):∀(ts:List Tr) (vs:List V),AB F H ts vs→AB F (L2.upd H l (.lst us')) ts vs
 |[],_,q=>q
 |t::ts,_,⟨v,ur,e,h1,h2⟩=>⟨v,ur,e,Rep.upd hl nl t v h1,AB.upd hl nl ts ur h2⟩
end
theorem SK {J:It} {xs:List V} {fr:List (Option Nat)} {k:Nat} {te:TE} {Q:VK} {σ:St} {H:Hp} (P:Nat→Hp→V→Hp→Prop) (hP:∀i H1 y H2 H3,P i H1 y H2→Aq H2 H3→P i H1 y H3)
  (hU:∀i H1 y H2 l us us' ws,P i H1 y H2→H1 l=some (.lst ws)→H2 l=some (.lst us)→P i H1 y (upd H2 l (.lst us'))) (hJ:N0 J H xs) (hn:xs.length≤1000000)
  (helt:∀(i:Nat) (x:V) (H':Hp) (R:VK),xs[i]?=some x→Aq H H'→(∀y H'',Aq H' H''→P i H' y H''→R y H'')→te ((stC fr σ).set k (some x)) H' R)
  (hQ:∀l H' (ys:List V),H l=none→Aq H H'→H' l=some (.lst ys)→ys.length=xs.length→(∀(i:Nat) y,ys[i]?=some y→∃H1,Aq H H1∧P i H1 y H')→Q (.ref l) H') :
  Gi fr (Cv k) NN te σ Q J H:=by
 intro l hl
 refine⟨fun i m σ' H'=>m=xs.length-i∧i≤xs.length∧(∀y,σ'.set k y=(stC fr σ).set k y)∧Aq H H'∧∃ys:List V,H' l=some (.lst ys)∧ys.length=i∧(∀(i:Nat) y,ys[i]?=some y→∃H1 ws,Aq H H1∧H1 l=some (.lst ws)∧P i H1 y H'),
  ⟨xs.length,by simp,Nat.zero_le _,fun _=>rfl,Am hl _,[],Ag,rfl,fun i y h=>by simp at h⟩,?_⟩
 rintro i m σ' H' ⟨rfl,hi,hσ,hs,ys,hl',hlen,hp⟩
 obtain⟨h1,h2,h3⟩:=hJ H' hs i
 by_cases hlt:i<xs.length
 ·refine .inr ⟨h1 hlt,fun x H'' y=>?_⟩
  obtain⟨rfl,hx⟩:=h2 x H'' y
  have hx:=hx hlt
  show te (σ'.set k (some x)) H'' _
  rw[hσ]
  refine helt i x H'' _ hx hs fun y H4 s4 py=>?_
  refine⟨_,s4.get hl',Bd (by omega),xs.length-(i+1),by omega,rfl,hlt,fun y=>by rw[List.set_set],A0 (hs.trans s4) hl _,ys++[y],Ag,by rw[List.length_append,hlen];rfl,fun j y' hy'=>?_⟩
  by_cases hj:j<ys.length
  ·rw[List.getElem?_append_left hj] at hy'
   obtain⟨H1,ws,a1,a2,a3⟩:=hp j y' hy'
   exact⟨H1,ws,a1,a2,hU _ _ _ _ _ _ _ _ (hP _ _ _ _ _ a3 s4) a2 (s4.get hl')⟩
  ·rw[List.getElem?_append_right (by omega)] at hy'
   by_cases hj2:j=ys.length
   ·subst hj2
    rw[Nat.sub_self] at hy'
    cases(Option.some.inj hy':y=y')
    rw[hlen]
    exact⟨H'',ys,hs,hl',hU _ _ _ _ _ _ _ _ py hl' (s4.get hl')⟩
   ·rw[List.getElem?_eq_none (by simp;omega)] at hy'
    cases hy'
 ·have e:i=xs.length:=by omega
  subst e
  exact .inl ⟨h3 (Nat.le_refl _),hQ l H' ys hl hs hl' hlen fun i y hy=>(let⟨H1,_,a1,_,a3⟩:=hp i y hy;⟨H1,a1,a3⟩)⟩
theorem Du {K:PySem.W.Frag}{a:Addr}{H:Hp}{xs:List V}(h:H a=some (.tup xs)):N0 (Wj K a) H xs:=fun H' s i=>
 ⟨fun hi=>⟨xs,xs[i],AY.of (s.get h),by simp[hi]⟩,fun x H'' y=>⟨y.1,fun _=>y.2 xs (AY.of (s.get h))⟩,fun hi=>⟨xs,AY.of (s.get h),hi⟩⟩
def Tr.ty:Tr→String
 | .non=>"NoneType"
 | .bl _=>"bool"
 | .int _=>"int"
 | .str _=>"str"
 | .tup _=>"tuple"
 | .lst _=>"list"
theorem Rep.tyN {F:Addr→Prop}{H:Hp}:∀{t:Tr} {v:V},Rep F H t v→L2.HN H v=t.ty
 | .non,_,h=>by rw[show _=V.non from h];rfl
 | .bl _,_,h=>by rw[show _=V.bl _ from h];rfl
 | .int _,_,h=>by rw[show _=V.int _ from h];rfl
 | .str z,_,h=>by rw[show _=V.str z from h];rfl
 | .tup ts,_,⟨a,vs,e,ha,_⟩=>by rw[e];simp only[L2.HN,ha];rfl
 | .lst ts,_,⟨a,vs,e,_,ha,_⟩=>by rw[e];simp only[L2.HN,ha];rfl
theorem IF {A:Around}{k:Nat}(hr:Room k A):A.units+150<cLine:=by have:=hr.un;omega
section
variable {σ:St}{H:Hp}{m k:Nat}{te:TE}{ta:TA}
theorem Tr.oks_append:∀{ts us:List Tr},Tr.oks ts→Tr.oks us→Tr.oks (ts++us)
 |[],_,_,h=>h
 |_::ts,_,h1,h2=>⟨h1.1,Tr.oks_append h1.2 h2⟩
theorem Tr.rep_ok {ts:List Tr}(h:Tr.oks ts):∀n:Nat,Tr.oks (List.replicate n ts).flatten
 |0=>trivial
 |n+1=>by rw[List.replicate_succ,List.flatten_cons];exact Tr.oks_append h (Tr.rep_ok h n)
end
end L2
namespace L2
open PySem PySem.Spec PyProof.Rows
def A7 (P:Program)(w:World)(K:PySem.W.Frag)(mg:Str→Option Value)(base:Heap)(k:Nat)(C:Addr)(m:Str)(ps:List Str)(sp:Sp):Prop:=
 ∃(f:Addr) (fd:FuncData),FnOk P w K mg base B9 k f fd ps sp∧Meth K C m f∧Binds K fd ps []
def MS (P:Program)(w:World)(K:PySem.W.Frag)(mg:Str→Option Value)(base:Heap)(k:Nat)(C:Addr)(x:Str)(ps:List Str)(sp:Sp):Prop:=
 ∃(f:Addr) (fd:FuncData),FnOk P w K mg base B9 k f fd ps sp∧Mk K C f∧mg x=some (.ref C)∧Binds K fd ps []
section
variable {X:Cx}{k:Nat}{x m:Str}{C:Addr}{ps:List Str}{sp:Sp}{e o:Expr}{es:List Expr}{t:TA}{ta:TE}{p apos pos:Pos}
theorem MF (D:MS X.prog X.w X.K X.mg X.base k C x ps sp) (hr:Room (k+1) X.A) (hg:Gl X x) (ha:PA X (e::es) t)
  (hdb:(x == ("__debug__":Str))=false:=by decide) (he:starEach (e::es) X.env=(false,eval e X.env)::starEach es X.env:=by rfl) (hpl:(backTo pos (starEach es X.env)).any (·.1)=false:=by rfl) :
  PE X (.Call (.Name x p) (e::es) [] pos) (Vr C sp [] E0 t):=by
 obtain⟨f,fd,F,M,hm,hb⟩:=D
 exact Ua M F hr hg hm hb .nil QD ha hdb he hpl
theorem Bc {pl:Sem Bool} (ho:PE X o ta) (c:Cls X.K C) (D:A7 X.prog X.w X.K X.mg X.base k C m ps sp) (hr:Room k X.A) (ha:PA X (e::es) t)
  (hst:starEach (e::es) X.env=(false,eval e X.env)::starEach es X.env:=by rfl) (hpl:(backTo pos (starEach es X.env)).any (·.1)=false:=by rfl)
  (ht:eval (.Call (.Attribute o m apos) (e::es) [] pos) X.env=(do
   let ov ←eval o X.env
   standAt apos.atName
   let(f,first) ←holding [ov] (getMethod ov m pl)
   callWith pos f first (backTo pos (starEach (e::es) X.env)) (backToKw pos (keywordEach [] X.env))):=by rfl) :
  PE X (.Call (.Attribute o m apos) (e::es) [] pos) (Qy C m sp [] E0 ta t):=by
 obtain⟨f,fd,F,M,hb⟩:=D
 exact Ur ho c M F hr hb .nil QD ha hst hpl ht
theorem Ep {pl:Sem Bool} (ho:PE X o ta) (c:Cls X.K C) (D:A7 X.prog X.w X.K X.mg X.base k C m ps sp) (hr:Room k X.A)
  (ht:eval (.Call (.Attribute o m apos) [] [] pos) X.env=(do
   let ov ←eval o X.env
   standAt apos.atName
   let(f,first) ←holding [ov] (getMethod ov m pl)
   callWith pos f first (backTo pos (starEach [] X.env)) (backToKw pos (keywordEach [] X.env))):=by rfl) :
  PE X (.Call (.Attribute o m apos) [] [] pos) (Qy C m sp [] E0 ta O4):=by
 obtain⟨f,fd,F,M,hb⟩:=D
 exact SD ho c M F hr hb .nil QD ht
end
end L2
namespace L2
open PySem PySem.Spec PyProof.Rows
section
variable {X:Cx}{els:List Expr}{kk:Nat}{pp:Pos}
end
end L2
namespace L2
open PySem PySem.Spec PyProof.Rows
theorem TH {P:Program}{w:World}{k:Key}{u:Value}(h:(AX P w).is k u=true):RelV (kV k) u:=by
 rcases Bt h with⟨i,t,rfl,rfl⟩|⟨x,t,rfl,rfl⟩
 ·exact⟨t,rfl⟩
 ·exact⟨t,rfl⟩
section
variable {X:Cx}{tg:Expr}
end
end L2
namespace L2
open PySem PySem.Spec PyProof.Rows
section
variable {X:Cx}
structure M0 (X:Cx) (o:Expr) (m:Str) (apos cpos:Pos):Prop where
 base:attributeBase o m X.env (eval o X.env)=eval o X.env
 few:((backTo cpos (starEach [] X.env)).all (fun x=>!x.1)&&(backToKw cpos (keywordEach [] X.env)).all (fun x=>x.1.isSome)
  && decide (([]:List Expr).length+([]:List Keyword).length+(if([]:List Keyword).isEmpty then 0 else 1)<30))=true
 line:(apos.endLine == cpos.line)=true
 trees:backTo cpos (starEach [] X.env)=[]
def Uc (td:TE):TE:=fun σ H Q=>td σ H fun x H1=>∃a kvs,x=.ref a∧H1 a=some (.dK kvs)∧Q .non (upd H1 a (.dK []))
theorem Rf {o:Expr}{td:TE}{apos cpos:Pos}(ho:PE X o td)(m:M0 X o "clear" apos cpos):PE X (.Call (.Attribute o "clear" apos) [] [] cpos) (Uc td):=by
 intro pins s σ H Q I h
 refine wpAny_Call_method m.base m.few m.line PySem.F.plainAttrs_dict PySem.F.slot_dict_clear PySem.F.type_dict_clear (Bo (ho pins s σ H _ I h) fun u s1 ⟨x,H1,I1,rx,a,kvs,ex,ea,q1⟩=>?_)
 subst ex
 obtain rfl:u=Value.ref a:=rx
 obtain⟨t1,t2,_⟩:=M9 I1 (.inl ⟨kvs,.inl ea⟩)
 refine⟨t1,t2,?_⟩
 rw[m.trees]
 exact Calls.callWith_builtin rfl (PySem.evalArgs_none (Uq I1 ea fun s3 I3=>⟨.non,_,I3,rfl,q1⟩))
end
theorem MM {t u:TS}{D:Ends}{σ:St}{H:Hp}(M:St→Hp→Prop)(h1:∀N:St→Hp→Prop,(∀σ' H',M σ' H'→N σ' H')→t { D with nx:=N } σ H)(h2:∀σ' H',M σ' H'→u D σ' H'):Wd t u D σ H:=h1 (u D) h2
theorem Kv {J:It} {xs:List V} {fr:List (Option Nat)} {k:Nat} {te:TE} {Q:VK} {σ:St} {H:Hp} (I:Nat→List V→Addr→Hp→Prop) (hn:xs.length≤1000000)
  (hJ:∀i ys l H',I i ys l H'→(i<xs.length→J.go i H')∧(∀x H'',J.yld i H' x H''→H''=H'∧(i<xs.length→xs[i]?=some x))∧(xs.length≤i→J.stop i H'))
  (h0:∀l,H l=none→I 0 [] l (upd H l (.lst [])))
  (step:∀(i:Nat) (x:V) (ys:List V) (l:Addr) (H':Hp) (R:VK),xs[i]?=some x→H l=none→H' l=some (.lst ys)→ys.length=i→I i ys l H'→(∀y H'',H'' l=some (.lst ys)→I (i+1) (ys++[y]) l (upd H'' l (.lst (ys++[y])))→R y H'')→te ((stC fr σ).set k (some x)) H' R)
  (hQ:∀l H' (ys:List V),H l=none→H' l=some (.lst ys)→ys.length=xs.length→I xs.length ys l H'→Q (.ref l) H'):Gi fr (Cv k) NN te σ Q J H:=by
 intro l hl
 refine⟨fun i m σ' H'=>m=xs.length-i∧i≤xs.length∧(∀y,σ'.set k y=(stC fr σ).set k y)∧∃ys:List V,H' l=some (.lst ys)∧ys.length=i∧I i ys l H',⟨xs.length,by simp,Nat.zero_le _,fun _=>rfl,[],Ag,rfl,h0 l hl⟩,?_⟩
 rintro i m σ' H' ⟨rfl,hi,hσ,ys,hl',hlen,hI⟩
 obtain⟨h1,h2,h3⟩:=hJ i ys l H' hI
 by_cases hlt:i<xs.length
 ·refine .inr ⟨h1 hlt,fun x H'' y=>?_⟩
  obtain⟨rfl,hx⟩:=h2 x H'' y
  have hx:=hx hlt
  show te (σ'.set k (some x)) H'' _
  rw[hσ]
  refine step i x ys l H'' _ hx hl hl' hlen hI fun y H4 hl4 hI4=>?_
  exact⟨ys,hl4,Bd (by omega),xs.length-(i+1),by omega,rfl,hlt,fun y=>by rw[List.set_set],ys++[y],Ag,by rw[List.length_append,hlen];rfl,hI4⟩
 ·have e:i=xs.length:=by omega
  subst e
  exact .inl ⟨h3 (Nat.le_refl _),hQ l H' ys hl hl' hlen hI⟩
theorem O8 {lo:Int}{n i:Nat}{H:Hp}:(i<((List.range n).map fun(i:Nat)=>V.int (lo+(i:Int))).length→(Uj lo n).go i H)∧(∀x H'',(Uj lo n).yld i H x H''→H''=H∧(i<((List.range n).map fun(i:Nat)=>V.int (lo+(i:Int))).length→((List.range n).map fun(i:Nat)=>V.int (lo+(i:Int)))[i]?=some x))∧(((List.range n).map fun(i:Nat)=>V.int (lo+(i:Int))).length≤i→(Uj lo n).stop i H):=by
 rw[List.length_map,List.length_range]
 refine⟨fun h=>h,fun x H'' y=>⟨y.1,fun h=>?_⟩,fun h=>h⟩
 rw[List.getElem?_map,List.getElem?_range h,y.2];rfl
end L2
namespace L2
open PySem PySem.Spec PyProof.Rows
theorem Bj.get {P:Program}{w:World}{H:Hp}{h:Heap}{a:Addr}{o:HO}(x:Bj P w H h a o):∃ob,h.get? a=some ob:=by
 cases o with
 |lst xs=>obtain⟨_,_,_,_,e⟩:=x;exact⟨_,e⟩
 |tup xs=>obtain⟨_,_,_,ob,e,_⟩:=x;exact⟨_,e⟩
 |dK kvs=>obtain⟨_,_,_,_,o,_,_,e,_⟩:=x;exact⟨_,e⟩
 |dT kvs=>obtain⟨_,_,_,_,o,_,_,e,_⟩:=x;exact⟨_,e⟩
 |set S n=>obtain⟨o,_,_,_,e,_⟩:=x;exact⟨_,e⟩
 |ins C dx fs=>obtain⟨_,_,_,e,_⟩:=x;exact⟨_,e⟩
 |own y=>obtain⟨_,e⟩:=x;exact⟨_,e⟩
 |xd fs=>obtain⟨_,⟨_,_,_,e,_⟩,_⟩:=x;exact⟨_,e⟩
 |rng lo hi=>obtain⟨_,_,_,e⟩:=x;exact⟨_,e⟩
 |frz ob u=>obtain⟨e,_⟩:=x;exact⟨_,e⟩
 |tbl ps=>exact⟨_,x⟩
 |met f y=>exact⟨_,x⟩
 |ext φ=>obtain⟨_,e,_⟩:=x;exact e
structure Fly (P:Program) (w:World) (outer:List Env) (H:Hp) (s:Shared) (ea:Addr) (cls:Value) (H':Hp) (B:Heap) (a0:Value) (s':Shared):Prop where
 os:s'.os=s.os
 bare:AllBare s'.gens
 un:Un (NM outer) [] H H' s.heap s'.heap
 hok:Ie P w H' B
 fl:Heap.FlyingW B outer ea cls a0 s'.heap
 kp:∀b o,s.heap.get? b=some o→H b=none→b∉NM outer→B.get? b=some o
 th:∀b o,s.heap.get? b=some o→b∉NM outer→∃o',B.get? b=some o'
section
variable {P:Program}{w:World}{outer:List Env}{H H':Hp}{s s':Shared}{ea:Addr}{cls a0:Value}{B h' base:Heap}
theorem Fly.stay (F:Fly P w outer H s ea cls H' B a0 s')(hl:s.heap.FunFrames base outer)(hn:∀b∈NM outer,H b=none)(sB:B.StaysIn h')(up:s'.heap.UpToSlots h'):Un (NM outer) [] H H' s.heap h':=by
 have sl:∀b o,s.heap.get? b=some o→b∈NM outer→∃sl,h'.get? b=some { o with slots:=sl }:=fun b o q hb=>by
  obtain⟨z,e⟩:=F.un.slot b o q (hn b hb) hb (by simp)
  obtain⟨_,o',ho',hd⟩:=hl.mem hb
  rw[q] at ho'
  cases ho'
  exact up b { o with slots:=z } e hd
 refine⟨fun b o q n hb _=>sB b o (F.kp b o q n hb),fun b o q _ hb _=>sl b o q hb,F.un.free,fun b o q _=>?_,F.un.tups,F.un.frzs,F.un.tbls⟩
 by_cases hb:b∈NM outer
 ·obtain⟨z,e⟩:=sl b o q hb
  exact⟨_,e⟩
 ·obtain⟨o',e⟩:=F.th b o q hb
  exact⟨o',sB b o' e⟩
theorem Fly.free (F:Fly P w outer H s ea cls H' B a0 s'):H' ea=none:=by
 cases e:H' ea with
 |none=>rfl
 |some u=>
  obtain⟨ob,q⟩:=(F.hok ea u e).get
  rw[F.fl.2.1] at q
  cases q
end
section
variable {X:Cx}{pins:List (Addr×Obj)}{σ:St}{H H':Hp}{s s':Shared}{ea:Addr}{cls a0:Value}{B h':Heap}
theorem Inv.landed (I:Inv X pins σ H s)(F:Fly X.prog X.w X.stack H s ea cls H' B a0 s')(sB:B.StaysIn h')(up:s'.heap.UpToSlots h'):Inv X pins σ H' { s' with heap:=h' }:=
 I.call' (s':={ s' with heap:=h' }) (ch:=[]) F.os (F.stay I.stack I.stkFree sB up) (F.hok.kept sB) F.bare (fun b z=>nomatch z)
end
section
variable {P:Program}{w:World}{K:PySem.W.Frag}{mg:Str→Option Value}{base:Heap}{N:List Str}{qual:Str}{scope:Scope}{f:Addr}{cd:Value}{A:Around}{outer:List Env}{s:Shared}{H:Hp}{E:XK}
end
abbrev Wm:List Value:=[.type "ValueError",.type "Exception",.type "BaseException",.type "object"]
section
variable {X:Cx}{E:XK}{x:Str}{C:Addr}{np cpos pos:Pos}
end
abbrev XS:=Value→St→Hp→Prop
abbrev TX:=Ends→XS→St→Hp→Prop
def XP (X:Cx)(pins:List (Addr×Obj))(Ex:XS)(e:Value)(s':Shared):Prop:=
 ∃(ea:Addr) (cls:Value) (σ':St) (H1 H':Hp) (s1:Shared) (B:Heap) (a0:Value),e=.ref ea∧Inv X pins σ' H1 s1∧Fly X.prog X.w X.stack H1 s1 ea cls H' B a0 s'∧Ex cls σ' H'
def PX (X:Cx)(st:Stmt)(t:TX):Prop:=
 ∀(pins:List (Addr×Obj)) (s:Shared) (σ:St) (H:Hp) (D:Ends) (Ex:XS),Inv X pins σ H s→t D Ex σ H→wpAny (model X.prog X.w) X.A (exec st X.env) (SP X pins D) (XP X pins Ex) s
def XI (X:Cx)(st:List Stmt)(t:TX):Prop:=
 ∀(pins:List (Addr×Obj)) (s:Shared) (σ:St) (H:Hp) (D:Ends) (Ex:XS),Inv X pins σ H s→t D Ex σ H→wpAny (model X.prog X.w) X.A (execs st X.env) (SP X pins D) (XP X pins Ex) s
section
variable {X:Cx}{st:Stmt}{rest:List Stmt}{e:Expr}{pos:Pos}
theorem QB {t:TS}(h:PS X.nox st t):PX X st (fun D _=>t D):=fun pins s σ H D Ex I q=>
 wpAny_mono (h pins s σ H D (I.wish _) q) (fun _ _ z=>z.unwish) fun _ _ z=>False.elim z
theorem Qw {t:TX}(h1:PX X st t):XI X [st] t:=by
 intro pins s σ H D Ex I h
 refine wpAny_execs_cons (Bo (h1 pins s σ H D Ex I h) fun f s1 q=>?_)
 cases f with
 |next=>exact wpAny_execs_nil q
 |ret v=>exact q
 |brk=>exact q
 |cont=>exact q
end
section
variable {X:Cx}{k:Nat}{x m:Str}{C:Addr}{ps:List Str}{sp:Sp}{E:XK}{e o:Expr}{es:List Expr}{t:TA}{ta:TE}{p pos apos:Pos}
end
def Cx.held (X:Cx)(e:Value):Cx:={ X with A:=X.A.mark (some e),calm:=false,xe:=fun _ _=>False }
section
variable {X:Cx}{pins:List (Addr×Obj)}{σ:St}{H:Hp}{s:Shared}{e:Value}
theorem Inv.held (I:Inv X pins σ H s)(e:Value):Inv (X.held e) pins σ H s:=
 ⟨⟨I.ok.mod,I.ok.kind,I.ok.glob,I.ok.blt,I.ok.above,I.ok.inj,I.ok.has,I.ok.cab,(fun z=>nomatch z),I.ok.frames,I.ok.stk,I.ok.exf,I.ok.bs,I.ok.bsz,I.ok.noex,I.ok.exfs,I.ok.funs,I.ok.frf⟩,I.os,I.bare,I.base,I.loc,I.cell,I.free,I.freeC,I.pin,I.hok,I.len⟩
theorem Inv.unheld (J:Inv X pins σ H s){σ':St}{H':Hp}{s':Shared}(I:Inv (X.held e) pins σ' H' s'):Inv X pins σ' H' s':=
 ⟨J.ok,I.os,I.bare,I.base,I.loc,I.cell,I.free,I.freeC,I.pin,I.hok,I.len⟩
theorem SP.unheld (J:Inv X pins σ H s){D:Ends}{f:Flow}{s':Shared}(h:SP (X.held e) pins D f s'):SP X pins D f s':=by
 cases f with
 |next=>obtain⟨σ',H',I,q⟩:=h;exact⟨σ',H',J.unheld I,q⟩
 |brk=>obtain⟨σ',H',I,q⟩:=h;exact⟨σ',H',J.unheld I,q⟩
 |cont=>obtain⟨σ',H',I,q⟩:=h;exact⟨σ',H',J.unheld I,q⟩
 |ret u=>obtain⟨v,σ',H',I,r,q⟩:=h;exact⟨v,σ',H',J.unheld I,r,q⟩
end
section
variable {X:Cx}{x:Str}{c:Value}{body orelse suite:List Stmt}{b₀:Stmt}{np hpos pos:Pos}
def Xr (K:PySem.W.Frag)(c:Value)(tb:TX)(te ts:TS):TS:=fun D σ H=>tb { D with nx:=te D } (fun cls σ' H'=>PySem.W.exmOne K cls c=some true∧ts D σ' H') σ H
theorem Sa {tb:TX} {te ts:TS} (hst:X.stack=X.env::X.outer∧X.env.frame=some X.env.locals) (hm:X.mg x=some c) (hg:Gl X x) (hb:XI X body tb) (he:Pt X orelse te) (hs:∀e,Pt (X.held e) (b₀::suite) ts)
  (hd:(x == ("__debug__":Str))=false:=by decide):PS X (.Try body [.ExceptHandler (some (.Name x np)) none (b₀::suite) hpos] orelse [] pos) (Xr X.K c tb te ts):=by
 intro pins s σ H D I h
 refine wpAny_Try_except (wpAny_mono (hb pins s σ H _ _ I h) (fun f s1 q=>?_) fun e s1 q=>?_)
 ·cases f with
  |next=>
   obtain⟨σ',H',I',q⟩:=q
   exact he pins s1 σ' H' D I' q
  |ret v=>exact q
  |brk=>exact q
  |cont=>exact q
 ·obtain⟨ea,cls,σ',H1,H',s2,B,a0,rfl,I2,F,hx,q⟩:=q
  have hfr:=I.ok.frames
  have fl:=F.fl
  rw[hst.1] at hfr fl
  refine wpAny_looks_onW hfr hst.2 fl fun h4 held4 up4=>?_
  refine wpAny_landsW held4 fun h5 fl5 up5=>?_
  have J5:=I2.landed F fl5.1 (up4.trans up5)
  refine wpAny_handleBy_cons (codeAny_handlers_test (Kw (J5.held (.ref ea)) hg hm ?_ hd)) (by intro z;cases z)
  obtain⟨ob,hob,hcls⟩:=fl5.there
  have LT:PySem.W.Looks (model X.prog X.w) h5 (typeOf (.ref ea)) cls:=by
   subst hcls
   exact(PySem.W.Looks.ld hob).andThen .now
  refine(PySem.W.exm_one J5.kIn LT hx).here ?_
  refine codeAny_handlers_suite (lands_againW fl5 fun h6 fl6 up6=>?_)
  have J6:=I2.landed F fl6.1 ((up4.trans up5).trans up6)
  exact wpAny_mono (hs (.ref ea) pins _ σ' H' D (J6.held (.ref ea)) q) (fun f s7 z=>z.unheld J6) fun _ _ z=>False.elim z
end
end L2
namespace L2
open PySem PySem.Spec PyProof.Rows
section
variable {X:Cx}
end
end L2
namespace L2
open PySem PySem.Spec PyProof.Rows
section
variable {X:Cx}
end
end L2
namespace L2
open PySem PySem.Spec PyProof.Rows
section
variable {prog:Program}{w:World}{A:Around}{E:Value→Shared→Prop}{s:Shared}{it t:Addr}{i:Nat}{its:Array Value}{Q:Value→Shared→Prop}
end
structure ZA (z TI TO i1 i2:Addr) (f1 f2:List Addr):Prop where
 TIz:TI≠z
 TOz:TO≠z
 i1z:i1≠z
 i2z:i2≠z
 TITO:TI≠TO
 TIi1:TI≠i1
 TIi2:TI≠i2
 TOi1:TO≠i1
 TOi2:TO≠i2
 i12:i1≠i2
 z1:z∉f1
 o1:TO∉f1
 j1:i2∉f1
 z2:z∉f2
 o2:TO∉f2
 j2:i1∉f2
section
variable {prog:Program}{w:World}{A:Around}{E:Value→Shared→Prop}{s:Shared}{z TI TO i1 i2:Addr}{f1 f2:List Addr}{n i:Nat}{P1 P2:Nat→Value→Prop}{St1 St2:Nat→Heap→Prop}{a b:Value}
end
section
variable {prog:Program}{w:World}{A:Around}{E:Value→Shared→Prop}{s:Shared}{z TI TO i1 i2:Addr}{f1 f2:List Addr}{n i:Nat}{P1 P2:Nat→Value→Prop}{St1 St2:Nat→Heap→Prop}{a b:Value}
end
section
variable {X:Cx}{pins:List (Addr×Obj)}{σ:St}{H:Hp}{s:Shared}{h':Heap}
end
section
variable {X:Cx}{els:List Expr}{kk:Nat}{pp:Pos}
end
end L2
namespace L2
open PySem PySem.Spec PyProof.Rows
section
variable {M:Model}{A:Around}{E:Value→Shared→Prop}{s:Shared}{base:Heap}{env:Env}{outer l:List Env}{L e:Addr}{cls a0 fl:Value}
structure Retraced (base h h':Heap) (T:Addr) (ts:Array Value) (v:Value):Prop where
 here:∃o',h'.get? T=some o'∧o'.data=.fields (ts.setIfInBounds 3 v)
 rest:∀b o,b≠T→h.get? b=some o→h'.get? b=some o
 low:base.StaysIn h→base.StaysIn h'
 plain:∀b o,h.get? b=some o→(∀vs,o.data≠.fields vs)→h'.get? b=some o
end
section
variable {P:Program}{w:World}{K:PySem.W.Frag}{mg:Str→Option Value}{base:Heap}{N:List Str}{qual:Str}{scope:Scope}{f:Addr}{cd:Value}{A:Around}{outer:List Env}{s:Shared}{H:Hp}{E:XK}
end
section
variable {X:Cx}
end
end L2
namespace L2
section
open PySem PySem.Calls PyProof.Rows PySem.W Builtin Builtin.ObjectAttr Builtin.Getset_descriptor
section
variable {prog:Program}{w:World}{A:Around}{E:Value→Shared→Prop}{K:Frag}{e D:Addr}
structure IsExc (h:Heap) (e D:Addr):Prop where
 ob:∃o,h.get? e=some o∧o.cls=.ref D∧∃vs,o.data=.fields vs
theorem IsExc.ty {h:Heap}(z:IsExc h e D){M:Model}:Looks M h (typeOf (.ref e)) (.ref D):=by
 obtain⟨o,q,c,_⟩:=z.ob
 rw[←c]
 exact(Looks.ld q).andThen .now
theorem Rh {tp:Value}{s:Shared}{R:Result→Shared→Prop}(k:K.In s.heap)(z:IsExc s.heap e D)(hm:mroIn K D (.type "object")=some true)(q:R (.ok (.ret (.ref D))) s) :
  codeAny (model prog w) A (.call (.builtin "getset_descriptor.__get__") ⟨[.builtin "object.__class__",.ref e,tp],[]⟩) R s:=by
 obtain⟨h1,g1,d1,t1,o1⟩:=s
 have T0:=z.ty (M:=model prog w)
 have T1:=looks_mroIn (M:=model prog w) k hm
 have slot:=KF.slot_gs
 refine codeAny_call_builtin slot.plain KF.entry_gs (slot.check _ _ _ _ _ _ _ _ KF.type_class (KF.args_gs _ _ _) ?_)
 simp only[Builtin.«getset_descriptor.__get__»,descrGet,dga_obj]
 refine wpAny_bind (wpAny_pure ?_)
 dsimp only[descrGetter,descrCheckInstance,descrNameAndClass,isInstance]
 rw[show descrOwnerAndName "object.__class__"=("object","__class__") from KF.owner_class]
 repeat lk
 refine⟨Code.quiet_builtin (id:="object.__class__") _ (by decide +kernel),codeAny_builtin KF.entry_class ?_⟩
 simp only[Builtin.«object.__class__»,shownTypeOf]
 repeat lk
 exact q
theorem T4 {h:Heap} {M:Model} (k:K.In h) (ha:findIn K (.ref D) "__class__"=some (some (.builtin "object.__class__")))
  (hn:specialIn K (.builtin "object.__class__") "__get__"=some (some (.builtin "getset_descriptor.__get__"))) (ht:takesIn K (.builtin "object.__class__")=some true) :
  Looks M h (find (.ref e) (.ref D) "__class__") (.bind (.builtin "getset_descriptor.__get__") (.builtin "object.__class__")):=
 (looks_findIn k ha).andThen ((show Looks M h (getOf (some (.builtin "object.__class__"))) (some (.builtin "getset_descriptor.__get__")) from looks_specialIn k hn).andThen
  ((show Looks M h (dataDescriptor? (some (.builtin "object.__class__")) (some (.builtin "getset_descriptor.__get__"))) (some (.builtin "getset_descriptor.__get__",.builtin "object.__class__")) from(looks_takesIn k ht).andThen .now).andThen (Looks.tag .now)))
theorem RG {nv:Value}{s:Shared}{Q:Unit→Shared→Prop}{M:Model}(k:K.In s.heap)(z:IsExc s.heap e D)(hb:mroIn K D (.type "BaseException")=some true)(q:Q () s) :
  wpAny M A (checkBuiltinCall "BaseException.__getattribute__" ⟨[.ref e,nv],[]⟩) Q E s:=by
 obtain⟨h1,g1,d1,t1,o1⟩:=s
 have b1:builtinKind "BaseException.__getattribute__"=some .slot:=by decide +kernel
 have b2:splitId "BaseException.__getattribute__"=some ("BaseException","__getattribute__"):=by decide +kernel
 have b3:=F.args_bexc_ga (.ref e) nv
 have T:Looks M h1 (isInstance (.ref e) (.type "BaseException")) true:=z.ty.andThen (looks_mroIn k hb)
 simp only[checkBuiltinCall,b1,b2]
 refine wpAny_bind (T.at ?_)
 rw[if_neg (by decide)]
 repeat wp_step
 exact q
theorem Q7 {tk:Tok} {s:Shared} {Q:Fin→Shared→Prop} (k:K.In s.heap) (z:IsExc s.heap e D) (ha:findIn K (.ref D) "__class__"=some (some (.builtin "object.__class__")))
  (hn:specialIn K (.builtin "object.__class__") "__get__"=some (some (.builtin "getset_descriptor.__get__"))) (ht:takesIn K (.builtin "object.__class__")=some true) (hm:mroIn K D (.type "object")=some true) (q:Q (.done (.ret (.ref D))) s) :
  wpAny (model prog w) A (Builtin.«object.__getattribute__» ⟨[.ref e,.str "__class__" tk],[]⟩) Q E s:=by
 obtain⟨h1,g1,d1,t1,o1⟩:=s
 have T0:=z.ty (M:=model prog w)
 have T1:=T4 (e:=e) (M:=model prog w) k ha hn ht
 have s0:slotArgs "__getattribute__" 1 ⟨[.ref e,.str "__class__" tk],[]⟩=pure (Value.ref e,[Value.str "__class__" tk]):=by kernel_rfl
 have s1:attrName (.str "__class__" tk)=pure "__class__":=by kernel_rfl
 simp only[Builtin.«object.__getattribute__»,s0]
 refine wpAny_bind (wpAny_pure ?_)
 dsimp only
 rw[s1]
 refine wpAny_bind (wpAny_pure (wpAny_bind (T0.at (wpAny_bind (T1.at ?_)))))
 dsimp only
 unfold bindTo
 dsimp only
 refine wpAny_bind (wpAny_call (Rh (s:=⟨h1,g1,d1,t1,o1⟩) k z hm ?_))
 exact wpAny_pure q
theorem Rp {s:Shared} {Q:Option Value→Shared→Prop} (k:K.In s.heap) (z:IsExc s.heap e D) (hga:findIn K (.ref D) "__getattribute__"=some (some (.builtin "BaseException.__getattribute__"))) (hgg:findIn K (.ref D) "__getattr__"=some none)
  (ha:findIn K (.ref D) "__class__"=some (some (.builtin "object.__class__"))) (hn:specialIn K (.builtin "object.__class__") "__get__"=some (some (.builtin "getset_descriptor.__get__"))) (ht:takesIn K (.builtin "object.__class__")=some true)
  (hm:mroIn K D (.type "object")=some true) (hb:mroIn K D (.type "BaseException")=some true) (q:Q (some (.ref D)) { s with toks:=s.toks+1 }) :
  wpAny (model prog w) A (getAttr? (.ref e) "__class__") Q E s:=by
 obtain⟨h1,g1,d1,t1,o1⟩:=s
 have T0:=z.ty (M:=model prog w)
 have T1:=looks_findIn (M:=model prog w) k hga
 have T2:=looks_findIn (M:=model prog w) k hgg
 have B:=F.excAttr_ValueError.ga.bind (.ref e)
 simp only[getAttr?,getAttrBy?,getAttrBy]
 refine wpAny_bind (wpAny_mkText (wpAny_bind (wpAny_attempt (wpAny_holding (wpAny_bind (T0.at (wpAny_bind (T1.at ?_))))))))
 have n0:(onTheHeap (Value.ref D)&&Value.builtin "BaseException.__getattribute__" == Value.builtin "object.__getattribute__")=false:=by
  have:(Value.builtin "BaseException.__getattribute__" == Value.builtin "object.__getattribute__")=false:=by decide +kernel
  rw[this];rfl
 dsimp only
 rw[if_neg (by rw[n0];decide)]
 unfold getAttrByItsOwn hookBefore
 rw[if_pos (by rfl)]
 refine wpAny_bind (T2.at (wpAny_bind (wpAny_attempt (wpAny_holding ?_))))
 unfold callGetattribute boundAndCalled
 rw[if_neg (by decide),B]
 refine wpAny_bind (wpAny_pure ?_)
 dsimp only
 refine wpAny_call (codeAny_call_builtin F.excAttr_ValueError.ga.plain F.entry_bexc_ga ?_)
 refine RG (s:=⟨h1,g1,d1,t1+1,o1⟩) k ⟨z.ob⟩ hb (Q7 (s:=⟨h1,g1,d1,t1+1,o1⟩) k ⟨z.ob⟩ ha hn ht hm ?_)
 dsimp only
 exact handed_on rfl (wpAny_pure q)
structure ExcCls (K:Frag) (D:Addr):Prop where
 ga:findIn K (.ref D) "__getattribute__"=some (some (.builtin "BaseException.__getattribute__"))
 gg:findIn K (.ref D) "__getattr__"=some none
 cl:findIn K (.ref D) "__class__"=some (some (.builtin "object.__class__"))
 sp:specialIn K (.builtin "object.__class__") "__get__"=some (some (.builtin "getset_descriptor.__get__"))
 tk:takesIn K (.builtin "object.__class__")=some true
 mo:mroIn K D (.type "object")=some true
 mb:mroIn K D (.type "BaseException")=some true
theorem ExcCls.there (c:ExcCls K D):∃o,K.lookup D=some o∧∃cd,o.data=.cls cd:=by
 obtain⟨cd,h,_⟩:=Option.bind_eq_some_iff.mp c.mo
 unfold clsIn at h
 split at h
 ·rename_i o d' cd' sl' ho
  exact⟨_,ho,_,rfl⟩
 ·cases h
theorem ExcCls.kit (c:ExcCls K D):KitX K (.ref e) (.ref D) (fun h=>IsExc h e D) where
 ty:=fun _ _ _ z=>z.ty
 it:=fun M h k _=>by
  obtain⟨⟨oc,od,oda,os⟩,h1,cd,h2⟩:=c.there
  dsimp only at h2
  subst h2
  intro A1 Q1 E1 s1 st q
  unfold isType loadHead
  exact wpAny_bind (wpAny_loadPart (st _ _ (k _ _ h1)) (wpAny_pure q))
 ne:=fun h tp dd its n sl k ht=>by
  obtain⟨o,h1,cd,h2⟩:=c.there
  cases q:(Value.ref D == Value.ref tp) with
  |false=>rfl
  |true=>
   cases Value.ref.inj (beq_iff_eq.mp q)
   rw[k _ _ h1] at ht
   cases ht
   cases h2
 ca:=fun k z q=>Rp k z c.ga c.gg c.cl c.sp c.tk c.mo c.mb q
end
end
open PySem PySem.Spec PyProof.Rows
section
variable {X:Cx}{pins:List (Addr×Obj)}{σ:St}{H:Hp}{s:Shared}
end
section
variable {X:Cx}{x n:Str}{c:Value}{body orelse suite:List Stmt}{b₀:Stmt}{np hpos pos:Pos}{i:Nat}
end
section
variable {X:Cx}{e:Expr}{es:List Expr}{pos:Pos}
end
end L2
namespace L2
open PySem PySem.Spec PyProof.Rows
section
variable {X:Cx}{k:Nat}{x:Str}{f C:Addr}{fd:FuncData}{ps:List Str}{sp:Sp}{E:XK}{e:Expr}{es:List Expr}{t:TA}{p pos:Pos}
end
section
variable {X:Cx}
end
section
variable {X:Cx}
end
end L2
namespace L2
section
open PySem
open Sem (wp wp_bind' wp_mono)
def VZ (o:Obj):Prop:=∃vs,o.data=.fields vs∧vs[2]?=some .none
def DictAt (h:Heap)(e:Addr)(d:Option Addr):Prop:=∃o,h.objs[e]?=some o∧o.dict=d∧VZ o
variable {α β:Type}
end
section
open PySem PySem.Calls PyProof.Rows PySem.W Builtin Builtin.ObjectAttr
def Tv:List Value→Bool
 | .ref _::r=>Tv r
 |l=>l == Wm
def Xs (K:Frag)(C:Addr):Bool:=(clsIn K C).any fun cd=>Tv cd.mro
section
variable {prog:Program}{w:World}{A:Around}{E:Value→Shared→Prop}{s:Shared}{K:Frag}{x C:Addr}{vs:Array Value}{name:Str}{v:Value}
structure ExiCls (K:Frag) (C:Addr):Prop extends ExcCls K C where
 sa:findIn K (.ref C) "__setattr__"=some (some (.builtin "object.__setattr__"))
 ve:Xs K C=true
 hd:hasDictIn K C=true
end
def WL (K:Frag)(C:Addr):Bool:=(K.lookup C).any fun o=>match o with
 |⟨.type t,_,.cls cd,sl⟩=>t == "type" && !cd.hasDel&&(match cd.mro with | .ref D::tl=>D == C&&tailIn K Wm tl|_=>false)&&(match sl.toList with|[_,_,_,_,some (.builtin n),_]=>n == "ValueError.__new__"|_=>false)
 |_=>false
section
variable {prog:Program}{w:World}{A:Around}{E:Value→Shared→Prop}{s:Shared}{K:Frag}{C f:Addr}{us:List Value}
end
end
section
open PySem PySem.Spec PyProof.Rows
variable {X:Cx}{pins:List (Addr×Obj)}{σ:St}{H:Hp}{s:Shared}
structure MkX (K:PySem.W.Frag) (C f:Addr):Prop where
 ex:WL K C=true
 init:PySem.W.findIn K (.ref C) "__init__"=some (some (.ref f))
 fn:PySem.W.isFn K (.ref f)=true
 kp:PySem.W.keepIn K (.ref C)=true
end
section
open PySem PySem.Spec PyProof.Rows
theorem DictAt.get {h:Heap}{e:Addr}{d:Option Addr}{o:Obj}(j:DictAt h e d)(q:h.get? e=some o):o.dict=d∧VZ o:=by
 obtain⟨o1,e1,h1⟩:=j
 unfold Heap.get? at q
 rw[e1] at q
 split at q
 ·cases q
 ·cases q;exact h1
section
variable {P:Program}{w:World}{K:PySem.W.Frag}{mg:Str→Option Value}{base:Heap}{N:List Str}{qual:Str}{scope:Scope}{f:Addr}{cd:Value}{A:Around}{outer:List Env}{s:Shared}{H:Hp}{E:XK}
end
end
section
open PySem PySem.Spec PyProof.Rows
variable {X:Cx}{E:XK}{x:Str}{C:Addr}{f:Str}{ps:List Str}{k:Nat}{e:Expr}{t:TA}{np cpos pos:Pos}
end
section
open PySem PySem.Spec PyProof.Rows
variable {X:Cx}{k:Nat}{x:Str}{ps:List Str}{sp:Sp}{E:XK}{e:Expr}{es:List Expr}{t:TA}{p pos:Pos}
end
section
open PySem PySem.Calls PyProof.Rows PySem.W
structure IsExcD (h:Heap) (e D:Addr) (d:Option Addr):Prop where
 is:IsExc h e D
 dj:∃o,h.get? e=some o∧o.dict=d∧VZ o
end
section
open PySem PySem.Spec PyProof.Rows
variable {X:Cx}{pins:List (Addr×Obj)}{σ:St}{H:Hp}{s:Shared}
variable {x n:Str}{c:Value}{body orelse suite:List Stmt}{b₀:Stmt}{np hpos pos:Pos}{i:Nat}
end
section
open PySem PySem.Calls PyProof.Rows PySem.W Builtin Builtin.ObjectAttr Builtin.Getset_descriptor
variable {prog:Program}{w:World}{A:Around}{E:Value→Shared→Prop}{K:Frag}{e D:Addr}{oe od:Obj}{name:Str}{v:Value}{s:Shared}
end
section
open PySem PySem.Spec PyProof.Rows
variable {X:Cx}{pins:List (Addr×Obj)}{σ:St}{H:Hp}{s:Shared}
end
end L2
namespace L2
section
open PySem PySem.Calls PyProof.Rows
variable {prog:Program}{w:World}{A:Around}{E:Value→Shared→Prop}{s:Shared}
theorem Jl (h:Heap):h.get? h.objs.size=none:=by
 cases e:h.get? h.objs.size with
 |none=>rfl
 |some o=>exact absurd (Heap.lt_size e) (Nat.lt_irrefl _)
def Qr (Q:Value→Shared→Prop)(vs:List Value)(s1:Shared):Prop:=∃ss,StrsAre vs ss∧vs.length<64∧
 ∀h' p (out:List Value) ss' c,StrsAre out ss'→ss'.Perm ss→sortedS ss'=true→s1.heap.objs.size≤p→(∀b o,s1.heap.get? b=some o→h'.get? b=some o)→
  h'.get? p=some (seqObj "list" out.toArray c)→Q (.ref p) { s1 with heap:=h' }
theorem LV {x:Value}{Q:Value→Shared→Prop}(hc:wpAny (model prog w) A.in1 (collect x) (Qr Q) E s):wpAny (model prog w) A (call (.builtin "sorted") [x]) Q E s:=by
 refine Calls.call_function_entry kind_sorted plain_sorted entry_sorted (args_sorted1 x) ?_
 unfold Builtin.«sorted»
 refine wpAny_bind (m:=checkCount "sorted" 1 1 _) (wpAny_pure (wpAny_bind (wpAny_mono hc (fun vs s1 z=>?_) fun _ _ e=>e)))
 obtain⟨ss,hS,few,q⟩:=z
 refine wpAny_bind (wpAny_newList ?_)
 have there:(s1.heap.push (seqObj "list" vs.toArray 0)).get? s1.heap.objs.size=some (seqObj "list" vs.toArray 0):=Heap.get?_push_size _ rfl
 refine wpAny_bind (wpAny_holding (wpAny_call_entry slot_list_sort ⟨_,there,rfl⟩ entry_list_sort (list_sort_treeK strKind_oneLt there hS.keysOf (fun v₁ v₂ rest e=>keyKind_strs (by rw[←e];exact hS)) few fun st' pm so=>⟨_,rfl,?_⟩) (args_list_sort _)))
 obtain⟨ss',y1,y2,y3⟩:=sorted_out_str hS pm so
 obtain⟨c,hp⟩:=sortedHeap_at (out:=(arrOf st').map (·.2)) there
 refine wpAny_pure ⟨_,rfl,q _ _ ((arrOf st').map (·.2)).toList ss' c y1 y2 y3 (Nat.le_refl _) (fun b o e=>?_) (by rw[Array.toArray_toList];exact hp)⟩
 have lt:=Heap.lt_size e
 show Heap.get? _ b=some o
 rw[sortedHeap_old (Nat.ne_of_lt lt) (by rw[Heap.size_push];exact Nat.lt_succ_of_lt lt)]
 exact Heap.get?_push_of_some _ e
def VL (S:Addr)(Q:List Value→Shared→Prop)(r:Result)(s':Shared):Prop:=∃acc c,r=.ok (.ret (.ref S))∧s'.heap.get? S=some { cls:=.type "list",dict:=none,data:=.seq acc c,slots:=#[] }∧Q acc.toList s'
theorem JZ {x:Value} {Q:List Value→Shared→Prop} (h:wpAny (model prog w) A.in1 (Builtin.List.listExtendWith (.ref s.heap.objs.size) x (.ref s.heap.objs.size))
   (fun fin s'=>match fin with | .done f=>VL s.heap.objs.size Q (.ok f) s' | .again c'=>c'.quiet=true∧codeAny (model prog w) A c' (VL s.heap.objs.size Q) s') (fun e s'=>VL s.heap.objs.size Q (.error e) s')
   { s with heap:=s.heap.push { cls:=.type "list",data:=.seq #[] } }):wpAny (model prog w) A (collect x) Q E s:=by
 unfold collect
 refine wpAny_bind (wpAny_runValue (codeAny_builtin PySem.F.entry_proto_collect ?_))
 rw[Around.under_plainId PySem.F.plain_proto_collect _]
 refine wpAny_bind (wpAny_newObj_type (wpAny_pure ⟨plainId_quiet PySem.F.plain_list_iadd _,codeAny_builtin PySem.F.entry_list_iadd ?_⟩))
 rw[Around.under_plainId PySem.F.plain_list_iadd _]
 refine wpAny_mono h (fun fin s' z=>?_) (fun e s' z=>?_)
 ·cases fin with
  |done f=>
   obtain⟨acc,c,e,hS,q⟩:=z
   cases e
   exact wpAny_bind (wpAny_load hS (wpAny_pure q))
  |again c'=>
   refine⟨z.1,codeAny_mono z.2 fun r s2 z2=>?_⟩
   obtain⟨acc,c,rfl,hS,q⟩:=z2
   exact wpAny_bind (wpAny_load hS (wpAny_pure q))
 ·obtain⟨acc,c,e,_⟩:=z
  cases e
theorem OF {T:String} {r d:Addr} {n:Nat} {P:Nat→Value→Prop} {OK:Heap→Prop} {Q:List Value→Shared→Prop} (S:PySem.W.KdlSrc prog w T r d n P OK) (hh:A.handled=none) (ok:OK s.heap) (hn:n≤sizeLine)
  (q:∀h' tk (vs:List Value),(∀b o,s.heap.get? b=some o→h'.get? b=some o)→vs.length=n→(∀j v,vs[j]?=some v→P j v)→Q vs { s with heap:=h',toks:=tk }):wpAny (model prog w) A (collect (.ref r)) Q E s:=by
 obtain⟨lr,ld⟩:=S.there _ ok
 refine JZ (PySem.W.kdl_extend S hh (S.keep _ _ ok fun b _ o e=>Heap.get?_push_of_some _ e) s.heap.objs.size (Nat.ne_of_gt lr) (Nat.ne_of_gt ld) (.ref s.heap.objs.size) 0 (Heap.get?_push_size _ rfl) (fun h' tk acc c k hS it=>?_) hn)
 refine⟨acc,c,rfl,hS,q h' tk acc.toList (fun b o e=>k b o (Nat.ne_of_lt (Heap.lt_size e)) (Heap.get?_push_of_some _ e)) (by rw[Array.length_toList];exact it.1) fun j v e=>it.2 j v (by rw[←Array.getElem?_toList];exact e)⟩
theorem Mj:Manifest.owners.lookup (String.ofList "rotareti_tes".toList.reverse)=some Manifest.sig_set_iterator:=by kernel_rfl
theorem E4:Slot "set_iterator" "__next__" "set_iterator.__next__":=
 .of (owner:="set_iterator") (n:="__next__") (by rw[typeLookup_type,builtinLookup_eq_fast];kernel_rfl) (by decide +kernel) (by decide +kernel) (by decide +kernel) (by first|exact .inl (by decide +kernel)|exact .inr (by decide +kernel)) (by rw[isSubtype_type];kernel_rfl)
theorem HJ:entryFor table "set_iterator.__next__"=some Builtin.«set_iterator.__next__»:=entryFor_of_fast (by kernel_rfl)
theorem Jf (a:Value):argsOk "set_iterator.__next__" ⟨[a],[]⟩:=by
 unfold argsOk
 rw[signature?_of (id:="set_iterator.__next__") (n:="__txen__".toList) (o:="rotareti_tes".toList) (by kernel_rfl) Mj]
 kernel_rfl
theorem K1:entryFor table "set.__iter__"=some Builtin.«frozenset.__iter__»:=entryFor_alias (id':="frozenset.__iter__") (by kernel_rfl) rfl (by decide +kernel) (by kernel_rfl)
theorem Lv {it:Addr} {T id:String} {B:Builtin} {Q:Option Value→Shared→Prop} (slot:Slot T "__next__" id) (hT:s.TypeIs (.ref it) T) (entry:entryFor table id=some B) (args:argsOk id ⟨[.ref it],[]⟩)
  (h:wpAny (model prog w) A.in1 (B ⟨[.ref it],[]⟩) (fun fin s'=>∃v,fin=.done (.ret v)∧Q (some v) s') (fun _ _=>False) s):wpAny (model prog w) A (pyNext (.ref it)) Q E s:=by
 unfold pyNext
 refine wpAny_bind (wpAny_attempt (wpAny_callSpecial?_slot (name:=Str.ofString "__next__") hT slot (wpAny_call_entry slot hT entry (wpAny_mono h (fun fin s' z=>?_) fun _ _ z=>z.elim) args)))
 obtain⟨v,rfl,q⟩:=z
 exact⟨v,rfl,wpAny_pure q⟩
theorem Lj {it:Addr} {T id:String} {B:Builtin} {Q:Option Value→Shared→Prop} (slot:Slot T "__next__" id) (hT:s.TypeIs (.ref it) T) (entry:entryFor table id=some B) (args:argsOk id ⟨[.ref it],[]⟩)
  (h:wpAny (model prog w) A.in1 (B ⟨[.ref it],[]⟩) (fun _ _=>False) (fun x s'=>∃a o,x=.ref a∧s'.heap.get? a=some o∧o.cls=.type "StopIteration"∧Q none s') s):wpAny (model prog w) A (pyNext (.ref it)) Q E s:=by
 unfold pyNext
 refine wpAny_bind (wpAny_attempt (wpAny_callSpecial?_slot (name:=Str.ofString "__next__") hT slot (wpAny_call_entry slot hT entry (wpAny_mono h (fun _ _ z=>z.elim) fun x s' z=>?_) args)))
 obtain⟨a,o,rfl,e,c,q⟩:=z
 exact wpAny_bind (wpAny_isInstance (T:="StopIteration") (b:=true) ⟨o,e,c⟩ isSubtype_stop (wpAny_pure q))
theorem Mq {α:Type} {Q:α→Shared→Prop} (hh:A.handled=none)
  (q:∀h' x,(∀b o,s.heap.get? b=some o→h'.get? b=some o)→(∃o,h'.get? x=some o∧o.cls=.type "StopIteration")→E (.ref x) { s with heap:=h' }) :
  wpAny (model prog w) A (newExc (.type "StopIteration") [] >>= raiseNew:Sem α) Q E s:=by
 refine wpAny_bind ?_
 simp only[newExc,newTuple]
 refine wpAny_bind (wpAny_newObj_type ?_ (by size_fits))
 refine wpAny_bind (m:=firstArgMember _ _) (wpAny_of_eq (a:=Value.none) (by simp only[firstArgMember];rfl) (wpAny_newObj_type ?_ (by size_fits)))
 unfold raiseNew
 refine wpAny_bind (wpAny_handled ?_)
 rw[hh]
 exact wpAny_throw (q _ _ (fun b o z=>Heap.get?_push_of_some _ (Heap.get?_push_of_some _ z)) ⟨_,Heap.get?_push_size _ rfl,rfl⟩)
theorem HU:Slot "set_iterator" "__iter__" "set_iterator.__iter__":=
 .of (owner:="set_iterator") (n:="__iter__") (by rw[typeLookup_type,builtinLookup_eq_fast];kernel_rfl) (by decide +kernel) (by decide +kernel) (by decide +kernel) (by first|exact .inl (by decide +kernel)|exact .inr (by decide +kernel)) (by rw[isSubtype_type];kernel_rfl)
theorem K7:entryFor table "set_iterator.__iter__"=some Builtin.«dict_keyiterator.__iter__»:=entryFor_alias (id':="dict_keyiterator.__iter__") (by kernel_rfl) rfl (by decide +kernel) (by kernel_rfl)
theorem LR (a:Value):argsOk "set_iterator.__iter__" ⟨[a],[]⟩:=by
 unfold argsOk
 rw[signature?_of (id:="set_iterator.__iter__") (n:="__reti__".toList) (o:="rotareti_tes".toList) (by kernel_rfl) Mj]
 kernel_rfl
def Ge (h:Heap)(a:Addr)(es:Array (Int×Value))(ep:Nat)(t:SetTable):Prop:=∃o,h.get? a=some o∧o.cls=.type "set"∧o.data=.set es ep t
def IL (h:Heap)(it a:Addr)(first:Value)(i n ep:Nat):Prop:=∃o,h.get? it=some o∧o.cls=.type "set_iterator"∧o.data=.fields #[first,rawInt i,.ref a,rawInt n,rawInt ep]
theorem Ge.keep {h h':Heap}{a:Addr}{es:Array (Int×Value)}{ep:Nat}{t:SetTable}(x:Ge h a es ep t)(k:∀o,h.get? a=some o→h'.get? a=some o):Ge h' a es ep t:=let⟨o,e,r⟩:=x;⟨o,k o e,r⟩
theorem IL.keep {h h':Heap}{it a:Addr}{f:Value}{i n ep:Nat}(x:IL h it a f i n ep)(k:∀o,h.get? it=some o→h'.get? it=some o):IL h' it a f i n ep:=let⟨o,e,r⟩:=x;⟨o,k o e,r⟩
theorem IL.typeIs {it a:Addr}{f:Value}{i n ep:Nat}(x:IL s.heap it a f i n ep):s.TypeIs (.ref it) "set_iterator":=let⟨o,e,c,_⟩:=x;⟨o,e,c⟩
theorem IL.self {it a:Addr}{f:Value}{i n ep:Nat}{Q:Value→Shared→Prop}(x:IL s.heap it a f i n ep)(q:Q (.ref it) s):wpAny (model prog w) A (pyIter (.ref it)) Q E s:=by
 refine wpAny_pyIter_slot x.typeIs HU (wpAny_call_entry HU x.typeIs K7 ?_ (LR _))
 exact wpAny_pure ⟨_,rfl,"set_iterator",_,x.typeIs,E4.lookup,q⟩
theorem D3 {a:Addr}{es:Array (Int×Value)}{ep:Nat}{t:SetTable}{Q:Array (Int×Value)→Shared→Prop}(x:Ge s.heap a es ep t)(f:t.fits es.size=true)(q:Q es s):wpAny (model prog w) A (setEntries a) Q E s:=
 let⟨_,e,_,d⟩:=x;wpAny_setEntries_of e d f q
end
end L2
namespace L2
section
open PySem PySem.Calls PyProof.Rows
variable {prog:Program}{w:World}{A:Around}{E:Value→Shared→Prop}{s:Shared}
theorem DA {it:Addr} {vs:Array Value} {k:Nat} {x:Value} {Q:Unit→Shared→Prop} {o:Obj} (ho:s.heap.get? it=some o) (hc:o.cls=.type "set_iterator") (hd:o.data=.fields vs) (hk:k<vs.size)
  (q:∀h' o',h'.get? it=some o'→o'.cls=.type "set_iterator"→o'.data=.fields (vs.setIfInBounds k x)→(∀b o,b∉[it]→s.heap.get? b=some o→h'.get? b=some o)→Q () { s with heap:=h' }):wpAny (model prog w) A (setField (.ref it) k x) Q E s:=
 wpAny_setField ho hd hk (q _ _ (Heap.get?_update_self _ ho (Obj.isFreed_of_fields (Obj.data_mapFields hd _))) ((Obj.cls_mapFields ..).trans hc) (Obj.data_mapFields hd _) fun b o hb e=>(Heap.get?_update_other _ _ (fun z=>hb (by simp[z]))).trans e)
theorem Mv (hh:A.handled=none) (I a:Addr) (hne:a≠I) (xs:List Value) (sl:Nat→Nat) (es:Array (Int×Value)) (ep:Nat) (t:SetTable) (f:t.fits es.size=true) (hn:es.size=xs.length)
  (nx:∀(i:Nat) (A:Around) (E:Value→Shared→Prop) (s:Shared) (Q:Option (Value×Nat)→Shared→Prop),i≤xs.length→Ge s.heap a es ep t→Q (xs[i]?.map fun v=>(v,sl (i+1))) s→wpAny (model prog w) A (setNext a (sl i) i ep) Q E s) :
  Walks prog w A I [I,a] [I] xs.length (fun i v=>xs[i]?=some v) (fun i h=>IL h I a (rawInt (sl i)) i xs.length ep∧Ge h a es ep t) where
 sub:=fun b z=>by simp at z;simp[z]
 frame:=fun _ _ _ st k=>⟨st.1.keep fun o e=>k I (by simp) o e,st.2.keep fun o e=>k a (by simp) o e⟩
 self:=fun _ _ _ _ st q=>st.1.self q
 item:=fun i s Q E hi st qq=>by
  refine Lv E4 st.1.typeIs HJ (Jf _) ?_
  obtain⟨o,ho,hc,hd⟩:=st.1
  unfold Builtin.«set_iterator.__next__»
  refine wpAny_bind (wpAny_pure ?_)
  dsimp only
  refine wpAny_bind (wpAny_fieldsOf ho hd ?_)
  refine wpAny_bind (m:=setEntries a) (D3 st.2 f ?_)
  rw[if_neg (by rw[hn];simp)]
  refine wpAny_bind (m:=setNext a (sl i) i ep) (nx i _ _ _ _ (Nat.le_of_lt hi) st.2 ?_)
  obtain⟨v,hv⟩:∃v,xs[i]?=some v:=⟨xs[i],by simp[hi]⟩
  rw[hv]
  dsimp only[Option.map]
  refine wpAny_bind (DA ho hc hd (by simp) fun h1 o1 e1 c1 d1 k1=>?_)
  refine wpAny_bind (DA e1 c1 d1 (by simp) fun h2 o2 e2 c2 d2 k2=>?_)
  exact wpAny_pure ⟨v,rfl,qq v h2 s.toks hv ⟨⟨o2,e2,c2,d2⟩,st.2.keep fun o e=>k2 a o (by simp[hne]) (k1 a o (by simp[hne]) e)⟩ fun b o hb e=>k2 b o hb (k1 b o hb e)⟩
 done:=fun s Q E st hQ=>by
  refine Lj E4 st.1.typeIs HJ (Jf _) ?_
  obtain⟨o,ho,hc,hd⟩:=st.1
  unfold Builtin.«set_iterator.__next__»
  refine wpAny_bind (wpAny_pure ?_)
  dsimp only
  refine wpAny_bind (wpAny_fieldsOf ho hd ?_)
  refine wpAny_bind (m:=setEntries a) (D3 st.2 f ?_)
  rw[if_neg (by rw[hn];simp)]
  refine wpAny_bind (m:=setNext a (sl xs.length) xs.length ep) (nx xs.length _ _ _ _ (Nat.le_refl _) st.2 ?_)
  rw[List.getElem?_eq_none (Nat.le_refl _)]
  dsimp only[Option.map]
  refine wpAny_bind (DA ho hc hd (by simp) fun h1 o1 e1 c1 d1 k1=>?_)
  refine Mq hh fun h2 x k2 ⟨ox,ex,cx⟩=>⟨x,ox,rfl,ex,cx,hQ h2 s.toks fun b o hb e=>k2 b o (k1 b o hb e)⟩
def TupAt (h:Heap)(tp:Addr)(vs:List Value):Prop:=∃o n,h.get? tp=some o∧o.data=.seq vs.toArray n
theorem TupAt.keep {h h':Heap}{tp:Addr}{vs:List Value}(x:TupAt h tp vs)(k:∀o,h.get? tp=some o→h'.get? tp=some o):TupAt h' tp vs:=let⟨o,n,e,r⟩:=x;⟨o,n,k o e,r⟩
theorem O1 {a:Addr}{es:Array (Int×Value)}{ep p:Nat}{t:SetTable}{hx:Int}{v:Value}{Q:Value→Shared→Prop}(x:Ge s.heap a es ep t)(f:t.fits es.size=true)(e:es[p]?=some (hx,v))(q:Q v s):wpAny (model prog w) A (setNextDrawn a p ep) Q E s:=by
 obtain⟨o,eo,_,d⟩:=x
 unfold setNextDrawn
 refine wpAny_bind (wpAny_setState_of eo d f ?_)
 dsimp only
 rw[if_neg (by simp),e]
 exact wpAny_pure q
theorem PH (hh:A.handled=none) (I a tp:Addr) (hne:a≠I) (hnt:tp≠I) (xs:List Value) (ps:List Nat) (es:Array (Int×Value)) (ep:Nat) (t:SetTable) (f:t.fits es.size=true) (hn:es.size=xs.length) (hp:ps.length=xs.length)
  (at_:∀(i p:Nat),ps[i]?=some p→∃hx v,es[p]?=some (hx,v)∧xs[i]?=some v) :
  Walks prog w A I [I,a,tp] [I] xs.length (fun i v=>xs[i]?=some v) (fun i h=>IL h I a (.ref tp) i xs.length ep∧Ge h a es ep t∧TupAt h tp (ps.map fun(p:Nat)=>rawInt p)) where
 sub:=fun b z=>by simp at z;simp[z]
 frame:=fun _ _ _ st k=>⟨st.1.keep fun o e=>k I (by simp) o e,st.2.1.keep fun o e=>k a (by simp) o e,st.2.2.keep fun o e=>k tp (by simp) o e⟩
 self:=fun _ _ _ _ st q=>st.1.self q
 item:=fun i s Q E hi st qq=>by
  refine Lv E4 st.1.typeIs HJ (Jf _) ?_
  obtain⟨o,ho,hc,hd⟩:=st.1
  obtain⟨ot,nt,et,dt⟩:=st.2.2
  unfold Builtin.«set_iterator.__next__»
  refine wpAny_bind (wpAny_pure ?_)
  dsimp only
  refine wpAny_bind (wpAny_fieldsOf ho hd ?_)
  refine wpAny_bind (m:=setEntries a) (D3 st.2.1 f ?_)
  rw[if_neg (by rw[hn];simp)]
  obtain⟨p,hpi⟩:∃p,ps[i]?=some p:=⟨ps[i]'(by omega),by simp[hp,hi]⟩
  obtain⟨hx,v,ev,xv⟩:=at_ i p hpi
  refine wpAny_bind (m:=seqItems? (.ref tp)) (wpAny_seqItems et dt ?_)
  have look:(ps.map fun(p:Nat)=>rawInt p).toArray[(i:Int).toNat]?=some (rawInt p):=by simp[hpi]
  dsimp only
  rw[look]
  refine wpAny_bind (m:=setNextDrawn a p ep) (O1 st.2.1 f ev ?_)
  refine wpAny_bind (DA ho hc hd (by simp) fun h1 o1 e1 c1 d1 k1=>?_)
  exact wpAny_pure ⟨v,rfl,qq v h1 s.toks xv ⟨⟨o1,e1,c1,d1⟩,st.2.1.keep fun o e=>k1 a o (by simp[hne]) e,st.2.2.keep fun o e=>k1 tp o (by simp[hnt]) e⟩ k1⟩
 done:=fun s Q E st hQ=>by
  refine Lj E4 st.1.typeIs HJ (Jf _) ?_
  obtain⟨o,ho,hc,hd⟩:=st.1
  obtain⟨ot,nt,et,dt⟩:=st.2.2
  unfold Builtin.«set_iterator.__next__»
  refine wpAny_bind (wpAny_pure ?_)
  dsimp only
  refine wpAny_bind (wpAny_fieldsOf ho hd ?_)
  refine wpAny_bind (m:=setEntries a) (D3 st.2.1 f ?_)
  rw[if_neg (by rw[hn];simp)]
  refine wpAny_bind (m:=seqItems? (.ref tp)) (wpAny_seqItems et dt ?_)
  have look:(ps.map fun(p:Nat)=>rawInt p).toArray[(xs.length:Int).toNat]?=none:=by simp[hp]
  dsimp only
  rw[look]
  refine wpAny_bind (DA ho hc hd (by simp) fun h1 o1 e1 c1 d1 k1=>?_)
  refine wpAny_bind (DA e1 c1 d1 (by simp) fun h2 o2 e2 c2 d2 k2=>?_)
  refine Mq hh fun h3 x k3 ⟨ox,ex,cx⟩=>⟨x,ox,rfl,ex,cx,hQ h3 s.toks fun b o hb e=>k3 b o (k2 b o hb (k1 b o hb e))⟩
theorem Pw {src:Source}{n:Nat}{Q:Nat→Shared→Prop}(h:n≠0)(q:∀i d,i<n→Q i { s with drawn:=d }):wpAny (model prog w) A (choose src n) Q E s:=by
 intro Γ p _
 unfold choose
 rw[Sem.wp_choose]
 exact⟨h,by rw[Sem.wp_pure];exact q _ _ (Nat.mod_lt _ (Nat.pos_of_ne_zero h))⟩
theorem Le {α:Type}:∀{l:List α} {i:Nat} (h:i<l.length),(l[i]::l.eraseIdx i).Perm l
 |x::r,0,_=>List.Perm.refl _
 |x::r,i+1,h=>by
  have z:=Le (l:=r) (i:=i) (by simpa using h)
  exact(List.Perm.swap ..).trans (List.Perm.cons x z)
theorem KS {α:Type}:∀(n:Nat) (xs:List α) (s:Shared) (Q:List α→Shared→Prop),n=xs.length→(∀ys d,ys.Perm xs→Q ys { s with drawn:=d })→wpAny (model prog w) A (drawOrder n xs) Q E s
 |0,xs,s,Q,h,q=>by
  have e:xs=[]:=List.length_eq_zero_iff.mp h.symm
  subst e
  exact wpAny_pure (q [] s.drawn (List.Perm.refl _))
 |n+1,[],s,Q,h,q=>nomatch h
 |n+1,x::r,s,Q,h,q=>by
  unfold drawOrder
  refine wpAny_bind (Pw (by simp) fun i d hi=>?_)
  rw[List.getElem?_eq_getElem hi]
  dsimp only
  refine wpAny_bind (KS n _ _ _ (by rw[List.length_eraseIdx_of_lt hi];simp at h ⊢;omega) fun ys d2 pm=>?_)
  exact wpAny_pure (q _ d2 ((List.Perm.cons _ pm).trans (Le hi)))
theorem Qf {α:Type}(next:Nat→Nat):∀(fuel k:Nat) (left:List α) (out:Array α),fuel=left.length→(pickOrder.go next fuel k left out).toList.Perm (out.toList++left)
 |0,k,left,out,h=>by
  have e:left=[]:=List.length_eq_zero_iff.mp h.symm
  subst e
  unfold pickOrder.go
  rw[List.append_nil]
 |fuel+1,k,left,out,h=>by
  unfold pickOrder.go
  have hi:next k%left.length<left.length:=Nat.mod_lt _ (by omega)
  rw[List.getElem?_eq_getElem hi]
  dsimp only
  refine(Qf next fuel _ _ _ (by rw[List.length_eraseIdx_of_lt hi];omega)).trans ?_
  rw[Array.toList_push,List.append_assoc]
  exact List.Perm.append_left _ (Le hi)
theorem L9 {α:Type}(next:Nat→Nat)(xs:Array α):(pickOrder next xs).toList.Perm xs.toList:=by
 unfold pickOrder
 exact Qf next _ _ _ _ (by simp)
def Bz (w:World):Bool:=w.params.followText "set-order"
theorem Rv {a:Addr} {es:Array (Int×Value)} {ep i sl:Nat} {t:SetTable} {Q:Option (Value×Nat)→Shared→Prop} (bt:Bz w=true) (x:Ge s.heap a es ep t) (f:t.fits es.size=true)
  (q:Q (((pickOrder (w.params.setOrder a ep) es).toList.map (·.2))[i]?.map fun v=>(v,sl)) s):wpAny (model prog w) A (setNext a sl i ep) Q E s:=by
 obtain⟨o,eo,_,d⟩:=x
 unfold setNext setsByText setWalk setsByText
 refine wpAny_bind (wpAny_setState_of eo d f ?_)
 dsimp only
 simp only[bind_assoc,pure_bind]
 refine wpAny_bind (wpAny_askSetting ?_)
 refine wpAny_ite_split (fun _=>?_) (fun c=>absurd bt c)
 rw[if_neg (by simp)]
 refine wpAny_bind (wpAny_setState_of eo d f ?_)
 dsimp only
 refine wpAny_bind (wpAny_askSetting ?_)
 refine wpAny_bind (wpAny_ite_split (fun _=>?_) (fun c=>absurd bt c))
 refine wpAny_bind (wpAny_askSetting (wpAny_pure ?_))
 have e:((pickOrder (w.params.setOrder a ep) es).toList.map (·.2))[i]?=((pickOrder (w.params.setOrder a ep) es)[i]?).map (·.2):=by rw[List.getElem?_map,Array.getElem?_toList]
 rw[e,Option.map_map] at q
 exact wpAny_pure q
theorem SE {es:Array (Int×Value)}{t:SetTable}(f:t.fits es.size=true):t.place.size=es.size:=by
 simp only[SetTable.fits,Bool.and_eq_true,beq_iff_eq] at f
 exact f.1
theorem Su {a:Addr} {es:Array (Int×Value)} {ep i:Nat} {t:SetTable} {Q:Option (Value×Nat)→Shared→Prop} (bt:Bz w=false) (hl:t.led=true) (few:es.size≤1) (hi:i≤es.size) (x:Ge s.heap a es ep t) (f:t.fits es.size=true)
  (q:Q ((es.toList.map (·.2))[i]?.map fun v=>(v,if i+1=0 then 0 else t.place.getD 0 0+1)) s):wpAny (model prog w) A (setNext a (if i=0 then 0 else t.place.getD 0 0+1) i ep) Q E s:=by
 obtain⟨o,eo,_,d⟩:=x
 unfold setNext setsByText
 refine wpAny_bind (wpAny_setState_of eo d f ?_)
 dsimp only
 simp only[bind_assoc,pure_bind]
 refine wpAny_bind (wpAny_askSetting ?_)
 refine wpAny_ite_split (fun c=>absurd (bt.symm.trans c) (by decide)) (fun _=>?_)
 refine wpAny_ite_split (fun c=>absurd c ?_) (fun _=>?_)
 ·show ¬(!t.plain&&decide (es.size>1))=true
  rw[decide_eq_false (by omega)]
  simp
 refine wpAny_bind (?_:wpAny _ _ (if(!t.led && !es.isEmpty)=true then unsupported "set:maker-not-led" else pure ()) _ _ _)
 rw[hl,if_neg (by simp)]
 refine wpAny_pure (wpAny_pure ?_)
 have pz:=SE f
 clear f hl d
 revert q
 generalize t.place=pl at pz
 obtain⟨l⟩:=es
 obtain⟨m⟩:=pl
 match l,m,few,pz,hi with
 |[],[],_,_,hi=>
  have e:i=0:=by simpa using hi
  subst e
  exact fun q=>q
 |[(hx,v)],[k],_,_,hi=>
  rcases(show i=0∨i=1 by simp at hi;omega) with rfl|rfl
  ·have b:SetTable.below #[k] (if 0=0 then 0 else(#[k]:Array Nat).getD 0 0+1)=0:=by simp[SetTable.below,SetTable.below.go]
   rw[b]
   exact fun q=>q
  ·have b:SetTable.below #[k] (if 1=0 then 0 else(#[k]:Array Nat).getD 0 0+1)=1:=by simp[SetTable.below,SetTable.below.go]
   rw[b]
   exact fun q=>q
 |_::_::_,_,few,_,_=>exact absurd few (by simp)
 |[],_::_,_,pz,_=>exact absurd pz (by simp)
 |[_],[],_,pz,_=>exact absurd pz (by simp)
 |[_],_::_::_,_,pz,_=>exact absurd pz (by simp)
theorem SM {a:Addr} {es:Array (Int×Value)} {ep:Nat} {t:SetTable} {Q:Value→Shared→Prop} (x:Ge s.heap a es ep t) (f:t.fits es.size=true) (hl:t.led = !Bz w) (hp:es.size≠0→t.plain=false) (hb:es.size<scanBound)
  (q:∀h' d I fp (xs:List Value) St,(∀b o,s.heap.get? b=some o→h'.get? b=some o)→xs.Perm (es.toList.map (·.2))→(∀A:Around,A.handled=none→Walks prog w A I fp [I] xs.length (fun i v=>xs[i]?=some v) St)→St 0 h'→
   (∀b∈fp,b=a∨s.heap.get? b=none)→s.heap.get? I=none→Q (.ref I) { s with heap:=h',drawn:=d }):wpAny (model prog w) A (pyIter (.ref a)) Q E s:=by
 obtain⟨o,eo,co,dd⟩:=id x
 have hT:s.TypeIs (.ref a) "set":=⟨o,eo,co⟩
 have hlt:=Heap.lt_size eo
 refine wpAny_pyIter_slot hT PySem.F.slot_set_iter (wpAny_call_entry PySem.F.slot_set_iter hT K1 ?_ (PySem.F.args_set_iter_1 _))
 unfold Builtin.«frozenset.__iter__» Builtin.Frozenset.slot0 slotArgs
 simp only[bind_assoc,bne_self_eq_false,List.isEmpty_nil,List.length_nil,Bool.not_true,Bool.false_eq_true,↓reduceIte]
 refine wpAny_bind (wpAny_pure ?_)
 dsimp only
 refine wpAny_bind (m:=Builtin.Frozenset.addrOf (.ref a)) (wpAny_pure ?_)
 unfold Builtin.Frozenset.sizeOf
 simp only[bind_assoc,pure_bind]
 refine wpAny_bind (D3 x f ?_)
 unfold setDrawn setsByText
 simp only[bind_assoc,pure_bind]
 refine wpAny_bind (wpAny_setState_of eo dd f ?_)
 dsimp only
 refine wpAny_bind (wpAny_askSetting ?_)
 change wpAny _ _ (if(!Bz w&&(!t.plain&&decide (es.size>1)))=true then _ else _) _ _ _
 refine wpAny_ite_split (fun c=>?_) (fun c=>?_)
 ·simp only[Bool.and_eq_true,Bool.not_eq_true',decide_eq_true_eq] at c
  refine wpAny_bind (KS es.size _ _ _ (by simp) fun ps d pm=>?_)
  refine wpAny_bind (wpAny_newTuple ?_ (by rw[List.length_map,pm.length_eq,List.length_range];exact fits_of_scanBound hb))
  refine wpAny_bind (wpAny_setEpoch_of (Heap.get?_push_of_some _ eo) dd f ?_)
  refine wpAny_bind (wpAny_newObj_type (wpAny_pure ⟨_,rfl,"set_iterator",_,⟨_,Heap.get?_push_size _ rfl,rfl⟩,E4.lookup,?_⟩))
  have rg:∀p∈ps,p<es.size:=fun p hp=>List.mem_range.mp (pm.mem_iff.mp hp)
  have ex:(List.range es.size).map (fun p=>(es[p]?.map (·.2)).getD .none)=es.toList.map (·.2):=by
   refine List.ext_getElem (by simp) fun i h1 h2=>?_
   have hi:i<es.size:=by simpa using h1
   simp[hi]
  have nt:s.heap.objs.size≠(s.heap.push { cls:=.type "tuple",data:=.seq (ps.map fun(i:Nat)=>rawInt i).toArray }).objs.size:=by rw[Heap.size_push];exact Nat.ne_of_lt (Nat.lt_succ_self _)
  have na:a≠(s.heap.push { cls:=.type "tuple",data:=.seq (ps.map fun(i:Nat)=>rawInt i).toArray }).objs.size:=by rw[Heap.size_push];exact Nat.ne_of_lt (Nat.lt_succ_of_lt hlt)
  have ln:es.size=(ps.map (fun p=>(es[p]?.map (·.2)).getD Value.none)).length:=by rw[List.length_map,pm.length_eq,List.length_range]
  have above:s.heap.get? (s.heap.push { cls:=.type "tuple",data:=.seq (ps.map fun(i:Nat)=>rawInt i).toArray }).objs.size=none:=by
   cases z:s.heap.get? _ with
   |none=>rfl
   |some o=>exact absurd (Heap.lt_size z) (by rw[Heap.size_push];exact Nat.not_lt.mpr (Nat.le_succ _))
  refine q _ d _ _ _ _ (fun b o e=>Heap.get?_push_of_some _ (Heap.get?_push_of_some _ e)) ((pm.map (fun p=>(es[p]?.map (·.2)).getD Value.none)).trans (by rw[ex])) (fun A hh=>PH hh (s.heap.push { cls:=.type "tuple",data:=.seq (ps.map fun(i:Nat)=>rawInt i).toArray }).objs.size a s.heap.objs.size na nt _ ps es ep t f ln (by rw[List.length_map]) fun i p hi=>?_) ⟨⟨_,Heap.get?_push_size _ rfl,rfl,?_⟩,x.keep fun o e=>Heap.get?_push_of_some _ (Heap.get?_push_of_some _ e),⟨_,_,Heap.get?_push_of_some _ (Heap.get?_push_size _ rfl),rfl⟩⟩ (fun b hb=>?_) above
  ·have hp':=rg p (List.mem_of_getElem? hi)
   refine⟨es[p].1,es[p].2,by simp[hp'],?_⟩
   rw[List.getElem?_map,hi]
   simp[hp']
  ·rw[←ln];rfl
  ·simp only[List.mem_cons,List.not_mem_nil,or_false] at hb
   rcases hb with rfl|rfl|rfl
   ·exact .inr above
   ·exact .inl rfl
   ·exact .inr (Jl _)
 ·refine wpAny_bind (wpAny_setEpoch_of eo dd f ?_)
  refine wpAny_bind (wpAny_newObj_type (wpAny_pure ⟨_,rfl,"set_iterator",_,⟨_,Heap.get?_push_size _ rfl,rfl⟩,E4.lookup,?_⟩))
  have kk:∀b o,s.heap.get? b=some o→(s.heap.push { cls:=.type "set_iterator",data:=.fields [rawInt 0,rawInt 0,.ref a,rawInt es.size,rawInt ep].toArray }).get? b=some o:=fun b o e=>Heap.get?_push_of_some _ e
  have fresh:∀b∈[s.heap.objs.size,a],b=a∨s.heap.get? b=none:=fun b hb=>by
   simp only[List.mem_cons,List.not_mem_nil,or_false] at hb
   rcases hb with rfl|rfl
   ·exact .inr (Jl _)
   ·exact .inl rfl
  cases bt:Bz w with
  |true=>
   have ln:es.size=((pickOrder (w.params.setOrder a ep) es).toList.map (·.2)).length:=by rw[List.length_map,(L9 _ es).length_eq,Array.length_toList]
   refine q _ s.drawn s.heap.objs.size _ _ _ kk ((L9 _ es).map _) (fun A hh=>Mv hh s.heap.objs.size a (Nat.ne_of_lt hlt) ((pickOrder (w.params.setOrder a ep) es).toList.map (·.2)) (fun _=>0) es ep t f ln fun i A E s Q _ x q=>Rv bt x f q) ⟨⟨_,Heap.get?_push_size _ rfl,rfl,?_⟩,x.keep fun o e=>kk a o e⟩ fresh (Jl _)
   rw[←ln];rfl
  |false=>
   have few:es.size≤1:=by
    rw[bt] at c
    by_cases z:es.size=0
    ·omega
    ·rw[hp z] at c
     simpa using c
   rw[bt] at hl
   refine q _ s.drawn s.heap.objs.size _ _ _ kk (List.Perm.refl _) (fun A hh=>Mv hh s.heap.objs.size a (Nat.ne_of_lt hlt) (es.toList.map (·.2)) (fun i=>if i=0 then 0 else t.place.getD 0 0+1) es ep t f (by simp) fun i A E s Q li x q=>Su bt hl few (by simpa using li) x f q) ⟨⟨_,Heap.get?_push_size _ rfl,rfl,?_⟩,x.keep fun o e=>kk a o e⟩ fresh (Jl _)
   simp
theorem R8 {a:Addr}{Q:Bool→Shared→Prop}(hT:s.TypeIs (.ref a) "set")(q:Q false s):wpAny (model prog w) A (Builtin.List.listLengthHint (.ref a)) Q E s:=by
 unfold Builtin.List.listLengthHint
 refine wpAny_bind (wpAny_specialOf hT PySem.F.slot_set_len.lookup ?_)
 generalize e0:("set.__len__":String)=d0
 wp_delta
 rw[show splitId d0=some ("set","__len__") from by subst e0;decide +kernel]
 subst e0
 refine wpAny_bind (wpAny_isInstance (T:="set") (b:=true) hT (by rw[isSubtype_type];kernel_rfl) ?_)
 refine wpAny_ite_split (fun c=>absurd c (by decide)) (fun _=>wpAny_ite_split (fun _=>?_) (fun c=>absurd (by decide +kernel) c))
 exact wpAny_bind (wpAny_typeOf hT (wpAny_pure q))
theorem O0 {xs:List Value}{acc:Array Value}(z:ItemsOf (fun i v=>xs[i]?=some v) acc xs.length):acc.toList=xs:=by
 refine List.ext_getElem? fun i=>?_
 rw[Array.getElem?_toList]
 cases e:acc[i]? with
 |some v=>exact(z.2 i v e).symm
 |none=>
  have:acc.size≤i:=by simpa using e
  rw[z.1] at this
  exact(List.getElem?_eq_none this).symm
theorem On {a:Addr} {es:Array (Int×Value)} {ep:Nat} {t:SetTable} {Q:List Value→Shared→Prop} (hh:A.handled=none) (x:Ge s.heap a es ep t) (f:t.fits es.size=true) (hl:t.led = !Bz w) (hp:es.size≠0→t.plain=false) (hb:es.size<scanBound)
  (q:∀h' d tk (vs:List Value),(∀b o,s.heap.get? b=some o→h'.get? b=some o)→vs.Perm (es.toList.map (·.2))→Q vs { s with heap:=h',drawn:=d,toks:=tk }):wpAny (model prog w) A (collect (.ref a)) Q E s:=by
 refine JZ ?_
 have x1:Ge (s.heap.push { cls:=.type "list",data:=.seq #[] }) a es ep t:=x.keep fun o e=>Heap.get?_push_of_some _ e
 have lt:a<s.heap.objs.size:=let⟨_,e,_⟩:=x;Heap.lt_size e
 unfold Builtin.List.listExtendWith
 have hT:Shared.TypeIs { s with heap:=s.heap.push { cls:=.type "list",data:=.seq #[] } } (.ref a) "set":=let⟨o,e,c,_⟩:=x1;⟨o,e,c⟩
 refine wpAny_bind (wpAny_typeOf hT ?_)
 have n1:Builtin.List.listSameRef (.ref s.heap.objs.size) (.ref a)=false:=by simp[Builtin.List.listSameRef,Nat.ne_of_gt lt]
 have n2:(Value.type "set" == Value.type "list")=false:=by decide
 have n3:(Value.type "set" == Value.type "tuple")=false:=by decide
 simp only[n1,n2,n3,Bool.or_false,Bool.false_eq_true,if_false]
 refine wpAny_bind (SM x1 f hl hp hb fun h1 d I fp xs St k1 pm W st fr nI0=>?_)
 have hS1:h1.get? s.heap.objs.size=some { cls:=.type "list",data:=.seq #[] }:=k1 _ _ (Heap.get?_push_size _ rfl)
 have hSf:s.heap.objs.size∉fp:=fun hm=>by
  rcases fr _ hm with z|z
  ·exact absurd z (Nat.ne_of_gt lt)
  ·rw[show(s.heap.push { cls:=.type "list",data:=.seq #[] }).get? s.heap.objs.size=some { cls:=.type "list",data:=.seq #[] } from Heap.get?_push_size _ rfl] at z
   cases z
 have nI:∀b o,s.heap.get? b=some o→b∉s.heap.objs.size::[I]:=fun b o e hm=>by
  rcases List.mem_cons.mp hm with z|z
  ·exact absurd (Heap.lt_size e) (by rw[z];exact Nat.lt_irrefl _)
  ·rw[List.mem_singleton] at z
   subst z
   rw[Heap.get?_push_of_some _ e] at nI0
   cases nI0
 refine wpAny_bind (wpAny_holding (R8 (let⟨o,e,c,_⟩:=x1;⟨o,k1 _ _ e,c⟩) ?_))
 refine wpAny_ite_split (fun _=>?_) (fun c=>absurd (by decide) c)
 refine wpAny_bind (wpAny_rule ?_)
 refine wpAny_bind ?_
 show wpAny _ _ (updateSeq s.heap.objs.size (·.push .none) >>= fun _=>updateSeq s.heap.objs.size (·.pop)) _ _ _
 refine wpAny_bind (wpAny_updateSeq hS1 rfl ?_)
 have hS2:=Heap.get?_update_self (Obj.mapSeq (·.push Value.none)) hS1 rfl
 refine wpAny_updateSeq (hz:=by seq_fits) hS2 rfl ?_
 have hS3:=Heap.get?_update_self (Obj.mapSeq (·.pop)) hS2 rfl
 have oth:∀b o,b≠s.heap.objs.size→h1.get? b=some o→((h1.update s.heap.objs.size (Obj.mapSeq (·.push Value.none))).update s.heap.objs.size (Obj.mapSeq (·.pop))).get? b=some o:=
  fun b o n e=>(Heap.get?_update_other _ _ (Ne.symm n)).trans ((Heap.get?_update_other _ _ (Ne.symm n)).trans e)
 refine wpAny_pure ⟨plainId_quiet PySem.F.plain_extend_loop _,codeAny_extend_loopS (W A.in1 hh).toS (by rw[pm.length_eq,List.length_map,Array.length_toList];exact fits_of_scanBound hb) s.heap.objs.size hSf (.ref s.heap.objs.size) xs.length 0 _ #[] _ rfl (Nat.zero_le _) ((W A hh).frame 0 _ _ st fun b hb o e=>oth b o (fun z=>hSf (z▸hb)) e) hS3 (ItemsOf.nil _) fun s' acc c hm hS' it=>?_⟩
 refine⟨acc,c,rfl,hS',?_⟩
 rw[O0 it,Moved.eq_with hm]
 exact q _ _ _ xs (fun b o e=>hm.heap b o (nI b o e) (oth b o (Nat.ne_of_lt (Heap.lt_size e)) (k1 b o (Heap.get?_push_of_some _ e)))) pm
end
end L2
namespace L2
section
open PySem PySem.Calls PyProof.Rows
variable {prog:Program}{w:World}{A:Around}{E:Value→Shared→Prop}{s:Shared}
theorem UL (t:SetTable)(es:Array (Int×Value))(h:Int)(x:Value):(layNew t es h x).2.1.led=t.led:=by
 unfold layNew
 split
 ·dsimp only[SetTable.put,SetTable.orStandIn]
  split<;>split<;>rfl
 ·rfl
theorem Rc (t:SetTable)(es:Array (Int×Value))(n:Nat):(relayAll t es n).2.1.led=t.led:=by
 unfold relayAll
 split
 ·rename_i t' order e
  unfold SetTable.relaid SetTable.laid at e
  cases z:SetTable.layClean (SetTable.sizeAbove n-1) (es.map (·.1)) with
  |none=>rw[z] at e;cases e
  |some ow=>
   rw[z] at e
   injection e with e
   injection e with e1 e2
   dsimp only
   split
   ·rw[←e1]
   ·rfl
 ·rfl
theorem Ox (t:SetTable)(es:Array (Int×Value))(n:Nat)(p:t.plain=false):(relayAll t es n).2.1.plain=false:=by
 unfold relayAll
 split
 ·rename_i t' order e
  unfold SetTable.relaid SetTable.laid at e
  cases z:SetTable.layClean (SetTable.sizeAbove n-1) (es.map (·.1)) with
  |none=>rw[z] at e;cases e
  |some ow=>
   rw[z] at e
   injection e with e
   injection e with e1 e2
   dsimp only
   split
   ·rw[←e1];exact p
   ·rfl
 ·rfl
def Eg (prog:Program)(w:World)(h:Heap)(a:Addr)(ks:List Str):Prop:=∃o es ep t ss,h.get? a=some o∧o.ExactSet∧o.data=.set es ep t∧ElemsOf (PySem.strKind prog w) es.toList∧t.fits es.size=true∧t.led=(!Bz w)∧(es.size≠0→t.plain=false)∧
 StrsAre (es.toList.map (·.2)) ss∧ss.Perm ks
theorem Wa {k:Str}{v:Value}(h:Value.isStrOf k v=true):∃t,v=.str k t:=Value.isStrOf_shape h
theorem Uz (led:Bool)(hl:led = !Bz w){h:Heap}{a:Addr}(e:h.get? a=some { cls:=.type "set",dict:=none,data:=.set #[] 0 (.fresh 0 0 led) }):Eg prog w h a []:=
 ⟨_,#[],0,_,[],e,⟨rfl,rfl,rfl⟩,rfl,fun e he=>by simp at he,by rfl,hl,fun z=>absurd rfl z,.nil,List.Perm.refl _⟩
theorem JP {vs us:List Value}{ss:List Str}(h:StrsAre vs ss)(p:us.Perm vs):∃ts,StrsAre us ts∧ts.Perm ss:=by
 refine⟨us.map strOf,strsAre_map us fun v hv=>h.all v (p.mem_iff.mp hv),?_⟩
 have:=p.map strOf
 rw[h.strs] at this
 exact this
theorem Ow:∀{vs us:List Value} {ss ts:List Str},StrsAre vs ss→StrsAre us ts→StrsAre (vs++us) (ss++ts)
 |_,_,_,_,.nil,h=>h
 |_,_,_,_,.cons x t g,h=>.cons x t (Ow g h)
theorem ON {es:Array (Int×Value)}{ss:List Str}{k:Str}(hs:StrsAre (es.toList.map (·.2)) ss):k∈ss↔∃e∈es.toList,Value.isStrOf k e.2=true:=by
 rw[←hs.strs,List.mem_map]
 constructor
 ·rintro⟨v,hv,rfl⟩
  obtain⟨e,he,rfl⟩:=List.mem_map.mp hv
  obtain⟨x,t,ex⟩:=hs.all _ hv
  refine⟨e,he,?_⟩
  rw[ex]
  simp[Value.isStrOf,strOf]
 ·rintro⟨e,he,hk⟩
  obtain⟨t,ex⟩:=Wa hk
  exact⟨e.2,List.mem_map.mpr ⟨e,he,rfl⟩,by rw[ex];rfl⟩
theorem NY {g:Bool→Sem Unit} (hg:∀(b:Bool) (s₁:Shared) (Q':Unit→Shared→Prop),Q' () s₁→wpAny (model prog w) A (g b) Q' E s₁) {a:Addr} {o:Obj} {es es1:Array (Int×Value)} {ep:Nat} {t t2:SetTable} {wd:Bool} {R:Option Bool→Shared→Prop}
  (ho:s.heap.get? a=some o) (hd:o.data=.set es ep t) (hb:es1.size<scanBound) (hf:t2.fits es1.size=true) (hp:t2.plain=false)
  (q:∀h' es' ep' t',Heap.SameBut a s.heap h'→h'.get? a=some { o with data:=.set es' ep' t' }→es'.toList.Perm es1.toList→t'.fits es'.size=true→t'.led=t2.led→t'.plain=false→R (some true) { s with heap:=h' }) :
  wpAny (model prog w) A (storeSet a es1 t2 >>= fun _=>if(!wd&&t2.tooFull)=true then g (relayAll t2 es1 (SetTable.grown es1.size)).2.2 >>= fun _=>storeSet a (relayAll t2 es1 (SetTable.grown es1.size)).1 (relayAll t2 es1 (SetTable.grown es1.size)).2.1 >>= fun _=>pure (some true) else pure (some true)) R E s:=by
 have put:∀(h:Heap) (o:Obj) (es ep t es' t'),h.get? a=some o→o.data=.set es ep t→(h.update a (Obj.putSet es' t')).get? a=some { o with data:=.set es' (ep+1) t' }:=fun h o es ep t es' t' e d=>by
  have z:=Heap.get?_update_self (Obj.putSet es' t') e (by rw[putSet_of es' t' d];rfl)
  rw[putSet_of es' t' d] at z
  exact z
 refine wpAny_bind (wpAny_storeSet_of ho hd ?_ (fits_of_scanBound hb))
 have h1:=put s.heap o es ep t es1 t2 ho hd
 refine wpAny_ite_split (fun _=>?_) (fun _=>wpAny_pure (q _ es1 (ep+1) t2 (Heap.SameBut.update ..) h1 (List.Perm.refl _) hf rfl hp))
 have pm:=relayAll_perm t2 es1 (SetTable.grown es1.size)
 have sz:(relayAll t2 es1 (SetTable.grown es1.size)).1.size=es1.size:=by rw[←Array.length_toList,pm.length_eq,Array.length_toList]
 refine wpAny_bind (hg _ _ _ (wpAny_bind (wpAny_storeSet_of h1 rfl ?_ (fits_of_scanBound (by rw[sz];exact hb)))))
 exact wpAny_pure (q _ _ (ep+1+1) _ ((Heap.SameBut.update ..).trans (Heap.SameBut.update ..)) (put _ { o with data:=.set es1 (ep+1) t2 } es1 (ep+1) t2 _ _ h1 rfl) pm (relayAll_fits ..) (Rc ..) (Ox _ _ _ hp))
theorem Oi {a:Addr} {ks:List Str} {k:Str} {tk:Tok} {Q:Bool→Shared→Prop} (S:Eg prog w s.heap a ks) (room:ks.length+1<scanBound)
  (q:∀b h',Heap.SameBut a s.heap h'→Eg prog w h' a (if k∈ks then ks else ks++[k])→Q b { s with heap:=h',toks:=s.toks+1 }):wpAny (model prog w) A (setAdd a (.str k tk)) Q E s:=by
 obtain⟨o,es,ep,t,ss,ho,hex,hd,hel0,hf,hl,hp,hs,pm⟩:=S
 have hel:ElemsOf (PySem.strKind prog w) es.toList:=hel0
 have hkey:(PySem.strKind prog w).is k (.str k tk)=true:=by show Value.isStrOf k (.str k tk)=true;simp[Value.isStrOf]
 have ln:es.size=ks.length:=by rw[←pm.length_eq,←hs.length,List.length_map,Array.length_toList]
 have hb:es.size<scanBound:=by omega
 unfold setAdd
 refine wpAny_holding (wpAny_bind ((PySem.strKind prog w).pyHash hkey ?_))
 unfold setAddHashed
 unfold setAddHashedIn
 refine wpAny_holding (wpAny_bind (wpAny_setState_of (s:={ s with toks:=s.toks+1 }) ho hd hf ?_))
 dsimp only
 rw[byScan_of rfl hb hel]
 simp only[↓reduceIte]
 unfold setAddByScan
 refine wpAny_bind (wpAny_bind (wpAny_rule (wpAny_bind (wpAny_setScan_of hkey ho hd hf hel ?_))))
 cases hr:List.findIdx? (fun e=>(PySem.strKind prog w).is k e.2) es.toList with
 |some j=>
  dsimp only
  obtain⟨hj,hpj,_⟩:=List.findIdx?_eq_some_iff_getElem.mp hr
  have hm:k∈ks:=pm.mem_iff.mp ((ON hs).mpr ⟨_,List.getElem_mem hj,hpj⟩)
  refine wpAny_pure (wpAny_pure (q false s.heap (Heap.SameBut.refl a s.heap) ?_))
  rw[if_pos hm]
  exact⟨o,es,ep,t,ss,ho,hex,hd,hel,hf,hl,hp,hs,pm⟩
 |none=>
  dsimp only
  have hm:k∉ks:=fun z=>by
   obtain⟨e,he,hk⟩:=(ON hs).mp (pm.mem_iff.mpr z)
   have:=List.findIdx?_eq_none_iff.mp hr e he
   exact absurd (hk.symm.trans this) (by decide)
  rw[if_neg hm] at q
  have gw:∀(b:Bool) (s₁:Shared) (Q':Unit→Shared→Prop),Q' () s₁→wpAny (model prog w) A (match b with|true=>rule "set.scan.the-table-gave-way"|false=>pure ()) Q' E s₁:=fun b s₁ Q' hq=>by
   cases b
   ·exact wpAny_pure hq
   ·exact wpAny_rule hq
  have lp:=layNew_perm t es ((PySem.strKind prog w).hash k) (.str k tk)
  have lf:=layNew_fits t es ((PySem.strKind prog w).hash k) (.str k tk)
  have ll:=UL t es ((PySem.strKind prog w).hash k) (.str k tk)
  generalize layNew t es ((PySem.strKind prog w).hash k) (.str k tk)=L at lp lf ll
  obtain⟨es1,t1,wd,gave⟩:=L
  dsimp only at lp lf ll ⊢
  rw[Array.toList_push] at lp
  have hel1:ElemsOf (PySem.strKind prog w) es1.toList:=(hel.push hkey rfl).perm lp
  have sz1:es1.size=es.size+1:=by rw[←Array.length_toList,lp.length_eq,List.length_append,Array.length_toList];rfl
  have str1:∃ts,StrsAre (es1.toList.map (·.2)) ts∧ts.Perm (ks++[k]):=by
   have h0:StrsAre ((es.toList++[((PySem.strKind prog w).hash k,Value.str k tk)]).map (·.2)) (ss++[k]):=by
    rw[List.map_append]
    exact Ow hs (.cons k tk .nil)
   obtain⟨ts,y1,y2⟩:=JP h0 (lp.map (·.2))
   exact⟨ts,y1,y2.trans (pm.append_right _)⟩
  have fin:∀h' es' ep' t',Heap.SameBut a s.heap h'→h'.get? a=some { o with data:=.set es' ep' t' }→es'.toList.Perm es1.toList→t'.fits es'.size=true→t'.led=t.led→t'.plain=false→Eg prog w h' a (ks++[k]):=fun h' es' ep' t' _ e pe fe le pl=>by
   obtain⟨ts,y1,y2⟩:=str1
   obtain⟨us,z1,z2⟩:=JP y1 (pe.map (·.2))
   exact⟨_,es',ep',t',us,e,hex,rfl,hel1.perm pe,fe,le.trans hl,fun _=>pl,z1,z2.trans y2⟩
  refine wpAny_bind (gw _ _ _ ?_)
  refine wpAny_ite_split (fun c=>?_) (fun c=>?_)
  ·rw[hashByValue_scannable 8 rfl]
   refine wpAny_bind (wpAny_pure ?_)
   refine NY gw ho hd (by rw[sz1,ln];exact room) (SetTable.fits_plain_off lf) rfl fun h' es' ep' t' sb e pe fe le pl=>wpAny_pure (q true h' sb (fin h' es' ep' t' sb e pe fe (le.trans ll) pl))
  ·refine wpAny_bind (wpAny_pure ?_)
   have pl1:t1.plain=false:=by simpa using c
   refine NY gw ho hd (by rw[sz1,ln];exact room) lf pl1 fun h' es' ep' t' sb e pe fe le pl=>wpAny_pure (q true h' sb (fin h' es' ep' t' sb e pe fe (le.trans ll) pl))
def EW (ss:List Str):List Str:=ss.foldl (fun ks k=>if k∈ks then ks else ks++[k]) []
theorem NP (ss:List Str):(EW ss).length≤ss.length:=by
 have z:∀(l ks:List Str),(l.foldl (fun ks k=>if k∈ks then ks else ks++[k]) ks).length≤ks.length+l.length:=fun l=>by
  induction l with
  |nil=>intro ks;exact Nat.le_refl _
  |cons k r ih=>
   intro ks
   refine Nat.le_trans (ih _) ?_
   rw[List.length_cons]
   dsimp only
   split
   ·omega
   ·rw[List.length_append,List.length_singleton];omega
 have:=z ss []
 rw[List.length_nil,Nat.zero_add] at this
 exact this
theorem RJ {ss:List Str}{i:Nat}{k:Str}(h:ss[i]?=some k):EW (ss.take (i+1))=if k∈EW (ss.take i) then EW (ss.take i) else EW (ss.take i)++[k]:=by
 have e:ss.take (i+1)=ss.take i++[k]:=by rw[List.take_add_one,h];rfl
 unfold EW
 rw[e,List.foldl_append]
 rfl
theorem Eg.keep {h h':Heap}{a:Addr}{ks:List Str}(S:Eg prog w h a ks)(k:∀o,h.get? a=some o→h'.get? a=some o):Eg prog w h' a ks:=let⟨o,es,ep,t,ss,e,r⟩:=S;⟨o,es,ep,t,ss,k o e,r⟩
theorem QH:∀{vs:List Value} {ss:List Str},StrsAre vs ss→∀(i:Nat) (v:Value),vs[i]?=some v→∃k t,v=.str k t∧ss[i]?=some k
 |_,_,.nil,i,v,h=>by simp at h
 |_,_,.cons x t r,0,v,h=>⟨x,t,by simpa using h.symm,rfl⟩
 |_,_,.cons x t r,i+1,v,h=>QH r i v h
theorem Rj {R:Result→Shared→Prop}{I S:Addr}{fp:List Addr}{vs:List Value}{ss:List Str}{St:Nat→Heap→Prop}(W:Walks prog w A.in1 I fp [I] vs.length (fun i v=>vs[i]?=some v) St)(nS:S∉fp)(hs:StrsAre vs ss)(hb:vs.length+1<scanBound) :
  ∀(k i:Nat) (s:Shared),vs.length-i=k→i≤vs.length→St i s.heap→Eg prog w s.heap S (EW (ss.take i))→
   (∀h' tk,(∀b o,b∉[S,I]→s.heap.get? b=some o→h'.get? b=some o)→Eg prog w h' S (EW ss)→R (.ok (.ret .none)) { s with heap:=h',toks:=tk })→codeAny (model prog w) A (.builtin "set.update.loop" ⟨[.ref S,.ref I],[]⟩) R s:=by
 have nI:S∉[I]:=fun z=>nS (W.sub _ z)
 have ln:vs.length=ss.length:=hs.length
 intro k
 induction k with
 |zero=>
  intro i s hk hi st T q
  have e:i=vs.length:=by omega
  subst e
  refine codeAny_builtin PyProof.Rows.F.entry_set_update_loop ?_
  rw[Around.under_plainId PyProof.Rows.F.plain_set_update_loop _]
  refine wpAny_bind (m:=pyNext (.ref I)) (W.done s _ _ st fun h' tk k'=>?_)
  rw[ln,List.take_length] at T
  exact wpAny_pure (q h' tk (fun b o n e=>k' b o (fun z=>n (List.mem_cons_of_mem _ z)) e) (T.keep fun o e=>k' S o nI e))
 |succ k ih=>
  intro i s hk hi st T q
  have lt:i<vs.length:=by omega
  refine codeAny_builtin PyProof.Rows.F.entry_set_update_loop ?_
  rw[Around.under_plainId PyProof.Rows.F.plain_set_update_loop _]
  refine wpAny_bind (m:=pyNext (.ref I)) (W.item i s _ _ lt st fun v h' tk hv st' k'=>?_)
  obtain⟨x,t,rfl,hx⟩:=QH hs i v hv
  refine wpAny_bind (m:=holding [Value.str x t] (setAdd S (.str x t))) (wpAny_holding (Oi (T.keep fun o e=>k' S o nI e) ?_ fun b h2 sb T2=>?_))
  ·have:=NP (ss.take i)
   rw[List.length_take] at this
   omega
  rw[←RJ hx] at T2
  refine wpAny_pure ⟨plainId_quiet PyProof.Rows.F.plain_set_update_loop _,ih (i+1) _ (by omega) lt (W.frame _ _ _ st' fun b hb o e=>?_) T2 fun h3 tk3 k3 T3=>?_⟩
  ·rw[sb.2 b (fun z=>nS (z▸hb))];exact e
  ·refine q h3 tk3 (fun b o n e=>k3 b o n ?_) T3
   rw[sb.2 b (fun z=>n (by simp[z]))]
   exact k' b o (fun z=>n (List.mem_cons_of_mem _ z)) e
theorem S0 (x:Value){Q₁:Value→Shared→Prop}(q:Q₁ (.ref s.heap.objs.size) { s with heap:=s.heap.push { cls:=.type "set",dict:=none,data:=.set #[] 0 (.fresh 0 0 (!Bz w)) } }) :
  codeAny (model prog w) A (.call (.builtin "set.__new__") ⟨[.type "set",x],[]⟩) (wants Q₁ E) s:=by
 refine codeAny_of_tree ?_
 refine wpAny_bind (m:=checkBuiltinCall "set.__new__" ⟨[.type "set",x],[]⟩) (wpAny_of_eq (PySem.F.newCall_set_1 x) (wpAny_pure ⟨plainId_quiet PySem.F.plain_set_new _,codeAny_builtin PySem.F.entry_set_new ?_⟩))
 rw[Around.under_plainId PySem.F.plain_set_new _]
 unfold Builtin.«set.__new__»
 unfold Builtin.Frozenset.newClass
 have hsub:=sub_set_self
 obtain⟨hp,g,d,tk,os⟩:=s
 dsimp only
 wp_walk
 refine wpAny_askSetting (wpAny_pure ?_)
 dsimp only
 simp only[newObj]
 exact wpAny_bind (wpAny_alloc (wpAny_pure (wpAny_pure q)))
end
end L2
namespace L2
section
open PySem PySem.Calls PyProof.Rows
variable {prog:Program}{w:World}{A:Around}{E:Value→Shared→Prop}{s:Shared}
theorem Sd {lq:Addr} {vs:List Value} {ss:List Str} {Q:Value→Shared→Prop} (hh:A.handled=none) (hl:s.heap.IsList lq vs.toArray) (hs:StrsAre vs ss) (hb:vs.length+1<scanBound)
  (q:∀h' tk,(∀b o,s.heap.get? b=some o→h'.get? b=some o)→Eg prog w h' s.heap.objs.size (EW ss)→Q (.ref s.heap.objs.size) { s with heap:=h',toks:=tk }):wpAny (model prog w) A (call (.type "set") [.ref lq]) Q E s:=by
 obtain⟨c,tl,hmro⟩:=PySem.F.called_set.mro
 have hmade:=PySem.F.called_set.made
 have hsub:=PySem.F.called_set.sub
 refine wpAny_call (codeAny_of_tree (wpAny_pure ⟨Code.quiet_builtin _ (by decide +kernel),codeAny_builtin PySem.F.entry_type_call ?_⟩))
 rw[Around.under_plain (weight_type_call_type "set" [.ref lq] []) rfl]
 have h1:=PySem.F.called_set.notType
 have h2:=PySem.F.called_set.canCreate
 have hct:=PySem.F.typeCall_set_1 (.ref lq)
 repeat (any_goals (first|assumption|wp_step))
 refine codeAny_mono (S0 (.ref lq) (E:=E) (Q₁:=fun obj s₁=>obj=.ref s.heap.objs.size∧s₁={ s with heap:=s.heap.push { cls:=.type "set",dict:=none,data:=.set #[] 0 (.fresh 0 0 (!Bz w)) } }) ⟨rfl,rfl⟩) fun r s₁ hr=>?_
 match r,hr with
 | .error e,hr=>exact hr
 | .ok (.ret obj),hr=>
  obtain⟨rfl,rfl⟩:=hr
  have hS:(s.heap.push { cls:=.type "set",dict:=none,data:=.set #[] 0 (.fresh 0 0 (!Bz w)) }).get? s.heap.objs.size=some { cls:=.type "set",dict:=none,data:=.set #[] 0 (.fresh 0 0 (!Bz w)) }:=Heap.get?_push_size _ rfl
  have hT:Shared.TypeIs { s with heap:=s.heap.push { cls:=.type "set",dict:=none,data:=.set #[] 0 (.fresh 0 0 (!Bz w)) } } (.ref s.heap.objs.size) "set":=⟨_,hS,rfl⟩
  have hli:=PySem.F.called_set.init.lookup
  have hbi:=PySem.F.called_set.init.bind (.ref s.heap.objs.size)
  repeat (any_goals (first|assumption|wp_step))
  refine codeAny_mono (codeAny_call_builtin (R:=wants (fun r s₂=>r=.none∧∃h' tk,s₂={ s with heap:=h',toks:=tk }∧(∀b o,s.heap.get? b=some o→h'.get? b=some o)∧Eg prog w h' s.heap.objs.size (EW ss)) E) PySem.F.called_set.init.plain PySem.F.entry_set_init (check_set_init_1 hT ?_)) fun r₂ s₂ hr₂=>?_
  ·obtain⟨⟨cl,dl,tl,sl⟩,el,hcl,nl,hdl⟩:=hl
   simp only at hcl hdl
   subst hcl;subst hdl
   have el':=Heap.get?_push_of_some ({ cls:=.type "set",dict:=none,data:=.set #[] 0 (.fresh 0 0 (!Bz w)) }:Obj) el
   have lt:lq<s.heap.objs.size:=Heap.lt_size el
   have l1:(s.heap.push { cls:=.type "set",dict:=none,data:=.set #[] 0 (.fresh 0 0 (!Bz w)) }).IsList lq vs.toArray:=⟨_,el',rfl,nl,rfl⟩
   have n1:=PySem.F.sub_list_set
   have n2:=PySem.F.sub_list_frozenset
   have n3:(Value.type "list" == Value.type "dict")=false:=by decide
   unfold Builtin.«set.__init__» Builtin.Frozenset.updateFrom noKeywords
   generalize ePI:pyIter=PI
   wp_walk
   subst ePI
   refine wpAny_pyIter_list l1 (wpAny_bind (wpAny_runValue ?_))
   have nI:lq≠(s.heap.push { cls:=.type "set",dict:=none,data:=.set #[] 0 (.fresh 0 0 (!Bz w)) }).objs.size:=by rw[Heap.size_push];exact Nat.ne_of_lt (Nat.lt_succ_of_lt lt)
   have nS:s.heap.objs.size∉[(s.heap.push { cls:=.type "set",dict:=none,data:=.set #[] 0 (.fresh 0 0 (!Bz w)) }).objs.size,lq]:=by
    rw[Heap.size_push]
    simp only[List.mem_cons,List.not_mem_nil,or_false,not_or]
    exact⟨Nat.ne_of_lt (Nat.lt_succ_self _),Nat.ne_of_gt lt⟩
   have hA:A.in1.in1.in1.handled=none:=by simp[hh]
   have W:=Walks.list (prog:=prog) (w:=w) hA (s.heap.push { cls:=.type "set",dict:=none,data:=.set #[] 0 (.fresh 0 0 (!Bz w)) }).objs.size lq nI vs.toArray
   have W2:Walks prog w A.in1.in1.in1 (s.heap.push { cls:=.type "set",dict:=none,data:=.set #[] 0 (.fresh 0 0 (!Bz w)) }).objs.size [(s.heap.push { cls:=.type "set",dict:=none,data:=.set #[] 0 (.fresh 0 0 (!Bz w)) }).objs.size,lq] [(s.heap.push { cls:=.type "set",dict:=none,data:=.set #[] 0 (.fresh 0 0 (!Bz w)) }).objs.size] vs.length (fun i v=>vs[i]?=some v) (fun i h=>h.IsListIter (s.heap.push { cls:=.type "set",dict:=none,data:=.set #[] 0 (.fresh 0 0 (!Bz w)) }).objs.size lq i∧h.IsList lq vs.toArray):=by
    simpa only [List.size_toArray,List.getElem?_toArray] using W
   refine Rj W2 nS hs hb vs.length 0 _ (by omega) (Nat.zero_le _) ⟨⟨_,Heap.get?_push_size _ rfl,rfl,rfl⟩,l1.push _⟩ (Uz (!Bz w) rfl (Heap.get?_push_of_some _ hS)) fun h' tk k' T=>?_
   refine wpAny_pure (wpAny_pure ⟨rfl,h',tk,rfl,fun b o e=>k' b o (fun z=>?_) (Heap.get?_push_of_some _ (Heap.get?_push_of_some _ e)),T⟩)
   have lb:=Heap.lt_size e
   rw[Heap.size_push] at z
   simp only[List.mem_cons,List.not_mem_nil,or_false] at z
   rcases z with rfl|rfl
   ·exact absurd lb (Nat.lt_irrefl _)
   ·exact absurd lb (Nat.not_lt.mpr (Nat.le_succ _))
  ·match r₂,hr₂ with
   | .error e,hr₂=>exact hr₂
   | .ok (.ret r),hr₂=>
    obtain⟨rfl,h',tk,rfl,k',T⟩:=hr₂
    repeat (any_goals (first|assumption|wp_step))
    exact q _ _ k' T
   | .ok .next,hr₂=>exact hr₂.elim
end
end L2
namespace L2
section
open PySem PySem.Calls PyProof.Rows
variable {X:Cx}{pins:List (Addr×Obj)}{σ:St}{H:Hp}{s:Shared}
theorem Inv.drew {d':Drawn}(I:Inv X pins σ H s):Inv X pins σ H { s with drawn:=d' }:=⟨I.ok,I.os,I.bare,I.base,I.loc,I.cell,I.free,I.freeC,I.pin,I.hok,I.len⟩
theorem Ja:∀{ss:List Str} {its:List Value},AJ (ss.map V.str) its→StrsAre its ss
 |[],_,.nil=>.nil
 |x::r,_,.cons h t=>by
  obtain⟨k,rfl⟩:=h
  exact .cons x k (Ja t)
theorem IM:∀{ss:List Str} {its:List Value},StrsAre its ss→AJ (ss.map V.str) its
 |_,_,.nil=>.nil
 |_,_,.cons x t h=>.cons ⟨t,rfl⟩ (IM h)
theorem Qj:∀{kvs:List (Key×V)} {vs:List (Key×Value)},KV kvs vs→vs.map (·.1)=kvs.map (·.1)
 |_,_,.nil=>rfl
 |_,_,.cons h t=>by rw[List.map_cons,List.map_cons,Qj t,h.1]
def Tu (P:Program)(w:World)(p:Addr)(ks:List Str):HO:=.ext fun h=>Eg P w h p ks
def Wp (P:Program)(w:World)(K:PySem.W.Frag):List V→Hp→VK→Prop:=fun xs H Q=>∃(a:Addr) (ss:List Str),xs=[.ref a]∧AU K H a (ss.map V.str)∧ss.length≤1000∧∀p,H p=none→Q (.ref p) (upd H p (Tu P w p (EW ss)))
theorem Rl {P:Program}{w:World}{K:PySem.W.Frag}(hP:X.prog=P)(hw:X.w=w)(hK:X.K=K)(hc:X.calm=true):Ff X (.type "set") (Wp P w K):=by
 subst hP hw hK
 intro pins s σ H xs us Q I r h
 obtain⟨a,ss,rfl,h1,few,q⟩:=h
 obtain⟨u,rfl,ru⟩:=vals1 r
 cases ru
 obtain⟨its,r1,p1,_⟩:=I.list h1
 have hs:=Ja r1
 have ln:=hs.length
 refine Sd (I.ok.hd hc) p1.isList hs (by rw[ln];unfold scanBound;omega) fun h' tk k T=>⟨.ref s.heap.objs.size,_,I.laid (t':=tk) k (Nat.le_refl _) (?_:Bj X.prog X.w _ h' _ (Tu X.prog X.w s.heap.objs.size (EW ss))),rfl,q _ (I.hok.fresh (Nat.le_refl _))⟩
 exact⟨T,let⟨o,_,_,_,_,e,_⟩:=T;⟨o,e⟩,fun h1 h2 T1 kk=>T1.keep kk⟩
def Te (H:Hp)(ks:List Str)(Q:VK):Prop:=∀ts p,ts.Perm ks→sortedS ts=true→H p=none→Q (.ref p) (upd H p (.lst (ts.map V.str)))
theorem Sx {Q:VK}{ks:List Str}{d':Drawn}{tk:Nat}{h1:Heap}{vs:List Value}{ss:List Str}(I:Inv X pins σ H s)(k:∀b o,s.heap.get? b=some o→h1.get? b=some o)(hs:StrsAre vs ss)(pm:ss.Perm ks)(few:ks.length<64)(q:Te H ks Q) :
  Qr (EP X pins σ Q) vs { s with heap:=h1,drawn:=d',toks:=tk }:=by
 have I1:Inv X pins σ H { s with heap:=h1,drawn:=d',toks:=tk }:=(I.drew (d':=d')).kept (t':=tk) k
 refine⟨ss,hs,by rw[hs.length,pm.length_eq];exact few,fun h' p out ss' c ho pe so lp k' e=>⟨.ref p,_,I1.laid (t':=tk) k' lp (?_:Bj X.prog X.w _ h' p (.lst (ss'.map V.str))),rfl,q ss' p (pe.trans pm) so (I1.hok.fresh lp)⟩⟩
 refine⟨?_,out,c,IM ho,e⟩
 rw[List.length_map,pe.length_eq,pm.length_eq,sizeLine_eq]
 omega
def VY (P:Program)(w:World):List V→Hp→VK→Prop:=fun xs H Q=>∃(a:Addr) (ks:List Str),xs=[.ref a]∧H a=some (Tu P w a ks)∧ks.length<64∧Te H ks Q
theorem PM {P:Program}{w:World}(hP:X.prog=P)(hw:X.w=w)(hc:X.calm=true):Ff X (.builtin "sorted") (VY P w):=by
 subst hP hw
 intro pins s σ H xs us Q I r h
 obtain⟨a,ks,rfl,h1,few,q⟩:=h
 obtain⟨u,rfl,ru⟩:=vals1 r
 cases ru
 obtain⟨T,_⟩:Bj X.prog X.w H s.heap a (Tu X.prog X.w a ks):=I.hok a _ h1
 obtain⟨o,es,ep,t,ss,e,ex,d,el,f,hl,hp,hs,pm⟩:=T
 have ln:es.size=ks.length:=by rw[←pm.length_eq,←hs.length,List.length_map,Array.length_toList]
 refine LV (On (by simpa using I.ok.hd hc) ⟨o,e,ex.1,d⟩ f hl hp (by rw[ln];unfold scanBound;omega) fun h' d' tk vs k pv=>?_)
 obtain⟨ts,y1,y2⟩:=JP hs pv
 exact Sx I k y1 (y2.trans pm) few q
end
end L2
namespace L2
open PySem
end L2
namespace L2
open PySem PySem.Spec PyProof.Rows
section
variable {X:Cx}{els:List Expr}{kk:Nat}{pp:Pos}
end
end L2
namespace L2
open PySem PySem.Spec PyProof.Rows
section
variable {X:Cx}
end
end L2
namespace L2
open PySem PySem.Spec PyProof.Rows
section
variable {X:Cx}
end
end L2
namespace L2
open PySem PySem.Spec PyProof.Rows
theorem IK:∀{ns:List Int} {its:List Value},IntsAre its ns→AJ (ns.map V.int) its
 |[],_,.nil=>.nil
 |_::_,_,.cons n t h=>.cons ⟨_,rfl⟩ (IK h)
end L2
namespace L2
open PySem PySem.Spec PyProof.Rows
section
variable {X:Cx}{e:Expr}{es:List Expr}{pos:Pos}
end
end L2
namespace L2
section
open PySem PySem.Calls PyProof.Rows
variable {prog:Program}{w:World}{A:Around}{E:Value→Shared→Prop}{s:Shared}{it d:Addr}{i ep:Nat}{es:Array DictEntry}
def So (h:Heap)(d:Addr)(es:Array DictEntry)(ep:Nat):Prop:=∃o,h.get? d=some o∧o.ExactDict∧o.data=.dict es ep
theorem So.ty (x:So s.heap d es ep):s.TypeIs (.ref d) "dict":=let⟨o,ho,hc,_⟩:=x;⟨o,ho,hc.1⟩
theorem So.at {h h':Heap}(x:So h d es ep)(k:∀o,h.get? d=some o→h'.get? d=some o):So h' d es ep:=let⟨o,ho,r⟩:=x;⟨o,k o ho,r⟩
end
section
open PySem PySem.Spec PyProof.Rows
variable {X:Cx}{tg:Expr}
end
end L2
namespace L2
section
open PySem PyProof.Rows
variable {prog:Program}{w:World}{A:Around}{E:Value→Shared→Prop}{s:Shared}{a₀:Array Keyed}
theorem Mo:∀(fuel n r:Nat),minRun' fuel n r≤n+r
 |0,_,_=>Nat.le_refl _
 |fuel+1,n,r=>by
  rw[minRun'_succ]
  by_cases h:n<64
  ·rw[if_pos h];exact Nat.le_refl _
  ·rw[if_neg h]
   have:=Mo fuel (n/2) (max r (n%2))
   omega
theorem OU {st:SortSt}{Q:Option Nat→SortSt→Prop}(h0:IntKeys a₀)(h1:1≤a₀.size)(hB:SBase a₀ st)(up:SortedTo (arrOf st) a₀.size)(h:Q (some a₀.size) st) :
  wpS (model prog w) A E s (countRun' 0 a₀.size) Q st:=by
 rw[countRun0_eq]
 have one:SortedTo (arrOf st) 1:=fun i j hij hj=>by
  obtain rfl:i=j:=by omega
  exact Int.le_refl _
 refine wpS_bind (wpS_ascLoop h0 (Nat.le_refl _) (Nat.le_refl 1) h1 hB one fun n hn1 hn2 _ hor=>?_)
 have hn:n=a₀.size:=by
  rcases hor with e|lt
  ·exact e
  ·by_cases e:n=a₀.size
   ·exact e
   ·have:=up (n-1) n (by omega) (by omega)
    omega
 subst hn
 dsimp only
 rw[if_pos (by simp)]
 exact wpS_pure h
theorem Pc {st:SortSt} {Q:Unit→SortSt→Prop} (h0:IntKeys a₀) (hB:SBase a₀ st) (h2:2≤a₀.size) (up:SortedTo (arrOf st) a₀.size)
  (h:∀st',(arrOf st').Perm a₀→failedOf st'=none→SortedTo (arrOf st') a₀.size→Q () st'):wpS (model prog w) A E s sortRuns' Q st:=by
 rw[sortRuns'_eq]
 refine wpS_bind (wpS_get ?_)
 have hm:minRun' a₀.size a₀.size 0≤a₀.size:=Mo _ _ 0
 simp only[hB.size]
 generalize minRun' a₀.size a₀.size 0=mr at hm
 have D:=hB.done up
 refine wpS_bind (wpS_mono (wpS_forRange (I:=fun x c st'=>(x=0∧c=(none,0)∧st'=st)∨(0<x∧c=(none,a₀.size)∧SDone a₀ st')) (Q:=fun c st'=>c=(none,a₀.size)∧SDone a₀ st') (fun x c st' _ hx hI=>?_) (fun c st' hI=>?_) (.inl ⟨rfl,rfl,rfl⟩)) fun c st' hc=>?_)
 ·rcases hI with⟨rfl,rfl,rfl⟩|⟨hx1,rfl,hD⟩
  ·dsimp only
   rw[if_neg (by omega)]
   simp only[Nat.sub_zero,Nat.zero_add]
   refine wpS_bind (OU h0 (by omega) hB up ?_)
   dsimp only
   rw[if_neg (by omega)]
   refine wpS_bind (wpS_get ?_)
   have hb:(pendingOf st').back?=none:=by rw[hB.pend];rfl
   rw[hb]
   dsimp only
   exact wpS_bind (wpS_modify (wpS_pure (.inr ⟨by omega,rfl,D⟩)))
  ·dsimp only
   rw[if_pos (Nat.le_refl _)]
   exact wpS_pure ⟨rfl,hD⟩
 ·rcases hI with⟨hx,_⟩|⟨_,hc,hD⟩
  ·omega
  ·exact⟨hc,hD⟩
 ·obtain⟨rfl,hD⟩:=hc
  dsimp only
  refine wpS_bind (wpS_mono (wpS_forRange (I:=fun _ c st2=>c=(none,())∧st2=st') (Q:=fun c st2=>c=(none,())∧st2=st') (fun x c st2 _ _ hI=>?_) (fun _ _ hh=>hh) ⟨rfl,rfl⟩) fun c st2 hc=>?_)
  ·obtain⟨rfl,rfl⟩:=hI
   refine wpS_bind (wpS_get ?_)
   rw[if_pos (by rw[hD.2.2.1];exact Nat.le_refl 1)]
   exact wpS_pure ⟨rfl,rfl⟩
  ·obtain⟨rfl,rfl⟩:=hc
   exact wpS_pure (h _ hD.1 hD.2.1 hD.2.2.2)
theorem SS {vs:List Value}{ns:List Int}(hI:IntsAre vs ns)(up:ns.Pairwise (·≤·)):SortedTo (pairsOf vs) (pairsOf vs).size:=by
 have en:=hI.nums
 intro i j hij hj
 have hjv:j<vs.length:=by rw[pairsOf_size] at hj;exact hj
 have kk:∀k,(hk:k<vs.length)→K (pairsOf vs) k=(vs.map numOf)[k]'(by rw[List.length_map];exact hk):=fun k hk=>by
  rw[K_eq (by rw[pairsOf_size];exact hk)]
  simp[pairsOf]
 rw[kk i (by omega),kk j hjv]
 subst en
 by_cases e:i=j
 ·subst e;exact Int.le_refl _
 ·exact List.pairwise_iff_getElem.mp up i j _ _ (by omega)
theorem Uv {a:Addr} {vs:List Value} {ns:List Int} {n:Nat} {P:PySem.Fin→Shared→Prop} (ho:s.heap.get? a=some (seqObj "list" vs.toArray n)) (hI:IntsAre vs ns) (up:vs.length<64∨(vs.length≤sizeLine∧ns.Pairwise (·≤·)))
  (h:∀(out:Array Value) (ns':List Int),IntsAre out.toList ns'→ns'.Perm ns→ns'.Pairwise (·≤·)→P (.done (.ret .none)) { s with heap:=sortedHeap s.heap a vs out }) :
  wpAny (model prog w) A (Builtin.«list.sort» ⟨[.ref a],[]⟩) P E s:=by
 by_cases few:vs.length<64
 ·exact list_sort_tree ho hI few h
 have hz:=(up.resolve_left few).1
 have up':=(up.resolve_left few).2
 rw[list_sort_plain]
 have ha:a<s.heap.objs.size:=Heap.lt_size ho
 refine wpAny_bind (listItems_at ho rfl (wpAny_bind (listUpdate_at ho rfl ?_)))
 obtain⟨e1,h1⟩:∃e,(s.heap.update a (Obj.mapSeq fun _=>#[])).get? a=some (seqObj "list" #[] e):=⟨_,get?_update_seq ho (fun _=>#[])⟩
 refine wpAny_bind (seqEpoch_at h1 rfl (wpAny_bind (wpAny_newTuple (wpAny_bind (wpAny_newList (wpAny_holding ?_))))))
 have n1:a≠(s.heap.update a (Obj.mapSeq fun _=>#[])).objs.size:=by rw[Heap.size_update];exact Nat.ne_of_lt ha
 have n2:a≠((s.heap.update a (Obj.mapSeq fun _=>#[])).push (seqObj "tuple" vs.toArray 0)).objs.size:=by rw[Heap.size_push,Heap.size_update];exact Nat.ne_of_lt (Nat.lt_succ_of_lt ha)
 have h2:(((s.heap.update a (Obj.mapSeq fun _=>#[])).push (seqObj "tuple" vs.toArray 0)).push (seqObj "list" #[] 0)).get? a=some (seqObj "list" #[] e1):=by
  rw[Heap.get?_push_ne _ _ _ n2,Heap.get?_push_ne _ _ _ n1];exact h1
 show wpAny (model prog w) A _ P E { s with heap:=((s.heap.update a (Obj.mapSeq fun _=>#[])).push (seqObj "tuple" vs.toArray 0)).push (seqObj "list" #[] 0) }
 dsimp only
 have hs2:¬vs.toArray.size<2:=by simp;omega
 have ps:=pairsOf_size vs
 rw[if_neg hs2,if_neg hs2]
 obtain⟨v1,v2,rest,rfl⟩:∃v1 v2 rest,vs=v1::v2::rest:=by
  match vs,few with
  |[],q=>exact absurd (by decide) q
  |[_],q=>exact absurd (by show 1<64;decide) q
  |v1::v2::rest,_=>exact⟨v1,v2,rest,rfl⟩
 rw[keyKind_ints hI]
 refine wpAny_bind (wpAny_pure (wpAny_bind (wpAny_mono (Pc (a₀:=pairsOf (v1::v2::rest)) (st:=SortSt.mk' oneType' ((v1::v2::rest).toArray.zip (v1::v2::rest).toArray) #[] 7 none)
  (Q:=fun _ st'=>(arrOf st').Perm (pairsOf (v1::v2::rest))∧failedOf st'=none∧SortedTo (arrOf st') (pairsOf (v1::v2::rest)).size)
  hI.intKeys ⟨Array.Perm.refl _,rfl,rfl,rfl⟩ (by rw[ps];simp) (SS hI up') fun st' a1 a2 a3=>⟨a1,a2,a3⟩) (fun r s' hr=>?_) fun _ _ e=>e)))
 obtain⟨⟨⟩,st'⟩:=r
 obtain⟨rfl,hp,hf,hs⟩:=hr
 dsimp only
 refine wpAny_bind (seqEpoch_at h2 rfl (wpAny_bind (listUpdate_at h2 rfl ?_ (hsz2:=?_))))
 ·rw[hf]
  simp only[bne_self_eq_false,Bool.false_eq_true,if_false]
  obtain⟨ns',g1,g2,g3⟩:=sorted_out hI hp hs
  exact wpAny_pure (h _ ns' g1 g2 g3)
 ·rw[Array.size_map,hp.size_eq,ps];exact Nat.le_succ_of_le hz
end
end L2
namespace L2
section
open PySem PySem.Calls PyProof.Rows
variable {prog:Program}{w:World}{A:Around}{E:Value→Shared→Prop}{s:Shared}
def Si (Q:Value→Shared→Prop)(vs:List Value)(s1:Shared):Prop:=∃ns,IntsAre vs ns∧(vs.length<64∨(vs.length≤sizeLine∧ns.Pairwise (·≤·)))∧
 ∀h' p (out:List Value) ns' c,IntsAre out ns'→ns'.Perm ns→ns'.Pairwise (·≤·)→s1.heap.objs.size≤p→(∀b o,s1.heap.get? b=some o→h'.get? b=some o)→
  h'.get? p=some (seqObj "list" out.toArray c)→Q (.ref p) { s1 with heap:=h' }
theorem LI {x:Value}{Q:Value→Shared→Prop}(hc:wpAny (model prog w) A.in1 (collect x) (Si Q) E s):wpAny (model prog w) A (call (.builtin "sorted") [x]) Q E s:=by
 refine Calls.call_function_entry kind_sorted plain_sorted entry_sorted (args_sorted1 x) ?_
 unfold Builtin.«sorted»
 refine wpAny_bind (m:=checkCount "sorted" 1 1 _) (wpAny_pure (wpAny_bind (wpAny_mono hc (fun vs s1 z=>?_) fun _ _ e=>e)))
 obtain⟨ns,hI,few,q⟩:=z
 have there:(s1.heap.push (seqObj "list" vs.toArray 0)).get? s1.heap.objs.size=some (seqObj "list" vs.toArray 0):=Heap.get?_push_size _ rfl
 refine wpAny_bind (wpAny_newList (wpAny_bind (wpAny_holding (wpAny_call_entry slot_list_sort ⟨_,there,rfl⟩ entry_list_sort (Uv there hI few fun out ns' a1 a2 a3=>⟨_,rfl,?_⟩) (args_list_sort _)))))
 obtain⟨c,hp⟩:=sortedHeap_at (out:=out) there
 refine wpAny_pure ⟨_,rfl,q _ _ out.toList ns' c a1 a2 a3 (Nat.le_refl _) (fun b o e=>?_) (by rw[Array.toArray_toList];exact hp)⟩
 have lt:=Heap.lt_size e
 show Heap.get? _ b=some o
 rw[sortedHeap_old (Nat.ne_of_lt lt) (by rw[Heap.size_push];exact Nat.lt_succ_of_lt lt)]
 exact Heap.get?_push_of_some _ e
end
section
open PySem PySem.Spec PyProof.Rows
variable {X:Cx}
theorem Qt:∀{vs:List Value} {ns:List Int},vs.length=ns.length→(∀(j:Nat) v,vs[j]?=some v→∃n t,ns[j]?=some n∧v=.int n t)→IntsAre vs ns
 |[],[],_,_=>.nil
 |[],_::_,h,_=>by cases h
 |_::_,[],h,_=>by cases h
 |v::vs,n::ns,h,k=>by
  obtain⟨n',t,e,rfl⟩:=k 0 v rfl
  cases e
  exact .cons _ _ (Qt (by simpa using h) fun j v e=>k (j+1) v (by simpa using e))
def UJ:List V→Hp→VK→Prop:=fun xs H Q=>∃(d:Addr) (kvs:List (Key×V)) (ns:List Int),xs=[.ref d]∧H d=some (.dK kvs)∧kvs.map (·.1)=ns.map .inl∧(ns.length<64∨(ns.length≤100000∧ns.Pairwise (·≤·)))∧∀(ms:List Int) (p:Addr),ms.Perm ns→ms.Pairwise (·≤·)→H p=none→Q (.ref p) (upd H p (.lst (ms.map V.int)))
theorem G7 (hc:X.calm=true):Ff X (.builtin "sorted") UJ:=by
 intro pins s σ H xs us Q I r h
 obtain⟨d,kvs,ns,rfl,h1,hk,few,q⟩:=h
 obtain⟨u,rfl,ru⟩:=vals1 r
 cases ru
 obtain⟨_,lo,vs,rv,o,es,ep,ho,h2,h3,h4⟩:Bj X.prog X.w H s.heap d (.dK kvs):=I.hok d _ h1
 have D:s.heap.DictAt (AX X.prog X.w) d vs ep:=⟨o,es,ho,h2,h3,h4⟩
 have ln:vs.length=ns.length:=by
  have:=congrArg List.length hk
  rw[List.length_map,List.length_map] at this
  rw[←this];exact rv.length.symm
 refine LI (OF (PySem.W.kdl_dict (knd:=AX X.prog X.w) (kvs:=vs) (ep:=ep) lo) (by simpa using I.ok.hd hc) D (by rw[ln,sizeLine_eq];omega) fun h' tk us k lu it=>?_)
 have hs:IntsAre us ns:=by
  refine Qt (by rw[lu,ln]) fun j v e=>?_
  obtain⟨ky,x,e1,e2⟩:=it j v e
  have e3:(kvs.map (·.1))[j]?=some ky:=by rw[←Qj rv,List.getElem?_map,e1];rfl
  rw[hk,List.getElem?_map] at e3
  cases z:ns[j]? with
  |none=>rw[z] at e3;cases e3
  |some y=>
   rw[z] at e3
   injection e3 with e3
   subst e3
   obtain⟨t,rfl⟩:=TH e2
   exact⟨_,t,rfl,rfl⟩
 have I1:Inv X pins σ H { s with heap:=h',toks:=tk }:=I.kept (t':=tk) k
 refine⟨ns,hs,by rw[lu,ln];exact few.imp id fun z=>⟨by rw[sizeLine_eq];omega,z.2⟩,fun h2 p out ns' c a1 a2 a3 lp k2 hp=>⟨.ref p,_,I1.laid (t':=tk) k2 lp (?_:Bj X.prog X.w _ h2 p (.lst (ns'.map V.int))),rfl,q ns' p a2 a3 (I1.hok.fresh lp)⟩⟩
 refine⟨?_,out,c,IK a1,hp⟩
 rw[List.length_map,a2.length_eq,sizeLine_eq]
 omega
theorem TC {pins:List (Addr×Obj)} {σ:St} {H:Hp} {s:Shared} {a:Addr} {kvs:List (Key×V)} {k:Key} {u r:Value} {z:V} {A:Around} {E:Value→Shared→Prop} {Q:Value→Shared→Prop} (I:Inv X pins σ H s) (e:H a=some (.dK kvs)) (ry:RelV (kV k) u) (rz:RelV z r) (hl:kvs.length<sizeLine)
  (h1:∀v w' s',Ct kvs k=some v→Inv X pins σ H s'→RelV v w'→Q w' s') (h2:Ct kvs k=none→∀s',Inv X pins σ (upd H a (.dK (putK kvs k z))) s'→Q r s'):wpAny (model X.prog X.w) A (call (.builtin "dict.setdefault") [.ref a,u,r]) Q E s:=by
 obtain⟨z0,hd,vs,rel,dd⟩:=TY I.hok e
 have ki:=KO (P:=X.prog) (w:=X.w) ry
 cases hv:Ct kvs k with
 |some v=>
  obtain⟨w',hw,rw'⟩:=Gc.some_of (v:=v) (o:=valueAt vs k) (by rw[←hv];exact rel.val k)
  refine call_meetsIn PySem.F.slot_dict_setdefault dd.typeIs PySem.F.entry_dict_setdefault (PySem.F.args_dict_setdefault_3 _ _ _) (meets_dict_setdefault (AX X.prog X.w) a ki hd r) ⟨_,dd.mapOf,?_,fun v' e'=>?_,fun e'=>?_⟩
  ·obtain⟨o,es,ep,ho,_,hx,_,hp,_⟩:=id dd
   intro o' es' ep' g1 g2
   rw[ho] at g1
   cases g1
   rw[hx] at g2
   cases g2
   have:=hp.length
   rw[Array.length_toList] at this
   rw[this,←rel.length];exact z0
  ·rw[hw] at e'
   cases e'
   exact h1 v _ _ hv (I.tok _) rw'
  ·rw[hw] at e';cases e'
 |none=>
  have hn:valueAt vs k=none:=Gc.none_of (by rw[←hv];exact rel.val k)
  obtain⟨o,es,ep,ho,hc,hx,hk,hp,nd⟩:=id dd
  refine wpAny_call_entry PySem.F.slot_dict_setdefault dd.typeIs PySem.F.entry_dict_setdefault ?_ (PySem.F.args_dict_setdefault_3 _ _ _)
  refine wpAny_bind (wpAny_bind (wpAny_notOrdered_dict dd.typeIs (wpAny_pure ?_)))
  change wpAny _ _ (if(a == sysModules)=true then _ else(dictSetDefault a u r >>= _)) _ _ s
  rw[if_neg (by rw[hd];exact Bool.false_ne_true)]
  have le:es.size≤sizeLine:=by
   have:=hp.length
   rw[Array.length_toList] at this
   rw[this,←rel.length];exact z0
  have nk:∀kv∈vs,decide (kv.1=k)=false:=fun kv hkv=>by
   cases q:decide (kv.1=k) with
   |false=>rfl
   |true=>
    unfold valueAt at hn
    rw[Option.map_eq_none_iff,List.find?_eq_none] at hn
    exact absurd q (hn kv hkv)
  have fi:(es.findIdx? fun e=>(AX X.prog X.w).is k e.key)=none:=by
   have h3:(es.toList.findIdx? fun e=>(AX X.prog X.w).is k e.key)=none:=by rw[hp.findIdx k];exact List.findIdx?_eq_none_iff.mpr nk
   obtain⟨l⟩:=es
   simpa using h3
  unfold dictSetDefault
  refine wpAny_bind (wpAny_holding (wpAny_bind ((AX X.prog X.w).pyHash ki (wpAny_bind (wpAny_dictFind_of (s:={ s with toks:=s.toks+1 }) ki ho hx hk ?_)))))
  rw[fi]
  have est:stored vs k r=vs++[(k,r)]:=by
   unfold stored
   rw[if_neg fun q=>by obtain⟨kv,h3,h4⟩:=List.any_eq_true.mp q;rw[nk kv h3] at h4;cases h4]
  refine wpAny_bind (wpAny_rule (wpAny_bind (wpAny_updateDictKeys (hz:=le) (s:={ s with toks:=s.toks+1 }) ho hx (wpAny_pure (wpAny_pure ⟨r,rfl,h2 hv _ ?_⟩)))))
  have hlp:(putK kvs k z).length≤sizeLine:=by have:=Ht kvs k z;omega
  refine KE (I.tok _) (by rw[e];exact True.intro) (Heap.SameBut.update ..) ⟨_,Heap.get?_update_self _ ho (Obj.isFreed_of_dict (Obj.data_mapDictKeys hx _))⟩ (Pu hlp hd (rel.put k rz) ?_)
  rw[est]
  refine⟨_,_,ep+1,Heap.get?_update_self _ ho (Obj.isFreed_of_dict (Obj.data_mapDictKeys hx _)),hc.mapDictKeys _,Obj.data_mapDictKeys hx _,hk.push ki _,?_,?_⟩
  ·have:=hp.append ki ((AX X.prog X.w).hash k) r
   obtain⟨l⟩:=es
   simpa using this
  ·rw[List.map_append]
   refine List.nodup_append.mpr ⟨nd,by simp,fun x hx y hy h5=>?_⟩
   obtain⟨kv,h3,rfl⟩:=List.mem_map.mp hx
   have h6:=nk kv h3
   rw[decide_eq_false_iff_not] at h6
   rw[List.map_cons,List.map_nil,List.mem_singleton] at hy
   exact h6 (h5.trans hy)
def V6 (td ty tx:TE):TE:=fun σ H Q=>td σ H fun x H1=>∃a,x=.ref a∧WX H1 a∧ty σ H1 fun y H2=>tx σ H2 fun z H3=>∃kvs k,H3 a=some (.dK kvs)∧y=kV k∧kvs.length<sizeLine∧(∀v,Ct kvs k=some v→Q v H3)∧(Ct kvs k=none→Q z (upd H3 a (.dK (putK kvs k z))))
theorem Ti {o e f:Expr}{td ty tx:TE}{apos cpos:Pos}(ho:PE X o td)(he:PE X e ty)(hf:PE X f tx)(m:M2 X o "setdefault" apos e f cpos):PE X (.Call (.Attribute o "setdefault" apos) [e,f] [] cpos) (V6 td ty tx):=by
 intro pins s σ H Q I h
 refine wpAny_Call_method m.base m.few m.line PySem.F.plainAttrs_dict PySem.F.slot_dict_setdefault PySem.F.type_dict_setdefault (Bo (ho pins s σ H _ I h) fun u s1 ⟨x,H1,I1,rx,a,ex,d,q1⟩=>?_)
 subst ex
 obtain rfl:u=Value.ref a:=rx
 obtain⟨t1,t2,_⟩:=M9 I1 d
 refine⟨t1,t2,?_⟩
 rw[m.trees]
 refine Calls.callWith_builtin rfl (Calls.evalArgs_plain (Calls.spliced_cons (Bo (he pins s1 σ H1 _ I1 q1) fun iv s2 ⟨y,H2,I2,ry,q2⟩=>Calls.spliced_cons (Bo (hf pins s2 σ H2 _ I2 q2) fun r s3 ⟨z,H3,I3,rz,kvs,k,hd,ey,hl,q3,q4⟩=>Calls.spliced_nil ?_))))
 subst ey
 exact TC I3 hd ry rz hl (fun v w' s' hv I' rw'=>⟨v,H3,I',rw',q3 v hv⟩) fun hv s' I'=>⟨z,_,I',rz,q4 hv⟩
end
section
open PySem PySem.Calls PyProof.Rows
variable {prog:Program}{w:World}{A:Around}{E:Value→Shared→Prop}{I S:Addr}{fp wr:List Addr}{n:Nat}{P:Nat→Value→Prop}{St:Nat→Heap→Prop}{bt:Nat→Nat→Bool}{d:Value}{R:Result→Shared→Prop}
def VN (P:Nat→Value→Prop)(bt:Nat→Nat→Bool)(i:Nat)(arr:List Value):Prop:=(arr=[]∧i=0)∨∃v,arr=[v,v]∧0<i∧P (argBest bt (i-1)) v
theorem RO (W:Walks prog w A.in1 I fp wr n P St)(hcmp:CmpOf prog w A.in1 .Gt P bt)(hSf:S∉fp):∀(k i:Nat) (s:Shared) (arr:List Value) (c:Nat),i+k=n→St i s.heap→s.heap.get? S=some { cls:=.type "list",dict:=none,data:=.seq arr.toArray c,slots:=#[] }→VN P bt i arr→
  (∀r h' tk,(n=0∧r=d∨0<n∧P (argBest bt (n-1)) r)→(∀b o,b∉wr→b≠S→s.heap.get? b=some o→h'.get? b=some o)→R (.ok (.ret r)) { s with heap:=h',toks:=tk })→
  codeAny (model prog w) A (.builtin "max.loop" ⟨[.ref I,.none,.ref S],[("default",d)]⟩) R s:=by
 have hSw:S∉wr:=fun h=>hSf (W.sub _ h)
 intro k
 induction k with
 |zero=>
  intro i s arr c hk hst hS hb hR
  cases(show i=n by omega)
  refine codeAny_builtin PySem.F.entry_max_loop ?_
  rw[Around.under_plainId PySem.F.plain_max_loop _]
  refine wpAny_bind (m:=seqItems? (.ref S)) (wpAny_seqItems hS rfl (wpAny_bind (wpAny_tryCatch (W.done s _ _ hst fun h' tk k'=>?_))))
  rcases hb with⟨rfl,i0⟩|⟨v,rfl,i0,hv⟩
  ·exact wpAny_bind (wpAny_rule (wpAny_pure (hR d h' tk (.inl ⟨i0,rfl⟩) fun b o hb _ e=>k' b o hb e)))
  ·exact wpAny_bind (wpAny_updateSeq (k' S _ hSw hS) rfl (wpAny_bind (wpAny_letGo (wpAny_pure (hR v _ tk (.inr ⟨i0,hv⟩) fun b o hb hS e=>(Heap.get?_update_other _ _ (Ne.symm hS)).trans (k' b o hb e))))))
 |succ k ih=>
  intro i s arr c hk hst hS hb hR
  refine codeAny_builtin PySem.F.entry_max_loop ?_
  rw[Around.under_plainId PySem.F.plain_max_loop _]
  refine wpAny_bind (m:=seqItems? (.ref S)) (wpAny_seqItems hS rfl (wpAny_bind (wpAny_tryCatch (W.item i s _ _ (by omega) hst fun x h' tk hP st' k'=>?_))))
  have hS':=k' S _ hSw hS
  have nm:(toString "max"++toString ".loop":String)="max.loop":=by decide
  have la:arr.toArray.size≤sizeLine:=by
   rw[sizeLine_eq]
   rcases hb with⟨rfl,_⟩|⟨v,rfl,_⟩
   ·exact Nat.zero_le _
   ·show 2≤_;omega
  have put:∀(tk':Nat),P (argBest bt i) x→wpAny (model prog w) A.in1 (updateSeq S (fun _=>#[x,x])) (fun _ s'=>codeAny (model prog w) A (.builtin "max.loop" ⟨[.ref I,.none,.ref S],[("default",d)]⟩) R s') (fun e s'=>R (.error e) s') { s with heap:=h',toks:=tk' }:=fun tk' hx=>by
   refine wpAny_updateSeq (hz:=la) (s:={ s with heap:=h',toks:=tk' }) hS' rfl (ih (i+1) _ [x,x] _ (by omega) (W.frame _ _ _ st' fun b hb o e=>?_) (Heap.get?_update_self _ hS' rfl) (.inr ⟨x,rfl,Nat.succ_pos _,hx⟩) fun r h2 tk2 hr k2=>?_)
   ·exact(Heap.get?_update_other _ _ (fun z:S=b=>hSf (by rw[z];exact hb))).trans e
   ·exact hR r h2 tk2 hr fun b o hb hbS e=>k2 b o hb hbS ((Heap.get?_update_other _ _ (Ne.symm hbS)).trans (k' b o hb e))
  rcases hb with⟨rfl,i0⟩|⟨v,rfl,i0,hv⟩
  ·subst i0
   refine wpAny_bind (wpAny_pure (wpAny_bind (wpAny_mono (put tk hP) (fun _ s' q=>?_) fun _ _ q=>q)))
   rw[nm]
   exact wpAny_pure ⟨plainId_quiet PySem.F.plain_max_loop _,q⟩
  ·refine wpAny_bind (wpAny_pure (wpAny_bind (wpAny_tryCatch (wpAny_holding (wpAny_bind (hcmp i (argBest bt (i-1)) x v _ _ _ hP hv (wpAny_bind (wpAny_holding (wpAny_truthy_bool (wpAny_bind (wpAny_letGo (wpAny_pure ?_))))))))))))
   have ea:argBest bt i=if bt i (argBest bt (i-1)) then i else argBest bt (i-1):=by
    obtain⟨j,rfl⟩:∃j,i=j+1:=⟨i-1,by omega⟩
    rfl
   cases q:bt i (argBest bt (i-1)) with
   |true=>
    rw[q,if_pos rfl] at ea
    rw[if_pos rfl]
    refine wpAny_bind (wpAny_mono (put tk (by rw[ea];exact hP)) (fun _ s' z=>wpAny_bind (wpAny_letGo ?_)) fun _ _ z=>z)
    rw[nm]
    exact wpAny_pure ⟨plainId_quiet PySem.F.plain_max_loop _,z⟩
   |false=>
    rw[q,if_neg Bool.false_ne_true] at ea
    rw[if_neg Bool.false_ne_true]
    refine wpAny_bind (wpAny_letGo ?_)
    rw[nm]
    refine wpAny_pure ⟨plainId_quiet PySem.F.plain_max_loop _,ih (i+1) _ [v,v] _ (by omega) st' hS' (.inr ⟨v,rfl,Nat.succ_pos _,?_⟩) fun r h2 tk2 hr k2=>hR r h2 tk2 hr fun b o hb hbS e=>k2 b o hb hbS (k' b o hb e)⟩
    show P (argBest bt i) v
    rw[ea]
    exact hv
theorem Ut (l:Addr)(d:Value):checkBuiltinCall "max" ⟨[.ref l],[("default",d)]⟩=pure ():=by kernel_rfl
theorem RK {l:Addr} {items:Array Value} {Q:Value→Shared→Prop} {s:Shared} (hh:A.handled=none) (hl:s.heap.IsList l items) (val:Nat→Int) (hval:∀i v,items[i]?=some v→∃t,v=Value.int (val i) t)
  (q:∀r h' tk,(items.size=0∧r=d∨0<items.size∧items[argBest (fun i j=>decide (val j<val i)) (items.size-1)]?=some r)→(∀b o,s.heap.get? b=some o→h'.get? b=some o)→Q r { s with heap:=h',toks:=tk }):wpAny (model prog w) A (call (.builtin "max") [.ref l] [("default",d)]) Q E s:=by
 refine wpAny_call (codeAny_call_builtin PySem.F.plain_max PySem.F.entry_max ?_)
 rw[Ut]
 refine wpAny_pure ?_
 have nm:(toString "max"++toString ".loop":String)="max.loop":=by decide
 change wpAny _ A.in1 (Builtin.Builtins.bindParams "max" ["key","default"] 0 ⟨[],[("default",d)]⟩ >>= _) _ _ s
 refine wpAny_bind (wpAny_of_eq (show Builtin.Builtins.bindParams "max" ["key","default"] 0 ⟨[],[("default",d)]⟩=pure [none,some d] from rfl) (wpAny_bind (wpAny_pure (wpAny_bind (wpAny_pyIter_list hl ?_)))))
 refine wpAny_bind (wpAny_newObj_type ?_)
 rw[nm]
 have ll:l<s.heap.objs.size:=let⟨_,ho,_⟩:=hl;Heap.lt_size ho
 have sz:(s.heap.push { cls:=.type "list_iterator",data:=.fields #[.ref l,.int 0 0] }).objs.size=s.heap.objs.size+1:=Heap.size_push ..
 refine wpAny_pure ⟨plainId_quiet PySem.F.plain_max_loop _,RO (P:=fun i v=>items[i]?=some v) (Walks.list (A:=A.in1) (show A.in1.handled=none from hh) s.heap.objs.size l (Nat.ne_of_lt ll) items) (CmpOf.ints_gt val hval) (S:=(s.heap.push { cls:=.type "list_iterator",data:=.fields #[.ref l,.int 0 0] }).objs.size) ?_ items.size 0 _ [] 0 (Nat.zero_add _) ?_ ?_ (.inl ⟨rfl,rfl⟩) fun r h' tk hr k=>?_⟩
 ·rw[sz]
  intro z
  rcases List.mem_cons.mp z with z|z
  ·exact Nat.succ_ne_self _ z
  ·exact Nat.ne_of_gt (Nat.lt_succ_of_lt ll) (List.mem_singleton.mp z)
 ·refine⟨⟨_,Heap.get?_push_of_some _ (Heap.get?_push_size _ rfl),rfl,rfl⟩,hl.at fun o e=>Heap.get?_push_of_some _ (Heap.get?_push_of_some _ e)⟩
 ·exact Heap.get?_push_size _ rfl
 ·refine q r h' tk hr fun b o e=>k b o ?_ ?_ (Heap.get?_push_of_some _ (Heap.get?_push_of_some _ e))
  ·exact fun z=>Nat.ne_of_lt (Heap.lt_size e) (List.mem_singleton.mp z)
  ·rw[sz];exact Nat.ne_of_lt (Nat.lt_succ_of_lt (Heap.lt_size e))
theorem SX {M:Model} {A:Around} {E:Value→Shared→Prop} {s:Shared} {pos:Pos} {id:String} {args:List (Bool×Sem Value)} {kws:List (Option Str×Sem Value)} {Q:Value→Shared→Prop} (hp:args.any (·.1)=false) (hk:kws.any (·.1.isNone)=false)
  (h:wpAny M A (evalArgs (.builtin id) true args kws) (fun z sz=>wpAny M A (call (.builtin id) z.pos z.kw) Q E sz) E s):wpAny M A (callWith pos (.builtin id) [] args kws) Q E s:=by
 unfold callWith
 refine wpAny_bind (wpAny_holding (wpAny_mono h (fun z sz hz=>wpAny_bind (wpAny_standAt ?_)) fun _ _ y=>y))
 simp only[hp,hk,Bool.or_false]
 refine wpAny_bind (wpAny_pure (wpAny_bind (wpAny_mono hz (fun v sv hv=>wpAny_bind (wpAny_holding (wpAny_point (wpAny_pure hv)))) fun _ _ y=>y)))
end
section
open PySem PySem.Spec PyProof.Rows PySem.Calls
variable {X:Cx}
def Jt:List Int→Int
 |[]=>0
 |x::l=>l.foldl (fun a b=>if a<b then b else a) x
theorem QS {l:List Int}(h:l≠[])(x:Int):Jt (l++[x])=if Jt l<x then x else Jt l:=by
 cases l with
 |nil=>exact absurd rfl h
 |cons y l=>
  show(l++[x]).foldl (fun a b=>if a<b then b else a) y=_
  rw[List.foldl_append]
  rfl
theorem Mr (ns:List Int):∀k,k<ns.length→argBest (fun i j=>decide (ns.getD j 0<ns.getD i 0)) k<ns.length∧Jt (ns.take (k+1))=ns.getD (argBest (fun i j=>decide (ns.getD j 0<ns.getD i 0)) k) 0
 |0,h=>by
  cases ns with
  |nil=>exact absurd h (Nat.not_lt_zero _)
  |cons x l=>exact⟨h,rfl⟩
 |k+1,h=>by
  obtain⟨h1,h2⟩:=Mr ns k (by omega)
  have e:ns.take (k+1+1)=ns.take (k+1)++[ns.getD (k+1) 0]:=by
   rw[List.take_add_one,List.getD_eq_getElem?_getD,List.getElem?_eq_getElem h];rfl
  have ne:ns.take (k+1)≠[]:=fun z=>by
   have:=congrArg List.length z
   rw[List.length_take,List.length_nil] at this
   omega
  rw[e,QS ne,h2]
  show(if decide (_<_)=true then k+1 else _)<_∧_=ns.getD (if decide (_<_)=true then k+1 else _) 0
  by_cases q:ns.getD (argBest (fun i j=>decide (ns.getD j 0<ns.getD i 0)) k) 0<ns.getD (k+1) 0
  ·rw[if_pos q,if_pos (decide_eq_true q)];exact⟨h,rfl⟩
  ·rw[if_neg q,if_neg (by rw[decide_eq_false q];exact Bool.false_ne_true)];exact⟨h1,rfl⟩
theorem Lh:∀{its:List Value} {ns:List Int},IntsAre its ns→∀{i:Nat} {v:Value},its[i]?=some v→∃t,v=Value.int (ns.getD i 0) t
 |_,_,.nil,i,v,h=>by simp at h
 |_,_,.cons n t r,0,v,h=>by simp at h;exact⟨t,h.symm⟩
 |_,_,.cons n t r,i+1,v,h=>Lh r (by simpa using h)
def WB (K:PySem.W.Frag)(ta:TA):TE:=fun σ H Q=>ta σ H fun vs H1=>∃(a:Addr) (ns:List Int),vs=[.ref a]∧AU K H1 a (ns.map V.int)∧Q (.int (Jt ns)) H1
theorem UN {l:Expr} {ta:TA} {p pos kp cp:Pos} {j} (hc:X.calm=true) (hg:Gl X "max") (hm:X.mg "max"=none) (ha:PA X [l] ta)
  (he:backTo pos (starEach [l] X.env)=(false,eval l X.env)::backTo pos (starEach [] X.env):=by rfl)
  (hpl:(backTo pos (starEach [l] X.env)).any (·.1)=false:=by rfl) :
  PE X (.Call (.Name "max" p) [l] [⟨some "default",.Constant (.int 0) j cp,kp⟩] pos) (WB X.K ta):=by
 intro pins s σ H Q I h
 refine wpAny_Call_Name_kw (JN I hg hm V4 (SX hpl rfl ?_))
 have hsp:=ha pos pins s σ H _ I h
 rw[he] at hsp ⊢
 refine evalArgs_kwB rfl (Bo hsp fun us s1 ⟨vs,H1,I1,r1,q1⟩=>?_)
 refine kws_cons (wpAny_Constant_int (kws_nil ?_))
 obtain⟨a,ns,rfl,hq,q⟩:=q1
 obtain⟨u,rfl,ru⟩:=vals1 r1
 cases ru
 have I2:=I1.tok (s1.toks+1)
 obtain⟨its,rv,p1,hz⟩:=I2.list hq
 have hi:=intsAre_of rv
 have ln:its.length=ns.length:=IntsAre.length hi
 refine RK (items:=its.toArray) (d:=.int 0 s1.toks) (I2.ok.hd hc) p1.isList (fun i=>ns.getD i 0) (fun i v e=>Lh hi (by simpa using e)) fun r h' tk hr k=>?_
 obtain⟨t,rfl⟩:∃t,r=Value.int (Jt ns) t:=by
  rcases hr with⟨h0,rfl⟩|⟨h0,h1⟩
  ·have:ns=[]:=List.eq_nil_of_length_eq_zero (by rw[←ln];simpa using h0)
   subst this
   exact⟨_,rfl⟩
  ·have h2:0<ns.length:=by rw[←ln];simpa using h0
   obtain⟨t,e⟩:=Lh hi (i:=argBest (fun i j=>decide (ns.getD j 0<ns.getD i 0)) (ns.length-1)) (v:=r) (by rw[←ln];simpa using h1)
   have:=(Mr ns (ns.length-1) (by omega)).2
   rw[show ns.length-1+1=ns.length by omega,List.take_length] at this
   exact⟨t,by rw[e,this]⟩
 exact⟨.int (Jt ns),H1,I2.kept (t':=tk) k,⟨t,rfl⟩,q⟩
end
end L2
namespace M06
def wsum:Nat→List Int→Int
 |_,[]=>0
 |k,x::xs=>x*((k:Int)+1)+wsum (k+1) xs
def mk (ns:List Int):Int:=wsum 0 ns%2147483647
theorem JT:∀(xs ys:List Int) (k:Nat),wsum k (xs++ys)=wsum k xs+wsum (k+xs.length) ys
 |[],ys,k=>by simp[wsum]
 |x::xs,ys,k=>by
  rw[List.cons_append,wsum,wsum,JT xs ys (k+1),List.length_cons,show k+1+xs.length=k+(xs.length+1) by omega]
  omega
theorem Rn {ns:List Int}{i:Nat}(h:i<ns.length):wsum 0 (ns.take (i+1))=wsum 0 (ns.take i)+ns[i]*((i:Int)+1):=by
 rw[List.take_add_one,List.getElem?_eq_getElem h,JT,List.length_take,Nat.min_eq_left (by omega),Nat.zero_add]
 simp[wsum]
theorem RM (ns:List Int):((List.range ns.length).map fun i=>ns.getD i 0*((i:Int)+1)).sum=wsum 0 ns:=by
 have key:∀i,i≤ns.length→((List.range i).map fun i=>ns.getD i 0*((i:Int)+1)).sum=wsum 0 (ns.take i):=by
  intro i
  induction i with
  |zero=>intro _;simp[wsum]
  |succ i ih=>
   intro hi
   rw[List.range_succ,List.map_append,List.sum_append,ih (by omega),Rn (by omega)]
   simp[List.getD,List.getElem?_eq_getElem (show i<ns.length by omega)]
 have:=key ns.length (Nat.le_refl _)
 rw[List.take_of_length_le (Nat.le_refl _)] at this
 exact this
def Sb (x:Int):Bool:=decide (0≤x)&&decide (x≤2147483646)
def sound (ns:List Int):Bool:=(!decide (ns=[]))&&(ns.all Sb&&decide (ns.getLastD 0=mk ns.dropLast))
theorem WE (ns:List Int):0≤mk ns∧mk ns≤2147483646:=by
 unfold mk
 omega
theorem US {x:Int}:Sb x=true↔0≤x∧x≤2147483646:=by simp[Sb]
theorem Rg {ns:List Int}:sound ns=true↔ns≠[]∧(∀x∈ns,0≤x∧x≤2147483646)∧ns.getLastD 0=mk ns.dropLast:=by
 unfold sound
 simp only[Bool.and_eq_true,Bool.not_eq_true',decide_eq_false_iff_not,List.all_eq_true,US,decide_eq_true_eq]
theorem Nu {ns:List Int}(h:∀x∈ns,0≤x∧x≤2147483646):sound (ns++[mk ns])=true:=by
 rw[Rg]
 refine⟨by simp,fun x hx=>?_,by simp⟩
 rcases List.mem_append.mp hx with hx|hx
 ·exact h x hx
 ·rw[List.mem_singleton.mp hx];exact WE ns
def co (r:List Int)(i:Nat):Int:=if i+1=r.length then -1 else(i:Int)+1
end M06
namespace M08
def cut (F:List Nat→Bool):List Nat→List Nat→List (List Nat)
 |acc,[]=>if acc=[] then[] else[acc]
 |acc,c::r=>if F (acc++[c])=true then(acc++[c])::cut F [] r else cut F (acc++[c]) r
theorem OL {F:List Nat→Bool}{l:List Nat}{i:Nat}{c:Nat}{gs:List (List Nat)}{acc:List Nat}(hi:l[i]?=some c)(h:cut F [] l=gs++cut F acc (l.drop i)) :
  (F (acc++[c])=true→cut F [] l=(gs++[acc++[c]])++cut F [] (l.drop (i+1)))∧(¬F (acc++[c])=true→cut F [] l=gs++cut F (acc++[c]) (l.drop (i+1))):=by
 obtain⟨hl,e⟩:=List.getElem?_eq_some_iff.mp hi
 have hd:l.drop i=c::l.drop (i+1):=by rw[←e];exact List.drop_eq_getElem_cons hl
 rw[hd] at h
 refine⟨fun q=>?_,fun q=>?_⟩
 ·rw[h,cut,if_pos q,List.append_assoc];rfl
 ·rw[h,cut,if_neg q]
theorem Os {F:List Nat→Bool}{l:List Nat}{i:Nat}{c:Nat}{gs:List (List Nat)}{acc:List Nat}(hi:l[i]?=some c)(hn:i+1=l.length)(h:cut F [] l=gs++cut F acc (l.drop i)) :
  cut F [] l=gs++[acc++[c]]:=by
 obtain⟨h1,h2⟩:=OL hi h
 have e:l.drop (i+1)=[]:=List.drop_eq_nil_of_le (by omega)
 by_cases q:F (acc++[c])=true
 ·rw[h1 q,e];simp[cut]
 ·rw[h2 q,e];simp[cut]
theorem NC (F:List Nat→Bool):∀(l acc:List Nat),(cut F acc l).length≤l.length+1
 |[],acc=>by
  unfold cut
  split<;>simp
 |c::r,acc=>by
  unfold cut
  split
  ·rw[List.length_cons,List.length_cons];have:=NC F r [];omega
  ·have:=NC F r (acc++[c]);rw[List.length_cons];omega
end M08
namespace M10
def Gg:Nat→List Int→List Int
 |m,[]=>if 0<m then[(m:Int)] else[]
 |m,x::r=>if m+1=8∨(2≤m+1∧x%3=0) then((m:Int)+1)::Gg 0 r else Gg (m+1) r
theorem Ky:∀(l:List Int) (m:Nat),(Gg m l).sum=(m:Int)+l.length
 |[],m=>by
  unfold Gg
  split
  ·simp
  ·have:m=0:=by omega
   subst this;simp
 |x::r,m=>by
  unfold Gg
  split
  ·rw[List.sum_cons,Ky r 0,List.length_cons];omega
  ·rw[Ky r (m+1),List.length_cons];omega
theorem Nf:∀(l:List Int) (m:Nat),(Gg m l).length≤l.length+1
 |[],m=>by
  unfold Gg
  split<;>simp
 |x::r,m=>by
  unfold Gg
  split
  ·rw[List.length_cons,List.length_cons];have:=Nf r 0;omega
  ·have:=Nf r (m+1);rw[List.length_cons];omega
end M10
set_option maxHeartbeats 4000000
namespace K30
local macro_rules | `(!$x) => do
  let (f, a) ← match x with | `($f:ident $a*) => pure (f, a) | `($f:ident) => pure (f, #[]) | _ => Lean.Macro.throwUnsupported
  let some n := [([`Ah, `Av, `AV, `Er, `Fj], 1), ([`BV, `FW], 2), ([`Al, `Br, `FA, `Cu, `QB, `Qw, `Sw], 3), ([`An, `Ak, `Hw, `Ta, `BH, `DT, `Fo, `Jn, `Hc, `Ax, `Cq, `Ea, `Bm, `BA, `ER, `QJ], 4), ([`Ac, `Af, `Fs, `AS, `AR, `M7, `Px, `Hz, `Se, `Rf], 5), ([`Qk, `Eu, `G2, `MN, `Gk, `Om], 6), ([`AG, `EN, `Fn, `RU, `TK, `Ws], 7), ([`AF, `AM, `Cw, `Az, `BY, `Cp, `Ot, `UN], 8), ([`Ar, `EF, `KC, `Tc, `Ti], 9), ([`AE, `CA, `HH], 10), ([`Ud, `Ep, `MF], 11), ([`Tf, `R5, `E9], 12), ([`Sa], 13), ([`Bc], 14)].findSome? (fun (l, n) => if l.contains f.getId then some n else none) | Lean.Macro.throwUnsupported
  let u ← `(_)
  let us := Array.replicate n u
  `(@$f $us* $a*)
set_option hygiene false
local macro_rules | `(tactic| exists $t) => `(tactic| refine F.ok $t (fun vs H Q E h => ?_) (fun cdv A outer s H vs Q E hr h => ?_))
set_option hygiene true
local macro_rules | `(tactic| trivial) => `(tactic| first | exact .inl rfl | exact .inr rfl | assumption | exact ⟨rfl, rfl, rfl, by decide +kernel, rfl, by decide +kernel, by decide +kernel⟩ | exact L2.Room.mono (by assumption) (by decide))
open PySem L2 M06 M10
theorem LY : 0 ≤ sizeLine := small (by decide)
theorem VE : 1 ≤ sizeLine := small (by decide)
theorem PP : 2 ≤ sizeLine := small (by decide)
theorem Ue : 3 ≤ sizeLine := small (by decide)
theorem Xq : 4 ≤ sizeLine := small (by decide)
theorem Xd : 5 ≤ sizeLine := small (by decide)
theorem XD : 7 ≤ sizeLine := small (by decide)
def top (i:Nat):Stmt:=PySem.Challenge.pw_stemshelf_k30_contents_there_and_back.main.body.getD i (.Pass ⟨0,0,0,0⟩)
abbrev DI:Stmt:=top 2
theorem OA:FnScope ["thing"] ["thing"] (Ai DI):=by trivial
abbrev CQ:Stmt:=top 3
theorem LZ:FnScope ["thing","least","most"] ["thing","least","most"] (Ai CQ):=by trivial
abbrev Cg:Stmt:=top 4
theorem LD:FnScope ["thing","many"] ["thing","many"] (Ai Cg):=by trivial
abbrev Dj:Stmt:=top 7
theorem Nv:FnScope ["sign"] ["sign"] (Ai Dj):=by trivial
abbrev Ew:Stmt:=top 8
theorem Pm:FnScope ["number"] ["number"] (Ai Ew):=by trivial
abbrev ED:Stmt:=top 9
theorem PJ:FnScope ["thing","least","most"] ["thing","least","most"] (Ai ED):=by trivial
abbrev CD:Stmt:=top 24
theorem Fl:FnScope ["thing","words","part"] ["thing"] (Ai CD):=by trivial
abbrev DN:Stmt:=top 25
theorem G6:FnScope ["words","reader","thing"] ["words"] (Ai DN):=by trivial
abbrev Bn:Stmt:=inClass (top 26) 0
theorem Ic:FnScope ["self","words"] ["self","words"] (Ai Bn):=by trivial
abbrev AO:Stmt:=inClass (top 26) 1
theorem FK:FnScope ["self"] ["self"] (Ai AO):=by trivial
abbrev A5:Stmt:=inClass (top 26) 2
theorem GZ:FnScope ["self","most"] ["self","most"] (Ai A5):=by trivial
abbrev BG:Stmt:=top 27
theorem DY:FnScope ["reader","deep","first","many"] ["reader","deep"] (Ai BG):=by trivial
abbrev Dd:Stmt:=top 28
theorem Jj:FnScope ["reader","many"] ["reader"] (Ai Dd):=by trivial
abbrev Ey:Stmt:=top 44
theorem PN:FnScope ["thing"] ["thing"] (Ai Ey):=by trivial
abbrev Gf:Stmt:=top 45
theorem Rz:FnScope ["thing"] ["thing"] (Ai Gf):=by trivial
abbrev DP:Stmt:=top 46
theorem N3:FnScope ["thing"] ["thing"] (Ai DP):=by trivial
abbrev BP:Stmt:=top 47
theorem Kk:FnScope ["thing","level"] ["thing","level"] (Ai BP):=by trivial
abbrev Cf:Stmt:=top 48
theorem Hj:FnScope ["thing","names"] ["thing"] (Ai Cf):=by trivial
abbrev DK:Stmt:=top 49
theorem OD:FnScope ["thing"] ["thing"] (Ai DK):=by trivial
abbrev FY:Stmt:=top 50
theorem HL:FnScope ["block","total","number"] ["block"] (Ai FY):=by trivial
abbrev BN:Stmt:=top 51
theorem Cd:FnScope ["block","told","name","kind","tag"] ["block"] (Ai BN):=by trivial
abbrev EA:Stmt:=top 52
theorem O5:FnScope ["block"] ["block"] (Ai EA):=by trivial
abbrev Ez:Stmt:=top 53
theorem Pz:FnScope ["block"] ["block"] (Ai Ez):=by trivial
abbrev De:Stmt:=top 56
theorem CL:FnScope ["content","pieces","piece","sign"] ["content"] (Ai De):=by trivial
abbrev BC:Stmt:=top 57
theorem Js:FnScope ["piece"] ["piece"] (Ai BC):=by trivial
abbrev Df:Stmt:=top 58
theorem CK:FnScope ["sums","groups","many","one"] ["sums"] (Ai Df):=by trivial
abbrev Ci:Stmt:=top 60
theorem BU:FnScope ["pool","content","birth","tags","level","rows"] ["pool","content","birth"] (Ai Ci):=by trivial
abbrev DD:Stmt:=top 61
theorem D4:FnScope ["pool","tags","level","birth","rows","begin","many"] ["pool","tags","level","birth"] (Ai DD):=by trivial
abbrev BF:Stmt:=top 62
theorem FF:FnScope ["pool","tag","block"] ["pool","tag"] (Ai BF):=by trivial
abbrev Ce:Stmt:=inClass (top 66) 0
theorem Lb:FnScope ["self","many"] ["self","many"] (Ai Ce):=by trivial
abbrev Co:Stmt:=inClass (top 66) 1
theorem KU:FnScope ["self"] ["self"] (Ai Co):=by trivial
abbrev BL:Stmt:=inClass (top 66) 2
theorem GX:FnScope ["self","board","number","row","shelf"] ["self","board","number","row"] (Ai BL):=by trivial
abbrev Cj:Stmt:=inClass (top 66) 3
theorem G4:FnScope ["self","board","number","row"] ["self","board","number"] (Ai Cj):=by trivial
abbrev B3:Stmt:=inClass (top 66) 8
theorem Ka:FnScope ["self","number"] ["self","number"] (Ai B3):=by trivial
abbrev BQ:Stmt:=inClass (top 66) 10
theorem Km:FnScope ["self","board"] ["self","board"] (Ai BQ):=by trivial
abbrev EC:Stmt:=top 69
theorem Pn:FnScope ["words"] ["words"] (Ai EC):=by trivial
abbrev Gd:Stmt:=top 70
theorem QQ:FnScope ["words"] ["words"] (Ai Gd):=by trivial
abbrev DG:Stmt:=top 71
theorem JW:FnScope ["row","words"] ["row"] (Ai DG):=by trivial
abbrev Mp:Stmt:=top 73
theorem PZ:FnScope ["boards","number","birth","block","row","board"] ["boards","number","birth","block"] (Ai Mp):=by trivial
abbrev EH:Stmt:=top 74
theorem Io:FnScope ["boards","tag","board","block"] ["boards","tag"] (Ai EH):=by trivial
abbrev DO:Stmt:=top 75
theorem J3:FnScope ["boards","board","tag","told"] ["boards","board","tag"] (Ai DO):=by trivial
abbrev DC:Stmt:=top 76
theorem G5:FnScope ["boards","board","number","row","words"] ["boards","board","number"] (Ai DC):=by trivial
abbrev Bw:Stmt:=inClass (top 78) 0
theorem IH:FnScope ["self","own_tag","block"] ["self","own_tag","block"] (Ai Bw):=by trivial
abbrev Dh:Stmt:=inClass (top 79) 0
theorem MU:FnScope ["self","boards"] ["self","boards"] (Ai Dh):=by trivial
abbrev DF:Stmt:=inClass (top 79) 1
theorem Hy:FnScope ["self","block","birth","found","tag"] ["self","block","birth"] (Ai DF):=by trivial
abbrev CM:Stmt:=inClass (top 79) 2
theorem DW:FnScope ["self","block","unread","number","found"] ["self","block"] (Ai CM):=by trivial
abbrev Be:Stmt:=inClass (top 79) 3
theorem HS:FnScope ["self"] ["self"] (Ai Be):=by trivial
abbrev Dc:Stmt:=inClass (top 79) 4
theorem Es:FnScope ["self","tag","block","cell","same_sum","named"] ["self","tag","block"] (Ai Dc):=by trivial
abbrev Bl:Stmt:=inClass (top 79) 5
theorem Ik:FnScope ["self","folder"] ["self","folder"] (Ai Bl):=by trivial
abbrev BD:Stmt:=inClass (top 79) 6
theorem FZ:FnScope ["self","folder","steps"] ["self","folder"] (Ai BD):=by trivial
abbrev CU:Stmt:=inClass (top 79) 7
theorem L5:FnScope ["self","tag"] ["self","tag"] (Ai CU):=by trivial
abbrev Dg:Stmt:=inClass (top 79) 8
theorem IW:FnScope ["self","tag","cell"] ["self","tag"] (Ai Dg):=by trivial
abbrev CN:Stmt:=inClass (top 79) 10
theorem FC:FnScope ["self","unnamed","number"] ["self"] (Ai CN):=by trivial
abbrev Bv:Stmt:=inClass (top 79) 12
theorem Fh:FnScope ["self","number"] ["self"] (Ai Bv):=by trivial
abbrev B2:Stmt:=inClass (top 79) 13
theorem Ks:FnScope ["self"] ["self"] (Ai B2):=by trivial
abbrev DV:Stmt:=inClass (top 79) 14
theorem OW:FnScope ["self","number"] ["self","number"] (Ai DV):=by trivial
abbrev CO:Stmt:=inClass (top 79) 16
theorem LP:FnScope ["self","number"] ["self","number"] (Ai CO):=by trivial
abbrev BO:Stmt:=inClass (top 79) 18
theorem Kf:FnScope ["self","number"] ["self","number"] (Ai BO):=by trivial
abbrev C8:Stmt:=inClass (top 79) 19
theorem MV:FnScope ["self","number"] ["self","number"] (Ai C8):=by trivial
abbrev BX:Stmt:=top 81
theorem Kt:FnScope ["_law_script","_law_k"] ["_law_script","_law_k"] (Ai BX):=by trivial
abbrev DL:Stmt:=top 82
theorem Cy:FnScope ["_law_cell","_law_many","_law_found","_law_number","_law_k"] ["_law_cell","_law_many"] (Ai DL):=by trivial
abbrev Da:Stmt:=top 83
theorem Ba:FnScope ["_law_row_here","_law_signs","_law_runs","_law_number","_law_run","_law_k","_law_step","_law_text_here"] ["_law_row_here"] (Ai Da):=by trivial
abbrev BR:Stmt:=top 84
theorem Cc:FnScope ["_law_script","_law_start","_law_many","_law_text_here","_law_cell"] ["_law_script","_law_start","_law_many"] (Ai BR):=by trivial
abbrev Jh:Stmt:=top 85
theorem C4:FnScope ["_law_script","_law_first","_law_cell","_law_at","_law_ahead","_law_second","_law_boards","_law_pool","_law_tags","_law_text_here","_law_tag","_law_other","_law_elder"] ["_law_script"] (Ai Jh):=by trivial
structure Txt (K:W.Frag) (mg:Str→Option Value) (Ab:Addr) (Ad:Addr) (Aa:Addr) (Ae:Addr) (XC:Nat→Addr):Prop where
 cl_WordReader:Cls K Ab
 n_WordReader_words:Bx K Ab "words"
 n_WordReader_place:Bx K Ab "place"
 cl_Boards:Cls K Ad
 n_Boards_shelves:Bx K Ad "shelves"
 n_Boards_writes:Bx K Ad "writes"
 n_Boards_writes_left:Bx K Ad "writes_left"
 cl_TakenCell:Cls K Aa
 n_TakenCell_own_tag:Bx K Aa "own_tag"
 n_TakenCell_own_size:Bx K Aa "own_size"
 n_TakenCell_named:Bx K Aa "named"
 n_TakenCell_times_named:Bx K Aa "times_named"
 n_TakenCell_entries_beneath:Bx K Aa "entries_beneath"
 n_TakenCell_steps_beneath:Bx K Aa "steps_beneath"
 cl_Pool:Cls K Ae
 n_Pool_boards:Bx K Ae "boards"
 n_Pool_taken:Bx K Ae "taken"
 n_Pool_by_sums:Bx K Ae "by_sums"
 n_Pool_draft:Bx K Ae "draft"
 n_Pool_first_maybe_free:Bx K Ae "first_maybe_free"
 x_Lost:mg "Lost"=some (.ref (XC 0))
 x_NoThing:mg "NoThing"=some (.ref (XC 1))
 b_abs:mg "abs"=none
 b_all:mg "all"=none
 b_bool:mg "bool"=none
 b_enumerate:mg "enumerate"=none
 b_int:mg "int"=none
 b_isinstance:mg "isinstance"=none
 b_len:mg "len"=none
 b_list:mg "list"=none
 b_max:mg "max"=none
 b_range:mg "range"=none
 b_set:mg "set"=none
 b_sorted:mg "sorted"=none
 b_str:mg "str"=none
 b_sum:mg "sum"=none
 b_tuple:mg "tuple"=none
 c_SIGNS:∃t,mg "SIGNS"=some (.str (PySem.Str.ofString " !\"#$&'()*+,-./0123456789:;<=>?@ABCDEFGHIJKLMNOPQRSTUVWXYZ[\\]^_`abcdefghijklmnopqrstuvwxyz{|}~") t)
 c_MOST_NUMBER:∃t,mg "MOST_NUMBER"=some (.int 999999999 t)
 c_MOST_SIGNS:∃t,mg "MOST_SIGNS"=some (.int 400 t)
 c_MOST_PARTS:∃t,mg "MOST_PARTS"=some (.int 100 t)
 c_MOST_DEEP:∃t,mg "MOST_DEEP"=some (.int 8 t)
 c_NUMBER_WORD:∃t,mg "NUMBER_WORD"=some (.int 0 t)
 c_TEXT_WORD:∃t,mg "TEXT_WORD"=some (.int 1 t)
 c_TUPLE_WORD:∃t,mg "TUPLE_WORD"=some (.int 2 t)
 c_PIECE:∃t,mg "PIECE"=some (.int 0 t)
 c_ROW:∃t,mg "ROW"=some (.int 1 t)
 c_FOLDER:∃t,mg "FOLDER"=some (.int 2 t)
 c_FILE_ENTRY:∃t,mg "FILE_ENTRY"=some (.int 1 t)
 c_FOLDER_ENTRY:∃t,mg "FOLDER_ENTRY"=some (.int 2 t)
 c_NAME_SIGNS:∃t,mg "NAME_SIGNS"=some (.str (PySem.Str.ofString "0123456789abcdefghijklmnopqrstuvwxyz") t)
 c_MOST_NAME_SIGNS:∃t,mg "MOST_NAME_SIGNS"=some (.int 8 t)
 c_MOST_CELL:∃t,mg "MOST_CELL"=some (.int 999999 t)
 c_MOST_BIRTH:∃t,mg "MOST_BIRTH"=some (.int 999999999 t)
 c_SUM_RESTS:∃t,mg "SUM_RESTS"=some (.int 997 t)
 c_MOST_PIECE_SIGNS:∃t,mg "MOST_PIECE_SIGNS"=some (.int 8 t)
 c_MOST_LEVEL:∃t,mg "MOST_LEVEL"=some (.int 9 t)
 c_MOST_TAGS:∃t,mg "MOST_TAGS"=some (.int 8 t)
 c_MOST_ENTRIES:∃t,mg "MOST_ENTRIES"=some (.int 16 t)
 c_MOST_IN_ONE:∃t,mg "MOST_IN_ONE"=some (.int 8 t)
 c_LEAST_BOARDS:∃t,mg "LEAST_BOARDS"=some (.int 2 t)
 c_MOST_BOARDS:∃t,mg "MOST_BOARDS"=some (.int 4 t)
 c_MARK_RESTS:∃t,mg "MARK_RESTS"=some (.int 2147483647 t)
abbrev SG:Str:=PySem.Str.ofString " !\"#$&'()*+,-./0123456789:;<=>?@ABCDEFGHIJKLMNOPQRSTUVWXYZ[\\]^_`abcdefghijklmnopqrstuvwxyz{|}~"
theorem Sg:SG.cps.toList.length=94:=by decide +kernel
theorem QE:SG.length≤sizeLine:=small (by decide +kernel)
theorem Up:∀k:Nat,k<94→PySem.Txt.find SG ⟨#[SG.cps.toList.getD k 0]⟩=(k:Int):=by decide +kernel
theorem WG {i:Int}(h0:0≤i)(h1:i<94):Kg SG.cps.toList i=some (SG.cps.toList.getD i.toNat 0):=by
 have hk:i.toNat<SG.cps.toList.length:=by rw[Sg];omega
 have q:Kg SG.cps.toList ((i.toNat:Nat):Int)=some (SG.cps.toList.getD i.toNat 0):=HQ (by rw[List.getElem?_eq_getElem hk];simp only[List.getD,List.getElem?_eq_getElem hk,Option.getD_some])
 have ek:((i.toNat:Nat):Int)=i:=by omega
 rw[ek] at q
 exact q
section
variable {P:Program}{w:World}{K:W.Frag}{mg:Str→Option Value}{base:Heap}{f Ab Ad Aa Ae:Addr}{XC:Nat→Addr}{fd:FuncData}
def C0 (K:W.Frag):Sp:=fun vs H Q _=>∃(a:Addr) (ns:List Int) (k:Int),vs=[.ref a,.int k]∧0≤k∧AU K H a (ns.map V.int)∧∀z:Int,Q (.int z) H
theorem Kl (T:Txt K mg Ab Ad Aa Ae XC)(F:Fun K "_law_cell_at" "_law_cell_at" BX f fd):FnOk P w K mg base B9 1 f fd ["_law_script","_law_k"] (C0 K):=by
 exists Kt
 ·obtain⟨a,ns,k,rfl,_⟩:=h
  rfl
 obtain⟨a,ns,k,rfl,hk,hS,q⟩:=h
 refine⟨_,(!Af (!AM (!AF QC (pv 1) (!Ar AI (by rfl) T.b_len Bp (!Ac (pv 0) (!Ah) (by rfl)) (by decide) (by decide) (by rfl) (by rfl)) (AC _)) (!Al (!An (!AG DZ (pv 0) (pv 1) (fun _ _=>rfl)))) (!Av)) (!Al (!An (!Ak)))),?_⟩
 refine⟨_,rfl,_,rfl,a,_,rfl,.inl hS,_,_,rfl,rfl,_,rfl,D5 (fun c=>?_) (fun c=>q 0)⟩
 have c':=dec_true c
 rw[List.length_map] at c'
 exact⟨_,rfl,_,rfl,a,_,_,_,rfl,rfl,hS,SR hk c',q _⟩
def CF (K:W.Frag):Sp:=fun vs H Q _=>∃v,vs=[v]∧Ok H v∧Q (.bl (Hr H v)) H
theorem Ol (T:Txt K mg Ab Ad Aa Ae XC)(F:Fun K "is_whole" "is_whole" DI f fd):FnOk P w K mg base B9 1 f fd ["thing"] (CF K):=by
 exists OA
 ·obtain⟨c,rfl,_⟩:=h
  rfl
 obtain⟨v,rfl,ok,q⟩:=h
 refine⟨_,(!Al (!An (!EN (!Ar Bs (by rfl) T.b_isinstance A2 (!Ac (pv 0) (!Ac (!Hw rfl T.b_int R7 (by decide) (by decide)) (!Ah) (by rfl)) (by rfl)) (by decide) (by decide) (by rfl) (by rfl)) (!Fs (!Ta (!Ar Bs (by rfl) T.b_isinstance A2 (!Ac (pv 0) (!Ac (!Hw rfl T.b_bool QL (by decide) (by decide)) (!Ah) (by rfl)) (by rfl)) (by decide) (by decide) (by rfl) (by rfl))))))),?_⟩
 exact KI _ _ (fun R q=>⟨_,rfl,_,_,_,_,rfl,ok.ty K,ok.kit K,q⟩) (fun _ R q=>⟨_,rfl,_,_,_,_,rfl,ok.ty K,ok.kit K,_,rfl,q⟩) q
def Bg (K:W.Frag):Sp:=fun vs H Q _=>∃v a b,vs=[v,.int a,.int b]∧Ok H v∧Q (.bl (Jp a b v)) H
theorem L3 (T:Txt K mg Ab Ad Aa Ae XC)(F:Fun K "is_between" "is_between" CQ f fd)(A8:Def P w K mg base 1 "is_whole" ["thing"] (CF K)):FnOk P w K mg base B9 2 f fd ["thing","least","most"] (Bg K):=by
 exists LZ
 ·obtain⟨v,a,b,rfl,_⟩:=h
  rfl
 obtain⟨v,a,b,rfl,ok,q⟩:=h
 refine⟨_,(!Al (!An (!EN (!AE A8 (by trivial) rfl (!Ac (pv 0) (!Ah) (by rfl)) (by decide) (by rfl) (by rfl)) (!Fs (!Tf Qm Qm (pv 1) (pv 0) (pv 2) (by with_unfolding_all rfl)))))),?_⟩
 refine KI (Hr H v) (Jp a b v) (fun R q=>⟨_,rfl,v,rfl,ok,q⟩) (fun hw R q=>?_) ?_
 ·obtain⟨i,rfl⟩:=SF ok hw
  refine⟨_,rfl,_,rfl,_,_,rfl,rfl,_,rfl,?_⟩
  refine D5 (fun c=>?_) (fun c=>?_)
  ·have e:Jp a b (.int i)=decide (i≤b):=by show(decide (a≤i)&&decide (i≤b))=_;rw[c];rfl
   rw[e] at q
   exact⟨_,rfl,_,_,rfl,rfl,q⟩
  ·have e:Jp a b (.int i)=false:=by show(decide (a≤i)&&decide (i≤b))=_;rw[Bool.eq_false_iff.mpr c];rfl
   rw[e] at q
   exact q
 ·cases hw:Hr H v with
  |true=>exact q
  |false=>rw[Va hw] at q;exact q
def BB (t:Str)(z:Str):Bool:=(A6 z).all fun c=>decide (c∈A6 t)
def Ho (a b:Int):V→Bool
 | .str z=>decide (a≤(z.length:Int))&&decide ((z.length:Int)≤b)&&BB SG z
 |_=>false
theorem Sy {H:Hp}{v:V}{a b:Int}(h:isA (HN H v) "str"=false):Ho a b v=false:=by
 cases v with
 |str z=>exact absurd (show isA "str" "str"=false from h) (by decide)
 |_=>rfl
def GL (K:W.Frag):Sp:=fun vs H Q _=>∃v a b,vs=[v,.int a,.int b]∧Ok H v∧∀H',Aq H H'→Q (.bl (Ho a b v)) H'
theorem Mn (t z:Str):((A6 z).map fun c=>V.str ⟨#[c]⟩).map (fun v=>match v with|V.str y=>V.bl (!(Builtin.Str.occurrences t y 0 t.length 1).isEmpty)|_=>V.non)=((A6 z).map fun c=>decide (c∈A6 t)).map V.bl:=by
 rw[List.map_map,List.map_map]
 refine List.map_congr_left fun c _=>?_
 show V.bl (!(Builtin.Str.occurrences t ⟨#[c]⟩ 0 t.length 1).isEmpty)=V.bl (decide (c∈A6 t))
 rw[PySem.StrLaws.found_one]
theorem Pq (T:Txt K mg Ab Ad Aa Ae XC)(F:Fun K "is_text" "is_text" ED f fd):FnOk P w K mg base B9 1 f fd ["thing","least","most"] (GL K):=by
 exists PJ
 ·obtain⟨v,a,b,rfl,_⟩:=h
  rfl
 obtain⟨v,a,b,rfl,ok,q⟩:=h
 refine⟨_,(!Af (!AM (@PW.pt _ _ _ (!Fn (!BH (!Br (!Ar Bs (by rfl) T.b_isinstance A2 (!Ac (pv 0) (!Ac (!Hw rfl T.b_str SA (by decide) (by decide)) (!Ah) (by rfl)) (by rfl)) (by decide) (by decide) (by rfl) (by rfl)) (by intro _;rfl))) (!DT (!BH (!R5 Qm Qm (pv 1) (!Ar CS (by rfl) T.b_len Bp (!Ac (pv 0) (!Ah) (by rfl)) (by decide) (by decide) (by rfl) (by rfl)) (pv 2) (by with_unfolding_all rfl)))))) (!Al (!An (!Fo))) (!Av)) (!Al (!An (!Ar (E8 rfl) (by rfl) T.b_all Il (!Ac (@BE _ ["sign"] _ _ _ _ _ _ _ _ _ _ rfl (!Jn (pv 0)) (by decide +kernel) (fun C s H fp=>⟨(@As _ _ (0) _ (show(["sign"]:List Str).Nodup by decide +kernel) rfl (by trivial) (by trivial)),(!AV),(!Cw Mg (pv 0) (!Hc rfl T.c_SIGNS (by decide)) rfl)⟩) (by intro _;rfl)) (!Ah) (by rfl)) (by decide) (by decide) (by rfl) (by rfl))))),?_⟩
 refine⟨_,rfl,_,_,_,_,rfl,ok.ty K,ok.kit K,_,rfl,?_⟩
 cases hw:isA (HN H v) "str" with
 |false=>
  refine Cz rfl ?_
  have:=q H (Aq.refl _)
  rw[Sy hw] at this
  exact this
 |true=>
  refine AK rfl ?_
  obtain⟨z,rfl,hz⟩:=Wh ok hw
  have zl:=AL z
  refine⟨_,rfl,_,rfl,_,rfl,small (by omega),_,_,rfl,rfl,_,rfl,?_⟩
  refine D5 (fun c=>?_) (fun c=>?_)
  ·refine⟨_,rfl,_,_,rfl,rfl,_,rfl,?_⟩
   refine D5 (fun d=>?_) (fun d=>?_)
   ·have d':decide ((z.length:Int)≤b)=false:=by simpa using d
    have e:Ho a b (.str z)=false:=by show(decide (a≤(z.length:Int))&&decide ((z.length:Int)≤b)&&BB SG z)=_;rw[d',Bool.and_false];rfl
    have:=q H (Aq.refl _)
    rw[e] at this
    exact this
   ·have d':decide ((z.length:Int)≤b)=true:=by simpa using d
    refine⟨_,rfl,z,rfl,?_⟩
    refine comp_map (fun v=>match v with | .str y=>.bl (!(Builtin.Str.occurrences SG y 0 SG.length 1).isEmpty)|_=>.non) Hf (by rw[List.length_map];exact Nat.le_trans (Nat.le_of_eq zl) (by omega)) (fun x H' R hx s' hR=>?_) fun l H7 n7 s7 h7=>?_
    ·obtain⟨u,_,rfl⟩:=List.mem_map.mp hx
     exact⟨_,rfl,_,_,rfl,rfl,hR H' (Aq.refl _)⟩
    rw[Mn] at h7
    refine⟨l,_,rfl,AU.of h7,?_⟩
    have e:Ho a b (.str z)=((A6 z).map fun c=>decide (c∈A6 SG)).all id:=by
     show(decide (a≤(z.length:Int))&&decide ((z.length:Int)≤b)&&BB SG z)=_;unfold BB;rw[c,d',List.all_map];rfl
    have:=q H7 s7
    rw[e] at this
    exact this
  ·have c':decide (a≤(z.length:Int))=false:=Bool.eq_false_iff.mpr c
   have e:Ho a b (.str z)=false:=by show(decide (a≤(z.length:Int))&&decide ((z.length:Int)≤b)&&BB SG z)=_;rw[c',Bool.false_and];rfl
   have:=q H (Aq.refl _)
   rw[e] at this
   exact⟨_,rfl,this⟩
abbrev NS:Str:=PySem.Str.ofString "0123456789abcdefghijklmnopqrstuvwxyz"
abbrev LN:Str:=PySem.Str.ofString "abcdefghijklmnopqrstuvwxyz0123456789"
theorem Tz:(∀c∈A6 NS,c∈A6 LN)∧∀c∈A6 LN,c∈A6 NS∧c∈A6 SG:=by decide +kernel
def Mu:V→Bool
 | .str z=>decide ((1:Int)≤z.length)&&decide ((z.length:Int)≤8)&&BB LN z
 |_=>false
theorem Mb (z:Str):(BB SG z&&BB NS z)=BB LN z:=by
 unfold BB
 rw[Bool.eq_iff_iff,Bool.and_eq_true,List.all_eq_true,List.all_eq_true,List.all_eq_true]
 simp only[decide_eq_true_eq]
 exact⟨fun h c hc=>Tz.1 c (h.2 c hc),fun h=>⟨fun c hc=>(Tz.2 c (h c hc)).2,fun c hc=>(Tz.2 c (h c hc)).1⟩⟩
theorem RF (v:V):Mu v=match v with | .str z=>Ho 1 8 v&&BB NS z|_=>false:=by
 cases v with
 |str z=>
  show(decide ((1:Int)≤z.length)&&decide ((z.length:Int)≤8)&&BB LN z)=((decide ((1:Int)≤(z.length:Int))&&decide ((z.length:Int)≤8)&&BB SG z)&&BB NS z)
  rw[←Mb z]
  simp only[Bool.and_assoc]
 |_=>rfl
def HY (K:W.Frag):Sp:=fun vs H Q _=>∃v,vs=[v]∧Ok H v∧∀H',Aq H H'→Q (.bl (Mu v)) H'
theorem Qd (T:Txt K mg Ab Ad Aa Ae XC)(F:Fun K "is_name" "is_name" Ey f fd)(EG:Def P w K mg base 1 "is_text" ["thing","least","most"] (GL K)):FnOk P w K mg base B9 2 f fd ["thing"] (HY K):=by
 exists PN
 ·obtain⟨v,rfl,_⟩:=h
  rfl
 obtain⟨v,rfl,ok,q⟩:=h
 refine⟨_,(!Al (!An (!EN (!AE EG (by trivial) rfl (!Ac (pv 0) (!Ac (!Ak) (!Ac (!Ax rfl T.c_MOST_NAME_SIGNS (by decide)) (!Ah) (by rfl)) (by rfl)) (by rfl)) (by decide) (by rfl) (by rfl)) (!Fs (!Ar (E8 rfl) (by rfl) T.b_all Il (!Ac (@BE _ ["sign"] _ _ _ _ _ _ _ _ _ _ rfl (!Jn (pv 0)) (by decide +kernel) (fun C s H fp=>⟨(@As _ _ (0) _ (show(["sign"]:List Str).Nodup by decide +kernel) rfl (by trivial) (by trivial)),(!AV),(!Cw Mg (pv 0) (!Hc rfl T.c_NAME_SIGNS (by decide)) rfl)⟩) (by intro _;rfl)) (!Ah) (by rfl)) (by decide) (by decide) (by rfl) (by rfl)))))),?_⟩
 refine⟨_,rfl,v,1,8,rfl,ok,fun H1 s1=>⟨_,rfl,?_⟩⟩
 have en:=RF v
 refine D5 (fun c=>?_) (fun c=>?_)
 ·cases v with
  |str z=>
   have hz:z.length≤1000:=ok
   have zl:=AL z
   refine⟨_,rfl,z,rfl,?_⟩
   refine comp_map (fun v=>match v with | .str y=>.bl (!(Builtin.Str.occurrences NS y 0 NS.length 1).isEmpty)|_=>.non) Hf (by rw[List.length_map];exact Nat.le_trans (Nat.le_of_eq zl) (by omega)) (fun x H' R hx s' hR=>?_) fun l H7 n7 s7 h7=>?_
   ·obtain⟨u,_,rfl⟩:=List.mem_map.mp hx
    exact⟨_,rfl,_,_,rfl,rfl,hR H' (Aq.refl _)⟩
   rw[Mn] at h7
   refine⟨l,_,rfl,AU.of h7,?_⟩
   have e:Mu (.str z)=((A6 z).map fun c=>decide (c∈A6 NS)).all id:=by
    rw[en];show(Ho 1 8 (.str z)&&BB NS z)=_;rw[c];unfold BB;rw[List.all_map];rfl
   have:=q H7 (s1.trans s7)
   rw[e] at this
   exact this
  |_=>exact absurd (show false=true from c) Bool.false_ne_true
 ·have e:Mu v=false:=by
   rw[en]
   cases v with
   |str z=>show(Ho 1 8 (.str z)&&BB NS z)=false;rw[Bool.eq_false_iff.mpr c];rfl
   |_=>rfl
  have:=q H1 s1
  rw[e] at this
  exact this
def Q9 (H:Hp)(v:V)(n:Int):Bool:=match v with
 | .ref a=>match H a with
  |some (.tup xs)=>decide ((xs.length:Int)=n)
  |_=>false
 |_=>false
theorem Jb {H:Hp}{a:Addr}{xs:List V}{n:Int}(h:H a=some (.tup xs)):Q9 H (.ref a) n=decide ((xs.length:Int)=n):=by simp only[Q9,h]
theorem Ve {H:Hp}{v:V}{n:Int}(ok:Ok H v)(h:isA (HN H v) "tuple"=false):Q9 H v n=false:=by
 refine ok.elim (fun e _=>?_) (fun _ e _=>?_) (fun _ e _=>?_) (fun _ e _ _=>?_) (fun a xs e e2 _=>?_) (fun _ _ _ _ e=>?_)
 ·rw[e];rfl
 ·rw[e];rfl
 ·rw[e];rfl
 ·rw[e];rfl
 ·rw[e];simp only[Q9,e2]
 ·rw[e] at h;exact absurd h (by decide)
def CG (K:W.Frag):Sp:=fun vs H Q _=>∃v n,vs=[v,.int n]∧Ok H v∧Q (.bl (Q9 H v n)) H
theorem K8 (T:Txt K mg Ab Ad Aa Ae XC)(F:Fun K "is_tuple_of" "is_tuple_of" Cg f fd):FnOk P w K mg base B9 1 f fd ["thing","many"] (CG K):=by
 exists LD
 ·obtain⟨v,n,rfl,_⟩:=h
  rfl
 obtain⟨v,n,rfl,ok,q⟩:=h
 refine⟨_,(!Al (!An (!EN (!Ar Bs (by rfl) T.b_isinstance A2 (!Ac (pv 0) (!Ac (!Hw rfl T.b_tuple Fb (by decide) (by decide)) (!Ah) (by rfl)) (by rfl)) (by decide) (by decide) (by rfl) (by rfl)) (!Fs (!Cw Bu (!Ar AI (by rfl) T.b_len Bp (!Ac (pv 0) (!Ah) (by rfl)) (by decide) (by decide) (by rfl) (by rfl)) (pv 1) (AC _)))))),?_⟩
 refine KI (isA (HN H v) "tuple") (Q9 H v n) (fun R q=>⟨_,rfl,_,_,_,_,rfl,ok.ty K,ok.kit K,q⟩) (fun hw R q=>?_) ?_
 ·obtain⟨a,xs,rfl,e⟩:=SC ok hw
  rw[Jb e] at q
  refine⟨_,rfl,a,xs,rfl,.inr (AY.of e),_,rfl,rfl,?_⟩
  rw[Gw,Bool.beq_eq_decide_eq];exact q
 ·cases hw:isA (HN H v) "tuple" with
  |true=>exact q
  |false=>rw[Ve ok hw] at q;exact q
def Ca (K:W.Frag):Sp:=fun vs H Q _=>∃u:Str,vs=[.str u]∧0≤PySem.Txt.find SG u∧Q (.int (PySem.Txt.find SG u)) H
theorem Nn (T:Txt K mg Ab Ad Aa Ae XC)(F:Fun K "number_of" "number_of" Dj f fd):FnOk P w K mg base B9 1 f fd ["sign"] (Ca K):=by
 exists Nv
 ·obtain⟨u,rfl,_⟩:=h
  rfl
 obtain⟨u,rfl,h0,q⟩:=h
 refine⟨_,(!Al (!An (!E9 PySem.F.plainAttrs_str PySem.F.slot_str_index PySem.F.type_str_index (S9 rfl) (!Hc rfl T.c_SIGNS (by decide)) (!Ac (pv 0) (!Ah) (by rfl)) (by rfl) (by rfl) (by rfl) (by rfl) (by rfl)))),?_⟩
 exact⟨rfl,_,rfl,_,_,rfl,rfl,h0,q⟩
def Im (K:W.Frag):Sp:=fun vs H Q _=>∃i:Int,vs=[.int i]∧0≤i∧i<94∧Q (.str ⟨#[SG.cps.toList.getD i.toNat 0]⟩) H
theorem Pe (T:Txt K mg Ab Ad Aa Ae XC)(F:Fun K "sign_of" "sign_of" Ew f fd):FnOk P w K mg base B9 1 f fd ["number"] (Im K):=by
 exists Pm
 ·obtain⟨u,rfl,_⟩:=h
  rfl
 obtain⟨i,rfl,h0,h1,q⟩:=h
 refine⟨_,(!Al (!An (!AG K6 (!Hc rfl T.c_SIGNS (by decide)) (pv 0) (fun _ _=>rfl)))),?_⟩
 exact⟨_,rfl,_,_,_,rfl,rfl,QE,WG h0 h1,q⟩
def DS:Nat→Tr→Bool
 |0,_=>false
 |_+1,.int i=>decide (0≤i)&&decide (i≤999999999)
 |_+1,.str z=>decide ((z.length:Int)≤400)&&BB SG z
 |n+1,.tup ts=>decide (ts.length≤100)&&ts.all (DS n)
 |_+1,_=>false
def All:Addr→Prop:=fun _=>True
def NL:Addr→Prop:=fun _=>False
mutual
theorem DX {H H':Hp}(k:∀c xs,H c=some (.tup xs)→H' c=some (.tup xs)):∀(t:Tr) (v:V),Rep NL H t v→Rep NL H' t v
 | .non,_,h=>h
 | .bl _,_,h=>h
 | .int _,_,h=>h
 | .str _,_,h=>h
 | .tup ts,_,⟨a,vs,e,ha,hr⟩=>⟨a,vs,e,k a _ ha,BS k ts vs hr⟩
 | .lst _,_,⟨_,_,_,fa,_⟩=>fa.elim
theorem BS {H H':Hp}(k:∀c xs,H c=some (.tup xs)→H' c=some (.tup xs)):∀(ts:List Tr) (vs:List V),AB NL H ts vs→AB NL H' ts vs
 |[],_,h=>h
 |t::ts,_,⟨v,us,e,h1,h2⟩=>⟨v,us,e,DX k t v h1,BS k ts us h2⟩
end
theorem HM {H:Hp}{t:Tr}{v:V}(h:Rep NL H t v):Rep All H t v:=Rep.mono (fun _ z=>z.elim) t v h
mutual
theorem Pd:∀(n:Nat) (t:Tr),DS n t=true→t.ok
 |0,_,h=>nomatch h
 |n+1,.non,h=>nomatch h
 |n+1,.bl _,h=>nomatch h
 |n+1,.int _,_=>trivial
 |n+1,.str z,h=>by
  have h':(decide ((z.length:Int)≤400)&&BB SG z)=true:=h
  rw[Bool.and_eq_true,decide_eq_true_eq] at h'
  show z.length≤1000
  omega
 |n+1,.tup ts,h=>by
  have h':(decide (ts.length≤100)&&ts.all (DS n))=true:=h
  rw[Bool.and_eq_true,decide_eq_true_eq] at h'
  exact⟨by omega,Ql n ts h'.2⟩
 |n+1,.lst _,h=>nomatch h
theorem Ql:∀(n:Nat) (ts:List Tr),ts.all (DS n)=true→Tr.oks ts
 |_,[],_=>trivial
 |n,t::ts,h=>by
  rw[List.all_cons,Bool.and_eq_true] at h
  exact⟨Pd n t h.1,Ql n ts h.2⟩
end
def idx (c:Nat):Int:=PySem.Txt.find SG ⟨#[c]⟩
theorem Iw {c:Nat}(h:c∈A6 SG):0≤idx c∧idx c<94∧SG.cps.toList.getD (idx c).toNat 0=c:=by
 obtain⟨k,hk,e⟩:=List.getElem_of_mem (show c∈SG.cps.toList from h)
 have hk':k<94:=by rw[Sg] at hk;exact hk
 have eg:SG.cps.toList.getD k 0=c:=by simp only[List.getD,List.getElem?_eq_getElem hk,Option.getD_some];exact e
 have:=Up k hk'
 rw[eg] at this
 have ei:idx c=(k:Int):=this
 rw[ei]
 exact⟨by omega,by omega,eg⟩
mutual
def wT:Tr→List Int
 | .int i=>[0,i]
 | .str z=>1::(z.length:Int)::(A6 z).map idx
 | .tup ts=>2::(ts.length:Int)::wTs ts
 |_=>[]
def wTs:List Tr→List Int
 |[]=>[]
 |t::ts=>wT t++wTs ts
end
theorem Kx:∀(a b:List Tr),wTs (a++b)=wTs a++wTs b
 |[],_=>rfl
 |t::a,b=>by
  show wT t++wTs (a++b)=(wT t++wTs a)++wTs b
  rw[Kx a b,List.append_assoc]
theorem IV {ts:List Tr}{i:Nat}{t:Tr}(h:ts[i]?=some t):wTs (ts.take (i+1))=wTs (ts.take i)++wT t:=by
 rw[List.take_add_one,h,Kx]
 show wTs (ts.take i)++(wT t++[])=_
 rw[List.append_nil]
theorem VF {ts:List Tr}(i:Nat):(wTs (ts.take i)).length≤(wTs ts).length:=by
 have:=congrArg List.length (Kx (ts.take i) (ts.drop i))
 rw[List.take_append_drop,List.length_append] at this
 omega
theorem Ux {ts:List Tr}{i:Nat}{t:Tr}(h:ts[i]?=some t):(wTs (ts.take i)).length+(wT t).length≤(wTs ts).length:=by
 have:=VF (ts:=ts) (i+1)
 rw[IV h,List.length_append] at this
 exact this
theorem KJ {n:Nat}{z:Str}(h:DS n (.str z)=true):z.length≤400∧∀c∈A6 z,c∈A6 SG:=by
 cases n with
 |zero=>cases h
 |succ n=>
  have h':(decide ((z.length:Int)≤400)&&BB SG z)=true:=h
  rw[Bool.and_eq_true,decide_eq_true_eq] at h'
  refine⟨by omega,fun c hc=>?_⟩
  have:=List.all_eq_true.mp h'.2 c hc
  simpa using this
theorem Dv {n:Nat}{ts:List Tr}(h:DS (n+1) (.tup ts)=true):ts.length≤100∧∀(i:Nat) t,ts[i]?=some t→DS n t=true:=by
 have h':(decide (ts.length≤100)&&ts.all (DS n))=true:=h
 rw[Bool.and_eq_true,decide_eq_true_eq] at h'
 exact⟨h'.1,fun i t ht=>List.all_eq_true.mp h'.2 t (List.mem_of_getElem? ht)⟩
theorem Sq (ts:List Tr):wT (.tup ts)=2::(ts.length:Int)::wTs ts:=rfl
theorem Vz (z:Str):wT (.str z)=1::(z.length:Int)::(A6 z).map idx:=rfl
def Qq (n:Nat)(K:W.Frag):Sp:=fun vs H Q _=>∃(v:V) (t:Tr),vs=[v]∧Rep NL H t v∧DS n t=true∧(wT t).length≤900000∧∀l H',Aq H H'→H l=none→H' l=some (.lst ((wT t).map V.int))→Q (.ref l) H'
def Fq (K:W.Frag):Sp:=Qq 8 K
theorem U4 (T:Txt K mg Ab Ad Aa Ae XC)(F:Fun K "words_of" "words_of" CD f fd)(A8:Def P w K mg base 1 "is_whole" ["thing"] (CF K))(AN:Def P w K mg base 1 "number_of" ["sign"] (Ca K))(n:Nat)(CI:Def P w K mg base (1+n) "words_of" ["thing"] (Qq n K)):FnOk P w K mg base B9 (1+n+1) f fd ["thing"] (Qq (n+1) K):=by
 exists Fl
 ·obtain⟨v,t,rfl,_⟩:=h
  rfl
 obtain⟨v,t,rfl,hv,ht,hw,q⟩:=h
 have ok:=Pd _ _ ht
 have okv:=(HM hv).ok ok
 have ety:=(HM hv).tyN
 refine⟨_,(!Af (!AM (!Br (!AE A8 (hr.mono (by omega)) rfl (!Ac (pv 0) (!Ah) (by rfl)) (by decide) (by rfl) (by rfl)) (by intro _;rfl)) (!Al (!An (!Cq (!Ac (!Ax rfl T.c_NUMBER_WORD (by decide)) (!Ac (pv 0) (!Ah) (by rfl)) (by rfl))))) (!Av)) (!Af (!AM (!Br (!Ar Bs (by rfl) T.b_isinstance A2 (!Ac (pv 0) (!Ac (!Hw rfl T.b_str SA (by decide) (by decide)) (!Ah) (by rfl)) (by rfl)) (by decide) (by decide) (by rfl) (by rfl)) (by intro _;rfl)) (!Al (!An (!Az Nd (!Cq (!Ac (!Ax rfl T.c_TEXT_WORD (by decide)) (!Ac (!Ar CS (by rfl) T.b_len Bp (!Ac (pv 0) (!Ah) (by rfl)) (by decide) (by decide) (by rfl) (by rfl)) (!Ah) (by rfl)) (by rfl))) (@BE _ ["sign"] _ _ _ _ _ _ _ _ _ _ rfl (!Jn (pv 0)) (by decide +kernel) (fun C s H fp=>⟨(@As _ _ (0) _ (show(["sign"]:List Str).Nodup by decide +kernel) rfl (by trivial) (by trivial)),(!AV),(!AE AN (hr.mono (by omega)) rfl (!Ac (pv 0) (!Ah) (by rfl)) (by decide) (by rfl) (by rfl))⟩) (by intro _;rfl))))) (!Av)) (!Af (@Ay _ _ (1) _ _ _ _ Fl.nd rfl (by trivial) (!Cq (!Ac (!Ax rfl T.c_TUPLE_WORD (by decide)) (!Ac (!Ar AI (by rfl) T.b_len Bp (!Ac (pv 0) (!Ah) (by rfl)) (by decide) (by decide) (by rfl) (by rfl)) (!Ah) (by rfl)) (by rfl))) (by rfl) (by trivial)) (!Af (!BY PassesOwn.never rfl (!Ea (pv 0)) (@As _ _ (2) _ Fl.nd rfl (by trivial) (by trivial)) (!Al (!Bm (!E9 PySem.F.plainAttrs_list PySem.F.slot_list_extend PySem.F.type_list_extend JI (pv 1) (!Ac (!AE CI (hr.mono (by omega)) rfl (!Ac (pv 2) (!Ah) (by rfl)) (by decide) (by rfl) (by rfl)) (!Ah) (by rfl)) (by rfl) (by rfl) (by rfl) (by rfl) (by rfl)) (by rfl))) (by intro _;rfl)) (!Al (!An (pv 1))))))),?_⟩
 refine⟨_,rfl,v,rfl,okv,_,rfl,?_⟩
 cases t with
 |int i=>
  cases(show v=V.int i from hv)
  refine Cz rfl ?_
  exact⟨_,rfl,PP,fun l hl=>q l _ (Am hl _) hl Ag⟩
 |str z=>
  cases(show v=V.str z from hv)
  obtain⟨zl,zs⟩:=KJ ht
  have zc:=AL z
  refine AK rfl ?_
  refine⟨_,rfl,_,_,_,_,rfl,okv.ty K,okv.kit K,_,rfl,Cz (by rw[ety];show isA "str" "str"=true;decide) ?_⟩
  refine⟨_,rfl,_,rfl,small (by omega),PP,fun p1 hp1=>?_⟩
  refine⟨_,rfl,z,rfl,?_⟩
  refine comp_map (fun v=>match v with | .str y=>.int (PySem.Txt.find SG y)|_=>.non) Hf (by rw[List.length_map];exact Nat.le_trans (Nat.le_of_eq zc) (by omega)) (fun x H' R hx s' hR=>?_) fun l H7 n7 s7 h7=>?_
  ·obtain⟨u,hu,rfl⟩:=List.mem_map.mp hx
   exact⟨_,rfl,_,rfl,(Iw (zs u hu)).1,hR H' (Aq.refl _)⟩
  have e7:((z.cps.toList.map fun c=>V.str ⟨#[c]⟩).map fun v=>match v with|V.str y=>V.int (PySem.Txt.find SG y)|_=>V.non)=((A6 z).map idx).map V.int:=by
   rw[List.map_map,List.map_map];rfl
  rw[e7] at h7
  have s1:=Am hp1 (.lst [V.int 1,V.int (z.length:Int)])
  refine⟨p1,l,_,_,rfl,rfl,AU.of (s7.get Ag),AU.of h7,small (by rw[List.length_map,List.length_map];show 2+_≤_;omega),fun p hp=>?_⟩
  exact q p _ ((s1.trans s7).trans (Am hp _)) ((s1.trans s7).free hp) Ag
 |tup ts=>
  obtain⟨a,vs,rfl,ha,hr'⟩:=hv
  have lv:=AB.len ts vs hr'
  obtain⟨tl,tt⟩:=Dv ht
  rw[Sq] at hw q
  have hw2:(wTs ts).length≤899998:=by simp only[List.length_cons] at hw;omega
  refine AK (by unfold Hr;rw[ety];rfl) ?_
  refine⟨_,rfl,_,_,_,_,rfl,okv.ty K,okv.kit K,_,rfl,AK (by rw[ety];show isA "tuple" "str"=false;decide) ?_⟩
  refine⟨_,rfl,a,_,rfl,.inr (AY.of ha),PP,fun g hg=>?_⟩
  rw[lv]
  refine⟨_,rfl,a,rfl,⟨_,AY.of ((Am hg _).get ha)⟩,KB (K:=K) (a:=a) (xs:=vs) (fun i σ H2=>∃(v2:Option V),σ=[some (.ref a),some (.ref g),v2]∧Aq H H2∧H2 g=some (.lst ((2::(ts.length:Int)::wTs (ts.take i)).map V.int)))
   ⟨none,rfl,Am hg _,Ag⟩ (fun i σ H2 _ ⟨_,_,s2,_⟩=>AY.of (s2.get ha)) ?_ ?_⟩
  ·rintro i y σ H2 hi ⟨v2,rfl,s2,hg2⟩
   obtain⟨ty,et,ry⟩:=AB.get hr' hi
   have b1:=Ux et
   refine⟨_,rfl,.inl ⟨rfl,_,AU.of hg2⟩,_,rfl,y,ty,rfl,Rep.same s2 _ _ ry,tt i ty et,by omega,fun l3 H3 s3 n3 h3=>?_⟩
   refine⟨g,l3,_,_,rfl,rfl,s3.get hg2,h3,small (by simp only[List.length_map,List.length_cons];omega),?_⟩
   refine⟨_,rfl,A0 (s2.trans s3) hg _,?_⟩
   rw[Ag,←List.map_append,IV et]
   rfl
  ·rintro σ H2 ⟨v2,rfl,s2,hg2⟩
   rw[lv,List.take_of_length_le (Nat.le_refl _)] at hg2
   exact⟨_,rfl,q g H2 s2 hg hg2⟩
 |non=>cases n<;>cases ht
 |bl b=>cases n<;>cases ht
 |lst ts=>cases n<;>cases ht
theorem T6 (T:Txt K mg Ab Ad Aa Ae XC)(F:Fun K "words_of" "words_of" CD f fd)(A8:Def P w K mg base 1 "is_whole" ["thing"] (CF K))(AN:Def P w K mg base 1 "number_of" ["sign"] (Ca K))(hm:mg "words_of"=some (.ref f))(hk:W.keepIn K (.ref f)=true)(hb:Binds K fd ["thing"] []):∀n,FnOk P w K mg base B9 (1+n) f fd ["thing"] (Qq n K)
 |0=>by
  exists Fl
  ·obtain⟨v,t,rfl,_,ht,_⟩:=h
   cases ht
  ·obtain⟨v,t,rfl,_,ht,_⟩:=h
   cases ht
 |n+1=>U4 T F A8 AN n ⟨f,fd,T6 T F A8 AN hm hk hb n,hm,hk,hb⟩
theorem Oy (T:Txt K mg Ab Ad Aa Ae XC)(F:Fun K "words_of" "words_of" CD f fd)(A8:Def P w K mg base 1 "is_whole" ["thing"] (CF K))(AN:Def P w K mg base 1 "number_of" ["sign"] (Ca K))(hm:mg "words_of"=some (.ref f))(hk:W.keepIn K (.ref f)=true)(hb:Binds K fd ["thing"] []):FnOk P w K mg base B9 9 f fd ["thing"] (Fq K):=
 T6 T F A8 AN hm hk hb 8
def GA (K:W.Frag):Sp:=fun vs H Q _=>∃(a:Addr) (ns:List Int),vs=[.ref a]∧H a=some (.lst (ns.map V.int))∧ns.length≤1000∧∀H',Aq H H'→Q (.int (mk ns)) H'
def fI (i:Nat):V→V
 | .int x=>.int (x*((i:Int)+1))
 |v=>v
theorem VW (ns:List Int):(List.range (ns.map V.int).length).map (fun i=>fI i ((ns.map V.int).getD i .non))=((List.range ns.length).map fun i=>ns.getD i 0*((i:Int)+1)).map V.int:=by
 rw[List.length_map,List.map_map]
 refine List.map_congr_left fun i hi=>?_
 have hl:i<ns.length:=List.mem_range.mp hi
 simp[List.getD,List.getElem?_eq_getElem hl,fI]
theorem Py (T:Txt K mg Ab Ad Aa Ae XC)(F:Fun K "mark_of" "mark_of" EC f fd):FnOk P w K mg base B9 1 f fd ["words"] (GA K):=by
 exists Pn
 ·obtain⟨a,ns,rfl,_⟩:=h
  rfl
 obtain⟨a,ns,rfl,hS,hlen,q⟩:=h
 refine⟨_,(!Al (!An (!Az By (!Ar (NO rfl) (by rfl) T.b_sum SO (!Ac (@BE _ ["place","word"] _ _ _ _ _ _ _ _ _ _ rfl (!Ud rfl T.b_enumerate (!Ac (pv 0) (!Ah) (by rfl)) (by rfl) (by rfl)) (by decide +kernel) (fun C s H fp=>⟨(@HI _ (K) _ _ _ _ (2) (by rfl) rfl (!AS (@As _ _ (0) _ (show(["place","word"]:List Str).Nodup by decide +kernel) rfl (by trivial) (by trivial)) (!AS (@As _ _ (1) _ (show(["place","word"]:List Str).Nodup by decide +kernel) rfl (by trivial) (by trivial)) (!Er) (by rfl)) (by rfl)) (by rfl) (by rfl)),(!AV),(!Az Hv (pv 1) (pv 0))⟩) (by intro _;rfl)) (!Ah) (by rfl)) (by decide) (by decide) (by rfl) (by rfl)) (!Ax rfl T.c_MARK_RESTS (by decide))))),?_⟩
 refine⟨_,rfl,a,_,rfl,AU.of hS,?_⟩
 refine Q5 fI hS (by rw[List.length_map];omega) rfl (fun i x H' R hx s' hR=>?_) (by decide) fun l H' nl s' hl=>?_
 ·obtain⟨z,rfl,hz⟩:=QA hx
  have hil:i<ns.length:=(List.getElem?_eq_some_iff.mp hz).1
  exact⟨_,rfl,_,rfl,_,_,rfl,rfl,.inr ⟨by omega,by omega⟩,hR H' (Aq.refl _)⟩
 ·rw[VW] at hl
  refine⟨l,_,rfl,AU.of hl,?_⟩
  refine⟨_,_,rfl,rfl,(by show(0:Int)<2147483647;decide),?_⟩
  rw[RM]
  exact q _ s'
def JO (K:W.Frag):Sp:=fun vs H Q _=>∃(a:Addr) (ns:List Int),vs=[.ref a]∧H a=some (.lst (ns.map V.int))∧ns.length≤1000∧
 ∀(r:Addr) (H':Hp),Aq H H'→H r=none→H' r=some (.lst ((ns++[mk ns]).map V.int))→Q (.ref r) H'
theorem Q2 (T:Txt K mg Ab Ad Aa Ae XC)(F:Fun K "sealed" "sealed" Gd f fd)(EB:Def P w K mg base 1 "mark_of" ["words"] (GA K)):FnOk P w K mg base B9 2 f fd ["words"] (JO K):=by
 exists QQ
 ·obtain⟨a,ns,rfl,_⟩:=h
  rfl
 obtain⟨a,ns,rfl,hS,hlen,q⟩:=h
 refine⟨_,(!Al (!An (!Az Nd (pv 0) (!Cq (!Ac (!AE EB (by trivial) rfl (!Ac (pv 0) (!Ah) (by rfl)) (by decide) (by rfl) (by rfl)) (!Ah) (by rfl)))))),?_⟩
 refine⟨_,rfl,_,rfl,a,ns,rfl,hS,hlen,fun H1 s1=>?_⟩
 refine⟨VE,fun g hg=>?_⟩
 refine⟨a,g,_,_,rfl,rfl,AU.of ((Am hg _).get (s1.get hS)),AU.of Ag,small (by rw[List.length_map];show ns.length+1≤1000000;omega),fun p hp=>?_⟩
 refine q p _ ((s1.trans (Am hg _)).trans (Am hp _)) (s1.free ((Am hg _).free hp)) ?_
 rw[Ag,List.map_append];rfl
def Hk (K:W.Frag):Sp:=fun vs H Q _=>∃(a:Addr) (ns:List Int),vs=[.ref a]∧H a=some (.lst (ns.map V.int))∧ns.length≤1000∧
 (sound ns=false→∀H',Aq H H'→Q .non H')∧(sound ns=true→∀(r:Addr) (H':Hp),Aq H H'→H r=none→H' r=some (.lst (ns.dropLast.map V.int))→Q (.ref r) H')
def fB:V→V
 | .int x=>.bl (Sb x)
 |v=>v
theorem OS (T:Txt K mg Ab Ad Aa Ae XC)(F:Fun K "unsealed" "unsealed" DG f fd)(EB:Def P w K mg base 1 "mark_of" ["words"] (GA K))(AA:Def P w K mg base 2 "is_between" ["thing","least","most"] (Bg K)):FnOk P w K mg base B9 3 f fd ["row"] (Hk K):=by
 exists JW
 ·obtain⟨a,ns,rfl,_⟩:=h
  rfl
 obtain⟨a,ns,rfl,hS,hlen,q0,q1⟩:=h
 refine⟨_,(!Af (!AM (@PW.pt _ _ _ (!Fn (!AF Bu (!Ar AI (by rfl) T.b_len Bp (!Ac (pv 0) (!Ah) (by rfl)) (by decide) (by decide) (by rfl) (by rfl)) (!Ak) (AC _)) (!DT (!BH (!Br (!Ar (E8 rfl) (by rfl) T.b_all Il (!Ac (@BE _ ["word"] _ _ _ _ _ _ _ _ _ _ rfl (!BA (pv 0)) (by decide +kernel) (fun C s H fp=>⟨(@As _ _ (0) _ (show(["word"]:List Str).Nodup by decide +kernel) rfl (by trivial) (by trivial)),(!AV),(!AE AA (by trivial) rfl (!Ac (pv 0) (!Ac (!Ak) (!Ac (!Az JL (!Ax rfl T.c_MARK_RESTS (by decide)) (!Ak)) (!Ah) (by rfl)) (by rfl)) (by rfl)) (by decide) (by rfl) (by rfl))⟩) (by intro _;rfl)) (!Ah) (by rfl)) (by decide) (by decide) (by rfl) (by rfl)) (by intro _;rfl)))))) (!Al (!An (!FA))) (!Av)) (!Af (@Ay _ _ (1) _ _ _ _ JW.nd rfl (by trivial) (!CA Kz (pv 0) (!Fj) (!Cu (!Qk MI (!Ak)))) (by rfl) (by trivial)) (!Af (!AM (!AF LC (!AG DZ (pv 0) (!Qk MI (!Ak)) (fun _ _=>rfl)) (!AE EB (by trivial) rfl (!Ac (pv 1) (!Ah) (by rfl)) (by decide) (by rfl) (by rfl)) (AC _)) (!Al (!An (!FA))) (!Av)) (!Al (!An (pv 1)))))),?_⟩
 dsimp only[Cs,Cx.nox,Cx.wish]
 refine⟨_,rfl,a,_,rfl,.inl (AU.of hS),rfl,_,rfl,?_⟩
 refine D5 (fun c=>?_) (fun c=>?_)
 ·have hn:ns=[]:=by simpa using c
  subst hn
  exact Wu (q0 (by decide) _ (Aq.refl _))
 have hne:ns≠[]:=by simpa using c
 refine⟨_,rfl,a,rfl,⟨_,AU.of hS⟩,?_⟩
 refine comp_map fB (EE (AU.of hS)) (by rw[List.length_map];omega) (fun x H' R hx s' hR=>?_) fun l H1 nl s1 hl=>?_
 ·obtain⟨u,_,rfl⟩:=List.mem_map.mp hx
  exact⟨_,rfl,_,_,rfl,rfl,.int u,0,_,rfl,trivial,hR H' (Aq.refl _)⟩
 have el:(ns.map V.int).map fB=(ns.map Sb).map V.bl:=by rw[List.map_map,List.map_map];rfl
 rw[el] at hl
 refine⟨l,ns.map Sb,rfl,AU.of hl,_,rfl,?_⟩
 have ea:(ns.map Sb).all id=ns.all Sb:=by rw[List.all_map];rfl
 rw[ea]
 refine D5 (fun c2=>?_) (fun c2=>?_)
 ·have hf:sound ns=false:=by
   unfold sound
   have:ns.all Sb=false:=by simpa using c2
   rw[this];simp
  exact q0 hf _ s1
 have hal:ns.all Sb=true:=by
  cases e:ns.all Sb with
  |true=>rfl
  |false=>rw[e] at c2;exact absurd rfl c2
 refine⟨_,rfl,_,rfl,_,rfl,a,_,rfl,AU.of (s1.get hS),fun p hp=>?_⟩
 have ec:Fu (ns.map V.int) none (some (-1))=ns.dropLast.map V.int:=by rw[Os,List.map_dropLast]
 have s2:=s1.trans (Am hp (.lst (ns.dropLast.map V.int)))
 have eH:upd H1 p (.lst (Fu (ns.map V.int) none (some (-1))))=upd H1 p (.lst (ns.dropLast.map V.int)):=by rw[ec]
 rw[show(-(1:Int)) = -1 from rfl,eH]
 have at1:Kg (ns.map V.int) (-1)=some (.int (ns.getLastD 0)):=by
  have e1:ns=ns.dropLast++[ns.getLast hne]:=(List.dropLast_concat_getLast hne).symm
  have e2:ns.getLastD 0=ns.getLast hne:=by rw[List.getLastD_eq_getLast?,List.getLast?_eq_some_getLast hne];rfl
  rw[e2]
  conv=>lhs;rw[e1]
  rw[List.map_append]
  exact SI _ _
 refine⟨_,rfl,_,rfl,a,_,_,_,rfl,rfl,AU.of (s2.get hS),at1,_,rfl,p,_,rfl,Ag,by rw[List.length_dropLast];omega,fun H3 s3=>?_⟩
 refine⟨rfl,_,rfl,?_⟩
 refine D5 (fun c3=>?_) (fun c3=>?_)
 ·have hf:sound ns=false:=by
   unfold sound
   have:¬ns.getLastD 0=mk ns.dropLast:=by simpa using c3
   rw[decide_eq_false this];simp
  exact q0 hf _ (s2.trans s3)
 ·have he:ns.getLastD 0=mk ns.dropLast:=by simpa using c3
  have ht:sound ns=true:=by
   unfold sound
   rw[hal,decide_eq_true he,decide_eq_false hne];rfl
  exact⟨_,rfl,q1 ht p _ (s2.trans s3) (s1.free hp) (s3.get Ag)⟩
theorem K0 {g:Array Nat}(hg:g.toList=[]):∀(xs:List Str) (acc:Array Nat),(xs.foldl (fun acc p=>acc++g++p.cps) acc).toList=acc.toList++(xs.map A6).flatten
 |[],acc=>by simp
 |x::xs,acc=>by
  rw[List.foldl_cons,K0 hg xs,Array.toList_append,Array.toList_append,hg,List.append_nil,List.map_cons,List.flatten_cons,List.append_assoc]
theorem N8 {g:Str}(hg:A6 g=[])(ys:List Str):A6 (PySem.Txt.join g ys)=(ys.map A6).flatten:=by
 unfold PySem.Txt.join PySem.Builtin.Str.glued
 change Array.toList (List.foldl _ _ _)=_
 rw[K0 (g:=g.cps) hg]
 cases ys with
 |nil=>rfl
 |cons y ys=>simp
abbrev QW:Str:=PySem.Str.ofString ""
def Kp (H H':Hp)(p:Addr):Prop:=∀b o,H b=some o→b≠p→H' b=some o
theorem Kp.refl (H:Hp)(p:Addr):Kp H H p:=fun _ _ e _=>e
theorem Kp.trans {H H1 H2:Hp}{p:Addr}(a:Kp H H1 p)(b:Kp H1 H2 p):Kp H H2 p:=fun c o e n=>b c o (a c o e n) n
theorem Kp.put {H:Hp}{p:Addr}(o:HO):Kp H (upd H p o) p:=fun c u e n=>by rw[Aj n];exact e
theorem Aq.kp {H H':Hp}(s:Aq H H')(p:Addr):Kp H H' p:=fun c o e _=>s c o e
theorem Kp.new {H H':Hp}{p l:Addr}(a:Kp H H' p)(h:H l=none)(o:HO):Kp H (upd H' l o) p:=fun c u e n=>by rw[Aj (AD e h)];exact a c u e n
def RN (wl:Addr)(k:Int):List (Str×V):=[("words",.ref wl),("place",.int k)]
def C3 (K:W.Frag)(Ab:Addr):Sp:=fun vs H Q _=>∃(p dx wl:Addr),vs=[.ref p,.ref wl]∧H p=some (.ins Ab dx [])∧Q .non (upd H p (.ins Ab dx (RN wl 0)))
def Bf (K:W.Frag)(Ab:Addr):Sp:=fun vs H Q _=>∃(p dx wl:Addr) (ws:List Int) (k:Nat),vs=[.ref p]∧H p=some (.ins Ab dx (RN wl k))∧H wl=some (.lst (ws.map V.int))∧Q (.bl (decide (k=ws.length))) H
theorem Iv (T:Txt K mg Ab Ad Aa Ae XC)(F:Fun K "__init__" "WordReader.__init__" Bn f fd):FnOk P w K mg base B9 1 f fd ["self","words"] (C3 K Ab):=by
 exists Ic
 ·obtain⟨p,dx,wl,rfl,_⟩:=h
  rfl
 obtain⟨p,dx,wl,rfl,h1,q⟩:=h
 refine⟨_,(!Af (!Cp (pv 0) (pv 1) rfl) (!Al (!Cp (pv 0) (!Ak) rfl))),?_⟩
 refine⟨_,rfl,_,rfl,p,Ab,dx,[],rfl,h1,T.cl_WordReader,T.n_WordReader_words,(by show 0<1000;decide),?_⟩
 refine⟨_,rfl,p,Ab,dx,_,rfl,Ag,T.cl_WordReader,T.n_WordReader_place,(by show 1<1000;decide),?_⟩
 rw[Fi]
 exact q
theorem FB (T:Txt K mg Ab Ad Aa Ae XC)(F:Fun K "is_through" "WordReader.is_through" AO f fd):FnOk P w K mg base B9 1 f fd ["self"] (Bf K Ab):=by
 exists FK
 ·obtain⟨p,dx,wl,ws,k,rfl,_⟩:=h
  rfl
 obtain⟨p,dx,wl,ws,k,rfl,h1,h2,q⟩:=h
 refine⟨_,(!Al (!An (!Cw Bu (!AR (pv 0) rfl) (!Ar AI (by rfl) T.b_len Bp (!Ac (!AR (pv 0) rfl) (!Ah) (by rfl)) (by decide) (by decide) (by rfl) (by rfl)) (AC _)))),?_⟩
 refine⟨_,rfl,p,Ab,dx,_,_,rfl,h1,T.cl_WordReader,T.n_WordReader_place,rfl,_,rfl,p,Ab,dx,_,_,rfl,h1,T.cl_WordReader,T.n_WordReader_words,rfl,wl,_,rfl,.inl (AU.of h2),rfl,?_⟩
 have e:decide (V.int (k:Int)=V.int ((ws.map V.int).length:Int))=decide (k=ws.length):=by
  rw[Gw,List.length_map]
  rw[Bool.eq_iff_iff]
  simp
  omega
 rw[e]
 exact q
theorem Gb {ws:List Int}{k:Nat}{x:Int}{r:List Int}(h:ws.drop k=x::r):ws[k]?=some x∧ws.drop (k+1)=r:=by
 constructor
 ·have:(ws.drop k)[0]?=some x:=by rw[h];rfl
  rw[List.getElem?_drop] at this
  simpa using this
 ·have:(ws.drop k).drop 1=r:=by rw[h];rfl
  rw[List.drop_drop] at this
  exact this
def AZ (K:W.Frag)(Ab:Addr):Sp:=fun vs H Q _=>∃(p dx wl:Addr) (ws:List Int) (k:Nat) (x m:Int),vs=[.ref p,.int m]∧H p=some (.ins Ab dx (RN wl k))∧H wl=some (.lst (ws.map V.int))∧ws[k]?=some x∧0≤x∧x≤m∧
 Q (.int x) (upd H p (.ins Ab dx (RN wl ((k+1:Nat):Int))))
theorem GY (T:Txt K mg Ab Ad Aa Ae XC)(F:Fun K "word_to" "WordReader.word_to" A5 f fd)(AQ:A7 P w K mg base 1 Ab "is_through" ["self"] (Bf K Ab))(AA:Def P w K mg base 2 "is_between" ["thing","least","most"] (Bg K)):FnOk P w K mg base B9 3 f fd ["self","most"] (AZ K Ab):=by
 exists GZ
 ·obtain⟨p,dx,wl,ws,k,x,m,rfl,_⟩:=h
  rfl
 obtain⟨p,dx,wl,ws,k,x,m,rfl,h1,h2,hx,x0,x1,q⟩:=h
 have hk:k<ws.length:=(List.getElem?_eq_some_iff.mp hx).1
 have ax:Kg (ws.map V.int) (k:Int)=some (V.int x):=HQ (by rw[List.getElem?_map,hx];rfl)
 have nwp:wl≠p:=AW h2 h1 (by intro z;cases z)
 refine⟨_,(!Af (!AM (@PW.pt _ _ _ (!Fn (!Br (!Ep (pv 0) T.cl_WordReader AQ (by trivial) (by rfl)) (by intro _;rfl)) (!DT (!BH (!Br (!AE AA (by trivial) rfl (!Ac (!AG DZ (!AR (pv 0) rfl) (!AR (pv 0) rfl) (fun _ _=>rfl)) (!Ac (!Ak) (!Ac (pv 1) (!Ah) (by rfl)) (by rfl)) (by rfl)) (by decide) (by rfl) (by rfl)) (by intro _;rfl)))))) (!Al (!BV)) (!Av)) (!Af (!HH (pv 0) (!Ak) Gy) (!Al (!An (!AG DZ (!AR (pv 0) rfl) (!Az JL (!AR (pv 0) rfl) (!Ak)) (fun _ _=>rfl)))))),?_⟩
 refine Tq false false (fun R q=>⟨_,rfl,p,dx,_,rfl,h1,rfl,p,dx,wl,ws,k,rfl,h1,h2,_,rfl,?_⟩) (fun _ R q=>?_) ?_
 ·rw[decide_eq_false (by omega)];exact q
 ·refine⟨_,rfl,p,Ab,dx,_,_,rfl,h1,T.cl_WordReader,T.n_WordReader_words,rfl,_,rfl,p,Ab,dx,_,_,rfl,h1,T.cl_WordReader,T.n_WordReader_place,rfl,wl,_,_,_,rfl,rfl,AU.of h2,ax,_,rfl,V.int x,0,m,rfl,trivial,_,rfl,?_⟩
  have:Jp 0 m (V.int x)=true:=by show(decide (0≤x)&&decide (x≤m))=true;rw[decide_eq_true x0,decide_eq_true x1];rfl
  rw[this];exact q
 refine AK rfl ?_
 refine⟨_,rfl,p,Ab,dx,_,_,rfl,h1,T.cl_WordReader,T.n_WordReader_place,rfl,_,_,rfl,rfl,dx,_,h1,(by show 2<1000;decide),?_⟩
 have q':Q (.int x) (upd H p (.ins Ab dx (Ei "place" (V.int ((k:Int)+1)) (RN wl k)))):=q
 refine⟨_,rfl,p,Ab,dx,_,_,rfl,Ag,T.cl_WordReader,T.n_WordReader_words,rfl,_,rfl,p,Ab,dx,_,_,rfl,Ag,T.cl_WordReader,T.n_WordReader_place,rfl,_,_,rfl,rfl,wl,_,_,_,rfl,rfl,AU.of (by rw[Aj nwp];exact h2),?_,q'⟩
 have:(k:Int)+1-1=(k:Int):=by omega
 show Kg (ws.map V.int) ((k:Int)+1-1)=_
 rw[this]
 exact ax
def Do (K:W.Frag)(Ab:Addr):Sp:=fun vs H Q _=>∃(p dx wl:Addr) (ws:List Int) (k:Nat) (z:Str) (r:List Int),vs=[.ref p]∧H p=some (.ins Ab dx (RN wl k))∧H wl=some (.lst (ws.map V.int))∧ws.drop k=(z.length:Int)::((A6 z).map idx++r)∧z.length≤400∧(∀c∈A6 z,c∈A6 SG)∧
 ∀H',Kp H H' p→H' p=some (.ins Ab dx (RN wl ((k+1+z.length:Nat):Int)))→Q (.str z) H'
theorem UC:(SG.length:Int)-1=93:=by decide +kernel
theorem Nm (T:Txt K mg Ab Ad Aa Ae XC)(F:Fun K "read_text" "read_text" Dd f fd)(Au:A7 P w K mg base 3 Ab "word_to" ["self","most"] (AZ K Ab))(JJ:Def P w K mg base 1 "sign_of" ["number"] (Im K)):FnOk P w K mg base B9 4 f fd ["reader"] (Do K Ab):=by
 exists Jj
 ·obtain⟨p,dx,wl,ws,k,z,r,rfl,_⟩:=h
  rfl
 obtain⟨p,dx,wl,ws,k,z,r,rfl,h1,h2,hd,zl,zs,q⟩:=h
 obtain⟨g1,g2⟩:=Gb hd
 have zc:=AL z
 have nwp:wl≠p:=AW h2 h1 (by intro z;cases z)
 refine⟨_,(!Af (@Ay _ _ (1) _ _ _ _ Jj.nd rfl (by trivial) (!Bc (pv 0) T.cl_WordReader Au (by trivial) (!Ac (!Ax rfl T.c_MOST_SIGNS (by decide)) (!Ah) (by rfl)) (by rfl) (by rfl) (by rfl)) (by rfl) (by trivial)) (!Al (!An (!E9 PySem.F.plainAttrs_str PySem.F.slot_str_join PySem.F.type_str_join (QO rfl) (!ER) (!Ac (@HP _ ["sign","reader"] [none,some 0] _ _ _ _ _ _ _ _ _ _ _ rfl (!Eu rfl T.b_range (!Ac (pv 1) (!Ah) (by rfl)) (by rfl)) (by rfl) rfl (by repeat (first|exact trivial|refine⟨rfl,?_⟩)) (by repeat (first|exact trivial|refine⟨fun h=>(by first|exact⟨_,rfl⟩|cases h),?_⟩)) (fun C s H fp=>⟨(@As _ _ (0) _ (show(["sign","reader"]:List Str).Nodup by decide +kernel) rfl (by trivial) (by trivial)),(!AV),(!AE JJ (by trivial) rfl (!Ac (!Bc (pv 1) T.cl_WordReader Au (by trivial) (!Ac (!Az JL (!Ar CS (by rfl) T.b_len Bp (!Ac (!Hc rfl T.c_SIGNS (by decide)) (!Ah) (by rfl)) (by decide) (by decide) (by rfl) (by rfl)) (!Ak)) (!Ah) (by rfl)) (by rfl) (by rfl) (by rfl)) (!Ah) (by rfl)) (by decide) (by rfl) (by rfl))⟩) (by intro _;rfl)) (!Ah) (by rfl)) (by rfl) (by rfl) (by rfl) (by rfl) (by rfl))))),?_⟩
 refine⟨_,rfl,p,dx,_,rfl,h1,rfl,p,dx,wl,ws,k,_,400,rfl,h1,h2,g1,by omega,by omega,?_⟩
 refine⟨rfl,_,rfl,(z.length:Int),rfl,by omega,by omega,?_⟩
 refine Kv (xs:=(List.range ((z.length:Int)).toNat).map fun(i:Nat)=>V.int (0+(i:Int))) (fun i ys l H'=>Kp (upd H p (.ins Ab dx (RN wl ((k+1:Nat):Int)))) H' p∧H' p=some (.ins Ab dx (RN wl ((k+1+i:Nat):Int)))∧ys=((A6 z).take i).map fun c=>V.str ⟨#[c]⟩) (by rw[List.length_map,List.length_range];omega) (fun i ys l H' _=>O8) (fun l hl=>⟨(Kp.refl _ p).new hl _,by rw[Aj (AD Ag hl)];exact Ag,rfl⟩) (fun i x ys l H' R hx hl hl' hlen hI hR=>?_) fun l H1 ys n1 hl1 ly hI=>?_
 ·obtain⟨kp,hp,hy⟩:=hI
  have hi:i<z.length:=by
   have:=(List.getElem?_eq_some_iff.mp hx).1
   rw[List.length_map,List.length_range] at this
   omega
  obtain⟨c,hc⟩:∃c,(A6 z)[i]?=some c:=⟨(A6 z)[i]'(by omega),List.getElem?_eq_getElem _⟩
  obtain⟨i0,i1,i2⟩:=Iw (zs c (List.mem_of_getElem? hc))
  have hw':H' wl=some (.lst (ws.map V.int)):=kp wl _ (by rw[Aj nwp];exact h2) nwp
  have gx:ws[k+1+i]?=some (idx c):=by
   have:(ws.drop (k+1))[i]?=some (idx c):=by
    rw[g2,List.getElem?_append_left (by rw[List.length_map];omega),List.getElem?_map,hc];rfl
   rw[List.getElem?_drop] at this
   exact this
  have npl:l≠p:=AW hl' hp (by intro z;cases z)
  refine⟨_,rfl,p,dx,_,rfl,hp,rfl,SG,rfl,QE,_,_,rfl,rfl,p,dx,wl,ws,k+1+i,idx c,_,rfl,hp,hw',gx,i0,?_,?_⟩
  ·rw[UC];omega
  refine⟨idx c,rfl,i0,i1,hR _ _ (by rw[Aj npl];exact hl') ⟨?_,?_,?_⟩⟩
  ·exact(kp.trans (Kp.put _)).new hl _
  ·rw[Aj npl.symm,Ag];rfl
  ·rw[hy,List.take_add_one,hc,i2];simp
 ·obtain⟨kp,hp,hy⟩:=hI
  have ez:z.length=((List.range ((z.length:Int)).toNat).map fun(i:Nat)=>V.int (0+(i:Int))).length:=by rw[List.length_map,List.length_range];omega
  rw[←ez] at hp hy
  rw[List.take_of_length_le (by omega)] at hy
  have hy':ys=((A6 z).map fun c=>(⟨#[c]⟩:Str)).map V.str:=by rw[hy,List.map_map];rfl
  rw[hy'] at hl1
  refine⟨l,QW,_,rfl,rfl,AU.of hl1,?_,?_⟩
  ·have:(((A6 z).map fun c=>(⟨#[c]⟩:Str)).map (·.length)).sum≤(A6 z).length:=by
    generalize A6 z=l
    induction l with
    |nil=>exact Nat.le_refl _
    |cons c l ih=>
     simp only[List.map_cons,List.sum_cons,List.length_cons]
     have:(⟨#[c]⟩:Str).length=1:=rfl
     omega
   have e0:QW.length=0:=rfl
   rw[e0]
   omega
  ·have ej:PySem.Txt.join QW ((A6 z).map fun c=>(⟨#[c]⟩:Str))=z:=by
    refine IT ?_
    rw[N8 rfl,List.map_map]
    show((A6 z).map fun c=>[c]).flatten=_
    generalize A6 z=l
    induction l with
    |nil=>rfl
    |cons c l ih=>rw[List.map_cons,List.flatten_cons,ih];rfl
   rw[ej]
   exact q H1 ((Kp.put _).trans kp) hp
def Qi (n:Nat)(K:W.Frag)(Ab:Addr):Sp:=fun vs H Q _=>∃(p dx wl:Addr) (ws:List Int) (k:Nat) (t:Tr) (r:List Int),vs=[.ref p,.int (n:Int)]∧H p=some (.ins Ab dx (RN wl k))∧H wl=some (.lst (ws.map V.int))∧ws.drop k=wT t++r∧DS n t=true∧
 ∀v H',Kp H H' p→H' p=some (.ins Ab dx (RN wl ((k+(wT t).length:Nat):Int)))→Rep NL H' t v→Q v H'
def FH (K:W.Frag)(Ab:Addr):Sp:=Qi 8 K Ab
theorem U5 (T:Txt K mg Ab Ad Aa Ae XC)(F:Fun K "read_thing" "read_thing" BG f fd)(Au:A7 P w K mg base 3 Ab "word_to" ["self","most"] (AZ K Ab))(B8:Def P w K mg base 4 "read_text" ["reader"] (Do K Ab))(n:Nat)(Ds:Def P w K mg base (4+n) "read_thing" ["reader","deep"] (Qi n K Ab)):FnOk P w K mg base B9 (4+n+1) f fd ["reader","deep"] (Qi (n+1) K Ab):=by
 exists DY
 ·obtain⟨p,dx,wl,ws,k,t,r,rfl,_⟩:=h
  rfl
 obtain⟨p,dx,wl,ws,k,t,r,rfl,h1,h2,hd,ht,q⟩:=h
 have nwp:wl≠p:=AW h2 h1 (by intro z;cases z)
 refine⟨_,(!Af (!AM (!AF Bu (pv 1) (!Ak) (AC _)) (!Al (!BV)) (!Av)) (!Af (@Ay _ _ (2) _ _ _ _ DY.nd rfl (by trivial) (!Bc (pv 0) T.cl_WordReader Au (hr.mono (by omega)) (!Ac (!Ax rfl T.c_TUPLE_WORD (by decide)) (!Ah) (by rfl)) (by rfl) (by rfl) (by rfl)) (by rfl) (by trivial)) (!Af (!AM (!AF Bu (pv 2) (!Ax rfl T.c_NUMBER_WORD (by decide)) (AC _)) (!Al (!An (!Bc (pv 0) T.cl_WordReader Au (hr.mono (by omega)) (!Ac (!Ax rfl T.c_MOST_NUMBER (by decide)) (!Ah) (by rfl)) (by rfl) (by rfl) (by rfl)))) (!Av)) (!Af (!AM (!AF Bu (pv 2) (!Ax rfl T.c_TEXT_WORD (by decide)) (AC _)) (!Al (!An (!AE B8 (hr.mono (by omega)) rfl (!Ac (pv 0) (!Ah) (by rfl)) (by decide) (by rfl) (by rfl)))) (!Av)) (!Af (@Ay _ _ (3) _ _ _ _ DY.nd rfl (by trivial) (!Bc (pv 0) T.cl_WordReader Au (hr.mono (by omega)) (!Ac (!Ax rfl T.c_MOST_PARTS (by decide)) (!Ah) (by rfl)) (by rfl) (by rfl) (by rfl)) (by rfl) (by trivial)) (!Al (!An (!EF HW (by rfl) T.b_tuple Fb (!Ac (@HP _ ["part","reader","deep"] [none,some 0,some 1] _ _ _ _ _ _ _ _ _ _ _ rfl (!Eu rfl T.b_range (!Ac (pv 3) (!Ah) (by rfl)) (by rfl)) (by rfl) rfl (by repeat (first|exact trivial|refine⟨rfl,?_⟩)) (by repeat (first|exact trivial|refine⟨fun h=>(by first|exact⟨_,rfl⟩|cases h),?_⟩)) (fun C s H fp=>⟨(@As _ _ (0) _ (show(["part","reader","deep"]:List Str).Nodup by decide +kernel) rfl (by trivial) (by trivial)),(!AV),(!AE Ds (hr.mono (by omega)) rfl (!Ac (pv 1) (!Ac (!Az JL (pv 2) (!Ak)) (!Ah) (by rfl)) (by rfl)) (by decide) (by rfl) (by rfl))⟩) (by intro _;rfl)) (!Ah) (by rfl)) (by decide) (by decide) (by rfl) (by rfl))))))))),?_⟩
 refine⟨_,rfl,rfl,_,rfl,AK ?_ ?_⟩
 ·rw[Gw];simp;omega
 have hw1:∀o,upd H p o wl=some (.lst (ws.map V.int)):=fun o=>by rw[Aj nwp];exact h2
 cases t with
 |int i=>
  have i01:(decide (0≤i)&&decide (i≤999999999))=true:=ht
  rw[Bool.and_eq_true,decide_eq_true_eq,decide_eq_true_eq] at i01
  obtain⟨g1,g2⟩:=Gb (r:=i::r) hd
  obtain⟨g3,_⟩:=Gb g2
  refine⟨_,rfl,p,dx,_,rfl,h1,rfl,p,dx,wl,ws,k,0,2,rfl,h1,h2,g1,by omega,by omega,?_⟩
  refine⟨_,rfl,rfl,_,rfl,Cz rfl ?_⟩
  refine⟨_,rfl,p,dx,_,rfl,Ag,rfl,p,dx,wl,ws,k+1,i,999999999,rfl,Ag,hw1 _,g3,i01.1,i01.2,?_⟩
  exact q _ _ ((Kp.put _).trans (Kp.put _)) Ag rfl
 |str z=>
  obtain⟨zl,zs⟩:=KJ ht
  obtain⟨g1,g2⟩:=Gb (r:=(z.length:Int)::((A6 z).map idx++r)) hd
  refine⟨_,rfl,p,dx,_,rfl,h1,rfl,p,dx,wl,ws,k,1,2,rfl,h1,h2,g1,by omega,by omega,?_⟩
  refine⟨_,rfl,rfl,_,rfl,AK rfl ?_⟩
  refine⟨_,rfl,rfl,_,rfl,Cz rfl ?_⟩
  refine⟨_,rfl,p,dx,wl,ws,k+1,z,r,rfl,Ag,hw1 _,g2,zl,zs,fun H' kp hp=>?_⟩
  refine q _ _ ((Kp.put _).trans kp) ?_ rfl
  rw[hp,Vz]
  have:k+1+1+z.length=k+(1::(z.length:Int)::(A6 z).map idx).length:=by
   simp only[List.length_cons,List.length_map,AL];omega
  rw[this]
 |tup ts=>
  obtain⟨tl,tt⟩:=Dv ht
  rw[Sq] at hd q
  obtain⟨g1,g2⟩:=Gb (r:=(ts.length:Int)::(wTs ts++r)) hd
  obtain⟨g3,g4⟩:=Gb (r:=wTs ts++r) g2
  refine⟨_,rfl,p,dx,_,rfl,h1,rfl,p,dx,wl,ws,k,2,2,rfl,h1,h2,g1,by omega,by omega,?_⟩
  refine⟨_,rfl,rfl,_,rfl,AK rfl ?_⟩
  refine⟨_,rfl,rfl,_,rfl,AK rfl ?_⟩
  refine⟨_,rfl,p,dx,_,rfl,Ag,rfl,p,dx,wl,ws,k+1,_,100,rfl,Ag,hw1 _,g3,by omega,by omega,?_⟩
  rw[Fi]
  refine⟨_,rfl,(ts.length:Int),rfl,by omega,by omega,?_⟩
  refine Kv (xs:=(List.range ((ts.length:Int)).toNat).map fun(i:Nat)=>V.int (0+(i:Int))) (fun i ys l H'=>Kp (upd H p (.ins Ab dx (RN wl ((k+1+1:Nat):Int)))) H' p∧H' p=some (.ins Ab dx (RN wl ((k+2+(wTs (ts.take i)).length:Nat):Int)))∧AB NL H' (ts.take i) ys) (by rw[List.length_map,List.length_range];omega) (fun i ys l H' _=>O8) (fun l hl=>⟨(Kp.refl _ p).new hl _,by rw[Aj (AD Ag hl)];exact Ag,rfl⟩) (fun i x ys l H' R hx hl hl' hlen hI hR=>?_) fun l H1 ys n1 hl1 ly hI=>?_
  ·obtain⟨kp,hp,hrs⟩:=hI
   have hi:i<ts.length:=by
    have:=(List.getElem?_eq_some_iff.mp hx).1
    rw[List.length_map,List.length_range] at this
    omega
   obtain⟨ti,eti⟩:∃ti,ts[i]?=some ti:=⟨ts[i],List.getElem?_eq_getElem _⟩
   have hw':H' wl=some (.lst (ws.map V.int)):=kp wl _ (hw1 _) nwp
   have npl:l≠p:=AW hl' hp (by intro z;cases z)
   have gd:ws.drop (k+2+(wTs (ts.take i)).length)=wT ti++(wTs (ts.drop (i+1))++r):=by
    have e1:wTs ts=wTs (ts.take i)++(wT ti++wTs (ts.drop (i+1))):=by
     have:=Kx (ts.take (i+1)) (ts.drop (i+1))
     rw[List.take_append_drop,IV eti,List.append_assoc] at this
     exact this
    have e2:(ws.drop (k+1+1)).drop (wTs (ts.take i)).length=wT ti++(wTs (ts.drop (i+1))++r):=by
     rw[g4,e1,List.append_assoc,List.append_assoc,List.drop_left]
    rw[List.drop_drop] at e2
    exact e2
   have ed:((n+1:Nat):Int)-1=(n:Int):=by omega
   refine⟨_,rfl,_,rfl,_,_,rfl,rfl,p,dx,wl,ws,_,ti,_,?_,hp,hw',gd,tt i ti eti,fun v H'' kp2 hp2 rv=>?_⟩
   ·show[V.ref p,V.int (((n+1:Nat):Int)-1)]=_
    rw[ed]
   have hl2:H'' l=some (.lst ys):=kp2 l _ hl' npl
   have keepT:∀c xs,H'' c=some (.tup xs)→upd H'' l (.lst (ys++[v])) c=some (.tup xs):=fun c xs e=>by rw[Aj (AW e hl2 (by intro z;cases z))];exact e
   refine hR v H'' hl2 ⟨(kp.trans kp2).new hl _,?_,?_⟩
   ·rw[Aj npl.symm,hp2,IV eti,List.length_append,Nat.add_assoc]
   ·rw[List.take_add_one,eti]
    refine AB.append (BS keepT _ _ (BS (fun c xs e=>kp2 c _ e (AW e hp (by intro z;cases z))) _ _ hrs)) (AB.one (DX keepT _ _ rv))
  ·obtain⟨kp,hp,hrs⟩:=hI
   have ez:ts.length=((List.range ((ts.length:Int)).toNat).map fun(i:Nat)=>V.int (0+(i:Int))).length:=by rw[List.length_map,List.length_range];omega
   rw[←ez,List.take_of_length_le (Nat.le_refl _)] at hp hrs
   refine⟨l,ys,rfl,.inl ⟨AU.of hl1,fun u hu=>?_⟩⟩
   have su:=Am hu (.tup ys)
   refine q _ _ (((Kp.put _).trans kp).trans (Aq.kp su p)) ?_ ⟨u,ys,rfl,Ag,AB.same su _ _ hrs⟩
   rw[su _ _ hp]
   have:k+2+(wTs ts).length=k+(2::(ts.length:Int)::wTs ts).length:=by simp only[List.length_cons];omega
   rw[this]
 |non=>cases n<;>cases ht
 |bl b=>cases n<;>cases ht
 |lst ts=>cases n<;>cases ht
theorem TU (T:Txt K mg Ab Ad Aa Ae XC)(F:Fun K "read_thing" "read_thing" BG f fd)(Au:A7 P w K mg base 3 Ab "word_to" ["self","most"] (AZ K Ab))(B8:Def P w K mg base 4 "read_text" ["reader"] (Do K Ab))(hm:mg "read_thing"=some (.ref f))(hk:W.keepIn K (.ref f)=true)(hb:Binds K fd ["reader","deep"] []):∀n,FnOk P w K mg base B9 (4+n) f fd ["reader","deep"] (Qi n K Ab)
 |0=>by
  exists DY
  ·obtain⟨p,dx,wl,ws,k,t,r,rfl,_,_,_,ht,_⟩:=h
   cases ht
  ·obtain⟨p,dx,wl,ws,k,t,r,rfl,_,_,_,ht,_⟩:=h
   cases ht
 |n+1=>U5 T F Au B8 n ⟨f,fd,TU T F Au B8 hm hk hb n,hm,hk,hb⟩
theorem LS (T:Txt K mg Ab Ad Aa Ae XC)(F:Fun K "read_thing" "read_thing" BG f fd)(Au:A7 P w K mg base 3 Ab "word_to" ["self","most"] (AZ K Ab))(B8:Def P w K mg base 4 "read_text" ["reader"] (Do K Ab))(hm:mg "read_thing"=some (.ref f))(hk:W.keepIn K (.ref f)=true)(hb:Binds K fd ["reader","deep"] []):FnOk P w K mg base B9 12 f fd ["reader","deep"] (FH K Ab):=
 TU T F Au B8 hm hk hb 8
def Hl (K:W.Frag):Sp:=fun vs H Q _=>∃(wl:Addr) (t:Tr),vs=[.ref wl]∧H wl=some (.lst ((wT t).map V.int))∧DS 8 t=true∧∀v H',Aq H H'→Rep NL H' t v→Q v H'
theorem OI (T:Txt K mg Ab Ad Aa Ae XC)(F:Fun K "thing_of" "thing_of" DN f fd)(Dt:MS P w K mg base 1 Ab "WordReader" ["self","words"] (C3 K Ab))(Ds:Def P w K mg base 12 "read_thing" ["reader","deep"] (FH K Ab))(AQ:A7 P w K mg base 1 Ab "is_through" ["self"] (Bf K Ab)):FnOk P w K mg base B9 13 f fd ["words"] (Hl K):=by
 exists G6
 ·obtain⟨wl,t,rfl,_⟩:=h
  rfl
 obtain⟨wl,t,rfl,hw,ht,q⟩:=h
 refine⟨_,(!Af (@Ay _ _ (1) _ _ _ _ G6.nd rfl (by trivial) (!MF Dt (by trivial) rfl (!Ac (pv 0) (!Ah) (by rfl)) (by decide) (by rfl) (by rfl)) (by rfl) (by trivial)) (!Af (@Ay _ _ (2) _ _ _ _ G6.nd rfl (by trivial) (!AE Ds (by trivial) rfl (!Ac (pv 1) (!Ac (!Ax rfl T.c_MOST_DEEP (by decide)) (!Ah) (by rfl)) (by rfl)) (by decide) (by rfl) (by rfl)) (by rfl) (by trivial)) (!Af (!AM (!BH (!Br (!Ep (pv 1) T.cl_WordReader AQ (by trivial) (by rfl)) (by intro _;rfl))) (!Al (!BV)) (!Av)) (!Al (!An (pv 2)))))),?_⟩
 refine⟨_,rfl,?_⟩
 intro x dx nx ndx _
 have nwx:wl≠x:=AD hw nx
 have nwd:wl≠dx:=AD hw ndx
 refine⟨x,dx,wl,rfl,Ag,rfl,?_⟩
 rw[Fi]
 have hw1:∀o,upd (upd H dx (.own x)) x o wl=some (.lst ((wT t).map V.int)):=fun o=>by rw[Aj nwx,Aj nwd];exact hw
 refine⟨_,rfl,x,dx,wl,wT t,0,t,[],rfl,Ag,hw1 _,by simp,ht,fun v H' kp hp rv=>?_⟩
 have hw':H' wl=some (.lst ((wT t).map V.int)):=kp wl _ (hw1 _) nwx
 refine⟨_,rfl,x,dx,_,rfl,hp,rfl,x,dx,wl,wT t,_,rfl,hp,hw',_,rfl,AK ?_ ?_⟩
 ·simp
 refine⟨_,rfl,q v H' (fun b o e=>?_) rv⟩
 have n1:=AD e nx
 exact kp b o (by rw[Aj n1,Aj (AD e ndx)];exact e) n1
def WZ (g:List Int→Option (Tr×List Int)):Nat→List Int→Option (List Tr×List Int)
 |0,ws=>some ([],ws)
 |i+1,ws=>match WZ g i ws with
  |none=>none
  |some (ts,r)=>match g r with
   |none=>none
   |some (t,r')=>some (ts++[t],r')
def SZ (x:Int):Nat:=SG.cps.toList.getD x.toNat 0
def W1:Nat→List Int→Option (List Nat×List Int)
 |0,ws=>some ([],ws)
 |i+1,ws=>match W1 i ws with
  |some (cs,x::r)=>if 0≤x∧x≤93 then some (cs++[SZ x],r) else none
  |_=>none
def rd:Nat→List Int→Option (Tr×List Int)
 |0,_=>none
 |n+1,ws=>match ws with
  |[]=>none
  |x::ws1=>if 0≤x∧x≤2 then match ws1 with
    |[]=>none
    |m::r=>if x=0 then(if 0≤m∧m≤999999999 then some (.int m,r) else none)
     else if x=1 then(if 0≤m∧m≤400 then(match W1 m.toNat r with|some (cs,r')=>some (.str ⟨cs.toArray⟩,r')|none=>none) else none)
     else(if 0≤m∧m≤100 then(match WZ (rd n) m.toNat r with|some (ts,r')=>some (.tup ts,r')|none=>none) else none)
   else none
theorem Pr {c:Nat}(h:c∈A6 SG):SZ (idx c)=c:=(Iw h).2.2
theorem OJ:∀(cs:List Nat) (r:List Int),(∀c∈cs,c∈A6 SG)→∀i,i≤cs.length→W1 i (cs.map idx++r)=some (cs.take i,(cs.drop i).map idx++r)
 |cs,r,h,0,_=>rfl
 |cs,r,h,i+1,hi=>by
  have ih:=OJ cs r h i (by omega)
  obtain⟨c,hc⟩:∃c,cs[i]?=some c:=⟨cs[i],List.getElem?_eq_getElem _⟩
  have hd:cs.drop i=c::cs.drop (i+1):=by rw[List.drop_eq_getElem_cons (by omega)];congr 1;rw[List.getElem?_eq_getElem (by omega)] at hc;exact Option.some.inj hc
  obtain⟨b1,b2,b3⟩:=Iw (h c (List.mem_of_getElem? hc))
  unfold W1
  rw[ih,hd]
  show(if 0≤idx c∧idx c≤93 then _ else _)=_
  rw[if_pos ⟨b1,by omega⟩,List.take_add_one,hc,Pr (h c (List.mem_of_getElem? hc))]
  rfl
theorem OR {g:List Int→Option (Tr×List Int)}(ts:List Tr)(r:List Int)(hg:∀t∈ts,∀r,g (wT t++r)=some (t,r)):∀i,i≤ts.length→WZ g i (wTs ts++r)=some (ts.take i,wTs (ts.drop i)++r)
 |0,_=>rfl
 |i+1,hi=>by
  have ih:=OR ts r hg i (by omega)
  obtain⟨t,ht⟩:∃t,ts[i]?=some t:=⟨ts[i],List.getElem?_eq_getElem _⟩
  have hd:ts.drop i=t::ts.drop (i+1):=by rw[List.drop_eq_getElem_cons (by omega)];congr 1;rw[List.getElem?_eq_getElem (by omega)] at ht;exact Option.some.inj ht
  unfold WZ
  rw[ih,hd]
  show(match g ((wT t++wTs (ts.drop (i+1)))++r) with|none=>none|some (t,r')=>some (ts.take i++[t],r'))=_
  rw[List.append_assoc,hg t (List.mem_of_getElem? ht),List.take_add_one,ht]
  rfl
theorem MH:∀(n:Nat) (t:Tr) (r:List Int),DS n t=true→rd n (wT t++r)=some (t,r)
 |0,_,_,h=>nomatch h
 |n+1,.non,_,h=>nomatch h
 |n+1,.bl _,_,h=>nomatch h
 |n+1,.lst _,_,h=>nomatch h
 |n+1,.int i,r,h=>by
  have h':(decide (0≤i)&&decide (i≤999999999))=true:=h
  rw[Bool.and_eq_true,decide_eq_true_eq,decide_eq_true_eq] at h'
  show rd (n+1) (0::i::r)=_
  unfold rd
  dsimp only
  rw[if_pos ⟨by decide,by decide⟩,if_pos rfl,if_pos h']
 |n+1,.str z,r,h=>by
  obtain⟨zl,zs⟩:=KJ h
  have zc:=AL z
  show rd (n+1) (1::(z.length:Int)::((A6 z).map idx++r))=_
  unfold rd
  dsimp only
  rw[if_pos ⟨by decide,by decide⟩]
  rw[if_neg (by decide),if_pos rfl,if_pos ⟨by omega,by omega⟩,OJ (A6 z) r zs _ (by omega),List.take_of_length_le (by omega),List.drop_eq_nil_of_le (by omega)]
  have:(⟨(A6 z).toArray⟩:Str)=z:=IT rfl
  show some (Tr.str ⟨(A6 z).toArray⟩,r)=_
  rw[this]
 |n+1,.tup ts,r,h=>by
  obtain⟨tl,tt⟩:=Dv h
  have hg:∀t∈ts,∀r,rd n (wT t++r)=some (t,r):=fun t ht r=>by
   obtain⟨i,hi⟩:=List.getElem?_of_mem ht
   exact MH n t r (tt i t hi)
  show rd (n+1) (2::(ts.length:Int)::(wTs ts++r))=_
  unfold rd
  dsimp only
  rw[if_pos ⟨by decide,by decide⟩]
  rw[if_neg (by decide),if_neg (by decide),if_pos ⟨by omega,by omega⟩,OR ts r hg _ (by omega),List.take_of_length_le (by omega),List.drop_eq_nil_of_le (by omega)]
  rfl
theorem Nw {n:Nat}{t u:Tr}(ht:DS n t=true)(hu:DS n u=true)(h:wT t=wT u):t=u:=by
 have e1:=MH n t [] ht
 rw[h,MH n u [] hu] at e1
 exact(Prod.mk.inj (Option.some.inj e1)).1.symm
theorem Qg {H:Hp}:∀(n:Nat) (t u:Tr) (v:V),DS n t=true→DS n u=true→Rep NL H t v→Rep NL H u v→t=u
 |0,_,_,_,h,_,_,_=>nomatch h
 |n+1,.int i,.int j,v,_,_,h1,h2=>by
  have e1:v=V.int i:=h1
  have e2:v=V.int j:=h2
  rw[e1] at e2;cases e2;rfl
 |n+1,.int i,.str z,v,_,_,h1,h2=>by
  have e1:v=V.int i:=h1
  have e2:v=V.str z:=h2
  rw[e1] at e2;cases e2
 |n+1,.int i,.tup ts,v,_,_,h1,⟨a,vs,e2,_⟩=>by
  have e1:v=V.int i:=h1
  rw[e1] at e2;cases e2
 |n+1,.str z,.int j,v,_,_,h1,h2=>by
  have e1:v=V.str z:=h1
  have e2:v=V.int j:=h2
  rw[e1] at e2;cases e2
 |n+1,.str z,.str y,v,_,_,h1,h2=>by
  have e1:v=V.str z:=h1
  have e2:v=V.str y:=h2
  rw[e1] at e2;cases e2;rfl
 |n+1,.str z,.tup ts,v,_,_,h1,⟨a,vs,e2,_⟩=>by
  have e1:v=V.str z:=h1
  rw[e1] at e2;cases e2
 |n+1,.tup ts,.int j,v,_,_,⟨a,vs,e1,_⟩,h2=>by
  have e2:v=V.int j:=h2
  rw[e1] at e2;cases e2
 |n+1,.tup ts,.str y,v,_,_,⟨a,vs,e1,_⟩,h2=>by
  have e2:v=V.str y:=h2
  rw[e1] at e2;cases e2
 |n+1,.tup ts,.tup us,v,ht,hu,⟨a,vs,e1,ha,r1⟩,⟨b,ws,e2,hb,r2⟩=>by
  subst e1
  cases e2
  rw[ha] at hb
  cases hb
  obtain⟨_,tt⟩:=Dv ht
  obtain⟨_,tu⟩:=Dv hu
  have l1:=AB.len ts vs r1
  have l2:=AB.len us vs r2
  have:ts=us:=by
   refine List.ext_getElem? fun i=>?_
   by_cases hi:i<vs.length
   ·obtain⟨t1,g1,p1⟩:=AB.get r1 (List.getElem?_eq_getElem hi)
    obtain⟨t2,g2,p2⟩:=AB.get r2 (List.getElem?_eq_getElem hi)
    rw[g1,g2,Qg n t1 t2 _ (tt i t1 g1) (tu i t2 g2) p1 p2]
   ·rw[List.getElem?_eq_none (by omega),List.getElem?_eq_none (by omega)]
  rw[this]
 |n+1,.non,_,_,h,_,_,_=>nomatch h
 |n+1,.bl _,_,_,h,_,_,_=>nomatch h
 |n+1,.lst _,_,_,h,_,_,_=>nomatch h
 |n+1,.int _,.non,_,_,h,_,_=>nomatch h
 |n+1,.int _,.bl _,_,_,h,_,_=>nomatch h
 |n+1,.int _,.lst _,_,_,h,_,_=>nomatch h
 |n+1,.str _,.non,_,_,h,_,_=>nomatch h
 |n+1,.str _,.bl _,_,_,h,_,_=>nomatch h
 |n+1,.str _,.lst _,_,_,h,_,_=>nomatch h
 |n+1,.tup _,.non,_,_,h,_,_=>nomatch h
 |n+1,.tup _,.bl _,_,_,h,_,_=>nomatch h
 |n+1,.tup _,.lst _,_,_,h,_,_=>nomatch h
theorem D1 {n:Nat}{t u:Tr}(ht:DS n t=true)(hu:DS n u=true){b:Bool}(h:b=true↔t=u):decide (wT t=wT u)=b:=by
 rw[Bool.eq_iff_iff,decide_eq_true_eq,h]
 exact⟨Nw ht hu,fun e=>by rw[e]⟩
theorem Ov {n:Nat}{ts us:List Tr}(ht:DS (n+1) (.tup ts)=true)(hu:DS (n+1) (.tup us)=true):decide (wT (.tup ts)=wT (.tup us))=((List.range (min ts.length us.length)).all (fun j=>decide (wT (ts.getD j .non)=wT (us.getD j .non)))&&ts.length == us.length):=by
 obtain⟨_,tt⟩:=Dv ht
 obtain⟨_,tu⟩:=Dv hu
 refine D1 ht hu ?_
 rw[Bool.and_eq_true,List.all_eq_true,beq_iff_eq]
 constructor
 ·rintro⟨h1,h2⟩
  congr 1
  refine List.ext_getElem? fun i=>?_
  by_cases hi:i<ts.length
  ·have e:=h1 i (List.mem_range.mpr (by omega))
   obtain⟨t1,g1⟩:∃t1,ts[i]?=some t1:=⟨ts[i],List.getElem?_eq_getElem hi⟩
   obtain⟨t2,g2⟩:∃t2,us[i]?=some t2:=⟨us[i]'(by omega),List.getElem?_eq_getElem _⟩
   simp only[List.getD,g1,g2,Option.getD_some,decide_eq_true_eq] at e
   rw[g1,g2,Nw (tt i t1 g1) (tu i t2 g2) e]
  ·rw[List.getElem?_eq_none (by omega),List.getElem?_eq_none (by omega)]
 ·intro h
  cases h
  exact⟨fun i _=>decide_eq_true rfl,rfl⟩
section
variable {X:Cx}{pins:List (Addr×Obj)}{σ:St}{H:Hp}{s:Shared}
theorem R3 (I:Inv X pins σ H s):∀(n:Nat) (t u:Tr) (A:Around) (v w:V) (vv ww:Value),DS n t=true→DS n u=true→A.units+n<cLine→Rep NL H t v→Rep NL H u w→RelV v vv→RelV w ww→SeqAt.EqAt A s vv ww (decide (wT t=wT u))
 |0,_,_,_,_,_,_,_,h,_,_,_,_,_,_=>nomatch h
 |n+1,t,u,A,v,w,vv,ww,ht,hu,hA,h1,h2,r1,r2=>by
  cases t with
  |int i=>
   cases(show v=V.int i from h1)
   obtain⟨t1,rfl⟩:=r1
   cases u with
   |int j=>
    cases(show w=V.int j from h2)
    obtain⟨t2,rfl⟩:=r2
    rw[D1 ht hu (b:=i == j) (by rw[beq_iff_eq];exact⟨fun e=>by rw[e],fun e=>by cases e;rfl⟩)]
    exact SeqAt.EqAt.int_int i t1 j t2
   |str z=>
    cases(show w=V.str z from h2)
    obtain⟨t2,rfl⟩:=r2
    rw[D1 ht hu (b:=false) ⟨(fun e=>nomatch e),(fun e=>nomatch e)⟩]
    exact SeqAt.EqAt.int_str i t1 z t2
   |tup us=>
    obtain⟨b,ws,rfl,hb,_⟩:=h2
    cases r2
    obtain⟨its,_,p,_⟩:=I.tuple (AY.of (K:=X.K) hb)
    rw[D1 ht hu (b:=false) ⟨(fun e=>nomatch e),(fun e=>nomatch e)⟩]
    exact SeqAt.EqAt.int_tuple i t1 p (by omega)
   |non=>cases hu
   |bl _=>cases hu
   |lst _=>cases hu
  |str y=>
   cases(show v=V.str y from h1)
   obtain⟨t1,rfl⟩:=r1
   cases u with
   |int j=>
    cases(show w=V.int j from h2)
    obtain⟨t2,rfl⟩:=r2
    rw[D1 ht hu (b:=false) ⟨(fun e=>nomatch e),(fun e=>nomatch e)⟩]
    exact SeqAt.EqAt.str_int y t1 j t2
   |str z=>
    cases(show w=V.str z from h2)
    obtain⟨t2,rfl⟩:=r2
    rw[D1 ht hu (b:=y == z) (by rw[beq_iff_eq];exact⟨fun e=>by rw[e],fun e=>by cases e;rfl⟩)]
    exact SeqAt.EqAt.str_str y t1 z t2
   |tup us=>
    obtain⟨b,ws,rfl,hb,_⟩:=h2
    cases r2
    obtain⟨its,_,p,_⟩:=I.tuple (AY.of (K:=X.K) hb)
    rw[D1 ht hu (b:=false) ⟨(fun e=>nomatch e),(fun e=>nomatch e)⟩]
    exact SeqAt.EqAt.str_tuple y t1 p (by omega)
   |non=>cases hu
   |bl _=>cases hu
   |lst _=>cases hu
  |tup ts=>
   obtain⟨a,vs,rfl,ha,hr1⟩:=h1
   cases r1
   obtain⟨its,rv1,p1,_⟩:=I.tuple (AY.of (K:=X.K) ha)
   cases u with
   |int j=>
    cases(show w=V.int j from h2)
    obtain⟨t2,rfl⟩:=r2
    rw[D1 ht hu (b:=false) ⟨(fun e=>nomatch e),(fun e=>nomatch e)⟩]
    exact SeqAt.EqAt.tuple_int j t2 p1 (by omega)
   |str z=>
    cases(show w=V.str z from h2)
    obtain⟨t2,rfl⟩:=r2
    rw[D1 ht hu (b:=false) ⟨(fun e=>nomatch e),(fun e=>nomatch e)⟩]
    exact SeqAt.EqAt.tuple_str z t2 p1 (by omega)
   |tup us=>
    obtain⟨b,ws,rfl,hb,hr2⟩:=h2
    cases r2
    obtain⟨its2,rv2,p2,_⟩:=I.tuple (AY.of (K:=X.K) hb)
    by_cases hab:a=b
    ·subst hab
     have:=Qg (n+1) (.tup ts) (.tup us) (.ref a) ht hu ⟨a,vs,rfl,ha,hr1⟩ ⟨a,ws,rfl,hb,hr2⟩
     rw[this,decide_eq_true rfl]
     exact SeqAt.EqAt.same _
    obtain⟨_,tt⟩:=Dv ht
    obtain⟨_,tu⟩:=Dv hu
    have l1:=rv1.length.symm.trans (AB.len ts vs hr1)
    have l2:=rv2.length.symm.trans (AB.len us ws hr2)
    have q:=SeqAt.RcAt.tuples (A:=A) (s:=s) (e:=fun j=>decide (wT (ts.getD j .non)=wT (us.getD j .non))) p1 p2 (by omega) (fun j g1 g2=>by
     have g1':j<its.length:=by simpa using g1
     have g2':j<its2.length:=by simpa using g2
     have lv1:=rv1.length
     have lv2:=rv2.length
     obtain⟨x1,hx1⟩:∃x1,vs[j]?=some x1:=⟨vs[j]'(by omega),List.getElem?_eq_getElem _⟩
     obtain⟨x2,hx2⟩:∃x2,ws[j]?=some x2:=⟨ws[j]'(by omega),List.getElem?_eq_getElem _⟩
     obtain⟨y1,hy1,ry1⟩:=rv1.get hx1
     obtain⟨y2,hy2,ry2⟩:=rv2.get hx2
     obtain⟨t1,e1,p1'⟩:=AB.get hr1 hx1
     obtain⟨t2,e2,p2'⟩:=AB.get hr2 hx2
     have:=R3 I n t1 t2 A.in1 x1 x2 y1 y2 (tt j t1 e1) (tu j t2 e2) (by show A.units+1+n<cLine;omega) p1' p2' ry1 ry2
     rw[List.getElem?_eq_getElem g1'] at hy1
     rw[List.getElem?_eq_getElem g2'] at hy2
     cases hy1
     cases hy2
     simp only[List.getD,e1,e2,Option.getD_some]
     simpa using this)
    rw[Ov ht hu]
    simp only[List.size_toArray,l1,l2] at q
    exact SeqAt.EqAt.of_refs hab q
   |non=>cases hu
   |bl _=>cases hu
   |lst _=>cases hu
  |non=>cases ht
  |bl _=>cases ht
  |lst _=>cases ht
end
section
variable {X:Cx}
def W8 (neg:Bool):R2:=fun x y H Q=>∃t u,DS 8 t=true∧DS 8 u=true∧Rep NL H t x∧Rep NL H u y∧Q (.bl (if neg then !decide (wT t=wT u) else decide (wT t=wT u))) H
theorem R4 {pins:List (Addr×Obj)} {σ:St} {H:Hp} {s:Shared} (I:Inv X pins σ H s) {n:Nat} {A:Around} {ts us:List Tr} {vs ws:List V} {its its2:List Value} (hA:A.units+1+n<cLine) (tt:∀(i:Nat) t,ts[i]?=some t→DS n t=true) (tu:∀(i:Nat) t,us[i]?=some t→DS n t=true)
  (hr1:AB NL H ts vs) (hr2:AB NL H us ws) (rv1:AJ vs its) (rv2:AJ ws its2) (j:Nat) (g1:j<its.toArray.size) (g2:j<its2.toArray.size):SeqAt.EqAt A.in1 s its.toArray[j] its2.toArray[j] (decide (wT (ts.getD j .non)=wT (us.getD j .non))):=by
 have g1':j<its.length:=by simpa using g1
 have g2':j<its2.length:=by simpa using g2
 have lv1:=rv1.length
 have lv2:=rv2.length
 obtain⟨x1,hx1⟩:∃x1,vs[j]?=some x1:=⟨vs[j]'(by omega),List.getElem?_eq_getElem _⟩
 obtain⟨x2,hx2⟩:∃x2,ws[j]?=some x2:=⟨ws[j]'(by omega),List.getElem?_eq_getElem _⟩
 obtain⟨y1,hy1,ry1⟩:=rv1.get hx1
 obtain⟨y2,hy2,ry2⟩:=rv2.get hx2
 obtain⟨t1,e1,p1'⟩:=AB.get hr1 hx1
 obtain⟨t2,e2,p2'⟩:=AB.get hr2 hx2
 have:=R3 I n t1 t2 A.in1 x1 x2 y1 y2 (tt j t1 e1) (tu j t2 e2) (by show A.units+1+n<cLine;omega) p1' p2' ry1 ry2
 rw[List.getElem?_eq_getElem g1'] at hy1
 rw[List.getElem?_eq_getElem g2'] at hy2
 cases hy1
 cases hy2
 simp only[List.getD,e1,e2,Option.getD_some]
 simpa using this
theorem TM (hu9:X.A.units+150<cLine):IG X (compareOp .Eq) (W8 false):=by
 intro pins s σ H x y v u Q I rx ry h
 obtain⟨t,w,ht,hw,h1,h2,q⟩:=h
 have fin:∀b:Bool,decide (wT t=wT w)=b→SeqAt.RcAt X.A s v u b→wpAny (model X.prog X.w) X.A (compareOp .Eq v u) (EP X pins σ Q) X.xe s:=fun b e r=>by
  rw[e] at q
  exact r _ _ _ _ ⟨.bl _,H,I,rfl,q⟩
 cases t with
 |int i=>
  cases(show x=V.int i from h1)
  obtain⟨t1,rfl⟩:=rx
  cases w with
  |int j=>
   cases(show y=V.int j from h2)
   obtain⟨t2,rfl⟩:=ry
   exact fin (i == j) (D1 ht hw (by rw[beq_iff_eq];exact⟨fun e=>by rw[e],fun e=>by cases e;rfl⟩)) (SeqAt.RcAt.int_int i t1 j t2)
  |str z=>
   cases(show y=V.str z from h2)
   obtain⟨t2,rfl⟩:=ry
   exact fin false (D1 ht hw ⟨(fun e=>nomatch e),(fun e=>nomatch e)⟩) (SeqAt.RcAt.int_str i t1 z t2)
  |tup us=>
   obtain⟨b,ws,rfl,hb,_⟩:=h2
   cases ry
   obtain⟨its,_,p,_⟩:=I.tuple (AY.of (K:=X.K) hb)
   exact fin false (D1 ht hw ⟨(fun e=>nomatch e),(fun e=>nomatch e)⟩) (SeqAt.RcAt.int_tuple i t1 p (by omega))
  |non=>cases hw
  |bl _=>cases hw
  |lst _=>cases hw
 |str a=>
  cases(show x=V.str a from h1)
  obtain⟨t1,rfl⟩:=rx
  cases w with
  |int j=>
   cases(show y=V.int j from h2)
   obtain⟨t2,rfl⟩:=ry
   exact fin false (D1 ht hw ⟨(fun e=>nomatch e),(fun e=>nomatch e)⟩) (SeqAt.RcAt.str_int a t1 j t2)
  |str z=>
   cases(show y=V.str z from h2)
   obtain⟨t2,rfl⟩:=ry
   exact fin (a == z) (D1 ht hw (by rw[beq_iff_eq];exact⟨fun e=>by rw[e],fun e=>by cases e;rfl⟩)) (SeqAt.RcAt.str_str a t1 z t2)
  |tup us=>
   obtain⟨b,ws,rfl,hb,_⟩:=h2
   cases ry
   obtain⟨its,_,p,_⟩:=I.tuple (AY.of (K:=X.K) hb)
   exact fin false (D1 ht hw ⟨(fun e=>nomatch e),(fun e=>nomatch e)⟩) (SeqAt.RcAt.str_tuple a t1 p (by omega))
  |non=>cases hw
  |bl _=>cases hw
  |lst _=>cases hw
 |tup ts=>
  obtain⟨a,vs,rfl,ha,hr1⟩:=h1
  cases rx
  obtain⟨its,rv1,p1,_⟩:=I.tuple (AY.of (K:=X.K) ha)
  cases w with
  |int j=>
   cases(show y=V.int j from h2)
   obtain⟨t2,rfl⟩:=ry
   exact fin false (D1 ht hw ⟨(fun e=>nomatch e),(fun e=>nomatch e)⟩) (SeqAt.RcAt.tuple_int j t2 p1 (by omega))
  |str z=>
   cases(show y=V.str z from h2)
   obtain⟨t2,rfl⟩:=ry
   exact fin false (D1 ht hw ⟨(fun e=>nomatch e),(fun e=>nomatch e)⟩) (SeqAt.RcAt.tuple_str z t2 p1 (by omega))
  |tup us=>
   obtain⟨b,ws,rfl,hb,hr2⟩:=h2
   cases ry
   obtain⟨its2,rv2,p2,_⟩:=I.tuple (AY.of (K:=X.K) hb)
   have l1:=rv1.length.symm.trans (AB.len ts vs hr1)
   have l2:=rv2.length.symm.trans (AB.len us ws hr2)
   have r:=SeqAt.RcAt.tuples (A:=X.A) (s:=s) (e:=fun j=>decide (wT (ts.getD j .non)=wT (us.getD j .non))) p1 p2 (by omega) (fun j g1 g2=>R4 I (n:=7) (by omega) (Dv ht).2 (Dv hw).2 hr1 hr2 rv1 rv2 j g1 g2)
   simp only[List.size_toArray,l1,l2] at r
   exact fin _ (Ov ht hw) r
  |non=>cases hw
  |bl _=>cases hw
  |lst _=>cases hw
 |non=>cases ht
 |bl _=>cases ht
 |lst _=>cases ht
end
end
section
variable {P:Program}{w:World}{K:W.Frag}{mg:Str→Option Value}{base:Heap}{f Ab Ad Aa Ae:Addr}{XC:Nat→Addr}{fd:FuncData}
abbrev Fp:=List (Int×List Int)
def Hi (b:Fp)(k:Int)(row:List Int):Fp:=if(b.any fun x=>decide (x.1=k))=true then b.map (fun x=>if x.1=k then(x.1,row) else x) else b++[(k,row)]
def EO (b:Fp)(k:Int):Option (List Int):=(b.find? fun x=>decide (x.1=k)).map (·.2)
def Xb (H:Hp):Key×V→Int×List Int→Prop:=fun kv x=>kv.1=Sum.inl x.1∧∃r,kv.2=.ref r∧H r=some (.lst (x.2.map V.int))
def CH (H:Hp)(kvs:List (Key×V))(b:Fp):Prop:=Paired (Xb H) kvs b
theorem CH.same {H H':Hp}{kvs:List (Key×V)}{b:Fp}(r:CH H kvs b)(s:∀a xs,H a=some (.lst xs)→H' a=some (.lst xs)):CH H' kvs b:=Paired.mapP r fun _ _ ⟨h1,a,h2,h3⟩=>⟨h1,a,h2,s _ _ h3⟩
theorem UG (a k:Int):decide ((Sum.inl a:Key)=Sum.inl k)=decide (a=k):=by
 by_cases e:a=k
 ·rw[e];simp
 ·rw[decide_eq_false e,decide_eq_false fun z=>e (Sum.inl.inj z)]
theorem CH.any {H:Hp}{kvs:List (Key×V)}{b:Fp}(r:CH H kvs b)(k:Int):(kvs.any fun kv=>decide (kv.1=Sum.inl k))=(b.any fun x=>decide (x.1=k)):=by
 unfold CH at r
 induction r with
 |nil=>rfl
 |cons h t ih=>rw[List.any_cons,List.any_cons,ih,h.1,UG]
theorem CH.put {H:Hp}{kvs:List (Key×V)}{b:Fp}(r:CH H kvs b)(k:Int){l:Addr}{row:List Int}(hl:H l=some (.lst (row.map V.int))):CH H (putK kvs (Sum.inl k) (.ref l)) (Hi b k row):=by
 unfold putK Hi
 rw[r.any k]
 by_cases hc:(b.any fun x=>decide (x.1=k))=true
 ·rw[if_pos hc,if_pos hc]
  clear hc
  unfold CH at r ⊢
  induction r with
  |nil=>exact .nil
  |@cons kv x ps qs h t ih=>
   rw[List.map_cons,List.map_cons]
   refine .cons ?_ ih
   by_cases e:x.1=k
   ·rw[if_pos (by rw[h.1,e]),if_pos e]
    exact⟨h.1,l,rfl,hl⟩
   ·rw[if_neg (by rw[h.1];exact fun z=>e (Sum.inl.inj z)),if_neg e]
    exact h
 ·rw[if_neg hc,if_neg hc]
  exact Paired.snoc r ⟨rfl,l,rfl,hl⟩
theorem CH.get {H:Hp}{kvs:List (Key×V)}{b:Fp}(r:CH H kvs b)(k:Int):(Ct kvs (Sum.inl k)=none∧EO b k=none)∨∃a row,Ct kvs (Sum.inl k)=some (.ref a)∧EO b k=some row∧H a=some (.lst (row.map V.int)):=by
 unfold CH at r
 induction r with
 |nil=>exact .inl ⟨rfl,rfl⟩
 |@cons kv x ps qs h t ih=>
  obtain⟨h1,a,h2,h3⟩:=h
  by_cases e:x.1=k
  ·refine .inr ⟨a,x.2,?_,?_,h3⟩
   ·rw[G9 (by rw[h1,e]),h2]
   ·unfold EO;rw[List.find?_cons,decide_eq_true e];rfl
  ·have g1:EO (x::qs) k=EO qs k:=by unfold EO;rw[List.find?_cons,decide_eq_false e]
   have g2:Ct (kv::ps) (Sum.inl k)=Ct ps (Sum.inl k):=Hq (by rw[h1];exact fun z=>e (Sum.inl.inj z))
   rw[g1,g2];exact ih
theorem CH.len {H:Hp}{kvs:List (Key×V)}{b:Fp}(r:CH H kvs b):kvs.length=b.length:=Paired.length r
theorem TB (b:Fp)(k:Int)(row:List Int):(Hi b k row).length≤b.length+1:=by
 unfold Hi
 split
 ·rw[List.length_map];omega
 ·rw[List.length_append];show b.length+1≤_;omega
theorem Ll {α β:Type}{F G:α→β→Prop}:∀{l₁:List α} {l₂:List β},Paired F l₁ l₂→(∀a∈l₁,∀b,F a b→G a b)→Paired G l₁ l₂
 |_,_,.nil,_=>.nil
 |_,_,.cons r t,f=>.cons (f _ List.mem_cons_self _ r) (Ll t fun a ha=>f a (List.mem_cons_of_mem _ ha))
theorem DJ {α β:Type}{F:α→β→Prop}:∀{l₁:List α} {l₂:List β} {i:Nat} {a:α},Paired F l₁ l₂→l₁[i]?=some a→∃b,l₂[i]?=some b∧F a b
 |_,_,_,_,.nil,e=>by simp at e
 |_,_,0,_,.cons r _,e=>by simp at e;subst e;exact⟨_,rfl,r⟩
 |_,_,i+1,a,.cons _ t,e=>by
  obtain⟨b,h1,h2⟩:=DJ (i:=i) (a:=a) t (by simpa using e)
  exact⟨b,by simpa using h1,h2⟩
theorem Q4 {b:Fp}{k:Int}{row:List Int}(h:(b.any fun x=>decide (x.1=k))=true):(Hi b k row).map (·.1)=b.map (·.1):=by
 unfold Hi
 rw[if_pos h,List.map_map]
 refine List.map_congr_left fun x _=>?_
 show(if x.1=k then(x.1,row) else x).1=x.1
 split<;>rfl
theorem To {b:Fp}{k:Int}{row:List Int}(h:k∉b.map (·.1)):Hi b k row=b++[(k,row)]:=by
 unfold Hi
 rw[if_neg]
 intro z
 obtain⟨x,hx,e⟩:=List.any_eq_true.mp z
 exact h (List.mem_map.mpr ⟨x,hx,of_decide_eq_true e⟩)
theorem PL {b:Fp}{k:Int}{row:List Int}(h:(b.map (·.1)).Nodup):((Hi b k row).map (·.1)).Nodup:=by
 by_cases c:k∈b.map (·.1)
 ·rw[Q4]
  ·exact h
  ·obtain⟨x,hx,e⟩:=List.mem_map.mp c
   exact List.any_eq_true.mpr ⟨x,hx,decide_eq_true e⟩
 ·rw[To c,List.map_append,List.nodup_append]
  refine⟨h,by simp,fun e he g hg=>?_⟩
  rw[show g=k by simpa using hg]
  intro z
  exact c (z▸he)
def RY (H:Hp)(ds:List Addr)(bs:List Fp):Prop:=Paired (fun d b=>∃kvs,H d=some (.dK kvs)∧CH H kvs b∧(b.map (·.1)).Nodup) ds bs
theorem RY.same {H H':Hp}{ds:List Addr}{bs:List Fp}(r:RY H ds bs)(s:∀a xs,H a=some (.lst xs)→H' a=some (.lst xs))(k:∀d∈ds,∀kvs,H d=some (.dK kvs)→H' d=some (.dK kvs)):RY H' ds bs:=
 Ll r fun d hd _ ⟨kvs,h1,h2,h3⟩=>⟨kvs,k d hd kvs h1,h2.same s,h3⟩
theorem RY.set {H H':Hp}{d:Addr}{b':Fp}(s:∀a xs,H a=some (.lst xs)→H' a=some (.lst xs))(hd:∃kvs,H' d=some (.dK kvs)∧CH H' kvs b'∧(b'.map (·.1)).Nodup):∀{ds:List Addr} {bs:List Fp},RY H ds bs→ds.Nodup→(∀e∈ds,e≠d→∀kvs,H e=some (.dK kvs)→H' e=some (.dK kvs))→∀{i:Nat},ds[i]?=some d→RY H' ds (bs.set i b')
 |_,_,.nil,_,_,i,hi=>by simp at hi
 |_,_,.cons h t,nd,k,0,hi=>by
  simp at hi
  subst hi
  refine .cons hd (Ll t fun e he _ ⟨kvs,h1,h2,h3⟩=>⟨kvs,k e (List.mem_cons_of_mem _ he) (fun z=>(List.nodup_cons.mp nd).1 (z▸he)) kvs h1,h2.same s,h3⟩)
 |e::es,_,.cons h t,nd,k,i+1,hi=>by
  have hi':es[i]?=some d:=by simpa using hi
  obtain⟨kvs,h1,h2,h3⟩:=h
  refine .cons ⟨kvs,k e List.mem_cons_self (fun z=>(List.nodup_cons.mp nd).1 (by rw[z];exact List.mem_of_getElem? hi')) kvs h1,h2.same s,h3⟩ ?_
  exact RY.set s hd t (List.nodup_cons.mp nd).2 (fun e' he'=>k e' (List.mem_cons_of_mem _ he')) hi'
def Mf (s:Addr)(n:Int)(lf:V):List (Str×V):=[("shelves",.ref s),("writes",.int n),("writes_left",lf)]
theorem V5 (s:Addr)(n y:Int)(lf:V):Ei "writes" (.int y) (Mf s n lf)=Mf s y lf:=by
 unfold Mf
 simp only[Ei]
 rfl
def G0 (Ad:Addr)(H:Hp)(p:Addr)(ds:List Addr)(bs:List Fp)(n:Int)(lf:V):Prop:=∃dx s,H p=some (.ins Ad dx (Mf s n lf))∧H s=some (.lst (ds.map V.ref))∧ds.Nodup∧RY H ds bs
theorem G0.len {Ad:Addr}{H:Hp}{p:Addr}{ds:List Addr}{bs:List Fp}{n:Int}{lf:V}(h:G0 Ad H p ds bs n lf):ds.length=bs.length:=by
 obtain⟨_,_,_,_,_,r⟩:=h
 exact Paired.length r
def Kb (H H':Hp)(p:Addr)(ds:List Addr):Prop:=∀b o,H b=some o→b≠p→b∉ds→H' b=some o
theorem G0.kept {Ad:Addr}{H H':Hp}{p q:Addr}{ds es:List Addr}{bs:List Fp}{n:Int}{lf:V}{m:Int}{lf2:V}{cs:List Fp}(h:G0 Ad H q es bs n lf)(g:G0 Ad H p ds cs m lf2)(k:Kb H H' p ds)(hq:q≠p)(ha:∀e∈es,e∉ds):G0 Ad H' q es bs n lf:=by
 obtain⟨dx,s,h1,h2,h3,h4⟩:=h
 obtain⟨dx2,s2,g1,g2,g3,g4⟩:=g
 have nd:∀{b:Addr} {o:HO},H b=some o→(∀kvs,o≠.dK kvs)→b∉ds:=fun{b o} e z hb=>by
  obtain⟨i,hi,ei⟩:=List.getElem_of_mem hb
  obtain⟨c,_,kvs,q1,_⟩:=DJ (i:=i) g4 (by rw[List.getElem?_eq_getElem hi,ei])
  rw[e] at q1
  exact z kvs (Option.some.inj q1)
 refine⟨dx,s,k q _ h1 hq (nd h1 (by intro kvs z;cases z)),k s _ h2 (AW h2 g1 (by intro z;cases z)) (nd h2 (by intro kvs z;cases z)),h3,h4.same (fun a xs e=>k a _ e (AW e g1 (by intro z;cases z)) (nd e (by intro kvs z;cases z))) fun d hd kvs e=>k d _ e (AW e g1 (by intro z;cases z)) (ha d hd)⟩
theorem G0.same {Ad:Addr}{H H':Hp}{p:Addr}{ds:List Addr}{bs:List Fp}{n:Int}{lf:V}(h:G0 Ad H p ds bs n lf)(s:Aq H H'):G0 Ad H' p ds bs n lf:=by
 obtain⟨dx,s0,h1,h2,h3,h4⟩:=h
 exact⟨dx,s0,s.get h1,s.get h2,h3,h4.same (fun a xs e=>s.get e) fun d _ kvs e=>s.get e⟩
theorem Aq.kb {H H':Hp}(s:Aq H H')(p:Addr)(ds:List Addr):Kb H H' p ds:=fun b o e _ _=>s b o e
theorem Kb.trans {H H1 H2:Hp}{p:Addr}{ds:List Addr}(a:Kb H H1 p ds)(b:Kb H1 H2 p ds):Kb H H2 p ds:=fun c o e h1 h2=>b c o (a c o e h1 h2) h1 h2
theorem G0.notin {Ad:Addr}{H:Hp}{p:Addr}{ds:List Addr}{bs:List Fp}{n:Int}{lf:V}(g:G0 Ad H p ds bs n lf){b:Addr}{o:HO}(e:H b=some o)(z:∀kvs,o≠.dK kvs):b∉ds:=fun hb=>by
 obtain⟨_,_,_,_,_,g4⟩:=g
 obtain⟨i,hi,ei⟩:=List.getElem_of_mem hb
 obtain⟨c,_,kvs,q1,_⟩:=DJ (i:=i) g4 (by rw[List.getElem?_eq_getElem hi,ei])
 rw[e] at q1
 exact z kvs (Option.some.inj q1)
theorem G0.there {Ad:Addr}{H:Hp}{p:Addr}{ds:List Addr}{bs:List Fp}{n:Int}{lf:V}(g:G0 Ad H p ds bs n lf):∀d∈ds,∃kvs,H d=some (.dK kvs):=fun d hb=>by
 obtain⟨_,_,_,_,_,g4⟩:=g
 obtain⟨i,hi,ei⟩:=List.getElem_of_mem hb
 obtain⟨c,_,kvs,q1,_⟩:=DJ (i:=i) g4 (by rw[List.getElem?_eq_getElem hi,ei])
 exact⟨kvs,q1⟩
def E6 (K:W.Frag)(Ad:Addr):Sp:=fun vs H Q _=>∃(p dx:Addr) (m:Nat),vs=[.ref p,.int m]∧2≤m∧m≤4∧H p=some (.ins Ad dx [])∧∀H' ds,G0 Ad H' p ds (List.replicate m []) 0 .non→(∀d∈ds,H d=none)→(∀b o,H b=some o→b≠p→H' b=some o)→Q .non H'
def Dw (K:W.Frag)(Ad:Addr):Sp:=fun vs H Q _=>∃p ds bs n lf,vs=[.ref p]∧G0 Ad H p ds bs n lf∧Q (.int (bs.length:Int)) H
def CZ (K:W.Frag)(Ad:Addr):Sp:=fun vs H Q _=>∃p ds bs n lf,∃(b:Nat),vs=[.ref p,.int (b:Int)]∧G0 Ad H p ds bs n lf∧b<bs.length∧∀d,ds[b]?=some d→Q (.ref d) H
def D9 (K:W.Frag)(Ad:Addr):Sp:=fun vs H Q _=>∃p ds bs n,∃(b:Nat) (z:Int) (a:Addr) (row:List Int),vs=[.ref p,.int (b:Int),.int z,.ref a]∧G0 Ad H p ds bs n .non∧b<bs.length∧(∀c∈bs,c.length<100000)∧H a=some (.lst (row.map V.int))∧
 ∀H',G0 Ad H' p ds (bs.set b (Hi (bs.getD b []) z row)) (n+1) .non→Kb H H' p ds→Q .non H'
def EV (K:W.Frag)(Ad:Addr):Sp:=fun vs H Q _=>∃p ds bs n lf,∃(b:Nat) (z:Int),vs=[.ref p,.int (b:Int),.int z]∧G0 Ad H p ds bs n lf∧b<bs.length∧(EO (bs.getD b []) z=none→Q .non H)∧
 ∀row,EO (bs.getD b []) z=some row→∀l,H l=none→Q (.ref l) (upd H l (.lst (row.map V.int)))
theorem LK (T:Txt K mg Ab Ad Aa Ae XC)(F:Fun K "many" "Boards.many" Co f fd):FnOk P w K mg base B9 1 f fd ["self"] (Dw K Ad):=by
 exists KU
 ·obtain⟨p,ds,bs,n,lf,rfl,_⟩:=h
  rfl
 obtain⟨p,ds,bs,n,lf,rfl,hB,q⟩:=h
 have hl:=hB.len
 obtain⟨dx,s0,h1,h2,h3,h4⟩:=hB
 refine⟨_,(!Al (!An (!Ar AI (by rfl) T.b_len Bp (!Ac (!AR (pv 0) rfl) (!Ah) (by rfl)) (by decide) (by decide) (by rfl) (by rfl)))),?_⟩
 refine⟨_,rfl,p,Ad,dx,_,_,rfl,h1,T.cl_Boards,T.n_Boards_shelves,rfl,s0,_,rfl,.inl (AU.of h2),?_⟩
 rw[List.length_map,hl]
 exact q
theorem Kc (T:Txt K mg Ab Ad Aa Ae XC)(F:Fun K "shelf" "Boards.shelf" BQ f fd)(AA:Def P w K mg base 2 "is_between" ["thing","least","most"] (Bg K))(BI:A7 P w K mg base 1 Ad "many" ["self"] (Dw K Ad)):FnOk P w K mg base B9 3 f fd ["self","board"] (CZ K Ad):=by
 exists Km
 ·obtain⟨p,ds,bs,n,lf,b,rfl,_⟩:=h
  rfl
 obtain⟨p,ds,bs,n,lf,b,rfl,hB,b1,q⟩:=h
 have hl:=hB.len
 obtain⟨dx,s0,h1,h2,h3,h4⟩:=id hB
 refine⟨_,(!Af (!AM (!BH (!Br (!AE AA (by trivial) rfl (!Ac (pv 1) (!Ac (!Ak) (!Ac (!Az JL (!Ep (pv 0) T.cl_Boards BI (by trivial) (by rfl)) (!Ak)) (!Ah) (by rfl)) (by rfl)) (by rfl)) (by decide) (by rfl) (by rfl)) (by intro _;rfl))) (!Al (!BV)) (!Av)) (!Al (!An (!AG DZ (!AR (pv 0) rfl) (pv 1) (fun _ _=>rfl))))),?_⟩
 refine⟨_,rfl,_,rfl,p,dx,_,rfl,h1,rfl,p,ds,bs,n,lf,rfl,hB,_,_,rfl,rfl,.int (b:Int),0,_,rfl,trivial,_,rfl,AK ?_ ?_⟩
 ·show(!(decide ((0:Int)≤(b:Int))&&decide ((b:Int)≤(bs.length:Int)-1)))=false
  rw[decide_eq_true (show(0:Int)≤(b:Int) by omega),decide_eq_true (show(b:Int)≤(bs.length:Int)-1 by omega)];rfl
 have hk:b<ds.length:=by omega
 exact⟨_,rfl,p,Ad,dx,_,_,rfl,h1,T.cl_Boards,T.n_Boards_shelves,rfl,_,rfl,s0,_,_,_,rfl,rfl,AU.of h2,HQ (j:=b) (by rw[List.getElem?_map,List.getElem?_eq_getElem hk];rfl),q _ (List.getElem?_eq_getElem hk)⟩
theorem Uk {H H':Hp} {p dx s0 l:Addr} {ds:List Addr} {bs:List Fp} {n y:Int} {lf lf2:V} {b:Nat} {d:Addr} {z:Int} {row:List Int} {kvs:List (Key×V)} (h1:H p=some (.ins Ad dx (Mf s0 n lf))) (h2:H s0=some (.lst (ds.map V.ref))) (h3:ds.Nodup) (h4:RY H ds bs) (hb:ds[b]?=some d) (hd:H d=some (.dK kvs))
  (hl:H l=none) (e:H'=upd (upd (upd H p (.ins Ad dx (Mf s0 y lf2))) l (.lst (row.map V.int))) d (.dK (putK kvs (Sum.inl z) (.ref l)))):G0 Ad H' p ds (bs.set b (Hi (bs.getD b []) z row)) y lf2∧Kb H H' p ds:=by
 have npd:p≠d:=AW h1 hd (by intro z;cases z)
 have nld:l≠d:=fun z=>by rw[z,hd] at hl;cases hl
 have nlp:l≠p:=fun z=>by rw[z,h1] at hl;cases hl
 have lists:∀a xs,H a=some (.lst xs)→H' a=some (.lst xs):=fun a xs q=>by
  rw[e,Aj (AW q hd (by intro z;cases z)),Aj (AD q hl),Aj (AW q h1 (by intro z;cases z))];exact q
 have hl':H' l=some (.lst (row.map V.int)):=by rw[e,Aj nld,Ag]
 obtain⟨b0,g1,kvs0,g2,g3,g5⟩:=DJ h4 hb
 rw[hd] at g2
 cases g2
 have eb:bs.getD b []=b0:=by simp[List.getD,g1]
 refine⟨⟨dx,s0,?_,lists _ _ h2,h3,?_⟩,fun c o q hc hcd=>?_⟩
 ·rw[e,Aj npd,Aj nlp.symm,Ag]
 ·rw[eb]
  refine RY.set lists ⟨_,by rw[e,Ag],(g3.same lists).put z hl',PL g5⟩ h4 h3 (fun e' he' ne' kvs' q=>?_) hb
  rw[e,Aj ne',Aj (AD q hl),Aj (AW q h1 (by intro z;cases z))];exact q
 ·rw[e,Aj (fun z=>hcd (by rw[z];exact List.mem_of_getElem? hb)),Aj (AD q hl),Aj hc];exact q
theorem Ki (T:Txt K mg Ab Ad Aa Ae XC)(F:Fun K "write" "Boards.write" BL f fd)(BZ:A7 P w K mg base 3 Ad "shelf" ["self","board"] (CZ K Ad)):FnOk P w K mg base B9 4 f fd ["self","board","number","row"] (D9 K Ad):=by
 exists GX
 ·obtain⟨p,ds,bs,n,b,z,a,row,rfl,_⟩:=h
  rfl
 obtain⟨p,ds,bs,n,b,z,a,row,rfl,hB,b1,b2,ha,q⟩:=h
 have hl:=hB.len
 obtain⟨dx,s0,h1,h2,h3,h4⟩:=id hB
 have hu:=CC hr
 refine⟨_,(!Af (@Ay _ _ (4) _ _ _ _ GX.nd rfl (by trivial) (!Bc (pv 0) T.cl_Boards BZ (by trivial) (!Ac (pv 1) (!Ah) (by rfl)) (by rfl) (by rfl) (by rfl)) (by rfl) (by trivial)) (!Af (!AM (!AF Bu (!AR (pv 0) rfl) (!Ak) (AC _)) (!Al (!BV)) (!Av)) (!Af (!AM (!G2 (!M7 (!AR (pv 0) rfl)) (by first|exact Dq _ (by decide) (by decide)|rfl)) (!Al (!BV)) (!Av)) (!Af (!HH (pv 0) (!Ak) Gy) (!Al (!KC hu (pv 4) (pv 2) (!EF GW (by rfl) T.b_list NH (!Ac (pv 3) (!Ah) (by rfl)) (by decide) (by decide) (by rfl) (by rfl)) rfl)))))),?_⟩
 dsimp only[Cs]
 refine⟨_,rfl,p,dx,_,rfl,h1,rfl,_,rfl,p,ds,bs,n,.non,b,rfl,hB,b1,fun d hd=>?_⟩
 obtain⟨c0,g1,kvs,e1,g3,g5⟩:=DJ h4 hd
 have npd:p≠d:=AW h1 e1 (by intro z;cases z)
 have npa:a≠p:=AW ha h1 (by intro z;cases z)
 have kl:kvs.length<100000:=by rw[g3.len];exact b2 _ (List.mem_of_getElem? g1)
 dsimp only
 refine⟨_,rfl,p,Ad,dx,_,_,rfl,h1,T.cl_Boards,T.n_Boards_writes_left,rfl,rfl,_,rfl,AK rfl ?_⟩
 refine⟨_,rfl,p,Ad,dx,_,_,rfl,h1,T.cl_Boards,T.n_Boards_writes_left,rfl,_,rfl,AK rfl ?_⟩
 refine⟨_,rfl,p,Ad,dx,_,_,rfl,h1,T.cl_Boards,T.n_Boards_writes,rfl,_,_,rfl,rfl,dx,_,h1,(by show 3<1000;decide),?_⟩
 rw[V5]
 refine⟨_,rfl,a,_,rfl,.inl (AU.of (by rw[Aj npa];exact ha)),fun l hl0=>?_⟩
 have nlp:l≠p:=fun z=>by rw[z,Ag] at hl0;cases hl0
 have hlH:H l=none:=by rw[Aj nlp] at hl0;exact hl0
 have ndl:d≠l:=AD e1 hlH
 refine⟨_,rfl,_,rfl,d,_,rfl,LX.k (k:=Sum.inl z) (by rw[Aj ndl,Aj npd.symm];exact e1) (Bd (by omega)),?_⟩
 obtain⟨x1,x2⟩:=Uk (Ad:=Ad) (y:=n+1) (lf2:=.non) (row:=row) (z:=z) h1 h2 h3 h4 hd e1 hlH rfl
 exact q _ x1 x2
theorem KQ (T:Txt K mg Ab Ad Aa Ae XC)(F:Fun K "cell" "Boards.cell" Cj f fd)(BZ:A7 P w K mg base 3 Ad "shelf" ["self","board"] (CZ K Ad)):FnOk P w K mg base B9 4 f fd ["self","board","number"] (EV K Ad):=by
 exists G4
 ·obtain⟨p,ds,bs,n,lf,b,z,rfl,_⟩:=h
  rfl
 obtain⟨p,ds,bs,n,lf,b,z,rfl,hB,b1,q0,q1⟩:=h
 obtain⟨dx,s0,h1,h2,h3,h4⟩:=id hB
 have hu:=CC hr
 refine⟨_,(!Af (@Ay _ _ (3) _ _ _ _ G4.nd rfl (by trivial) (!RU hu (!Bc (pv 0) T.cl_Boards BZ (by trivial) (!Ac (pv 1) (!Ah) (by rfl)) (by rfl) (by rfl) (by rfl)) (pv 2) ⟨rfl,rfl,rfl,rfl⟩) (by rfl) (by trivial)) (!Af (!AM (!G2 (!Px (pv 3)) (by first|exact Dq _ (by decide) (by decide)|rfl)) (!Al (!An (!FA))) (!Av)) (!Al (!An (!EF GW (by rfl) T.b_list NH (!Ac (pv 3) (!Ah) (by rfl)) (by decide) (by decide) (by rfl) (by rfl)))))),?_⟩
 try dsimp only[Cs,Cx.nox,Cx.wish]
 refine⟨_,rfl,p,dx,_,rfl,h1,rfl,_,rfl,p,ds,bs,n,lf,b,rfl,hB,b1,fun d hd=>?_⟩
 obtain⟨c0,g1,kvs,e1,g3,g5⟩:=DJ h4 hd
 have eb:bs.getD b []=c0:=by simp[List.getD,g1]
 rw[eb] at q0 q1
 refine⟨d,rfl,.inl ⟨kvs,.inl e1⟩,_,rfl,_,CW.k (k:=Sum.inl z) e1,?_⟩
 rcases g3.get z with⟨v1,v2⟩|⟨a,row,v1,v2,v3⟩
 ·rw[v1]
  exact⟨_,rfl,_,rfl,Cz rfl (q0 v2)⟩
 ·rw[v1]
  refine⟨_,rfl,_,rfl,AK rfl ?_⟩
  exact⟨_,rfl,a,_,rfl,.inl (AU.of v3),fun l hl=>q1 row v2 l hl⟩
theorem Lw (T:Txt K mg Ab Ad Aa Ae XC)(F:Fun K "__init__" "Boards.__init__" Ce f fd)(AA:Def P w K mg base 2 "is_between" ["thing","least","most"] (Bg K)):FnOk P w K mg base B9 3 f fd ["self","many"] (E6 K Ad):=by
 exists Lb
 ·obtain⟨p,dx,m,rfl,_⟩:=h
  rfl
 obtain⟨p,dx,m,rfl,m1,m2,h1,q⟩:=h
 refine⟨_,(!Af (!AM (!BH (!Br (!AE AA (by trivial) rfl (!Ac (pv 1) (!Ac (!Ax rfl T.c_LEAST_BOARDS (by decide)) (!Ac (!Ax rfl T.c_MOST_BOARDS (by decide)) (!Ah) (by rfl)) (by rfl)) (by rfl)) (by decide) (by rfl) (by rfl)) (by intro _;rfl))) (!Al (!BV)) (!Av)) (!Af (!Cp (pv 0) (@BE _ ["board"] _ _ _ _ _ _ _ _ _ _ rfl (!Eu rfl T.b_range (!Ac (pv 1) (!Ah) (by rfl)) (by rfl)) (by decide +kernel) (fun C s H fp=>⟨(@As _ _ (0) _ (show(["board"]:List Str).Nodup by decide +kernel) rfl (by trivial) (by trivial)),(!AV),(!FW)⟩) (by intro _;rfl)) rfl) (!Af (!Cp (pv 0) (!Ak) rfl) (!Al (!Cp (pv 0) (!FA) rfl))))),?_⟩
 try dsimp only[Cs,Cx.nox,Cx.wish]
 refine⟨_,rfl,.int m,2,4,rfl,trivial,_,rfl,AK ?_ ?_⟩
 ·show(!(decide ((2:Int)≤(m:Int))&&decide ((m:Int)≤4)))=false
  rw[decide_eq_true (show(2:Int)≤(m:Int) by omega),decide_eq_true (show(m:Int)≤4 by omega)];rfl
 refine⟨_,rfl,m,rfl,by omega,by omega,?_⟩
 refine Kv (xs:=(List.range (m:Int).toNat).map fun(i:Nat)=>V.int (0+(i:Int))) (fun i ys l H'=>Aq H H'∧∃ds:List Addr,ys=ds.map V.ref∧ds.Nodup∧∀d∈ds,H' d=some (.dK [])∧H d=none) (by rw[List.length_map,List.length_range];omega) (fun i ys l H' _=>O8) (fun l hl=>⟨Am hl _,[],rfl,List.nodup_nil,fun _ h=>nomatch h⟩) (fun i x ys l H' R hx hl hl' hlen hI hR d hd=>?_) fun l H1 ys hl hl1 ly hI=>?_
 ·obtain⟨s',ds,rfl,nd,hds⟩:=hI
  have nld:l≠d:=AD hl' hd
  refine hR _ _ (by rw[Aj nld];exact hl') ⟨A0 (A0 s' (s'.free hd) _) hl _,ds++[d],by rw[List.map_append];rfl,?_,fun e he=>?_⟩
  ·rw[List.nodup_append]
   refine⟨nd,by simp,fun e he g hg=>?_⟩
   rw[List.mem_singleton.mp hg]
   intro z
   have:=(hds e he).1
   rw[z,hd] at this
   cases this
  ·have nel:∀{o},H' e=some (.dK o)→e≠l:=fun q=>AW q hl' (by intro z;cases z)
   rcases List.mem_append.mp he with he|he
   ·obtain⟨g1,g2⟩:=hds e he
    exact⟨by rw[Aj (nel g1),Aj (AD g1 hd)];exact g1,g2⟩
   ·rw[List.mem_singleton.mp he]
    exact⟨by rw[Aj nld.symm,Ag],s'.free hd⟩
 obtain⟨s1,ds,rfl,nd,hds⟩:=hI
 have lds:ds.length=m:=by rw[List.length_map,List.length_map,List.length_range] at ly;omega
 have p1:=s1.get h1
 have npl:l≠p:=AW hl1 p1 (by intro z;cases z)
 refine⟨_,rfl,p,Ad,dx,[],rfl,p1,T.cl_Boards,T.n_Boards_shelves,(by show 0<1000;decide),?_⟩
 refine⟨_,rfl,p,Ad,dx,_,rfl,Ag,T.cl_Boards,T.n_Boards_writes,(by show 1<1000;decide),?_⟩
 refine⟨_,rfl,p,Ad,dx,_,rfl,Ag,T.cl_Boards,T.n_Boards_writes_left,(by show 2<1000;decide),?_⟩
 rw[Fi,Fi]
 refine q _ ds ⟨dx,l,Ag,by rw[Aj npl];exact hl1,nd,?_⟩ (fun d hd=>(hds d hd).2) fun b o e hb=>?_
 ·have all:∀(es:List Addr),(∀d∈es,d∈ds)→RY (upd H1 p (.ins Ad dx (Ei "writes_left" V.non (Ei "writes" (V.int 0) (Ei "shelves" (V.ref l) []))))) es (List.replicate es.length []):=by
   intro es
   induction es with
   |nil=>intro _;exact .nil
   |cons d es ih=>
    intro hm
    refine .cons ⟨[],?_,.nil,List.nodup_nil⟩ (ih fun e he=>hm e (List.mem_cons_of_mem _ he))
    have:=(hds d (hm d List.mem_cons_self)).1
    rw[Aj (AW this p1 (by intro z;cases z))];exact this
  have:=all ds fun _ h=>h
  rw[lds] at this
  exact this
 ·rw[Aj hb];exact s1.get e
abbrev Tg:=Int×Int×Int
structure En where
 nm:Str
 kd:Int
 tg:Tg
inductive Bk where
 |piece (z:Str)
 |row (lv:Int) (ts:List Tg)
 |folder (es:List En)
def Fd (t:Tg):Tr:=.tup [.int t.1,.int t.2.1,.int t.2.2]
def KW (e:En):Tr:=.tup [.str e.nm,.int e.kd,Fd e.tg]
def Dk:Bk→Tr
 | .piece z=>.tup [.int 0,.str z]
 | .row lv ts=>.tup [.int 1,.int lv,.tup (ts.map Fd)]
 | .folder es=>.tup [.int 2,.tup (es.map KW)]
def Oa (t:Tg):Prop:=(1≤t.1∧t.1≤999999)∧(0≤t.2.1∧t.2.1≤999999999)∧0≤t.2.2∧t.2.2≤996
def Rt (e:En):Prop:=Mu (.str e.nm)=true∧(1≤e.kd∧e.kd≤2)∧Oa e.tg
def R9 (lv:Int)(ts:List Tg):Prop:=ts.length≤8∧(1<lv→ts≠[])∧∀t∈ts,Oa t
def WU (es:List En):Prop:=es.length≤16∧(∀e∈es,Rt e)∧PyProof.Rows.sortedS (es.map (·.nm))=true∧(es.map (·.nm)).Nodup
def FJ:Bk→Prop
 | .piece z=>Ho 1 8 (.str z)=true
 | .row lv ts=>(1≤lv∧lv≤9)∧R9 lv ts
 | .folder es=>WU es
theorem Gn {H:Hp}{t:Tg}{v:V}(h:Rep NL H (Fd t) v):∃a,v=.ref a∧H a=some (.tup [.int t.1,.int t.2.1,.int t.2.2]):=by
 obtain⟨a,vs,rfl,e,x1,u1,rfl,rfl,x2,u2,rfl,rfl,x3,u3,rfl,rfl,rfl⟩:=h
 exact⟨a,rfl,e⟩
theorem IC {H:Hp}{t:Tg}{a:Addr}(e:H a=some (.tup [.int t.1,.int t.2.1,.int t.2.2])):Rep NL H (Fd t) (.ref a):=⟨a,_,rfl,e,_,_,rfl,rfl,_,_,rfl,rfl,_,_,rfl,rfl,rfl⟩
theorem ET {H:Hp}{x:En}{v:V}(h:Rep NL H (KW x) v):∃a b,v=.ref a∧H a=some (.tup [.str x.nm,.int x.kd,.ref b])∧H b=some (.tup [.int x.tg.1,.int x.tg.2.1,.int x.tg.2.2]):=by
 obtain⟨a,vs,rfl,e,x1,u1,rfl,rfl,x2,u2,rfl,rfl,x3,u3,rfl,r3,rfl⟩:=h
 obtain⟨b,rfl,e2⟩:=Gn r3
 exact⟨a,b,rfl,e,e2⟩
theorem FX {H:Hp}{z:Str}{v:V}(h:Rep NL H (Dk (.piece z)) v):∃a,v=.ref a∧H a=some (.tup [.int 0,.str z]):=by
 obtain⟨a,vs,rfl,e,x1,u1,rfl,rfl,x2,u2,rfl,rfl,rfl⟩:=h
 exact⟨a,rfl,e⟩
theorem IP {H:Hp}{lv:Int}{ts:List Tg}{v:V}(h:Rep NL H (Dk (.row lv ts)) v):∃a b vs,v=.ref a∧H a=some (.tup [.int 1,.int lv,.ref b])∧H b=some (.tup vs)∧AB NL H (ts.map Fd) vs:=by
 obtain⟨a,vs,rfl,e,x1,u1,rfl,rfl,x2,u2,rfl,rfl,x3,u3,rfl,⟨b,us,rfl,e2,r⟩,rfl⟩:=h
 exact⟨a,b,us,rfl,e,e2,r⟩
theorem DE {H:Hp}{es:List En}{v:V}(h:Rep NL H (Dk (.folder es)) v):∃a b vs,v=.ref a∧H a=some (.tup [.int 2,.ref b])∧H b=some (.tup vs)∧AB NL H (es.map KW) vs:=by
 obtain⟨a,vs,rfl,e,x1,u1,rfl,rfl,x2,u2,rfl,⟨b,us,rfl,e2,r⟩,rfl⟩:=h
 exact⟨a,b,us,rfl,e,e2,r⟩
theorem Dx {α:Type}{g:α→Tr}{H:Hp}{xs:List α}{vs:List V}(h:AB NL H (xs.map g) vs){v:V}(hv:v∈vs):∃x∈xs,Rep NL H (g x) v:=by
 obtain⟨i,hi,e⟩:=List.getElem_of_mem hv
 obtain⟨t,ht,r⟩:=AB.get h (show vs[i]?=some v by rw[List.getElem?_eq_getElem hi,e])
 rw[List.getElem?_map] at ht
 cases z:xs[i]? with
 |none=>rw[z] at ht;cases ht
 |some x=>
  rw[z] at ht
  cases ht
  exact⟨x,List.mem_of_getElem? z,r⟩
theorem ID {t:Tg}(h:Oa t)(n:Nat):DS (n+2) (Fd t)=true:=by
 obtain⟨⟨a1,a2⟩,⟨b1,b2⟩,c1,c2⟩:=h
 simp only[Fd,DS,List.all_cons,List.all_nil,List.length_cons,List.length_nil,Bool.and_true,Bool.and_eq_true,decide_eq_true_eq]
 omega
theorem Fc {z:Str}(h:Mu (.str z)=true):1≤z.length∧z.length≤8∧BB SG z=true∧∀c∈A6 z,c∈A6 SG:=by
 have h':(decide ((1:Int)≤z.length)&&decide ((z.length:Int)≤8)&&BB LN z)=true:=h
 simp only[Bool.and_eq_true,decide_eq_true_eq] at h'
 have a:BB SG z=true:=by
  have:=h'.2
  rw[←Mb,Bool.and_eq_true] at this
  exact this.1
 refine⟨by omega,by omega,a,fun c hc=>?_⟩
 have:=List.all_eq_true.mp a c hc
 simpa using this
theorem K4 {x:En}(h:Rt x)(n:Nat):DS (n+3) (KW x)=true:=by
 obtain⟨a,b,c⟩:=h
 obtain⟨n1,n2,n3,_⟩:=Fc a
 have d:=ID c n
 simp only[KW,DS,List.all_cons,List.all_nil,List.length_cons,List.length_nil,Bool.and_true,Bool.and_eq_true,decide_eq_true_eq,n3,d,and_true]
 omega
theorem IB {b:Bk}(h:FJ b):DS 8 (Dk b)=true:=by
 cases b with
 |piece z=>
  have h':(decide ((1:Int)≤(z.length:Int))&&decide ((z.length:Int)≤8)&&BB SG z)=true:=h
  simp only[Bool.and_eq_true,decide_eq_true_eq] at h'
  simp only[Dk,DS,List.all_cons,List.all_nil,List.length_cons,List.length_nil,Bool.and_true,Bool.and_eq_true,decide_eq_true_eq,h'.2,and_true]
  omega
 |row lv ts=>
  obtain⟨l,n,_,o⟩:=h
  have d:(ts.map Fd).all (DS 6)=true:=List.all_eq_true.mpr fun t ht=>by
   obtain⟨x,hx,rfl⟩:=List.mem_map.mp ht
   exact ID (o x hx) 4
  simp only[Dk,DS,List.all_cons,List.all_nil,List.length_cons,List.length_nil,List.length_map,Bool.and_true,Bool.and_eq_true,decide_eq_true_eq,d,and_true]
  omega
 |folder es=>
  obtain⟨n,o,_⟩:=h
  have d:(es.map KW).all (DS 6)=true:=List.all_eq_true.mpr fun t ht=>by
   obtain⟨x,hx,rfl⟩:=List.mem_map.mp ht
   exact K4 (o x hx) 3
  simp only[Dk,DS,List.all_cons,List.all_nil,List.length_cons,List.length_nil,List.length_map,Bool.and_true,Bool.and_eq_true,decide_eq_true_eq,d,and_true]
  omega
theorem Ln {H:Hp}{t:Tr}{v:V}{n:Nat}(h:Rep NL H t v)(i:DS n t=true):Ok H v:=(HM h).ok (Pd _ _ i)
theorem Vj {a b:List Nat}(h1:¬b<a)(h2:¬a<b):a=b:=List.le_antisymm h1 h2
theorem IA:∀{p:Str} {l:List Str},PyProof.Rows.risingS p l=true→∀x∈l,¬x.cps.toList<p.cps.toList
 |p,y::r,h,x,hx=>by
  have h':=h
  rw[PyProof.Rows.risingS,Bool.and_eq_true,PyProof.Rows.ltCps_eq] at h'
  have h1:¬y.cps.toList<p.cps.toList:=by simpa using h'.1
  rcases List.mem_cons.mp hx with rfl|hx
  ·exact h1
  ·exact List.le_trans h1 (IA h'.2 x hx)
theorem J2 {x:Str}{l:List Str}(h:PyProof.Rows.sortedS (x::l)=true):PyProof.Rows.sortedS l=true:=by
 cases l with
 |nil=>rfl
 |cons y r=>
  have h':=h
  rw[PyProof.Rows.sortedS,PyProof.Rows.risingS,Bool.and_eq_true] at h'
  exact h'.2
theorem Lu:∀{a b:List Str},a.Perm b→PyProof.Rows.sortedS a=true→PyProof.Rows.sortedS b=true→a=b
 |[],b,p,_,_=>(List.nil_perm.mp p).symm
 |x::a,[],p,_,_=>absurd p.length_eq (by simp)
 |x::a,y::b,p,ha,hb=>by
  have e:x=y:=by
   have m1:x∈y::b:=p.mem_iff.mp List.mem_cons_self
   have m2:y∈x::a:=p.mem_iff.mpr List.mem_cons_self
   rcases List.mem_cons.mp m1 with e|m1
   ·exact e
   rcases List.mem_cons.mp m2 with e|m2
   ·exact e.symm
   have l1:=IA (p:=x) (l:=a) ha y m2
   have l2:=IA (p:=y) (l:=b) hb x m1
   have:=Vj l1 l2
   cases x;cases y
   simp only[PySem.Str.mk.injEq]
   exact Array.toList_inj.mp this
  subst e
  rw[Lu p.cons_inv (J2 ha) (J2 hb)]
theorem NW:∀(l ks:List Str),(ks++l).Nodup→l.foldl (fun ks k=>if k∈ks then ks else ks++[k]) ks=ks++l
 |[],ks,_=>(List.append_nil _).symm
 |k::r,ks,h=>by
  have nk:k∉ks:=fun z=>by
   have:=(List.nodup_append.mp h).2.2 k z k List.mem_cons_self
   exact this rfl
  have e:(if k∈ks then ks else ks++[k])=ks++[k]:=if_neg nk
  rw[List.foldl_cons,e,NW r (ks++[k]) (by rw[List.append_assoc];exact h),List.append_assoc]
  rfl
theorem UV {a:List Str}(h:a.Nodup):EW a=a:=NW a [] h
theorem Oo:∀{es:List En} {us:List V} {H:Hp},AB NL H (es.map KW) us→(us.map fun v=>match v with | .ref x=>(match H x with|some (.tup (y::_))=>y|_=>.non)|_=>.non)=(es.map (·.nm)).map V.str
 |[],us,H,r=>by rw[show us=[] from r];rfl
 |e::es,us,H,r=>by
  obtain⟨v,us',rfl,r1,r2⟩:=r
  obtain⟨a,b,rfl,e1,_⟩:=ET r1
  rw[List.map_cons,List.map_cons,List.map_cons,Oo r2]
  simp only[e1]
theorem S6 {H:Hp}{l:Addr}{us:List V}(h:H l=some (.lst (us.map fun _=>V.bl true))):H l=some (.lst ((us.map fun _=>true).map V.bl)):=by rw[h,List.map_map];rfl
theorem Me (us:List V):(us.map fun _=>true).all id=true:=by simp
theorem Vq {Q:VK}{H:Hp}{us:List V}(q:Q (.bl true) H):Q (.bl ((us.map fun _=>true).all id)) H:=by rw[Me];exact q
theorem MD {J:It} {xs:List V} {te:TE} {Q:VK} {σ:St} {H:Hp} (f:V→V) (hJ:N0 J H xs) (hn:xs.length≤1000000) (htg:∀x∈xs,∃a x1 x2 x3,x=.ref a∧H a=some (.tup [x1,x2,x3]))
  (helt:∀a x1 x2 x3 (H':Hp) (R:VK),V.ref a∈xs→H a=some (.tup [x1,x2,x3])→Aq H H'→(∀H'',Aq H' H''→R (f (.ref a)) H'')→te [some x1,some x2,some x3] H' R)
  (hQ:∀l H',H l=none→Aq H H'→H' l=some (.lst (xs.map f))→Q (.ref l) H') :
  Gi [none,none,none] (RL K 3 (Hs (Cv 0) (Hs (Cv 1) (Hs (Cv 2) Sn)))) NN te σ Q J H:=by
 intro l hl
 refine⟨fun i m σ' H'=>m=xs.length-i∧i≤xs.length∧(∃y0 y1 y2,σ'=[y0,y1,y2])∧Aq H H'∧H' l=some (.lst ((xs.take i).map f)),⟨xs.length,by simp,Nat.zero_le _,⟨_,_,_,rfl⟩,Am hl _,by rw[Ag,List.take_zero,List.map_nil]⟩,?_⟩
 rintro i m σ' H' ⟨rfl,hi,⟨y0,y1,y2,rfl⟩,hs,hl'⟩
 obtain⟨h1,h2,h3⟩:=hJ H' hs i
 by_cases hlt:i<xs.length
 ·refine .inr ⟨h1 hlt,fun x H'' y=>?_⟩
  obtain⟨rfl,hx⟩:=h2 x H'' y
  have hx:=hx hlt
  obtain⟨a,x1,x2,x3,rfl,ha⟩:=htg x (List.mem_of_getElem? hx)
  refine⟨a,_,rfl,AY.of (hs.get ha),rfl,_,_,rfl,_,_,rfl,_,_,rfl,rfl,?_⟩
  refine helt a x1 x2 x3 H'' _ (List.mem_of_getElem? hx) ha hs fun H4 s4=>?_
  refine⟨_,s4.get hl',Bd (by rw[List.length_map,List.length_take];omega),xs.length-(i+1),by omega,rfl,hlt,⟨_,_,_,rfl⟩,A0 (hs.trans s4) hl _,?_⟩
  rw[Ag,List.take_add_one,hx]
  simp
 ·have e:i=xs.length:=by omega
  subst e
  exact .inl ⟨h3 (Nat.le_refl _),hQ l H' hl hs (by rw[hl',List.take_of_length_le (Nat.le_refl _)])⟩
def HF (K:W.Frag):Sp:=fun vs H Q _=>∃v t,vs=[v]∧Rep NL H (Fd t) v∧Oa t∧Q (.bl true) H
theorem QX (T:Txt K mg Ab Ad Aa Ae XC)(F:Fun K "is_tag" "is_tag" Gf f fd)(AA:Def P w K mg base 2 "is_between" ["thing","least","most"] (Bg K))(Bh:Def P w K mg base 1 "is_tuple_of" ["thing","many"] (CG K)):FnOk P w K mg base B9 3 f fd ["thing"] (HF K):=by
 exists Rz
 ·obtain⟨v,t,rfl,_⟩:=h
  rfl
 obtain⟨v,t,rfl,hv,ok,q⟩:=h
 have okv:=Ln hv (ID ok 0)
 obtain⟨a,rfl,e⟩:=Gn hv
 obtain⟨⟨a1,a2⟩,⟨b1,b2⟩,c1,c2⟩:=ok
 refine⟨_,(!Af (!AM (!BH (!Br (!AE Bh (by trivial) rfl (!Ac (pv 0) (!Ac (!Ak) (!Ah) (by rfl)) (by rfl)) (by decide) (by rfl) (by rfl)) (by intro _;rfl))) (!Al (!An (!Fo))) (!Av)) (!Af (!AM (@PW.pt _ _ _ (!Fn (!BH (!Br (!AE AA (by trivial) rfl (!Ac (!AG AH (pv 0) (!Ak) (fun _ _=>rfl)) (!Ac (!Ak) (!Ac (!Ax rfl T.c_MOST_CELL (by decide)) (!Ah) (by rfl)) (by rfl)) (by rfl)) (by decide) (by rfl) (by rfl)) (by intro _;rfl))) (!DT (!BH (!Br (!AE AA (by trivial) rfl (!Ac (!AG AH (pv 0) (!Ak) (fun _ _=>rfl)) (!Ac (!Ak) (!Ac (!Ax rfl T.c_MOST_BIRTH (by decide)) (!Ah) (by rfl)) (by rfl)) (by rfl)) (by decide) (by rfl) (by rfl)) (by intro _;rfl)))))) (!Al (!An (!Fo))) (!Av)) (!Al (!An (!AE AA (by trivial) rfl (!Ac (!AG AH (pv 0) (!Ak) (fun _ _=>rfl)) (!Ac (!Ak) (!Ac (!Az JL (!Ax rfl T.c_SUM_RESTS (by decide)) (!Ak)) (!Ah) (by rfl)) (by rfl)) (by rfl)) (by decide) (by rfl) (by rfl)))))),?_⟩
 refine⟨_,rfl,_,3,rfl,okv,_,rfl,AK (by rw[Jb e];rfl) ?_⟩
 dsimp only[Oe,Wd,Vb]
 have w1:Jp 1 999999 (.int t.1)=true:=by show(decide (1≤t.1)&&decide (t.1≤999999))=true;simp;omega
 have w2:Jp 0 999999999 (.int t.2.1)=true:=by show(decide (0≤t.2.1)&&decide (t.2.1≤999999999))=true;simp;omega
 have w3:Jp 0 996 (.int t.2.2)=true:=by show(decide (0≤t.2.2)&&decide (t.2.2≤996))=true;simp;omega
 refine Tq (!Jp 1 999999 (.int t.1)) (!Jp 0 999999999 (.int t.2.1)) (fun R q=>⟨_,rfl,a,_,_,_,rfl,rfl,AY.of e,rfl,_,1,999999,rfl,trivial,_,rfl,q⟩) (fun _ R q=>⟨_,rfl,a,_,_,_,rfl,rfl,AY.of e,rfl,_,0,999999999,rfl,trivial,_,rfl,q⟩) ?_
 rw[w1,w2]
 refine AK rfl ?_
 refine⟨_,rfl,a,_,_,_,rfl,rfl,AY.of e,rfl,_,_,rfl,rfl,_,0,996,rfl,trivial,?_⟩
 rw[w3]
 exact q
def Eh (K:W.Frag):Sp:=fun vs H Q _=>∃v lv ts,vs=[v,.int lv]∧Rep NL H (.tup (ts.map Fd)) v∧R9 lv ts∧∀H',Aq H H'→Q (.bl true) H'
theorem J9 (T:Txt K mg Ab Ad Aa Ae XC)(F:Fun K "are_row_tags" "are_row_tags" BP f fd)(FV:Def P w K mg base 3 "is_tag" ["thing"] (HF K)):FnOk P w K mg base B9 4 f fd ["thing","level"] (Eh K):=by
 exists Kk
 ·obtain⟨v,lv,ts,rfl,_⟩:=h
  rfl
 obtain⟨v,lv,ts,rfl,hv,ok,q⟩:=h
 have okv:Ok H v:=Ln (n:=3) hv (by
  show(decide ((ts.map Fd).length≤100)&&(ts.map Fd).all (DS 2))=true
  rw[Bool.and_eq_true,decide_eq_true_eq,List.length_map]
  refine⟨by have:=ok.1;omega,List.all_eq_true.mpr fun t ht=>?_⟩
  obtain⟨x,hx,rfl⟩:=List.mem_map.mp ht
  exact ID (ok.2.2 x hx) 0)
 have ety:=(HM hv).tyN
 obtain⟨a,us,rfl,e,r⟩:=hv
 have lu:=AB.len _ _ r
 rw[List.length_map] at lu
 obtain⟨o1,o2,o3⟩:=ok
 have alls:∀(te:TE) (l0:Nat),True:=fun _ _=>trivial
 clear alls
 refine⟨_,(!Af (!AM (@PW.pt _ _ _ (!Fn (!BH (!Br (!Ar Bs (by rfl) T.b_isinstance A2 (!Ac (pv 0) (!Ac (!Hw rfl T.b_tuple Fb (by decide) (by decide)) (!Ah) (by rfl)) (by rfl)) (by decide) (by decide) (by rfl) (by rfl)) (by intro _;rfl))) (!DT (!AF MC (!Ar AI (by rfl) T.b_len Bp (!Ac (pv 0) (!Ah) (by rfl)) (by decide) (by decide) (by rfl) (by rfl)) (!Ax rfl T.c_MOST_TAGS (by decide)) (AC _))))) (!Al (!An (!Fo))) (!Av)) (!Af (!AM (@PW.pt _ _ _ (!TK (!AF Bu (!Ar AI (by rfl) T.b_len Bp (!Ac (pv 0) (!Ah) (by rfl)) (by decide) (by decide) (by rfl) (by rfl)) (!Ak) (AC _)) (!QJ (!AF MC (pv 1) (!Ak) (AC _))))) (!Al (!An (!Fo))) (!Av)) (!Al (!An (!Ar (E8 rfl) (by rfl) T.b_all Il (!Ac (@BE _ ["tag"] _ _ _ _ _ _ _ _ _ _ rfl (!Ea (pv 0)) (by decide +kernel) (fun C s H fp=>⟨(@As _ _ (0) _ (show(["tag"]:List Str).Nodup by decide +kernel) rfl (by trivial) (by trivial)),(!AV),(!AE FV (by trivial) rfl (!Ac (pv 0) (!Ah) (by rfl)) (by decide) (by rfl) (by rfl))⟩) (by intro _;rfl)) (!Ah) (by rfl)) (by decide) (by decide) (by rfl) (by rfl)))))),?_⟩
 refine⟨_,rfl,_,_,_,_,rfl,okv.ty K,okv.kit K,_,rfl,AK (by rw[ety];show(!isA "tuple" "tuple")=false;decide) ?_⟩
 refine⟨_,rfl,a,_,rfl,.inr (AY.of e),_,_,rfl,rfl,_,rfl,AK (decide_eq_false (by omega)) ?_⟩
 refine⟨_,rfl,a,_,rfl,.inr (AY.of e),rfl,_,rfl,D5 (fun c=>?_) (fun c=>?_)⟩
 ·have c':V.int (us.length:Int)=V.int 0:=dec_true c
  have z:us.length=0:=by injection c' with c';omega
  have lz:¬1<lv:=fun y=>o2 y (List.length_eq_zero_iff.mp (by omega))
  refine⟨_,rfl,_,_,rfl,rfl,_,rfl,AK (decide_eq_false lz) ?_⟩
  refine⟨_,rfl,a,rfl,⟨_,AY.of e⟩,comp_map (fun _=>V.bl true) (Du e) (by omega) (fun x H' R hx s' hR=>?_) fun l H7 n7 s7 h7=>?_⟩
  ·obtain⟨t,ht,rt⟩:=Dx r hx
   exact⟨_,rfl,x,t,rfl,Rep.same s' _ _ rt,o3 t ht,hR H' (Aq.refl _)⟩
  ·exact⟨l,us.map fun _=>true,rfl,AU.of (S6 h7),Vq (q H7 s7)⟩
 ·refine AK rfl ?_
  refine⟨_,rfl,a,rfl,⟨_,AY.of e⟩,comp_map (fun _=>V.bl true) (Du e) (by omega) (fun x H' R hx s' hR=>?_) fun l H7 n7 s7 h7=>?_⟩
  ·obtain⟨t,ht,rt⟩:=Dx r hx
   exact⟨_,rfl,x,t,rfl,Rep.same s' _ _ rt,o3 t ht,hR H' (Aq.refl _)⟩
  ·exact⟨l,us.map fun _=>true,rfl,AU.of (S6 h7),Vq (q H7 s7)⟩
def HE (K:W.Frag):Sp:=fun vs H Q _=>∃v x,vs=[v]∧Rep NL H (KW x) v∧Rt x∧∀H',Aq H H'→Q (.bl true) H'
theorem NZ (T:Txt K mg Ab Ad Aa Ae XC)(F:Fun K "is_entry" "is_entry" DK f fd)(AA:Def P w K mg base 2 "is_between" ["thing","least","most"] (Bg K))(FV:Def P w K mg base 3 "is_tag" ["thing"] (HF K))(Bh:Def P w K mg base 1 "is_tuple_of" ["thing","many"] (CG K))(Jr:Def P w K mg base 2 "is_name" ["thing"] (HY K)):FnOk P w K mg base B9 4 f fd ["thing"] (HE K):=by
 exists OD
 ·obtain⟨v,x,rfl,_⟩:=h
  rfl
 obtain⟨v,x,rfl,hv,ok,q⟩:=h
 have okv:=Ln hv (K4 ok 0)
 obtain⟨a,b,rfl,e,e2⟩:=ET hv
 obtain⟨o1,⟨k1,k2⟩,o3⟩:=ok
 have nl:=(Fc o1).2.1
 have w2:Jp 1 2 (.int x.kd)=true:=by show(decide (1≤x.kd)&&decide (x.kd≤2))=true;simp;omega
 refine⟨_,(!Af (!AM (@PW.pt _ _ _ (!Fn (!BH (!Br (!AE Bh (by trivial) rfl (!Ac (pv 0) (!Ac (!Ak) (!Ah) (by rfl)) (by rfl)) (by decide) (by rfl) (by rfl)) (by intro _;rfl))) (!DT (!BH (!Br (!AE Jr (by trivial) rfl (!Ac (!AG AH (pv 0) (!Ak) (fun _ _=>rfl)) (!Ah) (by rfl)) (by decide) (by rfl) (by rfl)) (by intro _;rfl)))))) (!Al (!An (!Fo))) (!Av)) (!Al (!An (!EN (!AE AA (by trivial) rfl (!Ac (!AG AH (pv 0) (!Ak) (fun _ _=>rfl)) (!Ac (!Ax rfl T.c_FILE_ENTRY (by decide)) (!Ac (!Ax rfl T.c_FOLDER_ENTRY (by decide)) (!Ah) (by rfl)) (by rfl)) (by rfl)) (by decide) (by rfl) (by rfl)) (!Fs (!AE FV (by trivial) rfl (!Ac (!AG AH (pv 0) (!Ak) (fun _ _=>rfl)) (!Ah) (by rfl)) (by decide) (by rfl) (by rfl))))))),?_⟩
 refine⟨_,rfl,_,3,rfl,okv,_,rfl,AK (by rw[Jb e];rfl) ?_⟩
 refine⟨_,rfl,a,_,_,_,rfl,rfl,AY.of e,rfl,_,rfl,(show x.nm.length≤1000 by omega),fun H1 s1=>⟨_,rfl,AK (by rw[o1];rfl) ?_⟩⟩
 dsimp only[Oe,Wo]
 refine KI true true (fun R q=>⟨_,rfl,a,_,_,_,rfl,rfl,AY.of (s1.get e),rfl,_,1,2,rfl,trivial,by rw[w2];exact q⟩) (fun _ R q=>?_) (q H1 s1)
 exact⟨_,rfl,a,_,_,_,rfl,rfl,AY.of (s1.get e),rfl,_,x.tg,rfl,IC (s1.get e2),o3,q⟩
def Vw (es:List En):Prop:=es.length≤16∧∀e∈es,Rt e
def Ng (es:List En):Bool:=decide (PyProof.Rows.sortedS (es.map (·.nm))=true∧(es.map (·.nm)).Nodup)
def PQ:Bk→Prop
 | .piece z=>Ho 1 8 (.str z)=true
 | .row lv ts=>(1≤lv∧lv≤9)∧R9 lv ts
 | .folder es=>Vw es
def XH:Bk→Bool
 | .folder es=>Ng es
 |_=>true
theorem Uh {b:Bk}(h:FJ b):PQ b∧XH b=true:=by
 cases b with
 |piece z=>exact⟨h,rfl⟩
 |row lv ts=>exact⟨h,rfl⟩
 |folder es=>exact⟨⟨h.1,h.2.1⟩,decide_eq_true ⟨h.2.2.1,h.2.2.2⟩⟩
theorem SV {b:Bk}(h:PQ b):DS 8 (Dk b)=true:=by
 cases b with
 |piece z=>exact IB (b:=.piece z) h
 |row lv ts=>exact IB (b:=.row lv ts) h
 |folder es=>
  obtain⟨n,o⟩:=h
  have d:(es.map KW).all (DS 6)=true:=List.all_eq_true.mpr fun t ht=>by
   obtain⟨x,hx,rfl⟩:=List.mem_map.mp ht
   exact K4 (o x hx) 3
  simp only[Dk,DS,List.all_cons,List.all_nil,List.length_cons,List.length_nil,List.length_map,Bool.and_true,Bool.and_eq_true,decide_eq_true_eq,d,and_true]
  omega
theorem N1:∀{a b:List Str},a.map V.str=b.map V.str→a=b
 |[],[],_=>rfl
 |[],_::_,h=>nomatch h
 |_::_,[],h=>nomatch h
 |x::a,y::b,h=>by
  rw[List.map_cons,List.map_cons] at h
  injection h with h1 h2
  injection h1 with h1
  rw[h1,N1 h2]
theorem P3 (a:List Str):(EW a).Nodup:=by
 have z:∀(l ks:List Str),ks.Nodup→(l.foldl (fun ks k=>if k∈ks then ks else ks++[k]) ks).Nodup:=fun l=>by
  induction l with
  |nil=>intro ks h;exact h
  |cons k r ih=>
   intro ks h
   refine ih _ ?_
   dsimp only
   split
   ·exact h
   ·rename_i nk
    refine List.nodup_append.mpr ⟨h,by simp,fun a ha b hb=>?_⟩
    rw[List.mem_singleton] at hb
    subst hb
    intro e
    subst e
    exact nk ha
 exact z a [] List.nodup_nil
def E7 (K:W.Frag):Sp:=fun vs H Q _=>∃v es,vs=[v]∧Rep NL H (.tup (es.map KW)) v∧Vw es∧∀H',Aq H H'→Q (.bl (Ng es)) H'
theorem Lk (T:Txt K mg Ab Ad Aa Ae XC)(F:Fun K "are_entries" "are_entries" Cf f fd)(Ii:Def P w K mg base 4 "is_entry" ["thing"] (HE K)):FnOk P w K mg base B9 5 f fd ["thing"] (E7 K):=by
 exists Hj
 ·obtain⟨v,es,rfl,_⟩:=h
  rfl
 obtain⟨v,es,rfl,hv,ok,q⟩:=h
 have okv:Ok H v:=Ln (n:=4) hv (by
  show(decide ((es.map KW).length≤100)&&(es.map KW).all (DS 3))=true
  rw[Bool.and_eq_true,decide_eq_true_eq,List.length_map]
  refine⟨by have:=ok.1;omega,List.all_eq_true.mpr fun t ht=>?_⟩
  obtain⟨x,hx,rfl⟩:=List.mem_map.mp ht
  exact K4 (ok.2 x hx) 0)
 have ety:=(HM hv).tyN
 obtain⟨a,us,rfl,e,r⟩:=hv
 have lu:=AB.len _ _ r
 rw[List.length_map] at lu
 obtain⟨o1,o2⟩:=ok
 have hu:=CC hr
 refine⟨_,(!Af (!AM (@PW.pt _ _ _ (!Fn (!BH (!Br (!Ar Bs (by rfl) T.b_isinstance A2 (!Ac (pv 0) (!Ac (!Hw rfl T.b_tuple Fb (by decide) (by decide)) (!Ah) (by rfl)) (by rfl)) (by decide) (by decide) (by rfl) (by rfl)) (by intro _;rfl))) (!DT (!AF MC (!Ar AI (by rfl) T.b_len Bp (!Ac (pv 0) (!Ah) (by rfl)) (by decide) (by decide) (by rfl) (by rfl)) (!Ax rfl T.c_MOST_ENTRIES (by decide)) (AC _))))) (!Al (!An (!Fo))) (!Av)) (!Af (!AM (!BH (!Br (!Ar (E8 rfl) (by rfl) T.b_all Il (!Ac (@BE _ ["entry"] _ _ _ _ _ _ _ _ _ _ rfl (!Ea (pv 0)) (by decide +kernel) (fun C s H fp=>⟨(@As _ _ (0) _ (show(["entry"]:List Str).Nodup by decide +kernel) rfl (by trivial) (by trivial)),(!AV),(!AE Ii (by trivial) rfl (!Ac (pv 0) (!Ah) (by rfl)) (by decide) (by rfl) (by rfl))⟩) (by intro _;rfl)) (!Ah) (by rfl)) (by decide) (by decide) (by rfl) (by rfl)) (by intro _;rfl))) (!Al (!An (!Fo))) (!Av)) (!Af (@R6 _ ["name","kind","tag"] (1) _ _ _ _ _ _ _ _ _ _ _ _ _ Hj.nd rfl (by trivial) rfl (!Ea (pv 0)) (by decide +kernel) (fun C s H fp=>⟨(@HI _ (K) _ _ _ _ (3) (by rfl) rfl (!AS (@As _ _ (0) _ (show(["name","kind","tag"]:List Str).Nodup by decide +kernel) rfl (by trivial) (by trivial)) (!AS (@As _ _ (1) _ (show(["name","kind","tag"]:List Str).Nodup by decide +kernel) rfl (by trivial) (by trivial)) (!AS (@As _ _ (2) _ (show(["name","kind","tag"]:List Str).Nodup by decide +kernel) rfl (by trivial) (by trivial)) (!Er) (by rfl)) (by rfl)) (by rfl)) (by rfl) (by rfl)),(!AV),(pv 0)⟩) (by intro _;rfl) (by rfl) (by trivial)) (!Al (!An (!Cw (V2 hu) (pv 1) (!Ar (PM (P:=P) (w:=w) (by rfl) (by rfl) rfl) (by rfl) T.b_sorted HK (!Ac (!EF (Rl (P:=P) (w:=w) (K:=K) (by rfl) (by rfl) (by rfl) rfl) (by rfl) T.b_set VV (!Ac (pv 1) (!Ah) (by rfl)) (by decide) (by decide) (by rfl) (by rfl)) (!Ah) (by rfl)) (by decide) (by decide) (by rfl) (by rfl)) (AC _))))))),?_⟩
 refine⟨_,rfl,_,_,_,_,rfl,okv.ty K,okv.kit K,_,rfl,AK (by rw[ety];show(!isA "tuple" "tuple")=false;decide) ?_⟩
 refine⟨_,rfl,a,_,rfl,.inr (AY.of e),_,_,rfl,rfl,_,rfl,AK (decide_eq_false (by omega)) ?_⟩
 refine⟨_,rfl,a,rfl,⟨_,AY.of e⟩,comp_map (fun _=>V.bl true) (Du e) (by omega) (fun x H' R hx s' hR=>?_) fun l H7 n7 s7 h7=>?_⟩
 ·obtain⟨t,ht,rt⟩:=Dx r hx
  exact⟨_,rfl,x,t,rfl,Rep.same s' _ _ rt,o2 t ht,fun H'' s''=>hR H'' s''⟩
 refine⟨l,us.map fun _=>true,rfl,AU.of (S6 h7),_,rfl,AK (by rw[Me];rfl) ?_⟩
 have e7:=s7.get e
 have r7:=AB.same s7 _ _ r
 refine⟨_,rfl,a,rfl,⟨_,AY.of e7⟩,MD (fun v=>match v with | .ref x=>(match H7 x with|some (.tup (y::_))=>y|_=>.non)|_=>.non) (Du e7) (by omega) (fun x hx=>?_) (fun x x1 x2 x3 H' R hx hx2 s' hR=>?_) fun l2 H8 n8 s8 h8=>?_⟩
 ·obtain⟨t,ht,rt⟩:=Dx r7 hx
  obtain⟨c,d,rfl,ec,_⟩:=ET rt
  exact⟨c,_,_,_,rfl,ec⟩
 ·refine⟨_,rfl,?_⟩
  have:=hR H' (Aq.refl _)
  simp only[hx2] at this
  exact this
 have nm:(us.map fun v=>match v with | .ref x=>(match H7 x with|some (.tup (y::_))=>y|_=>.non)|_=>.non)=(es.map (·.nm)).map V.str:=Oo r7
 rw[nm] at h8
 have ln:(es.map (·.nm)).length≤16:=by rw[List.length_map];exact o1
 refine⟨_,rfl,_,rfl,l2,_,rfl,AU.of h8,by omega,fun p hp=>?_⟩
 have sp:=Am hp (Tu P w p (EW (es.map (·.nm))))
 have lo:=NP (es.map (·.nm))
 refine⟨p,_,rfl,Ag,by omega,fun ts p2 pt st hp2=>?_⟩
 have s2:=Am hp2 (.lst (ts.map V.str))
 refine⟨l2,p2,_,_,rfl,rfl,AU.of (s2.get (sp.get h8)),AU.of Ag,IX _,IX _,?_⟩
 rw[if_neg Bool.false_ne_true]
 have eq:decide ((es.map (·.nm)).map V.str=ts.map V.str)=Ng es:=by
  unfold Ng
  rw[Bool.eq_iff_iff,decide_eq_true_eq,decide_eq_true_eq]
  constructor
  ·intro e
   have e':es.map (·.nm)=ts:=N1 e
   rw[e']
   exact⟨st,pt.nodup_iff.mpr (P3 _)⟩
  ·rintro⟨h1,h2⟩
   rw[UV h2] at pt
   rw[Lu pt st h1]
 have:=q _ (((s7.trans s8).trans sp).trans s2)
 rw[←eq] at this
 exact this
def Hm (K:W.Frag):Sp:=fun vs H Q _=>∃v b,vs=[v]∧Rep NL H (Dk b) v∧PQ b∧∀H',Aq H H'→Q (.bl (XH b)) H'
theorem OY (T:Txt K mg Ab Ad Aa Ae XC)(F:Fun K "is_block" "is_block" DP f fd)(FT:Def P w K mg base 5 "are_entries" ["thing"] (E7 K))(A8:Def P w K mg base 1 "is_whole" ["thing"] (CF K))(EG:Def P w K mg base 1 "is_text" ["thing","least","most"] (GL K))(AA:Def P w K mg base 2 "is_between" ["thing","least","most"] (Bg K))(EI:Def P w K mg base 4 "are_row_tags" ["thing","level"] (Eh K)):FnOk P w K mg base B9 6 f fd ["thing"] (Hm K):=by
 exists N3
 ·obtain⟨v,b,rfl,_⟩:=h
  rfl
 obtain⟨v,b,rfl,hv,ok,q⟩:=h
 have okv:Ok H v:=Ln hv (SV ok)
 have ety:=(HM hv).tyN
 have tyt:HN H v="tuple":=by rw[ety];cases b<;>rfl
 refine⟨_,(!Af (!AM (@PW.pt _ _ _ (!Fn (!BH (!Br (!Ar Bs (by rfl) T.b_isinstance A2 (!Ac (pv 0) (!Ac (!Hw rfl T.b_tuple Fb (by decide) (by decide)) (!Ah) (by rfl)) (by rfl)) (by decide) (by decide) (by rfl) (by rfl)) (by intro _;rfl))) (!Fn (!AF Bu (!Ar AI (by rfl) T.b_len Bp (!Ac (pv 0) (!Ah) (by rfl)) (by decide) (by decide) (by rfl) (by rfl)) (!Ak) (AC _)) (!DT (!BH (!Br (!AE A8 (by trivial) rfl (!Ac (!AG AH (pv 0) (!Ak) (fun _ _=>rfl)) (!Ah) (by rfl)) (by decide) (by rfl) (by rfl)) (by intro _;rfl))))))) (!Al (!An (!Fo))) (!Av)) (!Af (!AM (!AF Bu (!AG AH (pv 0) (!Ak) (fun _ _=>rfl)) (!Ax rfl T.c_PIECE (by decide)) (AC _)) (!Al (!An (!EN (!Cw Bu (!Ar AI (by rfl) T.b_len Bp (!Ac (pv 0) (!Ah) (by rfl)) (by decide) (by decide) (by rfl) (by rfl)) (!Ak) (AC _)) (!Fs (!AE EG (by trivial) rfl (!Ac (!AG AH (pv 0) (!Ak) (fun _ _=>rfl)) (!Ac (!Ak) (!Ac (!Ax rfl T.c_MOST_PIECE_SIGNS (by decide)) (!Ah) (by rfl)) (by rfl)) (by rfl)) (by decide) (by rfl) (by rfl)))))) (!Av)) (!Af (!AM (!AF Bu (!AG AH (pv 0) (!Ak) (fun _ _=>rfl)) (!Ax rfl T.c_ROW (by decide)) (AC _)) (!Al (!An (!EN (!Cw Bu (!Ar AI (by rfl) T.b_len Bp (!Ac (pv 0) (!Ah) (by rfl)) (by decide) (by decide) (by rfl) (by rfl)) (!Ak) (AC _)) (!EN (!AE AA (by trivial) rfl (!Ac (!AG AH (pv 0) (!Ak) (fun _ _=>rfl)) (!Ac (!Ak) (!Ac (!Ax rfl T.c_MOST_LEVEL (by decide)) (!Ah) (by rfl)) (by rfl)) (by rfl)) (by decide) (by rfl) (by rfl)) (!Fs (!AE EI (by trivial) rfl (!Ac (!AG AH (pv 0) (!Ak) (fun _ _=>rfl)) (!Ac (!AG AH (pv 0) (!Ak) (fun _ _=>rfl)) (!Ah) (by rfl)) (by rfl)) (by decide) (by rfl) (by rfl))))))) (!Av)) (!Al (!An (!EN (!Cw Bu (!AG AH (pv 0) (!Ak) (fun _ _=>rfl)) (!Ax rfl T.c_FOLDER (by decide)) (AC _)) (!EN (!Cw Bu (!Ar AI (by rfl) T.b_len Bp (!Ac (pv 0) (!Ah) (by rfl)) (by decide) (by decide) (by rfl) (by rfl)) (!Ak) (AC _)) (!Fs (!AE FT (by trivial) rfl (!Ac (!AG AH (pv 0) (!Ak) (fun _ _=>rfl)) (!Ah) (by rfl)) (by decide) (by rfl) (by rfl)))))))))),?_⟩
 refine⟨_,rfl,_,_,_,_,rfl,okv.ty K,okv.kit K,_,rfl,AK (by rw[tyt];decide) ?_⟩
 cases b with
 |piece z=>
  obtain⟨a,rfl,e⟩:=FX hv
  refine⟨_,rfl,a,_,rfl,.inr (AY.of e),rfl,_,rfl,AK rfl ?_⟩
  refine⟨_,rfl,a,_,_,_,rfl,rfl,AY.of e,rfl,_,rfl,trivial,_,rfl,AK rfl ?_⟩
  have ok':Ho 1 8 (.str z)=true:=ok
  have zl:z.length≤1000:=by
   have h':(decide ((1:Int)≤(z.length:Int))&&decide ((z.length:Int)≤8)&&BB SG z)=true:=ok
   simp only[Bool.and_eq_true,decide_eq_true_eq] at h'
   omega
  refine⟨_,rfl,a,_,_,_,rfl,rfl,AY.of e,rfl,rfl,_,rfl,Cz rfl ?_⟩
  refine⟨_,rfl,a,_,rfl,.inr (AY.of e),rfl,_,rfl,Cz rfl ?_⟩
  exact⟨_,rfl,a,_,_,_,rfl,rfl,AY.of e,rfl,_,1,8,rfl,zl,fun H1 s1=>by rw[ok'];exact q H1 s1⟩
 |row lv ts=>
  obtain⟨a,b,us,rfl,e,e2,r⟩:=IP hv
  obtain⟨⟨l1,l2⟩,ok2⟩:=ok
  have w2:Jp 1 9 (.int lv)=true:=by show(decide (1≤lv)&&decide (lv≤9))=true;simp;omega
  refine⟨_,rfl,a,_,rfl,.inr (AY.of e),rfl,_,rfl,AK rfl ?_⟩
  refine⟨_,rfl,a,_,_,_,rfl,rfl,AY.of e,rfl,_,rfl,trivial,_,rfl,AK rfl ?_⟩
  refine⟨_,rfl,a,_,_,_,rfl,rfl,AY.of e,rfl,rfl,_,rfl,AK rfl ?_⟩
  refine⟨_,rfl,a,_,_,_,rfl,rfl,AY.of e,rfl,rfl,_,rfl,Cz rfl ?_⟩
  refine⟨_,rfl,a,_,rfl,.inr (AY.of e),rfl,_,rfl,Cz rfl ?_⟩
  refine⟨_,rfl,a,_,_,_,rfl,rfl,AY.of e,rfl,_,1,9,rfl,trivial,_,rfl,Cz w2 ?_⟩
  exact⟨_,rfl,a,_,_,_,rfl,rfl,AY.of e,rfl,_,rfl,a,_,_,_,rfl,rfl,AY.of e,rfl,_,lv,ts,rfl,⟨b,us,rfl,e2,r⟩,ok2,q⟩
 |folder es=>
  obtain⟨a,b,us,rfl,e,e2,r⟩:=DE hv
  refine⟨_,rfl,a,_,rfl,.inr (AY.of e),rfl,_,rfl,AK rfl ?_⟩
  refine⟨_,rfl,a,_,_,_,rfl,rfl,AY.of e,rfl,_,rfl,trivial,_,rfl,AK rfl ?_⟩
  refine⟨_,rfl,a,_,_,_,rfl,rfl,AY.of e,rfl,rfl,_,rfl,AK rfl ?_⟩
  refine⟨_,rfl,a,_,_,_,rfl,rfl,AY.of e,rfl,rfl,_,rfl,AK rfl ?_⟩
  refine⟨_,rfl,a,_,_,_,rfl,rfl,AY.of e,rfl,rfl,_,rfl,Cz rfl ?_⟩
  refine⟨_,rfl,a,_,rfl,.inr (AY.of e),rfl,_,rfl,Cz rfl ?_⟩
  exact⟨_,rfl,a,_,_,_,rfl,rfl,AY.of e,rfl,_,es,rfl,⟨b,us,rfl,e2,r⟩,ok,q⟩
def D7 (x:En):List Int:=(A6 x.nm).map idx++[x.kd,x.tg.2.2]
def told:Bk→List Int
 | .piece z=>(A6 z).map idx
 | .row lv ts=>lv::ts.map (·.2.2)
 | .folder es=>es.flatMap D7
theorem idx_map (z:Str):((z.cps.toList.map fun c=>V.str ⟨#[c]⟩).map fun v=>match v with|V.str y=>V.int (PySem.Txt.find SG y)|_=>V.non)=((A6 z).map idx).map V.int:=by
 rw[List.map_map,List.map_map];rfl
theorem N9:∀{ts:List Tg} {us:List V} {H:Hp},AB NL H (ts.map Fd) us→(us.map fun v=>match v with | .ref x=>(match H x with|some (.tup [_,_,y])=>y|_=>.non)|_=>.non)=(ts.map (·.2.2)).map V.int
 |[],us,H,r=>by rw[show us=[] from r];rfl
 |e::es,us,H,r=>by
  obtain⟨v,us',rfl,r1,r2⟩:=r
  obtain⟨a,rfl,e1⟩:=Gn r1
  rw[List.map_cons,List.map_cons,List.map_cons,N9 r2]
  simp only[e1]
theorem Q8 {es:List En}{i:Nat}{x:En}(h:es[i]?=some x):(es.take (i+1)).flatMap D7=(es.take i).flatMap D7++D7 x:=by
 rw[List.take_add_one,h,List.flatMap_append]
 simp
theorem S2 {es:List En}(h:∀x∈es,(D7 x).length≤10):(es.flatMap D7).length≤10*es.length:=by
 induction es with
 |nil=>exact Nat.le_refl _
 |cons x r ih=>
  rw[List.flatMap_cons,List.length_append,List.length_cons]
  have:=h x List.mem_cons_self
  have:=ih fun y hy=>h y (List.mem_cons_of_mem _ hy)
  omega
theorem VU {x:En}(h:Rt x):(D7 x).length≤10:=by
 have:=(Fc h.1).2.1
 unfold D7
 rw[List.length_append,List.length_map,AL]
 show x.nm.length+2≤10
 omega
def D8 (K:W.Frag):Sp:=fun vs H Q _=>∃v b,vs=[v]∧Rep NL H (Dk b) v∧FJ b∧∀l H',Aq H H'→H l=none→H' l=some (.lst ((told b).map V.int))→Q (.ref l) H'
theorem Kj (T:Txt K mg Ab Ad Aa Ae XC)(F:Fun K "numbers_told" "numbers_told" BN f fd)(AN:Def P w K mg base 1 "number_of" ["sign"] (Ca K)):FnOk P w K mg base B9 2 f fd ["block"] (D8 K):=by
 exists Cd
 ·obtain⟨v,b,rfl,_⟩:=h
  rfl
 obtain⟨v,b,rfl,hv,ok,q⟩:=h
 refine⟨_,(!Af (!AM (!AF Bu (!AG AH (pv 0) (!Ak) (fun _ _=>rfl)) (!Ax rfl T.c_PIECE (by decide)) (AC _)) (!Al (!An (@BE _ ["sign"] _ _ _ _ _ _ _ _ _ _ rfl (!Jn (!AG AH (pv 0) (!Ak) (fun _ _=>rfl))) (by decide +kernel) (fun C s H fp=>⟨(@As _ _ (0) _ (show(["sign"]:List Str).Nodup by decide +kernel) rfl (by trivial) (by trivial)),(!AV),(!AE AN (by trivial) rfl (!Ac (pv 0) (!Ah) (by rfl)) (by decide) (by rfl) (by rfl))⟩) (by intro _;rfl)))) (!Av)) (!Af (!AM (!AF Bu (!AG AH (pv 0) (!Ak) (fun _ _=>rfl)) (!Ax rfl T.c_ROW (by decide)) (AC _)) (!Al (!An (!Az Nd (!Cq (!Ac (!AG AH (pv 0) (!Ak) (fun _ _=>rfl)) (!Ah) (by rfl))) (@BE _ ["tag"] _ _ _ _ _ _ _ _ _ _ rfl (!Ea (!AG AH (pv 0) (!Ak) (fun _ _=>rfl))) (by decide +kernel) (fun C s H fp=>⟨(@As _ _ (0) _ (show(["tag"]:List Str).Nodup by decide +kernel) rfl (by trivial) (by trivial)),(!AV),(!AG (KH (K:=K) (by rfl)) (pv 0) (!Ak) (fun _ _=>rfl))⟩) (by intro _;rfl))))) (!Av)) (!Af (@Ay _ _ (1) _ _ _ _ Cd.nd rfl (by trivial) (!Cq (!Ah)) (by rfl) (by trivial)) (!Af (!BY PassesOwn.never rfl (!Ea (!AG AH (pv 0) (!Ak) (fun _ _=>rfl))) (!MN rfl (!AS (@As _ _ (2) _ Cd.nd rfl (by trivial) (by trivial)) (!AS (@As _ _ (3) _ Cd.nd rfl (by trivial) (by trivial)) (!AS (@As _ _ (4) _ Cd.nd rfl (by trivial) (by trivial)) (!Er) (by rfl)) (by rfl)) (by rfl)) (by rfl) (by rfl)) (!Af (!Bm (!E9 PySem.F.plainAttrs_list PySem.F.slot_list_extend PySem.F.type_list_extend JI (pv 1) (!Ac (@BE _ ["sign"] _ _ _ _ _ _ _ _ _ _ rfl (!Jn (pv 2)) (by decide +kernel) (fun C s H fp=>⟨(@As _ _ (0) _ (show(["sign"]:List Str).Nodup by decide +kernel) rfl (by trivial) (by trivial)),(!AV),(!AE AN (by trivial) rfl (!Ac (pv 0) (!Ah) (by rfl)) (by decide) (by rfl) (by rfl))⟩) (by intro _;rfl)) (!Ah) (by rfl)) (by rfl) (by rfl) (by rfl) (by rfl) (by rfl)) (by rfl)) (!Al (!Bm (!E9 PySem.F.plainAttrs_list PySem.F.slot_list_extend PySem.F.type_list_extend JI (pv 1) (!Ac (!Cq (!Ac (pv 3) (!Ac (!AG AH (pv 4) (!Ak) (fun _ _=>rfl)) (!Ah) (by rfl)) (by rfl))) (!Ah) (by rfl)) (by rfl) (by rfl) (by rfl) (by rfl) (by rfl)) (by rfl)))) (by intro _;rfl)) (!Al (!An (pv 1))))))),?_⟩
 cases b with
 |piece z=>
  obtain⟨a,rfl,e⟩:=FX hv
  have h':(decide ((1:Int)≤(z.length:Int))&&decide ((z.length:Int)≤8)&&BB SG z)=true:=ok
  simp only[Bool.and_eq_true,decide_eq_true_eq] at h'
  have zs:∀c∈A6 z,c∈A6 SG:=fun c hc=>by simpa using List.all_eq_true.mp h'.2 c hc
  refine⟨_,rfl,a,_,_,_,rfl,rfl,AY.of e,rfl,rfl,_,rfl,Cz rfl ?_⟩
  refine⟨_,rfl,a,_,_,_,rfl,rfl,AY.of e,rfl,z,rfl,?_⟩
  refine comp_map (fun v=>match v with | .str y=>.int (PySem.Txt.find SG y)|_=>.non) Hf (by rw[List.length_map];exact Nat.le_trans (Nat.le_of_eq (AL z)) (by omega)) (fun x H' R hx s' hR=>?_) fun l H7 n7 s7 h7=>?_
  ·obtain⟨u,hu,rfl⟩:=List.mem_map.mp hx
   exact⟨_,rfl,_,rfl,(Iw (zs u hu)).1,hR H' (Aq.refl _)⟩
  rw[idx_map] at h7
  exact q l H7 s7 n7 h7
 |row lv ts=>
  obtain⟨a,b,us,rfl,e,e2,r⟩:=IP hv
  have lu:=AB.len _ _ r
  rw[List.length_map] at lu
  have l8:=ok.2.1
  refine⟨_,rfl,a,_,_,_,rfl,rfl,AY.of e,rfl,rfl,_,rfl,AK rfl ?_⟩
  refine⟨_,rfl,a,_,_,_,rfl,rfl,AY.of e,rfl,rfl,_,rfl,Cz rfl ?_⟩
  refine⟨_,rfl,a,_,_,_,rfl,rfl,AY.of e,rfl,VE,fun p1 hp1=>?_⟩
  have s1:=Am hp1 (.lst [V.int lv])
  have e2':=s1.get e2
  have r':=AB.same s1 _ _ r
  refine⟨_,rfl,a,_,_,_,rfl,rfl,AY.of (s1.get e),rfl,b,rfl,⟨_,AY.of e2'⟩,comp_map (fun v=>match v with | .ref x=>(match(upd H p1 (.lst [V.int lv])) x with|some (.tup [_,_,y])=>y|_=>.non)|_=>.non) (Du e2') (by omega) (fun x H' R hx s' hR=>?_) fun l H7 n7 s7 h7=>?_⟩
  ·obtain⟨t,ht,rt⟩:=Dx r' hx
   obtain⟨c,rfl,ec⟩:=Gn rt
   have:=hR H' (Aq.refl _)
   simp only[ec] at this
   exact⟨_,rfl,c,_,_,_,rfl,rfl,AY.of (s'.get ec),rfl,this⟩
  rw[N9 r'] at h7
  refine⟨p1,l,_,_,rfl,rfl,AU.of (s7.get Ag),AU.of h7,small (by rw[List.length_map,List.length_map];show 1+ts.length≤1000000;omega),fun p hp=>?_⟩
  exact q p _ ((s1.trans s7).trans (Am hp _)) ((s1.trans s7).free hp) Ag
 |folder es=>
  obtain⟨a,b,us,rfl,e,e2,r⟩:=DE hv
  have lu:=AB.len _ _ r
  rw[List.length_map] at lu
  obtain⟨o1,o2,_⟩:=ok
  refine⟨_,rfl,a,_,_,_,rfl,rfl,AY.of e,rfl,rfl,_,rfl,AK rfl ?_⟩
  refine⟨_,rfl,a,_,_,_,rfl,rfl,AY.of e,rfl,rfl,_,rfl,AK rfl ?_⟩
  refine⟨LY,fun g hg=>?_⟩
  have sg:=Am hg (.lst [])
  refine⟨_,rfl,a,_,_,_,rfl,rfl,AY.of (sg.get e),rfl,b,rfl,⟨_,AY.of (sg.get e2)⟩,KB (K:=K) (a:=b) (xs:=us) (fun i σ H2=>∃v2 v3 v4,σ=[some (.ref a),some (.ref g),v2,v3,v4]∧Aq H H2∧H2 g=some (.lst (((es.take i).flatMap D7).map V.int))) ⟨none,none,none,rfl,sg,Ag⟩ (fun i σ H2 _ ⟨_,_,_,_,s2,_⟩=>AY.of (s2.get e2)) ?_ ?_⟩
  ·rintro i y σ H2 hi ⟨v2,v3,v4,rfl,s2,hg2⟩
   obtain⟨t,ht,ry⟩:=AB.get r hi
   rw[List.getElem?_map] at ht
   cases z:es[i]? with
   |none=>rw[z] at ht;cases ht
   |some x=>
    rw[z] at ht
    cases ht
    obtain⟨c,d,rfl,ec,ed⟩:=ET ry
    have ox:=o2 x (List.mem_of_getElem? z)
    obtain⟨n1,n2,_,n4⟩:=Fc ox.1
    have tl:((es.take i).flatMap D7).length≤160:=by
     have:=S2 (es:=es.take i) fun y hy=>VU (o2 y (List.mem_of_mem_take hy))
     rw[List.length_take] at this
     omega
    refine⟨c,_,rfl,AY.of (s2.get ec),rfl,_,_,rfl,_,_,rfl,_,_,rfl,rfl,?_⟩
    refine⟨_,rfl,.inl ⟨rfl,_,AU.of hg2⟩,_,rfl,x.nm,rfl,?_⟩
    refine comp_map (fun v=>match v with | .str y=>.int (PySem.Txt.find SG y)|_=>.non) Hf (by rw[List.length_map];exact Nat.le_trans (Nat.le_of_eq (AL x.nm)) (by omega)) (fun u H' R hu s' hR=>?_) fun l H7 n7 s7 h7=>?_
    ·obtain⟨k,hk,rfl⟩:=List.mem_map.mp hu
     exact⟨_,rfl,_,rfl,(Iw (n4 k hk)).1,hR H' (Aq.refl _)⟩
    rw[idx_map] at h7
    refine⟨g,l,_,_,rfl,rfl,s7.get hg2,h7,small (by rw[List.length_map,List.length_map,List.length_map,AL];omega),?_⟩
    have t7:=A0 (s2.trans s7) hg (.lst (((es.take i).flatMap D7).map V.int++((A6 x.nm).map idx).map V.int))
    refine⟨_,rfl,.inl ⟨rfl,_,AU.of Ag⟩,_,rfl,_,rfl,d,_,_,_,rfl,rfl,AY.of (t7.get ed),rfl,PP,fun p hp=>?_⟩
    have t8:=Am hp (.lst [V.int x.kd,V.int x.tg.2.2])
    refine⟨g,p,_,_,rfl,rfl,t8.get Ag,Ag,small (by rw[List.length_append,List.length_map,List.length_map,List.length_map,AL];show _+_+2≤_;omega),?_⟩
    refine⟨_,_,_,rfl,A0 (t7.trans t8) hg _,?_⟩
    rw[Ag,Q8 z,List.map_append]
    unfold D7
    rw[List.map_append,List.append_assoc]
    rfl
  ·rintro σ H2 ⟨v2,v3,v4,rfl,s2,hg2⟩
   rw[lu,List.take_of_length_le (Nat.le_refl _)] at hg2
   exact⟨_,rfl,q g H2 s2 hg hg2⟩
def kindB:Bk→Int
 | .piece _=>0
 | .row _ _=>1
 | .folder _=>2
def A9 (b:Bk):Int:=(told b).foldl (fun t n=>(31*t+n+1)%997) (1+kindB b)
theorem LA {H:Hp}{b:Bk}{v:V}(h:Rep NL H (Dk b) v):∃a xs,v=.ref a∧H a=some (.tup (.int (kindB b)::xs)):=by
 cases b with
 |piece z=>obtain⟨a,rfl,e⟩:=FX h;exact⟨a,_,rfl,e⟩
 |row lv ts=>obtain⟨a,b,us,rfl,e,_⟩:=IP h;exact⟨a,_,rfl,e⟩
 |folder es=>obtain⟨a,b,us,rfl,e,_⟩:=DE h;exact⟨a,_,rfl,e⟩
theorem Lr {x:V}{xs:List V}:Kg (x::xs) 0=some x:=by
 unfold Kg RP
 simp
theorem ints_get {ns:List Int}{i:Nat}{y:V}(h:(ns.map V.int)[i]?=some y):∃n,y=.int n∧ns[i]?=some n:=by
 rw[List.getElem?_map] at h
 cases z:ns[i]? with
 |none=>rw[z] at h;cases h
 |some n=>rw[z] at h;cases h;exact⟨n,rfl,rfl⟩
theorem RC {f:Int→Int→Int}{z:Int}{ns:List Int}{i:Nat}{n:Int}(h:ns[i]?=some n):(ns.take (i+1)).foldl f z=f ((ns.take i).foldl f z) n:=by
 rw[List.take_add_one,h,List.foldl_append]
 rfl
def Ga (K:W.Frag):Sp:=fun vs H Q _=>∃v b,vs=[v]∧Rep NL H (Dk b) v∧FJ b∧∀H',Aq H H'→Q (.int (A9 b)) H'
theorem RE (T:Txt K mg Ab Ad Aa Ae XC)(F:Fun K "sum_of" "sum_of" FY f fd)(EL:Def P w K mg base 2 "numbers_told" ["block"] (D8 K)):FnOk P w K mg base B9 3 f fd ["block"] (Ga K):=by
 exists HL
 ·obtain⟨v,b,rfl,_⟩:=h
  rfl
 obtain⟨v,b,rfl,hv,ok,q⟩:=h
 obtain⟨a,xs,rfl,e⟩:=LA hv
 refine⟨_,(!Af (@Ay _ _ (1) _ _ _ _ HL.nd rfl (by trivial) (!Az Cr (!Ak) (!AG AH (pv 0) (!Ak) (fun _ _=>rfl))) (by rfl) (by trivial)) (!Af (!BY PassesOwn.never rfl (!BA (!AE EL (by trivial) rfl (!Ac (pv 0) (!Ah) (by rfl)) (by decide) (by rfl) (by rfl))) (@As _ _ (2) _ HL.nd rfl (by trivial) (by trivial)) (!Al (@Ay _ _ (1) _ _ _ _ HL.nd rfl (by trivial) (!Az By (!Az Cr (!Az Cr (!Az Hv (!Ak) (pv 1)) (pv 2)) (!Ak)) (!Ax rfl T.c_SUM_RESTS (by decide))) (by rfl) (by trivial))) (by intro _;rfl)) (!Al (!An (pv 1))))),?_⟩
 refine⟨_,rfl,a,_,_,_,rfl,rfl,AY.of e,Lr,_,_,rfl,rfl,?_⟩
 refine⟨_,rfl,_,b,rfl,hv,ok,fun l H1 s1 n1 h1=>?_⟩
 refine⟨l,rfl,⟨_,AU.of h1⟩,Cb (K:=K) (a:=l) (xs:=(told b).map V.int) (fun i σ H2=>∃v2,σ=[some (.ref a),some (.int (((told b).take i).foldl (fun t n=>(31*t+n+1)%997) (1+kindB b))),v2]∧Aq H1 H2) ⟨none,rfl,Aq.refl _⟩ (fun i σ H2 _ ⟨_,_,s2⟩=>AU.of (s2.get h1)) ?_ ?_⟩
 ·rintro i y σ H2 hi ⟨v2,rfl,s2⟩
  obtain⟨n,rfl,hn⟩:=ints_get hi
  refine⟨_,rfl,_,_,rfl,rfl,.inl ⟨by decide,by decide⟩,_,rfl,_,_,rfl,rfl,_,_,rfl,rfl,_,_,rfl,rfl,(show(0:Int)<997 by decide),?_⟩
  refine⟨some (.int n),?_,s2⟩
  rw[RC hn]
  rfl
 ·rintro σ H2 ⟨v2,rfl,s2⟩
  rw[List.length_map,List.take_length]
  exact⟨_,rfl,q H2 (s1.trans s2)⟩
theorem Ra (ts:List Tg):(wTs (ts.map Fd)).length=8*ts.length:=by
 induction ts with
 |nil=>rfl
 |cons t r ih=>
  rw[List.map_cons]
  show(wT (Fd t)++wTs (r.map Fd)).length=_
  rw[List.length_append,ih,List.length_cons]
  have:(wT (Fd t)).length=8:=rfl
  omega
def Vp:Bk→Nat
 | .piece z=>6+z.length
 | .row _ ts=>8+8*ts.length
 | .folder es=>6+(es.map fun x=>14+x.nm.length).sum
theorem Sz (es:List En):(wTs (es.map KW)).length=(es.map fun x=>14+x.nm.length).sum:=by
 induction es with
 |nil=>rfl
 |cons x r ih=>
  rw[List.map_cons,List.map_cons,List.sum_cons,←ih]
  show(wT (KW x)++wTs (r.map KW)).length=_
  rw[List.length_append]
  have:(wT (KW x)).length=14+x.nm.length:=by
   show(2::((3:Int))::((1::(x.nm.length:Int)::(A6 x.nm).map idx)++([0,x.kd]++(wT (Fd x.tg)++[])))).length=_
   have t8:(wT (Fd x.tg)).length=8:=rfl
   simp only[List.length_cons,List.length_append,List.length_map,AL,List.length_nil,t8]
   omega
  omega
theorem Qs (b:Bk):(wT (Dk b)).length=Vp b:=by
 cases b with
 |piece z=>
  show(2::(2:Int)::([0,0]++((1::(z.length:Int)::(A6 z).map idx)++[]))).length=6+z.length
  simp only[List.length_cons,List.length_append,List.length_map,AL,List.length_nil]
  omega
 |row lv ts=>
  show(2::(3:Int)::([0,1]++([0,lv]++((2::((ts.map Fd).length:Int)::wTs (ts.map Fd))++[])))).length=8+8*ts.length
  simp only[List.length_cons,List.length_append,List.length_nil,Ra]
  omega
 |folder es=>
  show(2::(2:Int)::([0,2]++((2::((es.map KW).length:Int)::wTs (es.map KW))++[]))).length=6+(es.map fun x=>14+x.nm.length).sum
  simp only[List.length_cons,List.length_append,List.length_nil,Sz]
  omega
theorem size_le {b:Bk}(h:FJ b):Vp b≤500:=by
 cases b with
 |piece z=>
  have h':(decide ((1:Int)≤(z.length:Int))&&decide ((z.length:Int)≤8)&&BB SG z)=true:=h
  simp only[Bool.and_eq_true,decide_eq_true_eq] at h'
  show 6+z.length≤500
  omega
 |row lv ts=>
  have:=h.2.1
  show 8+8*ts.length≤500
  omega
 |folder es=>
  have n:=h.1
  have s0:∀l:List En,(∀x∈l,Rt x)→(l.map fun x=>14+x.nm.length).sum≤22*l.length:=fun l=>by
   induction l with
   |nil=>intro _;exact Nat.le_refl _
   |cons x r ih=>
    intro hx
    rw[List.map_cons,List.sum_cons,List.length_cons]
    have:=ih fun y hy=>hx y (List.mem_cons_of_mem _ hy)
    have:=(Fc (hx x List.mem_cons_self).1).2.1
    omega
  have:=s0 es h.2.1
  show 6+_≤500
  omega
def CY (K:W.Frag)(C:Addr):Sp:=fun vs H Q _=>∃p ds bs n lf z,vs=[.ref p,.int z]∧G0 C H p ds bs n lf∧0<bs.length∧∀a,H a=none→Q (.ref a) (upd H a (.tup [.int (z%(bs.length:Int)),.int ((z+1)%(bs.length:Int))]))
theorem Ke (T:Txt K mg Ab Ad Aa Ae XC)(F:Fun K "twins" "Boards.twins" B3 f fd)(BI:A7 P w K mg base 1 Ad "many" ["self"] (Dw K Ad)):FnOk P w K mg base B9 2 f fd ["self","number"] (CY K Ad):=by
 exists Ka
 ·obtain⟨p,ds,bs,n,lf,z,rfl,_⟩:=h
  rfl
 obtain⟨p,ds,bs,n,lf,z,rfl,hB,b0,q⟩:=h
 obtain⟨dx,s0,h1,h2,h3,h4⟩:=id hB
 refine⟨_,(!Al (!An (!Hz (!Ac (!Az By (pv 1) (!Ep (pv 0) T.cl_Boards BI (by trivial) (by rfl))) (!Ac (!Az By (!Az Cr (pv 1) (!Ak)) (!Ep (pv 0) T.cl_Boards BI (by trivial) (by rfl))) (!Ah) (by rfl)) (by rfl))))),?_⟩
 refine⟨_,rfl,_,rfl,p,dx,_,rfl,h1,rfl,p,ds,bs,n,lf,rfl,hB,_,_,rfl,rfl,(by omega),_,rfl,_,_,rfl,rfl,_,rfl,p,dx,_,rfl,h1,rfl,p,ds,bs,n,lf,rfl,hB,_,_,rfl,rfl,(by omega),PP,fun a ha=>q a ha⟩
def EZ (t:Tr):List Int:=wT t++[mk (wT t)]
def Kh (z y:Int)(b:Bk):Tr:=.tup [.int z,.int y,Dk b]
theorem U2 {b:Bk}(h:FJ b):DS 7 (Dk b)=true:=by
 cases b with
 |piece z=>
  have h':(decide ((1:Int)≤(z.length:Int))&&decide ((z.length:Int)≤8)&&BB SG z)=true:=h
  simp only[Bool.and_eq_true,decide_eq_true_eq] at h'
  simp only[Dk,DS,List.all_cons,List.all_nil,List.length_cons,List.length_nil,Bool.and_true,Bool.and_eq_true,decide_eq_true_eq,h'.2,and_true]
  omega
 |row lv ts=>
  obtain⟨l,n,_,o⟩:=h
  have d:(ts.map Fd).all (DS 5)=true:=List.all_eq_true.mpr fun t ht=>by
   obtain⟨x,hx,rfl⟩:=List.mem_map.mp ht
   exact ID (o x hx) 3
  simp only[Dk,DS,List.all_cons,List.all_nil,List.length_cons,List.length_nil,List.length_map,Bool.and_true,Bool.and_eq_true,decide_eq_true_eq,d,and_true]
  omega
 |folder es=>
  obtain⟨n,o,_⟩:=h
  have d:(es.map KW).all (DS 5)=true:=List.all_eq_true.mpr fun t ht=>by
   obtain⟨x,hx,rfl⟩:=List.mem_map.mp ht
   exact K4 (o x hx) 2
  simp only[Dk,DS,List.all_cons,List.all_nil,List.length_cons,List.length_nil,List.length_map,Bool.and_true,Bool.and_eq_true,decide_eq_true_eq,d,and_true]
  omega
def MX (z y:Int):Prop:=(0≤z∧z≤999999999)∧0≤y∧y≤999999999
theorem Qh {z y:Int}{b:Bk}(n:MX z y)(h:FJ b):DS 8 (Kh z y b)=true:=by
 have d:=U2 h
 obtain⟨⟨a1,a2⟩,a3,a4⟩:=n
 show(decide (3≤100)&&((decide (0≤z)&&decide (z≤999999999))&&((decide (0≤y)&&decide (y≤999999999))&&(DS 7 (Dk b)&&true))))=true
 simp only[d,Bool.and_true,Bool.and_eq_true,decide_eq_true_eq]
 omega
theorem QF {z y:Int}{b:Bk}(h:FJ b):(wT (Kh z y b)).length≤600:=by
 have l:=Qs b
 have s:=size_le h
 show(2::(3:Int)::([0,z]++([0,y]++(wT (Dk b)++[])))).length≤600
 simp only[List.length_cons,List.length_append,List.length_nil]
 omega
mutual
theorem Vv:∀(n:Nat) (t:Tr),DS n t=true→∀x∈wT t,0≤x∧x≤2147483646
 |0,_,h=>nomatch h
 |n+1,.non,h=>nomatch h
 |n+1,.bl _,h=>nomatch h
 |n+1,.int i,h=>fun x hx=>by
  have h':(decide (0≤i)&&decide (i≤999999999))=true:=h
  simp only[Bool.and_eq_true,decide_eq_true_eq] at h'
  rcases List.mem_cons.mp hx with rfl|hx
  ·omega
  ·rw[List.mem_singleton.mp hx];omega
 |n+1,.str z,h=>fun x hx=>by
  obtain⟨zl,zs⟩:=KJ h
  rcases List.mem_cons.mp hx with rfl|hx
  ·omega
  rcases List.mem_cons.mp hx with rfl|hx
  ·omega
  obtain⟨c,hc,rfl⟩:=List.mem_map.mp hx
  have:=Iw (zs c hc)
  omega
 |n+1,.tup ts,h=>fun x hx=>by
  have h':(decide (ts.length≤100)&&ts.all (DS n))=true:=h
  rw[Bool.and_eq_true,decide_eq_true_eq] at h'
  rcases List.mem_cons.mp hx with rfl|hx
  ·omega
  rcases List.mem_cons.mp hx with rfl|hx
  ·omega
  exact SW n ts h'.2 x hx
 |n+1,.lst _,h=>nomatch h
theorem SW:∀(n:Nat) (ts:List Tr),ts.all (DS n)=true→∀x∈wTs ts,0≤x∧x≤2147483646
 |_,[],_=>fun x hx=>nomatch hx
 |n,t::ts,h=>fun x hx=>by
  rw[List.all_cons,Bool.and_eq_true] at h
  rcases List.mem_append.mp hx with hx|hx
  ·exact Vv n t h.1 x hx
  ·exact SW n ts h.2 x hx
end
theorem NR {t:Tr}{n:Nat}(h:DS n t=true):sound (EZ t)=true:=Nu (Vv n t h)
theorem PK (t:Tr):(EZ t).dropLast=wT t:=by unfold EZ;rw[List.dropLast_concat]
theorem RD (t:Tr):(EZ t).length=(wT t).length+1:=by unfold EZ;rw[List.length_append];rfl
def Hg (K:W.Frag)(C:Addr):Sp:=fun vs H Q _=>∃p ds bs n lf,∃(b:Nat) (z:Int),vs=[.ref p,.int (b:Int),.int z]∧G0 C H p ds bs n lf∧b<bs.length∧((EO (bs.getD b []) z=none∧Q .non H)∨∃t,EO (bs.getD b []) z=some (EZ t)∧DS 8 t=true∧(wT t).length≤900∧∀v H',Aq H H'→Rep NL H' t v→Q v H')
theorem Of (T:Txt K mg Ab Ad Aa Ae XC)(F:Fun K "thing_on" "thing_on" DC f fd)(FL:A7 P w K mg base 4 Ad "cell" ["self","board","number"] (EV K Ad))(Ij:Def P w K mg base 3 "unsealed" ["row"] (Hk K))(Iq:Def P w K mg base 13 "thing_of" ["words"] (Hl K)):FnOk P w K mg base B9 14 f fd ["boards","board","number"] (Hg K Ad):=by
 exists G5
 ·obtain⟨p,ds,bs,n,lf,b,z,rfl,_⟩:=h
  rfl
 obtain⟨p,ds,bs,n,lf,b,z,rfl,hB,b1,q⟩:=h
 obtain⟨dx,s0,h1,h2,h3,h4⟩:=id hB
 refine⟨_,(!Af (@Ay _ _ (3) _ _ _ _ G5.nd rfl (by trivial) (!Bc (pv 0) T.cl_Boards FL (by trivial) (!Ac (pv 1) (!Ac (pv 2) (!Ah) (by rfl)) (by rfl)) (by rfl) (by rfl) (by rfl)) (by rfl) (by trivial)) (!Af (!AM (!G2 (!Px (pv 3)) (by first|exact Dq _ (by decide) (by decide)|rfl)) (!Al (!An (!FA))) (!Av)) (!Af (@Ay _ _ (4) _ _ _ _ G5.nd rfl (by trivial) (!AE Ij (by trivial) rfl (!Ac (pv 3) (!Ah) (by rfl)) (by decide) (by rfl) (by rfl)) (by rfl) (by trivial)) (!Af (!AM (!G2 (!Px (pv 4)) (by first|exact Dq _ (by decide) (by decide)|rfl)) (!Al (!An (!FA))) (!Av)) (!Al (!Sa ⟨rfl,rfl⟩ T.x_NoThing rfl (!Qw (!QB (!An (!AE Iq (by trivial) rfl (!Ac (pv 4) (!Ah) (by rfl)) (by decide) (by rfl) (by rfl))))) (!Av) (fun e=>(!Al (!An (!FA)))) (by decide))))))),?_⟩
 refine⟨_,rfl,p,dx,_,rfl,h1,rfl,_,rfl,_,rfl,p,ds,bs,n,lf,b,z,rfl,hB,b1,?_⟩
 rcases q with⟨g,q⟩|⟨t,g,it,wl,q⟩
 ·refine⟨fun _=>⟨_,rfl,_,rfl,Cz rfl q⟩,fun row e=>?_⟩
  rw[g] at e;cases e
 ·refine⟨(fun e=>by rw[g] at e;cases e),fun row e l hl=>?_⟩
  rw[g] at e
  cases e
  have s1:=Am hl (.lst ((EZ t).map V.int))
  refine⟨_,rfl,_,rfl,AK rfl ?_⟩
  refine⟨_,rfl,l,EZ t,rfl,Ag,by rw[RD];omega,(fun z=>by rw[NR it] at z;cases z),fun _ r H2 s2 nr hr2=>?_⟩
  rw[PK] at hr2
  refine⟨_,rfl,_,rfl,AK rfl ?_⟩
  exact⟨_,rfl,r,t,rfl,hr2,it,fun v H3 s3 rv=>q v H3 ((s1.trans s2).trans s3) rv⟩
def Fk (K:W.Frag)(C:Addr):Sp:=fun vs H Q _=>∃p ds bs n lf,∃(b:Nat) (ta:Addr) (z y k:Int),vs=[.ref p,.int (b:Int),.ref ta]∧G0 C H p ds bs n lf∧b<bs.length∧H ta=some (.tup [.int z,.int y,.int k])∧
 ((EO (bs.getD b []) z=none∧Q .non H)∨∃bk,EO (bs.getD b []) z=some (EZ (Kh z y bk))∧FJ bk∧A9 bk=k∧MX z y∧∀v H',Aq H H'→Rep NL H' (Dk bk) v→Q v H')
theorem NU (T:Txt K mg Ab Ad Aa Ae XC)(F:Fun K "block_on" "block_on" DO f fd)(Ig:Def P w K mg base 14 "thing_on" ["boards","board","number"] (Hg K Ad))(Bh:Def P w K mg base 1 "is_tuple_of" ["thing","many"] (CG K))(HZ:Def P w K mg base 6 "is_block" ["thing"] (Hm K))(Dr:Def P w K mg base 3 "sum_of" ["block"] (Ga K)):FnOk P w K mg base B9 15 f fd ["boards","board","tag"] (Fk K Ad):=by
 exists J3
 ·obtain⟨p,ds,bs,n,lf,b,ta,z,y,k,rfl,_⟩:=h
  rfl
 obtain⟨p,ds,bs,n,lf,b,ta,z,y,k,rfl,hB,b1,ht,q⟩:=h
 have hu9:=IF hr
 refine⟨_,(!Af (@Ay _ _ (3) _ _ _ _ J3.nd rfl (by trivial) (!AE Ig (by trivial) rfl (!Ac (pv 0) (!Ac (pv 1) (!Ac (!AG AH (pv 2) (!Ak) (fun _ _=>rfl)) (!Ah) (by rfl)) (by rfl)) (by rfl)) (by decide) (by rfl) (by rfl)) (by rfl) (by trivial)) (!Af (!AM (@PW.pt _ _ _ (!Fn (!BH (!Br (!AE Bh (by trivial) rfl (!Ac (pv 3) (!Ac (!Ak) (!Ah) (by rfl)) (by rfl)) (by decide) (by rfl) (by rfl)) (by intro _;rfl))) (!DT (!AF (Wb hu9) (!CA Sf (pv 3) (!Fj) (!Cu (!Ak))) (!CA Sf (pv 2) (!Fj) (!Cu (!Ak))) (AC _))))) (!Al (!An (!FA))) (!Av)) (!Af (!AM (@PW.pt _ _ _ (!Fn (!BH (!Br (!AE HZ (by trivial) rfl (!Ac (!AG AH (pv 3) (!Ak) (fun _ _=>rfl)) (!Ah) (by rfl)) (by decide) (by rfl) (by rfl)) (by intro _;rfl))) (!DT (!AF LC (!AE Dr (by trivial) rfl (!Ac (!AG AH (pv 3) (!Ak) (fun _ _=>rfl)) (!Ah) (by rfl)) (by decide) (by rfl) (by rfl)) (!AG AH (pv 2) (!Ak) (fun _ _=>rfl)) (AC _))))) (!Al (!An (!FA))) (!Av)) (!Al (!An (!AG AH (pv 3) (!Ak) (fun _ _=>rfl))))))),?_⟩
 refine⟨_,rfl,_,rfl,_,rfl,ta,_,_,_,rfl,rfl,AY.of ht,rfl,p,ds,bs,n,lf,b,z,rfl,hB,b1,?_⟩
 rcases q with⟨g,q⟩|⟨bk,g,ok,es,nb,q⟩
 ·refine .inl ⟨g,?_⟩
  exact⟨_,rfl,.non,3,rfl,trivial,_,rfl,Cz rfl q⟩
 ·refine .inr ⟨Kh z y bk,g,Qh nb ok,by have:=QF (z:=z) (y:=y) ok;omega,fun v H1 s1 rv=>?_⟩
  obtain⟨a,us,rfl,e,u1,us,rfl,r1,u2,us,rfl,r2,u3,us,rfl,r3,rfl⟩:=rv
  cases(show u1=V.int z from r1)
  cases(show u2=V.int y from r2)
  have okv:Ok H1 (.ref a):=.inr ⟨_,e⟩
  have ht1:=s1.get ht
  refine⟨_,rfl,.ref a,3,rfl,okv,_,rfl,AK (by rw[Jb e];rfl) ?_⟩
  refine⟨_,rfl,2,rfl,a,_,rfl,AY.of e,(show ¬(HT.Dl 3 0 none=0∧HT.Dl 3 3 (some 2)=3) by decide),fun p1 hp1=>?_⟩
  have s2:=Am hp1 (.tup [V.int z,V.int y])
  refine⟨_,rfl,2,rfl,ta,_,rfl,AY.of (s2.get ht1),(show ¬(HT.Dl 3 0 none=0∧HT.Dl 3 3 (some 2)=3) by decide),fun p2 hp2=>?_⟩
  have s3:=Am hp2 (.tup [V.int z,V.int y])
  refine⟨.tup [.int z,.int y],NL,NL,(by show 1+max 1 (max 1 0)≤100;decide),⟨p1,_,rfl,s3.get Ag,_,_,rfl,rfl,_,_,rfl,rfl,rfl⟩,⟨p2,_,rfl,Ag,_,_,rfl,rfl,_,_,rfl,rfl,rfl⟩,_,rfl,AK rfl ?_⟩
  have s13:=s2.trans s3
  have r3':=Rep.same s13 _ _ r3
  have e3:=s13.get e
  obtain⟨wok,wb⟩:=Uh ok
  refine⟨_,rfl,a,_,_,_,rfl,rfl,AY.of e3,rfl,u3,bk,rfl,r3',wok,fun H4 s4=>⟨_,rfl,AK (by rw[wb];rfl) ?_⟩⟩
  refine⟨_,rfl,a,_,_,_,rfl,rfl,AY.of (s4.get e3),rfl,u3,bk,rfl,Rep.same s4 _ _ r3',ok,fun H5 s5=>?_⟩
  have s45:=s4.trans s5
  refine⟨_,rfl,ta,_,_,_,rfl,rfl,AY.of (s45.get (s13.get ht1)),rfl,rfl,_,rfl,AK (by rw[es];simp) ?_⟩
  exact⟨_,rfl,a,_,_,_,rfl,rfl,AY.of (s45.get e3),rfl,q u3 H5 ((s1.trans s13).trans s45) (Rep.same s45 _ _ r3')⟩
def Lies (bs:List Fp)(z y:Int)(bk:Bk):Prop:=∀b,b<bs.length→EO (bs.getD b []) z=none∨EO (bs.getD b []) z=some (EZ (Kh z y bk))
def hasB (bs:List Fp)(z:Int)(b:Int):Bool:=(EO (bs.getD b.toNat []) z).isSome
def JV (bs:List Fp)(z:Int):List Int:=[z%(bs.length:Int),(z+1)%(bs.length:Int)]
theorem M8 {bs:List Fp}{z:Int}(h:0<bs.length):∀x∈JV bs z,0≤x∧x<(bs.length:Int):=fun x hx=>by
 have e:x=z%(bs.length:Int)∨x=(z+1)%(bs.length:Int):=by simpa [JV] using hx
 rcases e with rfl|rfl
 ·exact⟨Int.emod_nonneg _ (by omega),Int.emod_lt_of_pos _ (by omega)⟩
 ·exact⟨Int.emod_nonneg _ (by omega),Int.emod_lt_of_pos _ (by omega)⟩
theorem VH {H:Hp} {p ta:Addr} {ds:List Addr} {bs:List Fp} {n:Int} {lf:V} {z y:Int} {bk:Bk} {x:Int} {Q:VK} (hB:G0 Ad H p ds bs n lf) (x0:0≤x) (x1:x<(bs.length:Int)) (ht:H ta=some (.tup [.int z,.int y,.int (A9 bk)])) (hl:Lies bs z y bk) (ok:FJ bk) (nb:MX z y)
  (q0:hasB bs z x=false→Q .non H) (q1:hasB bs z x=true→∀v H',Aq H H'→Rep NL H' (Dk bk) v→Q v H'):Fk K Ad [.ref p,.int x,.ref ta] H Q E0:=by
 have ex:((x.toNat:Nat):Int)=x:=by omega
 refine⟨p,ds,bs,n,lf,x.toNat,ta,z,y,A9 bk,by rw[ex],hB,by omega,ht,?_⟩
 rcases hl x.toNat (by omega) with e|e
 ·exact .inl ⟨e,q0 (by unfold hasB;rw[e];rfl)⟩
 ·exact .inr ⟨bk,e,ok,rfl,nb,q1 (by unfold hasB;rw[e];rfl)⟩
def Ih (K:W.Frag)(C:Addr):Sp:=fun vs H Q _=>∃p ds bs n lf,∃(ta:Addr) (z y:Int) (bk:Bk),vs=[.ref p,.ref ta]∧G0 C H p ds bs n lf∧0<bs.length∧H ta=some (.tup [.int z,.int y,.int (A9 bk)])∧Lies bs z y bk∧FJ bk∧MX z y∧(JV bs z).filter (hasB bs z)≠[]∧∀v H',Aq H H'→Rep NL H' (Dk bk) v→Q v H'
theorem PB (T:Txt K mg Ab Ad Aa Ae XC)(F:Fun K "fetched" "fetched" EH f fd)(B0:A7 P w K mg base 2 Ad "twins" ["self","number"] (CY K Ad))(IE:Def P w K mg base 15 "block_on" ["boards","board","tag"] (Fk K Ad)):FnOk P w K mg base B9 16 f fd ["boards","tag"] (Ih K Ad):=by
 exists Io
 ·obtain⟨p,ds,bs,n,lf,ta,z,y,bk,rfl,_⟩:=h
  rfl
 obtain⟨p,ds,bs,n,lf,ta,z,y,bk,rfl,hB,b0,ht,hl,ok,nb,q0,q⟩:=h
 obtain⟨dx,s0,h1,h2,h3,h4⟩:=id hB
 refine⟨_,(!Af (!BY PassesOwn.never rfl (!Ea (!Bc (pv 0) T.cl_Boards B0 (by trivial) (!Ac (!AG AH (pv 1) (!Ak) (fun _ _=>rfl)) (!Ah) (by rfl)) (by rfl) (by rfl) (by rfl))) (@As _ _ (2) _ Io.nd rfl (by trivial) (by trivial)) (!Af (@Ay _ _ (3) _ _ _ _ Io.nd rfl (by trivial) (!AE IE (by trivial) rfl (!Ac (pv 0) (!Ac (pv 2) (!Ac (pv 1) (!Ah) (by rfl)) (by rfl)) (by rfl)) (by decide) (by rfl) (by rfl)) (by rfl) (by trivial)) (!Al (!AM (!G2 (!M7 (pv 3)) (by first|exact Dq _ (by decide) (by decide)|rfl)) (!Al (!An (pv 3))) (!Av)))) (by intro _;rfl)) (!Al (!BV))),?_⟩
 dsimp only[Cs]
 refine⟨_,rfl,p,dx,_,rfl,h1,rfl,_,rfl,ta,_,_,_,rfl,rfl,AY.of ht,rfl,p,ds,bs,n,lf,z,rfl,hB,b0,fun tp htp=>?_⟩
 have s1:=Am htp (.tup [V.int (z%(bs.length:Int)),V.int ((z+1)%(bs.length:Int))])
 have etp:(upd H tp (.tup [V.int (z%(bs.length:Int)),V.int ((z+1)%(bs.length:Int))])) tp=some (.tup ((JV bs z).map V.int)):=Ag
 generalize upd H tp (.tup [V.int (z%(bs.length:Int)),V.int ((z+1)%(bs.length:Int))])=H0 at s1 etp
 refine⟨tp,rfl,⟨_,AY.of etp⟩,KB (K:=K) (a:=tp) (xs:=(JV bs z).map V.int) (fun i σ H2=>∃v2 v3,σ=[some (.ref p),some (.ref ta),v2,v3]∧Aq H0 H2∧((JV bs z).take i).filter (hasB bs z)=[]) ⟨none,none,rfl,Aq.refl _,rfl⟩ (fun i σ H2 _ ⟨_,_,_,s2,_⟩=>AY.of (s2.get etp)) ?_ ?_⟩
 ·rintro i x σ H2 hi ⟨v2,v3,rfl,s2,hf⟩
  obtain⟨k,rfl,hk⟩:=ints_get hi
  obtain⟨k0,k1⟩:=M8 b0 k (List.mem_of_getElem? hk)
  have u:=s1.trans s2
  refine⟨_,rfl,_,rfl,_,rfl,?_⟩
  dsimp only[O4,List.append_nil]
  refine VH (hB.same u) k0 k1 (u.get ht) hl ok nb (fun e=>?_) (fun e v H3 s3 rv=>?_)
  ·refine⟨_,rfl,_,rfl,AK rfl ?_⟩
   refine⟨_,_,rfl,s2,?_⟩
   rw[List.take_add_one,hk,List.filter_append,hf]
   show[k].filter (hasB bs z)=[]
   rw[List.filter_cons_of_neg (by rw[e];exact Bool.false_ne_true),List.filter_nil]
  ·have nv:v≠.non:=by
    obtain⟨a,xs,rfl,_⟩:=LA rv
    intro z;cases z
   refine⟨_,rfl,_,rfl,Cz (by rw[decide_eq_false nv];rfl) ?_⟩
   exact⟨_,rfl,q v H3 (u.trans s3) rv⟩
 ·rintro σ H2 ⟨v2,v3,rfl,s2,hf⟩
  rw[List.take_of_length_le (by rw[List.length_map];exact Nat.le_refl _)] at hf
  exact absurd hf q0
def wr (bs:List Fp)(z:Int)(row:List Int)(l:List Int):List Fp:=l.foldl (fun bs x=>bs.set x.toNat (Hi (bs.getD x.toNat []) z row)) bs
theorem K2 (z:Int)(row:List Int):∀(l:List Int) (bs:List Fp),(wr bs z row l).length=bs.length
 |[],_=>rfl
 |x::l,bs=>by
  show(wr (bs.set _ _) z row l).length=_
  rw[K2 z row l,List.length_set]
theorem Ug (bs:List Fp)(z:Int)(row:List Int)(l:List Int)(x:Int):wr bs z row (l++[x])=(wr bs z row l).set x.toNat (Hi ((wr bs z row l).getD x.toNat []) z row):=by
 unfold wr;rw[List.foldl_append];rfl
theorem OX {z:Int}{row:List Int}{M:Nat}:∀(l:List Int) {bs:List Fp},(∀c∈bs,c.length≤M)→∀c∈wr bs z row l,c.length≤M+l.length:=fun l=>by
 induction l generalizing M with
 |nil=>intro bs h;exact h
 |cons x l ih=>
  intro bs h c hc
  have:∀c∈bs.set x.toNat (Hi (bs.getD x.toNat []) z row),c.length≤M+1:=fun c hc=>by
   rcases List.mem_or_eq_of_mem_set hc with hc|rfl
   ·have:=h c hc;omega
   ·have:=TB (bs.getD x.toNat []) z row
    have:(bs.getD x.toNat []).length≤M:=by
     unfold List.getD
     cases e:bs[x.toNat]? with
     |none=>exact Nat.zero_le _
     |some c=>exact h c (List.mem_of_getElem? e)
    omega
  have:=ih this c hc
  rw[List.length_cons]
  omega
def Pi (K:W.Frag)(C:Addr):Sp:=fun vs H Q _=>∃p ds bs n,∃(z y:Int) (bv:V) (bk:Bk),vs=[.ref p,.int z,.int y,bv]∧G0 C H p ds bs n .non∧0<bs.length∧(∀c∈bs,c.length≤90000)∧Rep NL H (Dk bk) bv∧FJ bk∧MX z y∧
 ∀H',G0 C H' p ds (wr bs z (EZ (Kh z y bk)) (JV bs z)) (n+2) .non→Kb H H' p ds→Q .non H'
theorem VX (T:Txt K mg Ab Ad Aa Ae XC)(F:Fun K "lay" "lay" Mp f fd)(Lm:Def P w K mg base 2 "sealed" ["words"] (JO K))(B0:A7 P w K mg base 2 Ad "twins" ["self","number"] (CY K Ad))(CI:Def P w K mg base 9 "words_of" ["thing"] (Fq K))(EU:A7 P w K mg base 4 Ad "write" ["self","board","number","row"] (D9 K Ad)):FnOk P w K mg base B9 10 f fd ["boards","number","birth","block"] (Pi K Ad):=by
 exists PZ
 ·obtain⟨p,ds,bs,n,z,y,bv,bk,rfl,_⟩:=h
  rfl
 obtain⟨p,ds,bs,n,z,y,bv,bk,rfl,hB,b0,bb,hv,ok,nb,q⟩:=h
 refine⟨_,(!Af (@Ay _ _ (4) _ _ _ _ PZ.nd rfl (by trivial) (!AE Lm (by trivial) rfl (!Ac (!AE CI (by trivial) rfl (!Ac (!Hz (!Ac (pv 1) (!Ac (pv 2) (!Ac (pv 3) (!Ah) (by rfl)) (by rfl)) (by rfl))) (!Ah) (by rfl)) (by decide) (by rfl) (by rfl)) (!Ah) (by rfl)) (by decide) (by rfl) (by rfl)) (by rfl) (by trivial)) (!Al (!BY PassesOwn.never rfl (!Ea (!Bc (pv 0) T.cl_Boards B0 (by trivial) (!Ac (pv 1) (!Ah) (by rfl)) (by rfl) (by rfl) (by rfl))) (@As _ _ (5) _ PZ.nd rfl (by trivial) (by trivial)) (!Al (!Bm (!Bc (pv 0) T.cl_Boards EU (by trivial) (!Ac (pv 5) (!Ac (pv 1) (!Ac (pv 4) (!Ah) (by rfl)) (by rfl)) (by rfl)) (by rfl) (by rfl) (by rfl)) (by rfl))) (by intro _;rfl)))),?_⟩
 dsimp only[Cs]
 refine⟨_,rfl,_,rfl,_,rfl,Ue,fun tr htr=>?_⟩
 have s1:=Am htr (.tup [V.int z,V.int y,bv])
 have hrec:Rep NL (upd H tr (.tup [V.int z,V.int y,bv])) (Kh z y bk) (.ref tr):=⟨tr,_,rfl,Ag,_,_,rfl,rfl,_,_,rfl,rfl,_,_,rfl,Rep.same s1 _ _ hv,rfl⟩
 have rl:=QF (z:=z) (y:=y) ok
 refine⟨.ref tr,Kh z y bk,rfl,hrec,Qh nb ok,by omega,fun wl H2 s2 nw hw=>?_⟩
 refine⟨wl,_,rfl,hw,by omega,fun rw_ H3 s3 nr hrw=>?_⟩
 have s03:=(s1.trans s2).trans s3
 have hB3:=hB.same s03
 obtain⟨dx,sh,h1,h2,h3,h4⟩:=id hB3
 refine⟨_,rfl,p,dx,_,rfl,h1,rfl,_,rfl,p,ds,bs,n,.non,z,rfl,hB3,b0,fun tp htp=>?_⟩
 have s4:=Am htp (.tup [V.int (z%(bs.length:Int)),V.int ((z+1)%(bs.length:Int))])
 have etp:(upd H3 tp (.tup [V.int (z%(bs.length:Int)),V.int ((z+1)%(bs.length:Int))])) tp=some (.tup ((JV bs z).map V.int)):=Ag
 have hB4:=hB3.same s4
 have hrw4:=s4.get hrw
 have s04:=s03.trans s4
 generalize upd H3 tp (.tup [V.int (z%(bs.length:Int)),V.int ((z+1)%(bs.length:Int))])=H4 at s4 etp hB4 hrw4 s04
 obtain⟨dx4,sh4,g1,_,_,_⟩:=id hB4
 have ntp:tp≠p:=AW etp g1 (by intro z;cases z)
 have ndp:tp∉ds:=hB4.notin etp (by intro kvs z;cases z)
 have nrp:rw_≠p:=AW hrw4 g1 (by intro z;cases z)
 have ndr:rw_∉ds:=hB4.notin hrw4 (by intro kvs z;cases z)
 refine⟨tp,rfl,⟨_,AY.of etp⟩,KB (K:=K) (a:=tp) (xs:=(JV bs z).map V.int) (fun i σ H2=>∃v5,σ=[some (.ref p),some (.int z),some (.int y),some bv,some (.ref rw_),v5]∧G0 Ad H2 p ds (wr bs z (EZ (Kh z y bk)) ((JV bs z).take i)) (n+(i:Int)) .non∧Kb H4 H2 p ds) ⟨none,rfl,by rw[List.take_zero,show n+((0:Nat):Int)=n by omega];exact hB4,fun _ _ h _ _=>h⟩ (fun i σ H2 _ ⟨_,_,_,k2⟩=>AY.of (k2 _ _ etp ntp ndp)) ?_ ?_⟩
 ·rintro i x σ H5 hi ⟨v5,rfl,hB5,k5⟩
  obtain⟨k,rfl,hk⟩:=ints_get hi
  obtain⟨k0,k1⟩:=M8 b0 k (List.mem_of_getElem? hk)
  have i2:i<2:=(List.getElem?_eq_some_iff.mp hk).1
  have ek:((k.toNat:Nat):Int)=k:=by omega
  obtain⟨dx5,sh5,e1,e2,e3,e4⟩:=id hB5
  refine⟨_,rfl,p,dx5,_,rfl,e1,rfl,_,rfl,_,rfl,_,rfl,p,ds,_,_,k.toNat,z,rw_,EZ (Kh z y bk),by rw[ek];rfl,hB5,by rw[K2];omega,fun c hc=>?_,k5 _ _ hrw4 nrp ndr,fun H6 hB6 k6=>?_⟩
  ·have:=OX _ bb c hc
   have:((JV bs z).take i).length≤2:=by rw[List.length_take];exact Nat.le_trans (Nat.min_le_right _ _) (Nat.le_refl 2)
   omega
  ·refine⟨_,rfl,?_,k5.trans k6⟩
   rw[List.take_add_one,hk]
   show G0 _ _ _ _ (wr bs z _ ((JV bs z).take i++[k])) _ _
   rw[Ug,show n+((i+1:Nat):Int)=n+(i:Int)+1 by omega]
   exact hB6
 ·rintro σ H5 ⟨v5,rfl,hB5,k5⟩
  rw[List.take_of_length_le (by rw[List.length_map];exact Nat.le_refl _)] at hB5
  exact q H5 hB5 ((Aq.kb s04 p ds).trans k5)
theorem OP (c:Fp)(k:Int)(row:List Int)(z:Int):EO (Hi c k row) z=if z=k then some row else EO c z:=by
 unfold Hi
 by_cases h:(c.any fun x=>decide (x.1=k))=true
 ·rw[if_pos h]
  unfold EO
  induction c with
  |nil=>cases h
  |cons x c ih=>
   rw[List.map_cons,List.find?_cons,List.find?_cons]
   by_cases e:x.1=k
   ·rw[if_pos e]
    by_cases ez:z=k
    ·rw[if_pos ez,decide_eq_true (show(x.1,row).1=z by rw[ez];exact e)];rfl
    ·rw[if_neg ez,decide_eq_false (show ¬(x.1,row).1=z from fun y=>ez (y.symm.trans e))]
     by_cases h':(c.any fun x=>decide (x.1=k))=true
     ·have:=ih h'
      rw[if_neg ez] at this
      exact this
     ·have same:c.map (fun x=>if x.1=k then(x.1,row) else x)=c:=by
       have:∀x∈c,(if x.1=k then(x.1,row) else x)=x:=fun x hx=>if_neg fun y=>h' (List.any_eq_true.mpr ⟨x,hx,decide_eq_true y⟩)
       calc c.map (fun x=>if x.1=k then(x.1,row) else x)=c.map (fun x=>x):=List.map_congr_left this
        _=c:=List.map_id' c
      rw[same]
   ·rw[if_neg e]
    have h':(c.any fun x=>decide (x.1=k))=true:=by
     rw[List.any_cons,decide_eq_false e,Bool.false_or] at h
     exact h
    by_cases ex:x.1=z
    ·rw[decide_eq_true ex,if_neg (fun y=>e (ex.trans y))]
    ·rw[decide_eq_false ex]
     exact ih h'
 ·rw[if_neg h]
  unfold EO
  rw[List.find?_append]
  by_cases ez:z=k
  ·have:c.find? (fun x=>decide (x.1=z))=none:=List.find?_eq_none.mpr fun x hx y=>h (List.any_eq_true.mpr ⟨x,hx,by rw[←ez];exact y⟩)
   rw[this,if_pos ez,List.find?_cons,decide_eq_true ez.symm];rfl
  ·rw[if_neg ez,List.find?_cons,decide_eq_false (show ¬(k,row).1=z from fun y=>ez y.symm),List.find?_nil]
   cases c.find? (fun x=>decide (x.1=z))<;>rfl
theorem SY {bs:List Fp}{i b:Nat}{c:Fp}(hb:b<bs.length):(bs.set i c).getD b []=if i=b then c else bs.getD b []:=by
 unfold List.getD
 rw[List.getElem?_set]
 by_cases e:i=b
 ·rw[if_pos e,if_pos e,if_pos (by omega)];rfl
 ·rw[if_neg e,if_neg e]
theorem OZ {bs:List Fp}{z:Int}(h:0<bs.length):∀y∈JV bs z,0≤y:=fun y hy=>(M8 h y hy).1
theorem Tn (z:Int)(row:List Int)(x:Int):∀(l:List Int) (bs:List Fp) (b:Nat),b<bs.length→(∀y∈l,0≤y)→EO ((wr bs z row l).getD b []) x=if x=z∧(b:Int)∈l then some row else EO (bs.getD b []) x
 |[],bs,b,_,_=>by rw[if_neg (fun h=>nomatch h.2)];rfl
 |y::l,bs,b,hb,hl=>by
  have y0:=hl y List.mem_cons_self
  show EO ((wr (bs.set y.toNat (Hi (bs.getD y.toNat []) z row)) z row l).getD b []) x=_
  rw[Tn z row x l _ b (by rw[List.length_set];exact hb) fun u hu=>hl u (List.mem_cons_of_mem _ hu),SY hb]
  by_cases ex:x=z
  ·by_cases hm:(b:Int)∈l
   ·rw[if_pos ⟨ex,hm⟩,if_pos ⟨ex,List.mem_cons_of_mem _ hm⟩]
   ·rw[if_neg (fun h=>hm h.2)]
    by_cases e:y.toNat=b
    ·rw[if_pos e,OP,if_pos ex,if_pos ⟨ex,by rw[show(b:Int)=y by omega];exact List.mem_cons_self⟩]
    ·rw[if_neg e,if_neg fun h=>(List.mem_cons.mp h.2).elim (fun z=>e (by omega)) hm]
  ·rw[if_neg (show ¬(x=z∧(b:Int)∈l) from fun h=>ex h.1),if_neg (show ¬(x=z∧(b:Int)∈y::l) from fun h=>ex h.1)]
   by_cases e:y.toNat=b
   ·rw[if_pos e,OP,if_neg ex,e]
   ·rw[if_neg e]
end
section
variable {P:Program}{w:World}{K:W.Frag}{mg:Str→Option Value}{base:Heap}{f Ab Ad Aa Ae:Addr}{XC:Nat→Addr}{fd:FuncData}
def Iu (K:W.Frag):Sp:=fun vs H Q _=>∃v b,vs=[v]∧Rep NL H (Dk b) v∧FJ b∧∀H',Aq H H'→Q (.int ((wT (Dk b)).length:Int)) H'
theorem Ph (T:Txt K mg Ab Ad Aa Ae XC)(F:Fun K "size_of" "size_of" EA f fd)(CI:Def P w K mg base 9 "words_of" ["thing"] (Fq K)):FnOk P w K mg base B9 10 f fd ["block"] (Iu K):=by
 exists O5
 ·obtain⟨v,b,rfl,_⟩:=h
  rfl
 obtain⟨v,b,rfl,hv,ok,q⟩:=h
 refine⟨_,(!Al (!An (!Ar AI (by rfl) T.b_len Bp (!Ac (!AE CI (by trivial) rfl (!Ac (pv 0) (!Ah) (by rfl)) (by decide) (by rfl) (by rfl)) (!Ah) (by rfl)) (by decide) (by decide) (by rfl) (by rfl)))),?_⟩
 try dsimp only[Cs,Cx.nox,Cx.wish]
 have:=Qs b
 have:=size_le ok
 refine⟨_,rfl,v,Dk b,rfl,hv,IB ok,by omega,fun wl H2 s2 nw hw=>⟨wl,_,rfl,.inl (AU.of hw),?_⟩⟩
 rw[List.length_map]
 exact q _ s2
def A4:Bk→List Tg
 | .piece _=>[]
 | .row _ ts=>ts
 | .folder es=>es.map (·.tg)
def Lz (H:Hp):V→V
 | .ref a=>match H a with
  |some (.tup [_,_,t])=>t
  |_=>.non
 |_=>.non
theorem II {H:Hp}{a:Addr}{x y z:V}(h:H a=some (.tup [x,y,z])):Lz H (.ref a)=z:=by
 show(match H a with|some (.tup [_,_,t])=>t|_=>V.non)=z
 rw[h]
theorem KN {H:Hp}:∀{es:List En} {us:List V},AB NL H (es.map KW) us→AB NL H ((es.map (·.tg)).map Fd) (us.map (Lz H))
 |[],us,h=>by cases h;exact rfl
 |e::es,us,h=>by
  obtain⟨v,vs,rfl,h1,h2⟩:=h
  obtain⟨a,b,rfl,e1,e2⟩:=ET h1
  refine⟨_,_,rfl,?_,KN h2⟩
  rw[II e1]
  exact IC e2
def DU (K:W.Frag):Sp:=fun vs H Q _=>∃v b,vs=[v]∧Rep NL H (Dk b) v∧FJ b∧∀l us H',Aq H H'→H l=none→H' l=some (.lst us)→AB NL H' ((A4 b).map Fd) us→Q (.ref l) H'
theorem Pp (T:Txt K mg Ab Ad Aa Ae XC)(F:Fun K "tags_in" "tags_in" Ez f fd):FnOk P w K mg base B9 1 f fd ["block"] (DU K):=by
 exists Pz
 ·obtain⟨v,b,rfl,_⟩:=h
  rfl
 obtain⟨v,b,rfl,hv,ok,q⟩:=h
 refine⟨_,(!Af (!AM (!AF Bu (!AG AH (pv 0) (!Ak) (fun _ _=>rfl)) (!Ax rfl T.c_PIECE (by decide)) (AC _)) (!Al (!An (!Cq (!Ah)))) (!Av)) (!Af (!AM (!AF Bu (!AG AH (pv 0) (!Ak) (fun _ _=>rfl)) (!Ax rfl T.c_ROW (by decide)) (AC _)) (!Al (!An (!EF GW (by rfl) T.b_list NH (!Ac (!AG AH (pv 0) (!Ak) (fun _ _=>rfl)) (!Ah) (by rfl)) (by decide) (by decide) (by rfl) (by rfl)))) (!Av)) (!Al (!An (@BE _ ["name","kind","tag"] _ _ _ _ _ _ _ _ _ _ rfl (!Ea (!AG AH (pv 0) (!Ak) (fun _ _=>rfl))) (by decide +kernel) (fun C s H fp=>⟨(@HI _ (K) _ _ _ _ (3) (by rfl) rfl (!AS (@As _ _ (0) _ (show(["name","kind","tag"]:List Str).Nodup by decide +kernel) rfl (by trivial) (by trivial)) (!AS (@As _ _ (1) _ (show(["name","kind","tag"]:List Str).Nodup by decide +kernel) rfl (by trivial) (by trivial)) (!AS (@As _ _ (2) _ (show(["name","kind","tag"]:List Str).Nodup by decide +kernel) rfl (by trivial) (by trivial)) (!Er) (by rfl)) (by rfl)) (by rfl)) (by rfl) (by rfl)),(!AV),(pv 2)⟩) (by intro _;rfl)))))),?_⟩
 try dsimp only[Cs,Cx.nox,Cx.wish]
 cases b with
 |piece z=>
  obtain⟨a,rfl,e⟩:=FX hv
  refine⟨_,rfl,a,_,_,_,rfl,rfl,AY.of e,rfl,rfl,_,rfl,Cz rfl ?_⟩
  exact⟨LY,fun l hl=>q l [] _ (Am hl _) hl Ag rfl⟩
 |row lv ts=>
  obtain⟨a,d,us,rfl,e,e2,r⟩:=IP hv
  refine⟨_,rfl,a,_,_,_,rfl,rfl,AY.of e,rfl,rfl,_,rfl,AK rfl ?_⟩
  refine⟨_,rfl,a,_,_,_,rfl,rfl,AY.of e,rfl,rfl,_,rfl,Cz rfl ?_⟩
  exact⟨_,rfl,a,_,_,_,rfl,rfl,AY.of e,rfl,d,_,rfl,.inr (AY.of e2),fun l hl=>q l us _ (Am hl _) hl Ag (AB.same (Am hl _) _ _ r)⟩
 |folder es=>
  obtain⟨a,d,us,rfl,e,e2,r⟩:=DE hv
  refine⟨_,rfl,a,_,_,_,rfl,rfl,AY.of e,rfl,rfl,_,rfl,AK rfl ?_⟩
  refine⟨_,rfl,a,_,_,_,rfl,rfl,AY.of e,rfl,rfl,_,rfl,AK rfl ?_⟩
  refine⟨_,rfl,a,_,_,_,rfl,rfl,AY.of e,rfl,d,rfl,⟨_,AY.of e2⟩,?_⟩
  have lu:us.length=es.length:=by rw[AB.len _ _ r,List.length_map]
  have l16:es.length≤16:=ok.1
  refine MD (xs:=us) (Lz H) (Du e2) (by omega) (fun x hx=>?_) (fun b x1 x2 x3 H' R hx hb s' hR=>⟨_,rfl,?_⟩) fun l H' nl s' hl=>q l _ H' s' nl hl (AB.same s' _ _ (KN r))
  ·obtain⟨en,_,hr⟩:=Dx r hx
   obtain⟨b,c,rfl,e3,_⟩:=ET hr
   exact⟨b,_,_,_,rfl,e3⟩
  ·have:=hR H' (Aq.refl _)
   rw[II hb] at this
   exact this
def FU (t:Addr)(n:Int)(l:Addr)(k e s:Int):List (Str×V):=[("own_tag",.ref t),("own_size",.int n),("named",.ref l),("times_named",.int k),("entries_beneath",.int e),("steps_beneath",.int s)]
def Dy (K:W.Frag)(C:Addr):Sp:=fun vs H Q _=>∃(x dx ta:Addr) (v:V) (b:Bk),vs=[.ref x,.ref ta,v]∧H x=some (.ins C dx [])∧Rep NL H (Dk b) v∧FJ b∧
 ∀l us H',(∀c o,H c=some o→c≠x→H' c=some o)→H l=none→H' l=some (.lst us)→AB NL H' ((A4 b).map Fd) us→H' x=some (.ins C dx (FU ta ((wT (Dk b)).length:Int) l 0 0 0))→Q .non H'
theorem IJ (T:Txt K mg Ab Ad Aa Ae XC)(F:Fun K "__init__" "TakenCell.__init__" Bw f fd)(JD:Def P w K mg base 10 "size_of" ["block"] (Iu K))(BW:Def P w K mg base 1 "tags_in" ["block"] (DU K)):FnOk P w K mg base B9 11 f fd ["self","own_tag","block"] (Dy K Aa):=by
 exists IH
 ·obtain⟨x,dx,ta,v,b,rfl,_⟩:=h
  rfl
 obtain⟨x,dx,ta,v,b,rfl,hx,hv,ok,q⟩:=h
 refine⟨_,(!Af (!Cp (pv 0) (pv 1) rfl) (!Af (!Cp (pv 0) (!AE JD (by trivial) rfl (!Ac (pv 2) (!Ah) (by rfl)) (by decide) (by rfl) (by rfl)) rfl) (!Af (!Cp (pv 0) (!AE BW (by trivial) rfl (!Ac (pv 2) (!Ah) (by rfl)) (by decide) (by rfl) (by rfl)) rfl) (!Af (!Cp (pv 0) (!Ak) rfl) (!Af (!Cp (pv 0) (!Ak) rfl) (!Al (!Cp (pv 0) (!Ak) rfl))))))),?_⟩
 try dsimp only[Cs,Cx.nox,Cx.wish]
 have tp:∀(o:HO) c ys,H c=some (.tup ys)→(upd H x o) c=some (.tup ys):=fun o c ys h=>by rw[Aj (AW h hx (by intro z;cases z))];exact h
 refine⟨_,rfl,_,rfl,x,Aa,dx,[],rfl,hx,T.cl_TakenCell,T.n_TakenCell_own_tag,(by show 0<1000;decide),?_⟩
 refine⟨_,rfl,v,b,rfl,DX (tp _) _ _ hv,ok,fun H1 s1=>⟨_,rfl,x,Aa,dx,_,rfl,s1.get Ag,T.cl_TakenCell,T.n_TakenCell_own_size,(by show 1<1000;decide),?_⟩⟩
 have hx1:∀o,(upd H1 x o) x=some o:=fun o=>Ag
 have k1:∀o c u,H c=some u→c≠x→(upd H1 x o) c=some u:=fun o c u h n=>by rw[Aj n];exact s1.get (by rw[Aj n];exact h)
 refine⟨_,rfl,v,b,rfl,DX (fun c ys h=>k1 _ c _ h (AW h hx (by intro z;cases z))) _ _ hv,ok,fun l us H2 s2 nl hl r=>⟨_,rfl,x,Aa,dx,_,rfl,s2.get (hx1 _),T.cl_TakenCell,T.n_TakenCell_named,(by show 2<1000;decide),?_⟩⟩
 have nlx:l≠x:=fun z=>by rw[z,hx1] at nl;cases nl
 refine⟨_,rfl,x,Aa,dx,_,rfl,Ag,T.cl_TakenCell,T.n_TakenCell_times_named,(by show 3<1000;decide),?_⟩
 refine⟨_,rfl,x,Aa,dx,_,rfl,Ag,T.cl_TakenCell,T.n_TakenCell_entries_beneath,(by show 4<1000;decide),?_⟩
 refine⟨_,rfl,x,Aa,dx,_,rfl,Ag,T.cl_TakenCell,T.n_TakenCell_steps_beneath,(by show 5<1000;decide),?_⟩
 rw[Fi,Fi,Fi]
 have nlH:H l=none:=by
  cases h:H l with
  |none=>rfl
  |some o=>rw[k1 _ l o h nlx] at nl;cases nl
 refine q l us _ (fun c o h n=>by rw[Aj n];exact s2.get (k1 _ c o h n)) nlH (by rw[Aj nlx];exact hl) (BS (fun c ys h=>?_) _ _ r) Ag
 rw[Aj (fun z=>by have:=s2.get (hx1 (.ins Aa dx (Ei "own_size" (V.int ((wT (Dk b)).length:Int)) (Ei "own_tag" (V.ref ta) []))));rw[z,this] at h;cases h)];exact h
def K5 (bo dt dz dd:Addr)(n:Int):List (Str×V):=[("boards",.ref bo),("taken",.ref dt),("by_sums",.ref dz),("draft",.ref dd),("first_maybe_free",.int n)]
def GM (K:W.Frag)(C:Addr):Sp:=fun vs H Q _=>∃(x dx bo:Addr),vs=[.ref x,.ref bo]∧H x=some (.ins C dx [])∧
 ∀dt dz dd H',(∀c o,H c=some o→c≠x→H' c=some o)→dt≠dz→dt≠dd→dz≠dd→H' dt=some (.dK [])→H' dz=some (.dK [])→H' dd=some (.dK [])→H' x=some (.ins C dx (K5 bo dt dz dd 1))→(H dt=none∧H dz=none∧H dd=none)→Q .non H'
theorem Na (T:Txt K mg Ab Ad Aa Ae XC)(F:Fun K "__init__" "Pool.__init__" Dh f fd):FnOk P w K mg base B9 1 f fd ["self","boards"] (GM K Ae):=by
 exists MU
 ·obtain⟨x,dx,bo,rfl,_⟩:=h
  rfl
 obtain⟨x,dx,bo,rfl,hx,q⟩:=h
 refine⟨_,(!Af (!Cp (pv 0) (pv 1) rfl) (!Af (!Cp (pv 0) (!FW) rfl) (!Af (!Cp (pv 0) (!FW) rfl) (!Af (!Cp (pv 0) (!FW) rfl) (!Al (!Cp (pv 0) (!Ak) rfl)))))),?_⟩
 try dsimp only[Cs,Cx.nox,Cx.wish]
 refine⟨_,rfl,_,rfl,x,Ae,dx,[],rfl,hx,T.cl_Pool,T.n_Pool_boards,(by show 0<1000;decide),?_⟩
 refine fun dt hdt=>?_
 have n1:dt≠x:=fun z=>by rw[z,Ag] at hdt;cases hdt
 refine⟨_,rfl,x,Ae,dx,_,rfl,(Am hdt _).get Ag,T.cl_Pool,T.n_Pool_taken,(by show 1<1000;decide),?_⟩
 refine fun dz hdz=>?_
 have n2:dz≠x:=fun z=>by rw[z,Ag] at hdz;cases hdz
 have e1:dz≠dt:=fun z=>by rw[z,Aj n1,Ag] at hdz;cases hdz
 refine⟨_,rfl,x,Ae,dx,_,rfl,(Am hdz _).get Ag,T.cl_Pool,T.n_Pool_by_sums,(by show 2<1000;decide),?_⟩
 refine fun dd hdd=>?_
 have n3:dd≠x:=fun z=>by rw[z,Ag] at hdd;cases hdd
 have e2:dd≠dz:=fun z=>by rw[z,Aj n2,Ag] at hdd;cases hdd
 have e3:dd≠dt:=fun z=>by rw[z,Aj n1,Aj (Ne.symm e1),Aj n1,Ag] at hdd;cases hdd
 refine⟨_,rfl,x,Ae,dx,_,rfl,(Am hdd _).get Ag,T.cl_Pool,T.n_Pool_draft,(by show 3<1000;decide),?_⟩
 refine⟨_,rfl,x,Ae,dx,_,rfl,Ag,T.cl_Pool,T.n_Pool_first_maybe_free,(by show 4<1000;decide),?_⟩
 refine q dt dz dd _ (fun c o h n=>?_) (Ne.symm e1) (Ne.symm e3) (Ne.symm e2) ?_ ?_ ?_ Ag ⟨by rw[Aj n1] at hdt;exact hdt,by rw[Aj n2,Aj e1,Aj n2] at hdz;exact hdz,by rw[Aj n3,Aj e2,Aj n3,Aj e3,Aj n3] at hdd;exact hdd⟩
 ·have a1:c≠dt:=fun z=>by rw[←z,Aj n,h] at hdt;cases hdt
  have b1:=h
  have a2:c≠dz:=fun z=>by rw[←z,Aj n,Aj a1,Aj n,h] at hdz;cases hdz
  have a3:c≠dd:=fun z=>by rw[←z,Aj n,Aj a2,Aj n,Aj a1,Aj n,h] at hdd;cases hdd
  rw[Aj n,Aj n,Aj a3,Aj n,Aj a2,Aj n,Aj a1,Aj n];exact h
 ·rw[Aj n1,Aj n1,Aj (Ne.symm e3),Aj n1,Aj (Ne.symm e1),Aj n1,Ag]
 ·rw[Aj n2,Aj n2,Aj (Ne.symm e2),Aj n2,Ag]
 ·rw[Aj n3,Aj n3,Ag]
structure Cl where
 z:Int
 y:Int
 bk:Bk
 v:V
 c:Addr
 dx:Addr
 ta:Addr
 l:Addr
 k:Int
 en:Int
 st:Int
structure Pl where
 dp:Addr
 bo:Addr
 dt:Addr
 dz:Addr
 dd:Addr
 n:Int
def Jm (C:Addr)(H:Hp)(e:Cl):Prop:=H e.c=some (.ins C e.dx (FU e.ta ((wT (Dk e.bk)).length:Int) e.l e.k e.en e.st))∧H e.ta=some (.tup [.int e.z,.int e.y,.int (A9 e.bk)])∧Rep NL H (Dk e.bk) e.v∧FJ e.bk
def NI (cs:List Cl):List (Key×V):=cs.map fun e=>(Sum.inl e.z,.ref e.c)
def P9 (cs:List Cl):List (Key×V):=cs.map fun e=>(Sum.inl e.z,e.v)
def Ek (CP CT:Addr)(H:Hp)(p:Addr)(q:Pl)(cs:List Cl):Prop:=H p=some (.ins CP q.dp (K5 q.bo q.dt q.dz q.dd q.n))∧H q.dt=some (.dK (NI cs))∧(∀e∈cs,Jm CT H e)∧(cs.map (·.z)).Nodup
theorem NA {κ:Type}[DecidableEq κ]:∀{kvs:List (κ×V)} (_:(kvs.map (·.1)).Nodup) {k:κ} {v:V},(k,v)∈kvs→Ct kvs k=some v
 |[],_,_,_,h=>nomatch h
 |x::kvs,nd,k,v,h=>by
  rw[List.map_cons,List.nodup_cons] at nd
  rcases List.mem_cons.mp h with rfl|h
  ·exact G9 rfl
  ·rw[Hq (fun e=>nd.1 (by rw[e];exact List.mem_map.mpr ⟨_,h,rfl⟩))]
   exact NA nd.2 h
theorem JG {g:Cl→V}:∀{cs:List Cl},(cs.map (·.z)).Nodup→((cs.map fun e=>((Sum.inl e.z:Key),g e)).map (·.1)).Nodup
 |[],_=>List.nodup_nil
 |e::cs,h=>by
  rw[List.map_cons,List.nodup_cons] at h
  rw[List.map_cons,List.map_cons,List.nodup_cons]
  refine⟨fun q=>h.1 ?_,JG h.2⟩
  obtain⟨x,hx,e1⟩:=List.mem_map.mp q
  obtain⟨u,hu,rfl⟩:=List.mem_map.mp hx
  exact List.mem_map.mpr ⟨u,hu,Sum.inl.inj e1⟩
theorem Jx {cs:List Cl}(nd:(cs.map (·.z)).Nodup){e:Cl}(h:e∈cs):Ct (NI cs) (Sum.inl e.z)=some (.ref e.c):=NA (JG nd) (List.mem_map.mpr ⟨e,h,rfl⟩)
theorem RT {cs:List Cl}(nd:(cs.map (·.z)).Nodup){e:Cl}(h:e∈cs):Ct (P9 cs) (Sum.inl e.z)=some e.v:=NA (JG nd) (List.mem_map.mpr ⟨e,h,rfl⟩)
def Fe (K:W.Frag)(CP CT:Addr):Sp:=fun vs H Q _=>∃p q cs e,vs=[.ref p,.int e.z]∧Ek CP CT H p q cs∧e∈cs∧Q (.ref e.ta) H
theorem Ou (T:Txt K mg Ab Ad Aa Ae XC)(F:Fun K "tag" "Pool.tag" DV f fd):FnOk P w K mg base B9 1 f fd ["self","number"] (Fe K Ae Aa):=by
 exists OW
 ·obtain⟨p,q,cs,e,rfl,_⟩:=h
  rfl
 obtain⟨p,q,cs,e,rfl,⟨h1,h2,h4,nd⟩,he,hq⟩:=h
 have hu:=CC hr
 refine⟨_,(!Al (!An (!AR (!Gk hu (!AR (pv 0) rfl) (pv 1) (fun _ _=>rfl)) rfl))),?_⟩
 try dsimp only[Cs,Cx.nox,Cx.wish]
 have g:CW H q.dt (.int e.z) (some (.ref e.c)):=by
  have:=CW.k (k:=Sum.inl e.z) h2
  rw[Jx nd he] at this
  exact this
 exact⟨_,rfl,p,Ae,q.dp,_,_,rfl,h1,T.cl_Pool,T.n_Pool_taken,rfl,_,rfl,q.dt,_,rfl,g,e.c,Aa,e.dx,_,_,rfl,(h4 e he).1,T.cl_TakenCell,T.n_TakenCell_own_tag,rfl,hq⟩
def D6 (K:W.Frag)(CP CT:Addr):Sp:=fun vs H Q _=>∃p q cs e,vs=[.ref p,.int e.z]∧Ek CP CT H p q cs∧e∈cs∧Q (.int e.en) H
theorem Kq (T:Txt K mg Ab Ad Aa Ae XC)(F:Fun K "entries" "Pool.entries" BO f fd):FnOk P w K mg base B9 1 f fd ["self","number"] (D6 K Ae Aa):=by
 exists Kf
 ·obtain⟨p,q,cs,e,rfl,_⟩:=h
  rfl
 obtain⟨p,q,cs,e,rfl,⟨h1,h2,h4,nd⟩,he,hq⟩:=h
 have hu:=CC hr
 refine⟨_,(!Al (!An (!AR (!Gk hu (!AR (pv 0) rfl) (pv 1) (fun _ _=>rfl)) rfl))),?_⟩
 try dsimp only[Cs,Cx.nox,Cx.wish]
 have g:CW H q.dt (.int e.z) (some (.ref e.c)):=by
  have:=CW.k (k:=Sum.inl e.z) h2
  rw[Jx nd he] at this
  exact this
 exact⟨_,rfl,p,Ae,q.dp,_,_,rfl,h1,T.cl_Pool,T.n_Pool_taken,rfl,_,rfl,q.dt,_,rfl,g,e.c,Aa,e.dx,_,_,rfl,(h4 e he).1,T.cl_TakenCell,T.n_TakenCell_entries_beneath,rfl,hq⟩
def GO (K:W.Frag)(CP CT:Addr):Sp:=fun vs H Q _=>∃p q cs e,vs=[.ref p,.int e.z]∧Ek CP CT H p q cs∧e∈cs∧Q (.int e.st) H
theorem MJ (T:Txt K mg Ab Ad Aa Ae XC)(F:Fun K "deep" "Pool.deep" C8 f fd):FnOk P w K mg base B9 1 f fd ["self","number"] (GO K Ae Aa):=by
 exists MV
 ·obtain⟨p,q,cs,e,rfl,_⟩:=h
  rfl
 obtain⟨p,q,cs,e,rfl,⟨h1,h2,h4,nd⟩,he,hq⟩:=h
 have hu:=CC hr
 refine⟨_,(!Al (!An (!AR (!Gk hu (!AR (pv 0) rfl) (pv 1) (fun _ _=>rfl)) rfl))),?_⟩
 try dsimp only[Cs,Cx.nox,Cx.wish]
 have g:CW H q.dt (.int e.z) (some (.ref e.c)):=by
  have:=CW.k (k:=Sum.inl e.z) h2
  rw[Jx nd he] at this
  exact this
 exact⟨_,rfl,p,Ae,q.dp,_,_,rfl,h1,T.cl_Pool,T.n_Pool_taken,rfl,_,rfl,q.dt,_,rfl,g,e.c,Aa,e.dx,_,_,rfl,(h4 e he).1,T.cl_TakenCell,T.n_TakenCell_steps_beneath,rfl,hq⟩
def BJ (K:W.Frag)(CP CT CB:Addr):Sp:=fun vs H Q _=>(∃p q cs e,∃(ta:Addr) (y k:V),vs=[.ref p,.ref ta]∧Ek CP CT H p q cs∧H q.dd=some (.dK (P9 cs))∧e∈cs∧H ta=some (.tup [.int e.z,y,k])∧Q e.v H)∨
 ∃p q cs e,∃(ta:Addr) (ds:List Addr) (bs:List Fp) (n:Int) (lf:V),vs=[.ref p,.ref ta]∧Ek CP CT H p q cs∧H q.dd=some (.dK [])∧e∈cs∧H ta=some (.tup [.int e.z,.int e.y,.int (A9 e.bk)])∧G0 CB H q.bo ds bs n lf∧0<bs.length∧Lies bs e.z e.y e.bk∧MX e.z e.y∧(JV bs e.z).filter (hasB bs e.z)≠[]∧∀v H',Aq H H'→Rep NL H' (Dk e.bk) v→Q v H'
theorem L0 (T:Txt K mg Ab Ad Aa Ae XC)(F:Fun K "block" "Pool.block" CU f fd)(Jq:Def P w K mg base 16 "fetched" ["boards","tag"] (Ih K Ad)):FnOk P w K mg base B9 17 f fd ["self","tag"] (BJ K Ae Aa Ad):=by
 exists L5
 ·rcases h with⟨p,q,cs,e,ta,y,k,rfl,_⟩|⟨p,q,cs,e,ta,ds,bs,n,lf,rfl,_⟩
  ·rfl
  ·rfl
 have hu:=CC hr
 refine⟨_,(!Af (!AM (!G2 (!Se hu (!AG AH (pv 1) (!Ak) (fun _ _=>rfl)) (!AR (pv 0) rfl)) (by first|exact Dq _ (by decide) (by decide)|rfl)) (!Al (!An (!Gk hu (!AR (pv 0) rfl) (!AG AH (pv 1) (!Ak) (fun _ _=>rfl)) (fun _ _=>rfl)))) (!Av)) (!Al (!An (!AE Jq (by trivial) rfl (!Ac (!AR (pv 0) rfl) (!Ac (pv 1) (!Ah) (by rfl)) (by rfl)) (by decide) (by rfl) (by rfl))))),?_⟩
 try dsimp only[Cs,Cx.nox,Cx.wish]
 rcases h with⟨p,q,cs,e,ta,y,k,rfl,⟨h1,h2,h4,nd⟩,h3,he,ht,hq⟩|⟨p,q,cs,e,ta,ds,bs,n,lf,rfl,⟨h1,h2,h4,nd⟩,h3,he,ht,hB,b0,li,nb,ha,hq⟩
 ·have g:CW H q.dd (.int e.z) (some e.v):=by
   have:=CW.k (k:=Sum.inl e.z) h3
   rw[RT nd he] at this
   exact this
  refine⟨_,rfl,ta,_,_,_,rfl,rfl,AY.of ht,rfl,_,rfl,p,Ae,q.dp,_,_,rfl,h1,T.cl_Pool,T.n_Pool_draft,rfl,q.dd,_,rfl,g,?_⟩
  refine⟨_,rfl,Cz rfl ?_⟩
  exact⟨_,rfl,p,Ae,q.dp,_,_,rfl,h1,T.cl_Pool,T.n_Pool_draft,rfl,_,rfl,ta,_,_,_,rfl,rfl,AY.of ht,rfl,q.dd,_,rfl,g,hq⟩
 ·have g:CW H q.dd (.int e.z) none:=CW.k (k:=Sum.inl e.z) h3
  refine⟨_,rfl,ta,_,_,_,rfl,rfl,AY.of ht,rfl,_,rfl,p,Ae,q.dp,_,_,rfl,h1,T.cl_Pool,T.n_Pool_draft,rfl,q.dd,_,rfl,g,?_⟩
  refine⟨_,rfl,AK rfl ?_⟩
  exact⟨_,rfl,p,Ae,q.dp,_,_,rfl,h1,T.cl_Pool,T.n_Pool_boards,rfl,_,rfl,q.bo,ds,bs,n,lf,ta,e.z,e.y,e.bk,rfl,hB,b0,ht,li,(h4 e he).2.2.2,nb,ha,hq⟩
def Et (K:W.Frag)(CP CT:Addr):Sp:=fun vs H Q _=>∃p q cs e,∃(ta:Addr) (y k:V),vs=[.ref p,.ref ta]∧Ek CP CT H p q cs∧e∈cs∧H ta=some (.tup [.int e.z,y,k])∧Q .non (upd H e.c (.ins CT e.dx (FU e.ta ((wT (Dk e.bk)).length:Int) e.l (e.k+1) e.en e.st)))
theorem Nh (T:Txt K mg Ab Ad Aa Ae XC)(F:Fun K "hold" "Pool.hold" Dg f fd):FnOk P w K mg base B9 1 f fd ["self","tag"] (Et K Ae Aa):=by
 exists IW
 ·obtain⟨p,q,cs,e,ta,y,k,rfl,_⟩:=h
  rfl
 obtain⟨p,q,cs,e,ta,y,k,rfl,⟨h1,h2,h4,nd⟩,he,ht,hq⟩:=h
 have hu:=CC hr
 refine⟨_,(!Af (@Ay _ _ (2) _ _ _ _ IW.nd rfl (by trivial) (!Gk hu (!AR (pv 0) rfl) (!AG AH (pv 1) (!Ak) (fun _ _=>rfl)) (fun _ _=>rfl)) (by rfl) (by trivial)) (!Al (!HH (pv 2) (!Ak) Gy))),?_⟩
 try dsimp only[Cs,Cx.nox,Cx.wish]
 have g:CW H q.dt (.int e.z) (some (.ref e.c)):=by
  have:=CW.k (k:=Sum.inl e.z) h2
  rw[Jx nd he] at this
  exact this
 have hc:=(h4 e he).1
 refine⟨_,rfl,p,Ae,q.dp,_,_,rfl,h1,T.cl_Pool,T.n_Pool_taken,rfl,_,rfl,ta,_,_,_,rfl,rfl,AY.of ht,rfl,q.dt,_,rfl,g,?_⟩
 exact⟨_,rfl,e.c,Aa,e.dx,_,_,rfl,hc,T.cl_TakenCell,T.n_TakenCell_times_named,rfl,_,_,rfl,rfl,e.dx,_,hc,(by show 6<1000;decide),hq⟩
def CV (K:W.Frag)(CP CT:Addr):Sp:=fun vs H Q _=>∃p q cs,vs=[.ref p]∧Ek CP CT H p q cs∧(∀(i:Nat) e,cs[i]?=some e→e.z=(i:Int)+1)∧1≤q.n∧q.n≤(cs.length:Int)+1∧
 ∀H',H' p=some (.ins CP q.dp (K5 q.bo q.dt q.dz q.dd ((cs.length:Int)+1)))→(∀b,b≠p→H' b=H b)→Q (.int ((cs.length:Int)+1)) H'
theorem HR (T:Txt K mg Ab Ad Aa Ae XC)(F:Fun K "free_number" "Pool.free_number" Be f fd):FnOk P w K mg base B9 1 f fd ["self"] (CV K Ae Aa):=by
 exists HS
 ·obtain⟨p,q,cs,rfl,_⟩:=h
  rfl
 obtain⟨p,q,cs,rfl,⟨h1,h2,h4,nd⟩,zs,n1,n2,hq⟩:=h
 have hu:=CC hr
 refine⟨_,(!Af (!Om PassesOwn.never (!G2 (!Se hu (!AR (pv 0) rfl) (!AR (pv 0) rfl)) (by first|exact Dq _ (by decide) (by decide)|rfl)) (!Al (!HH (pv 0) (!Ak) Gy))) (!Al (!An (!AR (pv 0) rfl)))),?_⟩
 try dsimp only[Cs,Cx.nox,Cx.wish]
 have nt:q.dt≠p:=AW h2 h1 (by intro z;cases z)
 have vn:∀j:Int,(cs.length:Int)<j→Ct (NI cs) (Sum.inl j)=none:=fun j hj=>by
  unfold Ct
  rw[Option.map_eq_none_iff,List.find?_eq_none]
  intro x hx
  obtain⟨e,he,rfl⟩:=List.mem_map.mp hx
  obtain⟨i,hi,rfl⟩:=List.getElem_of_mem he
  have:=zs i _ (List.getElem?_eq_getElem hi)
  intro z
  have:=Sum.inl.inj (of_decide_eq_true z)
  omega
 refine⟨fun m σ H2=>∃j:Int,m=((cs.length:Int)+1-j).toNat∧1≤j∧j≤(cs.length:Int)+1∧σ=[some (.ref p)]∧H2 p=some (.ins Ae q.dp (K5 q.bo q.dt q.dz q.dd j))∧∀b,b≠p→H2 b=H b,⟨_,q.n,rfl,n1,n2,rfl,h1,fun _ _=>rfl⟩,?_⟩
 rintro m σ H2 ⟨j,rfl,j1,j2,rfl,hp,ho⟩
 have hdt:H2 q.dt=some (.dK (NI cs)):=by rw[ho _ nt];exact h2
 refine⟨_,rfl,p,Ae,q.dp,_,_,rfl,hp,T.cl_Pool,T.n_Pool_first_maybe_free,rfl,_,rfl,p,Ae,q.dp,_,_,rfl,hp,T.cl_Pool,T.n_Pool_taken,rfl,q.dt,_,rfl,CW.k (k:=Sum.inl j) hdt,_,rfl,D5 (fun c=>?_) (fun c=>?_)⟩
 ·have hj:j≤(cs.length:Int):=Classical.byContradiction fun z=>by
   rw[vn j (by omega)] at c
   cases c
  refine⟨fun σ H'=>σ=[some (.ref p)]∧H' p=some (.ins Ae q.dp (K5 q.bo q.dt q.dz q.dd (j+1)))∧∀b,b≠p→H' b=H b,?_,?_⟩
  ·rintro σ' H' ⟨rfl,a1,a2⟩
   exact⟨((cs.length:Int)+1-(j+1)).toNat,by omega,j+1,rfl,by omega,by omega,rfl,a1,a2⟩
  ·refine⟨_,rfl,p,Ae,q.dp,_,_,rfl,hp,T.cl_Pool,T.n_Pool_first_maybe_free,rfl,_,_,rfl,rfl,q.dp,_,hp,(by show 5<1000;decide),rfl,Ag,fun b hb=>?_⟩
   rw[Aj hb];exact ho b hb
 ·have hj:j=(cs.length:Int)+1:=Classical.byContradiction fun z=>by
   have li:(j-1).toNat<cs.length:=by omega
   have hz:=zs _ _ (List.getElem?_eq_getElem li)
   have:=Jx nd (List.getElem_mem li)
   rw[hz,show(((j-1).toNat:Nat):Int)+1=j by omega] at this
   rw[this] at c
   exact c rfl
  subst hj
  exact⟨_,rfl,p,Ae,q.dp,_,_,rfl,hp,T.cl_Pool,T.n_Pool_first_maybe_free,rfl,hq H2 hp ho⟩
theorem Lq {J:It} {xs:List V} {te:TE} {Q:VK} {s0:Option V} {σ:St} {H:Hp} (f:V→V) (hJ:N0 J H xs) (hn:xs.length≤1000000) (htg:∀x∈xs,∃a x1 x2 x3,x=.ref a∧H a=some (.tup [x1,x2,x3]))
  (helt:∀a x1 x2 x3 (H':Hp) (R:VK),V.ref a∈xs→H a=some (.tup [x1,x2,x3])→Aq H H'→(∀H'',Aq H' H''→R (f (.ref a)) H'')→te [some x1,some x2,some x3,s0] H' R)
  (hQ:∀l H',H l=none→Aq H H'→H' l=some (.lst (xs.map f))→Q (.ref l) H') :
  Gi [none,none,none,some 0] (RL K 3 (Hs (Cv 0) (Hs (Cv 1) (Hs (Cv 2) Sn)))) NN te (s0::σ) Q J H:=by
 intro l hl
 refine⟨fun i m σ' H'=>m=xs.length-i∧i≤xs.length∧(∃y0 y1 y2,σ'=[y0,y1,y2,s0])∧Aq H H'∧H' l=some (.lst ((xs.take i).map f)),⟨xs.length,by simp,Nat.zero_le _,⟨_,_,_,rfl⟩,Am hl _,by rw[Ag,List.take_zero,List.map_nil]⟩,?_⟩
 rintro i m σ' H' ⟨rfl,hi,⟨y0,y1,y2,rfl⟩,hs,hl'⟩
 obtain⟨h1,h2,h3⟩:=hJ H' hs i
 by_cases hlt:i<xs.length
 ·refine .inr ⟨h1 hlt,fun x H'' y=>?_⟩
  obtain⟨rfl,hx⟩:=h2 x H'' y
  have hx:=hx hlt
  obtain⟨a,x1,x2,x3,rfl,ha⟩:=htg x (List.mem_of_getElem? hx)
  refine⟨a,_,rfl,AY.of (hs.get ha),rfl,_,_,rfl,_,_,rfl,_,_,rfl,rfl,?_⟩
  refine helt a x1 x2 x3 H'' _ (List.mem_of_getElem? hx) ha hs fun H4 s4=>?_
  refine⟨_,s4.get hl',Bd (by rw[List.length_map,List.length_take];omega),xs.length-(i+1),by omega,rfl,hlt,⟨_,_,_,rfl⟩,A0 (hs.trans s4) hl _,?_⟩
  rw[Ag,List.take_add_one,hx]
  simp
 ·have e:i=xs.length:=by omega
  subst e
  exact .inl ⟨h3 (Nat.le_refl _),hQ l H' hl hs (by rw[hl',List.take_of_length_le (Nat.le_refl _)])⟩
theorem Jm.tup {C:Addr}{H H':Hp}{e:Cl}(hc:H' e.c=H e.c)(ht:∀c ys,H c=some (.tup ys)→H' c=some (.tup ys))(h:Jm C H e):Jm C H' e:=⟨by rw[hc];exact h.1,ht _ _ h.2.1,DX ht _ _ h.2.2.1,h.2.2.2⟩
theorem Ek.same {CP CT:Addr}{H H':Hp}{p:Addr}{q:Pl}{cs:List Cl}(s:Aq H H')(h:Ek CP CT H p q cs):Ek CP CT H' p q cs:=
 ⟨s.get h.1,s.get h.2.1,fun e he=>(h.2.2.1 e he).tup ((s.get (h.2.2.1 e he).1).trans (h.2.2.1 e he).1.symm) (fun c ys h=>s.get h),h.2.2.2⟩
def Od (cs:List Cl)(z:Int):Int:=match cs.find? (fun e=>decide (e.z=z)) with
 |some e=>e.en
 |none=>0
def N2 (cs:List Cl)(z:Int):Int:=match cs.find? (fun e=>decide (e.z=z)) with
 |some e=>e.st
 |none=>0
def U3 (cs:List Cl)(x:En):Int:=1+if x.kd=2 then Od cs x.tg.1 else 0
def Vc (cs:List Cl)(x:En):Int:=1+if x.kd=2 then N2 cs x.tg.1 else 0
theorem Tb {cs:List Cl}(nd:(cs.map (·.z)).Nodup){e:Cl}(h:e∈cs):cs.find? (fun x=>decide (x.z=e.z))=some e:=by
 induction cs with
 |nil=>nomatch h
 |cons x cs ih=>
  rw[List.map_cons,List.nodup_cons] at nd
  rcases List.mem_cons.mp h with rfl|h
  ·exact List.find?_cons_of_pos (by simp)
  ·have n:x.z≠e.z:=fun z=>nd.1 (by rw[z];exact List.mem_map.mpr ⟨_,h,rfl⟩)
   rw[List.find?_cons_of_neg (by simpa using n)]
   exact ih nd.2 h
theorem UF {cs:List Cl}(nd:(cs.map (·.z)).Nodup){e:Cl}(h:e∈cs):Od cs e.z=e.en:=by unfold Od;rw[Tb nd h]
theorem UZ {cs:List Cl}(nd:(cs.map (·.z)).Nodup){e:Cl}(h:e∈cs):N2 cs e.z=e.st:=by unfold N2;rw[Tb nd h]
def SJ (H:Hp)(g:Int→Int→Int):V→V
 | .ref a=>match H a with
  |some (.tup [_,.int k,.ref b])=>(match H b with
   |some (.tup (.int z::_))=>.int (g k z)
   |_=>.non)
  |_=>.non
 |_=>.non
theorem Pk {H:Hp}{g:Int→Int→Int}{a b:Addr}{x:V}{k z:Int}{xs:List V}(h:H a=some (.tup [x,.int k,.ref b]))(h2:H b=some (.tup (.int z::xs))):SJ H g (.ref a)=.int (g k z):=by
 unfold SJ
 simp only[h,h2]
theorem Lg {H:Hp}{g:Int→Int→Int}:∀{es:List En} {us:List V},AB NL H (es.map KW) us→us.map (SJ H g)=(es.map fun x=>g x.kd x.tg.1).map V.int
 |[],us,h=>by cases h;exact rfl
 |e::es,us,h=>by
  obtain⟨v,vs,rfl,h1,h2⟩:=h
  obtain⟨a,b,rfl,e1,e2⟩:=ET h1
  rw[List.map_cons,Pk e1 e2,Lg h2]
  rfl
def C6 (K:W.Frag)(CP CT:Addr):Sp:=fun vs H Q _=>∃p q cs v es,vs=[.ref p,v]∧Ek CP CT H p q cs∧Rep NL H (Dk (.folder es)) v∧es.length≤16∧(∀x∈es,x.kd=2→∃e∈cs,e.z=x.tg.1)∧∀H',Aq H H'→Q (.int (es.map (U3 cs)).sum) H'
theorem HX (T:Txt K mg Ab Ad Aa Ae XC)(F:Fun K "entries_of" "Pool.entries_of" Bl f fd)(EY:A7 P w K mg base 1 Ae "entries" ["self","number"] (D6 K Ae Aa)):FnOk P w K mg base B9 2 f fd ["self","folder"] (C6 K Ae Aa):=by
 exists Ik
 ·obtain⟨p,q,cs,v,es,rfl,_⟩:=h
  rfl
 obtain⟨p,q,cs,v,es,rfl,pa,hv,l16,kn,hq⟩:=h
 have hu:=CC hr
 refine⟨_,(!Al (!An (!Ar (NO rfl) (by rfl) T.b_sum SO (!Ac (@HP _ ["name","kind","tag","self"] [none,none,none,some 0] _ _ _ _ _ _ _ _ _ _ _ rfl (!Ea (!AG AH (pv 1) (!Ak) (fun _ _=>rfl))) (by rfl) rfl (by repeat (first|exact trivial|refine⟨rfl,?_⟩)) (by repeat (first|exact trivial|refine⟨fun h=>(by first|exact⟨_,rfl⟩|cases h),?_⟩)) (fun C s H fp=>⟨(@HI _ (K) _ _ _ _ (3) (by rfl) rfl (!AS (@As _ _ (0) _ (show(["name","kind","tag","self"]:List Str).Nodup by decide +kernel) rfl (by trivial) (by trivial)) (!AS (@As _ _ (1) _ (show(["name","kind","tag","self"]:List Str).Nodup by decide +kernel) rfl (by trivial) (by trivial)) (!AS (@As _ _ (2) _ (show(["name","kind","tag","self"]:List Str).Nodup by decide +kernel) rfl (by trivial) (by trivial)) (!Er) (by rfl)) (by rfl)) (by rfl)) (by rfl) (by rfl)),(!AV),(!Az Cr (!Ak) (!Ot (!AF Bu (pv 1) (!Ax rfl T.c_FOLDER_ENTRY (by decide)) (AC _)) (!Bc (pv 3) T.cl_Pool EY (by trivial) (!Ac (!AG (KH (K:=K) (by rfl)) (pv 2) (!Ak) (fun _ _=>rfl)) (!Ah) (by rfl)) (by rfl) (by rfl) (by rfl)) (!Ak)))⟩) (by intro _;rfl)) (!Ah) (by rfl)) (by decide) (by decide) (by rfl) (by rfl)))),?_⟩
 try dsimp only[Cs,Cx.nox,Cx.wish]
 obtain⟨a,b,us,rfl,e1,e2,r⟩:=DE hv
 have lu:us.length=es.length:=by rw[AB.len _ _ r,List.length_map]
 have nd:=pa.2.2.2
 refine⟨_,rfl,a,_,_,_,rfl,rfl,AY.of e1,rfl,b,rfl,⟨_,AY.of e2⟩,?_⟩
 refine Lq (xs:=us) (SJ H fun k z=>1+if k=2 then Od cs z else 0) (Du e2) (by omega) (fun x hx=>?_) (fun c x1 x2 x3 H' R hx hb s' hR=>?_) fun l H' nl s' hl=>⟨l,es.map (U3 cs),rfl,AU.of (by rw[hl,Lg r];rfl),hq H' s'⟩
 ·obtain⟨en,_,hr⟩:=Dx r hx
  obtain⟨c,d,rfl,e3,_⟩:=ET hr
  exact⟨c,_,_,_,rfl,e3⟩
 ·obtain⟨en,hen,hr⟩:=Dx r hx
  obtain⟨c',d,z,e3,e4⟩:=ET hr
  cases z
  rw[hb] at e3
  cases e3
  have hR:=hR H' (Aq.refl _)
  rw[Pk hb e4] at hR
  refine⟨_,rfl,rfl,_,rfl,D5 (fun hk=>?_) (fun hk=>?_)⟩
  ·have hk:=of_decide_eq_true hk
   have hk:en.kd=2:=V.int.inj hk
   obtain⟨e,he,hz⟩:=kn en hen hk
   rw[if_pos hk,←hz,UF nd he] at hR
   rw[←hz] at e4
   exact⟨_,rfl,p,q.dp,_,rfl,(pa.same s').1,rfl,_,rfl,d,_,_,_,rfl,rfl,AY.of (s'.get e4),rfl,p,q,cs,e,rfl,pa.same s',he,_,_,rfl,rfl,hR⟩
  ·have hk:¬en.kd=2:=fun z=>hk (decide_eq_true (congrArg V.int z))
   rw[if_neg hk] at hR
   exact⟨_,_,rfl,rfl,hR⟩
def DM (K:W.Frag)(CP CT:Addr):Sp:=fun vs H Q _=>∃p q cs v es,vs=[.ref p,v]∧Ek CP CT H p q cs∧Rep NL H (Dk (.folder es)) v∧es.length≤16∧(∀x∈es,x.kd=2→∃e∈cs,e.z=x.tg.1)∧∀H',Aq H H'→Q (.int (Jt (es.map (Vc cs)))) H'
theorem JM (T:Txt K mg Ab Ad Aa Ae XC)(F:Fun K "steps_of" "Pool.steps_of" BD f fd)(G8:A7 P w K mg base 1 Ae "deep" ["self","number"] (GO K Ae Aa)):FnOk P w K mg base B9 2 f fd ["self","folder"] (DM K Ae Aa):=by
 exists FZ
 ·obtain⟨p,q,cs,v,es,rfl,_⟩:=h
  rfl
 obtain⟨p,q,cs,v,es,rfl,pa,hv,l16,kn,hq⟩:=h
 have hu:=CC hr
 refine⟨_,(!Af (@KA _ ["name","kind","tag","self"] [none,none,none,some 0] (2) _ _ _ _ _ _ _ _ _ _ _ _ _ _ FZ.nd rfl (by trivial) rfl (!Ea (!AG AH (pv 1) (!Ak) (fun _ _=>rfl))) (by rfl) rfl (by repeat (first|exact trivial|refine⟨rfl,?_⟩)) (by repeat (first|exact trivial|refine⟨fun h=>(by first|exact⟨_,rfl⟩|cases h),?_⟩)) (fun C s H fp=>⟨(@HI _ (K) _ _ _ _ (3) (by rfl) rfl (!AS (@As _ _ (0) _ (show(["name","kind","tag","self"]:List Str).Nodup by decide +kernel) rfl (by trivial) (by trivial)) (!AS (@As _ _ (1) _ (show(["name","kind","tag","self"]:List Str).Nodup by decide +kernel) rfl (by trivial) (by trivial)) (!AS (@As _ _ (2) _ (show(["name","kind","tag","self"]:List Str).Nodup by decide +kernel) rfl (by trivial) (by trivial)) (!Er) (by rfl)) (by rfl)) (by rfl)) (by rfl) (by rfl)),(!AV),(!Az Cr (!Ak) (!Ot (!AF Bu (pv 1) (!Ax rfl T.c_FOLDER_ENTRY (by decide)) (AC _)) (!Bc (pv 3) T.cl_Pool G8 (by trivial) (!Ac (!AG (KH (K:=K) (by rfl)) (pv 2) (!Ak) (fun _ _=>rfl)) (!Ah) (by rfl)) (by rfl) (by rfl) (by rfl)) (!Ak)))⟩) (by intro _;rfl) (by rfl) (by trivial)) (!Al (!An (!UN rfl (by rfl) T.b_max (!Ac (pv 2) (!Ah) (by rfl)) (by rfl) (by rfl))))),?_⟩
 try dsimp only[Cs,Cx.nox,Cx.wish]
 obtain⟨a,b,us,rfl,e1,e2,r⟩:=DE hv
 have lu:us.length=es.length:=by rw[AB.len _ _ r,List.length_map]
 have nd:=pa.2.2.2
 refine⟨_,rfl,a,_,_,_,rfl,rfl,AY.of e1,rfl,b,rfl,⟨_,AY.of e2⟩,?_⟩
 refine Lq (xs:=us) (SJ H fun k z=>1+if k=2 then N2 cs z else 0) (Du e2) (by omega) (fun x hx=>?_) (fun c x1 x2 x3 H' R hx hb s' hR=>?_) fun l H' nl s' hl=>⟨_,rfl,l,es.map (Vc cs),rfl,AU.of (by rw[hl,Lg r];rfl),hq H' s'⟩
 ·obtain⟨en,_,hr⟩:=Dx r hx
  obtain⟨c,d,rfl,e3,_⟩:=ET hr
  exact⟨c,_,_,_,rfl,e3⟩
 ·obtain⟨en,hen,hr⟩:=Dx r hx
  obtain⟨c',d,z,e3,e4⟩:=ET hr
  cases z
  rw[hb] at e3
  cases e3
  have hR:=hR H' (Aq.refl _)
  rw[Pk hb e4] at hR
  refine⟨_,rfl,rfl,_,rfl,D5 (fun hk=>?_) (fun hk=>?_)⟩
  ·have hk:=of_decide_eq_true hk
   have hk:en.kd=2:=V.int.inj hk
   obtain⟨e,he,hz⟩:=kn en hen hk
   rw[if_pos hk,←hz,UZ nd he] at hR
   rw[←hz] at e4
   exact⟨_,rfl,p,q.dp,_,rfl,(pa.same s').1,rfl,_,rfl,d,_,_,_,rfl,rfl,AY.of (s'.get e4),rfl,p,q,cs,e,rfl,pa.same s',he,_,_,rfl,rfl,hR⟩
  ·have hk:¬en.kd=2:=fun z=>hk (decide_eq_true (congrArg V.int z))
   rw[if_neg hk] at hR
   exact⟨_,_,rfl,rfl,hR⟩
theorem map_one {α β:Type}{g:α→β}(hg:∀a b,g a=g b→a=b):∀{l l':List α},l.map g=l'.map g→l=l'
 |[],[],_=>rfl
 |[],_::_,h=>nomatch h
 |_::_,[],h=>nomatch h
 |x::l,y::l',h=>by
  rw[List.map_cons,List.map_cons] at h
  injection h with h1 h2
  rw[hg x y h1,map_one hg h2]
theorem Nr (a b:Tg)(h:Fd a=Fd b):a=b:=by
 obtain⟨a1,a2,a3⟩:=a
 obtain⟨b1,b2,b3⟩:=b
 injection h with h
 injection h with h1 h
 injection h with h2 h
 injection h with h3 _
 injection h1 with h1
 injection h2 with h2
 injection h3 with h3
 dsimp only at h1 h2 h3
 rw[h1,h2,h3]
theorem Ui (a b:En)(h:KW a=KW b):a=b:=by
 obtain⟨a1,a2,a3⟩:=a
 obtain⟨b1,b2,b3⟩:=b
 injection h with h
 injection h with h1 h
 injection h with h2 h
 injection h with h3 _
 injection h1 with h1
 injection h2 with h2
 have h3:=Nr _ _ h3
 dsimp only at h1 h2 h3
 rw[h1,h2,h3]
theorem UB {a b:Bk}(h:Dk a=Dk b):a=b:=by
 cases a with
 |piece z=>
  cases b with
  |piece z'=>injection h with h;injection h with _ h;injection h with h _;injection h with h;rw[h]
  |row lv ts=>injection h with h;injection h with h _;injection h with h;cases h
  |folder es=>injection h with h;injection h with h _;injection h with h;cases h
 |row lv ts=>
  cases b with
  |piece z'=>injection h with h;injection h with h _;injection h with h;cases h
  |row lv' ts'=>
   injection h with h;injection h with _ h;injection h with h1 h;injection h with h2 _
   injection h1 with h1
   injection h2 with h2
   rw[h1,map_one Nr h2]
  |folder es=>injection h with h;injection h with h _;injection h with h;cases h
 |folder es=>
  cases b with
  |piece z'=>injection h with h;injection h with h _;injection h with h;cases h
  |row lv ts=>injection h with h;injection h with h _;injection h with h;cases h
  |folder es'=>injection h with h;injection h with _ h;injection h with h _;injection h with h;rw[map_one Ui h]
theorem BM {α β:Type}{g:α→β}:∀{l:List α},(l.map g).Nodup→∀{x y:α},x∈l→y∈l→g x=g y→x=y
 |[],_,_,_,h,_,_=>nomatch h
 |a::l,nd,x,y,hx,hy,e=>by
  rw[List.map_cons,List.nodup_cons] at nd
  rcases List.mem_cons.mp hx with hx|hx
  ·rcases List.mem_cons.mp hy with hy|hy
   ·rw[hx,hy]
   ·exact(nd.1 (by rw[←hx,e];exact List.mem_map.mpr ⟨_,hy,rfl⟩)).elim
  ·rcases List.mem_cons.mp hy with hy|hy
   ·exact(nd.1 (by rw[←hy,←e];exact List.mem_map.mpr ⟨_,hx,rfl⟩)).elim
   ·exact BM nd.2 hx hy e
def bump (zs:List Int)(e:Cl):Cl:={ e with k:=e.k+(zs.count e.z:Int) }
theorem Ru (zs ys:List Int)(e:Cl):bump ys (bump zs e)=bump (zs++ys) e:=by
 unfold bump
 rw[List.count_append]
 simp only[Int.natCast_add,Int.add_assoc]
theorem SU (e:Cl):bump [] e=e:=by
 unfold bump
 simp
theorem Rr (cs:List Cl):cs.map (bump [])=cs:=by
 rw[show(bump []:Cl→Cl)=id from funext SU];simp
theorem O3 (zs ys:List Int)(cs:List Cl):(cs.map (bump zs)).map (bump ys)=cs.map (bump (zs++ys)):=by
 rw[List.map_map]
 exact List.map_congr_left fun e _=>Ru zs ys e
theorem R0 (zs:List Int)(cs:List Cl):NI (cs.map (bump zs))=NI cs:=by unfold NI;rw[List.map_map];rfl
theorem OH (zs:List Int)(cs:List Cl):P9 (cs.map (bump zs))=P9 cs:=by unfold P9;rw[List.map_map];rfl
theorem UQ (zs:List Int)(cs:List Cl):(cs.map (bump zs)).map (·.z)=cs.map (·.z):=by rw[List.map_map];rfl
theorem KG (zs:List Int)(cs:List Cl):(cs.map (bump zs)).map (·.c)=cs.map (·.c):=by rw[List.map_map];rfl
def Em (cs:List Cl)(s:Int):List Int:=(cs.filter (fun e=>decide (A9 e.bk=s))).map (·.z)
theorem L8 (zs:List Int)(s:Int):∀cs:List Cl,Em (cs.map (bump zs)) s=Em cs s
 |[]=>rfl
 |e::cs=>by
  have ih:=L8 zs s cs
  unfold Em at ih ⊢
  rw[List.map_cons,List.filter_cons,List.filter_cons]
  have:decide (A9 (bump zs e).bk=s)=decide (A9 e.bk=s):=rfl
  rw[this]
  cases decide (A9 e.bk=s)
  ·exact ih
  ·show(bump zs e).z::_=e.z::_
   rw[ih];rfl
theorem Mh (cs:List Cl)(e:Cl)(s:Int):Em (cs++[e]) s=Em cs s++if A9 e.bk=s then[e.z] else[]:=by
 unfold Em
 rw[List.filter_append,List.map_append]
 by_cases h:A9 e.bk=s
 ·rw[if_pos h,List.filter_cons_of_pos (by simpa using h)];rfl
 ·rw[if_neg h,List.filter_cons_of_neg (by simpa using h)];rfl
theorem Jk {cs:List Cl}{s z:Int}:z∈Em cs s↔∃e∈cs,A9 e.bk=s∧e.z=z:=by
 unfold Em
 rw[List.mem_map]
 constructor
 ·rintro⟨e,he,rfl⟩
  rw[List.mem_filter,decide_eq_true_eq] at he
  exact⟨e,he.1,he.2,rfl⟩
 ·rintro⟨e,he,hs,rfl⟩
  exact⟨e,List.mem_filter.mpr ⟨he,by simpa using hs⟩,rfl⟩
theorem OE (cs:List Cl)(s:Int):(Em cs s).length≤cs.length:=by
 unfold Em
 rw[List.length_map]
 exact List.length_filter_le _ _
def QP (ns:List Int):List (Key×V):=ns.map fun z=>(Sum.inl z,V.bl true)
def Sj (bs:List (Int×Addr)):List (Key×V):=bs.map fun x=>(Sum.inl x.1,V.ref x.2)
theorem Lp {κ:Type}[DecidableEq κ]{kvs:List (κ×V)}{k:κ}(h:∀x∈kvs,x.1≠k):Ct kvs k=none:=by
 unfold Ct
 rw[Option.map_eq_none_iff,List.find?_eq_none]
 intro x hx z
 exact h x hx (of_decide_eq_true z)
theorem UH {κ:Type}[DecidableEq κ]{kvs:List (κ×V)}{k:κ}{v:V}(h:Ct kvs k=some v):(k,v)∈kvs:=by
 unfold Ct at h
 rw[Option.map_eq_some_iff] at h
 obtain⟨x,hx,rfl⟩:=h
 have:=List.mem_of_find?_eq_some hx
 have e:x.1=k:=by simpa using List.find?_some hx
 rw[←e];exact this
structure BsAt (H:Hp) (q:Pl) (cs:List Cl) (bs:List (Int×Addr)):Prop where
 h:H q.dz=some (.dK (Sj bs))
 k:(bs.map (·.1)).Nodup
 a:(bs.map (·.2)).Nodup
 d:∀x∈bs,H x.2=some (.dK (QP (Em cs x.1)))∧x.2≠q.dt∧x.2≠q.dz∧x.2≠q.dd
 all:∀e∈cs,∃x∈bs,x.1=A9 e.bk
theorem R1 {bs:List (Int×Addr)}(nd:(bs.map (·.1)).Nodup){x:Int×Addr}(h:x∈bs):Ct (Sj bs) (Sum.inl x.1)=some (.ref x.2):=by
 refine NA ?_ (List.mem_map.mpr ⟨x,h,rfl⟩)
 unfold Sj
 rw[List.map_map,show((fun y:Key×V=>y.1)∘fun x:Int×Addr=>((Sum.inl x.1:Key),V.ref x.2))=(fun z:Int=>(Sum.inl z:Key))∘(fun x:Int×Addr=>x.1) from rfl,←List.map_map]
 exact List.Pairwise.map _ (fun a b n e=>n (Sum.inl.inj e)) nd
theorem Ts {bs:List (Int×Addr)}{s:Int}{v:V}(h:Ct (Sj bs) (Sum.inl s)=some v):∃x∈bs,x.1=s∧v=.ref x.2:=by
 obtain⟨x,hx,e⟩:=List.mem_map.mp (UH h)
 exact⟨x,hx,Sum.inl.inj (congrArg Prod.fst e),(congrArg Prod.snd e).symm⟩
theorem BsAt.no {H:Hp}{q:Pl}{cs:List Cl}{bs:List (Int×Addr)}(B:BsAt H q cs bs){s:Int}(h:Ct (Sj bs) (Sum.inl s)=none):Em cs s=[]:=by
 rw[List.eq_nil_iff_forall_not_mem]
 intro z hz
 obtain⟨e,he,rfl,rfl⟩:=Jk.mp hz
 obtain⟨x,hx,hs⟩:=B.all e he
 rw[←hs,R1 B.k hx] at h
 cases h
structure PAt (CP CT:Addr) (H:Hp) (p:Addr) (q:Pl) (cs:List Cl) (bs:List (Int×Addr)):Prop where
 t:Ek CP CT H p q cs
 d:H q.dd=some (.dK (P9 cs))
 b:BsAt H q cs bs
 n1:q.dt≠q.dz
 n2:q.dt≠q.dd
 n3:q.dz≠q.dd
 c:(cs.map (·.c)).Nodup
 z:∀(i:Nat) e,cs[i]?=some e→e.z=(i:Int)+1
 w:bs.length≤cs.length
 f1:1≤q.n
 f2:q.n≤(cs.length:Int)+1
def BK (p:Addr)(q:Pl)(cs:List Cl)(bs:List (Int×Addr)):List Addr:=p::q.dt::q.dz::q.dd::(bs.map (·.2)++cs.map (·.c))
def Ww (L:List Addr)(H H':Hp):Prop:=∀a o,H a=some o→a∉L→H' a=some o
theorem Aq.frm {L:List Addr}{H H':Hp}(s:Aq H H'):Ww L H H':=fun _ _ h _=>s.get h
theorem PAt.same {CP CT:Addr}{H H':Hp}{p:Addr}{q:Pl}{cs:List Cl}{bs:List (Int×Addr)}(s:Aq H H')(h:PAt CP CT H p q cs bs):PAt CP CT H' p q cs bs:=
 { h with t:=h.t.same s,d:=s.get h.d,b:={ h.b with h:=s.get h.b.h,d:=fun x hx=>⟨s.get (h.b.d x hx).1,(h.b.d x hx).2⟩ } }
theorem PAt.apart {CP CT:Addr}{H:Hp}{p:Addr}{q:Pl}{cs:List Cl}{bs:List (Int×Addr)}(h:PAt CP CT H p q cs bs){a:Addr}{o:HO}(e:H a=some o)(n1:∀C d fs,o≠.ins C d fs)(n2:∀kvs,o≠.dK kvs):a∉BK p q cs bs:=by
 have no:∀{b u},H b=some u→u≠o→a≠b:=fun{b u} hb hn z=>hn (by rw[z,hb] at e;exact Option.some.inj e)
 unfold BK
 simp only[List.mem_cons,List.mem_append,List.mem_map,not_or]
 refine⟨no h.t.1 (Ne.symm (n1 _ _ _)),no h.t.2.1 (Ne.symm (n2 _)),no h.b.h (Ne.symm (n2 _)),no h.d (Ne.symm (n2 _)),?_,?_⟩
 ·rintro⟨x,hx,z⟩
  exact no (h.b.d x hx).1 (Ne.symm (n2 _)) z.symm
 ·rintro⟨x,hx,z⟩
  exact no (h.t.2.2.1 x hx).1 (Ne.symm (n1 _ _ _)) z.symm
theorem Ek.hold {CP CT:Addr}{H:Hp}{p:Addr}{q:Pl}{cs:List Cl}(h:Ek CP CT H p q cs)(nc:(cs.map (·.c)).Nodup){e:Cl}(he:e∈cs):Ek CP CT (upd H e.c (.ins CT e.dx (FU e.ta ((wT (Dk e.bk)).length:Int) e.l (e.k+1) e.en e.st))) p q (cs.map (bump [e.z])):=by
 obtain⟨h1,h2,h4,nd⟩:=h
 have hc:=(h4 e he).1
 have n1:p≠e.c:=fun z=>by
  rw[z,hc] at h1
  have:=Option.some.inj h1
  injection this with _ _ this
  injection this with this _
  injection this with this _
  revert this
  decide
 refine⟨by rw[Aj n1];exact h1,by rw[Aj (AW h2 hc (by intro z;cases z)),R0];exact h2,fun x hx=>?_,by rw[UQ];exact nd⟩
 obtain⟨y,hy,rfl⟩:=List.mem_map.mp hx
 have ht:∀c ys,H c=some (.tup ys)→(upd H e.c (.ins CT e.dx (FU e.ta ((wT (Dk e.bk)).length:Int) e.l (e.k+1) e.en e.st))) c=some (.tup ys):=fun c ys h=>by rw[Aj (AW h hc (by intro z;cases z))];exact h
 obtain⟨a1,a2,a3,a4⟩:=h4 y hy
 by_cases hz:y.z=e.z
 ·obtain rfl:=BM nd hy he hz
  refine⟨?_,ht _ _ a2,DX ht _ _ a3,a4⟩
  show upd H y.c _ y.c=some (.ins CT y.dx (FU y.ta ((wT (Dk y.bk)).length:Int) y.l (y.k+(([y.z].count y.z:Nat):Int)) y.en y.st))
  rw[Ag,List.count_singleton_self]
  rfl
 ·have nn:y.c≠e.c:=fun z=>hz (by rw[BM nc hy he z])
  refine⟨?_,ht _ _ a2,DX ht _ _ a3,a4⟩
  show upd H e.c _ y.c=some (.ins CT y.dx (FU y.ta ((wT (Dk y.bk)).length:Int) y.l (y.k+(([e.z].count y.z:Nat):Int)) y.en y.st))
  rw[Aj nn,a1,List.count_eq_zero.mpr (by simpa using hz)]
  simp
def Qb (cs:List Cl):Bk→Int×Int
 | .folder es=>((es.map (U3 cs)).sum,Jt (es.map (Vc cs)))
 |_=>(0,0)
def Wl (cs:List Cl):Prop:=∀e∈cs,Oa (e.z,e.y,A9 e.bk)∧(∀t∈A4 e.bk,∃c∈cs,c.z=t.1)∧(e.en,e.st)=Qb cs e.bk
theorem Nk (zs:List Int):∀(cs:List Cl) (z:Int),(cs.map (bump zs)).find? (fun e=>decide (e.z=z))=(cs.find? (fun e=>decide (e.z=z))).map (bump zs)
 |[],_=>rfl
 |e::cs,z=>by
  rw[List.map_cons]
  by_cases h:e.z=z
  ·have h':(bump zs e).z=z:=h
   rw[List.find?_cons_of_pos (by simpa using h'),List.find?_cons_of_pos (by simpa using h)];rfl
  ·have h':¬(bump zs e).z=z:=h
   rw[List.find?_cons_of_neg (by simpa using h'),List.find?_cons_of_neg (by simpa using h)];exact Nk zs cs z
theorem Re (zs:List Int)(cs:List Cl)(z:Int):Od (cs.map (bump zs)) z=Od cs z:=by
 unfold Od;rw[Nk];cases cs.find? (fun e=>decide (e.z=z))<;>rfl
theorem QT (zs:List Int)(cs:List Cl)(z:Int):N2 (cs.map (bump zs)) z=N2 cs z:=by
 unfold N2;rw[Nk];cases cs.find? (fun e=>decide (e.z=z))<;>rfl
theorem OM (zs:List Int)(cs:List Cl)(b:Bk):Qb (cs.map (bump zs)) b=Qb cs b:=by
 cases b with
 |folder es=>
  have e1:U3 (cs.map (bump zs))=U3 cs:=funext fun x=>by unfold U3;rw[Re]
  have e2:Vc (cs.map (bump zs))=Vc cs:=funext fun x=>by unfold Vc;rw[QT]
  show((es.map _).sum,Jt (es.map _))=((es.map _).sum,Jt (es.map _))
  rw[e1,e2]
 |_=>rfl
theorem Oq {cs ds:List Cl}{z:Int}(h:∃e∈cs,e.z=z):(cs++ds).find? (fun e=>decide (e.z=z))=cs.find? (fun e=>decide (e.z=z)):=by
 rw[List.find?_append]
 obtain⟨e,he,hz⟩:=h
 have:(cs.find? (fun e=>decide (e.z=z))).isSome=true:=List.find?_isSome.mpr ⟨e,he,by simpa using hz⟩
 cases hh:cs.find? (fun e=>decide (e.z=z)) with
 |none=>rw[hh] at this;cases this
 |some x=>rfl
theorem Qz {cs ds:List Cl}{b:Bk}(h:∀t∈A4 b,∃c∈cs,c.z=t.1):Qb (cs++ds) b=Qb cs b:=by
 cases b with
 |folder es=>
  have e1:es.map (U3 (cs++ds))=es.map (U3 cs):=List.map_congr_left fun x hx=>by unfold U3 Od;rw[Oq (h x.tg (List.mem_map.mpr ⟨x,hx,rfl⟩))]
  have e2:es.map (Vc (cs++ds))=es.map (Vc cs):=List.map_congr_left fun x hx=>by unfold Vc N2;rw[Oq (h x.tg (List.mem_map.mpr ⟨x,hx,rfl⟩))]
  show((es.map _).sum,Jt (es.map _))=((es.map _).sum,Jt (es.map _))
  rw[e1,e2]
 |_=>rfl
theorem Wl.more {cs:List Cl}(h:Wl cs){e:Cl}(ok:Oa (e.z,e.y,A9 e.bk))(hn:∀t∈A4 e.bk,∃c∈cs,c.z=t.1)(hb:(e.en,e.st)=Qb cs e.bk)(zs:List Int):Wl ((cs++[e]).map (bump zs)):=by
 intro x hx
 obtain⟨y,hy,rfl⟩:=List.mem_map.mp hx
 have up:∀t:Int,(∃c∈cs,c.z=t)→∃c∈(cs++[e]).map (bump zs),c.z=t:=fun t ⟨c,hc,z⟩=>⟨bump zs c,List.mem_map.mpr ⟨c,List.mem_append.mpr (.inl hc),rfl⟩,z⟩
 rcases List.mem_append.mp hy with hy|hy
 ·obtain⟨a1,a2,a3⟩:=h y hy
  refine⟨a1,fun t ht=>up _ (a2 t ht),?_⟩
  show(y.en,y.st)=Qb _ y.bk
  rw[OM,Qz a2];exact a3
 ·rw[List.mem_singleton.mp hy]
  refine⟨ok,fun t ht=>up _ (hn t ht),?_⟩
  show(e.en,e.st)=Qb _ e.bk
  rw[OM,Qz hn];exact hb
theorem Uu {cs:List Cl}(hz:∀(i:Nat) e,cs[i]?=some e→e.z=(i:Int)+1){s:Int}:(Em cs s).Pairwise (·≤·):=by
 have all:(cs.map (·.z)).Pairwise (·≤·):=by
  rw[List.pairwise_iff_getElem]
  intro i j hi hj hij
  rw[List.length_map] at hi hj
  rw[List.getElem_map,List.getElem_map,hz i _ (List.getElem?_eq_getElem hi),hz j _ (List.getElem?_eq_getElem hj)]
  omega
 unfold Em
 exact List.Pairwise.sublist (List.Sublist.map _ List.filter_sublist) all
def Fy (K:W.Frag)(CP CT:Addr):Sp:=fun vs H Q _=>∃p q cs bs v b,vs=[.ref p,v]∧PAt CP CT H p q cs bs∧cs.length≤10000∧Rep NL H (Dk b) v∧FJ b∧(∀e∈cs,e.bk=b→∀H',Aq H H'→Q (.ref e.ta) H')∧((∀e∈cs,e.bk≠b)→∀H',Aq H H'→Q .non H')
theorem L1 (T:Txt K mg Ab Ad Aa Ae XC)(F:Fun K "alike" "Pool.alike" CM f fd)(Dr:Def P w K mg base 3 "sum_of" ["block"] (Ga K))(Bb:A7 P w K mg base 17 Ae "block" ["self","tag"] (BJ K Ae Aa Ad))(C1:A7 P w K mg base 1 Ae "tag" ["self","number"] (Fe K Ae Aa)):FnOk P w K mg base B9 18 f fd ["self","block"] (Fy K Ae Aa):=by
 exists DW
 ·obtain⟨p,q,cs,bs,v,b,rfl,_⟩:=h
  rfl
 obtain⟨p,q,cs,bs,v,b,rfl,pa,few,hv,ok,hq1,hq2⟩:=h
 have hu:=CC hr
 have hu9:=IF hr
 refine⟨_,(!Af (@Ay _ _ (2) _ _ _ _ DW.nd rfl (by trivial) (!Cq (!Ah)) (by rfl) (by trivial)) (!Af (!BY PassesOwn.never rfl (!BA (!Ar (G7 rfl) (by rfl) T.b_sorted HK (!Ac (!Tc hu (!AR (pv 0) rfl) (!AE Dr (by trivial) rfl (!Ac (pv 1) (!Ah) (by rfl)) (by decide) (by rfl) (by rfl)) (!FW) ⟨rfl,rfl,rfl,rfl⟩) (!Ah) (by rfl)) (by decide) (by decide) (by rfl) (by rfl))) (@As _ _ (3) _ DW.nd rfl (by trivial) (by trivial)) (!Al (!Sa ⟨rfl,rfl⟩ T.x_Lost rfl (!Qw (!QB (@Ay _ _ (4) _ _ _ _ DW.nd rfl (by trivial) (!Bc (pv 0) T.cl_Pool Bb (by trivial) (!Ac (!Bc (pv 0) T.cl_Pool C1 (by trivial) (!Ac (pv 3) (!Ah) (by rfl)) (by rfl) (by rfl) (by rfl)) (!Ah) (by rfl)) (by rfl) (by rfl) (by rfl)) (by rfl) (by trivial)))) (!Al (!AM (!AF (TM hu9) (pv 4) (pv 1) (AC _)) (!Al (!An (!Bc (pv 0) T.cl_Pool C1 (by trivial) (!Ac (pv 3) (!Ah) (by rfl)) (by rfl) (by rfl) (by rfl)))) (!Av))) (fun e=>(!Al (!BV))) (by decide))) (by intro _;rfl)) (!Af (!AM (!AF MC (!Ar AI (by rfl) T.b_len Bp (!Ac (pv 2) (!Ah) (by rfl)) (by decide) (by decide) (by rfl) (by rfl)) (!Ak) (AC _)) (!Al (!BV)) (!Av)) (!Al (!An (!FA)))))),?_⟩
 try dsimp only[Cs,Cx.nox,Cx.wish]
 refine⟨LY,fun un hun=>?_⟩
 have s1:=Am hun (.lst [])
 have pa1:=pa.same s1
 refine⟨_,rfl,p,Ae,q.dp,_,_,rfl,pa1.t.1,T.cl_Pool,T.n_Pool_by_sums,rfl,q.dz,rfl,.inl ⟨_,.inl pa1.b.h⟩,?_⟩
 refine⟨_,rfl,v,b,rfl,Rep.same s1 _ _ hv,ok,fun H2 s2 dn hdn=>?_⟩
 have s3:=(s1.trans s2).trans (Am hdn (.dK []))
 have pa3:=pa.same s3
 obtain⟨d,hd,hd2⟩:∃d,(((Ct (Sj bs) (Sum.inl (A9 b))).getD (.ref dn))=.ref d)∧(upd H2 dn (.dK [])) d=some (.dK (QP (Em cs (A9 b)))):=by
  cases hc:Ct (Sj bs) (Sum.inl (A9 b)) with
  |none=>exact⟨dn,rfl,by rw[pa.b.no hc];exact Ag⟩
  |some u=>
   obtain⟨x,hx,hs,rfl⟩:=Ts hc
   exact⟨x.2,rfl,by rw[(pa3.b.d x hx).1,hs]⟩
 refine⟨_,CW.k (k:=Sum.inl (A9 b)) pa3.b.h,d,_,Em cs (A9 b),?_,hd2,?_,?_,fun ms pl pm so hpl=>?_⟩
 ·rw[hd]
 ·unfold QP;rw[List.map_map];rfl
 ·have:=OE cs (A9 b)
  exact .inr ⟨by omega,Uu pa.z⟩
 have s4:=s3.trans (Am hpl (.lst (ms.map V.int)))
 have pa4:=pa.same s4
 have hun4:(upd (upd H2 dn (.dK [])) pl (.lst (ms.map V.int))) un=some (.lst []):=(Am hpl _).get ((Am hdn _).get (s2.get Ag))
 have hpl4:(upd (upd H2 dn (.dK [])) pl (.lst (ms.map V.int))) pl=some (.lst (ms.map V.int)):=Ag
 generalize (upd (upd H2 dn (.dK [])) pl (.lst (ms.map V.int)))=H4 at s4 pa4 hun4 hpl4
 refine⟨pl,rfl,⟨_,AU.of hpl4⟩,Cb (K:=K) (a:=pl) (xs:=ms.map V.int) (fun i σ H'=>H'=H4∧(∃v3 v4,σ=[some (.ref p),some v,some (.ref un),v3,v4])∧∀(j:Nat) n,j<i→ms[j]?=some n→∀e∈cs,e.z=n→e.bk≠b) ⟨rfl,⟨_,_,rfl⟩,fun j _ h=>absurd h (Nat.not_lt_zero j)⟩ ?_ ?_ ?_⟩
 ·rintro i σ H' _ ⟨rfl,_⟩
  exact AU.of hpl4
 ·rintro i x σ H' hx ⟨rfl,⟨v3,v4,rfl⟩,hb⟩
  obtain⟨n,rfl,hn⟩:=ints_get hx
  obtain⟨e,he,hs,hz⟩:=Jk.mp (pm.mem_iff.mp (List.mem_of_getElem? hn))
  subst hz
  have ce:=pa4.t.2.2.1 e he
  refine⟨_,rfl,p,q.dp,_,rfl,pa4.t.1,rfl,_,rfl,p,q.dp,_,rfl,pa4.t.1,rfl,_,rfl,p,q,cs,e,rfl,pa4.t,he,?_⟩
  refine .inl ⟨p,q,cs,e,e.ta,_,_,rfl,pa4.t,pa4.d,he,ce.2.1,?_⟩
  refine⟨_,rfl,_,rfl,Dk e.bk,Dk b,IB ce.2.2.2,IB ok,ce.2.2.1,Rep.same s4 _ _ hv,_,rfl,D5 (fun hk=>?_) (fun hk=>?_)⟩
  ·have hk:decide (wT (Dk e.bk)=wT (Dk b))=true:=hk
   have eb:e.bk=b:=UB (Nw (IB ce.2.2.2) (IB ok) (of_decide_eq_true hk))
   exact⟨_,rfl,p,q.dp,_,rfl,pa4.t.1,rfl,_,rfl,p,q,cs,e,rfl,pa4.t,he,hq1 e he eb _ s4⟩
  ·have hk:¬decide (wT (Dk e.bk)=wT (Dk b))=true:=hk
   refine⟨rfl,⟨_,_,rfl⟩,fun j n hj hm e' he' hz=>?_⟩
   by_cases hji:j<i
   ·exact hb j n hji hm e' he' hz
   ·obtain rfl:j=i:=by omega
    rw[hn] at hm
    obtain rfl:=BM pa4.t.2.2.2 he he' ((Option.some.inj hm).trans hz.symm)
    intro z
    exact hk (by rw[z];exact decide_eq_true rfl)
 ·rintro σ H' ⟨rfl,⟨v3,v4,rfl⟩,hb⟩
  refine⟨_,rfl,un,_,rfl,.inl (AU.of hun4),_,_,rfl,rfl,_,rfl,AK rfl ?_⟩
  refine hq2 (fun e he z=>?_) _ s4
  have:e.z∈ms:=pm.mem_iff.mpr (Jk.mpr ⟨e,he,by rw[z],rfl⟩)
  obtain⟨j,hj,hje⟩:=List.getElem_of_mem this
  exact hb j e.z (by rw[List.length_map];exact hj) (by rw[List.getElem?_eq_getElem hj,hje]) e he rfl z
theorem BsAt.same {H H':Hp}{q:Pl}{cs:List Cl}{bs:List (Int×Addr)}(s:Aq H H')(h:BsAt H q cs bs):BsAt H' q cs bs:={ h with h:=s.get h.h,d:=fun x hx=>⟨s.get (h.d x hx).1,(h.d x hx).2⟩ }
theorem BsAt.ins {H:Hp}{q:Pl}{cs:List Cl}{bs:List (Int×Addr)}{x C d:Addr}{fs:List (Str×V)}{o:HO}(hx:H x=some (.ins C d fs))(h:BsAt H q cs bs):BsAt (upd H x o) q cs bs:=
 { h with h:=by rw[Aj (AW h.h hx (by intro z;cases z))];exact h.h,d:=fun y hy=>⟨by rw[Aj (AW (h.d y hy).1 hx (by intro z;cases z))];exact(h.d y hy).1,(h.d y hy).2⟩ }
theorem BsAt.bump {H:Hp}{q:Pl}{cs:List Cl}{bs:List (Int×Addr)}(zs:List Int)(h:BsAt H q cs bs):BsAt H q (cs.map (bump zs)) bs:=
 { h with d:=fun x hx=>by rw[L8];exact h.d x hx,all:=fun e he=>(List.mem_map.mp he).elim fun y hy=>(by rw[←hy.2];exact h.all y hy.1) }
theorem Ub {ns:List Int}{z:Int}(h:z∉ns):putK (QP ns) (Sum.inl z) (.bl true)=QP (ns++[z]):=by
 rw[Jg _ (Lp fun x hx=>?_)]
 ·unfold QP;rw[List.map_append];rfl
 ·obtain⟨y,hy,rfl⟩:=List.mem_map.mp hx
  intro e
  exact h (by rw[←Sum.inl.inj e];exact hy)
theorem BsAt.snoc {H:Hp}{q:Pl}{cs:List Cl}{bs:List (Int×Addr)}{d:Addr}{e:Cl}(h:BsAt H q cs bs)(hd:(A9 e.bk,d)∈bs)(hz:e.z∉Em cs (A9 e.bk)):BsAt (upd H d (.dK (putK (QP (Em cs (A9 e.bk))) (Sum.inl e.z) (.bl true)))) q (cs++[e]) bs where
 h:=by rw[Aj (Ne.symm (h.d _ hd).2.2.1)];exact h.h
 k:=h.k
 a:=h.a
 d:=fun x hx=>by
  by_cases hs:x.1=A9 e.bk
  ·obtain rfl:x=(A9 e.bk,d):=BM h.k hx hd hs
   exact⟨by rw[Ag,Ub hz,Mh,if_pos rfl],(h.d _ hx).2⟩
  ·have n:x.2≠d:=fun z=>hs (congrArg Prod.fst (BM h.a hx hd z))
   rw[Aj n,Mh,if_neg (fun z=>hs z.symm),List.append_nil]
   exact h.d x hx
 all:=fun x hx=>by
  rcases List.mem_append.mp hx with hx|hx
  ·exact h.all x hx
  ·rw[List.mem_singleton.mp hx];exact⟨_,hd,rfl⟩
theorem BsAt.fresh {H:Hp}{q:Pl}{cs:List Cl}{bs:List (Int×Addr)}{dn:Addr}{s:Int}(h:BsAt H q cs bs)(hv:Ct (Sj bs) (Sum.inl s)=none)(hd:H dn=none)(n1:dn≠q.dt)(n2:dn≠q.dd):BsAt (upd (upd H dn (.dK [])) q.dz (.dK (putK (Sj bs) (Sum.inl s) (.ref dn)))) q cs (bs++[(s,dn)]):=by
 have nz:dn≠q.dz:=fun z=>by rw[z,h.h] at hd;cases hd
 have nb:∀x∈bs,x.2≠dn:=fun x hx z=>by have:=(h.d x hx).1;rw[z,hd] at this;cases this
 refine⟨?_,?_,?_,fun x hx=>?_,fun e he=>?_⟩
 ·rw[Ag,Jg _ hv];unfold Sj;rw[List.map_append];rfl
 ·rw[List.map_append,List.nodup_append]
  refine⟨h.k,by simp,fun a ha b hb=>?_⟩
  obtain⟨x,hx,rfl⟩:=List.mem_map.mp ha
  have:b=s:=by simpa using hb
  rw[this]
  intro z
  rw[←z,R1 h.k hx] at hv
  cases hv
 ·rw[List.map_append,List.nodup_append]
  refine⟨h.a,by simp,fun a ha b hb=>?_⟩
  obtain⟨x,hx,rfl⟩:=List.mem_map.mp ha
  have:b=dn:=by simpa using hb
  rw[this]
  exact nb x hx
 ·rcases List.mem_append.mp hx with hx|hx
  ·rw[Aj (h.d x hx).2.2.1,Aj (nb x hx)];exact h.d x hx
  ·rw[List.mem_singleton.mp hx]
   refine⟨?_,n1,nz,n2⟩
   show upd _ _ _ dn=some (.dK (QP (Em cs s)))
   rw[Aj nz,Ag,h.no hv];rfl
 ·obtain⟨x,hx,e1⟩:=h.all e he
  exact⟨x,List.mem_append.mpr (.inl hx),e1⟩
structure Md (CP CT:Addr) (H H':Hp) (p:Addr) (q:Pl) (cs:List Cl) (own:List Addr) (e:Cl) (us:List V) (dtk:List (Key×V)):Prop where
 f:Ww own H H'
 p:H' p=some (.ins CP q.dp (K5 q.bo q.dt q.dz q.dd q.n))
 t:H' q.dt=some (.dK dtk)
 d:H' q.dd=some (.dK (P9 cs))
 c:∀x∈cs,Jm CT H' x
 n:Jm CT H' e
 l:H' e.l=some (.lst us)
 u:AB NL H' ((A4 e.bk).map Fd) us
theorem Md.put {CP CT:Addr}{H H':Hp}{p:Addr}{q:Pl}{cs:List Cl}{own:List Addr}{e:Cl}{us:List V}{dtk:List (Key×V)}(M:Md CP CT H H' p q cs own e us dtk){x:Addr}{o:HO}(hx:x∈own∨H x=none)(nt:x≠q.dt)(nd:x≠q.dd)(k:∀u,H' x=some u→∃kvs,u=.dK kvs):Md CP CT H (upd H' x o) p q cs own e us dtk:=by
 have no:∀{a u},H' a=some u→(∀kvs,u≠.dK kvs)→a≠x:=fun{a u} h n z=>by
  rw[z] at h
  obtain⟨kvs,e⟩:=k _ h
  exact n kvs e
 have ht:∀c ys,H' c=some (.tup ys)→(upd H' x o) c=some (.tup ys):=fun c ys h=>by rw[Aj (no h (by intro kvs z;cases z))];exact h
 refine⟨fun a u h n=>?_,?_,?_,?_,fun y hy=>?_,?_,?_,BS ht _ _ M.u⟩
 ·have:a≠x:=fun z=>by
   rcases hx with hx|hx
   ·exact n (by rw[z];exact hx)
   ·rw[z,hx] at h;cases h
  rw[Aj this];exact M.f a u h n
 ·rw[Aj (no M.p (by intro kvs z;cases z))];exact M.p
 ·rw[Aj (Ne.symm nt)];exact M.t
 ·rw[Aj (Ne.symm nd)];exact M.d
 ·exact(M.c y hy).tup (Aj (no (M.c y hy).1 (by intro kvs z;cases z))) ht
 ·exact M.n.tup (Aj (no M.n.1 (by intro kvs z;cases z))) ht
 ·rw[Aj (no M.l (by intro kvs z;cases z))];exact M.l
theorem Md.putT {CP CT:Addr}{H H':Hp}{p:Addr}{q:Pl}{cs:List Cl}{own:List Addr}{e:Cl}{us:List V}{dtk dt2:List (Key×V)}(M:Md CP CT H H' p q cs own e us dtk)(hx:q.dt∈own)(nd:q.dt≠q.dd):Md CP CT H (upd H' q.dt (.dK dt2)) p q cs own e us dt2:=by
 have no:∀{a u},H' a=some u→(∀kvs,u≠.dK kvs)→a≠q.dt:=fun{a u} h n z=>by
  rw[z,M.t] at h
  exact n _ (Option.some.inj h).symm
 have ht:∀c ys,H' c=some (.tup ys)→(upd H' q.dt (.dK dt2)) c=some (.tup ys):=fun c ys h=>by rw[Aj (no h (by intro kvs z;cases z))];exact h
 refine⟨fun a u h n=>?_,?_,Ag,?_,fun y hy=>?_,?_,?_,BS ht _ _ M.u⟩
 ·rw[Aj (fun z=>n (by rw[z];exact hx))];exact M.f a u h n
 ·rw[Aj (no M.p (by intro kvs z;cases z))];exact M.p
 ·rw[Aj (Ne.symm nd)];exact M.d
 ·exact(M.c y hy).tup (Aj (no (M.c y hy).1 (by intro kvs z;cases z))) ht
 ·exact M.n.tup (Aj (no M.n.1 (by intro kvs z;cases z))) ht
 ·rw[Aj (no M.l (by intro kvs z;cases z))];exact M.l
def Ef (z y:Int)(b:Bk)(v:V)(c dx ta l:Addr)(cs:List Cl):Cl:=⟨z,y,b,v,c,dx,ta,l,0,(Qb cs b).1,(Qb cs b).2⟩
def GR (K:W.Frag)(CP CT:Addr):Sp:=fun vs H Q _=>∃p q cs bs v b,∃(ta:Addr) (z y:Int),vs=[.ref p,.ref ta,v]∧PAt CP CT H p q cs bs∧cs.length≤10000∧Rep NL H (Dk b) v∧FJ b∧H ta=some (.tup [.int z,.int y,.int (A9 b)])∧z=(cs.length:Int)+1∧(∀t∈A4 b,∃e∈cs,e.z=t.1)∧
 ∀H' c dx l bs',H c=none→H l=none→(∃us,H' l=some (.lst us)∧AB NL H' ((A4 b).map Fd) us)→Ek CP CT H' p q ((cs++[Ef z y b v c dx ta l cs]).map (bump ((A4 b).map (·.1))))→BsAt H' q ((cs++[Ef z y b v c dx ta l cs]).map (bump ((A4 b).map (·.1)))) bs'→bs'.length≤bs.length+1→H' q.dd=some (.dK (P9 cs))→Ww (BK p q cs bs) H H'→(∀x∈bs',x∈bs∨H x.2=none)→Q .non H'
theorem NK (T:Txt K mg Ab Ad Aa Ae XC)(F:Fun K "take" "Pool.take" Dc f fd)(DH:MS P w K mg base 11 Aa "TakenCell" ["self","own_tag","block"] (Dy K Aa))(Dn:A7 P w K mg base 2 Ae "entries_of" ["self","folder"] (C6 K Ae Aa))(Ec:A7 P w K mg base 2 Ae "steps_of" ["self","folder"] (DM K Ae Aa))(Di:A7 P w K mg base 1 Ae "hold" ["self","tag"] (Et K Ae Aa)):FnOk P w K mg base B9 13 f fd ["self","tag","block"] (GR K Ae Aa):=by
 exists Es
 ·obtain⟨p,q,cs,bs,v,b,ta,z,y,rfl,_⟩:=h
  rfl
 obtain⟨p,q,cs,bs,v,b,ta,z,y,rfl,pa,few,hv,ok,hta,hz,hn,hq⟩:=h
 have hu:=CC hr
 refine⟨_,(!Af (@Ay _ _ (3) _ _ _ _ Es.nd rfl (by trivial) (!MF DH (by trivial) rfl (!Ac (pv 1) (!Ac (pv 2) (!Ah) (by rfl)) (by rfl)) (by decide) (by rfl) (by rfl)) (by rfl) (by trivial)) (!Af (!AM (!AF Bu (!AG AH (pv 2) (!Ak) (fun _ _=>rfl)) (!Ax rfl T.c_FOLDER (by decide)) (AC _)) (!Af (!Cp (pv 3) (!Bc (pv 0) T.cl_Pool Dn (by trivial) (!Ac (pv 2) (!Ah) (by rfl)) (by rfl) (by rfl) (by rfl)) rfl) (!Al (!Cp (pv 3) (!Bc (pv 0) T.cl_Pool Ec (by trivial) (!Ac (pv 2) (!Ah) (by rfl)) (by rfl) (by rfl) (by rfl)) rfl))) (!Av)) (!Af (!KC hu (!AR (pv 0) rfl) (!AG AH (pv 1) (!Ak) (fun _ _=>rfl)) (pv 3) rfl) (!Af (@Ay _ _ (4) _ _ _ _ Es.nd rfl (by trivial) (!Ti (!AR (pv 0) rfl) (!AG AH (pv 1) (!Ak) (fun _ _=>rfl)) (!FW) ⟨rfl,rfl,rfl,rfl⟩) (by rfl) (by trivial)) (!Af (!KC hu (pv 4) (!AG AH (pv 1) (!Ak) (fun _ _=>rfl)) (!Fo) rfl) (!Al (!BY PassesOwn.never rfl (!BA (!AR (pv 3) rfl)) (@As _ _ (5) _ Es.nd rfl (by trivial) (by trivial)) (!Al (!Bm (!Bc (pv 0) T.cl_Pool Di (by trivial) (!Ac (pv 5) (!Ah) (by rfl)) (by rfl) (by rfl) (by rfl)) (by rfl))) (by intro _;rfl)))))))),?_⟩
 try dsimp only[Cs,Cx.nox,Cx.wish]
 refine⟨_,rfl,_,rfl,fun c dx hc hdx hcd=>?_⟩
 have hH1:∀a o,H a=some o→(upd (upd H dx (.own c)) c (.ins Aa dx [])) a=some o:=fun a o h=>by
  rw[Aj (fun z=>by rw[z,hc] at h;cases h),Aj (fun z=>by rw[z,hdx] at h;cases h)];exact h
 refine⟨c,dx,ta,v,b,rfl,Ag,DX (fun c ys h=>hH1 c _ h) _ _ hv,ok,fun l us H2 f2 nl hl r hc2=>⟨rfl,?_⟩⟩
 have s2:Aq H H2:=fun a o h=>f2 a o (hH1 a o h) (fun z=>by rw[z,hc] at h;cases h)
 have nlH:H l=none:=by
  cases h:H l with
  |none=>rfl
  |some o=>rw[hH1 l o h] at nl;cases nl
 dsimp only[Cv]
 refine MM (fun σ' H'=>σ'=[some (.ref p),some (.ref ta),some v,some (.ref c),none,none]∧Aq H H'∧H' c=some (.ins Aa dx (FU ta ((wT (Dk b)).length:Int) l 0 (Qb cs b).1 (Qb cs b).2))∧H' l=some (.lst us)∧AB NL H' ((A4 b).map Fd) us) (fun N hN=>?_) ?_
 ·obtain⟨va,xs,rfl,hva⟩:=LA hv
  refine⟨_,rfl,va,_,_,_,rfl,rfl,AY.of (s2.get hva),Lr,rfl,_,rfl,D5 (fun hk=>?_) (fun hk=>?_)⟩
  ·cases b with
   |folder es=>
    have kn:∀x∈es,x.kd=2→∃e∈cs,e.z=x.tg.1:=fun x hx _=>hn x.tg (List.mem_map.mpr ⟨x,hx,rfl⟩)
    refine⟨_,rfl,p,q.dp,_,rfl,(pa.same s2).t.1,rfl,_,rfl,p,q,cs,_,es,rfl,(pa.same s2).t,Rep.same s2 _ _ hv,ok.1,kn,fun H4 s4=>?_⟩
    refine⟨_,rfl,c,Aa,dx,_,rfl,s4.get hc2,T.cl_TakenCell,T.n_TakenCell_entries_beneath,(by show 6<1000;decide),?_⟩
    have s5:Aq H (upd H4 c (.ins Aa dx (FU ta ((wT (Dk (.folder es))).length:Int) l 0 (Qb cs (.folder es)).1 0))):=A0 (s2.trans s4) hc _
    refine⟨_,rfl,p,q.dp,_,rfl,(pa.same s5).t.1,rfl,_,rfl,p,q,cs,_,es,rfl,(pa.same s5).t,Rep.same s5 _ _ hv,ok.1,kn,fun H6 s6=>?_⟩
    refine⟨_,rfl,c,Aa,dx,_,rfl,s6.get Ag,T.cl_TakenCell,T.n_TakenCell_steps_beneath,(by show 6<1000;decide),?_⟩
    have nlc:l≠c:=AW hl hc2 (by intro z;cases z)
    have tp:∀a ys,H2 a=some (.tup ys)→(upd H6 c (.ins Aa dx (FU ta ((wT (Dk (.folder es))).length:Int) l 0 (Qb cs (.folder es)).1 (Qb cs (.folder es)).2))) a=some (.tup ys):=fun a ys h=>by
     have na:a≠c:=AW h hc2 (by intro z;cases z)
     rw[Aj na]
     exact s6.get (by rw[Aj na];exact s4.get h)
    refine hN _ _ ⟨rfl,A0 (s5.trans s6) hc _,Ag,?_,BS tp _ _ r⟩
    rw[Aj nlc]
    exact s6.get (by rw[Aj nlc];exact s4.get hl)
   |piece _=>cases hk
   |row _ _=>cases hk
  ·refine hN _ _ ⟨rfl,s2,?_,hl,r⟩
   cases b with
   |folder es=>exact absurd rfl hk
   |piece _=>exact hc2
   |row _ _=>exact hc2
 rintro σ' H3 ⟨rfl,s3,hc3,hl3,r3⟩
 have pa3:=pa.same s3
 have M3:Md Ae Aa H H3 p q cs (BK p q cs bs) (Ef z y b v c dx ta l cs) us (NI cs):=⟨Aq.frm s3,pa3.t.1,pa3.t.2.1,pa3.d,pa3.t.2.2.1,⟨hc3,s3.get hta,Rep.same s3 _ _ hv,ok⟩,hl3,r3⟩
 have fz:∀e∈cs,e.z≠z:=fun e he=>by
  obtain⟨i,hi,rfl⟩:=List.getElem_of_mem he
  have:=pa.z i _ (List.getElem?_eq_getElem hi)
  omega
 have tkl:(NI cs).length<100000:=by unfold NI;rw[List.length_map];omega
 have ht3:=s3.get hta
 refine⟨_,rfl,_,rfl,p,Ae,q.dp,_,_,rfl,M3.p,T.cl_Pool,T.n_Pool_taken,rfl,_,rfl,ta,_,_,_,rfl,rfl,AY.of ht3,rfl,q.dt,_,rfl,LX.k (k:=Sum.inl z) M3.t (Bd (by omega)),?_⟩
 have etk:putK (NI cs) (Sum.inl z) (.ref c)=NI (cs++[Ef z y b v c dx ta l cs]):=by
  rw[Jg _ (Lp fun x hx=>?_)]
  ·unfold NI;rw[List.map_append];rfl
  ·obtain⟨e,he,rfl⟩:=List.mem_map.mp hx
   intro z
   exact fz e he (Sum.inl.inj z)
 rw[etk]
 have ot:q.dt∈BK p q cs bs:=by unfold BK;simp
 have oz:q.dz∈BK p q cs bs:=by unfold BK;simp
 have M4:=M3.putT (dt2:=NI (cs++[Ef z y b v c dx ta l cs])) ot pa.n2
 have B4:BsAt (upd H3 q.dt (.dK (NI (cs++[Ef z y b v c dx ta l cs])))) q cs bs:={ pa3.b with h:=by rw[Aj (Ne.symm pa.n1)];exact pa3.b.h,d:=fun x hx=>⟨by rw[Aj (pa3.b.d x hx).2.1];exact(pa3.b.d x hx).1,(pa3.b.d x hx).2⟩ }
 have hz4:∀a,(upd H3 q.dt (.dK (NI (cs++[Ef z y b v c dx ta l cs])))) a=none→H a=none:=fun a h=>by
  cases ha:H a with
  |none=>rfl
  |some o=>
   have:=s3.get ha
   by_cases e:a=q.dt
   ·rw[e,Ag] at h;cases h
   ·rw[Aj e,this] at h;cases h
 generalize (upd H3 q.dt (.dK (NI (cs++[Ef z y b v c dx ta l cs]))))=H4 at M4 B4 hz4
 have bl:bs.length≤100000:=by have:=pa.w;omega
 dsimp only
 refine MM (fun σ' H'=>∃d bs',σ'=[some (.ref p),some (.ref ta),some v,some (.ref c),some (.ref d),none]∧Md Ae Aa H H' p q cs (BK p q cs bs) (Ef z y b v c dx ta l cs) us (NI (cs++[Ef z y b v c dx ta l cs]))∧BsAt H' q cs bs'∧(A9 b,d)∈bs'∧bs'.length≤bs.length+1∧(∀x∈bs',x∈bs∨H x.2=none)∧(d∈BK p q cs bs∨H d=none)) (fun N hN=>?_) ?_
 ·refine⟨_,rfl,p,Ae,q.dp,_,_,rfl,M4.p,T.cl_Pool,T.n_Pool_by_sums,rfl,q.dz,rfl,.inl ⟨_,.inl B4.h⟩,_,rfl,ta,_,_,_,rfl,rfl,AY.of M4.n.2.1,rfl,fun dn hdn=>?_⟩
  have ndn:∀{a o},H4 a=some o→dn≠a:=fun{a o} h z=>by rw[z,h] at hdn;cases hdn
  have M5:=M4.put (x:=dn) (o:=.dK []) (.inr (hz4 _ hdn)) (ndn M4.t) (ndn M4.d) (fun u h=>by rw[hdn] at h;cases h)
  have B5:=B4.same (Am hdn (.dK []))
  refine⟨_,Sum.inl (A9 b),B5.h,rfl,Bd (by unfold Sj;rw[List.length_map];omega),fun u hv=>?_,fun hv=>?_⟩
  ·obtain⟨x,hx,hs,rfl⟩:=Ts hv
   refine hN _ _ ⟨x.2,bs,rfl,M5,B5,by rw[←hs];exact hx,by omega,(fun _ h=>.inl h),.inl ?_⟩
   unfold BK
   simp only[List.mem_cons,List.mem_append]
   exact .inr (.inr (.inr (.inr (.inl (List.mem_map.mpr ⟨x,hx,rfl⟩)))))
  ·refine hN _ _ ⟨dn,bs++[(A9 b,dn)],rfl,M5.put (.inl oz) (Ne.symm pa.n1) pa.n3 (fun u h=>⟨_,by rw[B5.h] at h;exact(Option.some.inj h).symm⟩),B4.fresh hv hdn (ndn M4.t) (ndn M4.d),by simp,by simp,(fun x hx=>(List.mem_append.mp hx).imp id fun h=>by rw[List.mem_singleton.mp h];exact hz4 _ hdn),.inr (hz4 _ hdn)⟩
 rintro σ' H5 ⟨d,bs',rfl,M5,B5,hd5,lb,bfr,od⟩
 have hd6:=B5.d _ hd5
 refine⟨_,rfl,_,rfl,ta,_,_,_,rfl,rfl,AY.of M5.n.2.1,rfl,d,_,rfl,LX.k (k:=Sum.inl z) hd6.1 (Bd (by unfold QP;rw[List.length_map];have:=OE cs (A9 b);show(Em cs (A9 b)).length<1000000;omega)),?_⟩
 have B6:=B5.snoc (e:=Ef z y b v c dx ta l cs) hd5 (fun h=>by
  obtain⟨e,he,_,hz'⟩:=Jk.mp h
  exact fz e he hz')
 have M6:=M5.put (x:=d) (o:=.dK (putK (QP (Em cs (A9 b))) (Sum.inl z) (.bl true))) od hd6.2.1 hd6.2.2.2 (fun u h=>⟨_,by rw[hd6.1] at h;exact(Option.some.inj h).symm⟩)
 have e6:(upd H5 d (.dK (putK (QP (Em cs (A9 b))) (Sum.inl z) (.bl true))))=(upd H5 d (.dK (putK (QP (Em cs (A9 (Ef z y b v c dx ta l cs).bk))) (Sum.inl (Ef z y b v c dx ta l cs).z) (.bl true)))):=rfl
 rw[←e6] at B6
 dsimp only
 generalize (upd H5 d (.dK (putK (QP (Em cs (A9 b))) (Sum.inl z) (.bl true))))=H6 at M6 B6
 have nc6:((cs++[Ef z y b v c dx ta l cs]).map (·.c)).Nodup:=by
  rw[List.map_append,List.nodup_append]
  refine⟨pa.c,by simp,fun a ha b' hb=>?_⟩
  obtain⟨x,hx,rfl⟩:=List.mem_map.mp ha
  have:b'=c:=List.mem_singleton.mp hb
  rw[this]
  intro zz
  have:=(pa.t.2.2.1 x hx).1
  rw[zz,hc] at this
  cases this
 have P6:Ek Ae Aa H6 p q (cs++[Ef z y b v c dx ta l cs]):=by
  refine⟨M6.p,M6.t,fun e he=>?_,?_⟩
  ·rcases List.mem_append.mp he with he|he
   ·exact M6.c e he
   ·rw[List.mem_singleton.mp he];exact M6.n
  ·rw[List.map_append,List.nodup_append]
   refine⟨pa.t.2.2.2,by simp,fun a ha b' hb=>?_⟩
   obtain⟨x,hx,rfl⟩:=List.mem_map.mp ha
   have:b'=z:=List.mem_singleton.mp hb
   rw[this]
   exact fz x hx
 refine⟨_,rfl,c,Aa,dx,_,_,rfl,M6.n.1,T.cl_TakenCell,T.n_TakenCell_named,rfl,l,rfl,⟨_,AU.of M6.l⟩,?_⟩
 refine Cb (K:=K) (a:=l) (xs:=us) (fun i σ H'=>(∃v5,σ=[some (.ref p),some (.ref ta),some v,some (.ref c),some (.ref d),v5])∧Ek Ae Aa H' p q ((cs++[Ef z y b v c dx ta l cs]).map (bump (((A4 b).map (·.1)).take i)))∧BsAt H' q (cs++[Ef z y b v c dx ta l cs]) bs'∧H' q.dd=some (.dK (P9 cs))∧H' l=some (.lst us)∧AB NL H' ((A4 b).map Fd) us∧Ww (BK p q cs bs) H H') ⟨⟨_,rfl⟩,by rw[List.take_zero,Rr];exact P6,B6,M6.d,M6.l,M6.u,M6.f⟩ ?_ ?_ ?_
 ·rintro i σ H' _ ⟨_,_,_,_,h,_⟩
  exact AU.of h
 ·rintro i x σ H' hx ⟨⟨v5,rfl⟩,P7,B7,d7,l7,u7,f7⟩
  obtain⟨t,ht,rt⟩:=AB.get u7 hx
  rw[List.getElem?_map] at ht
  obtain⟨g,hg,rfl⟩:=Option.map_eq_some_iff.mp ht
  obtain⟨tx,rfl,htx⟩:=Gn rt
  obtain⟨e,he,hze⟩:=hn g (List.mem_of_getElem? hg)
  have he7:bump (((A4 b).map (·.1)).take i) e∈(cs++[Ef z y b v c dx ta l cs]).map (bump (((A4 b).map (·.1)).take i)):=List.mem_map.mpr ⟨e,List.mem_append.mpr (.inl he),rfl⟩
  have hz7:(bump (((A4 b).map (·.1)).take i) e).z=g.1:=hze
  have H7:=P7.hold (by rw[KG];exact nc6) he7
  have c7:=(P7.2.2.1 _ he7).1
  rw[←hz7] at htx
  refine⟨_,rfl,p,q.dp,_,rfl,P7.1,rfl,_,rfl,p,q,_,_,tx,_,_,rfl,P7,he7,htx,?_⟩
  have tp:∀a ys,H' a=some (.tup ys)→(upd H' (bump (((A4 b).map (·.1)).take i) e).c (.ins Aa (bump (((A4 b).map (·.1)).take i) e).dx (FU (bump (((A4 b).map (·.1)).take i) e).ta ((wT (Dk (bump (((A4 b).map (·.1)).take i) e).bk)).length:Int) (bump (((A4 b).map (·.1)).take i) e).l ((bump (((A4 b).map (·.1)).take i) e).k+1) (bump (((A4 b).map (·.1)).take i) e).en (bump (((A4 b).map (·.1)).take i) e).st))) a=some (.tup ys):=fun a ys h=>by rw[Aj (AW h c7 (by intro z;cases z))];exact h
  refine⟨⟨_,rfl⟩,?_,B7.ins c7,by rw[Aj (AW d7 c7 (by intro z;cases z))];exact d7,by rw[Aj (AW l7 c7 (by intro z;cases z))];exact l7,BS tp _ _ u7,fun a o h n=>?_⟩
  ·rw[O3,hz7] at H7
   rw[List.take_add_one,List.getElem?_map,hg]
   exact H7
  ·rw[Aj (fun zz=>n (by rw[zz];unfold BK;simp only[List.mem_cons,List.mem_append];exact .inr (.inr (.inr (.inr (.inr (List.mem_map.mpr ⟨e,he,rfl⟩)))))))]
   exact f7 a o h n
 ·rintro σ H' ⟨⟨v5,rfl⟩,P7,B7,d7,l7,u7,f7⟩
  have lu:us.length=((A4 b).map (·.1)).length:=by rw[AB.len _ _ u7,List.length_map,List.length_map]
  rw[lu,List.take_length] at P7
  exact hq H' c dx l bs' hc nlH ⟨us,l7,u7⟩ P7 (B7.bump _) lb d7 f7 bfr
theorem PAt.lst {CP CT:Addr}{H:Hp}{p:Addr}{q:Pl}{cs:List Cl}{bs:List (Int×Addr)}{l:Addr}{us us':List V}(h:PAt CP CT H p q cs bs)(hl:H l=some (.lst us)):PAt CP CT (upd H l (.lst us')) p q cs bs:=by
 have no:∀{a o},H a=some o→(∀ys,o≠.lst ys)→(upd H l (.lst us')) a=some o:=fun{a o} h1 n=>by rw[Aj (fun z=>by rw[z,hl] at h1;exact n _ (Option.some.inj h1).symm)];exact h1
 have nk:∀{a kvs},H a=some (.dK kvs)→(upd H l (.lst us')) a=some (.dK kvs):=fun{a kvs} h1=>no h1 (by intro ys z;cases z)
 refine⟨⟨no h.t.1 (by intro ys z;cases z),nk h.t.2.1,fun e he=>?_,h.t.2.2.2⟩,nk h.d,{ h.b with h:=nk h.b.h,d:=fun x hx=>⟨nk (h.b.d x hx).1,(h.b.d x hx).2⟩ },h.n1,h.n2,h.n3,h.c,h.z,h.w,h.f1,h.f2⟩
 have hc:=(h.t.2.2.1 e he).1
 exact(h.t.2.2.1 e he).tup ((no hc (by intro ys z;cases z)).trans hc.symm) fun c ys h1=>no h1 (by intro ys z;cases z)
theorem PAt.setn {CP CT:Addr}{H H':Hp}{p:Addr}{q:Pl}{cs:List Cl}{bs:List (Int×Addr)}{m:Int}(h:PAt CP CT H p q cs bs)(hp:H' p=some (.ins CP q.dp (K5 q.bo q.dt q.dz q.dd m)))(ho:∀b,b≠p→H' b=H b)(m1:1≤m)(m2:m≤(cs.length:Int)+1):PAt CP CT H' p { q with n:=m } cs bs:=by
 have no:∀{a o},H a=some o→(∀C d fs,o≠.ins C d fs)→H' a=some o:=fun{a o} h1 n=>by rw[ho a (fun z=>by rw[z,h.t.1] at h1;exact n _ _ _ (Option.some.inj h1).symm)];exact h1
 have nk:∀{a kvs},H a=some (.dK kvs)→H' a=some (.dK kvs):=fun{a kvs} h1=>no h1 (by intro C d fs z;cases z)
 refine⟨⟨hp,nk h.t.2.1,fun e he=>?_,h.t.2.2.2⟩,nk h.d,{ h.b with h:=nk h.b.h,d:=fun x hx=>⟨nk (h.b.d x hx).1,(h.b.d x hx).2⟩ },h.n1,h.n2,h.n3,h.c,h.z,h.w,m1,m2⟩
 have hc:=(h.t.2.2.1 e he).1
 refine(h.t.2.2.1 e he).tup (ho _ fun z=>?_) fun c ys h1=>no h1 (by intro C d fs z;cases z)
 rw[z,h.t.1] at hc
 have:=Option.some.inj hc
 injection this with _ _ this
 injection this with this _
 injection this with this _
 revert this
 decide
def D0 (K:W.Frag)(CP CT:Addr):Sp:=fun vs H Q _=>∃p q cs bs v b,∃(y:Int),vs=[.ref p,v,.int y]∧PAt CP CT H p q cs bs∧cs.length≤10000∧Rep NL H (Dk b) v∧FJ b∧(∀t∈A4 b,∃e∈cs,e.z=t.1)∧
 (∀e∈cs,e.bk=b→∀H',Aq H H'→Q (.ref e.ta) H')∧
 ((∀e∈cs,e.bk≠b)→∀H' c dx l ta bs',H c=none→H l=none→(∃us,H' l=some (.lst us)∧AB NL H' ((A4 b).map Fd) us)→PAt CP CT H' p { q with n:=(cs.length:Int)+1 } ((cs++[Ef ((cs.length:Int)+1) y b v c dx ta l cs]).map (bump ((A4 b).map (·.1)))) bs'→Ww (BK p q cs bs) H H'→(∀x∈bs',x∈bs∨H x.2=none)→Q (.ref ta) H')
theorem OO (T:Txt K mg Ab Ad Aa Ae XC)(F:Fun K "put" "Pool.put" DF f fd)(GG:A7 P w K mg base 18 Ae "alike" ["self","block"] (Fy K Ae Aa))(Hd:A7 P w K mg base 13 Ae "take" ["self","tag","block"] (GR K Ae Aa))(C5:A7 P w K mg base 1 Ae "free_number" ["self"] (CV K Ae Aa))(Dr:Def P w K mg base 3 "sum_of" ["block"] (Ga K)):FnOk P w K mg base B9 19 f fd ["self","block","birth"] (D0 K Ae Aa):=by
 exists Hy
 ·obtain⟨p,q,cs,bs,v,b,y,rfl,_⟩:=h
  rfl
 obtain⟨p,q,cs,bs,v,b,y,rfl,pa,few,hv,ok,hn,hq1,hq2⟩:=h
 have hu:=CC hr
 refine⟨_,(!Af (@Ay _ _ (3) _ _ _ _ Hy.nd rfl (by trivial) (!Bc (pv 0) T.cl_Pool GG (by trivial) (!Ac (pv 1) (!Ah) (by rfl)) (by rfl) (by rfl) (by rfl)) (by rfl) (by trivial)) (!Af (!AM (!G2 (!M7 (pv 3)) (by first|exact Dq _ (by decide) (by decide)|rfl)) (!Al (!An (pv 3))) (!Av)) (!Af (@Ay _ _ (4) _ _ _ _ Hy.nd rfl (by trivial) (!Hz (!Ac (!Ep (pv 0) T.cl_Pool C5 (by trivial) (by rfl)) (!Ac (pv 2) (!Ac (!AE Dr (by trivial) rfl (!Ac (pv 1) (!Ah) (by rfl)) (by decide) (by rfl) (by rfl)) (!Ah) (by rfl)) (by rfl)) (by rfl))) (by rfl) (by trivial)) (!Af (!Bm (!Bc (pv 0) T.cl_Pool Hd (by trivial) (!Ac (pv 4) (!Ac (pv 1) (!Ah) (by rfl)) (by rfl)) (by rfl) (by rfl) (by rfl)) (by rfl)) (!Af (!KC hu (!AR (pv 0) rfl) (!AG AH (pv 4) (!Ak) (fun _ _=>rfl)) (pv 1) rfl) (!Al (!An (pv 4)))))))),?_⟩
 try dsimp only[Cs,Cx.nox,Cx.wish]
 refine⟨_,rfl,p,q.dp,_,rfl,pa.t.1,rfl,_,rfl,p,q,cs,bs,v,b,rfl,pa,few,hv,ok,fun e he eb H1 s1=>?_,fun hne H1 s1=>?_⟩
 ·exact⟨_,rfl,_,rfl,Cz rfl ⟨_,rfl,hq1 e he eb H1 s1⟩⟩
 refine⟨_,rfl,_,rfl,AK rfl ?_⟩
 have pa1:=pa.same s1
 refine⟨_,rfl,p,q.dp,_,rfl,pa1.t.1,rfl,p,q,cs,rfl,pa1.t,pa.z,pa.f1,pa.f2,fun H2 hp2 ho2=>?_⟩
 have pa2:PAt Ae Aa H2 p { q with n:=(cs.length:Int)+1 } cs bs:=pa1.setn hp2 ho2 (by omega) (by omega)
 have tp2:∀a ys,H1 a=some (.tup ys)→H2 a=some (.tup ys):=fun a ys h=>by rw[ho2 a (AW h pa1.t.1 (by intro z;cases z))];exact h
 have k2:∀a o,H a=some o→∃o',H2 a=some o':=fun a o h=>by
  by_cases e:a=p
  ·exact⟨_,by rw[e];exact hp2⟩
  ·exact⟨o,by rw[ho2 a e];exact s1.get h⟩
 refine⟨_,rfl,_,rfl,v,b,rfl,DX tp2 _ _ (Rep.same s1 _ _ hv),ok,fun H3 s3=>?_⟩
 refine⟨Ue,fun ta hta=>?_⟩
 have s4:=s3.trans (Am hta (.tup [.int ((cs.length:Int)+1),.int y,.int (A9 b)]))
 have pa4:=pa2.same s4
 have t4:(upd H3 ta (.tup [.int ((cs.length:Int)+1),.int y,.int (A9 b)])) ta=some (.tup [.int ((cs.length:Int)+1),.int y,.int (A9 b)]):=Ag
 have hv4:=Rep.same s4 _ _ (DX tp2 _ _ (Rep.same s1 _ _ hv))
 generalize (upd H3 ta (.tup [.int ((cs.length:Int)+1),.int y,.int (A9 b)]))=H4 at s4 pa4 t4 hv4
 refine⟨_,rfl,p,q.dp,_,rfl,pa4.t.1,rfl,_,rfl,_,rfl,p,_,cs,bs,v,b,ta,_,y,rfl,pa4,few,hv4,ok,t4,rfl,hn,fun H5 c dx l bs' hc hl4 ⟨us,l5,u5⟩ P5 B5 lb d5 f5 bfr=>?_⟩
 have t5:=f5 ta _ t4 (pa4.apart t4 (by intro C d fs z;cases z) (by intro kvs z;cases z))
 refine⟨_,rfl,_,rfl,p,Ae,q.dp,_,_,rfl,P5.1,T.cl_Pool,T.n_Pool_draft,rfl,_,rfl,ta,_,_,_,rfl,rfl,AY.of t5,rfl,q.dd,_,rfl,LX.k (k:=Sum.inl ((cs.length:Int)+1)) d5 (Bd (by unfold P9;rw[List.length_map];omega)),?_⟩
 have fr:∀a,H4 a=none→H a=none:=fun a hc=>by
  cases h:H a with
  |none=>rfl
  |some o=>
   obtain⟨o',h'⟩:=k2 a o h
   rw[s4.get h'] at hc
   cases hc
 have hcH:=fr c hc
 have edr:putK (P9 cs) (Sum.inl ((cs.length:Int)+1)) v=P9 ((cs++[Ef ((cs.length:Int)+1) y b v c dx ta l cs]).map (bump ((A4 b).map (·.1)))):=by
  rw[OH,Jg _ (Lp fun x hx=>?_)]
  ·unfold P9;rw[List.map_append];rfl
  ·obtain⟨e,he,rfl⟩:=List.mem_map.mp hx
   obtain⟨i,hi,rfl⟩:=List.getElem_of_mem he
   have:=pa.z i _ (List.getElem?_eq_getElem hi)
   intro zz
   have:=Sum.inl.inj zz
   omega
 rw[edr]
 have nt0:∀{a u},H5 a=some u→(∀kvs,u≠.dK kvs)→a≠q.dd:=fun{a u} h n zz=>by
  rw[zz,d5] at h
  exact n _ (Option.some.inj h).symm
 refine⟨_,rfl,hq2 hne _ c dx l ta bs' hcH (fr l hl4) ⟨us,by rw[Aj (nt0 l5 (by intro kvs z;cases z))];exact l5,BS (fun a ys h=>by rw[Aj (nt0 h (by intro kvs z;cases z))];exact h) _ _ u5⟩ ?_ (fun a o h n=>?_) fun x hx=>(bfr x hx).imp id (fr x.2)⟩
 ·have nt:∀{a u},H5 a=some u→(∀kvs,u≠.dK kvs)→a≠q.dd:=fun{a u} h n zz=>by
   rw[zz,d5] at h
   exact n _ (Option.some.inj h).symm
  refine⟨⟨?_,?_,fun e he=>?_,P5.2.2.2⟩,Ag,{ B5 with h:=?_,d:=fun x hx=>⟨?_,(B5.d x hx).2⟩ },pa.n1,pa.n2,pa.n3,?_,fun i e h=>?_,?_,?_,?_⟩
  ·rw[Aj (nt P5.1 (by intro kvs z;cases z))];exact P5.1
  ·rw[Aj pa.n2];exact P5.2.1
  ·exact(P5.2.2.1 e he).tup (Aj (nt (P5.2.2.1 e he).1 (by intro kvs z;cases z))) fun a ys h=>by rw[Aj (nt h (by intro kvs z;cases z))];exact h
  ·rw[Aj pa.n3];exact B5.h
  ·rw[Aj (B5.d x hx).2.2.2];exact(B5.d x hx).1
  ·rw[KG,List.map_append,List.nodup_append]
   refine⟨pa.c,by simp,fun a ha b' hb=>?_⟩
   obtain⟨x,hx,rfl⟩:=List.mem_map.mp ha
   have:b'=c:=List.mem_singleton.mp hb
   rw[this]
   intro zz
   have:=(pa.t.2.2.1 x hx).1
   rw[zz,hcH] at this
   cases this
  ·rw[List.getElem?_map] at h
   obtain⟨x,hx,rfl⟩:=Option.map_eq_some_iff.mp h
   show x.z=_
   by_cases hi:i<cs.length
   ·rw[List.getElem?_append_left hi] at hx
    exact pa.z i x hx
   ·rw[List.getElem?_append_right (by omega)] at hx
    obtain⟨h1,h2⟩:=List.getElem?_eq_some_iff.mp hx
    have:i=cs.length:=by
     have:i-cs.length<1:=h1
     omega
    subst this
    simp only[Nat.sub_self,List.getElem_cons_zero] at h2
    rw[←h2]
    rfl
  ·rw[List.length_map,List.length_append]
   have:=pa.w
   show bs'.length≤cs.length+1
   omega
  ·show(1:Int)≤(cs.length:Int)+1
   omega
  ·rw[List.length_map,List.length_append]
   show(cs.length:Int)+1≤((cs.length+1:Nat):Int)+1
   omega
 ·have na:a≠q.dd:=fun zz=>n (by rw[zz];unfold BK;simp)
  have np:a≠p:=fun zz=>n (by rw[zz];unfold BK;simp)
  rw[Aj na]
  exact f5 a o (s4.get (by rw[ho2 a np];exact s1.get h)) n
end
open M06 M10
section
variable {P:Program}{w:World}{K:W.Frag}{mg:Str→Option Value}{base:Heap}{f Ab Ad Aa Ae:Addr}{XC:Nat→Addr}{fd:FuncData}
def Fx (K:W.Frag)(CP CT:Addr):Sp:=fun vs H Q _=>∃p q cs e,vs=[.ref p,.int e.z]∧Ek CP CT H p q cs∧e∈cs∧Q (.int e.k) H
theorem LO (T:Txt K mg Ab Ad Aa Ae XC)(F:Fun K "count" "Pool.count" CO f fd):FnOk P w K mg base B9 1 f fd ["self","number"] (Fx K Ae Aa):=by
 exists LP
 ·obtain⟨p,q,cs,e,rfl,_⟩:=h
  rfl
 obtain⟨p,q,cs,e,rfl,⟨h1,h2,h4,nd⟩,he,hq⟩:=h
 have hu:=CC hr
 refine⟨_,(!Al (!An (!AR (!Gk hu (!AR (pv 0) rfl) (pv 1) (fun _ _=>rfl)) rfl))),?_⟩
 try dsimp only[Cs,Cx.nox,Cx.wish]
 have g:CW H q.dt (.int e.z) (some (.ref e.c)):=by
  have:=CW.k (k:=Sum.inl e.z) h2
  rw[Jx nd he] at this
  exact this
 exact⟨_,rfl,p,Ae,q.dp,_,_,rfl,h1,T.cl_Pool,T.n_Pool_taken,rfl,_,rfl,q.dt,_,rfl,g,e.c,Aa,e.dx,_,_,rfl,(h4 e he).1,T.cl_TakenCell,T.n_TakenCell_times_named,rfl,hq⟩
theorem RV {cs:List Cl}(hz:∀(i:Nat) e,cs[i]?=some e→e.z=(i:Int)+1):(cs.map (·.z)).Pairwise (·≤·):=by
 rw[List.pairwise_iff_getElem]
 intro i j hi hj hij
 rw[List.length_map] at hi hj
 rw[List.getElem_map,List.getElem_map,hz i _ (List.getElem?_eq_getElem hi),hz j _ (List.getElem?_eq_getElem hj)]
 omega
def Ed (K:W.Frag)(CP CT:Addr):Sp:=fun vs H Q _=>∃p q cs bs,vs=[.ref p]∧PAt CP CT H p q cs bs∧cs.length≤10000∧∀(ms:List Int) l,ms.Perm (cs.map (·.z))→ms.Pairwise (·≤·)→H l=none→Q (.ref l) (upd H l (.lst (ms.map V.int)))
theorem J8 (T:Txt K mg Ab Ad Aa Ae XC)(F:Fun K "numbers" "Pool.numbers" B2 f fd):FnOk P w K mg base B9 1 f fd ["self"] (Ed K Ae Aa):=by
 exists Ks
 ·obtain⟨p,q,cs,bs,rfl,_⟩:=h
  rfl
 obtain⟨p,q,cs,bs,rfl,pa,few,hq⟩:=h
 have hu:=CC hr
 refine⟨_,(!Al (!An (!Ar (G7 rfl) (by rfl) T.b_sorted HK (!Ac (!AR (pv 0) rfl) (!Ah) (by rfl)) (by decide) (by decide) (by rfl) (by rfl)))),?_⟩
 try dsimp only[Cs,Cx.nox,Cx.wish]
 exact⟨_,rfl,p,Ae,q.dp,_,_,rfl,pa.t.1,T.cl_Pool,T.n_Pool_taken,rfl,q.dt,_,cs.map (·.z),rfl,pa.t.2.1,by unfold NI;rw[List.map_map,List.map_map];rfl,.inr ⟨by rw[List.length_map];omega,RV pa.z⟩,fun ms l pm so nl=>hq ms l pm so nl⟩
def Ft (K:W.Frag)(CP CT:Addr):Sp:=fun vs H Q _=>∃p q cs bs,vs=[.ref p]∧PAt CP CT H p q cs bs∧cs.length≤10000∧(∀e∈cs,e.k≠0)∧∀H',Aq H H'→Q .non H'
theorem LU (T:Txt K mg Ab Ad Aa Ae XC)(F:Fun K "sweep" "Pool.sweep" CN f fd)(EX:A7 P w K mg base 1 Ae "numbers" ["self"] (Ed K Ae Aa))(GF:A7 P w K mg base 1 Ae "count" ["self","number"] (Fx K Ae Aa)):FnOk P w K mg base B9 2 f fd ["self"] (Ft K Ae Aa):=by
 exists FC
 ·obtain⟨p,q,cs,bs,rfl,_⟩:=h
  rfl
 obtain⟨p,q,cs,bs,rfl,pa,few,nz,hq⟩:=h
 have hu:=CC hr
 refine⟨_,(!Af (@KA _ ["number","self"] [none,some 0] (1) _ _ _ _ _ _ _ _ _ _ _ _ _ _ FC.nd rfl (by trivial) rfl (!BA (!Ep (pv 0) T.cl_Pool EX (by trivial) (by rfl))) (by rfl) rfl (by repeat (first|exact trivial|refine⟨rfl,?_⟩)) (by repeat (first|exact trivial|refine⟨fun h=>(by first|exact⟨_,rfl⟩|cases h),?_⟩)) (fun C s H fp=>⟨(@As _ _ (0) _ (show(["number","self"]:List Str).Nodup by decide +kernel) rfl (by trivial) (by trivial)),(!Sw (!AF Bu (!Bc (pv 1) T.cl_Pool GF (by trivial) (!Ac (pv 0) (!Ah) (by rfl)) (by rfl) (by rfl) (by rfl)) (!Ak) (AC _))),(pv 0)⟩) (by intro _;rfl) (by rfl) (by trivial)) (!Al (!BY PassesOwn.never rfl (!BA (pv 1)) (@As _ _ (2) _ FC.nd rfl (by trivial) (by trivial)) (!Af (!BV) (!Af (!BV) (!Al (!BV)))) (by intro _;rfl)))),?_⟩
 try dsimp only[Cs,Cx.nox,Cx.wish]
 refine⟨_,rfl,p,q.dp,_,rfl,pa.t.1,rfl,p,q,cs,bs,rfl,pa,few,fun ms l pm so nl=>?_⟩
 have s1:=Am nl (.lst (ms.map V.int))
 refine⟨l,rfl,⟨_,AU.of Ag⟩,?_⟩
 refine OC (xs:=ms.map V.int) (fun _=>false) (fun v=>v) (EE (AU.of Ag)) (by rw[List.length_map,pm.length_eq,List.length_map];omega) (fun x H2 R hx s2 hR=>?_) (fun x H2 R hx hb=>by cases hb) fun l2 H2 nl2 s2 hl2=>?_
 ·obtain⟨n,hn,rfl⟩:=List.mem_map.mp hx
  obtain⟨e,he,rfl⟩:=List.mem_map.mp (pm.mem_iff.mp hn)
  have pa2:=pa.same (s1.trans s2)
  refine⟨_,rfl,p,q.dp,_,rfl,pa2.t.1,rfl,_,rfl,p,q,cs,e,rfl,pa2.t,he,rfl,_,rfl,?_⟩
  rw[decide_eq_false (fun z=>nz e he (V.int.inj z))]
  exact hR
 have hl2:H2 l2=some (.lst []):=by rw[hl2,List.filter_eq_nil_iff.mpr (fun _ _ h=>by cases h)];rfl
 refine⟨_,rfl,l2,rfl,⟨_,AU.of hl2⟩,Cb (K:=K) (a:=l2) (xs:=[]) (fun i σ H'=>H'=H2) rfl (fun i σ H' _ h=>by rw[h];exact AU.of hl2) (fun i x σ H' h=>by cases h) fun σ H' h=>by rw[h];exact hq H2 (s1.trans s2)⟩
theorem PAt.keep {CP CT:Addr}{H H':Hp}{p:Addr}{q:Pl}{cs:List Cl}{bs:List (Int×Addr)}(h:PAt CP CT H p q cs bs)(ko:∀a o,a∈BK p q cs bs→H a=some o→H' a=some o)(kt:∀c ys,H c=some (.tup ys)→H' c=some (.tup ys)):PAt CP CT H' p q cs bs:=by
 have m1:p∈BK p q cs bs:=by unfold BK;simp
 have m2:q.dt∈BK p q cs bs:=by unfold BK;simp
 have m3:q.dz∈BK p q cs bs:=by unfold BK;simp
 have m4:q.dd∈BK p q cs bs:=by unfold BK;simp
 have m5:∀x∈bs,x.2∈BK p q cs bs:=fun x hx=>by
  unfold BK
  simp only[List.mem_cons,List.mem_append]
  exact .inr (.inr (.inr (.inr (.inl (List.mem_map.mpr ⟨x,hx,rfl⟩)))))
 have m6:∀x∈cs,x.c∈BK p q cs bs:=fun x hx=>by
  unfold BK
  simp only[List.mem_cons,List.mem_append]
  exact .inr (.inr (.inr (.inr (.inr (List.mem_map.mpr ⟨x,hx,rfl⟩)))))
 refine{ h with t:=⟨ko _ _ m1 h.t.1,ko _ _ m2 h.t.2.1,fun e he=>?_,h.t.2.2.2⟩,d:=ko _ _ m4 h.d,b:={ h.b with h:=ko _ _ m3 h.b.h,d:=fun x hx=>⟨ko _ _ (m5 x hx) (h.b.d x hx).1,(h.b.d x hx).2⟩ } }
 have hc:=(h.t.2.2.1 e he).1
 exact(h.t.2.2.1 e he).tup ((ko _ _ (m6 e he) hc).trans hc.symm) kt
def XF (p:Addr)(q:Pl)(cs:List Cl)(bs:List (Int×Addr))(bo:Addr)(ds:List Addr):Prop:=bo∉BK p q cs bs∧∀d∈ds,d∉BK p q cs bs
theorem PAt.kb {CP CT CB:Addr}{H H':Hp}{p:Addr}{q:Pl}{cs:List Cl}{bs:List (Int×Addr)}{bo:Addr}{ds:List Addr}{b0:List Fp}{n:Int}{lf:V}(h:PAt CP CT H p q cs bs)(hB:G0 CB H bo ds b0 n lf)(ap:XF p q cs bs bo ds)(k:Kb H H' bo ds):PAt CP CT H' p q cs bs:=by
 obtain⟨dx,s0,h1,_⟩:=id hB
 exact h.keep (fun a o ha e=>k a o e (fun z=>ap.1 (by rw[←z];exact ha)) fun z=>ap.2 a z ha) fun c ys e=>k c _ e (AW e h1 (by intro z;cases z)) (hB.notin e (by intro kvs z;cases z))
theorem L6:∀{l m:List Int},l.Perm m→l.Pairwise (·≤·)→m.Pairwise (·≤·)→l=m
 |[],m,p,_,_=>by rw[List.nil_perm.mp p]
 |a::l,[],p,_,_=>by have:=p.length_eq;cases this
 |a::l,b::m,p,h1,h2=>by
  rw[List.pairwise_cons] at h1 h2
  have e:a=b:=by
   have ha:=p.mem_iff.mp (List.mem_cons_self (a:=a) (l:=l))
   have hb:=p.mem_iff.mpr (List.mem_cons_self (a:=b) (l:=m))
   rcases List.mem_cons.mp ha with ha|ha
   ·exact ha
   rcases List.mem_cons.mp hb with hb|hb
   ·exact hb.symm
   have:=h1.1 b hb
   have:=h2.1 a ha
   omega
  subst e
  rw[L6 p.cons_inv h1.2 h2.2]
def Laid (bs:List Fp)(cs:List Cl)(i:Nat):Prop:=∀(j:Nat) e,cs[j]?=some e→∀b,b<bs.length→EO (bs.getD b []) e.z=if j<i∧(b:Int)∈JV bs e.z then some (EZ (Kh e.z e.y e.bk)) else none
def Dm (K:W.Frag)(CP CT CB:Addr):Sp:=fun vs H Q _=>∃p q cs bs ds b0 n,vs=[.ref p]∧PAt CP CT H p q cs bs∧cs.length≤10000∧G0 CB H q.bo ds b0 n .non∧XF p q cs bs q.bo ds∧2≤b0.length∧(∀c∈b0,c=[])∧(∀e∈cs,MX e.z e.y)∧
 ∀H' b1 n1,Ek CP CT H' p q cs→H' q.dd=some (.dK [])→G0 CB H' q.bo ds b1 n1 .non→b1.length=b0.length→Laid b1 cs cs.length→(∀c ys,H c=some (.tup ys)→H' c=some (.tup ys))→(∀c ys,H c=some (.lst ys)→H' c=some (.lst ys))→Q .non H'
theorem Ji (T:Txt K mg Ab Ad Aa Ae XC)(F:Fun K "lay_draft" "Pool.lay_draft" Bv f fd)(S1:Def P w K mg base 10 "lay" ["boards","number","birth","block"] (Pi K Ad))(C1:A7 P w K mg base 1 Ae "tag" ["self","number"] (Fe K Ae Aa)):FnOk P w K mg base B9 11 f fd ["self"] (Dm K Ae Aa Ad):=by
 exists Fh
 ·obtain⟨p,q,cs,bs,ds,b0,n,rfl,_⟩:=h
  rfl
 obtain⟨p,q,cs,bs,ds,b0,n,rfl,pa,few,hB,ap,b2,be,nbs,hq⟩:=h
 have hu:=CC hr
 refine⟨_,(!Af (!BY PassesOwn.never rfl (!BA (!Ar (G7 rfl) (by rfl) T.b_sorted HK (!Ac (!AR (pv 0) rfl) (!Ah) (by rfl)) (by decide) (by decide) (by rfl) (by rfl))) (@As _ _ (1) _ Fh.nd rfl (by trivial) (by trivial)) (!Al (!Bm (!AE S1 (by trivial) rfl (!Ac (!AR (pv 0) rfl) (!Ac (pv 1) (!Ac (!AG AH (!Bc (pv 0) T.cl_Pool C1 (by trivial) (!Ac (pv 1) (!Ah) (by rfl)) (by rfl) (by rfl) (by rfl)) (!Ak) (fun _ _=>rfl)) (!Ac (!Gk hu (!AR (pv 0) rfl) (pv 1) (fun _ _=>rfl)) (!Ah) (by rfl)) (by rfl)) (by rfl)) (by rfl)) (by decide) (by rfl) (by rfl)) (by rfl))) (by intro _;rfl)) (!Al (!Bm (!Rf (!AR (pv 0) rfl) ⟨rfl,rfl,rfl,rfl⟩) (by rfl)))),?_⟩
 try dsimp only[Cs,Cx.nox,Cx.wish]
 refine⟨_,rfl,p,Ae,q.dp,_,_,rfl,pa.t.1,T.cl_Pool,T.n_Pool_draft,rfl,q.dd,_,cs.map (·.z),rfl,pa.d,by unfold P9;rw[List.map_map,List.map_map];rfl,.inr ⟨by rw[List.length_map];omega,RV pa.z⟩,fun ms l pm so nl=>?_⟩
 obtain rfl:ms=cs.map (·.z):=L6 pm so (RV pa.z)
 have s1:=Am nl (.lst ((cs.map (·.z)).map V.int))
 have hB1:=hB.same s1
 refine⟨l,rfl,⟨_,AU.of Ag⟩,?_⟩
 have lz:∀i,(b0.getD i [])=[]:=fun i=>by
  unfold List.getD
  cases e:b0[i]? with
  |none=>rfl
  |some c=>exact be c (List.mem_of_getElem? e)
 refine Cb (K:=K) (a:=l) (xs:=(cs.map (·.z)).map V.int) (fun i σ H'=>∃b1 n1 v1,σ=[some (.ref p),v1]∧PAt Ae Aa H' p q cs bs∧G0 Ad H' q.bo ds b1 n1 .non∧b1.length=b0.length∧(∀c∈b1,c.length≤2*i)∧H' l=some (.lst ((cs.map (·.z)).map V.int))∧Kb H H' q.bo ds∧Laid b1 cs i)
  ⟨b0,n,none,rfl,pa.same s1,hB1,rfl,(fun c hc=>by rw[be c hc];exact Nat.zero_le _),Ag,Aq.kb s1 _ _,fun j e hj b hb=>by rw[lz b,if_neg (fun h=>absurd h.1 (Nat.not_lt_zero _))];rfl⟩ ?_ ?_ ?_
 ·rintro i σ H' _ ⟨_,_,_,_,_,_,_,_,h,_⟩
  exact AU.of h
 ·rintro i x σ H' hx ⟨b1,n1,v1,rfl,pa',hB',lb,cb,hl',kb,la⟩
  rw[List.getElem?_map,List.getElem?_map] at hx
  obtain⟨zz,hz,rfl⟩:=Option.map_eq_some_iff.mp hx
  obtain⟨e,hei,rfl⟩:=Option.map_eq_some_iff.mp hz
  have he:=List.mem_of_getElem? hei
  have ce:=pa'.t.2.2.1 e he
  have il:i<cs.length:=(List.getElem?_eq_some_iff.mp hei).1
  have g:CW H' q.dd (.int e.z) (some e.v):=by
   have:=CW.k (k:=Sum.inl e.z) pa'.d
   rw[RT pa'.t.2.2.2 he] at this
   exact this
  refine⟨_,rfl,p,Ae,q.dp,_,_,rfl,pa'.t.1,T.cl_Pool,T.n_Pool_boards,rfl,_,rfl,_,rfl,p,q.dp,_,rfl,pa'.t.1,rfl,_,rfl,p,q,cs,e,rfl,pa'.t,he,e.ta,_,_,_,rfl,rfl,AY.of ce.2.1,rfl,_,rfl,p,Ae,q.dp,_,_,rfl,pa'.t.1,T.cl_Pool,T.n_Pool_draft,rfl,_,rfl,q.dd,_,rfl,g,q.bo,ds,b1,n1,e.z,e.y,e.v,e.bk,rfl,hB',by omega,fun c hc=>?_,ce.2.2.1,ce.2.2.2,nbs e he,fun H2 hB2 k2=>?_⟩
  ·have:=cb c hc
   omega
  have nll:l≠q.bo:=by
   obtain⟨dx,s0,h1,_⟩:=id hB'
   exact AW hl' h1 (by intro z;cases z)
  refine⟨_,_,_,rfl,pa'.kb hB' ap k2,hB2,by rw[K2];exact lb,fun c hc=>?_,k2 _ _ hl' nll (hB'.notin hl' (by intro kvs z;cases z)),kb.trans k2,fun j e' hj b hb=>?_⟩
  ·have:=OX _ cb c hc
   have:(JV b1 e.z).length=2:=rfl
   omega
  ·rw[K2] at hb
   have et:JV (wr b1 e.z (EZ (Kh e.z e.y e.bk)) (JV b1 e.z)) e'.z=JV b1 e'.z:=by unfold JV;rw[K2]
   rw[Tn e.z _ e'.z _ b1 b hb fun y hy=>OZ (by omega) y hy,et,la j e' hj b hb]
   by_cases hji:j=i
   ·subst hji
    rw[hei] at hj
    cases hj
    by_cases hb':(b:Int)∈JV b1 e.z
    ·rw[if_pos ⟨rfl,hb'⟩,if_pos ⟨by omega,hb'⟩]
    ·rw[if_neg (fun h=>hb' h.2),if_neg (fun h=>hb' h.2),if_neg (fun h=>hb' h.2)]
   ·have nz:e'.z≠e.z:=fun h=>by
     have h1:=pa'.z j e' hj
     have h2:=pa'.z i e hei
     omega
    rw[if_neg (fun h=>nz h.1)]
    by_cases hb':(b:Int)∈JV b1 e'.z
    ·by_cases hj1:j<i
     ·rw[if_pos ⟨hj1,hb'⟩,if_pos ⟨by omega,hb'⟩]
     ·rw[if_neg (fun h=>hj1 h.1),if_neg (fun h=>by omega)]
    ·rw[if_neg (fun h=>hb' h.2),if_neg (fun h=>hb' h.2)]
 ·rintro σ H' ⟨b1,n1,v1,rfl,pa',hB',lb,cb,hl',kb,la⟩
  rw[List.length_map,List.length_map] at la
  refine⟨_,rfl,p,Ae,q.dp,_,_,rfl,pa'.t.1,T.cl_Pool,T.n_Pool_draft,rfl,q.dd,_,rfl,pa'.d,?_⟩
  have mdd:q.dd∈BK p q cs bs:=by unfold BK;simp
  have no:∀{a u},H' a=some u→(∀kvs,u≠.dK kvs)→a≠q.dd:=fun{a u} h n zz=>by
   rw[zz,pa'.d] at h
   exact n _ (Option.some.inj h).symm
  obtain⟨dx,s0,h1,h2,h3,h4⟩:=id hB'
  have tp:∀c ys,H' c=some (.tup ys)→(upd H' q.dd (.dK [])) c=some (.tup ys):=fun c ys h=>by rw[Aj (no h (by intro kvs z;cases z))];exact h
  have lp:∀c ys,H' c=some (.lst ys)→(upd H' q.dd (.dK [])) c=some (.lst ys):=fun c ys h=>by rw[Aj (no h (by intro kvs z;cases z))];exact h
  obtain⟨dxb,sb,hb1,_⟩:=id hB
  refine hq _ b1 n1 ⟨?_,?_,fun e he=>?_,pa'.t.2.2.2⟩ Ag ⟨dx,s0,?_,lp _ _ h2,h3,?_⟩ lb la (fun c ys h=>tp _ _ ?_) (fun c ys h=>lp _ _ ?_)
  ·rw[Aj (no pa'.t.1 (by intro kvs z;cases z))];exact pa'.t.1
  ·rw[Aj pa'.n2];exact pa'.t.2.1
  ·have hc:=(pa'.t.2.2.1 e he).1
   exact(pa'.t.2.2.1 e he).tup (Aj (no hc (by intro kvs z;cases z))) tp
  ·rw[Aj (no h1 (by intro kvs z;cases z))];exact h1
  ·exact h4.same lp fun d hd kvs h=>by rw[Aj (fun z=>ap.2 d hd (by rw[z];exact mdd))];exact h
  ·exact kb c _ h (AW h hb1 (by intro z;cases z)) (hB.notin h (by intro kvs z;cases z))
  ·exact kb c _ h (AW h hb1 (by intro z;cases z)) (hB.notin h (by intro kvs z;cases z))
end
open M08
section
variable {P:Program}{w:World}{K:W.Frag}{mg:Str→Option Value}{base:Heap}{f Ab Ad Aa Ae:Addr}{XC:Nat→Addr}{fd:FuncData}
def D2 (z:Str):Prop:=∀c∈A6 z,c∈A6 SG
def num (c:Nat):Int:=PySem.Txt.find SG ⟨#[c]⟩
theorem num_nonneg:∀c∈A6 SG,0≤num c:=by decide +kernel
def full (p:List Nat):Bool:=decide (2≤p.length)&&(decide (p.length=8)||decide ((num (p.getD (p.length-1) 0)+7*num (p.getD (p.length-2) 0))%5=0))
abbrev toS (l:List Nat):Str:=⟨l.toArray⟩
theorem Gz (l:List Nat):A6 (toS l)=l:=rfl
theorem Nc (l:List Nat):(toS l).length=l.length:=by rw[←AL,Gz]
theorem UU (l:List Nat)(c:Nat):toS l++⟨#[c]⟩=toS (l++[c]):=IT (MQ _ _)
theorem at_neg {l:List Nat}{k:Nat}(h1:1≤k)(h2:k≤l.length):Kg l (-(k:Int))=some (l.getD (l.length-k) 0):=by
 have e:RP l.length (-(k:Int))=some (l.length-k):=by
  unfold RP
  rw[if_neg (by omega),if_pos (by omega)]
  exact congrArg some (by omega)
 have hk:l.length-k<l.length:=by omega
 unfold Kg
 rw[e]
 show l[l.length-k]?=_
 rw[List.getElem?_eq_getElem hk];simp only[List.getD,List.getElem?_eq_getElem hk,Option.getD_some]
theorem getD_mem {l:List Nat}{k:Nat}(h:k<l.length):l.getD k 0∈l:=by
 simp only[List.getD,List.getElem?_eq_getElem h,Option.getD_some]
 exact List.getElem_mem h
def DQ (K:W.Frag):Sp:=fun vs H Q _=>∃p:List Nat,vs=[.str (toS p)]∧p.length≤1000∧(∀c∈p,c∈A6 SG)∧Q (.bl (full p)) H
def NV (gs:List (List Nat)):List V:=gs.map fun l=>V.str (toS l)
theorem IZ (gs:List (List Nat)):(NV gs).length=gs.length:=List.length_map _
theorem Oc (gs:List (List Nat))(l:List Nat):NV gs++[V.str (toS l)]=NV (gs++[l]):=by simp[NV]
def Gp (K:W.Frag):Sp:=fun vs H Q _=>∃z:Str,vs=[.str z]∧z.length≤1000∧D2 z∧
 ∀(r:Addr) (H':Hp),Aq H H'→H r=none→H' r=some (.lst (NV (cut full [] (A6 z))))→Q (.ref r) H'
def piece (l:List Nat)(b e:Nat):List Nat:=(l.drop b).take (e-b)
theorem JA (T:Txt K mg Ab Ad Aa Ae XC)(F:Fun K "is_piece_full" "is_piece_full" BC f fd)(AN:Def P w K mg base 1 "number_of" ["sign"] (Ca K)):FnOk P w K mg base B9 2 f fd ["piece"] (DQ K):=by
 exists Js
 ·obtain⟨a,rfl,_⟩:=h
  rfl
 obtain⟨p,rfl,hl,hp,q⟩:=h
 refine⟨_,(!Af (!AM (!AF QC (!Ar CS (by rfl) T.b_len Bp (!Ac (pv 0) (!Ah) (by rfl)) (by decide) (by decide) (by rfl) (by rfl)) (!Ak) (AC _)) (!Al (!An (!Fo))) (!Av)) (!Al (!An (!Ws (!Cw Bu (!Ar CS (by rfl) T.b_len Bp (!Ac (pv 0) (!Ah) (by rfl)) (by decide) (by decide) (by rfl) (by rfl)) (!Ax rfl T.c_MOST_IN_ONE (by decide)) (AC _)) (!Fs (!Cw Bu (!Az By (!Az Cr (!AE AN (by trivial) rfl (!Ac (!AG K6 (pv 0) (!Qk MI (!Ak)) (fun _ _=>rfl)) (!Ah) (by rfl)) (by decide) (by rfl) (by rfl)) (!Az Hv (!Ak) (!AE AN (by trivial) rfl (!Ac (!AG K6 (pv 0) (!Qk MI (!Ak)) (fun _ _=>rfl)) (!Ah) (by rfl)) (by decide) (by rfl) (by rfl)))) (!Ak)) (!Ak) (AC _))))))),?_⟩
 have el:(toS p).length=p.length:=Nc p
 refine⟨_,rfl,_,rfl,small (by omega),_,_,rfl,rfl,_,rfl,?_⟩
 refine D5 (fun c=>?_) (fun c=>?_)
 ·have c':=dec_true c
  have:full p=false:=by unfold full;rw[decide_eq_false (by omega)];rfl
  rw[this] at q
  exact q
 ·have c':=dec_false c
  have h2:2≤p.length:=by omega
  refine⟨_,rfl,_,rfl,small (by omega),rfl,_,rfl,?_⟩
  refine D5 (fun d=>?_) (fun d=>?_)
  ·have d':p.length=8:=by
    have:=V.int.inj (dec_true d);omega
   have:full p=true:=by unfold full;rw[decide_eq_true h2,decide_eq_true d'];rfl
   rw[this] at q
   exact q
  ·have d':¬p.length=8:=by
    intro z
    exact dec_false d (by rw[el,z];rfl)
   have n1:0≤num (p.getD (p.length-1) 0):=num_nonneg _ (hp _ (getD_mem (by omega)))
   have n2:0≤num (p.getD (p.length-2) 0):=num_nonneg _ (hp _ (getD_mem (by omega)))
   refine⟨_,rfl,_,rfl,_,_,_,rfl,rfl,small (by omega),at_neg (l:=p) (k:=1) (by decide) (by omega),_,rfl,n1,_,rfl,_,rfl,_,_,_,rfl,rfl,small (by omega),at_neg (l:=p) (k:=2) (by decide) (by omega),_,rfl,n2,_,_,rfl,rfl,.inl ⟨by decide,by decide⟩,_,_,rfl,rfl,_,_,rfl,rfl,(by show(0:Int)<5;decide),rfl,?_⟩
   have:full p=decide (V.int ((num (p.getD (p.length-1) 0)+7*num (p.getD (p.length-2) 0))%5)=V.int 0):=by
    unfold full;rw[decide_eq_true h2,decide_eq_false d',Gw,Bool.beq_eq_decide_eq];rfl
   rw[this] at q
   exact q
theorem MK (T:Txt K mg Ab Ad Aa Ae XC)(F:Fun K "pieces_of" "pieces_of" De f fd)(Eb:Def P w K mg base 2 "is_piece_full" ["piece"] (DQ K)):FnOk P w K mg base B9 3 f fd ["content"] (Gp K):=by
 exists CL
 ·obtain⟨a,rfl,_⟩:=h
  rfl
 obtain⟨z,rfl,hlen,hz,q⟩:=h
 refine⟨_,(!Af (@Ay _ _ (1) _ _ _ _ CL.nd rfl (by trivial) (!Cq (!Ah)) (by rfl) (by trivial)) (!Af (@Ay _ _ (2) _ _ _ _ CL.nd rfl (by trivial) (!ER) (by rfl) (by trivial)) (!Af (!BY PassesOwn.never rfl (!Jn (pv 0)) (@As _ _ (3) _ CL.nd rfl (by trivial) (by trivial)) (!Af (@Ay _ _ (2) _ _ _ _ CL.nd rfl (by trivial) (!Az Dz (pv 2) (pv 3)) (by rfl) (by trivial)) (!Al (!AM (!Br (!AE Eb (by trivial) rfl (!Ac (pv 2) (!Ah) (by rfl)) (by decide) (by rfl) (by rfl)) (by intro _;rfl)) (!Af (!Bm (!E9 PySem.F.plainAttrs_list PySem.F.slot_list_append PySem.F.type_list_append Cm (pv 1) (!Ac (pv 2) (!Ah) (by rfl)) (by rfl) (by rfl) (by rfl) (by rfl) (by rfl)) (by rfl)) (!Al (@Ay _ _ (2) _ _ _ _ CL.nd rfl (by trivial) (!ER) (by rfl) (by trivial)))) (!Av)))) (by intro _;rfl)) (!Af (!AM (!AF LC (pv 2) (!ER) (AC _)) (!Al (!Bm (!E9 PySem.F.plainAttrs_list PySem.F.slot_list_append PySem.F.type_list_append Cm (pv 1) (!Ac (pv 2) (!Ah) (by rfl)) (by rfl) (by rfl) (by rfl) (by rfl) (by rfl)) (by rfl))) (!Av)) (!Al (!An (pv 1))))))),?_⟩
 have zl:=AL z
 refine⟨LY,fun g hg=>?_⟩
 refine⟨_,rfl,z,rfl,Vd (fun i σ H2=>∃(gs:List (List Nat)) (p:List Nat) (v:Option V),σ=[some (.str z),some (.ref g),some (.str (toS p)),v]∧Aq H H2∧H2 g=some (.lst (NV gs))∧cut full [] (A6 z)=gs++cut full p ((A6 z).drop i)∧gs.length≤i∧p.length≤i∧∀c∈p,c∈A6 SG)
  ⟨[],[],none,rfl,Am hg _,Ag,by simp,Nat.zero_le _,Nat.zero_le _,fun _ h=>nomatch h⟩ ?_ ?_⟩
 ·rintro i c σ H2 hi ⟨gs,p,v,rfl,s2,hg2,hcut,hle,hpl,hp⟩
  have hi':(A6 z)[i]?=some c:=by simpa using hi
  have hil:i<(A6 z).length:=(List.getElem?_eq_some_iff.mp hi').1
  have hp':∀c'∈p++[c],c'∈A6 SG:=fun c' hc=>by
   rcases List.mem_append.mp hc with hc|hc
   ·exact hp c' hc
   ·rw[List.mem_singleton.mp hc];exact hz c (List.mem_of_getElem? hi')
  have pl:=Nc p
  refine⟨_,rfl,_,rfl,_,_,rfl,rfl,small (by rw[pl];show p.length+1≤_;omega),?_⟩
  rw[UU]
  refine⟨_,rfl,p++[c],rfl,by rw[List.length_append];show p.length+1≤_;omega,hp',_,rfl,?_⟩
  obtain⟨p1,p2⟩:=OL hi' hcut
  refine D5 (fun d=>?_) (fun d=>?_)
  ·refine⟨_,rfl,.inl ⟨rfl,_,AU.of hg2⟩,_,rfl,g,_,_,rfl,rfl,hg2,Bd (by rw[IZ];omega),?_⟩
   refine⟨gs++[p++[c]],[],_,rfl,A0 s2 hg _,?_,p1 d,?_,Nat.zero_le _,fun _ h=>nomatch h⟩
   ·rw[Ag,Oc]
   ·rw[List.length_append];show gs.length+1≤_;omega
  ·exact⟨gs,p++[c],_,rfl,s2,hg2,p2 d,by omega,by rw[List.length_append];show p.length+1≤_;omega,hp'⟩
 ·rintro σ H2 ⟨gs,p,v,rfl,s2,hg2,hcut,hle,hpl,hp⟩
  rw[show z.cps.size=(A6 z).length by simp,List.drop_length] at hcut
  have hle':gs.length≤(A6 z).length:=by simpa using hle
  refine⟨_,rfl,rfl,_,rfl,?_⟩
  refine D5 (fun c=>?_) (fun c=>?_)
  ·have c':¬p=[]:=by
    rintro rfl
    exact absurd c (by decide)
   refine⟨_,rfl,.inl ⟨rfl,_,AU.of hg2⟩,_,rfl,g,_,_,rfl,rfl,hg2,Bd (by rw[IZ];omega),?_⟩
   refine⟨_,rfl,q g _ (A0 s2 hg _) hg ?_⟩
   rw[Ag,hcut,cut,if_neg c',Oc]
  ·have c':p=[]:=by
    have:V.str (toS p)=V.str (PySem.Str.ofString ""):=Classical.byContradiction fun h=>c (by rw[decide_eq_false h];rfl)
    have:=V.str.inj this
    have e:=congrArg A6 this
    rw[Gz] at e
    exact e
   refine⟨_,rfl,q g _ s2 hg ?_⟩
   rw[hg2,hcut,cut,if_pos c',List.append_nil]
def GK (K:W.Frag):Sp:=fun vs H Q _=>∃(a:Addr) (ns:List Int),vs=[.ref a]∧AU K H a (ns.map V.int)∧ns.length≤1000∧
 ∀(r:Addr) (H':Hp),Aq H H'→H r=none→H' r=some (.lst ((Gg 0 ns).map V.int))→Q (.ref r) H'
theorem TR {ns:List Int}{i m:Nat}{z:Int}{gs:List Int}(hi:ns[i]?=some z)(h:Gg 0 ns=gs++Gg m (ns.drop i)) :
  (m+1=8∨(2≤m+1∧z%3=0)→Gg 0 ns=(gs++[((m:Int)+1)])++Gg 0 (ns.drop (i+1)))∧(¬(m+1=8∨(2≤m+1∧z%3=0))→Gg 0 ns=gs++Gg (m+1) (ns.drop (i+1))):=by
 obtain⟨hl,e⟩:=List.getElem?_eq_some_iff.mp hi
 have hd:ns.drop i=z::ns.drop (i+1):=by rw[←e];exact List.drop_eq_getElem_cons hl
 rw[hd] at h
 refine⟨fun c=>?_,fun c=>?_⟩
 ·rw[h,Gg,if_pos c,List.append_assoc];rfl
 ·rw[h,Gg,if_neg c]
theorem GC:∀(u:List Int),(∀x∈u,0≤x)→0≤u.sum
 |[],_=>by simp
 |a::u,hu=>by
  rw[List.sum_cons]
  have h1:=hu a List.mem_cons_self
  have h2:=GC u fun x hx=>hu x (List.mem_cons_of_mem _ hx)
  omega
theorem Np (T:Txt K mg Ab Ad Aa Ae XC)(F:Fun K "groups_of" "groups_of" Df f fd):FnOk P w K mg base B9 1 f fd ["sums"] (GK K):=by
 exists CK
 ·obtain⟨a,ns,rfl,_⟩:=h
  rfl
 obtain⟨a,ns,rfl,hS,hlen,q⟩:=h
 refine⟨_,(!Af (@Ay _ _ (1) _ _ _ _ CK.nd rfl (by trivial) (!Cq (!Ah)) (by rfl) (by trivial)) (!Af (@Ay _ _ (2) _ _ _ _ CK.nd rfl (by trivial) (!Ak) (by rfl) (by trivial)) (!Af (!BY PassesOwn.never rfl (!BA (pv 0)) (@As _ _ (3) _ CK.nd rfl (by trivial) (by trivial)) (!Af (@P8 _ _ (2) _ _ _ _ _ _ CK.nd rfl (by trivial) (!Ak) Gy (by trivial)) (!Al (!AM (@PW.pt _ _ _ (!Fn (!AF Bu (pv 2) (!Ax rfl T.c_MOST_IN_ONE (by decide)) (AC _)) (!DT (@PW.pt _ _ _ (!TK (!AF WO (pv 2) (!Ak) (AC _)) (!QJ (!AF Bu (!Az By (pv 3) (!Ak)) (!Ak) (AC _)))))))) (!Af (!Bm (!E9 PySem.F.plainAttrs_list PySem.F.slot_list_append PySem.F.type_list_append Cm (pv 1) (!Ac (pv 2) (!Ah) (by rfl)) (by rfl) (by rfl) (by rfl) (by rfl) (by rfl)) (by rfl)) (!Al (@Ay _ _ (2) _ _ _ _ CK.nd rfl (by trivial) (!Ak) (by rfl) (by trivial)))) (!Av)))) (by intro _;rfl)) (!Af (!AM (!AF MC (pv 2) (!Ak) (AC _)) (!Al (!Bm (!E9 PySem.F.plainAttrs_list PySem.F.slot_list_append PySem.F.type_list_append Cm (pv 1) (!Ac (pv 2) (!Ah) (by rfl)) (by rfl) (by rfl) (by rfl) (by rfl) (by rfl)) (by rfl))) (!Av)) (!Al (!An (pv 1))))))),?_⟩
 refine⟨LY,fun g hg=>?_⟩
 refine⟨_,rfl,a,rfl,⟨_,(Am hg _).seq hS⟩,Cb (K:=K) (a:=a) (xs:=ns.map V.int) (fun i σ H2=>∃(gs:List Int) (m:Nat) (v:Option V),σ=[some (.ref a),some (.ref g),some (.int m),v]∧Aq H H2∧H2 g=some (.lst (gs.map V.int))∧Gg 0 ns=gs++Gg m (ns.drop i)∧gs.length≤i)
  ⟨[],0,none,rfl,Am hg _,Ag,by simp,Nat.zero_le _⟩ (fun i σ H2 _ ⟨_,_,_,_,s2,_⟩=>s2.seq hS) ?_ ?_⟩
 ·rintro i y σ H2 hi ⟨gs,m,v,rfl,s2,hg2,hgrp,hle⟩
  obtain⟨z,rfl,hz⟩:=QA hi
  have hil:i<ns.length:=(List.getElem?_eq_some_iff.mp hz).1
  refine⟨_,rfl,_,_,rfl,rfl,?_⟩
  dsimp only[Cv,Vb]
  refine Tq (decide (V.int ((m:Int)+1)=V.int 8)) (decide ((2:Int)≤(m:Int)+1)&&decide (V.int (z%3)=V.int 0)) (fun R q=>⟨_,rfl,rfl,_,rfl,q⟩) (fun _ R q=>V9 _ _ (fun R q=>⟨_,rfl,_,_,rfl,rfl,_,rfl,q⟩) (fun _ R q=>⟨_,rfl,_,_,rfl,rfl,(by show(0:Int)<3;decide),rfl,_,rfl,q⟩) q) ?_
  obtain⟨p1,p2⟩:=TR hz hgrp
  refine D5 (fun c=>?_) (fun c=>?_)
  ·have c':m+1=8∨(2≤m+1∧z%3=0):=by
    simp only[Bool.or_eq_true,Bool.and_eq_true,decide_eq_true_eq,V.int.injEq] at c
    omega
   refine⟨_,rfl,.inl ⟨rfl,_,AU.of hg2⟩,_,rfl,g,_,_,rfl,rfl,hg2,Bd (by rw[List.length_map];omega),?_⟩
   refine⟨gs++[((m:Int)+1)],0,_,rfl,A0 s2 hg _,?_,p1 c',?_⟩
   ·rw[Ag,List.map_append];rfl
   ·rw[List.length_append];simp;omega
  ·have c':¬(m+1=8∨(2≤m+1∧z%3=0)):=by
    simp only[Bool.or_eq_true,Bool.and_eq_true,decide_eq_true_eq,V.int.injEq] at c
    omega
   exact⟨gs,m+1,_,rfl,s2,hg2,p2 c',by omega⟩
 ·rintro σ H2 ⟨gs,m,v,rfl,s2,hg2,hgrp,hle⟩
  rw[List.length_map,List.drop_length] at hgrp
  rw[List.length_map] at hle
  refine⟨_,rfl,_,_,rfl,rfl,_,rfl,?_⟩
  refine D5 (fun c=>?_) (fun c=>?_)
  ·have c':0<m:=by have:=dec_true c;omega
   refine⟨_,rfl,.inl ⟨rfl,_,AU.of hg2⟩,_,rfl,g,_,_,rfl,rfl,hg2,Bd (by rw[List.length_map];omega),?_⟩
   refine⟨_,rfl,q g _ (A0 s2 hg _) hg ?_⟩
   rw[Ag,hgrp,Gg,if_pos c',List.map_append];rfl
  ·have c':¬0<m:=by have:=dec_false c;omega
   refine⟨_,rfl,q g _ s2 hg ?_⟩
   rw[hg2,hgrp,Gg,if_neg c',List.append_nil]
def Kn (H H':Hp):Prop:=∀a o,H a=some o→(∀C d fs,o≠.ins C d fs)→(∀kvs,o≠.dK kvs)→H' a=some o
theorem Kn.refl {H:Hp}:Kn H H:=fun _ _ h _ _=>h
theorem Kn.trans {H H' H'':Hp}(e:Kn H H')(g:Kn H' H''):Kn H H'':=fun a o h n1 n2=>g a o (e a o h n1 n2) n1 n2
theorem Aq.kn {H H':Hp}(s:Aq H H'):Kn H H':=fun _ _ h _ _=>s.get h
theorem Kn.seq {H H':Hp}{a:Addr}{xs:List V}(e:Kn H H')(h:AU K H a xs):AU K H' a xs:=by
 rcases h with(h|⟨o,h⟩)|h
 ·exact .inl (.inl (e _ _ h (by intro C d fs z;cases z) (by intro kvs z;cases z)))
 ·exact .inl (.inr ⟨o,e _ _ h (by intro C d fs z;cases z) (by intro kvs z;cases z)⟩)
 ·exact .inr h
theorem Kn.tup {H H':Hp}(e:Kn H H'):∀c ys,H c=some (.tup ys)→H' c=some (.tup ys):=fun c ys h=>e c _ h (by intro C d fs z;cases z) (by intro kvs z;cases z)
theorem Kn.lst {H H':Hp}(e:Kn H H'){c:Addr}{ys:List V}(h:H c=some (.lst ys)):H' c=some (.lst ys):=e c _ h (by intro C d fs z;cases z) (by intro kvs z;cases z)
theorem Kn.upd {H H':Hp}{a:Addr}{o:HO}(e:Kn H H')(n:H a=none):Kn H (upd H' a o):=fun c u h n1 n2=>by
 rw[Aj (fun z=>by rw[z,n] at h;cases h)]
 exact e c u h n1 n2
theorem QI:∀(l:List Int) (t:Int),0≤t→t≤996→0≤l.foldl (fun t n=>(31*t+n+1)%997) t∧l.foldl (fun t n=>(31*t+n+1)%997) t≤996
 |[],t,h0,h1=>⟨h0,h1⟩
 |x::l,t,_,_=>QI l ((31*t+x+1)%997) (by omega) (by omega)
theorem sum_in (b:Bk):0≤A9 b∧A9 b≤996:=by
 have k:0≤kindB b∧kindB b≤2:=by cases b<;>simp[kindB]
 exact QI _ _ (by omega) (by omega)
def At (cs:List Cl)(t:Tg)(b:Bk):Prop:=∃e∈cs,(e.z,e.y,A9 e.bk)=t∧e.bk=b
def Ck (y:Int)(cs:List Cl):Prop:=∀e∈cs,Oa (e.z,e.y,A9 e.bk)∧e.y=y
def ES (cs cs':List Cl):Prop:=∀t b,At cs t b→At cs' t b
theorem ES.refl {cs:List Cl}:ES cs cs:=fun _ _ h=>h
theorem ES.trans {a b c:List Cl}(g:ES a b)(h:ES b c):ES a c:=fun t b q=>h t b (g t b q)
def Kd (cs:List Cl):Prop:=∀e0∈cs,∀t∈A4 e0.bk,∃e∈cs,(e.z,e.y,A9 e.bk)=t∧1≤e.k
def XG (cs:List Cl)(W:List Tg):Prop:=∀e∈cs,(∃e0∈cs,(e.z,e.y,A9 e.bk)∈A4 e0.bk)∨(e.z,e.y,A9 e.bk)∈W
structure Pg (CP CT:Addr) (H:Hp) (p:Addr) (q:Pl) (cs:List Cl) (bs:List (Int×Addr)) (y:Int) (fb:List Addr) (HB:Hp) (W:List Tg):Prop where
 pa:PAt CP CT H p q cs bs
 ck:Ck y cs
 nb:(cs.map (·.bk)).Nodup
 bd:∀a∈fb,∃o,HB a=some o∧H a=some o
 ap:∀a∈fb,a∉BK p q cs bs
 kd:Kd cs
 nm:XG cs W
 k0:∀e∈cs,0≤e.k
section
variable {CP CT:Addr}{H H':Hp}{p:Addr}{q:Pl}{cs:List Cl}{bs:List (Int×Addr)}{y:Int}{fb:List Addr}{HB:Hp}{W:List Tg}
theorem Pg.same (s:Aq H H')(h:Pg CP CT H p q cs bs y fb HB W):Pg CP CT H' p q cs bs y fb HB W:={ h with pa:=h.pa.same s,bd:=fun a ha=>(h.bd a ha).imp fun _ e=>⟨e.1,s.get e.2⟩ }
theorem Pg.lst {l:Addr}{us us':List V}(h:Pg CP CT H p q cs bs y fb HB W)(hl:H l=some (.lst us))(nl:l∉fb):Pg CP CT (upd H l (.lst us')) p q cs bs y fb HB W:={ h with pa:=h.pa.lst hl,bd:=fun a ha=>(h.bd a ha).imp fun _ e=>⟨e.1,by rw[Aj (fun z=>nl (by rw[←z];exact ha))];exact e.2⟩ }
theorem Pg.wait {W':List Tg}(h:Pg CP CT H p q cs bs y fb HB W)(nm:XG cs W'):Pg CP CT H p q cs bs y fb HB W':={ h with nm:=nm }
theorem Pg.out (h:Pg CP CT H p q cs bs y fb HB W){l:Addr}(nl:H l=none):l∉fb:=fun hl=>by
 obtain⟨o,_,e⟩:=h.bd l hl
 rw[nl] at e
 cases e
theorem RH {l:List Int}{z:Int}(h:z∈l):(1:Int)≤(l.count z:Int):=by
 have:=List.count_pos_iff.mpr h
 omega
theorem Nj {v:V} {b:Bk} {Q:VK} {E:XK} (pg:Pg CP CT H p q cs bs y fb HB W) (few:cs.length≤10000) (hv:Rep NL H (Dk b) v) (ok:FJ b) (hn:∀t∈A4 b,∃b',At cs t b') (yb:0≤y∧y≤999999999)
  (k:∀H' q' cs' bs' t a,Pg CP CT H' p q' cs' bs' y fb HB (W++[t])→q'.bo=q.bo→ES cs cs'→cs'.length≤cs.length+1→At cs' t b→H' a=some (.tup [.int t.1,.int t.2.1,.int t.2.2])→Kn H H'→Q (.ref a) H'):D0 K CP CT [.ref p,v,.int y] H Q E:=by
 have hn':∀t∈A4 b,∃e∈cs,e.z=t.1:=fun t ht=>by
  obtain⟨b',e,he,rfl,_⟩:=hn t ht
  exact⟨e,he,rfl⟩
 refine⟨p,q,cs,bs,v,b,y,rfl,pg.pa,few,hv,ok,hn',fun e he eb H' s'=>?_,fun hne H' c dx l ta bs' hc hl0 _ pa' f' bfr=>?_⟩
 ·exact k H' q cs bs _ e.ta ((pg.same s').wait fun x hx=>(pg.nm x hx).imp id fun h=>List.mem_append.mpr (.inl h)) rfl ES.refl (by omega) ⟨e,he,rfl,eb⟩ (s'.get (pg.pa.t.2.2.1 e he).2.1) (Aq.kn s')
 ·have sb:=sum_in b
  have mem:bump ((A4 b).map (·.1)) (Ef ((cs.length:Int)+1) y b v c dx ta l cs)∈(cs++[Ef ((cs.length:Int)+1) y b v c dx ta l cs]).map (bump ((A4 b).map (·.1))):=List.mem_map.mpr ⟨_,List.mem_append.mpr (.inr (List.mem_singleton.mpr rfl)),rfl⟩
  have up:∀e∈cs,bump ((A4 b).map (·.1)) e∈(cs++[Ef ((cs.length:Int)+1) y b v c dx ta l cs]).map (bump ((A4 b).map (·.1))):=fun e he=>List.mem_map.mpr ⟨e,List.mem_append.mpr (.inl he),rfl⟩
  have cn:∀(z:Int),(0:Int)≤(((A4 b).map (·.1)).count z:Int):=fun z=>by omega
  refine k H' _ _ bs' ((cs.length:Int)+1,y,A9 b) ta ⟨pa',fun e he=>?_,?_,fun a ha=>?_,fun a ha=>?_,fun e0 he0 t ht=>?_,fun e he=>?_,fun e he=>?_⟩ rfl (fun t b0 h=>?_) (by rw[List.length_map,List.length_append];exact Nat.le_refl _) ⟨_,mem,rfl,rfl⟩ (pa'.t.2.2.1 _ mem).2.1 fun a o h n1 n2=>f' a o h (pg.pa.apart h n1 n2)
  ·obtain⟨e0,he0,rfl⟩:=List.mem_map.mp he
   rcases List.mem_append.mp he0 with h|h
   ·exact pg.ck e0 h
   ·rw[List.mem_singleton.mp h]
    exact⟨⟨⟨by show(1:Int)≤(cs.length:Int)+1;omega,by show(cs.length:Int)+1≤999999;omega⟩,yb,sb.1,sb.2⟩,rfl⟩
  ·rw[List.map_map]
   show((cs++[Ef ((cs.length:Int)+1) y b v c dx ta l cs]).map fun e=>e.bk).Nodup
   rw[List.map_append,List.nodup_append]
   refine⟨pg.nb,by simp,fun u hu' w hw=>?_⟩
   obtain⟨e0,h0,rfl⟩:=List.mem_map.mp hu'
   have:w=b:=List.mem_singleton.mp hw
   rw[this]
   exact hne e0 h0
  ·obtain⟨o,h1,h2⟩:=pg.bd a ha
   exact⟨o,h1,f' a o h2 (pg.ap a ha)⟩
  ·obtain⟨o,h1,h2⟩:=pg.bd a ha
   have h3:=pg.ap a ha
   unfold BK at h3 ⊢
   simp only[List.mem_cons,List.mem_append,List.mem_map,not_or] at h3 ⊢
   refine⟨h3.1,h3.2.1,h3.2.2.1,h3.2.2.2.1,?_,?_⟩
   ·rintro⟨x,hx,rfl⟩
    rcases bfr x hx with h|h
    ·exact h3.2.2.2.2.1 ⟨x,h,rfl⟩
    ·rw[h2] at h;cases h
   ·rintro⟨x,hx,rfl⟩
    obtain⟨e0,he0,rfl⟩:=hx
    rcases he0 with h|h
    ·exact h3.2.2.2.2.2 ⟨e0,h,rfl⟩
    ·rw[(by simpa using h:e0=Ef ((cs.length:Int)+1) y b v c dx ta l cs)] at h2
     have h2:H c=some o:=h2
     rw[hc] at h2;cases h2
  ·obtain⟨e1,he1,rfl⟩:=List.mem_map.mp he0
   rcases List.mem_append.mp he1 with h|h
   ·obtain⟨e,he,et,ek⟩:=pg.kd e1 h t ht
    refine⟨_,up e he,et,?_⟩
    show 1≤e.k+_
    have:=cn e.z
    omega
   ·rw[List.mem_singleton.mp h] at ht
    have ht:t∈A4 b:=ht
    obtain⟨b',e,he,et,_⟩:=hn t ht
    refine⟨_,up e he,et,?_⟩
    show 1≤e.k+_
    have:=pg.k0 e he
    have:=RH (l:=(A4 b).map (·.1)) (z:=e.z) (List.mem_map.mpr ⟨t,ht,by rw[←et]⟩)
    omega
  ·obtain⟨e1,he1,rfl⟩:=List.mem_map.mp he
   rcases List.mem_append.mp he1 with h|h
   ·rcases pg.nm e1 h with⟨e0,he0,h0⟩|h0
    ·exact .inl ⟨_,up e0 he0,h0⟩
    ·exact .inr (List.mem_append.mpr (.inl h0))
   ·rw[List.mem_singleton.mp h]
    exact .inr (List.mem_append.mpr (.inr (List.mem_singleton.mpr rfl)))
  ·obtain⟨e1,he1,rfl⟩:=List.mem_map.mp he
   have h1:0≤e1.k:=by
    rcases List.mem_append.mp he1 with h|h
    ·exact pg.k0 e1 h
    ·rw[List.mem_singleton.mp h];exact Int.le_refl _
   show 0≤e1.k+_
   have:=cn e1.z
   omega
  ·obtain⟨e0,he0,e1,e2⟩:=h
   exact⟨bump _ e0,up e0 he0,e1,e2⟩
end
def chunk:List Int→List Tg→List (List Tg)
 |[],_=>[]
 |g::gs,ts=>ts.take g.toNat::chunk gs (ts.drop g.toNat)
def KD (ts:List Tg):List (List Tg):=if ts=[] then[[]] else chunk (Gg 0 (ts.map (·.2.2))) ts
def JB (cs:List Cl)(lv:Int)(ts us:List Tg):Prop:=us.length=(KD ts).length∧∀(k:Nat) u c,us[k]?=some u→(KD ts)[k]?=some c→At cs u (.row lv c)
theorem JB.grow {cs cs':List Cl}(g:ES cs cs'){lv:Int}{ts us:List Tg}(h:JB cs lv ts us):JB cs' lv ts us:=⟨h.1,fun k u c h1 h2=>g _ _ (h.2 k u c h1 h2)⟩
def Tw (cs:List Cl)(ts0:List Tg):Nat→List Tg→Prop
 |0,us=>us=ts0
 |l+1,us=>∃ts,Tw cs ts0 l ts∧JB cs ((l:Int)+1) ts us∧(0<l→2≤ts.length)
theorem Tw.grow {cs cs':List Cl}(g:ES cs cs'){ts0:List Tg}:∀{l:Nat} {us:List Tg},Tw cs ts0 l us→Tw cs' ts0 l us
 |0,_,h=>h
 |l+1,_,h=>by
  obtain⟨ts,h1,h2,h3⟩:=h
  exact⟨ts,Tw.grow g h1,h2.grow g,h3⟩
def E3 (cs:List Cl)(ts0:List Tg)(ps:List (List Nat)):Prop:=ts0.length=ps.length∧∀(k:Nat) t p,ts0[k]?=some t→ps[k]?=some p→At cs t (.piece (toS p))
theorem E3.grow {cs cs':List Cl}(g:ES cs cs'){ts0:List Tg}{ps:List (List Nat)}(h:E3 cs ts0 ps):E3 cs' ts0 ps:=⟨h.1,fun k u c h1 h2=>g _ _ (h.2 k u c h1 h2)⟩
theorem chunk_len:∀(gs:List Int) (ts:List Tg),(chunk gs ts).length=gs.length
 |[],_=>rfl
 |g::gs,ts=>by
  show(chunk gs _).length+1=_
  rw[chunk_len gs];rfl
theorem NF:∀(l:List Int) (m:Nat),∀x∈Gg m l,1≤x∧x≤(m:Int)+l.length
 |[],m,x,hx=>by
  unfold Gg at hx
  split at hx
  ·rw[List.mem_singleton.mp hx];simp;omega
  ·cases hx
 |a::r,m,x,hx=>by
  unfold Gg at hx
  rw[List.length_cons]
  split at hx
  ·rcases List.mem_cons.mp hx with rfl|hx
   ·omega
   ·have:=NF r 0 x hx;omega
  ·have:=NF r (m+1) x hx;omega
theorem Nx:∀(l:List Int) (m:Nat),m≤7→∀x∈Gg m l,x≤8
 |[],m,hm,x,hx=>by
  unfold Gg at hx
  split at hx
  ·rw[List.mem_singleton.mp hx];omega
  ·cases hx
 |a::r,m,hm,x,hx=>by
  unfold Gg at hx
  split at hx
  ·rcases List.mem_cons.mp hx with rfl|hx
   ·omega
   ·exact Nx r 0 (by omega) x hx
  ·rename_i h
   exact Nx r (m+1) (by omega) x hx
theorem KY:∀(l:List Int) (m:Nat),m≤7→2*(Gg m l).length≤l.length+(if m=0 then 1 else 2)∧(l=[]→m≤1→(Gg m l).length=m)
 |[],m,hm=>by
  unfold Gg
  refine⟨?_,fun _ h=>?_⟩
  ·split
   ·rw[if_neg (by omega)];simp
   ·simp
  ·split
   ·simp;omega
   ·simp;omega
 |a::r,m,hm=>by
  unfold Gg
  refine⟨?_,fun h=>by cases h⟩
  split
  ·rename_i h
   have:=(KY r 0 (by omega)).1
   rw[if_pos rfl] at this
   rw[List.length_cons,List.length_cons]
   by_cases hm0:m=0
   ·omega
   ·rw[if_neg hm0];omega
  ·rename_i h
   have:=(KY r (m+1) (by omega)).1
   rw[if_neg (by omega)] at this
   rw[List.length_cons]
   by_cases hm0:m=0
   ·rw[if_pos hm0];omega
   ·rw[if_neg hm0];omega
theorem OQ {σ:St}{H:Hp}{Q:List V→Hp→Prop}(h:Q [] H):O4 σ H Q:=h
theorem MA {α:Type}{g:α→Tr}{H:Hp}:∀(n:Nat) {ts:List α} {ys:List V},AB NL H (ts.map g) ys→AB NL H ((ts.drop n).map g) (ys.drop n)
 |0,_,_,h=>h
 |n+1,[],ys,h=>by rw[show ys=[] from h];exact rfl
 |n+1,t::ts,ys,h=>by
  obtain⟨v,vs,rfl,_,h2⟩:=h
  exact MA n h2
theorem Mz {α:Type}{g:α→Tr}{H:Hp}:∀(n:Nat) {ts:List α} {ys:List V},AB NL H (ts.map g) ys→AB NL H ((ts.take n).map g) (ys.take n)
 |0,_,ys,_=>by rw[List.take_zero,List.take_zero];exact rfl
 |n+1,[],ys,h=>by rw[show ys=[] from h];exact rfl
 |n+1,t::ts,ys,h=>by
  obtain⟨v,vs,rfl,h1,h2⟩:=h
  exact⟨v,_,rfl,h1,Mz n h2⟩
theorem JH {α:Type}{g:α→Tr}{H:Hp}{t:α}{v:V}(hv:Rep NL H (g t) v):∀{ts:List α} {ys:List V},AB NL H (ts.map g) ys→AB NL H ((ts++[t]).map g) (ys++[v])
 |[],ys,h=>by rw[show ys=[] from h];exact⟨v,[],rfl,hv,rfl⟩
 |_::_,ys,h=>by
  obtain⟨u,vs,rfl,h1,h2⟩:=h
  exact⟨u,_,rfl,h1,JH hv h2⟩
theorem J0 {H:Hp}:∀{ts:List Tg} {ys:List V},AB NL H (ts.map Fd) ys→ys.map (Lz H)=(ts.map (·.2.2)).map V.int
 |[],ys,h=>by rw[show ys=[] from h];rfl
 |t::ts,ys,h=>by
  obtain⟨v,vs,rfl,h1,h2⟩:=h
  obtain⟨a,rfl,ha⟩:=Gn h1
  rw[List.map_cons,II ha,J0 h2];rfl
theorem Mx:∀(gs:List Int) (ts:List Tg),(∀g∈gs,1≤g)→∀{i:Nat} {g:Int},gs[i]?=some g→(chunk gs ts)[i]?=some ((ts.drop (gs.take i).sum.toNat).take g.toNat)
 |[],_,_,i,g,h=>by cases h
 |x::gs,ts,hp,0,g,h=>by
  cases h
  rfl
 |x::gs,ts,hp,i+1,g,h=>by
  have hx:=hp x List.mem_cons_self
  have hs:=GC (gs.take i) fun y hy=>Int.le_trans (by decide) (hp y (List.mem_cons_of_mem _ (List.mem_of_mem_take hy)))
  show(chunk gs (ts.drop x.toNat))[i]?=_
  rw[Mx gs _ (fun y hy=>hp y (List.mem_cons_of_mem _ hy)) h,List.drop_drop,List.take_succ_cons,List.sum_cons,show(x+(gs.take i).sum).toNat=x.toNat+(gs.take i).sum.toNat by omega]
theorem JY:∀(gs:List Int),(∀g∈gs,1≤g)→∀{i:Nat} {g:Int},gs[i]?=some g→(gs.take i).sum+g≤gs.sum
 |[],_,i,g,h=>by cases h
 |x::gs,hp,0,g,h=>by
  cases h
  rw[List.take_zero,List.sum_nil,List.sum_cons]
  have:=GC gs fun y hy=>Int.le_trans (by decide) (hp y (List.mem_cons_of_mem _ hy))
  omega
 |x::gs,hp,i+1,g,h=>by
  rw[List.take_succ_cons,List.sum_cons,List.sum_cons]
  have:=JY gs (fun y hy=>hp y (List.mem_cons_of_mem _ hy)) (i:=i) h
  omega
def TF (n:Nat)(t:Tg):Prop:=n+1=8∨(2≤n+1∧t.2.2%3=0)
instance (n:Nat) (t:Tg):Decidable (TF n t):=by unfold TF;infer_instance
def UK:List Tg→List Tg→List (List Tg)
 |acc,[]=>if acc=[] then[] else[acc]
 |acc,t::r=>if TF acc.length t then(acc++[t])::UK [] r else UK (acc++[t]) r
theorem JF:∀(l acc:List Tg),UK acc l=chunk (Gg acc.length (l.map (·.2.2))) (acc++l)
 |[],acc=>by
  rw[UK,List.map_nil,Gg]
  by_cases h:acc=[]
  ·rw[if_pos h,h];rfl
  ·have h0:0<acc.length:=List.length_pos_iff.mpr h
   rw[if_neg h,if_pos h0]
   show[acc]=[(acc++[]).take acc.length]
   rw[List.append_nil,List.take_length]
 |t::r,acc=>by
  rw[UK,List.map_cons,Gg]
  by_cases h:TF acc.length t
  ·rw[if_pos h,if_pos (show acc.length+1=8∨(2≤acc.length+1∧t.2.2%3=0) from h),JF r []]
   show _=(acc++t::r).take ((acc.length:Int)+1).toNat::chunk (Gg 0 _) ((acc++t::r).drop ((acc.length:Int)+1).toNat)
   rw[show((acc.length:Int)+1).toNat=(acc++[t]).length by simp,show acc++t::r=(acc++[t])++r by simp,List.take_left,List.drop_left]
   rfl
  ·rw[if_neg h,if_neg (show ¬(acc.length+1=8∨(2≤acc.length+1∧t.2.2%3=0)) from h),JF r (acc++[t])]
   rw[show(acc++[t]).length=acc.length+1 by simp,show acc++[t]++r=acc++t::r by simp]
theorem T9 {ts:List Tg}(ne:ts≠[]):KD ts=UK [] ts:=by
 unfold KD
 rw[if_neg ne,JF]
 rfl
theorem La:∀(l acc:List Tg),(UK acc l).flatten=acc++l
 |[],acc=>by
  rw[UK]
  by_cases h:acc=[]
  ·rw[if_pos h,h];rfl
  ·rw[if_neg h];simp
 |t::r,acc=>by
  rw[UK]
  by_cases h:TF acc.length t
  ·rw[if_pos h,List.flatten_cons,La r []];simp
  ·rw[if_neg h,La r (acc++[t])];simp
theorem LH {ts:List Tg}(ne:ts≠[]):(KD ts).flatten=ts:=by rw[T9 ne,La];rfl
def HA (K:W.Frag)(CP CT:Addr):Sp:=fun vs H Q _=>∃p q cs bs tl ys ts lv y fb HB W,vs=[.ref p,.ref tl,.int lv,.int y]∧Pg CP CT H p q cs bs y fb HB (W++ts)∧cs.length+ts.length≤9000∧H tl=some (.lst ys)∧AB NL H (ts.map Fd) ys∧(∀t∈ts,∃b,At cs t b)∧ts.length≤1000∧(1≤lv∧lv≤9)∧(1<lv→ts≠[])∧(0≤y∧y≤999999999)∧
 ∀H' q' cs' bs' rl us zs,Pg CP CT H' p q' cs' bs' y fb HB (W++us)→q'.bo=q.bo→ES cs cs'→cs'.length≤cs.length+(KD ts).length→Kn H H'→H' rl=some (.lst zs)→AB NL H' (us.map Fd) zs→JB cs' lv ts us→Q (.ref rl) H'
theorem Oh (T:Txt K mg Ab Ad Aa Ae XC)(F:Fun K "put_rows" "put_rows" DD f fd)(HD:Def P w K mg base 1 "groups_of" ["sums"] (GK K))(C7:A7 P w K mg base 19 Ae "put" ["self","block","birth"] (D0 K Ae Aa)):FnOk P w K mg base B9 20 f fd ["pool","tags","level","birth"] (HA K Ae Aa):=by
 exists D4
 ·obtain⟨p,q,cs,bs,tl,ys,ts,lv,y,fb,HB,W,rfl,_⟩:=h
  rfl
 obtain⟨p,q,cs,bs,tl,ys,ts,lv,y,fb,HB,W,rfl,pg,few,htl,ry,kn,l1000,lvb,lvn,yb,hq⟩:=h
 have pa:=pg.pa
 have hu:=CC hr
 have hu9:=IF hr
 refine⟨_,(!Af (!AM (!AF Bu (!Ar AI (by rfl) T.b_len Bp (!Ac (pv 1) (!Ah) (by rfl)) (by decide) (by decide) (by rfl) (by rfl)) (!Ak) (AC _)) (!Al (!An (!Cq (!Ac (!Bc (pv 0) T.cl_Pool C7 (by trivial) (!Ac (!Hz (!Ac (!Ax rfl T.c_ROW (by decide)) (!Ac (pv 2) (!Ac (!Hz (!Ah)) (!Ah) (by rfl)) (by rfl)) (by rfl))) (!Ac (pv 3) (!Ah) (by rfl)) (by rfl)) (by rfl) (by rfl) (by rfl)) (!Ah) (by rfl))))) (!Av)) (!Af (@Ay _ _ (4) _ _ _ _ D4.nd rfl (by trivial) (!Cq (!Ah)) (by rfl) (by trivial)) (!Af (@Ay _ _ (5) _ _ _ _ D4.nd rfl (by trivial) (!Ak) (by rfl) (by trivial)) (!Af (!BY PassesOwn.never rfl (!BA (!AE HD (by trivial) rfl (!Ac (@BE _ ["tag"] _ _ _ _ _ _ _ _ _ _ rfl (!BA (pv 1)) (by decide +kernel) (fun C s H fp=>⟨(@As _ _ (0) _ (show(["tag"]:List Str).Nodup by decide +kernel) rfl (by trivial) (by trivial)),(!AV),(!AG (KH (K:=K) (by rfl)) (pv 0) (!Ak) (fun _ _=>rfl))⟩) (by intro _;rfl)) (!Ah) (by rfl)) (by decide) (by rfl) (by rfl))) (@As _ _ (6) _ D4.nd rfl (by trivial) (by trivial)) (!Af (!Bm (!E9 PySem.F.plainAttrs_list PySem.F.slot_list_append PySem.F.type_list_append Cm (pv 4) (!Ac (!Bc (pv 0) T.cl_Pool C7 (by trivial) (!Ac (!Hz (!Ac (!Ax rfl T.c_ROW (by decide)) (!Ac (pv 2) (!Ac (!EF HW (by rfl) T.b_tuple Fb (!Ac (!CA Kz (pv 1) (!Cu (pv 5)) (!Cu (!Az Cr (pv 5) (pv 6)))) (!Ah) (by rfl)) (by decide) (by decide) (by rfl) (by rfl)) (!Ah) (by rfl)) (by rfl)) (by rfl))) (!Ac (pv 3) (!Ah) (by rfl)) (by rfl)) (by rfl) (by rfl) (by rfl)) (!Ah) (by rfl)) (by rfl) (by rfl) (by rfl) (by rfl) (by rfl)) (by rfl)) (!Al (@P8 _ _ (5) _ _ _ _ _ _ D4.nd rfl (by trivial) (pv 6) Gy (by trivial)))) (by intro _;rfl)) (!Al (!An (pv 4))))))),?_⟩
 try dsimp only[Cs,Cx.nox,Cx.wish]
 have ly:ys.length=ts.length:=by rw[AB.len _ _ ry,List.length_map]
 refine⟨_,rfl,tl,_,rfl,.inl (AU.of htl),rfl,_,rfl,D5 (fun hk=>?_) (fun hk=>?_)⟩
 ·have e0:ts=[]:=by
   have:=V.int.inj (of_decide_eq_true hk)
   exact List.eq_nil_of_length_eq_zero (by omega)
  subst e0
  refine⟨_,rfl,p,q.dp,_,rfl,pa.t.1,rfl,_,rfl,LY,fun t1 ht1=>⟨Ue,fun t2 ht2=>⟨_,rfl,OQ ?_⟩⟩⟩
  have s1:=Am ht1 (.tup [])
  have s2:=Am ht2 (.tup [.int 1,.int lv,.ref t1])
  refine Nj (b:=.row lv []) (pg.same (s1.trans s2)) (by omega) ⟨t2,_,rfl,Ag,_,_,rfl,rfl,_,_,rfl,rfl,_,_,rfl,⟨t1,_,rfl,s2.get Ag,rfl⟩,rfl⟩ ⟨lvb,by show 0≤8;decide,fun h=>absurd rfl (lvn h),fun _ h=>nomatch h⟩ (fun _ h=>nomatch h) yb fun H3 q3 cs3 bs3 t a pg3 eq3 g3 l3 at3 ha kn3=>?_
  refine⟨VE,fun rl hrl=>?_⟩
  have s4:=Am hrl (.lst [.ref a])
  refine hq _ q3 cs3 bs3 rl [t] [.ref a] (by rw[List.append_nil] at pg3;exact pg3.same s4) eq3 g3 l3 (((Aq.kn (s1.trans s2)).trans kn3).trans (Aq.kn s4)) Ag ⟨_,_,rfl,IC (s4.get ha),rfl⟩ ⟨rfl,fun k u c h1 h2=>?_⟩
  cases k with
  |zero=>cases h1;cases h2;exact at3
  |succ k=>cases h1
 have ne:ts≠[]:=fun z=>hk (decide_eq_true (by rw[ly,z];rfl))
 refine⟨LY,fun rl hrl=>?_⟩
 have s1:=Am hrl (.lst [])
 refine⟨_,rfl,tl,rfl,⟨_,AU.of (s1.get htl)⟩,?_⟩
 refine comp_map (xs:=ys) (Lz H) (EE (AU.of (s1.get htl))) (by omega) (fun x H2 R hx s2 hR=>?_) fun l2 H2 nl2 s2 hl2=>?_
 ·obtain⟨t,ht,rt⟩:=Dx ry hx
  obtain⟨a,rfl,ha⟩:=Gn rt
  have hR:=hR H2 (Aq.refl _)
  rw[II ha] at hR
  exact⟨_,rfl,a,_,_,_,rfl,rfl,AY.of (s2.get (s1.get ha)),rfl,hR⟩
 rw[J0 ry] at hl2
 refine⟨l2,ts.map (·.2.2),rfl,AU.of hl2,by rw[List.length_map];exact l1000,fun gl H3 s3 ngl hgl=>⟨gl,rfl,⟨_,AU.of hgl⟩,?_⟩⟩
 have gp:=fun g hg=>(NF (ts.map (·.2.2)) 0 g hg).1
 have g8:=Nx (ts.map (·.2.2)) 0 (by decide)
 have gsum:(Gg 0 (ts.map (·.2.2))).sum=(ts.length:Int):=by
  have:=Ky (ts.map (·.2.2)) 0
  rw[List.length_map] at this
  omega
 have glen:=Nf (ts.map (·.2.2)) 0
 rw[List.length_map] at glen
 have hch:KD ts=chunk (Gg 0 (ts.map (·.2.2))) ts:=if_neg ne
 rw[hch,chunk_len] at hq
 have k13:Kn H H3:=Aq.kn ((s1.trans s2).trans s3)
 have rl3:H3 rl=some (.lst []):=s3.get (s2.get Ag)
 have pg3:=pg.same ((s1.trans s2).trans s3)
 have nfb:=pg.out hrl
 have nrg:rl≠gl:=fun z=>by rw[←z,s2.get Ag] at ngl;cases ngl
 generalize Gg 0 (ts.map (·.2.2))=gs at gp g8 gsum glen hch hq hgl
 refine Cb (K:=K) (a:=gl) (xs:=gs.map V.int) (fun i σ H'=>∃q' cs' bs',∃(us:List Tg) (zs:List V) (v6:Option V),σ=[some (.ref p),some (.ref tl),some (.int lv),some (.int y),some (.ref rl),some (.int (gs.take i).sum),v6]∧Pg Ae Aa H' p q' cs' bs' y fb HB ((W++ts)++us)∧q'.bo=q.bo∧ES cs cs'∧cs'.length≤cs.length+i∧Kn H H'∧H' rl=some (.lst zs)∧H' gl=some (.lst (gs.map V.int))∧AB NL H' (us.map Fd) zs∧us.length=i∧∀(k:Nat) u c,us[k]?=some u→(chunk gs ts)[k]?=some c→At cs' u (.row lv c))
  ⟨q,cs,bs,[],[],none,rfl,by rw[List.append_nil];exact pg3,rfl,ES.refl,Nat.le_refl _,k13,rl3,hgl,rfl,rfl,fun k u c h=>by cases h⟩ ?_ ?_ ?_
 ·rintro i σ H' _ ⟨q',cs',bs',us,zs,v6,_,_,_,_,_,_,_,h,_⟩
  exact AU.of h
 ·rintro i x σ H' hx ⟨q',cs',bs',us,zs,v6,rfl,pg',eq',g',l',kn',rl',gl',rz,lus,hat⟩
  have pa':=pg'.pa
  obtain⟨g,rfl,hg⟩:=ints_get hx
  have hil:i<gs.length:=(List.getElem?_eq_some_iff.mp hg).1
  have gm:=List.mem_of_getElem? hg
  have g1:=gp g gm
  have gg:=g8 g gm
  have ts0:=GC (gs.take i) fun y hy=>Int.le_trans (by decide) (gp y (List.mem_of_mem_take hy))
  have tsl:=JY gs gp hg
  have hc:=Mx gs ts gp hg
  have htl':=kn'.lst htl
  have ry':=BS kn'.tup _ _ ry
  refine⟨_,rfl,.inl ⟨rfl,_,AU.of rl'⟩,_,rfl,p,q'.dp,_,rfl,pa'.t.1,rfl,_,rfl,_,rfl,_,rfl,_,rfl,_,rfl,_,rfl,_,_,rfl,rfl,_,rfl,tl,ys,rfl,AU.of htl',fun l5 hl5=>⟨l5,_,rfl,.inl ⟨AU.of Ag,fun l6 hl6=>⟨Ue,fun l7 hl7=>⟨_,rfl,OQ ?_⟩⟩⟩⟩⟩
  have ec:Fu ys (some (gs.take i).sum) (some ((gs.take i).sum+g))=(ys.drop (gs.take i).sum.toNat).take g.toNat:=by
   rw[N6 ts0 (by omega),show((gs.take i).sum+g).toNat-(gs.take i).sum.toNat=g.toNat by omega]
  have s5:=Am hl5 (.lst (Fu ys (some (gs.take i).sum) (some ((gs.take i).sum+g))))
  have s6:=Am hl6 (.tup (Fu ys (some (gs.take i).sum) (some ((gs.take i).sum+g))))
  have s7:=Am hl7 (.tup [.int 1,.int lv,.ref l6])
  have s57:=(s5.trans s6).trans s7
  have rc:AB NL (upd (upd (upd H' l5 (.lst (Fu ys (some (gs.take i).sum) (some ((gs.take i).sum+g))))) l6 (.tup (Fu ys (some (gs.take i).sum) (some ((gs.take i).sum+g))))) l7 (.tup [.int 1,.int lv,.ref l6])) (((ts.drop (gs.take i).sum.toNat).take g.toNat).map Fd) (Fu ys (some (gs.take i).sum) (some ((gs.take i).sum+g))):=by
   have:=AB.same s57 _ _ (Mz g.toNat (MA (gs.take i).sum.toNat ry'))
   rw[←ec] at this
   exact this
  have lc:((ts.drop (gs.take i).sum.toNat).take g.toNat).length=g.toNat:=by rw[List.length_take,List.length_drop];omega
  have sub:∀t∈(ts.drop (gs.take i).sum.toNat).take g.toNat,∃b,At cs' t b:=fun t ht=>by
   obtain⟨b,hb⟩:=kn t (List.mem_of_mem_drop (List.mem_of_mem_take ht))
   exact⟨b,g' t b hb⟩
  refine Nj (b:=.row lv ((ts.drop (gs.take i).sum.toNat).take g.toNat)) (pg'.same s57) (by omega) ⟨l7,_,rfl,Ag,_,_,rfl,rfl,_,_,rfl,rfl,_,_,rfl,⟨l6,_,rfl,s7.get Ag,rc⟩,rfl⟩ ⟨lvb,by rw[lc];omega,fun _ z=>by rw[z] at lc;simp at lc;omega,fun t ht=>?_⟩ sub yb fun H8 q8 cs8 bs8 t a pg8 eq8 g8' l8 at8 ha kn8=>?_
  ·obtain⟨b,e,he,rfl,_⟩:=sub t ht
   exact(pg'.ck e he).1
  have k8:Kn H' H8:=(Aq.kn s57).trans kn8
  have lz:zs.length=us.length:=by rw[AB.len _ _ rz,List.length_map]
  refine⟨rl,zs,_,rfl,rfl,k8.lst rl',Bd (by omega),?_⟩
  have rl8:=k8.lst rl'
  have tp:∀c ys,H8 c=some (.tup ys)→(upd H8 rl (.lst (zs++[.ref a]))) c=some (.tup ys):=fun c ys h=>by rw[Aj (AW h rl8 (by intro z;cases z))];exact h
  refine⟨_,rfl,_,rfl,_,_,rfl,rfl,q8,cs8,bs8,us++[t],zs++[.ref a],some (.int g),?_,(by rw[List.append_assoc] at pg8;exact pg8.lst rl8 nfb),eq8.trans eq',g'.trans g8',by omega,(kn'.trans k8).upd hrl,Ag,by rw[Aj (Ne.symm nrg)];exact k8.lst gl',JH (IC (tp _ _ ha)) (BS (fun c ys h=>tp _ _ (k8.tup _ _ h)) _ _ rz),by rw[List.length_append,lus];rfl,fun k u c h1 h2=>?_⟩
  ·rw[List.take_add_one,hg]
   simp only[Option.toList_some,List.sum_append,List.sum_cons,List.sum_nil,Int.add_zero]
   rfl
  ·by_cases hk':k<us.length
   ·rw[List.getElem?_append_left hk'] at h1
    exact g8' _ _ (hat k u c h1 h2)
   ·rw[List.getElem?_append_right (by omega)] at h1
    obtain⟨h3,h4⟩:=List.getElem?_eq_some_iff.mp h1
    have:k=i:=by
     have:k-us.length<1:=h3
     omega
    subst this
    have h4:t=u:=by
     simp only[lus,Nat.sub_self,List.getElem_cons_zero] at h4
     exact h4
    rw[hc] at h2
    cases h2
    rw[←h4]
    exact at8
 ·rintro σ H' ⟨q',cs',bs',us,zs,v6,rfl,pg',eq',g',l',kn',rl',gl',rz,lus,hat⟩
  rw[List.length_map] at l' lus
  have ro:JB cs' lv ts us:=⟨by rw[hch,chunk_len];exact lus,by rw[hch];exact hat⟩
  refine⟨_,rfl,hq H' q' cs' bs' rl us zs (pg'.wait fun e he=>?_) eq' g' l' kn' rl' rz ro⟩
  rcases pg'.nm e he with h|h
  ·exact .inl h
  rcases List.mem_append.mp h with h|h
  ·rcases List.mem_append.mp h with h|h
   ·exact .inr (List.mem_append.mpr (.inl h))
   ·rw[←LH ne] at h
    obtain⟨c,hc,hm⟩:=List.mem_flatten.mp h
    obtain⟨k,hk,rfl⟩:=List.getElem_of_mem hc
    obtain⟨e0,he0,_,eb⟩:=ro.2 k _ _ (List.getElem?_eq_getElem (show k<us.length by rw[ro.1];exact hk)) (List.getElem?_eq_getElem hk)
    exact .inl ⟨e0,he0,by rw[eb];exact hm⟩
  ·exact .inr (List.mem_append.mpr (.inr h))
theorem PR:∀(l acc:List Nat),acc.length≤7→(∀c∈acc,c∈A6 SG)→(∀c∈l,c∈A6 SG)→∀p∈cut full acc l,p≠[]∧p.length≤8∧∀c∈p,c∈A6 SG
 |[],acc,ha,hs,_,p,hp=>by
  unfold cut at hp
  split at hp
  ·cases hp
  ·rename_i h
   rw[List.mem_singleton.mp hp]
   exact⟨h,by omega,hs⟩
 |c::r,acc,ha,hs,hl,p,hp=>by
  have hs':∀x∈acc++[c],x∈A6 SG:=fun x hx=>by
   rcases List.mem_append.mp hx with h|h
   ·exact hs x h
   ·rw[List.mem_singleton.mp h];exact hl c List.mem_cons_self
  have hr:∀x∈r,x∈A6 SG:=fun x hx=>hl x (List.mem_cons_of_mem _ hx)
  have la:(acc++[c]).length=acc.length+1:=by simp
  unfold cut at hp
  split at hp
  ·rcases List.mem_cons.mp hp with rfl|hp
   ·exact⟨by simp,by omega,hs'⟩
   ·exact PR r [] (by decide) (fun _ h=>nomatch h) hr p hp
  ·rename_i h
   refine PR r (acc++[c]) ?_ hs' hr p hp
   by_cases h8:(acc++[c]).length=8
   ·exact absurd (by unfold full;rw[h8];rfl) h
   ·omega
theorem S5 {p:List Nat}(h:p≠[]∧p.length≤8∧∀c∈p,c∈A6 SG):FJ (.piece (toS p)):=by
 obtain⟨h1,h2,h3⟩:=h
 have h0:0<p.length:=List.length_pos_iff.mpr h1
 show(decide ((1:Int)≤((toS p).length:Int))&&decide (((toS p).length:Int)≤8)&&BB SG (toS p))=true
 unfold BB
 rw[Nc,Gz,Bool.and_eq_true,Bool.and_eq_true,decide_eq_true_eq,decide_eq_true_eq,List.all_eq_true]
 exact⟨⟨by omega,by omega⟩,fun c hc=>decide_eq_true (h3 c hc)⟩
theorem MO {ts:List Tg}(ne:ts≠[]):2*(KD ts).length≤ts.length+1∧1≤(KD ts).length:=by
 unfold KD
 rw[if_neg ne,chunk_len]
 have h1:=(KY (ts.map (·.2.2)) 0 (by decide)).1
 rw[if_pos rfl,List.length_map] at h1
 refine⟨h1,?_⟩
 have h2:=Ky (ts.map (·.2.2)) 0
 rw[List.length_map] at h2
 have h0:0<ts.length:=List.length_pos_iff.mpr ne
 cases hg:Gg 0 (ts.map (·.2.2)) with
 |nil=>rw[hg] at h2;simp at h2;omega
 |cons a l=>simp
theorem Tw.len {cs:List Cl}{ts0:List Tg}(ne:ts0≠[]):∀{l:Nat} {us:List Tg},Tw cs ts0 l us→us≠[]∧us.length≤ts0.length
 |0,us,h=>by rw[show us=ts0 from h];exact⟨ne,Nat.le_refl _⟩
 |l+1,us,h=>by
  obtain⟨ts,h1,h2,_⟩:=h
  obtain⟨n1,n2⟩:=Tw.len ne h1
  have c:=MO n1
  have e:=h2.1
  have h0:0<ts.length:=List.length_pos_iff.mpr n1
  exact⟨fun z=>by rw[z] at e;simp at e;omega,by omega⟩
def EK (K:W.Frag)(CP CT:Addr):Sp:=fun vs H Q _=>∃p q cs bs z y fb HB W,vs=[.ref p,.str z,.int y]∧Pg CP CT H p q cs bs y fb HB W∧cs.length≤5000∧z.length≤400∧D2 z∧(0≤y∧y≤999999999)∧
 ∀H' q' cs' bs' a t lv ts0,Pg CP CT H' p q' cs' bs' y fb HB (W++[t])→q'.bo=q.bo→ES cs cs'→cs'.length≤cs.length+1100→Kn H H'→H' a=some (.tup [.int t.1,.int t.2.1,.int t.2.2])→lv≤8→Tw cs' ts0 (lv+1) [t]→E3 cs' ts0 (M08.cut full [] (A6 z))→Q (.ref a) H'
theorem KR (T:Txt K mg Ab Ad Aa Ae XC)(F:Fun K "put_content" "put_content" Ci f fd)(GE:Def P w K mg base 20 "put_rows" ["pool","tags","level","birth"] (HA K Ae Aa))(C7:A7 P w K mg base 19 Ae "put" ["self","block","birth"] (D0 K Ae Aa))(Hu:Def P w K mg base 3 "pieces_of" ["content"] (Gp K)):FnOk P w K mg base B9 21 f fd ["pool","content","birth"] (EK K Ae Aa):=by
 exists BU
 ·obtain⟨p,q,cs,bs,z,y,fb,HB,W,rfl,_⟩:=h
  rfl
 obtain⟨p,q,cs,bs,z,y,fb,HB,W,rfl,pg,few,lz,zs,yb,hq⟩:=h
 have pa:=pg.pa
 have hu:=CC hr
 have hu9:=IF hr
 refine⟨_,(!Af (@KA _ ["piece","birth","pool"] [none,some 2,some 0] (3) _ _ _ _ _ _ _ _ _ _ _ _ _ _ BU.nd rfl (by trivial) rfl (!BA (!AE Hu (by trivial) rfl (!Ac (pv 1) (!Ah) (by rfl)) (by decide) (by rfl) (by rfl))) (by rfl) rfl (by repeat (first|exact trivial|refine⟨rfl,?_⟩)) (by repeat (first|exact trivial|refine⟨fun h=>(by first|exact⟨_,rfl⟩|cases h),?_⟩)) (fun C s H fp=>⟨(@As _ _ (0) _ (show(["piece","birth","pool"]:List Str).Nodup by decide +kernel) rfl (by trivial) (by trivial)),(!AV),(!Bc (pv 2) T.cl_Pool C7 (by trivial) (!Ac (!Hz (!Ac (!Ax rfl T.c_PIECE (by decide)) (!Ac (pv 0) (!Ah) (by rfl)) (by rfl))) (!Ac (pv 1) (!Ah) (by rfl)) (by rfl)) (by rfl) (by rfl) (by rfl))⟩) (by intro _;rfl) (by rfl) (by trivial)) (!Af (@Ay _ _ (4) _ _ _ _ BU.nd rfl (by trivial) (!Ak) (by rfl) (by trivial)) (!Af (@Ay _ _ (5) _ _ _ _ BU.nd rfl (by trivial) (!AE GE (by trivial) rfl (!Ac (pv 0) (!Ac (pv 3) (!Ac (pv 4) (!Ac (pv 2) (!Ah) (by rfl)) (by rfl)) (by rfl)) (by rfl)) (by decide) (by rfl) (by rfl)) (by rfl) (by trivial)) (!Af (!Om PassesOwn.never (!AF MC (!Ar AI (by rfl) T.b_len Bp (!Ac (pv 5) (!Ah) (by rfl)) (by decide) (by decide) (by rfl) (by rfl)) (!Ak) (AC _)) (!Af (@P8 _ _ (4) _ _ _ _ _ _ BU.nd rfl (by trivial) (!Ak) Gy (by trivial)) (!Al (@Ay _ _ (5) _ _ _ _ BU.nd rfl (by trivial) (!AE GE (by trivial) rfl (!Ac (pv 0) (!Ac (pv 5) (!Ac (pv 4) (!Ac (pv 2) (!Ah) (by rfl)) (by rfl)) (by rfl)) (by rfl)) (by decide) (by rfl) (by rfl)) (by rfl) (by trivial))))) (!Al (!An (!AG DZ (pv 5) (!Ak) (fun _ _=>rfl)))))))),?_⟩
 try dsimp only[Cs,Cx.nox,Cx.wish]
 have insg:∀c∈A6 z,c∈A6 SG:=zs
 refine⟨_,rfl,z,rfl,by omega,zs,fun r H1 s1 nr hr=>⟨r,rfl,⟨_,AU.of hr⟩,?_⟩⟩
 have okp:=PR (A6 z) [] (by decide) (fun _ h=>nomatch h) insg
 have lps:=NC full (A6 z) []
 rw[AL] at lps
 have eps:z.length=0→cut full [] (A6 z)=[]:=fun h=>by
  have:A6 z=[]:=List.eq_nil_of_length_eq_zero (by rw[AL];exact h)
  rw[this];rfl
 generalize cut full [] (A6 z)=ps at hr okp lps eps hq
 have pg1:=pg.same s1
 refine Kv (xs:=NV ps) (fun i ys l H'=>∃q' cs' bs',∃ts0:List Tg,Pg Ae Aa H' p q' cs' bs' y fb HB (W++ts0)∧q'.bo=q.bo∧ES cs cs'∧cs'.length≤cs.length+i∧Kn H1 H'∧ts0.length=i∧AB NL H' (ts0.map Fd) ys∧∀(k:Nat) t c,ts0[k]?=some t→ps[k]?=some c→At cs' t (.piece (toS c))) (by rw[IZ];omega) (fun i ys l H' hI=>?_) (fun l hl=>⟨q,cs,bs,[],by rw[List.append_nil];exact pg1.same (Am hl _),rfl,ES.refl,Nat.le_refl _,Aq.kn (Am hl _),rfl,rfl,fun k t c h=>by cases h⟩) (fun i x ys l H' R hx hl hl' ly hI hR=>?_) fun tl H2 ys hl htl ly hI=>?_
 ·obtain⟨_,_,_,_,_,_,_,_,kn',_⟩:=hI
  exact EE (AU.of (kn'.lst hr)) H' (Aq.refl _) i
 ·obtain⟨q',cs',bs',ts0,pg',eq',g',l',kn',lt,rt,hat⟩:=hI
  have pa':=pg'.pa
  unfold NV at hx
  rw[List.getElem?_map] at hx
  obtain⟨c,hc,rfl⟩:=Option.map_eq_some_iff.mp hx
  have il:i<ps.length:=(List.getElem?_eq_some_iff.mp hc).1
  refine⟨_,rfl,p,q'.dp,_,rfl,pa'.t.1,rfl,_,rfl,PP,fun t1 ht1=>⟨_,rfl,OQ ?_⟩⟩
  have s2:=Am ht1 (.tup [.int 0,.str (toS c)])
  refine Nj (b:=.piece (toS c)) (pg'.same s2) (by omega) ⟨t1,_,rfl,Ag,_,_,rfl,rfl,_,_,rfl,rfl,rfl⟩ (S5 (okp c (List.mem_of_getElem? hc))) (fun _ h=>nomatch h) yb fun H3 q3 cs3 bs3 t a pg3 eq3 g3 l3 at3 ha kn3=>?_
  have k3:Kn H' H3:=(Aq.kn s2).trans kn3
  have hl3:=k3.lst hl'
  have tp:∀c ys',H3 c=some (.tup ys')→(upd H3 l (.lst (ys++[.ref a]))) c=some (.tup ys'):=fun c ys' h=>by rw[Aj (AW h hl3 (by intro z;cases z))];exact h
  refine hR _ _ hl3 ⟨q3,cs3,bs3,ts0++[t],(by rw[List.append_assoc] at pg3;exact pg3.lst hl3 (pg1.out hl)),eq3.trans eq',g'.trans g3,by omega,(kn'.trans k3).upd hl,by rw[List.length_append,lt];rfl,JH (IC (tp _ _ ha)) (BS (fun c ys h=>tp _ _ (k3.tup _ _ h)) _ _ rt),fun k u c' h1 h2=>?_⟩
  by_cases hk':k<ts0.length
  ·rw[List.getElem?_append_left hk'] at h1
   exact g3 _ _ (hat k u c' h1 h2)
  ·rw[List.getElem?_append_right (by omega)] at h1
   obtain⟨h3,h4⟩:=List.getElem?_eq_some_iff.mp h1
   have:k=i:=by
    have:k-ts0.length<1:=h3
    omega
   subst this
   have h4:t=u:=by
    simp only[lt,Nat.sub_self,List.getElem_cons_zero] at h4
    exact h4
   rw[hc] at h2
   cases h2
   rw[←h4]
   exact at3
 obtain⟨q2,cs2,bs2,ts0,pg2,eq2,g2,l2,kn2,lt,rt,hat⟩:=hI
 rw[IZ] at l2 lt
 have base0:E3 cs2 ts0 ps:=⟨lt,hat⟩
 refine⟨_,rfl,_,rfl,_,rfl,_,rfl,p,q2,cs2,bs2,tl,ys,ts0,1,y,fb,HB,W,rfl,pg2,by omega,htl,rt,fun t ht=>?_,by omega,⟨by decide,by decide⟩,fun h=>by omega,yb,fun H3 q3 cs3 bs3 rl us rs pg3 eq3 g3 l3 kn3 hrl rz ro=>?_⟩
 ·obtain⟨k,hk,rfl⟩:=List.getElem_of_mem ht
  exact⟨_,hat k _ _ (List.getElem?_eq_getElem hk) (List.getElem?_eq_getElem (by omega))⟩
 have kn13:Kn H H3:=((Aq.kn s1).trans kn2).trans kn3
 have ucl:us.length=(KD ts0).length:=ro.1
 have c0:ts0=[]→(KD ts0).length=1:=fun h=>by rw[h];rfl
 have c1:1≤(KD ts0).length∧(KD ts0).length≤201:=by
  by_cases h:ts0=[]
  ·rw[c0 h];decide
  ·have:=MO h;omega
 refine⟨fun m σ H'=>∃(lv:Nat) (q':Pl) (cs':List Cl) (bs':List (Int×Addr)) (rl:Addr) (us:List Tg) (rs:List V),m=us.length∧σ=[some (.ref p),some (.str z),some (.int y),some (.ref tl),some (.int ((lv:Int)+1)),some (.ref rl)]∧Pg Ae Aa H' p q' cs' bs' y fb HB (W++us)∧q'.bo=q.bo∧ES cs cs'∧Kn H H'∧H' rl=some (.lst rs)∧AB NL H' (us.map Fd) rs∧Tw cs' ts0 (lv+1) us∧E3 cs' ts0 ps∧us.length≤2^(8-lv)∧1≤us.length∧cs'.length+us.length≤cs.length+1000+lv∧lv≤8∧(∀t∈us,∃b,At cs' t b),
  ⟨_,0,q3,cs3,bs3,rl,us,rs,rfl,rfl,pg3,eq3.trans eq2,g2.trans g3,kn13,hrl,rz,⟨ts0,rfl,ro,fun h=>absurd h (Nat.lt_irrefl _)⟩,base0.grow g3,by show us.length≤256;omega,by omega,by omega,by decide,fun t ht=>?_⟩,?_⟩
 ·obtain⟨k,hk,rfl⟩:=List.getElem_of_mem ht
  exact⟨_,ro.2 k _ _ (List.getElem?_eq_getElem hk) (List.getElem?_eq_getElem (by omega))⟩
 rintro m σ H' ⟨lv,q',cs',bs',rl,us,rs,rfl,rfl,pg',eq',g',kn',hrl',rz',tw,bo,h256,h1,hsum,l8,kat⟩
 have lrs:rs.length=us.length:=by rw[AB.len _ _ rz',List.length_map]
 refine⟨_,rfl,rl,_,rfl,.inl (AU.of hrl'),_,_,rfl,rfl,_,rfl,D5 (fun hk=>?_) (fun hk=>?_)⟩
 ·have h2:2≤us.length:=by
   have:=of_decide_eq_true hk
   omega
  have l7:lv≤7:=Classical.byContradiction fun h=>by
   have:lv=8:=by omega
   subst this
   have:us.length≤1:=h256
   omega
  have ne:us≠[]:=fun z=>by rw[z] at h2;simp at h2
  have cl:=MO ne
  have e2:2^(8-lv)=2*2^(8-(lv+1)):=by rw[show 8-lv=(8-(lv+1))+1 by omega,Nat.pow_succ];omega
  have u256:us.length≤256:=Nat.le_trans h256 (Nat.pow_le_pow_right (n:=2) (by decide) (show 8-lv≤8 by omega))
  refine⟨fun σ' H''=>∃m' ,m'<us.length∧∃(lv:Nat) (q':Pl) (cs':List Cl) (bs':List (Int×Addr)) (rl:Addr) (us:List Tg) (rs:List V),m'=us.length∧σ'=[some (.ref p),some (.str z),some (.int y),some (.ref tl),some (.int ((lv:Int)+1)),some (.ref rl)]∧Pg Ae Aa H'' p q' cs' bs' y fb HB (W++us)∧q'.bo=q.bo∧ES cs cs'∧Kn H H''∧H'' rl=some (.lst rs)∧AB NL H'' (us.map Fd) rs∧Tw cs' ts0 (lv+1) us∧E3 cs' ts0 ps∧us.length≤2^(8-lv)∧1≤us.length∧cs'.length+us.length≤cs.length+1000+lv∧lv≤8∧(∀t∈us,∃b,At cs' t b),fun σ' H'' h=>h,?_⟩
  refine⟨_,rfl,_,_,rfl,rfl,_,rfl,_,rfl,_,rfl,_,rfl,p,q',cs',bs',rl,rs,us,(lv:Int)+1+1,y,fb,HB,W,rfl,pg',by omega,hrl',rz',kat,by omega,⟨by omega,by omega⟩,fun _=>ne,yb,fun H4 q4 cs4 bs4 rl4 us4 rs4 pg4 eq4 g4 l4 kn4 hrl4 rz4 ro4=>?_⟩
  have u4:us4.length=(KD us).length:=ro4.1
  refine⟨_,?_,lv+1,q4,cs4,bs4,rl4,us4,rs4,rfl,?_,pg4,eq4.trans eq',g'.trans g4,kn'.trans kn4,hrl4,rz4,⟨us,tw.grow g4,?_,fun _=>h2⟩,bo.grow g4,?_,by omega,by omega,by omega,fun t ht=>?_⟩
  ·omega
  ·have:(((lv+1:Nat):Int)+1)=(lv:Int)+1+1:=by omega
   rw[this];rfl
  ·have:(((lv+1:Nat):Int)+1)=(lv:Int)+1+1:=by omega
   rw[this];exact ro4
  ·omega
  ·obtain⟨k,hk,rfl⟩:=List.getElem_of_mem ht
   exact⟨_,ro4.2 k _ _ (List.getElem?_eq_getElem hk) (List.getElem?_eq_getElem (by omega))⟩
 ·have h11:us.length=1:=Classical.byContradiction fun h=>hk (decide_eq_true (by omega))
  obtain⟨t,rfl⟩:∃t,us=[t]:=by
   match us,h11 with
   |[t],_=>exact⟨t,rfl⟩
  obtain⟨v,vs,rfl,r1,_⟩:=rz'
  obtain⟨a,rfl,ha⟩:=Gn r1
  exact⟨_,rfl,rl,_,_,_,rfl,rfl,AU.of hrl',Lr,hq H' q' cs' bs' a t lv ts0 pg' eq' g' (by have:([t]:List Tg).length=1:=rfl;omega) kn' ha l8 tw bo⟩
def RS (CP CT CB:Addr)(H:Hp)(p:Addr)(q:Pl)(cs:List Cl):Prop:=(Ek CP CT H p q cs∧H q.dd=some (.dK (P9 cs)))∨
 (Ek CP CT H p q cs∧H q.dd=some (.dK [])∧(∃ds b1 n1,G0 CB H q.bo ds b1 n1 .non∧2≤b1.length∧Laid b1 cs cs.length)∧∀e∈cs,MX e.z e.y)
theorem RS.same {CP CT CB:Addr}{H H':Hp}{p:Addr}{q:Pl}{cs:List Cl}(s:Aq H H')(h:RS CP CT CB H p q cs):RS CP CT CB H' p q cs:=by
 rcases h with⟨h1,h2⟩|⟨h1,h2,⟨ds,b1,n1,h3,h4⟩,h5⟩
 ·exact .inl ⟨h1.same s,s.get h2⟩
 ·exact .inr ⟨h1.same s,s.get h2,⟨ds,b1,n1,h3.same s,h4⟩,h5⟩
theorem RS.at0 {CP CT CB:Addr}{H:Hp}{p:Addr}{q:Pl}{cs:List Cl}(h:RS CP CT CB H p q cs):Ek CP CT H p q cs:=by
 rcases h with⟨h1,_⟩|⟨h1,_⟩
 ·exact h1
 ·exact h1
theorem Ro {b1:List Fp}{cs:List Cl}(b2:2≤b1.length)(la:Laid b1 cs cs.length){e:Cl}(he:e∈cs):Lies b1 e.z e.y e.bk∧(JV b1 e.z).filter (hasB b1 e.z)≠[]:=by
 obtain⟨j,hj,rfl⟩:=List.getElem_of_mem he
 have h:=la j _ (List.getElem?_eq_getElem hj)
 refine⟨fun b hb=>?_,fun z=>?_⟩
 ·rw[h b hb]
  by_cases c:j<cs.length∧(b:Int)∈JV b1 cs[j].z
  ·rw[if_pos c];exact .inr rfl
  ·rw[if_neg c];exact .inl rfl
 ·have m:cs[j].z%(b1.length:Int)∈JV b1 cs[j].z:=List.mem_cons_self
  have r:=M8 (bs:=b1) (z:=cs[j].z) (by omega) _ m
  have mf:cs[j].z%(b1.length:Int)∈(JV b1 cs[j].z).filter (hasB b1 cs[j].z):=by
   refine List.mem_filter.mpr ⟨m,?_⟩
   unfold hasB
   rw[h _ (by omega),if_pos ⟨hj,by rw[show(((cs[j].z%(b1.length:Int)).toNat:Nat):Int)=cs[j].z%(b1.length:Int) by omega];exact m⟩]
   rfl
  rw[z] at mf
  cases mf
theorem Li {CP CT CB:Addr}{H:Hp}{p ta:Addr}{q:Pl}{cs:List Cl}{e:Cl}{Q:VK}{E:XK}(rs:RS CP CT CB H p q cs)(he:e∈cs)(hta:H ta=some (.tup [.int e.z,.int e.y,.int (A9 e.bk)]))(k:∀v H',Aq H H'→Rep NL H' (Dk e.bk) v→Q v H'):BJ K CP CT CB [.ref p,.ref ta] H Q E:=by
 rcases rs with⟨h1,h2⟩|⟨h1,h2,⟨ds,b1,n1,h3,h4,h5⟩,h6⟩
 ·exact .inl ⟨p,q,cs,e,ta,_,_,rfl,h1,h2,he,hta,k _ H (Aq.refl _) (h1.2.2.1 e he).2.2.1⟩
 ·obtain⟨l1,l2⟩:=Ro h4 h5 he
  exact .inr ⟨p,q,cs,e,ta,ds,b1,n1,.non,rfl,h1,h2,he,hta,h3,by omega,l1,h6 e he,l2,k⟩
theorem N5 {x:List Nat}:∀{ls:List (List Nat)},x∈ls→x.length≤ls.flatten.length
 |[],h=>nomatch h
 |y::ls,h=>by
  rw[List.flatten_cons,List.length_append]
  rcases List.mem_cons.mp h with rfl|h
  ·omega
  ·have:=N5 h;omega
def Cn (cs:List Cl):Nat→Tg→List Nat→Prop
 |0,_,_=>False
 |n+1,t,l=>At cs t (.piece (toS l))∨∃(lv:Int) (c:List Tg) (ls:List (List Nat)),At cs t (.row lv c)∧ls.length=c.length∧(∀(i:Nat) u x,c[i]?=some u→ls[i]?=some x→Cn cs n u x)∧l=ls.flatten
def QM (n:Nat)(K:W.Frag)(CP CT CB:Addr):Sp:=fun vs H Q _=>∃p q cs,∃(ta:Addr) (t:Tg) (l:List Nat),vs=[.ref p,.ref ta]∧RS CP CT CB H p q cs∧H ta=some (.tup [.int t.1,.int t.2.1,.int t.2.2])∧Cn cs n t l∧l.length≤1000∧∀H',Aq H H'→Q (.str (toS l)) H'
def Fv (K:W.Frag)(CP CT CB:Addr):Sp:=QM 11 K CP CT CB
theorem Vg (T:Txt K mg Ab Ad Aa Ae XC)(F:Fun K "content_at" "content_at" BF f fd)(Bb:A7 P w K mg base 17 Ae "block" ["self","tag"] (BJ K Ae Aa Ad))(BW:Def P w K mg base 1 "tags_in" ["block"] (DU K))(n:Nat)(CJ:Def P w K mg base (17+n) "content_at" ["pool","tag"] (QM n K Ae Aa Ad)):FnOk P w K mg base B9 (17+n+1) f fd ["pool","tag"] (QM (n+1) K Ae Aa Ad):=by
 exists FF
 ·obtain⟨p,q,cs,ta,t,l,rfl,_⟩:=h
  rfl
 obtain⟨p,q,cs,ta,t,l,rfl,rs,hta,cn,l1000,hq⟩:=h
 refine⟨_,(!Af (@Ay _ _ (2) _ _ _ _ FF.nd rfl (by trivial) (!Bc (pv 0) T.cl_Pool Bb (hr.mono (by omega)) (!Ac (pv 1) (!Ah) (by rfl)) (by rfl) (by rfl) (by rfl)) (by rfl) (by trivial)) (!Af (!AM (!AF Bu (!AG AH (pv 2) (!Ak) (fun _ _=>rfl)) (!Ax rfl T.c_PIECE (by decide)) (AC _)) (!Al (!An (!AG AH (pv 2) (!Ak) (fun _ _=>rfl)))) (!Av)) (!Al (!An (!E9 PySem.F.plainAttrs_str PySem.F.slot_str_join PySem.F.type_str_join (QO rfl) (!ER) (!Ac (@HP _ ["below","pool"] [none,some 0] _ _ _ _ _ _ _ _ _ _ _ rfl (!BA (!AE BW (hr.mono (by omega)) rfl (!Ac (pv 2) (!Ah) (by rfl)) (by decide) (by rfl) (by rfl))) (by rfl) rfl (by repeat (first|exact trivial|refine⟨rfl,?_⟩)) (by repeat (first|exact trivial|refine⟨fun h=>(by first|exact⟨_,rfl⟩|cases h),?_⟩)) (fun C s H fp=>⟨(@As _ _ (0) _ (show(["below","pool"]:List Str).Nodup by decide +kernel) rfl (by trivial) (by trivial)),(!AV),(!AE CJ (hr.mono (by omega)) rfl (!Ac (pv 1) (!Ac (pv 0) (!Ah) (by rfl)) (by rfl)) (by decide) (by rfl) (by rfl))⟩) (by intro _;rfl)) (!Ah) (by rfl)) (by rfl) (by rfl) (by rfl) (by rfl) (by rfl)))))),?_⟩
 try dsimp only[Cs,Cx.nox,Cx.wish]
 have hn:∀{e:Cl} {b:Bk},(e.z,e.y,A9 e.bk)=t→H ta=some (.tup [.int e.z,.int e.y,.int (A9 e.bk)]):=fun et=>by rw[hta,←et]
 rcases cn with⟨e,he,et,eb⟩|⟨lv,c,ls,⟨e,he,et,eb⟩,lls,hls,rfl⟩
 ·refine⟨_,rfl,p,q.dp,_,rfl,rs.at0.1,rfl,_,rfl,OQ (Li rs he (hn (b:=e.bk) et) fun v H1 s1 rv=>?_)⟩
  rw[eb] at rv
  obtain⟨va,rfl,hva⟩:=FX rv
  exact⟨_,rfl,va,_,_,_,rfl,rfl,AY.of hva,rfl,rfl,_,rfl,Cz rfl ⟨_,rfl,va,_,_,_,rfl,rfl,AY.of hva,rfl,hq H1 s1⟩⟩
 ·have okb:=(rs.at0.2.2.1 e he).2.2.2
  refine⟨_,rfl,p,q.dp,_,rfl,rs.at0.1,rfl,_,rfl,OQ (Li rs he (hn (b:=e.bk) et) fun v H1 s1 rv=>?_)⟩
  rw[eb] at rv okb
  obtain⟨va,d,ws,rfl,hva,hd,rws⟩:=IP rv
  refine⟨_,rfl,va,_,_,_,rfl,rfl,AY.of hva,rfl,rfl,_,rfl,AK rfl ?_⟩
  refine⟨rfl,_,rfl,_,.row lv c,rfl,rv,okb,fun tl us H2 s2 ntl htl rus=>⟨tl,rfl,⟨_,AU.of htl⟩,?_⟩⟩
  have lus:us.length=c.length:=by rw[AB.len _ _ rus,List.length_map];rfl
  have c8:c.length≤8:=okb.2.1
  have s12:=s1.trans s2
  refine SK (fun i _ y _=>y=.str (toS (ls.getD i []))) (fun _ _ _ _ _ h _=>h) (fun _ _ _ _ _ _ _ _ h _ _=>h) (EE (AU.of htl)) (by omega) (fun i x H3 R hx s3 hR=>?_) fun l3 H3 sys nl3 s3 hl3 lsy hsy=>?_
  ·obtain⟨tr,ht',rt⟩:=AB.get rus hx
   have ht':((A4 (.row lv c)).map Fd)[i]?=some tr:=ht'
   rw[List.getElem?_map] at ht'
   obtain⟨u,hu',rfl⟩:=Option.map_eq_some_iff.mp ht'
   have hu':c[i]?=some u:=hu'
   obtain⟨xa,rfl,hxa⟩:=Gn rt
   have ic:i<c.length:=(List.getElem?_eq_some_iff.mp hu').1
   have il:i<ls.length:=by omega
   have cni:=hls i u ls[i] hu' (List.getElem?_eq_getElem il)
   have ll:ls[i].length≤1000:=by
    exact Nat.le_trans (N5 (List.getElem_mem il)) l1000
   refine⟨_,rfl,_,rfl,p,q,cs,xa,u,ls[i],rfl,rs.same (s12.trans s3),s3.get hxa,cni,ll,fun H4 s4=>hR _ H4 s4 ?_⟩
   rw[List.getD_eq_getElem?_getD,List.getElem?_eq_getElem il]
   rfl
  have esy:sys=(ls.map toS).map V.str:=by
   refine List.ext_getElem? fun i=>?_
   by_cases hi:i<ls.length
   ·have h1:i<sys.length:=by omega
    obtain⟨_,_,e⟩:=hsy i _ (List.getElem?_eq_getElem h1)
    rw[List.getElem?_eq_getElem h1,e,List.getElem?_map,List.getElem?_map,List.getElem?_eq_getElem hi,List.getD_eq_getElem?_getD,List.getElem?_eq_getElem hi]
    rfl
   ·rw[List.getElem?_eq_none (by omega),List.getElem?_eq_none (by rw[List.length_map,List.length_map];omega)]
  rw[esy] at hl3
  refine⟨l3,QW,ls.map toS,rfl,rfl,AU.of hl3,?_,?_⟩
  ·have e1:((ls.map toS).map (·.length)).sum=ls.flatten.length:=by
    rw[List.map_map,List.length_flatten]
    congr 1
   have e2:QW.length=0:=rfl
   rw[e1,e2,Nat.mul_zero]
   omega
  ·have ej:PySem.Txt.join QW (ls.map toS)=toS ls.flatten:=IT (by
    rw[N8 (by rfl),List.map_map,Gz]
    congr 1
    exact List.map_id _)
   have:=hq H3 (s12.trans s3)
   rw[←ej] at this
   exact this
theorem TV (T:Txt K mg Ab Ad Aa Ae XC)(F:Fun K "content_at" "content_at" BF f fd)(Bb:A7 P w K mg base 17 Ae "block" ["self","tag"] (BJ K Ae Aa Ad))(BW:Def P w K mg base 1 "tags_in" ["block"] (DU K))(hm:mg "content_at"=some (.ref f))(hk:W.keepIn K (.ref f)=true)(hb:Binds K fd ["pool","tag"] []):∀n,FnOk P w K mg base B9 (17+n) f fd ["pool","tag"] (QM n K Ae Aa Ad)
 |0=>by
  exists FF
  ·obtain⟨p,q,cs,ta,t,l,rfl,_⟩:=h
   rfl
  ·obtain⟨p,q,cs,ta,t,l,rfl,_,_,cn,_⟩:=h
   exact cn.elim
 |n+1=>Vg T F Bb BW n ⟨f,fd,TV T F Bb BW hm hk hb n,hm,hk,hb⟩
theorem LM (T:Txt K mg Ab Ad Aa Ae XC)(F:Fun K "content_at" "content_at" BF f fd)(Bb:A7 P w K mg base 17 Ae "block" ["self","tag"] (BJ K Ae Aa Ad))(BW:Def P w K mg base 1 "tags_in" ["block"] (DU K))(hm:mg "content_at"=some (.ref f))(hk:W.keepIn K (.ref f)=true)(hb:Binds K fd ["pool","tag"] []):FnOk P w K mg base B9 28 f fd ["pool","tag"] (Fv K Ae Aa Ad):=
 TV T F Bb BW hm hk hb 11
def Fm (K:W.Frag):Sp:=fun vs H Q _=>∃(c m:Int),vs=[.int c,.int m]∧0≤m∧m≤1000∧
 ∀(r:Addr) (H':Hp) (ns:List Int),Aq H H'→H r=none→H' r=some (.lst (ns.map V.int))→ns.length=m.toNat→(∀x∈ns,0≤x∧x<1000000)→Q (.ref r) H'
theorem NX (T:Txt K mg Ab Ad Aa Ae XC)(F:Fun K "_law_row" "_law_row" DL f fd):FnOk P w K mg base B9 1 f fd ["_law_cell","_law_many"] (Fm K):=by
 exists Cy
 ·obtain⟨c,m,rfl,_⟩:=h
  rfl
 obtain⟨c,m,rfl,hm0,hm1,q⟩:=h
 refine⟨_,(!Af (@Ay _ _ (2) _ _ _ _ Cy.nd rfl (by trivial) (!Cq (!Ah)) (by rfl) (by trivial)) (!Af (@Ay _ _ (3) _ _ _ _ Cy.nd rfl (by trivial) (pv 0) (by rfl) (by trivial)) (!Af (!AM (!AF QC (!Ar NT (by rfl) T.b_abs Td (!Ac (pv 0) (!Ah) (by rfl)) (by decide) (by decide) (by rfl) (by rfl)) (!Az LJ (!Ak) (!Ak)) (AC _)) (!Al (@Ay _ _ (3) _ _ _ _ Cy.nd rfl (by trivial) (!Az Cr (!Az By (pv 0) (!Ak)) (!Ak)) (by rfl) (by trivial))) (!Av)) (!Af (!BY PassesOwn.never rfl (!Eu rfl T.b_range (!Ac (pv 1) (!Ah) (by rfl)) (by rfl)) (@As _ _ (4) _ Cy.nd rfl (by trivial) (by trivial)) (!Al (!AM (!AF QC (!Ar NT (by rfl) T.b_abs Td (!Ac (pv 0) (!Ah) (by rfl)) (by decide) (by decide) (by rfl) (by rfl)) (!Az LJ (!Ak) (!Ak)) (AC _)) (!Af (@Ay _ _ (3) _ _ _ _ Cy.nd rfl (by trivial) (!Az By (!Az Hv (pv 3) (!Ak)) (!Ak)) (by rfl) (by trivial)) (!Al (!Bm (!E9 PySem.F.plainAttrs_list PySem.F.slot_list_append PySem.F.type_list_append Cm (pv 2) (!Ac (!Az By (!Az El (!Az By (!Az Cr (!Az Cr (!Az Hv (pv 3) (pv 3)) (!Az Hv (!Ak) (pv 3))) (pv 4)) (!Ak)) (!Ak)) (!Az LJ (!Ak) (!Ak))) (!Ah) (by rfl)) (by rfl) (by rfl) (by rfl) (by rfl) (by rfl)) (by rfl)))) (!Af (!Bm (!E9 PySem.F.plainAttrs_list PySem.F.slot_list_append PySem.F.type_list_append Cm (pv 2) (!Ac (!Az By (pv 3) (!Az LJ (!Ak) (!Ak))) (!Ah) (by rfl)) (by rfl) (by rfl) (by rfl) (by rfl) (by rfl)) (by rfl)) (!Al (@Ay _ _ (3) _ _ _ _ Cy.nd rfl (by trivial) (!Az El (pv 3) (!Az LJ (!Ak) (!Ak))) (by rfl) (by trivial)))))) (by intro _;rfl)) (!Al (!An (pv 2))))))),?_⟩
 refine⟨LY,fun g hg=>?_⟩
 refine⟨_,rfl,?_⟩
 have z1:∀(N:St→Hp→Prop),(∀z:Int,N [some (.int c),some (.int m),some (.ref g),some (.int z),none] (upd H g (.lst [])))→Vb (Sr (Vu (RW fun i j=>V.bl (decide (i<j))) (Xg (fun xs H Q=>∃i,xs=[V.int i]∧Q (V.int (if i<0 then -i else i)) H) (Vs (UT 0) O4)) (Vu (rI WD fun i j=>V.int (i^j.toNat)) (tC (V.int 10)) (tC (V.int 18))))) (Um (Vu (RW fun i j=>V.int (i+j)) (Vu (rI (fun x j=>0<j) fun i j=>V.int (i%j)) (UT 0) (tC (V.int 2147483647))) (tC (V.int 1))) (Cv 3)) Oe { nx:=N,rt:=Q } [some (.int c),some (.int m),some (.ref g),some (.int c),none] (upd H g (.lst [])):=fun N hN=>by
  refine⟨_,rfl,_,rfl,_,_,rfl,rfl,⟨by decide,by decide,by decide⟩,_,_,rfl,rfl,_,rfl,D5 (fun _=>?_) (fun _=>?_)⟩
  ·exact⟨_,rfl,_,_,rfl,rfl,(by show(0:Int)<2147483647;decide),_,_,rfl,rfl,hN _⟩
  ·exact hN _
 refine z1 _ fun z0=>?_
 refine⟨_,rfl,m,rfl,by omega,by omega,Jw (lo:=0) (n:=m.toNat) (fun i σ H2=>∃(ns:List Int) (z:Int) (v:Option V),σ=[some (.int c),some (.int m),some (.ref g),some (.int z),v]∧Aq H H2∧H2 g=some (.lst (ns.map V.int))∧ns.length=i∧∀x∈ns,0≤x∧x<1000000)
  ⟨[],_,none,rfl,Am hg _,Ag,rfl,fun _ h=>nomatch h⟩ ?_ ?_⟩
 ·rintro i σ H2 hi ⟨ns,z,v,rfl,s2,hg2,hl,hb⟩
  refine⟨_,rfl,_,rfl,_,_,rfl,rfl,⟨by decide,by decide,by decide⟩,_,_,rfl,rfl,_,rfl,D5 (fun _=>?_) (fun _=>?_)⟩
  ·refine⟨_,rfl,_,_,rfl,rfl,.inr ⟨by decide,by decide⟩,_,_,rfl,rfl,(by show(0:Int)<2147483647;decide),?_⟩
   have b0:=Int.emod_nonneg (z*48271) (show(2147483647:Int)≠0 by decide)
   have b1:=Int.emod_lt_of_pos (z*48271) (show(0:Int)<2147483647 by decide)
   dsimp only
   generalize z*48271%2147483647=y at b0 b1
   refine⟨_,rfl,.inl ⟨rfl,_,AU.of hg2⟩,_,rfl,_,rfl,_,_,rfl,rfl,.inl ⟨by omega,by omega⟩,_,rfl,_,_,rfl,rfl,.inl ⟨by decide,by decide⟩,_,_,rfl,rfl,_,rfl,_,_,rfl,rfl,_,_,rfl,rfl,(by show(0:Int)<2147483629;decide),_,_,rfl,rfl,⟨by decide,by decide⟩,_,_,rfl,rfl,⟨by decide,by decide,by decide⟩,_,_,rfl,rfl,(by show(0:Int)<10^(6:Int).toNat;decide),?_⟩
   refine⟨g,_,_,rfl,rfl,hg2,Bd (by rw[List.length_map];omega),?_⟩
   refine⟨ns++[_],_,_,rfl,A0 s2 hg _,by rw[Ag,List.map_append];rfl,by rw[List.length_append,hl];rfl,fun x hx=>?_⟩
   rcases List.mem_append.mp hx with hx|hx
   ·exact hb x hx
   ·rw[List.mem_singleton.mp hx]
    exact⟨Int.emod_nonneg _ (by decide),Int.emod_lt_of_pos _ (by decide)⟩
  ·refine⟨_,rfl,.inl ⟨rfl,_,AU.of hg2⟩,_,rfl,_,_,rfl,rfl,⟨by decide,by decide,by decide⟩,_,_,rfl,rfl,(by show(0:Int)<10^(6:Int).toNat;decide),g,_,_,rfl,rfl,hg2,Bd (by rw[List.length_map];omega),?_⟩
   refine⟨_,rfl,_,_,rfl,rfl,⟨by decide,by decide,by decide⟩,_,_,rfl,rfl,⟨by decide,by decide⟩,?_⟩
   refine⟨ns++[_],_,_,rfl,A0 s2 hg _,by rw[Ag,List.map_append];rfl,by rw[List.length_append,hl];rfl,fun x hx=>?_⟩
   rcases List.mem_append.mp hx with hx|hx
   ·exact hb x hx
   ·rw[List.mem_singleton.mp hx]
    exact⟨Int.emod_nonneg _ (by decide),Int.emod_lt_of_pos _ (by decide)⟩
 ·rintro σ H2 ⟨ns,z,v,rfl,s2,hg2,hl,hb⟩
  exact⟨_,rfl,q g _ ns s2 hg hg2 hl hb⟩
theorem D2.app {x y:Str}(hx:D2 x)(hy:D2 y):D2 (x++y):=fun c hc=>by
 rw[MQ] at hc
 rcases List.mem_append.mp hc with h|h
 ·exact hx c h
 ·exact hy c h
theorem len_app (x y:Str):(x++y).length=x.length+y.length:=by rw[←AL,MQ,List.length_append,AL,AL]
theorem D2.one {c:Nat}(h:c∈A6 SG):D2 ⟨#[c]⟩:=fun u hu=>by
 have:u=c:=by simpa [A6] using hu
 rw[this];exact h
theorem Ss {z:Str}{i:Int}(h0:0≤i)(h1:i<(A6 z).length):∃c,Kg z.cps.toList i=some c∧c∈A6 z:=by
 obtain⟨k,rfl⟩:=Int.eq_ofNat_of_zero_le h0
 have hk:k<z.cps.toList.length:=by have:((k:Nat):Int)<(A6 z).length:=h1;exact_mod_cast this
 refine⟨z.cps.toList[k],?_,List.getElem_mem hk⟩
 have hk2:k<z.cps.size:=by simpa using hk
 unfold Kg RP
 rw[if_pos h0]
 simp[hk2]
theorem W5:(A6 SG).length=94:=by decide +kernel
theorem VS:PySem.Str.ofString " !\"#$&'()*+,-./0123456789:;<=>?@ABCDEFGHIJKLMNOPQRSTUVWXYZ[\\]^_`abcdefghijklmnopqrstuvwxyz{|}~"=SG:=by decide +kernel
def Eo (K:W.Frag):Sp:=fun vs H Q _=>∃(rl:Addr) (row:List Int),vs=[.ref rl]∧H rl=some (.lst (row.map V.int))∧row.length=4∧(∀x∈row,0≤x∧x<1000000)∧∀z H',Aq H H'→z.length≤100→D2 z→Q (.str z) H'
theorem MT (T:Txt K mg Ab Ad Aa Ae XC)(F:Fun K "_law_text" "_law_text" Da f fd):FnOk P w K mg base B9 1 f fd ["_law_row_here"] (Eo K):=by
 exists Ba
 ·obtain⟨rl,row,rfl,_⟩:=h
  rfl
 obtain⟨rl,row,rfl,hrl,lr,br,q⟩:=h
 have hu:=CC hr
 have hu9:=IF hr
 refine⟨_,(!Af (@Ay _ _ (1) _ _ _ _ Ba.nd rfl (by trivial) (!ER) (by rfl) (by trivial)) (!Af (@Ay _ _ (2) _ _ _ _ Ba.nd rfl (by trivial) (!Cq (!Ah)) (by rfl) (by trivial)) (!Af (!BY PassesOwn.never rfl (!BA (!CA Kz (pv 0) (!Cu (!Ak)) (!Cu (!Ak)))) (@As _ _ (3) _ Ba.nd rfl (by trivial) (by trivial)) (!Af (@Ay _ _ (4) _ _ _ _ Ba.nd rfl (by trivial) (!ER) (by rfl) (by trivial)) (!Af (!BY PassesOwn.never rfl (!Eu rfl T.b_range (!Ac (!Az Cr (!Ak) (!Az By (pv 3) (!Ak))) (!Ah) (by rfl)) (by rfl)) (@As _ _ (5) _ Ba.nd rfl (by trivial) (by trivial)) (!Af (@Ay _ _ (6) _ _ _ _ Ba.nd rfl (by trivial) (!Az Cr (!Az Hv (!Az Hv (!Az By (!Az El (pv 3) (!Ak)) (!Ak)) (pv 5)) (pv 5)) (pv 5)) (by rfl) (by trivial)) (!Al (@Ay _ _ (4) _ _ _ _ Ba.nd rfl (by trivial) (!Az Dz (pv 4) (!AG K6 (pv 1) (!Az By (!Az Cr (!Az El (pv 3) (!Ak)) (pv 6)) (!Ak)) (fun _ _=>rfl))) (by rfl) (by trivial)))) (by intro _;rfl)) (!Al (!Bm (!E9 PySem.F.plainAttrs_list PySem.F.slot_list_append PySem.F.type_list_append Cm (pv 2) (!Ac (pv 4) (!Ah) (by rfl)) (by rfl) (by rfl) (by rfl) (by rfl) (by rfl)) (by rfl))))) (by intro _;rfl)) (!Af (@Ay _ _ (7) _ _ _ _ Ba.nd rfl (by trivial) (!ER) (by rfl) (by trivial)) (!Af (!BY PassesOwn.never rfl (!Eu rfl T.b_range (!Ac (!Az By (!AG DZ (pv 0) (!Ak) (fun _ _=>rfl)) (!Ak)) (!Ah) (by rfl)) (by rfl)) (@As _ _ (5) _ Ba.nd rfl (by trivial) (by trivial)) (!Al (@Ay _ _ (7) _ _ _ _ Ba.nd rfl (by trivial) (!Az Dz (pv 7) (!AG DZ (pv 2) (!Az By (!Az El (!Az El (!AG DZ (pv 0) (!Ak) (fun _ _=>rfl)) (!Ak)) (!AG DZ (!Cq (!Ac (!Ak) (!Ac (!Ak) (!Ac (!Ak) (!Ac (!Ak) (!Ac (!Ak) (!Ac (!Ak) (!Ac (!Ak) (!Ah) (by rfl)) (by rfl)) (by rfl)) (by rfl)) (by rfl)) (by rfl)) (by rfl))) (pv 5) (fun _ _=>rfl))) (!Ak)) (fun _ _=>rfl))) (by rfl) (by trivial))) (by intro _;rfl)) (!Al (!An (pv 7)))))))),?_⟩
 try dsimp only[Cs,Cx.nox,Cx.wish]
 rw[VS]
 have gx:∀k:Int,0≤k→k<4→Kg (row.map V.int) k=some (.int (row.getD k.toNat 0)):=fun k h0 h1=>SR h0 (by omega)
 refine⟨LY,fun g hg=>?_⟩
 have s1:=Am hg (.lst [])
 refine⟨_,rfl,1,rfl,4,rfl,rl,_,rfl,AU.of (s1.get hrl),fun cl hcl=>?_⟩
 have ecl:Fu (row.map V.int) (some 1) (some 4)=((row.drop 1).take 3).map V.int:=by rw[N6 (by decide) (by decide),←List.map_drop,←List.map_take];rfl
 rw[ecl]
 have lms:((row.drop 1).take 3).length=3:=by rw[List.length_take,List.length_drop];omega
 have bms:∀x∈(row.drop 1).take 3,0≤x∧x<1000000:=fun x hx=>br x (List.mem_of_mem_drop (List.mem_of_mem_take hx))
 generalize (row.drop 1).take 3=ms at lms bms
 have s2:=s1.trans (Am hcl (.lst (ms.map V.int)))
 have ngc:g≠cl:=fun z=>by rw[←z,Ag] at hcl;cases hcl
 refine⟨cl,rfl,⟨_,AU.of Ag⟩,?_⟩
 refine Cb (K:=K) (a:=cl) (xs:=ms.map V.int) (fun i σ H'=>∃(zs:List Str) (v3 v4 v5 v6:Option V),σ=[some (.ref rl),some (.str SG),some (.ref g),v3,v4,v5,v6,none]∧Aq H H'∧H' g=some (.lst (zs.map V.str))∧H' cl=some (.lst (ms.map V.int))∧zs.length=i∧∀z∈zs,z.length≤9∧D2 z) ⟨[],none,none,none,none,rfl,s2,(Am hcl _).get Ag,Ag,rfl,fun _ h=>nomatch h⟩ ?_ ?_ ?_
 ·rintro i σ H' _ ⟨_,_,_,_,_,_,_,_,h,_⟩
  exact AU.of h
 ·rintro i x σ H' hx ⟨zs,v3,v4,v5,v6,rfl,s',hg',hcl',lzs,hzs⟩
  obtain⟨n,rfl,hn⟩:=ints_get hx
  have hi:i<ms.length:=(List.getElem?_eq_some_iff.mp hn).1
  obtain⟨n0,n1⟩:=bms n (List.mem_of_getElem? hn)
  refine⟨_,rfl,_,_,rfl,rfl,(by show(0:Int)<9;decide),_,_,rfl,rfl,_,rfl,by omega,by omega,?_⟩
  refine Jw (lo:=0) (fun j σ H2=>∃(z:Str) (v5 v6:Option V),σ=[some (.ref rl),some (.str SG),some (.ref g),some (.int n),some (.str z),v5,v6,none]∧H2=H'∧z.length=j∧D2 z) ⟨_,_,_,rfl,rfl,rfl,(fun c hc=>by cases hc)⟩ ?_ ?_
  ·rintro j σ H2 hj ⟨z,v5,v6,rfl,rfl,lz,hz⟩
   have j9:(j:Int)<9:=by omega
   refine⟨_,rfl,_,_,rfl,rfl,⟨by decide,by decide⟩,_,_,rfl,rfl,(by show(0:Int)<13;decide),_,rfl,_,_,rfl,rfl,.inr ⟨by omega,by omega⟩,_,rfl,_,_,rfl,rfl,.inr ⟨by omega,by omega⟩,_,rfl,_,_,rfl,rfl,?_⟩
   obtain⟨c,hc,mc⟩:=Ss (z:=SG) (i:=(n/9+(n/846%13*(0+(j:Int))*(0+(j:Int))+(0+(j:Int))))%94) (Int.emod_nonneg _ (by decide)) (by rw[W5];exact Int.emod_lt_of_pos _ (by decide))
   refine⟨_,rfl,_,rfl,_,rfl,_,_,rfl,rfl,⟨by decide,by decide⟩,_,rfl,_,_,rfl,rfl,_,_,rfl,rfl,(by show(0:Int)<94;decide),_,_,c,rfl,rfl,small (by show SG.length≤1000000;decide +kernel),hc,_,_,rfl,rfl,small (by show z.length+1≤1000000;omega),?_⟩
   exact⟨z++⟨#[c]⟩,_,_,rfl,rfl,by rw[len_app,lz];rfl,hz.app (.one mc)⟩
  ·rintro σ H2 ⟨z,v5,v6,rfl,rfl,lz,hz⟩
   refine⟨_,rfl,.inl ⟨rfl,_,AU.of hg'⟩,_,rfl,g,_,_,rfl,rfl,hg',Bd (by rw[List.length_map];omega),zs++[z],_,_,_,_,rfl,A0 s' hg _,by rw[Ag,List.map_append];rfl,by rw[Aj (Ne.symm ngc)];exact hcl',by rw[List.length_append,lzs];rfl,fun u hu=>?_⟩
   rcases List.mem_append.mp hu with h|h
   ·exact hzs u h
   ·rw[List.mem_singleton.mp h];exact⟨by omega,hz⟩
 ·rintro σ H' ⟨zs,v3,v4,v5,v6,rfl,s',hg',hcl',lzs,hzs⟩
  rw[List.length_map,lms] at lzs
  have r0:=br (row.getD (0:Int).toNat 0) (by rw[List.getD_eq_getElem?_getD,List.getElem?_eq_getElem (show(0:Int).toNat<row.length by rw[lr];decide)];exact List.getElem_mem _)
  have a0:=gx 0 (by decide) (by decide)
  generalize row.getD (0:Int).toNat 0=x0 at r0 a0
  refine⟨_,rfl,rl,_,_,_,rfl,rfl,AU.of (s'.get hrl),a0,_,_,rfl,rfl,(by show(0:Int)<8;decide),_,rfl,by omega,by omega,?_⟩
  refine Jw (lo:=0) (fun j σ H2=>∃(z:Str) (v5:Option V),σ=[some (.ref rl),some (.str SG),some (.ref g),v3,v4,v5,v6,some (.str z)]∧Aq H H2∧H2 g=some (.lst (zs.map V.str))∧z.length≤9*j∧D2 z) ⟨_,_,rfl,s',hg',Nat.zero_le _,(fun c hc=>by cases hc)⟩ ?_ ?_
  ·rintro j σ H2 hj ⟨z,v5,rfl,s2',hg2,lz,hz⟩
   have j7:j<7:=by omega
   obtain⟨w7,hw7,w71,w72⟩:∃w:Int,Kg ([1,3,9,27,81,243,729].map V.int) (0+(j:Int))=some (.int w)∧1≤w∧w≤729:=by
    have hh:∀j<7,1≤([1,3,9,27,81,243,729]:List Int).getD j 0∧([1,3,9,27,81,243,729]:List Int).getD j 0≤729:=by decide
    have h1:([1,3,9,27,81,243,729]:List Int)[j]?=some (([1,3,9,27,81,243,729]:List Int).getD j 0):=by
     rw[List.getD_eq_getElem?_getD,List.getElem?_eq_getElem (show j<([1,3,9,27,81,243,729]:List Int).length from j7)];rfl
    refine⟨_,?_,hh j j7⟩
    rw[Int.zero_add]
    exact HQ (by rw[List.getElem?_map,h1];rfl)
   refine⟨_,rfl,_,rfl,_,rfl,rl,_,_,_,rfl,rfl,AU.of (s2'.get hrl),a0,_,_,rfl,rfl,⟨by decide,by decide⟩,XD,fun l1 hl1=>?_⟩
   have s3':=Am hl1 (.lst ([1,3,9,27,81,243,729].map V.int))
   obtain⟨u,hu',hat⟩:∃u∈zs,Kg (zs.map V.str) (x0/8/w7%3)=some (.str u):=by
    have h1:=Int.emod_lt_of_pos (x0/8/w7) (show(0:Int)<3 by decide)
    have h2:=Int.emod_nonneg (x0/8/w7) (show(3:Int)≠0 by decide)
    have hk:(x0/8/w7%3).toNat<zs.length:=by omega
    refine⟨zs[(x0/8/w7%3).toNat],List.getElem_mem hk,?_⟩
    have:=HQ (show(zs.map V.str)[(x0/8/w7%3).toNat]?=some (.str zs[(x0/8/w7%3).toNat]) by rw[List.getElem?_map,List.getElem?_eq_getElem hk];rfl)
    rw[show(((x0/8/w7%3).toNat:Nat):Int)=x0/8/w7%3 by omega] at this
    exact this
   refine⟨_,rfl,l1,_,_,_,rfl,rfl,AU.of Ag,hw7,_,_,rfl,rfl,⟨by omega,by omega⟩,_,_,rfl,rfl,(by show(0:Int)<3;decide),g,_,_,_,rfl,rfl,AU.of (s3'.get hg2),hat,_,_,rfl,rfl,small (by have:=(hzs u hu').1;omega),?_⟩
   exact⟨z++u,_,rfl,s2'.trans s3',s3'.get hg2,by rw[len_app];have:=(hzs u hu').1;omega,hz.app (hzs u hu').2⟩
  ·rintro σ H2 ⟨z,v5,rfl,s2',hg2,lz,hz⟩
   exact⟨_,rfl,q z H2 s2' (by omega) hz⟩
def Ej (K:W.Frag):Sp:=fun vs H Q _=>∃(a:Addr) (ns:List Int),vs=[.ref a,.int 2,.int 60]∧AU K H a (ns.map V.int)∧ns.length≤63∧∀z H',Aq H H'→z.length≤400→D2 z→Q (.str z) H'
theorem Kr (T:Txt K mg Ab Ad Aa Ae XC)(F:Fun K "_law_content" "_law_content" BR f fd)(C9:Def P w K mg base 1 "_law_text" ["_law_row_here"] (Eo K))(Bi:Def P w K mg base 1 "_law_cell_at" ["_law_script","_law_k"] (C0 K))(DB:Def P w K mg base 1 "_law_row" ["_law_cell","_law_many"] (Fm K)):FnOk P w K mg base B9 2 f fd ["_law_script","_law_start","_law_many"] (Ej K):=by
 exists Cc
 ·obtain⟨a,ns,rfl,_⟩:=h
  rfl
 obtain⟨a,ns,rfl,hS,hlen,q⟩:=h
 have hu:=CC hr
 have hu9:=IF hr
 refine⟨_,(!Af (@Ay _ _ (3) _ _ _ _ Cc.nd rfl (by trivial) (!ER) (by rfl) (by trivial)) (!Af (!BY PassesOwn.never rfl (!BA (!CA Kz (pv 0) (!Cu (pv 1)) (!Cu (!Az Cr (pv 1) (pv 2))))) (@As _ _ (4) _ Cc.nd rfl (by trivial) (by trivial)) (!Al (@Ay _ _ (3) _ _ _ _ Cc.nd rfl (by trivial) (!Az Dz (pv 3) (!AE C9 (by trivial) rfl (!Ac (!AE DB (by trivial) rfl (!Ac (pv 4) (!Ac (!Ak) (!Ah) (by rfl)) (by rfl)) (by decide) (by rfl) (by rfl)) (!Ah) (by rfl)) (by decide) (by rfl) (by rfl))) (by rfl) (by trivial))) (by intro _;rfl)) (!Af (!AM (!AF Bu (!Az By (!AE Bi (by trivial) rfl (!Ac (pv 0) (!Ac (!Ak) (!Ah) (by rfl)) (by rfl)) (by decide) (by rfl) (by rfl)) (!Ak)) (!Ak) (AC _)) (!Al (@Ay _ _ (3) _ _ _ _ Cc.nd rfl (by trivial) (!Az K9 (!AG K6 (!ER) (!Az By (!Az El (!AE Bi (by trivial) rfl (!Ac (pv 0) (!Ac (!Ak) (!Ah) (by rfl)) (by rfl)) (by decide) (by rfl) (by rfl)) (!Ak)) (!Ak)) (fun _ _=>rfl)) (!Az By (!AE Bi (by trivial) rfl (!Ac (pv 0) (!Ac (!Ak) (!Ah) (by rfl)) (by rfl)) (by decide) (by rfl) (by rfl)) (!Ak))) (by rfl) (by trivial))) (!Av)) (!Al (!An (!CA KP (pv 3) (!Fj) (!Cu (!Ak)))))))),?_⟩
 try dsimp only[Cs,Cx.nox,Cx.wish]
 refine⟨_,rfl,_,rfl,2,rfl,_,rfl,_,rfl,_,_,rfl,rfl,(2+60:Int),rfl,a,_,rfl,hS,fun cl hcl=>?_⟩
 obtain⟨ms,ems,lms,_⟩:=TL ns (some 2) (some (2+60))
 have s1:=Am hcl (.lst (ms.map V.int))
 rw[ems]
 refine⟨cl,rfl,⟨_,AU.of Ag⟩,?_⟩
 refine Cb (K:=K) (a:=cl) (xs:=ms.map V.int) (fun i σ H'=>∃(z:Str) (v4:Option V),σ=[some (.ref a),some (.int 2),some (.int 60),some (.str z),v4]∧Aq H H'∧H' cl=some (.lst (ms.map V.int))∧z.length≤100*i∧D2 z) ⟨PySem.Str.ofString "",none,rfl,s1,Ag,Nat.zero_le _,(fun c hc=>by cases hc)⟩ ?_ ?_ ?_
 ·rintro i σ H' _ ⟨_,_,_,_,h,_⟩
  exact AU.of h
 ·rintro i x σ H' hx ⟨z,v4,rfl,s',hcl',lz,hz⟩
  obtain⟨n,rfl,hn⟩:=ints_get hx
  have hi:i<ms.length:=(List.getElem?_eq_some_iff.mp hn).1
  refine⟨_,rfl,_,rfl,n,4,rfl,by decide,by decide,fun r H1 row s1' nr hr lr br=>⟨r,row,rfl,hr,lr,br,fun z2 H2 s2' l2 h2=>⟨_,_,rfl,rfl,small (by omega),?_⟩⟩⟩
  exact⟨z++z2,_,rfl,s'.trans (s1'.trans s2'),s2'.get (s1'.get hcl'),by rw[len_app];omega,hz.app h2⟩
 ·rintro σ H' ⟨z,v4,rfl,s',hcl',lz,hz⟩
  rw[List.length_map] at lz
  have hS':=s'.seq hS
  have fin:∀u:Str,D2 u→u.length≤10000→WA (.str u) none (some 400) H' Q:=fun u hu' lu=>⟨u,rfl,small (by omega),q _ H' s' (by rw[←AL,JX u (by decide),List.length_take];exact Nat.min_le_left _ _) fun c hc=>by rw[JX u (by decide)] at hc;exact hu' c (List.mem_of_mem_take hc)⟩
  refine⟨_,rfl,a,ns,0,rfl,by decide,hS',fun z0=>⟨_,_,rfl,rfl,(by show(0:Int)<4;decide),rfl,_,rfl,D5 (fun _=>?_) (fun _=>?_)⟩⟩
  ·refine⟨_,rfl,a,ns,0,rfl,by decide,hS',fun z1=>?_⟩
   obtain⟨c,hc,mc⟩:=Ss (z:=PySem.Str.ofString "abz~") (i:=z1/4%4) (Int.emod_nonneg _ (by decide)) (by show z1/4%4<4;omega)
   refine⟨_,_,rfl,rfl,⟨by decide,by decide⟩,_,_,rfl,rfl,(by show(0:Int)<4;decide),_,_,c,rfl,rfl,Xq,hc,_,rfl,a,ns,1,rfl,by decide,hS',fun z2=>?_⟩
   refine⟨_,_,rfl,rfl,(by show(0:Int)<401;decide),_,_,rfl,rfl,by omega,by omega,(by show 1≤1000;decide),_,rfl,_,rfl,fin _ (fun u hu'=>?_) ?_⟩
   ·have:u=c:=by simpa [A6] using QK hu'
    rw[this]
    have all:∀c∈A6 (PySem.Str.ofString "abz~"),c∈A6 SG:=by decide +kernel
    exact all c mc
   ·have:=PyProof.Rows.len_mul_leN (x:=⟨#[c]⟩) (n:=z2%401) (L:=1) (N:=1000) (Nat.le_refl 1) (by omega)
    omega
  ·exact⟨_,rfl,_,rfl,fin z hz (by omega)⟩
theorem At.tag {cs:List Cl}{t t':Tg}{b:Bk}(nb:(cs.map (·.bk)).Nodup)(h:At cs t b)(h':At cs t' b):t=t':=by
 obtain⟨e,he,et,eb⟩:=h
 obtain⟨e',he',et',eb'⟩:=h'
 have:=BM nb he he' (eb.trans eb'.symm)
 subst this
 rw[←et,←et']
theorem Qu {a b:List Nat}(h:toS a=toS b):a=b:=by have:=congrArg A6 h;rw[Gz,Gz] at this;exact this
theorem IQ {F:List Nat→Bool}:∀(l acc:List Nat),(cut F acc l).flatten=acc++l
 |[],acc=>by
  rw[cut]
  by_cases h:acc=[]
  ·rw[if_pos h,h];rfl
  ·rw[if_neg h];simp
 |c::r,acc=>by
  rw[cut]
  by_cases h:F (acc++[c])=true
  ·rw[if_pos h,List.flatten_cons,IQ r []];simp
  ·rw[if_neg h,IQ r (acc++[c])];simp
theorem Oj {g:Tg→List Nat}:∀(xs:List (List Tg)),(xs.map fun c=>(c.map g).flatten).flatten=(xs.flatten.map g).flatten
 |[]=>rfl
 |c::xs=>by rw[List.map_cons,List.flatten_cons,Oj xs,List.flatten_cons,List.map_append,List.flatten_append]
theorem Cn.more {cs:List Cl}:∀{n:Nat} {t:Tg} {l:List Nat},Cn cs n t l→Cn cs (n+1) t l
 |0,_,_,h=>h.elim
 |n+1,t,l,h=>by
  rcases h with h|⟨lv,c,ls,h1,h2,h3,h4⟩
  ·exact .inl h
  ·exact .inr ⟨lv,c,ls,h1,h2,fun i u x a b=>(h3 i u x a b).more,h4⟩
theorem Cn.up {cs:List Cl}{n m:Nat}{t:Tg}{l:List Nat}(h:Cn cs n t l)(hm:n≤m):Cn cs m t l:=by
 induction m with
 |zero=>
  have:n=0:=by omega
  subst this
  exact h
 |succ m ih=>
  by_cases e:n=m+1
  ·subst e;exact h
  ·exact(ih (by omega)).more
theorem Cn.fun {cs:List Cl}(nd:(cs.map (·.z)).Nodup):∀{n:Nat} {t:Tg} {l l':List Nat},Cn cs n t l→Cn cs n t l'→l=l'
 |0,_,_,_,h,_=>h.elim
 |n+1,t,l,l',h,h'=>by
  have ub:∀{b b'},At cs t b→At cs t b'→b=b':=fun{b b'} a a'=>by
   obtain⟨e,he,et,rfl⟩:=a
   obtain⟨e',he',et',rfl⟩:=a'
   rw[BM nd he he' (congrArg Prod.fst (et.trans et'.symm))]
  rcases h with h|⟨lv,c,ls,h1,h2,h3,rfl⟩
  ·rcases h' with h'|⟨lv',c',ls',h1',_⟩
   ·injection ub h h' with e
    exact Qu e
   ·cases ub h h1'
  ·rcases h' with h'|⟨lv',c',ls',h1',h2',h3',rfl⟩
   ·cases ub h1 h'
   ·injection ub h1 h1' with _ e
    subst e
    congr 1
    refine List.ext_getElem? fun i=>?_
    by_cases hi:i<c.length
    ·rw[List.getElem?_eq_getElem (show i<ls.length by omega),List.getElem?_eq_getElem (show i<ls'.length by omega)]
     exact congrArg some ((h3 i _ _ (List.getElem?_eq_getElem hi) (List.getElem?_eq_getElem (by omega))).fun nd (h3' i _ _ (List.getElem?_eq_getElem hi) (List.getElem?_eq_getElem (by omega))))
    ·rw[List.getElem?_eq_none (by omega),List.getElem?_eq_none (by omega)]
open Classical in
theorem Vx {cs:List Cl}(nd:(cs.map (·.z)).Nodup){ts0:List Tg}(ne:ts0≠[]){ps:List (List Nat)}(bo:E3 cs ts0 ps):∀{l:Nat} {us:List Tg},Tw cs ts0 l us→∃g:Tg→List Nat,(∀t∈us,Cn cs (l+1) t (g t))∧(us.map g).flatten=ps.flatten
 |0,us,h=>by
  have e:us=ts0:=h
  subst e
  have ub:∀{t:Tg} {b b'},At cs t b→At cs t b'→b=b':=fun{t b b'} a a'=>by
   obtain⟨e,he,et,rfl⟩:=a
   obtain⟨e',he',et',rfl⟩:=a'
   rw[BM nd he he' (congrArg Prod.fst (et.trans et'.symm))]
  let g:Tg→List Nat:=fun t=>if h:∃p,At cs t (.piece (toS p)) then Classical.choose h else[]
  have hg:∀{t p},At cs t (.piece (toS p))→g t=p:=fun{t p} h=>by
   have hx:∃p,At cs t (.piece (toS p)):=⟨p,h⟩
   have e1:g t=Classical.choose hx:=dif_pos hx
   have:=ub (Classical.choose_spec hx) h
   injection this with this
   rw[e1];exact Qu this
  refine⟨g,fun t ht=>?_,?_⟩
  ·obtain⟨i,hi,rfl⟩:=List.getElem_of_mem ht
   have a:=bo.2 i _ _ (List.getElem?_eq_getElem hi) (List.getElem?_eq_getElem (show i<ps.length by rw[←bo.1];exact hi))
   rw[hg a]
   exact .inl a
  ·congr 1
   refine List.ext_getElem? fun i=>?_
   by_cases hi:i<us.length
   ·have hp:i<ps.length:=by rw[←bo.1];exact hi
    rw[List.getElem?_map,List.getElem?_eq_getElem hi,List.getElem?_eq_getElem hp]
    exact congrArg some (hg (bo.2 i _ _ (List.getElem?_eq_getElem hi) (List.getElem?_eq_getElem hp)))
   ·rw[List.getElem?_eq_none (by rw[List.length_map];omega),List.getElem?_eq_none (by rw[←bo.1];omega)]
 |l+1,us,h=>by
  obtain⟨ts,h1,ro,_⟩:=h
  obtain⟨g,hg,hf⟩:=Vx nd ne bo h1
  have nets:=(h1.len ne).1
  have ub:∀{t:Tg} {b b'},At cs t b→At cs t b'→b=b':=fun{t b b'} a a'=>by
   obtain⟨e,he,et,rfl⟩:=a
   obtain⟨e',he',et',rfl⟩:=a'
   rw[BM nd he he' (congrArg Prod.fst (et.trans et'.symm))]
  let g':Tg→List Nat:=fun u=>if h:∃c,At cs u (.row ((l:Int)+1) c) then((Classical.choose h).map g).flatten else[]
  have hg':∀{u c},At cs u (.row ((l:Int)+1) c)→g' u=(c.map g).flatten:=fun{u c} h=>by
   have hx:∃c,At cs u (.row ((l:Int)+1) c):=⟨c,h⟩
   have e1:g' u=((Classical.choose hx).map g).flatten:=dif_pos hx
   have:=ub (Classical.choose_spec hx) h
   injection this with _ this
   rw[e1,this]
  have row:∀i (hi:i<us.length),At cs us[i] (.row ((l:Int)+1) ((KD ts)[i]'(by rw[←ro.1];exact hi))):=fun i hi=>ro.2 i _ _ (List.getElem?_eq_getElem hi) (List.getElem?_eq_getElem (by rw[←ro.1];exact hi))
  refine⟨g',fun u hu'=>?_,?_⟩
  ·obtain⟨i,hi,rfl⟩:=List.getElem_of_mem hu'
   have a:=row i hi
   rw[hg' a]
   refine .inr ⟨_,_,((KD ts)[i]'(by rw[←ro.1];exact hi)).map g,a,by rw[List.length_map],fun j u x h2 h3=>?_,rfl⟩
   rw[List.getElem?_map,h2] at h3
   cases h3
   refine hg u ?_
   rw[←LH nets]
   exact List.mem_flatten.mpr ⟨_,List.getElem_mem (show i<(KD ts).length by rw[←ro.1];exact hi),List.mem_of_getElem? h2⟩
  ·have e1:us.map g'=(KD ts).map fun c=>(c.map g).flatten:=by
    refine List.ext_getElem? fun i=>?_
    by_cases hi:i<us.length
    ·rw[List.getElem?_map,List.getElem?_map,List.getElem?_eq_getElem hi,List.getElem?_eq_getElem (show i<(KD ts).length by rw[←ro.1];exact hi)]
     exact congrArg some (hg' (row i hi))
    ·rw[List.getElem?_eq_none (by rw[List.length_map];omega),List.getElem?_eq_none (by rw[List.length_map,←ro.1];omega)]
   rw[e1,Oj,LH nets,hf]
theorem O9 {cs:List Cl}(nb:(cs.map (·.bk)).Nodup){ts0:List Tg}:∀{l:Nat} {us us':List Tg},Tw cs ts0 l us→Tw cs ts0 l us'→us=us'
 |0,us,us',h,h'=>(show us=ts0 from h).trans (show us'=ts0 from h').symm
 |l+1,us,us',h,h'=>by
  obtain⟨ts,h1,ro,_⟩:=h
  obtain⟨ts',h1',ro',_⟩:=h'
  have:=O9 nb h1 h1'
  subst this
  refine List.ext_getElem? fun i=>?_
  have e1:=ro.1
  have e2:=ro'.1
  by_cases hi:i<us.length
  ·have hi':i<us'.length:=by omega
   have hc:i<(KD ts).length:=by omega
   rw[List.getElem?_eq_getElem hi,List.getElem?_eq_getElem hi']
   exact congrArg some ((ro.2 i _ _ (List.getElem?_eq_getElem hi) (List.getElem?_eq_getElem hc)).tag nb (ro'.2 i _ _ (List.getElem?_eq_getElem hi') (List.getElem?_eq_getElem hc)))
  ·rw[List.getElem?_eq_none (by omega),List.getElem?_eq_none (by omega)]
theorem LB {cs:List Cl}{ts0:List Tg}:∀{l:Nat} {us:List Tg},Tw cs ts0 l us→∀k,0<k→k<l→∃ts,Tw cs ts0 k ts∧2≤ts.length
 |0,_,_,k,_,h=>absurd h (Nat.not_lt_zero _)
 |l+1,us,h,k,k0,kl=>by
  obtain⟨ts,h1,_,h2⟩:=h
  by_cases e:k=l
  ·subst e;exact⟨ts,h1,h2 k0⟩
  ·exact LB h1 k k0 (by omega)
theorem RQ {cs:List Cl}(nb:(cs.map (·.bk)).Nodup){ts0 ts0':List Tg}{ps:List (List Nat)}(h:E3 cs ts0 ps)(h':E3 cs ts0' ps):ts0=ts0':=by
 refine List.ext_getElem? fun i=>?_
 have e1:=h.1
 have e2:=h'.1
 by_cases hi:i<ts0.length
 ·have hi':i<ts0'.length:=by omega
  have hp:i<ps.length:=by omega
  rw[List.getElem?_eq_getElem hi,List.getElem?_eq_getElem hi']
  exact congrArg some ((h.2 i _ _ (List.getElem?_eq_getElem hi) (List.getElem?_eq_getElem hp)).tag nb (h'.2 i _ _ (List.getElem?_eq_getElem hi') (List.getElem?_eq_getElem hp)))
 ·rw[List.getElem?_eq_none (by omega),List.getElem?_eq_none (by omega)]
def QG (cs:List Cl)(z:List Nat)(t:Tg):Prop:=∃lv ts0,lv≤8∧Tw cs ts0 (lv+1) [t]∧E3 cs ts0 (cut full [] z)
theorem QG.grow {cs cs':List Cl}(g:ES cs cs'){z:List Nat}{t:Tg}(h:QG cs z t):QG cs' z t:=by
 obtain⟨lv,ts0,h1,h2,h3⟩:=h
 exact⟨lv,ts0,h1,h2.grow g,h3.grow g⟩
theorem QG.tag {cs:List Cl}(nb:(cs.map (·.bk)).Nodup){z:List Nat}{t t':Tg}(h:QG cs z t)(h':QG cs z t'):t=t':=by
 obtain⟨lv,ts0,_,h1,h2⟩:=h
 obtain⟨lv',ts0',_,h1',h2'⟩:=h'
 have:=RQ nb h2 h2'
 subst this
 have key:∀{a b:Nat} {t t':Tg},a<b→Tw cs ts0 (a+1) [t]→Tw cs ts0 (b+1) [t']→False:=fun{a b t t'} hab x y=>by
  obtain⟨ts,h3,h4⟩:=LB y (a+1) (by omega) (by omega)
  have:=O9 nb x h3
  rw[←this] at h4
  simp at h4
 have:lv=lv':=by
  rcases Nat.lt_trichotomy lv lv' with h|h|h
  ·exact(key h h1 h1').elim
  ·exact h
  ·exact(key h h1' h1).elim
 subst this
 have:=O9 nb h1 h1'
 simpa using this
theorem QG.cn {cs:List Cl}(nd:(cs.map (·.z)).Nodup){z:List Nat}{t:Tg}(h:QG cs z t):Cn cs 11 t z:=by
 obtain⟨lv,ts0,h1,h2,h3⟩:=h
 by_cases ne:ts0=[]
 ·subst ne
  have hz:cut full [] z=[]:=List.eq_nil_of_length_eq_zero h3.1.symm
  have z0:z=[]:=by have:=IQ (F:=full) z [];rw[hz] at this;exact this.symm
  subst z0
  cases lv with
  |zero=>
   obtain⟨ts,e,ro,_⟩:=h2
   have e:ts=[]:=e
   subst e
   exact(Cn.up (n:=1) (.inr ⟨_,[],[],ro.2 0 t [] rfl rfl,rfl,(fun i u x h=>by cases h),rfl⟩) (by omega))
  |succ lv=>
   obtain⟨ts,h4,h5⟩:=LB h2 1 (by omega) (by omega)
   obtain⟨ts',e,ro,_⟩:=h4
   have e:ts'=[]:=e
   subst e
   have:=ro.1
   have:(KD ([]:List Tg)).length=1:=rfl
   omega
 ·obtain⟨g,hg,hf⟩:=Vx nd ne h3 h2
  have c:=hg t (List.mem_singleton.mpr rfl)
  rw[IQ] at hf
  have e:g t=z:=by simpa using hf
  rw[e] at c
  exact c.up (by omega)
def Gx {α:Type}(R:α→V→Prop):List α→List V→Prop
 |[],us=>us=[]
 |x::xs,us=>∃v vs,us=v::vs∧R x v∧Gx R xs vs
theorem Gx.len {α:Type}{R:α→V→Prop}:∀{xs:List α} {us:List V},Gx R xs us→us.length=xs.length
 |[],us,h=>by rw[show us=[] from h];rfl
 |_::_,us,h=>by
  obtain⟨v,vs,rfl,_,h2⟩:=h
  rw[List.length_cons,List.length_cons,Gx.len h2]
theorem Gx.at {α:Type}{R:α→V→Prop}:∀{xs:List α} {us:List V},Gx R xs us→∀{i:Nat} {v:V},us[i]?=some v→∃x,xs[i]?=some x∧R x v
 |[],us,h,i,v,hv=>by rw[show us=[] from h] at hv;cases hv
 |x::xs,us,h,i,v,hv=>by
  obtain⟨u,vs,rfl,h1,h2⟩:=h
  cases i with
  |zero=>cases hv;exact⟨x,rfl,h1⟩
  |succ i=>exact Gx.at h2 hv
theorem Gx.mono {α:Type}{R R':α→V→Prop}(k:∀x v,R x v→R' x v):∀{xs:List α} {us:List V},Gx R xs us→Gx R' xs us
 |[],_,h=>h
 |x::xs,us,h=>by
  obtain⟨u,vs,rfl,h1,h2⟩:=h
  exact⟨u,vs,rfl,k _ _ h1,Gx.mono k h2⟩
theorem Gx.snoc {α:Type}{R:α→V→Prop}{x:α}{v:V}(h1:R x v):∀{xs:List α} {us:List V},Gx R xs us→Gx R (xs++[x]) (us++[v])
 |[],us,h=>by rw[show us=[] from h];exact⟨v,[],rfl,h1,rfl⟩
 |_::_,us,h=>by
  obtain⟨u,vs,rfl,h2,h3⟩:=h
  exact⟨u,vs++[v],rfl,h2,Gx.snoc h1 h3⟩
abbrev Tp:=Str×Addr×Tg
def LW (H:Hp)(x:Tp)(v:V):Prop:=(∃a,v=.ref a∧H a=some (.tup [.str x.1,.ref x.2.1]))∧H x.2.1=some (.tup [.int x.2.2.1,.int x.2.2.2.1,.int x.2.2.2.2])
theorem LW.tup {H H':Hp}(ht:∀c ys,H c=some (.tup ys)→H' c=some (.tup ys))(x:Tp)(v:V)(h:LW H x v):LW H' x v:=by
 obtain⟨⟨a,rfl,e⟩,e2⟩:=h
 exact⟨⟨a,rfl,ht _ _ e⟩,ht _ _ e2⟩
theorem Tx {x:Int}:(!decide (V.int x=V.int x))=false:=by rw[decide_eq_true rfl];rfl
theorem made {C:Addr}{H1 H2:Hp}{x dx:Addr}(nx:H1 x=none)(ndx:H1 dx=none)(k:∀b o,(upd (upd H1 dx (.own x)) x (.ins C dx [])) b=some o→b≠x→H2 b=some o):Aq H1 H2:=fun b o e=>by
 have n1:b≠x:=AD e nx
 have n2:b≠dx:=AD e ndx
 exact k b o (by rw[Aj n1,Aj n2];exact e) n1
theorem Vh (z:Str){i:Int}(h0:0≤i):∃n,A6 (PySem.Txt.slice z (some i) none)=(A6 z).drop n:=by
 have hz:=AL z
 by_cases h:i≤z.length
 ·refine⟨i.toNat,?_⟩
  show A6 (StrLaws.sliceText z (some i) none)=_
  rw[StrLaws.sliceText_from ⟨h0,by rw[hz];exact h⟩]
  refine List.take_of_length_le ?_
  rw[List.length_drop]
  show(A6 z).length-i.toNat≤(((A6 z).length:Int)-i).toNat
  omega
 ·refine⟨z.length,?_⟩
  have e:PySem.Builtin.Str.strSliceIndices (some i) none 1 z.length=PySem.Builtin.Str.strSliceIndices (some (z.length:Int)) none 1 z.length:=by
   unfold PySem.Builtin.Str.strSliceIndices
   have e1:(if i<0 then i+(z.length:Int) else i)=i:=if_neg (by omega)
   have e2:(if(z.length:Int)<0 then(z.length:Int)+(z.length:Int) else(z.length:Int))=z.length:=if_neg (by omega)
   simp only[e1,e2]
   have e3:max 0 (min i (z.length:Int))=max 0 (min (z.length:Int) z.length):=by omega
   rw[e3]
   simp only[if_pos (show(1:Int)>0 by decide)]
  show A6 (StrLaws.sliceText z (some i) none)=_
  have e':StrLaws.sliceText z (some i) none=StrLaws.sliceText z (some (z.length:Int)) none:=by
   unfold StrLaws.sliceText
   rw[e]
  rw[e',StrLaws.sliceText_from ⟨by omega,by rw[hz];omega⟩]
  refine List.take_of_length_le ?_
  rw[List.length_drop]
  show(A6 z).length-z.length≤(((A6 z).length:Int)-(z.length:Int)).toNat
  omega
theorem KL (z:Str):toS (A6 z)=z:=IT (Gz _)
theorem D2.sl {x:Str}(h:D2 x){lo hi:Option Int}(hs:∀c∈A6 (PySem.Txt.slice x lo hi),c∈A6 x):D2 (PySem.Txt.slice x lo hi):=fun c hc=>h c (hs c hc)
section
variable {CP CT:Addr}{H H':Hp}{p:Addr}{q:Pl}{cs:List Cl}{bs:List (Int×Addr)}{y:Int}{fb:List Addr}{HB:Hp}{W:List Tg}
theorem U9 {zs:List Int}:ES cs (cs.map (bump zs)):=fun t b ⟨e,he,e1,e2⟩=>⟨bump zs e,List.mem_map.mpr ⟨e,he,rfl⟩,e1,e2⟩
theorem Pg.hold (h:Pg CP CT H p q cs bs y fb HB W){e:Cl}(he:e∈cs):Pg CP CT (upd H e.c (.ins CT e.dx (FU e.ta ((wT (Dk e.bk)).length:Int) e.l (e.k+1) e.en e.st))) p q (cs.map (bump [e.z])) bs y fb HB W:=by
 have hc:=(h.pa.t.2.2.1 e he).1
 have cn:∀(z:Int),(0:Int)≤(([e.z]:List Int).count z:Int):=fun z=>by omega
 have eo:BK p q (cs.map (bump [e.z])) bs=BK p q cs bs:=by unfold BK;rw[KG]
 have me:e.c∈BK p q cs bs:=by
  unfold BK
  simp only[List.mem_cons,List.mem_append]
  exact .inr (.inr (.inr (.inr (.inr (List.mem_map.mpr ⟨e,he,rfl⟩)))))
 refine⟨{ h.pa with t:=h.pa.t.hold h.pa.c he,d:=?_,b:=(h.pa.b.ins hc).bump _,c:=by rw[KG];exact h.pa.c,z:=fun i x hx=>?_,w:=by rw[List.length_map];exact h.pa.w,f2:=by rw[List.length_map];exact h.pa.f2 },fun x hx=>?_,?_,fun a ha=>?_,fun a ha=>by rw[eo];exact h.ap a ha,fun e0 he0 t ht=>?_,fun x hx=>?_,fun x hx=>?_⟩
 ·rw[Aj (AW h.pa.d hc (by intro z;cases z)),OH];exact h.pa.d
 ·rw[List.getElem?_map] at hx
  obtain⟨x0,h0,rfl⟩:=Option.map_eq_some_iff.mp hx
  exact h.pa.z i x0 h0
 ·obtain⟨x0,h0,rfl⟩:=List.mem_map.mp hx
  exact h.ck x0 h0
 ·rw[List.map_map];exact h.nb
 ·obtain⟨o,h1,h2⟩:=h.bd a ha
  exact⟨o,h1,by rw[Aj (fun z=>h.ap a ha (by rw[z];exact me))];exact h2⟩
 ·obtain⟨x0,h0,rfl⟩:=List.mem_map.mp he0
  obtain⟨e1,h1,h2,h3⟩:=h.kd x0 h0 t ht
  refine⟨bump [e.z] e1,List.mem_map.mpr ⟨e1,h1,rfl⟩,h2,?_⟩
  show 1≤e1.k+_
  have:=cn e1.z
  omega
 ·obtain⟨x0,h0,rfl⟩:=List.mem_map.mp hx
  rcases h.nm x0 h0 with⟨e0,he0,h1⟩|h1
  ·exact .inl ⟨bump _ e0,List.mem_map.mpr ⟨e0,he0,rfl⟩,h1⟩
  ·exact .inr h1
 ·obtain⟨x0,h0,rfl⟩:=List.mem_map.mp hx
  show 0≤x0.k+_
  have:=h.k0 x0 h0
  have:=cn x0.z
  omega
end
theorem Sk {us:List V} {xs:List Tp} {sl:Addr} {fr:List (Option Nat)} {te:TE} {Q:VK} {σ:St} {H:Hp} (pr:Gx (LW H) xs us) (hsl:H sl=some (.lst us)) (hn:xs.length≤1000) (g:Tp→V)
  (helt:∀x∈xs,∀(H':Hp) (R:VK),Aq H H'→(∀H'',Aq H' H''→R (g x) H'')→te (some (.str x.1)::some (.ref x.2.1)::stC fr σ) H' R)
  (hQ:∀l H',H l=none→Aq H H'→H' l=some (.lst (xs.map g))→Q (.ref l) H'):Gi (none::none::fr) (RL K 2 (Hs (Cv 0) (Hs (Cv 1) Sn))) NN te σ Q (VO K sl) H:=by
 have lu:=pr.len
 intro l hl
 refine⟨fun i m σ' H'=>m=us.length-i∧i≤us.length∧(∃y0 y1,σ'=y0::y1::stC fr σ)∧Aq H H'∧H' l=some (.lst ((xs.take i).map g)),⟨us.length,by simp,Nat.zero_le _,⟨_,_,rfl⟩,Am hl _,by rw[Ag];rfl⟩,?_⟩
 rintro i m σ' H' ⟨rfl,hi,⟨y0,y1,rfl⟩,hs,hl'⟩
 obtain⟨h1,h2,h3⟩:=EE (K:=K) (AU.of hsl) H' hs i
 by_cases hlt:i<us.length
 ·refine .inr ⟨h1 hlt,fun x H'' y=>?_⟩
  obtain⟨rfl,hx⟩:=h2 x H'' y
  obtain⟨e,he,⟨a,rfl,ha⟩,_⟩:=pr.at (hx hlt)
  refine⟨a,_,rfl,AY.of (hs.get ha),rfl,_,_,rfl,_,_,rfl,rfl,?_⟩
  refine helt e (List.mem_of_getElem? he) H'' _ hs fun H4 s4=>?_
  refine⟨_,s4.get hl',Bd (by rw[List.length_map,List.length_take];omega),us.length-(i+1),by omega,rfl,hlt,⟨_,_,rfl⟩,A0 (hs.trans s4) hl _,?_⟩
  rw[Ag,List.take_add_one,he]
  simp
 ·have e:i=us.length:=by omega
  subst e
  exact .inl ⟨h3 (Nat.le_refl _),hQ l H' hl hs (by rw[hl',lu,List.take_of_length_le (Nat.le_refl _)])⟩
def Nz (K:W.Frag):Sp:=fun vs H Q _=>∃(a:Addr) (ns:List Int),vs=[.ref a]∧AU K H a (ns.map V.int)∧ns.length≤63∧∀H',Q (.bl true) H'
theorem We (T:Txt K mg Ab Ad Aa Ae XC)(F:Fun K "law" "law" Jh f fd)(EM:Def P w K mg base 2 "_law_content" ["_law_script","_law_start","_law_many"] (Ej K))(Bi:Def P w K mg base 1 "_law_cell_at" ["_law_script","_law_k"] (C0 K))(FG:MS P w K mg base 3 Ad "Boards" ["self","many"] (E6 K Ad))(Hn:MS P w K mg base 1 Ae "Pool" ["self","boards"] (GM K Ae))(Gs:A7 P w K mg base 2 Ae "sweep" ["self"] (Ft K Ae Aa))(DR:A7 P w K mg base 11 Ae "lay_draft" ["self"] (Dm K Ae Aa Ad))(C9:Def P w K mg base 1 "_law_text" ["_law_row_here"] (Eo K))(FR:Def P w K mg base 21 "put_content" ["pool","content","birth"] (EK K Ae Aa))(Di:A7 P w K mg base 1 Ae "hold" ["self","tag"] (Et K Ae Aa))(DB:Def P w K mg base 1 "_law_row" ["_law_cell","_law_many"] (Fm K))(CJ:Def P w K mg base 28 "content_at" ["pool","tag"] (Fv K Ae Aa Ad)):FnOk P w K mg base B9 29 f fd ["_law_script"] (Nz K):=by
 exists C4
 ·obtain⟨a,ns,rfl,_⟩:=h
  rfl
 obtain⟨a,ns,rfl,hS,hlen,q⟩:=h
 have hu:=CC hr
 have hu9:=IF hr
 refine⟨_,(!Af (@Ay _ _ (1) _ _ _ _ C4.nd rfl (by trivial) (!AE EM (by trivial) rfl (!Ac (pv 0) (!Ac (!Ak) (!Ac (!Ak) (!Ah) (by rfl)) (by rfl)) (by rfl)) (by decide) (by rfl) (by rfl)) (by rfl) (by trivial)) (!Af (@Ay _ _ (2) _ _ _ _ C4.nd rfl (by trivial) (!AE Bi (by trivial) rfl (!Ac (pv 0) (!Ac (!Ak) (!Ah) (by rfl)) (by rfl)) (by decide) (by rfl) (by rfl)) (by rfl) (by trivial)) (!Af (@Ay _ _ (3) _ _ _ _ C4.nd rfl (by trivial) (!Az By (!Az El (pv 2) (!Ak)) (!Az Cr (!Ar CS (by rfl) T.b_len Bp (!Ac (pv 1) (!Ah) (by rfl)) (by decide) (by decide) (by rfl) (by rfl)) (!Ak))) (by rfl) (by trivial)) (!Af (@Ay _ _ (4) _ _ _ _ C4.nd rfl (by trivial) (!Az K9 (!AE C9 (by trivial) rfl (!Ac (!AE DB (by trivial) rfl (!Ac (pv 2) (!Ac (!Ak) (!Ah) (by rfl)) (by rfl)) (by decide) (by rfl) (by rfl)) (!Ah) (by rfl)) (by decide) (by rfl) (by rfl)) (!Az By (pv 2) (!Ak))) (by rfl) (by trivial)) (!Af (@Ay _ _ (5) _ _ _ _ C4.nd rfl (by trivial) (!CA KP (!Az Dz (!Az Dz (pv 4) (!CA KP (pv 1) (!Fj) (!Cu (pv 3)))) (!CA KP (pv 1) (!Cu (!Az Cr (pv 3) (!Az By (!Az El (pv 2) (!Ak)) (!Ak)))) (!Fj))) (!Fj) (!Cu (!Ak))) (by rfl) (by trivial)) (!Af (@Ay _ _ (6) _ _ _ _ C4.nd rfl (by trivial) (!MF FG (by trivial) rfl (!Ac (!Az Cr (!Ak) (!Az By (pv 2) (!Ak))) (!Ah) (by rfl)) (by decide) (by rfl) (by rfl)) (by rfl) (by trivial)) (!Af (@Ay _ _ (7) _ _ _ _ C4.nd rfl (by trivial) (!MF Hn (by trivial) rfl (!Ac (pv 6) (!Ah) (by rfl)) (by decide) (by rfl) (by rfl)) (by rfl) (by trivial)) (!Af (@Ay _ _ (8) _ _ _ _ C4.nd rfl (by trivial) (!Cq (!Ah)) (by rfl) (by trivial)) (!Af (!BY PassesOwn.never rfl (!BA (!Cq (!Ac (!CA KP (pv 5) (!Fj) (!Cu (!Ak))) (!Ac (pv 1) (!Ac (!ER) (!Ac (pv 5) (!Ac (pv 1) (!Ah) (by rfl)) (by rfl)) (by rfl)) (by rfl)) (by rfl)))) (@As _ _ (9) _ C4.nd rfl (by trivial) (by trivial)) (!Af (@Ay _ _ (10) _ _ _ _ C4.nd rfl (by trivial) (!AE FR (by trivial) rfl (!Ac (pv 7) (!Ac (pv 9) (!Ac (!Ak) (!Ah) (by rfl)) (by rfl)) (by rfl)) (by decide) (by rfl) (by rfl)) (by rfl) (by trivial)) (!Af (!AM (@PW.pt _ _ _ (!Fn (!BH (!Br (!Ar Bs (by rfl) T.b_isinstance A2 (!Ac (pv 10) (!Ac (!Hw rfl T.b_tuple Fb (by decide) (by decide)) (!Ah) (by rfl)) (by rfl)) (by decide) (by decide) (by rfl) (by rfl)) (by intro _;rfl))) (!DT (!AF LC (!Ar AI (by rfl) T.b_len Bp (!Ac (pv 10) (!Ah) (by rfl)) (by decide) (by decide) (by rfl) (by rfl)) (!Ak) (AC _))))) (!Al (!An (!Fo))) (!Av)) (!Af (!AM (!BH (!Br (!Ar (E8 rfl) (by rfl) T.b_all Il (!Ac (@BE _ ["_law_part"] _ _ _ _ _ _ _ _ _ _ rfl (!Ea (pv 10)) (by decide +kernel) (fun C s H fp=>⟨(@As _ _ (0) _ (show(["_law_part"]:List Str).Nodup by decide +kernel) rfl (by trivial) (by trivial)),(!AV),(!EN (!Ar (Je (K:=K) (by rfl)) (by rfl) T.b_isinstance A2 (!Ac (pv 0) (!Ac (!Hw rfl T.b_int R7 (by decide) (by decide)) (!Ah) (by rfl)) (by rfl)) (by decide) (by decide) (by rfl) (by rfl)) (!Fs (!Ta (!Ar (Je (K:=K) (by rfl)) (by rfl) T.b_isinstance A2 (!Ac (pv 0) (!Ac (!Hw rfl T.b_bool QL (by decide) (by decide)) (!Ah) (by rfl)) (by rfl)) (by decide) (by decide) (by rfl) (by rfl)))))⟩) (by intro _;rfl)) (!Ah) (by rfl)) (by decide) (by decide) (by rfl) (by rfl)) (by intro _;rfl))) (!Al (!An (!Fo))) (!Av)) (!Af (!BY PassesOwn.never rfl (!BA (pv 8)) (!MN rfl (!AS (@As _ _ (11) _ C4.nd rfl (by trivial) (by trivial)) (!AS (@As _ _ (12) _ C4.nd rfl (by trivial) (by trivial)) (!Er) (by rfl)) (by rfl)) (by rfl) (by rfl)) (!Al (!AM (@PW.pt _ _ _ (!Fn (!AF LC (!Cw Bu (pv 11) (pv 9) (AC _)) (!Cw (TM hu9) (pv 12) (pv 10) (AC _)) (AC _)) (!DT (!AF LC (!AE CJ (by trivial) rfl (!Ac (pv 7) (!Ac (pv 12) (!Ah) (by rfl)) (by rfl)) (by decide) (by rfl) (by rfl)) (pv 11) (AC _))))) (!Al (!An (!Fo))) (!Av))) (by intro _;rfl)) (!Al (!Bm (!E9 PySem.F.plainAttrs_list PySem.F.slot_list_append PySem.F.type_list_append Cm (pv 8) (!Ac (!Hz (!Ac (pv 9) (!Ac (pv 10) (!Ah) (by rfl)) (by rfl))) (!Ah) (by rfl)) (by rfl) (by rfl) (by rfl) (by rfl) (by rfl)) (by rfl))))))) (by intro _;rfl)) (!Af (!BY PassesOwn.never rfl (!BA (pv 8)) (!MN rfl (!AS (@As _ _ (9) _ C4.nd rfl (by trivial) (by trivial)) (!AS (@As _ _ (10) _ C4.nd rfl (by trivial) (by trivial)) (!Er) (by rfl)) (by rfl)) (by rfl) (by rfl)) (!Al (!Bm (!Bc (pv 7) T.cl_Pool Di (by trivial) (!Ac (pv 10) (!Ah) (by rfl)) (by rfl) (by rfl) (by rfl)) (by rfl))) (by intro _;rfl)) (!Af (!Bm (!Ep (pv 7) T.cl_Pool Gs (by trivial) (by rfl)) (by rfl)) (!Af (!Bm (!Ep (pv 7) T.cl_Pool DR (by trivial) (by rfl)) (by rfl)) (!Al (!An (!Ar (E8 rfl) (by rfl) T.b_all Il (!Ac (@HP _ ["_law_text_here","_law_tag","_law_pool"] [none,none,some 7] _ _ _ _ _ _ _ _ _ _ _ rfl (!BA (pv 8)) (by rfl) rfl (by repeat (first|exact trivial|refine⟨rfl,?_⟩)) (by repeat (first|exact trivial|refine⟨fun h=>(by first|exact⟨_,rfl⟩|cases h),?_⟩)) (fun C s H fp=>⟨(@HI _ (K) _ _ _ _ (2) (by rfl) rfl (!AS (@As _ _ (0) _ (show(["_law_text_here","_law_tag","_law_pool"]:List Str).Nodup by decide +kernel) rfl (by trivial) (by trivial)) (!AS (@As _ _ (1) _ (show(["_law_text_here","_law_tag","_law_pool"]:List Str).Nodup by decide +kernel) rfl (by trivial) (by trivial)) (!Er) (by rfl)) (by rfl)) (by rfl) (by rfl)),(!AV),(!Cw Bu (!AE CJ (by trivial) rfl (!Ac (pv 2) (!Ac (pv 1) (!Ah) (by rfl)) (by rfl)) (by decide) (by rfl) (by rfl)) (pv 0) (AC _))⟩) (by intro _;rfl)) (!Ah) (by rfl)) (by decide) (by decide) (by rfl) (by rfl)))))))))))))))),?_⟩
 try dsimp only[Cs,Cx.nox,Cx.wish]
 refine⟨_,rfl,a,ns,rfl,hS,hlen,fun z1 H1 s1 lz1 hz1=>?_⟩
 refine⟨_,rfl,a,ns,1,rfl,by decide,s1.seq hS,fun c=>?_⟩
 refine⟨_,rfl,_,_,rfl,rfl,⟨by decide,by decide⟩,_,rfl,z1,rfl,small (by omega),_,_,rfl,rfl,_,_,rfl,rfl,(by show(0:Int)<(z1.length:Int)+1;omega),?_⟩
 have at0:=Int.emod_nonneg (c/401) (show(z1.length:Int)+1≠0 by omega)
 dsimp only[Cv]
 generalize c/401%((z1.length:Int)+1)=at_ at at0
 refine⟨_,rfl,c,4,rfl,by decide,by decide,fun r H2 row s2 nr hr2 lr br=>⟨r,row,rfl,hr2,lr,br,fun z2 H3 s3 lz2 hz2=>?_⟩⟩
 refine⟨_,rfl,_,_,rfl,rfl,(by show(0:Int)<2;decide),z2,_,rfl,rfl,by omega,by omega,by omega,?_⟩
 obtain⟨z3,ez3,lz3,hz3⟩:∃z3,PySem.Txt.mul z2 (c%2)=z3∧z3.length≤1000∧D2 z3:=⟨_,rfl,by
  have:=PyProof.Rows.len_mul_leN (x:=z2) (n:=c%2) (L:=100) (N:=10) lz2 (by omega)
  omega,fun u hu'=>hz2 u (QK hu')⟩
 dsimp only[Cv]
 rw[ez3]
 have h31:0≤at_+c/3%9:=by omega
 have l1:(PySem.Txt.slice z1 none (some at_)).length≤400:=by rw[←AL,JX z1 at0,List.length_take,AL];omega
 obtain⟨nr2,er2⟩:=Vh z1 h31
 have l2:(PySem.Txt.slice z1 (some (at_+c/3%9)) none).length≤400:=by rw[←AL,er2,List.length_drop,AL];omega
 have g1:D2 (PySem.Txt.slice z1 none (some at_)):=fun u hu'=>by rw[JX z1 at0] at hu';exact hz1 u (List.mem_of_mem_take hu')
 have g2:D2 (PySem.Txt.slice z1 (some (at_+c/3%9)) none):=fun u hu'=>by rw[er2] at hu';exact hz1 u (List.mem_of_mem_drop hu')
 refine⟨_,rfl,_,rfl,_,rfl,_,rfl,z1,rfl,small (by omega),_,_,rfl,rfl,small (by omega),_,rfl,_,rfl,_,rfl,_,_,rfl,rfl,⟨by decide,by decide⟩,_,_,rfl,rfl,(by show(0:Int)<9;decide),_,_,rfl,rfl,_,rfl,z1,rfl,small (by omega),_,_,rfl,rfl,small (by rw[len_app];omega),_,rfl,_,rfl,small (by rw[len_app,len_app];omega),?_⟩
 have g3:=(hz3.app g1).app g2
 generalize z3++PySem.Txt.slice z1 none (some at_)++PySem.Txt.slice z1 (some (at_+c/3%9)) none=z4 at g3
 obtain⟨z5,ez5,lz5,hz5⟩:∃z5,PySem.Txt.slice z4 none (some 400)=z5∧z5.length≤400∧D2 z5:=⟨_,rfl,by rw[←AL,JX z4 (by decide),List.length_take];exact Nat.min_le_left _ _,fun u hu'=>by rw[JX z4 (by decide)] at hu';exact g3 u (List.mem_of_mem_take hu')⟩
 dsimp only[Cv]
 rw[ez5]
 refine⟨_,rfl,_,_,rfl,rfl,(by show(0:Int)<3;decide),_,_,rfl,rfl,?_⟩
 obtain⟨m,hm,m2,m4⟩:∃m:Nat,2+c%3=(m:Int)∧2≤m∧m≤4:=⟨(2+c%3).toNat,by omega,by omega,by omega⟩
 dsimp only[O4]
 rw[hm]
 intro xb dxb nxb ndxb _
 refine⟨xb,dxb,m,rfl,m2,m4,Ag,fun HB ds B1 n1 k1=>⟨rfl,?_⟩⟩
 refine⟨_,rfl,?_⟩
 intro x dx nx ndx _
 refine⟨x,dx,xb,rfl,Ag,fun dt dz dd H5 k2 e1 e2 e3 hdt hdz hdd hx fr3=>⟨rfl,?_⟩⟩
 have s5:=made nx ndx k2
 obtain⟨dxb',sh,hxb,hsh,hnd,hds⟩:=id B1
 have pa5:PAt Ae Aa H5 x ⟨dx,xb,dt,dz,dd,1⟩ [] []:=⟨⟨hx,hdt,(fun _ h=>nomatch h),List.nodup_nil⟩,hdd,⟨hdz,List.nodup_nil,List.nodup_nil,(fun _ h=>nomatch h),(fun _ h=>nomatch h)⟩,e1,e2,e3,List.nodup_nil,(fun i e h=>by cases h),Nat.le_refl _,Int.le_refl _,(by show(1:Int)≤0+1;decide)⟩
 have fbn:∀a∈xb::ds,∃o,HB a=some o:=fun a ha=>by
  rcases List.mem_cons.mp ha with rfl|ha
  ·exact⟨_,hxb⟩
  ·obtain⟨kvs,h⟩:=B1.there a ha
   exact⟨_,h⟩
 have apn:∀a∈xb::ds,a∉BK x ⟨dx,xb,dt,dz,dd,1⟩ [] []:=fun a ha=>by
  obtain⟨o,ho⟩:=fbn a ha
  have n1:a≠x:=AD ho nx
  have n2:a≠dx:=AD ho ndx
  have ho':(upd (upd HB dx (.own x)) x (.ins Ae dx [])) a=some o:=by rw[Aj n1,Aj n2];exact ho
  have nn:∀{d},(upd (upd HB dx (.own x)) x (.ins Ae dx [])) d=none→a≠d:=fun{d} h z=>by rw[←z,ho'] at h;cases h
  unfold BK
  simp only[List.map_nil,List.append_nil,List.mem_cons,List.not_mem_nil,or_false,not_or]
  exact⟨n1,nn fr3.1,nn fr3.2.1,nn fr3.2.2⟩
 have pg5:Pg Ae Aa H5 x ⟨dx,xb,dt,dz,dd,1⟩ [] [] 5 (xb::ds) HB []:=⟨pa5,(fun _ h=>nomatch h),List.nodup_nil,(fun a ha=>(fbn a ha).imp fun o h=>⟨h,s5.get h⟩),apn,(fun _ h=>nomatch h),(fun _ h=>nomatch h),(fun _ h=>nomatch h)⟩
 refine⟨LY,fun tl htl=>?_⟩
 have s6:=Am htl (.lst [])
 have ntl:HB tl=none:=s5.free htl
 refine⟨_,rfl,_,rfl,z5,rfl,small (by omega),_,rfl,_,rfl,_,rfl,Xd,fun ll hll=>?_⟩
 have ntx:∀z∈[PySem.Txt.slice z5 none (some 9),z1,PySem.Str.ofString "",z5,z1],z.length≤400∧D2 z:=fun z hz=>by
  have e0:(PySem.Txt.slice z5 none (some 9)).length≤400∧D2 (PySem.Txt.slice z5 none (some 9)):=⟨by rw[←AL,JX z5 (by decide),List.length_take];exact Nat.le_trans (Nat.min_le_left _ _) (by decide),fun u hu'=>by rw[JX z5 (by decide)] at hu';exact hz5 u (List.mem_of_mem_take hu')⟩
  simp only[List.mem_cons,List.not_mem_nil,or_false] at hz
  rcases hz with rfl|rfl|rfl|rfl|rfl
  ·exact e0
  ·exact⟨lz1,hz1⟩
  ·exact⟨Nat.zero_le _,fun u hu'=>by cases hu'⟩
  ·exact⟨lz5,hz5⟩
  ·exact⟨lz1,hz1⟩
 obtain⟨tx,etx,ntx,ltx⟩:∃tx:List Str,[V.str (PySem.Txt.slice z5 none (some 9)),V.str z1,V.str (PySem.Str.ofString ""),V.str z5,V.str z1]=tx.map V.str∧(∀z∈tx,z.length≤400∧D2 z)∧tx.length=5:=⟨_,rfl,ntx,rfl⟩
 rw[etx]
 have s7:=s6.trans (Am hll (.lst (tx.map V.str)))
 refine⟨ll,rfl,⟨_,AU.of Ag⟩,?_⟩
 have nll:HB ll=none:=s5.free (s6.free hll)
 have ntll:tl≠ll:=fun z=>by rw[←z,Ag] at hll;cases hll
 refine Cb (K:=K) (a:=ll) (xs:=tx.map V.str) (fun i σ H'=>∃q' cs bs,∃(xs:List Tp) (us:List V) (v9 v10 v11 v12:Option V),σ=[some (.ref a),some (.str z1),some (.int c),some (.int at_),some (.str z3),some (.str z5),some (.ref xb),some (.ref x),some (.ref tl),v9,v10,v11,v12]∧Pg Ae Aa H' x q' cs bs 5 (xb::ds) HB (xs.map (·.2.2))∧q'.bo=xb∧cs.length≤1100*i∧H' tl=some (.lst us)∧Gx (LW H') xs us∧xs.length=i∧(∀y∈xs,y.1.length≤400∧D2 y.1∧QG cs (A6 y.1) y.2.2)∧H' ll=some (.lst (tx.map V.str))∧Kn HB H')
  ⟨_,[],[],[],[],none,none,none,none,rfl,pg5.same s7,rfl,Nat.zero_le _,(Am hll _).get Ag,rfl,rfl,(fun _ h=>nomatch h),Ag,Aq.kn (s5.trans s7)⟩ ?_ ?_ ?_
 ·rintro i σ H' _ ⟨_,_,_,_,_,_,_,_,_,_,_,_,_,_,_,_,_,h,_⟩
  exact AU.of h
 ·rintro i y σ H' hy ⟨q',cs,bs,xs,us,v9,v10,v11,v12,rfl,pg,ebo,lcs,htl',prs,lxs,hxs,hll',knB⟩
  rw[List.getElem?_map] at hy
  obtain⟨z,hz,rfl⟩:=Option.map_eq_some_iff.mp hy
  have i5:i<tx.length:=(List.getElem?_eq_some_iff.mp hz).1
  obtain⟨lz,gz⟩:=ntx z (List.mem_of_getElem? hz)
  refine⟨_,rfl,_,rfl,x,q',cs,bs,z,5,_,HB,_,rfl,pg,by omega,lz,gz,⟨by decide,by decide⟩,fun H7 q7 cs7 bs7 ta t lv ts0 pg7 eq7 g7 l7 kn7 hta lv8 tw bo=>?_⟩
  have twr:QG cs7 (A6 z) t:=⟨lv,ts0,lv8,tw,bo⟩
  refine⟨_,rfl,_,_,_,_,rfl,.tup hta,Ku K,_,rfl,AK rfl ?_⟩
  refine⟨_,rfl,ta,_,rfl,.inr (AY.of hta),rfl,_,rfl,AK (Tx (x:=3)) ?_⟩
  refine⟨_,rfl,ta,rfl,⟨_,AY.of hta⟩,comp_map (fun _=>.bl true) (Du hta) (by show 3≤1000000;decide) (fun xx H8 R hx8 s8 hR=>?_) fun l0 H8 nl0 s8 hl0=>?_⟩
  ·have:∃i,xx=V.int i:=by
    rcases List.mem_cons.mp hx8 with rfl|hx
    ·exact⟨_,rfl⟩
    rcases List.mem_cons.mp hx with rfl|hx
    ·exact⟨_,rfl⟩
    rw[List.mem_singleton.mp hx]
    exact⟨_,rfl⟩
   obtain⟨j,rfl⟩:=this
   exact⟨_,rfl,_,_,_,_,rfl,.int _,OB K,_,rfl,Wu ⟨_,rfl,_,_,_,_,rfl,.int _,NG K,_,rfl,hR H8 (Aq.refl _)⟩⟩
  refine⟨l0,[true,true,true],rfl,AU.of hl0,_,rfl,AK rfl ?_⟩
  have k8:Kn H' H8:=kn7.trans (Aq.kn s8)
  have htl8:=k8.lst htl'
  have pr8:=prs.mono (LW.tup k8.tup)
  have pg8:=pg7.same s8
  have hta8:=s8.get hta
  have nd8:=pg8.pa.t.2.2.2
  have xs7:∀y∈xs,QG cs7 (A6 y.1) y.2.2:=fun y hy=>(hxs y hy).2.2.grow g7
  have tgk:∀{t:Tg} {z:List Nat},QG cs7 z t→Oa t:=fun{t z} h=>by
   obtain⟨lv,ts0,_,h1,_⟩:=h
   obtain⟨ts,_,ro,_⟩:=h1
   have hc:0<(KD ts).length:=by rw[←ro.1];exact Nat.one_pos
   obtain⟨e,he,et,_⟩:=ro.2 0 t _ rfl (List.getElem?_eq_getElem hc)
   rw[←et];exact(pg8.ck e he).1
  dsimp only[Oe]
  refine MM (fun σ' H9=>∃(v11 v12:Option V),σ'=[some (.ref a),some (.str z1),some (.int c),some (.int at_),some (.str z3),some (.str z5),some (.ref xb),some (.ref x),some (.ref tl),some (.str z),some (.ref ta),v11,v12]∧Aq H8 H9) (fun N hN=>?_) ?_
  ·refine⟨_,rfl,tl,rfl,⟨_,AU.of htl8⟩,Cb (K:=K) (a:=tl) (xs:=us) (fun j σ H9=>∃(v11 v12:Option V),σ=[some (.ref a),some (.str z1),some (.int c),some (.int at_),some (.str z3),some (.str z5),some (.ref xb),some (.ref x),some (.ref tl),some (.str z),some (.ref ta),v11,v12]∧Aq H8 H9) ⟨_,_,rfl,Aq.refl _⟩ ?_ ?_ ?_⟩
   ·rintro j σ H9 _ ⟨_,_,_,s9⟩
    exact AU.of (s9.get htl8)
   ·rintro j u σ H9 hu8 ⟨v11,v12,rfl,s9⟩
    obtain⟨⟨z',ta',t'⟩,hx',⟨ya,rfl,hya⟩,hta'⟩:=pr8.at hu8
    have mx:=List.mem_of_getElem? hx'
    have tw':QG cs7 (A6 z') t':=xs7 _ mx
    have ok':=ID (tgk tw') 6
    have ok:=ID (tgk twr) 6
    refine⟨ya,_,rfl,AY.of (s9.get hya),rfl,_,_,rfl,_,_,rfl,rfl,?_⟩
    refine⟨_,rfl,_,rfl,rfl,_,rfl,_,rfl,Fd t',Fd t,ok',ok,IC (s9.get hta'),IC (s9.get hta8),rfl,_,rfl,AK ?_ ?_⟩
    ·have ei:decide (V.str z'=V.str z)=decide (wT (Fd t')=wT (Fd t)):=by
      rw[Bool.eq_iff_iff,decide_eq_true_eq,decide_eq_true_eq]
      constructor
      ·intro e
       have e:z'=z:=V.str.inj e
       subst e
       rw[tw'.tag pg8.nb twr]
      ·intro e
       have e:=Nr _ _ (Nw ok' ok e)
       subst e
       have:=(tw'.cn nd8).fun nd8 (twr.cn nd8)
       rw[←KL z',←KL z,this]
     rw[ei,if_neg Bool.false_ne_true,decide_eq_true rfl]
     rfl
    refine⟨_,rfl,_,rfl,x,q7,cs7,ta',t',A6 z',rfl,.inl ⟨(pg8.pa.same s9).t,(pg8.pa.same s9).d⟩,s9.get hta',tw'.cn nd8,by rw[AL];exact Nat.le_trans (hxs _ mx).1 (by decide),fun H10 s10=>⟨_,rfl,rfl,_,rfl,AK ?_ ?_⟩⟩
    ·rw[KL,decide_eq_true rfl];rfl
    exact⟨_,_,rfl,s9.trans s10⟩
   ·rintro σ H9 h
    exact hN _ _ h
  rintro σ' H9 ⟨v11',v12',rfl,s9⟩
  refine⟨_,rfl,.inl ⟨rfl,_,AU.of (s9.get htl8)⟩,_,rfl,_,rfl,PP,fun t8 ht8=>?_⟩
  have s10:=s9.trans (Am ht8 (.tup [.str z,.ref ta]))
  have htl10:=s10.get htl8
  have lus:=prs.len
  refine⟨tl,us,_,rfl,rfl,htl10,Bd (by omega),?_⟩
  have tp:∀c ys,(upd H9 t8 (.tup [.str z,.ref ta])) c=some (.tup ys)→(upd (upd H9 t8 (.tup [.str z,.ref ta])) tl (.lst (us++[.ref t8]))) c=some (.tup ys):=fun c ys h=>by rw[Aj (AW h htl10 (by intro z;cases z))];exact h
  refine⟨q7,cs7,bs7,xs++[(z,ta,t)],us++[.ref t8],_,_,_,_,rfl,?_,eq7.trans ebo,by omega,Ag,Gx.snoc ⟨⟨t8,rfl,tp _ _ Ag⟩,tp _ _ (s10.get hta8)⟩ (pr8.mono (LW.tup fun c ys h=>tp _ _ (s10.get h))),by rw[List.length_append,lxs];rfl,fun y hy=>?_,?_,?_⟩
  ·rw[List.map_append]
   exact(pg8.same s10).lst htl10 (pg5.out htl)
  ·rcases List.mem_append.mp hy with h|h
   ·exact⟨(hxs y h).1,(hxs y h).2.1,xs7 y h⟩
   ·rw[List.mem_singleton.mp h];exact⟨lz,gz,twr⟩
  ·rw[Aj (Ne.symm ntll)];exact s10.get (k8.lst hll')
  ·exact((knB.trans k8).trans (Aq.kn s10)).upd ntl
 ·rintro σ H' ⟨q',cs,bs,xs,us,v9,v10,v11,v12,rfl,pg,ebo,lcs,htl',prs,lxs,hxs,hll',knB⟩
  rw[List.length_map,ltx] at lcs lxs
  have wc:∀{t:Tg} {z:List Nat},QG cs z t→∃e∈cs,(e.z,e.y,A9 e.bk)=t:=fun{t z} h=>by
   obtain⟨lv,ts0,_,h1,_⟩:=h
   obtain⟨ts,_,ro,_⟩:=h1
   have hc:0<(KD ts).length:=by rw[←ro.1];exact Nat.one_pos
   obtain⟨e,he,et,_⟩:=ro.2 0 t _ rfl (List.getElem?_eq_getElem hc)
   exact⟨e,he,et⟩
  have lus:=prs.len
  refine⟨_,rfl,tl,rfl,⟨_,AU.of htl'⟩,Cb (K:=K) (a:=tl) (xs:=us) (fun j σ H9=>∃(cs':List Cl) (v9 v10 v11 v12:Option V),σ=[some (.ref a),some (.str z1),some (.int c),some (.int at_),some (.str z3),some (.str z5),some (.ref xb),some (.ref x),some (.ref tl),v9,v10,v11,v12]∧Pg Ae Aa H9 x q' cs' bs 5 (xb::ds) HB (xs.map (·.2.2))∧ES cs cs'∧cs'.length=cs.length∧H9 tl=some (.lst us)∧Gx (LW H9) xs us∧Kn HB H9∧∀(k:Nat) y,k<j→xs[k]?=some y→∃e∈cs',(e.z,e.y,A9 e.bk)=y.2.2∧1≤e.k)
   ⟨cs,_,_,_,_,rfl,pg,ES.refl,rfl,htl',prs,knB,fun k _ h=>absurd h (Nat.not_lt_zero k)⟩ ?_ ?_ ?_⟩
  ·rintro j σ H9 _ ⟨_,_,_,_,_,_,_,_,_,h,_⟩
   exact AU.of h
  ·rintro j u σ H9 hu8 ⟨cs',v9,v10,v11,v12,rfl,pg9,g9,l9,htl9,pr9,kn9,held⟩
   obtain⟨⟨z',ta',t'⟩,hx',⟨ya,rfl,hya⟩,hta'⟩:=pr9.at hu8
   obtain⟨e0,he0,et0⟩:=wc (hxs _ (List.mem_of_getElem? hx')).2.2
   obtain⟨e,he,et,_⟩:=g9 _ _ ⟨e0,he0,et0,rfl⟩
   have hta'':H9 ta'=some (.tup [.int e.z,.int e.y,.int (A9 e.bk)]):=by
    have hta':H9 ta'=some (.tup [.int t'.1,.int t'.2.1,.int t'.2.2]):=hta'
    have et:(e.z,e.y,A9 e.bk)=t':=et
    rw[hta',←et]
   have hc:=(pg9.pa.t.2.2.1 e he).1
   refine⟨ya,_,rfl,AY.of hya,rfl,_,_,rfl,_,_,rfl,rfl,?_⟩
   refine⟨_,rfl,x,q'.dp,_,rfl,pg9.pa.t.1,rfl,_,rfl,x,q',cs',e,ta',_,_,rfl,pg9.pa.t,he,hta'',?_⟩
   have no:∀{b o},H9 b=some o→(∀C d fs,o≠.ins C d fs)→b≠e.c:=fun{b o} h n z=>by rw[z,hc] at h;exact n _ _ _ (Option.some.inj h).symm
   have kn10:Kn H9 (upd H9 e.c (.ins Aa e.dx (FU e.ta ((wT (Dk e.bk)).length:Int) e.l (e.k+1) e.en e.st))):=fun b o h n1 n2=>by rw[Aj (no h n1)];exact h
   refine⟨_,_,_,_,_,rfl,pg9.hold he,g9.trans U9,by rw[List.length_map];exact l9,kn10.lst htl9,pr9.mono (LW.tup kn10.tup),kn9.trans kn10,fun k y hk hy=>?_⟩
   by_cases e9:k<j
   ·obtain⟨e',he',h1,h2⟩:=held k y e9 hy
    refine⟨bump [e.z] e',List.mem_map.mpr ⟨e',he',rfl⟩,h1,?_⟩
    show 1≤e'.k+_
    omega
   ·obtain rfl:k=j:=by omega
    rw[hx'] at hy
    cases hy
    refine⟨bump [e.z] e,List.mem_map.mpr ⟨e,he,rfl⟩,et,?_⟩
    show 1≤e.k+(([e.z].count e.z:Nat):Int)
    rw[List.count_singleton_self]
    have:=pg9.k0 e he
    omega
  ·rintro σ H9 ⟨cs',v9,v10,v11,v12,rfl,pg9,g9,l9,htl9,pr9,kn9,held⟩
   have nd9:=pg9.pa.t.2.2.2
   have uz:∀{e e':Cl},e∈cs'→e'∈cs'→(e.z,e.y,A9 e.bk)=(e'.z,e'.y,A9 e'.bk)→e=e':=fun h h' q=>BM nd9 h h' (congrArg Prod.fst q)
   have kz:∀e∈cs',e.k≠0:=fun e he=>by
    rcases pg9.nm e he with⟨e0,he0,h⟩|h
    ·obtain⟨e',he',h1,h2⟩:=pg9.kd e0 he0 _ h
     rw[←uz he' he h1]
     omega
    ·obtain⟨y,hy,hyt⟩:=List.mem_map.mp h
     obtain⟨k,hk,rfl⟩:=List.getElem_of_mem hy
     obtain⟨e',he',h1,h2⟩:=held k _ (by omega) (List.getElem?_eq_getElem hk)
     rw[←uz he' he (h1.trans hyt)]
     omega
   refine⟨_,rfl,x,q'.dp,_,rfl,pg9.pa.t.1,rfl,x,q',cs',bs,rfl,pg9.pa,by omega,kz,fun H10 s10=>?_⟩
   have pg10:=pg9.same s10
   have kn10:Kn HB H10:=kn9.trans (Aq.kn s10)
   have mxb:xb∈xb::ds:=List.mem_cons_self
   have hB10:G0 Ad H10 q'.bo ds (List.replicate m []) 0 .non:=by
    rw[ebo]
    refine⟨dxb',sh,?_,kn10.lst hsh,hnd,hds.same (fun a xs h=>kn10.lst h) fun d hd kvs h=>?_⟩
    ·obtain⟨o,h1,h2⟩:=pg10.bd xb mxb
     rw[hxb] at h1
     rw[h2,←h1]
    ·obtain⟨o,h1,h2⟩:=pg10.bd d (List.mem_cons_of_mem _ hd)
     rw[h] at h1
     rw[h2,←h1]
   have nbs:∀e∈cs',MX e.z e.y:=fun e he=>by
    obtain⟨⟨a1,a2⟩,⟨b1,b2⟩,_⟩:=(pg10.ck e he).1
    exact⟨⟨by show 0≤e.z;have:(1:Int)≤e.z:=a1;omega,by show e.z≤999999999;have:e.z≤999999:=a2;omega⟩,b1,b2⟩
   refine⟨_,rfl,x,q'.dp,_,rfl,pg10.pa.t.1,rfl,x,q',cs',bs,ds,List.replicate m [],0,rfl,pg10.pa,by omega,hB10,⟨by rw[ebo];exact pg10.ap xb mxb,fun d hd=>pg10.ap d (List.mem_cons_of_mem _ hd)⟩,by rw[List.length_replicate];exact m2,fun c hc=>List.eq_of_mem_replicate hc,nbs,fun H11 b1 n1' pt hdd' hB11 lb la tp lp=>?_⟩
   have rs:RS Ae Aa Ad H11 x q' cs':=.inr ⟨pt,hdd',⟨ds,b1,n1',hB11,by rw[lb,List.length_replicate];exact m2,la⟩,nbs⟩
   have htl11:=lp _ _ (s10.get htl9)
   have pr11:=pr9.mono (LW.tup fun c ys h=>tp _ _ (s10.get h))
   refine⟨_,rfl,tl,rfl,⟨_,AU.of htl11⟩,?_⟩
   refine Sk (fr:=[some 7]) pr11 htl11 (by omega) (fun _=>.bl true) (fun y hy H12 R s12 hR=>?_) fun l0 H12 nl0 s12 hl0=>?_
   ·obtain⟨k,hk,rfl⟩:=List.getElem_of_mem hy
    obtain⟨v,hv⟩:∃v,us[k]?=some v:=⟨us[k]'(by omega),List.getElem?_eq_getElem _⟩
    obtain⟨y',hy',_,hta'⟩:=pr11.at hv
    rw[List.getElem?_eq_getElem hk] at hy'
    cases hy'
    have tw':=(hxs _ (List.getElem_mem hk)).2.2.grow g9
    refine⟨_,rfl,_,rfl,x,q',cs',_,xs[k].2.2,A6 xs[k].1,rfl,rs.same s12,s12.get hta',tw'.cn nd9,by rw[AL];exact Nat.le_trans (hxs _ (List.getElem_mem hk)).1 (by decide),fun H13 s13=>⟨_,rfl,rfl,?_⟩⟩
    rw[KL,decide_eq_true rfl]
    exact hR H13 s13
   have hl0:H12 l0=some (.lst ((xs.map fun _=>true).map V.bl)):=by rw[hl0,List.map_map];rfl
   refine⟨l0,_,rfl,AU.of hl0,?_⟩
   have e:(xs.map fun _=>true).all id=true:=by simp
   rw[e]
   exact q _
end
theorem all_mk {l:W.OpenLaw} {w:World} {K:W.Frag} {h:Heap} {mg:Str→Option Value} {fa:Addr} (X:K.In h) (G:h.Ns mainGlobals mg) (hfa:mg "law"=some (.ref fa))
  {f0:Addr} {od0 an0:Option Addr} {sl0:Array (Option Value)} {oc0 kV0 dc0 pm0 cd0 ct0:Value}
  {f1:Addr} {od1 an1:Option Addr} {sl1:Array (Option Value)} {oc1 kV1 dc1 pm1 cd1 ct1:Value}
  {f2:Addr} {od2 an2:Option Addr} {sl2:Array (Option Value)} {oc2 kV2 dc2 pm2 cd2 ct2:Value}
  {f3:Addr} {od3 an3:Option Addr} {sl3:Array (Option Value)} {oc3 kV3 dc3 pm3 cd3 ct3:Value}
  {f4:Addr} {od4 an4:Option Addr} {sl4:Array (Option Value)} {oc4 kV4 dc4 pm4 cd4 ct4:Value}
  {f5:Addr} {od5 an5:Option Addr} {sl5:Array (Option Value)} {oc5 kV5 dc5 pm5 cd5 ct5:Value}
  {f6:Addr} {od6 an6:Option Addr} {sl6:Array (Option Value)} {oc6 kV6 dc6 pm6 cd6 ct6:Value}
  {f7:Addr} {od7 an7:Option Addr} {sl7:Array (Option Value)} {oc7 kV7 dc7 pm7 cd7 ct7:Value}
  {f8:Addr} {od8 an8:Option Addr} {sl8:Array (Option Value)} {oc8 kV8 dc8 pm8 cd8 ct8:Value}
  {f9:Addr} {od9 an9:Option Addr} {sl9:Array (Option Value)} {oc9 kV9 dc9 pm9 cd9 ct9:Value}
  {f10:Addr} {od10 an10:Option Addr} {sl10:Array (Option Value)} {oc10 kV10 dc10 pm10 cd10 ct10:Value}
  {f11:Addr} {od11 an11:Option Addr} {sl11:Array (Option Value)} {oc11 kV11 dc11 pm11 cd11 ct11:Value}
  {f12:Addr} {od12 an12:Option Addr} {sl12:Array (Option Value)} {oc12 kV12 dc12 pm12 cd12 ct12:Value}
  {f13:Addr} {od13 an13:Option Addr} {sl13:Array (Option Value)} {oc13 kV13 dc13 pm13 cd13 ct13:Value}
  {f14:Addr} {od14 an14:Option Addr} {sl14:Array (Option Value)} {oc14 kV14 dc14 pm14 cd14 ct14:Value}
  {f15:Addr} {od15 an15:Option Addr} {sl15:Array (Option Value)} {oc15 kV15 dc15 pm15 cd15 ct15:Value}
  {f16:Addr} {od16 an16:Option Addr} {sl16:Array (Option Value)} {oc16 kV16 dc16 pm16 cd16 ct16:Value}
  {f17:Addr} {od17 an17:Option Addr} {sl17:Array (Option Value)} {oc17 kV17 dc17 pm17 cd17 ct17:Value}
  {f18:Addr} {od18 an18:Option Addr} {sl18:Array (Option Value)} {oc18 kV18 dc18 pm18 cd18 ct18:Value}
  {f19:Addr} {od19 an19:Option Addr} {sl19:Array (Option Value)} {oc19 kV19 dc19 pm19 cd19 ct19:Value}
  {f20:Addr} {od20 an20:Option Addr} {sl20:Array (Option Value)} {oc20 kV20 dc20 pm20 cd20 ct20:Value}
  {f21:Addr} {od21 an21:Option Addr} {sl21:Array (Option Value)} {oc21 kV21 dc21 pm21 cd21 ct21:Value}
  {f22:Addr} {od22 an22:Option Addr} {sl22:Array (Option Value)} {oc22 kV22 dc22 pm22 cd22 ct22:Value}
  {f23:Addr} {od23 an23:Option Addr} {sl23:Array (Option Value)} {oc23 kV23 dc23 pm23 cd23 ct23:Value}
  {f24:Addr} {od24 an24:Option Addr} {sl24:Array (Option Value)} {oc24 kV24 dc24 pm24 cd24 ct24:Value}
  {f25:Addr} {od25 an25:Option Addr} {sl25:Array (Option Value)} {oc25 kV25 dc25 pm25 cd25 ct25:Value}
  {f26:Addr} {od26 an26:Option Addr} {sl26:Array (Option Value)} {oc26 kV26 dc26 pm26 cd26 ct26:Value}
  {f27:Addr} {od27 an27:Option Addr} {sl27:Array (Option Value)} {oc27 kV27 dc27 pm27 cd27 ct27:Value}
  {f28:Addr} {od28 an28:Option Addr} {sl28:Array (Option Value)} {oc28 kV28 dc28 pm28 cd28 ct28:Value}
  {f29:Addr} {od29 an29:Option Addr} {sl29:Array (Option Value)} {oc29 kV29 dc29 pm29 cd29 ct29:Value}
  {f30:Addr} {od30 an30:Option Addr} {sl30:Array (Option Value)} {oc30 kV30 dc30 pm30 cd30 ct30:Value}
  {f31:Addr} {od31 an31:Option Addr} {sl31:Array (Option Value)} {oc31 kV31 dc31 pm31 cd31 ct31:Value}
  {f32:Addr} {od32 an32:Option Addr} {sl32:Array (Option Value)} {oc32 kV32 dc32 pm32 cd32 ct32:Value}
  {f33:Addr} {od33 an33:Option Addr} {sl33:Array (Option Value)} {oc33 kV33 dc33 pm33 cd33 ct33:Value}
  {f34:Addr} {od34 an34:Option Addr} {sl34:Array (Option Value)} {oc34 kV34 dc34 pm34 cd34 ct34:Value}
  {f35:Addr} {od35 an35:Option Addr} {sl35:Array (Option Value)} {oc35 kV35 dc35 pm35 cd35 ct35:Value}
  {f36:Addr} {od36 an36:Option Addr} {sl36:Array (Option Value)} {oc36 kV36 dc36 pm36 cd36 ct36:Value}
  {f37:Addr} {od37 an37:Option Addr} {sl37:Array (Option Value)} {oc37 kV37 dc37 pm37 cd37 ct37:Value}
  {f38:Addr} {od38 an38:Option Addr} {sl38:Array (Option Value)} {oc38 kV38 dc38 pm38 cd38 ct38:Value}
  {f39:Addr} {od39 an39:Option Addr} {sl39:Array (Option Value)} {oc39 kV39 dc39 pm39 cd39 ct39:Value}
  {f40:Addr} {od40 an40:Option Addr} {sl40:Array (Option Value)} {oc40 kV40 dc40 pm40 cd40 ct40:Value}
  {f41:Addr} {od41 an41:Option Addr} {sl41:Array (Option Value)} {oc41 kV41 dc41 pm41 cd41 ct41:Value}
  {f42:Addr} {od42 an42:Option Addr} {sl42:Array (Option Value)} {oc42 kV42 dc42 pm42 cd42 ct42:Value}
  {f43:Addr} {od43 an43:Option Addr} {sl43:Array (Option Value)} {oc43 kV43 dc43 pm43 cd43 ct43:Value}
  {f44:Addr} {od44 an44:Option Addr} {sl44:Array (Option Value)} {oc44 kV44 dc44 pm44 cd44 ct44:Value}
  {f45:Addr} {od45 an45:Option Addr} {sl45:Array (Option Value)} {oc45 kV45 dc45 pm45 cd45 ct45:Value}
  {f46:Addr} {od46 an46:Option Addr} {sl46:Array (Option Value)} {oc46 kV46 dc46 pm46 cd46 ct46:Value}
  {f47:Addr} {od47 an47:Option Addr} {sl47:Array (Option Value)} {oc47 kV47 dc47 pm47 cd47 ct47:Value}
  {f48:Addr} {od48 an48:Option Addr} {sl48:Array (Option Value)} {oc48 kV48 dc48 pm48 cd48 ct48:Value}
  {f49:Addr} {od49 an49:Option Addr} {sl49:Array (Option Value)} {oc49 kV49 dc49 pm49 cd49 ct49:Value}
  {f50:Addr} {od50 an50:Option Addr} {sl50:Array (Option Value)} {oc50 kV50 dc50 pm50 cd50 ct50:Value}
  {f51:Addr} {od51 an51:Option Addr} {sl51:Array (Option Value)} {oc51 kV51 dc51 pm51 cd51 ct51:Value}
  {f52:Addr} {od52 an52:Option Addr} {sl52:Array (Option Value)} {oc52 kV52 dc52 pm52 cd52 ct52:Value}
  {f53:Addr} {od53 an53:Option Addr} {sl53:Array (Option Value)} {oc53 kV53 dc53 pm53 cd53 ct53:Value}
  {f54:Addr} {od54 an54:Option Addr} {sl54:Array (Option Value)} {oc54 kV54 dc54 pm54 cd54 ct54:Value}
  {f55:Addr} {od55 an55:Option Addr} {sl55:Array (Option Value)} {oc55 kV55 dc55 pm55 cd55 ct55:Value}
  {f56:Addr} {od56 an56:Option Addr} {sl56:Array (Option Value)} {oc56 kV56 dc56 pm56 cd56 ct56:Value}
  {f57:Addr} {od57 an57:Option Addr} {sl57:Array (Option Value)} {oc57 kV57 dc57 pm57 cd57 ct57:Value}
  {f58:Addr} {od58 an58:Option Addr} {sl58:Array (Option Value)} {oc58 kV58 dc58 pm58 cd58 ct58:Value}
  {f59:Addr} {od59 an59:Option Addr} {sl59:Array (Option Value)} {oc59 kV59 dc59 pm59 cd59 ct59:Value}
  {f60:Addr} {od60 an60:Option Addr} {sl60:Array (Option Value)} {oc60 kV60 dc60 pm60 cd60 ct60:Value}
  {f61:Addr} {od61 an61:Option Addr} {sl61:Array (Option Value)} {oc61 kV61 dc61 pm61 cd61 ct61:Value}
  {f62:Addr} {od62 an62:Option Addr} {sl62:Array (Option Value)} {oc62 kV62 dc62 pm62 cd62 ct62:Value}
  {f63:Addr} {od63 an63:Option Addr} {sl63:Array (Option Value)} {oc63 kV63 dc63 pm63 cd63 ct63:Value}
  {Ab:Addr}
  {Ad:Addr}
  {Aa:Addr}
  {Ae:Addr}
  {S7:Addr}
  {Mw:Addr}
  {t_SIGNS:Tok}
  {t_MOST_NUMBER:Tok}
  {t_MOST_SIGNS:Tok}
  {t_MOST_PARTS:Tok}
  {t_MOST_DEEP:Tok}
  {t_NUMBER_WORD:Tok}
  {t_TEXT_WORD:Tok}
  {t_TUPLE_WORD:Tok}
  {t_PIECE:Tok}
  {t_ROW:Tok}
  {t_FOLDER:Tok}
  {t_FILE_ENTRY:Tok}
  {t_FOLDER_ENTRY:Tok}
  {t_NAME_SIGNS:Tok}
  {t_MOST_NAME_SIGNS:Tok}
  {t_MOST_CELL:Tok}
  {t_MOST_BIRTH:Tok}
  {t_SUM_RESTS:Tok}
  {t_MOST_PIECE_SIGNS:Tok}
  {t_MOST_LEVEL:Tok}
  {t_MOST_TAGS:Tok}
  {t_MOST_ENTRIES:Tok}
  {t_MOST_IN_ONE:Tok}
  {t_LEAST_BOARDS:Tok}
  {t_MOST_BOARDS:Tok}
  {t_MARK_RESTS:Tok}
  (a0:W.nsIn K mainGlobals "is_whole"=some (some (.ref f0))) (l0:K.lookup f0=some ⟨oc0,od0,.func (W.fnOf "is_whole" "is_whole" (Ap DI) (Ao DI) (Ai DI) .none kV0 dc0 pm0 an0 cd0 ct0),sl0⟩) (c0:W.codeIn K cd0 "is_whole"=true) (k0:W.keepIn K (.ref f0)=true)
  (a1:W.nsIn K mainGlobals "is_between"=some (some (.ref f1))) (l1:K.lookup f1=some ⟨oc1,od1,.func (W.fnOf "is_between" "is_between" (Ap CQ) (Ao CQ) (Ai CQ) .none kV1 dc1 pm1 an1 cd1 ct1),sl1⟩) (c1:W.codeIn K cd1 "is_between"=true) (k1:W.keepIn K (.ref f1)=true)
  (a2:W.nsIn K mainGlobals "is_tuple_of"=some (some (.ref f2))) (l2:K.lookup f2=some ⟨oc2,od2,.func (W.fnOf "is_tuple_of" "is_tuple_of" (Ap Cg) (Ao Cg) (Ai Cg) .none kV2 dc2 pm2 an2 cd2 ct2),sl2⟩) (c2:W.codeIn K cd2 "is_tuple_of"=true) (k2:W.keepIn K (.ref f2)=true)
  (a3:W.nsIn K mainGlobals "number_of"=some (some (.ref f3))) (l3:K.lookup f3=some ⟨oc3,od3,.func (W.fnOf "number_of" "number_of" (Ap Dj) (Ao Dj) (Ai Dj) .none kV3 dc3 pm3 an3 cd3 ct3),sl3⟩) (c3:W.codeIn K cd3 "number_of"=true) (k3:W.keepIn K (.ref f3)=true)
  (a4:W.nsIn K mainGlobals "sign_of"=some (some (.ref f4))) (l4:K.lookup f4=some ⟨oc4,od4,.func (W.fnOf "sign_of" "sign_of" (Ap Ew) (Ao Ew) (Ai Ew) .none kV4 dc4 pm4 an4 cd4 ct4),sl4⟩) (c4:W.codeIn K cd4 "sign_of"=true) (k4:W.keepIn K (.ref f4)=true)
  (a5:W.nsIn K mainGlobals "is_text"=some (some (.ref f5))) (l5:K.lookup f5=some ⟨oc5,od5,.func (W.fnOf "is_text" "is_text" (Ap ED) (Ao ED) (Ai ED) .none kV5 dc5 pm5 an5 cd5 ct5),sl5⟩) (c5:W.codeIn K cd5 "is_text"=true) (k5:W.keepIn K (.ref f5)=true)
  (a6:W.nsIn K mainGlobals "words_of"=some (some (.ref f6))) (l6:K.lookup f6=some ⟨oc6,od6,.func (W.fnOf "words_of" "words_of" (Ap CD) (Ao CD) (Ai CD) .none kV6 dc6 pm6 an6 cd6 ct6),sl6⟩) (c6:W.codeIn K cd6 "words_of"=true) (k6:W.keepIn K (.ref f6)=true)
  (a7:W.nsIn K mainGlobals "thing_of"=some (some (.ref f7))) (l7:K.lookup f7=some ⟨oc7,od7,.func (W.fnOf "thing_of" "thing_of" (Ap DN) (Ao DN) (Ai DN) .none kV7 dc7 pm7 an7 cd7 ct7),sl7⟩) (c7:W.codeIn K cd7 "thing_of"=true) (k7:W.keepIn K (.ref f7)=true)
  (a8:W.findIn K (.ref Ab) "__init__"=some (some (.ref f8))) (i8:W.isFn K (.ref f8)=true) (l8:K.lookup f8=some ⟨oc8,od8,.func (W.fnOf "__init__" "WordReader.__init__" (Ap Bn) (Ao Bn) (Ai Bn) .none kV8 dc8 pm8 an8 cd8 ct8),sl8⟩) (c8:W.codeIn K cd8 "WordReader.__init__"=true) (k8:W.keepIn K (.ref f8)=true)
  (a9:W.findIn K (.ref Ab) "is_through"=some (some (.ref f9))) (i9:W.isFn K (.ref f9)=true) (l9:K.lookup f9=some ⟨oc9,od9,.func (W.fnOf "is_through" "WordReader.is_through" (Ap AO) (Ao AO) (Ai AO) .none kV9 dc9 pm9 an9 cd9 ct9),sl9⟩) (c9:W.codeIn K cd9 "WordReader.is_through"=true) (k9:W.keepIn K (.ref f9)=true)
  (a10:W.findIn K (.ref Ab) "word_to"=some (some (.ref f10))) (i10:W.isFn K (.ref f10)=true) (l10:K.lookup f10=some ⟨oc10,od10,.func (W.fnOf "word_to" "WordReader.word_to" (Ap A5) (Ao A5) (Ai A5) .none kV10 dc10 pm10 an10 cd10 ct10),sl10⟩) (c10:W.codeIn K cd10 "WordReader.word_to"=true) (k10:W.keepIn K (.ref f10)=true)
  (a11:W.nsIn K mainGlobals "read_thing"=some (some (.ref f11))) (l11:K.lookup f11=some ⟨oc11,od11,.func (W.fnOf "read_thing" "read_thing" (Ap BG) (Ao BG) (Ai BG) .none kV11 dc11 pm11 an11 cd11 ct11),sl11⟩) (c11:W.codeIn K cd11 "read_thing"=true) (k11:W.keepIn K (.ref f11)=true)
  (a12:W.nsIn K mainGlobals "read_text"=some (some (.ref f12))) (l12:K.lookup f12=some ⟨oc12,od12,.func (W.fnOf "read_text" "read_text" (Ap Dd) (Ao Dd) (Ai Dd) .none kV12 dc12 pm12 an12 cd12 ct12),sl12⟩) (c12:W.codeIn K cd12 "read_text"=true) (k12:W.keepIn K (.ref f12)=true)
  (a13:W.nsIn K mainGlobals "is_name"=some (some (.ref f13))) (l13:K.lookup f13=some ⟨oc13,od13,.func (W.fnOf "is_name" "is_name" (Ap Ey) (Ao Ey) (Ai Ey) .none kV13 dc13 pm13 an13 cd13 ct13),sl13⟩) (c13:W.codeIn K cd13 "is_name"=true) (k13:W.keepIn K (.ref f13)=true)
  (a14:W.nsIn K mainGlobals "is_tag"=some (some (.ref f14))) (l14:K.lookup f14=some ⟨oc14,od14,.func (W.fnOf "is_tag" "is_tag" (Ap Gf) (Ao Gf) (Ai Gf) .none kV14 dc14 pm14 an14 cd14 ct14),sl14⟩) (c14:W.codeIn K cd14 "is_tag"=true) (k14:W.keepIn K (.ref f14)=true)
  (a15:W.nsIn K mainGlobals "is_block"=some (some (.ref f15))) (l15:K.lookup f15=some ⟨oc15,od15,.func (W.fnOf "is_block" "is_block" (Ap DP) (Ao DP) (Ai DP) .none kV15 dc15 pm15 an15 cd15 ct15),sl15⟩) (c15:W.codeIn K cd15 "is_block"=true) (k15:W.keepIn K (.ref f15)=true)
  (a16:W.nsIn K mainGlobals "are_row_tags"=some (some (.ref f16))) (l16:K.lookup f16=some ⟨oc16,od16,.func (W.fnOf "are_row_tags" "are_row_tags" (Ap BP) (Ao BP) (Ai BP) .none kV16 dc16 pm16 an16 cd16 ct16),sl16⟩) (c16:W.codeIn K cd16 "are_row_tags"=true) (k16:W.keepIn K (.ref f16)=true)
  (a17:W.nsIn K mainGlobals "are_entries"=some (some (.ref f17))) (l17:K.lookup f17=some ⟨oc17,od17,.func (W.fnOf "are_entries" "are_entries" (Ap Cf) (Ao Cf) (Ai Cf) .none kV17 dc17 pm17 an17 cd17 ct17),sl17⟩) (c17:W.codeIn K cd17 "are_entries"=true) (k17:W.keepIn K (.ref f17)=true)
  (a18:W.nsIn K mainGlobals "is_entry"=some (some (.ref f18))) (l18:K.lookup f18=some ⟨oc18,od18,.func (W.fnOf "is_entry" "is_entry" (Ap DK) (Ao DK) (Ai DK) .none kV18 dc18 pm18 an18 cd18 ct18),sl18⟩) (c18:W.codeIn K cd18 "is_entry"=true) (k18:W.keepIn K (.ref f18)=true)
  (a19:W.nsIn K mainGlobals "sum_of"=some (some (.ref f19))) (l19:K.lookup f19=some ⟨oc19,od19,.func (W.fnOf "sum_of" "sum_of" (Ap FY) (Ao FY) (Ai FY) .none kV19 dc19 pm19 an19 cd19 ct19),sl19⟩) (c19:W.codeIn K cd19 "sum_of"=true) (k19:W.keepIn K (.ref f19)=true)
  (a20:W.nsIn K mainGlobals "numbers_told"=some (some (.ref f20))) (l20:K.lookup f20=some ⟨oc20,od20,.func (W.fnOf "numbers_told" "numbers_told" (Ap BN) (Ao BN) (Ai BN) .none kV20 dc20 pm20 an20 cd20 ct20),sl20⟩) (c20:W.codeIn K cd20 "numbers_told"=true) (k20:W.keepIn K (.ref f20)=true)
  (a21:W.nsIn K mainGlobals "size_of"=some (some (.ref f21))) (l21:K.lookup f21=some ⟨oc21,od21,.func (W.fnOf "size_of" "size_of" (Ap EA) (Ao EA) (Ai EA) .none kV21 dc21 pm21 an21 cd21 ct21),sl21⟩) (c21:W.codeIn K cd21 "size_of"=true) (k21:W.keepIn K (.ref f21)=true)
  (a22:W.nsIn K mainGlobals "tags_in"=some (some (.ref f22))) (l22:K.lookup f22=some ⟨oc22,od22,.func (W.fnOf "tags_in" "tags_in" (Ap Ez) (Ao Ez) (Ai Ez) .none kV22 dc22 pm22 an22 cd22 ct22),sl22⟩) (c22:W.codeIn K cd22 "tags_in"=true) (k22:W.keepIn K (.ref f22)=true)
  (a23:W.nsIn K mainGlobals "pieces_of"=some (some (.ref f23))) (l23:K.lookup f23=some ⟨oc23,od23,.func (W.fnOf "pieces_of" "pieces_of" (Ap De) (Ao De) (Ai De) .none kV23 dc23 pm23 an23 cd23 ct23),sl23⟩) (c23:W.codeIn K cd23 "pieces_of"=true) (k23:W.keepIn K (.ref f23)=true)
  (a24:W.nsIn K mainGlobals "is_piece_full"=some (some (.ref f24))) (l24:K.lookup f24=some ⟨oc24,od24,.func (W.fnOf "is_piece_full" "is_piece_full" (Ap BC) (Ao BC) (Ai BC) .none kV24 dc24 pm24 an24 cd24 ct24),sl24⟩) (c24:W.codeIn K cd24 "is_piece_full"=true) (k24:W.keepIn K (.ref f24)=true)
  (a25:W.nsIn K mainGlobals "groups_of"=some (some (.ref f25))) (l25:K.lookup f25=some ⟨oc25,od25,.func (W.fnOf "groups_of" "groups_of" (Ap Df) (Ao Df) (Ai Df) .none kV25 dc25 pm25 an25 cd25 ct25),sl25⟩) (c25:W.codeIn K cd25 "groups_of"=true) (k25:W.keepIn K (.ref f25)=true)
  (a26:W.nsIn K mainGlobals "put_content"=some (some (.ref f26))) (l26:K.lookup f26=some ⟨oc26,od26,.func (W.fnOf "put_content" "put_content" (Ap Ci) (Ao Ci) (Ai Ci) .none kV26 dc26 pm26 an26 cd26 ct26),sl26⟩) (c26:W.codeIn K cd26 "put_content"=true) (k26:W.keepIn K (.ref f26)=true)
  (a27:W.nsIn K mainGlobals "put_rows"=some (some (.ref f27))) (l27:K.lookup f27=some ⟨oc27,od27,.func (W.fnOf "put_rows" "put_rows" (Ap DD) (Ao DD) (Ai DD) .none kV27 dc27 pm27 an27 cd27 ct27),sl27⟩) (c27:W.codeIn K cd27 "put_rows"=true) (k27:W.keepIn K (.ref f27)=true)
  (a28:W.nsIn K mainGlobals "content_at"=some (some (.ref f28))) (l28:K.lookup f28=some ⟨oc28,od28,.func (W.fnOf "content_at" "content_at" (Ap BF) (Ao BF) (Ai BF) .none kV28 dc28 pm28 an28 cd28 ct28),sl28⟩) (c28:W.codeIn K cd28 "content_at"=true) (k28:W.keepIn K (.ref f28)=true)
  (a29:W.findIn K (.ref Ad) "__init__"=some (some (.ref f29))) (i29:W.isFn K (.ref f29)=true) (l29:K.lookup f29=some ⟨oc29,od29,.func (W.fnOf "__init__" "Boards.__init__" (Ap Ce) (Ao Ce) (Ai Ce) .none kV29 dc29 pm29 an29 cd29 ct29),sl29⟩) (c29:W.codeIn K cd29 "Boards.__init__"=true) (k29:W.keepIn K (.ref f29)=true)
  (a30:W.findIn K (.ref Ad) "many"=some (some (.ref f30))) (i30:W.isFn K (.ref f30)=true) (l30:K.lookup f30=some ⟨oc30,od30,.func (W.fnOf "many" "Boards.many" (Ap Co) (Ao Co) (Ai Co) .none kV30 dc30 pm30 an30 cd30 ct30),sl30⟩) (c30:W.codeIn K cd30 "Boards.many"=true) (k30:W.keepIn K (.ref f30)=true)
  (a31:W.findIn K (.ref Ad) "write"=some (some (.ref f31))) (i31:W.isFn K (.ref f31)=true) (l31:K.lookup f31=some ⟨oc31,od31,.func (W.fnOf "write" "Boards.write" (Ap BL) (Ao BL) (Ai BL) .none kV31 dc31 pm31 an31 cd31 ct31),sl31⟩) (c31:W.codeIn K cd31 "Boards.write"=true) (k31:W.keepIn K (.ref f31)=true)
  (a32:W.findIn K (.ref Ad) "cell"=some (some (.ref f32))) (i32:W.isFn K (.ref f32)=true) (l32:K.lookup f32=some ⟨oc32,od32,.func (W.fnOf "cell" "Boards.cell" (Ap Cj) (Ao Cj) (Ai Cj) .none kV32 dc32 pm32 an32 cd32 ct32),sl32⟩) (c32:W.codeIn K cd32 "Boards.cell"=true) (k32:W.keepIn K (.ref f32)=true)
  (a33:W.findIn K (.ref Ad) "twins"=some (some (.ref f33))) (i33:W.isFn K (.ref f33)=true) (l33:K.lookup f33=some ⟨oc33,od33,.func (W.fnOf "twins" "Boards.twins" (Ap B3) (Ao B3) (Ai B3) .none kV33 dc33 pm33 an33 cd33 ct33),sl33⟩) (c33:W.codeIn K cd33 "Boards.twins"=true) (k33:W.keepIn K (.ref f33)=true)
  (a34:W.findIn K (.ref Ad) "shelf"=some (some (.ref f34))) (i34:W.isFn K (.ref f34)=true) (l34:K.lookup f34=some ⟨oc34,od34,.func (W.fnOf "shelf" "Boards.shelf" (Ap BQ) (Ao BQ) (Ai BQ) .none kV34 dc34 pm34 an34 cd34 ct34),sl34⟩) (c34:W.codeIn K cd34 "Boards.shelf"=true) (k34:W.keepIn K (.ref f34)=true)
  (a35:W.nsIn K mainGlobals "mark_of"=some (some (.ref f35))) (l35:K.lookup f35=some ⟨oc35,od35,.func (W.fnOf "mark_of" "mark_of" (Ap EC) (Ao EC) (Ai EC) .none kV35 dc35 pm35 an35 cd35 ct35),sl35⟩) (c35:W.codeIn K cd35 "mark_of"=true) (k35:W.keepIn K (.ref f35)=true)
  (a36:W.nsIn K mainGlobals "sealed"=some (some (.ref f36))) (l36:K.lookup f36=some ⟨oc36,od36,.func (W.fnOf "sealed" "sealed" (Ap Gd) (Ao Gd) (Ai Gd) .none kV36 dc36 pm36 an36 cd36 ct36),sl36⟩) (c36:W.codeIn K cd36 "sealed"=true) (k36:W.keepIn K (.ref f36)=true)
  (a37:W.nsIn K mainGlobals "unsealed"=some (some (.ref f37))) (l37:K.lookup f37=some ⟨oc37,od37,.func (W.fnOf "unsealed" "unsealed" (Ap DG) (Ao DG) (Ai DG) .none kV37 dc37 pm37 an37 cd37 ct37),sl37⟩) (c37:W.codeIn K cd37 "unsealed"=true) (k37:W.keepIn K (.ref f37)=true)
  (a38:W.nsIn K mainGlobals "lay"=some (some (.ref f38))) (l38:K.lookup f38=some ⟨oc38,od38,.func (W.fnOf "lay" "lay" (Ap Mp) (Ao Mp) (Ai Mp) .none kV38 dc38 pm38 an38 cd38 ct38),sl38⟩) (c38:W.codeIn K cd38 "lay"=true) (k38:W.keepIn K (.ref f38)=true)
  (a39:W.nsIn K mainGlobals "fetched"=some (some (.ref f39))) (l39:K.lookup f39=some ⟨oc39,od39,.func (W.fnOf "fetched" "fetched" (Ap EH) (Ao EH) (Ai EH) .none kV39 dc39 pm39 an39 cd39 ct39),sl39⟩) (c39:W.codeIn K cd39 "fetched"=true) (k39:W.keepIn K (.ref f39)=true)
  (a40:W.nsIn K mainGlobals "block_on"=some (some (.ref f40))) (l40:K.lookup f40=some ⟨oc40,od40,.func (W.fnOf "block_on" "block_on" (Ap DO) (Ao DO) (Ai DO) .none kV40 dc40 pm40 an40 cd40 ct40),sl40⟩) (c40:W.codeIn K cd40 "block_on"=true) (k40:W.keepIn K (.ref f40)=true)
  (a41:W.nsIn K mainGlobals "thing_on"=some (some (.ref f41))) (l41:K.lookup f41=some ⟨oc41,od41,.func (W.fnOf "thing_on" "thing_on" (Ap DC) (Ao DC) (Ai DC) .none kV41 dc41 pm41 an41 cd41 ct41),sl41⟩) (c41:W.codeIn K cd41 "thing_on"=true) (k41:W.keepIn K (.ref f41)=true)
  (a42:W.findIn K (.ref Aa) "__init__"=some (some (.ref f42))) (i42:W.isFn K (.ref f42)=true) (l42:K.lookup f42=some ⟨oc42,od42,.func (W.fnOf "__init__" "TakenCell.__init__" (Ap Bw) (Ao Bw) (Ai Bw) .none kV42 dc42 pm42 an42 cd42 ct42),sl42⟩) (c42:W.codeIn K cd42 "TakenCell.__init__"=true) (k42:W.keepIn K (.ref f42)=true)
  (a43:W.findIn K (.ref Ae) "__init__"=some (some (.ref f43))) (i43:W.isFn K (.ref f43)=true) (l43:K.lookup f43=some ⟨oc43,od43,.func (W.fnOf "__init__" "Pool.__init__" (Ap Dh) (Ao Dh) (Ai Dh) .none kV43 dc43 pm43 an43 cd43 ct43),sl43⟩) (c43:W.codeIn K cd43 "Pool.__init__"=true) (k43:W.keepIn K (.ref f43)=true)
  (a44:W.findIn K (.ref Ae) "put"=some (some (.ref f44))) (i44:W.isFn K (.ref f44)=true) (l44:K.lookup f44=some ⟨oc44,od44,.func (W.fnOf "put" "Pool.put" (Ap DF) (Ao DF) (Ai DF) .none kV44 dc44 pm44 an44 cd44 ct44),sl44⟩) (c44:W.codeIn K cd44 "Pool.put"=true) (k44:W.keepIn K (.ref f44)=true)
  (a45:W.findIn K (.ref Ae) "alike"=some (some (.ref f45))) (i45:W.isFn K (.ref f45)=true) (l45:K.lookup f45=some ⟨oc45,od45,.func (W.fnOf "alike" "Pool.alike" (Ap CM) (Ao CM) (Ai CM) .none kV45 dc45 pm45 an45 cd45 ct45),sl45⟩) (c45:W.codeIn K cd45 "Pool.alike"=true) (k45:W.keepIn K (.ref f45)=true)
  (a46:W.findIn K (.ref Ae) "free_number"=some (some (.ref f46))) (i46:W.isFn K (.ref f46)=true) (l46:K.lookup f46=some ⟨oc46,od46,.func (W.fnOf "free_number" "Pool.free_number" (Ap Be) (Ao Be) (Ai Be) .none kV46 dc46 pm46 an46 cd46 ct46),sl46⟩) (c46:W.codeIn K cd46 "Pool.free_number"=true) (k46:W.keepIn K (.ref f46)=true)
  (a47:W.findIn K (.ref Ae) "take"=some (some (.ref f47))) (i47:W.isFn K (.ref f47)=true) (l47:K.lookup f47=some ⟨oc47,od47,.func (W.fnOf "take" "Pool.take" (Ap Dc) (Ao Dc) (Ai Dc) .none kV47 dc47 pm47 an47 cd47 ct47),sl47⟩) (c47:W.codeIn K cd47 "Pool.take"=true) (k47:W.keepIn K (.ref f47)=true)
  (a48:W.findIn K (.ref Ae) "entries_of"=some (some (.ref f48))) (i48:W.isFn K (.ref f48)=true) (l48:K.lookup f48=some ⟨oc48,od48,.func (W.fnOf "entries_of" "Pool.entries_of" (Ap Bl) (Ao Bl) (Ai Bl) .none kV48 dc48 pm48 an48 cd48 ct48),sl48⟩) (c48:W.codeIn K cd48 "Pool.entries_of"=true) (k48:W.keepIn K (.ref f48)=true)
  (a49:W.findIn K (.ref Ae) "steps_of"=some (some (.ref f49))) (i49:W.isFn K (.ref f49)=true) (l49:K.lookup f49=some ⟨oc49,od49,.func (W.fnOf "steps_of" "Pool.steps_of" (Ap BD) (Ao BD) (Ai BD) .none kV49 dc49 pm49 an49 cd49 ct49),sl49⟩) (c49:W.codeIn K cd49 "Pool.steps_of"=true) (k49:W.keepIn K (.ref f49)=true)
  (a50:W.findIn K (.ref Ae) "block"=some (some (.ref f50))) (i50:W.isFn K (.ref f50)=true) (l50:K.lookup f50=some ⟨oc50,od50,.func (W.fnOf "block" "Pool.block" (Ap CU) (Ao CU) (Ai CU) .none kV50 dc50 pm50 an50 cd50 ct50),sl50⟩) (c50:W.codeIn K cd50 "Pool.block"=true) (k50:W.keepIn K (.ref f50)=true)
  (a51:W.findIn K (.ref Ae) "hold"=some (some (.ref f51))) (i51:W.isFn K (.ref f51)=true) (l51:K.lookup f51=some ⟨oc51,od51,.func (W.fnOf "hold" "Pool.hold" (Ap Dg) (Ao Dg) (Ai Dg) .none kV51 dc51 pm51 an51 cd51 ct51),sl51⟩) (c51:W.codeIn K cd51 "Pool.hold"=true) (k51:W.keepIn K (.ref f51)=true)
  (a52:W.findIn K (.ref Ae) "sweep"=some (some (.ref f52))) (i52:W.isFn K (.ref f52)=true) (l52:K.lookup f52=some ⟨oc52,od52,.func (W.fnOf "sweep" "Pool.sweep" (Ap CN) (Ao CN) (Ai CN) .none kV52 dc52 pm52 an52 cd52 ct52),sl52⟩) (c52:W.codeIn K cd52 "Pool.sweep"=true) (k52:W.keepIn K (.ref f52)=true)
  (a53:W.findIn K (.ref Ae) "lay_draft"=some (some (.ref f53))) (i53:W.isFn K (.ref f53)=true) (l53:K.lookup f53=some ⟨oc53,od53,.func (W.fnOf "lay_draft" "Pool.lay_draft" (Ap Bv) (Ao Bv) (Ai Bv) .none kV53 dc53 pm53 an53 cd53 ct53),sl53⟩) (c53:W.codeIn K cd53 "Pool.lay_draft"=true) (k53:W.keepIn K (.ref f53)=true)
  (a54:W.findIn K (.ref Ae) "numbers"=some (some (.ref f54))) (i54:W.isFn K (.ref f54)=true) (l54:K.lookup f54=some ⟨oc54,od54,.func (W.fnOf "numbers" "Pool.numbers" (Ap B2) (Ao B2) (Ai B2) .none kV54 dc54 pm54 an54 cd54 ct54),sl54⟩) (c54:W.codeIn K cd54 "Pool.numbers"=true) (k54:W.keepIn K (.ref f54)=true)
  (a55:W.findIn K (.ref Ae) "tag"=some (some (.ref f55))) (i55:W.isFn K (.ref f55)=true) (l55:K.lookup f55=some ⟨oc55,od55,.func (W.fnOf "tag" "Pool.tag" (Ap DV) (Ao DV) (Ai DV) .none kV55 dc55 pm55 an55 cd55 ct55),sl55⟩) (c55:W.codeIn K cd55 "Pool.tag"=true) (k55:W.keepIn K (.ref f55)=true)
  (a56:W.findIn K (.ref Ae) "count"=some (some (.ref f56))) (i56:W.isFn K (.ref f56)=true) (l56:K.lookup f56=some ⟨oc56,od56,.func (W.fnOf "count" "Pool.count" (Ap CO) (Ao CO) (Ai CO) .none kV56 dc56 pm56 an56 cd56 ct56),sl56⟩) (c56:W.codeIn K cd56 "Pool.count"=true) (k56:W.keepIn K (.ref f56)=true)
  (a57:W.findIn K (.ref Ae) "entries"=some (some (.ref f57))) (i57:W.isFn K (.ref f57)=true) (l57:K.lookup f57=some ⟨oc57,od57,.func (W.fnOf "entries" "Pool.entries" (Ap BO) (Ao BO) (Ai BO) .none kV57 dc57 pm57 an57 cd57 ct57),sl57⟩) (c57:W.codeIn K cd57 "Pool.entries"=true) (k57:W.keepIn K (.ref f57)=true)
  (a58:W.findIn K (.ref Ae) "deep"=some (some (.ref f58))) (i58:W.isFn K (.ref f58)=true) (l58:K.lookup f58=some ⟨oc58,od58,.func (W.fnOf "deep" "Pool.deep" (Ap C8) (Ao C8) (Ai C8) .none kV58 dc58 pm58 an58 cd58 ct58),sl58⟩) (c58:W.codeIn K cd58 "Pool.deep"=true) (k58:W.keepIn K (.ref f58)=true)
  (a59:W.nsIn K mainGlobals "_law_cell_at"=some (some (.ref f59))) (l59:K.lookup f59=some ⟨oc59,od59,.func (W.fnOf "_law_cell_at" "_law_cell_at" (Ap BX) (Ao BX) (Ai BX) .none kV59 dc59 pm59 an59 cd59 ct59),sl59⟩) (c59:W.codeIn K cd59 "_law_cell_at"=true) (k59:W.keepIn K (.ref f59)=true)
  (a60:W.nsIn K mainGlobals "_law_row"=some (some (.ref f60))) (l60:K.lookup f60=some ⟨oc60,od60,.func (W.fnOf "_law_row" "_law_row" (Ap DL) (Ao DL) (Ai DL) .none kV60 dc60 pm60 an60 cd60 ct60),sl60⟩) (c60:W.codeIn K cd60 "_law_row"=true) (k60:W.keepIn K (.ref f60)=true)
  (a61:W.nsIn K mainGlobals "_law_text"=some (some (.ref f61))) (l61:K.lookup f61=some ⟨oc61,od61,.func (W.fnOf "_law_text" "_law_text" (Ap Da) (Ao Da) (Ai Da) .none kV61 dc61 pm61 an61 cd61 ct61),sl61⟩) (c61:W.codeIn K cd61 "_law_text"=true) (k61:W.keepIn K (.ref f61)=true)
  (a62:W.nsIn K mainGlobals "_law_content"=some (some (.ref f62))) (l62:K.lookup f62=some ⟨oc62,od62,.func (W.fnOf "_law_content" "_law_content" (Ap BR) (Ao BR) (Ai BR) .none kV62 dc62 pm62 an62 cd62 ct62),sl62⟩) (c62:W.codeIn K cd62 "_law_content"=true) (k62:W.keepIn K (.ref f62)=true)
  (a63:W.nsIn K mainGlobals "law"=some (some (.ref f63))) (l63:K.lookup f63=some ⟨oc63,od63,.func (W.fnOf "law" "law" (Ap Jh) (Ao Jh) (Ai Jh) .none kV63 dc63 pm63 an63 cd63 ct63),sl63⟩) (c63:W.codeIn K cd63 "law"=true) (k63:W.keepIn K (.ref f63)=true)
  (FQ:W.nsIn K mainGlobals "WordReader"=some (some (.ref Ab))) (FN:W.plainGet K Ab Str.empty=true) (FD:W.hasDictIn K Ab=true) (FO:W.plainOver K Ab=true) (FP:W.findIn K (.ref Ab) "__setattr__"=some (some (.builtin "object.__setattr__"))) (FS:W.makesIn K Ab=true) (Fw:W.keepIn K (.ref Ab)=true)
  (n_WordReader_words:W.findIn K (.ref Ab) "words"=some none)
  (n_WordReader_place:W.findIn K (.ref Ab) "place"=some none)
  (Jv:W.nsIn K mainGlobals "Boards"=some (some (.ref Ad))) (JE:W.plainGet K Ad Str.empty=true) (JC:W.hasDictIn K Ad=true) (JR:W.plainOver K Ad=true) (Jo:W.findIn K (.ref Ad) "__setattr__"=some (some (.builtin "object.__setattr__"))) (JK:W.makesIn K Ad=true) (Ju:W.keepIn K (.ref Ad)=true)
  (n_Boards_shelves:W.findIn K (.ref Ad) "shelves"=some none)
  (n_Boards_writes:W.findIn K (.ref Ad) "writes"=some none)
  (n_Boards_writes_left:W.findIn K (.ref Ad) "writes_left"=some none)
  (GV:W.nsIn K mainGlobals "TakenCell"=some (some (.ref Aa))) (GN:W.plainGet K Aa Str.empty=true) (Gq:W.hasDictIn K Aa=true) (Gr:W.plainOver K Aa=true) (GI:W.findIn K (.ref Aa) "__setattr__"=some (some (.builtin "object.__setattr__"))) (GB:W.makesIn K Aa=true) (GT:W.keepIn K (.ref Aa)=true)
  (n_TakenCell_own_tag:W.findIn K (.ref Aa) "own_tag"=some none)
  (n_TakenCell_own_size:W.findIn K (.ref Aa) "own_size"=some none)
  (n_TakenCell_named:W.findIn K (.ref Aa) "named"=some none)
  (n_TakenCell_times_named:W.findIn K (.ref Aa) "times_named"=some none)
  (n_TakenCell_entries_beneath:W.findIn K (.ref Aa) "entries_beneath"=some none)
  (n_TakenCell_steps_beneath:W.findIn K (.ref Aa) "steps_beneath"=some none)
  (Ny:W.nsIn K mainGlobals "Pool"=some (some (.ref Ae))) (ME:W.plainGet K Ae Str.empty=true) (Nq:W.hasDictIn K Ae=true) (MG:W.plainOver K Ae=true) (MW:W.findIn K (.ref Ae) "__setattr__"=some (some (.builtin "object.__setattr__"))) (Ni:W.makesIn K Ae=true) (NJ:W.keepIn K (.ref Ae)=true)
  (n_Pool_boards:W.findIn K (.ref Ae) "boards"=some none)
  (n_Pool_taken:W.findIn K (.ref Ae) "taken"=some none)
  (n_Pool_by_sums:W.findIn K (.ref Ae) "by_sums"=some none)
  (n_Pool_draft:W.findIn K (.ref Ae) "draft"=some none)
  (n_Pool_first_maybe_free:W.findIn K (.ref Ae) "first_maybe_free"=some none)
  (x_Lost:W.nsIn K mainGlobals "Lost"=some (some (.ref S7)))
  (x_NoThing:W.nsIn K mainGlobals "NoThing"=some (some (.ref Mw)))
  (T7:W.nsIn K mainGlobals "abs"=some none)
  (Sm:W.nsIn K mainGlobals "all"=some none)
  (Pf:W.nsIn K mainGlobals "bool"=some none)
  (Hx:W.nsIn K mainGlobals "enumerate"=some none)
  (SN:W.nsIn K mainGlobals "int"=some none)
  (GU:W.nsIn K mainGlobals "isinstance"=some none)
  (RX:W.nsIn K mainGlobals "len"=some none)
  (PY:W.nsIn K mainGlobals "list"=some none)
  (Th:W.nsIn K mainGlobals "max"=some none)
  (MZ:W.nsIn K mainGlobals "range"=some none)
  (TN:W.nsIn K mainGlobals "set"=some none)
  (Ls:W.nsIn K mainGlobals "sorted"=some none)
  (S4:W.nsIn K mainGlobals "str"=some none)
  (SH:W.nsIn K mainGlobals "sum"=some none)
  (Nb:W.nsIn K mainGlobals "tuple"=some none)
  (ND:W.nsIn K mainGlobals "SIGNS"=some (some (.str (PySem.Str.ofString " !\"#$&'()*+,-./0123456789:;<=>?@ABCDEFGHIJKLMNOPQRSTUVWXYZ[\\]^_`abcdefghijklmnopqrstuvwxyz{|}~") t_SIGNS)))
  (Fz:W.nsIn K mainGlobals "MOST_NUMBER"=some (some (.int 999999999 t_MOST_NUMBER)))
  (Gh:W.nsIn K mainGlobals "MOST_SIGNS"=some (some (.int 400 t_MOST_SIGNS)))
  (GP:W.nsIn K mainGlobals "MOST_PARTS"=some (some (.int 100 t_MOST_PARTS)))
  (He:W.nsIn K mainGlobals "MOST_DEEP"=some (some (.int 8 t_MOST_DEEP)))
  (FI:W.nsIn K mainGlobals "NUMBER_WORD"=some (some (.int 0 t_NUMBER_WORD)))
  (HC:W.nsIn K mainGlobals "TEXT_WORD"=some (some (.int 1 t_TEXT_WORD)))
  (Gj:W.nsIn K mainGlobals "TUPLE_WORD"=some (some (.int 2 t_TUPLE_WORD)))
  (MP:W.nsIn K mainGlobals "PIECE"=some (some (.int 0 t_PIECE)))
  (S3:W.nsIn K mainGlobals "ROW"=some (some (.int 1 t_ROW)))
  (KZ:W.nsIn K mainGlobals "FOLDER"=some (some (.int 2 t_FOLDER)))
  (GH:W.nsIn K mainGlobals "FILE_ENTRY"=some (some (.int 1 t_FILE_ENTRY)))
  (E2:W.nsIn K mainGlobals "FOLDER_ENTRY"=some (some (.int 2 t_FOLDER_ENTRY)))
  (GQ:W.nsIn K mainGlobals "NAME_SIGNS"=some (some (.str (PySem.Str.ofString "0123456789abcdefghijklmnopqrstuvwxyz") t_NAME_SIGNS)))
  (Dp:W.nsIn K mainGlobals "MOST_NAME_SIGNS"=some (some (.int 8 t_MOST_NAME_SIGNS)))
  (Hh:W.nsIn K mainGlobals "MOST_CELL"=some (some (.int 999999 t_MOST_CELL)))
  (Gv:W.nsIn K mainGlobals "MOST_BIRTH"=some (some (.int 999999999 t_MOST_BIRTH)))
  (G1:W.nsIn K mainGlobals "SUM_RESTS"=some (some (.int 997 t_SUM_RESTS)))
  (C2:W.nsIn K mainGlobals "MOST_PIECE_SIGNS"=some (some (.int 8 t_MOST_PIECE_SIGNS)))
  (GS:W.nsIn K mainGlobals "MOST_LEVEL"=some (some (.int 9 t_MOST_LEVEL)))
  (G3:W.nsIn K mainGlobals "MOST_TAGS"=some (some (.int 8 t_MOST_TAGS)))
  (E5:W.nsIn K mainGlobals "MOST_ENTRIES"=some (some (.int 16 t_MOST_ENTRIES)))
  (FE:W.nsIn K mainGlobals "MOST_IN_ONE"=some (some (.int 8 t_MOST_IN_ONE)))
  (EJ:W.nsIn K mainGlobals "LEAST_BOARDS"=some (some (.int 2 t_LEAST_BOARDS)))
  (FM:W.nsIn K mainGlobals "MOST_BOARDS"=some (some (.int 4 t_MOST_BOARDS)))
  (Gu:W.nsIn K mainGlobals "MARK_RESTS"=some (some (.int 2147483647 t_MARK_RESTS))) :
  ∃fd:FuncData,(∀(s:Shared) (v:Value),BindsTo s fd ⟨[v],[]⟩ [("_law_script",v)])∧∀base:Heap,K.In base→base.Ns mainGlobals mg→FnOk l.prog w K mg base B9 29 fa fd ["_law_script"] (Nz K):=by
 have e:=hfa.symm.trans (W.mg_of X G a63)
 cases e
 have T:Txt K mg Ab Ad Aa Ae (fun n=>match n with|0=>S7|1=>Mw|_=>0):=⟨⟨FN,FD,FO,FP⟩,n_WordReader_words,n_WordReader_place,⟨JE,JC,JR,Jo⟩,n_Boards_shelves,n_Boards_writes,n_Boards_writes_left,⟨GN,Gq,Gr,GI⟩,n_TakenCell_own_tag,n_TakenCell_own_size,n_TakenCell_named,n_TakenCell_times_named,n_TakenCell_entries_beneath,n_TakenCell_steps_beneath,⟨ME,Nq,MG,MW⟩,n_Pool_boards,n_Pool_taken,n_Pool_by_sums,n_Pool_draft,n_Pool_first_maybe_free,W.mg_of X G x_Lost,W.mg_of X G x_NoThing,W.mg_none_of X G T7,W.mg_none_of X G Sm,W.mg_none_of X G Pf,W.mg_none_of X G Hx,W.mg_none_of X G SN,W.mg_none_of X G GU,W.mg_none_of X G RX,W.mg_none_of X G PY,W.mg_none_of X G Th,W.mg_none_of X G MZ,W.mg_none_of X G TN,W.mg_none_of X G Ls,W.mg_none_of X G S4,W.mg_none_of X G SH,W.mg_none_of X G Nb,⟨_,W.mg_of X G ND⟩,⟨_,W.mg_of X G Fz⟩,⟨_,W.mg_of X G Gh⟩,⟨_,W.mg_of X G GP⟩,⟨_,W.mg_of X G He⟩,⟨_,W.mg_of X G FI⟩,⟨_,W.mg_of X G HC⟩,⟨_,W.mg_of X G Gj⟩,⟨_,W.mg_of X G MP⟩,⟨_,W.mg_of X G S3⟩,⟨_,W.mg_of X G KZ⟩,⟨_,W.mg_of X G GH⟩,⟨_,W.mg_of X G E2⟩,⟨_,W.mg_of X G GQ⟩,⟨_,W.mg_of X G Dp⟩,⟨_,W.mg_of X G Hh⟩,⟨_,W.mg_of X G Gv⟩,⟨_,W.mg_of X G G1⟩,⟨_,W.mg_of X G C2⟩,⟨_,W.mg_of X G GS⟩,⟨_,W.mg_of X G G3⟩,⟨_,W.mg_of X G E5⟩,⟨_,W.mg_of X G FE⟩,⟨_,W.mg_of X G EJ⟩,⟨_,W.mg_of X G FM⟩,⟨_,W.mg_of X G Gu⟩⟩
 have F0:=Aw (st:=DI) l0 c0 k0
 have b0:=F0.binds (ps:=["thing"]) fun _ _ _ _ _ _ us hl=>match us,hl with|[_],_=>rfl
 have F1:=Aw (st:=CQ) l1 c1 k1
 have b1:=F1.binds (ps:=["thing","least","most"]) fun _ _ _ _ _ _ us hl=>match us,hl with|[_,_,_],_=>rfl
 have F2:=Aw (st:=Cg) l2 c2 k2
 have b2:=F2.binds (ps:=["thing","many"]) fun _ _ _ _ _ _ us hl=>match us,hl with|[_,_],_=>rfl
 have F3:=Aw (st:=Dj) l3 c3 k3
 have b3:=F3.binds (ps:=["sign"]) fun _ _ _ _ _ _ us hl=>match us,hl with|[_],_=>rfl
 have F4:=Aw (st:=Ew) l4 c4 k4
 have b4:=F4.binds (ps:=["number"]) fun _ _ _ _ _ _ us hl=>match us,hl with|[_],_=>rfl
 have F5:=Aw (st:=ED) l5 c5 k5
 have b5:=F5.binds (ps:=["thing","least","most"]) fun _ _ _ _ _ _ us hl=>match us,hl with|[_,_,_],_=>rfl
 have F6:=Aw (st:=CD) l6 c6 k6
 have b6:=F6.binds (ps:=["thing"]) fun _ _ _ _ _ _ us hl=>match us,hl with|[_],_=>rfl
 have F7:=Aw (st:=DN) l7 c7 k7
 have b7:=F7.binds (ps:=["words"]) fun _ _ _ _ _ _ us hl=>match us,hl with|[_],_=>rfl
 have F8:=Aw (st:=Bn) l8 c8 k8
 have b8:=F8.binds (ps:=["self","words"]) fun _ _ _ _ _ _ us hl=>match us,hl with|[_,_],_=>rfl
 have F9:=Aw (st:=AO) l9 c9 k9
 have b9:=F9.binds (ps:=["self"]) fun _ _ _ _ _ _ us hl=>match us,hl with|[_],_=>rfl
 have F10:=Aw (st:=A5) l10 c10 k10
 have b10:=F10.binds (ps:=["self","most"]) fun _ _ _ _ _ _ us hl=>match us,hl with|[_,_],_=>rfl
 have F11:=Aw (st:=BG) l11 c11 k11
 have b11:=F11.binds (ps:=["reader","deep"]) fun _ _ _ _ _ _ us hl=>match us,hl with|[_,_],_=>rfl
 have F12:=Aw (st:=Dd) l12 c12 k12
 have b12:=F12.binds (ps:=["reader"]) fun _ _ _ _ _ _ us hl=>match us,hl with|[_],_=>rfl
 have F13:=Aw (st:=Ey) l13 c13 k13
 have b13:=F13.binds (ps:=["thing"]) fun _ _ _ _ _ _ us hl=>match us,hl with|[_],_=>rfl
 have F14:=Aw (st:=Gf) l14 c14 k14
 have b14:=F14.binds (ps:=["thing"]) fun _ _ _ _ _ _ us hl=>match us,hl with|[_],_=>rfl
 have F15:=Aw (st:=DP) l15 c15 k15
 have b15:=F15.binds (ps:=["thing"]) fun _ _ _ _ _ _ us hl=>match us,hl with|[_],_=>rfl
 have F16:=Aw (st:=BP) l16 c16 k16
 have b16:=F16.binds (ps:=["thing","level"]) fun _ _ _ _ _ _ us hl=>match us,hl with|[_,_],_=>rfl
 have F17:=Aw (st:=Cf) l17 c17 k17
 have b17:=F17.binds (ps:=["thing"]) fun _ _ _ _ _ _ us hl=>match us,hl with|[_],_=>rfl
 have F18:=Aw (st:=DK) l18 c18 k18
 have b18:=F18.binds (ps:=["thing"]) fun _ _ _ _ _ _ us hl=>match us,hl with|[_],_=>rfl
 have F19:=Aw (st:=FY) l19 c19 k19
 have b19:=F19.binds (ps:=["block"]) fun _ _ _ _ _ _ us hl=>match us,hl with|[_],_=>rfl
 have F20:=Aw (st:=BN) l20 c20 k20
 have b20:=F20.binds (ps:=["block"]) fun _ _ _ _ _ _ us hl=>match us,hl with|[_],_=>rfl
 have F21:=Aw (st:=EA) l21 c21 k21
 have b21:=F21.binds (ps:=["block"]) fun _ _ _ _ _ _ us hl=>match us,hl with|[_],_=>rfl
 have F22:=Aw (st:=Ez) l22 c22 k22
 have b22:=F22.binds (ps:=["block"]) fun _ _ _ _ _ _ us hl=>match us,hl with|[_],_=>rfl
 have F23:=Aw (st:=De) l23 c23 k23
 have b23:=F23.binds (ps:=["content"]) fun _ _ _ _ _ _ us hl=>match us,hl with|[_],_=>rfl
 have F24:=Aw (st:=BC) l24 c24 k24
 have b24:=F24.binds (ps:=["piece"]) fun _ _ _ _ _ _ us hl=>match us,hl with|[_],_=>rfl
 have F25:=Aw (st:=Df) l25 c25 k25
 have b25:=F25.binds (ps:=["sums"]) fun _ _ _ _ _ _ us hl=>match us,hl with|[_],_=>rfl
 have F26:=Aw (st:=Ci) l26 c26 k26
 have b26:=F26.binds (ps:=["pool","content","birth"]) fun _ _ _ _ _ _ us hl=>match us,hl with|[_,_,_],_=>rfl
 have F27:=Aw (st:=DD) l27 c27 k27
 have b27:=F27.binds (ps:=["pool","tags","level","birth"]) fun _ _ _ _ _ _ us hl=>match us,hl with|[_,_,_,_],_=>rfl
 have F28:=Aw (st:=BF) l28 c28 k28
 have b28:=F28.binds (ps:=["pool","tag"]) fun _ _ _ _ _ _ us hl=>match us,hl with|[_,_],_=>rfl
 have F29:=Aw (st:=Ce) l29 c29 k29
 have b29:=F29.binds (ps:=["self","many"]) fun _ _ _ _ _ _ us hl=>match us,hl with|[_,_],_=>rfl
 have F30:=Aw (st:=Co) l30 c30 k30
 have b30:=F30.binds (ps:=["self"]) fun _ _ _ _ _ _ us hl=>match us,hl with|[_],_=>rfl
 have F31:=Aw (st:=BL) l31 c31 k31
 have b31:=F31.binds (ps:=["self","board","number","row"]) fun _ _ _ _ _ _ us hl=>match us,hl with|[_,_,_,_],_=>rfl
 have F32:=Aw (st:=Cj) l32 c32 k32
 have b32:=F32.binds (ps:=["self","board","number"]) fun _ _ _ _ _ _ us hl=>match us,hl with|[_,_,_],_=>rfl
 have F33:=Aw (st:=B3) l33 c33 k33
 have b33:=F33.binds (ps:=["self","number"]) fun _ _ _ _ _ _ us hl=>match us,hl with|[_,_],_=>rfl
 have F34:=Aw (st:=BQ) l34 c34 k34
 have b34:=F34.binds (ps:=["self","board"]) fun _ _ _ _ _ _ us hl=>match us,hl with|[_,_],_=>rfl
 have F35:=Aw (st:=EC) l35 c35 k35
 have b35:=F35.binds (ps:=["words"]) fun _ _ _ _ _ _ us hl=>match us,hl with|[_],_=>rfl
 have F36:=Aw (st:=Gd) l36 c36 k36
 have b36:=F36.binds (ps:=["words"]) fun _ _ _ _ _ _ us hl=>match us,hl with|[_],_=>rfl
 have F37:=Aw (st:=DG) l37 c37 k37
 have b37:=F37.binds (ps:=["row"]) fun _ _ _ _ _ _ us hl=>match us,hl with|[_],_=>rfl
 have F38:=Aw (st:=Mp) l38 c38 k38
 have b38:=F38.binds (ps:=["boards","number","birth","block"]) fun _ _ _ _ _ _ us hl=>match us,hl with|[_,_,_,_],_=>rfl
 have F39:=Aw (st:=EH) l39 c39 k39
 have b39:=F39.binds (ps:=["boards","tag"]) fun _ _ _ _ _ _ us hl=>match us,hl with|[_,_],_=>rfl
 have F40:=Aw (st:=DO) l40 c40 k40
 have b40:=F40.binds (ps:=["boards","board","tag"]) fun _ _ _ _ _ _ us hl=>match us,hl with|[_,_,_],_=>rfl
 have F41:=Aw (st:=DC) l41 c41 k41
 have b41:=F41.binds (ps:=["boards","board","number"]) fun _ _ _ _ _ _ us hl=>match us,hl with|[_,_,_],_=>rfl
 have F42:=Aw (st:=Bw) l42 c42 k42
 have b42:=F42.binds (ps:=["self","own_tag","block"]) fun _ _ _ _ _ _ us hl=>match us,hl with|[_,_,_],_=>rfl
 have F43:=Aw (st:=Dh) l43 c43 k43
 have b43:=F43.binds (ps:=["self","boards"]) fun _ _ _ _ _ _ us hl=>match us,hl with|[_,_],_=>rfl
 have F44:=Aw (st:=DF) l44 c44 k44
 have b44:=F44.binds (ps:=["self","block","birth"]) fun _ _ _ _ _ _ us hl=>match us,hl with|[_,_,_],_=>rfl
 have F45:=Aw (st:=CM) l45 c45 k45
 have b45:=F45.binds (ps:=["self","block"]) fun _ _ _ _ _ _ us hl=>match us,hl with|[_,_],_=>rfl
 have F46:=Aw (st:=Be) l46 c46 k46
 have b46:=F46.binds (ps:=["self"]) fun _ _ _ _ _ _ us hl=>match us,hl with|[_],_=>rfl
 have F47:=Aw (st:=Dc) l47 c47 k47
 have b47:=F47.binds (ps:=["self","tag","block"]) fun _ _ _ _ _ _ us hl=>match us,hl with|[_,_,_],_=>rfl
 have F48:=Aw (st:=Bl) l48 c48 k48
 have b48:=F48.binds (ps:=["self","folder"]) fun _ _ _ _ _ _ us hl=>match us,hl with|[_,_],_=>rfl
 have F49:=Aw (st:=BD) l49 c49 k49
 have b49:=F49.binds (ps:=["self","folder"]) fun _ _ _ _ _ _ us hl=>match us,hl with|[_,_],_=>rfl
 have F50:=Aw (st:=CU) l50 c50 k50
 have b50:=F50.binds (ps:=["self","tag"]) fun _ _ _ _ _ _ us hl=>match us,hl with|[_,_],_=>rfl
 have F51:=Aw (st:=Dg) l51 c51 k51
 have b51:=F51.binds (ps:=["self","tag"]) fun _ _ _ _ _ _ us hl=>match us,hl with|[_,_],_=>rfl
 have F52:=Aw (st:=CN) l52 c52 k52
 have b52:=F52.binds (ps:=["self"]) fun _ _ _ _ _ _ us hl=>match us,hl with|[_],_=>rfl
 have F53:=Aw (st:=Bv) l53 c53 k53
 have b53:=F53.binds (ps:=["self"]) fun _ _ _ _ _ _ us hl=>match us,hl with|[_],_=>rfl
 have F54:=Aw (st:=B2) l54 c54 k54
 have b54:=F54.binds (ps:=["self"]) fun _ _ _ _ _ _ us hl=>match us,hl with|[_],_=>rfl
 have F55:=Aw (st:=DV) l55 c55 k55
 have b55:=F55.binds (ps:=["self","number"]) fun _ _ _ _ _ _ us hl=>match us,hl with|[_,_],_=>rfl
 have F56:=Aw (st:=CO) l56 c56 k56
 have b56:=F56.binds (ps:=["self","number"]) fun _ _ _ _ _ _ us hl=>match us,hl with|[_,_],_=>rfl
 have F57:=Aw (st:=BO) l57 c57 k57
 have b57:=F57.binds (ps:=["self","number"]) fun _ _ _ _ _ _ us hl=>match us,hl with|[_,_],_=>rfl
 have F58:=Aw (st:=C8) l58 c58 k58
 have b58:=F58.binds (ps:=["self","number"]) fun _ _ _ _ _ _ us hl=>match us,hl with|[_,_],_=>rfl
 have F59:=Aw (st:=BX) l59 c59 k59
 have b59:=F59.binds (ps:=["_law_script","_law_k"]) fun _ _ _ _ _ _ us hl=>match us,hl with|[_,_],_=>rfl
 have F60:=Aw (st:=DL) l60 c60 k60
 have b60:=F60.binds (ps:=["_law_cell","_law_many"]) fun _ _ _ _ _ _ us hl=>match us,hl with|[_,_],_=>rfl
 have F61:=Aw (st:=Da) l61 c61 k61
 have b61:=F61.binds (ps:=["_law_row_here"]) fun _ _ _ _ _ _ us hl=>match us,hl with|[_],_=>rfl
 have F62:=Aw (st:=BR) l62 c62 k62
 have b62:=F62.binds (ps:=["_law_script","_law_start","_law_many"]) fun _ _ _ _ _ _ us hl=>match us,hl with|[_,_,_],_=>rfl
 have F63:=Aw (st:=Jh) l63 c63 k63
 refine⟨W.fnOf "law" "law" (Ap Jh) (Ao Jh) (Ai Jh) .none kV63 dc63 pm63 an63 cd63 ct63,fun s v=>.of_eq rfl,fun base _ _=>?_⟩
 have A8:Def l.prog w K mg base 1 "is_whole" ["thing"] (CF K):=⟨_,_,Ol T F0 ,W.mg_of X G a0,k0,b0⟩
 have Bh:Def l.prog w K mg base 1 "is_tuple_of" ["thing","many"] (CG K):=⟨_,_,K8 T F2 ,W.mg_of X G a2,k2,b2⟩
 have AN:Def l.prog w K mg base 1 "number_of" ["sign"] (Ca K):=⟨_,_,Nn T F3 ,W.mg_of X G a3,k3,b3⟩
 have JJ:Def l.prog w K mg base 1 "sign_of" ["number"] (Im K):=⟨_,_,Pe T F4 ,W.mg_of X G a4,k4,b4⟩
 have EG:Def l.prog w K mg base 1 "is_text" ["thing","least","most"] (GL K):=⟨_,_,Pq T F5 ,W.mg_of X G a5,k5,b5⟩
 have Dt:MS l.prog w K mg base 1 Ab "WordReader" ["self","words"] (C3 K Ab):=⟨_,_,Iv T F8 ,⟨FS,a8,i8,Fw⟩,W.mg_of X G FQ,b8⟩
 have AQ:A7 l.prog w K mg base 1 Ab "is_through" ["self"] (Bf K Ab):=⟨_,_,FB T F9 ,⟨a9,i9,k9⟩,b9⟩
 have BW:Def l.prog w K mg base 1 "tags_in" ["block"] (DU K):=⟨_,_,Pp T F22 ,W.mg_of X G a22,k22,b22⟩
 have HD:Def l.prog w K mg base 1 "groups_of" ["sums"] (GK K):=⟨_,_,Np T F25 ,W.mg_of X G a25,k25,b25⟩
 have BI:A7 l.prog w K mg base 1 Ad "many" ["self"] (Dw K Ad):=⟨_,_,LK T F30 ,⟨a30,i30,k30⟩,b30⟩
 have EB:Def l.prog w K mg base 1 "mark_of" ["words"] (GA K):=⟨_,_,Py T F35 ,W.mg_of X G a35,k35,b35⟩
 have Hn:MS l.prog w K mg base 1 Ae "Pool" ["self","boards"] (GM K Ae):=⟨_,_,Na T F43 ,⟨Ni,a43,i43,NJ⟩,W.mg_of X G Ny,b43⟩
 have C5:A7 l.prog w K mg base 1 Ae "free_number" ["self"] (CV K Ae Aa):=⟨_,_,HR T F46 ,⟨a46,i46,k46⟩,b46⟩
 have Di:A7 l.prog w K mg base 1 Ae "hold" ["self","tag"] (Et K Ae Aa):=⟨_,_,Nh T F51 ,⟨a51,i51,k51⟩,b51⟩
 have EX:A7 l.prog w K mg base 1 Ae "numbers" ["self"] (Ed K Ae Aa):=⟨_,_,J8 T F54 ,⟨a54,i54,k54⟩,b54⟩
 have C1:A7 l.prog w K mg base 1 Ae "tag" ["self","number"] (Fe K Ae Aa):=⟨_,_,Ou T F55 ,⟨a55,i55,k55⟩,b55⟩
 have GF:A7 l.prog w K mg base 1 Ae "count" ["self","number"] (Fx K Ae Aa):=⟨_,_,LO T F56 ,⟨a56,i56,k56⟩,b56⟩
 have EY:A7 l.prog w K mg base 1 Ae "entries" ["self","number"] (D6 K Ae Aa):=⟨_,_,Kq T F57 ,⟨a57,i57,k57⟩,b57⟩
 have G8:A7 l.prog w K mg base 1 Ae "deep" ["self","number"] (GO K Ae Aa):=⟨_,_,MJ T F58 ,⟨a58,i58,k58⟩,b58⟩
 have Bi:Def l.prog w K mg base 1 "_law_cell_at" ["_law_script","_law_k"] (C0 K):=⟨_,_,Kl T F59 ,W.mg_of X G a59,k59,b59⟩
 have DB:Def l.prog w K mg base 1 "_law_row" ["_law_cell","_law_many"] (Fm K):=⟨_,_,NX T F60 ,W.mg_of X G a60,k60,b60⟩
 have C9:Def l.prog w K mg base 1 "_law_text" ["_law_row_here"] (Eo K):=⟨_,_,MT T F61 ,W.mg_of X G a61,k61,b61⟩
 have AA:Def l.prog w K mg base 2 "is_between" ["thing","least","most"] (Bg K):=⟨_,_,L3 T F1 A8,W.mg_of X G a1,k1,b1⟩
 have Jr:Def l.prog w K mg base 2 "is_name" ["thing"] (HY K):=⟨_,_,Qd T F13 EG,W.mg_of X G a13,k13,b13⟩
 have EL:Def l.prog w K mg base 2 "numbers_told" ["block"] (D8 K):=⟨_,_,Kj T F20 AN,W.mg_of X G a20,k20,b20⟩
 have Eb:Def l.prog w K mg base 2 "is_piece_full" ["piece"] (DQ K):=⟨_,_,JA T F24 AN,W.mg_of X G a24,k24,b24⟩
 have B0:A7 l.prog w K mg base 2 Ad "twins" ["self","number"] (CY K Ad):=⟨_,_,Ke T F33 BI,⟨a33,i33,k33⟩,b33⟩
 have Lm:Def l.prog w K mg base 2 "sealed" ["words"] (JO K):=⟨_,_,Q2 T F36 EB,W.mg_of X G a36,k36,b36⟩
 have Dn:A7 l.prog w K mg base 2 Ae "entries_of" ["self","folder"] (C6 K Ae Aa):=⟨_,_,HX T F48 EY,⟨a48,i48,k48⟩,b48⟩
 have Ec:A7 l.prog w K mg base 2 Ae "steps_of" ["self","folder"] (DM K Ae Aa):=⟨_,_,JM T F49 G8,⟨a49,i49,k49⟩,b49⟩
 have Gs:A7 l.prog w K mg base 2 Ae "sweep" ["self"] (Ft K Ae Aa):=⟨_,_,LU T F52 EX GF,⟨a52,i52,k52⟩,b52⟩
 have EM:Def l.prog w K mg base 2 "_law_content" ["_law_script","_law_start","_law_many"] (Ej K):=⟨_,_,Kr T F62 C9 Bi DB,W.mg_of X G a62,k62,b62⟩
 have Au:A7 l.prog w K mg base 3 Ab "word_to" ["self","most"] (AZ K Ab):=⟨_,_,GY T F10 AQ AA,⟨a10,i10,k10⟩,b10⟩
 have FV:Def l.prog w K mg base 3 "is_tag" ["thing"] (HF K):=⟨_,_,QX T F14 AA Bh,W.mg_of X G a14,k14,b14⟩
 have Dr:Def l.prog w K mg base 3 "sum_of" ["block"] (Ga K):=⟨_,_,RE T F19 EL,W.mg_of X G a19,k19,b19⟩
 have Hu:Def l.prog w K mg base 3 "pieces_of" ["content"] (Gp K):=⟨_,_,MK T F23 Eb,W.mg_of X G a23,k23,b23⟩
 have FG:MS l.prog w K mg base 3 Ad "Boards" ["self","many"] (E6 K Ad):=⟨_,_,Lw T F29 AA,⟨JK,a29,i29,Ju⟩,W.mg_of X G Jv,b29⟩
 have BZ:A7 l.prog w K mg base 3 Ad "shelf" ["self","board"] (CZ K Ad):=⟨_,_,Kc T F34 AA BI,⟨a34,i34,k34⟩,b34⟩
 have Ij:Def l.prog w K mg base 3 "unsealed" ["row"] (Hk K):=⟨_,_,OS T F37 EB AA,W.mg_of X G a37,k37,b37⟩
 have B8:Def l.prog w K mg base 4 "read_text" ["reader"] (Do K Ab):=⟨_,_,Nm T F12 Au JJ,W.mg_of X G a12,k12,b12⟩
 have EI:Def l.prog w K mg base 4 "are_row_tags" ["thing","level"] (Eh K):=⟨_,_,J9 T F16 FV,W.mg_of X G a16,k16,b16⟩
 have Ii:Def l.prog w K mg base 4 "is_entry" ["thing"] (HE K):=⟨_,_,NZ T F18 AA FV Bh Jr,W.mg_of X G a18,k18,b18⟩
 have EU:A7 l.prog w K mg base 4 Ad "write" ["self","board","number","row"] (D9 K Ad):=⟨_,_,Ki T F31 BZ,⟨a31,i31,k31⟩,b31⟩
 have FL:A7 l.prog w K mg base 4 Ad "cell" ["self","board","number"] (EV K Ad):=⟨_,_,KQ T F32 BZ,⟨a32,i32,k32⟩,b32⟩
 have FT:Def l.prog w K mg base 5 "are_entries" ["thing"] (E7 K):=⟨_,_,Lk T F17 Ii,W.mg_of X G a17,k17,b17⟩
 have HZ:Def l.prog w K mg base 6 "is_block" ["thing"] (Hm K):=⟨_,_,OY T F15 FT A8 EG AA EI,W.mg_of X G a15,k15,b15⟩
 have CI:Def l.prog w K mg base 9 "words_of" ["thing"] (Fq K):=⟨_,_,Oy T F6 A8 AN (W.mg_of X G a6) k6 b6,W.mg_of X G a6,k6,b6⟩
 have JD:Def l.prog w K mg base 10 "size_of" ["block"] (Iu K):=⟨_,_,Ph T F21 CI,W.mg_of X G a21,k21,b21⟩
 have S1:Def l.prog w K mg base 10 "lay" ["boards","number","birth","block"] (Pi K Ad):=⟨_,_,VX T F38 Lm B0 CI EU,W.mg_of X G a38,k38,b38⟩
 have DH:MS l.prog w K mg base 11 Aa "TakenCell" ["self","own_tag","block"] (Dy K Aa):=⟨_,_,IJ T F42 JD BW,⟨GB,a42,i42,GT⟩,W.mg_of X G GV,b42⟩
 have DR:A7 l.prog w K mg base 11 Ae "lay_draft" ["self"] (Dm K Ae Aa Ad):=⟨_,_,Ji T F53 S1 C1,⟨a53,i53,k53⟩,b53⟩
 have Ds:Def l.prog w K mg base 12 "read_thing" ["reader","deep"] (FH K Ab):=⟨_,_,LS T F11 Au B8 (W.mg_of X G a11) k11 b11,W.mg_of X G a11,k11,b11⟩
 have Iq:Def l.prog w K mg base 13 "thing_of" ["words"] (Hl K):=⟨_,_,OI T F7 Dt Ds AQ,W.mg_of X G a7,k7,b7⟩
 have Hd:A7 l.prog w K mg base 13 Ae "take" ["self","tag","block"] (GR K Ae Aa):=⟨_,_,NK T F47 DH Dn Ec Di,⟨a47,i47,k47⟩,b47⟩
 have Ig:Def l.prog w K mg base 14 "thing_on" ["boards","board","number"] (Hg K Ad):=⟨_,_,Of T F41 FL Ij Iq,W.mg_of X G a41,k41,b41⟩
 have IE:Def l.prog w K mg base 15 "block_on" ["boards","board","tag"] (Fk K Ad):=⟨_,_,NU T F40 Ig Bh HZ Dr,W.mg_of X G a40,k40,b40⟩
 have Jq:Def l.prog w K mg base 16 "fetched" ["boards","tag"] (Ih K Ad):=⟨_,_,PB T F39 B0 IE,W.mg_of X G a39,k39,b39⟩
 have Bb:A7 l.prog w K mg base 17 Ae "block" ["self","tag"] (BJ K Ae Aa Ad):=⟨_,_,L0 T F50 Jq,⟨a50,i50,k50⟩,b50⟩
 have GG:A7 l.prog w K mg base 18 Ae "alike" ["self","block"] (Fy K Ae Aa):=⟨_,_,L1 T F45 Dr Bb C1,⟨a45,i45,k45⟩,b45⟩
 have C7:A7 l.prog w K mg base 19 Ae "put" ["self","block","birth"] (D0 K Ae Aa):=⟨_,_,OO T F44 GG Hd C5 Dr,⟨a44,i44,k44⟩,b44⟩
 have GE:Def l.prog w K mg base 20 "put_rows" ["pool","tags","level","birth"] (HA K Ae Aa):=⟨_,_,Oh T F27 HD C7,W.mg_of X G a27,k27,b27⟩
 have FR:Def l.prog w K mg base 21 "put_content" ["pool","content","birth"] (EK K Ae Aa):=⟨_,_,KR T F26 GE C7 Hu,W.mg_of X G a26,k26,b26⟩
 have CJ:Def l.prog w K mg base 28 "content_at" ["pool","tag"] (Fv K Ae Aa Ad):=⟨_,_,LM T F28 Bb BW (W.mg_of X G a28) k28 b28,W.mg_of X G a28,k28,b28⟩
 exact We T F63 EM Bi FG Hn Gs DR C9 FR Di DB CJ
theorem walk {l:W.OpenLaw} {q:Program} {loose:List Str} {XP:(Str→Option Value)→Heap→Prop} {YP:World→Heap→Prop} {d:DefRec} {K:Params→W.Frag} (hn:l.most=some 63) (hdf:d.params.defaults=[])
  (hY:∀(w:World) (h:Heap),YP w h→(K w.params).In h)
  (F:∀(w:World) (mg:Str→Option Value) (fa:Addr) (h:Heap),(K w.params).In h→h.Ns mainGlobals mg→mg d.name=some (.ref fa)→
   ∃fd:FuncData,(∀(s:Shared) (u:Value),BindsTo s fd ⟨[u],[]⟩ [("_law_script",u)])∧∀base:Heap,(K w.params).In base→base.Ns mainGlobals mg→FnOk l.prog w (K w.params) mg base B9 29 fa fd ["_law_script"] (Nz (K w.params))) :
  W.WalkO q loose XP YP l.row.toRowW d [] (fun f vs=>PySem.call f vs):=
 L2.Vf (n:=63) (k:=29) (x:="_law_script") (CX:=fun _=>B9) (sp:=fun w=>Nz (K w.params)) hn (by decide) hdf ⟨rfl,by decide,by decide⟩ hY F (fun _ _ a ns hl _ hS=>⟨a,ns,rfl,hS,hl,fun _=>rfl⟩) fun _ _ _ _ _ z=>z
end K30
def PySem.W.Fast.tw15641715125113993005:Type:=PySem.Expr
theorem PySem.W.Fast.te15641715125113993005:PySem.Expr = PySem.W.Fast.tw15641715125113993005:=rfl
def PySem.W.Fast.tw90343872475197607:Type:=PySem.Params
theorem PySem.W.Fast.te90343872475197607:PySem.Params = PySem.W.Fast.tw90343872475197607:=rfl
open PySem PySem.W PyProof.Rows
set_option maxRecDepth 100000 in
set_option maxHeartbeats 0 in
theorem PySem.Challenge.cw_stemshelf_k30_contents_there_and_back_holds : PySem.Challenge.rw_stemshelf_k30_contents_there_and_back.Holds := by
 w_on;o_law;k_head;(case hw=>w_witness2)
 k_fill
 refine K30.walk (l:=PySem.Challenge.rw_stemshelf_k30_contents_there_and_back) rfl rfl (fun w h Y=>W.kIn_of Y) ?F
 case F=>
  intro w mg fa h KX G hmg
  refine' K30.all_mk KX G hmg ?a0 ?l0 ?c0 ?k0 ?a1 ?l1 ?c1 ?k1 ?a2 ?l2 ?c2 ?k2 ?a3 ?l3 ?c3 ?k3 ?a4 ?l4 ?c4 ?k4 ?a5 ?l5 ?c5 ?k5 ?a6 ?l6 ?c6 ?k6 ?a7 ?l7 ?c7 ?k7 ?a8 ?i8 ?l8 ?c8 ?k8 ?a9 ?i9 ?l9 ?c9 ?k9 ?a10 ?i10 ?l10 ?c10 ?k10 ?a11 ?l11 ?c11 ?k11 ?a12 ?l12 ?c12 ?k12 ?a13 ?l13 ?c13 ?k13 ?a14 ?l14 ?c14 ?k14 ?a15 ?l15 ?c15 ?k15 ?a16 ?l16 ?c16 ?k16 ?a17 ?l17 ?c17 ?k17 ?a18 ?l18 ?c18 ?k18 ?a19 ?l19 ?c19 ?k19 ?a20 ?l20 ?c20 ?k20 ?a21 ?l21 ?c21 ?k21 ?a22 ?l22 ?c22 ?k22 ?a23 ?l23 ?c23 ?k23 ?a24 ?l24 ?c24 ?k24 ?a25 ?l25 ?c25 ?k25 ?a26 ?l26 ?c26 ?k26 ?a27 ?l27 ?c27 ?k27 ?a28 ?l28 ?c28 ?k28 ?a29 ?i29 ?l29 ?c29 ?k29 ?a30 ?i30 ?l30 ?c30 ?k30 ?a31 ?i31 ?l31 ?c31 ?k31 ?a32 ?i32 ?l32 ?c32 ?k32 ?a33 ?i33 ?l33 ?c33 ?k33 ?a34 ?i34 ?l34 ?c34 ?k34 ?a35 ?l35 ?c35 ?k35 ?a36 ?l36 ?c36 ?k36 ?a37 ?l37 ?c37 ?k37 ?a38 ?l38 ?c38 ?k38 ?a39 ?l39 ?c39 ?k39 ?a40 ?l40 ?c40 ?k40 ?a41 ?l41 ?c41 ?k41 ?a42 ?i42 ?l42 ?c42 ?k42 ?a43 ?i43 ?l43 ?c43 ?k43 ?a44 ?i44 ?l44 ?c44 ?k44 ?a45 ?i45 ?l45 ?c45 ?k45 ?a46 ?i46 ?l46 ?c46 ?k46 ?a47 ?i47 ?l47 ?c47 ?k47 ?a48 ?i48 ?l48 ?c48 ?k48 ?a49 ?i49 ?l49 ?c49 ?k49 ?a50 ?i50 ?l50 ?c50 ?k50 ?a51 ?i51 ?l51 ?c51 ?k51 ?a52 ?i52 ?l52 ?c52 ?k52 ?a53 ?i53 ?l53 ?c53 ?k53 ?a54 ?i54 ?l54 ?c54 ?k54 ?a55 ?i55 ?l55 ?c55 ?k55 ?a56 ?i56 ?l56 ?c56 ?k56 ?a57 ?i57 ?l57 ?c57 ?k57 ?a58 ?i58 ?l58 ?c58 ?k58 ?a59 ?l59 ?c59 ?k59 ?a60 ?l60 ?c60 ?k60 ?a61 ?l61 ?c61 ?k61 ?a62 ?l62 ?c62 ?k62 ?a63 ?l63 ?c63 ?k63 ?FQ ?FN ?FD ?FO ?FP ?FS ?Fw ?n_WordReader_words ?n_WordReader_place ?Jv ?JE ?JC ?JR ?Jo ?JK ?Ju ?n_Boards_shelves ?n_Boards_writes ?n_Boards_writes_left ?GV ?GN ?Gq ?Gr ?GI ?GB ?GT ?n_TakenCell_own_tag ?n_TakenCell_own_size ?n_TakenCell_named ?n_TakenCell_times_named ?n_TakenCell_entries_beneath ?n_TakenCell_steps_beneath ?Ny ?ME ?Nq ?MG ?MW ?Ni ?NJ ?n_Pool_boards ?n_Pool_taken ?n_Pool_by_sums ?n_Pool_draft ?n_Pool_first_maybe_free ?x_Lost ?x_NoThing ?T7 ?Sm ?Pf ?Hx ?SN ?GU ?RX ?PY ?Th ?MZ ?TN ?Ls ?S4 ?SH ?Nb ?ND ?Fz ?Gh ?GP ?He ?FI ?HC ?Gj ?MP ?S3 ?KZ ?GH ?E2 ?GQ ?Dp ?Hh ?Gv ?G1 ?C2 ?GS ?G3 ?E5 ?FE ?EJ ?FM ?Gu
  (case FQ|Jv|GV|Ny|x_Lost|x_NoThing|a0|l0|c0|k0|a1|l1|c1|k1|a2|l2|c2|k2|a3|l3|c3|k3|a4|l4|c4|k4|a5|l5|c5|k5|a6|l6|c6|k6|a7|l7|c7|k7|a8|i8|l8|c8|k8|a9|i9|l9|c9|k9|a10|i10|l10|c10|k10|a11|l11|c11|k11|a12|l12|c12|k12|a13|l13|c13|k13|a14|l14|c14|k14|a15|l15|c15|k15|a16|l16|c16|k16|a17|l17|c17|k17|a18|l18|c18|k18|a19|l19|c19|k19|a20|l20|c20|k20|a21|l21|c21|k21|a22|l22|c22|k22|a23|l23|c23|k23|a24|l24|c24|k24|a25|l25|c25|k25|a26|l26|c26|k26|a27|l27|c27|k27|a28|l28|c28|k28|a29|i29|l29|c29|k29|a30|i30|l30|c30|k30|a31|i31|l31|c31|k31|a32|i32|l32|c32|k32|a33|i33|l33|c33|k33|a34|i34|l34|c34|k34|a35|l35|c35|k35|a36|l36|c36|k36|a37|l37|c37|k37|a38|l38|c38|k38|a39|l39|c39|k39|a40|l40|c40|k40|a41|l41|c41|k41|a42|i42|l42|c42|k42|a43|i43|l43|c43|k43|a44|i44|l44|c44|k44|a45|i45|l45|c45|k45|a46|i46|l46|c46|k46|a47|i47|l47|c47|k47|a48|i48|l48|c48|k48|a49|i49|l49|c49|k49|a50|i50|l50|c50|k50|a51|i51|l51|c51|k51|a52|i52|l52|c52|k52|a53|i53|l53|c53|k53|a54|i54|l54|c54|k54|a55|i55|l55|c55|k55|a56|i56|l56|c56|k56|a57|i57|l57|c57|k57|a58|i58|l58|c58|k58|a59|l59|c59|k59|a60|l60|c60|k60|a61|l61|c61|k61|a62|l62|c62|k62|a63|l63|c63|k63|FN|FD|FO|FP|FS|Fw|n_WordReader_words|n_WordReader_place|JE|JC|JR|Jo|JK|Ju|n_Boards_shelves|n_Boards_writes|n_Boards_writes_left|GN|Gq|Gr|GI|GB|GT|n_TakenCell_own_tag|n_TakenCell_own_size|n_TakenCell_named|n_TakenCell_times_named|n_TakenCell_entries_beneath|n_TakenCell_steps_beneath|ME|Nq|MG|MW|Ni|NJ|n_Pool_boards|n_Pool_taken|n_Pool_by_sums|n_Pool_draft|n_Pool_first_maybe_free|T7|Sm|Pf|Hx|SN|GU|RX|PY|Th|MZ|TN|Ls|S4|SH|Nb|ND|Fz|Gh|GP|He|FI|HC|Gj|MP|S3|KZ|GH|E2|GQ|Dp|Hh|Gv|G1|C2|GS|G3|E5|FE|EJ|FM|Gu=>k_is)
